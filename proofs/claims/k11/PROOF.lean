import PyProof.Rows.All
import Wide.All
import OpenK.KLine
import OpenK.KWalk
import KE.KNestM
import KE.RegKIsAll
import KE.KxBytes
import KE.KItem
import KE.KDictOf
import KE.KDictSum
import KE.LcSums
import KE.KxText
import Wide.FinOn
import Lean
import PyProof.EqAt
import PyProof.EqKinds
import PyProof.TupleCall
import PySem.Spec
import PyProof.NeKinds
import KE.KDictList
import KE.KPairComp
import PyProof.DictWalks
import PyProof.ExcClass3
import PyProof.ExcInit
import PyProof.ExcBaseAll.ValueError
import OpenK.KMore
import PyProof.RaisesMany
import PyProof.FString5
import PyProof.StrLawsIn
import PyProof.Rows.SetFrom
import PyProof.ExcAttrAll.ValueError
import KE.KIsAll
import PyProof.RulesAs
import PySem.Challenge.RW_holdwright_k11_written
set_option Elab.async false
set_option linter.all false
set_option maxRecDepth 100000
namespace Hq
open PySem PySem.W
noncomputable def d1 (l:List Obj):List Obj:=@List.rec Obj (fun _=>List Obj) [] (fun _ t _=>t) l
noncomputable def d4 (l:List Obj):List Obj:=d1 (d1 (d1 (d1 l)))
noncomputable def d32 (l:List Obj):List Obj:=d4 (d4 (d4 (d4 (d4 (d4 (d4 (d4 l)))))))
noncomputable def gB (l:List Obj) (k:Nat):List Obj:=@Nat.rec (fun _=>List Obj) l (fun _ r=>d32 r) k
noncomputable def gA (i:Nat):List Obj→Option Obj:=@Nat.rec (fun _=>List Obj→Option Obj) (fun l=>@List.rec Obj (fun _=>Option Obj) none (fun x _ _=>some x) l) (fun _ ih l=>ih (d1 l)) i
def nF (o:Option Obj):Option Obj:=match o with|some ⟨_,_,.freed,_⟩=>none|o=>o
noncomputable def gQ (h:Heap) (a:Addr):Option Obj:=nF (gA (Nat.mod a 32) (gB h.objs.toList (Nat.div a 32)))
theorem d1_eq (l:List Obj):d1 l=l.drop 1:=by cases l<;>rfl
theorem d32_eq (l:List Obj):d32 l=l.drop 32:=by
 unfold d32 d4
 simp only [d1_eq,List.drop_drop]
theorem gB_eq (l:List Obj):∀ k,gB l k=l.drop (32*k)
 |0=>rfl
 |k+1=>by
  show d32 (gB l k)=_
  rw [gB_eq l k,d32_eq,List.drop_drop,Nat.mul_succ]
theorem gA_eq:∀ (i:Nat) (l:List Obj),gA i l=l[i]?
 |0,l=>by cases l<;>rfl
 |i+1,l=>by
  show gA i (d1 l)=_
  rw [gA_eq i,d1_eq,List.getElem?_drop,Nat.add_comm]
theorem gQ_eq:gQ=Heap.get?:=by
 funext h a
 show nF (gA (a%32) (gB h.objs.toList (a/32)))=nF h.objs[a]?
 rw [gA_eq,gB_eq,List.getElem?_drop,Nat.div_add_mod,Array.getElem?_toList]
noncomputable def hk (K:Params→Frag) (as:List Addr) (e:∀ P,as=(K P).map (·.1)):Hook:=⟨List (Option Obj),fun s=>as.map (gQ s.heap),fun w=>(K w.params).map fun p=>some p.2,InK K,fun w s x=>InK.of e w s (by rw [gQ_eq] at x; exact x),InK.keeps⟩
end Hq
local macro_rules|`(tactic|o_head (kHook $k $a $e))=>`(tactic|o_head (Hq.hk $k $a $e))
namespace PySem.W.Fast
noncomputable def te13052408679150730464:=0
noncomputable def te4110290226886642065:=0
noncomputable def te5369427470323729400:=0
noncomputable def te12305933238918452080:=0
noncomputable def te16555476440528808052:=0
noncomputable def te4868988410673395695:=0
noncomputable def te5452508617037859911:=0
noncomputable def te11152381544001756331:=0
end PySem.W.Fast
set_option maxHeartbeats 0 in
open_top Hd for PySem.Challenge.rw_holdwright_k11_written
namespace L2
open PySem PySem.Spec PyProof.Rows
noncomputable abbrev Key:=Sum Int Str
noncomputable def AU:Key->Value->Bool
 | .inl k,v=>Value.isInt k v
 | .inr x,v=>Value.isStrOf x v
noncomputable def Zs (w:World):Key->Int
 | .inl k=>hashInt k
 | .inr x=>hashStr w x
theorem eE:∀ {k:Key} {v:Value},AU k v=true->(∃ i t,k=Sum.inl i/\v=Value.int i t)∨(∃ x t,k=Sum.inr x/\v=Value.str x t)
 | .inl i,v,h=>by
  obtain⟨t,e⟩:=Value.isInt_shape (k:=i) (v:=v) h
  exact .inl ⟨i,t,rfl,e⟩
 | .inr x,v,h=>by
  obtain⟨t,e⟩:=Value.isStrOf_shape (x:=x) (v:=v) h
  exact .inr ⟨x,t,rfl,e⟩
theorem Ko (i:Int)(t:Tok):AU (.inl i) (.int i t)=true:=by simp[AU,Value.isInt]
theorem Kn (x:Str)(t:Tok):AU (.inr x) (.str x t)=true:=by simp[AU,Value.isStrOf]
theorem Tp (a b:Int):decide ((Sum.inl a:Key)=Sum.inl b)=(a == b):=by
 by_cases e:a=b
 ·subst e;simp
 ·have h:¬ (Sum.inl a:Key)=Sum.inl b:=fun q=>e (Sum.inl.inj q)
  rw[decide_eq_false h]
  exact(beq_eq_false_iff_ne.mpr e).symm
theorem Tj (a b:Str):decide ((Sum.inr a:Key)=Sum.inr b)=decide (a=b):=by
 by_cases e:a=b
 ·subst e;simp
 ·have h:¬ (Sum.inr a:Key)=Sum.inr b:=fun q=>e (Sum.inr.inj q)
  rw[decide_eq_false h,decide_eq_false e]
theorem To (a:Int)(b:Str):decide ((Sum.inl a:Key)=Sum.inr b)=false:=decide_eq_false (fun q=>nomatch q)
theorem Tn (a:Str)(b:Int):decide ((Sum.inr a:Key)=Sum.inl b)=false:=decide_eq_false (fun q=>nomatch q)
noncomputable def fJ (prog:Program)(w:World):PySem.KeyKind prog w Key where
 is:=AU
 hash:=Zs w
 inj:=fun v a b ha hb=>by
  rcases eE ha with ⟨i,t,rfl,rfl⟩ | ⟨x,t,rfl,rfl⟩
  ·rcases eE hb with ⟨j,u,rfl,e⟩ | ⟨y,u,rfl,e⟩
   ·injection e with e1 _;rw[e1]
   ·exact nomatch e
  ·rcases eE hb with ⟨j,u,rfl,e⟩ | ⟨y,u,rfl,e⟩
   ·exact nomatch e
   ·injection e with e1 _;rw[e1]
 byValue:=fun k v h=>by
  rcases eE h with ⟨i,t,rfl,rfl⟩ | ⟨x,t,rfl,rfl⟩ <;> rfl
 pyHash:=fun hv h=>by
  rcases eE hv with ⟨i,t,rfl,rfl⟩ | ⟨x,t,rfl,rfl⟩
  ·exact wpAny_pyHash_int h
  ·exact wpAny_pyHash_str h
 eqBool:=fun hu hv h=>by
  rcases eE hu with ⟨i,t,rfl,rfl⟩ | ⟨x,t,rfl,rfl⟩
  ·rcases eE hv with ⟨j,u,rfl,rfl⟩ | ⟨y,u,rfl,rfl⟩
   ·rw[Tp] at h;exact wpAny_eqBool_int h
   ·rw[To] at h;exact SeqAt.EqAt.int_str i t y u _ _ _ _ h
  ·rcases eE hv with ⟨j,u,rfl,rfl⟩ | ⟨y,u,rfl,rfl⟩
   ·rw[Tn] at h;exact SeqAt.EqAt.str_int x t j u _ _ _ _ h
   ·rw[Tj] at h;exact wpAny_eqBool_str h
 «strs»:=fun k x t v h=>by
  rcases eE h with ⟨i,u,rfl,e⟩ | ⟨y,u,rfl,e⟩
  ·exact nomatch e
  ·injection e with e1 _
   subst e1
   cases v <;> rfl
theorem Ff (prog:Program)(w:World)(i:Int)(t:Tok):(fJ prog w).is (.inl i) (.int i t)=true:=Ko i t
theorem Fe (prog:Program)(w:World)(x:Str)(t:Tok):(fJ prog w).is (.inr x) (.str x t)=true:=Kn x t
end L2
namespace L2
open PySem PySem.Spec PyProof.Rows
inductive V where
 | fE | bl (b:Bool) | int (i:Int) | str (x:Str) | Lm (b:Array UInt8) | T9 (b:UInt64) | ref (a:Addr) | ty (n:String)
 deriving DecidableEq
noncomputable def RelV:V->Value->Prop
 | .fE,u=>u=Value.none
 | .bl b,u=>u=Value.bool b
 | .int i,u=>∃ t,u=Value.int i t
 | .str x,u=>∃ t,u=Value.str x t
 | .Lm b,u=>∃ t,u=Value.bytes b t
 | .T9 b,u=>∃ t,u=Value.float b t
 | .ref a,u=>u=Value.ref a
 | .ty n,u=>u=Value.type n
noncomputable abbrev Vals:List V->List Value->Prop:=Paired RelV
theorem Vals.length {xs:List V}{us:List Value}(r:Vals xs us):xs.length=us.length:=Paired.length r
theorem Vals.get:∀ {xs:List V} {us:List Value} {i:Nat} {x:V},Vals xs us->xs[i]?=some x->∃ u,us[i]?=some u/\RelV x u
 | _,_,_,_,.nil,e=>by simp at e
 | _,_,0,_,.cons r _,e=>by simp at e;subst e;exact⟨_,rfl,r⟩
 | _,_,i+1,x,.cons _ t,e=>by
  obtain⟨u,h1,h2⟩:=Vals.get (i:=i) (x:=x) t (by simpa using e)
  exact⟨u,by simpa using h1,h2⟩
theorem Vals.set {x:V}{u:Value}(r:RelV x u):∀ {xs:List V} {us:List Value} (i:Nat),Vals xs us->Vals (xs.set i x) (us.set i u)
 | _,_,_,.nil=>.nil
 | _,_,0,.cons _ t=>.cons r t
 | _,_,i+1,.cons q t=>.cons q (Vals.set r i t)
theorem Vals.append:∀ {xs ys:List V} {us ws:List Value},Vals xs us->Vals ys ws->Vals (xs++ys) (us++ws)
 | _,_,_,_,.nil,s=>s
 | _,_,_,_,.cons r t,s=>.cons r (Vals.append t s)
theorem Vals.take:∀ {xs:List V} {us:List Value} (n:Nat),Vals xs us->Vals (xs.take n) (us.take n)
 | _,_,0,_=>.nil
 | _,_,_+1,.nil=>.nil
 | _,_,n+1,.cons r t=>.cons r (Vals.take n t)
theorem Vals.drop:∀ {xs:List V} {us:List Value} (n:Nat),Vals xs us->Vals (xs.drop n) (us.drop n)
 | _,_,0,r=>r
 | _,_,_+1,.nil=>.nil
 | _,_,n+1,.cons _ t=>Vals.drop n t
noncomputable def qE:Option V->Option Value->Prop
 | some v,some u=>RelV v u
 | none,none=>True
 | _,_=>False
noncomputable def KV {κ:Type}:List (κ×V)->List (κ×Value)->Prop:=Paired fun(p:κ×V) (q:κ×Value)=>p.1=q.1/\RelV p.2 q.2
noncomputable def kV:Key->V
 | .inl i=>.int i
 | .inr x=>.str x
inductive HO where
 | lst (xs:List V)
 | tup (xs:List V)
 | dK (kvs:List (Key×V)) | dT (kvs:List (List Key×V))
 | set (S:Int->Bool) (n:Nat)
 | ins (C dx:Addr) (fs:List (Str×V))
 | own (x:Addr)
 | xd (fs:List (Str×V))
 | met (f x:Addr)
 | XT (lo hi:Int)
 | HB (o:Obj) (u:HO)
 | Qj (ps:Array Value)
 | ext (φ:Heap->Prop)
noncomputable abbrev Hp:=Addr->Option HO
noncomputable def upd (H:Hp)(a:Addr)(o:HO):Hp:=fun b=>if b=a then some o else H b
theorem kY {H:Hp}{a:Addr}{o:HO}:upd H a o a=some o:=by unfold upd;rw[if_pos rfl]
theorem bL {H:Hp}{a b:Addr}{o:HO}(h:b≠a):upd H a o b=H b:=by unfold upd;rw[if_neg h]
theorem V8 {H:Hp}{a b:Addr}{o u:HO}(h:H a=some o)(h':H b=some u)(d:o≠u):a≠b:=by
 intro e;subst e;rw[h] at h';exact d (Option.some.inj h')
theorem cJ {H:Hp}{a b:Addr}{o:HO}(h:H a=some o)(h':H b=none):a≠b:=by
 intro e;subst e;rw[h] at h';cases h'
section
variable (P:Program)(w:World)
noncomputable def eY (H:Hp)(h:Heap)(a:Addr):HO->Prop
 | .lst xs=>xs.length<=sizeLine/\∃ (its:List Value) (n:Nat),Vals xs its/\h.get? a=some { cls:=.type "list",data:=.seq its.toArray n }
 | .tup xs=>xs.length<=sizeLine/\∃ its:List Value,Vals xs its/\IsTup h a its.toArray
 | .dK kvs=>kvs.length<=sizeLine/\(a == sysModules)=false/\∃ vs,KV kvs vs/\h.DictOf (fJ P w) a vs
 | .dT kvs=>kvs.length<=sizeLine/\(a == sysModules)=false/\∃ xs:List (List Key×Addr×Value),
   Paired (fun(p:List Key×V) (q:List Key×Addr×Value)=>p.1=q.1/\H q.2.1=some (.tup (p.1.map kV))/\RelV p.2 q.2.2) kvs xs /\
   ∃ o es ep,h.get? a=some o/\o.ExactDict/\o.data=.dict es ep/\es.toList=xs.map (entryOfKey (tupleKind (fJ P w)))/\(xs.map (·.1)).Nodup
 | .set S n=>h.SetOf (intKind P w) a S n
 | .ins C dx fs=>H dx=some (.own a)/\fs.length<=1000/\dx≠a/\h.get? a=some (PySem.W.instObj C dx) /\
   ∃ mA,h.Ns1 dx mA/\(∀ f,qE (fs.lookup f) (mA f))/\PySem.Within mA (fs.map (·.1))
 | .own _=>∃ o,h.get? a=some o
 | .xd fs=>∃ mA,h.Ns1 a mA/\∀ f,qE (fs.lookup f) (mA f)
 | .XT lo hi=>∃ t u v,h.get? a=some { cls:=.type "range",data:=.fields #[.int lo t,.int hi u,.int 1 v] }
 | .HB o u=>h.get? a=some o/\eY H h a u
 | .Qj ps=>h.get? a=some { cls:=.none,data:=.fields ps }
 | .met f x=>h.get? a=some (PySem.W.methodObj (.ref f) (.ref x))
 | .ext φ=>φ h/\(∃ o,h.get? a=some o)/\∀ h1 h2:Heap,φ h1->(∀ o,h1.get? a=some o->h2.get? a=some o)->φ h2
noncomputable def vZ (H:Hp)(h:Heap):Prop:=∀ a o,H a=some o->eY P w H h a o
end
section
variable {P:Program}{w:World}{H H':Hp}{h h':Heap}{a:Addr}{o:HO}
theorem eY.lt (x:eY P w H h a o):a < h.objs.size:=by
 cases o with
 | lst xs=>obtain⟨_,_,_,_,e⟩:=x;exact Heap.lt_size e
 | tup xs=>obtain⟨_,_,_,p⟩:=x;exact p.lt
 | dK kvs=>obtain⟨_,_,_,_,o,_,_,e,_⟩:=x;exact Heap.lt_size e
 | dT kvs=>obtain⟨_,_,_,_,o,_,_,e,_⟩:=x;exact Heap.lt_size e
 | set S n=>obtain⟨o,_,_,_,e,_⟩:=x;exact Heap.lt_size e
 | ins C dx fs=>obtain⟨_,_,_,e,_⟩:=x;exact Heap.lt_size e
 | own y=>obtain⟨_,e⟩:=x;exact Heap.lt_size e
 | xd fs=>obtain⟨_,⟨_,_,_,e,_⟩,_⟩:=x;exact Heap.lt_size e
 | XT lo hi=>obtain⟨_,_,_,e⟩:=x;exact Heap.lt_size e
 | HB ob u=>obtain⟨e,_⟩:=x;exact Heap.lt_size e
 | Qj ps=>exact Heap.lt_size (show h.get? a=some _ from x)
 | met f y=>exact Heap.lt_size (show h.get? a=some _ from x)
 | ext φ=>obtain⟨_,⟨_,e⟩,_⟩:=x;exact Heap.lt_size e
theorem Paired.S8 {α β:Type}{F G:α->β->Prop}:∀ {l₁:List α} {l₂:List β},Paired F l₁ l₂->(∀ a b,F a b->G a b)->Paired G l₁ l₂
 | _,_,.nil,_=>.nil
 | _,_,.cons r t,f=>.cons (f _ _ r) (Paired.S8 t f)
theorem eY.stay (x:eY P w H h a o)(k:∀ b u,(b=a∨H b=some (.own a))->h.get? b=some u->h'.get? b=some u)
  (ho:∀ b,H b=some (.own a)->H' b=some (.own a)) (ht:∀ b xs,H b=some (.tup xs)->H' b=some (.tup xs)):eY P w H' h' a o:=by
 induction o with
 | lst xs=>obtain⟨z,its,n,r,e⟩:=x;exact⟨z,its,n,r,k _ _ (.inl rfl) e⟩
 | tup xs=>obtain⟨z,its,r,ob,e,c⟩:=x;exact⟨z,its,r,ob,k _ _ (.inl rfl) e,c⟩
 | dK kvs=>obtain⟨z,y,vs,r,ob,es,ep,e,c⟩:=x;exact⟨z,y,vs,r,ob,es,ep,k _ _ (.inl rfl) e,c⟩
 | dT kvs =>
  obtain⟨z,y,xs,r,ob,es,ep,e,c⟩:=x
  exact⟨z,y,xs,Paired.S8 r fun p q z=>⟨z.1,ht _ _ z.2.1,z.2.2⟩,ob,es,ep,k _ _ (.inl rfl) e,c⟩
 | set S n=>obtain⟨ob,es,ep,t,e,c⟩:=x;exact⟨ob,es,ep,t,k _ _ (.inl rfl) e,c⟩
 | ins C dx fs =>
  obtain⟨d,z,ne,e,mA,⟨od,es,ep,e2,c⟩,r⟩:=x
  exact⟨ho _ d,z,ne,k _ _ (.inl rfl) e,mA,⟨od,es,ep,k _ _ (.inr d) e2,c⟩,r⟩
 | own y=>obtain⟨ob,e⟩:=x;exact⟨ob,k _ _ (.inl rfl) e⟩
 | xd fs=>obtain⟨mA,⟨od,es,ep,e,c⟩,r⟩:=x;exact⟨mA,⟨od,es,ep,k _ _ (.inl rfl) e,c⟩,r⟩
 | XT lo hi=>obtain⟨t,u,v,e⟩:=x;exact⟨t,u,v,k _ _ (.inl rfl) e⟩
 | HB ob u ih=>obtain⟨e,q⟩:=x;exact⟨k _ _ (.inl rfl) e,ih q⟩
 | Qj ps =>
  have e:h.get? a=some { cls:=.none,data:=.fields ps }:=x
  show h'.get? a=some { cls:=.none,data:=.fields ps }
  exact k a _ (.inl rfl) e
 | met f y =>
  have e:h.get? a=some (PySem.W.methodObj (.ref f) (.ref y)):=x
  show h'.get? a=some (PySem.W.methodObj (.ref f) (.ref y))
  exact k a _ (.inl rfl) e
 | ext φ=>obtain⟨p,⟨o,e⟩,st⟩:=x;exact⟨st _ _ p fun o q=>k _ _ (.inl rfl) q,⟨o,k _ _ (.inl rfl) e⟩,st⟩
theorem vZ.lt (x:vZ P w H h)(e:H a=some o):a < h.objs.size:=(x a o e).lt
theorem vZ.fresh (x:vZ P w H h)(e:h.objs.size<=a):H a=none:=by
 cases q:H a with
 | none=>rfl
 | some u=>exact absurd (Nat.lt_of_lt_of_le (x.lt q) e) (Nat.lt_irrefl _)
theorem vZ.kept (x:vZ P w H h)(k:∀ b u,h.get? b=some u->h'.get? b=some u):vZ P w H h':=fun a o e =>
 (x a o e).stay (fun b u _ q=>k b u q) (fun _ q=>q) fun _ _ q=>q
theorem vZ.laid (x:vZ P w H h)(k:∀ b u,h.get? b=some u->h'.get? b=some u)(hp:h.objs.size<=a)(new:eY P w (upd H a o) h' a o):vZ P w (upd H a o) h':=fun b u e=>by
 have hn:=x.fresh hp
 by_cases hb:b=a
 ·subst hb;rw[kY] at e;cases e;exact new
 ·rw[bL hb] at e
  exact(x b u e).stay (fun c v _ q=>k c v q) (fun c q=>by rw[bL (cJ q hn)];exact q) fun c xs q=>by rw[bL (cJ q hn)];exact q
end
noncomputable def Rd (H:Hp)(a:Addr)(u:HO):Prop:=H a=some u∨∃ o,H a=some (.HB o u)
theorem Rd.ok {P:Program}{w:World}{H:Hp}{h:Heap}{a:Addr}{u:HO}(r:Rd H a u)(x:vZ P w H h):eY P w H h a u:=by
 rcases r with r | ⟨o,r⟩
 ·exact x a u r
 ·obtain⟨_,q⟩:=x a _ r
  exact q
noncomputable def XM:Option HO->Prop
 | some (.lst _)=>True
 | some (.dK _)=>True
 | some (.dT _)=>True
 | some (.set _ _)=>True
 | some (.ins _ _ _)=>True
 | some (.ext _)=>True
 | _=>False
section
variable {P:Program}{w:World}{H:Hp}{h h':Heap}{x e:Addr}{o':HO}
theorem vZ.write (ok:vZ P w H h)(mu:XM (H x))(he:e=x∨H e=some (.own x))(k:∀ b u,b≠e->h.get? b=some u->h'.get? b=some u)(US:∃ u,h'.get? e=some u)
  (new:eY P w (upd H x o') h' x o'):vZ P w (upd H x o') h':=fun b u q=>by
 have V4:∀ c y,H c=some (.own y)->c≠x:=fun c y r z=>by subst z;rw[r] at mu;exact mu
 have Ze:∀ c xs,H c=some (.tup xs)->c≠x:=fun c xs r z=>by subst z;rw[r] at mu;exact mu
 by_cases hb:b=x
 ·subst hb;rw[kY] at q;cases q;exact new
 ·rw[bL hb] at q
  by_cases TZ:b=e
  ·have q':H b=some (.own x):=by
    rcases he with z | z
    ·exact absurd (TZ.trans z) hb
    ·rw[TZ];exact z
   rw[q] at q';cases q'
   obtain⟨v,hv⟩:=US
   exact⟨v,by rw[TZ];exact hv⟩
  ·refine(ok b u q).stay (fun c v hc r=>k c v ?_ r) (fun c r=>by rw[bL (V4 c b r)];exact r) fun c xs r=>by rw[bL (Ze c xs r)];exact r
   rcases hc with rfl | hc
   ·exact TZ
   ·rintro rfl
    rcases he with z | z
    ·exact V4 c b hc z
    ·rw[hc] at z;cases z;exact hb rfl
end
structure Un (fs ex:List Addr)(H H':Hp)(h h':Heap):Prop where
 keep:∀ b o,h.get? b=some o->H b=none->b ∉ fs->b ∉ ex->h'.get? b=some o
 slot:∀ b o,h.get? b=some o->H b=none->b∈fs->b ∉ ex->∃ sl,h'.get? b=some { o with slots:=sl }
 free:∀ b o,h.get? b=some o->H b=none->b ∉ ex->H' b=none
 there:∀ b o,h.get? b=some o->b ∉ ex->∃ o',h'.get? b=some o'
 tups:∀ b xs,H b=some (.tup xs)->H' b=some (.tup xs)
 Cb:∀ b o u,H b=some (.HB o u)->H' b=some (.HB o u)
 Dc:∀ b ps,H b=some (.Qj ps)->∃ more,H' b=some (.Qj (ps++more))
section
variable {fs fs' ex ex':List Addr}{H H1 H2:Hp}{h h1 h2 h':Heap}{a x e:Addr}{o:HO}
theorem Un.any (u:Un fs ex H H1 h h1){b:Addr}{ob:Obj}(q:h.get? b=some ob)(n:H b=none)(hx:b ∉ ex):∃ sl,h1.get? b=some { ob with slots:=sl }:=by
 by_cases hb:b∈fs
 ·exact u.slot b ob q n hb hx
 ·exact⟨ob.slots,u.keep b ob q n hb hx⟩
theorem Un.kept (k:∀ b u,h.get? b=some u->h'.get? b=some u):Un fs ex H H h h' :=
 ⟨fun b ob q _ _ _=>k b ob q,fun b ob q _ _ _=>⟨ob.slots,k b ob q⟩,fun _ _ _ n _=>n,fun b ob q _=>⟨ob,k b ob q⟩,fun _ _ q=>q,fun _ _ _ q=>q,fun _ ps q=>⟨#[],by rw[q];simp⟩⟩
theorem Un.refl:Un fs ex H H h h:=Un.kept fun _ _ q=>q
theorem Un.laid (k:∀ b u,h.get? b=some u->h'.get? b=some u)(hp:h.objs.size<=a)(hn:H a=none):Un fs ex H (upd H a o) h h' where
 keep:=fun b u q _ _ _=>k b u q
 slot:=fun b u q _ _ _=>⟨u.slots,k b u q⟩
 free:=fun b u q n _=>by rw[bL (Nat.ne_of_lt (Nat.lt_of_lt_of_le (Heap.lt_size q) hp))];exact n
 there:=fun b u q _=>⟨u,k b u q⟩
 tups:=fun b xs q=>by rw[bL (cJ q hn)];exact q
 Cb:=fun b u xs q=>by rw[bL (cJ q hn)];exact q
 Dc:=fun b ps q=>⟨#[],by rw[bL (cJ q hn),q];simp⟩
theorem Un.write (mu:XM (H x))(he:e=x∨H e=some (.own x))(k:∀ b u,b≠e->h.get? b=some u->h'.get? b=some u)(US:∃ u,h'.get? e=some u):Un fs ex H (upd H x o) h h':=by
 have hx:∀ b,H b=none->b≠x:=fun b n z=>by subst z;rw[n] at mu;exact mu
 have hb:∀ b,H b=none->b≠e:=fun b n z=>by
  subst z
  rcases he with r | r
  ·exact hx b n r
  ·rw[n] at r;cases r
 have hm:∀ b u,H b=some u->¬ XM (some u)->b≠x:=fun b u q nm z=>by subst z;rw[q] at mu;exact nm mu
 refine⟨fun b u q n _ _=>k b u (hb b n) q,fun b u q n _ _=>⟨u.slots,k b u (hb b n) q⟩,fun b u q n _=>by rw[bL (hx b n)];exact n,fun b u q _=>?_,
  fun b xs q=>by rw[bL (hm b _ q fun z=>z)];exact q,fun b u xs q=>by rw[bL (hm b _ q fun z=>z)];exact q,fun b ps q=>⟨#[],by rw[bL (hm b _ q fun z=>z),q];simp⟩⟩
 by_cases TZ:b=e
 ·subst TZ;exact US
 ·exact⟨u,k b u TZ q⟩
end
noncomputable def XQ (h:Heap)(H:Hp):List Addr:=(List.range h.objs.size).filter fun a=>(H a).isSome
noncomputable def D3 (h:Heap)(H:Hp):Heap:=PySem.W.hideAll h (XQ h H)
theorem KO (h:Heap)(H:Hp):(D3 h H).objs.size=h.objs.size:=PySem.W.hideAll_size _ _
theorem Nl {h:Heap}{H:Hp}{b:Addr}{o:Obj}(e:h.get? b=some o)(n:H b=none):(D3 h H).get? b=some o :=
 PySem.W.hideAll_get _ e fun hm=>by
  have q:(H b).isSome=true:=(List.mem_filter.mp hm).2
  rw[n] at q;simp at q
theorem Pa {h:Heap}{H:Hp}{b:Addr}{o:Obj}(e:(D3 h H).get? b=some o):h.get? b=some o/\H b=none:=by
 have e':h.get? b=some o:=PySem.W.of_hideAll (XQ h H) e
 refine⟨e',?_⟩
 cases q:H b with
 | none=>rfl
 | some x =>
  have hm:b∈XQ h H:=List.mem_filter.mpr ⟨List.mem_range.mpr (Heap.lt_size e'),by simp[q]⟩
  have z:(D3 h H).get? b=none:=PySem.W.hideAll_none (XQ h H) hm
  rw[z] at e;cases e
end L2
namespace L2
open PySem PySem.Spec PyProof.Rows
structure Mod (K:PySem.W.Frag)(mg:Str->Option Value)(base:Heap):Prop where
 WR:K.In base
 glob:base.Ns mainGlobals mg
 blt:∃ mb,base.Ns builtinsNs mb/\∀ x:Str,x≠"__name__"->mb x=bootBuiltins x
 nolimit:base.NoLimit
structure Cx where
 prog:Program
 w:World
 K:PySem.W.Frag
 mg:Str->Option Value
 base:Heap
 A:Around
 N:List Str
 s₀:Shared
 H₀:Hp
 env:Env
 outer:List Env
 stack:List Env
 ex:List Addr
 fn:Str->Bool
 calm:Bool
 pn:List (Addr×Obj)
 xe:Value->Shared->Prop
noncomputable def frs (l:List Env):List Addr:=l.filterMap (·.frame)
noncomputable abbrev Cx.fs (X:Cx):List Addr:=frs X.outer
noncomputable def Yk (sc:Scope)(x:Str):Prop:=sc.names.lookup x=some .local∨sc.names.lookup x=some .cell∨sc.names.lookup x=some .free
noncomputable def Loc (sc:Scope)(x:Str):Prop:=sc.names.lookup x=some .local∨sc.names.lookup x=some .cell
noncomputable def Look (env:Env)(h:Heap)(m:Str->Option Value)(x:Str)(u:Value):Prop :=
 (env.kindOf x=some .local/\m x=some u)∨((env.kindOf x=some .cell∨env.kindOf x=some .free)/\∃ c,env.cells.lookup x=some c/\h.IsCell c (some u))
structure Cx.Ok (X:Cx):Prop where
 mod:Mod X.K X.mg X.base
 kind:X.env.scope.kind=.function
 glob:X.env.globals=mainGlobals
 blt:X.env.builtins=builtinsNs
 above:X.s₀.heap.objs.size<=X.env.locals
 inj:∀ x y c,X.env.cells.lookup x=some c->X.env.cells.lookup y=some c->x=y
 has:∀ x,(X.env.kindOf x=some .cell∨X.env.kindOf x=some .free)->∃ c,X.env.cells.lookup x=some c
 Xz:∀ x c,X.fn x=true->X.env.cells.lookup x=some c->X.s₀.heap.objs.size<=c
 hd:X.calm=true->X.A.handled=none
 frames:X.A.frames=some X.stack
 stk:X.stack=X.outer∨(X.stack=X.env::X.outer/\X.env.frame=some X.env.locals)
 Yj:∀ b∈X.ex,b≠X.env.locals/\∀ x c,X.env.cells.lookup x=some c->c≠b
 bs:∀ b o,X.base.get? b=some o->X.s₀.heap.get? b=some o/\X.H₀ b=none
 PY:X.base.objs.size<=X.s₀.heap.objs.size
 MT:∀ b o,X.base.get? b=some o->b ∉ X.ex
 Nz:∀ b∈X.ex,b ∉ X.fs
 zu:X.s₀.heap.FunFrames X.base X.outer
 T4:∀ b∈X.fs,X.H₀ b=none
structure Inv (X:Cx)(pins:List (Addr×Obj))(σ:List (Option V))(H:Hp)(s:Shared):Prop where
 ok:X.Ok
 os:s.os=X.s₀.os
 bare:AllBare s.gens
 base:Un X.fs X.ex X.H₀ H X.s₀.heap s.heap
 loc:∃ m,s.heap.Ns X.env.locals m/\∀ (i:Nat) (x:Str) (v:V),X.N[i]?=some x->σ[i]?=some (some v)->Yk X.env.scope x->∃ u,RelV v u/\Look X.env s.heap m x u
 cell:∀ x c,X.env.cells.lookup x=some c->∃ v,s.heap.IsCell c v
 free:H X.env.locals=none
 rG:∀ x c,X.env.cells.lookup x=some c->H c=none
 pin:∀ p∈X.pn++pins,s.heap.get? p.1=some p.2/\H p.1=none/\p.1≠X.env.locals/\p.1 ∉ X.fs/\∀ v,p.2.data≠.cell v
 hok:vZ X.prog X.w H s.heap
 len:σ.length=X.N.length
section
variable {X:Cx}{pins:List (Addr×Obj)}{σ:List (Option V)}{H H':Hp}{s:Shared}{h':Heap}
theorem Cx.Ok.Zf (ok:X.Ok){b:Addr}{o:Obj}(e:X.base.get? b=some o):b ∉ X.fs:=fun hb=>by
 have:=(ok.zu.mem hb).1
 rw[e] at this;cases this
theorem Inv.bs (I:Inv X pins σ H s):∀ b o,X.base.get? b=some o->s.heap.get? b=some o/\H b=none:=fun b o e =>
 ⟨I.base.keep b o (I.ok.bs b o e).1 (I.ok.bs b o e).2 (I.ok.Zf e) (I.ok.MT b o e),I.base.free b o (I.ok.bs b o e).1 (I.ok.bs b o e).2 (I.ok.MT b o e)⟩
theorem Inv.bk (I:Inv X pins σ H s):∀ b o,X.base.get? b=some o->s.heap.get? b=some o:=fun b o e=>(I.bs b o e).1
theorem Inv.mod (I:Inv X pins σ H s):Mod X.K X.mg X.base:=I.ok.mod
theorem Inv.xQ (I:Inv X pins σ H s):X.K.In s.heap:=I.ok.mod.WR.keeps I.bk
theorem Inv.lt (I:Inv X pins σ H s):X.env.locals < s.heap.objs.size:=let ⟨_,hn,_⟩:=I.loc;hn.lt
theorem Inv.sz (I:Inv X pins σ H s):X.s₀.heap.objs.size<=s.heap.objs.size:=Nat.le_trans I.ok.above (Nat.le_of_lt I.lt)
theorem Inv.V5 (I:Inv X pins σ H s){a:Addr}(h:s.heap.objs.size<=a):a ∉ X.fs:=fun hb=>by
 obtain⟨_,o,ho,_⟩:=I.ok.zu.mem hb
 exact absurd (Nat.lt_of_lt_of_le (Heap.lt_size ho) (Nat.le_trans I.sz h)) (Nat.lt_irrefl _)
theorem Inv.Us (I:Inv X pins σ H s):∀ x c,X.env.cells.lookup x=some c->c≠X.env.locals:=fun x c e z=>by
 obtain⟨v,o,ho,hd⟩:=I.cell x c e
 obtain⟨m,⟨o',es,ep,ho',hd',_⟩,_⟩:=I.loc
 rw[z,ho'] at ho;cases ho;rw[hd'] at hd;cases hd
theorem Inv.zu (I:Inv X pins σ H s):s.heap.FunFrames X.base X.outer:=by
 have all:∀ (l:List Env),(∀ b∈frs l,b∈X.fs)->X.s₀.heap.FunFrames X.base l->s.heap.FunFrames X.base l:=by
  intro l
  induction l with
  | nil=>intro _ _;trivial
  | cons env r ih =>
   intro hs hl
   obtain⟨hk,⟨L,o,hf,hn,ho,hd⟩,hr⟩:=hl
   have hL:L∈X.fs:=hs L (by unfold frs;rw[List.filterMap_cons,hf];exact List.mem_cons_self)
   obtain⟨sl,e⟩:=I.base.slot L o ho (I.ok.T4 L hL) hL fun z=>I.ok.Nz L z hL
   exact⟨hk,⟨L,_,hf,hn,e,hd⟩,ih (fun b hb=>hs b (by unfold frs;rw[List.filterMap_cons,hf];exact List.mem_cons_of_mem _ hb)) hr⟩
 exact all X.outer (fun _ hb=>hb) I.ok.zu
theorem Inv.stack (I:Inv X pins σ H s):s.heap.FunFrames X.base X.stack:=by
 rcases I.ok.stk with e | ⟨e,hf⟩
 ·rw[e];exact I.zu
 ·rw[e]
  obtain⟨m,hn,_⟩:=I.loc
  refine .cons (by rw[I.ok.kind];decide) hf hn ?_ I.zu
  exact Heap.get?_none_of_le (Nat.le_trans I.ok.PY I.ok.above)
theorem Inv.Dd (I:Inv X pins σ H s):∀ b∈frs X.stack,b∈X.env.locals::X.fs:=fun b hb=>by
 rcases I.ok.stk with e | ⟨e,hf⟩
 ·rw[e] at hb;exact List.mem_cons_of_mem _ hb
 ·rw[e] at hb
  unfold frs at hb
  rw[List.filterMap_cons,hf] at hb
  exact hb
theorem Inv.IA (I:Inv X pins σ H s):∀ b∈frs X.stack,H b=none:=fun b hb=>by
 rcases List.mem_cons.mp (I.Dd b hb) with e | hb
 ·rw[e];exact I.free
 ·obtain⟨_,o,ho,_⟩:=I.ok.zu.mem hb
  exact I.base.free b o ho (I.ok.T4 b hb) fun z=>I.ok.Nz b z hb
theorem Inv.step {g':Array GenState}{t':Nat}{d':Drawn}{ch:List Addr}(I:Inv X pins σ H s)
  (hch:∀ b∈ch,(b∈X.ex∨X.s₀.heap.objs.size<=b)/\b≠X.env.locals/\(∀ x c,X.env.cells.lookup x=some c->c≠b)/\∀ p∈X.pn++pins,p.1≠b)
  (keep:∀ b o,b≠X.env.locals->b ∉ X.fs->b ∉ ch->s.heap.get? b=some o->H b=none->h'.get? b=some o)
  (slot:∀ b o,b≠X.env.locals->b∈X.fs->b ∉ ch->s.heap.get? b=some o->H b=none->∃ sl,h'.get? b=some { o with slots:=sl }) (free:∀ b o,b ∉ ch->s.heap.get? b=some o->H b=none->H' b=none)
  (there:∀ b o,b ∉ ch->s.heap.get? b=some o->∃ o',h'.get? b=some o')
  (tups:∀ b xs,H b=some (.tup xs)->H' b=some (.tup xs)) (Cb:∀ b o u,H b=some (.HB o u)->H' b=some (.HB o u)) (Dc:∀ b ps,H b=some (.Qj ps)->∃ more,H' b=some (.Qj (ps++more)))
  (ns:∀ m,s.heap.Ns X.env.locals m->h'.Ns X.env.locals m) (hok:vZ X.prog X.w H' h') (hg:AllBare g') :
  Inv X pins σ H' { s with heap:=h',gens:=g',drawn:=d',toks:=t' }:=by
 have neL:∀ b o,X.s₀.heap.get? b=some o->b≠X.env.locals:=fun b o e=>Nat.ne_of_lt (Nat.lt_of_lt_of_le (Heap.lt_size e) I.ok.above)
 have XW:∀ b o,X.s₀.heap.get? b=some o->b ∉ X.ex->b ∉ ch:=fun b o e hx hb=>by
  rcases(hch b hb).1 with z | z
  ·exact hx z
  ·exact absurd (Nat.lt_of_lt_of_le (Heap.lt_size e) z) (Nat.lt_irrefl _)
 have cellK:∀ x c,X.env.cells.lookup x=some c->∀ v,s.heap.IsCell c v->h'.IsCell c v:=(by
  rintro x c e v ⟨o,ho,hd⟩
  have V9:c ∉ ch:=fun z=>(hch c z).2.2.1 x c e rfl
  by_cases hc:c∈X.fs
  ·obtain⟨sl,q⟩:=slot c o (I.Us x c e) hc V9 ho (I.rG x c e)
   exact⟨_,q,hd⟩
  ·exact⟨o,keep c o (I.Us x c e) hc V9 ho (I.rG x c e),hd⟩)
 refine⟨I.ok,I.os,hg,⟨fun b o e n hb hx=>?_,fun b o e n hb hx=>?_,fun b o e n hx=>?_,fun b o e hx=>?_,fun b xs e=>tups b xs (I.base.tups b xs e),fun b o xs e=>Cb b o xs (I.base.Cb b o xs e),fun b ps e=>?_⟩,?_,fun x c e=>?_,?_,fun x c e=>?_,fun p hp=>?_,hok,I.len⟩
 ·exact keep b o (neL b o e) hb (XW b o e hx) (I.base.keep b o e n hb hx) (I.base.free b o e n hx)
 ·obtain⟨sl,e1⟩:=I.base.slot b o e n hb hx
  obtain⟨sl',e2⟩:=slot b _ (neL b o e) hb (XW b o e hx) e1 (I.base.free b o e n hx)
  exact⟨sl',e2⟩
 ·obtain⟨o',e1⟩:=I.base.there b o e hx
  exact free b o' (XW b o e hx) e1 (I.base.free b o e n hx)
 ·obtain⟨o',e1⟩:=I.base.there b o e hx
  exact there b o' (XW b o e hx) e1
 ·obtain⟨m1,e1⟩:=I.base.Dc b ps e
  obtain⟨m2,e2⟩:=Dc b _ e1
  exact⟨m1++m2,by rw[e2,Array.append_assoc]⟩
 ·obtain⟨m,hn,hl⟩:=I.loc
  refine⟨m,ns m hn,fun i x v e1 e2 e3=>?_⟩
  obtain⟨u,r,l⟩:=hl i x v e1 e2 e3
  refine⟨u,r,?_⟩
  rcases l with l | ⟨k,c,e,z⟩
  ·exact .inl l
  ·exact .inr ⟨k,c,e,cellK x c e _ z⟩
 ·obtain⟨v,z⟩:=I.cell x c e
  exact⟨v,cellK x c e v z⟩
 ·obtain⟨m,⟨o,_,_,ho,_⟩,_⟩:=I.loc
  exact free _ o (fun z=>(hch _ z).2.1 rfl) ho I.free
 ·obtain⟨v,o,ho,hd⟩:=I.cell x c e
  exact free c o (fun z=>(hch c z).2.2.1 x c e rfl) ho (I.rG x c e)
 ·obtain⟨e,n,ne,nf,d⟩:=I.pin p hp
  have V9:p.1 ∉ ch:=fun z=>(hch p.1 z).2.2.2 p hp rfl
  exact⟨keep p.1 p.2 ne nf V9 e n,free p.1 p.2 V9 e n,ne,nf,d⟩
theorem Inv.un {t':Nat}(I:Inv X pins σ H s)(u:Un X.fs [] H H' s.heap h')(hok:vZ X.prog X.w H' h'):Inv X pins σ H' { s with heap:=h',toks:=t' }:=by
 obtain⟨m,⟨o,es,ep,ho,r⟩,_⟩:=id I.loc
 obtain⟨sl,hL⟩:=u.any ho I.free (by simp)
 exact I.step (g':=s.gens) (d':=s.drawn) (ch:=[]) (fun _ z=>nomatch z) (fun b o _ hb _ e n=>u.keep b o e n hb (by simp)) (fun b o _ hb _ e n=>u.slot b o e n hb (by simp)) (fun b o _ e n=>u.free b o e n (by simp)) (fun b o _ e=>u.there b o e (by simp)) u.tups u.Cb u.Dc (fun m' hm=>by
  obtain⟨o',es',ep',ho',r'⟩:=hm
  rw[ho] at ho';cases ho'
  exact⟨_,es',ep',hL,r'⟩) hok I.bare
theorem Inv.call {g':Array GenState}{t':Nat}{d':Drawn}{ch:List Addr}(I:Inv X pins σ H s)(u:Un (frs X.stack) ch H H' s.heap h')(hok:vZ X.prog X.w H' h')(hg:AllBare g')
  (hch:∀ b∈ch,(b∈X.ex∨X.s₀.heap.objs.size<=b)/\b≠X.env.locals/\(∀ x c,X.env.cells.lookup x=some c->c≠b)/\∀ p∈X.pn++pins,p.1≠b) :
  Inv X pins σ H' { s with heap:=h',gens:=g',drawn:=d',toks:=t' }:=by
 obtain⟨m,⟨o,es,ep,ho,r⟩,_⟩:=id I.loc
 obtain⟨sl,hL⟩:=u.any ho I.free fun z=>(hch _ z).2.1 rfl
 exact I.step (ch:=ch) hch (fun b o hL hb hc e n=>u.keep b o e n (fun z=>(List.mem_cons.mp (I.Dd b z)).elim hL hb) hc) (fun b o _ _ hc e n=>u.any e n hc) (fun b o hc e n=>u.free b o e n hc) (fun b o hc e=>u.there b o e hc) u.tups u.Cb u.Dc (fun m' hm=>by
  obtain⟨o',es',ep',ho',r'⟩:=hm
  rw[ho] at ho';cases ho'
  exact⟨_,es',ep',hL,r'⟩) hok hg
theorem Inv.turned {t':Nat}{it:Addr}(I:Inv X pins σ H s)(k:∀ b o,b≠it->s.heap.get? b=some o->h'.get? b=some o)(hn:H it=none)(hL:it≠X.env.locals)
  (h1:it∈X.ex∨X.s₀.heap.objs.size<=it) (h2:∀ x c,X.env.cells.lookup x=some c->c≠it) (h3:∀ p∈X.pn++pins,p.1≠it):Inv X pins σ H { s with heap:=h',toks:=t' }:=by
 have nit:∀ b u,H b=some u->b≠it:=fun b u e z=>by rw[z,hn] at e;cases e
 refine I.step (g':=s.gens) (d':=s.drawn) (ch:=[it]) (fun b hb=>?_) (fun b o _ _ hc e _=>k b o (fun z=>hc (by simp[z])) e) (fun b o _ _ hc e _=>⟨o.slots,k b o (fun z=>hc (by simp[z])) e⟩) (fun _ _ _ _ n=>n)
  (fun b o hc e=>⟨o,k b o (fun z=>hc (by simp[z])) e⟩) (fun _ _ e=>e) (fun _ _ _ e=>e) (fun b ps e=>⟨#[],by rw[e];simp⟩) (fun m hm=>?_) (fun b u e=>?_) I.bare
 ·have e:b=it:=by simpa using hb
  subst e
  exact⟨h1,hL,h2,h3⟩
 ·obtain⟨o,es,ep,ho,r⟩:=hm
  exact⟨o,es,ep,k _ o (Ne.symm hL) ho,r⟩
 ·refine(I.hok b u e).stay (fun c v hc q=>k c v ?_ q) (fun _ q=>q) fun _ _ q=>q
  rcases hc with z | z
  ·rw[z];exact nit b u e
  ·exact nit c _ z
theorem Inv.tok (I:Inv X pins σ H s)(t:Nat):Inv X pins σ H { s with toks:=t }:=I.un (h':=s.heap) (t':=t) Un.refl I.hok
theorem Inv.kept {t':Nat}(I:Inv X pins σ H s)(k:∀ b u,s.heap.get? b=some u->h'.get? b=some u):Inv X pins σ H { s with heap:=h',toks:=t' }:=I.un (Un.kept k) (I.hok.kept k)
theorem Inv.laid {a:Addr}{o:HO}{t':Nat}(I:Inv X pins σ H s)(k:∀ b u,s.heap.get? b=some u->h'.get? b=some u)(hp:s.heap.objs.size<=a)(new:eY X.prog X.w (upd H a o) h' a o) :
  Inv X pins σ (upd H a o) { s with heap:=h',toks:=t' }:=I.un (Un.laid k hp (I.hok.fresh hp)) (I.hok.laid k hp new)
theorem Inv.write {x e:Addr}{o:HO}{t':Nat}(I:Inv X pins σ H s)(mu:XM (H x))(he:e=x∨H e=some (.own x))(k:∀ b u,b≠e->s.heap.get? b=some u->h'.get? b=some u)(US:∃ u,h'.get? e=some u)
  (new:eY X.prog X.w (upd H x o) h' x o):Inv X pins σ (upd H x o) { s with heap:=h',toks:=t' }:=I.un (Un.write mu he k US) (I.hok.write mu he k US new)
theorem Inv.weak {σ':List (Option V)}(I:Inv X pins σ H s)(hl:σ'.length=σ.length)(w:∀ (i:Nat) v,σ'[i]?=some (some v)->σ[i]?=some (some v)):Inv X pins σ' H s :=
 ⟨I.ok,I.os,I.bare,I.base,let ⟨m,hn,hl'⟩:=I.loc;⟨m,hn,fun i x v e1 e2 e3=>hl' i x v e1 (w i v e2) e3⟩,I.cell,I.free,I.rG,I.pin,I.hok,hl.trans I.len⟩
theorem Inv.zP {AE:List (Addr×Obj)}(I:Inv X pins σ H s)(h:∀ p∈AE,s.heap.get? p.1=some p.2/\H p.1=none/\p.1≠X.env.locals/\p.1 ∉ X.fs/\∀ v,p.2.data≠.cell v):Inv X AE σ H s :=
 ⟨I.ok,I.os,I.bare,I.base,I.loc,I.cell,I.free,I.rG,fun p hp=>(List.mem_append.mp hp).elim (fun z=>I.pin p (List.mem_append_left _ z)) (h p),I.hok,I.len⟩
theorem Fc {N:List Str}(hN:N.Nodup){i j:Nat}{x:Str}(a:N[i]?=some x)(b:N[j]?=some x):i=j:=by
 obtain⟨h1,e1⟩:=List.getElem?_eq_some_iff.mp a
 obtain⟨h2,e2⟩:=List.getElem?_eq_some_iff.mp b
 exact(List.getElem_inj hN).mp (e1.trans e2.symm)
theorem CI {M:Model}{A:Around}{E:Value->Shared->Prop}{i:Nat}{x:Str}{v:V}{u:Value}{Q:Unit->Shared->Prop}(I:Inv X pins σ H s)(hN:X.N.Nodup)(hi:X.N[i]?=some x)(hx:Loc X.env.scope x)(r:RelV v u)
  (h:∀ s',Inv X pins (σ.set i (some v)) H s'->(∃ a,Heap.SameBut a s.heap s'.heap/\(a=X.env.locals∨X.env.cells.lookup x=some a))->Q () s') (hf:X.fn x=true∨X.env.scope.names.lookup x=some .local:=by first | exact .inl rfl | exact .inr rfl | assumption):wpAny M A (storeName X.env x u) Q E s:=by
 obtain⟨m,hn,hl⟩:=id I.loc
 have hcls:(X.env.scope.kind == .class || (X.env.scope.kind == .module && X.env.locals != X.env.globals))=false:=by rw[I.ok.kind];rfl
 have hiσ:i < σ.length:=by rw[I.len];exact(List.getElem?_eq_some_iff.mp hi).1
 have Us:=I.Us
 have tracked:∀ {a:Addr} {h':Heap},(∃ o,s.heap.get? a=some o/\H a=none)->Heap.SameBut a s.heap h'->vZ X.prog X.w H h':=fun {a h'} ha hs b ob e=>by
  obtain⟨_,_,hfree⟩:=ha
  refine(I.hok b ob e).stay (fun c w' hc q=>(hs.2 c ?_).trans q) (fun _ q=>q) fun _ _ q=>q
  rintro rfl
  rcases hc with rfl | hc
  ·rw[hfree] at e;cases e
  ·rw[hfree] at hc;cases hc
 rcases hx with hk | hk
 ·refine wpAny_storeName_local hk hn (fun h' hn' hs=>?_) hcls
  obtain⟨oL,_,_,hoL,_⟩:=id hn
  refine h _ ⟨I.ok,I.os,I.bare,⟨fun b o e n hb hx=>?_,fun b o e n hb hx=>?_,I.base.free,fun b o e hx=>?_,I.base.tups,I.base.Cb,I.base.Dc⟩,⟨_,hn',fun j y v' e1 e2 e3=>?_⟩,fun y c e=>?_,I.free,I.rG,fun p hp=>?_,tracked ⟨oL,hoL,I.free⟩ hs,by simpa using I.len⟩ ⟨_,hs,.inl rfl⟩
  ·exact(hs.2 b (Nat.ne_of_lt (Nat.lt_of_lt_of_le (Heap.lt_size e) I.ok.above))).trans (I.base.keep b o e n hb hx)
  ·obtain⟨sl,e1⟩:=I.base.slot b o e n hb hx
   exact⟨sl,(hs.2 b (Nat.ne_of_lt (Nat.lt_of_lt_of_le (Heap.lt_size e) I.ok.above))).trans e1⟩
  ·obtain⟨o',e1⟩:=I.base.there b o e hx
   exact⟨o',(hs.2 b (Nat.ne_of_lt (Nat.lt_of_lt_of_le (Heap.lt_size e) I.ok.above))).trans e1⟩
  ·by_cases hj:j=i
   ·subst hj
    rw[hi] at e1;cases e1
    rw[List.getElem?_set_self hiσ] at e2
    cases e2
    exact⟨u,r,.inl ⟨hk,by simp⟩⟩
   ·rw[List.getElem?_set_ne (Ne.symm hj)] at e2
    obtain⟨u',r',q⟩:=hl j y v' e1 e2 e3
    refine⟨u',r',?_⟩
    rcases q with ⟨k,e⟩ | ⟨k,c,e,z⟩
    ·refine .inl ⟨k,?_⟩
     have:y≠x:=fun e=>hj (Fc hN e1 (e ▸ hi))
     simp[this,e]
    ·exact .inr ⟨k,c,e,z.sameBut hs (Us y c e)⟩
  ·obtain⟨w',z⟩:=I.cell y c e
   exact⟨w',z.sameBut hs (Us y c e)⟩
  ·obtain⟨e,n,ne,nf,d⟩:=I.pin p hp
   exact⟨(hs.2 p.1 ne).trans e,n,ne,nf,d⟩
 ·have hfn:X.fn x=true:=by
   rcases hf with z | z
   ·exact z
   ·rw[z] at hk;cases hk
  obtain⟨c,hc⟩:=I.ok.has x (.inl hk)
  obtain⟨w',z⟩:=I.cell x c hc
  refine wpAny_storeName_cell I.ok.kind hk hc z (fun h' hc' hs=>?_)
  obtain⟨oc,hoc,Z3⟩:=id z
  refine h { s with heap:=h' } ⟨I.ok,I.os,I.bare,⟨fun b o e n hb hx=>?_,fun b o e n hb hx=>?_,I.base.free,fun b o e hx=>?_,I.base.tups,I.base.Cb,I.base.Dc⟩,⟨m,hn.sameBut hs (Ne.symm (Us x c hc)),fun j y v' e1 e2 e3=>?_⟩,fun y c' e=>?_,I.free,I.rG,fun p hp=>?_,tracked ⟨oc,hoc,I.rG x c hc⟩ hs,by simpa using I.len⟩ ⟨c,hs,.inr hc⟩
  ·exact(hs.2 b (Nat.ne_of_lt (Nat.lt_of_lt_of_le (Heap.lt_size e) (I.ok.Xz x c hfn hc)))).trans (I.base.keep b o e n hb hx)
  ·obtain⟨sl,e1⟩:=I.base.slot b o e n hb hx
   exact⟨sl,(hs.2 b (Nat.ne_of_lt (Nat.lt_of_lt_of_le (Heap.lt_size e) (I.ok.Xz x c hfn hc)))).trans e1⟩
  ·obtain⟨o',e1⟩:=I.base.there b o e hx
   exact⟨o',(hs.2 b (Nat.ne_of_lt (Nat.lt_of_lt_of_le (Heap.lt_size e) (I.ok.Xz x c hfn hc)))).trans e1⟩
  ·by_cases hj:j=i
   ·subst hj
    rw[hi] at e1;cases e1
    rw[List.getElem?_set_self hiσ] at e2
    cases e2
    exact⟨u,r,.inr ⟨.inl hk,c,hc,hc'⟩⟩
   ·rw[List.getElem?_set_ne (Ne.symm hj)] at e2
    obtain⟨u',r',q⟩:=hl j y v' e1 e2 e3
    refine⟨u',r',?_⟩
    rcases q with q | ⟨k,c',e,z'⟩
    ·exact .inl q
    ·refine .inr ⟨k,c',e,z'.sameBut hs ?_⟩
     rintro rfl
     exact hj (Fc hN e1 (I.ok.inj _ _ _ e hc ▸ hi))
  ·by_cases hcc:c'=c
   ·subst hcc;exact⟨_,hc'⟩
   ·obtain⟨w2,z2⟩:=I.cell y c' e
    exact⟨w2,z2.sameBut hs hcc⟩
  ·obtain⟨e,n,ne,nf,d⟩:=I.pin p hp
   refine⟨(hs.2 p.1 ?_).trans e,n,ne,nf,d⟩
   intro q
   rw[q,hoc] at e
   have q':oc=p.2:=Option.some.inj e
   exact d w' (by rw[<- q'];exact Z3)
theorem zX {M:Model}{A:Around}{E:Value->Shared->Prop}{i:Nat}{x:Str}{v:V}{u:Value}{Q:Unit->Shared->Prop}(I:Inv X pins σ H s)(hN:X.N.Nodup)(hi:X.N[i]?=some x)(hx:Loc X.env.scope x)(r:RelV v u)
  (h:∀ s',Inv X pins (σ.set i (some v)) H s'->Q () s') (hf:X.fn x=true∨X.env.scope.names.lookup x=some .local:=by first | exact .inl rfl | exact .inr rfl | assumption):wpAny M A (storeName X.env x u) Q E s :=
 CI I hN hi hx r (fun s' I' _=>h s' I') hf
theorem Inv.Xy {s':Shared}{ch:List Addr}(I:Inv X pins σ H s)(ho:s'.os=s.os)(u:Un (frs X.stack) ch H H' s.heap s'.heap)(hok:vZ X.prog X.w H' s'.heap)(hg:AllBare s'.gens)
  (hch:∀ b∈ch,(b∈X.ex∨X.s₀.heap.objs.size<=b)/\b≠X.env.locals/\(∀ x c,X.env.cells.lookup x=some c->c≠b)/\∀ p∈X.pn++pins,p.1≠b):Inv X pins σ H' s':=by
 obtain⟨h',g',d',t',o'⟩:=s'
 have e:o'=s.os:=ho
 subst e
 exact I.call (g':=g') (t':=t') (d':=d') u hok hg hch
end
noncomputable abbrev XK:=Value->Option Addr->Hp->Prop
noncomputable abbrev St:=List (Option V)
noncomputable abbrev VK:=V->Hp->Prop
noncomputable abbrev TE:=St->Hp->VK->Prop
noncomputable abbrev TT:=St->Hp->(Bool->Hp->Prop)->Prop
noncomputable abbrev TA:=St->Hp->(List V->Hp->Prop)->Prop
structure Ends where
 nx:St->Hp->Prop
 rt:VK
 bk:St->Hp->Prop:=fun _ _=>False
 ct:St->Hp->Prop:=fun _ _=>False
noncomputable abbrev TS:=Ends->St->Hp->Prop
noncomputable def EP (X:Cx)(pins:List (Addr×Obj))(σ:St)(Q:VK)(u:Value)(s':Shared):Prop:=∃ v H',Inv X pins σ H' s'/\RelV v u/\Q v H'
noncomputable def TP (X:Cx)(pins:List (Addr×Obj))(σ:St)(Q:Bool->Hp->Prop)(b:Bool)(s':Shared):Prop:=∃ H',Inv X pins σ H' s'/\Q b H'
noncomputable def AP (X:Cx)(pins:List (Addr×Obj))(σ:St)(Q:List V->Hp->Prop)(us:List Value)(s':Shared):Prop:=∃ vs H',Inv X pins σ H' s'/\Vals vs us/\Q vs H'
noncomputable def SP (X:Cx)(pins:List (Addr×Obj))(D:Ends)(f:Flow)(s':Shared):Prop :=
 match f with
 | .next=>∃ σ' H',Inv X pins σ' H' s'/\D.nx σ' H'
 | .brk=>∃ σ' H',Inv X pins σ' H' s'/\D.bk σ' H'
 | .cont=>∃ σ' H',Inv X pins σ' H' s'/\D.ct σ' H'
 | .ret u=>∃ v σ' H',Inv X pins σ' H' s'/\RelV v u/\D.rt v H'
noncomputable def PE (X:Cx)(e:Expr)(t:TE):Prop :=
 ∀ (pins:List (Addr×Obj)) (s:Shared) (σ:St) (H:Hp) (Q:VK),Inv X pins σ H s->t σ H Q->wpAny (model X.prog X.w) X.A (eval e X.env) (EP X pins σ Q) X.xe s
noncomputable def PT (X:Cx)(e:Expr)(t:TT):Prop :=
 ∀ (pins:List (Addr×Obj)) (s:Shared) (σ:St) (H:Hp) (Q:Bool->Hp->Prop),Inv X pins σ H s->t σ H Q->wpAny (model X.prog X.w) X.A (isTrue e X.env (eval e X.env)) (TP X pins σ Q) X.xe s
noncomputable def PW (X:Cx)(e:Expr)(t:TT):Prop :=
 ∀ (whole:Sem Value) (pins:List (Addr×Obj)) (s:Shared) (σ:St) (H:Hp) (Q:Bool->Hp->Prop),Inv X pins σ H s->t σ H Q->wpAny (model X.prog X.w) X.A (isTrue e X.env whole) (TP X pins σ Q) X.xe s
theorem PW.pt {X:Cx}{e:Expr}{t:TT}(h:PW X e t):PT X e t:=h _
noncomputable def PA (X:Cx)(es:List Expr)(t:TA):Prop :=
 ∀ (pos:Pos) (pins:List (Addr×Obj)) (s:Shared) (σ:St) (H:Hp) (Q:List V->Hp->Prop),Inv X pins σ H s->t σ H Q->wpAny (model X.prog X.w) X.A (spliced (backTo pos (starEach es X.env))) (AP X pins σ Q) X.xe s
noncomputable def PS (X:Cx)(st:Stmt)(t:TS):Prop :=
 ∀ (pins:List (Addr×Obj)) (s:Shared) (σ:St) (H:Hp) (D:Ends),Inv X pins σ H s->t D σ H->wpAny (model X.prog X.w) X.A (exec st X.env) (SP X pins D) X.xe s
noncomputable def Ew (X:Cx)(st:List Stmt)(t:TS):Prop :=
 ∀ (pins:List (Addr×Obj)) (s:Shared) (σ:St) (H:Hp) (D:Ends),Inv X pins σ H s->t D σ H->wpAny (model X.prog X.w) X.A (execs st X.env) (SP X pins D) X.xe s
theorem gm {α:Type}{t:Sem α}{Q Q':α->Shared->Prop}{M:Model}{A:Around}{E:Value->Shared->Prop}{s:Shared}(h:wpAny M A t Q E s)(hQ:∀ a s,Q a s->Q' a s):wpAny M A t Q' E s:=wpAny_mono h hQ fun _ _ x=>x
end L2
namespace L2
open PySem PySem.Spec PyProof.Rows
section
variable {X:Cx}
noncomputable def YC (i:Nat):TE:=fun σ H Q=>∃ v,σ[i]?=some (some v)/\Q v H
noncomputable def tC (v:V):TE:=fun _ H Q=>Q v H
theorem SA {i:Nat}{x:Str}{pos:Pos}(hN:X.N[i]?=some x)(hv:Yk X.env.scope x)(hd:(x == ("__debug__":Str))=false:=by decide)(hcd:(x == ("__classdict__":Str))=false:=by decide):PE X (.Name x pos) (YC i):=by
 intro pins s σ H Q I h
 obtain⟨v,e,h⟩:=h
 obtain⟨m,hn,hl⟩:=I.loc
 obtain⟨u,r,l⟩:=hl i x v hN e hv
 have fin:EP X pins σ Q u s:=⟨v,H,I,r,h⟩
 rcases l with ⟨hk,hm⟩ | ⟨hk,c,hc,hcell⟩
 ·exact wpAny_Name (wpAny_loadName_local I.ok.kind hk hn hm fin) hd
 ·rcases hk with hk | hk
  ·exact wpAny_Name (wpAny_loadName_cell I.ok.kind hk hc hcell fin) hd
  ·exact wpAny_Name (wpAny_loadName_free I.ok.kind hk hc hcell fin hcd) hd
theorem SG {i j pos}:PE X (.Constant (.int i) j pos) (tC (.int i)):=fun _ _ _ H _ I h=>wpAny_Constant_int ⟨.int i,H,I.tok _,⟨_,rfl⟩,h⟩
theorem VW {b j pos}:PE X (.Constant (.bool b) j pos) (tC (.bl b)):=fun _ _ _ H _ I h=>Constant_bool ⟨.bl b,H,I,rfl,h⟩
theorem SE {j pos}:PE X (.Constant .none j pos) (tC .fE):=fun _ _ _ H _ I h=>Constant_none ⟨.fE,H,I,rfl,h⟩
theorem MA {x j pos}:PE X (.Constant (.str x) j pos) (tC (.str x)):=fun _ _ _ H _ I h=>Calls.Constant_str ⟨.str x,H,I.tok _,⟨_,rfl⟩,h⟩
noncomputable def Gl (X:Cx)(x:Str):Prop:=X.env.kindOf x=some .globalImplicit
theorem wW {E:Value->Shared->Prop}{pins:List (Addr×Obj)}{s:Shared}{σ:St}{H:Hp}{x:Str}{u:Value}{pos:Pos}{Q:Value->Shared->Prop}(I:Inv X pins σ H s)(hg:Gl X x)(hm:X.mg x=some u)(h:Q u s)
  (hd:(x == ("__debug__":Str))=false:=by decide):wpAny (model X.prog X.w) X.A (eval (.Name x pos) X.env) Q E s :=
 Calls.Name_function_global I.ok.kind hg (Calls.loadGlobal_global (by rw[I.ok.glob];exact I.mod.glob.keeps I.bk) hm h) hd
theorem DU {E:Value->Shared->Prop}{pins:List (Addr×Obj)}{s:Shared}{σ:St}{H:Hp}{x:Str}{u:Value}{pos:Pos}{Q:Value->Shared->Prop}(I:Inv X pins σ H s)(hg:Gl X x)(hm:X.mg x=none)(hv:bootBuiltins x=some u)(h:Q u s)
  (hn:x≠"__name__":=by decide) (hd:(x == ("__debug__":Str))=false:=by decide):wpAny (model X.prog X.w) X.A (eval (.Name x pos) X.env) Q E s:=by
 obtain⟨mb,h1,h2⟩:=I.mod.blt
 exact Calls.Name_function_global I.ok.kind hg (Calls.loadGlobal_builtin (by rw[I.ok.glob];exact I.mod.glob.keeps I.bk) hm (by rw[I.ok.blt];exact h1.keeps I.bk) ((h2 x hn).trans hv) h) hd
theorem OY {x:Str}{v:V}{u:Value}{pos:Pos}(hg:Gl X x)(hm:X.mg x=some u)(r:RelV v u)(hd:(x == ("__debug__":Str))=false:=by decide):PE X (.Name x pos) (tC v) :=
 fun _ _ _ H _ I h=>wW I hg hm ⟨v,H,I,r,h⟩ hd
theorem O5 {x:Str}{v:V}{u:Value}{pos:Pos}(hg:Gl X x)(hm:X.mg x=none)(hv:bootBuiltins x=some u)(r:RelV v u)(hn:x≠"__name__":=by decide)(hd:(x == ("__debug__":Str))=false:=by decide):PE X (.Name x pos) (tC v) :=
 fun _ _ _ H _ I h=>DU I hg hm hv ⟨v,H,I,r,h⟩ hn hd
variable {a b:Expr}{ta tb:TE}{pos:Pos}
noncomputable def tB (t:TE):TT:=fun σ H Q=>t σ H fun x H1=>∃ c,x=.bl c/\Q c H1
theorem Si {e:Expr}{t:TE}(h:PE X e t)(he:∀ whole,isTrue e X.env whole=(do let v <- whole;standAt e.pos;holding [v] (truthy v)):=by intro _;rfl):PT X e (tB t):=by
 intro pins s σ H Q I hw
 refine isTrue_plain (gm (h pins s σ H _ I hw) fun v s1 ⟨x,H1,I1,r1,q1⟩=>?_) (he _)
 obtain⟨d,rfl,q⟩:=q1
 cases r1
 exact wpAny_truthy_bool ⟨H1,I1,q⟩
variable {tA XS:TT}{rest:List Expr}
noncomputable def YR (t u:TT):TT:=fun σ H Q=>t σ H fun c H1=>if c=true then u σ H1 Q else Q false H1
noncomputable def tOr (t u:TT):TT:=fun σ H Q=>t σ H fun c H1=>if c=true then Q true H1 else u σ H1 Q
noncomputable def YH (t:TT):TT:=fun σ H Q=>t σ H fun c H1=>Q (!c) H1
theorem OJ (ha:PT X a tA):PW X (.BoolOp .And [a] pos) tA:=by
 intro wh pins s σ H Q I h
 refine isTrue_and (gm (ha pins s σ H Q I h) fun c s1 e=>?_)
 cases c with
 | true=>exact isTrue_and_nil e
 | false=>exact e
theorem Sg (ha:PT X a tA):PW X (.BoolOp .Or [a] pos) tA:=by
 intro wh pins s σ H Q I h
 refine isTrue_or (gm (ha pins s σ H Q I h) fun c s1 e=>?_)
 cases c with
 | false=>exact isTrue_or_nil e
 | true=>exact e
theorem Sh (ha:PT X a tA)(hb:PW X (.BoolOp .And (b::rest) pos) XS):PW X (.BoolOp .And (a::b::rest) pos) (YR tA XS):=by
 intro wh pins s σ H Q I h
 refine isTrue_and (gm (ha pins s σ H _ I h) fun c s1 ⟨H1,I1,q1⟩=>?_)
 cases c with
 | true=>exact hb wh pins s1 σ H1 Q I1 q1
 | false=>exact⟨H1,I1,q1⟩
theorem VP (ha:PT X a tA)(hb:PW X (.BoolOp .Or (b::rest) pos) XS):PW X (.BoolOp .Or (a::b::rest) pos) (tOr tA XS):=by
 intro wh pins s σ H Q I h
 refine isTrue_or (gm (ha pins s σ H _ I h) fun c s1 ⟨H1,I1,q1⟩=>?_)
 cases c with
 | true=>exact⟨H1,I1,q1⟩
 | false=>exact hb wh pins s1 σ H1 Q I1 q1
theorem Sj (ha:PT X a tA):PT X (.UnaryOp .Not a pos) (YH tA):=by
 intro pins s σ H Q I h
 exact isTrue_not (ha pins s σ H (fun c H1=>Q (!c) H1) I h)
noncomputable def tIf (t:TT)(ta tb:TE):TE:=fun σ H Q=>t σ H fun c H1=>if c=true then ta σ H1 Q else tb σ H1 Q
theorem MD {c:Expr}(hc:PT X c tA)(ha:PE X a ta)(hb:PE X b tb):PE X (.IfExp c a b pos) (tIf tA ta tb):=by
 intro pins s σ H Q I h
 refine wpAny_IfExp (gm (hc pins s σ H _ I h) fun d s1 ⟨H1,I1,q1⟩=>?_)
 cases d with
 | true=>exact ha pins s1 σ H1 Q I1 q1
 | false=>exact hb pins s1 σ H1 Q I1 q1
end
end L2
namespace L2
open PySem PySem.Spec PyProof.Rows
noncomputable def rR (K:PySem.W.Frag)(H:Hp)(a:Addr)(xs:List V):Prop :=
 Rd H a (.lst xs) ∨
  ∃ (o:Obj) (its:Array Value) (n:Nat),K.lookup a=some o/\o.cls=.type "list"/\o.dict=none/\o.data=.seq its n/\its.size<=sizeLine/\Vals xs its.toList
noncomputable def vo (K:PySem.W.Frag)(H:Hp)(a:Addr)(xs:List V):Prop :=
 Rd H a (.tup xs) ∨
  ∃ (o:Obj) (its:Array Value) (n:Nat),K.lookup a=some o/\o.cls=.type "tuple"/\o.data=.seq its n/\its.size<=sizeLine/\Vals xs its.toList
noncomputable def a0Z:Value->Option V
 | .none=>some .fE
 | .bool b=>some (.bl b)
 | .int i _=>some (.int i)
 | .str x _=>some (.str x)
 | .bytes b _=>some (.Lm b)
 | .float b _=>some (.T9 b)
 | .ref a=>some (.ref a)
 | .type n=>some (.ty n)
 | _=>none
theorem RelV.abs {x:V}{u:Value}(r:RelV x u):a0Z u=some x:=by
 cases x with
 | fE=>cases r;rfl
 | bl _=>cases r;rfl
 | int _=>obtain⟨t,rfl⟩:=r;rfl
 | str _=>obtain⟨t,rfl⟩:=r;rfl
 | Lm _=>obtain⟨t,rfl⟩:=r;rfl
 | T9 _=>obtain⟨t,rfl⟩:=r;rfl
 | ref _=>cases r;rfl
 | ty _=>cases r;rfl
theorem RelV.inj {x y:V}{u:Value}(r:RelV x u)(q:RelV y u):x=y:=Option.some.inj (r.abs.symm.trans q.abs)
theorem Vals.inj:∀ {xs ys:List V} {us:List Value},Vals xs us->Vals ys us->xs=ys
 | _,_,_,.nil,.nil=>rfl
 | _,_,_,.cons r t,.cons r' t'=>by rw[r.inj r',Vals.inj t t']
section
variable {X:Cx}{pins:List (Addr×Obj)}{σ:St}{H:Hp}{s:Shared}{a:Addr}{xs ys:List V}
theorem rR.of {K:PySem.W.Frag}(h:H a=some (.lst xs)):rR K H a xs:=.inl (.inl h)
theorem vo.of {K:PySem.W.Frag}(h:H a=some (.tup xs)):vo K H a xs:=.inl (.inl h)
theorem Inv.list (I:Inv X pins σ H s)(h:rR X.K H a xs):∃ its:List Value,Vals xs its/\PlainL s.heap a its.toArray/\xs.length<=sizeLine:=by
 rcases h with h | ⟨o,its,n,hk,hc,hd,hs,hz,r⟩
 ·obtain⟨z,its,n,r,e⟩:=h.ok I.hok
  exact⟨its,r,⟨_,n,e,rfl,rfl,rfl⟩,z⟩
 ·refine⟨its.toList,r,⟨o,n,I.xQ a o hk,hc,hd,by simpa using hs⟩,?_⟩
  have e:=r.length
  simp only[Array.length_toList] at e
  omega
theorem Inv.tuple (I:Inv X pins σ H s)(h:vo X.K H a xs):∃ its:List Value,Vals xs its/\IsTup s.heap a its.toArray/\xs.length<=sizeLine:=by
 rcases h with h | ⟨o,its,n,hk,hc,hs,hz,r⟩
 ·obtain⟨z,its,r,p⟩:=h.ok I.hok
  exact⟨its,r,p,z⟩
 ·refine⟨its.toList,r,⟨o,I.xQ a o hk,hc,n,by simpa using hs⟩,?_⟩
  have e:=r.length
  simp only[Array.length_toList] at e
  omega
theorem Inv.M3 (I:Inv X pins σ H s)(h:rR X.K H a xs)(h':rR X.K H a ys):xs=ys:=by
 obtain⟨its,r,⟨o,n,e,_,_,d⟩,_⟩:=I.list h
 obtain⟨its',r',⟨o',n',e',_,_,d'⟩,_⟩:=I.list h'
 rw[e] at e';cases e'
 rw[d] at d'
 injection d' with d1 _
 have:its=its':=by simpa using congrArg Array.toList d1
 subst this
 exact r.inj r'
theorem Inv.JF (I:Inv X pins σ H s)(h:vo X.K H a xs)(h':vo X.K H a ys):xs=ys:=by
 obtain⟨its,r,⟨o,e,_,n,d⟩,_⟩:=I.tuple h
 obtain⟨its',r',⟨o',e',_,n',d'⟩,_⟩:=I.tuple h'
 rw[e] at e';cases e'
 rw[d] at d'
 injection d' with d1 _
 have:its=its':=by simpa using congrArg Array.toList d1
 subst this
 exact r.inj r'
end
noncomputable abbrev Cx.BC (X:Cx)(E:Value->Shared->Prop):Cx:={ X with xe:=E }
noncomputable abbrev Cx.UH (X:Cx):Cx:=X.BC fun _ _=>False
theorem Cx.Ok.BC {X:Cx}(ok:X.Ok)(E:Value->Shared->Prop):(X.BC E).Ok :=
 ⟨ok.mod,ok.kind,ok.glob,ok.blt,ok.above,ok.inj,ok.has,ok.Xz,ok.hd,ok.frames,ok.stk,ok.Yj,ok.bs,ok.PY,ok.MT,ok.Nz,ok.zu,ok.T4⟩
theorem Cx.Ok.qJ {X:Cx}{E:Value->Shared->Prop}(ok:(X.BC E).Ok):X.Ok :=
 ⟨ok.mod,ok.kind,ok.glob,ok.blt,ok.above,ok.inj,ok.has,ok.Xz,ok.hd,ok.frames,ok.stk,ok.Yj,ok.bs,ok.PY,ok.MT,ok.Nz,ok.zu,ok.T4⟩
section
variable {X:Cx}{pins:List (Addr×Obj)}{σ:St}{H:Hp}{s:Shared}{E:Value->Shared->Prop}
theorem Inv.BC (I:Inv X pins σ H s)(E:Value->Shared->Prop):Inv (X.BC E) pins σ H s:=⟨I.ok.BC E,I.os,I.bare,I.base,I.loc,I.cell,I.free,I.rG,I.pin,I.hok,I.len⟩
theorem Inv.qJ (I:Inv (X.BC E) pins σ H s):Inv X pins σ H s:=⟨I.ok.qJ,I.os,I.bare,I.base,I.loc,I.cell,I.free,I.rG,I.pin,I.hok,I.len⟩
theorem SP.qJ {D:Ends}{f:Flow}{s':Shared}(h:SP (X.BC E) pins D f s'):SP X pins D f s':=by
 cases f with
 | next=>obtain⟨σ',H',I,q⟩:=h;exact⟨σ',H',I.qJ,q⟩
 | brk=>obtain⟨σ',H',I,q⟩:=h;exact⟨σ',H',I.qJ,q⟩
 | cont=>obtain⟨σ',H',I,q⟩:=h;exact⟨σ',H',I.qJ,q⟩
 | ret u=>obtain⟨v,σ',H',I,r,q⟩:=h;exact⟨v,σ',H',I.qJ,r,q⟩
theorem Ew.UH {st:List Stmt}{t:TS}(h:Ew X.UH st t):Ew X st t:=fun pins s σ H D I hw =>
 wpAny_mono (h pins s σ H D (I.BC _) hw) (fun _ _ q=>q.qJ) fun _ _ z=>False.elim z
end
section
variable {X:Cx}{st:Stmt}{rest:List Stmt}{t u:TS}{e:Expr}{te:TE}{pos:Pos}
noncomputable def Vh:TS:=fun D σ H=>D.nx σ H
noncomputable def YF (t u:TS):TS:=fun D σ H=>t { D with nx:=u D } σ H
theorem OP:Ew X [] Vh:=fun _ _ σ H _ I h=>wpAny_execs_nil ⟨σ,H,I,h⟩
theorem Mq (h1:PS X st t)(h2:Ew X rest u):Ew X (st::rest) (YF t u):=by
 intro pins s σ H D I h
 refine wpAny_execs_cons (gm (h1 pins s σ H { D with nx:=u D } I h) fun f s1 q=>?_)
 cases f with
 | next =>
  obtain⟨σ',H',I',q⟩:=q
  exact h2 pins s1 σ' H' D I' q
 | ret v=>exact q
 | brk=>exact q
 | cont=>exact q
theorem OO (h1:PS X st t):Ew X [st] t:=by
 intro pins s σ H D I h
 refine wpAny_execs_cons (gm (h1 pins s σ H D I h) fun f s1 q=>?_)
 cases f with
 | next=>exact wpAny_execs_nil q
 | ret v=>exact q
 | brk=>exact q
 | cont=>exact q
theorem Inv.quiet {pins:List (Addr×Obj)}{σ:St}{H:Hp}{s:Shared}(I:Inv X pins σ H s):interactive X.env=false:=by simp[interactive,I.ok.kind]
noncomputable def Vp (te:TE):TS:=fun D σ H=>te σ H fun _ H1=>D.nx σ H1
theorem OQ (he:PE X e te)(hs:swapsWith e none pos.line X.env=pure false:=by rfl):PS X (.Expr e pos) (Vp te):=by
 intro pins s σ H D I h
 exact wpAny_Expr_any (gm (he pins s σ H _ I h) (by rintro v s1 ⟨x,H1,I1,r1,q1⟩;exact ⟨σ,H1,I1,q1⟩)) I.quiet hs
noncomputable def YG (te:TE):TS:=fun D σ H=>te σ H D.rt
theorem Sn (he:PE X e te):PS X (.Return (some e) pos) (YG te):=by
 intro pins s σ H D I h
 exact wpAny_Return_some (gm (he pins s σ H _ I h) (by rintro v s1 ⟨x,H1,I1,r1,q1⟩;exact ⟨x,σ,H1,I1,r1,q1⟩))
noncomputable def YJ (c:TT)(t u:TS):TS:=fun D σ H=>c σ H fun b H1=>if b=true then t D σ H1 else u D σ H1
theorem VQ {c:Expr}{a b:List Stmt}{tc:TT}(hc:PT X c tc)(ha:Ew X a t)(hb:Ew X b u):PS X (.If c a b pos) (YJ tc t u):=by
 intro pins s σ H D I h
 refine wpAny_If (gm (hc pins s σ H _ I h) fun d s1 ⟨H1,I1,q1⟩=>?_)
 cases d with
 | true=>exact ha pins s1 σ H1 D I1 q1
 | false=>exact hb pins s1 σ H1 D I1 q1
noncomputable def Rw:TS:=fun _ _ _=>False
theorem JM {sts:List Stmt}:Ew X sts Rw:=fun _ _ _ _ _ _ h=>h.elim
end
noncomputable abbrev TG:=V->St->Hp->(St->Hp->Prop)->Prop
noncomputable abbrev N7:=List V->St->Hp->(St->Hp->Prop)->Prop
noncomputable def PG (X:Cx)(target:Expr)(t:TG):Prop :=
 ∀ (pins:List (Addr×Obj)) (s:Shared) (σ:St) (H:Hp) (v:V) (u:Value) (Q:St->Hp->Prop),Inv X pins σ H s->RelV v u->t v σ H Q ->
  wpAny (model X.prog X.w) X.A (assign target X.env u) (fun _ s'=>∃ σ' H',Inv X pins σ' H' s'/\Q σ' H') X.xe s
noncomputable def Rh (X:Cx)(ts:List Expr)(t:N7):Prop :=
 ∀ (pins:List (Addr×Obj)) (s:Shared) (σ:St) (H:Hp) (vs:List V) (us:List Value) (Q:St->Hp->Prop),Inv X pins σ H s->Vals vs us->t vs σ H Q ->
  wpAny (model X.prog X.w) X.A (assignInOrder ((assignEach ts X.env).map (·.2)) us) (fun _ s'=>∃ σ' H',Inv X pins σ' H' s'/\Q σ' H') X.xe s
noncomputable abbrev NW:=V->V->V->Hp->(Hp->Prop)->Prop
noncomputable def UC (X:Cx)(t:NW):Prop :=
 ∀ (pins:List (Addr×Obj)) (s:Shared) (σ:St) (H:Hp) (o i v:V) (ov iv u:Value) (Q:Hp->Prop),Inv X pins σ H s->RelV o ov->RelV i iv->RelV v u->t o i v H Q ->
  wpAny (model X.prog X.w) X.A (setItem ov iv u) (fun _ s'=>∃ H',Inv X pins σ H' s'/\Q H') X.xe s
noncomputable abbrev U1:=V->V->Hp->VK->Prop
noncomputable def XI (X:Cx)(op:Operator)(t:U1):Prop :=
 ∀ (pins:List (Addr×Obj)) (s:Shared) (σ:St) (H:Hp) (x y:V) (v u:Value) (Q:VK),Inv X pins σ H s->RelV x v->RelV y u->t x y H Q ->
  wpAny (model X.prog X.w) X.A (inplaceOp op v u) (EP X pins σ Q) X.xe s
section
variable {X:Cx}{pos:Pos}
noncomputable def Nu (i:Nat):TG:=fun v σ H Q=>Q (σ.set i (some v)) H
theorem I0 {i:Nat}{x:Str}(hN:X.N.Nodup)(hi:X.N[i]?=some x)(hx:Loc X.env.scope x)(hf:X.fn x=true∨X.env.scope.names.lookup x=some .local:=by first | exact .inl rfl | exact .inr rfl | assumption):PG X (.Name x pos) (Nu i):=by
 intro pins s σ H v u Q I r h
 exact wpAny_assign_Name (zX I hN hi hx r (fun s' I'=>⟨_,H,I',h⟩) hf)
noncomputable def a0c:N7:=fun vs σ H Q=>vs=[]/\Q σ H
noncomputable def Xf (t:TG)(u:N7):N7:=fun vs σ H Q=>∃ v r,vs=v::r/\t v σ H fun σ' H'=>u r σ' H' Q
theorem IZ:Rh X [] a0c:=by
 intro pins s σ H vs us Q I r h
 obtain⟨e,h⟩:=h
 subst e
 cases r
 exact assignInOrder_nil ⟨σ,H,I,h⟩
theorem EZ {e:Expr}{es:List Expr}{t:TG}{u:N7}(h1:PG X e t)(h2:Rh X es u)
  (hs:(assignEach (e::es) X.env).map (·.2)=assign e X.env::(assignEach es X.env).map (·.2):=by rfl):Rh X (e::es) (Xf t u):=by
 intro pins s σ H vs us Q I r h
 obtain⟨v,vr,e1,h⟩:=h
 subst e1
 cases r with
 | cons r rr =>
  rw[hs]
  refine assignInOrder_cons (gm (h1 pins s σ H _ _ _ I r h) fun _ s1 ⟨σ1,H1,I1,q1⟩=>?_)
  exact h2 pins s1 σ1 H1 _ _ Q I1 rr q1
noncomputable def a0a (K:PySem.W.Frag)(n:Nat)(t:N7):TG:=fun v σ H Q=>∃ a xs,v=.ref a/\vo K H a xs/\xs.length=n/\t xs σ H Q
theorem Mz {es:List Expr}{k:Nat}{t:N7}{n:Nat}(hc:X.calm=true)(h:Rh X es t)
  (hn:(assignEach es X.env).length=n:=by rfl) (hst:(assignEach es X.env).findIdx? (·.1)=none:=by rfl):PG X (.Tuple es k pos) (a0a X.K n t):=by
 intro pins s σ H v u Q I r hw
 obtain⟨a,xs,e1,hq,hl,hw⟩:=hw
 subst e1
 cases r
 obtain⟨its,rv,ht,hz⟩:=I.tuple hq
 refine assign_Tuple_tuple (I.ok.hd hc) ht (by simp[hn,<- hl,rv.length]) hst fun h' hx=>?_
 have I1:Inv X pins σ H { s with heap:=h' }:=I.kept (t':=s.toks) fun b o e=>hx b o (Nat.ne_of_lt (Heap.lt_size e)) e
 exact h pins _ σ H xs _ Q I1 (by simpa using rv) hw
noncomputable def a0b (to ti:TE)(t:NW):TG:=fun v σ H Q=>to σ H fun o H1=>ti σ H1 fun i H2=>t o i v H2 fun H3=>Q σ H3
theorem Sz {o i:Expr}{to ti:TE}{t:NW}(ho:PE X o to)(hi:PE X i ti)(hs:UC X t)
  (ha:∀ v,assign (.Subscript o i pos) X.env v=(do
   let ov <- holding [v] (eval o X.env)
   let iv <- holding [v,ov] (eval i X.env)
   standAt pos
   holding [v,ov,iv] (setItem ov iv v)
   release [v,ov,iv] []):=by intro _;rfl):PG X (.Subscript o i pos) (a0b to ti t):=by
 intro pins s σ H v u Q I r h
 rw[ha]
 refine wpAny_bind (wpAny_holding (gm (ho pins s σ H _ I h) fun ov s1 ⟨x,H1,I1,r1,q1⟩=>?_))
 refine wpAny_bind (wpAny_holding (gm (hi pins s1 σ H1 _ I1 q1) fun iv s2 ⟨y,H2,I2,r2,q2⟩=>?_))
 refine wpAny_bind (wpAny_standAt (wpAny_bind (wpAny_holding (gm (hs pins s2 σ H2 x y v ov iv u _ I2 r1 r2 r q2) fun _ s3 ⟨H3,I3,q3⟩=>?_))))
 exact wpAny_release ⟨σ,H3,I3,q3⟩
noncomputable def RE (te:TE)(g:TG):TS:=fun D σ H=>te σ H fun x H1=>g x σ H1 D.nx
theorem Su {tg e:Expr}{te:TE}{g:TG}(he:PE X e te)(hg:PG X tg g)(hs:swapsWithSole [tg] e pos.line X.env=pure false:=by rfl)(hw:swappedStores [tg] e X.env=pure none:=by rfl)
  (h1:(assignEach [tg] X.env).map (·.2)=[assign tg X.env]:=by rfl):PS X (.Assign [tg] e pos) (RE te g):=by
 intro pins s σ H D I h
 refine wpAny_Assign_stores (gm (he pins s σ H _ I h) fun v s1 ⟨x,H1,I1,r1,q1⟩=>?_) hs hw
 rw[h1]
 exact gm (hg pins s1 σ H1 x v _ I1 r1 q1) fun _ s2 q=>q
theorem Sk {i:Nat}{x:Str}{e:Expr}{te:TE}{pos':Pos}(hN:X.N.Nodup)(hi:X.N[i]?=some x)(hx:Loc X.env.scope x)(he:PE X e te)(hs:swapsWith e (some (.Name x pos')) pos.line X.env=pure false:=by rfl)(hf:X.fn x=true∨X.env.scope.names.lookup x=some .local:=by first | exact .inl rfl | exact .inr rfl | assumption) :
  PS X (.Assign [.Name x pos'] e pos) (RE te (Nu i)):=by
 intro pins s σ H D I h
 refine wpAny_Assign_Name (gm (he pins s σ H _ I h) fun v s1 ⟨y,H1,I1,r1,q1⟩=>?_) hs
 exact zX I1 hN hi hx r1 (fun s2 I2=>⟨_,H1,I2,q1⟩) hf
noncomputable def YQ (i:Nat)(te:TE)(ti:U1):TS:=fun D σ H=>∃ x,σ[i]?=some (some x)/\te σ H fun y H1=>ti x y H1 fun z H2=>D.nx (σ.set i (some z)) H2
theorem Ss {i:Nat}{x:Str}{e:Expr}{te:TE}{op:Operator}{ti:U1}{pos':Pos}(hN:X.N.Nodup)(hi:X.N[i]?=some x)(hx:Loc X.env.scope x)(he:PE X e te)(ho:XI X op ti)(hf:X.fn x=true∨X.env.scope.names.lookup x=some .local:=by first | exact .inl rfl | exact .inr rfl | assumption) :
  PS X (.AugAssign (.Name x pos') op e pos) (YQ i te ti):=by
 intro pins s σ H D I h
 obtain⟨v,e1,h⟩:=h
 obtain⟨m,hn,hl⟩:=I.loc
 have vis:Yk X.env.scope x:=by rcases hx with k | k;exact .inl k;exact .inr (.inl k)
 obtain⟨u,r,l⟩:=hl i x v hi e1 vis
 refine wpAny_AugAssign_Name ?_
 have go:wpAny (model X.prog X.w) X.A (eval e X.env) (fun w s₂=>wpAny (model X.prog X.w) X.A (inplaceOp op u w) (fun r s₃=>wpAny (model X.prog X.w) X.A (storeName X.env x r) (fun _=>SP X pins D .next) X.xe s₃) X.xe s₂) X.xe s:=by
  refine gm (he pins s σ H _ I h) ?_
  rintro w s1 ⟨y,H1,I1,r1,q1⟩
  refine gm (ho pins s1 σ H1 v y u w _ I1 r r1 q1) ?_
  rintro z s2 ⟨zv,H2,I2,r2,q2⟩
  exact zX I2 hN hi hx r2 (fun s3 I3=>⟨_,H2,I3,q2⟩) hf
 rcases l with ⟨hk,hm⟩ | ⟨hk,c,hc,hcell⟩
 ·exact wpAny_loadName_local I.ok.kind hk hn hm go
 ·rcases hk with hk | hk
  ·exact wpAny_loadName_cell I.ok.kind hk hc hcell go
  ·rcases hx with k | k
   ·have:X.env.scope.names.lookup x=some .free:=hk
    rw[k] at this;cases this
   ·have:X.env.scope.names.lookup x=some .free:=hk
    rw[k] at this;cases this
noncomputable def Vu (to ti te:TE)(Oh:V->V->Hp->VK->Prop)(XR:U1)(Og:NW):TS:=fun D σ H=>to σ H fun o H1=>ti σ H1 fun i H2=>Oh o i H2 fun x H3=>te σ H3 fun y H4=>XR x y H4 fun z H5=>Og o i z H5 fun H6=>D.nx σ H6
noncomputable def XJ (X:Cx)(t:V->V->Hp->VK->Prop):Prop :=
 ∀ (pins:List (Addr×Obj)) (s:Shared) (σ:St) (H:Hp) (o i:V) (ov iv:Value) (Q:VK),Inv X pins σ H s->RelV o ov->RelV i iv->t o i H Q ->
  wpAny (model X.prog X.w) X.A (getItem ov iv) (EP X pins σ Q) X.xe s
theorem OS {o i e:Expr}{to ti te:TE}{Oh:V->V->Hp->VK->Prop}{XR:U1}{Og:NW}{op:Operator}{tpos:Pos}(ho:PE X o to)(hi:PE X i ti)(hg:XJ X Oh)(he:PE X e te)(hp:XI X op XR)(hs:UC X Og)
  (ha:∀ ov iv new,augStore i ov iv new=(do holding [new,ov,iv] (setItem ov iv new);release [new,ov,iv] [];pure .next):=by intros;rfl):PS X (.AugAssign (.Subscript o i tpos) op e pos) (Vu to ti te Oh XR Og):=by
 intro pins s σ H D I h
 refine wpAny_AugAssign_SubscriptAny (gm (ho pins s σ H _ I h) fun ov s1 ⟨x1,H1,I1,r1,q1⟩=>?_) ha
 refine gm (hi pins s1 σ H1 _ I1 q1) ?_
 rintro iv s2 ⟨x2,H2,I2,r2,q2⟩
 refine gm (hg pins s2 σ H2 x1 x2 ov iv _ I2 r1 r2 q2) ?_
 rintro old s3 ⟨x3,H3,I3,r3,q3⟩
 refine gm (he pins s3 σ H3 _ I3 q3) ?_
 rintro v s4 ⟨x4,H4,I4,r4,q4⟩
 refine gm (hp pins s4 σ H4 x3 x4 old v _ I4 r3 r4 q4) ?_
 rintro new s5 ⟨x5,H5,I5,r5,q5⟩
 exact gm (hs pins s5 σ H5 x1 x2 x5 ov iv new _ I5 r1 r2 r5 q5) (by rintro _ s6 ⟨H6,I6,q6⟩;exact ⟨σ,H6,I6,q6⟩)
noncomputable def ZH (f:Int->Int->Int):U1:=fun x y H Q=>∃ i j,x=.int i/\y=.int j/\Q (.int (f i j)) H
theorem Nj:XI X .Add (ZH fun i j=>i+j):=by
 intro pins s σ H x y v u Q I r1 r2 h
 obtain⟨i,j,e1,e2,q⟩:=h
 subst e1;subst e2
 obtain⟨t,rfl⟩:=r1
 obtain⟨t',rfl⟩:=r2
 exact iadd_int ⟨.int _,H,I.tok _,⟨_,rfl⟩,q⟩
end
section
variable {X:Cx}{pos:Pos}
noncomputable def Rv (c:TT)(tb:TS):TS:=fun D σ H=>∃ W:Nat->St->Hp->Prop,(∃ m,W m σ H)/\∀ m σ H,W m σ H ->
 c σ H fun b H1=>if b=true then ∃ N:St->Hp->Prop,(∀ σ' H',N σ' H'->∃ m',m' < m/\W m' σ' H')/\tb { D with nx:=N,ct:=N,bk:=D.nx } σ H1 else D.nx σ H1
theorem Mu {c:Expr}{body:List Stmt}{tc:TT}{tb:TS}(hp:PassesOwn (model X.prog X.w) X.A X.env X.xe)(hc:PT X c tc)(hb:Ew X body tb):PS X (.While c body [] pos) (Rv tc tb):=by
 intro pins s σ H D I h
 obtain⟨W,⟨m0,w0⟩,turn⟩:=h
 refine wpAny_While (codeAny_whileLoop (fun n s'=>∃ σ' H',Inv X pins σ' H' s'/\W n σ' H') ?_ m0 ⟨σ,H,I,w0⟩)
 rintro n s1 ⟨σ1,H1,I1,w1⟩
 refine wpAny_passesOwn hp (gm (hc pins s1 σ1 H1 _ I1 (turn n σ1 H1 w1)) fun b s2 ⟨H2,I2,q2⟩=>?_)
 cases b with
 | true =>
  obtain⟨N,hN,q2⟩:=q2
  rw[if_pos rfl]
  refine wpAny_passesOwn hp (gm (hb pins s2 σ1 H2 _ I2 q2) fun f s3 q3=>?_)
  cases f with
  | next =>
   obtain⟨σ3,H3,I3,n3⟩:=q3
   obtain⟨m',hm,w3⟩:=hN σ3 H3 n3
   exact⟨m',hm,σ3,H3,I3,w3⟩
  | cont =>
   obtain⟨σ3,H3,I3,n3⟩:=q3
   obtain⟨m',hm,w3⟩:=hN σ3 H3 n3
   exact⟨m',hm,σ3,H3,I3,w3⟩
  | brk=>exact q3
  | ret v=>exact q3
 | false =>
  rw[if_neg Bool.false_ne_true]
  exact wpAny_execs_nil ⟨σ1,H2,I2,q2⟩
end
structure It where
 go:Nat->Hp->Prop
 LB:Nat->Hp->V->Hp->Prop
 stop:Nat->Hp->Prop
noncomputable def zz (X:Cx)(pins:List (Addr×Obj))(H:Hp)(b:Addr):Prop :=
 H b=none/\b≠X.env.locals/\b ∉ X.fs/\(b∈X.ex∨X.s₀.heap.objs.size<=b)/\(∀ x c,X.env.cells.lookup x=some c->c≠b)/\∀ p∈X.pn++pins,p.1≠b
theorem Inv.T5 {X:Cx}{pins:List (Addr×Obj)}{σ:St}{H H':Hp}{s:Shared}{b:Addr}(I:Inv X pins σ H s)(hb:s.heap.objs.size<=b)(hn:H' b=none):zz X pins H' b:=by
 refine⟨hn,Nat.ne_of_gt (Nat.lt_of_lt_of_le I.lt hb),I.V5 hb,.inr (Nat.le_trans I.sz hb),fun x c e z=>?_,fun p hp z=>?_⟩
 ·obtain⟨v,q⟩:=I.cell x c e
  exact absurd (Nat.lt_of_lt_of_le q.lt (by rw[z];exact hb)) (Nat.lt_irrefl _)
 ·exact absurd (Nat.lt_of_lt_of_le (Heap.lt_size (I.pin p hp).1) (by rw[z];exact hb)) (Nat.lt_irrefl _)
structure Turn (P:Program)(w:World)(K:PySem.W.Frag)(tg:Expr)(J:It)(fp:List Addr)(it:Addr)(tn:Nat->Heap->Prop):Prop where
 mem:it∈fp
 obj:∀ i h,tn i h->∀ b∈fp,∃ o,h.get? b=some o/\∀ v,o.data≠.cell v
 keep:∀ i h h',tn i h->(∀ b∈fp,∀ o,h.get? b=some o->h'.get? b=some o)->tn i h'
 item:∀ (X:Cx),X.prog=P->X.w=w->X.K=K->X.calm=true->∀ (i:Nat) (pins:List (Addr×Obj)) (s:Shared) (σ:St) (H:Hp) (E:Value->Shared->Prop),Inv X pins σ H s->(∀ b∈fp,zz X pins H b)->tn i s.heap->J.go i H ->
  wpAny (model P w) X.A (pyNext (.ref it)) (fun r s1=>∃ u,r=some u /\
   wpAny (model P w) X.A (letOwnedTupleGo tg (.ref it) u) (fun _ s2=>∃ x H',Inv X pins σ H' s2/\RelV x u/\J.LB i H x H'/\tn (i+1) s2.heap/\∀ b∈fp,H' b=none) E s1) E s
 done:∀ (X:Cx),X.prog=P->X.w=w->X.K=K->X.calm=true->∀ (i:Nat) (pins:List (Addr×Obj)) (s:Shared) (σ:St) (H:Hp) (E:Value->Shared->Prop),Inv X pins σ H s->(∀ b∈fp,zz X pins H b)->tn i s.heap->J.stop i H ->
  wpAny (model P w) X.A (pyNext (.ref it)) (fun r s1=>r=none/\Inv X pins σ H s1) E s
 self:∀ (A:Around) (i:Nat) (s:Shared) (Q:Value->Shared->Prop) (E:Value->Shared->Prop),tn i s.heap->Q (.ref it) s->wpAny (model P w) A (pyIter (.ref it)) Q E s
noncomputable abbrev TI:=St->Hp->(It->Hp->Prop)->Prop
noncomputable def PIE (X:Cx)(pins:List (Addr×Obj))(σ:St)(tg:Expr)(R:It->Hp->Prop)(itv:Value)(s2:Shared):Prop :=
 ∃ (it:Addr) (fp:List Addr) (tn:Nat->Heap->Prop) (J:It) (H':Hp),itv=.ref it/\Inv X pins σ H' s2/\Turn X.prog X.w X.K tg J fp it tn/\tn 0 s2.heap/\(∀ b∈fp,zz X pins H' b)/\R J H'
noncomputable def PI (X:Cx)(tg iter:Expr)(wi:TI):Prop :=
 ∀ (pins:List (Addr×Obj)) (s:Shared) (σ:St) (H:Hp) (R:It->Hp->Prop),Inv X pins σ H s->wi σ H R ->
  wpAny (model X.prog X.w) X.A (eval iter X.env) (fun v s1=>wpAny (model X.prog X.w) X.A (pyIter v) (PIE X pins σ tg R) X.xe s1) X.xe s
theorem Np {M:Model}{A:Around}{E:Value->Shared->Prop}{s:Shared}{tg:Expr}{it:Addr}{u:Value}{o:Obj}{n:String}{vs:Array Value}{Q:Unit->Shared->Prop}(ho:s.heap.get? it=some o)(hc:o.cls=.type n)(hd:o.data=.fields vs)
  (hn:["enumerate","zip","dict_itemiterator","dict_reverseitemiterator","odict_iterator","itertools.zip_longest","itertools.pairwise"].contains n=false) (hQ:Q () s):wpAny M A (letOwnedTupleGo tg (.ref it) u) Q E s:=by
 unfold letOwnedTupleGo
 cases tg <;> first
  | exact wpAny_pure hQ
  | (cases u <;> first
    | exact wpAny_pure hQ
    | (
      refine wpAny_bind (wpAny_load ho ?_)
      rw[hc,hd]
      show wpAny M A (if (["enumerate","zip","dict_itemiterator","dict_reverseitemiterator","odict_iterator","itertools.zip_longest","itertools.pairwise"].contains n && vs[0]? == some (rawInt _))=true then _ else _) Q E s
      rw[if_neg (by intro h;rw[hn,Bool.false_and] at h;cases h)]
      exact wpAny_pure hQ))
noncomputable def Yo (K:PySem.W.Frag)(a:Addr):It :=
 ⟨fun i H=>∃ xs x,rR K H a xs/\xs[i]?=some x,fun i H x H'=>H'=H/\∀ xs,rR K H a xs->xs[i]?=some x,fun i H=>∃ xs,rR K H a xs/\xs.length<=i⟩
noncomputable def Itt (K:PySem.W.Frag)(a:Addr):It :=
 ⟨fun i H=>∃ xs x,vo K H a xs/\xs[i]?=some x,fun i H x H'=>H'=H/\∀ xs,vo K H a xs->xs[i]?=some x,fun i H=>∃ xs,vo K H a xs/\xs.length<=i⟩
noncomputable def Yn (lo:Int)(n:Nat):It:=⟨fun i _=>i < n,fun i H x H'=>H'=H/\x=.int (lo+i),fun i _=>n<=i⟩
theorem JE {P:Program}{w:World}{K:PySem.W.Frag}{tg:Expr}(a it:Addr):Turn P w K tg (Yo K a) [it] it (fun i h=>h.IsListIter it a i) where
 mem:=by simp
 obj:=fun i h st b hb=>by
  have e:b=it:=by simpa using hb
  subst e
  obtain⟨o,e,c,d⟩:=st
  exact⟨o,e,fun v z=>by rw[d] at z;cases z⟩
 keep:=fun i h h' st k=>st.at fun o e=>k it (by simp) o e
 item:=by
  intro X hP hw hK hc i pins s σ H E I hf st hg
  subst hP hw hK
  obtain⟨xs,x,hq,hx⟩:=hg
  obtain⟨its,rv,p,hz⟩:=I.list hq
  obtain⟨u,hu,ru⟩:=rv.get hx
  obtain⟨f0,f1,f2,f3,f4,f5⟩:=hf it (by simp)
  refine wpAny_pyNext_list_item st p.isList (x:=u) (by simpa using hu) fun h' st' sb=>?_
  have I1:Inv X pins σ H { s with heap:=h' }:=I.turned (t':=s.toks) (fun b o hb e=>(sb.2 b hb).trans e) f0 f1 f3 f4 f5
  obtain⟨o,e,c,d⟩:=id st'
  exact⟨u,rfl,Np (s:={ s with heap:=h' }) e c d (by decide) ⟨x,H,I1,ru,⟨rfl,fun ys hy=>by rw[I.M3 hy hq];exact hx⟩,st',fun b hb=>(hf b hb).1⟩⟩
 done:=by
  intro X hP hw hK hc i pins s σ H E I hf st hg
  subst hP hw hK
  obtain⟨xs,hq,hx⟩:=hg
  obtain⟨its,rv,p,hz⟩:=I.list hq
  obtain⟨f0,f1,f2,f3,f4,f5⟩:=hf it (by simp)
  have hl:=rv.length
  exact wpAny_pyNext_list_end (I.ok.hd hc) st p.isList (by simp;omega) fun h' eb=>⟨rfl,I.turned (t':=s.toks) (fun b o hb e=>eb b o hb e) f0 f1 f3 f4 f5⟩
 self:=fun _ _ _ _ _ st h=>wpAny_pyIter_listiter st h
theorem Gy {P:Program}{w:World}{K:PySem.W.Frag}{tg:Expr}(a it:Addr):Turn P w K tg (Itt K a) [it] it (fun i h=>h.IsTupleIter it a i) where
 mem:=by simp
 obj:=fun i h st b hb=>by
  have e:b=it:=by simpa using hb
  subst e
  obtain⟨o,e,c,d⟩:=st
  exact⟨o,e,fun v z=>by rw[d] at z;cases z⟩
 keep:=fun i h h' st k=>st.at fun o e=>k it (by simp) o e
 item:=by
  intro X hP hw hK hc i pins s σ H E I hf st hg
  subst hP hw hK
  obtain⟨xs,x,hq,hx⟩:=hg
  obtain⟨its,rv,p,hz⟩:=I.tuple hq
  obtain⟨u,hu,ru⟩:=rv.get hx
  obtain⟨f0,f1,f2,f3,f4,f5⟩:=hf it (by simp)
  refine wpAny_pyNext_tuple_item st (show s.heap.IsTuple a its.toArray from p) (x:=u) (by simpa using hu) fun h' st' sb=>?_
  have I1:Inv X pins σ H { s with heap:=h' }:=I.turned (t':=s.toks) (fun b o hb e=>(sb.2 b hb).trans e) f0 f1 f3 f4 f5
  obtain⟨o,e,c,d⟩:=id st'
  exact⟨u,rfl,Np (s:={ s with heap:=h' }) e c d (by decide) ⟨x,H,I1,ru,⟨rfl,fun ys hy=>by rw[I.JF hy hq];exact hx⟩,st',fun b hb=>(hf b hb).1⟩⟩
 done:=by
  intro X hP hw hK hc i pins s σ H E I hf st hg
  subst hP hw hK
  obtain⟨xs,hq,hx⟩:=hg
  obtain⟨its,rv,p,hz⟩:=I.tuple hq
  obtain⟨f0,f1,f2,f3,f4,f5⟩:=hf it (by simp)
  have hl:=rv.length
  exact wpAny_pyNext_tuple_end (I.ok.hd hc) st (show s.heap.IsTuple a its.toArray from p) (by simp;omega) fun h' eb=>⟨rfl,I.turned (t':=s.toks) (fun b o hb e=>eb b o hb e) f0 f1 f3 f4 f5⟩
 self:=fun _ _ _ _ _ st h=>wpAny_pyIter_tupleiter st h
theorem Gz {P:Program}{w:World}{K:PySem.W.Frag}{tg:Expr}(it:Addr)(lo:Int)(n:Nat):Turn P w K tg (Yn lo n) [it] it (fun i h=>IsRangeIter h it (lo+(i:Nat)*1) ((n:Int) - (i:Nat)) 1) where
 mem:=by simp
 obj:=fun i h st b hb=>by
  have e:b=it:=by simpa using hb
  subst e
  exact⟨_,st,fun v z=>by
   have z':Data.fields _=Data.cell v:=z
   cases z'⟩
 keep:=fun i h h' st k=>k it (by simp) _ st
 item:=by
  intro X hP hw hK hc i pins s σ H E I hf st hg
  subst hP hw hK
  obtain⟨f0,f1,f2,f3,f4,f5⟩:=hf it (by simp)
  have W:=Walks.range (prog:=X.prog) (w:=X.w) (I.ok.hd hc) it lo 1 n
  refine W.item i s _ _ hg st fun v h' tk hv st' kk=>?_
  obtain⟨t,rfl⟩:=hv
  have I1:Inv X pins σ H { s with heap:=h',toks:=tk }:=I.turned (fun b o hb e=>kk b o (by simpa using hb) e) f0 f1 f3 f4 f5
  refine⟨_,rfl,Np (s:={ s with heap:=h',toks:=tk }) (n:="range_iterator") st' rfl rfl (by decide) ⟨.int (lo+i),H,I1,⟨t,?_⟩,⟨rfl,rfl⟩,st',fun b hb=>(hf b hb).1⟩⟩
  rw[Int.mul_one]
 done:=by
  intro X hP hw hK hc i pins s σ H E I hf st hg
  subst hP hw hK
  obtain⟨f0,f1,f2,f3,f4,f5⟩:=hf it (by simp)
  exact wpAny_pyNext_range_end (I.ok.hd hc) st (by have:n<=i:=hg;omega) fun h' eb=>⟨rfl,I.turned (t':=s.toks) (fun b o hb e=>eb b o hb e) f0 f1 f3 f4 f5⟩
 self:=fun _ _ _ _ _ st h=>wpAny_pyIter_rangeiter st h
end L2
namespace L2
open PySem PySem.Spec PyProof.Rows
section
variable {X:Cx}{tg:Expr}
theorem Mj {pins:List (Addr×Obj)}{σ:St}{H:Hp}{s:Shared}{R:It->Hp->Prop}{E:Value->Shared->Prop}{lo hi:Int}{t u v:Tok}{tk:Nat}(I:Inv X pins σ H s)(h1:-(2 ^ 62)<=lo)(h2:lo < 2 ^ 62)(h3:-(2 ^ 62)<=hi)(h4:hi < 2 ^ 62)
  (q:R (Yn lo (hi - lo).toNat) H):wpAny (model X.prog X.w) X.A (pyIter (.ref s.heap.objs.size)) (PIE X pins σ tg R) E { s with heap:=s.heap.push { cls:=.type "range",data:=.fields #[.int lo t,.int hi u,.int 1 v] },toks:=tk }:=by
 refine wpAny_pyIter_range (IsRange.new ..) (small_one h1 h2 h3 h4) ?_
 have I1:Inv X pins σ H { s with heap:=s.heap.push { cls:=.type "range",data:=.fields #[.int lo t,.int hi u,.int 1 v] },toks:=tk }:=I.kept fun b o e=>Heap.get?_push_of_some _ e
 refine⟨(s.heap.push { cls:=.type "range",data:=.fields #[.int lo t,.int hi u,.int 1 v] }).objs.size,[(s.heap.push { cls:=.type "range",data:=.fields #[.int lo t,.int hi u,.int 1 v] }).objs.size],_,_,H,rfl,
  I1.kept (t':=tk) fun b o e=>Heap.get?_push_of_some _ e,Gz _ lo (hi - lo).toNat,?_,fun b hb=>?_,q⟩
 ·have e1:lo+((0:Nat):Int)*1=lo:=by simp
  have e2:(((hi - lo).toNat:Nat):Int) - ((0:Nat):Int)=Builtin.Range.rangeSize lo hi 1:=by rw[rangeSize_one];split <;> omega
  show IsRangeIter _ _ (lo+((0:Nat):Int)*1) ((((hi - lo).toNat:Nat):Int) - ((0:Nat):Int)) 1
  rw[e1,e2]
  exact Heap.get?_push_size _ rfl
 ·have e:b=(s.heap.push { cls:=.type "range",data:=.fields #[.int lo t,.int hi u,.int 1 v] }).objs.size:=by simpa using hb
  subst e
  exact I1.T5 (Nat.le_refl _) (I1.hok.fresh (Nat.le_refl _))
noncomputable def W3 (ta:TA):TI:=fun σ H R=>ta σ H fun vs H1=>∃ j:Int,vs=[.int j]/\-(2 ^ 62)<=j/\j < 2 ^ 62/\R (Yn 0 j.toNat) H1
theorem JO {a:Expr}{ta:TA}{p pos:Pos}(hg:Gl X "range")(hm:X.mg "range"=none)(ha:PA X [a] ta)(hs:starEach [a] X.env=[(false,eval a X.env)]:=by rfl):PI X tg (.Call (.Name "range" p) [a] [] pos) (W3 ta):=by
 intro pins s σ H R I h
 refine Call_ (DU I hg hm boot_range (PyProof.Rows.callWith_type1 (gm (ha pos pins s σ H _ I h) fun us s1 ⟨vs,H1,I1,r1,q1⟩=>?_) hs rfl))
 obtain⟨j,e,q1,q2,q⟩:=q1
 subst e
 cases r1 with
 | cons r rr =>
  cases rr
  obtain⟨t,rfl⟩:=r
  exact call_range_1 (Mj I1 (by omega) (by omega) q1 q2 (by simpa using q))
noncomputable def YM (wi:TI)(g:TG)(tb:TS):TS:=fun D σ H=>wi σ H fun J H1=>∃ W:Nat->Nat->St->Hp->Prop,(∃ m,W 0 m σ H1)/\∀ i m σ H,W i m σ H ->
 (J.stop i H/\D.nx σ H)∨(J.go i H/\∃ N:St->Hp->Prop,(∀ σ' H',N σ' H'->∃ m',m' < m/\W (i+1) m' σ' H')/\∀ x H',J.LB i H x H'->g x σ H' fun σ2 H2=>tb { D with nx:=N,ct:=N,bk:=D.nx } σ2 H2)
noncomputable def AD (fp:List Addr)(h:Heap):List (Addr×Obj):=fp.filterMap fun b=>(h.get? b).map fun o=>(b,o)
theorem qd {fp:List Addr}{h:Heap}{b:Addr}{o:Obj}(hb:b∈fp)(e:h.get? b=some o):(b,o)∈AD fp h:=List.mem_filterMap.mpr ⟨b,hb,by rw[e];rfl⟩
theorem J0 {fp:List Addr}{h:Heap}{p:Addr×Obj}(hp:p∈AD fp h):p.1∈fp/\h.get? p.1=some p.2:=by
 obtain⟨b,hb,e⟩:=List.mem_filterMap.mp hp
 cases q:h.get? b with
 | none=>rw[q] at e;cases e
 | some o =>
  rw[q] at e
  have e':(b,o)=p:=Option.some.inj e
  subst e'
  exact⟨hb,q⟩
theorem Inv.pinned {pins:List (Addr×Obj)}{σ:St}{H:Hp}{s:Shared}{fp:List Addr}(I:Inv X pins σ H s)(hf:∀ b∈fp,zz X pins H b)(ho:∀ b∈fp,∃ o,s.heap.get? b=some o/\∀ v,o.data≠.cell v):Inv X (pins++AD fp s.heap) σ H s :=
 I.zP fun p hp=>(List.mem_append.mp hp).elim (fun z=>I.pin p (List.mem_append_right _ z)) fun z=>by
  obtain⟨hb,e⟩:=J0 z
  obtain⟨f0,f1,f2,_⟩:=hf p.1 hb
  obtain⟨o,e',d⟩:=ho p.1 hb
  rw[e] at e';cases e'
  exact⟨e,f0,f1,f2,d⟩
theorem Inv.wj {pins pl:List (Addr×Obj)}{σ:St}{H:Hp}{s:Shared}(I:Inv X (pins++pl) σ H s):Inv X pins σ H s:=I.zP fun p hp=>I.pin p (List.mem_append_right _ (List.mem_append_left _ hp))
theorem So {iter:Expr}{body:List Stmt}{wi:TI}{g:TG}{tb:TS}{pos:Pos}(hp:PassesOwn (model X.prog X.w) X.A X.env X.xe)(hc:X.calm=true)(hi:PI X tg iter wi)(hg:PG X tg g)(hb:Ew X body tb)
  (hs:∀ x,foldedSetIterable iter X.env x=pure x:=by intro _;rfl):PS X (.For tg iter body [] pos) (YM wi g tb):=by
 intro pins s σ H D I h
 refine wpAny_For (gm (hi pins s σ H _ I h) fun v s1 h1=>gm h1 fun itv s2 h2=>?_) hs
 obtain⟨it,fp,tn,J,H2,e,I2,T,st2,f2,W,⟨m0,w0⟩,turn⟩:=h2
 subst e
 have RI:∀ {H':Hp},(∀ b∈fp,H' b=none)->∀ b∈fp,zz X pins H' b:=fun hn b hb=>⟨hn b hb,(f2 b hb).2⟩
 refine codeAny_forLoop_any (fun n s'=>∃ i σ' H',Inv X pins σ' H' s'/\tn i s'.heap/\(∀ b∈fp,H' b=none)/\W i n σ' H') ?_ m0 ⟨0,σ,H2,I2,st2,fun b hb=>(f2 b hb).1,w0⟩
 rintro n s3 ⟨i,σ3,H3,I3,st3,fr3,w3⟩
 rcases turn i n σ3 H3 w3 with ⟨stop,qn⟩ | ⟨go,N,hN,step⟩
 ·refine wpAny_passesOwn hp (gm (T.done X rfl rfl rfl hc i pins s3 σ3 H3 X.xe I3 (RI fr3) st3 stop) fun r s4 ⟨hr,I4⟩=>?_)
  subst hr
  exact wpAny_execs_nil ⟨σ3,H3,I4,qn⟩
 ·refine wpAny_passesOwn hp (gm (T.item X rfl rfl rfl hc i pins s3 σ3 H3 X.xe I3 (RI fr3) st3 go) fun r s4 ⟨u,hr,h4⟩=>?_)
  subst hr
  refine wpAny_passesOwn hp (gm h4 fun _ s5 ⟨x,H5,I5,r5,y5,YS,fr5⟩=>?_)
  have I5':=I5.pinned (RI fr5) (T.obj _ _ YS)
  refine wpAny_passesOwn hp (gm (hg _ s5 σ3 H5 x u _ I5' r5 (step x H5 y5)) fun _ s6 ⟨σ6,H6,I6,q6⟩=>?_)
  refine wpAny_passesOwn hp (gm (hb _ s6 σ6 H6 _ I6 q6) fun f s7 q7=>?_)
  have again:∀ {σ7:St} {H7:Hp},Inv X (pins++AD fp s5.heap) σ7 H7 s7->N σ7 H7->∃ m,m < n/\∃ i σ' H',Inv X pins σ' H' s7/\tn i s7.heap/\(∀ b∈fp,H' b=none)/\W i m σ' H':=fun {σ7 H7} I7 n7=>by
   obtain⟨m',hm,w7⟩:=hN σ7 H7 n7
   refine⟨m',hm,i+1,σ7,H7,I7.wj,T.keep _ _ _ YS fun b hb o e=>(I7.pin (b,o) (List.mem_append_right _ (List.mem_append_right _ (qd hb e)))).1,fun b hb=>?_,w7⟩
   obtain⟨o,e,d⟩:=T.obj _ _ YS b hb
   exact(I7.pin (b,o) (List.mem_append_right _ (List.mem_append_right _ (qd hb e)))).2.1
  cases f with
  | next=>obtain⟨σ7,H7,I7,n7⟩:=q7;exact again I7 n7
  | cont=>obtain⟨σ7,H7,I7,n7⟩:=q7;exact again I7 n7
  | brk=>obtain⟨σ7,H7,I7,q7⟩:=q7;exact⟨σ7,H7,I7.wj,q7⟩
  | ret v=>obtain⟨x7,σ7,H7,I7,r7,q7⟩:=q7;exact⟨x7,σ7,H7,I7.wj,r7,q7⟩
end
end L2
namespace L2
open PySem PySem.Spec PyProof.Rows
noncomputable abbrev R2:=V->V->Hp->VK->Prop
noncomputable def qF (X:Cx)(f:Value->Value->Sem Value)(r:R2):Prop :=
 ∀ (pins:List (Addr×Obj)) (s:Shared) (σ:St) (H:Hp) (x y:V) (v u:Value) (Q:VK),Inv X pins σ H s->RelV x v->RelV y u->r x y H Q ->
  wpAny (model X.prog X.w) X.A (f v u) (EP X pins σ Q) X.xe s
noncomputable def UnR (X:Cx)(f:Value->Sem Value)(r:V->Hp->VK->Prop):Prop :=
 ∀ (pins:List (Addr×Obj)) (s:Shared) (σ:St) (H:Hp) (x:V) (v:Value) (Q:VK),Inv X pins σ H s->RelV x v->r x H Q ->
  wpAny (model X.prog X.w) X.A (f v) (EP X pins σ Q) X.xe s
noncomputable def jk (X:Cx)(f:Value)(r:List V->Hp->VK->Prop):Prop :=
 ∀ (pins:List (Addr×Obj)) (s:Shared) (σ:St) (H:Hp) (xs:List V) (us:List Value) (Q:VK),Inv X pins σ H s->Vals xs us->r xs H Q ->
  wpAny (model X.prog X.w) X.A (call f us) (EP X pins σ Q) X.xe s
noncomputable def Ve (r:R2)(ta tb:TE):TE:=fun σ H Q=>ta σ H fun x H1=>tb σ H1 fun y H2=>r x y H2 Q
noncomputable def tUn (r:V->Hp->VK->Prop)(ta:TE):TE:=fun σ H Q=>ta σ H fun x H1=>r x H1 Q
noncomputable def rI (C:Int->Int->Prop)(g:Int->Int->V):R2:=fun x y H Q=>∃ i j,x=.int i/\y=.int j/\C i j/\Q (g i j) H
noncomputable def R7 (g:Int->Int->V):R2:=fun x y H Q=>∃ i j,x=.int i/\y=.int j/\Q (g i j) H
noncomputable def rU (g:Int->V):V->Hp->VK->Prop:=fun x H Q=>∃ i,x=.int i/\Q (g i) H
section
variable {X:Cx}{a b c:Expr}{ta tb tc:TE}{pos:Pos}
theorem Uv (ha:PE X a ta)(hb:PE X b tb){pins:List (Addr×Obj)}{s:Shared}{σ:St}{H:Hp}{R:V->V->Hp->Prop}(I:Inv X pins σ H s)
  (h:ta σ H fun x H1=>tb σ H1 fun y H2=>R x y H2) {Q:Value->Shared->Prop} {f:Value->Value->Sem Value}
  (hf:∀ v u s2 x y H2,Inv X pins σ H2 s2->RelV x v->RelV y u->R x y H2->wpAny (model X.prog X.w) X.A (f v u) Q X.xe s2) :
  wpAny (model X.prog X.w) X.A (eval a X.env) (fun v s₁=>wpAny (model X.prog X.w) X.A (eval b X.env) (fun u s₂=>wpAny (model X.prog X.w) X.A (f v u) Q X.xe s₂) X.xe s₁) X.xe s:=by
 refine gm (ha pins s σ H _ I h) ?_
 rintro v s1 ⟨x,H1,I1,r1,q1⟩
 refine gm (hb pins s1 σ H1 _ I1 q1) ?_
 rintro u s2 ⟨y,H2,I2,r2,q2⟩
 exact hf v u s2 x y H2 I2 r1 r2 q2
theorem VT {op:Operator}{r:R2}(ho:qF X (binaryOp op) r)(ha:PE X a ta)(hb:PE X b tb):PE X (.BinOp a op b pos) (Ve r ta tb):=by
 intro pins s σ H Q I h
 exact wpAny_BinOp (Uv ha hb I h fun v u s2 x y H2 I2 rx ry q=>ho pins s2 σ H2 x y v u Q I2 rx ry q)
theorem VS {op:UnaryOp}{r:V->Hp->VK->Prop}(ho:UnR X (unaryOp op) r)(ha:PE X a ta):PE X (.UnaryOp op a pos) (tUn r ta):=by
 intro pins s σ H Q I h
 exact UnaryOp_ (gm (ha pins s σ H _ I h) (by rintro v s1 ⟨x,H1,I1,r1,q1⟩;exact ho pins s1 σ H1 x v Q I1 r1 q1))
theorem Zb {f:Value->Value->Sem Value}{C:Int->Int->Prop}{g:Int->Int->Int}
  (rule:∀ (i j:Int) (t u:Tok) (s:Shared) (Q:Value->Shared->Prop) (E:Value->Shared->Prop),C i j->Q (.int (g i j) s.toks) { s with toks:=s.toks+1 }->wpAny (model X.prog X.w) X.A (f (.int i t) (.int j u)) Q E s) :
  qF X f (rI C fun i j=>.int (g i j)):=by
 intro pins s σ H x y v u Q I rx ry h
 obtain⟨i,j,rfl,rfl,hc,q⟩:=h
 obtain⟨t,rfl⟩:=rx
 obtain⟨t',rfl⟩:=ry
 exact rule i j t t' s _ _ hc ⟨.int (g i j),H,I.tok _,⟨_,rfl⟩,q⟩
theorem V2 {f:Value->Value->Sem Value}{g:Int->Int->Int}
  (rule:∀ (i j:Int) (t u:Tok) (s:Shared) (Q:Value->Shared->Prop) (E:Value->Shared->Prop),Q (.int (g i j) s.toks) { s with toks:=s.toks+1 }->wpAny (model X.prog X.w) X.A (f (.int i t) (.int j u)) Q E s) :
  qF X f (R7 fun i j=>.int (g i j)):=by
 intro pins s σ H x y v u Q I rx ry h
 obtain⟨i,j,rfl,rfl,q⟩:=h
 obtain⟨t,rfl⟩:=rx
 obtain⟨t',rfl⟩:=ry
 exact rule i j t t' s _ _ ⟨.int (g i j),H,I.tok _,⟨_,rfl⟩,q⟩
theorem V3 {f:Value->Value->Sem Value}{g:Int->Int->Bool}
  (rule:∀ (i j:Int) (t u:Tok) (s:Shared) (Q:Value->Shared->Prop) (E:Value->Shared->Prop),Q (.bool (g i j)) s->wpAny (model X.prog X.w) X.A (f (.int i t) (.int j u)) Q E s) :
  qF X f (R7 fun i j=>.bl (g i j)):=by
 intro pins s σ H x y v u Q I rx ry h
 obtain⟨i,j,rfl,rfl,q⟩:=h
 obtain⟨t,rfl⟩:=rx
 obtain⟨t',rfl⟩:=ry
 exact rule i j t t' s _ _ ⟨.bl (g i j),H,I,rfl,q⟩
noncomputable def XN (i j:Int):Prop:=0 < j/\j < 1073741824
noncomputable def Qf (i j:Int):Prop:=(-(2 ^ 64) < i/\i < 2 ^ 64)∨(-(2 ^ 64) < j/\j < 2 ^ 64)
theorem Qf.ok {i j:Int}(h:Qf i j):IntMulOk i j:=by
 rcases h with ⟨h1,h2⟩ | ⟨h1,h2⟩
 ·exact .of_left (intBits_le_64 h1 h2)
 ·exact .of_right (intBits_le_64 h1 h2)
theorem SS:qF X (binaryOp .Add) (R7 fun i j=>.int (i+j)):=V2 fun _ _ _ _ _ _ _ q=>add_int q
theorem SK:qF X (binaryOp .Sub) (R7 fun i j=>.int (i - j)):=V2 fun _ _ _ _ _ _ _ q=>sub_int q
theorem SO:qF X (binaryOp .Mult) (rI Qf fun i j=>.int (i*j)):=Zb fun _ _ _ _ _ _ _ hc q=>mul_int q hc.ok
theorem O7:qF X (binaryOp .FloorDiv) (rI XN fun i j=>.int (i / j)):=Zb fun i j _ _ _ _ _ hc q=>by
 have h1:(0:Int) < j:=hc.1
 have h2:j < 1073741824:=hc.2
 exact floordiv_int (by omega) (by rw[Int.fdiv_eq_ediv_of_nonneg i (by omega)];exact q) (.inl (PyProof.noPylong_small (by omega)))
theorem SQ:qF X (binaryOp .Mod) (rI (fun _ j=>0 < j) fun i j=>.int (i % j)):=Zb fun i j _ _ _ _ _ hc q=>by
 have h1:(0:Int) < j:=hc
 exact mod_int' (by omega) (by rw[Int.fmod_eq_emod_of_nonneg i (by omega)];exact q)
theorem unI {f:Value->Sem Value}{g:Int->Int}
  (rule:∀ (i:Int) (t:Tok) (s:Shared) (Q:Value->Shared->Prop) (E:Value->Shared->Prop),Q (.int (g i) s.toks) { s with toks:=s.toks+1 }->wpAny (model X.prog X.w) X.A (f (.int i t)) Q E s) :
  UnR X f (rU fun i=>.int (g i)):=by
 intro pins s σ H x v Q I rx h
 obtain⟨i,rfl,q⟩:=h
 obtain⟨t,rfl⟩:=rx
 exact rule i t s _ _ ⟨.int (g i),H,I.tok _,⟨_,rfl⟩,q⟩
theorem Rr:UnR X (unaryOp .USub) (rU fun i=>.int (-i)):=unI fun _ _ _ _ _ q=>neg_int q
end
noncomputable def RV:V->V->Bool
 | .fE,.fE=>true | .fE,.int _=>true | .int _,.fE=>true | .fE,.bl _=>true | .bl _,.fE=>true | .fE,.str _=>true | .str _,.fE=>true
 | .int _,.int _=>true | .bl _,.bl _=>true | .str _,.str _=>true | .Lm _,.Lm _=>true
 | .int _,.str _=>true | .str _,.int _=>true | .bl _,.str _=>true | .str _,.bl _=>true
 | _,_=>false
noncomputable def rEq:R2:=fun x y H Q=>RV x y=true/\Q (.bl (decide (x=y))) H
noncomputable def rNe:R2:=fun x y H Q=>RV x y=true/\Q (.bl (!decide (x=y))) H
theorem Jo {i j:Int}:decide (V.int i=V.int j)=(i == j):=by
 rw[Bool.eq_iff_iff]
 simp
theorem NJ {i j:Bool}:decide (V.bl i=V.bl j)=(i == j):=by
 rw[Bool.eq_iff_iff]
 simp
theorem Jm {i j:Str}:decide (V.str i=V.str j)=(i == j):=by
 rw[Bool.eq_iff_iff]
 simp
theorem Jp {i j:Array UInt8}:decide (V.Lm i=V.Lm j)=(i.toList == j.toList):=by
 rw[Bool.eq_iff_iff]
 cases i
 cases j
 simp
section
variable {X:Cx}{a b c:Expr}{ta tb tc:TE}{pos:Pos}
theorem cK {pins:List (Addr×Obj)}{σ:St}{H:Hp}{s:Shared}{Q:VK}{k k':Bool}(I:Inv X pins σ H s)(q:Q (.bl k) H)(e:k=k'):EP X pins σ Q (.bool k') s:=by
 subst e
 exact⟨.bl k,H,I,rfl,q⟩
theorem V1:qF X (compareOp .Eq) rEq:=by
 intro pins s σ H x y v u Q I rx ry h
 obtain⟨hs,q⟩:=h
 cases x with
 | fE =>
  cases rx
  cases y with
  | fE=>cases ry;exact PySem.EqNone.eq_none_none (cK I q (by simp))
  | bl j=>cases ry;exact PySem.EqNone.eq_none_bool (cK I q (by simp))
  | int j=>obtain⟨t',rfl⟩:=ry;exact PySem.EqNone.eq_none_int (cK I q (by simp))
  | str j=>obtain⟨t',rfl⟩:=ry;exact PySem.EqNone.eq_none_str (cK I q (by simp))
  | _=>exact absurd (show false=true from hs) Bool.false_ne_true
 | bl i =>
  cases rx
  cases y with
  | fE=>cases ry;exact PySem.EqNone.eq_bool_none (cK I q (by simp))
  | bl j=>cases ry;exact eq_bool (cK I q NJ)
  | str j=>obtain⟨t',rfl⟩:=ry;exact PySem.EqMixed.eq_bool_str (cK I q (by simp))
  | _=>exact absurd (show false=true from hs) Bool.false_ne_true
 | int i =>
  obtain⟨t,rfl⟩:=rx
  cases y with
  | fE=>cases ry;exact PySem.EqNone.eq_int_none (cK I q (by simp))
  | int j=>obtain⟨t',rfl⟩:=ry;exact eq_int (cK I q Jo)
  | str j=>obtain⟨t',rfl⟩:=ry;exact PySem.EqMixed.eq_int_str (cK I q (by simp))
  | _=>exact absurd (show false=true from hs) Bool.false_ne_true
 | str i =>
  obtain⟨t,rfl⟩:=rx
  cases y with
  | fE=>cases ry;exact PySem.EqNone.eq_str_none (cK I q (by simp))
  | bl j=>cases ry;exact PySem.EqMixed.eq_str_bool (cK I q (by simp))
  | int j=>obtain⟨t',rfl⟩:=ry;exact PySem.EqMixed.eq_str_int (cK I q (by simp))
  | str j=>obtain⟨t',rfl⟩:=ry;exact eq_str (cK I q Jm)
  | _=>exact absurd (show false=true from hs) Bool.false_ne_true
 | Lm i =>
  obtain⟨t,rfl⟩:=rx
  cases y with
  | Lm j=>obtain⟨t',rfl⟩:=ry;exact PySem.W.eq_bytes (cK I q Jp)
  | _=>exact absurd (show false=true from hs) Bool.false_ne_true
 | _=>cases y <;> exact absurd (show false=true from hs) Bool.false_ne_true
theorem VY:qF X (compareOp .NotEq) rNe:=by
 intro pins s σ H x y v u Q I rx ry h
 obtain⟨hs,q⟩:=h
 cases x with
 | fE =>
  cases rx
  cases y with
  | fE=>cases ry;exact PySem.EqNone.ne_none_none (cK I q (by simp))
  | bl j=>cases ry;exact PySem.EqNone.ne_none_bool (cK I q (by simp))
  | int j=>obtain⟨t',rfl⟩:=ry;exact PySem.EqNone.ne_none_int (cK I q (by simp))
  | str j=>obtain⟨t',rfl⟩:=ry;exact PySem.EqNone.ne_none_str (cK I q (by simp))
  | _=>exact absurd (show false=true from hs) Bool.false_ne_true
 | bl i =>
  cases rx
  cases y with
  | fE=>cases ry;exact PySem.EqNone.ne_bool_none (cK I q (by simp))
  | bl j=>cases ry;exact ne_bool (cK I q (congrArg not NJ))
  | str j=>obtain⟨t',rfl⟩:=ry;exact PySem.EqMixed.ne_bool_str (cK I q (by simp))
  | _=>exact absurd (show false=true from hs) Bool.false_ne_true
 | int i =>
  obtain⟨t,rfl⟩:=rx
  cases y with
  | fE=>cases ry;exact PySem.EqNone.ne_int_none (cK I q (by simp))
  | int j=>obtain⟨t',rfl⟩:=ry;exact ne_int (cK I q (congrArg not Jo))
  | str j=>obtain⟨t',rfl⟩:=ry;exact PySem.EqMixed.ne_int_str (cK I q (by simp))
  | _=>exact absurd (show false=true from hs) Bool.false_ne_true
 | str i =>
  obtain⟨t,rfl⟩:=rx
  cases y with
  | fE=>cases ry;exact PySem.EqNone.ne_str_none (cK I q (by simp))
  | bl j=>cases ry;exact PySem.EqMixed.ne_str_bool (cK I q (by simp))
  | int j=>obtain⟨t',rfl⟩:=ry;exact PySem.EqMixed.ne_str_int (cK I q (by simp))
  | str j=>obtain⟨t',rfl⟩:=ry;exact ne_str (cK I q (congrArg not Jm))
  | _=>exact absurd (show false=true from hs) Bool.false_ne_true
 | Lm i =>
  obtain⟨t,rfl⟩:=rx
  cases y with
  | Lm j=>obtain⟨t',rfl⟩:=ry;exact PySem.W.ne_bytes (cK I q (congrArg not Jp))
  | _=>exact absurd (show false=true from hs) Bool.false_ne_true
 | _=>cases y <;> exact absurd (show false=true from hs) Bool.false_ne_true
theorem VZ:qF X (compareOp .Lt) (R7 fun i j=>.bl (decide (i < j))):=V3 fun _ _ _ _ _ _ _ q=>lt_int q
theorem V0:qF X (compareOp .Gt) (R7 fun i j=>.bl (decide (j < i))):=V3 fun _ _ _ _ _ _ _ q=>gt_int q
theorem O6:qF X (compareOp .IsNot) (fun x y H Q=>y=.fE/\Q (.bl (!decide (x=.fE))) H):=by
 intro pins s σ H x y v u Q I rx ry h
 obtain⟨rfl,q⟩:=h
 cases ry
 refine isnot_none_gen (cK I q ?_)
 cases x <;> first
  | (cases rx;rfl)
  | (obtain⟨t,rfl⟩:=rx;rfl)
theorem qF.or {f:Value->Value->Sem Value}{r r':R2}(h:qF X f r)(h':qF X f r'):qF X f (fun x y H Q=>r x y H Q∨r' x y H Q):=by
 intro pins s σ H x y v u Q I rx ry q
 rcases q with q | q
 ·exact h pins s σ H x y v u Q I rx ry q
 ·exact h' pins s σ H x y v u Q I rx ry q
theorem aJ (b:Expr){op:CmpOp}(h:op≠.In:=by decide)(h2:op≠.NotIn:=by decide):behindInMarks op b=false:=by
 have e1:(op == CmpOp.In)=false:=by cases op <;> first | rfl | exact absurd rfl h
 have e2:(op == CmpOp.NotIn)=false:=by cases op <;> first | rfl | exact absurd rfl h2
 cases b <;> simp[behindInMarks,e1,e2]
theorem O2 {op:CmpOp}{r:R2}(ho:qF X (compareOp op) r)(ha:PE X a ta)(hb:PE X b tb)(hm:behindInMarks op b=false):PE X (.Compare a [op] [b] pos) (Ve r ta tb):=by
 intro pins s σ H Q I h
 exact wpAny_Compare1 (Uv ha hb I h fun v u s2 x y H2 I2 rx ry q=>ho pins s2 σ H2 x y v u Q I2 rx ry q) hm
noncomputable def Qk (t:TE):TT:=fun σ H Q=>t σ H fun x H'=>∃ k,x=.bl k/\Q k H'
theorem ON {op:CmpOp}{r:R2}(ho:qF X (compareOp op) r)(ha:PE X a ta)(hb:PE X b tb)(hm:behindInMarks op b=false):PT X (.Compare a [op] [b] pos) (Qk (Ve r ta tb)):=by
 intro pins s σ H Q I h
 refine wpAny_isTrue_Compare1 (gm (ha pins s σ H _ I h) fun v s1 ⟨x,H1,I1,r1,q1⟩=>gm (hb pins s1 σ H1 _ I1 q1) fun u s2 ⟨y,H2,I2,r2,q2⟩ =>
  gm (ho pins s2 σ H2 x y v u _ I2 r1 r2 q2) fun c s3 ⟨z,H3,I3,r3,k,e,q3⟩=>?_) hm
 subst e
 cases r3
 exact wpAny_truthy_bool ⟨H3,I3,q3⟩
theorem uQ:(sizeLine:Nat) < 2 ^ 63:=by rw[sizeLine_eq];decide
theorem G2:qF X (binaryOp .Add) (fun x y H Q=>∃ i j,x=.str i/\y=.str j/\i.length+j.length<=sizeLine/\Q (.str (i++j)) H):=by
 intro pins s σ H x y v u Q I rx ry h
 obtain⟨i,j,rfl,rfl,hz,q⟩:=h
 obtain⟨t,rfl⟩:=rx
 obtain⟨t',rfl⟩:=ry
 exact add_str (fun t' tk=>⟨.str (i++j),H,I.tok _,⟨_,rfl⟩,q⟩) hz
theorem vals1 {x:V}{us:List Value}(r:Vals [x] us):∃ u,us=[u]/\RelV x u:=by
 cases r with
 | cons r1 r2=>cases r2;exact⟨_,rfl,r1⟩
theorem vals2 {x y:V}{us:List Value}(r:Vals [x,y] us):∃ u w',us=[u,w']/\RelV x u/\RelV y w':=by
 cases r with
 | cons r1 r2 =>
  cases r2 with
  | cons r3 r4=>cases r4;exact⟨_,_,rfl,r1,r3⟩
theorem NR:jk X (.builtin "abs") (fun xs H Q=>∃ i,xs=[.int i]/\Q (.int (if i < 0 then -i else i)) H):=by
 intro pins s σ H xs us Q I r h
 obtain⟨i,rfl,q⟩:=h
 obtain⟨u,rfl,t,rfl⟩:=vals1 r
 exact call_abs_int fun u tk=>⟨.int (if i < 0 then -i else i),H,I.tok _,⟨_,rfl⟩,q⟩
theorem KZ:jk X (.type "int") (fun xs H Q=>(∃ i,xs=[.int i]/\Q (.int i) H)∨∃ k,xs=[.bl k]/\Q (.int (if k then 1 else 0)) H):=by
 intro pins s σ H xs us Q I r h
 rcases h with ⟨i,rfl,q⟩ | ⟨k,rfl,q⟩
 ·obtain⟨u,rfl,t,rfl⟩:=vals1 r
  exact call_int_int ⟨.int i,H,I,⟨_,rfl⟩,q⟩
 ·obtain⟨u,rfl,r1⟩:=vals1 r
  cases r1
  exact call_int_bool ⟨.int (if k then 1 else 0),H,I.tok _,⟨_,rfl⟩,q⟩
theorem D7:jk X (.type "str") (fun xs H Q=>∃ i,xs=[.int i]/\i.natAbs.log2 < 1920/\Q (.str (toString i)) H):=by
 intro pins s σ H xs us Q I r h
 obtain⟨i,rfl,hz,q⟩:=h
 obtain⟨u,rfl,t,rfl⟩:=vals1 r
 exact PySem.P.str_of_int hz ⟨.str _,H,I.tok _,⟨_,rfl⟩,q⟩
end
end L2
namespace L2
open PySem PySem.Spec PyProof.Rows
structure HX (h:Heap)(x dx C:Addr)(mA:Str->Option Value):Prop where
 obj:h.get? x=some (PySem.W.instObj C dx)
 ns:h.Ns1 dx mA
 ne:dx≠x
theorem J6 {h:Heap}{dx:Addr}{mA:Str->Option Value}(n:h.Ns1 dx mA):∃ od,h.get? dx=some od/\∀ name,PySem.W.lookIn name od=some (mA name):=by
 obtain⟨o,es,ep,ho,hd,hk,_,hm⟩:=n
 refine⟨o,ho,fun name=>?_⟩
 have e:=hm name
 unfold nsFind findBy at e
 rw[<- Array.find?_toList] at e
 unfold PySem.W.lookIn
 rw[hd]
 dsimp only
 split
 ·rename_i y q
  rw[q] at e
  exact congrArg some e
 ·rename_i q
  rw[q] at e
  have a:es.toList.any (·.refKey)=false:=by
   rw[List.any_eq_false]
   intro y hy
   obtain⟨z,t,hkey⟩:=hk y (Array.mem_toList_iff.mp hy)
   simp[DictEntry.refKey,hkey]
  have a':¬ es.toList.any (·.refKey)=true:=by rw[a];exact Bool.false_ne_true
  rw[if_neg a']
  exact congrArg some e
theorem HX.look {h:Heap}{x dx C:Addr}{mA:Str->Option Value}(I:HX h x dx C mA):∃ od,PySem.W.InstAt h x (PySem.W.instObj C dx) C (some od)/\∀ name,PySem.W.lookIn name od=some (mA name) :=
 let ⟨od,ho,hl⟩:=J6 I.ns
 ⟨od,⟨I.obj,rfl,rfl,ho⟩,hl⟩
section
variable {prog:Program}{w:World}{A:Around}{E:Value->Shared->Prop}{s:Shared}{K:PySem.W.Frag}{x dx C f:Addr}{mA:Str->Option Value}{name:Str}{v:Value}
theorem get_map {expr:Bool}{Q:Value->Shared->Prop}(X:K.In s.heap)(I:HX s.heap x dx C mA)(hg:PySem.W.plainGet K C name=true)(hh:PySem.W.hasDictIn K C=true)
  (ha:PySem.W.findIn K (.ref C) name=some none) (hv:mA name=some v) (hv':PySem.W.handedIn v=true) (h:Q v { s with toks:=s.toks+1 }) :
  wpAny (model prog w) A (getAttr (.ref x) name expr) Q E s:=by
 obtain⟨od,J,hl⟩:=I.look
 exact PySem.W.get_value X J (PySem.W.plainGet_of hg).1 (PySem.W.findObj_own hh ha rfl (by rw[hl,hv])) hv' h
theorem Nq {pl:Sem Bool}{Q:Value×List Value->Shared->Prop}(X:K.In s.heap)(I:HX s.heap x dx C mA)(hg:PySem.W.plainGet K C name=true)
  (hf:PySem.W.findIn K (.ref C) name=some (some (.ref f))) (ht:PySem.W.isFn K (.ref f)=true) (hv:mA name=none) (h:Q (.ref f,[.ref x]) s) :
  wpAny (model prog w) A (getMethod (.ref x) name pl) Q E s:=by
 obtain⟨od,J,hl⟩:=I.look
 exact PySem.W.method_fn X J (PySem.W.plainGet_of hg).1 (PySem.W.plainGet_of hg).2 hf (beq_iff_eq.mp ht) (by show(PySem.W.lookIn name od).map (·.isSome)=some false;rw[hl,hv];rfl) h
theorem Ou {ns:List Str}{Q:Unit->Shared->Prop}(X:K.In s.heap)(I:HX s.heap x dx C mA)
  (hs:PySem.W.findIn K (.ref C) "__setattr__"=some (some (.builtin "object.__setattr__"))) (hp:PySem.W.plainOver K C=true) (ht:PySem.W.takerIn K C name=some none) (hh:PySem.W.hasDictIn K C=true)
  (hw:PySem.Within mA ns) (hsz:ns.length<=sizeLine)
  (h:∀ h',HX h' x dx C (fun y=>if y=name then some v else mA y)->Heap.SameBut dx s.heap h'->Q () { s with heap:=h',toks:=s.toks+2 }) :
  wpAny (model prog w) A (setAttr (.ref x) name v) Q E s:=by
 obtain⟨od,J,hl⟩:=I.look
 refine PySem.W.set_plain X J hs (PySem.W.osa_open (s:={ s with toks:=s.toks+1 }) (r:=none) X J hp ht fun b=>?_)
 obtain⟨cd,hc,hd'⟩:=PySem.W.any_some hh
 have hx:s.heap.get? x=some ⟨.ref C,some dx,.plain,#[]⟩:=I.obj
 refine wpAny_bind (wpAny_pure (wpAny_bind (wpAny_bind (wpAny_loadPart hx (wpAny_bind (PySem.W.Looks.here (s:={ s with toks:=s.toks+1 }) (PySem.W.looks_clsIn X hc) ?_))))))
 rw[hd']
 refine wpAny_pure (a:=some dx) (wpAny_bind (wpAny_pure (wpAny_bind ?_)))
 refine wpAny_nsSet1 (s:={ s with toks:=s.toks+1 }) I.ns fun h' hn2 hs2=>?_
 obtain⟨oD,esD,epD,hoD,hdD,hcD⟩:=hn2.count (PySem.Within.cons name v hw)
 refine wpAny_bind (wpAny_lookBehind hoD (by rw[hdD];exact pastItsLine_dict (Nat.le_trans hcD (by rw[List.length_cons];omega))) ?_)
 exact wpAny_pure (h _ ⟨(hs2.2 _ (Ne.symm I.ne)).trans I.obj,hn2,I.ne⟩ hs2)
theorem MW {R:Result->Shared->Prop}{vs:List Value}{kw:List (Str×Value)}(X:K.In s.heap)(hm:PySem.W.makesIn K C=true)
  (hi:PySem.W.findIn K (.ref C) "__init__"=some (some (.ref f))) (hf:PySem.W.typeIn K (.ref f)=some (.type "function"))
  (h:codeAny (model prog w) (A.under (.builtin "type.__call__" ⟨.ref C::vs,kw⟩)) (.call (.ref f) ⟨.ref (s.heap.objs.size+1)::vs,kw⟩) (PySem.W.InitBack (s.heap.objs.size+1) R)
   { s with heap:=(s.heap.push PySem.W.emptyDict).push (PySem.W.instObj C s.heap.objs.size) }) :
  codeAny (model prog w) A (.call (.ref C) ⟨vs,kw⟩) R s:=by
 obtain⟨hh,g,d,t,os⟩:=s
 exact PySem.W.make_core (PySem.W.makes_of X hm) (PySem.W.looks_findIn X hi) (fun self=>PySem.W.bind_fn X self hf) (.inl rfl) h
end
noncomputable def qD (f:Str)(v:V):List (Str×V)->List (Str×V)
 | []=>[(f,v)]
 | (g,x)::r=>if g=f then (g,v)::r else (g,x)::qD f v r
theorem yN (f g:Str)(v:V):∀ fs:List (Str×V),(qD f v fs).lookup g=if g=f then some v else fs.lookup g
 | []=>by
  show List.lookup g [(f,v)]=_
  by_cases h:g=f
  ·have hb:(g == f)=true:=beq_iff_eq.mpr h
   simp only[List.lookup,hb,if_pos h]
  ·have hb:(g == f)=false:=beq_eq_false_iff_ne.mpr h
   simp only[List.lookup,hb,if_neg h]
 | (k,x)::r=>by
  have ih:=yN f g v r
  rw[show qD f v ((k,x)::r)=(if k=f then (k,v)::r else (k,x)::qD f v r) from rfl]
  by_cases hk:k=f
  ·rw[if_pos hk]
   by_cases h:g=k
   ·have hb:(g == k)=true:=beq_iff_eq.mpr h
    simp only[List.lookup,hb,if_pos (h.trans hk)]
   ·have hb:(g == k)=false:=beq_eq_false_iff_ne.mpr h
    simp only[List.lookup,hb,if_neg (fun e:g=f=>h (e.trans hk.symm))]
  ·rw[if_neg hk]
   by_cases h:g=k
   ·have hb:(g == k)=true:=beq_iff_eq.mpr h
    simp only[List.lookup,hb,if_neg (fun e:g=f=>hk (h.symm.trans e))]
   ·have hb:(g == k)=false:=beq_eq_false_iff_ne.mpr h
    simp only[List.lookup,hb]
    exact ih
theorem yh (f:Str)(v:V):∀ fs:List (Str×V),f∈(qD f v fs).map (·.1)/\∀ g,g∈fs.map (·.1)->g∈(qD f v fs).map (·.1)
 | []=>⟨by simp[qD],fun g h=>by simp at h⟩
 | (k,x)::r=>by
  obtain⟨i1,i2⟩:=yh f v r
  rw[show qD f v ((k,x)::r)=(if k=f then (k,v)::r else (k,x)::qD f v r) from rfl]
  by_cases hk:k=f
  ·rw[if_pos hk]
   subst hk
   exact⟨by simp,fun g h=>by simpa using h⟩
  ·rw[if_neg hk]
   refine⟨?_,fun g h=>?_⟩
   ·rw[List.map_cons]
    exact List.mem_cons_of_mem _ i1
   ·rw[List.map_cons] at h ⊢
    rcases List.mem_cons.mp h with e | e
    ·exact List.mem_cons.mpr (.inl e)
    ·exact List.mem_cons_of_mem _ (i2 g e)
theorem yP (f:Str)(v:V):∀ fs:List (Str×V),(qD f v fs).length<=fs.length+1
 | []=>by simp[qD]
 | (k,x)::r=>by
  have ih:=yP f v r
  rw[show qD f v ((k,x)::r)=(if k=f then (k,v)::r else (k,x)::qD f v r) from rfl]
  by_cases hk:k=f
  ·rw[if_pos hk,List.length_cons,List.length_cons];omega
  ·rw[if_neg hk,List.length_cons,List.length_cons];omega
theorem qE.some_of {v:V}{o:Option Value}(r:qE (some v) o):∃ u,o=some u/\RelV v u:=by
 cases o with
 | none=>exact(show False from r).elim
 | some u=>exact⟨u,rfl,r⟩
theorem qE.none_of {o:Option Value}(r:qE none o):o=none:=by
 cases o with
 | none=>rfl
 | some u=>exact(show False from r).elim
theorem KP {v:V}{u:Value}(r:RelV v u):PySem.W.handedIn u=true:=by
 cases v with
 | fE=>cases (show u=Value.none from r);rfl
 | bl b=>cases (show u=Value.bool b from r);rfl
 | int i=>obtain⟨t,e⟩:=(show ∃ t,u=Value.int i t from r);cases e;rfl
 | str x=>obtain⟨t,e⟩:=(show ∃ t,u=Value.str x t from r);cases e;rfl
 | Lm b=>obtain⟨t,e⟩:=(show ∃ t,u=Value.bytes b t from r);cases e;rfl
 | T9 b=>obtain⟨t,e⟩:=(show ∃ t,u=Value.float b t from r);cases e;rfl
 | ref a=>cases (show u=Value.ref a from r);rfl
 | ty n=>cases (show u=Value.type n from r);rfl
section
variable {P:Program}{w:World}{H H':Hp}{h h':Heap}{a C dx:Addr}{fs fs':List (Str×V)}
theorem zS (hok:vZ P w H h)(e:H a=some (.ins C dx fs)):∃ mA,HX h a dx C mA/\(∀ f,qE (fs.lookup f) (mA f))/\PySem.Within mA (fs.map (·.1))/\fs.length<=1000/\H dx=some (.own a):=by
 obtain⟨d,z,ne,ob,mA,n,r,q⟩:=(show eY P w H h a (.ins C dx fs) from hok a _ e)
 exact⟨mA,⟨ob,n,ne⟩,r,q,z,d⟩
end
structure Qe (K:PySem.W.Frag)(C:Addr):Prop where
 pg:PySem.W.plainGet K C Str.empty=true
 hd:PySem.W.hasDictIn K C=true
 po:PySem.W.plainOver K C=true
 sa:PySem.W.findIn K (.ref C) "__setattr__"=some (some (.builtin "object.__setattr__"))
theorem Qe.get {K:PySem.W.Frag}{C:Addr}(c:Qe K C)(f:Str):PySem.W.plainGet K C f=true:=c.pg
noncomputable def aT (K:PySem.W.Frag)(C:Addr)(f:Str):Prop:=PySem.W.findIn K (.ref C) f=some none
theorem aT.U9 {K:PySem.W.Frag}{C:Addr}{f:Str}(n:aT K C f):PySem.W.takerIn K C f=some none:=by
 unfold PySem.W.takerIn
 rw[show PySem.W.findIn K (.ref C) f=some none from n]
 rfl
structure Meth (K:PySem.W.Frag)(C:Addr)(m:Str)(f:Addr):Prop where
 at_:PySem.W.findIn K (.ref C) m=some (some (.ref f))
 fn:PySem.W.isFn K (.ref f)=true
 kp:PySem.W.keepIn K (.ref f)=true
section
variable {X:Cx}{pins:List (Addr×Obj)}{σ:St}{H:Hp}{s:Shared}{a C dx:Addr}{fs:List (Str×V)}{f:Str}{v:V}{A:Around}{E:Value->Shared->Prop}
theorem Hz {b:Bool}{Q:Value->Shared->Prop}(I:Inv X pins σ H s)(e:H a=some (.ins C dx fs))(c:Qe X.K C)(n:aT X.K C f)(l:fs.lookup f=some v)
  (h:∀ u s',Inv X pins σ H s'->RelV v u->Q u s'):wpAny (model X.prog X.w) A (getAttr (.ref a) f b) Q E s:=by
 obtain⟨mA,O,r,_,_,_⟩:=zS I.hok e
 obtain⟨u,hu,ru⟩:=qE.some_of (v:=v) (o:=mA f) (by rw[<- l];exact r f)
 exact get_map I.xQ O (c.get f) c.hd n hu (KP ru) (h u _ (I.tok _) ru)
theorem Hy {m:Str}{g:Addr}{pl:Sem Bool}{Q:Value×List Value->Shared->Prop}(I:Inv X pins σ H s)(e:H a=some (.ins C dx fs))(c:Qe X.K C)(k:Meth X.K C m g)(l:fs.lookup m=none)
  (h:Q (.ref g,[.ref a]) s):wpAny (model X.prog X.w) A (getMethod (.ref a) m pl) Q E s:=by
 obtain⟨mA,O,r,_,_,_⟩:=zS I.hok e
 have hn:mA m=none:=qE.none_of (by rw[<- l];exact r m)
 exact Nq I.xQ O (c.get m) k.at_ k.fn hn h
theorem GK {y:V}{u:Value}{Q:Unit->Shared->Prop}(I:Inv X pins σ H s)(e:H a=some (.ins C dx fs))(c:Qe X.K C)(n:aT X.K C f)(hl:fs.length < 1000)(ry:RelV y u)
  (h:∀ s',Inv X pins σ (upd H a (.ins C dx (qD f y fs))) s'->Q () s'):wpAny (model X.prog X.w) A (setAttr (.ref a) f u) Q E s:=by
 obtain⟨mA,O,r,wi,_,ho⟩:=zS I.hok e
 have hz:(fs.map (·.1)).length<=sizeLine:=by rw[List.length_map,sizeLine_eq];omega
 refine Ou I.xQ O c.sa c.po n.U9 c.hd wi hz fun h' O' sb=>h _ ?_
 have hd:∃ o,h'.get? dx=some o:=let ⟨o,_,_,e',_⟩:=O'.ns;⟨o,e'⟩
 refine I.write (x:=a) (e:=dx) (by rw[e];exact True.intro) (.inr ho) (fun b q hb z=>(sb.2 b hb).trans z) hd ?_
 refine⟨by rw[bL O.ne];exact ho,?_,O.ne,O'.obj,_,O'.ns,fun g=>?_,fun g hg=>?_⟩
 ·have:=yP f y fs;omega
 ·show qE ((qD f y fs).lookup g) (if g=f then some u else mA g)
  rw[yN]
  by_cases q:g=f
  ·rw[if_pos q,if_pos q];exact ry
  ·rw[if_neg q,if_neg q];exact r g
 ·by_cases q:g=f
  ·rw[q];exact(yh f y fs).1
  ·refine(yh f y fs).2 g (wi g fun z=>hg ?_)
   show(if g=f then some u else mA g)=none
   rw[if_neg q];exact z
theorem Inv.made (I:Inv X pins σ H s):Inv X pins σ (upd (upd H s.heap.objs.size (.own (s.heap.objs.size+1))) (s.heap.objs.size+1) (.ins C s.heap.objs.size []))
  { s with heap:=(s.heap.push PySem.W.emptyDict).push (PySem.W.instObj C s.heap.objs.size) }:=by
 have e1:(s.heap.push PySem.W.emptyDict).get? s.heap.objs.size=some PySem.W.emptyDict:=Heap.get?_push_size s.heap rfl
 have e2:((s.heap.push PySem.W.emptyDict).push (PySem.W.instObj C s.heap.objs.size)).get? (s.heap.objs.size+1)=some (PySem.W.instObj C s.heap.objs.size):=by
  have:=Heap.get?_push_size (s.heap.push PySem.W.emptyDict) (o:=PySem.W.instObj C s.heap.objs.size) rfl
  rwa [Heap.size_push] at this
 have e3:(s.heap.push PySem.W.emptyDict).Ns s.heap.objs.size (fun _=>none):=⟨PySem.W.emptyDict,#[],_,e1,rfl,(fun e he=>absurd he (by simp)),fun _=>rfl⟩
 have I1:=I.laid (a:=s.heap.objs.size) (o:=.own (s.heap.objs.size+1)) (h':=s.heap.push PySem.W.emptyDict) (t':=s.toks) (fun b u q=>Heap.get?_push_of_some _ q) (Nat.le_refl _) ⟨_,e1⟩
 refine I1.laid (a:=s.heap.objs.size+1) (o:=.ins C s.heap.objs.size []) (t':=s.toks) (fun b u q=>Heap.get?_push_of_some _ q) (Nat.le_of_eq (Heap.size_push _ _)) ?_
 have ne:s.heap.objs.size≠s.heap.objs.size+1:=Nat.ne_of_lt (Nat.lt_succ_self _)
 refine⟨by rw[bL ne,kY],Nat.zero_le _,ne,e2,fun _=>none,(Heap.Ns1.of_empty e3).at fun o q=>Heap.get?_push_of_some _ q,fun _=>True.intro,fun y hy=>absurd rfl hy⟩
theorem PZ {prog:Program}{w:World}{env:Env}{e:Expr}{f:Str}{pos:Pos}{s:Shared}{Q:Value->Shared->Prop}(hb:attributeBase e f env (eval e env)=eval e env)
  (h:wpAny (model prog w) A (eval e env) (fun o s₁=>wpAny (model prog w) A (getAttr o f true) Q E s₁) E s):wpAny (model prog w) A (eval (.Attribute e f pos) env) Q E s :=
 Attribute_any_ h (by rw[arm_eval_Attribute,hb])
end
noncomputable def YN (K:PySem.W.Frag)(ta:TE)(f:Str):TE:=fun σ H Q=>ta σ H fun x H1=>∃ a C dx fs v,x=.ref a/\H1 a=some (.ins C dx fs)/\Qe K C/\aT K C f/\fs.lookup f=some v/\Q v H1
noncomputable def YY (K:PySem.W.Frag)(ta tv:TE)(f:Str):TS:=fun D σ H=>tv σ H fun y H1=>ta σ H1 fun x H2=>∃ a C dx fs,x=.ref a/\H2 a=some (.ins C dx fs)/\Qe K C/\aT K C f/\fs.length < 1000 /\
 D.nx σ (upd H2 a (.ins C dx (qD f y fs)))
section
variable {X:Cx}{o e value:Expr}{f:Str}{pos pos' tpos:Pos}{ta tv:TE}
theorem SH (he:PE X e ta)(hb:attributeBase e f X.env (eval e X.env)=eval e X.env):PE X (.Attribute e f pos) (YN X.K ta f):=by
 intro pins s σ H Q I h
 refine PZ hb (gm (he pins s σ H _ I h) fun u s1 ⟨x,H1,I1,rx,a,C,dx,fs,v,ex,ea,c,n,l,q⟩=>?_)
 subst ex
 obtain rfl:u=Value.ref a:=rx
 exact Hz I1 ea c n l fun u' s2 I2 ru=>⟨v,H1,I2,ru,q⟩
theorem Sq (ha:PE X o ta)(hv:PE X value tv)(hs:swapsWith value (some (.Attribute o f pos')) pos.line X.env=pure false):PS X (.Assign [.Attribute o f pos'] value pos) (YY X.K ta tv f):=by
 intro pins s σ H D I h
 refine plainObj_wpAny_Assign_Attribute (gm (hv pins s σ H _ I h) fun u s1 ⟨y,H1,I1,ry,q⟩=>gm (ha pins s1 σ H1 _ I1 q) fun ov s2 ⟨x,H2,I2,rx,a,C,dx,fs,ex,ea,c,n,l,q2⟩=>?_) hs
 subst ex
 obtain rfl:ov=Value.ref a:=rx
 exact GK I2 ea c n l ry fun s3 I3=>⟨σ,_,I3,q2⟩
end
section
variable {X:Cx}{pins:List (Addr×Obj)}{σ:St}{H:Hp}{s:Shared}{A:Around}{E:Value->Shared->Prop}{Q:Value->Shared->Prop}{c:Value}{b:Bool}
inductive xK (K:PySem.W.Frag) (H:Hp):V->Value->Prop where
 | fE:xK K H .fE (.type "NoneType")
 | bl (x:Bool):xK K H (.bl x) (.type "bool")
 | int (i:Int):xK K H (.int i) (.type "int")
 | str (x:Str):xK K H (.str x) (.type "str")
 | T9 (x:UInt64):xK K H (.T9 x) (.type "float")
 | lst {a:Addr} {xs:List V} (e:H a=some (.lst xs)):xK K H (.ref a) (.type "list")
 | HB {a:Addr} {o:Obj} {xs:List V} (e:H a=some (.HB o (.lst xs))):xK K H (.ref a) (.type "list")
 | tup {a:Addr} {xs:List V} (e:H a=some (.tup xs)):xK K H (.ref a) (.type "tuple")
 | dK {a:Addr} {kvs:List (Key×V)} (e:H a=some (.dK kvs)):xK K H (.ref a) (.type "dict")
 | dT {a:Addr} {kvs:List (List Key×V)} (e:H a=some (.dT kvs)):xK K H (.ref a) (.type "dict")
 | ins {a C dx:Addr} {fs:List (Str×V)} (e:H a=some (.ins C dx fs)) (cl:Qe K C) (ha:PySem.W.findIn K (.ref C) "__class__"=some (some (.builtin "object.__class__")))
   (hn:PySem.W.specialIn K (.builtin "object.__class__") "__get__"=some (some (.builtin "getset_descriptor.__get__"))) (htk:PySem.W.takesIn K (.builtin "object.__class__")=some true)
   (hm:PySem.W.mroIn K C (.type "object")=some true):xK K H (.ref a) (.ref C)
theorem Ku {x:V}{u t:Value}(I:Inv X pins σ H s)(rx:RelV x u)(ty:xK X.K H x t)(e:PySem.W.kitOne X.K t c=some b)(h:∀ tk,Q (.bool b) { s with toks:=tk }) :
  wpAny (model X.prog X.w) A (call (.builtin "isinstance") [u,c]) Q E s:=by
 cases ty with
 | fE=>cases (show u=Value.none from rx);exact PySem.W.kia_one PySem.W.kitx_none I.xQ True.intro e (fun z=>nomatch z) h
 | bl y=>cases (show u=Value.bool y from rx);exact PySem.W.kia_one PySem.W.kitx_bool I.xQ True.intro e (fun z=>nomatch z) h
 | int i=>obtain⟨t,q⟩:=(show ∃ t,u=Value.int i t from rx);cases q;exact PySem.W.kia_one PySem.W.kitx_int I.xQ True.intro e (fun z=>nomatch z) h
 | str y=>obtain⟨t,q⟩:=(show ∃ t,u=Value.str y t from rx);cases q;exact PySem.W.kia_one PySem.W.kitx_str I.xQ True.intro e (fun z=>nomatch z) h
 | T9 y=>obtain⟨t,q⟩:=(show ∃ t,u=Value.float y t from rx);cases q;exact PySem.W.kia_one PySem.W.kitx_float I.xQ True.intro e (fun z=>nomatch z) h
 | @lst a xs ea =>
  cases (show u=Value.ref a from rx)
  obtain⟨_,_,n,_,h1⟩:=(show eY X.prog X.w H s.heap a (.lst xs) from I.hok a _ ea)
  exact PySem.W.kia_one PySem.W.kitx_list I.xQ ⟨_,h1,rfl⟩ e (fun z=>nomatch z) h
 | @HB a ob xs ea =>
  cases (show u=Value.ref a from rx)
  obtain⟨_,_,_,n,_,h1⟩:=(show eY X.prog X.w H s.heap a (.HB ob (.lst xs)) from I.hok a _ ea)
  exact PySem.W.kia_one PySem.W.kitx_list I.xQ ⟨_,h1,rfl⟩ e (fun z=>nomatch z) h
 | @tup a xs ea =>
  cases (show u=Value.ref a from rx)
  obtain⟨_,_,_,p⟩:=(show eY X.prog X.w H s.heap a (.tup xs) from I.hok a _ ea)
  obtain⟨o,h1,h2,_⟩:=p
  exact PySem.W.kia_one PySem.W.kitx_tuple I.xQ ⟨o,h1,h2⟩ e (fun z=>nomatch z) h
 | @dK a kvs ea =>
  cases (show u=Value.ref a from rx)
  obtain⟨_,_,vs,_,p⟩:=(show eY X.prog X.w H s.heap a (.dK kvs) from I.hok a _ ea)
  obtain⟨o,es,ep,h1,h2,_⟩:=p
  exact PySem.W.kia_one PySem.W.kitx_dict I.xQ ⟨o,h1,h2.1⟩ e (fun z=>nomatch z) h
 | @dT a kvs ea =>
  cases (show u=Value.ref a from rx)
  obtain⟨_,_,xs,_,o,es,ep,h1,h2,_⟩:=(show eY X.prog X.w H s.heap a (.dT kvs) from I.hok a _ ea)
  exact PySem.W.kia_one PySem.W.kitx_dict I.xQ ⟨o,h1,h2.1⟩ e (fun z=>nomatch z) h
 | @ins a C dx fs ea cl ha hn htk hm =>
  cases (show u=Value.ref a from rx)
  obtain⟨mA,O,_⟩:=zS I.hok ea
  obtain⟨od,J,_⟩:=O.look
  exact PySem.W.kia_one (PySem.W.kitx_own (cl.get _) cl.hd ha hn htk hm) I.xQ J e (fun z=>nomatch z) h
end
end L2
namespace L2
open PySem PySem.Spec PyProof.Rows
structure fZ (k:Nat)(A:Around):Prop where
 hd:A.handled=none
 dp:A.depth+3*k+5 < recursionLimit
 un:A.units+16*k+200 < cLine
theorem fZ.mono {j k:Nat}{A:Around}(r:fZ k A)(h:j<=k):fZ j A:=⟨r.hd,by have:=r.dp;omega,by have:=r.un;omega⟩
theorem fZ.m {j k:Nat}{A:Around}(r:fZ k A)(h:j<=k:=by first | decide | omega):fZ j A:=r.mono h
theorem fZ.deeper {k:Nat}{A:Around}(r:fZ (k+1) A)(env:Env):fZ k (A.deeper env) :=
 ⟨r.hd,by have:=r.dp;show A.depth+1+3*k+5 < _;omega,by have:=r.un;show A.units+3+16*k+200 < _;omega⟩
theorem Ho {A:Around}{C:Addr}{us:List Value}{kw:List (Str×Value)}:(A.under (.builtin "type.__call__" ⟨.ref C::us,kw⟩)).depth=A.depth+1:=by
 first | rfl | simp[Around.under,Code.weight,Code.isCreation,Code.isGuard,Code.isCaller,Code.frames,Code.isFrame,guardIds]
theorem Hi {A:Around}{C:Addr}{us:List Value}{kw:List (Str×Value)}:(A.under (.builtin "type.__call__" ⟨.ref C::us,kw⟩)).units=A.units+1:=by
 first | rfl | simp[Around.under,Code.cUnits,Code.frames,Code.isFrame]
theorem fZ.make {k:Nat}{A:Around}(r:fZ (k+1) A)(C:Addr)(us:List Value)(kw:List (Str×Value)):fZ k (A.under (.builtin "type.__call__" ⟨.ref C::us,kw⟩)) :=
 ⟨r.hd,by have:=r.dp;rw[Ho];omega,by have:=r.un;rw[Hi];omega⟩
theorem fZ.depth {k:Nat}{A:Around}(r:fZ k A):A.depth < recursionLimit:=by have:=r.dp;omega
theorem fZ.units {k:Nat}{A:Around}(r:fZ k A):A.units+64 < cLine:=by have:=r.un;omega
noncomputable def Vg:TA:=fun _ H Q=>Q [] H
noncomputable def Qn (ta:TE)(tr:TA):TA:=fun σ H Q=>ta σ H fun x H1=>tr σ H1 fun xs H2=>Q (x::xs) H2
section
variable {X:Cx}{e:Expr}{es:List Expr}{te:TE}{t:TA}{pos:Pos}
theorem MJ:PA X [] Vg:=fun _ _ _ _ H Q I h=>Calls.spliced_nil ⟨[],H,I,.nil,h⟩
theorem Ja (ha:PE X e te)(hr:PA X es t)(hs:starEach (e::es) X.env=(false,eval e X.env)::starEach es X.env:=by rfl):PA X (e::es) (Qn te t):=by
 intro pos pins s σ H Q I h
 rw[hs]
 show wpAny _ _ (spliced ((false,eval e X.env)::backTo pos (starEach es X.env))) _ _ s
 refine Calls.spliced_cons (gm (ha pins s σ H _ I h) fun u s1 ⟨x,H1,I1,r1,q1⟩=>?_)
 exact gm (hr pos pins s1 σ H1 _ I1 q1) (by rintro us s2 ⟨xs,H2,I2,r2,q2⟩;exact ⟨x::xs,H2,I2,.cons r1 r2,q2⟩)
noncomputable def YD (t:TA):TE:=fun σ H Q=>t σ H fun xs H1=>xs.length<=sizeLine/\∀ p,H1 p=none->Q (.ref p) (upd H1 p (.tup xs))
noncomputable def Vm (t:TA):TE:=fun σ H Q=>t σ H fun xs H1=>xs.length<=sizeLine/\∀ p,H1 p=none->Q (.ref p) (upd H1 p (.lst xs))
theorem SD {x1}(h:PA X es t):PE X (.Tuple es x1 pos) (YD t):=by
 intro pins s σ H Q I hq
 refine wpAny_Tuple_spliced (gm (h pos pins s σ H _ I hq) fun us s1 ⟨xs,H1,I1,r,z,q⟩=>⟨by rw[<- r.length];exact z,?_⟩)
 have hf:H1 s1.heap.objs.size=none:=I1.hok.fresh (Nat.le_refl _)
 refine⟨.ref s1.heap.objs.size,upd H1 s1.heap.objs.size (.tup xs),I1.laid (t':=s1.toks) (fun b u e=>Heap.get?_push_of_some _ e) (Nat.le_refl _) ?_,rfl,q _ hf⟩
 exact⟨z,us,r,⟨_,Heap.get?_push_size _ rfl,rfl,_,rfl⟩⟩
theorem GX (h:PA X es t):PE X (.List es pos) (Vm t):=by
 intro pins s σ H Q I hq
 refine wpAny_List_spliced (gm (h pos pins s σ H _ I hq) fun us s1 ⟨xs,H1,I1,r,z,q⟩=>⟨by rw[<- r.length];exact z,?_⟩)
 have hf:H1 s1.heap.objs.size=none:=I1.hok.fresh (Nat.le_refl _)
 refine⟨.ref s1.heap.objs.size,upd H1 s1.heap.objs.size (.lst xs),I1.laid (t':=s1.toks) (fun b u e=>Heap.get?_push_of_some _ e) (Nat.le_refl _) ?_,rfl,q _ hf⟩
 exact⟨z,us,0,r,Heap.get?_push_size _ rfl⟩
end
noncomputable abbrev Sp:=List V->Hp->VK->XK->Prop
noncomputable abbrev JD:=List Env->Hp->Shared->XK->Value->Shared->Prop
structure HZ (P:Program)(w:World)(K:PySem.W.Frag)(mg:Str->Option Value)(base:Heap)(A:Around)(outer:List Env)(s:Shared)(H:Hp):Prop where
 frames:A.frames=some outer
 mod:Mod K mg base
 bs:∀ b o,base.get? b=some o->s.heap.get? b=some o/\H b=none
 PY:base.objs.size<=s.heap.objs.size
 zu:s.heap.FunFrames base outer
 T4:∀ b∈frs outer,H b=none
 hok:vZ P w H s.heap
 bare:AllBare s.gens
noncomputable def CE (outer:List Env)(P:Program)(w:World)(H:Hp)(s:Shared)(Q:VK)(u:Value)(s':Shared):Prop :=
 ∃ v H',s'.os=s.os/\AllBare s'.gens/\Un (frs outer) [] H H' s.heap s'.heap/\vZ P w H' s'.heap/\RelV v u/\Q v H'
noncomputable def CR (CX:JD)(outer:List Env)(P:Program)(w:World)(H:Hp)(s:Shared)(Q:VK)(E:XK)(r:Result)(s':Shared):Prop :=
 match r with
 | .ok (.ret u)=>CE outer P w H s Q u s'
 | .ok _=>False
 | .error e=>CX outer H s E e s'
structure aU (P:Program)(w:World)(K:PySem.W.Frag)(mg:Str->Option Value)(base:Heap)(CX:JD)(k:Nat)(f:Addr)(fd:FuncData)(ps:List Str)(sp:Sp):Prop where
 len:∀ vs H Q E,sp vs H Q E->vs.length=ps.length
 run:∀ (A:Around) (outer:List Env) (s:Shared) (H:Hp) (args:Args) (us:List Value) (vs:List V) (Q:VK) (E:XK),fZ k A->HZ P w K mg base A outer s H->BindsTo s fd args (ps.zip us)->Vals vs us->sp vs H Q E ->
  codeAny (model P w) A (.call (.ref f) args) (CR CX outer P w H s Q E) s
theorem aU.mono {P:Program}{w:World}{K:PySem.W.Frag}{mg:Str->Option Value}{base:Heap}{CX:JD}{j k:Nat}{f:Addr}{fd:FuncData}{ps:List Str}{sp:Sp}(F:aU P w K mg base CX j f fd ps sp)(h:j<=k) :
  aU P w K mg base CX k f fd ps sp:=⟨F.len,fun A outer s H args us vs Q E hr=>F.run A outer s H args us vs Q E (hr.mono h)⟩
theorem HZ.make {P:Program}{w:World}{K:PySem.W.Frag}{mg:Str->Option Value}{base:Heap}{A:Around}{outer:List Env}{s:Shared}{H:Hp}(e:HZ P w K mg base A outer s H)(C:Addr)(us:List Value)(kw:List (Str×Value)) :
  HZ P w K mg base (A.under (.builtin "type.__call__" ⟨.ref C::us,kw⟩)) outer s H:=⟨by first | exact e.frames | (simpa [Around.under,Code.envs,Code.isFrame,pushEnvs] using e.frames),e.mod,e.bs,e.PY,e.zu,e.T4,e.hok,e.bare⟩
section
variable {X:Cx}{pins:List (Addr×Obj)}{σ:St}{H:Hp}{s s':Shared}
theorem Inv.Xl (I:Inv X pins σ H s):HZ X.prog X.w X.K X.mg X.base X.A X.stack s H :=
 ⟨I.ok.frames,I.ok.mod,I.bs,Nat.le_trans I.ok.PY I.sz,I.stack,I.IA,I.hok,I.bare⟩
theorem Inv.after {Q:VK}{u:Value}(I:Inv X pins σ H s)(h:CE X.stack X.prog X.w H s Q u s'):EP X pins σ Q u s':=by
 obtain⟨v,H',os,bare,un,hok,r,q⟩:=h
 obtain⟨hh,g,d,t,os'⟩:=s'
 obtain rfl:os'=s.os:=os
 exact⟨v,H',I.call (h':=hh) (g':=g) (d':=d) (t':=t) (ch:=[]) un hok bare (fun b z=>absurd z (by simp)),r,q⟩
end
noncomputable def LM (sp:Sp)(BA:List V)(E:XK)(t:TA):TE:=fun σ H Q=>t σ H fun vs H1=>sp (vs++BA) H1 Q E
noncomputable def Qm (C:Addr)(sp:Sp)(BA:List V)(E:XK)(t:TA):TE:=fun σ H Q=>t σ H fun vs H1=>∀ x dx,H1 x=none->H1 dx=none->dx≠x ->
 sp (.ref x::(vs++BA)) (upd (upd H1 dx (.own x)) x (.ins C dx [])) (fun v H2=>v=.fE/\Q (.ref x) H2) E
noncomputable def Binds (K:PySem.W.Frag)(fd:FuncData)(ps:List Str)(ds:List Value):Prop :=
 ∀ (s:Shared) (us:List Value),K.In s.heap->(us++ds).length=ps.length->BindsTo s fd ⟨us,[]⟩ (ps.zip (us++ds))
theorem Binds.all {K:PySem.W.Frag}{fd:FuncData}{ps:List Str}(h:∀ us:List Value,us.length=ps.length->bindArgs fd ⟨us,[]⟩=pure (ps.zip us)):Binds K fd ps []:=fun s us _ hl=>by
 rw[List.append_nil] at hl ⊢
 exact .of_eq (h us hl)
noncomputable def Passes (CX:JD)(X:Cx)(E:XK):Prop:=∀ (pins:List (Addr×Obj)) (σ:St) (H:Hp) (s:Shared) (e:Value) (s':Shared),Inv X pins σ H s->CX X.stack H s E e s'->X.xe e s'
section
variable {X:Cx}{CX:JD}{k:Nat}{f C:Addr}{fd:FuncData}{ps:List Str}{sp:Sp}{BA:List V}{ds:List Value}{E:XK}{x m:Str}{p pos apos:Pos}{e o:Expr}{es:List Expr}{ta:TE}{t:TA}
theorem DB {pins:List (Addr×Obj)}{σ:St}{H:Hp}{s:Shared}{Q:VK}{us:List Value}{vs:List V}(F:aU X.prog X.w X.K X.mg X.base CX k f fd ps sp)(hr:fZ k X.A)(hb:Binds X.K fd ps ds)(hd:Vals BA ds)(hx:Passes CX X E)
  (I:Inv X pins σ H s) (r:Vals vs us) (h:sp (vs++BA) H Q E):wpAny (model X.prog X.w) X.A (call (.ref f) us) (EP X pins σ Q) X.xe s:=by
 have r2:Vals (vs++BA) (us++ds):=r.append hd
 have hl:(us++ds).length=ps.length:=by rw[<- r2.length];exact F.len _ _ _ _ h
 refine wpAny_call (codeAny_mono (F.run X.A X.stack s H ⟨us,[]⟩ (us++ds) (vs++BA) Q E hr I.Xl (hb s us I.xQ hl) r2 h) fun r s' hq=>?_)
 cases r with
 | error e=>exact hx pins σ H s e s' I hq
 | ok fl =>
  cases fl with
  | ret u=>exact I.after hq
  | next=>exact False.elim hq
  | brk=>exact False.elim hq
  | cont=>exact False.elim hq
theorem O4 (F:aU X.prog X.w X.K X.mg X.base CX k f fd ps sp)(hr:fZ k X.A)(hg:Gl X x)(hm:X.mg x=some (.ref f))(hk:PySem.W.keepIn X.K (.ref f)=true)(hb:Binds X.K fd ps ds)(hd:Vals BA ds)(hx:Passes CX X E)
  (ha:PA X (e::es) t) (hdb:(x == ("__debug__":Str))=false:=by decide) (he:starEach (e::es) X.env=(false,eval e X.env)::starEach es X.env:=by rfl) (hpl:(backTo pos (starEach es X.env)).any (·.1)=false:=by rfl) :
  PE X (.Call (.Name x p) (e::es) [] pos) (LM sp BA E t):=by
 intro pins s σ H Q I h
 refine wpAny_Call_Name_kw (wW I hg hm ?_ hdb)
 refine PySem.W.callWith_K (h₀:=X.base) I.ok.mod.WR hk (gm (ha pos pins s σ H _ I h) fun us s1 ⟨vs,H1,I1,r,q⟩=>⟨I1.xQ,?_⟩) he hpl
 exact DB F hr hb hd hx I1 r q
theorem MI (F:aU X.prog X.w X.K X.mg X.base CX k f fd ps sp)(hr:fZ k X.A)(hg:Gl X x)(hm:X.mg x=some (.ref f))(hk:PySem.W.keepIn X.K (.ref f)=true)(hb:Binds X.K fd ps ds)(hd:Vals BA ds)(hx:Passes CX X E)
  (hdb:(x == ("__debug__":Str))=false:=by decide):PE X (.Call (.Name x p) [] [] pos) (LM sp BA E Vg):=by
 intro pins s σ H Q I h
 refine wpAny_Call_Name_kw (wW I hg hm ?_ hdb)
 exact PySem.W.callWith_K0 I.xQ hk (DB (us:=[]) F hr hb hd hx I .nil h)
structure Mk (K:PySem.W.Frag)(C f:Addr):Prop where
 makes:PySem.W.makesIn K C=true
 init:PySem.W.findIn K (.ref C) "__init__"=some (some (.ref f))
 fn:PySem.W.isFn K (.ref f)=true
 kp:PySem.W.keepIn K (.ref C)=true
theorem Mi {pins:List (Addr×Obj)}{σ:St}{H:Hp}{s:Shared}{Q:VK}{us:List Value}{vs:List V}(M:Mk X.K C f)(F:aU X.prog X.w X.K X.mg X.base CX k f fd ps sp)(hr:fZ (k+1) X.A)(hb:Binds X.K fd ps ds)(hd:Vals BA ds)
  (hx:Passes CX X E) (I:Inv X pins σ H s) (r:Vals vs us)
  (h:∀ x dx,H x=none->H dx=none->dx≠x->sp (.ref x::(vs++BA)) (upd (upd H dx (.own x)) x (.ins C dx [])) (fun v H2=>v=.fE/\Q (.ref x) H2) E) :
  wpAny (model X.prog X.w) X.A (call (.ref C) us) (EP X pins σ Q) X.xe s:=by
 have hq:=h (s.heap.objs.size+1) s.heap.objs.size (I.hok.fresh (Nat.le_succ _)) (I.hok.fresh (Nat.le_refl _)) (Nat.ne_of_lt (Nat.lt_succ_self _))
 have I2:=Inv.made (C:=C) I
 have r2:Vals (V.ref (s.heap.objs.size+1)::(vs++BA)) (Value.ref (s.heap.objs.size+1)::(us++ds)):=.cons rfl (r.append hd)
 have hl:(Value.ref (s.heap.objs.size+1)::us++ds).length=ps.length:=by
  have e:=r2.length
  rw[F.len _ _ _ _ hq] at e
  exact e.symm
 refine wpAny_call (MW (f:=f) I.xQ M.makes M.init (beq_iff_eq.mp M.fn) (codeAny_mono (F.run _ X.stack _ _ ⟨Value.ref (s.heap.objs.size+1)::us,[]⟩ (Value.ref (s.heap.objs.size+1)::(us++ds)) _ _ E (hr.make C us [])
  (I2.Xl.make C us []) (hb _ (Value.ref (s.heap.objs.size+1)::us) I2.xQ hl) r2 hq) fun r s' hq'=>?_))
 cases r with
 | error e=>exact hx pins σ _ _ e s' I2 hq'
 | ok fl =>
  cases fl with
  | ret u =>
   obtain⟨v,H',I3,rv,ev,q3⟩:=I2.after hq'
   subst ev
   exact⟨rv,⟨V.ref (s.heap.objs.size+1),H',I3,rfl,q3⟩⟩
  | next=>exact False.elim hq'
  | brk=>exact False.elim hq'
  | cont=>exact False.elim hq'
theorem OX (M:Mk X.K C f)(F:aU X.prog X.w X.K X.mg X.base CX k f fd ps sp)(hr:fZ (k+1) X.A)(hg:Gl X x)(hm:X.mg x=some (.ref C))(hb:Binds X.K fd ps ds)(hd:Vals BA ds)(hx:Passes CX X E)
  (ha:PA X (e::es) t) (hdb:(x == ("__debug__":Str))=false:=by decide) (he:starEach (e::es) X.env=(false,eval e X.env)::starEach es X.env:=by rfl) (hpl:(backTo pos (starEach es X.env)).any (·.1)=false:=by rfl) :
  PE X (.Call (.Name x p) (e::es) [] pos) (Qm C sp BA E t):=by
 intro pins s σ H Q I h
 refine wpAny_Call_Name_kw (wW I hg hm ?_ hdb)
 refine PySem.W.callWith_K (h₀:=X.base) I.ok.mod.WR M.kp (gm (ha pos pins s σ H _ I h) fun us s1 ⟨vs,H1,I1,r,q⟩=>⟨I1.xQ,?_⟩) he hpl
 exact Mi M F hr hb hd hx I1 r q
end
section
variable {X:Cx}{CX:JD}{k:Nat}{f C:Addr}{fd:FuncData}{ps ks:List Str}{sp:Sp}{E:XK}{x m:Str}{p pos apos kpos:Pos}{e o:Expr}{es:List Expr}{kws:List Keyword}{te ta:TE}{t tk:TA}{nm:Option Str}
variable {g:List Value->List Value->List Value}{gV:List V->List V->List V}
end
structure av (N P:List Str)(sc:Scope):Prop where
 kind:sc.kind=.function
 co:sc.isCoroutine=false
 gen:sc.isGenerator=false
 nd:N.Nodup
 pre:N.take P.length=P
 par:∀ x∈P,sc.names.lookup x=some .local∨sc.names.lookup x=some .cell
 SW:∀ y∈sc.names,y.2≠.free
theorem fz {N P:List Str}{sc:Scope}(a:sc.kind=.function:=by rfl)(b:sc.isCoroutine=false:=by rfl)(c:sc.isGenerator=false:=by rfl)(d:N.Nodup:=by decide +kernel)(e:N.take P.length=P:=by rfl)(f:∀ x∈P,sc.names.lookup x=some .local∨sc.names.lookup x=some .cell:=by decide +kernel)(g:∀ y∈sc.names,y.2≠.free:=by decide +kernel):av N P sc:=⟨a,b,c,d,e,f,g⟩
theorem C1 {kindOf:Str->Option NameKind}{x:Str}:∀ {binds:List (Str×Value)} {m:Str->Option Value},(∀ v,(x,v) ∉ binds)->bindL kindOf binds m x=m x
 | [],_,_=>rfl
 | (n,v)::r,m,h=>by
  unfold bindL
  rw[C1 fun w hw=>h w (List.mem_cons_of_mem _ hw)]
  split
  ·have:x≠n:=by rintro rfl;exact h v List.mem_cons_self
   simp[this]
  ·rfl
theorem C3 {kindOf:Str->Option NameKind}{x:Str}:∀ {binds:List (Str×Value)} {m:Str->Option Value},(∀ v,(x,v) ∉ binds)->bindC kindOf binds m x=m x
 | [],_,_=>rfl
 | (n,v)::r,m,h=>by
  unfold bindC
  rw[C3 fun w hw=>h w (List.mem_cons_of_mem _ hw)]
  split
  ·rfl
  ·have:x≠n:=by rintro rfl;exact h v List.mem_cons_self
   simp[this]
theorem C2 {kindOf:Str->Option NameKind}{x:Str}{v:Value}:∀ {P:List Str} {vs:List Value} {i:Nat} {m:Str->Option Value},P.Nodup->P[i]?=some x->vs[i]?=some v->kindOf x=some .local ->
  bindL kindOf (P.zip vs) m x=some v
 | [],_,_,_,_,h,_,_=>by simp at h
 | _::_,[],_,_,_,_,h,_=>by simp at h
 | p::P,w::vs,0,m,nd,h1,h2,hk=>by
  simp at h1 h2;subst h1;subst h2
  show bindL kindOf ((p,w)::P.zip vs) m p=_
  unfold bindL
  rw[C1 fun v hv=>(List.nodup_cons.mp nd).1 (List.of_mem_zip hv).1,if_pos hk]
  simp
 | p::P,w::vs,i+1,m,nd,h1,h2,hk=>by
  show bindL kindOf ((p,w)::P.zip vs) m x=_
  unfold bindL
  exact C2 (i:=i) (List.nodup_cons.mp nd).2 (by simpa using h1) (by simpa using h2) hk
theorem C4 {kindOf:Str->Option NameKind}{x:Str}{v:Value}:∀ {P:List Str} {vs:List Value} {i:Nat} {m:Str->Option Value},P.Nodup->P[i]?=some x->vs[i]?=some v->kindOf x≠some .local ->
  bindC kindOf (P.zip vs) m x=some v
 | [],_,_,_,_,h,_,_=>by simp at h
 | _::_,[],_,_,_,_,h,_=>by simp at h
 | p::P,w::vs,0,m,nd,h1,h2,hk=>by
  simp at h1 h2;subst h1;subst h2
  show bindC kindOf ((p,w)::P.zip vs) m p=_
  unfold bindC
  rw[C3 fun v hv=>(List.nodup_cons.mp nd).1 (List.of_mem_zip hv).1,if_neg hk]
  simp
 | p::P,w::vs,i+1,m,nd,h1,h2,hk=>by
  show bindC kindOf ((p,w)::P.zip vs) m x=_
  unfold bindC
  exact C4 (i:=i) (List.nodup_cons.mp nd).2 (by simpa using h1) (by simpa using h2) hk
noncomputable def start (N:List Str)(vs:List V):St:=vs.map some++List.replicate (N.length - vs.length) none
noncomputable def FE (CX:JD)(P:Program)(w:World)(K:PySem.W.Frag)(mg:Str->Option Value)(base:Heap)(N:List Str)(qual:Str)(scope:Scope)(f:Addr)(cd:Value)(A:Around)(outer:List Env)(s:Shared)(H:Hp)(E:XK):Cx where
 prog:=P
 w:=w
 K:=K
 mg:=mg
 base:=base
 A:=A.deeper (envOfC qual scope s.heap.objs.size f cd)
 N:=N
 s₀:=s
 H₀:=H
 env:=envOfC qual scope s.heap.objs.size f cd
 outer:=outer
 stack:=envOfC qual scope s.heap.objs.size f cd::outer
 ex:=[]
 calm:=true
 fn:=fun _=>true
 pn:=[]
 xe:=fun e s'=>wpAny (model P w) (A.deeper (envOfC qual scope s.heap.objs.size f cd)) (leaving (envOfC qual scope s.heap.objs.size f cd) e) (fun _ s''=>CX outer H s E e s'') (fun e' s''=>CX outer H s E e' s'') s'
theorem FI {sc:Scope}{n:Nat}{x:Str}(h:sc.names.lookup x=some .cell):∃ c,(cellsFrom n sc.names []).lookup x=some c:=by
 have q:=PySem.W.cellsFrom_some sc.names n [] (.inl h)
 exact Option.isSome_iff_exists.mp q
theorem Kw {CX:JD}{P:Program}{w:World}{K:PySem.W.Frag}{mg:Str->Option Value}{base:Heap}{N ps:List Str}{qual:Str}{scope:Scope}{f:Addr}{cd:Value}{A:Around}{outer:List Env}{s s1:Shared}{H:Hp}{E:XK}{us:List Value}{vs:List V}
  (S:av N ps scope) (hd:A.handled=none) (e0:HZ P w K mg base A outer s H) (hl:vs.length=ps.length) (r:Vals vs us)
  (x:InCallC s s.heap.objs.size (bindL (envOfC qual scope s.heap.objs.size f cd).kindOf (ps.zip us) fun _=>none) (cellsFrom (s.heap.objs.size+1) scope.names []) (bindC (envOfC qual scope s.heap.objs.size f cd).kindOf (ps.zip us) fun _=>none) s1) :
  Inv (FE CX P w K mg base N qual scope f cd A outer s H E) [] (start N vs) H s1:=by
 have hpl:ps.length<=N.length:=by have:=congrArg List.length S.pre;rw[List.length_take] at this;omega
 obtain⟨h1,tk,rfl,hk⟩:=x.done
 have V7:∀ b:Addr,b ∉ (FE CX P w K mg base N qual scope f cd A outer s H E).ex:=fun b z=>absurd (show b∈([]:List Addr) from z) (by simp)
 refine⟨⟨e0.mod,S.kind,rfl,rfl,Nat.le_refl _,fun y z c h1 h2=>?_,fun y hy=>?_,fun y c _ h=>?_,fun _=>hd,Around.frames_deeper e0.frames,.inr ⟨rfl,rfl⟩,fun b z=>absurd z (V7 b),e0.bs,e0.PY,fun b _ _=>V7 b,fun b z=>absurd z (V7 b),e0.zu,e0.T4⟩,
  rfl,e0.bare,Un.kept hk,⟨_,x.toInCall.ns,fun i y v h1 h2 h3=>?_⟩,fun y c h=>⟨_,x.cell y c h⟩,e0.hok.fresh (Nat.le_refl _),fun y c h=>?_,fun p hp=>absurd (show p∈([]:List (Addr×Obj)) from hp) (by simp),e0.hok.kept hk,?_⟩
 ·exact name_of_addr x.apart (PySem.mem_of_lookup h1) (PySem.mem_of_lookup h2)
 ·have hy:scope.names.lookup y=some .cell∨scope.names.lookup y=some .free:=hy
  rcases hy with hy | hy
  ·exact FI hy
  ·exact absurd rfl (S.SW _ (PySem.mem_of_lookup hy))
 ·exact Nat.le_of_lt (x.above y c (PySem.mem_of_lookup h))
 ·have hi:i < vs.length:=by
   unfold start at h2
   by_cases hi:i < vs.length
   ·exact hi
   ·rw[List.getElem?_append_right (by simpa using hi)] at h2
    rw[List.getElem?_replicate] at h2
    split at h2 <;> cases h2
  have ha:vs[i]?=some v:=by
   unfold start at h2
   rw[List.getElem?_append_left (by simpa using hi),List.getElem?_map] at h2
   cases e:vs[i]? with
   | none=>rw[e] at h2;cases h2
   | some a=>rw[e] at h2;cases h2;rfl
  obtain⟨u,hu,rv⟩:=r.get ha
  have hp:ps[i]?=some y:=by
   rw[<- S.pre,List.getElem?_take_of_lt (by omega)];exact h1
  have ndP:ps.Nodup:=by rw[<- S.pre];exact S.nd.sublist (List.take_sublist _ _)
  refine⟨u,rv,?_⟩
  rcases S.par y (List.mem_of_getElem? hp) with k | k
  ·exact .inl ⟨k,C2 ndP hp hu k⟩
  ·obtain⟨c,e⟩:=FI (n:=s.heap.objs.size+1) k
   refine .inr ⟨.inl k,c,e,?_⟩
   have q:=x.cell y c e
   rw[C4 ndP hp hu (by show scope.names.lookup y≠_;rw[k];decide)] at q
   exact q
 ·exact e0.hok.fresh (Nat.le_of_lt (x.above y c (PySem.mem_of_lookup h)))
 ·unfold start
  show _=N.length
  rw[List.length_append,List.length_map,List.length_replicate]
  omega
theorem Xg {CX:JD}{P:Program}{w:World}{K:PySem.W.Frag}{mg:Str->Option Value}{base:Heap}{k:Nat}{f:Addr}{name qual:Str}{params:Arguments}{body:List Stmt}{scope:Scope}{dV kV doc pm cdv ct oc:Value}{an od:Option Addr}
  {osl:Array (Option Value)} {N ps:List Str} {sp:Sp} (lk:K.lookup f=some ⟨oc,od,.func (PySem.W.fnOf name qual params body scope dV kV doc pm an cdv ct),osl⟩) (hcd:PySem.W.codeIn K cdv qual=true) (S:av N ps scope)
  (len:∀ vs H Q E,sp vs H Q E->vs.length=ps.length)
  (hbody:∀ (A:Around) (outer:List Env) (s:Shared) (H:Hp) (vs:List V) (Q:VK) (E:XK),fZ k (A.deeper (envOfC qual scope s.heap.objs.size f cdv))->sp vs H Q E ->
   ∃ t,Ew (FE CX P w K mg base N qual scope f cdv A outer s H E) body t/\t { nx:=fun _ H'=>Q .fE H',rt:=Q } (start N vs) H) :
  aU P w K mg base CX (k+1) f (PySem.W.fnOf name qual params body scope dV kV doc pm an cdv ct) ps sp:=by
 refine⟨len,fun A outer s H args us vs Q E hr e0 hb r Q0=>?_⟩
 have hl:=len _ _ _ _ Q0
 have KX:K.In s.heap:=e0.mod.WR.keeps fun b o e=>(e0.bs b o e).1
 have lim:s.heap.NoLimit:=e0.mod.nolimit.keeps fun b o e=>(e0.bs b o e).1
 have hkind:∀ y∈ps.zip us,scope.names.lookup y.1=some .local∨(scope.names.lookup y.1=some .cell/\((cellsFrom (s.heap.objs.size+1) scope.names []).lookup y.1).isSome=true):=fun⟨n,v⟩ hy=>by
  rcases S.par n (List.of_mem_zip hy).1 with q | q
  ·exact .inl q
  ·exact .inr ⟨q,PySem.W.cellsFrom_some _ _ _ (.inl q)⟩
 refine codeAny_call_function hr.depth (KX _ _ lk) rfl S.co S.gen rfl (PySem.W.codeRec_of KX hcd) (hb _ _ _ _ ?_)
 refine wpAny_newFunctionEnv_cells S.kind hkind fun env he s1 x=>?_
 subst he
 refine⟨lim.keeps x.toInCall.keep,codeAny_func ?_⟩
 obtain⟨t,ht,hq⟩:=hbody A outer s H vs Q E (hr.deeper _) Q0
 have I:Inv (FE CX P w K mg base N qual scope f cdv A outer s H E) [] (start N vs) H s1:=Kw S hr.hd e0 hl r x
 refine wpAny_mono (ht [] s1 (start N vs) H _ I hq) (fun fl s' hs=>?_) fun e s' hs=>hs
 have fin:∀ {σ':St} {H':Hp} {v:V} {u:Value},Inv (FE CX P w K mg base N qual scope f cdv A outer s H E) [] σ' H' s'->RelV v u->Q v H'->CE outer P w H s Q u s' :=
  fun {σ' H' v u} J rv q=>⟨v,H',J.os,J.bare,J.base,J.hok,rv,q⟩
 cases fl with
 | ret u =>
  obtain⟨v,σ',H',J,rv,q⟩:=hs
  exact fin J rv q
 | next =>
  obtain⟨σ',H',J,q⟩:=hs
  exact fin (v:=V.fE) (u:=Value.none) J rfl q
 | brk =>
  obtain⟨_,_,_,q⟩:=hs
  exact False.elim q
 | cont =>
  obtain⟨_,_,_,q⟩:=hs
  exact False.elim q
end L2
namespace L2
open PySem PySem.Spec PyProof.Rows
section
variable {X:Cx}{x:Str}{p pos:Pos}{e:Expr}{es:List Expr}{t:TA}{id T:String}{r:List V->Hp->VK->Prop}
noncomputable def Vs (r:List V->Hp->VK->Prop)(t:TA):TE:=fun σ H Q=>t σ H fun vs H1=>r vs H1 Q
theorem MH (hc:jk X (.builtin id) r)(hg:Gl X x)(hm:X.mg x=none)(hv:bootBuiltins x=some (.builtin id))(ha:PA X (e::es) t)(hn:x≠"__name__":=by decide)(hdb:(x == ("__debug__":Str))=false:=by decide)
  (he:starEach (e::es) X.env=(false,eval e X.env)::starEach es X.env:=by rfl) (hpl:(backTo pos (starEach es X.env)).any (·.1)=false:=by rfl):PE X (.Call (.Name x p) (e::es) [] pos) (Vs r t):=by
 intro pins s σ H Q I h
 refine wpAny_Call_Name_kw (DU I hg hm hv ?_ hn hdb)
 exact PyProof.Rows.callWith_builtin1 (gm (ha pos pins s σ H _ I h) (by rintro us s1 ⟨vs,H1,I1,r1,q1⟩;exact hc pins s1 σ H1 vs us Q I1 r1 q1)) he hpl
theorem JP (hc:jk X (.type T) r)(hg:Gl X x)(hm:X.mg x=none)(hv:bootBuiltins x=some (.type T))(ha:PA X (e::es) t)(hn:x≠"__name__":=by decide)(hdb:(x == ("__debug__":Str))=false:=by decide)
  (he:starEach (e::es) X.env=(false,eval e X.env)::starEach es X.env:=by rfl) (hpl:(backTo pos (starEach es X.env)).any (·.1)=false:=by rfl):PE X (.Call (.Name x p) (e::es) [] pos) (Vs r t):=by
 intro pins s σ H Q I h
 refine wpAny_Call_Name_kw (DU I hg hm hv ?_ hn hdb)
 exact PyProof.Rows.callWith_type1 (gm (ha pos pins s σ H _ I h) (by rintro us s1 ⟨vs,H1,I1,r1,q1⟩;exact hc pins s1 σ H1 vs us Q I1 r1 q1)) he hpl
end
end L2
namespace HT
open PySem PyProof.Rows
section
open PySem.SeqAt
open PySem.AutoSeq1 (wpAny_loadPart')
open PySem.MeetsSeq PySem.MeetsSeq2 PySem.MeetsSeq3
end
section
variable {prog:Program}{w:World}{A:Around}{E:Value->Shared->Prop}{s:Shared}
theorem PX {t b:Addr}{vs ws:List Value}{Q:Value->Shared->Prop}(ht:IsTup s.heap t vs.toArray)(hb:IsTup s.heap b ws.toArray)(hv:vs≠[])
  (h1:ws=[]->Q (.ref t) s) (h2:ws≠[]->Q (.ref s.heap.objs.size) { s with heap:=s.heap.push { cls:=.type "tuple",data:=.seq (vs++ws).toArray } })
  (hsz:vs.length+ws.length<=sizeLine):wpAny (model prog w) A (binaryOp .Add (.ref t) (.ref b)) Q E s:=by
 obtain⟨⟨cls,dd,data,sl⟩,ho,hc,n,hd⟩:=id ht
 obtain⟨⟨a0V,dd2,data2,sl2⟩,ho2,hc2,n2,hd2⟩:=id hb
 simp only at hc hd hc2 hd2
 subst hc hd hc2 hd2
 have e:vs.toArray++ws.toArray=(vs++ws).toArray:=by simp
 by_cases hw:ws=[]
 ·exact concat_meets ⟨_,ho,rfl⟩ ⟨_,ho2,rfl⟩ noFill_tuple_add seq_tuple_add PySem.F.slot_tuple_add PySem.F.entry_tuple_add (PySem.F.args_tuple_add_2 _ _)
   (tuple_addW1 t b vs.toArray ws.toArray n n2 dd dd2 sl sl2 (by simpa using hv) (by simp[hw])) ⟨ho,ho2,h1 hw⟩
 ·refine concat_meets ⟨_,ho,rfl⟩ ⟨_,ho2,rfl⟩ noFill_tuple_add seq_tuple_add PySem.F.slot_tuple_add PySem.F.entry_tuple_add (PySem.F.args_tuple_add_2 _ _)
   (tuple_addW2 t b vs.toArray ws.toArray n n2 dd dd2 sl sl2 (by simpa using hv) (by simpa using hw) (by rw[List.size_toArray,List.size_toArray];exact hsz)) ⟨ho,ho2,?_⟩
  rw[e]
  exact h2 hw
noncomputable def fH (n d:Nat):Option Int->Nat
 | none=>d
 | some v=>if v < 0 then (v+(n:Int)).toNat else min v.toNat n
theorem Mh (n d:Nat):fH n d none=d:=rfl
theorem IT (n d k:Nat):fH n d (some (k:Int))=min k n:=by
 show(if (k:Int) < 0 then ((k:Int)+(n:Int)).toNat else min (k:Int).toNat n)=min k n
 rw[if_neg (by omega),Int.toNat_natCast]
theorem RW (n d:Nat)(hd:d<=n)(o:Option Int):fH n d o<=n:=by
 cases o with
 | none=>exact hd
 | some v =>
  show(if v < 0 then (v+(n:Int)).toNat else min v.toNat n)<=n
  by_cases hv:v < 0
  ·rw[if_pos hv];omega
  ·rw[if_neg hv];exact Nat.min_le_right _ _
theorem Js (v:Int)(n d:Nat):(if v < 0 then max (v+(n:Int)) 0 else min v (n:Int))=((fH n d (some v):Nat):Int):=by
 show(if v < 0 then max (v+(n:Int)) 0 else min v (n:Int))=(((if v < 0 then (v+(n:Int)).toNat else min v.toNat n):Nat):Int)
 by_cases hv:v < 0
 ·simp only[if_pos hv];omega
 ·simp only[if_neg hv];omega
theorem HR (lo hi:Option Int)(n:Nat):Builtin.Slice.sliceAdjust lo hi 1 (n:Int)=(((fH n 0 lo:Nat):Int),((fH n n hi:Nat):Int)):=by
 have h1:¬ ((1:Int) < 0):=by omega
 unfold Builtin.Slice.sliceAdjust
 simp only[h1,if_false]
 refine Prod.ext ?_ ?_
 ·cases lo with
  | none=>rfl
  | some v=>exact Js v n 0
 ·cases hi with
  | none=>rfl
  | some v=>exact Js v n n
theorem GV (i j:Nat):Builtin.Slice.slicePlaces (i:Int) (j:Int) 1=j - i:=by
 unfold Builtin.Slice.slicePlaces
 have h1:(1:Int) > 0:=by omega
 simp only[h1,if_true,Int.ediv_one]
 split <;> omega
theorem Ak {v:Value}{o:Option Int}{Q:Option Int->Shared->Prop}(p:IsPart v o)(h:Q o s):wpAny (model prog w) A (Builtin.Slice.slicePartIndex v) Q E s:=by
 cases p with
 | none=>exact slicePart_none h
 | int i t=>exact slicePart_int h
theorem xU {sl:Addr}{vl vu:Value}{lo hi:Option Int}{n:Nat}{Q:Int×Int×Nat->Shared->Prop}(hs:s.heap.IsSliceOf sl vl vu .none)(pl:IsPart vl lo)(pu:IsPart vu hi)
  (h:Q (((fH n 0 lo:Nat):Int),1,fH n n hi - fH n 0 lo) s):wpAny (model prog w) A (Builtin.Slice.sliceApplied (.ref sl) (pure (n:Int))) Q E s:=by
 obtain⟨os,hos,hcs,hds⟩:=id hs
 unfold Builtin.Slice.sliceApplied Builtin.Slice.sliceFields
 refine wpAny_bind (wpAny_bind (wpAny_field hos hds (x:=vl) rfl (wpAny_bind (wpAny_field hos hds (x:=vu) rfl (wpAny_bind (wpAny_field hos hds (x:=.none) rfl (wpAny_pure ?_)))))))
 refine wpAny_bind (slicePart_none ?_)
 show wpAny _ _ (if ((1:Int) == 0)=true then _ else _) _ _ s
 rw[if_neg (by decide)]
 refine wpAny_bind (Ak pl (wpAny_bind (Ak pu (wpAny_bind (wpAny_pure ?_)))))
 show wpAny _ _ (match Builtin.Slice.sliceAdjust lo hi 1 (n:Int) with | (lo,hi)=>pure (lo,(1:Int),Builtin.Slice.slicePlaces lo hi 1)) _ _ s
 rw[HR lo hi n]
 show wpAny _ _ (pure (((fH n 0 lo:Nat):Int),(1:Int),Builtin.Slice.slicePlaces ((fH n 0 lo:Nat):Int) ((fH n n hi:Nat):Int) 1)) _ _ s
 rw[GV]
 exact wpAny_pure h
theorem My (xs:Array Value)(i k:Nat):((List.range k).filterMap fun(m:Nat)=>xs[((i:Int)+(m:Int)*1).toNat]?).toArray=((xs.toList.drop i).take k).toArray:=by
 have e:(fun(m:Nat)=>xs[((i:Int)+(m:Int)*1).toNat]?)=fun m=>xs[i+m]?:=by
  funext m
  have:((i:Int)+(m:Int)*1).toNat=i+m:=by omega
  rw[this]
 rw[e]
 have:=pick_run xs i k
 rw[List.filterMap_map] at this
 have e2:((fun x=>xs[x]?) ∘ fun x=>i+x)=fun m=>xs[i+m]?:=rfl
 rw[e2] at this
 rw[this]
theorem w4 {t sl:Addr}{items:Array Value}{vl vu:Value}{lo hi:Option Int}{Q:Value->Shared->Prop}(ht:IsTup s.heap t items)(hs:s.heap.IsSliceOf sl vl vu .none)(pl:IsPart vl lo)(pu:IsPart vu hi)
  (hw:¬ (fH items.size 0 lo=0/\fH items.size items.size hi=items.size))
  (h:Q (.ref s.heap.objs.size) { s with heap:=s.heap.push { cls:=.type "tuple",data:=.seq ((items.toList.drop (fH items.size 0 lo)).take (fH items.size items.size hi - fH items.size 0 lo)).toArray } })
  (hsz:items.size<=sizeLine):wpAny (model prog w) A (getItem (.ref t) (.ref sl)) Q E s:=by
 have Ji:sizeOk (.seq ((items.toList.drop (fH items.size 0 lo)).take (fH items.size items.size hi - fH items.size 0 lo)).toArray):=by
  show((items.toList.drop (fH items.size 0 lo)).take (fH items.size items.size hi - fH items.size 0 lo)).toArray.size<=sizeLine
  rw[List.size_toArray,List.length_take,List.length_drop,Array.length_toList]
  omega
 have hj:fH items.size items.size hi<=items.size:=RW _ _ (Nat.le_refl _) hi
 obtain⟨os,hos,hcs,hds⟩:=id hs
 have hTs:s.TypeIs (.ref sl) "slice":=⟨os,hos,hcs⟩
 unfold getItem
 try with_reducible refine wpAny_holding ?_
 first | refine wpAny_bind (wpAny_pure ?_) | skip
 refine wpAny_bind (wpAny_sequenceKey ht.typeIs (by decide) ?_)
 refine wpAny_bind (wpAny_callSpecial?_slot (name:=Str.ofString "__getitem__") ht.typeIs PyProof.Rows.slot_tuple_getitem
  (wpAny_call_entry PyProof.Rows.slot_tuple_getitem ht.typeIs entry_tuple_getitem ?_ (args_tuple_getitem _ _)))
 show wpAny _ _ (Builtin.Tuple.tupleItemsOf (.ref t) >>= _) _ _ s
 refine wpAny_bind (tupleItemsOf_ ht ?_)
 refine wpAny_bind (wpAny_typeOf hTs ?_)
 rw[if_pos (by decide)]
 refine wpAny_bind (xU hs pl pu ?_)
 have hno:¬ ((((fH items.size 0 lo:Nat):Int) == 0 && (1:Int) == 1 && (fH items.size items.size hi - fH items.size 0 lo) == items.size)=true):=by
  intro q
  rw[Bool.and_eq_true,Bool.and_eq_true] at q
  have q1:((fH items.size 0 lo:Nat):Int)=0:=eq_of_beq q.1.1
  have q2:fH items.size items.size hi - fH items.size 0 lo=items.size:=eq_of_beq q.2
  exact hw ⟨by omega,by omega⟩
 show wpAny _ _ (if (((fH items.size 0 lo:Nat):Int) == 0 && (1:Int) == 1 && (fH items.size items.size hi - fH items.size 0 lo) == items.size)=true then _ else _) _ _ s
 rw[if_neg hno,My]
 first
  | exact wpAny_bind (m:=Builtin.Tuple.tupleExact _) (wpAny_newObj_type (wpAny_pure ⟨_,rfl,wpAny_pure h⟩) Ji)
  | exact wpAny_bind (m:=Builtin.Tuple.tupleExact _) (wpAny_newObj_type (wpAny_bind (wpAny_pure (wpAny_pure ⟨_,rfl,wpAny_pure h⟩))) Ji)
  | exact wpAny_bind (wpAny_bind (m:=Builtin.Tuple.tupleExact _) (wpAny_newObj_type (wpAny_pure (wpAny_pure ⟨_,rfl,wpAny_pure h⟩)) Ji))
  | exact wpAny_bind (wpAny_bind (m:=Builtin.Tuple.tupleExact _) (wpAny_newObj_type (wpAny_pure ⟨_,rfl,wpAny_pure h⟩) Ji))
end
end HT
namespace L2
open PySem PySem.Spec PyProof.Rows
noncomputable abbrev TO:=St->Hp->(Option Int->Hp->Prop)->Prop
noncomputable def PO (X:Cx)(e:Option Expr)(t:TO):Prop :=
 ∀ (pins:List (Addr×Obj)) (s:Shared) (σ:St) (H:Hp) (Q:Option Int->Hp->Prop),Inv X pins σ H s->t σ H Q ->
  wpAny (model X.prog X.w) X.A (evalPart e X.env) (fun u s'=>∃ o H',Inv X pins σ H' s'/\IsPart u o/\Q o H') X.xe s
noncomputable def Oi:TO:=fun _ H Q=>Q none H
noncomputable def Vd (t:TE):TO:=fun σ H Q=>t σ H fun x H1=>∃ i,x=.int i/\Q (some i) H1
section
variable {X:Cx}{e:Expr}{te:TE}{lo hi:Option Expr}{tl th:TO}{pos p2:Pos}
theorem OU:PO X none Oi:=by
 intro pins s σ H Q I h
 rw[evalPart_none]
 exact wpAny_pure ⟨none,H,I,.none,h⟩
theorem OT (h:PE X e te):PO X (some e) (Vd te):=by
 intro pins s σ H Q I hw
 rw[evalPart_some]
 refine gm (h pins s σ H _ I hw) ?_
 rintro u s1 ⟨x,H1,I1,r1,q1⟩
 obtain⟨i,rfl,q⟩:=q1
 obtain⟨t,rfl⟩:=r1
 exact⟨some i,H1,I1,.int i t,q⟩
noncomputable def P7 (X:Cx)(r:V->Option Int->Option Int->Hp->VK->Prop):Prop :=
 ∀ (pins:List (Addr×Obj)) (s:Shared) (σ:St) (H:Hp) (x:V) (v vl vu:Value) (lo hi:Option Int) (sl:Addr) (Q:VK),Inv X pins σ H s->RelV x v->s.heap.IsSliceOf sl vl vu .none->IsPart vl lo->IsPart vu hi->r x lo hi H Q ->
  ∃ T id,typeLookup (.type T) "__getitem__"=pure (some (.builtin id))/\s.TypeIs v T/\wpAny (model X.prog X.w) X.A (getItem v (.ref sl)) (EP X pins σ Q) X.xe s
theorem P7.or {r r':V->Option Int->Option Int->Hp->VK->Prop}(h:P7 X r)(h':P7 X r'):P7 X (fun x lo hi H Q=>r x lo hi H Q∨r' x lo hi H Q):=by
 intro pins s σ H x v vl vu lo hi sl Q I rx hs pl pu q
 rcases q with q | q
 ·exact h pins s σ H x v vl vu lo hi sl Q I rx hs pl pu q
 ·exact h' pins s σ H x v vl vu lo hi sl Q I rx hs pl pu q
noncomputable def tSl (r:V->Option Int->Option Int->Hp->VK->Prop)(te:TE)(tl th:TO):TE:=fun σ H Q=>te σ H fun x H1=>tl σ H1 fun l H2=>th σ H2 fun u H3=>r x l u H3 Q
theorem MB {r:V->Option Int->Option Int->Hp->VK->Prop}(hr:P7 X r)(he:PE X e te)(hl:PO X lo tl)(hu:PO X hi th):PE X (.Subscript e (.Slice lo hi none p2) pos) (tSl r te tl th):=by
 intro pins s σ H Q I h
 refine Subscript_ (gm (he pins s σ H _ I h) fun v s1 ⟨x,H1,I1,r1,q1⟩=>?_)
 refine wpAny_Slice (gm (hl pins s1 σ H1 _ I1 q1) fun vl s2 ⟨l,H2,I2,pl,q2⟩=>gm (hu pins s2 σ H2 _ I2 q2) fun vu s3 ⟨u,H3,I3,pu,q3⟩=>?_)
 rw[evalPart_none]
 refine wpAny_pure ?_
 have I4:Inv X pins σ H3 { s3 with heap:=s3.heap.push { cls:=.type "slice",data:=.fields #[vl,vu,.none] } }:=I3.kept (t':=s3.toks) fun b ob q=>Heap.get?_push_of_some _ q
 obtain⟨T,id,hT,ht,hg⟩:=hr pins { s3 with heap:=s3.heap.push { cls:=.type "slice",data:=.fields #[vl,vu,.none] } } σ H3 x v vl vu l u s3.heap.objs.size Q I4 r1 (Heap.IsSliceOf.new ..) pl pu q3
 show wpAny (model X.prog X.w) X.A (subscriptTail e (.Slice lo hi none p2) v (.ref s3.heap.objs.size)) (EP X pins σ Q) X.xe { s3 with heap:=s3.heap.push { cls:=.type "slice",data:=.fields #[vl,vu,.none] } }
 exact tail_any (ops:=[.ref s3.heap.objs.size,v]) ht hT hg (by with_unfolding_all rfl)
noncomputable def FF (xs:List V)(lo hi:Option Int):List V:=(xs.drop (HT.fH xs.length 0 lo)).take (HT.fH xs.length xs.length hi - HT.fH xs.length 0 lo)
theorem yR (xs:List V)(lo hi:Option Int):(FF xs lo hi).length<=xs.length:=by
 unfold FF
 rw[List.length_take,List.length_drop]
 omega
noncomputable def YZ (K:PySem.W.Frag):V->Option Int->Option Int->Hp->VK->Prop:=fun x lo hi H Q=>∃ a xs,x=.ref a/\vo K H a xs /\
 ¬ (HT.fH xs.length 0 lo=0/\HT.fH xs.length xs.length hi=xs.length)/\∀ p,H p=none->Q (.ref p) (upd H p (.tup (FF xs lo hi)))
theorem RQ:P7 X (YZ X.K):=by
 intro pins s σ H x v vl vu lo hi sl Q I rx hs pl pu h
 obtain⟨a,xs,rfl,hx,hw,q⟩:=h
 cases rx
 obtain⟨its,r,ht,hz⟩:=I.tuple hx
 have hlen:its.toArray.size=xs.length:=by rw[List.size_toArray];exact r.length.symm
 refine⟨"tuple",_,PyProof.Rows.slot_tuple_getitem.lookup,ht.typeIs,?_⟩
 refine HT.w4 ht hs pl pu (by rw[hlen];exact hw) ?_ (by rw[hlen];exact hz)
 rw[hlen]
 refine⟨.ref s.heap.objs.size,_,I.laid (t':=s.toks) (o:=.tup (FF xs lo hi)) (fun b ob q=>Heap.get?_push_of_some _ q) (Nat.le_refl _) ?_,rfl,q _ (I.hok.fresh (Nat.le_refl _))⟩
 exact⟨Nat.le_trans (yR xs lo hi) hz,_,(r.drop (HT.fH xs.length 0 lo)).take (HT.fH xs.length xs.length hi - HT.fH xs.length 0 lo),IsTup.new _ _⟩
noncomputable def VN (K:PySem.W.Frag):R2:=fun x y H Q=>∃ a b xs ys,x=.ref a/\y=.ref b/\vo K H a xs/\vo K H b ys/\xs≠[]/\xs.length+ys.length<=sizeLine /\
 (ys=[]->Q (.ref a) H)/\(ys≠[]->∀ p,H p=none->Q (.ref p) (upd H p (.tup (xs++ys))))
theorem Vals.fX {xs:List V}{us:List Value}(r:Vals xs us):us=[]↔xs=[]:=by
 cases r with
 | nil=>simp
 | cons _ _=>simp
theorem O9:qF X (binaryOp .Add) (VN X.K):=by
 intro pins s σ H x y v u Q I rx ry h
 obtain⟨a,b,xs,ys,rfl,rfl,ha,hb,hx,hz,q1,q2⟩:=h
 cases rx
 cases ry
 obtain⟨its,r1,p1,_⟩:=I.tuple ha
 obtain⟨its2,r2,p2,_⟩:=I.tuple hb
 refine HT.PX p1 p2 (fun z=>hx (r1.fX.mp z)) (fun z=>⟨.ref a,H,I,rfl,q1 (r2.fX.mp z)⟩) (fun z=>?_) (by rw[<- r1.length,<- r2.length];exact hz)
 refine⟨.ref s.heap.objs.size,_,I.laid (t':=s.toks) (o:=.tup (xs++ys)) (fun b ob q=>Heap.get?_push_of_some _ q) (Nat.le_refl _) ?_,rfl,q2 (fun w=>z (r2.fX.mpr w)) _ (I.hok.fresh (Nat.le_refl _))⟩
 exact⟨by rw[List.length_append];exact hz,_,r1.append r2,IsTup.new _ _⟩
end
end L2
namespace L2
open PySem PySem.Spec PyProof.Rows
noncomputable def Kr (n:Nat)(i:Int):Option Nat:=if 0<=i then (if i < n then some i.toNat else none) else if -(n:Int)<=i then some (i+n).toNat else none
noncomputable def qp {α:Type}(xs:List α)(i:Int):Option α:=(Kr xs.length i).bind fun j=>xs[j]?
theorem Jf {n:Nat}{i:Int}{j:Nat}(h:Kr n i=some j):seqIndex? i n=some j/\j < n/\-(n:Int)<=i/\i < n:=by
 unfold Kr at h
 by_cases h0:0<=i
 ·rw[if_pos h0] at h
  by_cases h1:i < n
  ·rw[if_pos h1] at h
   have e:i.toNat=j:=Option.some.inj h
   exact⟨by rw[seqIndex_of h0 h1,e],by omega,by omega,h1⟩
  ·rw[if_neg h1] at h;cases h
 ·rw[if_neg h0] at h
  by_cases h1:-(n:Int)<=i
  ·rw[if_pos h1] at h
   have e:(i+n).toNat=j:=Option.some.inj h
   exact⟨by rw[seqIndex_neg (by omega) h1,e],by omega,h1,by omega⟩
  ·rw[if_neg h1] at h;cases h
theorem Ef {α:Type}{xs:List α}{i:Int}{v:α}(h:qp xs i=some v):∃ j,seqIndex? i xs.length=some j/\xs[j]?=some v/\j < xs.length/\-(xs.length:Int)<=i/\i < xs.length:=by
 unfold qp at h
 cases e:Kr xs.length i with
 | none=>rw[e] at h;cases h
 | some j =>
  rw[e] at h
  obtain⟨h1,h2,h3,h4⟩:=Jf e
  exact⟨j,h1,h,h2,h3,h4⟩
theorem xE {α:Type}{xs:List α}{j:Nat}{v:α}(h:xs[j]?=some v):qp xs (j:Int)=some v:=by
 have hj:j < xs.length:=(List.getElem?_eq_some_iff.mp h).1
 have e:Kr xs.length (j:Int)=some j:=by
  unfold Kr
  rw[if_pos (by omega),if_pos (by omega)];simp
 unfold qp;rw[e];exact h
noncomputable def JA (b:Expr):Prop:=∀ o i,subscripted b false o i=operate [o,i] (getItem o i)
noncomputable def N8 (X:Cx)(r:R2):Prop :=
 ∀ (value slice:Expr) (pins:List (Addr×Obj)) (s:Shared) (σ:St) (H:Hp) (x y:V) (v u:Value) (Q:VK),Inv X pins σ H s->RelV x v->RelV y u->r x y H Q ->
  subscripted slice false v u=operate [v,u] (getItem v u)->wpAny (model X.prog X.w) X.A (subscriptTail value slice v u) (EP X pins σ Q) X.xe s
noncomputable def JC (X:Cx)(id:String)(r:V->List V->Hp->VK->Prop):Prop :=
 ∀ (pins:List (Addr×Obj)) (s:Shared) (σ:St) (H:Hp) (x:V) (xs:List V) (v:Value) (us:List Value) (Q:VK),Inv X pins σ H s->RelV x v->Vals xs us->r x xs H Q ->
  wpAny (model X.prog X.w) X.A (call (.builtin id) (v::us)) (EP X pins σ Q) X.xe s
section
variable {X:Cx}{a b:Expr}{ta tb:TE}{pos:Pos}
theorem N8.or {r r':R2}(h:N8 X r)(h':N8 X r'):N8 X (fun x y H Q=>r x y H Q∨r' x y H Q):=by
 intro value slice pins s σ H x y v u Q I rx ry q hs
 rcases q with q | q
 ·exact h value slice pins s σ H x y v u Q I rx ry q hs
 ·exact h' value slice pins s σ H x y v u Q I rx ry q hs
theorem JC.or {id:String}{r r':V->List V->Hp->VK->Prop}(h:JC X id r)(h':JC X id r'):JC X id (fun x xs H Q=>r x xs H Q∨r' x xs H Q):=by
 intro pins s σ H x xs v us Q I rx rs q
 rcases q with q | q
 ·exact h pins s σ H x xs v us Q I rx rs q
 ·exact h' pins s σ H x xs v us Q I rx rs q
theorem VU {r:R2}(hr:N8 X r)(ha:PE X a ta)(hb:PE X b tb)(hs:JA b):PE X (.Subscript a b pos) (Ve r ta tb):=by
 intro pins s σ H Q I h
 exact Subscript_ (Uv ha hb I h fun v u s2 x y H2 I2 rx ry q=>hr a b pins s2 σ H2 x y v u Q I2 rx ry q (hs _ _))
noncomputable def VL (K:PySem.W.Frag):R2:=fun x y H Q=>∃ p xs i v,x=.ref p/\y=.int i/\rR K H p xs/\qp xs i=some v/\Q v H
noncomputable def VI (K:PySem.W.Frag):R2:=fun x y H Q=>∃ p xs i v,x=.ref p/\y=.int i/\vo K H p xs/\qp xs i=some v/\Q v H
noncomputable def VJ:R2:=fun x y H Q=>∃ z i c,x=.str z/\y=.int i/\z.length<=sizeLine/\qp z.cps.toList i=some c/\Q (.str ⟨#[c]⟩) H
theorem Po:N8 X (VL X.K):=by
 intro value slice pins s σ H x y v u Q I rx ry h hs
 obtain⟨p,xs,i,z,rfl,rfl,hq,he,q⟩:=h
 cases rx
 obtain⟨t,rfl⟩:=ry
 obtain⟨its,r,pl,hz⟩:=I.list hq
 obtain⟨j,h1,h2,h3,h4,h5⟩:=Ef he
 obtain⟨w,ew,rw'⟩:=r.get h2
 have hl:=r.length
 have hn:=uQ
 have fin:EP X pins σ Q w s:=⟨z,H,I,rw',q⟩
 by_cases h0:0<=i
 ·have hj:i.toNat=j:=by
   rw[seqIndex_of h0 h5] at h1
   exact Option.some.inj h1
  exact item_listR pl.isList h0 (by omega) (by rw[hj];simpa using ew) fin hs
 ·have hj:(i+(its.toArray.size:Int)).toNat=j:=by
   rw[seqIndex_neg (by omega) h4] at h1
   rw[List.size_toArray,<- hl]
   exact Option.some.inj h1
  exact subscriptTail_builtinR (x:=w) pl.isList.typeIs slot_list_getitem.lookup
   (wpAny_getItem_list_neg (Q:=fun r s'=>r=w/\EP X pins σ Q r s') pl.isList (by omega) (by rw[List.size_toArray] <;> omega) (by omega) (by rw[hj];simpa using ew) ⟨rfl,fin⟩) hs
theorem Tt:N8 X (VI X.K):=by
 intro value slice pins s σ H x y v u Q I rx ry h hs
 obtain⟨p,xs,i,z,rfl,rfl,hq,he,q⟩:=h
 cases rx
 obtain⟨t,rfl⟩:=ry
 obtain⟨its,r,pl,hz⟩:=I.tuple hq
 obtain⟨j,h1,h2,h3,h4,h5⟩:=Ef he
 obtain⟨w,ew,rw'⟩:=r.get h2
 have hl:=r.length
 have hn:=uQ
 have fin:EP X pins σ Q w s:=⟨z,H,I,rw',q⟩
 exact subscriptTail_builtinR (x:=w) pl.typeIs slot_tuple_getitem.lookup
  (getItem_tuple (j:=j) (Q:=fun r s'=>r=w/\EP X pins σ Q r s') pl (by omega) (by omega) (by rw[List.size_toArray,<- hl];exact h1) (by simpa using ew) ⟨rfl,fin⟩) hs
theorem Tu:N8 X VJ:=by
 intro value slice pins s σ H x y v u Q I rx ry h hs
 obtain⟨z,i,c,rfl,rfl,hz,he,q⟩:=h
 obtain⟨t,rfl⟩:=rx
 obtain⟨t',rfl⟩:=ry
 obtain⟨j,h1,h2,h3,h4,h5⟩:=Ef he
 have hl:z.cps.toList.length=z.length:=by simp[Str.length]
 rw[hl] at h1 h4 h5
 have hn:=uQ
 exact tail_any (typeIs_str s z t) slot_str_getitem.lookup (getItem_str (c:=c) (by
  have e1:decide (i < -(2 ^ 63:Int))=false:=decide_eq_false (by omega)
  have e2:decide (i ≥ 2 ^ 63)=false:=decide_eq_false (by omega)
  rw[e1,e2,Bool.or_false]) (by rw[h1];simpa using h2) ⟨.str ⟨#[c]⟩,H,I.tok _,⟨_,rfl⟩,q⟩) hs
noncomputable def rIx (K:PySem.W.Frag):R2:=fun x y H Q=>VL K x y H Q∨VI K x y H Q∨VJ x y H Q
theorem Tv:N8 X (rIx X.K):=Po.or (Tt.or Tu)
theorem Hh (its:List Value)(n j:Nat)(u:Value):Obj.mapSeq (·.setIfInBounds j u) { cls:=.type "list",data:=.seq its.toArray n }={ cls:=.type "list",data:=.seq (its.set j u).toArray n }:=by
 simp[Obj.mapSeq]
theorem Inv.lst {pins:List (Addr×Obj)}{σ:St}{H:Hp}{s:Shared}{p:Addr}{xs:List V}(I:Inv X pins σ H s)(h:H p=some (.lst xs)) :
  ∃ (its:List Value) (n:Nat),Vals xs its/\s.heap.get? p=some { cls:=.type "list",data:=.seq its.toArray n }/\xs.length<=sizeLine:=by
 obtain⟨z,its,n,r,e⟩:=I.hok p _ h
 exact⟨its,n,r,e,z⟩
theorem Inv.Tc {pins:List (Addr×Obj)}{σ:St}{H:Hp}{s:Shared}{p:Addr}{xs ys:List V}{its its':List Value}{n n':Nat}{f:Obj->Obj}(I:Inv X pins σ H s)(h:H p=some (.lst xs))
  (ho:s.heap.get? p=some { cls:=.type "list",data:=.seq its.toArray n }) (hf:f { cls:=.type "list",data:=.seq its.toArray n }={ cls:=.type "list",data:=.seq its'.toArray n' }) (r:Vals ys its') (hz:ys.length<=sizeLine) (t:Nat) :
  Inv X pins σ (upd H p (.lst ys)) { s with heap:=s.heap.update p f,toks:=t }:=by
 have e:(s.heap.update p f).get? p=some { cls:=.type "list",data:=.seq its'.toArray n' }:=by
  rw[Heap.get?_update_self f ho (by rw[hf] <;> rfl),hf]
 refine I.write (x:=p) (e:=p) (by rw[h];trivial) (.inl rfl) (fun b u hb q=>(Heap.get?_update_other _ _ (Ne.symm hb)).trans q) ⟨_,e⟩ ?_
 exact⟨hz,its',n',r,e⟩
noncomputable def VH:V->V->V->Hp->(Hp->Prop)->Prop:=fun o i v H Q=>∃ p xs k j,o=.ref p/\i=.int k/\H p=some (.lst xs)/\Kr xs.length k=some j/\Q (upd H p (.lst (xs.set j v)))
theorem set_list:UC X VH:=by
 intro pins s σ H o i v ov iv u Q I ro ri rv h
 obtain⟨p,xs,k,j,rfl,rfl,hp,hj,q⟩:=h
 cases ro
 obtain⟨t,rfl⟩:=ri
 obtain⟨its,n,r,ho,hz⟩:=I.lst hp
 obtain⟨h1,h2,h3,h4⟩:=Jf hj
 have hl:=r.length
 have hn:=uQ
 have I':Inv X pins σ (upd H p (.lst (xs.set j v))) { s with heap:=s.heap.update p (Obj.mapSeq (·.setIfInBounds j u)) } :=
  I.Tc hp ho (Hh its n j u) (r.set rv j) (by rw[List.length_set];exact hz) s.toks
 by_cases h0:0<=k
 ·have hk:k.toNat=j:=by
   rw[seqIndex_of h0 h4] at h1
   exact Option.some.inj h1
  exact PySem.W.ki_setAt ho h0 (by omega) (by rw[List.size_toArray,<- hl];exact h4) (by rw[hk];exact⟨_,I',q⟩)
 ·have hk:(k+(its.toArray.size:Int)).toNat=j:=by
   rw[seqIndex_neg (by omega) h3] at h1
   rw[List.size_toArray,<- hl]
   exact Option.some.inj h1
  exact PySem.W.ki_setBack ho (by omega) (by rw[List.size_toArray,<- hl];exact h3) (by omega) (by rw[hk];exact⟨_,I',q⟩)
theorem Dk (lo hi:Option Int)(n:Nat):(sliceBounds lo hi none n).1=((HT.fH n 0 lo:Nat):Int)/\(sliceBounds lo hi none n).2.1=((HT.fH n n hi:Nat):Int)/\(sliceBounds lo hi none n).2.2=1:=by
 refine⟨?_,?_,rfl⟩
 ·cases lo with
  | none=>simp[sliceBounds,HT.fH]
  | some i =>
   simp only[sliceBounds,HT.fH,Option.getD_none,show(1:Int) > 0 by decide,if_true]
   by_cases h:i < 0
   ·simp only[h,if_true] <;> omega
   ·simp only[h,if_false] <;> omega
 ·cases hi with
  | none=>simp[sliceBounds,HT.fH]
  | some i =>
   simp only[sliceBounds,HT.fH,Option.getD_none,show(1:Int) > 0 by decide,if_true]
   by_cases h:i < 0
   ·simp only[h,if_true] <;> omega
   ·simp only[h,if_false] <;> omega
theorem BG (its:List Value)(lo hi:Option Int):slicePick its.toArray lo hi none=((its.drop (HT.fH its.length 0 lo)).take (HT.fH its.length its.length hi - HT.fH its.length 0 lo)).toArray:=by
 obtain⟨h1,h2,h3⟩:=Dk lo hi its.toArray.size
 unfold slicePick
 rw[h1,h2,h3]
 simp only[sliceRange_one,pick_run,List.size_toArray] <;> rfl
noncomputable def Y3 (K:PySem.W.Frag):V->Option Int->Option Int->Hp->VK->Prop:=fun x lo hi H Q=>∃ a xs,x=.ref a/\rR K H a xs/\∀ p,H p=none->Q (.ref p) (upd H p (.lst (FF xs lo hi)))
theorem Ot:P7 X (Y3 X.K):=by
 intro pins s σ H x v vl vu lo hi sl Q I rx hs pl pu h
 obtain⟨a,xs,rfl,hx,q⟩:=h
 cases rx
 obtain⟨its,r,ht,hz⟩:=I.list hx
 have hlen:=r.length
 refine⟨"list",_,slot_list_getitem.lookup,ht.isList.typeIs,?_⟩
 refine wpAny_getItem_list_slice ht.isList hs pl pu .none (by simp) ?_ (by rw[List.size_toArray] <;> omega)
 rw[BG,<- hlen]
 refine⟨.ref s.heap.objs.size,_,I.laid (t':=s.toks) (o:=.lst (FF xs lo hi)) (fun b ob q=>Heap.get?_push_of_some _ q) (Nat.le_refl _) ?_,rfl,q _ (I.hok.fresh (Nat.le_refl _))⟩
 exact⟨Nat.le_trans (yR xs lo hi) hz,_,0,(r.drop (HT.fH xs.length 0 lo)).take (HT.fH xs.length xs.length hi - HT.fH xs.length 0 lo),Heap.get?_push_size _ rfl⟩
noncomputable def j4:V->Bool
 | .fE=>true
 | .bl _=>true
 | .int _=>true
 | .str _=>true
 | _=>false
noncomputable def Gv:V->V->Bool
 | .fE,.fE=>true
 | .bl a,.bl b=>a == b
 | .bl a,.int b=>(if a then 1 else 0) == b
 | .int a,.bl b=>a == (if b then 1 else 0)
 | .int a,.int b=>a == b
 | .str a,.str b=>a == b
 | _,_=>false
theorem ND {A:Around}{s:Shared}{y x:V}{u v:Value}(ry:RelV y u)(rx:RelV x v)(fy:j4 y=true)(fx:j4 x=true):SeqAt.EqAt A s u v (Gv y x):=by
 cases y with
 | fE =>
  cases ry
  cases x with
  | fE=>cases rx;exact SeqAt.EqAt.same _
  | bl b=>cases rx;exact SeqAt.EqAt.none_bool b
  | int b=>obtain⟨t,rfl⟩:=rx;exact SeqAt.EqAt.none_int b t
  | str b=>obtain⟨t,rfl⟩:=rx;exact SeqAt.EqAt.none_str b t
  | _=>exact absurd (show false=true from fx) Bool.false_ne_true
 | bl a =>
  cases ry
  cases x with
  | fE=>cases rx;exact SeqAt.EqAt.bool_none a
  | bl b=>cases rx;exact SeqAt.EqAt.bool_bool a b
  | int b=>obtain⟨t,rfl⟩:=rx;exact SeqAt.EqAt.bool_int a b t
  | str b=>obtain⟨t,rfl⟩:=rx;exact SeqAt.EqAt.bool_str a b t
  | _=>exact absurd (show false=true from fx) Bool.false_ne_true
 | int a =>
  obtain⟨t',rfl⟩:=ry
  cases x with
  | fE=>cases rx;exact SeqAt.EqAt.int_none a t'
  | bl b=>cases rx;exact SeqAt.EqAt.int_bool a t' b
  | int b=>obtain⟨t,rfl⟩:=rx;exact SeqAt.EqAt.int_int a t' b t
  | str b=>obtain⟨t,rfl⟩:=rx;exact SeqAt.EqAt.int_str a t' b t
  | _=>exact absurd (show false=true from fx) Bool.false_ne_true
 | str a =>
  obtain⟨t',rfl⟩:=ry
  cases x with
  | fE=>cases rx;exact SeqAt.EqAt.str_none a t'
  | bl b=>cases rx;exact SeqAt.EqAt.str_bool a t' b
  | int b=>obtain⟨t,rfl⟩:=rx;exact SeqAt.EqAt.str_int a t' b t
  | str b=>obtain⟨t,rfl⟩:=rx;exact SeqAt.EqAt.str_str a t' b t
  | _=>exact absurd (show false=true from fx) Bool.false_ne_true
 | _=>exact absurd (show false=true from fy) Bool.false_ne_true
noncomputable def HG (x:V)(u:Value):Bool:=match u with
 | .none=>Gv .fE x
 | .bool b=>Gv (.bl b) x
 | .int i _=>Gv (.int i) x
 | .str z _=>Gv (.str z) x
 | _=>false
theorem NC {x y:V}{u:Value}(r:RelV y u)(f:j4 y=true):HG x u=Gv y x:=by
 cases y with
 | fE=>cases r;rfl
 | bl b=>cases r;rfl
 | int i=>obtain⟨t,rfl⟩:=r;rfl
 | str z=>obtain⟨t,rfl⟩:=r;rfl
 | _=>exact absurd (show false=true from f) Bool.false_ne_true
theorem xG {x:V}:∀ {xs:List V} {us:List Value},Vals xs us->xs.all j4=true->us.any (HG x)=xs.any fun y=>Gv y x
 | _,_,.nil,_=>rfl
 | y::xs,u::us,.cons r t,f=>by
  rw[List.all_cons,Bool.and_eq_true] at f
  rw[List.any_cons,List.any_cons,NC r f.1,xG t f.2]
theorem rm {A:Around}{s:Shared}{x:V}{v:Value}(rx:RelV x v)(fx:j4 x=true):∀ {xs:List V} {us:List Value},Vals xs us->xs.all j4=true->∀ u∈us,SeqAt.EqAt A s u v (HG x u)
 | _,_,.nil,_=>fun u hu=>by cases hu
 | y::xs,u::us,.cons r t,f=>fun u' hu=>by
  rw[List.all_cons,Bool.and_eq_true] at f
  rcases List.mem_cons.mp hu with rfl | hu
  ·rw[NC r f.1];exact ND r rx f.1 fx
  ·exact rm rx fx t f.2 u' hu
noncomputable def Pq (x:V)(xs:List V):Bool:=xs.any fun y=>Gv y x
noncomputable def rIn (K:PySem.W.Frag)(neg:Bool):R2:=fun x y H Q=>∃ p xs,y=.ref p/\(rR K H p xs∨vo K H p xs)/\j4 x=true/\xs.all j4=true/\Q (.bl (if neg then !Pq x xs else Pq x xs)) H
theorem JT:qF X (compareOp .In) (rIn X.K false):=by
 intro pins s σ H x y v u Q I rx ry h
 obtain⟨p,xs,rfl,hq,fx,fs,q⟩:=h
 cases ry
 rcases hq with hq | hq
 ·obtain⟨its,r,pl,hz⟩:=I.list hq
  refine SeqAt.in_listAt (HG x) pl.isList (fun w hw=>rm rx fx r fs w (by simpa using hw)) ⟨.bl _,H,I,rfl,?_⟩
  rw[show its.toArray.any (HG x)=its.any (HG x) by simp,xG r fs]
  exact q
 ·obtain⟨its,r,pl,hz⟩:=I.tuple hq
  refine SeqAt.in_tupleAt (HG x) pl (fun w hw=>rm rx fx r fs w (by simpa using hw)) ⟨.bl _,H,I,rfl,?_⟩
  rw[show its.toArray.any (HG x)=its.any (HG x) by simp,xG r fs]
  exact q
theorem DH:qF X (compareOp .NotIn) (rIn X.K true):=by
 intro pins s σ H x y v u Q I rx ry h
 obtain⟨p,xs,rfl,hq,fx,fs,q⟩:=h
 cases ry
 rcases hq with hq | hq
 ·obtain⟨its,r,pl,hz⟩:=I.list hq
  refine SeqAt.notIn_listAt (HG x) pl.isList (fun w hw=>rm rx fx r fs w (by simpa using hw)) ⟨.bl _,H,I,rfl,?_⟩
  rw[show its.toArray.any (HG x)=its.any (HG x) by simp,xG r fs]
  exact q
 ·obtain⟨its,r,pl,hz⟩:=I.tuple hq
  refine SeqAt.notIn_tupleAt (HG x) pl (fun w hw=>rm rx fx r fs w (by simpa using hw)) ⟨.bl _,H,I,rfl,?_⟩
  rw[show its.toArray.any (HG x)=its.any (HG x) by simp,xG r fs]
  exact q
theorem Eb:jk X (.builtin "len") (fun xs H Q=>∃ p ys,xs=[.ref p]/\(rR X.K H p ys∨vo X.K H p ys)/\Q (.int ys.length) H):=by
 intro pins s σ H xs us Q I r h
 obtain⟨p,ys,rfl,hq,q⟩:=h
 obtain⟨u,rfl,rx⟩:=vals1 r
 cases rx
 have hn:=uQ
 rcases hq with hq | hq
 ·obtain⟨its,r',pl,hz⟩:=I.list hq
  have hlen:=r'.length
  exact Calls.call_len_list pl.isList (by simp only[List.size_toArray] <;> omega) ⟨.int ys.length,H,I.tok _,⟨s.toks+1,by rw[List.size_toArray,hlen]⟩,q⟩
 ·obtain⟨its,r',pl,hz⟩:=I.tuple hq
  have hlen:=r'.length
  exact len_tuple pl (by simp only[List.size_toArray] <;> omega) ⟨.int ys.length,H,I.tok _,⟨s.toks+1,by rw[List.size_toArray,hlen]⟩,q⟩
theorem Ea:jk X (.builtin "len") (fun xs H Q=>∃ z,xs=[.str z]/\z.length<=sizeLine/\Q (.int z.length) H):=by
 intro pins s σ H xs us Q I r h
 obtain⟨z,rfl,hz,q⟩:=h
 obtain⟨u,rfl,t,rfl⟩:=vals1 r
 have hn:=uQ
 exact len_str (by omega) ⟨.int z.length,H,I.tok _,⟨_,rfl⟩,q⟩
theorem jk.or {f:Value}{r r':List V->Hp->VK->Prop}(h:jk X f r)(h':jk X f r'):jk X f (fun xs H Q=>r xs H Q∨r' xs H Q):=by
 intro pins s σ H xs us Q I rs q
 rcases q with q | q
 ·exact h pins s σ H xs us Q I rs q
 ·exact h' pins s σ H xs us Q I rs q
theorem D9:jk X (.type "list") (fun xs H Q=>∃ p ys,xs=[.ref p]/\(rR X.K H p ys∨vo X.K H p ys)/\∀ l,H l=none->Q (.ref l) (upd H l (.lst ys))):=by
 intro pins s σ H xs us Q I r h
 obtain⟨p,ys,rfl,hq,q⟩:=h
 obtain⟨u,rfl,rx⟩:=vals1 r
 cases rx
 have fin:∀ (its:List Value),Vals ys its->ys.length<=sizeLine->∀ (h':Heap) (c':Nat),(∀ b o',s.heap.get? b=some o'->h'.get? b=some o') ->
   h'.get? s.heap.objs.size=some { cls:=.type "list",dict:=none,data:=.seq its.toArray c',slots:=#[] }->EP X pins σ Q (.ref s.heap.objs.size) { s with heap:=h' }:=fun its r' hz h' c' kp e =>
  ⟨.ref s.heap.objs.size,_,I.laid (t':=s.toks) kp (Nat.le_refl _) (show eY X.prog X.w _ h' _ (.lst ys) from⟨hz,its,c',r',e⟩),rfl,q _ (I.hok.fresh (Nat.le_refl _))⟩
 rcases hq with hq | hq
 ·obtain⟨its,r',pl,hz⟩:=I.list hq
  have hlen:=r'.length
  obtain⟨o,ho,hc,n,hd⟩:=pl.isList
  exact call_list_seq p (.inl rfl) ho hc hd (fun h' c' kp e=>fin its r' hz h' c' kp e) (by simp only[List.size_toArray] <;> omega)
 ·obtain⟨its,r',pl,hz⟩:=I.tuple hq
  have hlen:=r'.length
  obtain⟨o,ho,hc,n,hd⟩:=pl
  exact call_list_seq p (.inr rfl) ho hc hd (fun h' c' kp e=>fin its r' hz h' c' kp e) (by simp only[List.size_toArray] <;> omega)
theorem Ci:jk X (.type "tuple") (fun xs H Q=>∃ p ys,xs=[.ref p]/\((rR X.K H p ys/\∀ l,H l=none->Q (.ref l) (upd H l (.tup ys)))∨(vo X.K H p ys/\Q (.ref p) H))):=by
 intro pins s σ H xs us Q I r h
 obtain⟨p,ys,rfl,h⟩:=h
 obtain⟨u,rfl,rx⟩:=vals1 r
 cases rx
 rcases h with ⟨hq,q⟩ | ⟨hq,q⟩
 ·obtain⟨its,r',pl,hz⟩:=I.list hq
  have hlen:=r'.length
  refine call_tuple_list pl.isList (fun h' kp=>?_) (by simp only[List.size_toArray] <;> omega)
  have I1:Inv X pins σ H { s with heap:=h' }:=I.kept (t':=s.toks) kp
  have I2:Inv X pins σ (upd H h'.objs.size (.tup ys)) { s with heap:=h'.push { cls:=.type "tuple",data:=.seq its.toArray } } :=
   I1.laid (t':=s.toks) (fun b o e=>Heap.get?_push_of_some _ e) (Nat.le_refl _) (show eY X.prog X.w _ _ _ (.tup ys) from⟨hz,its,r',IsTup.new _ _⟩)
  exact⟨.ref h'.objs.size,_,I2,rfl,q _ (I1.hok.fresh (Nat.le_refl _))⟩
 ·obtain⟨its,r',pl,hz⟩:=I.tuple hq
  exact call_tuple_same pl ⟨.ref p,H,I,rfl,q⟩
noncomputable def Yy (K:PySem.W.Frag)(T:String)(x:V)(H:Hp):Prop:=match x with
 | .str _=>T="str"
 | .int _=>T="int"
 | .ref p=>(T="list"/\∃ xs,rR K H p xs)∨(T="tuple"/\∃ o,K.lookup p=some o/\o.cls=.type "tuple"/\o.dict=none) ∨
   (T="dict"/\((∃ kvs,H p=some (.dK kvs))∨∃ kvs,H p=some (.dT kvs)))∨(T="set"/\∃ S n,H p=some (.set S n))
 | _=>False
theorem Rt {pins:List (Addr×Obj)}{σ:St}{H:Hp}{s:Shared}{T:String}{x:V}{v:Value}(I:Inv X pins σ H s)(r:RelV x v)(ty:Yy X.K T x H) :
  s.TypeIs v T/\∀ a,v=.ref a->∃ ob,s.heap.get? a=some ob/\ob.dict=none:=by
 cases x with
 | str z =>
  obtain⟨t,rfl⟩:=r
  cases (show T="str" from ty)
  exact⟨typeIs_str s z t,fun _ e=>nomatch e⟩
 | int i =>
  obtain⟨t,rfl⟩:=r
  cases (show T="int" from ty)
  exact⟨typeIs_int s i t,fun _ e=>nomatch e⟩
 | ref p =>
  cases r
  rcases ty with ⟨rfl,xs,hq⟩ | ⟨rfl,o,hk,hc,hd⟩ | ⟨rfl,hk⟩ | ⟨rfl,S,n,hk⟩
  ·obtain⟨its,_,pl,_⟩:=I.list hq
   refine⟨pl.isList.typeIs,fun a e=>?_⟩
   cases e
   obtain⟨o,n,e,c,hd,_⟩:=pl
   exact⟨o,e,hd⟩
  ·refine⟨⟨o,I.xQ p o hk,hc⟩,fun a e=>?_⟩
   cases e
   exact⟨o,I.xQ _ o hk,hd⟩
  ·have z:∃ o,s.heap.get? p=some o/\o.ExactDict:=by
    rcases hk with ⟨kvs,hk⟩ | ⟨kvs,hk⟩
    ·obtain⟨_,_,_,_,o,_,_,e,ex,_⟩:=I.hok p _ hk
     exact⟨o,e,ex⟩
    ·obtain⟨_,_,_,_,o,_,_,e,ex,_⟩:=I.hok p _ hk
     exact⟨o,e,ex⟩
   obtain⟨o,e,ex⟩:=z
   refine⟨⟨o,e,ex.1⟩,fun a e2=>?_⟩
   cases e2
   exact⟨o,e,ex.2.1⟩
  ·obtain⟨o,_,_,_,e,ex,_⟩:=I.hok p _ hk
   refine⟨⟨o,e,ex.1⟩,fun a e2=>?_⟩
   cases e2
   exact⟨o,e,ex.2.1⟩
 | _=>exact False.elim ty
noncomputable def YO (K:PySem.W.Frag)(T:String)(r:V->List V->Hp->VK->Prop)(to:TE)(t:TA):TE:=fun σ H Q=>to σ H fun x H1=>Yy K T x H1/\t σ H1 fun xs H2=>r x xs H2 Q
variable {o e:Expr}{es:List Expr}{to:TE}{t:TA}{name:Str}{apos cpos:Pos}{T id:String}{r:V->List V->Hp->VK->Prop}
theorem VV (pa:PlainAttrs T)(slot:Slot T name id)(hty:typeOf (.builtin id)=pure (.type "method_descriptor"))(hm:JC X id r)(ho:PE X o to)(ha:PA X (e::es) t)
  (hbase:attributeBase o name X.env (eval o X.env)=eval o X.env:=by rfl)
  (hfew:((backTo cpos (starEach (e::es) X.env)).all (fun x=>!x.1) && (backToKw cpos (keywordEach [] X.env)).all (fun x=>x.1.isSome)
   && decide ((e::es).length+([]:List Keyword).length+(if ([]:List Keyword).isEmpty then 0 else 1) < 30))=true:=by rfl)
  (hline:(apos.endLine == cpos.line)=true:=by rfl) (hs:starEach (e::es) X.env=(false,eval e X.env)::starEach es X.env:=by rfl) (hplain:(backTo cpos (starEach es X.env)).any (·.1)=false:=by rfl) :
  PE X (.Call (.Attribute o name apos) (e::es) [] cpos) (YO X.K T r to t):=by
 intro pins s σ H Q I h
 refine wpAny_Call_method_late hbase hfew hline rfl (gm (ho pins s σ H _ I h) fun v s1 ⟨x,H1,I1,r1,ty,q1⟩=>?_)
 obtain⟨h1,h2⟩:=Rt I1 r1 ty
 refine⟨T,id,pa,slot,hty,h1,h2,?_⟩
 have hA:=ha cpos pins s1 σ H1 _ I1 q1
 rw[hs] at hA ⊢
 refine Calls.callWith_builtin (by show(false || (backTo cpos (starEach es X.env)).any (·.1))=false;rw[hplain] <;> rfl) (Calls.evalArgs_plain ?_)
 exact gm hA (by rintro us s2 ⟨vs,H2,I2,r2,q2⟩;exact hm pins s2 σ H2 x vs v us Q I2 r1 r2 q2)
end
end L2
namespace L2
open PySem PySem.Spec PyProof.Rows
noncomputable def MtM (X:Cx)(id:String)(r:V->List V->Hp->VK->Prop):Prop :=
 ∀ (pins:List (Addr×Obj)) (s:Shared) (σ:St) (H:Hp) (x:V) (xs:List V) (v:Value) (us:List Value) (Q:VK),Inv X pins σ H s->RelV x v->Vals xs us->r x xs H Q ->
  wpAny (model X.prog X.w) X.A (call (.builtin id) (v::us)) (EP X pins σ Q) X.xe s
theorem Vals.one:∀ {x:V} {us:List Value},Vals [x] us->∃ u,us=[u]/\RelV x u
 | _,_,.cons r .nil=>⟨_,rfl,r⟩
theorem Vals.rep {xs:List V}{us:List Value}(h:Vals xs us):∀ k:Nat,Vals (List.replicate k xs).flatten (List.replicate k us).flatten
 | 0=>.nil
 | k+1=>by
  rw[List.replicate_succ,List.replicate_succ,List.flatten_cons,List.flatten_cons]
  exact Vals.append h (Vals.rep h k)
theorem foldl_rep (its:List Value):∀ (k:Nat) (acc:List Value),
  List.foldl (fun x1 x2=>x1++x2) acc.toArray (List.replicate k its.toArray)=(acc++(List.replicate k its).flatten).toArray
 | 0,acc=>by simp
 | k+1,acc=>by
  have e:acc.toArray++its.toArray=(acc++its).toArray:=by simp
  have e2:(acc++its)++(List.replicate k its).flatten=acc++(List.replicate (k+1) its).flatten:=by
   rw[List.replicate_succ,List.flatten_cons,List.append_assoc]
  rw[<- e2,<- foldl_rep its k (acc++its),<- e,List.replicate_succ,List.foldl_cons]
section
variable {X:Cx}{pins:List (Addr×Obj)}{σ:St}{H:Hp}{s:Shared}{l b:Addr}{xs ys zs:List V}
theorem Inv.Td {its its':List Value}{n:Nat}{f:Array Value->Array Value}{t':Nat}(I:Inv X pins σ H s)(hH:H l=some (.lst xs))
  (e:s.heap.get? l=some { cls:=.type "list",data:=.seq its.toArray n }) (hf:f its.toArray=its'.toArray) (hv:Vals ys its') (hz:ys.length<=sizeLine) :
  Inv X pins σ (upd H l (.lst ys)) { s with heap:=s.heap.update l (Obj.mapSeq f),toks:=t' }:=by
 have q:=PySem.IsL.update e f
 rw[hf] at q
 refine I.write (x:=l) (e:=l) (by rw[hH];exact trivial) (.inl rfl) (fun b' u hb hu=>(Heap.get?_update_other s.heap (Obj.mapSeq f) (Ne.symm hb)).trans hu) ⟨_,q⟩ ?_
 exact⟨hz,its',_,hv,q⟩
theorem Inv.Wh {its:List Value}{t':Nat}(I:Inv X pins σ H s)(hv:Vals ys its)(hz:ys.length<=sizeLine) :
  Inv X pins σ (upd H s.heap.objs.size (.lst ys)) { s with heap:=s.heap.push { cls:=.type "list",data:=.seq its.toArray },toks:=t' } :=
 I.laid (fun _ _ q=>Heap.get?_push_of_some _ q) (Nat.le_refl _) ⟨hz,its,0,hv,Heap.get?_push_size _ rfl⟩
theorem Inv.fresh (I:Inv X pins σ H s):H s.heap.objs.size=none:=I.hok.fresh (Nat.le_refl _)
theorem Inv.Hq (I:Inv X pins σ H s)(hH:H l=some (.lst xs)):xs.length<=sizeLine/\∃ (its:List Value) (n:Nat),Vals xs its/\xs.length=its.length/\s.heap.get? l=some { cls:=.type "list",data:=.seq its.toArray n }:=by
 obtain⟨z,its,n,r,e⟩:=I.hok l _ hH
 exact⟨z,its,n,r,r.length,e⟩
theorem AR {n:Nat}(h:n<=sizeLine):Builtin.List.listTooLong n=false:=by
 unfold Builtin.List.listTooLong
 exact decide_eq_false (by omega)
end
section
variable {X:Cx}
noncomputable def OD:V->List V->Hp->VK->Prop:=fun x vs H Q=>∃ l xs y,x=.ref l/\vs=[y]/\H l=some (.lst xs)/\xs.length < sizeLine/\Q .fE (upd H l (.lst (xs++[y])))
theorem J4:MtM X "list.append" OD:=by
 intro pins s σ H x vs v us Q I rx rv h
 obtain⟨l,xs,y,rfl,rfl,hH,hz,q⟩:=h
 cases rx
 obtain⟨u,rfl,ru⟩:=rv.one
 obtain⟨z,its,n,r,hl,e⟩:=I.Hq hH
 refine call_meets F.slot_list_append ⟨_,e,rfl⟩ F.entry_list_append (F.args_list_append_2 _ _) (PySem.list_append l its.toArray n u (by rw[List.size_toArray];omega)) ⟨e,?_⟩
 refine⟨.fE,_,I.Td (its':=its++[u]) hH e (by simp) (r.append (.cons ru .nil)) ?_,rfl,q⟩
 rw[List.length_append,List.length_singleton]
 omega
noncomputable def OB:V->List V->Hp->VK->Prop:=fun x vs H Q=>∃ l b xs zs,x=.ref l/\vs=[.ref b]/\H l=some (.lst xs)/\H b=some (.lst zs)/\xs.length+zs.length<=sizeLine/\Q .fE (upd H l (.lst (xs++zs)))
theorem J3:MtM X "list.extend" OB:=by
 intro pins s σ H x vs v us Q I rx rv h
 obtain⟨l,b,xs,zs,rfl,rfl,hH,hB,hz,q⟩:=h
 cases rx
 obtain⟨u,rfl,ru⟩:=rv.one
 cases ru
 obtain⟨z,its,n,r,hl,e⟩:=I.Hq hH
 obtain⟨z2,its2,n2,r2,hl2,e2⟩:=I.Hq hB
 have hsz:its.toArray.size+its2.toArray.size<=sizeLine:=by rw[List.size_toArray,List.size_toArray];omega
 have Fo:¬ (!its.toArray.isEmpty && Builtin.List.listTooLong (its.toArray.size+its2.toArray.size))=true:=by
  rw[AR hsz,Bool.and_false]
  exact Bool.false_ne_true
 refine call_meets F.slot_list_extend ⟨_,e,rfl⟩ F.entry_list_extend (F.args_list_extend_2 _ _)
  (AutoSeq1.list_extend_list_list_0 l its.toArray n b its2.toArray n2 Fo (by rw[List.size_toArray];omega) (by omega)) ⟨e,e2,?_⟩
 refine⟨.fE,_,I.Td (its':=its++its2) hH e (by simp) (r.append r2) ?_,rfl,q⟩
 rw[List.length_append]
 omega
noncomputable def Y7:R2:=fun x y H Q=>∃ l b xs zs,x=.ref l/\y=.ref b/\H l=some (.lst xs)/\H b=some (.lst zs)/\xs.length+zs.length<=sizeLine/\∀ p,H p=none->Q (.ref p) (upd H p (.lst (xs++zs)))
theorem MP:qF X (binaryOp .Add) Y7:=by
 intro pins s σ H x y v u Q I rx ry h
 obtain⟨l,b,xs,zs,rfl,rfl,hH,hB,hz,q⟩:=h
 cases rx
 cases ry
 obtain⟨z,its,n,r,hl,e⟩:=I.Hq hH
 obtain⟨z2,its2,n2,r2,hl2,e2⟩:=I.Hq hB
 refine PySem.P.add_list e e2 ?_ (by rw[List.size_toArray,List.size_toArray];omega)
 have ea:its.toArray++its2.toArray=(its++its2).toArray:=by simp
 rw[ea]
 exact⟨.ref _,_,I.Wh (t':=s.toks) (r.append r2) (by rw[List.length_append];omega),rfl,q _ I.fresh⟩
noncomputable def Y4:R2:=fun x y H Q=>∃ l k xs,x=.ref l/\y=.int k/\H l=some (.lst xs)/\-(2 ^ 63)<=k/\k < 2 ^ 63/\xs.length*k.toNat<=sizeLine /\
 ∀ p,H p=none->Q (.ref p) (upd H p (.lst (List.replicate k.toNat xs).flatten))
theorem len_rep {α:Type}(xs:List α)(k:Nat):(List.replicate k xs).flatten.length=k*xs.length:=by
 induction k with
 | zero=>simp
 | succ k ih=>rw[List.replicate_succ,List.flatten_cons,List.length_append,ih,Nat.succ_mul,Nat.add_comm]
theorem SM:qF X (binaryOp .Mult) Y4:=by
 intro pins s σ H x y v u Q I rx ry h
 obtain⟨l,k,xs,rfl,rfl,hH,h1,h2,hz,q⟩:=h
 cases rx
 obtain⟨t,rfl⟩:=ry
 obtain⟨z,its,n,r,hl,e⟩:=I.Hq hH
 have hlen:its.toArray.size*k.toNat<=sizeLine:=by rw[List.size_toArray,<- hl];exact hz
 have hcap:¬ its.toArray.size*k.toNat > (2 ^ 63 - 1) / 8:=by
  have:(sizeLine:Nat)<=(2 ^ 63 - 1) / 8:=by decide
  omega
 have hfit:¬ (!Builtin.List.listFitsIndex k)=true:=by
  rw[fitsIndex_both h1 h2]
  exact Bool.false_ne_true
 have Fo:¬ Builtin.List.listTooLong (its.toArray.size*k.toNat)=true:=by
  rw[AR hlen]
  exact Bool.false_ne_true
 have hnew:List.foldl (fun x1 x2=>x1++x2) #[] (List.replicate (if its.toArray.isEmpty=true then 0 else k.toNat) its.toArray)=(List.replicate k.toNat its).flatten.toArray:=by
  have f0:∀ m:Nat,List.foldl (fun x1 x2=>x1++x2) #[] (List.replicate m its.toArray)=(List.replicate m its).flatten.toArray:=fun m=>by
   have:=foldl_rep its m []
   rw[List.nil_append] at this
   exact this
  rw[f0]
  cases its with
  | nil=>simp
  | cons a r'=>rw[if_neg (by simp)]
 refine wpAny_binaryOp_repeat_ref (T:="list") (U:="int") (by decide) ⟨_,e,rfl⟩ (fun s'=>typeIs_int s' k t) noFill_list_mul F.fills_int_mul F.slot_int_rmul repeat_list F.slot_int_index.lookup
  (call_meets F.slot_int_rmul (typeIs_int s k t) F.entry_int_rmul (F.args_int_rmul_2 _ _) (int___rmul___int_list k t l its.toArray n)
   ⟨e,rfl,⟨_,e,rfl⟩,call_meets F.slot_list_mul ⟨_,e,rfl⟩ F.entry_list_mul (F.args_list_mul_2 _ _) (AutoListH.list___mul___list_int_3 l its.toArray n k t hfit hcap Fo) ⟨e,?_⟩⟩)
 rw[hnew]
 exact⟨.ref _,_,I.Wh (t':=s.toks) (r.rep k.toNat) (by rw[len_rep,Nat.mul_comm];exact hz),rfl,q _ I.fresh⟩
end
section
variable {prog:Program}{w:World}{A:Around}{E:Value->Shared->Prop}{s:Shared}
end
section
variable {X:Cx}
end
end L2
namespace Att
open PySem PySem.W PySem.Calls PyProof.Rows
theorem zq {P:Params}{h:Heap}:∀ (ns:List Int) (vs:List Value),WellAll P h vs (ns.map WData.int)->IntsAre vs ns:=by
 intro ns
 induction ns with
 | nil =>
  intro vs w
  rw[List.map_nil] at w
  cases w
  exact .nil
 | cons n ns ih =>
  intro vs w
  rw[List.map_cons] at w
  cases w with
  | cons a b =>
   cases a
   exact .cons _ _ (ih _ b)
theorem JJ {l:OpenLaw}{n:Nat}(hn:l.most=some n){P:Params}{h:Heap}{args:List WData}{vals:List Value}
  (hpre:l.row.toRowW.claim.pre args=true) (hwl:WellAll P h vals args) :
  ∃ a vs ns,vals=[Value.ref a]/\args=[WData.list (ns.map WData.int)]/\h.get? a=some { cls:=.type "list",data:=.seq vs.toArray }/\IntsAre vs ns/\ns.length<=n:=by
 have hsh:WShape.hasAll [] args [.list .int]=true:=(pre_splitW hpre).1
 have hc:l.pre.holds [] { args:=args }=true:=(pre_splitW hpre).2
 obtain⟨d,r,rfl,h1,h2⟩:=hasAllW_cons hsh
 obtain rfl:=hasAllW_nil h2
 obtain⟨xs,rfl,h3⟩:=hasW_list h1
 obtain⟨ns,rfl⟩:=items_int h3
 have hlen:ns.length<=n:=by
  unfold OpenLaw.pre at hc
  have h4:(WTm.not (.lt (.lit (.int (n:Int))) (.len (.arg 0)))).holds [] { args:=[.list (ns.map .int)] }=true:=by
   have h4:=(holds_andW hc).1
   rw[hn] at h4
   exact h4
  have h5:=condW_of h4 (w_not (w_lt w_lit (w_len_list (w_arg rfl))))
  rw[List.length_map] at h5
  refine Nat.le_of_not_lt fun q=>?_
  have q':(n:Int) < ((ns.length:Nat):Int):=by omega
  first
   | (rw[decide_eq_true q'] at h5;exact absurd h5 (by decide))
   | (simp at h5;omega)
 cases hwl with
 | cons w1 w2 =>
  cases w2
  cases w1 with
  | list ho hall=>exact⟨_,_,ns,rfl,rfl,ho,zq ns _ hall,hlen⟩
theorem JN (l:OpenLaw)(args:List WData):l.row.toRowW.claim.post args (.bool true) args=true :=
 postW_of (r:=l.row.toRowW) (X:=(true == true))
  (show WShape.has [] (.bool true) .bool=true by first | rfl | decide | simp[WShape.has,WShape.arms,WShape.armsAll])
  (show(WTm.eq .res (.lit (.bool true))).value [] { args:=args,res:=some (.bool true),after:=args }=some (.bool (true == true)) from w_eq_bool (w_res rfl) w_lit) rfl
theorem FQ {l:OpenLaw}{n:Nat}{q:Program}{loose:List Str}{XP:(Str->Option Value)->Heap->Prop}{YP:World->Heap->Prop}{d:DefRec}
  (hn:l.most=some n) (hdf:d.params.defaults=[])
  (call:∀ (w:World) (s₀ s₁:Shared) (mg mb:Str->Option Value) (fa:Addr) (o:Obj) (pm cd doc:Value) (a:Addr) (vs:List Value) (ns:List Int),
   Ground q loose [] XP w s₀ mg mb s₁.heap->YP w s₁.heap ->
   s₁.heap.get? fa=some o->o.data=.func (docDef d.name d.params d.body d.scope pm cd doc)->s₁.heap.CodeRec cd d.name->mg d.name=some (.ref fa) ->
   s₁.heap.get? a=some { cls:=.type "list",data:=.seq vs.toArray }->IntsAre vs ns->ns.length<=n->s₁.gens=#[] ->
   codeAny (model l.prog w) callerA (.call (.ref fa) ⟨[.ref a],[]⟩) (fun r s'=>r=.ok (.ret (.bool true))/\OldK s₁.heap s'.heap/\s'.os=s₁.os/\AllBare s'.gens) s₁) :
  WalkO q loose XP YP l.row.toRowW d [] (fun f vs=>PySem.call f vs):=by
 intro w s₀ s₁ mg mb G Y fa o pm cd doc dV kV ho hd hcd hD hmg hg args vals as hpre hlay hrd hwl hlo
 obtain rfl:dV=.none:=Dflts.none hD hdf
 obtain rfl:kV=.none:=Dflts.noKw hD
 obtain⟨a,vs,ns,rfl,rfl,hobj,hints,hlen⟩:=JJ hn hpre hwl
 refine enter_call (codeAny_mono (call w s₀ s₁ mg mb fa o pm cd doc a vs ns G Y ho (fd_plain hd) hcd hmg hobj hints hlen hg) fun r s' hq=>?_)
 obtain⟨rfl,h2,h3,h4⟩:=hq
 exact⟨.inl ⟨.bool true,.bool true,[],rfl,fun _=>rfl,.bool true,JN l _,fun _=>⟨List.Pairwise.nil,fun _ hm=>(nomatch hm)⟩⟩,h2,h3,h4⟩
section
variable {prog:Program}{w:World}{A:Around}{E:Value->Shared->Prop}{s:Shared}{K:Frag}
end
end Att
namespace L2
open PySem PySem.Spec PyProof.Rows
theorem CG:∀ {vs:List Value} {ns:List Int},IntsAre vs ns->Vals (ns.map V.int) vs
 | _,_,.nil=>.nil
 | _,_,.cons n t h=>.cons ⟨t,rfl⟩ (CG h)
noncomputable def UD (H:Hp):Prop:=∀ b,H b=none∨∃ o xs,H b=some (.HB o (.lst xs))
theorem M6 {P:Program}{w:World}{K:PySem.W.Frag}{mg mb:Str->Option Value}{CX:JD}{k:Nat}{fa a:Addr}{fd:FuncData}{x:Str}{sp:Sp}{s₁:Shared}{vs:List Value}{ns:List Int}
  (KX:K.In s₁.heap) (hns:s₁.heap.Ns mainGlobals mg) (hb:s₁.heap.Ns builtinsNs mb) (hbb:∀ x:Str,x≠"__name__"->mb x=bootBuiltins x) (hlim:s₁.heap.NoLimit) (hg:s₁.gens=#[])
  (ha:s₁.heap.get? a=some { cls:=.type "list",data:=.seq vs.toArray }) (hi:IntsAre vs ns) (hl:ns.length<=sizeLine) (hr:fZ k callerA)
  (F:∀ base:Heap,K.In base->base.Ns mainGlobals mg->aU P w K mg base CX k fa fd [x] sp) (hbind:∀ (s:Shared) (u:Value),BindsTo s fd ⟨[u],[]⟩ [(x,u)])
  (Q0:∀ H:Hp,UD H->rR K H a (ns.map V.int)->sp [.ref a] H (fun v _=>v=.bl true) fun _ _ _=>False)
  (Z9:∀ H e s',CX [] H s₁ (fun _ _ _=>False) e s'->False) :
  codeAny (model P w) callerA (.call (.ref fa) ⟨[.ref a],[]⟩) (fun r s'=>r=.ok (.ret (.bool true))/\OldK s₁.heap s'.heap/\s'.os=s₁.os/\AllBare s'.gens) s₁:=by
 have rv:=CG hi
 have Zq:=hi.length
 have core:∀ H:Hp,UD H->rR K H a (ns.map V.int)->vZ P w H s₁.heap->(∀ b,H b≠none->b=a)->(H a≠none->K.lookup a=none) ->
   codeAny (model P w) callerA (.call (.ref fa) ⟨[.ref a],[]⟩) (fun r s'=>r=.ok (.ret (.bool true))/\OldK s₁.heap s'.heap/\s'.os=s₁.os/\AllBare s'.gens) s₁:=by
  intro H hO hS hok hA hK
  have Jy:∀ {b:Addr} {o:Obj},s₁.heap.get? b=some o->H b=none->(D3 s₁.heap H).get? b=some o:=fun e n=>Nl e n
  have V7:∀ {b:Addr} {o:Obj} {es:Array DictEntry} {ep:Nat},s₁.heap.get? b=some o->o.data=.dict es ep->H b=none:=fun {b o es ep} e d=>by
   cases q:H b with
   | none=>rfl
   | some u =>
    have e':b=a:=hA b (by rw[q];simp)
    subst e'
    rw[ha] at e;cases e
    have d':Data.seq vs.toArray _=Data.dict es ep:=d
    cases d'
  have XU:∀ {b:Addr} {m:Str->Option Value},s₁.heap.Ns b m->(D3 s₁.heap H).Ns b m:=fun {b m} ⟨o,es,ep,e,d,r⟩=>⟨o,es,ep,Jy e (V7 e d),d,r⟩
  have hKb:K.In (D3 s₁.heap H):=fun b o e=>Jy (KX b o e) (by
   cases q:H b with
   | none=>rfl
   | some u =>
    have e':b=a:=hA b (by rw[q];simp)
    subst e'
    rw[hK (by rw[q];simp)] at e;cases e)
  have hM:Mod K mg (D3 s₁.heap H):=⟨hKb,XU hns,⟨mb,XU hb,hbb⟩,let ⟨mc,h1,h2⟩:=hlim;⟨mc,XU h1,h2⟩⟩
  have e0:HZ P w K mg (D3 s₁.heap H) callerA [] s₁ H:=⟨rfl,hM,fun b o e=>Pa e,Nat.le_of_eq (KO _ _),trivial,fun b hb=>absurd (show b∈([]:List Addr) from hb) (by simp),hok,.of_eq hg⟩
  refine codeAny_mono ((F _ hKb (XU hns)).run callerA [] s₁ H ⟨[.ref a],[]⟩ [.ref a] [.ref a] _ _ hr e0 (hbind s₁ (.ref a)) (.cons rfl .nil) (Q0 H hO hS)) fun r s' h=>?_
  cases r with
  | error e=>exact(Z9 H e s' h).elim
  | ok fl =>
   cases fl with
   | next=>exact False.elim h
   | brk=>exact False.elim h
   | cont=>exact False.elim h
   | ret u =>
    obtain⟨v,H',os,bare,un,Z2,r',q⟩:=h
    have q':v=.bl true:=q
    subst q'
    obtain rfl:u=Value.bool true:=r'
    refine⟨rfl,OldK.of_keep fun b o e=>?_,os,bare⟩
    cases q:H b with
    | none=>exact un.keep b o e q (by intro z;exact absurd (show b∈([]:List Addr) from z) (by simp)) (by simp)
    | some u =>
     rcases hO b with z | ⟨ob,xs,z⟩
     ·rw[q] at z;cases z
     ·have z2:=un.Cb b ob _ z
      obtain⟨e1,_⟩:=hok b _ z
      obtain⟨e2,_⟩:=Z2 b _ z2
      rw[e] at e1;cases e1
      exact e2
 cases hk:K.lookup a with
 | some o =>
  have e:=KX a o hk
  rw[ha] at e
  cases e
  refine core (fun _=>none) (fun _=>.inl rfl) (.inr ⟨_,vs.toArray,_,hk,rfl,rfl,rfl,by rw[List.size_toArray,Zq];exact hl,by simpa using rv⟩) (fun b u z=>by have z':(none:Option HO)=some u:=z;cases z') (fun b z=>absurd rfl z) fun z=>absurd rfl z
 | none =>
  refine core (fun b=>if b=a then some (.HB { cls:=.type "list",data:=.seq vs.toArray } (.lst (ns.map V.int))) else none) (fun b=>?_) (.inl (.inr ⟨{ cls:=.type "list",data:=.seq vs.toArray },if_pos rfl⟩)) (fun b u z=>?_) (fun b z=>?_) fun _=>hk
  ·by_cases hb:b=a
   ·exact .inr ⟨_,_,if_pos hb⟩
   ·exact .inl (if_neg hb)
  ·by_cases hb:b=a
   ·have z':=(if_pos hb).symm.trans z
    cases z'
    subst hb
    exact⟨ha,by rw[List.length_map];exact hl,vs,_,rv,ha⟩
   ·have z':=(if_neg hb).symm.trans z
    cases z'
  ·by_cases hb:b=a
   ·exact hb
   ·exact absurd (if_neg hb) z
end L2
namespace L2
open PySem PySem.Spec PyProof.Rows
theorem Ob {l:PySem.W.OpenLaw}{n k:Nat}{q:Program}{loose:List Str}{XP:(Str->Option Value)->Heap->Prop}{YP:World->Heap->Prop}{d:DefRec}{K:Params->PySem.W.Frag}{CX:World->JD}{sp:World->Sp}{x:Str}
  (hn:l.most=some n) (hn2:n<=sizeLine) (hdf:d.params.defaults=[]) (hr:fZ k callerA)
  (hY:∀ (w:World) (h:Heap),YP w h->(K w.params).In h)
  (F:∀ (w:World) (mg:Str->Option Value) (fa:Addr) (h:Heap),(K w.params).In h->h.Ns mainGlobals mg->mg d.name=some (.ref fa) ->
   ∃ fd:FuncData,(∀ (s:Shared) (u:Value),BindsTo s fd ⟨[u],[]⟩ [(x,u)]) /\
    ∀ base:Heap,(K w.params).In base->base.Ns mainGlobals mg->aU l.prog w (K w.params) mg base (CX w) k fa fd [x] (sp w))
  (Q0:∀ (w:World) (H:Hp) (a:Addr) (ns:List Int),ns.length<=n->UD H->rR (K w.params) H a (ns.map V.int)->sp w [.ref a] H (fun v _=>v=.bl true) fun _ _ _=>False)
  (Z9:∀ (w:World) (H:Hp) (s:Shared) (e:Value) (s':Shared),CX w [] H s (fun _ _ _=>False) e s'->False) :
  PySem.W.WalkO q loose XP YP l.row.toRowW d [] (fun f vs=>PySem.call f vs):=by
 refine Att.FQ hn hdf fun w s₀ s₁ mg mb fa o pm cd doc a vs ns G Y ho hd hcd hmg hobj hints hlen hg=>?_
 have KX:=hY w _ Y
 obtain⟨fd,hb,hF⟩:=F w mg fa _ KX G.T.g hmg
 exact M6 KX G.T.g G.T.b G.T.builtins G.T.nolimit hg hobj hints (Nat.le_trans hlen hn2) hr hF hb (fun H hO hS=>Q0 w H a ns hlen hO hS) fun H e s'=>Z9 w H s₁ e s'
end L2
namespace L2
open PySem PySem.Spec PyProof.Rows
noncomputable def inClass (s:Stmt)(j:Nat):Stmt:=match s with
 | .ClassDef _ _ _ body _ _ _ _ _ _ _=>body.getD j (.Pass ⟨0,0,0,0⟩)
 | _=>.Pass ⟨0,0,0,0⟩
noncomputable def fK (s:Stmt):Arguments:=match s with
 | .FunctionDef _ a _ _ _ _ _ _ _ _=>a
 | _=>{ posonlyargs:=[],args:=[],vararg:=none,kwonlyargs:=[],kw_defaults:=[],kwarg:=none,defaults:=[] }
noncomputable def ao (s:Stmt):List Stmt:=match s with
 | .FunctionDef _ _ b _ _ _ _ _ _ _=>b
 | _=>[]
noncomputable def aj (s:Stmt):Scope:=match s with
 | .FunctionDef _ _ _ _ _ _ sc _ _ _=>sc
 | _=>{ kind:=.function,names:=[],isGenerator:=false,isCoroutine:=false }
noncomputable abbrev dG:JD:=fun _ _ _ _ _ _=>False
noncomputable abbrev E0:XK:=fun _ _ _=>False
theorem E2 {X:Cx}:Passes dG X E0:=fun _ _ _ _ _ _ _ h=>h.elim
structure c8 (K:PySem.W.Frag)(x qual:Str)(st:Stmt)(f:Addr)(fd:FuncData):Prop where
 ex:∃ (oc:Value) (od:Option Addr) (kV doc pm:Value) (an:Option Addr) (cdv ct:Value) (osl:Array (Option Value)),
  fd=PySem.W.fnOf x qual (fK st) (ao st) (aj st) .none kV doc pm an cdv ct/\K.lookup f=some ⟨oc,od,.func fd,osl⟩/\PySem.W.codeIn K cdv qual=true
 kp:PySem.W.keepIn K (.ref f)=true
section
variable {P:Program}{w:World}{K:PySem.W.Frag}{mg:Str->Option Value}{base:Heap}
theorem c8.ok {x qual:Str}{st:Stmt}{f:Addr}{fd:FuncData}{N ps:List Str}{k:Nat}{sp:Sp}(F:c8 K x qual st f fd)(S:av N ps (aj st))(len:∀ vs H Q E,sp vs H Q E->vs.length=ps.length)
  (hbody:∀ (cdv:Value) (A:Around) (outer:List Env) (s:Shared) (H:Hp) (vs:List V) (Q:VK) (E:XK),fZ k (A.deeper (envOfC qual (aj st) s.heap.objs.size f cdv))->sp vs H Q E ->
   ∃ t,Ew (FE dG P w K mg base N qual (aj st) f cdv A outer s H E).UH (ao st) t/\t { nx:=fun _ H'=>Q .fE H',rt:=Q } (start N vs) H):aU P w K mg base dG (k+1) f fd ps sp:=by
 obtain⟨oc,od,kV,doc,pm,an,cdv,ct,osl,rfl,lk,hcd⟩:=F.ex
 refine Xg lk hcd S len fun A outer s H vs Q E hr Q0=>?_
 obtain⟨t,h,q⟩:=hbody cdv A outer s H vs Q E hr Q0
 exact⟨t,h.UH,q⟩
theorem c8.binds {x qual:Str}{st:Stmt}{f:Addr}{fd:FuncData}{ps:List Str}(F:c8 K x qual st f fd)
  (h:∀ (kV doc pm:Value) (an:Option Addr) (cdv ct:Value) (us:List Value),us.length=ps.length->bindArgs (PySem.W.fnOf x qual (fK st) (ao st) (aj st) .none kV doc pm an cdv ct) ⟨us,[]⟩=pure (ps.zip us)):Binds K fd ps []:=by
 obtain⟨oc,od,kV,doc,pm,an,cdv,ct,osl,rfl,lk,hcd⟩:=F.ex
 exact .all (h kV doc pm an cdv ct)
theorem T3 {x qual:Str}{st:Stmt}{f:Addr}{oc:Value}{od an:Option Addr}{osl:Array (Option Value)}{kV doc pm cdv ct:Value}(l:K.lookup f=some ⟨oc,od,.func (PySem.W.fnOf x qual (fK st) (ao st) (aj st) .none kV doc pm an cdv ct),osl⟩)
  (c:PySem.W.codeIn K cdv qual=true) (k:PySem.W.keepIn K (.ref f)=true):c8 K x qual st f (PySem.W.fnOf x qual (fK st) (ao st) (aj st) .none kV doc pm an cdv ct):=⟨⟨oc,od,kV,doc,pm,an,cdv,ct,osl,rfl,l,c⟩,k⟩
end
theorem CS {A:Around}{k:Nat}(hr:fZ k A):A.units+1 < cLine:=Nat.lt_of_le_of_lt (Nat.add_le_add_left (by decide:1<=64) _) hr.units
theorem JI {n:Nat}(h:n<=1000):n < sizeLine:=Nat.lt_of_le_of_lt h (by decide)
section
variable {X:Cx}
end
end L2
namespace L2
open PySem PySem.Spec PyProof.Rows
section
variable {κ:Type} [DecidableEq κ]
noncomputable def wg (kvs:List (κ×V))(k:κ):Option V:=(kvs.find? fun kv=>decide (kv.1=k)).map (·.2)
noncomputable def putK (kvs:List (κ×V))(k:κ)(v:V):List (κ×V) :=
 if (kvs.any fun kv=>decide (kv.1=k))=true then kvs.map (fun kv=>if kv.1=k then (kv.1,v) else kv) else kvs++[(k,v)]
theorem wc {p:κ×V}{r:List (κ×V)}{k:κ}(e:p.1=k):wg (p::r) k=some p.2:=by simp[wg,List.find?_cons,e]
theorem we {p:κ×V}{r:List (κ×V)}{k:κ}(e:¬ p.1=k):wg (p::r) k=wg r k:=by simp[wg,List.find?_cons,e]
theorem Ex (k:κ):∀ kvs:List (κ×V),(kvs.any fun kv=>decide (kv.1=k))=(wg kvs k).isSome
 | []=>rfl
 | p::r=>by
  rw[List.any_cons]
  by_cases e:p.1=k
  ·simp only[wc e,decide_eq_true e,Bool.true_or,Option.isSome_some]
  ·rw[we e,decide_eq_false e,Bool.false_or];exact Ex k r
theorem yO (kvs:List (κ×V))(k:κ)(v:V):(putK kvs k v).length<=kvs.length+1:=by
 unfold putK
 split
 ·rw[List.length_map];omega
 ·rw[List.length_append,List.length_cons,List.length_nil];omega
theorem qE.Kv {o:Option V}{u:Option Value}(r:qE o u):o.isSome=u.isSome:=by
 cases o with
 | none=>cases u with
  | none=>rfl
  | some _=>exact(show False from r).elim
 | some _=>cases u with
  | none=>exact(show False from r).elim
  | some _=>rfl
theorem qE.getD {o:Option V}{u:Option Value}{d:V}{d':Value}(r:qE o u)(rd:RelV d d'):RelV (o.getD d) (u.getD d'):=by
 cases o with
 | none=>cases u with
  | none=>exact rd
  | some _=>exact(show False from r).elim
 | some _=>cases u with
  | none=>exact(show False from r).elim
  | some _=>exact r
theorem KV.val {kvs:List (κ×V)}{vs:List (κ×Value)}(r:KV kvs vs)(k:κ):qE (wg kvs k) (valueAt vs k):=by
 unfold KV at r
 induction r with
 | nil=>exact True.intro
 | @cons p q ps qs h t ih =>
  obtain⟨h1,h2⟩:=h
  by_cases e:p.1=k
  ·have e':q.1=k:=h1.symm.trans e
   have b:valueAt (q::qs) k=some q.2:=by simp[valueAt,List.find?_cons,e']
   rw[wc e,b];exact h2
  ·have e':¬ q.1=k:=fun z=>e (h1.trans z)
   have b:valueAt (q::qs) k=valueAt qs k:=by simp[valueAt,List.find?_cons,e']
   rw[we e,b];exact ih
theorem KV.any {kvs:List (κ×V)}{vs:List (κ×Value)}(r:KV kvs vs)(k:κ):(kvs.any fun kv=>decide (kv.1=k))=vs.any fun kv=>decide (kv.1=k):=by
 unfold KV at r
 induction r with
 | nil=>rfl
 | cons h t ih=>rw[List.any_cons,List.any_cons,ih,h.1]
theorem KV.repl {kvs:List (κ×V)}{vs:List (κ×Value)}(r:KV kvs vs)(k:κ){y:V}{u:Value}(ry:RelV y u) :
  KV (kvs.map fun kv=>if kv.1=k then (kv.1,y) else kv) (vs.map fun kv=>if kv.1=k then (kv.1,u) else kv):=by
 unfold KV at r ⊢
 induction r with
 | nil=>exact .nil
 | @cons p q ps qs h t ih =>
  rw[List.map_cons,List.map_cons]
  refine .cons ?_ ih
  obtain⟨h1,h2⟩:=h
  by_cases e:p.1=k
  ·rw[if_pos e,if_pos (h1.symm.trans e)];exact⟨h1,ry⟩
  ·rw[if_neg e,if_neg (fun z=>e (h1.trans z))];exact⟨h1,h2⟩
theorem KV.put {kvs:List (κ×V)}{vs:List (κ×Value)}(r:KV kvs vs)(k:κ){y:V}{u:Value}(ry:RelV y u):KV (putK kvs k y) (stored vs k u):=by
 unfold putK stored
 rw[r.any k]
 by_cases e:(vs.any fun kv=>decide (kv.1=k))=true
 ·rw[if_pos e,if_pos e];exact r.repl k ry
 ·rw[if_neg e,if_neg e];exact Paired.snoc r ⟨rfl,ry⟩
theorem KV.keys {kvs:List (κ×V)}{vs:List (κ×Value)}(r:KV kvs vs):kvs.map (·.1)=vs.map (·.1):=by
 unfold KV at r
 induction r with
 | nil=>rfl
 | cons h t ih=>rw[List.map_cons,List.map_cons,ih,h.1]
theorem KV.length {kvs:List (κ×V)}{vs:List (κ×Value)}(r:KV kvs vs):kvs.length=vs.length:=Paired.length r
end
theorem Je {P:Program}{w:World}{k:Key}{u:Value}(r:RelV (kV k) u):(fJ P w).is k u=true:=by
 cases k with
 | inl i=>obtain⟨t,e⟩:=(show ∃ t,u=Value.int i t from r);subst e;exact Ff P w i t
 | inr x=>obtain⟨t,e⟩:=(show ∃ t,u=Value.str x t from r);subst e;exact Fe P w x t
theorem CQ {P:Program}{w:World}:∀ {ks:List Key} {us:List Value},Vals (ks.map kV) us->ItemsAre (fJ P w) ks us
 | [],_,r=>by rw[List.map_nil] at r;cases r;exact .nil
 | k::ks,_,r=>by
  rw[List.map_cons] at r
  cases r with
  | cons h t=>exact .cons (Je h) (CQ t)
noncomputable abbrev KT (H:Hp):List (List Key×V)->List (List Key×Addr×Value)->Prop:=Paired fun p q=>p.1=q.1/\H q.2.1=some (.tup (p.1.map kV))/\RelV p.2 q.2.2
theorem KT.val {H:Hp}{kvs:List (List Key×V)}{xs:List (List Key×Addr×Value)}(r:KT H kvs xs)(k:List Key):qE (wg kvs k) ((atKey xs k).map (·.2)):=by
 induction r with
 | nil=>exact True.intro
 | @cons p q ps qs h t ih =>
  obtain⟨h1,_,h2⟩:=h
  by_cases e:p.1=k
  ·have e':q.1=k:=h1.symm.trans e
   have b:atKey (q::qs) k=some q.2:=by simp[atKey,List.find?_cons,e']
   rw[wc e,b];exact h2
  ·have e':¬ q.1=k:=fun z=>e (h1.trans z)
   have b:atKey (q::qs) k=atKey qs k:=by simp[atKey,List.find?_cons,e']
   rw[we e,b];exact ih
theorem KT.repl {H:Hp}{kvs:List (List Key×V)}{xs:List (List Key×Addr×Value)}(r:KT H kvs xs)(k:List Key){y:V}{u:Value}(ry:RelV y u) :
  KT H (kvs.map fun kv=>if kv.1=k then (kv.1,y) else kv) (xs.map (putAt k u)):=by
 induction r with
 | nil=>exact .nil
 | @cons p q ps qs h t ih =>
  rw[List.map_cons,List.map_cons]
  refine .cons ?_ ih
  obtain⟨h1,h2,h3⟩:=h
  unfold putAt
  by_cases e:p.1=k
  ·rw[if_pos e,if_pos (h1.symm.trans e)];exact⟨h1,h2,ry⟩
  ·rw[if_neg e,if_neg (fun z=>e (h1.trans z))];exact⟨h1,h2,h3⟩
theorem KT.put {H:Hp}{kvs:List (List Key×V)}{xs:List (List Key×Addr×Value)}(r:KT H kvs xs)(k:List Key){b:Addr}{y:V}{u:Value}(hb:H b=some (.tup (k.map kV)))(ry:RelV y u) :
  KT H (putK kvs k y) (storedH xs k b u):=by
 have e:(kvs.any fun kv=>decide (kv.1=k))=(atKey xs k).isSome:=by
  rw[Ex,(r.val k).Kv,Option.isSome_map]
 unfold putK storedH
 rw[e]
 by_cases q:(atKey xs k).isSome=true
 ·rw[if_pos q,if_pos q];exact r.repl k ry
 ·rw[if_neg q,if_neg q];exact Paired.snoc r ⟨rfl,hb,ry⟩
theorem KT.keeps {H H':Hp}{kvs:List (List Key×V)}{xs:List (List Key×Addr×Value)}(r:KT H kvs xs)(ht:∀ b ys,H b=some (.tup ys)->H' b=some (.tup ys)):KT H' kvs xs :=
 Paired.S8 r fun _ _ z=>⟨z.1,ht _ _ z.2.1,z.2.2⟩
section
variable {P:Program}{w:World}{H:Hp}{h:Heap}{a:Addr}
theorem Qv {u:HO}(ok:vZ P w H h)(e:Rd H a u):eY P w H h a u:=e.ok ok
theorem CV {kvs:List (Key×V)}(ok:vZ P w H h)(e:Rd H a (.dK kvs)):kvs.length<=sizeLine/\(a == sysModules)=false/\∃ vs,KV kvs vs/\h.DictOf (fJ P w) a vs :=
 show eY P w H h a (.dK kvs) from Qv ok e
theorem Xn {kvs:List (Key×V)}(ok:vZ P w H h)(e:H a=some (.dK kvs)):kvs.length<=sizeLine/\(a == sysModules)=false/\∃ vs,KV kvs vs/\h.DictOf (fJ P w) a vs:=CV ok (.inl e)
theorem DV {ks:List Key}(ok:vZ P w H h)(e:H a=some (.tup (ks.map kV))):(tupleKind (fJ P w)).is h ks a:=by
 obtain⟨_,its,r,o,h1,h2,n,h3⟩:=(show eY P w H h a (.tup (ks.map kV)) from ok a _ e)
 exact⟨o,its.toArray,n,h1,h2,h3,by simpa using CQ r⟩
theorem FA {kvs:List (List Key×V)}(ok:vZ P w H h)(e:Rd H a (.dT kvs)):kvs.length<=sizeLine/\(a == sysModules)=false /\
  ∃ xs,KT H kvs xs/\h.DictOfH (tupleKind (fJ P w)) a xs:=by
 obtain⟨z,y,xs,r,o,es,ep,h1,h2,h3,h4,h5⟩:=(show eY P w H h a (.dT kvs) from Qv ok e)
 refine⟨z,y,xs,r,o,es,ep,h1,h2,h3,h4,fun x hx=>?_,h5⟩
 have all:∀ {l:List (List Key×V)} {m:List (List Key×Addr×Value)},KT H l m->∀ x∈m,(tupleKind (fJ P w)).is h x.1 x.2.1:=by
  intro l m q
  induction q with
  | nil=>intro x hx;exact nomatch hx
  | @cons p q ps qs hq t ih =>
   intro x hx
   rcases List.mem_cons.mp hx with e | hx
   ·subst e
    exact DV ok (by rw[<- hq.1];exact hq.2.1)
   ·exact ih x hx
 exact all r x hx
theorem Xm {kvs:List (List Key×V)}(ok:vZ P w H h)(e:H a=some (.dT kvs)):kvs.length<=sizeLine/\(a == sysModules)=false /\
  ∃ xs,KT H kvs xs/\h.DictOfH (tupleKind (fJ P w)) a xs:=FA ok (.inl e)
end
noncomputable def Es (H:Hp)(a:Addr)(y:V)(r:Option V):Prop :=
 (∃ kvs k,Rd H a (.dK kvs)/\y=kV k/\r=wg kvs k)∨∃ kvs k b,Rd H a (.dT kvs)/\y=.ref b/\H b=some (.tup (k.map kV))/\r=wg kvs k
noncomputable def N4 (H:Hp)(a:Addr)(y v:V)(H':Hp):Prop :=
 (∃ kvs k,H a=some (.dK kvs)/\y=kV k/\kvs.length < sizeLine/\H'=upd H a (.dK (putK kvs k v))) ∨
 ∃ kvs k b,H a=some (.dT kvs)/\y=.ref b/\H b=some (.tup (k.map kV))/\kvs.length < sizeLine/\H'=upd H a (.dT (putK kvs k v))
theorem Es.k {H:Hp}{a:Addr}{kvs:List (Key×V)}{k:Key}(e:H a=some (.dK kvs)):Es H a (kV k) (wg kvs k):=.inl ⟨kvs,k,.inl e,rfl,rfl⟩
theorem N4.k {H:Hp}{a:Addr}{kvs:List (Key×V)}{k:Key}{v:V}(e:H a=some (.dK kvs))(hl:kvs.length < sizeLine):N4 H a (kV k) v (upd H a (.dK (putK kvs k v))):=.inl ⟨kvs,k,e,rfl,hl,rfl⟩
section
variable {X:Cx}{pins:List (Addr×Obj)}{σ:St}{H:Hp}{s:Shared}{a:Addr}{y v:V}{u r:Value}{o:Option V}{A:Around}{E:Value->Shared->Prop}
theorem Inv.big (I:Inv X pins σ H s):sysModules < s.heap.objs.size:=by
 have h:mainGlobals < s.heap.objs.size:=(I.mod.glob.keeps I.bk).lt
 exact Nat.lt_trans (by decide) h
theorem KR {Q:Value->Shared->Prop}(hu:A.units+1 < cLine)(I:Inv X pins σ H s)(g:Es H a y (some v))(ry:RelV y u)(h:∀ w' s',Inv X pins σ H s'->RelV v w'->Q w' s') :
  wpAny (model X.prog X.w) A (getItem (.ref a) u) Q E s:=by
 rcases g with ⟨kvs,k,e,ey,l⟩ | ⟨kvs,k,b,e,ey,eb,l⟩
 ·subst ey
  obtain⟨z,hd,vs,rel,dd⟩:=CV I.hok e
  obtain⟨w',hw,rw'⟩:=qE.some_of (v:=v) (o:=valueAt vs k) (by rw[l];exact rel.val k)
  exact wpAny_getItem_of (Je ry) dd.mapOf hw (h w' _ (I.tok _) rw')
 ·subst ey
  cases (show u=Value.ref b from ry)
  obtain⟨z,hd,xs,rel,dd⟩:=FA I.hok e
  obtain⟨w',hw,rw'⟩:=qE.some_of (v:=v) (o:=(atKey xs k).map (·.2)) (by rw[l];exact rel.val k)
  obtain⟨p,hp,hp2⟩:=Option.map_eq_some_iff.mp hw
  refine wpAny_getItem_heap (tupleKind_room_in1 hu) (DV I.hok eb) dd hp ?_
  rw[hp2]
  exact h w' _ (I.tok _) rw'
theorem Jq {h':Heap}{t':Nat}{ob:HO}(I:Inv X pins σ H s)(mu:XM (H a))(hs:Heap.SameBut a s.heap h')(he:∃ q,h'.get? a=some q)(new:eY X.prog X.w (upd H a ob) h' a ob) :
  Inv X pins σ (upd H a ob) { s with heap:=h',toks:=t' } :=
 I.write (x:=a) (e:=a) mu (.inl rfl) (fun b q hb z=>(hs.2 b hb).trans z) he new
theorem Uh {P:Program}{w:World}{H':Hp}{h':Heap}{kvs:List (Key×V)}{vs:List (Key×Value)}(z:kvs.length<=sizeLine)(hd:(a == sysModules)=false)(rel:KV kvs vs)(dd:h'.DictOf (fJ P w) a vs) :
  eY P w H' h' a (.dK kvs):=⟨z,hd,vs,rel,dd⟩
theorem KQ {H':Hp}{Q:Unit->Shared->Prop}(hu:A.units+1 < cLine)(I:Inv X pins σ H s)(g:N4 H a y v H')(ry:RelV y u)(rv:RelV v r)(h:∀ s',Inv X pins σ H' s'->Q () s') :
  wpAny (model X.prog X.w) A (setItem (.ref a) u r) Q E s:=by
 rcases g with ⟨kvs,k,e,ey,l,eH⟩ | ⟨kvs,k,b,e,ey,eb,l,eH⟩
 ·subst ey eH
  obtain⟨z,hd,vs,rel,dd⟩:=Xn I.hok e
  have hz:vs.length<=sizeLine:=by rw[<- rel.length];exact z
  have hl:(putK kvs k v).length<=sizeLine:=by have:=yO kvs k v;omega
  refine wpAny_setItem_pairs (hsz:=hz) (Je ry) dd fun h' Xp hs=>h _ ?_
  have he:∃ q,h'.get? a=some q:=let ⟨q,_,_,hq,_⟩:=Xp;⟨q,hq⟩
  exact Jq I (by rw[e];exact True.intro) hs he (Uh hl hd (rel.put k rv) Xp)
 ·subst ey eH
  cases (show u=Value.ref b from ry)
  obtain⟨z,hd,xs,rel,dd⟩:=Xm I.hok e
  have hz:xs.length<=sizeLine:=by rw[<- Paired.length rel];exact z
  have hl:(putK kvs k v).length<=sizeLine:=by have:=yO kvs k v;omega
  refine wpAny_setItem_heap (hsz:=hz) (tupleKind_room_in1 hu) (DV I.hok eb) dd fun h' Xp hs=>h _ ?_
  obtain⟨q,es,ep,hq,h2,h3,h4,_,h5⟩:=Xp
  refine Jq I (by rw[e];exact True.intro) hs ⟨q,hq⟩ ⟨hl,hd,_,(rel.put k eb rv).keeps fun c ys ec=>?_,q,es,ep,hq,h2,h3,h4,h5⟩
  rw[bL (V8 ec e (fun z=>nomatch z))]
  exact ec
end
section
variable {X:Cx}{pins:List (Addr×Obj)}{σ:St}{H:Hp}{s:Shared}{a:Addr}{kvs:List (Key×V)}{k:Key}{u:Value}{A:Around}{E:Value->Shared->Prop}
end
noncomputable def UE (i:Expr):Prop:=∀ ov iv,subscripted i false ov iv=operate [ov,iv] (getItem ov iv)
theorem Oo {prog:Program}{w:World}{A:Around}{E:Value->Shared->Prop}{s:Shared}{env:Env}{value slice:Expr}{pos:Pos}{T id:String}{Q:Value->Shared->Prop}
  (hl:typeLookup (.type T) "__getitem__"=pure (some (.builtin id))) (hs:UE slice)
  (h:wpAny (model prog w) A (eval value env) (fun o s₁=>wpAny (model prog w) A (eval slice env) (fun i s₂=>s₂.TypeIs o T/\wpAny (model prog w) A (getItem o i) Q E s₂) E s₁) E s) :
  wpAny (model prog w) A (eval (.Subscript value slice pos) env) Q E s:=by
 refine Subscript_ (wpAny_mono h (fun o s₁ h₁=>wpAny_mono h₁ (fun i s₂ h₂=>?_) fun _ _ x=>x) fun _ _ x=>x)
 obtain⟨hT,h₂⟩:=h₂
 unfold subscriptTail
 refine wpAny_bind ?_
 rw[getitemInPython_of_ne hT.not_modules]
 refine wpAny_bind (wpAny_specialOf hT hl ?_)
 have fin:wpAny (model prog w) A (subscripted slice false o i) (fun r s₃=>wpAny (model prog w) A (letTemporaryGo value o r >>= fun _=>pure r) Q E s₃) E s₂:=by
  rw[hs o i]
  exact wpAny_operating (wpAny_mono h₂ (fun r s₃ h₃=>wpAny_bind (wpAny_letTemporaryGo (wpAny_pure h₃))) fun _ _ x=>x)
 first
  | exact wpAny_pure (wpAny_bind fin)
  | exact wpAny_bind (wpAny_pure (wpAny_bind fin))
  | exact wpAny_bind fin
theorem FD {X:Cx}{pins:List (Addr×Obj)}{σ:St}{H:Hp}{s:Shared}{a:Addr}{y:V}{o:Option V}(I:Inv X pins σ H s)(g:Es H a y o):s.TypeIs (.ref a) "dict":=by
 rcases g with ⟨kvs,k,e,_,_⟩ | ⟨kvs,k,b,e,_,_,_⟩
 ·obtain⟨_,_,vs,_,dd⟩:=CV I.hok e
  exact dd.typeIs
 ·obtain⟨_,_,xs,_,dd⟩:=FA I.hok e
  exact dd.typeIs
noncomputable def Vq (td ty:TE):TE:=fun σ H Q=>td σ H fun x H1=>ty σ H1 fun y H2=>∃ a v,x=.ref a/\Es H2 a y (some v)/\Q v H2
noncomputable def VF (td ty tv:TE):TS:=fun D σ H=>tv σ H fun v H1=>td σ H1 fun x H2=>ty σ H2 fun y H3=>∃ a H4,x=.ref a/\N4 H3 a y v H4/\D.nx σ H4
section
variable {X:Cx}{o i e value:Expr}{pos pos' tpos:Pos}{td ty tv:TE}
theorem O0 (hu:X.A.units+1 < cLine)(ho:PE X o td)(hi:PE X i ty)(hs:UE i):PE X (.Subscript o i pos) (Vq td ty):=by
 intro pins s σ H Q I h
 refine Oo PySem.F.slot_dict_getitem.lookup hs (gm (ho pins s σ H _ I h) fun u s1 ⟨x,H1,I1,rx,q1⟩=>gm (hi pins s1 σ H1 _ I1 q1) fun iv s2 ⟨y,H2,I2,ry,a,v,ex,g,q2⟩=>?_)
 subst ex
 obtain rfl:u=Value.ref a:=rx
 exact⟨FD I2 g,KR hu I2 g ry fun w' s3 I3 rw'=>⟨v,H2,I3,rw',q2⟩⟩
theorem OR (hu:X.A.units+1 < cLine)(ho:PE X o td)(hi:PE X i ty)(hv:PE X value tv)(hs:swapsWith value (some (.Subscript o i pos')) pos.line X.env=pure false) :
  PS X (.Assign [.Subscript o i pos'] value pos) (VF td ty tv):=by
 intro pins s σ H D I h
 refine wpAny_Assign_Subscript (gm (hv pins s σ H _ I h) fun r s1 ⟨v,H1,I1,rv,q1⟩=>gm (ho pins s1 σ H1 _ I1 q1) fun u s2 ⟨x,H2,I2,rx,q2⟩=>gm (hi pins s2 σ H2 _ I2 q2) fun iv s3 ⟨y,H3,I3,ry,a,H4,ex,g,q3⟩=>?_) hs
 subst ex
 obtain rfl:u=Value.ref a:=rx
 exact KQ hu I3 g ry rv fun s4 I4=>⟨σ,H4,I4,q3⟩
end
theorem NI {P:Program}{w:World}{H:Hp}(h:Heap)(hb:sysModules < h.objs.size):eY P w H (h.push { cls:=.type "dict",data:=.dict #[] }) h.objs.size (.dK []) :=
 ⟨Nat.zero_le _,beq_eq_false_iff_ne.mpr (Ne.symm (Nat.ne_of_lt hb)),[],.nil,Heap.DictOf.new h⟩
noncomputable def Rz:TE:=fun _ H Q=>∀ p,H p=none->Q (.ref p) (upd H p (.dK []))
section
variable {X:Cx}{pos:Pos}
theorem ME:PE X (.Dict [] [] pos) Rz:=fun pins s σ H Q I h =>
 wpAny_Dict_empty ⟨.ref s.heap.objs.size,_,I.laid (a:=s.heap.objs.size) (o:=.dK []) (t':=s.toks) (fun _ _ q=>Heap.get?_push_of_some _ q) (Nat.le_refl _) (NI s.heap I.big),rfl,h _ (I.hok.fresh (Nat.le_refl _))⟩
end
structure M2 (X:Cx)(o:Expr)(m:Str)(apos:Pos)(e f:Expr)(cpos:Pos):Prop where
 base:attributeBase o m X.env (eval o X.env)=eval o X.env
 few:((backTo cpos (starEach [e,f] X.env)).all (fun x=>!x.1) && (backToKw cpos (keywordEach [] X.env)).all (fun x=>x.1.isSome)
  && decide (([e,f]:List Expr).length+([]:List Keyword).length+(if ([]:List Keyword).isEmpty then 0 else 1) < 30))=true
 line:(apos.endLine == cpos.line)=true
 trees:backTo cpos (starEach [e,f] X.env)=[(false,eval e X.env),(false,eval f X.env)]
noncomputable def IsD (H:Hp)(a:Addr):Prop:=(∃ kvs,Rd H a (.dK kvs))∨∃ kvs,Rd H a (.dT kvs)
theorem TF {X:Cx}{pins:List (Addr×Obj)}{σ:St}{H:Hp}{s:Shared}{a:Addr}(I:Inv X pins σ H s)(d:IsD H a) :
  s.TypeIs (.ref a) "dict"/\(∀ b,Value.ref a=.ref b->∃ ob,s.heap.get? b=some ob/\ob.dict=none)/\(a == sysModules)=false:=by
 rcases d with ⟨kvs,e⟩ | ⟨kvs,e⟩
 ·obtain⟨_,hd,vs,_,dd⟩:=CV I.hok e
  refine⟨dd.typeIs,fun b q=>?_,hd⟩
  cases q
  obtain⟨ob,_,_,h1,h2,_⟩:=dd
  exact⟨ob,h1,h2.2.1⟩
 ·obtain⟨_,hd,xs,_,dd⟩:=FA I.hok e
  refine⟨dd.typeIs,fun b q=>?_,hd⟩
  cases q
  obtain⟨ob,_,_,h1,h2,_⟩:=dd
  exact⟨ob,h1,h2.2.1⟩
section
variable {X:Cx}{pins:List (Addr×Obj)}{σ:St}{H:Hp}{s:Shared}{a:Addr}{y d:V}{u r:Value}{o:Option V}{A:Around}{E:Value->Shared->Prop}
theorem Ui {Q:Value->Shared->Prop}(hu:A.units+1 < cLine)(I:Inv X pins σ H s)(g:Es H a y o)(ry:RelV y u)(rd:RelV d r)(h:∀ w' s',Inv X pins σ H s'->RelV (o.getD d) w'->Q w' s') :
  wpAny (model X.prog X.w) A (call (.builtin "dict.get") [.ref a,u,r]) Q E s:=by
 rcases g with ⟨kvs,k,e,ey,l⟩ | ⟨kvs,k,b,e,ey,eb,l⟩
 ·subst ey
  obtain⟨z,hd,vs,rel,dd⟩:=CV I.hok e
  refine call_meetsIn PySem.F.slot_dict_get dd.typeIs PySem.F.entry_dict_get (PySem.F.args_dict_get_3 _ _ _) (meets_dict_get_default (fJ X.prog X.w) a (Je ry) hd r) ⟨_,dd.mapOf,h _ _ (I.tok _) ?_⟩
  rw[l]
  exact(rel.val k).getD rd
 ·subst ey
  cases (show u=Value.ref b from ry)
  obtain⟨z,hd,xs,rel,dd⟩:=FA I.hok e
  refine call_meetsIn PySem.F.slot_dict_get dd.typeIs PySem.F.entry_dict_get (PySem.F.args_dict_get_3 _ _ _) (meetsH_dict_get_default (tupleKind (fJ X.prog X.w)) a b hd r) ⟨tupleKind_room_in1 hu,k,xs,DV I.hok eb,dd,h _ _ (I.tok _) ?_⟩
  rw[l]
  exact(rel.val k).getD rd
end
noncomputable def RB (td ty tx:TE):TE:=fun σ H Q=>td σ H fun x H1=>∃ a,x=.ref a/\IsD H1 a/\ty σ H1 fun y H2=>tx σ H2 fun z H3=>∃ o,Es H3 a y o/\Q (o.getD z) H3
section
variable {X:Cx}{o e f:Expr}{apos cpos:Pos}{td ty tx:TE}
theorem MF (hu:X.A.units+1 < cLine)(ho:PE X o td)(he:PE X e ty)(hf:PE X f tx)(m:M2 X o "get" apos e f cpos):PE X (.Call (.Attribute o "get" apos) [e,f] [] cpos) (RB td ty tx):=by
 intro pins s σ H Q I h
 refine wpAny_Call_method m.base m.few m.line PySem.F.plainAttrs_dict PySem.F.slot_dict_get PySem.F.type_dict_get (gm (ho pins s σ H _ I h) fun u s1 ⟨x,H1,I1,rx,a,ex,d,q1⟩=>?_)
 subst ex
 obtain rfl:u=Value.ref a:=rx
 obtain⟨t1,t2,_⟩:=TF I1 d
 refine⟨t1,t2,?_⟩
 rw[m.trees]
 refine Calls.callWith_builtin rfl (Calls.evalArgs_plain (Calls.spliced_cons (gm (he pins s1 σ H1 _ I1 q1) fun iv s2 ⟨y,H2,I2,ry,q2⟩ =>
  Calls.spliced_cons (gm (hf pins s2 σ H2 _ I2 q2) fun fv s3 ⟨z,H3,I3,rz,ov,g,q3⟩=>Calls.spliced_nil ?_))))
 exact Ui hu I3 g ry rz fun w' s4 I4 rw'=>⟨_,H3,I4,rw',q3⟩
end
section
variable {X:Cx}{pins:List (Addr×Obj)}{σ:St}{H:Hp}{s:Shared}{a:Addr}{kvs:List (Key×V)}{A:Around}{E:Value->Shared->Prop}
end
section
variable {X:Cx}{pins:List (Addr×Obj)}{σ:St}{H:Hp}{s:Shared}{a:Addr}{y:V}{u:Value}{A:Around}{E:Value->Shared->Prop}
end
end L2
namespace L2
open PySem PySem.Spec PyProof.Rows
section
variable {X:Cx}
end
section
variable {κ:Type} [DecidableEq κ]
end
end L2
set_option maxHeartbeats 4000000
namespace L2
open PySem PySem.Spec PyProof.Rows
noncomputable abbrev oG:Value->Shared->Prop:=fun _ _=>False
noncomputable abbrev xo (X:Cx)(sc:Scope)(N:List Str)(cl:List (Str×Addr))(C:Addr)(s:Shared)(H:Hp)(fp:List Addr):Cx :=
 { X with N:=N,s₀:=s,H₀:=H,env:=compEnvC sc cl C X.env,outer:=X.stack,ex:=fp,fn:=fun _=>false,pn:=[],xe:=oG }
noncomputable def Ext (σ σ':St):Prop:=σ'.length=σ.length/\∀ (i:Nat) v,σ[i]?=some (some v)->σ'[i]?=some (some v)
noncomputable def Iu (cs:List Expr)(env:Env):Sem Bool:=forIn cs true fun c r=>if r=true then do let ok <- isTrue c env (eval c env);pure (ForInStep.yield ok) else pure (ForInStep.yield r)
noncomputable def U5 (X:Cx)(cs:List Expr)(t:TT):Prop :=
 ∀ (pins:List (Addr×Obj)) (s:Shared) (σ:St) (H:Hp) (Q:Bool->Hp->Prop),Inv X pins σ H s->t σ H Q->wpAny (model X.prog X.w) X.A (Iu cs X.env) (TP X pins σ Q) X.xe s
noncomputable def Ol:TT:=fun _ H Q=>Q true H
theorem OM {X:Cx}:U5 X [] Ol:=fun pins s σ H Q I h=>wpAny_tests_nil ⟨H,I,h⟩
theorem OL {X:Cx}{c:Expr}{t:TT}(hc:PT X c t):U5 X [c] t:=fun pins s σ H Q I h=>wpAny_tests_one (hc pins s σ H Q I h)
section
variable {prog:Program}{w:World}{A:Around}{R:Result->Shared->Prop}{s:Shared}
theorem KW {elt target iter:Expr}{cs:List Expr}{scope:Scope}{pos:Pos}{it acc:Value}{env:Env}(J:Nat->Shared->Prop)
  (turn:∀ n s,J n s->wpAny (model prog w) A (pyNext it) (fun r s1=>match r with
   | none=>R (.ok .next) s1
   | some v=>wpAny (model prog w) A (letOwnedTupleGo target it v) (fun _ s2=>wpAny (model prog w) A (assign target env v) (fun _ s3 =>
     wpAny (model prog w) A (Iu cs env) (fun ok s4=>if ok=true then wpAny (model prog w) A (eval elt env) (fun x s5 =>
       wpAny (model prog w) A (call (.builtin "list.append") [acc,x]) (fun _ s6=>∃ m,m < n/\J m s6) oG s5) oG s4
      else ∃ m,m < n/\J m s4) oG s3) oG s2) oG s1) oG s) (n:Nat) (h:J n s) :
  codeAny (model prog w) A (.compLoop (.ListComp elt [⟨target,iter,cs,0⟩] scope pos) 0 it acc env) R s:=by
 refine codeAny_loop rfl J (fun k s' hk=>?_) n h
 show wpAny (model prog w) A ((compTurn (.ListComp elt [⟨target,iter,cs,0⟩] scope pos) 0 it acc env).onRaise (fun x=>do noteFrame x env;theTreesLotGoes x)) _ _ s'
 refine wpAny_noted ?_
 have no:∀ (e:Value) (s2:Shared),oG e s2->notedBy (model prog w) A env (fun e s'=>R (.error e) s') e s2:=fun _ _ f=>f.elim
 rw[compTurn_list]
 refine wpAny_bind (wpAny_standAt (wpAny_bind (wpAny_mono (turn k s' hk) (fun r s1 g1=>?_) no)))
 cases r with
 | none=>exact wpAny_pure g1
 | some v =>
  refine wpAny_bind (wpAny_mono g1 (fun _ s2 g2=>?_) no)
  refine wpAny_bind (wpAny_mono g2 (fun _ s3 g3=>?_) no)
  refine wpAny_bind (wpAny_mono g3 (fun ok s4 g4=>?_) no)
  cases ok with
  | false=>exact wpAny_pure ⟨rfl,g4⟩
  | true=>exact wpAny_bind (wpAny_bind (wpAny_mono g4 (fun x s5 g5=>wpAny_bind (wpAny_mono g5 (fun _ s6 g6=>wpAny_pure (wpAny_pure ⟨rfl,g6⟩)) no)) no))
end
noncomputable def NU (J:It)(g:TG)(tt:TT)(te:TE)(σ0:St)(W:Nat->Nat->List V->Hp->Prop)(R:List V->Hp->Prop):Prop :=
 ∀ i m ys H,W i m ys H->(J.stop i H/\R ys H)∨(J.go i H/\∃ F:List V->Hp->Prop,(∀ ys' H',F ys' H'->∃ m',m' < m/\W (i+1) m' ys' H')/\∀ x H',J.LB i H x H'->g x σ0 H' fun σ2 H2=>Ext σ0 σ2/\tt σ2 H2 fun b H3 =>
  if b=true then te σ2 H3 fun v H4=>ys.length < sizeLine/\F (ys++[v]) H4 else F ys H3)
structure rZ (X:Cx)(sc:Scope)(cl:List (Str×Addr))(own:Nat)(N:List Str)(fr:List Nat):Prop where
 kind:sc.kind=.function
 names:∀ x∈sc.names,x.2=.local->sc.names.lookup x.1=some .local
 DQ:∀ x∈sc.names,x.2≠.cell
 clos:closureFor sc X.env=pure cl
 cells:∀ x c,cl.lookup x=some c->X.env.cells.lookup x=some c
 has:∀ x,((relabel sc X.env).names.lookup x=some .cell∨(relabel sc X.env).names.lookup x=some .free)->∃ c,cl.lookup x=some c
 len:N.length=own+fr.length
 Yg:∀ (i:Nat) j,fr[i]?=some j->∃ x,N[own+i]?=some x/\X.N[j]?=some x/\(X.env.kindOf x=some .cell∨X.env.kindOf x=some .free)/\((relabel sc X.env).names.lookup x=some .cell∨(relabel sc X.env).names.lookup x=some .free)
noncomputable def Qg (env:Env):List (Str×Addr)->Prop
 | []=>True
 | p::r=>env.cells.lookup p.1=some p.2/\Qg env r
theorem Qg.mem {env:Env}:∀ {cl:List (Str×Addr)},Qg env cl->∀ p∈cl,env.cells.lookup p.1=some p.2
 | [],_,_,h=>nomatch h
 | _::_,h,p,hp=>by
  rcases List.mem_cons.mp hp with rfl | hp
  ·exact h.1
  ·exact h.2.mem p hp
noncomputable def DZ (k:Option NameKind):Bool:=match k with
 | some .cell=>true
 | some .free=>true
 | _=>false
theorem Jg {k:Option NameKind}(h:DZ k=true):k=some .cell∨k=some .free:=by
 cases k with
 | none=>cases h
 | some k=>cases k <;> first | exact .inl rfl | exact .inr rfl | cases h
noncomputable def Jj (X:Cx)(sc:Scope):List Str->List Nat->Bool
 | [],[]=>true
 | x::ns,j::fr=>decide (X.N[j]?=some x) && DZ (X.env.kindOf x) && DZ ((relabel sc X.env).names.lookup x) && Jj X sc ns fr
 | _,_=>false
theorem Fw {X:Cx}{sc:Scope}:∀ {ns:List Str} {fr:List Nat},Jj X sc ns fr=true->ns.length=fr.length/\∀ (i:Nat) j,fr[i]?=some j->∃ x,ns[i]?=some x/\X.N[j]?=some x/\DZ (X.env.kindOf x)=true/\DZ ((relabel sc X.env).names.lookup x)=true
 | [],[],_=>⟨rfl,fun i j h=>by simp at h⟩
 | [],_::_,h=>by cases h
 | _::_,[],h=>by cases h
 | x::ns,j::fr,h=>by
  have h:(decide (X.N[j]?=some x) && DZ (X.env.kindOf x) && DZ ((relabel sc X.env).names.lookup x) && Jj X sc ns fr)=true:=h
  rw[Bool.and_eq_true,Bool.and_eq_true,Bool.and_eq_true] at h
  obtain⟨⟨⟨h1,h2⟩,h3⟩,h4⟩:=h
  obtain⟨l,g⟩:=Fw h4
  refine⟨by simp[l],fun i k e=>?_⟩
  cases i with
  | zero=>cases e;exact⟨x,rfl,of_decide_eq_true h1,h2,h3⟩
  | succ i=>exact g i k e
theorem aH {X:Cx}{sc:Scope}{cl:List (Str×Addr)}(VX frN:List Str)(fr:List Nat)(kind:sc.kind=.function)(names:(sc.names.all fun x=>x.2 != .local || sc.names.lookup x.1 == some .local)=true)
  (DQ:(sc.names.all fun x=>x.2 != .cell)=true) (clos:closureFor sc X.env=pure cl) (cells:Qg X.env cl) (has:((relabel sc X.env).names.all fun y=>!DZ (some y.2) || (cl.lookup y.1).isSome)=true)
  (len:frN.length=fr.length) (Yg:Jj X sc frN fr=true):rZ X sc cl VX.length (VX++frN) fr where
 kind:=kind
 names:=fun x hx hl=>by
  have:=List.all_eq_true.mp names x hx
  rw[hl] at this
  simpa using this
 DQ:=fun x hx=>by simpa using List.all_eq_true.mp DQ x hx
 clos:=clos
 cells:=fun x c h=>cells.mem (x,c) (PySem.mem_of_lookup h)
 has:=fun x h=>by
  obtain⟨k,hk,e⟩:∃ k,(relabel sc X.env).names.lookup x=some k/\DZ (some k)=true:=by
   rcases h with h | h
   ·exact⟨_,h,rfl⟩
   ·exact⟨_,h,rfl⟩
  have:=List.all_eq_true.mp has (x,k) (PySem.mem_of_lookup hk)
  rw[e] at this
  exact Option.isSome_iff_exists.mp (by simpa using this)
 len:=by rw[List.length_append,len]
 Yg:=fun i j e=>by
  obtain⟨_,g⟩:=Fw Yg
  obtain⟨x,e1,e2,e3,e4⟩:=g i j e
  refine⟨x,?_,e2,Jg e3,Jg e4⟩
  rw[List.getElem?_append_right (Nat.le_add_right _ _),Nat.add_sub_cancel_left]
  exact e1
noncomputable def De (own:Nat)(fr:List Nat)(σ:St):St:=List.replicate own none++fr.map fun j=>(σ[j]?).join
section
variable {X:Cx}{sc:Scope}{cl:List (Str×Addr)}{own:Nat}{N:List Str}{fr:List Nat}
theorem RO {σ:St}{i:Nat}{v:V}(h:(De own fr σ)[i]?=some (some v)):∃ k j,i=own+k/\fr[k]?=some j/\σ[j]?=some (some v):=by
 unfold De at h
 by_cases hi:i < own
 ·rw[List.getElem?_append_left (by simpa using hi),List.getElem?_replicate,if_pos hi] at h
  cases h
 ·rw[List.getElem?_append_right (by simpa using hi),List.length_replicate,List.getElem?_map] at h
  cases e:fr[i - own]? with
  | none=>rw[e] at h;cases h
  | some j =>
   rw[e] at h
   have h:(σ[j]?).join=some v:=Option.some.inj h
   refine⟨i - own,j,by omega,e,?_⟩
   cases q:σ[j]? with
   | none=>rw[q] at h;cases h
   | some o=>rw[q] at h;exact congrArg some h
theorem K1 {pins:List (Addr×Obj)}{σ:St}{H:Hp}{s:Shared}{fp:List Addr}{h1:Heap}{m1:Str->Option Value}{t:Nat}{C D:Addr}{od:Obj}(S:rZ X sc cl own N fr)(I:Inv X pins σ H s)(hfp:∀ b∈fp,zz X pins H b)
  (hob:∀ b∈fp,∃ o,s.heap.get? b=some o) (kp:∀ b o,s.heap.get? b=some o->h1.get? b=some o) (hC:s.heap.objs.size<=C) (hns:h1.Ns C m1) (hD:s.heap.objs.size<=D) (hDC:D≠C) (ho:h1.get? D=some od) (hod:∀ v,od.data≠.cell v) :
  Inv (xo X sc N cl C s H fp) [(D,od)] (De own fr σ) H { s with heap:=h1,toks:=t }:=by
 have Om:∀ b∈fp,b < s.heap.objs.size:=fun b hb=>let ⟨o,e⟩:=hob b hb;Heap.lt_size e
 refine⟨⟨I.ok.mod,S.kind,I.ok.glob,I.ok.blt,hC,fun x y c a b=>I.ok.inj x y c (S.cells x c a) (S.cells y c b),S.has,(fun x c z=>nomatch z),I.ok.hd,I.ok.frames,.inl rfl,fun b hb=>?_,I.bs,Nat.le_trans I.ok.PY I.sz,fun b o e hb=>?_,fun b hb hf=>?_,I.stack,I.IA⟩,
  rfl,I.bare,Un.kept kp,⟨m1,hns,fun i x v e1 e2 e3=>?_⟩,fun x c e=>?_,I.hok.fresh hC,fun x c e=>I.rG x c (S.cells x c e),fun p hp=>?_,I.hok.kept kp,?_⟩
 ·exact⟨Nat.ne_of_lt (Nat.lt_of_lt_of_le (Om b hb) hC),fun x c e=>(hfp b hb).2.2.2.2.1 x c (S.cells x c e)⟩
 ·rcases(hfp b hb).2.2.2.1 with z | z
  ·exact I.ok.MT b o e z
  ·exact absurd (Nat.lt_of_lt_of_le (Heap.lt_size e) (Nat.le_trans I.ok.PY z)) (Nat.lt_irrefl _)
 ·rcases List.mem_cons.mp (I.Dd b hf) with z | z
  ·exact(hfp b hb).2.1 z
  ·exact(hfp b hb).2.2.1 z
 ·obtain⟨k,j,rfl,ej,eσ⟩:=RO e2
  obtain⟨y,n1,n2,k1,k2⟩:=S.Yg k j ej
  have e1:N[own+k]?=some x:=e1
  rw[n1] at e1
  cases e1
  obtain⟨m,hn,hl⟩:=I.loc
  obtain⟨u,ru,l⟩:=hl j x v n2 eσ (by rcases k1 with z | z;exact .inr (.inl z);exact .inr (.inr z))
  refine⟨u,ru,.inr ⟨k2,?_⟩⟩
  obtain⟨c,hc⟩:=S.has x k2
  refine⟨c,hc,?_⟩
  rcases l with ⟨q,_⟩ | ⟨_,c',e',z⟩
  ·rcases k1 with k1 | k1 <;> (rw[k1] at q;cases q)
  ·have:=S.cells x c hc
   rw[e'] at this;cases this
   obtain⟨o,Q3,h2'⟩:=z
   exact⟨o,kp _ _ Q3,h2'⟩
 ·obtain⟨v,o,Q3,h2'⟩:=I.cell x c (S.cells x c e)
  exact⟨v,o,kp _ _ Q3,h2'⟩
 ·have hp:p=(D,od):=by simpa using hp
  subst hp
  refine⟨ho,I.hok.fresh hD,hDC,fun hf=>?_,hod⟩
  have:D∈X.env.locals::X.fs:=I.Dd D hf
  rcases List.mem_cons.mp this with z | z
  ·exact absurd (Nat.lt_of_lt_of_le I.lt hD) (by rw[z];exact Nat.lt_irrefl _)
  ·exact I.V5 hD z
 ·unfold De
  rw[List.length_append,List.length_replicate,List.length_map]
  exact S.len.symm
theorem K3 {pins pl:List (Addr×Obj)}{σ τ:St}{H H':Hp}{s s':Shared}{fp:List Addr}{C D:Addr}{ys:List V}{its:List Value}{n:Nat}(I:Inv X pins σ H s)(hfp:∀ b∈fp,zz X pins H b)(hC:s.heap.objs.size<=C)(hD:s.heap.objs.size<=D)
  (B:Inv (xo X sc N cl C s H fp) pl τ H' s') (hn:H' D=none) (ho:s'.heap.get? D=some { cls:=.type "list",data:=.seq its.toArray n }) (r:Vals ys its) (hz:ys.length<=sizeLine) :
  Inv X pins σ (upd H' D (.lst ys)) s':=by
 have ne:∀ b o,s.heap.get? b=some o->b≠D:=fun b o e=>Nat.ne_of_lt (Nat.lt_of_lt_of_le (Heap.lt_size e) hD)
 have nt:∀ b u,H' b=some u->b≠D:=fun b u e=>cJ e hn
 refine I.Xy (ch:=fp) B.os ⟨B.base.keep,B.base.slot,fun b o e q hx=>?_,B.base.there,fun b xs e=>?_,fun b o u e=>?_,fun b ps e=>?_⟩ (fun b u e=>?_) B.bare fun b hb=>?_
 ·rw[bL (ne b o e)];exact B.base.free b o e q hx
 ·have:=B.base.tups b xs e;rw[bL (nt _ _ this)];exact this
 ·have:=B.base.Cb b o u e;rw[bL (nt _ _ this)];exact this
 ·obtain⟨mo,this⟩:=B.base.Dc b ps e;exact⟨mo,by rw[bL (nt _ _ this)];exact this⟩
 ·by_cases hb:b=D
  ·subst hb
   rw[kY] at e
   cases e
   exact⟨hz,its,n,r,ho⟩
  ·rw[bL hb] at e
   exact(B.hok b u e).stay (fun _ _ _ q=>q) (fun c q=>by rw[bL (nt _ _ q)];exact q) fun c xs q=>by rw[bL (nt _ _ q)];exact q
 ·obtain⟨_,f1,_,f3,f4,f5⟩:=hfp b hb
  exact⟨f3,f1,f4,f5⟩
end
end L2
namespace L2
open PySem PySem.Spec PyProof.Rows
section
variable {X:Cx}{sc:Scope}{cl:List (Str×Addr)}{own:Nat}{N:List Str}{fr:List Nat}
theorem Inv.Mw {pins AE:List (Addr×Obj)}{σ:St}{H:Hp}{s:Shared}(I:Inv X pins σ H s)(h:∀ p∈AE,p∈pins):Inv X AE σ H s:=I.zP fun p hp=>I.pin p (List.mem_append_right _ (h p hp))
theorem CZ {elt tg iter:Expr}{cs:List Expr}{pos:Pos}{g:TG}{tt:TT}{te:TE}{pins:List (Addr×Obj)}{σ:St}{H:Hp}{s:Shared}{it:Addr}{fp:List Addr}{tn:Nat->Heap->Prop}{J:It}{RR:Value->Addr->Result->Shared->Prop}
  (S:rZ X sc cl own N fr) (hc:X.calm=true) (I:Inv X pins σ H s) (T:Turn X.prog X.w X.K tg J fp it tn) (st:tn 0 s.heap) (hfp:∀ b∈fp,zz X pins H b)
  (hg:∀ C s H,PG (xo X sc N cl C s H fp) tg g) (ht:∀ C s H,U5 (xo X sc N cl C s H fp) cs tt) (he:∀ C s H,PE (xo X sc N cl C s H fp) elt te)
  {W:Nat->Nat->List V->Hp->Prop} {R:List V->Hp->Prop} (w0:∃ m,W 0 m [] H) (walk:NU J g tt te (De own fr σ) W R)
  (fin:∀ D C H' ys s' m,s'.heap.Ns C m->H' D=none->zz X pins (upd H' D (.lst ys)) C->Inv X pins σ (upd H' D (.lst ys)) s'->R ys H'->RR (.ref D) C (.ok .next) s') :
  wpAny (model X.prog X.w) X.A (newList []) (fun acc s3=>wpAny (model X.prog X.w) X.A (newFunctionEnv sc X.env.globals cl [] X.env.qual none .none (some X.env)) (fun cenv s4 =>
   codeAny (model X.prog X.w) X.A (.compStart (.ListComp elt [⟨tg,iter,cs,0⟩] sc pos) 0 (.ref it) acc { cenv with scope:=relabel sc X.env }) (RR acc cenv.locals) s4) X.xe s3) X.xe s:=by
 refine wpAny_newObj_type (wpAny_newFunctionEnv S.DQ (by intro y hy;simp at hy) (fun h1 hns X8=>?_) S.kind)
 dsimp only at hns X8 ⊢
 generalize hH:s.heap.push { cls:=.type "list",dict:=none,data:=.seq ([]:List Value).toArray }=hp at hns X8 ⊢
 have sC:hp.objs.size=s.heap.objs.size+1:=by rw[<- hH,Heap.size_push]
 have hDC:s.heap.objs.size≠hp.objs.size:=by omega
 have kp:∀ b o,s.heap.get? b=some o->h1.get? b=some o:=fun b o e=>by
  have l:=Heap.lt_size e
  exact X8.extBut b o (Nat.ne_of_lt (by rw[sC];exact Nat.lt_succ_of_lt l)) (Heap.get?_push_of_some _ (hH ▸ Heap.get?_push_of_some _ e))
 have hD1:h1.get? s.heap.objs.size=some { cls:=.type "list",data:=.seq ([]:List Value).toArray }:=X8.extBut _ _ hDC (Heap.get?_push_of_some _ (hH ▸ Heap.get?_push_size _ rfl))
 have Om:∀ b∈fp,b < s.heap.objs.size:=fun b hb=>let ⟨o,e,_⟩:=T.obj 0 _ st b hb;Heap.lt_size e
 generalize hCC:hp.objs.size=C at *
 generalize hDD:s.heap.objs.size=D at *
 have I1:∀ t,Inv (xo X sc N cl C s H fp) [(D,{ cls:=.type "list",data:=.seq ([]:List Value).toArray })] (De own fr σ) H { s with heap:=h1,toks:=t }:=fun t =>
  K1 S I hfp (fun b hb=>let ⟨o,e,_⟩:=T.obj 0 _ st b hb;⟨o,e⟩) kp (by omega) hns (by omega) hDC hD1 (by intro v z;cases z)
 have st1:tn 0 h1:=T.keep 0 _ _ st fun b hb o e=>kp b o e
 have fpo:∀ {H':Hp} {s':Shared} {τ:St} {pl:List (Addr×Obj)} {od:Obj},Inv (xo X sc N cl C s H fp) pl τ H' s'->(∀ p∈pl,p.1=D)->(∀ b∈fp,H' b=none)->∀ b∈fp,zz (xo X sc N cl C s H fp) pl H' b:=fun {H' s' τ pl od} B hpl hn b hb=>by
  have q:=Om b hb
  refine⟨hn b hb,(B.ok.Yj b hb).1,B.ok.Nz b hb,.inl hb,(B.ok.Yj b hb).2,fun p hp=>?_⟩
  have hp:p∈pl:=by simpa using hp
  rw[hpl p hp];exact(Nat.ne_of_lt q).symm
 have loop:∀ t,codeAny (model X.prog X.w) X.A (.compLoop (.ListComp elt [⟨tg,iter,cs,0⟩] sc pos) 0 (.ref it) (.ref D) (compEnvC sc cl C X.env)) (RR (.ref D) C) { s with heap:=h1,toks:=t }:=by
  intro t
  obtain⟨m0,w0⟩:=w0
  refine KW (fun n s'=>∃ i ys its k H',Inv (xo X sc N cl C s H fp) [(D,{ cls:=.type "list",data:=.seq (List.toArray its) k })] (De own fr σ) H' s'/\tn i s'.heap/\(∀ b∈fp,H' b=none)/\Vals ys its/\ys.length<=sizeLine/\W i n ys H') ?_ m0
   ⟨0,[],[],_,H,I1 t,st1,fun b hb=>(hfp b hb).1,.nil,Nat.zero_le _,w0⟩
  rintro n s2 ⟨i,ys,its,k,H2,B2,st2,fr2,rv,hz,w2⟩
  have pD:=B2.pin (D,{ cls:=.type "list",data:=.seq (List.toArray its) k }) (List.mem_append_right _ (List.mem_singleton.mpr rfl))
  rcases walk i n ys H2 w2 with ⟨stop,rr⟩ | ⟨go,nx,hnx,tk⟩
  ·refine wpAny_mono (T.done (xo X sc N cl C s H fp) rfl rfl rfl hc i _ s2 _ H2 oG B2 (fpo (od:=default) B2 (by simp) fr2) st2 stop) (fun r s3 ⟨hr,B3⟩=>?_) fun _ _ z=>z
   subst hr
   obtain⟨m3,n3,_⟩:=B3.loc
   have Y9:=B3.pin (D,{ cls:=.type "list",data:=.seq (List.toArray its) k }) (List.mem_append_right _ (List.mem_singleton.mpr rfl))
   refine fin D C H2 ys s3 m3 n3 Y9.2.1 ?_ (K3 I hfp (by omega) (by omega) B3 Y9.2.1 Y9.1 rv hz) rr
   exact I.T5 (by omega) (by rw[bL (Ne.symm hDC)];exact B3.free)
  ·refine wpAny_mono (T.item (xo X sc N cl C s H fp) rfl rfl rfl hc i _ s2 _ H2 oG B2 (fpo (od:=default) B2 (by simp) fr2) st2 go) (fun r s3 ⟨u,hr,g3⟩=>?_) fun _ _ z=>z
   subst hr
   refine wpAny_mono g3 (fun _ s4 ⟨x,H4,B4,rx,y4,YT,fr4⟩=>?_) fun _ _ z=>z
   have B5:=B4.pinned (fpo (od:=default) B4 (by simp) fr4) (T.obj _ _ YT)
   refine wpAny_mono (hg C s H _ s4 _ H4 x u _ B5 rx (tk x H4 y4)) (fun _ s5 ⟨σ5,H5,B6,ex,q5⟩=>?_) fun _ _ z=>z
   refine wpAny_mono (ht C s H _ s5 σ5 H5 _ B6 q5) (fun b s6 ⟨H6,B7,q6⟩=>?_) fun _ _ z=>z
   have back:∀ {H':Hp} {s':Shared},Inv (xo X sc N cl C s H fp) ([(D,{ cls:=.type "list",data:=.seq (List.toArray its) k })]++AD fp s4.heap) σ5 H' s'->tn (i+1) s'.heap/\∀ b∈fp,H' b=none:=fun {H' s'} B=>by
    refine⟨T.keep _ _ _ YT fun b hb o e=>(B.pin (b,o) (List.mem_append_right _ (List.mem_append_right _ (qd hb e)))).1,fun b hb=>?_⟩
    obtain⟨o,e,_⟩:=T.obj _ _ YT b hb
    exact(B.pin (b,o) (List.mem_append_right _ (List.mem_append_right _ (qd hb e)))).2.1
   cases b with
   | false =>
    obtain⟨m',hm,w'⟩:=hnx _ _ q6
    obtain⟨t7,f7⟩:=back B7
    exact⟨m',hm,i+1,ys,its,k,H6,(B7.wj).weak ex.1.symm ex.2,t7,f7,rv,hz,w'⟩
   | true =>
    refine wpAny_mono (he C s H _ s6 σ5 H6 _ B7 q6) (fun x7 s7 ⟨v7,H7,B8,r7,hz7,q7⟩=>?_) fun _ _ z=>z
    obtain⟨m',hm,w'⟩:=hnx _ _ q7
    obtain⟨t8,f8⟩:=back B8
    have SJ:=B8.pin (D,{ cls:=.type "list",data:=.seq (List.toArray its) k }) (List.mem_append_right _ (List.mem_append_left _ (List.mem_singleton.mpr rfl)))
    have lz:its.length=ys.length:=rv.length.symm
    refine call_meets F.slot_list_append ⟨_,SJ.1,rfl⟩ F.entry_list_append (F.args_list_append_2 _ _) (PySem.list_append D its.toArray k x7 (by rw[List.size_toArray];omega)) ⟨SJ.1,?_⟩
    have q:=PySem.IsL.update SJ.1 (·.push x7)
    have eo:its.toArray.push x7=(its++[x7]).toArray:=by simp
    have B9:Inv (xo X sc N cl C s H fp) [] (De own fr σ) H7 { s7 with heap:=s7.heap.update D (Obj.mapSeq (·.push x7)) } :=
     Inv.turned (t':=s7.toks) (((B8.Mw (AE:=[]) (by intro p hp;simp at hp)).weak ex.1.symm ex.2)) (fun b o hb e=>(Heap.get?_update_other _ _ (Ne.symm hb)).trans e) SJ.2.1 hDC (.inr (by show s.heap.objs.size<=D;omega)) (fun y c e z=>by
      have:=B8.cell y c e
      obtain⟨v,o,Q3,h2'⟩:=this
      have Q3:s7.heap.get? c=some o:=Q3
      rw[z,SJ.1] at Q3
      cases Q3
      cases h2') (by intro p hp;simp at hp)
    have B10:∀ o',(s7.heap.update D (Obj.mapSeq (·.push x7))).get? D=some o'->(∀ v,o'.data≠.cell v)->Inv (xo X sc N cl C s H fp) [(D,o')] (De own fr σ) H7 { s7 with heap:=s7.heap.update D (Obj.mapSeq (·.push x7)) }:=fun o' e1 e2 =>
     Inv.zP B9 fun p hp=>by
      have hp:p=(D,o'):=by simpa using hp
      subst hp
      exact⟨e1,SJ.2.1,hDC,SJ.2.2.2.1,e2⟩
    rw[eo] at q
    refine⟨m',hm,i+1,ys++[v7],its++[x7],_,H7,B10 _ q (by intro v z;cases z),T.keep _ _ _ t8 fun b hb o e=>(Heap.get?_update_other _ _ (Nat.ne_of_gt (Om b hb))).trans e,f8,rv.append (.cons r7 .nil),by rw[List.length_append,List.length_singleton];omega,w'⟩
 exact codeAny_compStart_list (loop _) (T.self _ 0 _ _ _ st1 (loop _))
noncomputable def Iv (own:Nat)(fr:List Nat)(wi:TI)(g:TG)(tt:TT)(te:TE):TE:=fun σ H Q=>wi σ H fun J H1=>∃ W:Nat->Nat->List V->Hp->Prop,(∃ m,W 0 m [] H1) /\
 NU J g tt te (De own fr σ) W fun ys H2=>∀ p,H2 p=none->Q (.ref p) (upd H2 p (.lst ys))
theorem O1 {elt tg iter:Expr}{cs:List Expr}{pos:Pos}{wi:TI}{g:TG}{tt:TT}{te:TE}(S:rZ X sc cl own N fr)(hc:X.calm=true)(hi:PI X tg iter wi)(hg:∀ C s H fp,PG (xo X sc N cl C s H fp) tg g)
  (ht:∀ C s H fp,U5 (xo X sc N cl C s H fp) cs tt) (he:∀ C s H fp,PE (xo X sc N cl C s H fp) elt te) (hs:∀ x,foldedSetIterable iter X.env x=pure x:=by intro _;rfl) :
  PE X (.ListComp elt [⟨tg,iter,cs,0⟩] sc pos) (Iv own fr wi g tt te):=by
 intro pins s σ H Q I h
 rw[eval_ListComp]
 refine wpAny_comprehension_free (use:=none) rfl hs S.clos S.kind S.names (gm (hi pins s σ H _ I h) fun v s1 h1=>gm h1 fun itv s2 h2=>?_)
 obtain⟨it,fp,tn,J,H2,e,I2,T,st2,f2,W,w0,walk⟩:=h2
 subst e
 refine CZ (RR:=fun acc C=>compPost (model X.prog X.w) X.A X.xe none (EP X pins σ Q) acc C) S hc I2 T st2 f2 (fun C s H=>hg C s H fp) (fun C s H=>ht C s H fp) (fun C s H=>he C s H fp) w0 walk ?_
 intro D C H' ys s' m hn hD fC I' rr
 obtain⟨f0,f1,f2',f3,f4,f5⟩:=fC
 exact⟨m,hn,fun h' hs'=>⟨.ref D,_,Inv.turned (t':=s'.toks) I' (fun b o hb e=>hs'.extBut b o hb e) f0 f1 f3 f4 f5,rfl,rr D hD⟩⟩
theorem IY {elt tg iter:Expr}{cs:List Expr}{pos spos py:Pos}{wi:TI}{g:TG}{tt:TT}{te:TE}{i:Nat}{y:Str}(hN:X.N.Nodup)(Xa:X.N[i]?=some y)(hy:Loc X.env.scope y)(S:rZ X sc cl own N fr)(hc:X.calm=true)(hi:PI X tg iter wi)
  (hg:∀ C s H fp,PG (xo X sc N cl C s H fp) tg g) (ht:∀ C s H fp,U5 (xo X sc N cl C s H fp) cs tt) (he:∀ C s H fp,PE (xo X sc N cl C s H fp) elt te)
  (hsw:swapsWith (.ListComp elt [⟨tg,iter,cs,0⟩] sc pos) (some (.Name y py)) spos.line X.env=pure true:=by rfl) (hs:∀ x,foldedSetIterable iter X.env x=pure x:=by intro _;rfl)
  (hf:X.fn y=true∨X.env.scope.names.lookup y=some .local:=by first | exact .inl rfl | exact .inr rfl | assumption) :
  PS X (.Assign [.Name y py] (.ListComp elt [⟨tg,iter,cs,0⟩] sc pos) spos) (RE (Iv own fr wi g tt te) (Nu i)):=by
 intro pins s σ H D0 I h
 rw[exec_Assign_Name_used _ _ _ _ hsw]
 refine wpAny_bind (wpAny_standAt (wpAny_bind ?_))
 show wpAny _ X.A (do let _ <- comprehension (.ListComp elt [⟨tg,iter,cs,0⟩] sc pos) sc X.env _ (newList []) false (eval iter X.env) (some (assign (.Name y py) X.env))) _ _ s
 refine wpAny_bind (gm (wpAny_comprehension_free (use:=some (assign (.Name y py) X.env)) (Q:=fun _ s'=>SP X pins D0 .next s') rfl hs S.clos S.kind S.names
  (gm (hi pins s σ H _ I h) fun v s1 h1=>gm h1 fun itv s2 h2=>?_)) fun _ s' hq=>wpAny_pure (wpAny_pure hq))
 obtain⟨it,fp,tn,J,H2,e,I2,T,st2,f2,W,w0,walk⟩:=h2
 subst e
 refine CZ (RR:=fun acc C=>compPost (model X.prog X.w) X.A X.xe (some (assign (.Name y py) X.env)) (fun _ s'=>SP X pins D0 .next s') acc C) S hc I2 T st2 f2 (fun C s H=>hg C s H fp) (fun C s H=>ht C s H fp) (fun C s H=>he C s H fp) w0 walk ?_
 intro D C H' ys s' m hn hD fC I' rr
 obtain⟨f0,f1,f2',f3,f4,f5⟩:=fC
 show wpAny _ X.A (assign (.Name y py) X.env (.ref D)) _ _ _
 refine wpAny_assign_Name (CI I' hN Xa hy (v:=.ref D) rfl (fun s2 I2 ⟨a,sb,ha⟩=>?_) hf)
 have aC:C≠a:=by
  rcases ha with z | z
  ·rw[z];exact f1
  ·exact fun q=>f4 y a z q.symm
 exact⟨m,hn.sameBut sb aC,fun h' hs'=>⟨_,_,Inv.turned (t':=s2.toks) I2 (fun b o hb e=>hs'.extBut b o hb e) f0 f1 f3 f4 f5,rr D hD⟩⟩
end
noncomputable def ZL (K:PySem.W.Frag)(tl:TE):TI:=fun σ H R=>tl σ H fun x H1=>∃ a,x=.ref a/\(((∃ xs,rR K H1 a xs)/\R (Yo K a) H1)∨((∃ xs,vo K H1 a xs)/\R (Itt K a) H1))
theorem Sy {X:Cx}{tg l:Expr}{tl:TE}(hl:PE X l tl):PI X tg l (ZL X.K tl):=by
 intro pins s σ H R I h
 refine gm (hl pins s σ H _ I h) ?_
 rintro v s1 ⟨x,H1,I1,r1,q1⟩
 obtain⟨a,e,q⟩:=q1
 subst e
 cases r1
 have fo:∀ b∈[s1.heap.objs.size],zz X pins H1 b:=fun b hb=>by
  have e:b=s1.heap.objs.size:=by simpa using hb
  subst e
  exact I1.T5 (Nat.le_refl _) (I1.hok.fresh (Nat.le_refl _))
 rcases q with ⟨⟨xs,hq⟩,q⟩ | ⟨⟨xs,hq⟩,q⟩
 ·obtain⟨its,rv,p,hz⟩:=I1.list hq
  refine wpAny_pyIter_list p.isList ?_
  exact⟨s1.heap.objs.size,[s1.heap.objs.size],_,_,H1,rfl,I1.kept (t':=s1.toks) fun b o e=>Heap.get?_push_of_some _ e,JE a _,⟨_,Heap.get?_push_size _ rfl,rfl,rfl⟩,fo,q⟩
 ·obtain⟨its,rv,p,hz⟩:=I1.tuple hq
  refine wpAny_pyIter_tuple (show s1.heap.IsTuple a its.toArray from p) ?_
  exact⟨s1.heap.objs.size,[s1.heap.objs.size],_,_,H1,rfl,I1.kept (t':=s1.toks) fun b o e=>Heap.get?_push_of_some _ e,Gy a _,⟨_,Heap.get?_push_size _ rfl,rfl,rfl⟩,fo,q⟩
end L2
namespace Hw
open PySem PySem.Spec
noncomputable def lt (a b:Str):Bool:=ltCps a.cps.toList b.cps.toList
theorem Rg:∀ a:List Nat,ltCps a a=false
 | []=>rfl
 | x::r=>by simp[ltCps,Rg r]
theorem Jw:∀ a b c:List Nat,ltCps a b=true->ltCps b c=true->ltCps a c=true
 | [],[],_,h,_=>by simp[ltCps] at h
 | [],_::_,[],_,h=>by simp[ltCps] at h
 | [],_::_,_::_,_,_=>rfl
 | _::_,[],_,h,_=>by simp[ltCps] at h
 | _::_,_::_,[],_,h=>by simp[ltCps] at h
 | x::a,y::b,z::c,h,g=>by
  simp only[ltCps,Bool.or_eq_true,Bool.and_eq_true,decide_eq_true_eq,beq_iff_eq] at h g ⊢
  rcases h with h | ⟨h,h'⟩ <;> rcases g with g | ⟨g,g'⟩
  ·left;omega
  ·left;omega
  ·left;omega
  ·right;exact⟨by omega,Jw a b c h' g'⟩
theorem Rc:∀ a b:List Nat,ltCps a b=true∨a=b∨ltCps b a=true
 | [],[]=>.inr (.inl rfl)
 | [],_::_=>.inl rfl
 | _::_,[]=>.inr (.inr rfl)
 | x::a,y::b=>by
  simp only[ltCps,Bool.or_eq_true,Bool.and_eq_true,decide_eq_true_eq,beq_iff_eq,List.cons.injEq]
  rcases Nat.lt_trichotomy x y with h | h | h
  ·exact .inl (.inl h)
  ·rcases Rc a b with g | g | g
   ·exact .inl (.inr ⟨h,g⟩)
   ·exact .inr (.inl ⟨h,g⟩)
   ·exact .inr (.inr (.inr ⟨h.symm,g⟩))
  ·exact .inr (.inr (.inl h))
theorem yg (a:Str):lt a a=false:=Rg _
theorem lt_trans {a b c:Str}:lt a b=true->lt b c=true->lt a c=true:=Jw _ _ _
theorem DS (a b:Str):lt a b=true∨a=b∨lt b a=true:=by
 rcases Rc a.cps.toList b.cps.toList with h | h | h
 ·exact .inl h
 ·refine .inr (.inl ?_)
  obtain⟨⟨x⟩⟩:=a;obtain⟨⟨y⟩⟩:=b
  have h:x=y:=h
  rw[h]
 ·exact .inr (.inr h)
theorem Wf {a b:Str}(h:lt a b=true):a≠b:=fun e=>by rw[e,yg] at h;cases h
theorem not_lt_trans {a b c:Str}(h:lt b a=false)(g:lt c b=false):lt c a=false:=by
 rcases DS c a with e | e | e
 ·rcases DS b a with k | k | k
  ·rw[h] at k;cases k
  ·rw[k] at g;rw[g] at e;cases e
  ·rw[lt_trans e k] at g;cases g
 ·rw[e];exact yg a
 ·cases q:lt c a with
  | false=>rfl
  | true=>have:=lt_trans e q;rw[yg] at this;cases this
noncomputable abbrev Ps:=List (Str×Int)
end Hw
namespace L2
open PySem PySem.Spec PyProof.Rows
section
variable {X:Cx}
theorem yI:∀ (p:Str) (l:List Str),risingS p l=true->(p::l).Pairwise fun a b=>Hw.lt b a=false
 | p,[],_=>by simp
 | p,x::r,h=>by
  have h:(!ltCps x.cps.toList p.cps.toList && risingS x r)=true:=h
  rw[Bool.and_eq_true,Bool.not_eq_true'] at h
  have ih:=yI x r h.2
  refine List.pairwise_cons.mpr ⟨fun y hy=>?_,ih⟩
  rcases List.mem_cons.mp hy with rfl | hy
  ·exact h.1
  ·exact Hw.not_lt_trans h.1 ((List.pairwise_cons.mp ih).1 y hy)
theorem Dj:∀ (l:List Str),sortedS l=true->l.Pairwise fun a b=>Hw.lt b a=false
 | [],_=>.nil
 | x::r,h=>yI x r h
theorem zW:∀ {ss:List Str} {us:List Value},StrsAre us ss->Vals (ss.map V.str) us
 | _,_,.nil=>.nil
 | _,_,.cons x t h=>.cons ⟨t,rfl⟩ (zW h)
theorem yM:∀ {ss:List Str} {us:List Value},Vals (ss.map V.str) us->StrsAre us ss:=by
 intro ss
 induction ss with
 | nil=>intro us r;rw[List.map_nil] at r;cases r;exact .nil
 | cons x ss ih =>
  intro us r
  rw[List.map_cons] at r
  cases r with
  | cons r1 r2 =>
   obtain⟨t,e⟩:=r1
   subst e
   exact .cons x t (ih r2)
theorem yF:∀ {xs:List V} {us:List Value},xs.length=us.length->(∀ (i:Nat) x,xs[i]?=some x->∃ u,us[i]?=some u/\RelV x u)->Vals xs us
 | [],[],_,_=>.nil
 | [],_::_,h,_=>by simp at h
 | _::_,[],h,_=>by simp at h
 | x::xs,u::us,h,g=>by
  obtain⟨v,e,r⟩:=g 0 x rfl
  cases e
  exact .cons r (yF (by simpa using h) fun i y hy=>g (i+1) y hy)
theorem eY.here {P:Program}{w:World}{H:Hp}{h:Heap}{a:Addr}{o:HO}(x:eY P w H h a o):∃ u,h.get? a=some u:=by
 cases o with
 | lst xs=>obtain⟨_,_,_,_,e⟩:=x;exact⟨_,e⟩
 | tup xs=>obtain⟨_,_,_,o,e,_⟩:=x;exact⟨_,e⟩
 | dK kvs=>obtain⟨_,_,_,_,o,_,_,e,_⟩:=x;exact⟨_,e⟩
 | dT kvs=>obtain⟨_,_,_,_,o,_,_,e,_⟩:=x;exact⟨_,e⟩
 | set S n=>obtain⟨o,_,_,_,e,_⟩:=x;exact⟨_,e⟩
 | ins C dx fs=>obtain⟨_,_,_,e,_⟩:=x;exact⟨_,e⟩
 | own y=>obtain⟨_,e⟩:=x;exact⟨_,e⟩
 | xd fs=>obtain⟨_,⟨_,_,_,e,_⟩,_⟩:=x;exact⟨_,e⟩
 | XT lo hi=>obtain⟨_,_,_,e⟩:=x;exact⟨_,e⟩
 | HB ob u=>obtain⟨e,_⟩:=x;exact⟨_,e⟩
 | Qj ps=>exact⟨_,(show h.get? a=some _ from x)⟩
 | met f y=>exact⟨_,(show h.get? a=some _ from x)⟩
 | ext φ=>obtain⟨_,⟨_,e⟩,_⟩:=x;exact⟨_,e⟩
theorem Inv.Wj {pins:List (Addr×Obj)}{σ:St}{H:Hp}{s:Shared}{h':Heap}{a:Addr}{o:HO}{t':Nat}(I:Inv X pins σ H s)(k:∀ b u,s.heap.get? b=some u->h'.get? b=some u)(hp:∀ b u,s.heap.get? b=some u->b≠a)(new:eY X.prog X.w (upd H a o) h' a o) :
  H a=none/\Inv X pins σ (upd H a o) { s with heap:=h',toks:=t' }:=by
 have hn:H a=none:=by
  cases q:H a with
  | none=>rfl
  | some u=>obtain⟨v,e⟩:=(I.hok a u q).here;exact absurd rfl (hp a v e)
 refine⟨hn,I.un ⟨fun b u e _ _ _=>k b u e,fun b u e _ _ _=>⟨u.slots,k b u e⟩,fun b u e n _=>by rw[bL (hp b u e)];exact n,fun b u e _=>⟨u,k b u e⟩,fun b xs e=>by rw[bL (cJ e hn)];exact e,fun b u xs e=>by rw[bL (cJ e hn)];exact e,fun b ps e=>⟨#[],by rw[bL (cJ e hn),e];simp⟩⟩ fun b u e=>?_⟩
 by_cases hb:b=a
 ·subst hb;rw[kY] at e;cases e;exact new
 ·rw[bL hb] at e
  exact(I.hok b u e).stay (fun c v _ q=>k c v q) (fun c q=>by rw[bL (cJ q hn)];exact q) fun c xs q=>by rw[bL (cJ q hn)];exact q
theorem D8 (hc:X.calm=true):jk X (.builtin "sorted") (fun xs H Q=>∃ p kvs ss,xs=[.ref p]/\H p=some (.dK kvs)/\kvs.map (·.1)=List.map (Sum.inr:Str->Key) ss/\kvs.length < 64 /\
  ∀ l ys,H l=none->List.Perm ys ss->ys.Pairwise (fun a b=>Hw.lt b a=false)->Q (.ref l) (upd H l (.lst (ys.map V.str)))):=by
 intro pins s σ H xs us Q I r h
 obtain⟨p,kvs,ss,rfl,hp,hk,h64,q⟩:=h
 obtain⟨u,rfl,ru⟩:=vals1 r
 cases ru
 obtain⟨hz,lo,vs,rel,dd⟩:=CV I.hok (.inl hp)
 obtain⟨ep,hat⟩:=dd.dictAt
 have Z6:=rel.length
 refine Calls.call_function_entry kind_sorted plain_sorted entry_sorted (args_sorted1 _) ?_
 unfold Builtin.«sorted»
 refine wpAny_bind (m:=checkCount "sorted" 1 1 _) (wpAny_pure (wpAny_bind (PySem.W.kdu_collect (A:=X.A.in1) (PySem.W.kdl_dict (knd:=fJ X.prog X.w) (kvs:=vs) (ep:=ep) lo) (I.ok.hd hc) hat (by rw[<- Z6];exact hz) fun h' tk acc kp hacc=>?_)))
 have hS:StrsAre acc.toList ss:=by
  refine yM (yF ?_ fun i x hx=>?_)
  ·have:(kvs.map (·.1)).length=(List.map (Sum.inr:Str->Key) ss).length:=by rw[hk]
   rw[List.length_map,List.length_map] at this
   have el:acc.toList.length=kvs.length:=by rw[Array.length_toList,hacc.1,<- Z6]
   rw[List.length_map,el,this]
  ·rw[List.getElem?_map] at hx
   cases e:ss[i]? with
   | none=>rw[e] at hx;cases hx
   | some y =>
    rw[e] at hx
    cases hx
    have hi:i < acc.size:=by
     have h1:i < ss.length:=(List.getElem?_eq_some_iff.mp e).1
     have:(kvs.map (·.1)).length=(List.map (Sum.inr:Str->Key) ss).length:=by rw[hk]
     rw[List.length_map,List.length_map] at this
     rw[hacc.1];omega
    obtain⟨k,x,hv,hkk⟩:=hacc.2 i acc[i] (by simp)
    have ek:(vs.map (·.1))[i]?=some (Sum.inr y):=by rw[<- rel.keys,hk,List.getElem?_map,e];rfl
    rw[List.getElem?_map,hv] at ek
    have ek:k=Sum.inr y:=Option.some.inj ek
    subst ek
    rcases eE (show AU (Sum.inr y) acc[i]=true from hkk) with ⟨_,_,z,_⟩ | ⟨z,t,z1,z2⟩
    ·cases z
    ·cases z1
     exact⟨acc[i],by simp,t,z2⟩
 have hla:acc.toList.length < 64:=by rw[Array.length_toList,hacc.1,<- Z6];exact h64
 refine wpAny_bind (wpAny_newList ?_ (by
   have:64<=sizeLine:=by rw[sizeLine_eq];decide
   omega))
 have ho:(h'.push (seqObj "list" acc.toList.toArray 0)).get? h'.objs.size=some (seqObj "list" acc.toList.toArray 0):=Heap.get?_push_size _ rfl
 refine wpAny_bind (wpAny_holding (wpAny_call_entry slot_list_sort ⟨_,ho,rfl⟩ entry_list_sort (list_sort_treeK (s:={ s with heap:=h'.push (seqObj "list" acc.toList.toArray 0),toks:=tk }) strKind_oneLt ho hS.keysOf (fun v1 v2 rest e=>keyKind_strs (by rw[<- e];exact hS)) hla fun st' a1 a2=>⟨_,rfl,?_⟩) (args_list_sort _)))
 obtain⟨ss',b1,b2,b3⟩:=sorted_out_str hS a1 a2
 obtain⟨e,he⟩:=sortedHeap_at (out:=(arrOf st').map (·.2)) ho
 have hss:(ss'.map V.str).length<=sizeLine:=by
  have h1:64<=sizeLine:=by rw[sizeLine_eq];decide
  have h2:(ss'.map V.str).length=acc.toList.length:=by rw[List.length_map,b2.length_eq,<- StrsAre.length hS]
  rw[h2]
  exact Nat.le_trans (Nat.le_of_lt hla) h1
 have L:=I.Wj (h':=sortedHeap (h'.push (seqObj "list" acc.toList.toArray 0)) h'.objs.size acc.toList ((arrOf st').map (·.2))) (a:=h'.objs.size) (o:=.lst (ss'.map V.str)) (t':=tk)
  (fun b u q=>by
   have l:=Heap.lt_size (kp b u q)
   rw[sortedHeap_old (Nat.ne_of_lt l) (by rw[Heap.size_push];exact Nat.lt_succ_of_lt l)]
   exact Heap.get?_push_of_some _ (kp b u q))
  (fun b u q=>Nat.ne_of_lt (Heap.lt_size (kp b u q)))
  ⟨hss,((arrOf st').map (·.2)).toList,e,zW b1,by rw[Array.toArray_toList];exact he⟩
 exact wpAny_pure ⟨_,rfl,.ref h'.objs.size,_,L.2,rfl,q _ ss' L.1 b2 (Dj _ b3)⟩
noncomputable def HY (K:PySem.W.Frag)(H:Hp):Nat->V->V->Prop
 | 0,x,y=>j4 x=true/\x=y
 | n+1,x,y=>(j4 x=true/\x=y)∨∃ a b xs ys,x=.ref a/\y=.ref b/\((rR K H a xs/\rR K H b ys)∨(vo K H a xs/\vo K H b ys))/\Paired (HY K H n) xs ys
theorem NB {x:V}(h:j4 x=true):Gv x x=true:=by
 cases x with
 | fE=>rfl
 | bl b=>simp[Gv]
 | int i=>simp[Gv]
 | str z=>simp[Gv]
 | _=>cases h
theorem E3 {F:V->V->Prop}:∀ {xs ys:List V},Paired F xs ys->∀ {i:Nat} {x y:V},xs[i]?=some x->ys[i]?=some y->F x y
 | _,_,.nil,_,_,_,e,_=>by simp at e
 | _,_,.cons r t,0,_,_,e,e'=>by simp at e e';rw[<- e,<- e'];exact r
 | _,_,.cons r t,i+1,_,_,e,e'=>E3 t (by simpa using e) (by simpa using e')
theorem j9 {K:PySem.W.Frag}{n:Nat}{H:Hp}{A:Around}{s:Shared}{xs ys:List V}{us vs:List Value}(p:Paired (HY K H n) xs ys)(r:Vals xs us)(r':Vals ys vs)
  (ih:∀ x y u v,RelV x u->RelV y v->HY K H n x y->SeqAt.EqAt A s u v true):∀ (j:Nat) (h1:j < us.toArray.size) (h2:j < vs.toArray.size),SeqAt.EqAt A s us.toArray[j] vs.toArray[j] true:=by
 intro j h1 h2
 have l1:=r.length
 have l2:=r'.length
 simp only[List.size_toArray] at h1 h2
 have e1:xs[j]?=some xs[j]:=List.getElem?_eq_getElem (by omega)
 have e2:ys[j]?=some ys[j]:=List.getElem?_eq_getElem (by omega)
 obtain⟨u,hu,ru⟩:=r.get e1
 obtain⟨v,hv,rv⟩:=r'.get e2
 have hu':us.toArray[j]=u:=by
  rw[List.getElem?_eq_getElem h1] at hu;simpa using hu
 have hv':vs.toArray[j]=v:=by
  rw[List.getElem?_eq_getElem h2] at hv;simpa using hv
 rw[hu',hv']
 exact ih _ _ u v ru rv (E3 p e1 e2)
theorem rN (n:Nat):((List.range n).all fun _=>true)=true:=by rw[List.all_eq_true];intro _ _;rfl
theorem like_eq {pins:List (Addr×Obj)}{σ:St}{H:Hp}{s:Shared}(I:Inv X pins σ H s):∀ (n:Nat) (A:Around),A.units+n < cLine->∀ x y u v,RelV x u->RelV y v->HY X.K H n x y->SeqAt.EqAt A s u v true:=by
 intro n
 have flat:∀ (A:Around) (x y:V) (u v:Value),RelV x u->RelV y v->j4 x=true/\x=y->SeqAt.EqAt A s u v true:=by
  rintro A x y u v ru rv ⟨f,rfl⟩
  have:=ND (A:=A) (s:=s) ru rv f f
  rw[NB f] at this
  exact this
 induction n with
 | zero=>intro A hu x y u v ru rv h;exact flat A x y u v ru rv h
 | succ n ih =>
  intro A hu x y u v ru rv h
  rcases h with h | ⟨a,b,xs,ys,rfl,rfl,h,p⟩
  ·exact flat A x y u v ru rv h
  ·cases ru
   cases rv
   have ih':=ih A.in1 (by show A.units+1+n < cLine;omega)
   by_cases hab:a=b
   ·subst hab;exact SeqAt.EqAt.same _
   ·refine .of_refs hab ?_
    have lp:xs.length=ys.length:=Paired.length p
    rcases h with ⟨ha,hb⟩ | ⟨ha,hb⟩
    ·obtain⟨us,r1,p1,_⟩:=I.list ha
     obtain⟨vs,r2,p2,_⟩:=I.list hb
     have l1:=r1.length
     have l2:=r2.length
     have:=SeqAt.RcAt.lists (A:=A) (e:=fun _=>true) p1.isList p2.isList (by simp only[List.size_toArray];omega) (by omega) (j9 p r1 r2 ih')
     rw[rN] at this
     exact this
    ·obtain⟨us,r1,p1,_⟩:=I.tuple ha
     obtain⟨vs,r2,p2,_⟩:=I.tuple hb
     have l1:=r1.length
     have l2:=r2.length
     have:=SeqAt.RcAt.tuples (A:=A) (e:=fun _=>true) (show s.heap.IsTuple a us.toArray from p1) (show s.heap.IsTuple b vs.toArray from p2) (by omega) (j9 p r1 r2 ih')
     have e:(us.toArray.size == vs.toArray.size)=true:=by simp only[List.size_toArray,beq_iff_eq];omega
     rw[rN,e] at this
     exact this
noncomputable def Qw (K:PySem.W.Frag)(n:Nat)(k:Bool):R2:=fun x y H Q=>∃ a b xs ys,x=.ref a/\y=.ref b/\((rR K H a xs/\rR K H b ys)∨(vo K H a xs/\vo K H b ys))/\Paired (HY K H n) xs ys/\Q (.bl k) H
theorem SR (n:Nat)(hu:X.A.units+1+n < cLine):qF X (compareOp .Eq) (Qw X.K n true):=by
 intro pins s σ H x y v u Q I rx ry h
 obtain⟨a,b,xs,ys,rfl,rfl,h,p,q⟩:=h
 cases rx
 cases ry
 have ih':=like_eq I n X.A.in1 (by show X.A.units+1+n < cLine;omega)
 have lp:xs.length=ys.length:=Paired.length p
 have fin:EP X pins σ Q (.bool true) s:=⟨.bl true,H,I,rfl,q⟩
 rcases h with ⟨ha,hb⟩ | ⟨ha,hb⟩
 ·obtain⟨us,r1,p1,_⟩:=I.list ha
  obtain⟨vs,r2,p2,_⟩:=I.list hb
  have l1:=r1.length
  have l2:=r2.length
  exact SeqAt.eq_listAt (e:=fun _=>true) p1.isList p2.isList (by simp only[List.size_toArray];omega) (by omega) (j9 p r1 r2 ih') (by rw[rN];exact fin)
 ·obtain⟨us,r1,p1,_⟩:=I.tuple ha
  obtain⟨vs,r2,p2,_⟩:=I.tuple hb
  have l1:=r1.length
  have l2:=r2.length
  have e:(us.toArray.size == vs.toArray.size)=true:=by simp only[List.size_toArray,beq_iff_eq];omega
  exact SeqAt.eq_tupleAt (e:=fun _=>true) (show s.heap.IsTuple a us.toArray from p1) (show s.heap.IsTuple b vs.toArray from p2) (by omega) (j9 p r1 r2 ih') (by rw[rN,e];exact fin)
theorem SN (n:Nat)(hu:X.A.units+1+n < cLine):qF X (compareOp .NotEq) (Qw X.K n false):=by
 intro pins s σ H x y v u Q I rx ry h
 obtain⟨a,b,xs,ys,rfl,rfl,h,p,q⟩:=h
 cases rx
 cases ry
 have ih':=like_eq I n X.A.in1 (by show X.A.units+1+n < cLine;omega)
 have lp:xs.length=ys.length:=Paired.length p
 have fin:EP X pins σ Q (.bool false) s:=⟨.bl false,H,I,rfl,q⟩
 rcases h with ⟨ha,hb⟩ | ⟨ha,hb⟩
 ·obtain⟨us,r1,p1,_⟩:=I.list ha
  obtain⟨vs,r2,p2,_⟩:=I.list hb
  have l1:=r1.length
  have l2:=r2.length
  exact SeqAt.RcNeAt.lists (A:=X.A) (e:=fun _=>true) p1.isList p2.isList (by simp only[List.size_toArray];omega) (by omega) (j9 p r1 r2 ih') _ _ _ _ (by rw[rN];exact fin)
 ·obtain⟨us,r1,p1,_⟩:=I.tuple ha
  obtain⟨vs,r2,p2,_⟩:=I.tuple hb
  have l1:=r1.length
  have l2:=r2.length
  have e:(us.toArray.size == vs.toArray.size)=true:=by simp only[List.size_toArray,beq_iff_eq];omega
  exact SeqAt.RcNeAt.tuples (A:=X.A) (e:=fun _=>true) (show s.heap.IsTuple a us.toArray from p1) (show s.heap.IsTuple b vs.toArray from p2) (by omega) (j9 p r1 r2 ih') _ _ _ _ (by rw[rN,e];exact fin)
noncomputable def rJoin:V->List V->Hp->VK->Prop:=fun x vs H Q=>∃ sep p ss,x=.str sep/\vs=[.ref p]/\H p=some (.lst (List.map V.str ss))/\(ss.map (·.length)).sum+ss.length*sep.length<=16777216/\Q (.str (Txt.join sep ss)) H
theorem Pf:JC X "str.join" rJoin:=by
 intro pins s σ H x vs v us Q I rx rv h
 obtain⟨sep,p,ss,rfl,rfl,hp,hz,q⟩:=h
 obtain⟨t,rfl⟩:=rx
 obtain⟨u,rfl,ru⟩:=rv.one
 cases ru
 obtain⟨its,r,pl,_⟩:=I.list (rR.of hp)
 exact join_list pl.isList (by simpa using yM r) hz fun t' k=>⟨.str _,H,I.tok _,⟨_,rfl⟩,q⟩
noncomputable def Y6 (K:PySem.W.Frag)(c:V):List V->Hp->VK->Prop:=fun vs H Q=>∃ x t u b,vs=[x,c]/\xK K H x t/\RelV c u/\PySem.W.kitOne K t u=some b/\Q (.bl b) H
theorem RelV.ZI {c:V}{u u':Value}(hc:match c with | .ref _=>True | .ty _=>True | _=>False)(r:RelV c u)(r':RelV c u'):u=u':=by
 cases c with
 | ref a=>cases r;cases r';rfl
 | ty n=>cases r;cases r';rfl
 | _=>exact hc.elim
theorem NQ {c:V}(hc:match c with | .ref _=>True | .ty _=>True | _=>False):jk X (.builtin "isinstance") (Y6 X.K c):=by
 intro pins s σ H xs us Q I r h
 obtain⟨x,t,u,b,rfl,ty,rc,hb,q⟩:=h
 obtain⟨w1,w2,rfl,rx,r2⟩:=vals2 r
 rw[RelV.ZI hc r2 rc]
 exact Ku I rx ty hb fun tk=>⟨.bl b,H,I.tok _,rfl,q⟩
noncomputable def VM (K:PySem.W.Frag):R2:=fun x y H Q=>∃ a b xs ys,x=.ref a/\y=.ref b/\vo K H a xs/\vo K H b ys/\xs.length+ys.length<=sizeLine /\
 (xs=[]->Q (.ref b) H)/\(xs≠[]->ys=[]->Q (.ref a) H)/\(xs≠[]->ys≠[]->∀ p,H p=none->Q (.ref p) (upd H p (.tup (xs++ys))))
theorem O8:qF X (binaryOp .Add) (VM X.K):=by
 intro pins s σ H x y v u Q I rx ry h
 obtain⟨a,b,xs,ys,rfl,rfl,ha,hb,hz,q0,q1,q2⟩:=h
 by_cases hx:xs=[]
 ·cases rx
  cases ry
  obtain⟨its,r1,p1,_⟩:=I.tuple ha
  obtain⟨its2,r2,p2,_⟩:=I.tuple hb
  obtain⟨⟨cls,dd,data,sl⟩,ho,hc,n,hd⟩:=id p1
  obtain⟨⟨a0V,dd2,data2,sl2⟩,ho2,hc2,n2,hd2⟩:=id p2
  simp only at hc hd hc2 hd2
  subst hc hd hc2 hd2
  have hi:its=[]:=r1.fX.mpr hx
  refine concat_meets ⟨_,ho,rfl⟩ ⟨_,ho2,rfl⟩ noFill_tuple_add seq_tuple_add PySem.F.slot_tuple_add PySem.F.entry_tuple_add (PySem.F.args_tuple_add_2 _ _)
   (tuple_addW0 a b its.toArray its2.toArray n n2 dd dd2 sl sl2 (by simp[hi])) ⟨ho,ho2,?_⟩
  exact⟨.ref b,H,I,rfl,q0 hx⟩
 ·exact O9 pins s σ H _ _ v u Q I rx ry ⟨a,b,xs,ys,rfl,rfl,ha,hb,hx,hz,q1 hx,fun hy=>q2 hx hy⟩
noncomputable def Y5 (K:PySem.W.Frag):R2:=fun x y H Q=>∃ p xs k v,x=.ref p/\y=.int (k:Nat)/\rR K H p xs/\xs[k]?=some v/\Q v H
theorem Nr:XJ X (Y5 X.K):=by
 intro pins s σ H o i ov iv Q I ro ri h
 obtain⟨p,xs,k,v,rfl,rfl,hq,he,q⟩:=h
 cases ro
 obtain⟨t,rfl⟩:=ri
 obtain⟨its,r,pl,hz⟩:=I.list hq
 obtain⟨w,ew,rw'⟩:=r.get he
 have hk:k < xs.length:=(List.getElem?_eq_some_iff.mp he).1
 have hn:=uQ
 exact wpAny_getItem_list pl.isList (by omega) (by omega) (by simpa using ew) ⟨v,H,I,rw',q⟩
end
end L2
namespace Hw
open PySem L2
end Hw
namespace Hw
open PySem L2
noncomputable def Dn (P:Program)(w:World)(K:PySem.W.Frag)(mg:Str->Option Value)(base:Heap)(k:Nat)(x:Str)(ps:List Str)(sp:Sp):Prop :=
 ∃ (f:Addr) (fd:FuncData),aU P w K mg base dG k f fd ps sp/\mg x=some (.ref f)/\PySem.W.keepIn K (.ref f)=true/\Binds K fd ps []
noncomputable def Mt (P:Program)(w:World)(K:PySem.W.Frag)(mg:Str->Option Value)(base:Heap)(k:Nat)(C:Addr)(m:Str)(ps:List Str)(sp:Sp):Prop :=
 ∃ (f:Addr) (fd:FuncData),aU P w K mg base dG k f fd ps sp/\Meth K C m f/\Binds K fd ps []
noncomputable def Mr (P:Program)(w:World)(K:PySem.W.Frag)(mg:Str->Option Value)(base:Heap)(k:Nat)(C:Addr)(ps:List Str)(sp:Sp):Prop :=
 ∃ (f:Addr) (fd:FuncData),aU P w K mg base dG k f fd ps sp/\Mk K C f/\Binds K fd ps []
end Hw
namespace Hw
open PySem L2
theorem line (n:Nat)(h:n<=100000):n < sizeLine:=by rw[sizeLine_eq];omega
theorem szl (n:Nat)(h:n<=100000:=by decide):n<=sizeLine:=Nat.le_of_lt (line n h)
end Hw
namespace L2
open PySem PySem.Spec PyProof.Rows
section
variable {X:Cx}{K:PySem.W.Frag}
noncomputable def strsOf:List Expr->Option (List Str)
 | []=>some []
 | .Constant (.str x) _ _::r=>(strsOf r).map (x::·)
 | _=>none
noncomputable def Ql (xs:List Str):TA:=fun _ H Q=>Q (xs.map V.str) H
theorem I9:∀ {es:List Expr} {xs:List Str},strsOf es=some xs->PA X es (Ql xs)
 | [],xs,h=>by
  cases h
  exact MJ
 | e::r,xs,h=>by
  unfold strsOf at h
  split at h
  ·rename_i he;cases he
  ·rename_i x j pos r' he
   cases he
   cases q:strsOf r with
   | none=>rw[q] at h;cases h
   | some ys =>
    rw[q] at h
    cases h
    have ih:=I9 q
    exact Ja MA ih rfl
  ·cases h
noncomputable def QM:Expr->Option (List Str)
 | .List es _=>strsOf es
 | _=>none
theorem OV {xs:List Str}:∀ {e:Expr},QM e=some xs->PE X e (Vm (Ql xs)):=by
 intro e h
 cases e<;>first|exact GX (I9 h)|exact (Option.some_ne_none _ h.symm).elim
end
end L2
namespace Hw
open PySem L2
noncomputable def II (K:PySem.W.Frag):Sp:=fun vs H Q _=>∃ (a:Addr) (ns:List Int),vs=[.ref a]/\rR K H a (ns.map V.int)/\ns.length<=63/\∀ H',Q (.bl true) H'
end Hw
namespace Hw
open PySem L2
end Hw
namespace L2
open PySem PySem.Spec PyProof.Rows
section
variable {X:Cx}{K:PySem.W.Frag}
noncomputable def Y0:V->Option Int->Option Int->Hp->VK->Prop:=fun x lo hi H Q=>∃ z,x=.str z/\z.length<=sizeLine/\Q (.str (Txt.slice z lo hi)) H
theorem RT:P7 X Y0:=by
 intro pins s σ H x v vl vu lo hi sl Q I rx hs pl pu h
 obtain⟨z,rfl,hz,q⟩:=h
 obtain⟨t,rfl⟩:=rx
 have fin:(Txt.slice z lo hi).length<=sizeLine/\∀ t' k,EP X pins σ Q (.str (Txt.slice z lo hi) t') { s with toks:=k }:=⟨Nat.le_trans (Txt.slice_le z _ _) hz,fun t' k=>⟨.str _,H,I.tok _,⟨_,rfl⟩,q⟩⟩
 refine⟨"str",_,PySem.F.slot_str_getitem.lookup,typeIs_str _ _ _,?_⟩
 cases pl with
 | none=>cases pu with
  | none=>exact wpAny_getItem_str_slice (l:=none) (u:=none) (st:=none) hs rfl (post_val_or_str fin)
  | int j t'=>exact wpAny_getItem_str_slice (l:=none) (u:=some (j,t')) (st:=none) hs rfl (post_val_or_str fin)
 | int i ti=>cases pu with
  | none=>exact wpAny_getItem_str_slice (l:=some (i,ti)) (u:=none) (st:=none) hs rfl (post_val_or_str fin)
  | int j t'=>exact wpAny_getItem_str_slice (l:=some (i,ti)) (u:=some (j,t')) (st:=none) hs rfl (post_val_or_str fin)
noncomputable def R8 (K:PySem.W.Frag):R2:=fun x y H Q=>∃ a b xs,x=.ref a/\y=.ref b/\vo K H a xs/\vo K H b []/\Q (.bl (decide (xs=[]))) H
theorem MO (hu:X.A.units < cLine):qF X (compareOp .Eq) (R8 X.K):=by
 intro pins s σ H x y v u Q I rx ry h
 obtain⟨a,b,xs,rfl,rfl,ha,hb,q⟩:=h
 cases rx
 cases ry
 obtain⟨us,r1,p1,_⟩:=I.tuple ha
 obtain⟨vs,r2,p2,_⟩:=I.tuple hb
 cases r2
 refine SeqAt.eq_tupleAt (e:=fun _=>true) (show s.heap.IsTuple a us.toArray from p1) (show s.heap.IsTuple b ([]:List Value).toArray from p2) hu (fun j h1 h2=>absurd h2 (by simp)) ?_
 have e:((List.range (min us.toArray.size ([]:List Value).toArray.size)).all (fun _=>true) && us.toArray.size == ([]:List Value).toArray.size)=decide (xs=[]):=by
  have l:=r1.length
  rw[rN,Bool.true_and]
  by_cases hx:xs=[]
  ·subst hx
   cases r1
   simp
  ·rw[decide_eq_false hx]
   have:us≠[]:=fun z=>hx (by rw[z] at l;exact List.length_eq_zero_iff.mp l)
   cases us with
   | nil=>exact absurd rfl this
   | cons _ _=>simp
 rw[e]
 exact⟨.bl _,H,I,rfl,q⟩
noncomputable abbrev TJ:=St->Hp->Str->(Str->Hp->Prop)->Prop
noncomputable def PJ (X:Cx)(es:List Expr)(t:TJ):Prop :=
 ∀ (pins:List (Addr×Obj)) (s:Shared) (σ:St) (H:Hp) (acc:Str) (Q:Str->Hp->Prop),Inv X pins σ H s->t σ H acc Q ->
  wpAny (model X.prog X.w) X.A (joinParts acc (evalEach es X.env)) (EP X pins σ fun v H'=>∃ x,v=.str x/\Q x H') X.xe s
noncomputable def ZG:TJ:=fun _ H acc Q=>acc.length<=sizeLine/\Q acc H
noncomputable def ZF (c:Str)(t:TJ):TJ:=fun σ H acc Q=>(acc++c).length<=sizeLine/\t σ H (acc++c) Q
noncomputable def ZE (te:TE)(t:TJ):TJ:=fun σ H acc Q=>te σ H fun x H1=>(∃ i,x=.int i/\i.natAbs.log2 < 1920/\(acc++(toString i:Str)).length<=sizeLine/\t σ H1 (acc++(toString i:Str)) Q)∨(∃ y,x=.str y/\y.length<=sizeLine/\(acc++y).length<=sizeLine/\t σ H1 (acc++y) Q)
theorem Sx:PJ X [] ZG:=by
 intro pins s σ H acc Q I h
 exact joinParts_nil ⟨.str acc,H,I.tok _,⟨_,rfl⟩,acc,rfl,h.2⟩ h.1
theorem Sw {c:Str}{j:Nat}{pos:Pos}{es:List Expr}{t:TJ}(h:PJ X es t):PJ X (.Constant (.str c) j pos::es) (ZF c t):=by
 intro pins s σ H acc Q I hw
 show wpAny _ _ (joinParts acc (eval (.Constant (.str c) j pos) X.env::evalEach es X.env)) _ _ s
 refine joinParts_cons (Calls.Constant_str ⟨hw.1,?_⟩)
 exact h pins _ σ H (acc++c) Q (I.tok _) hw.2
theorem Sv {e:Expr}{pos:Pos}{es:List Expr}{te:TE}{t:TJ}(he:PE X e te)(h:PJ X es t):PJ X (.FormattedValue e (-1) none pos::es) (ZE te t):=by
 intro pins s σ H acc Q I hw
 show wpAny _ _ (joinParts acc (eval (.FormattedValue e (-1) none pos) X.env::evalEach es X.env)) _ _ s
 refine joinParts_cons (FormattedValue_plain (gm (he pins s σ H _ I hw) fun v s1 ⟨x,H1,I1,r1,q1⟩=>?_))
 rcases q1 with ⟨i,rfl,hl,hz,q⟩ | ⟨y,rfl,hy,hz,q⟩
 ·obtain⟨t',rfl⟩:=r1
  exact formatField_int_small hl ⟨hz,h pins _ σ H1 _ Q (I1.tok _) q⟩
 ·obtain⟨t',rfl⟩:=r1
  exact formatField_str (fun t'' tk=>⟨hz,h pins _ σ H1 _ Q (I1.tok _) q⟩) hy
noncomputable def tFs (t:TJ):TE:=fun σ H Q=>t σ H Str.empty fun x H'=>Q (.str x) H'
theorem OZ {v1 v2:Expr}{rest:List Expr}{pos:Pos}{t:TJ}(h:PJ X (v1::v2::rest) t):PE X (.JoinedStr (v1::v2::rest) pos) (tFs t):=by
 intro pins s σ H Q I hw
 refine JoinedStr_many (gm (h pins s σ H Str.empty _ I hw) fun u s1 ⟨v,H',I',r,x,ev,q⟩=>?_)
 subst ev
 exact⟨.str x,H',I',r,q⟩
end
end L2
namespace HT
open PySem PySem.Spec PyProof.Rows
section
variable {prog:Program}{w:World}{A:Around}{E:Value->Shared->Prop}{s:Shared}
end
end HT
namespace L2
open PySem PySem.Spec PyProof.Rows
section
variable {X:Cx}{K:PySem.W.Frag}
end
end L2
namespace L2
open PySem PySem.Spec PyProof.Rows
section
variable {X:Cx}{K:PySem.W.Frag}
variable {o e:Expr}{to:TE}{apos cpos:Pos}
theorem HF (l b:Addr)(xs ys:Array Value)(n m:Nat)(dd:Option Addr)(sl:Array (Option Value))(h0:¬ (!xs.isEmpty && Builtin.List.listTooLong (xs.size+ys.size))=true)(h1:xs.size<=sizeLine)(h2:xs.size+ys.size<=sizeLine+1) :
  Meets (Builtin.«list.extend» ⟨[.ref l,.ref b],[]⟩) (fun _ R s=>s.heap.get? l=some ⟨.type "list",none,.seq xs n,#[]⟩/\s.heap.get? b=some ⟨.type "tuple",dd,.seq ys m,sl⟩ /\
   R (.ok (.ret Value.none)) { s with heap:=s.heap.update l (Obj.mapSeq fun x=>x++ys),toks:=s.toks }) :=
 .of_wp fun prog w A R s h=>by
  obtain⟨hp,g,d,tk,os⟩:=s
  obtain⟨hl,hb,h⟩:=h
  have q1:=PySem.AutoSeq1.idx_int
  have q2:=PySem.AutoSeq1.sub_tuple_tuple
  have q3:=PySem.AutoSeq1.sub_list_list
  have q4:=PySem.AutoSeq1.sub_tuple_list
  have q5:=PySem.AutoSeq1.sub_list_tuple
  have z:(xs++ys).size<=sizeLine+1:=by
   rw[Array.size_append]
   exact h2
  wp_walk using(wpAny_updateSeq hl rfl (hz:=h1) (_hz':=z)),PySem.AutoSeq1.wpAny_loadPart' hl,PySem.AutoSeq1.wpAny_loadPart' hb
  exact⟨_,rfl,h⟩
noncomputable def Ml (K:PySem.W.Frag):V->List V->Hp->VK->Prop:=fun x vs H Q=>∃ l b xs zs,x=.ref l/\vs=[.ref b]/\H l=some (.lst xs)/\vo K H b zs/\xs.length+zs.length<=sizeLine/\Q .fE (upd H l (.lst (xs++zs)))
theorem Hg:MtM X "list.extend" (Ml X.K):=by
 intro pins s σ H x vs v us Q I rx rv h
 obtain⟨l,b,xs,zs,rfl,rfl,hH,hB,hz,q⟩:=h
 cases rx
 obtain⟨u,rfl,ru⟩:=rv.one
 cases ru
 obtain⟨z,its,n,r,hl,e⟩:=I.Hq hH
 obtain⟨its2,r2,p2,z2⟩:=I.tuple hB
 have hl2:=r2.length
 have hsz:its.toArray.size+its2.toArray.size<=sizeLine:=by rw[List.size_toArray,List.size_toArray];omega
 have Fo:¬ (!its.toArray.isEmpty && Builtin.List.listTooLong (its.toArray.size+its2.toArray.size))=true:=by
  rw[AR hsz,Bool.and_false]
  exact Bool.false_ne_true
 have go:∀ n2 dd sl,s.heap.get? b=some { cls:=.type "tuple",dict:=dd,data:=.seq its2.toArray n2,slots:=sl }->wpAny (model X.prog X.w) X.A (call (.builtin "list.extend") [.ref l,.ref b]) (EP X pins σ Q) X.xe s:=fun n2 dd sl e2=>by
  refine call_meets F.slot_list_extend ⟨_,e,rfl⟩ F.entry_list_extend (F.args_list_extend_2 _ _)
   (HF l b its.toArray its2.toArray n n2 dd sl Fo (by rw[List.size_toArray];omega) (by omega)) ⟨e,e2,?_⟩
  refine⟨.fE,_,I.Td (its':=its++its2) hH e (by simp) (r.append r2) ?_,rfl,q⟩
  rw[List.length_append]
  omega
 obtain⟨⟨cls,dd,data,sl⟩,ho,hc,n2,hd⟩:=id p2
 simp only at hc hd
 subst hc hd
 exact go n2 dd sl ho
noncomputable def R6 (K:PySem.W.Frag):R2:=fun x y H Q=>∃ a b xs,x=.ref a/\y=.ref b/\rR K H a xs/\rR K H b []/\Q (.bl (!decide (xs=[]))) H
theorem MN (hu:X.A.units < cLine):qF X (compareOp .NotEq) (R6 X.K):=by
 intro pins s σ H x y v u Q I rx ry h
 obtain⟨a,b,xs,rfl,rfl,ha,hb,q⟩:=h
 cases rx
 cases ry
 obtain⟨us,r1,p1,_⟩:=I.list ha
 obtain⟨vs,r2,p2,_⟩:=I.list hb
 cases r2
 have l1:=r1.length
 by_cases hx:xs=[]
 ·rw[decide_eq_true hx] at q
  subst hx
  cases r1
  exact SeqAt.RcNeAt.lists (A:=X.A) (e:=fun _=>true) p1.isList p2.isList rfl hu (fun j h1 h2=>absurd h2 (by simp)) _ _ _ _ ⟨.bl false,H,I,rfl,q⟩
 ·rw[decide_eq_false hx] at q
  have:us≠[]:=fun z=>hx (by rw[z] at l1;exact List.length_eq_zero_iff.mp l1)
  refine SeqAt.RcNeAt.lists_lengths (A:=X.A) p1.isList p2.isList ?_ hu _ _ _ _ ⟨.bl true,H,I,rfl,q⟩
  cases us with
  | nil=>exact absurd rfl this
  | cons _ _=>simp
end
end L2
namespace L2
open PySem PySem.Spec PyProof.Rows
section
variable {X:Cx}{e:Expr}{te:TE}
end
end L2
namespace Hw
open PySem L2
noncomputable def UA:Str:="abcdefghijklmnopqrstuvwxyz"
theorem P4:UA.cps.toList=(List.range 26).map (97+·):=by decide +kernel
theorem sS:UA.length<=sizeLine:=Nat.le_of_lt (line _ (by decide +kernel))
theorem NV {r:Nat}(h:r < 26):qp UA.cps.toList (r:Int)=some (97+r):=xE (by rw[P4,List.getElem?_map,List.getElem?_range h];rfl)
theorem xJ (i:Int):qp UA.cps.toList (i % 26)=some (97+(i % 26).toNat):=by
 have h0:=Int.emod_nonneg i (show(26:Int)≠0 by decide)
 have h1:=Int.emod_lt_of_pos i (show(0:Int) < 26 by decide)
 have e:i % 26=((i % 26).toNat:Int):=(Int.toNat_of_nonneg h0).symm
 have:=NV (r:=(i % 26).toNat) (by omega)
 rw[<- e] at this
 exact this
noncomputable def uA:List Str:=["lets","ifs","order","rows","att","notes","calls","ends","outlet","bend","motor","modes"]
theorem Kq:uA.length=12:=rfl
noncomputable abbrev Xx (c:Nat):Str:=⟨#[c]⟩
noncomputable def zw (a b:Nat):Str:=(("z":Str)++Xx a)++Xx b
theorem sR (a b:Str):(a++b).cps.toList=a.cps.toList++b.cps.toList:=PySem.W.KT.app_list a b
theorem xF (a b:Str):(a++b).length=a.length+b.length:=by
 have h:∀ x:Str,x.length=x.cps.toList.length:=fun x=>by simp[Str.length]
 rw[h,h,h,sR,List.length_append]
theorem C6 (a b:Nat):(zw a b).cps.toList=[122,a,b]:=by
 unfold zw
 rw[sR,sR]
 rfl
theorem Rj (a b:Nat):(zw a b).length=3:=by
 unfold zw
 rw[xF,xF]
 rfl
noncomputable def zt (k:Int)(t:Nat):Str:=zw (97+((t:Int) % 26).toNat) (97+((k+t) % 26).toNat)
theorem Rk {k:Int}{s t:Nat}(hs:s < 26)(ht:t < 26)(h:zt k s=zt k t):s=t:=by
 have e:(zt k s).cps.toList=(zt k t).cps.toList:=by rw[h]
 unfold zt at e
 rw[C6,C6] at e
 have:=(List.cons.inj (List.cons.inj e).2).1
 omega
theorem Mx:∀ (n:Nat) (f:Nat->Str) (xs:List Str),(∀ s,s < n->f s∈xs)->(∀ s t,s < n->t < n->f s=f t->s=t)->n<=xs.length
 | 0,_,_,_,_=>Nat.zero_le _
 | n+1,f,xs,h,inj=>by
  have m:=h n (Nat.lt_succ_self n)
  have ih:=Mx n f (xs.erase (f n)) (fun s hs=>by
   have ne:f s≠f n:=fun e=>Nat.ne_of_lt hs (inj s n (Nat.lt_succ_of_lt hs) (Nat.lt_succ_self n) e)
   exact(List.mem_erase_of_ne ne).mpr (h s (Nat.lt_succ_of_lt hs))) fun s t hs ht=>inj s t (Nat.lt_succ_of_lt hs) (Nat.lt_succ_of_lt ht)
  rw[List.length_erase_of_mem m] at ih
  have:0 < xs.length:=List.length_pos_of_mem m
  omega
theorem Lw {k:Int}{xs:List Str}{n:Nat}(hn:n<=20)(h:∀ s,s < n->zt k (s+1)∈xs):n<=xs.length :=
 Mx n (fun s=>zt k (s+1)) xs h fun s t hs ht e=>by have:=Rk (by omega) (by omega) e;omega
theorem qe (w:Str)(xs:List Str):Pq (.str w) (xs.map V.str)=decide (w∈xs):=by
 unfold Pq
 rw[List.any_map]
 by_cases h:w∈xs
 ·rw[decide_eq_true h,List.any_eq_true]
  exact⟨w,h,by simp[Gv]⟩
 ·rw[decide_eq_false h,List.any_eq_false]
  intro y hy
  simp only[Function.comp,Gv,beq_iff_eq]
  intro e
  exact h (e ▸ hy)
theorem Ng (ss:List Str)(h:∀ a∈ss,a.length=1):(Txt.join (Str.ofString "") ss).length=ss.length:=PySem.W.KT.join_ones ss h
theorem Ey:∀ ss:List Str,(∀ a∈ss,a.length=1)->(ss.map (·.length)).sum=ss.length
 | [],_=>rfl
 | a::r,h=>by
  rw[List.map_cons,List.sum_cons,Ey r fun b hb=>h b (List.mem_cons_of_mem _ hb),List.length_cons,h a (List.mem_cons_self ..)]
  omega
end Hw
namespace Hw
open PySem L2
end Hw
namespace Hw
open PySem L2
noncomputable abbrev cp (x:Str):List Nat:=x.cps.toList
theorem ql {a b:Str}(h:cp a=cp b):a=b:=PyProof.Rows.ext_toList h
theorem rH (x:Str):x.length=(cp x).length:=by simp[Str.length]
theorem Jr:∀ ss:List Str,cp (Str.join (Str.ofString "") ss)=(ss.map cp).flatten
 | []=>rfl
 | [x]=>by simp[Str.join]
 | x::y::r=>by
  show cp (x++Str.ofString ""++Str.join (Str.ofString "") (y::r))=_
  rw[cp,sR,sR]
  have ih:=Jr (y::r)
  rw[show(Str.join (Str.ofString "") (y::r)).cps.toList=cp (Str.join (Str.ofString "") (y::r)) from rfl,ih]
  have z:(Str.ofString "").cps.toList=[]:=by decide
  rw[z,List.append_nil]
  rfl
theorem A9 (ss:List Str):cp (Txt.join (Str.ofString "") ss)=(ss.map cp).flatten:=by
 show cp (Builtin.Str.glued (Str.ofString "") ss)=_
 rw[StrLaws.glued_eq_join]
 exact Jr ss
noncomputable def Bg (i:Int):Int:=if i < 0 then -i else i
theorem FT (i:Int):(Bg i).natAbs=i.natAbs:=by unfold Bg;split <;> omega
noncomputable def Small (i:Int):Prop:=-(2 ^ 60) < i/\i < 2 ^ 60
theorem Small.log {i:Int}(h:Small i):(Bg i).natAbs.log2 < 1920:=by
 rw[FT]
 have hn:i.natAbs < 2 ^ 64:=by have:=h.1;have:=h.2;omega
 by_cases h0:i.natAbs=0
 ·rw[h0];decide
 ·exact Nat.lt_of_lt_of_le ((Nat.log2_lt h0).mpr hn) (by decide)
theorem Small.Zi {i:Int}(h:Small i):(Bg i).natAbs.log2 < 64:=by
 rw[FT]
 have hn:i.natAbs < 2 ^ 64:=by have:=h.1;have:=h.2;omega
 by_cases h0:i.natAbs=0
 ·rw[h0];decide
 ·exact(Nat.log2_lt h0).mpr hn
noncomputable def qc (i:Int):Str:=Str.ofString (toString (Bg i))
theorem qZ {i:Int}(h:Small i):(qc i).length<=65:=by
 unfold qc
 rw[ofString_length]
 exact int_text_length_le (k:=64) (by decide) h.Zi
noncomputable def iw (t:Str)(w:Int):Str:=if Bg w=1 then t else (qc w++Str.ofString "*")++t
theorem CF {t:Str}{w:Int}(h:Small w):(iw t w).length<=t.length+66:=by
 unfold iw
 split
 ·omega
 ·rw[xF,xF]
  have:=qZ h
  have z:(Str.ofString "*").length=1:=by decide
  omega
noncomputable def k6 (w:Int):Str:=if w < 0 then Str.ofString " - " else Str.ofString " + "
theorem mW (w:Int):(k6 w).length=3:=by unfold k6;split <;> decide
theorem Dl (w:Int):(cp (k6 w)).length=3:=by rw[<- rH];exact mW w
noncomputable abbrev Qs:=List (Int×Str)
noncomputable def eZ (ts:Ps)(n:Int):Qs:=(ts.map fun p=>(p.2,iw p.1 p.2))++if n≠0∨ts=[] then [(n,qc n)] else []
theorem JR (ts:Ps)(n:Int):eZ ts n≠[]:=by
 unfold eZ
 cases ts with
 | nil=>simp
 | cons p r=>simp
noncomputable def iQ (ps:Qs):List Nat:=(ps.map fun p=>cp (k6 p.1)++cp p.2).flatten
noncomputable def G0:Qs->List Nat
 | []=>[]
 | p::r=>(if p.1 < 0 then [45] else [])++cp p.2++iQ r
theorem Nv (p:Int×Str)(r:Qs):(iQ (p::r)).take 3=cp (k6 p.1)/\G0 (p::r)=(if p.1 < 0 then [45] else [])++(iQ (p::r)).drop 3:=by
 have e:iQ (p::r)=cp (k6 p.1)++(cp p.2++iQ r):=by
  unfold iQ
  rw[List.map_cons,List.flatten_cons,List.append_assoc]
 have l:=Dl p.1
 constructor
 ·rw[e,List.take_append_of_le_length (by omega),List.take_of_length_le (by omega)]
 ·rw[e,List.drop_append_of_le_length (by omega),List.drop_of_length_le (by omega),List.nil_append,G0,List.append_assoc]
theorem zM {w:Int}:k6 w=Str.ofString " - "↔w < 0:=by
 unfold k6
 constructor
 ·intro h
  by_cases hw:w < 0
  ·exact hw
  ·rw[if_neg hw] at h
   exact absurd h (by decide +kernel)
 ·intro h
  rw[if_pos h]
theorem Me {x:Str}(h:3<=x.length):cp (Txt.slice x none (some 3))=(cp x).take 3:=by
 have:=StrLaws.sliceText_to (x:=x) (j:=3) ⟨by decide,by rw[rH] at h;have h:3<=x.cps.toList.length:=h;omega⟩
 have e:Txt.slice x none (some 3)=StrLaws.sliceText x none (some 3):=rfl
 rw[e,this]
 simp
theorem Aj {x:Str}(h:3<=x.length):cp (Txt.slice x (some 3) none)=(cp x).drop 3:=by
 have:=StrLaws.sliceText_from (x:=x) (i:=3) ⟨by decide,by rw[rH] at h;have h:3<=x.cps.toList.length:=h;omega⟩
 have e:Txt.slice x (some 3) none=StrLaws.sliceText x (some 3) none:=rfl
 rw[e,this]
 show(((cp x).drop 3).take _)=_
 rw[List.take_of_length_le]
 rw[List.length_drop]
 show x.cps.toList.length - 3<=_
 omega
noncomputable def Short (ts:Ps):Prop:=ts.length<=20/\∀ p∈ts,Small p.2/\p.1.length<=100
end Hw
namespace Hw
open PySem L2
section
variable {C:Addr}{H H':Hp}{tl pq q0 q1 hq du u0 u1 sl sa sb:Addr}{xs:List Str}{ps0 t0 t1:Ps}{h0 h1:Int}
end
end Hw
namespace Hw
open PySem L2
theorem n9 (ts:Ps)(n:Int):∃ q r,eZ ts n=q::r:=by
 cases h:eZ ts n with
 | nil=>exact absurd h (JR ts n)
 | cons a b=>exact⟨a,b,rfl⟩
theorem mF {ts:Ps}{n:Int}(h:Short ts)(hn:Small n):∀ q∈eZ ts n,q.2.length<=166:=fun q hq=>by
 unfold eZ at hq
 rcases List.mem_append.mp hq with z | z
 ·obtain⟨p,hp,rfl⟩:=List.mem_map.mp z
  obtain⟨h1,h2⟩:=h.2 p hp
  have:=CF (t:=p.1) h1
  show(iw p.1 p.2).length<=166
  omega
 ·split at z
  ·rw[List.mem_singleton.mp z]
   have:=qZ hn
   show(qc n).length<=166
   omega
  ·cases z
theorem AG {ts:Ps}{n:Int}(h:Short ts):(eZ ts n).length<=21:=by
 unfold eZ
 rw[List.length_append,List.length_map]
 have:=h.1
 split
 ·simp;omega
 ·simp;omega
theorem A6 (r:Qs)(q:Int×Str):iQ (r++[q])=iQ r++(cp (k6 q.1)++cp q.2):=by
 unfold iQ
 rw[List.map_append,List.flatten_append]
 simp
end Hw
namespace Hw
open PySem L2
end Hw
namespace Hw
open PySem L2
section
variable {H H':Hp}{z:Addr}{o:HO}
end
section
variable {H0 H H':Hp}{d tl ro:Addr}{xs:List Str}{t0:Ps}{n0:Int}
end
end Hw
namespace Hw
open PySem L2
end Hw
namespace Hw
open PySem L2
end Hw
namespace L2
open PySem PySem.Spec PyProof.Rows Hw
section
variable {X:Cx}{k:Nat}{m:Str}{pos apos:Pos}{o e:Expr}{es:List Expr}{ta:TE}{t:TA}{Z:Cz}{ps:List Str}{sp:Nat->Sp}
end
end L2
namespace Hw
open PySem L2
end Hw
namespace Hw
open PySem L2
end Hw
namespace L2
open PySem PySem.Spec PyProof.Rows Hw
section
variable {X:Cx}{K:PySem.W.Frag}
end
end L2
namespace Hw
open PySem L2
end Hw
namespace Hw
open PySem L2
end Hw
namespace Hw
open PySem L2
end Hw
namespace Hw
open PySem L2
end Hw
namespace Hw
open PySem L2
end Hw
namespace L2
open PySem PySem.Spec PyProof.Rows Hw
section
variable {X:Cx}{x:Str}{D:Addr}{kvs:List (Key×V)}{i:Expr}{ty:TE}{p pos:Pos}
end
end L2
namespace Hw
open PySem L2
end Hw
namespace Hw
open PySem L2
end Hw
namespace L2
open PySem PySem.Spec PyProof.Rows Hw
section
variable {X:Cx}
end
end L2
namespace Hw
open PySem L2
end Hw
namespace Hw
open PySem L2
end Hw
namespace Hw
open PySem L2
end Hw
namespace Hw
open PySem L2
end Hw
namespace Hw
open PySem L2
end Hw
namespace L2
open PySem PySem.Spec PyProof.Rows Hw
section
variable {X:Cx}
noncomputable def OC (K:PySem.W.Frag):R2:=fun x y H Q=>∃ a b xs,x=.ref a/\y=.ref b/\rR K H a xs/\rR K H b []/\Q (.bl (decide (xs=[]))) H
theorem JU (hu:X.A.units < cLine):qF X (compareOp .Eq) (OC X.K):=by
 intro pins s σ H x y v u Q I rx ry h
 obtain⟨a,b,xs,rfl,rfl,ha,hb,q⟩:=h
 cases rx
 cases ry
 obtain⟨us,r1,p1,_⟩:=I.list ha
 obtain⟨vs,r2,p2,_⟩:=I.list hb
 cases r2
 have l1:=r1.length
 by_cases hx:xs=[]
 ·rw[decide_eq_true hx] at q
  subst hx
  cases r1
  exact SeqAt.RcAt.lists (A:=X.A) (e:=fun _=>true) p1.isList p2.isList rfl hu (fun j h1 h2=>absurd h2 (by simp)) _ _ _ _ ⟨.bl true,H,I,rfl,q⟩
 ·rw[decide_eq_false hx] at q
  have:us≠[]:=fun z=>hx (by rw[z] at l1;exact List.length_eq_zero_iff.mp l1)
  refine SeqAt.RcAt.lists_lengths (A:=X.A) p1.isList p2.isList ?_ hu _ _ _ _ ⟨.bl false,H,I,rfl,q⟩
  cases us with
  | nil=>exact absurd rfl this
  | cons _ _=>simp
end
end L2
namespace Hw
open PySem L2
end Hw
namespace Hw
open PySem L2
end Hw
namespace Hw
open PySem L2
end Hw
namespace Hw
open PySem L2
section
variable {Z:Cz}{H0 H H':Hp}{d tl sd hd p pf:Addr}{xs:List Str}{vt:V}{c c':Cd}{kvs kh:List (Key×V)}{S:Sb}
end
end Hw
namespace PySem
section
variable {prog:Program}{w:World}{A:Around}{E:Value->Shared->Prop}{h:Heap}{g:Array GenState}{d:Drawn}{t:Nat}{os:OsState}
variable {nm q:Str}{C N:Addr}{bs bm:List Value}{hdct:Bool}{sn:List Str}{sub:List Value}{ab:Bool}{col:Option Bool}{dd:Option Addr}{k0 k1 k2 k3 k5:Option Value}
end
end PySem
namespace PySem
section
variable {M:Model}{A:Around}{E:Value->Shared->Prop}{s:Shared}{base:Heap}{env:Env}{outer:List Env}{L a C:Addr}{oe:Obj}{vs:Array Value}
end
end PySem
namespace L2
open PySem PySem.Spec PyProof.Rows
section
variable {P:Program}{w:World}{K:PySem.W.Frag}{mg:Str->Option Value}{base:Heap}{N:List Str}{qual:Str}{scope:Scope}{f C:Addr}{cd:Value}{A:Around}{outer:List Env}{s:Shared}{H:Hp}{E:XK}
end
end L2
namespace L2
open PySem PySem.Spec PyProof.Rows
section
variable {X:Cx}{CX:JD}{k:Nat}{f C D fI:Addr}{fd:FuncData}{ps:List Str}{sp:Sp}{E:XK}{x m:Str}{p pos apos:Pos}{e o:Expr}{es:List Expr}{t:TA}{bm:List Value}
noncomputable def Vr (sp:Sp)(E:XK)(to:TE)(t:TA):TE:=fun σ H Q=>to σ H fun _ H1=>t σ H1 fun vs H2=>sp (vs++[]) H2 Q E
theorem O3 {pl:Sem Bool}(hg:Gl X x)(hm:X.mg x=some (.ref D))(h1:PySem.W.specialIn X.K (.ref D) "__getattribute__"=some (some (.builtin "type.__getattribute__")))(h2:PySem.W.readsIn X.K D (.type "type")=true)
  (h3:PySem.W.findCls X.K (.ref D) (.type "type") m=some (.val (.ref f))) (h4:PySem.W.handedIn (.ref f)=true) (hk:PySem.W.keepIn X.K (.ref f)=true) (F:aU X.prog X.w X.K X.mg X.base CX k f fd ps sp) (hr:fZ k X.A) (hb:Binds X.K fd ps [])
  (hx:Passes CX X E) (ha:PA X (e::es) t) (hst:starEach (e::es) X.env=(false,eval e X.env)::starEach es X.env:=by rfl) (hpl:(backTo pos (starEach es X.env)).any (·.1)=false:=by rfl) (hdb:(x == ("__debug__":Str))=false:=by decide)
  (ht:eval (.Call (.Attribute (.Name x p) m apos) (e::es) [] pos) X.env=(do
   let ov <- eval (.Name x p) X.env
   standAt apos.atName
   let (f,first) <- holding [ov] (getMethod ov m pl)
   callWith pos f first (backTo pos (starEach (e::es) X.env)) (backToKw pos (keywordEach [] X.env))):=by rfl) :
  PE X (.Call (.Attribute (.Name x p) m apos) (e::es) [] pos) (Vr sp E (tC (.ref D)) t):=by
 intro pins s σ H Q I h
 refine PySem.W.methodCall_KW (pl:=pl) (wW I hg hm ?_ hdb) ht
 refine PySem.W.method_cls I.xQ h1 (PySem.W.cls_value I.xQ h2 h3 h4 ?_)
 have I1:=I.tok (s.toks+1)
 refine PySem.W.callWith_K (first:=[]) (h₀:=X.base) I.ok.mod.WR hk (gm (ha pos pins _ σ H _ I1 h) fun us s2 ⟨vs,H2,I2,r,q2⟩=>⟨I2.xQ,?_⟩) hst hpl
 exact DB F hr hb .nil hx I2 r q2
end
end L2
namespace L2
open PySem PySem.Spec PyProof.Rows
section
variable {X:Cx}{tg:Expr}
end
end L2
namespace PySem
open L2
section
variable {prog:Program}{w:World}{A:Around}{E:Value->Shared->Prop}{s:Shared}
end
end PySem
namespace PySem
open L2 PyProof.Rows
section
variable {prog:Program}{w:World}{A:Around}{R:Result->Shared->Prop}{I:Addr}{fp wr:List Addr}{G:Array GenState->Array GenState->Prop}{n:Nat}{P:Nat->Value->Prop}{St:Nat->Shared->Prop}
end
section
variable {prog:Program}{w:World}{A:Around}{E:Value->Shared->Prop}{s:Shared}
end
end PySem
namespace PySem
open L2 PyProof.Rows
namespace F
end F
section
variable {prog:Program}{w:World}{A:Around}{E:Value->Shared->Prop}{s:Shared}{I a tp:Addr}{i n ep:Nat}{es:Array (Int×Value)}{t:SetTable}
end
end PySem
namespace PySem
open L2 PyProof.Rows
section
variable {prog:Program}{w:World}{A:Around}{E:Value->Shared->Prop}{s:Shared}{I a tp:Addr}{i n ep:Nat}{es:Array (Int×Value)}{t:SetTable}
end
end PySem
namespace PySem
open L2 PyProof.Rows
section
variable {M:Model}{A:Around}{E:Value->Shared->Prop}{s:Shared}
end
section
variable {prog:Program}{w:World}{A:Around}{E:Value->Shared->Prop}{s:Shared}{I a tp:Addr}{i n ep:Nat}{es:Array (Int×Value)}{t:SetTable}
end
end PySem
namespace PySem
open L2 PyProof.Rows
section
variable {prog:Program}{w:World}{A:Around}{E:Value->Shared->Prop}{s:Shared}{I a tp:Addr}{i n ep:Nat}{es:Array (Int×Value)}{t:SetTable}
end
end PySem
namespace PySem
open L2 PyProof.Rows
section
variable {prog:Program}{w:World}{A:Around}{E:Value->Shared->Prop}{s:Shared}{a:Addr}
end
end PySem
namespace PySem
open L2 PyProof.Rows
section
variable {prog:Program}{w:World}{A:Around}{E:Value->Shared->Prop}{s:Shared}{a:Addr}{zs:List Str}
end
end PySem
namespace L2
open PySem PySem.Spec PyProof.Rows Hw
section
variable {X:Cx}
end
end L2
namespace Hw
open PySem L2
end Hw
namespace L2
open PySem PySem.Spec PyProof.Rows Hw
section
variable {X:Cx}
end
end L2
namespace Hw
open PySem L2
theorem ET {ys:List Str}(h:ys.Pairwise (fun a b=>lt b a=false))(n:ys.Nodup):ys.Pairwise (fun a b=>lt a b=true):=by
 unfold List.Nodup at n
 exact(h.and n).imp fun {a b} ⟨h1,h2⟩=>by
  rcases DS a b with z | z | z
  ·exact z
  ·exact absurd z h2
  ·rw[h1] at z;cases z
theorem xY:∀ {xs ys:List Str},xs.Pairwise (fun a b=>lt a b=true)->ys.Pairwise (fun a b=>lt a b=true)->(∀ x,x∈xs↔x∈ys)->xs=ys
 | [],[],_,_,_=>rfl
 | [],y::_,_,_,h=>absurd ((h y).mpr (List.mem_cons_self ..)) (fun z=>nomatch z)
 | x::_,[],_,_,h=>absurd ((h x).mp (List.mem_cons_self ..)) (fun z=>nomatch z)
 | x::xs,y::ys,p,q,h=>by
  obtain⟨px,p'⟩:=List.pairwise_cons.mp p
  obtain⟨qy,q'⟩:=List.pairwise_cons.mp q
  have e:x=y:=by
   rcases List.mem_cons.mp ((h x).mp (List.mem_cons_self ..)) with z | z
   ·exact z
   ·rcases List.mem_cons.mp ((h y).mpr (List.mem_cons_self ..)) with u | u
    ·exact u.symm
    ·have:=lt_trans (px y u) (qy x z)
     rw[yg] at this;cases this
  subst e
  have t:xs=ys:=xY p' q' fun z=>by
   constructor
   ·intro hz
    rcases List.mem_cons.mp ((h z).mp (List.mem_cons_of_mem _ hz)) with u | u
    ·subst u
     have:=px z hz
     rw[yg] at this;cases this
    ·exact u
   ·intro hz
    rcases List.mem_cons.mp ((h z).mpr (List.mem_cons_of_mem _ hz)) with u | u
    ·subst u
     have:=qy z hz
     rw[yg] at this;cases this
    ·exact u
  rw[t]
end Hw
namespace Hw
open PySem L2
end Hw
namespace Hw
open PySem L2
end Hw
namespace L2
open PySem PySem.Spec PyProof.Rows Hw
section
variable {X:Cx}
end
end L2
namespace Hw
open PySem L2
end Hw
namespace PySem.W
open PySem PySem.Spec PySem.Calls PyProof.Rows
section
variable {prog:Program}{w:World}{A:Around}{E:Value->Shared->Prop}{K:Frag}{x D:Addr}{ox:Obj}
end
end PySem.W
namespace L2
open PySem PySem.Spec PyProof.Rows
section
variable {X:Cx}{a C:Addr}{oe:Obj}
end
end L2
namespace PySem
section
variable {M:Model}{A:Around}{E:Value->Shared->Prop}
variable {nm q nm' q':Str}{C N W N':Addr}{bs bm bs' bm':List Value}{hdct a1Q:Bool}{sn sn':List Str}{sub sub':List Value}{ab ab':Bool}{col col':Option Bool}{dd Xp:Option Addr}{k0 k1 k2 k3 k5 j0 j1 j2 j3 j5:Option Value}{newId newId':String}
end
section
variable {M:Model}{A:Around}{E:Value->Shared->Prop}{s:Shared}{base:Heap}{env:Env}{outer:List Env}{L a C:Addr}{oe:Obj}{vs:Array Value}
end
end PySem
namespace L2
open PySem PySem.Spec PyProof.Rows
section
variable {X:Cx}{pn:List (Addr×Obj)}{xe:Value->Shared->Prop}{pins AE:List (Addr×Obj)}{σ:St}{H:Hp}{s:Shared}{a:Addr}
end
section
variable {X:Cx}{C W fI fW:Addr}{bm bmW:List Value}{xc n:Str}{i:Nat}{np hpos pos:Pos}{body:List Stmt}{b₀:Stmt}{suite:List Stmt}{tb:XK->TS}{ts:Addr->TS}
end
end L2
namespace Hw
open PySem L2
end Hw
namespace L2
open PySem PySem.Spec PyProof.Rows Hw
section
variable {X:Cx}{C:Addr}{k:Nat}{m:Str}{pos apos:Pos}{o:Expr}{ta:TE}{Z:Cz}{ps:List Str}{sp:Nat->Sp}{E:XK}
end
end L2
namespace Hw
open PySem L2
end Hw
namespace Hw
open PySem L2
section
variable {xs:List Str}{H H' H'':Hp}{d l P:Addr}{us:List V}{cs:List Cd}
end
end Hw
namespace L2
open PySem PySem.Spec PyProof.Rows
end L2
namespace Hw
open PySem L2
end Hw
namespace L2
open PySem PySem.Spec PyProof.Rows Hw
section
variable {X:Cx}{k:Nat}{m:Str}{pos apos:Pos}{o:Expr}{ta:TE}{Y:Cy}{ps:List Str}{sp:Nat->Sp}
end
end L2
namespace Hw
open PySem L2
end Hw
namespace Hw
open PySem L2
end Hw
namespace L2
open PySem PySem.Spec PyProof.Rows
noncomputable def notStar:Expr->Bool
 | .Starred ..=>false
 | _=>true
theorem lR {e:Expr}{es:List Expr}{env:Env}(h:notStar e=true):starEach (e::es) env=(false,eval e env)::starEach es env:=by
 cases e <;> first | rfl | cases h
theorem mV {pos:Pos}{env:Env}:∀ {es:List Expr},es.all notStar=true->(backTo pos (starEach es env)).any (·.1)=false
 | [],_=>rfl
 | e::es,h=>by
  have h:(notStar e && es.all notStar)=true:=h
  rw[Bool.and_eq_true] at h
  rw[lR h.1]
  show(false || (backTo pos (starEach es env)).any (·.1))=false
  rw[mV h.2]
  rfl
theorem EA {pos:Pos}{env:Env}:∀ {es:List Expr},es.all notStar=true->(backTo pos (starEach es env)).all (fun x=>!x.1)=true
 | [],_=>rfl
 | e::es,h=>by
  have h:(notStar e && es.all notStar)=true:=h
  rw[Bool.and_eq_true] at h
  rw[lR h.1]
  show(true && (backTo pos (starEach es env)).all (fun x=>!x.1))=true
  rw[EA h.2]
  rfl
section
variable {X:Cx}{CX:JD}{k:Nat}{f C:Addr}{fd:FuncData}{ps:List Str}{sp:Sp}{BA:List V}{ds:List Value}{E:XK}{x:Str}{p pos:Pos}{e:Expr}{es:List Expr}{te:TE}{t:TA}
theorem MK (ha:PE X e te)(hr:PA X es t)(h:notStar e=true:=by rfl):PA X (e::es) (Qn te t):=Ja ha hr (lR h)
theorem MG (F:aU X.prog X.w X.K X.mg X.base CX k f fd ps sp)(hr:fZ k X.A)(hg:Gl X x)(hm:X.mg x=some (.ref f))(hk:PySem.W.keepIn X.K (.ref f)=true)(hb:Binds X.K fd ps ds)(hd:Vals BA ds)(hx:Passes CX X E)
  (ha:PA X (e::es) t) (h1:notStar e=true:=by rfl) (h2:es.all notStar=true:=by rfl) (hdb:(x == ("__debug__":Str))=false:=by decide):PE X (.Call (.Name x p) (e::es) [] pos) (LM sp BA E t) :=
 O4 F hr hg hm hk hb hd hx ha hdb (lR h1) (mV h2)
theorem MC (M:Mk X.K C f)(F:aU X.prog X.w X.K X.mg X.base CX k f fd ps sp)(hr:fZ (k+1) X.A)(hg:Gl X x)(hm:X.mg x=some (.ref C))(hb:Binds X.K fd ps ds)(hd:Vals BA ds)(hx:Passes CX X E)
  (ha:PA X (e::es) t) (h1:notStar e=true:=by rfl) (h2:es.all notStar=true:=by rfl) (hdb:(x == ("__debug__":Str))=false:=by decide):PE X (.Call (.Name x p) (e::es) [] pos) (Qm C sp BA E t) :=
 OX M F hr hg hm hb hd hx ha hdb (lR h1) (mV h2)
theorem JQ {id:String}{r:List V->Hp->VK->Prop}(hc:jk X (.builtin id) r)(hg:Gl X x)(hm:X.mg x=none)(hv:bootBuiltins x=some (.builtin id))(ha:PA X (e::es) t)(h1:notStar e=true:=by rfl)(h2:es.all notStar=true:=by rfl)(hn:x≠"__name__":=by decide)(hdb:(x == ("__debug__":Str))=false:=by decide) :
  PE X (.Call (.Name x p) (e::es) [] pos) (Vs r t):=MH hc hg hm hv ha hn hdb (lR h1) (mV h2)
theorem GY {T:String}{r:List V->Hp->VK->Prop}(hc:jk X (.type T) r)(hg:Gl X x)(hm:X.mg x=none)(hv:bootBuiltins x=some (.type T))(ha:PA X (e::es) t)(h1:notStar e=true:=by rfl)(h2:es.all notStar=true:=by rfl)(hn:x≠"__name__":=by decide)(hdb:(x == ("__debug__":Str))=false:=by decide) :
  PE X (.Call (.Name x p) (e::es) [] pos) (Vs r t):=JP hc hg hm hv ha hn hdb (lR h1) (mV h2)
theorem SI {T id:String}{name:Str}{r:V->List V->Hp->VK->Prop}{o:Expr}{to:TE}{apos cpos:Pos}(pa:PlainAttrs T)(slot:Slot T name id)(hty:typeOf (.builtin id)=pure (.type "method_descriptor"))(hm:JC X id r)(ho:PE X o to)(ha:PA X (e::es) t)
  (h1:notStar e=true:=by rfl) (h2:es.all notStar=true:=by rfl) (h3:es.length < 20:=by decide) (hbase:attributeBase o name X.env (eval o X.env)=eval o X.env:=by rfl) (hline:(apos.endLine == cpos.line)=true:=by rfl) :
  PE X (.Call (.Attribute o name apos) (e::es) [] cpos) (YO X.K T r to t) :=
 VV pa slot hty hm ho ha hbase (by
  rw[EA (show(e::es).all notStar=true by show(notStar e && es.all notStar)=true;rw[h1,h2];rfl)]
  show(true && true && decide (es.length+1+0+0 < 30))=true
  rw[decide_eq_true (by omega)]
  rfl) hline (lR h1) (mV h2)
end
end L2
namespace Hw
open PySem L2
section
variable {H0 H H':Hp}{d p q a1 a2 a3 a4:Addr}{o:Own}{us:List V}{hs:List Hl}
end
end Hw
namespace L2
open PySem PySem.Spec PyProof.Rows
end L2
namespace Hw
open PySem L2
end Hw
namespace Hw
open PySem L2
end Hw
namespace PySem
open Sem (wp)
open Builtin
section
variable {prog:Program}{w:World}{A:Around}{E:Value->Shared->Prop}{h:Heap}{g:Array GenState}{d:Drawn}{t:Nat}{os:OsState}{K:W.Frag}{C x:Addr}{o:Obj}
end
end PySem
namespace L2
open PySem PySem.Spec PyProof.Rows
end L2
namespace Hw
open PySem L2
section
variable {Y:Cy}{G G':Hp}{tt pg pc pb pl:Addr}{us ws:List V}{hs:List Hl}{c:Cd}{h0:Hl}{u0:V}
end
end Hw
namespace PySem
open L2
section
variable {prog:Program}{w:World}{A:Around}{E:Value->Shared->Prop}{s:Shared}
end
end PySem
namespace L2
open PySem PySem.Spec PyProof.Rows Hw
section
variable {X:Cx}
end
end L2
namespace PySem
open L2 PyProof.Rows
section
variable {prog:Program}{w:World}{A:Around}{E:Value->Shared->Prop}{s:Shared}
end
end PySem
namespace L2
open PySem PySem.Spec PyProof.Rows Hw
section
variable {X:Cx}
end
end L2
namespace PySem
section
variable {M:Model}{A:Around}{E:Value->Shared->Prop}{s:Shared}{base:Heap}{env:Env}{outer:List Env}{L a C T:Addr}{z:Value}
end
end PySem
namespace L2
open PySem PySem.Spec PyProof.Rows
section
variable {prog:Program}{w:World}{A:Around}{R:Result->Shared->Prop}{s:Shared}
end
section
variable {X:Cx}{sc:Scope}{cl:List (Str×Addr)}{own:Nat}{N:List Str}{fr:List Nat}
end
end L2
namespace L2
open PySem PySem.Spec PyProof.Rows
section
variable {P:Program}{w:World}{K:PySem.W.Frag}{mg:Str->Option Value}{base:Heap}{N:List Str}{qual:Str}{scope:Scope}{f TM:Addr}{cd:Value}{A:Around}{outer:List Env}{s:Shared}{H:Hp}{E:XK}
end
section
variable {P:Program}{w:World}{K:PySem.W.Frag}{mg:Str->Option Value}{base:Heap}{N0:List Str}{qual:Str}{scope:Scope}{f00 TM:Addr}{cd:Value}{A:Around}{outer:List Env}{s0:Shared}{H00:Hp}{E:XK}{sc:Scope}{cl:List (Str×Addr)}{own:Nat}{N:List Str}{fr:List Nat}
end
end L2
namespace Hw
open PySem L2
end Hw
namespace Hw
open PySem L2
end Hw
namespace L2
open PySem PySem.Spec PyProof.Rows Hw
section
variable {X:Cx}{k:Nat}{m:Str}{pos apos:Pos}{o:Expr}{ta:TE}{Y:Cy}{ps:List Str}{sp:Nat->Sp}
end
end L2
namespace Hw
open PySem L2
section
variable {Y:Cy}{H:Hp}{s:eG}{p:Addr}
end
section
variable {Y:Cy}{H H':Hp}
end
end Hw
namespace Hw
open PySem L2
section
variable {Z:Cz}{Bk Db:Addr}{H H':Hp}{b F:Addr}{pg:V}{ds:List V}{dd:List Dt}
end
end Hw
namespace Hw
open PySem L2
section
variable {N:List Str}{Y:Cy}{H:Hp}{s:eG}{p:Addr}
end
end Hw
namespace PySem
open L2
end PySem
namespace PySem
open L2
section
variable {prog:Program}{w:World}{A:Around}{E:Value->Shared->Prop}{s:Shared}
end
end PySem
namespace PySem
open L2
section
variable {prog:Program}{w:World}{A:Around}{E:Value->Shared->Prop}{s:Shared}
end
end PySem
namespace L2
open PySem PySem.Spec PyProof.Rows Hw
section
variable {X:Cx}
end
end L2
namespace PySem
open Sem (wp)
section
variable {prog:Program}{w:World}{A:Around}{E:Value->Shared->Prop}{s:Shared}
end
end PySem
namespace L2
open PySem PySem.Spec PyProof.Rows Hw
section
variable {X:Cx}
end
section
variable {X:Cx}{l:Expr}{tl:TE}{p pos:Pos}
end
end L2
namespace PySem
open Sem (wp)
section
variable {prog:Program}{w:World}{A:Around}{E:Value->Shared->Prop}{s:Shared}{z ti tw i1 i2:Addr}{f1 f2:List Addr}{n1 n2 k:Nat}{P1 P2:Nat->Value->Prop}{S1 S2:Nat->Heap->Prop}{a b:Value}
end
end PySem
namespace PySem
section
variable {prog:Program}{w:World}{A:Around}{E:Value->Shared->Prop}{s:Shared}
end
end PySem
namespace L2
open PySem PySem.Spec PyProof.Rows Hw
section
variable {X:Cx}
end
section
variable {X:Cx}{l m:Expr}{p pos:Pos}
end
end L2
namespace L2
open PySem PySem.Spec PyProof.Rows Hw
end L2
namespace Hw
open PySem L2
end Hw
namespace Hw
open PySem L2
end Hw
namespace Hw
open PySem L2
end Hw
namespace L2
open PySem PySem.Spec PyProof.Rows Hw
end L2
namespace Hw
open PySem L2
end Hw
namespace Hw
open PySem L2
end Hw
namespace Hw
open PySem L2
end Hw
namespace Hw
open PySem L2
end Hw
namespace Hw
open PySem L2
end Hw
namespace L2
open PySem PySem.Spec PyProof.Rows Hw
theorem aR {P:Program}{w:World}{K:PySem.W.Frag}{mg:Str->Option Value}{base:Heap}{k:Nat}{m:Str}{C f:Addr}{fd:FuncData}{ps:List Str}{sp:Sp}(a:aU P w K mg base dG k f fd ps sp)(b:PySem.W.findIn K (.ref C) m=some (some (.ref f)))(e:PySem.W.isFn K (.ref f)=true)(c:PySem.W.keepIn K (.ref f)=true)(d:Binds K fd ps []):Mt P w K mg base k C m ps sp:=⟨f,fd,a,⟨b,e,c⟩,d⟩
theorem Gu {P:Program}{w:World}{K:PySem.W.Frag}{mg:Str->Option Value}{base:Heap}{k:Nat}{C f:Addr}{fd:FuncData}{ps:List Str}{sp:Sp}(a:aU P w K mg base dG k f fd ps sp)(m:PySem.W.makesIn K C=true)(b:PySem.W.findIn K (.ref C) "__init__"=some (some (.ref f)))(e:PySem.W.isFn K (.ref f)=true)(c:PySem.W.keepIn K (.ref C)=true)(d:Binds K fd ps []):Mr P w K mg base k C ps sp:=⟨f,fd,a,⟨m,b,e,c⟩,d⟩
end L2
namespace Hw
open PySem L2
end Hw
namespace Hw
open PySem L2
end Hw
namespace Hw
open PySem L2
end Hw
namespace Hw
open PySem L2
end Hw
namespace Hw
open PySem L2
end Hw
namespace Hw
open PySem L2
end Hw
namespace Hw
open PySem L2
end Hw
namespace L2
open PySem PySem.Spec PyProof.Rows Hw
end L2
namespace Hw
open PySem L2
end Hw
namespace L3
open PySem L2
inductive T where
 | v (x:V) | tup (l:List T) | lst (l:List T) | Eu (l:List T) | ins (C:Addr) (ns:List Str) (l:List T)
inductive D where
 | t (x:T) | ob (n:Nat)
inductive O where
 | lst (l:List T) | yQ (l:List (Key×T)) | ins (C:Addr) (ns:List Str) (l:List D)
noncomputable abbrev bQ:=List O
noncomputable abbrev Sl:=List (Option D)
noncomputable abbrev T.int (i:Int):T:=.v (.int i)
noncomputable abbrev T.str (x:Str):T:=.v (.str x)
noncomputable abbrev T.fE:T:=.v .fE
noncomputable abbrev D.int (i:Int):D:=.t (.v (.int i))
noncomputable abbrev D.str (x:Str):D:=.t (.v (.str x))
noncomputable abbrev D.bl (b:Bool):D:=.t (.v (.bl b))
noncomputable abbrev D.fE:D:=.t (.v .fE)
noncomputable abbrev D.tup (l:List T):D:=.t (.tup l)
noncomputable abbrev D.lst (l:List T):D:=.t (.lst l)
noncomputable def Le (G G':Hp):Prop:=∀ a o,G a=some o->G' a=some o
theorem Le.refl (G:Hp):Le G G:=fun _ _ h=>h
theorem Le.trans {A B C:Hp}(h:Le A B)(k:Le B C):Le A C:=fun a o e=>k a o (h a o e)
theorem VG {G G':Hp}(h:Le G G'){a:Addr}{u:HO}:Rd G a u->Rd G' a u
 | .inl e=>.inl (h _ _ e)
 | .inr ⟨o,e⟩=>.inr ⟨o,h _ _ e⟩
theorem GF {K:PySem.W.Frag}{G G':Hp}(h:Le G G'){a:Addr}{xs:List V}:rR K G a xs->rR K G' a xs
 | .inl e=>.inl (VG h e)
 | .inr e=>.inr e
structure iB (K:PySem.W.Frag)(C:Addr)(ns:List Str):Prop where
 cls:Qe K C
 no:∀ f∈ns,aT K C f
 ca:PySem.W.findIn K (.ref C) "__class__"=some (some (.builtin "object.__class__"))
 cg:PySem.W.specialIn K (.builtin "object.__class__") "__get__"=some (some (.builtin "getset_descriptor.__get__"))
 ct:PySem.W.takesIn K (.builtin "object.__class__")=some true
 cm:PySem.W.mroIn K C (.type "object")=some true
mutual
noncomputable def Rp (K:PySem.W.Frag)(G:Hp):T->V->Prop
 | .v x,w=>w=x
 | .tup l,w=>∃ a vs,w=.ref a/\G a=some (.tup vs)/\cZ K G l vs
 | .lst l,w=>∃ a vs,w=.ref a/\G a=some (.lst vs)/\cZ K G l vs
 | .Eu l,w=>∃ a vs,w=.ref a/\rR K G a vs/\cZ K G l vs
 | .ins C ns l,w=>∃ a dx vs,w=.ref a/\G a=some (.ins C dx (ns.zip vs))/\ns.length=vs.length/\iB K C ns/\cZ K G l vs
noncomputable def cZ (K:PySem.W.Frag)(G:Hp):List T->List V->Prop
 | [],vs=>vs=[]
 | x::r,vs=>∃ v vr,vs=v::vr/\Rp K G x v/\cZ K G r vr
end
mutual
theorem Rp.le {K:PySem.W.Frag}{G G':Hp}(h:Le G G'):∀ {x:T} {w:V},Rp K G x w->Rp K G' x w
 | .v x,w,e=>by unfold Rp at *;exact e
 | .tup l,w,e=>by
  unfold Rp at *
  obtain⟨a,vs,e1,e2,e3⟩:=e
  exact⟨a,vs,e1,h _ _ e2,cZ.le h e3⟩
 | .lst l,w,e=>by
  unfold Rp at *
  obtain⟨a,vs,e1,e2,e3⟩:=e
  exact⟨a,vs,e1,h _ _ e2,cZ.le h e3⟩
 | .Eu l,w,e=>by
  unfold Rp at *
  obtain⟨a,vs,e1,e2,e3⟩:=e
  exact⟨a,vs,e1,GF h e2,cZ.le h e3⟩
 | .ins C ns l,w,e=>by
  unfold Rp at *
  obtain⟨a,dx,vs,e1,e2,e3,e4,e5⟩:=e
  exact⟨a,dx,vs,e1,h _ _ e2,e3,e4,cZ.le h e5⟩
theorem cZ.le {K:PySem.W.Frag}{G G':Hp}(h:Le G G'):∀ {l:List T} {vs:List V},cZ K G l vs->cZ K G' l vs
 | [],vs,e=>by unfold cZ at *;exact e
 | x::r,vs,e=>by
  unfold cZ at *
  obtain⟨v,vr,e1,e2,e3⟩:=e
  exact⟨v,vr,e1,Rp.le h e2,cZ.le h e3⟩
end
section
variable {K:PySem.W.Frag}{G:Hp}
theorem cZ.nil:cZ K G [] []:=by unfold cZ;rfl
theorem cZ.cons {x:T}{v:V}{l:List T}{vs:List V}(h:Rp K G x v)(r:cZ K G l vs):cZ K G (x::l) (v::vs):=by
 unfold cZ;exact⟨v,vs,rfl,h,r⟩
theorem cZ.len:∀ {l:List T} {vs:List V},cZ K G l vs->l.length=vs.length
 | [],vs,e=>by unfold cZ at e;rw[e];rfl
 | x::r,vs,e=>by
  unfold cZ at e
  obtain⟨v,vr,e1,_,e3⟩:=e
  rw[e1,List.length_cons,List.length_cons,e3.len]
theorem cZ.app:∀ {l m:List T} {vs ws:List V},cZ K G l vs->cZ K G m ws->cZ K G (l++m) (vs++ws)
 | [],m,vs,ws,e,k=>by unfold cZ at e;rw[e];exact k
 | x::r,m,vs,ws,e,k=>by
  unfold cZ at e
  obtain⟨v,vr,e1,e2,e3⟩:=e
  rw[e1];exact .cons e2 (e3.app k)
theorem cZ.get:∀ {l:List T} {vs:List V} {i:Nat} {x:T},cZ K G l vs->l[i]?=some x->∃ v,vs[i]?=some v/\Rp K G x v
 | [],vs,i,x,e,k=>by simp at k
 | y::r,vs,0,x,e,k=>by
  unfold cZ at e
  obtain⟨v,vr,e1,e2,e3⟩:=e
  simp at k;subst k
  exact⟨v,by rw[e1];rfl,e2⟩
 | y::r,vs,i+1,x,e,k=>by
  unfold cZ at e
  obtain⟨v,vr,e1,e2,e3⟩:=e
  obtain⟨u,h1,h2⟩:=e3.get (i:=i) (x:=x) (by simpa using k)
  exact⟨u,by rw[e1];simpa using h1,h2⟩
theorem cZ.tk:∀ {l:List T} {vs:List V} (n:Nat),cZ K G l vs->cZ K G (l.take n) (vs.take n)
 | _,_,0,_=>by simp;exact .nil
 | [],vs,n+1,e=>by unfold cZ at e;rw[e];simp;exact .nil
 | y::r,vs,n+1,e=>by
  unfold cZ at e
  obtain⟨v,vr,e1,e2,e3⟩:=e
  rw[e1,List.take_succ_cons,List.take_succ_cons];exact .cons e2 (e3.tk n)
theorem cZ.dp:∀ {l:List T} {vs:List V} (n:Nat),cZ K G l vs->cZ K G (l.drop n) (vs.drop n)
 | _,_,0,e=>by simpa using e
 | [],vs,n+1,e=>by unfold cZ at e;rw[e];simp;exact .nil
 | y::r,vs,n+1,e=>by
  unfold cZ at e
  obtain⟨v,vr,e1,e2,e3⟩:=e
  rw[e1,List.drop_succ_cons,List.drop_succ_cons];exact e3.dp n
theorem cZ.DP:∀ {ns:List Str} {vs:List V} {f:Str},f ∉ ns->(ns.zip vs).lookup f=none
 | [],vs,f,_=>by simp
 | n::ns,[],f,_=>by simp
 | n::ns,v::vs,f,h=>by
  rw[List.zip_cons_cons,List.lookup_cons]
  have q:(f == n)=false:=by
   cases q:(f == n) with
   | false=>rfl
   | true=>exact absurd (List.mem_cons.mpr (.inl (eq_of_beq q))) h
  rw[q];exact cZ.DP fun z=>h (List.mem_cons_of_mem _ z)
end
theorem sD:∀ {l:List Addr} {i j:Nat} {a:Addr},l.Nodup->l[i]?=some a->l[j]?=some a->i=j
 | [],_,_,_,_,h,_=>by simp at h
 | x::r,0,0,_,_,_,_=>rfl
 | x::r,0,j+1,a,nd,h,k=>by
  simp at h k;subst h
  exact absurd (List.mem_of_getElem? k) (List.nodup_cons.mp nd).1
 | x::r,i+1,0,a,nd,h,k=>by
  simp at h k;subst k
  exact absurd (List.mem_of_getElem? h) (List.nodup_cons.mp nd).1
 | x::r,i+1,j+1,a,nd,h,k=>congrArg (·+1) (sD (l:=r) (List.nodup_cons.mp nd).2 (by simpa using h) (by simpa using k))
noncomputable def res (ρ:List Addr)(H:Hp):Hp:=fun a=>if a∈ρ then none else H a
noncomputable def nK (K:PySem.W.Frag)(ρ:List Addr)(G:Hp):D->V->Prop
 | .t x,w=>Rp K G x w
 | .ob n,w=>∃ a,ρ[n]?=some a/\w=.ref a
noncomputable def ie (K:PySem.W.Frag)(ρ:List Addr)(G:Hp):List D->List V->Prop:=Paired (nK K ρ G)
noncomputable def HW (K:PySem.W.Frag)(ρ:List Addr)(G:Hp)(h:Option HO):O->Prop
 | .lst l=>∃ vs,h=some (.lst vs)/\cZ K G l vs
 | .yQ l=>∃ kvs,h=some (.dK kvs)/\Paired (fun(p:Key×T) (q:Key×V)=>p.1=q.1/\Rp K G p.2 q.2) l kvs
 | .ins C ns l=>∃ dx vs,h=some (.ins C dx (ns.zip vs))/\ns.length=vs.length/\iB K C ns/\ie K ρ G l vs
structure R3 (K:PySem.W.Frag)(ρ:List Addr)(S:bQ)(H:Hp):Prop where
 len:ρ.length=S.length
 nd:ρ.Nodup
 ok:∀ (n:Nat) (a:Addr) (o:O),ρ[n]?=some a->S[n]?=some o->HW K ρ (res ρ H) (H a) o
structure Gr (ρ:List Addr)(H:Hp)(ρ':List Addr)(H':Hp):Prop where
 ext:∃ e,ρ'=ρ++e
 le:Le (res ρ H) (res ρ' H')
theorem Gr.refl {ρ:List Addr}{H:Hp}:Gr ρ H ρ H:=⟨⟨[],by simp⟩,Le.refl _⟩
theorem Gr.trans {ρ ρ' ρ'':List Addr}{H H' H'':Hp}(a:Gr ρ H ρ' H')(b:Gr ρ' H' ρ'' H''):Gr ρ H ρ'' H'':=by
 obtain⟨e,rfl⟩:=a.ext
 obtain⟨f,rfl⟩:=b.ext
 exact⟨⟨e++f,by simp⟩,a.le.trans b.le⟩
theorem Gr.at {ρ ρ':List Addr}{H H':Hp}(a:Gr ρ H ρ' H'){n:Nat}{x:Addr}(h:ρ[n]?=some x):ρ'[n]?=some x:=by
 obtain⟨e,rfl⟩:=a.ext
 have hl:n < ρ.length:=(List.getElem?_eq_some_iff.mp h).1
 rw[List.getElem?_append_left hl];exact h
section
variable {K:PySem.W.Frag}{ρ ρ':List Addr}{G G' H H':Hp}
theorem nK.le' (he:∀ (n:Nat) (a:Addr),ρ[n]?=some a->ρ'[n]?=some a)(h:Le G G'):∀ {d:D} {w:V},nK K ρ G d w->nK K ρ' G' d w
 | .t x,w,e=>Rp.le h e
 | .ob n,w,⟨a,e1,e2⟩=>⟨a,he n a e1,e2⟩
theorem nK.gr (g:Gr ρ H ρ' H'){d:D}{w:V}(e:nK K ρ (res ρ H) d w):nK K ρ' (res ρ' H') d w:=nK.le' (fun _ _=>g.at) g.le e
theorem m6 {α β:Type}{F F':α->β->Prop}(h:∀ a b,F a b->F' a b):∀ {l:List α} {m:List β},Paired F l m->Paired F' l m
 | _,_,.nil=>.nil
 | _,_,.cons r t=>.cons (h _ _ r) (m6 h t)
theorem ie.gr (g:Gr ρ H ρ' H'){l:List D}{w:List V}(e:ie K ρ (res ρ H) l w):ie K ρ' (res ρ' H') l w:=m6 (fun _ _=>nK.gr g) e
theorem ie.t:∀ {l:List T} {vs:List V},ie K ρ G (l.map .t) vs->cZ K G l vs
 | [],_,.nil=>.nil
 | _::_,_,.cons r t=>.cons r (ie.t t)
theorem ie.of:∀ {l:List T} {vs:List V},cZ K G l vs->ie K ρ G (l.map .t) vs
 | [],vs,e=>by unfold cZ at e;subst e;exact .nil
 | x::r,vs,e=>by
  unfold cZ at e
  obtain⟨v,vr,e1,e2,e3⟩:=e
  subst e1
  exact .cons e2 (ie.of e3)
theorem HW.le' (he:∀ (n:Nat) (a:Addr),ρ[n]?=some a->ρ'[n]?=some a)(h:Le G G'){x:Option HO}:∀ {o:O},HW K ρ G x o->HW K ρ' G' x o
 | .lst l,⟨vs,e1,e2⟩=>⟨vs,e1,e2.le h⟩
 | .yQ l,⟨vs,e1,e2⟩=>⟨vs,e1,m6 (fun _ _ z=>⟨z.1,z.2.le h⟩) e2⟩
 | .ins C ns l,⟨dx,vs,e1,e2,e3,e4⟩=>⟨dx,vs,e1,e2,e3,m6 (fun _ _=>nK.le' he h) e4⟩
theorem HW.some {x:Option HO}:∀ {o:O},HW K ρ G x o->∃ u,x=some u
 | .lst l,⟨vs,e1,e2⟩=>⟨_,e1⟩
 | .yQ l,⟨vs,e1,e2⟩=>⟨_,e1⟩
 | .ins C ns l,⟨dx,vs,e1,e2,e3,e4⟩=>⟨_,e1⟩
theorem res_some {a:Addr}{o:HO}(h:res ρ H a=some o):a ∉ ρ/\H a=some o:=by
 unfold res at h
 split at h
 ·cases h
 ·exact⟨by assumption,h⟩
theorem qQ {a:Addr}{o:HO}(n:a ∉ ρ)(h:H a=some o):res ρ H a=some o:=by unfold res;rw[if_neg n];exact h
theorem Oz:res [] H=H:=by funext a;unfold res;rw[if_neg (by simp)]
end
section
variable {K:PySem.W.Frag}{ρ:List Addr}{S:bQ}{H:Hp}
theorem R3.tracked (r:R3 K ρ S H){a:Addr}(h:a∈ρ):∃ u,H a=some u:=by
 obtain⟨n,hn⟩:=List.mem_iff_getElem?.mp h
 have hl:n < S.length:=by rw[<- r.len];exact(List.getElem?_eq_some_iff.mp hn).1
 exact(r.ok n a S[n] hn (List.getElem?_eq_getElem hl)).some
theorem R3.fresh (r:R3 K ρ S H){p:Addr}(h:H p=none):p ∉ ρ:=fun z=>by
 obtain⟨u,e⟩:=r.tracked z
 rw[h] at e;cases e
theorem R3.new (r:R3 K ρ S H){p:Addr}{o:HO}(h:H p=none):R3 K ρ S (upd H p o)/\Gr ρ H ρ (upd H p o)/\res ρ (upd H p o) p=some o:=by
 have np:=r.fresh h
 have le:Le (res ρ H) (res ρ (upd H p o)):=fun a u e=>by
  obtain⟨e1,e2⟩:=res_some e
  refine qQ e1 ?_
  rw[bL (cJ e2 h)];exact e2
 refine⟨⟨r.len,r.nd,fun n a u e1 e2=>?_⟩,⟨⟨[],by simp⟩,le⟩,qQ np kY⟩
 have q:=r.ok n a u e1 e2
 obtain⟨x,ex⟩:=q.some
 rw[bL (cJ ex h)]
 exact q.le' (fun _ _ z=>z) le
theorem R3.push (r:R3 K ρ S H){p:Addr}{o:HO}{u:O}(h:H p=none)(hu:HW K (ρ++[p]) (res ρ H) (some o) u):R3 K (ρ++[p]) (S++[u]) (upd H p o)/\Gr ρ H (ρ++[p]) (upd H p o):=by
 have np:=r.fresh h
 have le:Le (res ρ H) (res (ρ++[p]) (upd H p o)):=fun a u e=>by
  obtain⟨e1,e2⟩:=res_some e
  have ne:=cJ e2 h
  refine qQ (fun z=>?_) ?_
  ·rcases List.mem_append.mp z with z | z
   ·exact e1 z
   ·exact ne (List.mem_singleton.mp z)
  ·rw[bL ne];exact e2
 have he:∀ (n:Nat) (a:Addr),ρ[n]?=some a->(ρ++[p])[n]?=some a:=fun n a e=>by
  rw[List.getElem?_append_left (List.getElem?_eq_some_iff.mp e).1];exact e
 refine⟨⟨by simp[r.len],?_,fun n a x e1 e2=>?_⟩,⟨⟨[p],rfl⟩,le⟩⟩
 ·rw[List.nodup_append]
  refine⟨r.nd,by simp,fun a ha b hb=>?_⟩
  rw[List.mem_singleton.mp hb]
  exact fun z=>np (z ▸ ha)
 ·by_cases hn:n < ρ.length
  ·rw[List.getElem?_append_left hn] at e1
   rw[List.getElem?_append_left (by rw[<- r.len];exact hn)] at e2
   have q:=r.ok n a x e1 e2
   obtain⟨y,ey⟩:=q.some
   rw[bL (cJ ey h)]
   exact q.le' he le
  ·have hn':n=ρ.length:=by
    have:=(List.getElem?_eq_some_iff.mp e1).1
    rw[List.length_append,List.length_singleton] at this
    omega
   subst hn'
   rw[List.getElem?_append_right (Nat.le_refl _),Nat.sub_self] at e1
   rw[List.getElem?_append_right (by rw[r.len];exact Nat.le_refl _),r.len,Nat.sub_self] at e2
   cases e1;cases e2
   rw[kY]
   exact hu.le' (fun _ _ z=>z) le
theorem R3.put (r:R3 K ρ S H){n:Nat}{a:Addr}{o:HO}{u:O}(ha:ρ[n]?=some a)(hu:HW K ρ (res ρ H) (some o) u):R3 K ρ (S.set n u) (upd H a o)/\Gr ρ H ρ (upd H a o):=by
 have hm:a∈ρ:=List.mem_of_getElem? ha
 have le:Le (res ρ H) (res ρ (upd H a o)):=fun b u e=>by
  obtain⟨e1,e2⟩:=res_some e
  refine qQ e1 ?_
  rw[bL (fun z=>e1 (by rw[z];exact hm))];exact e2
 refine⟨⟨by rw[List.length_set];exact r.len,r.nd,fun m b x e1 e2=>?_⟩,⟨⟨[],by simp⟩,le⟩⟩
 by_cases hmn:n=m
 ·subst hmn
  rw[ha] at e1;cases e1
  have hl:n < S.length:=by rw[<- r.len];exact(List.getElem?_eq_some_iff.mp ha).1
  rw[List.getElem?_set_self hl] at e2
  cases e2
  rw[kY]
  exact hu.le' (fun _ _ z=>z) le
 ·rw[List.getElem?_set_ne hmn] at e2
  have nb:b≠a:=fun z=>by
   subst z
   exact hmn (sD r.nd ha e1)
  rw[bL nb]
  exact(r.ok m b x e1 e2).le' (fun _ _ z=>z) le
end
noncomputable abbrev KD:=D->bQ->Prop
noncomputable abbrev KS:=Sl->bQ->Prop
noncomputable abbrev gX:=Sl->bQ->KD->Prop
noncomputable abbrev rQ:=Sl->bQ->(Bool->bQ->Prop)->Prop
noncomputable abbrev BB:=Sl->bQ->(List D->bQ->Prop)->Prop
structure uG where
 nx:KS
 rt:KD
 bk:KS:=fun _ _=>False
 ct:KS:=fun _ _=>False
noncomputable abbrev vY:=uG->Sl->bQ->Prop
section
variable (K:PySem.W.Frag)(ρ:List Addr)(H:Hp)
noncomputable def up (k:KD):VK:=fun v H'=>∃ ρ' S' d,Gr ρ H ρ' H'/\R3 K ρ' S' H'/\nK K ρ' (res ρ' H') d v/\k d S'
noncomputable def XO (k:Bool->bQ->Prop):Bool->Hp->Prop:=fun b H'=>∃ ρ' S',Gr ρ H ρ' H'/\R3 K ρ' S' H'/\k b S'
noncomputable def upA (k:List D->bQ->Prop):List V->Hp->Prop:=fun v H'=>∃ ρ' S' d,Gr ρ H ρ' H'/\R3 K ρ' S' H'/\ie K ρ' (res ρ' H') d v/\k d S'
noncomputable def xR (G:Hp)(δ:Sl)(σ:St):Prop:=δ.length=σ.length/\∀ (i:Nat) d,δ[i]?=some (some d)->∃ v,σ[i]?=some (some v)/\nK K ρ G d v
noncomputable def Ir (k:KS):St->Hp->Prop:=fun σ H'=>∃ ρ' S' δ,Gr ρ H ρ' H'/\R3 K ρ' S' H'/\xR K ρ' (res ρ' H') δ σ/\k δ S'
structure Ej (E:uG)(D:Ends):Prop where
 nx:∀ σ H',Ir K ρ H E.nx σ H'->D.nx σ H'
 rt:∀ v H',up K ρ H E.rt v H'->D.rt v H'
 bk:∀ σ H',Ir K ρ H E.bk σ H'->D.bk σ H'
 ct:∀ σ H',Ir K ρ H E.ct σ H'->D.ct σ H'
end
section
variable (K:PySem.W.Frag)
noncomputable def li (t:gX):TE:=fun σ H Q=>∃ ρ S δ k,R3 K ρ S H/\xR K ρ (res ρ H) δ σ/\t δ S k/\∀ v H',up K ρ H k v H'->Q v H'
noncomputable def N5 (t:rQ):TT:=fun σ H Q=>∃ ρ S δ k,R3 K ρ S H/\xR K ρ (res ρ H) δ σ/\t δ S k/\∀ v H',XO K ρ H k v H'->Q v H'
noncomputable def Zp (t:BB):TA:=fun σ H Q=>∃ ρ S δ k,R3 K ρ S H/\xR K ρ (res ρ H) δ σ/\t δ S k/\∀ v H',upA K ρ H k v H'->Q v H'
noncomputable def liS (t:vY):TS:=fun D σ H=>∃ ρ S δ E,R3 K ρ S H/\xR K ρ (res ρ H) δ σ/\t E δ S/\Ej K ρ H E D
end
section
variable {K:PySem.W.Frag}{ρ ρ':List Addr}{H H':Hp}
theorem xR.gr (g:Gr ρ H ρ' H'){δ:Sl}{σ:St}(r:xR K ρ (res ρ H) δ σ):xR K ρ' (res ρ' H') δ σ :=
 ⟨r.1,fun i d e=>let ⟨v,e1,e2⟩:=r.2 i d e;⟨v,e1,e2.gr g⟩⟩
theorem xR.set {G:Hp}{δ:Sl}{σ:St}(r:xR K ρ G δ σ){d:D}{v:V}(h:nK K ρ G d v)(i:Nat):xR K ρ G (δ.set i (some d)) (σ.set i (some v)):=by
 refine⟨by simp[r.1],fun j e q=>?_⟩
 by_cases hij:i=j
 ·subst hij
  have hl:i < δ.length:=by
   have:=(List.getElem?_eq_some_iff.mp q).1
   simpa using this
  rw[List.getElem?_set_self hl] at q
  cases q
  exact⟨v,by rw[List.getElem?_set_self (by rw[<- r.1];exact hl)],h⟩
 ·rw[List.getElem?_set_ne hij] at q
  rw[List.getElem?_set_ne hij]
  exact r.2 j e q
theorem up.gr (g:Gr ρ H ρ' H'){k:KD}{v:V}{H2:Hp}:up K ρ' H' k v H2->up K ρ H k v H2:=fun⟨r,s,d,g2,x⟩=>⟨r,s,d,g.trans g2,x⟩
theorem XO.gr (g:Gr ρ H ρ' H'){k:Bool->bQ->Prop}{v:Bool}{H2:Hp}:XO K ρ' H' k v H2->XO K ρ H k v H2:=fun⟨r,s,g2,x⟩=>⟨r,s,g.trans g2,x⟩
theorem Ir.gr (g:Gr ρ H ρ' H'){k:KS}{v:St}{H2:Hp}:Ir K ρ' H' k v H2->Ir K ρ H k v H2:=fun⟨r,s,d,g2,x⟩=>⟨r,s,d,g.trans g2,x⟩
theorem Ej.gr (g:Gr ρ H ρ' H'){E:uG}{D:Ends}(u:Ej K ρ H E D):Ej K ρ' H' E D :=
 ⟨fun σ H2 h=>u.nx σ H2 (h.gr g),fun σ H2 h=>u.rt σ H2 (h.gr g),fun σ H2 h=>u.bk σ H2 (h.gr g),fun σ H2 h=>u.ct σ H2 (h.gr g)⟩
end
noncomputable def QE (X:Cx)(e:Expr)(t:gX):Prop:=PE X e (li X.K t)
noncomputable def QT (X:Cx)(e:Expr)(t:rQ):Prop:=PT X e (N5 X.K t)
noncomputable def QW (X:Cx)(e:Expr)(t:rQ):Prop:=PW X e (N5 X.K t)
noncomputable def QA (X:Cx)(e:List Expr)(t:BB):Prop:=PA X e (Zp X.K t)
noncomputable def QS (X:Cx)(e:Stmt)(t:vY):Prop:=PS X e (liS X.K t)
noncomputable def Lv (X:Cx)(e:List Stmt)(t:vY):Prop:=Ew X e (liS X.K t)
section
variable {X:Cx}{e:Expr}
theorem gq {t t':TE}(h:PE X e t)(m:∀ σ H Q,t' σ H Q->t σ H Q):PE X e t':=fun pins s σ H Q I q=>h pins s σ H Q I (m _ _ _ q)
theorem Mp {t t':TT}(h:PT X e t)(m:∀ σ H Q,t' σ H Q->t σ H Q):PT X e t':=fun pins s σ H Q I q=>h pins s σ H Q I (m _ _ _ q)
theorem Qz {t t':TT}(h:PW X e t)(m:∀ σ H Q,t' σ H Q->t σ H Q):PW X e t':=fun w pins s σ H Q I q=>h w pins s σ H Q I (m _ _ _ q)
theorem QD {es:List Expr}{t t':TA}(h:PA X es t)(m:∀ σ H Q,t' σ H Q->t σ H Q):PA X es t':=fun p pins s σ H Q I q=>h p pins s σ H Q I (m _ _ _ q)
theorem oR {st:Stmt}{t t':TS}(h:PS X st t)(m:∀ D σ H,t' D σ H->t D σ H):PS X st t':=fun pins s σ H D I q=>h pins s σ H D I (m _ _ _ q)
theorem GU {st:List Stmt}{t t':TS}(h:Ew X st t)(m:∀ D σ H,t' D σ H->t D σ H):Ew X st t':=fun pins s σ H D I q=>h pins s σ H D I (m _ _ _ q)
end
end L3
namespace L3
open PySem L2
theorem cZ.put {K:PySem.W.Frag}{G:Hp}{x:T}{v:V}(h:Rp K G x v):∀ {l:List T} {vs:List V} {j:Nat},cZ K G l vs->cZ K G (l.set j x) (vs.set j v)
 | [],vs,j,e=>by unfold cZ at e;subst e;exact .nil
 | y::r,vs,0,e=>by
  unfold cZ at e
  obtain⟨w,wr,e1,e2,e3⟩:=e
  subst e1
  exact .cons h e3
 | y::r,vs,j+1,e=>by
  unfold cZ at e
  obtain⟨w,wr,e1,e2,e3⟩:=e
  subst e1
  exact .cons e2 (cZ.put h e3)
end L3
namespace L3
open PySem L2
section
variable {K:PySem.W.Frag}{ρ:List Addr}{S:bQ}{H:Hp}{k:KD}{Q:VK}
theorem oB:Le (res ρ H) H:=fun a o e=>(res_some e).2
theorem fin {d:D}{v:V}(R:R3 K ρ S H)(hk:∀ v H',up K ρ H k v H'->Q v H')(r:nK K ρ (res ρ H) d v)(q:k d S):Q v H:=hk _ _ ⟨ρ,S,d,.refl,R,r,q⟩
theorem Py {l:List T}{vs:List V}(R:R3 K ρ S H)(hk:∀ v H',up K ρ H k v H'->Q v H')(r:cZ K (res ρ H) l vs)(q:k (.tup l) S)(p:Addr)(hp:H p=none):Q (.ref p) (upd H p (.tup vs)):=by
 obtain⟨R',g,e⟩:=R.new (o:=.tup vs) hp
 refine hk _ _ ⟨ρ,S,.tup l,g,R',?_,q⟩
 show Rp _ _ _ _
 unfold Rp
 exact⟨p,vs,rfl,e,r.le g.le⟩
theorem Fy {l:List T}{vs:List V}(R:R3 K ρ S H)(hk:∀ v H',up K ρ H k v H'->Q v H')(r:cZ K (res ρ H) l vs)(q:k (.lst l) S)(p:Addr)(hp:H p=none):Q (.ref p) (upd H p (.lst vs)):=by
 obtain⟨R',g,e⟩:=R.new (o:=.lst vs) hp
 refine hk _ _ ⟨ρ,S,.lst l,g,R',?_,q⟩
 show Rp _ _ _ _
 unfold Rp
 exact⟨p,vs,rfl,e,r.le g.le⟩
theorem Xk {o:O}{h:HO}(R:R3 K ρ S H)(hk:∀ v H',up K ρ H k v H'->Q v H')(p:Addr)(hp:H p=none)(r:HW K (ρ++[p]) (res ρ H) (some h) o)(q:k (.ob S.length) (S++[o])):Q (.ref p) (upd H p h):=by
 obtain⟨R',g⟩:=R.push hp r
 exact hk _ _ ⟨_,_,.ob S.length,g,R',⟨p,by rw[<- R.len];simp,rfl⟩,q⟩
theorem PB {l:List T}{vs:List V}(R:R3 K ρ S H)(hk:∀ v H',up K ρ H k v H'->Q v H')(r:cZ K (res ρ H) l vs)(q:k (.ob S.length) (S++[.lst l]))(p:Addr)(hp:H p=none):Q (.ref p) (upd H p (.lst vs)) :=
 Xk (o:=.lst l) R hk p hp ⟨vs,rfl,r⟩ q
theorem Pz {n:Nat}{a:Addr}{o:O}{h:HO}{d:D}{v:V}(R:R3 K ρ S H)(hk:∀ v H',up K ρ H k v H'->Q v H')(ha:ρ[n]?=some a)(r:HW K ρ (res ρ H) (some h) o)(rv:nK K ρ (res ρ H) d v)(q:k d (S.set n o)):Q v (upd H a h):=by
 obtain⟨R',g⟩:=R.put ha r
 exact hk _ _ ⟨_,_,d,g,R',rv.gr g,q⟩
end
noncomputable def lq (S:bQ):D->Option (List T)
 | .t (.lst l)=>some l
 | .ob n=>match S[n]? with
  | some (.lst l)=>some l
  | _=>none
 | _=>none
noncomputable def sq (S:bQ):D->Option (List T)
 | .t (.tup l)=>some l
 | .t (.Eu l)=>some l
 | d=>lq S d
section
variable {K:PySem.W.Frag}{ρ:List Addr}{S:bQ}{H:Hp}
theorem gC (R:R3 K ρ S H):∀ {d:D} {v:V} {l:List T},nK K ρ (res ρ H) d v->lq S d=some l->∃ a vs,v=.ref a/\H a=some (.lst vs)/\cZ K (res ρ H) l vs
 | .t (.lst l'),v,l,r,e=>by
  have e:some l'=some l:=e
  cases e
  have r:Rp _ _ _ _:=r
  unfold Rp at r
  obtain⟨a,vs,e1,e2,e3⟩:=r
  exact⟨a,vs,e1,oB _ _ e2,e3⟩
 | .t (.Eu _),_,_,_,e=>nomatch e
 | .t (.v _),_,_,_,e=>nomatch e
 | .t (.tup _),_,_,_,e=>nomatch e
 | .t (.ins _ _ _),_,_,_,e=>nomatch e
 | .ob n,v,l,⟨a,ha,r⟩,e=>by
  have e:(match S[n]? with | some (.lst l)=>some l | _=>none)=some l:=e
  cases q:S[n]? with
  | none=>rw[q] at e;cases e
  | some o =>
   rw[q] at e
   cases o with
   | lst m =>
    have e:some m=some l:=e
    cases e
    obtain⟨vs,h1,h2⟩:=R.ok n a _ ha q
    exact⟨a,vs,r,h1,h2⟩
   | yQ m=>cases e
   | ins C ns m=>cases e
theorem Ac (R:R3 K ρ S H){d:D}{v:V}{l:List T}(r:nK K ρ (res ρ H) d v)(e:sq S d=some l):∃ a vs,v=.ref a/\(rR K H a vs∨vo K H a vs)/\cZ K (res ρ H) l vs:=by
 unfold sq at e
 split at e
 ·cases e
  have r:Rp _ _ _ _:=r
  unfold Rp at r
  obtain⟨a,vs,e1,e2,e3⟩:=r
  exact⟨a,vs,e1,.inr (.of (oB _ _ e2)),e3⟩
 ·cases e
  have r:Rp _ _ _ _:=r
  unfold Rp at r
  obtain⟨a,vs,e1,e2,e3⟩:=r
  exact⟨a,vs,e1,.inl (GF oB e2),e3⟩
 ·obtain⟨a,vs,h1,h2,h3⟩:=gC R r e
  exact⟨a,vs,h1,.inl (.of h2),h3⟩
theorem iS {v:V}{l:List T}(r:nK K ρ (res ρ H) (.tup l) v):∃ a vs,v=.ref a/\H a=some (.tup vs)/\cZ K (res ρ H) l vs:=by
 have r:Rp _ _ _ _:=r
 unfold Rp at r
 obtain⟨a,vs,e1,e2,e3⟩:=r
 exact⟨a,vs,e1,oB _ _ e2,e3⟩
theorem bE {G:Hp}{x w:V}(r:nK K ρ G (.t (.v x)) w):w=x:=by
 have r:Rp _ _ _ _:=r
 unfold Rp at r
 exact r
theorem cM {G:Hp}{x:V}:nK K ρ G (.t (.v x)) x:=by show Rp _ _ _ _;unfold Rp;rfl
end
section
variable {X:Cx}{a b e:Expr}{ta tb:gX}{pos:Pos}
noncomputable def Va (i:Nat):gX:=fun δ S k=>∃ d,δ[i]?=some (some d)/\k d S
noncomputable def Vt (d:D):gX:=fun _ S k=>k d S
theorem ah (i:Nat){x:Str}{pos:Pos}(hN:X.N[i]?=some x:=by rfl)(hv:Yk X.env.scope x:=by first | exact Or.inl rfl | exact Or.inr (Or.inl rfl) | exact Or.inr (Or.inr rfl))(hd:(x == ("__debug__":Str))=false:=by decide)
  (hcd:(x == ("__classdict__":Str))=false:=by decide):QE X (.Name x pos) (Va i) :=
 gq (SA hN hv hd hcd) (by
  rintro σ H Q ⟨ρ,S,δ,k,R,D,⟨d,e,q⟩,hk⟩
  obtain⟨v,e1,e2⟩:=D.2 i d e
  exact⟨v,e1,fin R hk e2 q⟩)
theorem JL {v:V}(h:PE X e (tC v)):QE X e (Vt (.t (.v v))):=gq h (by rintro σ H Q ⟨ρ,S,δ,k,R,D,q,hk⟩;exact fin R hk cM q)
theorem af {i j pos}:QE X (.Constant (.int i) j pos) (Vt (.int i)):=JL SG
theorem Y8 {b j pos}:QE X (.Constant (.bool b) j pos) (Vt (.bl b)):=JL VW
theorem wL {j pos}:QE X (.Constant .none j pos) (Vt .fE):=JL SE
theorem aq {x j pos}:QE X (.Constant (.str x) j pos) (Vt (.str x)):=JL MA
noncomputable abbrev Ei:=D->D->bQ->KD->Prop
noncomputable def Zm (K:PySem.W.Frag)(r:Ei):R2:=fun x y H Q=>∃ ρ S a b k,R3 K ρ S H/\nK K ρ (res ρ H) a x/\nK K ρ (res ρ H) b y/\r a b S k/\∀ v H',up K ρ H k v H'->Q v H'
noncomputable def FW (X:Cx)(f:Value->Value->Sem Value)(r:Ei):Prop:=qF X f (Zm X.K r)
theorem lK {f:Value->Value->Sem Value}{r r':R2}(h:qF X f r)(m:∀ x y H Q,r' x y H Q->r x y H Q):qF X f r':=fun pins s σ H x y v u Q I rx ry q=>h pins s σ H x y v u Q I rx ry (m _ _ _ _ q)
noncomputable def JH (r:Ei)(ta tb:gX):gX:=fun δ S k=>ta δ S fun x S1=>tb δ S1 fun y S2=>r x y S2 k
theorem zQ {r:Ei}:∀ σ H Q,li X.K (JH r ta tb) σ H Q->Ve (Zm X.K r) (li X.K ta) (li X.K tb) σ H Q:=(by rintro σ H Q ⟨ρ,S,δ,k,R,D,q,hk⟩;exact  ⟨ρ,S,δ,_,R,D,q,(by rintro v H1 ⟨ρ1,S1,d1,g1,R1,r1,q1⟩;exact ⟨ρ1,S1,δ,_,R1,D.gr g1,q1,(by rintro w H2 ⟨ρ2,S2,d2,g2,R2,r2,q2⟩;exact   ⟨ρ2,S2,d1,d2,k,R2,r1.gr g2,r2,q2,fun z H3 u=>hk z H3 (u.gr (g1.trans g2))⟩)⟩)⟩)
theorem aL {op:Operator}{r:Ei}(ho:FW X (binaryOp op) r)(ha:QE X a ta)(hb:QE X b tb):QE X (.BinOp a op b pos) (JH r ta tb):=gq (VT ho ha hb) zQ
theorem yK {op:CmpOp}{r:Ei}(ho:FW X (compareOp op) r)(ha:QE X a ta)(hb:QE X b tb)(hm:behindInMarks op b=false):QE X (.Compare a [op] [b] pos) (JH r ta tb):=gq (O2 ho ha hb hm) zQ
noncomputable def GA (t:gX):rQ:=fun δ S k=>t δ S fun d S1=>∃ b,d=.bl b/\k b S1
theorem CH {t:gX}{t':TE}(m:∀ σ H Q,li X.K t σ H Q->t' σ H Q):∀ σ H Q,N5 X.K (GA t) σ H Q->Qk t' σ H Q:=(by rintro σ H Q ⟨ρ,S,δ,k,R,D,q,hk⟩;exact  m _ _ _ ⟨ρ,S,δ,_,R,D,q,(by
  rintro v H1 ⟨ρ1,S1,d1,g1,R1,r1,b,e,q1⟩
  subst e
  exact⟨b,bE r1,hk _ _ ⟨ρ1,S1,g1,R1,q1⟩⟩)⟩)
theorem aI {op:CmpOp}{r:Ei}(ho:FW X (compareOp op) r)(ha:QE X a ta)(hb:QE X b tb)(hm:behindInMarks op b=false):QT X (.Compare a [op] [b] pos) (GA (JH r ta tb)):=Mp (ON ho ha hb hm) (CH zQ)
end
end L3
namespace L3
open PySem L2
noncomputable def XD:Ei
 | .t (.v (.int i)),.t (.v (.int j)),S,k=>k (.int (i+j)) S
 | .t (.v (.str a)),.t (.v (.str b)),S,k=>a.length+b.length<=sizeLine/\k (.str (a++b)) S
 | .t (.tup a),.t (.tup b),S,k=>a.length+b.length<=sizeLine/\k (.tup (a++b)) S
 | a,b,S,k=>∃ l m,lq S a=some l/\lq S b=some m/\l.length+m.length<=sizeLine/\k (.lst (l++m)) S
noncomputable def Vy:Ei
 | .t (.v (.int i)),.t (.v (.int j)),S,k=>k (.int (i - j)) S
 | _,_,_,_=>False
noncomputable def Wa:Ei
 | .t (.v (.int i)),.t (.v (.int j)),S,k=>Qf i j/\k (.int (i*j)) S
 | a,.t (.v (.int j)),S,k=>∃ l,lq S a=some l/\-(2 ^ 63)<=j/\j < 2 ^ 63/\l.length*j.toNat<=sizeLine/\k (.lst (List.replicate j.toNat l).flatten) S
 | _,_,_,_=>False
noncomputable def Q6:Ei
 | .t (.v (.int i)),.t (.v (.int j)),S,k=>XN i j/\k (.int (i / j)) S
 | _,_,_,_=>False
noncomputable def Wc:Ei
 | .t (.v (.int i)),.t (.v (.int j)),S,k=>0 < j/\k (.int (i % j)) S
 | _,_,_,_=>False
noncomputable def PM (f:Int->Int->Bool):Ei
 | .t (.v (.int i)),.t (.v (.int j)),S,k=>k (.bl (f i j)) S
 | _,_,_,_=>False
mutual
noncomputable def Fl:Nat->T->Prop
 | _,.v x=>j4 x=true
 | 0,_=>False
 | n+1,.tup l=>NZ n l
 | n+1,.lst l=>NZ n l
 | _+1,_=>False
noncomputable def NZ:Nat->List T->Prop
 | _,[]=>True
 | n,x::r=>Fl n x/\NZ n r
end
noncomputable def eq3 (n:Nat)(neg:Bool):Ei
 | .t (.v x),.t (.v y),S,k=>RV x y=true/\k (.bl (xor neg (decide (x=y)))) S
 | .t (.tup l),.t (.tup m),S,k=>(l=m/\NZ n l/\k (.bl (!neg)) S)∨(m=[]/\k (.bl (xor neg (decide (l=[])))) S)
 | a,b,S,k=>∃ l m,lq S a=some l/\lq S b=some m/\((l=m/\NZ n l/\k (.bl (!neg)) S)∨(m=[]/\k (.bl (xor neg (decide (l=[])))) S))
noncomputable def Tz (neg:Bool):Ei
 | .t (.v x),.t (.v .fE),S,k=>k (.bl (xor neg (decide (x=.fE)))) S
 | .t _,.t (.v .fE),S,k=>k (.bl neg) S
 | .ob _,.t (.v .fE),S,k=>k (.bl neg) S
 | _,_,_,_=>False
noncomputable def Yh:T->Option V
 | .v x=>if j4 x=true then some x else none
 | _=>none
noncomputable def Ce:List T->Option (List V)
 | []=>some []
 | x::r=>match Yh x,Ce r with
  | some v,some vs=>some (v::vs)
  | _,_=>none
noncomputable def in3 (neg:Bool):Ei:=fun a b S k=>∃ x l vs,a=.t (.v x)/\j4 x=true/\sq S b=some l/\Ce l=some vs/\k (.bl (xor neg (Pq x vs))) S
section
variable {X:Cx}
theorem cZ.rep {K:PySem.W.Frag}{G:Hp}{l:List T}{vs:List V}(r:cZ K G l vs):∀ n:Nat,cZ K G (List.replicate n l).flatten (List.replicate n vs).flatten
 | 0=>.nil
 | n+1=>by
  rw[List.replicate_succ,List.replicate_succ,List.flatten_cons,List.flatten_cons]
  exact r.app (cZ.rep r n)
theorem cZ.fX {K:PySem.W.Frag}{G:Hp}{l:List T}{vs:List V}(r:cZ K G l vs):vs=[]↔l=[]:=by
 have:=r.len
 constructor
 ·intro e;subst e;exact List.length_eq_zero_iff.mp this
 ·intro e;subst e;exact List.length_eq_zero_iff.mp this.symm
theorem A7 {K:PySem.W.Frag}{G:Hp}:∀ {l:List T} {us vs:List V},Ce l=some vs->cZ K G l us->us=vs/\vs.all j4=true
 | [],us,vs,e,r=>by
  unfold cZ at r
  have e:some []=some vs:=e
  cases e
  exact⟨r,rfl⟩
 | x::l,us,vs,e,r=>by
  unfold cZ at r
  obtain⟨v,vr,e1,e2,e3⟩:=r
  cases x with
  | v y =>
   by_cases hf:j4 y=true
   ·have q1:Yh (.v y)=some y:=if_pos hf
    cases q2:Ce l with
    | none=>unfold Ce at e;rw[q1,q2] at e;cases e
    | some vs' =>
     unfold Ce at e;rw[q1,q2] at e
     have e:some (y::vs')=some vs:=e
     cases e
     obtain⟨h1,h2⟩:=A7 q2 e3
     subst h1
     unfold Rp at e2
     subst e2
     exact⟨e1,by rw[List.all_cons,hf,h2];rfl⟩
   ·have q1:Yh (.v y)=none:=if_neg hf
    unfold Ce at e;rw[q1] at e;cases e
  | _=>unfold Ce at e;cases e
end
section
variable {K:PySem.W.Frag}{H:Hp}{G:Hp}
mutual
theorem Te (le:Le G H):∀ (n:Nat) {x:T} {v w:V},Fl n x->Rp K G x v->Rp K G x w->HY K H n v w
 | n,.v y,v,w,f,r1,r2=>by
  unfold Rp at r1 r2
  unfold Fl at f
  subst r1;subst r2
  cases n with
  | zero=>exact⟨f,rfl⟩
  | succ n=>exact .inl ⟨f,rfl⟩
 | n+1,.tup l,v,w,f,r1,r2=>by
  unfold Rp at r1 r2
  unfold Fl at f
  obtain⟨a,vs,e1,e2,e3⟩:=r1
  obtain⟨b,ws,e4,e5,e6⟩:=r2
  exact .inr ⟨a,b,vs,ws,e1,e4,.inr ⟨.of (le _ _ e2),.of (le _ _ e5)⟩,uR le n f e3 e6⟩
 | n+1,.lst l,v,w,f,r1,r2=>by
  unfold Rp at r1 r2
  unfold Fl at f
  obtain⟨a,vs,e1,e2,e3⟩:=r1
  obtain⟨b,ws,e4,e5,e6⟩:=r2
  exact .inr ⟨a,b,vs,ws,e1,e4,.inl ⟨.of (le _ _ e2),.of (le _ _ e5)⟩,uR le n f e3 e6⟩
 | n+1,.Eu l,v,w,f,r1,r2=>by unfold Fl at f;exact f.elim
 | n+1,.ins C ns l,v,w,f,r1,r2=>by unfold Fl at f;exact f.elim
 | 0,.tup l,v,w,f,r1,r2=>by unfold Fl at f;exact f.elim
 | 0,.lst l,v,w,f,r1,r2=>by unfold Fl at f;exact f.elim
 | 0,.Eu l,v,w,f,r1,r2=>by unfold Fl at f;exact f.elim
 | 0,.ins C ns l,v,w,f,r1,r2=>by unfold Fl at f;exact f.elim
theorem uR (le:Le G H):∀ (n:Nat) {l:List T} {vs ws:List V},NZ n l->cZ K G l vs->cZ K G l ws->Paired (HY K H n) vs ws
 | n,[],vs,ws,f,r1,r2=>by
  unfold cZ at r1 r2
  subst r1;subst r2
  exact .nil
 | n,x::l,vs,ws,f,r1,r2=>by
  unfold cZ at r1 r2
  unfold NZ at f
  obtain⟨v,vr,e1,e2,e3⟩:=r1
  obtain⟨w,wr,e4,e5,e6⟩:=r2
  subst e1;subst e4
  exact .cons (Te le n f.1 e2 e5) (uR le n f.2 e3 e6)
end
end
section
variable {X:Cx}
theorem aF:FW X (binaryOp .Add) XD:=by
 refine lK ((SS.or (G2.or (O8.or MP)))) ?_
 rintro x y H Q ⟨ρ,S,a,b,k,R,ra,rb,q,hk⟩
 unfold XD at q
 split at q
 ·exact .inl ⟨_,_,bE ra,bE rb,fin R hk cM q⟩
 ·exact .inr (.inl ⟨_,_,bE ra,bE rb,q.1,fin R hk cM q.2⟩)
 ·obtain⟨p1,vs,e1,e2,e3⟩:=iS ra
  obtain⟨p2,ws,f1,f2,f3⟩:=iS rb
  refine .inr (.inr (.inl ⟨p1,p2,vs,ws,e1,f1,.of e2,.of f2,by rw[<- e3.len,<- f3.len];exact q.1,fun z=>?_,fun _ z=>?_,fun _ _ p hp=>Py R hk (e3.app f3) q.2 p hp⟩))
  ·have z:=e3.fX.mp z
   subst z
   rw[<- f1]
   exact fin R hk rb q.2
  ·have z:=f3.fX.mp z
   subst z
   rw[<- e1]
   refine fin R hk ra ?_
   have:=q.2
   rwa [List.append_nil] at this
 ·obtain⟨l,m,h1,h2,h3,h4⟩:=q
  obtain⟨p1,vs,e1,e2,e3⟩:=gC R ra h1
  obtain⟨p2,ws,f1,f2,f3⟩:=gC R rb h2
  exact .inr (.inr (.inr ⟨p1,p2,vs,ws,e1,f1,e2,f2,by rw[<- e3.len,<- f3.len];exact h3,fun p hp=>Fy R hk (e3.app f3) h4 p hp⟩))
theorem wQ:FW X (binaryOp .Sub) Vy:=by
 refine lK SK ?_
 rintro x y H Q ⟨ρ,S,a,b,k,R,ra,rb,q,hk⟩
 unfold Vy at q
 split at q
 ·exact⟨_,_,bE ra,bE rb,fin R hk cM q⟩
 ·exact q.elim
theorem AO:FW X (binaryOp .Mult) Wa:=by
 refine lK (SO.or SM) ?_
 rintro x y H Q ⟨ρ,S,a,b,k,R,ra,rb,q,hk⟩
 unfold Wa at q
 split at q
 ·exact .inl ⟨_,_,bE ra,bE rb,q.1,fin R hk cM q.2⟩
 ·obtain⟨l,h1,h2,h3,h4,h5⟩:=q
  obtain⟨p1,vs,e1,e2,e3⟩:=gC R ra h1
  exact .inr ⟨p1,_,vs,e1,bE rb,e2,h2,h3,by rw[<- e3.len];exact h4,fun p hp=>Fy R hk (e3.rep _) h5 p hp⟩
 ·exact q.elim
theorem AQ:FW X (binaryOp .FloorDiv) Q6:=by
 refine lK O7 ?_
 rintro x y H Q ⟨ρ,S,a,b,k,R,ra,rb,q,hk⟩
 unfold Q6 at q
 split at q
 ·exact⟨_,_,bE ra,bE rb,q.1,fin R hk cM q.2⟩
 ·exact q.elim
theorem uv:FW X (binaryOp .Mod) Wc:=by
 refine lK SQ ?_
 rintro x y H Q ⟨ρ,S,a,b,k,R,ra,rb,q,hk⟩
 unfold Wc at q
 split at q
 ·exact⟨_,_,bE ra,bE rb,q.1,fin R hk cM q.2⟩
 ·exact q.elim
theorem QF {op:CmpOp}{f:Int->Int->Bool}(h:qF X (compareOp op) (R7 fun i j=>.bl (f i j))):FW X (compareOp op) (PM f):=by
 refine lK h ?_
 rintro x y H Q ⟨ρ,S,a,b,k,R,ra,rb,q,hk⟩
 unfold PM at q
 split at q
 ·exact⟨_,_,bE ra,bE rb,fin R hk cM q⟩
 ·exact q.elim
theorem G8:FW X (compareOp .Lt) (PM fun i j=>decide (i < j)):=QF VZ
theorem G9:FW X (compareOp .Gt) (PM fun i j=>decide (j < i)):=QF V0
noncomputable def OA (K:PySem.W.Frag):R2:=fun x y H Q=>∃ a b xs,x=.ref a/\y=.ref b/\vo K H a xs/\vo K H b []/\Q (.bl (!decide (xs=[]))) H
theorem JS (hu:X.A.units < cLine):qF X (compareOp .NotEq) (OA X.K):=by
 intro pins s σ H x y v u Q I rx ry h
 obtain⟨a,b,xs,rfl,rfl,ha,hb,q⟩:=h
 cases rx
 cases ry
 obtain⟨us,r1,p1,_⟩:=I.tuple ha
 obtain⟨vs,r2,p2,_⟩:=I.tuple hb
 cases r2
 refine SeqAt.RcNeAt.tuples (A:=X.A) (e:=fun _=>true) (show s.heap.IsTuple a us.toArray from p1) (show s.heap.IsTuple b ([]:List Value).toArray from p2) hu (fun j h1 h2=>absurd h2 (by simp)) _ _ _ _ ?_
 have e:(!((List.range (min us.toArray.size ([]:List Value).toArray.size)).all (fun _=>true) && us.toArray.size == ([]:List Value).toArray.size))=!decide (xs=[]):=by
  have l:=r1.length
  rw[rN,Bool.true_and]
  by_cases hx:xs=[]
  ·subst hx
   cases r1
   simp
  ·rw[decide_eq_false hx]
   have:us≠[]:=fun z=>hx (by rw[z] at l;exact List.length_eq_zero_iff.mp l)
   cases us with
   | nil=>exact absurd rfl this
   | cons _ _=>simp
 rw[e]
 exact⟨.bl _,H,I,rfl,q⟩
theorem fO (n:Nat)(hu:X.A.units+1+n < cLine):FW X (compareOp .Eq) (eq3 n false):=by
 have W5:X.A.units < cLine:=by omega
 refine lK (V1.or ((SR n hu).or ((MO W5).or (JU W5)))) ?_
 rintro x y H Q ⟨ρ,S,a,b,k,R,ra,rb,q,hk⟩
 unfold eq3 at q
 split at q
 ·rw[bE ra,bE rb]
  refine .inl ⟨q.1,fin R hk cM ?_⟩
  have:=q.2
  rwa [Bool.false_xor] at this
 ·obtain⟨p1,vs,e1,e2,e3⟩:=iS ra
  obtain⟨p2,ws,f1,f2,f3⟩:=iS rb
  rcases q with ⟨z,h1,h2⟩ | ⟨z,h2⟩
  ·subst z
   exact .inr (.inl ⟨p1,p2,vs,ws,e1,f1,.inr ⟨.of e2,.of f2⟩,uR oB n h1 e3 f3,fin R hk cM h2⟩)
  ·subst z
   have w:=f3.fX.mpr rfl
   subst w
   refine .inr (.inr (.inl ⟨p1,p2,vs,e1,f1,.of e2,.of f2,?_⟩))
   rw[Bool.false_xor] at h2
   rw[decide_eq_decide.mpr e3.fX]
   exact fin R hk cM h2
 ·obtain⟨l,m,h1,h2,q⟩:=q
  obtain⟨p1,vs,e1,e2,e3⟩:=gC R ra h1
  obtain⟨p2,ws,f1,f2,f3⟩:=gC R rb h2
  rcases q with ⟨z,g1,g2⟩ | ⟨z,g2⟩
  ·subst z
   exact .inr (.inl ⟨p1,p2,vs,ws,e1,f1,.inl ⟨.of e2,.of f2⟩,uR oB n g1 e3 f3,fin R hk cM g2⟩)
  ·subst z
   have w:=f3.fX.mpr rfl
   subst w
   refine .inr (.inr (.inr ⟨p1,p2,vs,e1,f1,.of e2,.of f2,?_⟩))
   rw[Bool.false_xor] at g2
   rw[decide_eq_decide.mpr e3.fX]
   exact fin R hk cM g2
theorem sX (n:Nat)(hu:X.A.units+1+n < cLine):FW X (compareOp .NotEq) (eq3 n true):=by
 have W5:X.A.units < cLine:=by omega
 refine lK (VY.or ((SN n hu).or ((JS W5).or (MN W5)))) ?_
 rintro x y H Q ⟨ρ,S,a,b,k,R,ra,rb,q,hk⟩
 unfold eq3 at q
 split at q
 ·rw[bE ra,bE rb]
  refine .inl ⟨q.1,fin R hk cM ?_⟩
  have:=q.2
  rwa [Bool.true_xor] at this
 ·obtain⟨p1,vs,e1,e2,e3⟩:=iS ra
  obtain⟨p2,ws,f1,f2,f3⟩:=iS rb
  rcases q with ⟨z,h1,h2⟩ | ⟨z,h2⟩
  ·subst z
   exact .inr (.inl ⟨p1,p2,vs,ws,e1,f1,.inr ⟨.of e2,.of f2⟩,uR oB n h1 e3 f3,fin R hk cM h2⟩)
  ·subst z
   have w:=f3.fX.mpr rfl
   subst w
   refine .inr (.inr (.inl ⟨p1,p2,vs,e1,f1,.of e2,.of f2,?_⟩))
   rw[Bool.true_xor] at h2
   rw[decide_eq_decide.mpr e3.fX]
   exact fin R hk cM h2
 ·obtain⟨l,m,h1,h2,q⟩:=q
  obtain⟨p1,vs,e1,e2,e3⟩:=gC R ra h1
  obtain⟨p2,ws,f1,f2,f3⟩:=gC R rb h2
  rcases q with ⟨z,g1,g2⟩ | ⟨z,g2⟩
  ·subst z
   exact .inr (.inl ⟨p1,p2,vs,ws,e1,f1,.inl ⟨.of e2,.of f2⟩,uR oB n g1 e3 f3,fin R hk cM g2⟩)
  ·subst z
   have w:=f3.fX.mpr rfl
   subst w
   refine .inr (.inr (.inr ⟨p1,p2,vs,e1,f1,.of e2,.of f2,?_⟩))
   rw[Bool.true_xor] at g2
   rw[decide_eq_decide.mpr e3.fX]
   exact fin R hk cM g2
theorem Pb {K:PySem.W.Frag}{G:Hp}{x:T}{w:V}(h:∀ y,x≠.v y)(r:Rp K G x w):w≠.fE:=by
 cases x with
 | v y=>exact absurd rfl (h y)
 | tup l=>unfold Rp at r;obtain⟨a,vs,e,_⟩:=r;rw[e];exact fun z=>nomatch z
 | lst l=>unfold Rp at r;obtain⟨a,vs,e,_⟩:=r;rw[e];exact fun z=>nomatch z
 | Eu l=>unfold Rp at r;obtain⟨a,vs,e,_⟩:=r;rw[e];exact fun z=>nomatch z
 | ins C ns l=>unfold Rp at r;obtain⟨a,dx,vs,e,_⟩:=r;rw[e];exact fun z=>nomatch z
theorem Pp {K:PySem.W.Frag}{ρ:List Addr}{S:bQ}{H:Hp}{k:KD}{Q:VK}{neg:Bool}{a b:D}{x y:V}(R:R3 K ρ S H)(hk:∀ v H',up K ρ H k v H'->Q v H')(ra:nK K ρ (res ρ H) a x)(rb:nK K ρ (res ρ H) b y)
  (q:Tz neg a b S k):y=.fE/\Q (.bl (xor neg (decide (x=.fE)))) H:=by
 unfold Tz at q
 split at q
 ·rw[bE ra];exact⟨bE rb,fin R hk cM q⟩
 ·rename_i h
  refine⟨bE rb,?_⟩
  rw[decide_eq_false (Pb (fun z e=>h z (by rw[e])) (show Rp _ _ _ _ from ra)),Bool.xor_false]
  exact fin R hk cM q
 ·obtain⟨p,_,e⟩:=ra
  refine⟨bE rb,?_⟩
  rw[decide_eq_false (by rw[e];exact fun z=>nomatch z),Bool.xor_false]
  exact fin R hk cM q
 ·exact q.elim
theorem zR:FW X (compareOp .IsNot) (Tz true):=lK O6 (by
 rintro x y H Q ⟨ρ,S,a,b,k,R,ra,rb,q,hk⟩
 have:=Pp R hk ra rb q
 rwa [Bool.true_xor] at this)
theorem J1:FW X (compareOp .In) (in3 false):=by
 refine lK JT ?_
 rintro x y H Q ⟨ρ,S,a,b,k,R,ra,rb,⟨z,l,vs,h1,h2,h3,h4,q⟩,hk⟩
 subst h1
 obtain⟨p,us,e1,e2,e3⟩:=Ac R rb h3
 obtain⟨f1,f2⟩:=A7 h4 e3
 subst f1
 rw[bE ra]
 rw[Bool.false_xor] at q
 exact⟨p,us,e1,e2,h2,f2,fin R hk cM q⟩
theorem Jb:FW X (compareOp .NotIn) (in3 true):=by
 refine lK DH ?_
 rintro x y H Q ⟨ρ,S,a,b,k,R,ra,rb,⟨z,l,vs,h1,h2,h3,h4,q⟩,hk⟩
 subst h1
 obtain⟨p,us,e1,e2,e3⟩:=Ac R rb h3
 obtain⟨f1,f2⟩:=A7 h4 e3
 subst f1
 rw[bE ra]
 rw[Bool.true_xor] at q
 exact⟨p,us,e1,e2,h2,f2,fin R hk cM q⟩
end
end L3
namespace L3
open PySem L2 Hw
section
variable {X:Cx}{a b c e:Expr}{ta tb:gX}{tA tB:rQ}{rest:List Expr}{pos:Pos}
noncomputable def LN (t u:rQ):rQ:=fun δ S k=>t δ S fun c S1=>if c=true then u δ S1 k else k false S1
noncomputable def JG (t u:rQ):rQ:=fun δ S k=>t δ S fun c S1=>if c=true then k true S1 else u δ S1 k
noncomputable def Vf (t:rQ):rQ:=fun δ S k=>t δ S fun c S1=>k (!c) S1
theorem qR (ha:QT X a tA)(hb:QW X (.BoolOp .And (b::rest) pos) tB):QW X (.BoolOp .And (a::b::rest) pos) (LN tA tB) :=
 Qz (Sh ha hb) (by rintro σ H Q ⟨ρ,S,δ,k,R,D,q,hk⟩;exact ⟨ρ,S,δ,_,R,D,q,(by
  rintro c H1 ⟨ρ1,S1,g1,R1,q1⟩
  cases c with
  | true=>exact⟨ρ1,S1,δ,k,R1,D.gr g1,q1,fun z H2 u=>hk z H2 (u.gr g1)⟩
  | false=>exact hk _ _ ⟨ρ1,S1,g1,R1,q1⟩)⟩)
theorem Ay (ha:QT X a tA)(hb:QW X (.BoolOp .Or (b::rest) pos) tB):QW X (.BoolOp .Or (a::b::rest) pos) (JG tA tB) :=
 Qz (VP ha hb) (by rintro σ H Q ⟨ρ,S,δ,k,R,D,q,hk⟩;exact ⟨ρ,S,δ,_,R,D,q,(by
  rintro c H1 ⟨ρ1,S1,g1,R1,q1⟩
  cases c with
  | false=>exact⟨ρ1,S1,δ,k,R1,D.gr g1,q1,fun z H2 u=>hk z H2 (u.gr g1)⟩
  | true=>exact hk _ _ ⟨ρ1,S1,g1,R1,q1⟩)⟩)
theorem pZ (ha:QT X a tA):QW X (.BoolOp .And [a] pos) tA:=OJ ha
theorem xZ (ha:QT X a tA):QW X (.BoolOp .Or [a] pos) tA:=Sg ha
theorem qw (h:QW X e tA):QT X e tA:=h.pt
theorem R9 (ha:QT X a tA):QT X (.UnaryOp .Not a pos) (Vf tA) :=
 Mp (Sj ha) (by rintro σ H Q ⟨ρ,S,δ,k,R,D,q,hk⟩;exact ⟨ρ,S,δ,_,R,D,q,(by rintro c H1 ⟨ρ1,S1,g1,R1,q1⟩;exact hk _ _ ⟨ρ1,S1,g1,R1,q1⟩)⟩)
noncomputable def YK (t:rQ)(ta tb:gX):gX:=fun δ S k=>t δ S fun c S1=>if c=true then ta δ S1 k else tb δ S1 k
theorem VO (hc:QT X c tA)(ha:QE X a ta)(hb:QE X b tb):QE X (.IfExp c a b pos) (YK tA ta tb) :=
 gq (MD hc ha hb) (by rintro σ H Q ⟨ρ,S,δ,k,R,D,q,hk⟩;exact ⟨ρ,S,δ,_,R,D,q,(by
  rintro c H1 ⟨ρ1,S1,g1,R1,q1⟩
  cases c with
  | true=>exact⟨ρ1,S1,δ,k,R1,D.gr g1,q1,fun z H2 u=>hk z H2 (u.gr g1)⟩
  | false=>exact⟨ρ1,S1,δ,k,R1,D.gr g1,q1,fun z H2 u=>hk z H2 (u.gr g1)⟩)⟩)
theorem GP {t:gX}(h:QE X e t)(he:∀ whole,isTrue e X.env whole=(do let v <- whole;standAt e.pos;holding [v] (truthy v)):=by intro _;rfl):QT X e (GA t):=Mp (Si h he) (CH fun _ _ _ z=>z)
noncomputable def LI:BB:=fun _ S k=>k [] S
noncomputable def RC (ta:gX)(tr:BB):BB:=fun δ S k=>ta δ S fun x S1=>tr δ S1 fun xs S2=>k (x::xs) S2
variable {es:List Expr}{te:gX}{t:BB}
theorem aa:QA X [] LI:=QD MJ (by rintro σ H Q ⟨ρ,S,δ,k,R,D,q,hk⟩;exact hk _ _ ⟨ρ,S,[],.refl,R,.nil,q⟩)
theorem qa (ha:QE X e te)(hr:QA X es t)(h:notStar e=true:=by rfl):QA X (e::es) (RC te t) :=
 QD (MK ha hr h) (by rintro σ H Q ⟨ρ,S,δ,k,R,D,q,hk⟩;exact ⟨ρ,S,δ,_,R,D,q,(by rintro v H1 ⟨ρ1,S1,d,g1,R1,r1,q1⟩;exact   ⟨ρ1,S1,δ,_,R1,D.gr g1,q1,(by rintro w H2 ⟨ρ2,S2,ds,g2,R2,r2,q2⟩;exact hk _ _ ⟨ρ2,S2,d::ds,g1.trans g2,R2,.cons (r1.gr g2) r2,q2⟩)⟩)⟩)
noncomputable def ts?:List D->Option (List T)
 | []=>some []
 | .t x::r=>match ts? r with
  | some l=>some (x::l)
  | none=>none
 | .ob _::_=>none
theorem C9 {K:PySem.W.Frag}{ρ:List Addr}{G:Hp}:∀ {ds:List D} {l:List T} {vs:List V},ts? ds=some l->ie K ρ G ds vs->cZ K G l vs
 | [],l,_,e,.nil=>by
  have e:some []=some l:=e
  cases e
  exact .nil
 | .t x::r,l,_,e,.cons h t=>by
  cases q:ts? r with
  | none=>unfold ts? at e;rw[q] at e;cases e
  | some m =>
   unfold ts? at e;rw[q] at e
   have e:some (x::m)=some l:=e
   cases e
   exact .cons h (C9 q t)
 | .ob n::r,l,_,e,.cons h t=>by cases (show none=some l from e)
noncomputable def Vb (t:BB):gX:=fun δ S k=>t δ S fun ds S1=>∃ l,ts? ds=some l/\l.length<=sizeLine/\k (.tup l) S1
noncomputable def Vl (t:BB):gX:=fun δ S k=>t δ S fun ds S1=>∃ l,ts? ds=some l/\l.length<=sizeLine/\k (.lst l) S1
noncomputable def Vk (t:BB):gX:=fun δ S k=>t δ S fun ds S1=>∃ l,ts? ds=some l/\l.length<=sizeLine/\k (.ob S1.length) (S1++[.lst l])
theorem aO {x1}(h:QA X es t):QE X (.Tuple es x1 pos) (Vb t) :=
 gq (SD h) (by rintro σ H Q ⟨ρ,S,δ,k,R,D,q,hk⟩;exact ⟨ρ,S,δ,_,R,D,q,(by
  rintro vs H1 ⟨ρ1,S1,ds,g1,R1,r1,l,e,z,q1⟩
  have r2:=C9 e r1
  exact⟨by rw[<- r2.len];exact z,Py R1 (fun v H' u=>hk v H' (u.gr g1)) r2 q1⟩)⟩)
theorem bW (h:QA X es t):QE X (.List es pos) (Vl t) :=
 gq (GX h) (by rintro σ H Q ⟨ρ,S,δ,k,R,D,q,hk⟩;exact ⟨ρ,S,δ,_,R,D,q,(by
  rintro vs H1 ⟨ρ1,S1,ds,g1,R1,r1,l,e,z,q1⟩
  have r2:=C9 e r1
  exact⟨by rw[<- r2.len];exact z,Fy R1 (fun v H' u=>hk v H' (u.gr g1)) r2 q1⟩)⟩)
theorem jd (h:QA X es t):QE X (.List es pos) (Vk t) :=
 gq (GX h) (by rintro σ H Q ⟨ρ,S,δ,k,R,D,q,hk⟩;exact ⟨ρ,S,δ,_,R,D,q,(by
  rintro vs H1 ⟨ρ1,S1,ds,g1,R1,r1,l,e,z,q1⟩
  have r2:=C9 e r1
  exact⟨by rw[<- r2.len];exact z,PB R1 (fun v H' u=>hk v H' (u.gr g1)) r2 q1⟩)⟩)
end
noncomputable def iq (S:bQ):D->Option (Addr×List Str×List D)
 | .t (.ins C ns l)=>some (C,ns,l.map .t)
 | .ob n=>match S[n]? with
  | some (.ins C ns l)=>some (C,ns,l)
  | _=>none
 | _=>none
theorem ie.len {K:PySem.W.Frag}{ρ:List Addr}{G:Hp}{l:List D}{vs:List V}(r:ie K ρ G l vs):l.length=vs.length:=Paired.length r
theorem ie.look {K:PySem.W.Frag}{ρ:List Addr}{G:Hp}:∀ {ns:List Str} {l:List D} {vs:List V} {f:Str} {x:D},ie K ρ G l vs->(ns.zip l).lookup f=some x->∃ v,(ns.zip vs).lookup f=some v/\nK K ρ G x v
 | [],l,vs,f,x,_,k=>by simp at k
 | n::ns,[],vs,f,x,_,k=>by simp at k
 | n::ns,y::l,_,f,x,.cons (b:=v) (l₂:=vr) e2 e3,k=>by
  rw[List.zip_cons_cons,List.lookup_cons] at k
  rw[List.zip_cons_cons,List.lookup_cons]
  cases q:(f == n) with
  | true=>rw[q] at k;cases k;exact⟨v,rfl,e2⟩
  | false=>rw[q] at k;exact ie.look e3 k
section
variable {K:PySem.W.Frag}{ρ:List Addr}{S:bQ}{H:Hp}
theorem Hv (R:R3 K ρ S H):∀ {d:D} {v:V} {C:Addr} {ns:List Str} {l:List D},nK K ρ (res ρ H) d v->iq S d=some (C,ns,l) ->
  ∃ a dx vs,v=.ref a/\H a=some (.ins C dx (ns.zip vs))/\ns.length=vs.length/\iB K C ns/\ie K ρ (res ρ H) l vs
 | .t (.ins C' ns' l'),v,C,ns,l,r,e=>by
  have e:some (C',ns',l'.map D.t)=some (C,ns,l):=e
  cases e
  have r:Rp _ _ _ _:=r
  unfold Rp at r
  obtain⟨a,dx,vs,e1,e2,e3,e4,e5⟩:=r
  exact⟨a,dx,vs,e1,oB _ _ e2,e3,e4,ie.of e5⟩
 | .t (.v _),_,_,_,_,_,e=>nomatch e
 | .t (.tup _),_,_,_,_,_,e=>nomatch e
 | .t (.lst _),_,_,_,_,_,e=>nomatch e
 | .t (.Eu _),_,_,_,_,_,e=>nomatch e
 | .ob n,v,C,ns,l,⟨a,ha,r⟩,e=>by
  have e:(match S[n]? with | some (.ins C ns l)=>some (C,ns,l) | _=>none)=some (C,ns,l):=e
  cases q:S[n]? with
  | none=>rw[q] at e;cases e
  | some o =>
   rw[q] at e
   cases o with
   | ins C' ns' m =>
    have e:some (C',ns',m)=some (C,ns,l):=e
    cases e
    obtain⟨dx,vs,h1,h2,h3,h4⟩:=R.ok n a _ ha q
    exact⟨a,dx,vs,r,h1,h2,h3,h4⟩
   | yQ m=>cases e
   | lst m=>cases e
end
section
variable {X:Cx}{o e:Expr}{es:List Expr}{ta tv:gX}{t:BB}{f m:Str}{pos apos pos':Pos}
noncomputable def Vo (ta:gX)(f:Str):gX:=fun δ S k=>ta δ S fun d S1=>∃ C ns l x,iq S1 d=some (C,ns,l)/\(ns.zip l).lookup f=some x/\k x S1
theorem Fg {α:Type}:∀ {ns:List Str} {l:List α} {f:Str} {x:α},(ns.zip l).lookup f=some x->f∈ns
 | [],l,f,x,h=>by simp at h
 | n::ns,[],f,x,h=>by simp at h
 | n::ns,y::l,f,x,h=>by
  rw[List.zip_cons_cons,List.lookup_cons] at h
  cases q:(f == n) with
  | true=>exact List.mem_cons.mpr (.inl (eq_of_beq q))
  | false=>rw[q] at h;exact List.mem_cons_of_mem _ (Fg h)
theorem aK (he:QE X e ta)(hb:attributeBase e f X.env (eval e X.env)=eval e X.env):QE X (.Attribute e f pos) (Vo ta f) :=
 gq (SH he hb) (by rintro σ H Q ⟨ρ,S,δ,k,R,D,q,hk⟩;exact ⟨ρ,S,δ,_,R,D,q,(by
  rintro v H1 ⟨ρ1,S1,d,g1,R1,r1,C,ns,l,x,h1,h2,q1⟩
  obtain⟨a,dx,vs,e1,e2,e3,e4,e5⟩:=Hv R1 r1 h1
  obtain⟨w,e6,e7⟩:=ie.look e5 h2
  exact⟨a,C,dx,_,w,e1,e2,e4.cls,e4.no f (Fg h2),e6,hk _ _ ⟨ρ1,S1,x,g1,R1,e7,q1⟩⟩)⟩)
noncomputable abbrev fD:=List D->bQ->KD->Prop
noncomputable def bA (K:PySem.W.Frag)(sp:fD):Sp:=fun vs H Q _=>∃ ρ S ds k,R3 K ρ S H/\ie K ρ (res ρ H) ds vs/\sp ds S k/\∀ v H',up K ρ H k v H'->Q v H'
noncomputable def GD (sp:fD)(t:BB):gX:=fun δ S k=>t δ S fun ds S1=>sp ds S1 k
variable {k:Nat}{x:Str}{ps:List Str}{sp:fD}{p:Pos}{C:Addr}
theorem M4 {K:PySem.W.Frag}{ρ ρ1:List Addr}{S1:bQ}{H H1:Hp}{kk:KD}{Q:VK}{E:XK}{ds:List D}{vs:List V}(g1:Gr ρ H ρ1 H1)(R1:R3 K ρ1 S1 H1)(r1:ie K ρ1 (res ρ1 H1) ds vs)(q1:sp ds S1 kk)(hk:∀ v H',up K ρ H kk v H'->Q v H'):bA K sp vs H1 Q E :=
 ⟨ρ1,S1,ds,kk,R1,r1,q1,fun v H' u=>hk v H' (u.gr g1)⟩
theorem ai (F:Dn X.prog X.w X.K X.mg X.base k x ps (bA X.K sp))(hr:fZ k X.A)(hg:Gl X x)(ha:QA X (e::es) t)(h1:notStar e=true:=by rfl)(h2:es.all notStar=true:=by rfl)(hdb:(x == ("__debug__":Str))=false:=by decide) :
  QE X (.Call (.Name x p) (e::es) [] pos) (GD sp t):=by
 obtain⟨f,fd,F,hm,hk,hb⟩:=F
 refine gq (MG F hr hg hm hk hb .nil E2 ha h1 h2 hdb) fun σ H Q ⟨ρ,S,δ,k,R,D,q,hk⟩=>⟨ρ,S,δ,_,R,D,q,fun v H1 ⟨ρ1,S1,d,g1,R1,r1,q1⟩=>?_⟩
 show bA X.K sp (v++[]) H1 Q E0
 rw[List.append_nil]
 exact M4 g1 R1 r1 q1 hk
theorem OI (F:Dn X.prog X.w X.K X.mg X.base k x ps (bA X.K sp))(hr:fZ k X.A)(hg:Gl X x)(hdb:(x == ("__debug__":Str))=false:=by decide):QE X (.Call (.Name x p) [] [] pos) (GD sp LI):=by
 obtain⟨f,fd,F,hm,hk,hb⟩:=F
 exact gq (MI F hr hg hm hk hb .nil E2 hdb) (by rintro σ H Q ⟨ρ,S,δ,k,R,D,q,hk⟩;exact ⟨ρ,S,[],k,R,.nil,q,hk⟩)
noncomputable def Ms (P:Program)(w:World)(K:PySem.W.Frag)(mg:Str->Option Value)(base:Heap)(k:Nat)(n:Nat)(cl:Nat->Addr)(m:Str)(ps:List Str)(sp:Nat->fD):Prop :=
 ∀ j,j < n->Mt P w K mg base k (cl j) m ps (bA K (sp j))
noncomputable def Rx (n:Nat)(cl:Nat->Addr)(m:Str)(sp:Nat->fD)(ta:gX)(t:BB):gX:=fun δ S k=>ta δ S fun d S1=>∃ j ns l,j < n/\iq S1 d=some (cl j,ns,l)/\ns.contains m=false/\t δ S1 fun ds S2=>sp j (d::ds) S2 k
variable {n:Nat}{cl:Nat->Addr}{VB:Nat->fD}
theorem DP {ns:List Str}{vs:List V}(h:ns.contains m=false):(ns.zip vs).lookup m=none:=cZ.DP (by
 intro z
 rw[List.contains_iff_mem.mpr z] at h
 cases h)
theorem bg {pl:Sem Bool}(he:QE X o ta)(M:Ms X.prog X.w X.K X.mg X.base k n cl m ps VB)(hr:fZ k X.A)
  (ht:eval (.Call (.Attribute o m apos) [] [] pos) X.env=(do
   let ov <- eval o X.env
   standAt apos.atName
   let (f,first) <- holding [ov] (getMethod ov m pl)
   callWith pos f first (backTo pos (starEach [] X.env)) (backToKw pos (keywordEach [] X.env))):=by rfl) :
  QE X (.Call (.Attribute o m apos) [] [] pos) (Rx n cl m VB ta LI):=by
 rintro pins s σ H Q I ⟨ρ,S,δ,k,R,D,q,hk⟩
 refine PySem.W.methodCall_KW (pl:=pl) (gm (he pins s σ H _ I ⟨ρ,S,δ,_,R,D,q,fun v H' z=>z⟩) ?_) ht
 rintro u s1 ⟨x,H1,I1,rx,ρ1,S1,d,g1,R1,r1,j,ns,l,hj,i1,hm0,q1⟩
 obtain⟨a,dx,vs,e1,e2,e3,e4,e5⟩:=Hv R1 r1 i1
 subst e1
 obtain rfl:u=Value.ref a:=rx
 obtain⟨f,fd,F,hm,hb⟩:=M j hj
 refine Hy I1 e2 e4.cls hm (DP hm0) ?_
 refine PySem.W.callWith_K0 (first:=[.ref a]) I1.xQ hm.kp (DB (us:=[.ref a]) (vs:=[.ref a]) F hr hb .nil E2 I1 (.cons rfl .nil) ?_)
 exact⟨ρ1,S1,[d],k,R1,.cons r1 .nil,q1,fun v H' u=>hk v H' (u.gr g1)⟩
end
noncomputable def UU (n:Nat):D->Prop
 | .t _=>True
 | .ob m=>m < n
noncomputable def FH (n:Nat):O->Prop
 | .ins _ _ l=>∀ d∈l,UU n d
 | _=>True
section
variable {K:PySem.W.Frag}{ρ e:List Addr}{S:bQ}{H:Hp}{G G':Hp}
theorem qY {α β:Type}{F:α->β->Prop}:∀ {l:List α} {m:List β},Paired F l m->∀ a∈l,∃ b,F a b
 | _,_,.nil,a,h=>nomatch h
 | _,_,.cons r t,a,h=>by
  rcases List.mem_cons.mp h with rfl | h
  ·exact⟨_,r⟩
  ·exact qY t a h
theorem nK.cl {d:D}{w:V}(r:nK K ρ G d w):UU ρ.length d:=by
 cases d with
 | t x=>trivial
 | ob n=>obtain⟨a,h,_⟩:=r;exact(List.getElem?_eq_some_iff.mp h).1
theorem HW.cl {h:Option HO}:∀ {o:O},HW K ρ G h o->FH ρ.length o
 | .lst l,_=>trivial
 | .yQ l,_=>trivial
 | .ins C ns l,⟨dx,vs,_,_,_,r⟩=>fun d hd=>let ⟨_,q⟩:=qY r d hd;q.cl
theorem R3.cl (r:R3 K ρ S H):∀ o∈S,FH S.length o:=fun o ho=>by
 obtain⟨n,hn⟩:=List.mem_iff_getElem?.mp ho
 have hl:n < ρ.length:=by rw[r.len];exact(List.getElem?_eq_some_iff.mp hn).1
 rw[<- r.len]
 exact(r.ok n ρ[n] o (List.getElem?_eq_getElem hl) hn).cl
theorem nK.pop (le:Le G G'){d:D}{w:V}(r:nK K (ρ++e) G d w)(c:UU ρ.length d):nK K ρ G' d w:=by
 cases d with
 | t x=>exact Rp.le le r
 | ob n =>
  obtain⟨a,h,q⟩:=r
  refine⟨a,?_,q⟩
  rw[List.getElem?_append_left (show n < ρ.length from c)] at h
  exact h
theorem yL {α β:Type}{F F':α->β->Prop}:∀ {l:List α} {m:List β},(∀ a∈l,∀ b,F a b->F' a b)->Paired F l m->Paired F' l m
 | _,_,_,.nil=>.nil
 | _,_,h,.cons r t=>.cons (h _ List.mem_cons_self _ r) (yL (fun a ha b=>h a (List.mem_cons_of_mem _ ha) b) t)
theorem HW.pop (le:Le G G'){h:Option HO}:∀ {o:O},HW K (ρ++e) G h o->FH ρ.length o->HW K ρ G' h o
 | .lst l,⟨vs,e1,e2⟩,_=>⟨vs,e1,e2.le le⟩
 | .yQ l,⟨vs,e1,e2⟩,_=>⟨vs,e1,m6 (fun _ _ z=>⟨z.1,z.2.le le⟩) e2⟩
 | .ins C ns l,⟨dx,vs,e1,e2,e3,e4⟩,c=>⟨dx,vs,e1,e2,e3,yL (fun a ha b z=>z.pop le (c a ha)) e4⟩
theorem pY:Le (res (ρ++e) H) (res ρ H):=fun a o h=>by
 obtain⟨h1,h2⟩:=res_some h
 exact qQ (fun z=>h1 (List.mem_append_left _ z)) h2
theorem R3.pop {S':bQ}(r:R3 K (ρ++e) (S++S') H)(hl:ρ.length=S.length)(c:∀ o∈S,FH S.length o):R3 K ρ S H:=by
 refine⟨hl,(List.nodup_append.mp r.nd).1,fun n a o h1 h2=>?_⟩
 have l1:=(List.getElem?_eq_some_iff.mp h1).1
 have l2:=(List.getElem?_eq_some_iff.mp h2).1
 have q:=r.ok n a o (by rw[List.getElem?_append_left l1];exact h1) (by rw[List.getElem?_append_left l2];exact h2)
 exact q.pop pY (by rw[hl];exact c o (List.mem_of_getElem? h2))
end
section
variable {X:Cx}{o e:Expr}{es:List Expr}{ta tv:gX}{t:BB}{f m x:Str}{pos apos pos' p:Pos}{k:Nat}{ps:List Str}{sp:fD}{C:Addr}
structure Mkr (P:Program)(w:World)(K:PySem.W.Frag)(mg:Str->Option Value)(base:Heap)(k:Nat)(C:Addr)(x:Str)(ps:List Str)(sp:fD):Prop where
 mr:Mr P w K mg base k C ps (bA K sp)
 ok:iB K C []
 mg:mg x=some (.ref C)
noncomputable def QL (C:Addr)(S1:bQ)(k:KD)(d:D)(S2:bQ):Prop:=d=.fE/\∃ ns l,S2=S1++[.ins C ns (l.map .t)]/\k (.t (.ins C ns l)) S1
noncomputable def LK (C:Addr)(sp:fD)(t:BB):gX:=fun δ S k=>t δ S fun ds S1=>sp (.ob S1.length::ds) (S1++[.ins C [] []]) (QL C S1 k)
theorem Hj {K:PySem.W.Frag}{ρ:List Addr}{S:bQ}{H:Hp}(R:R3 K ρ S H)(ok:iB K C []){x dx:Addr}(hx:H x=none)(hd:H dx=none)(ne:dx≠x) :
  R3 K (ρ++[x]) (S++[.ins C [] []]) (upd (upd H dx (.own x)) x (.ins C dx []))/\Gr ρ H (ρ++[x]) (upd (upd H dx (.own x)) x (.ins C dx [])):=by
 obtain⟨R1,g1,_⟩:=R.new (o:=.own x) hd
 have hx1:upd H dx (.own x) x=none:=by rw[bL (Ne.symm ne)];exact hx
 obtain⟨R2,g2⟩:=R1.push (o:=.ins C dx []) (u:=.ins C [] []) hx1 ⟨dx,[],rfl,rfl,ok,.nil⟩
 exact⟨R2,g1.trans g2⟩
theorem Se (F:Mkr X.prog X.w X.K X.mg X.base k C x ps sp)(hr:fZ (k+1) X.A)(hg:Gl X x)(ha:QA X (e::es) t)(h1:notStar e=true:=by rfl)(h2:es.all notStar=true:=by rfl)(hdb:(x == ("__debug__":Str))=false:=by decide) :
  QE X (.Call (.Name x p) (e::es) [] pos) (LK C sp t):=by
 obtain⟨f,fd,F',hM,hb⟩:=F.mr
 refine gq (MC hM F' hr hg F.mg hb .nil E2 ha h1 h2 hdb) fun σ H Q ⟨ρ,S,δ,k,R,D,q,hk⟩=>⟨ρ,S,δ,_,R,D,q,fun vs H1 ⟨ρ1,S1,ds,g1,R1,r1,q1⟩ y dy hy hdy ne=>?_⟩
 obtain⟨R2,g2⟩:=Hj R1 F.ok hy hdy ne
 refine⟨ρ1++[y],S1++[.ins C [] []],.ob S1.length::ds,_,R2,.cons ⟨y,by rw[<- R1.len];simp,rfl⟩ ?_,q1,?_⟩
 ·rw[List.append_nil];exact r1.gr g2
 ·rintro v H3 ⟨ρ3,S3,d,g3,Cn,r3,rfl,ns,l,rfl,q3⟩
  refine⟨bE r3,?_⟩
  have hρ:ρ3=ρ1++[y]:=by
   obtain⟨ex,he⟩:=g3.ext
   have:=Cn.len
   rw[he] at this
   simp only[List.length_append,List.length_singleton] at this
   have l0:=R1.len
   have:ex=[]:=List.length_eq_zero_iff.mp (by omega)
   rw[he,this,List.append_nil]
  subst hρ
  have R4:R3 X.K ρ1 S1 H3:=Cn.pop R1.len R1.cl
  have g4:Gr ρ1 H1 ρ1 H3:=⟨⟨[],by simp⟩,(g2.le.trans g3.le).trans pY⟩
  refine hk _ _ ⟨ρ1,S1,.t (.ins C ns l),g1.trans g4,R4,?_,q3⟩
  obtain⟨dx,ws,h3,h4,h5,h6⟩:=Cn.ok S1.length y (.ins C ns (l.map .t)) (by rw[<- R1.len];simp) (by simp)
  show Rp _ _ _ _
  unfold Rp
  have ny:y ∉ ρ1:=R1.fresh hy
  exact⟨y,dx,ws,rfl,qQ ny h3,h4,h5,(ie.t h6).le pY⟩
noncomputable def pN (f:Str):List Str->List Str
 | []=>[f]
 | g::r=>if g=f then g::r else g::pN f r
noncomputable def pD {α:Type}(f:Str)(y:α):List Str->List α->List α
 | [],_=>[y]
 | _::_,[]=>[]
 | g::r,x::l=>if g=f then y::l else x::pD f y r l
theorem EY (f:Str)(y:V):∀ {ns:List Str} {vs:List V},ns.length=vs.length->qD f y (ns.zip vs)=(pN f ns).zip (pD f y ns vs)/\(pN f ns).length=(pD f y ns vs).length
 | [],[],_=>⟨rfl,rfl⟩
 | [],_::_,h=>by simp at h
 | _::_,[],h=>by simp at h
 | g::ns,v::vs,h=>by
  have h':ns.length=vs.length:=by simpa using h
  obtain⟨i1,i2⟩:=EY f y h'
  rw[List.zip_cons_cons]
  unfold qD pN pD
  by_cases e:g=f
  ·rw[if_pos e,if_pos e,if_pos e];exact⟨rfl,by simpa using h'⟩
  ·rw[if_neg e,if_neg e,if_neg e,i1];exact⟨rfl,by simpa using i2⟩
theorem MM {K:PySem.W.Frag}{ρ:List Addr}{G:Hp}{d:D}{v:V}(r:nK K ρ G d v):∀ {ns:List Str} {l:List D} {vs:List V},ie K ρ G l vs->ie K ρ G (pD f d ns l) (pD f v ns vs)
 | [],_,_,_=>by unfold pD;exact .cons r .nil
 | _::_,[],_,.nil=>by unfold pD;exact .nil
 | g::ns,_::_,_,.cons h t=>by
  unfold pD
  by_cases e:g=f
  ·rw[if_pos e,if_pos e];exact .cons r t
  ·rw[if_neg e,if_neg e];exact .cons h (MM r t)
theorem ML {g:Str}:∀ {ns:List Str},g∈pN f ns->g=f∨g∈ns
 | [],h=>.inl (List.mem_singleton.mp h)
 | n::ns,h=>by
  unfold pN at h
  by_cases e:n=f
  ·rw[if_pos e] at h;exact .inr h
  ·rw[if_neg e] at h
   rcases List.mem_cons.mp h with h | h
   ·exact .inr (List.mem_cons.mpr (.inl h))
   ·rcases ML h with h | h
    ·exact .inl h
    ·exact .inr (List.mem_cons_of_mem _ h)
noncomputable def VE (K:PySem.W.Frag)(ta tv:gX)(f:Str):vY:=fun E δ S=>tv δ S fun y S1=>ta δ S1 fun x S2=>∃ n C ns l,x=.ob n/\S2[n]?=some (.ins C ns l)/\aT K C f/\ns.length < 1000/\E.nx δ (S2.set n (.ins C (pN f ns) (pD f y ns l)))
theorem bG {value:Expr}(ha:QE X o ta)(hv:QE X value tv)(hs:swapsWith value (some (.Attribute o f pos')) pos.line X.env=pure false):QS X (.Assign [.Attribute o f pos'] value pos) (VE X.K ta tv f) :=
 oR (Sq ha hv hs) fun D σ H ⟨ρ,S,δ,E,R,RS,q,eu⟩=>⟨ρ,S,δ,_,R,RS,q,fun v H1 ⟨ρ1,S1,d,g1,R1,r1,q1⟩=>⟨ρ1,S1,δ,_,R1,RS.gr g1,q1,(by
  rintro w H2 ⟨ρ2,S2,d2,g2,R2,r2,n,C,ns,l,h1,h2,h3,h4,q2⟩
  subst h1
  obtain⟨a,ha,e⟩:=r2
  obtain⟨dx,vs,e1,e2,e3,e4⟩:=R2.ok n a _ ha h2
  refine⟨a,C,dx,ns.zip vs,e,e1,e3.cls,h3,by rw[List.length_zip];omega,?_⟩
  obtain⟨i1,i2⟩:=EY f v e2
  rw[i1]
  obtain⟨R4,g4⟩:=R2.put (o:=.ins C dx ((pN f ns).zip (pD f v ns vs))) (u:=.ins C (pN f ns) (pD f d ns l)) ha
   ⟨dx,_,rfl,i2,⟨e3.cls,fun g hg=>by rcases ML hg with z | z;rw[z];exact h3;exact e3.no g z,e3.ca,e3.cg,e3.ct,e3.cm⟩,MM (r1.gr g2) e4⟩
  exact eu.nx _ _ ⟨ρ2,_,δ,(g1.trans g2).trans g4,R4,(RS.gr (g1.trans g2)).gr g4,q2⟩)⟩⟩
end
noncomputable abbrev Lu:=List D->bQ->KD->Prop
noncomputable def liC (K:PySem.W.Frag)(r:Lu):List V->Hp->VK->Prop:=fun vs H Q=>∃ ρ S ds k,R3 K ρ S H/\ie K ρ (res ρ H) ds vs/\r ds S k/\∀ v H',up K ρ H k v H'->Q v H'
noncomputable def Call3 (X:Cx)(f:Value)(r:Lu):Prop:=jk X f (liC X.K r)
theorem oj {X:Cx}{f:Value}{r r':List V->Hp->VK->Prop}(h:jk X f r)(m:∀ vs H Q,r' vs H Q->r vs H Q):jk X f r':=fun pins s σ H xs us Q I rx q=>h pins s σ H xs us Q I rx (m _ _ _ q)
theorem ie.one {K:PySem.W.Frag}{ρ:List Addr}{G:Hp}{d:D}{vs:List V}(r:ie K ρ G [d] vs):∃ v,vs=[v]/\nK K ρ G d v:=by
 cases r with
 | cons h t=>cases t;exact⟨_,rfl,h⟩
theorem ie.two {K:PySem.W.Frag}{ρ:List Addr}{G:Hp}{d e:D}{vs:List V}(r:ie K ρ G [d,e] vs):∃ v w,vs=[v,w]/\nK K ρ G d v/\nK K ρ G e w:=by
 cases r with
 | cons h t =>
  cases t with
  | cons h2 t2=>cases t2;exact⟨_,_,rfl,h,h2⟩
noncomputable def Th:Lu
 | [.t (.v (.str z))],S,k=>z.length<=sizeLine/\k (.int z.length) S
 | [d],S,k=>∃ l,sq S d=some l/\k (.int l.length) S
 | _,_,_=>False
noncomputable def LG:Lu
 | [d],S,k=>∃ l,sq S d=some l/\k (.tup l) S
 | _,_,_=>False
noncomputable def QN:Lu
 | [d],S,k=>∃ l,sq S d=some l/\k (.lst l) S
 | _,_,_=>False
noncomputable def W0:Lu
 | [.t (.v (.int i))],S,k=>k (.int i) S
 | [.t (.v (.bl b))],S,k=>k (.int (if b then 1 else 0)) S
 | _,_,_=>False
noncomputable def Vz:Lu
 | [.t (.v (.int i))],S,k=>i.natAbs.log2 < 1920/\k (.str (toString i)) S
 | _,_,_=>False
section
variable {X:Cx}{x:Str}{p pos apos cpos:Pos}{e o:Expr}{es:List Expr}{t:BB}{to:gX}{id ty:String}{r:Lu}
theorem cZ.strs {K:PySem.W.Frag}{G:Hp}:∀ {ns:List Str} {vs:List V},cZ K G (ns.map T.str) vs->vs=ns.map V.str
 | [],vs,r=>by unfold cZ at r;exact r
 | n::ns,vs,r=>by
  rw[List.map_cons] at r
  unfold cZ at r
  obtain⟨v,vr,e1,e2,e3⟩:=r
  unfold Rp at e2
  rw[e1,e2,cZ.strs e3];rfl
theorem cZ.ofStrs {K:PySem.W.Frag}{G:Hp}:∀ (ns:List Str),cZ K G (ns.map T.str) (ns.map V.str)
 | []=>.nil
 | n::ns=>.cons (by unfold Rp;rfl) (cZ.ofStrs ns)
noncomputable def RD (r:Lu)(t:BB):gX:=fun δ S k=>t δ S fun ds S1=>r ds S1 k
theorem Jv:∀ σ H Q,li X.K (RD r t) σ H Q->Vs (liC X.K r) (Zp X.K t) σ H Q:=(by rintro σ H Q ⟨ρ,S,δ,k,R,D,q,hk⟩;exact  ⟨ρ,S,δ,_,R,D,q,(by rintro v H1 ⟨ρ1,S1,d,g1,R1,r1,q1⟩;exact ⟨ρ1,S1,d,k,R1,r1,q1,fun w H2 u=>hk w H2 (u.gr g1)⟩)⟩)
theorem cj (hc:Call3 X (.builtin id) r)(hg:Gl X x)(hm:X.mg x=none)(hv:bootBuiltins x=some (.builtin id))(ha:QA X (e::es) t)(h1:notStar e=true:=by rfl)(h2:es.all notStar=true:=by rfl)(hn:x≠"__name__":=by decide)(hdb:(x == ("__debug__":Str))=false:=by decide) :
  QE X (.Call (.Name x p) (e::es) [] pos) (RD r t):=gq (JQ hc hg hm hv ha h1 h2 hn hdb) Jv
theorem aD (hc:Call3 X (.type ty) r)(hg:Gl X x)(hm:X.mg x=none)(hv:bootBuiltins x=some (.type ty))(ha:QA X (e::es) t)(h1:notStar e=true:=by rfl)(h2:es.all notStar=true:=by rfl)(hn:x≠"__name__":=by decide)(hdb:(x == ("__debug__":Str))=false:=by decide) :
  QE X (.Call (.Name x p) (e::es) [] pos) (RD r t):=gq (GY hc hg hm hv ha h1 h2 hn hdb) Jv
theorem j6:Call3 X (.builtin "len") Th:=by
 refine oj (Ea.or Eb) ?_
 rintro vs H Q ⟨ρ,S,ds,k,R,rd,q,hk⟩
 unfold Th at q
 split at q
 ·obtain⟨v,rfl,rv⟩:=rd.one
  rw[bE rv]
  exact .inl ⟨_,rfl,q.1,fin R hk cM q.2⟩
 ·obtain⟨v,rfl,rv⟩:=rd.one
  obtain⟨l,h1,h2⟩:=q
  obtain⟨a,us,e1,e2,e3⟩:=Ac R rv h1
  refine .inr ⟨a,us,by rw[e1],e2,?_⟩
  rw[<- e3.len]
  exact fin R hk cM h2
 ·exact q.elim
theorem LH {K:PySem.W.Frag}{ρ:List Addr}{S:bQ}{H:Hp}(R:R3 K ρ S H):∀ {d:D} {v:V} {l:List T},nK K ρ (res ρ H) d v->sq S d=some l ->
  (∃ a vs,v=.ref a/\rR K H a vs/\cZ K (res ρ H) l vs)∨(d=.tup l/\∃ a vs,v=.ref a/\vo K H a vs)
 | .t (.tup m),v,l,r,e=>by
  have e:some m=some l:=e
  cases e
  obtain⟨a,vs,e1,e2,e3⟩:=iS r
  exact .inr ⟨rfl,a,vs,e1,.of e2⟩
 | .t (.Eu m),v,l,r,e=>by
  have e:some m=some l:=e
  cases e
  have r:Rp _ _ _ _:=r
  unfold Rp at r
  obtain⟨a,vs,e1,e2,e3⟩:=r
  exact .inl ⟨a,vs,e1,GF oB e2,e3⟩
 | .t (.lst m),v,l,r,e=>by
  obtain⟨a,vs,e1,e2,e3⟩:=gC R r (show lq S (.t (.lst m))=some l from e)
  exact .inl ⟨a,vs,e1,.of e2,e3⟩
 | .t (.v _),_,_,_,e=>nomatch e
 | .t (.ins _ _ _),_,_,_,e=>nomatch e
 | .ob n,v,l,r,e=>by
  obtain⟨a,vs,e1,e2,e3⟩:=gC R r (show lq S (.ob n)=some l from e)
  exact .inl ⟨a,vs,e1,.of e2,e3⟩
theorem bq:Call3 X (.type "tuple") LG:=by
 refine oj Ci ?_
 rintro vs H Q ⟨ρ,S,ds,k,R,rd,q,hk⟩
 unfold LG at q
 split at q
 ·obtain⟨v,rfl,rv⟩:=rd.one
  obtain⟨l,h1,h2⟩:=q
  rcases LH R rv h1 with ⟨a,us,e1,e2,e3⟩ | ⟨hd,a,us,e1,e2⟩
  ·exact⟨a,us,by rw[e1],.inl ⟨e2,Py R hk e3 h2⟩⟩
  ·subst hd
   refine⟨a,us,by rw[e1],.inr ⟨e2,?_⟩⟩
   rw[<- e1]
   exact fin R hk rv h2
 ·exact q.elim
theorem rK:Call3 X (.type "list") QN:=by
 refine oj D9 ?_
 rintro vs H Q ⟨ρ,S,ds,k,R,rd,q,hk⟩
 unfold QN at q
 split at q
 ·obtain⟨v,rfl,rv⟩:=rd.one
  obtain⟨l,h1,h2⟩:=q
  obtain⟨a,us,e1,e2,e3⟩:=Ac R rv h1
  exact⟨a,us,by rw[e1],e2,Fy R hk e3 h2⟩
 ·exact q.elim
theorem Be:Call3 X (.type "int") W0:=by
 refine oj KZ ?_
 rintro vs H Q ⟨ρ,S,ds,k,R,rd,q,hk⟩
 unfold W0 at q
 split at q
 ·obtain⟨v,rfl,rv⟩:=rd.one
  rw[bE rv]
  exact .inl ⟨_,rfl,fin R hk cM q⟩
 ·obtain⟨v,rfl,rv⟩:=rd.one
  rw[bE rv]
  exact .inr ⟨_,rfl,fin R hk cM q⟩
 ·exact q.elim
theorem NT:Call3 X (.type "str") Vz:=by
 refine oj D7 ?_
 rintro vs H Q ⟨ρ,S,ds,k,R,rd,q,hk⟩
 unfold Vz at q
 split at q
 ·obtain⟨v,rfl,rv⟩:=rd.one
  rw[bE rv]
  exact⟨_,rfl,q.1,fin R hk cM q.2⟩
 ·exact q.elim
noncomputable def tyT:T->Option Value
 | .v .fE=>some (.type "NoneType")
 | .v (.bl _)=>some (.type "bool")
 | .v (.int _)=>some (.type "int")
 | .v (.str _)=>some (.type "str")
 | .tup _=>some (.type "tuple")
 | .lst _=>some (.type "list")
 | .ins C _ _=>some (.ref C)
 | _=>none
noncomputable def YA (S:bQ):D->Option Value
 | .t x=>tyT x
 | .ob n=>match S[n]? with
  | some (.lst _)=>some (.type "list")
  | some (.ins C _ _)=>some (.ref C)
  | some (.yQ _)=>some (.type "dict")
  | none=>none
theorem Oe {K:PySem.W.Frag}{ρ:List Addr}{S:bQ}{H:Hp}(R:R3 K ρ S H){d:D}{v:V}{u:Value}(r:nK K ρ (res ρ H) d v)(e:YA S d=some u):xK K H v u:=by
 cases d with
 | t x =>
  have e:tyT x=some u:=e
  cases x with
  | v y =>
   rw[bE r]
   cases y with
   | fE=>cases e;exact .fE
   | bl b=>cases e;exact .bl b
   | int i=>cases e;exact .int i
   | str z=>cases e;exact .str z
   | _=>cases e
  | tup l=>obtain⟨a,vs,e1,e2,e3⟩:=iS r;cases e;rw[e1];exact .tup e2
  | lst l=>obtain⟨a,vs,e1,e2,e3⟩:=gC R r rfl;cases e;rw[e1];exact .lst e2
  | Eu l=>cases e
  | ins C ns l=>obtain⟨a,dx,vs,e1,e2,e3,e4,e5⟩:=Hv R r rfl;cases e;rw[e1];exact .ins e2 e4.cls e4.ca e4.cg e4.ct e4.cm
 | ob n =>
  have e:(match S[n]? with | some (.lst _)=>some (Value.type "list") | some (.ins C _ _)=>some (.ref C) | some (.yQ _)=>some (.type "dict") | none=>none)=some u:=e
  obtain⟨a,ha,rfl⟩:=r
  cases q:S[n]? with
  | none=>rw[q] at e;cases e
  | some o =>
   rw[q] at e
   have z:=R.ok n a o ha q
   cases o with
   | lst l=>obtain⟨vs,h1,h2⟩:=z;cases e;exact .lst h1
   | yQ l=>obtain⟨vs,h1,h2⟩:=z;cases e;exact .dK h1
   | ins C ns l=>obtain⟨dx,vs,h1,h2,h3,h4⟩:=z;cases e;exact .ins h1 h3.cls h3.ca h3.cg h3.ct h3.cm
noncomputable def WY (K:PySem.W.Frag)(c:V)(u:Value):Lu
 | [d,.t (.v c')],S,k=>c'=c/\∃ t b,YA S d=some t/\PySem.W.kitOne K t u=some b/\k (.bl b) S
 | _,_,_=>False
theorem Rf {c:V}{u:Value}(hc:match c with | .ref _=>True | .ty _=>True | _=>False)(ru:RelV c u):Call3 X (.builtin "isinstance") (WY X.K c u):=by
 refine oj (NQ hc) ?_
 rintro vs H Q ⟨ρ,S,ds,k,R,rd,q,hk⟩
 unfold WY at q
 split at q
 ·obtain⟨v,w,rfl,rv,rw'⟩:=rd.two
  obtain⟨rfl,t,b,h1,h2,h3⟩:=q
  rw[bE rw']
  exact⟨v,t,u,b,rfl,Oe R rv h1,ru,h2,fin R hk cM h3⟩
 ·exact q.elim
end
noncomputable abbrev U4:=D->List D->bQ->KD->Prop
noncomputable def Wi (K:PySem.W.Frag)(r:U4):V->List V->Hp->VK->Prop:=fun v vs H Q=>∃ ρ S d ds k,R3 K ρ S H/\nK K ρ (res ρ H) d v/\ie K ρ (res ρ H) ds vs/\r d ds S k/\∀ v H',up K ρ H k v H'->Q v H'
noncomputable def xq (S:bQ):D->Option (List T)
 | .t (.tup l)=>some l
 | d=>lq S d
noncomputable def Uz:U4
 | .ob n,[.t x],S,k=>∃ l,S[n]?=some (.lst l)/\l.length < sizeLine/\k .fE (S.set n (.lst (l++[x])))
 | _,_,_,_=>False
noncomputable def ext3:U4
 | .ob n,[d],S,k=>∃ l m,S[n]?=some (.lst l)/\xq S d=some m/\l.length+m.length<=sizeLine/\k .fE (S.set n (.lst (l++m)))
 | _,_,_,_=>False
noncomputable def Nh:U4
 | .t (.v (.str sep)),[d],S,k=>∃ ss:List Str,lq S d=some (ss.map T.str)/\(ss.map (·.length)).sum+ss.length*sep.length<=16777216/\k (.str (Txt.join sep ss)) S
 | _,_,_,_=>False
section
variable {X:Cx}{x:Str}{p pos apos cpos:Pos}{e o i value:Expr}{es:List Expr}{t:BB}{to ti tv:gX}{id ty:String}{r:U4}
theorem MV {r r':V->List V->Hp->VK->Prop}(h:JC X id r)(m:∀ v vs H Q,r' v vs H Q->r v vs H Q):JC X id r':=fun pins s σ H x xs u us Q I rx rv q=>h pins s σ H x xs u us Q I rx rv (m _ _ _ _ q)
noncomputable def Yz (S:bQ)(ty:String):D->Prop
 | .t (.v (.str _))=>ty="str"
 | d=>ty="list"/\∃ l,lq S d=some l
noncomputable def LJ (ty:String)(r:U4)(to:gX)(t:BB):gX:=fun δ S k=>to δ S fun d S1=>Yz S1 ty d/\t δ S1 fun ds S2=>r d ds S2 k
theorem Od {K:PySem.W.Frag}{ρ:List Addr}{S:bQ}{H:Hp}(R:R3 K ρ S H){d:D}{v:V}(r:nK K ρ (res ρ H) d v)(e:Yz S ty d):Yy K ty v H:=by
 unfold Yz at e
 split at e
 ·rw[bE r];exact e
 ·obtain⟨e1,l,e2⟩:=e
  obtain⟨a,vs,h1,h2,h3⟩:=gC R r e2
  rw[h1]
  exact .inl ⟨e1,vs,.of h2⟩
theorem Pe:∀ σ H Q,li X.K (LJ ty r to t) σ H Q->YO X.K ty (Wi X.K r) (li X.K to) (Zp X.K t) σ H Q:=(by rintro σ H Q ⟨ρ,S,δ,k,R,D,q,hk⟩;exact  ⟨ρ,S,δ,_,R,D,q,(by rintro v H1 ⟨ρ1,S1,d,g1,R1,r1,h1,q1⟩;exact ⟨Od R1 r1 h1,ρ1,S1,δ,_,R1,D.gr g1,q1,(by rintro vs H2 ⟨ρ2,S2,ds,g2,R2,r2,q2⟩;exact   ⟨ρ2,S2,d,ds,k,R2,r1.gr g2,r2,q2,fun w H3 u=>hk w H3 (u.gr (g1.trans g2))⟩)⟩)⟩)
theorem Sf {name:Str}(pa:PlainAttrs ty)(slot:Slot ty name id)(hty:typeOf (.builtin id)=pure (.type "method_descriptor"))(hm:JC X id (Wi X.K r))(ho:QE X o to)(ha:QA X (e::es) t)
  (h1:notStar e=true:=by rfl) (h2:es.all notStar=true:=by rfl) (h3:es.length < 20:=by decide) (hbase:attributeBase o name X.env (eval o X.env)=eval o X.env:=by rfl) (hline:(apos.endLine == cpos.line)=true:=by rfl) :
  QE X (.Call (.Attribute o name apos) (e::es) [] cpos) (LJ ty r to t):=gq (SI pa slot hty hm ho ha h1 h2 h3 hbase hline) Pe
theorem We:JC X "list.append" (Wi X.K Uz):=by
 refine MV J4 ?_
 rintro v vs H Q ⟨ρ,S,d,ds,k,R,rd,rs,q,hk⟩
 unfold Uz at q
 split at q
 ·obtain⟨l,h1,h2,h3⟩:=q
  obtain⟨a,ha,rfl⟩:=rd
  obtain⟨w,rfl,rw'⟩:=rs.one
  obtain⟨us,e1,e2⟩:=R.ok _ a _ ha h1
  exact⟨a,us,w,rfl,rfl,e1,by rw[<- e2.len];exact h2,Pz R hk ha (o:=.lst (l++[_])) ⟨_,rfl,e2.app (.cons rw' .nil)⟩ cM h3⟩
 ·exact q.elim
theorem Wd:JC X "list.extend" (Wi X.K ext3):=by
 refine MV (JC.or J3 Hg) fun v vs H Q ⟨ρ,S,d,ds,k,R,rd,rs,q,hk⟩=>?_
 unfold ext3 at q
 split at q
 ·obtain⟨l,m,h1,h2,h3,h4⟩:=q
  obtain⟨a,ha,rfl⟩:=rd
  obtain⟨w,rfl,rw'⟩:=rs.one
  obtain⟨us,e1,e2⟩:=R.ok _ a _ ha h1
  rename_i d2 _
  cases d2 with
  | ob m' =>
   obtain⟨b,ws,f1,f2,f3⟩:=gC R rw' (show lq S (.ob m')=some m from h2)
   exact .inl ⟨a,b,us,ws,rfl,by rw[f1],e1,f2,by rw[<- e2.len,<- f3.len];exact h3,Pz R hk ha (o:=.lst (l++m)) ⟨_,rfl,e2.app f3⟩ cM h4⟩
  | t y =>
   cases y with
   | lst m' =>
    obtain⟨b,ws,f1,f2,f3⟩:=gC R rw' (show lq S (.t (.lst m'))=some m from h2)
    exact .inl ⟨a,b,us,ws,rfl,by rw[f1],e1,f2,by rw[<- e2.len,<- f3.len];exact h3,Pz R hk ha (o:=.lst (l++m)) ⟨_,rfl,e2.app f3⟩ cM h4⟩
   | tup m' =>
    have h2:some m'=some m:=h2
    injection h2 with h2
    subst h2
    obtain⟨b,ws,f1,f2,f3⟩:=iS rw'
    exact .inr ⟨a,b,us,ws,rfl,by rw[f1],e1,.of f2,by rw[<- e2.len,<- f3.len];exact h3,Pz R hk ha (o:=.lst (l++m')) ⟨_,rfl,e2.app f3⟩ cM h4⟩
   | Eu m'=>cases h2
   | v _=>cases h2
   | ins _ _ _=>cases h2
 ·exact q.elim
theorem S9:JC X "str.join" (Wi X.K Nh):=by
 refine MV Pf ?_
 rintro v vs H Q ⟨ρ,S,d,ds,k,R,rd,rs,q,hk⟩
 unfold Nh at q
 split at q
 ·obtain⟨ss,h1,h2,h3⟩:=q
  obtain⟨w,rfl,rw'⟩:=rs.one
  obtain⟨a,us,e1,e2,e3⟩:=gC R rw' h1
  rw[bE rd]
  rw[e3.strs] at e2
  exact⟨_,a,ss,rfl,by rw[e1],e2,h2,fin R hk cM h3⟩
 ·exact q.elim
theorem iy (ho:QE X o to)(ha:QA X [e] t)(h1:notStar e=true:=by rfl)(hbase:attributeBase o "append" X.env (eval o X.env)=eval o X.env:=by rfl)(hline:(apos.endLine == cpos.line)=true:=by rfl) :
  QE X (.Call (.Attribute o "append" apos) [e] [] cpos) (LJ "list" Uz to t):=Sf PySem.F.plainAttrs_list PySem.F.slot_list_append PySem.F.type_list_append We ho ha h1 rfl (by decide) hbase hline
theorem Qy (ho:QE X o to)(ha:QA X [e] t)(h1:notStar e=true:=by rfl)(hbase:attributeBase o "extend" X.env (eval o X.env)=eval o X.env:=by rfl)(hline:(apos.endLine == cpos.line)=true:=by rfl) :
  QE X (.Call (.Attribute o "extend" apos) [e] [] cpos) (LJ "list" ext3 to t):=Sf PySem.F.plainAttrs_list PySem.F.slot_list_extend PySem.F.type_list_extend Wd ho ha h1 rfl (by decide) hbase hline
theorem fN (ho:QE X o to)(ha:QA X [e] t)(h1:notStar e=true:=by rfl)(hbase:attributeBase o "join" X.env (eval o X.env)=eval o X.env:=by rfl)(hline:(apos.endLine == cpos.line)=true:=by rfl) :
  QE X (.Call (.Attribute o "join" apos) [e] [] cpos) (LJ "str" Nh to t):=Sf PySem.F.plainAttrs_str PySem.F.slot_str_join PySem.F.type_str_join S9 ho ha h1 rfl (by decide) hbase hline
end
noncomputable def X6:Ei
 | .t (.v (.str z)),.t (.v (.int i)),S,k=>z.length<=sizeLine/\∃ c,qp z.cps.toList i=some c/\k (.str ⟨#[c]⟩) S
 | a,.t (.v (.int i)),S,k=>∃ l x,sq S a=some l/\qp l i=some x/\k (.t x) S
 | _,_,_,_=>False
section
variable {X:Cx}{a b e:Expr}{ta tb te:gX}{pos p2:Pos}
theorem cZ.qp {K:PySem.W.Frag}{G:Hp}{l:List T}{vs:List V}{i:Int}{x:T}(r:cZ K G l vs)(h:L2.qp l i=some x):∃ v,L2.qp vs i=some v/\Rp K G x v:=by
 unfold L2.qp at h ⊢
 rw[<- r.len]
 cases q:Kr l.length i with
 | none=>rw[q] at h;cases h
 | some j=>rw[q] at h;exact r.get h
theorem WW:N8 X (Zm X.K X6):=by
 intro value slice pins s σ H x y v u Q I rx ry ⟨ρ,S,a,b,k,R,ra,rb,q,hk⟩ hs
 refine Tv value slice pins s σ H x y v u Q I rx ry ?_ hs
 unfold X6 at q
 split at q
 ·obtain⟨h1,c,h2,h3⟩:=q
  exact .inr (.inr ⟨_,_,c,bE ra,bE rb,h1,h2,fin R hk cM h3⟩)
 ·obtain⟨l,x',h1,h2,h3⟩:=q
  obtain⟨p,us,e1,e2,e3⟩:=Ac R ra h1
  obtain⟨w,f1,f2⟩:=e3.qp h2
  rcases e2 with e2 | e2
  ·exact .inl ⟨p,us,_,w,e1,bE rb,e2,f1,fin R hk (d:=.t x') f2 h3⟩
  ·exact .inr (.inl ⟨p,us,_,w,e1,bE rb,e2,f1,fin R hk (d:=.t x') f2 h3⟩)
 ·exact q.elim
theorem aM (ha:QE X a ta)(hb:QE X b tb)(hs:JA b:=by intro _ _;rfl):QE X (.Subscript a b pos) (JH X6 ta tb):=gq (VU WW ha hb hs) zQ
noncomputable def xr (l:List T)(lo hi:Option Int):List T:=(l.drop (HT.fH l.length 0 lo)).take (HT.fH l.length l.length hi - HT.fH l.length 0 lo)
theorem cZ.cut {K:PySem.W.Frag}{G:Hp}{l:List T}{vs:List V}(r:cZ K G l vs)(lo hi:Option Int):cZ K G (xr l lo hi) (FF vs lo hi):=by
 unfold xr FF
 rw[<- r.len]
 exact(r.dp _).tk _
noncomputable abbrev U0:=Sl->bQ->(Option Int->bQ->Prop)->Prop
noncomputable def liO (K:PySem.W.Frag)(t:U0):TO:=fun σ H Q=>∃ ρ S δ k,R3 K ρ S H/\xR K ρ (res ρ H) δ σ/\t δ S k/\∀ o H',(∃ ρ' S',Gr ρ H ρ' H'/\R3 K ρ' S' H'/\k o S')->Q o H'
noncomputable def QO (X:Cx)(e:Option Expr)(t:U0):Prop:=PO X e (liO X.K t)
noncomputable def YI:U0:=fun _ S k=>k none S
noncomputable def tPt (t:gX):U0:=fun δ S k=>t δ S fun d S1=>∃ i,d=.int i/\k (some i) S1
theorem QB {o:Option Expr}{t t':TO}(h:PO X o t)(m:∀ σ H Q,t' σ H Q->t σ H Q):PO X o t':=fun pins s σ H Q I q=>h pins s σ H Q I (m _ _ _ q)
theorem fh:QO X none YI:=QB OU (by rintro σ H Q ⟨ρ,S,δ,k,R,D,q,hk⟩;exact hk _ _ ⟨ρ,S,.refl,R,q⟩)
theorem cS (h:QE X e te):QO X (some e) (tPt te):=QB (OT h) (by rintro σ H Q ⟨ρ,S,δ,k,R,D,q,hk⟩;exact ⟨ρ,S,δ,_,R,D,q,(by
 rintro v H1 ⟨ρ1,S1,d,g1,R1,r1,i,e,q1⟩
 subst e
 exact⟨i,bE r1,hk _ _ ⟨ρ1,S1,g1,R1,q1⟩⟩)⟩)
noncomputable def YV (mu:Bool):D->Option Int->Option Int->bQ->KD->Prop
 | .t (.v (.str z)),lo,hi,S,k=>z.length<=sizeLine/\k (.str (Txt.slice z lo hi)) S
 | .t (.tup l),lo,hi,S,k=>¬ (HT.fH l.length 0 lo=0/\HT.fH l.length l.length hi=l.length)/\k (.tup (xr l lo hi)) S
 | d,lo,hi,S,k=>∃ l,lq S d=some l/\(if mu then k (.ob S.length) (S++[.lst (xr l lo hi)]) else k (.lst (xr l lo hi)) S)
noncomputable def Zl (K:PySem.W.Frag)(r:D->Option Int->Option Int->bQ->KD->Prop):V->Option Int->Option Int->Hp->VK->Prop:=fun v lo hi H Q=>∃ ρ S d k,R3 K ρ S H/\nK K ρ (res ρ H) d v/\r d lo hi S k/\∀ v H',up K ρ H k v H'->Q v H'
theorem VC (mu:Bool):P7 X (Zl X.K (YV mu)):=by
 intro pins s σ H x v vl vu lo hi sl Q I rx hs pl pu ⟨ρ,S,d,k,R,rd,q,hk⟩
 refine(RT.or (RQ.or Ot)) pins s σ H x v vl vu lo hi sl Q I rx hs pl pu ?_
 unfold YV at q
 split at q
 ·exact .inl ⟨_,bE rd,q.1,fin R hk cM q.2⟩
 ·obtain⟨a,vs,e1,e2,e3⟩:=iS rd
  refine .inr (.inl ⟨a,vs,e1,.of e2,by rw[<- e3.len];exact q.1,Py R hk (e3.cut lo hi) q.2⟩)
 ·obtain⟨l,h1,h2⟩:=q
  obtain⟨a,vs,e1,e2,e3⟩:=gC R rd h1
  refine .inr (.inr ⟨a,vs,e1,.of e2,?_⟩)
  cases mu with
  | true=>exact PB R hk (e3.cut lo hi) h2
  | false=>exact Fy R hk (e3.cut lo hi) h2
noncomputable def YE (mu:Bool)(te:gX)(tl th:U0):gX:=fun δ S k=>te δ S fun x S1=>tl δ S1 fun l S2=>th δ S2 fun u S3=>YV mu x l u S3 k
theorem oN (mu:Bool){lo hi:Option Expr}{tl th:U0}(he:QE X e te)(hl:QO X lo tl)(hu:QO X hi th):QE X (.Subscript e (.Slice lo hi none p2) pos) (YE mu te tl th) :=
 gq (MB (VC mu) he hl hu) (by rintro σ H Q ⟨ρ,S,δ,k,R,D,q,hk⟩;exact ⟨ρ,S,δ,_,R,D,q,(by rintro v H1 ⟨ρ1,S1,d,g1,R1,r1,q1⟩;exact ⟨ρ1,S1,δ,_,R1,D.gr g1,q1,(by rintro o H2 ⟨ρ2,S2,g2,R2,q2⟩;exact   ⟨ρ2,S2,δ,_,R2,D.gr (g1.trans g2),q2,(by rintro o2 H3 ⟨ρ3,S3,g3,Cn,q3⟩;exact ⟨ρ3,S3,d,k,Cn,r1.gr (g2.trans g3),q3,fun w H4 u=>hk w H4 (u.gr ((g1.trans g2).trans g3))⟩)⟩)⟩)⟩)
end
noncomputable abbrev zy:=D->Sl->bQ->KS->Prop
noncomputable abbrev Ck:=List T->Sl->bQ->KS->Prop
noncomputable def liG (K:PySem.W.Frag)(g:zy):TG:=fun v σ H Q=>∃ ρ S δ d k,R3 K ρ S H/\xR K ρ (res ρ H) δ σ/\nK K ρ (res ρ H) d v/\g d δ S k/\∀ σ' H',Ir K ρ H k σ' H'->Q σ' H'
noncomputable def Zo (K:PySem.W.Frag)(g:Ck):N7:=fun vs σ H Q=>∃ ρ S δ l k,R3 K ρ S H/\xR K ρ (res ρ H) δ σ/\cZ K (res ρ H) l vs/\g l δ S k/\∀ σ' H',Ir K ρ H k σ' H'->Q σ' H'
noncomputable def QG (X:Cx)(tg:Expr)(g:zy):Prop:=PG X tg (liG X.K g)
noncomputable def Ym (X:Cx)(tg:List Expr)(g:Ck):Prop:=Rh X tg (Zo X.K g)
noncomputable def Fp (i:Nat):zy:=fun d δ S k=>k (δ.set i (some d)) S
noncomputable def Q5:Ck:=fun l δ S k=>l=[]/\k δ S
noncomputable def Nt (g:zy)(gs:Ck):Ck:=fun l δ S k=>∃ x r,l=x::r/\g (.t x) δ S fun δ1 S1=>gs r δ1 S1 k
noncomputable def Q4 (n:Nat)(gs:Ck):zy:=fun d δ S k=>∃ l,d=.tup l/\l.length=n/\gs l δ S k
section
variable {X:Cx}{pos:Pos}{tg e c:Expr}{es:List Expr}{te:gX}{g:zy}{gs:Ck}
theorem E1 {t t':TG}(h:PG X tg t)(m:∀ v σ H Q,t' v σ H Q->t v σ H Q):PG X tg t':=fun pins s σ H v u Q I r q=>h pins s σ H v u Q I r (m _ _ _ _ q)
theorem DG {t t':N7}(h:Rh X es t)(m:∀ v σ H Q,t' v σ H Q->t v σ H Q):Rh X es t':=fun pins s σ H v u Q I r q=>h pins s σ H v u Q I r (m _ _ _ _ q)
theorem qg {i:Nat}{x:Str}(hN:X.N.Nodup)(hi:X.N[i]?=some x:=by rfl)(hx:Loc X.env.scope x:=by first | exact Or.inl rfl | exact Or.inr rfl)(hf:X.fn x=true∨X.env.scope.names.lookup x=some .local:=by first | exact .inl rfl | exact .inr rfl | assumption):QG X (.Name x pos) (Fp i) :=
 E1 (I0 hN hi hx hf) (by rintro v σ H Q ⟨ρ,S,δ,d,k,R,RS,rd,q,hk⟩;exact hk _ _ ⟨ρ,S,δ.set i (some d),.refl,R,RS.set rd i,q⟩)
theorem mE:Ym X [] Q5:=DG IZ (by
 rintro v σ H Q ⟨ρ,S,δ,l,k,R,RS,rl,⟨e,q⟩,hk⟩
 subst e
 unfold cZ at rl
 exact⟨rl,hk _ _ ⟨ρ,S,δ,.refl,R,RS,q⟩⟩)
theorem yJ (h1:QG X e g)(h2:Ym X es gs)(hs:(assignEach (e::es) X.env).map (·.2)=assign e X.env::(assignEach es X.env).map (·.2):=by rfl):Ym X (e::es) (Nt g gs) :=
 DG (EZ h1 h2 hs) (by
  rintro v σ H Q ⟨ρ,S,δ,l,k,R,RS,rl,⟨x,r,e,q⟩,hk⟩
  subst e
  unfold cZ at rl
  obtain⟨w,wr,e1,e2,e3⟩:=rl
  refine⟨w,wr,e1,ρ,S,δ,.t x,_,R,RS,e2,q,(by rintro σ1 H1 ⟨ρ1,S1,δ1,g1,R1,P8,q1⟩;exact ⟨ρ1,S1,δ1,r,k,R1,P8,e3.le g1.le,q1,fun σ2 H2 u=>hk σ2 H2 (u.gr g1)⟩)⟩)
theorem p6 {k0 n:Nat}(hc:X.calm=true)(h:Ym X es gs)(hn:(assignEach es X.env).length=n:=by rfl)(hst:(assignEach es X.env).findIdx? (·.1)=none:=by rfl):QG X (.Tuple es k0 pos) (Q4 n gs) :=
 E1 (Mz hc h hn hst) (by
  rintro v σ H Q ⟨ρ,S,δ,d,k,R,RS,rd,⟨l,e,hl,q⟩,hk⟩
  subst e
  obtain⟨a,vs,e1,e2,e3⟩:=iS rd
  exact⟨a,vs,e1,.of e2,by rw[<- e3.len];exact hl,ρ,S,δ,l,k,R,RS,e3,q,hk⟩)
noncomputable def GB:vY:=fun E δ S=>E.nx δ S
noncomputable def yG (t u:vY):vY:=fun E δ S=>t { E with nx:=fun δ1 S1=>u E δ1 S1 } δ S
noncomputable def Iw (te:gX)(g:zy):vY:=fun E δ S=>te δ S fun d S1=>g d δ S1 E.nx
noncomputable def Ry (te:gX):vY:=fun E δ S=>te δ S fun _ S1=>E.nx δ S1
noncomputable def Vc (te:gX):vY:=fun E δ S=>te δ S E.rt
noncomputable def yH (c:rQ)(t u:vY):vY:=fun E δ S=>c δ S fun b S1=>if b=true then t E δ S1 else u E δ S1
noncomputable def Vi:vY:=fun _ _ _=>False
variable {st:Stmt}{rest a b:List Stmt}{t u:vY}{tc:rQ}
theorem aY:Lv X [] GB:=GU OP (by rintro D σ H ⟨ρ,S,δ,E,R,RS,q,eu⟩;exact eu.nx _ _ ⟨ρ,S,δ,.refl,R,RS,q⟩)
theorem qs (h1:QS X st t)(h2:Lv X rest u):Lv X (st::rest) (yG t u):=GU (Mq h1 h2) (by rintro D σ H ⟨ρ,S,δ,E,R,RS,q,eu⟩;exact  ⟨ρ,S,δ,_,R,RS,q,⟨(by rintro σ1 H1 ⟨ρ1,S1,δ1,g1,R1,P8,q1⟩;exact ⟨ρ1,S1,δ1,E,R1,P8,q1,eu.gr g1⟩),eu.rt,eu.bk,eu.ct⟩⟩)
theorem bO (h1:QS X st t):Lv X [st] t:=OO h1
theorem OE {sts:List Stmt}:Lv X sts Vi:=GU JM (by rintro D σ H ⟨ρ,S,δ,E,R,RS,q,eu⟩;exact q)
theorem iD (he:QE X e te)(hs:swapsWith e none pos.line X.env=pure false:=by rfl):QS X (.Expr e pos) (Ry te):=oR (OQ he hs) (by rintro D σ H ⟨ρ,S,δ,E,R,RS,q,eu⟩;exact  ⟨ρ,S,δ,_,R,RS,q,(by rintro v H1 ⟨ρ1,S1,d,g1,R1,r1,q1⟩;exact eu.nx _ _ ⟨ρ1,S1,δ,g1,R1,RS.gr g1,q1⟩)⟩)
theorem az (he:QE X e te):QS X (.Return (some e) pos) (Vc te):=oR (Sn he) (by rintro D σ H ⟨ρ,S,δ,E,R,RS,q,eu⟩;exact ⟨ρ,S,δ,_,R,RS,q,eu.rt⟩)
theorem bF (hc:QT X c tc)(ha:Lv X a t)(hb:Lv X b u):QS X (.If c a b pos) (yH tc t u):=oR (VQ hc ha hb) (by rintro D σ H ⟨ρ,S,δ,E,R,RS,q,eu⟩;exact  ⟨ρ,S,δ,_,R,RS,q,(by
  rintro v H1 ⟨ρ1,S1,g1,R1,q1⟩
  cases v with
  | true=>exact⟨ρ1,S1,δ,E,R1,RS.gr g1,q1,eu.gr g1⟩
  | false=>exact⟨ρ1,S1,δ,E,R1,RS.gr g1,q1,eu.gr g1⟩)⟩)
theorem ay {i:Nat}{x:Str}{pos':Pos}(hN:X.N.Nodup)(he:QE X e te)(hi:X.N[i]?=some x:=by rfl)(hx:Loc X.env.scope x:=by first | exact Or.inl rfl | exact Or.inr rfl)(hs:swapsWith e (some (.Name x pos')) pos.line X.env=pure false:=by rfl)(hf:X.fn x=true∨X.env.scope.names.lookup x=some .local:=by first | exact .inl rfl | exact .inr rfl | assumption) :
  QS X (.Assign [.Name x pos'] e pos) (Iw te (Fp i)):=oR (Sk hN hi hx he hs hf) (by rintro D σ H ⟨ρ,S,δ,E,R,RS,q,eu⟩;exact  ⟨ρ,S,δ,_,R,RS,q,(by rintro v H1 ⟨ρ1,S1,d,g1,R1,r1,q1⟩;exact eu.nx _ _ ⟨ρ1,S1,δ.set i (some d),g1,R1,(RS.gr g1).set r1 i,q1⟩)⟩)
theorem x6 (he:QE X e te)(hg:QG X tg g)(hs:swapsWithSole [tg] e pos.line X.env=pure false:=by rfl)(hw:swappedStores [tg] e X.env=pure none:=by rfl)(h1:(assignEach [tg] X.env).map (·.2)=[assign tg X.env]:=by rfl) :
  QS X (.Assign [tg] e pos) (Iw te g):=oR (Su he hg hs hw h1) (by rintro D σ H ⟨ρ,S,δ,E,R,RS,q,eu⟩;exact  ⟨ρ,S,δ,_,R,RS,q,(by rintro v H1 ⟨ρ1,S1,d,g1,R1,r1,q1⟩;exact ⟨ρ1,S1,δ,d,E.nx,R1,RS.gr g1,r1,q1,fun σ2 H2 u=>eu.nx _ _ (u.gr g1)⟩)⟩)
noncomputable def Vw (i:Nat)(te:gX)(f:Int->Int->Int):vY:=fun E δ S=>∃ a,δ[i]?=some (some (.int a))/\te δ S fun d S1=>∃ b,d=.int b/\E.nx (δ.set i (some (.int (f a b)))) S1
theorem Sa {i:Nat}{x:Str}{op:Operator}{f:Int->Int->Int}{pos':Pos}(hN:X.N.Nodup)(he:QE X e te)(ho:XI X op (ZH f))(hi:X.N[i]?=some x:=by rfl)(hx:Loc X.env.scope x:=by first | exact Or.inl rfl | exact Or.inr rfl)(hf:X.fn x=true∨X.env.scope.names.lookup x=some .local:=by first | exact .inl rfl | exact .inr rfl | assumption) :
  QS X (.AugAssign (.Name x pos') op e pos) (Vw i te f):=oR (Ss hN hi hx he ho hf) fun D σ H ⟨ρ,S,δ,E,R,RS,⟨a,ea,q⟩,eu⟩=>by
 obtain⟨v,e1,e2⟩:=RS.2 i _ ea
 refine⟨v,e1,ρ,S,δ,_,R,RS,q,fun w H1 ⟨ρ1,S1,d,g1,R1,r1,b,eb,q1⟩=>?_⟩
 subst eb
 exact⟨a,b,bE e2,bE r1,eu.nx _ _ ⟨ρ1,S1,_,g1,R1,(RS.gr g1).set (d:=.int (f a b)) cM i,q1⟩⟩
noncomputable def Vv (to ti te:gX)(f:Int->Int->Int):vY:=fun E δ S=>to δ S fun o S1=>ti δ S1 fun i S2=>∃ (n j:Nat) (l:List T) (a:Int),o=.ob n/\i=.int (j:Nat)/\S2[n]?=some (.lst l)/\l[j]?=some (.int a) /\
 te δ S2 fun d S3=>∃ b l',d=.int b/\S3[n]?=some (.lst l')/\j < l'.length/\E.nx δ (S3.set n (.lst (l'.set j (.int (f a b)))))
theorem OF {o i:Expr}{to ti:gX}{op:Operator}{f:Int->Int->Int}{tpos:Pos}(ho:QE X o to)(hi:QE X i ti)(he:QE X e te)(hp:XI X op (ZH f))
  (ha:∀ ov iv new,augStore i ov iv new=(do holding [new,ov,iv] (setItem ov iv new);release [new,ov,iv] [];pure .next):=by intros;rfl):QS X (.AugAssign (.Subscript o i tpos) op e pos) (Vv to ti te f) :=
 oR (OS ho hi Nr he hp set_list ha) fun D σ H ⟨ρ,S,δ,E,R,RS,q,eu⟩=>⟨ρ,S,δ,_,R,RS,q,fun v1 H1 ⟨ρ1,S1,d1,g1,R1,r1,q1⟩=>⟨ρ1,S1,δ,_,R1,RS.gr g1,q1,(by
  rintro v2 H2 ⟨ρ2,S2,d2,g2,R2,r2,n,j,l,a,h1,h2,h3,h4,q2⟩
  subst h1 h2
  obtain⟨p,hp,e1⟩:=r1.gr g2
  obtain⟨vs,e2,e3⟩:=R2.ok n p _ hp h3
  obtain⟨w,e4,e5⟩:=e3.get h4
  refine⟨p,vs,j,w,e1,bE r2,.of e2,e4,ρ2,S2,δ,_,R2,RS.gr (g1.trans g2),q2,fun v3 H3 ⟨ρ3,S3,d3,g3,Cn,r3,b,l',h5,h6,h7,q3⟩=>?_⟩
  subst h5
  have ew:w=V.int a:=by unfold Rp at e5;exact e5
  refine⟨a,b,ew,bE r3,?_⟩
  have hp3:=g3.at hp
  obtain⟨us,f1,f2⟩:=Cn.ok n p _ hp3 h6
  refine⟨p,us,j,j,e1,bE r2,f1,?_,?_⟩
  ·unfold Kr
   rw[if_pos (by omega),if_pos (by rw[<- f2.len];omega)]
   simp
  ·have key:cZ X.K (res ρ3 H3) (l'.set j (.int (f a b))) (us.set j (.int (f a b))):=cZ.put (by unfold Rp;rfl) f2
   obtain⟨R4,g4⟩:=Cn.put (o:=.lst (us.set j (.int (f a b)))) (u:=.lst (l'.set j (.int (f a b)))) hp3 ⟨_,rfl,key⟩
   exact eu.nx _ _ ⟨ρ3,_,δ,((g1.trans g2).trans g3).trans g4,R4,(RS.gr ((g1.trans g2).trans g3)).gr g4,q3⟩)⟩⟩
end
noncomputable abbrev P6:=Sl->bQ->(List D->(bQ->Prop)->bQ->Prop)->Prop
structure U6 (K:PySem.W.Frag)(J:It)(its:List D)(G:bQ->Prop)(ρ0:List Addr)(H0:Hp):Prop where
 go:∀ i ρ S H,Gr ρ0 H0 ρ H->R3 K ρ S H->G S->i < its.length->J.go i H
 LB:∀ i x ρ S H H' d,Gr ρ0 H0 ρ H->R3 K ρ S H->G S->its[i]?=some d->J.LB i H x H'->∃ ρ',Gr ρ H ρ' H'/\R3 K ρ' S H'/\nK K ρ' (res ρ' H') d x
 stop:∀ i ρ S H,Gr ρ0 H0 ρ H->R3 K ρ S H->G S->its.length<=i->J.stop i H
noncomputable def Zn (K:PySem.W.Frag)(w:P6):TI:=fun σ H R=>∃ ρ S δ k,R3 K ρ S H/\xR K ρ (res ρ H) δ σ/\w δ S k/\∀ J H',(∃ ρ' S' its G,Gr ρ H ρ' H'/\R3 K ρ' S' H'/\U6 K J its G ρ' H'/\k its G S')->R J H'
noncomputable def QI (X:Cx)(tg iter:Expr)(w:P6):Prop:=PI X tg iter (Zn X.K w)
noncomputable def Ks (d:D)(S1:bQ)(k:List D->(bQ->Prop)->bQ->Prop):Prop:=(∃ l,(d=.tup l∨d=.lst l)/\k (l.map .t) (fun _=>True) S1)∨(∃ n l,d=.ob n/\S1[n]?=some (.lst l)/\k (l.map .t) (fun S=>S[n]?=some (.lst l)) S1)
noncomputable def iSq (te:gX):P6:=fun δ S k=>te δ S fun d S1=>Ks d S1 k
noncomputable def ZM (t:BB):P6:=fun δ S k=>t δ S fun ds S1=>∃ j:Int,ds=[.int j]/\-(2 ^ 62)<=j/\j < 2 ^ 62/\k ((List.range j.toNat).map fun(i:Nat)=>D.int i) (fun _=>True) S1
section
variable {X:Cx}{tg iter e:Expr}{te:gX}{pos p:Pos}
theorem QC {t t':TI}(h:PI X tg iter t)(m:∀ σ H R,t' σ H R->t σ H R):PI X tg iter t':=fun pins s σ H R I q=>h pins s σ H R I (m _ _ _ q)
theorem Nf {K:PySem.W.Frag}{ρ:List Addr}{H:Hp}{a:Addr}{l:List T}{vs:List V}(h:res ρ H a=some (.lst vs))(r:cZ K (res ρ H) l vs):U6 K (Yo K a) (l.map .t) (fun _=>True) ρ H where
 go:=fun i ρ1 S1 H1 g R _ hi=>by
  have e:=(res_some (g.le _ _ h)).2
  have hl:i < vs.length:=by rw[<- r.len];simpa using hi
  exact⟨vs,vs[i],.of e,List.getElem?_eq_getElem hl⟩
 LB:=fun i x ρ1 S1 H1 H' d g R _ hd y=>by
  obtain⟨rfl,y⟩:=y
  have e:=(res_some (g.le _ _ h)).2
  rw[List.getElem?_map] at hd
  cases q:l[i]? with
  | none=>rw[q] at hd;cases hd
  | some z =>
   rw[q] at hd
   cases hd
   obtain⟨v,e1,e2⟩:=r.get q
   have:=y vs (.of e)
   rw[e1] at this
   cases this
   exact⟨ρ1,.refl,R,e2.le g.le⟩
 stop:=fun i ρ1 S1 H1 g R _ hi=>by
  have e:=(res_some (g.le _ _ h)).2
  exact⟨vs,.of e,by rw[<- r.len];simpa using hi⟩
theorem Pj {K:PySem.W.Frag}{ρ:List Addr}{H:Hp}{a:Addr}{l:List T}{vs:List V}(h:res ρ H a=some (.tup vs))(r:cZ K (res ρ H) l vs):U6 K (Itt K a) (l.map .t) (fun _=>True) ρ H where
 go:=fun i ρ1 S1 H1 g R _ hi=>by
  have e:=(res_some (g.le _ _ h)).2
  have hl:i < vs.length:=by rw[<- r.len];simpa using hi
  exact⟨vs,vs[i],.of e,List.getElem?_eq_getElem hl⟩
 LB:=fun i x ρ1 S1 H1 H' d g R _ hd y=>by
  obtain⟨rfl,y⟩:=y
  have e:=(res_some (g.le _ _ h)).2
  rw[List.getElem?_map] at hd
  cases q:l[i]? with
  | none=>rw[q] at hd;cases hd
  | some z =>
   rw[q] at hd
   cases hd
   obtain⟨v,e1,e2⟩:=r.get q
   have:=y vs (.of e)
   rw[e1] at this
   cases this
   exact⟨ρ1,.refl,R,e2.le g.le⟩
 stop:=fun i ρ1 S1 H1 g R _ hi=>by
  have e:=(res_some (g.le _ _ h)).2
  exact⟨vs,.of e,by rw[<- r.len];simpa using hi⟩
theorem Tq {K:PySem.W.Frag}{ρ:List Addr}{H:Hp}{n:Nat}{a:Addr}{l:List T}(ha:ρ[n]?=some a):U6 K (Yo K a) (l.map .t) (fun S=>S[n]?=some (.lst l)) ρ H where
 go:=fun i ρ1 S1 H1 g R hS hi=>by
  obtain⟨vs,e,r⟩:=R.ok n a _ (g.at ha) hS
  have hl:i < vs.length:=by rw[<- r.len];simpa using hi
  exact⟨vs,vs[i],.of e,List.getElem?_eq_getElem hl⟩
 LB:=fun i x ρ1 S1 H1 H' d g R hS hd y=>by
  obtain⟨rfl,y⟩:=y
  obtain⟨vs,e,r⟩:=R.ok n a _ (g.at ha) hS
  rw[List.getElem?_map] at hd
  cases q:l[i]? with
  | none=>rw[q] at hd;cases hd
  | some z =>
   rw[q] at hd
   cases hd
   obtain⟨v,e1,e2⟩:=r.get q
   have:=y vs (.of e)
   rw[e1] at this
   cases this
   exact⟨ρ1,.refl,R,e2⟩
 stop:=fun i ρ1 S1 H1 g R hS hi=>by
  obtain⟨vs,e,r⟩:=R.ok n a _ (g.at ha) hS
  exact⟨vs,.of e,by rw[<- r.len];simpa using hi⟩
theorem qi (he:QE X iter te):QI X tg iter (iSq te):=QC (Sy he) (by rintro σ H Q ⟨ρ,S,δ,k,R,D,q,hk⟩;exact ⟨ρ,S,δ,_,R,D,q,(by
 rintro v H1 ⟨ρ1,S1,d,g1,R1,r1,q1⟩
 rcases q1 with ⟨l,rfl | rfl,q1⟩ | ⟨n,l,rfl,h,q1⟩
 ·have r1:Rp _ _ _ _:=r1
  unfold Rp at r1
  obtain⟨a,vs,e1,e2,e3⟩:=r1
  exact⟨a,e1,.inr ⟨⟨vs,.of (res_some e2).2⟩,hk _ _ ⟨ρ1,S1,_,_,g1,R1,Pj e2 e3,q1⟩⟩⟩
 ·have r1:Rp _ _ _ _:=r1
  unfold Rp at r1
  obtain⟨a,vs,e1,e2,e3⟩:=r1
  exact⟨a,e1,.inl ⟨⟨vs,.of (res_some e2).2⟩,hk _ _ ⟨ρ1,S1,_,_,g1,R1,Nf e2 e3,q1⟩⟩⟩
 ·obtain⟨a,ha,e⟩:=r1
  obtain⟨vs,e2,e3⟩:=R1.ok n a _ ha h
  exact⟨a,e,.inl ⟨⟨vs,.of e2⟩,hk _ _ ⟨ρ1,S1,_,_,g1,R1,Tq ha,q1⟩⟩⟩)⟩)
theorem Pk {K:PySem.W.Frag}{ρ:List Addr}{H:Hp}{n:Nat}:U6 K (Yn 0 n) ((List.range n).map fun(i:Nat)=>D.int i) (fun _=>True) ρ H where
 go:=fun i ρ1 S1 H1 g R _ hi=>by show i < n;simpa using hi
 LB:=fun i x ρ1 S1 H1 H' d g R _ hd y=>by
  obtain⟨rfl,y⟩:=y
  rw[List.getElem?_map] at hd
  cases q:(List.range n)[i]? with
  | none=>rw[q] at hd;cases hd
  | some z =>
   rw[q] at hd
   cases hd
   have:=List.getElem?_range (n:=n) (i:=i) (by have:=(List.getElem?_eq_some_iff.mp q).1;simpa using this)
   rw[this] at q
   cases q
   subst y
   refine⟨ρ1,.refl,R,?_⟩
   show Rp _ _ _ _
   unfold Rp
   rw[Int.zero_add]
 stop:=fun i ρ1 S1 H1 g R _ hi=>by show n<=i;simpa using hi
theorem m5 {a:Expr}{t:BB}(hg:Gl X "range")(hm:X.mg "range"=none)(ha:QA X [a] t)(hs:starEach [a] X.env=[(false,eval a X.env)]:=by rfl):QI X tg (.Call (.Name "range" p) [a] [] pos) (ZM t) :=
 QC (JO hg hm ha hs) (by rintro σ H Q ⟨ρ,S,δ,k,R,D,q,hk⟩;exact ⟨ρ,S,δ,_,R,D,q,(by
  rintro v H1 ⟨ρ1,S1,d,g1,R1,r1,j,e,h1,h2,q1⟩
  subst e
  obtain⟨w,rfl,rw'⟩:=r1.one
  rw[bE rw']
  exact⟨j,rfl,h1,h2,hk _ _ ⟨ρ1,S1,_,_,g1,R1,Pk,q1⟩⟩)⟩)
noncomputable def Cc (G:bQ->Prop)(g:zy)(tb:vY):List D->vY
 | []=>fun E δ S=>G S/\E.nx δ S
 | x::r=>fun E δ S=>G S/\g x δ S fun δ1 S1=>tb { E with nx:=Cc G g tb r E,ct:=Cc G g tb r E,bk:=E.nx } δ1 S1
noncomputable def Vn (w:P6)(g:zy)(tb:vY):vY:=fun E δ S=>w δ S fun its G S1=>Cc G g tb its E δ S1
variable {g:zy}{tb:vY}{body:List Stmt}
theorem jD {w:P6}(hp:PassesOwn (model X.prog X.w) X.A X.env X.xe)(hc:X.calm=true)(hi:QI X tg iter w)(hg:QG X tg g)(hb:Lv X body tb)(hs:∀ x,foldedSetIterable iter X.env x=pure x:=by intro _;rfl) :
  QS X (.For tg iter body [] pos) (Vn w g tb):=oR (So hp hc hi hg hb hs) fun D σ H ⟨ρ,S,δ,E,R,RS,q,eu⟩=>⟨ρ,S,δ,_,R,RS,q,fun J H1 ⟨ρ1,S1,its,G,g1,R1,jo,q1⟩=>by
 refine⟨fun i m σ' H'=>m=its.length - i/\i<=its.length/\∃ ρ' S' δ',Gr ρ1 H1 ρ' H'/\R3 X.K ρ' S' H'/\xR X.K ρ' (res ρ' H') δ' σ'/\Cc G g tb (its.drop i) E δ' S',⟨its.length,by simp,Nat.zero_le _,ρ1,S1,δ,.refl,R1,RS.gr g1,q1⟩,?_⟩
 rintro i m σ' H' ⟨rfl,hi,ρ',S',δ',g',R',RS',q'⟩
 by_cases hlt:i < its.length
 ·rw[List.drop_eq_getElem_cons hlt] at q'
  obtain⟨hG,q'⟩:=q'
  refine .inr ⟨jo.go i ρ' S' H' g' R' hG hlt,_,fun σ2 H2 z=>z,fun x H2 y=>?_⟩
  obtain⟨ρ2,g2,R2,r2⟩:=jo.LB i x ρ' S' H' H2 its[i] g' R' hG (List.getElem?_eq_getElem hlt) y
  refine⟨ρ2,S',δ',its[i],_,R2,RS'.gr g2,r2,q',fun σ3 H3 ⟨ρ3,S3,δ3,g3,Cn,U3,q3⟩=>⟨ρ3,S3,δ3,_,Cn,U3,q3,?_⟩⟩
  have gg:=((g1.trans g').trans g2).trans g3
  have fwd:∀ σ4 H4,Ir X.K ρ3 H3 (Cc G g tb (its.drop (i+1)) E) σ4 H4->∃ m',m' < its.length - i/\(m'=its.length - (i+1)/\i+1<=its.length/\∃ ρ' S' δ',Gr ρ1 H1 ρ' H4/\R3 X.K ρ' S' H4/\xR X.K ρ' (res ρ' H4) δ' σ4/\Cc G g tb (its.drop (i+1)) E δ' S') :=
   (by rintro σ4 H4 ⟨ρ4,S4,δ4,g4,R4,RS4,q4⟩;exact ⟨its.length - (i+1),by omega,rfl,hlt,ρ4,S4,δ4,((g'.trans g2).trans g3).trans g4,R4,RS4,q4⟩)
  exact⟨fwd,fun v H4 u=>eu.rt v H4 (u.gr gg),fun σ4 H4 u=>eu.nx σ4 H4 (u.gr gg),fwd⟩
 ·have e:its.drop i=[]:=List.drop_eq_nil_of_le (by omega)
  rw[e] at q'
  exact .inl ⟨jo.stop i ρ' S' H' g' R' q'.1 (by omega),eu.nx _ _ ⟨ρ',S',δ',g1.trans g',R',RS',q'.2⟩⟩⟩
end
noncomputable def SmS (own:Nat)(σ σ':St):Prop:=σ'.length=σ.length/\∀ i:Nat,own<=i->σ'[i]?=σ[i]?
noncomputable def Tf (K:PySem.W.Frag)(own:Nat)(g:zy):TG:=fun v σ H Q=>∃ ρ S δ d k,R3 K ρ S H/\xR K ρ (res ρ H) δ σ/\nK K ρ (res ρ H) d v/\g d δ S k/\∀ σ' H',Ir K ρ H k σ' H'->SmS own σ σ'->Q σ' H'
noncomputable def Zk (K:PySem.W.Frag)(own:Nat)(g:Ck):N7:=fun vs σ H Q=>∃ ρ S δ l k,R3 K ρ S H/\xR K ρ (res ρ H) δ σ/\cZ K (res ρ H) l vs/\g l δ S k/\∀ σ' H',Ir K ρ H k σ' H'->SmS own σ σ'->Q σ' H'
noncomputable def QX (X:Cx)(own:Nat)(tg:Expr)(g:zy):Prop:=PG X tg (Tf X.K own g)
noncomputable def Yl (X:Cx)(own:Nat)(tg:List Expr)(g:Ck):Prop:=Rh X tg (Zk X.K own g)
section
variable {X:Cx}{pos:Pos}{tg e:Expr}{es:List Expr}{g:zy}{gs:Ck}{own:Nat}
theorem qx {i:Nat}{x:Str}(hN:X.N.Nodup)(hi:X.N[i]?=some x:=by rfl)(ho:i < own:=by decide)(hx:Loc X.env.scope x:=by first | exact Or.inl rfl | exact Or.inr rfl)(hf:X.fn x=true∨X.env.scope.names.lookup x=some .local:=by first | exact .inl rfl | exact .inr rfl | assumption):QX X own (.Name x pos) (Fp i) :=
 E1 (I0 hN hi hx hf) fun v σ H Q ⟨ρ,S,δ,d,k,R,RS,rd,q,hk⟩=>hk _ _ ⟨ρ,S,δ.set i (some d),.refl,R,RS.set rd i,q⟩ ⟨by simp,fun j hj=>List.getElem?_set_ne (by omega)⟩
theorem zO:Yl X own [] Q5:=DG IZ (by
 rintro v σ H Q ⟨ρ,S,δ,l,k,R,RS,rl,⟨e,q⟩,hk⟩
 subst e
 unfold cZ at rl
 exact⟨rl,hk _ _ ⟨ρ,S,δ,.refl,R,RS,q⟩ ⟨rfl,fun _ _=>rfl⟩⟩)
theorem Qx (h1:QX X own e g)(h2:Yl X own es gs)(hs:(assignEach (e::es) X.env).map (·.2)=assign e X.env::(assignEach es X.env).map (·.2):=by rfl):Yl X own (e::es) (Nt g gs) :=
 DG (EZ h1 h2 hs) (by
  rintro v σ H Q ⟨ρ,S,δ,l,k,R,RS,rl,⟨x,r,e,q⟩,hk⟩
  subst e
  unfold cZ at rl
  obtain⟨w,wr,e1,e2,e3⟩:=rl
  refine⟨w,wr,e1,ρ,S,δ,.t x,_,R,RS,e2,q,fun σ1 H1 ⟨ρ1,S1,δ1,g1,R1,P8,q1⟩ m1=>⟨ρ1,S1,δ1,r,k,R1,P8,e3.le g1.le,q1,fun σ2 H2 u m2=>hk σ2 H2 (u.gr g1) ⟨m2.1.trans m1.1,fun i hi=>(m2.2 i hi).trans (m1.2 i hi)⟩⟩⟩)
theorem DC {k0 n:Nat}(hc:X.calm=true)(h:Yl X own es gs)(hn:(assignEach es X.env).length=n:=by rfl)(hst:(assignEach es X.env).findIdx? (·.1)=none:=by rfl):QX X own (.Tuple es k0 pos) (Q4 n gs) :=
 E1 (Mz hc h hn hst) (by
  rintro v σ H Q ⟨ρ,S,δ,d,k,R,RS,rd,⟨l,e,hl,q⟩,hk⟩
  subst e
  obtain⟨a,vs,e1,e2,e3⟩:=iS rd
  exact⟨a,vs,e1,.of e2,by rw[<- e3.len];exact hl,ρ,S,δ,l,k,R,RS,e3,q,hk⟩)
end
noncomputable def st3 (own:Nat)(fr:List Nat)(δ:Sl):Sl:=List.replicate own none++fr.map fun j=>(δ[j]?).join
noncomputable def iR (G:bQ->Prop)(g:zy)(tt:rQ)(te:gX)(δ0:Sl):List D->bQ->List T->(List T->bQ->Prop)->Prop
 | [],S,ys,k=>G S/\k ys S
 | x::r,S,ys,k=>G S/\g x δ0 S fun δ1 S1=>tt δ1 S1 fun b S2=>if b=true then te δ1 S2 fun d S3=>∃ y,d=.t y/\ys.length < sizeLine/\iR G g tt te δ0 r S3 (ys++[y]) k else iR G g tt te δ0 r S2 ys k
noncomputable def GC (own:Nat)(fr:List Nat)(w:P6)(g:zy)(tt:rQ)(te:gX):gX:=fun δ S k=>w δ S fun its G S1=>iR G g tt te (st3 own fr δ) its S1 [] fun ys S2=>k (.lst ys) S2
noncomputable def LL (own:Nat)(fr:List Nat)(w:P6)(g:zy)(tt:rQ)(te:gX):gX:=fun δ S k=>w δ S fun its G S1=>iR G g tt te (st3 own fr δ) its S1 [] fun ys S2=>k (.ob S2.length) (S2++[.lst ys])
noncomputable def XH (X:Cx)(cs:List Expr)(t:rQ):Prop:=U5 X cs (N5 X.K t)
noncomputable def Vx:rQ:=fun _ S k=>k true S
theorem xR.De {K:PySem.W.Frag}{ρ:List Addr}{G:Hp}{δ:Sl}{σ:St}(r:xR K ρ G δ σ)(own:Nat)(fr:List Nat):xR K ρ G (st3 own fr δ) (De own fr σ):=by
 refine⟨by unfold st3 L2.De;simp,fun i d h=>?_⟩
 unfold st3 at h
 unfold L2.De
 by_cases hi:i < own
 ·rw[List.getElem?_append_left (by simpa using hi),List.getElem?_replicate,if_pos hi] at h
  cases h
 ·rw[List.getElem?_append_right (by simpa using hi),List.length_replicate,List.getElem?_map] at h ⊢
  cases e:fr[i - own]? with
  | none=>rw[e] at h;cases h
  | some j =>
   rw[e] at h
   have h:(δ[j]?).join=some d:=Option.some.inj h
   have h2:δ[j]?=some (some d):=by
    cases q:δ[j]? with
    | none=>rw[q] at h;cases h
    | some o=>rw[q] at h;exact congrArg some h
   obtain⟨v,e1,e2⟩:=r.2 j d h2
   exact⟨v,by show some ((σ[j]?).join)=some (some v);rw[e1];rfl,e2⟩
theorem LU {own:Nat}{fr:List Nat}{σ σ':St}(h:SmS own (De own fr σ) σ'):Ext (De own fr σ) σ':=by
 refine⟨h.1,fun i v e=>?_⟩
 by_cases hi:i < own
 ·unfold L2.De at e
  rw[List.getElem?_append_left (by simpa using hi),List.getElem?_replicate,if_pos hi] at e
  cases e
 ·rw[h.2 i (by omega)];exact e
section
variable {X:Cx}{sc:Scope}{cl:List (Str×Addr)}{own:Nat}{N:List Str}{fr:List Nat}{elt tg iter:Expr}{cs:List Expr}{pos spos py:Pos}{w:P6}{g:zy}{tt:rQ}{te:gX}
theorem bf:XH X [] Vx:=(by rintro pins s σ H Q I ⟨ρ,S,δ,k,R,D,q,hk⟩;exact OM pins s σ H Q I (hk _ _ ⟨ρ,S,.refl,R,q⟩))
theorem wJ {c:Expr}{t:rQ}(hc:QT X c t):XH X [c] t:=OL hc
theorem Qi {σ:St}{H1:Hp}{ρ1:List Addr}{S1:bQ}{δ:Sl}{J:It}{its:List D}{G:bQ->Prop}{k:List T->bQ->Prop}{R:List V->Hp->Prop}(RS:xR X.K ρ1 (res ρ1 H1) δ σ)(R1:R3 X.K ρ1 S1 H1)(jo:U6 X.K J its G ρ1 H1)
  (q:iR G g tt te (st3 own fr δ) its S1 [] k) (hR:∀ ρ2 S2 H2 ys l,Gr ρ1 H1 ρ2 H2->R3 X.K ρ2 S2 H2->cZ X.K (res ρ2 H2) l ys->k l S2->R ys H2) :
  ∃ W:Nat->Nat->List V->Hp->Prop,(∃ m,W 0 m [] H1)/\NU J (Tf X.K own g) (N5 X.K tt) (li X.K te) (De own fr σ) W R:=by
 refine⟨fun i m ys H'=>m=its.length - i/\i<=its.length/\∃ ρ' S' l,Gr ρ1 H1 ρ' H'/\R3 X.K ρ' S' H'/\cZ X.K (res ρ' H') l ys/\iR G g tt te (st3 own fr δ) (its.drop i) S' l k,⟨its.length,by simp,Nat.zero_le _,ρ1,S1,[],.refl,R1,.nil,q⟩,?_⟩
 rintro i m ys H' ⟨rfl,hi,ρ',S',l,g',R',rl,q'⟩
 by_cases hlt:i < its.length
 ·rw[List.drop_eq_getElem_cons hlt] at q'
  obtain⟨hG,q'⟩:=q'
  refine .inr ⟨jo.go i ρ' S' H' g' R' hG hlt,fun ys' H2=>∃ ρ2 S2 l2,Gr ρ1 H1 ρ2 H2/\R3 X.K ρ2 S2 H2/\cZ X.K (res ρ2 H2) l2 ys'/\iR G g tt te (st3 own fr δ) (its.drop (i+1)) S2 l2 k,fun ys' H2 z=>⟨its.length - (i+1),by omega,rfl,hlt,z⟩,fun x H2 y=>?_⟩
  obtain⟨ρ2,g2,R2,r2⟩:=jo.LB i x ρ' S' H' H2 its[i] g' R' hG (List.getElem?_eq_getElem hlt) y
  refine⟨ρ2,S',st3 own fr δ,its[i],_,R2,(RS.gr (g'.trans g2)).De own fr,r2,q',fun σ3 H3 ⟨ρ3,S3,δ3,g3,Cn,U3,q3⟩ sm=>⟨LU sm,ρ3,S3,δ3,_,Cn,U3,q3,fun b H4 ⟨ρ4,S4,g4,R4,q4⟩=>?_⟩⟩
  cases b with
  | false=>exact⟨ρ4,S4,l,(((g'.trans g2).trans g3).trans g4),R4,rl.le ((g2.trans g3).trans g4).le,q4⟩
  | true =>
   refine⟨ρ4,S4,δ3,_,R4,U3.gr g4,q4,fun v H5 ⟨ρ5,S5,d,g5,R5,r5,z,hz,hl,q5⟩=>?_⟩
   subst hz
   have gg:=((g2.trans g3).trans g4).trans g5
   exact⟨by rw[<- rl.len];exact hl,ρ5,S5,l++[z],g'.trans gg,R5,(rl.le gg.le).app (.cons r5 .nil),q5⟩
 ·have e:its.drop i=[]:=List.drop_eq_nil_of_le (by omega)
  rw[e] at q'
  exact .inl ⟨jo.stop i ρ' S' H' g' R' q'.1 (by omega),hR ρ' S' H' ys l g' R' rl q'.2⟩
theorem CY:∀ σ H Q,li X.K (GC own fr w g tt te) σ H Q->Iv own fr (Zn X.K w) (Tf X.K own g) (N5 X.K tt) (li X.K te) σ H Q:=(by rintro σ H Q ⟨ρ,S,δ,k,R,D,q,hk⟩;exact  ⟨ρ,S,δ,_,R,D,q,(by rintro J H1 ⟨ρ1,S1,its,G,g1,R1,jo,q1⟩;exact Qi (D.gr g1) R1 jo q1 fun ρ2 S2 H2 ys l g2 R2 rl q2=>Fy R2 (fun v H' u=>hk v H' (u.gr (g1.trans g2))) rl q2)⟩)
theorem HJ:∀ σ H Q,li X.K (LL own fr w g tt te) σ H Q->Iv own fr (Zn X.K w) (Tf X.K own g) (N5 X.K tt) (li X.K te) σ H Q:=(by rintro σ H Q ⟨ρ,S,δ,k,R,D,q,hk⟩;exact  ⟨ρ,S,δ,_,R,D,q,(by rintro J H1 ⟨ρ1,S1,its,G,g1,R1,jo,q1⟩;exact Qi (D.gr g1) R1 jo q1 fun ρ2 S2 H2 ys l g2 R2 rl q2=>PB R2 (fun v H' u=>hk v H' (u.gr (g1.trans g2))) rl q2)⟩)
theorem bU (S:rZ X sc cl own N fr)(hc:X.calm=true)(hi:QI X tg iter w)(hg:∀ C s H fp,QX (xo X sc N cl C s H fp) own tg g)
  (ht:∀ C s H fp,XH (xo X sc N cl C s H fp) cs tt) (he:∀ C s H fp,QE (xo X sc N cl C s H fp) elt te) (hs:∀ x,foldedSetIterable iter X.env x=pure x:=by intro _;rfl) :
  QE X (.ListComp elt [⟨tg,iter,cs,0⟩] sc pos) (GC own fr w g tt te):=gq (O1 (g:=Tf X.K own g) (tt:=N5 X.K tt) (te:=li X.K te) S hc hi hg ht he hs) CY
theorem wK {i:Nat}{y:Str}(hN:X.N.Nodup)(S:rZ X sc cl own N fr)(hc:X.calm=true)(hi:QI X tg iter w)(hg:∀ C s H fp,QX (xo X sc N cl C s H fp) own tg g)
  (ht:∀ C s H fp,XH (xo X sc N cl C s H fp) cs tt) (he:∀ C s H fp,QE (xo X sc N cl C s H fp) elt te) (Xa:X.N[i]?=some y:=by rfl) (hy:Loc X.env.scope y:=by first | exact Or.inl rfl | exact Or.inr rfl)
  (hsw:swapsWith (.ListComp elt [⟨tg,iter,cs,0⟩] sc pos) (some (.Name y py)) spos.line X.env=pure true:=by rfl) (hs:∀ x,foldedSetIterable iter X.env x=pure x:=by intro _;rfl)
  (hf:X.fn y=true∨X.env.scope.names.lookup y=some .local:=by first | exact .inl rfl | exact .inr rfl | assumption) :
  QS X (.Assign [.Name y py] (.ListComp elt [⟨tg,iter,cs,0⟩] sc pos) spos) (Iw (GC own fr w g tt te) (Fp i)) :=
 oR (IY (g:=Tf X.K own g) (tt:=N5 X.K tt) (te:=li X.K te) hN Xa hy S hc hi hg ht he hsw hs hf) (by rintro D σ H ⟨ρ,S,δ,E,R,RS,q,eu⟩;exact CY _ _ _ ⟨ρ,S,δ,_,R,RS,q,(by rintro v H1 ⟨ρ1,S1,d,g1,R1,r1,q1⟩;exact eu.nx _ _ ⟨ρ1,S1,δ.set i (some d),g1,R1,(RS.gr g1).set r1 i,q1⟩)⟩)
theorem EU {i:Nat}{y:Str}(hN:X.N.Nodup)(S:rZ X sc cl own N fr)(hc:X.calm=true)(hi:QI X tg iter w)(hg:∀ C s H fp,QX (xo X sc N cl C s H fp) own tg g)
  (ht:∀ C s H fp,XH (xo X sc N cl C s H fp) cs tt) (he:∀ C s H fp,QE (xo X sc N cl C s H fp) elt te) (Xa:X.N[i]?=some y:=by rfl) (hy:Loc X.env.scope y:=by first | exact Or.inl rfl | exact Or.inr rfl)
  (hsw:swapsWith (.ListComp elt [⟨tg,iter,cs,0⟩] sc pos) (some (.Name y py)) spos.line X.env=pure true:=by rfl) (hs:∀ x,foldedSetIterable iter X.env x=pure x:=by intro _;rfl)
  (hf:X.fn y=true∨X.env.scope.names.lookup y=some .local:=by first | exact .inl rfl | exact .inr rfl | assumption) :
  QS X (.Assign [.Name y py] (.ListComp elt [⟨tg,iter,cs,0⟩] sc pos) spos) (Iw (LL own fr w g tt te) (Fp i)) :=
 oR (IY (g:=Tf X.K own g) (tt:=N5 X.K tt) (te:=li X.K te) hN Xa hy S hc hi hg ht he hsw hs hf) (by rintro D σ H ⟨ρ,S,δ,E,R,RS,q,eu⟩;exact HJ _ _ _ ⟨ρ,S,δ,_,R,RS,q,(by rintro v H1 ⟨ρ1,S1,d,g1,R1,r1,q1⟩;exact eu.nx _ _ ⟨ρ1,S1,δ.set i (some d),g1,R1,(RS.gr g1).set r1 i,q1⟩)⟩)
end
noncomputable def closes (L:Nat)(d:D)(S':bQ)(k:KD):Prop :=
 (∃ S0 S1,S'=S0++S1/\S0.length=L/\(∀ o∈S0,FH L o)/\UU L d/\k d S0) ∨
 (∃ m o S0 S1,d=.ob m/\L<=m/\S'=S0++S1/\S0.length=L/\(∀ o∈S0,FH L o)/\S'[m]?=some o/\FH L o/\k (.ob L) (S0++[o])) ∨
 (∃ m l S0 S1,d=.ob m/\L<=m/\S'=S0++S1/\S0.length=L/\(∀ o∈S0,FH L o)/\S'[m]?=some (.lst l)/\k (.lst l) S0)∨k d S'
noncomputable def xS (N:List Str)(ds:List D):Sl:=ds.map some++List.replicate (N.length - ds.length) none
theorem xR.start {K:PySem.W.Frag}{ρ:List Addr}{G:Hp}{ds:List D}{vs:List V}(r:ie K ρ G ds vs)(N:List Str):xR K ρ G (xS N ds) (start N vs):=by
 have hl:ds.length=vs.length:=ie.len r
 refine⟨by unfold xS L2.start;simp[hl],fun i d h=>?_⟩
 unfold xS at h
 unfold L2.start
 by_cases hi:i < ds.length
 ·rw[List.getElem?_append_left (by simpa using hi),List.getElem?_map] at h
  rw[List.getElem?_append_left (by simpa [<- hl] using hi),List.getElem?_map]
  cases e:ds[i]? with
  | none=>rw[e] at h;cases h
  | some x =>
   rw[e] at h
   cases h
   have gt:∀ {l:List D} {m:List V} {i:Nat} {x:D},Paired (nK K ρ G) l m->l[i]?=some x->∃ v,m[i]?=some v/\nK K ρ G x v:=by
    intro l m i x r
    induction r generalizing i with
    | nil=>intro e;simp at e
    | cons a t ih =>
     intro e
     cases i with
     | zero=>simp at e;subst e;exact⟨_,rfl,a⟩
     | succ i=>obtain⟨v,h1,h2⟩:=ih (i:=i) (by simpa using e);exact⟨v,by simpa using h1,h2⟩
   obtain⟨v,h1,h2⟩:=gt r e
   exact⟨v,by rw[h1];rfl,h2⟩
 ·rw[List.getElem?_append_right (by simpa using hi),List.getElem?_replicate] at h
  split at h <;> cases h
theorem FG {K:PySem.W.Frag}{ρ:List Addr}{S:bQ}{H:Hp}{k:KD}{v:V}{H':Hp}(R:R3 K ρ S H)(h:up K ρ H (fun d S'=>closes S.length d S' k) v H'):up K ρ H k v H':=by
 obtain⟨ρ',S',d,g,R',r,c⟩:=h
 obtain⟨ex,hex⟩:=g.ext
 subst hex
 rcases c with ⟨S0,S1,rfl,hl,hc,hd,q⟩ | ⟨m,o,S0,S1,rfl,hm,rfl,hl,hc,ho,hco,q⟩ | ⟨m,l,S0,S1,rfl,hm,rfl,hl,hc,ho,q⟩ | q
 ·refine⟨ρ,S0,d,⟨⟨[],by simp⟩,g.le.trans pY⟩,R'.pop (by rw[R.len,hl]) (by rw[hl];exact hc),r.pop pY (by rw[R.len];exact hd),q⟩
 ·obtain⟨a,ha,rfl⟩:=r
  have hρ:ρ.length=S0.length:=by rw[R.len,hl]
  have R0:R3 K ρ S0 H':=R'.pop hρ (by rw[hl];exact hc)
  have na:a ∉ ρ:=fun z=>by
   obtain⟨n,hn⟩:=List.mem_iff_getElem?.mp z
   have l1:=(List.getElem?_eq_some_iff.mp hn).1
   have:=sD R'.nd (by rw[List.getElem?_append_left l1];exact hn) ha
   have:=R.len
   omega
  have le:Le (res (ρ++ex) H') (res (ρ++[a]) H'):=fun b o h=>by
   obtain⟨h1,h2⟩:=res_some h
   refine qQ (fun z=>h1 ?_) h2
   rcases List.mem_append.mp z with z | z
   ·exact List.mem_append_left _ z
   ·rw[List.mem_singleton.mp z];exact List.mem_of_getElem? ha
  have pre:∀ (n:Nat) (b:Addr),ρ[n]?=some b->(ρ++[a])[n]?=some b:=fun n b e=>by
   rw[List.getElem?_append_left (List.getElem?_eq_some_iff.mp e).1];exact e
  refine⟨ρ++[a],S0++[o],.ob S.length,⟨⟨[a],rfl⟩,g.le.trans le⟩,⟨by simp[hρ],?_,fun n b u e1 e2=>?_⟩,⟨a,by rw[<- R.len];simp,rfl⟩,q⟩
  ·rw[List.nodup_append]
   refine⟨R0.nd,by simp,fun x hx y hy=>?_⟩
   rw[List.mem_singleton.mp hy]
   exact fun z=>na (z ▸ hx)
  ·by_cases hn:n < ρ.length
   ·rw[List.getElem?_append_left hn] at e1
    have hn2:n < S0.length:=by omega
    rw[List.getElem?_append_left hn2] at e2
    have q0:=R'.ok n b u (by rw[List.getElem?_append_left hn];exact e1) (by rw[List.getElem?_append_left hn2];exact e2)
    exact(q0.pop le (by rw[R.len];exact hc u (List.mem_of_getElem? e2))).le' pre (Le.refl _)
   ·have l1:=(List.getElem?_eq_some_iff.mp e1).1
    rw[List.length_append,List.length_singleton] at l1
    have hn':n=ρ.length:=by omega
    subst hn'
    rw[List.getElem?_append_right (Nat.le_refl _),Nat.sub_self] at e1
    rw[List.getElem?_append_right (by omega),hρ,Nat.sub_self] at e2
    cases e1
    cases e2
    exact((R'.ok m a o ha ho).pop le (by rw[R.len];exact hco)).le' pre (Le.refl _)
 ·obtain⟨a,ha,rfl⟩:=r
  have hρ:ρ.length=S0.length:=by rw[R.len,hl]
  have na:a ∉ ρ:=fun z=>by
   obtain⟨n,hn⟩:=List.mem_iff_getElem?.mp z
   have l1:=(List.getElem?_eq_some_iff.mp hn).1
   have:=sD R'.nd (by rw[List.getElem?_append_left l1];exact hn) ha
   have:=R.len
   omega
  obtain⟨vs,h1,h2⟩:=R'.ok m a _ ha ho
  refine⟨ρ,S0,.lst l,⟨⟨[],by simp⟩,g.le.trans pY⟩,R'.pop hρ (by rw[hl];exact hc),?_,q⟩
  show Rp _ _ _ _
  unfold Rp
  exact⟨a,vs,rfl,qQ na h1,h2.le pY⟩
 ·exact⟨_,S',d,g,R',r,q⟩
noncomputable def endsF (S:bQ)(k:KD):uG:={ nx:=fun _ S'=>closes S.length .fE S' k,rt:=fun d S'=>closes S.length d S' k }
theorem Cg {S S1:bQ}{x:T}{k:KD}(c:∀ o∈S,FH S.length o)(h:k (.t x) S):closes S.length (.t x) (S++S1) k:=.inl ⟨S,S1,rfl,rfl,c,trivial,h⟩
theorem jh {S:bQ}{x:T}{k:KD}(c:∀ o∈S,FH S.length o)(h:k (.t x) S):closes S.length (.t x) S k:=.inr (.inr (.inr h))
theorem Xw {S S1:bQ}{j:Nat}{l:List T}{k:KD}(c:∀ o∈S,FH S.length o)(e:S1[j]?=some (.lst l))(h:k (.lst l) S):closes S.length (.ob (S.length+j)) (S++S1) k :=
 .inr (.inr (.inl ⟨_,l,S,S1,rfl,by omega,rfl,rfl,c,by rw[List.getElem?_append_right (by omega),Nat.add_sub_cancel_left];exact e,h⟩))
theorem bC {S S1:bQ}{j:Nat}:(S++S1)[S.length+j]?=S1[j]?:=by rw[List.getElem?_append_right (by omega),Nat.add_sub_cancel_left]
theorem g8 {S S1:bQ}{j:Nat}{o:O}:(S++S1).set (S.length+j) o=S++S1.set j o:=by rw[List.set_append_right _ _ (by omega),Nat.add_sub_cancel_left]
noncomputable def Cl (S:bQ):Prop:=∀ o∈S,FH S.length o
section
variable {P:Program}{w:World}{K:PySem.W.Frag}{mg:Str->Option Value}{base:Heap}
theorem D5 {x qual:Str}{st:Stmt}{f:Addr}{fd:FuncData}{N ps:List Str}{k:Nat}{sp:fD}(F:c8 K x qual st f fd)(S:av N ps (aj st))(len:∀ ds S k,sp ds S k->ds.length=ps.length)
  (hb:∀ (cdv:Value) (A:Around) (outer:List Env) (s:Shared) (H:Hp) (E:XK),fZ k (A.deeper (PyProof.Rows.envOfC qual (aj st) s.heap.objs.size f cdv)) ->
   ∃ t,Lv (FE dG P w K mg base N qual (aj st) f cdv A outer s H E).UH (ao st) t/\∀ ds S kk,Cl S->(∀ d∈ds,UU S.length d)->sp ds S kk->t (endsF S kk) (xS N ds) S):aU P w K mg base dG (k+1) f fd ps (bA K sp):=by
 refine F.ok S (fun vs H Q E ⟨ρ,S,ds,kk,R,rd,q,_⟩=>by rw[<- ie.len rd];exact len ds S kk q) ?_
 rintro cdv A outer s H vs Q E hr ⟨ρ,S,ds,kk,R,rd,q,hk⟩
 obtain⟨t,h1,h2⟩:=hb cdv A outer s H E hr
 refine⟨_,h1,ρ,S,xS N ds,endsF S kk,R,xR.start rd N,h2 ds S kk R.cl (fun d hd=>?_) q,?_⟩
 ·obtain⟨v,z⟩:=qY rd d hd
  rw[<- R.len]
  exact z.cl
 ·refine⟨(by rintro σ H' ⟨ρ',S',δ',g',R',RS',q'⟩;exact hk _ _ (FG R ⟨ρ',S',.fE,g',R',cM,q'⟩)),fun v H' u=>hk _ _ (FG R u),(by rintro σ H' ⟨_,_,_,_,_,_,z⟩;exact z),(by rintro σ H' ⟨_,_,_,_,_,_,z⟩;exact z)⟩
end
end L3
namespace PySem
open L2
section
variable {m:Nat}{ow:Array (Option Nat)}
end
end PySem
namespace PySem
open L2
section
variable {prog:Program}{w:World}{A:Around}{E:Value->Shared->Prop}{s:Shared}
end
end PySem
namespace L2
open PySem PySem.Spec PyProof.Rows Hw
section
variable {X:Cx}
end
end L2
namespace L3
open PySem L2 Hw
noncomputable def Na:D->Option Key
 | .t (.v (.str x))=>some (Sum.inr x)
 | .t (.v (.int i))=>some (Sum.inl i)
 | _=>none
noncomputable def qh (l:List (Key×T))(k:Key):Option T:=(l.find? fun p=>decide (p.1=k)).map (·.2)
noncomputable def dput (l:List (Key×T))(k:Key)(v:T):List (Key×T):=if (l.any fun p=>decide (p.1=k))=true then l.map (fun p=>if p.1=k then (p.1,v) else p) else l++[(k,v)]
noncomputable abbrev UB (K:PySem.W.Frag)(G:Hp):List (Key×T)->List (Key×V)->Prop:=Paired fun p q=>p.1=q.1/\Rp K G p.2 q.2
section
variable {K:PySem.W.Frag}{G:Hp}
theorem AV {ρ:List Addr}{d:D}{v:V}{k:Key}(r:nK K ρ G d v)(h:Na d=some k):v=kV k:=by
 unfold Na at h
 split at h
 ·cases h;exact bE r
 ·cases h;exact bE r
 ·cases h
theorem A8 {l:List (Key×T)}{kvs:List (Key×V)}(r:UB K G l kvs)(k:Key):(∀ x,qh l k=some x->∃ v,wg kvs k=some v/\Rp K G x v)/\(qh l k=none->wg kvs k=none):=by
 induction r with
 | nil=>exact⟨(fun x h=>nomatch h),fun _=>rfl⟩
 | @cons p q ps qs h t ih =>
  by_cases e:p.1=k
  ·have e':q.1=k:=h.1 ▸ e
   have a:qh (p::ps) k=some p.2:=by unfold qh;simp[List.find?_cons,e]
   rw[a,wc e']
   exact⟨fun x z=>by cases z;exact⟨_,rfl,h.2⟩,fun z=>nomatch z⟩
  ·have e':¬ q.1=k:=fun z=>e (h.1.trans z)
   have a:qh (p::ps) k=qh ps k:=by unfold qh;simp[List.find?_cons,e]
   rw[a,we e']
   exact ih
theorem P0 {l:List (Key×T)}{kvs:List (Key×V)}(r:UB K G l kvs)(k:Key):(l.any fun p=>decide (p.1=k))=(kvs.any fun p=>decide (p.1=k)):=by
 induction r with
 | nil=>rfl
 | @cons p q ps qs h t ih=>rw[List.any_cons,List.any_cons,ih,h.1]
theorem Pg {l:List (Key×T)}{kvs:List (Key×V)}(r:UB K G l kvs)(k:Key){x:T}{v:V}(h:Rp K G x v):UB K G (l.map fun p=>if p.1=k then (p.1,x) else p) (kvs.map fun p=>if p.1=k then (p.1,v) else p):=by
 induction r with
 | nil=>exact .nil
 | @cons p q ps qs h' t ih =>
  rw[List.map_cons,List.map_cons]
  refine .cons ?_ ih
  by_cases e:p.1=k
  ·rw[if_pos e,if_pos (h'.1 ▸ e)];exact⟨h'.1,h⟩
  ·rw[if_neg e,if_neg (fun z=>e (h'.1.trans z))];exact h'
theorem AH {α β:Type}{F:α->β->Prop}:∀ {l l':List α} {m m':List β},Paired F l m->Paired F l' m'->Paired F (l++l') (m++m')
 | _,_,_,_,.nil,h=>h
 | _,_,_,_,.cons r t,h=>.cons r (AH t h)
theorem NG {l:List (Key×T)}{kvs:List (Key×V)}(r:UB K G l kvs)(k:Key){x:T}{v:V}(h:Rp K G x v):UB K G (dput l k x) (putK kvs k v):=by
 unfold dput putK
 rw[P0 r k]
 by_cases e:(kvs.any fun p=>decide (p.1=k))=true
 ·rw[if_pos e,if_pos e];exact Pg r k h
 ·rw[if_neg e,if_neg e];exact AH r (.cons ⟨rfl,h⟩ .nil)
end
noncomputable def Xo:Ei:=fun a b S k=>∃ n l key x,a=.ob n/\S[n]?=some (.yQ l)/\Na b=some key/\qh l key=some x/\k (.t x) S
section
variable {X:Cx}{o i e f value:Expr}{to ti te tx tv:gX}{pos pos' apos cpos:Pos}{t:BB}
theorem GS (hu:X.A.units+1 < cLine)(ho:QE X o to)(hi:QE X i ti)(hs:UE i:=by intro _ _;rfl):QE X (.Subscript o i pos) (JH Xo to ti) :=
 gq (O0 hu ho hi hs) (by rintro σ H Q ⟨ρ,S,δ,k,R,D,q,hk⟩;exact ⟨ρ,S,δ,_,R,D,q,(by rintro v H1 ⟨ρ1,S1,d1,g1,R1,r1,q1⟩;exact ⟨ρ1,S1,δ,_,R1,D.gr g1,q1,(by
  rintro w H2 ⟨ρ2,S2,d2,g2,R2,r2,n,l,key,x,h1,h2,h3,h4,q2⟩
  subst h1
  obtain⟨a,ha,e1⟩:=r1.gr g2
  obtain⟨kvs,e2,e3⟩:=R2.ok n a _ ha h2
  obtain⟨u,e4,e5⟩:=(A8 e3 key).1 x h4
  exact⟨a,u,e1,by rw[AV r2 h3,<- e4];exact Es.k e2,hk _ _ ⟨ρ2,S2,.t x,g1.trans g2,R2,e5,q2⟩⟩)⟩)⟩)
noncomputable def RA:gX:=fun _ S k=>k (.ob S.length) (S++[.yQ []])
theorem Mn:QE X (.Dict [] [] pos) RA:=gq ME fun σ H Q ⟨ρ,S,δ,k,R,D,q,hk⟩ p hp=>Xk R hk p hp (o:=.yQ []) ⟨[],rfl,.nil⟩ q
noncomputable def RX (to ti tv:gX):vY:=fun E δ S=>tv δ S fun y S1=>to δ S1 fun o S2=>ti δ S2 fun i S3=>∃ n l key x,o=.ob n/\S3[n]?=some (.yQ l)/\Na i=some key/\y=.t x/\l.length < sizeLine/\E.nx δ (S3.set n (.yQ (dput l key x)))
theorem IX (hu:X.A.units+1 < cLine)(ho:QE X o to)(hi:QE X i ti)(hv:QE X value tv)(hs:swapsWith value (some (.Subscript o i pos')) pos.line X.env=pure false:=by rfl):QS X (.Assign [.Subscript o i pos'] value pos) (RX to ti tv) :=
 oR (OR hu ho hi hv hs) (by rintro D σ H ⟨ρ,S,δ,E,R,RS,q,eu⟩;exact ⟨ρ,S,δ,_,R,RS,q,(by rintro v H1 ⟨ρ1,S1,d1,g1,R1,r1,q1⟩;exact ⟨ρ1,S1,δ,_,R1,RS.gr g1,q1,(by rintro w H2 ⟨ρ2,S2,d2,g2,R2,r2,q2⟩;exact   ⟨ρ2,S2,δ,_,R2,RS.gr (g1.trans g2),q2,(by
   rintro z H3 ⟨ρ3,S3,d3,g3,Cn,r3,n,l,key,x,h1,h2,h3,h4,h5,q3⟩
   subst h1 h4
   obtain⟨a,ha,e1⟩:=r2.gr g3
   obtain⟨kvs,e2,e3⟩:=Cn.ok n a _ ha h2
   have hl:kvs.length < sizeLine:=by rw[<- Paired.length e3];exact h5
   obtain⟨R4,g4⟩:=Cn.put (o:=.dK (putK kvs key v)) (u:=.yQ (dput l key x)) ha ⟨_,rfl,NG e3 key (r1.gr (g2.trans g3))⟩
   refine⟨a,_,e1,by rw[AV r3 h3];exact N4.k e2 hl,eu.nx _ _ ⟨ρ3,_,δ,((g1.trans g2).trans g3).trans g4,R4,(RS.gr ((g1.trans g2).trans g3)).gr g4,q3⟩⟩)⟩)⟩)⟩)
noncomputable def Oj (to ti tx:gX):gX:=fun δ S k=>to δ S fun o S1=>∃ n l0,o=.ob n/\S1[n]?=some (.yQ l0)/\ti δ S1 fun i S2=>tx δ S2 fun z S3=>∃ l key,S3[n]?=some (.yQ l)/\Na i=some key/\k (match qh l key with | some x=>.t x | none=>z) S3
theorem OH (hu:X.A.units+1 < cLine)(ho:QE X o to)(he:QE X e te)(hf:QE X f tx)(m:M2 X o "get" apos e f cpos:=by exact⟨rfl,rfl,rfl,rfl⟩):QE X (.Call (.Attribute o "get" apos) [e,f] [] cpos) (Oj to te tx) :=
 gq (MF hu ho he hf m) fun σ H Q ⟨ρ,S,δ,k,R,D,q,hk⟩=>⟨ρ,S,δ,_,R,D,q,(by
  rintro v H1 ⟨ρ1,S1,d1,g1,R1,r1,n,l0,h1,h2,q1⟩
  subst h1
  obtain⟨a,ha,e1⟩:=r1
  obtain⟨kvs,e2,e3⟩:=R1.ok n a _ ha h2
  refine⟨a,e1,.inl ⟨kvs,.inl e2⟩,ρ1,S1,δ,_,R1,D.gr g1,q1,fun w H2 ⟨ρ2,S2,d2,g2,R2,r2,q2⟩=>⟨ρ2,S2,δ,_,R2,D.gr (g1.trans g2),q2,fun z H3 ⟨ρ3,S3,d3,g3,Cn,r3,l,key,h3,h4,q3⟩=>?_⟩⟩
  obtain⟨kvs',f1,f2⟩:=Cn.ok n a _ ((g2.trans g3).at ha) h3
  refine⟨wg kvs' key,by rw[AV (r2.gr g3) h4];exact Es.k f1,?_⟩
  have gg:=(g1.trans g2).trans g3
  cases c:qh l key with
  | none=>rw[c] at q3;rw[(A8 f2 key).2 c];exact hk _ _ ⟨ρ3,S3,d3,gg,Cn,r3,q3⟩
  | some x =>
   rw[c] at q3
   obtain⟨u,i1,i2⟩:=(A8 f2 key).1 x c
   rw[i1]
   exact hk _ _ ⟨ρ3,S3,.t x,gg,Cn,i2,q3⟩)⟩
end
noncomputable def yk (x:Str):List Str->List Str
 | []=>[x]
 | y::r=>if lt x y=true then x::y::r else if x=y then y::r else y::yk x r
noncomputable def xT:List Str->List Str:=List.foldr yk []
theorem A1 {x z:Str}:∀ {l:List Str},z∈yk x l↔z=x∨z∈l
 | []=>by simp[yk]
 | y::r=>by
  unfold yk
  by_cases h:lt x y=true
  ·rw[if_pos h,List.mem_cons]
  ·rw[if_neg h]
   by_cases e:x=y
   ·subst e
    rw[if_pos rfl,List.mem_cons]
    constructor
    ·intro q;exact .inr q
    ·rintro(q | q)
     ·exact .inl q
     ·exact q
   ·rw[if_neg e,List.mem_cons,A1,List.mem_cons]
    constructor
    ·rintro(q | q | q)
     ·exact .inr (.inl q)
     ·exact .inl q
     ·exact .inr (.inr q)
    ·rintro(q | q | q)
     ·exact .inr (.inl q)
     ·exact .inl q
     ·exact .inr (.inr q)
theorem lS {z:Str}:∀ {l:List Str},z∈xT l↔z∈l
 | []=>Iff.rfl
 | x::r=>by
  show z∈yk x (xT r)↔_
  rw[A1,lS,List.mem_cons]
theorem Jh {x:Str}:∀ {l:List Str},l.Pairwise (fun a b=>lt a b=true)->(yk x l).Pairwise fun a b=>lt a b=true
 | [],_=>by unfold yk;simp
 | y::r,h=>by
  unfold yk
  by_cases e:lt x y=true
  ·rw[if_pos e]
   refine List.pairwise_cons.mpr ⟨fun z hz=>?_,h⟩
   rcases List.mem_cons.mp hz with rfl | hz
   ·exact e
   ·exact lt_trans e ((List.pairwise_cons.mp h).1 z hz)
  ·rw[if_neg e]
   by_cases q:x=y
   ·rw[if_pos q];exact h
   ·rw[if_neg q]
    refine List.pairwise_cons.mpr ⟨fun z hz=>?_,Jh (List.pairwise_cons.mp h).2⟩
    rcases A1.mp hz with rfl | hz
    ·rcases DS z y with a | a | a
     ·exact absurd a e
     ·exact absurd a q
     ·exact a
    ·exact(List.pairwise_cons.mp h).1 z hz
theorem Ab:∀ (l:List Str),(xT l).Pairwise fun a b=>lt a b=true
 | []=>.nil
 | x::r=>Jh (Ab r)
theorem RP {l ys:List Str}(h:ys.Pairwise (fun a b=>lt b a=false))(n:ys.Nodup)(m:∀ x,x∈ys↔x∈l):ys=xT l:=xY (ET h n) (Ab l) fun x=>(m x).trans lS.symm
theorem LV {l m:List Str}(h:∀ x,x∈l↔x∈m):xT l=xT m:=xY (Ab l) (Ab m) fun x=>(lS.trans (h x)).trans lS.symm
noncomputable def Mb:Lu
 | [.ob n],S,k=>∃ l ss,S[n]?=some (.yQ l)/\l.map (·.1)=List.map (Sum.inr:Str->Key) ss/\ss.Nodup/\l.length < 64/\k (.lst ((xT ss).map T.str)) S
 | _,_,_=>False
section
variable {X:Cx}{e f:Expr}{te tf:gX}{p1 p2 p3 p4 p5 pos pos':Pos}
theorem M9 {K:PySem.W.Frag}{G:Hp}{l:List (Key×T)}{kvs:List (Key×V)}(r:UB K G l kvs):kvs.map (·.1)=l.map (·.1):=by
 induction r with
 | nil=>rfl
 | cons h t ih=>rw[List.map_cons,List.map_cons,ih,h.1]
theorem Jx (hc:X.calm=true):Call3 X (.builtin "sorted") Mb:=by
 refine oj (D8 hc) ?_
 rintro vs H Q ⟨ρ,S,ds,k,R,rd,q,hk⟩
 unfold Mb at q
 split at q
 ·obtain⟨l,ss,h1,h2,h3,h4,h5⟩:=q
  obtain⟨v,rfl,a,ha,rfl⟩:=rd.one
  obtain⟨kvs,e1,e2⟩:=R.ok _ a _ ha h1
  refine⟨a,kvs,ss,rfl,e1,by rw[M9 e2];exact h2,by rw[<- Paired.length e2];exact h4,fun l' ys hl hp hs=>?_⟩
  rw[RP hs (hp.nodup_iff.mpr h3) (fun x=>hp.mem_iff)]
  exact Fy R hk (cZ.ofStrs _) h5 l' hl
 ·exact q.elim
end
theorem Fi (x:Str):∀ l:List Str,(yk x l).length<=l.length+1
 | []=>by simp[yk]
 | y::r=>by
  unfold yk
  split
  ·simp
  ·split
   ·simp
   ·have:=Fi x r
    simp only[List.length_cons];omega
theorem wk:∀ l:List Str,(xT l).length<=l.length
 | []=>Nat.le_refl _
 | x::r=>by
  have h1:=Fi x (xT r)
  have h2:=wk r
  show(yk x (xT r)).length<=r.length+1
  omega
theorem uE {k:Nat}{A:Around}(hr:fZ k A):A.units+1+40 < cLine:=by have:=hr.un;omega
section
variable {P:Program}{w:World}{K:PySem.W.Frag}{mg:Str->Option Value}{base:Heap}{j k:Nat}{x m:Str}{C:Addr}{ps:List Str}
theorem Dn.up {sp:Sp}(h:Dn P w K mg base j x ps sp)(l:j<=k):Dn P w K mg base k x ps sp:=let ⟨f,fd,F,a⟩:=h;⟨f,fd,F.mono l,a⟩
theorem Mt.up {sp:Sp}(h:Mt P w K mg base j C m ps sp)(l:j<=k):Mt P w K mg base k C m ps sp:=let ⟨f,fd,F,a⟩:=h;⟨f,fd,F.mono l,a⟩
theorem Ms.up {n:Nat}{cl:Nat->Addr}{sp:Nat->fD}(h:Ms P w K mg base j n cl m ps sp)(l:j<=k):Ms P w K mg base k n cl m ps sp:=fun i hi=>Mt.up (h i hi) l
noncomputable def pH (P:Program)(w:World)(K:PySem.W.Frag)(mg:Str->Option Value)(base:Heap)(k:Nat)(C:Addr)(x:Str)(ps:List Str)(sp:fD):Prop:=∃ j,j < k/\Mkr P w K mg base j C x ps sp
theorem pH.up {sp:fD}(h:pH P w K mg base j C x ps sp)(l:j<=k):pH P w K mg base k C x ps sp:=let ⟨i,a,b⟩:=h;⟨i,Nat.lt_of_lt_of_le a l,b⟩
end
section
variable {X:Cx}{o e i:Expr}{es:List Expr}{ta te:gX}{t:BB}{f m x:Str}{pos apos p:Pos}{k:Nat}{ps:List Str}{sp:fD}{C:Addr}
theorem sW (F:pH X.prog X.w X.K X.mg X.base k C x ps sp)(hr:fZ k X.A)(hg:Gl X x)(ha:QA X (e::es) t)(h1:notStar e=true:=by rfl)(h2:es.all notStar=true:=by rfl)(hdb:(x == ("__debug__":Str))=false:=by decide) :
  QE X (.Call (.Name x p) (e::es) [] pos) (LK C sp t):=let ⟨_,hj,F⟩:=F;Se F (hr.mono hj) hg ha h1 h2 hdb
structure Cm (P:Program)(w:World)(K:PySem.W.Frag)(mg:Str->Option Value)(base:Heap)(k:Nat)(x m:Str)(ps:List Str)(sp:fD):Prop where
 ok:∃ (C f:Addr) (fd:FuncData),aU P w K mg base dG k f fd ps (bA K sp)/\mg x=some (.ref C)/\PySem.W.specialIn K (.ref C) "__getattribute__"=some (some (.builtin "type.__getattribute__"))/\PySem.W.readsIn K C (.type "type")=true /\
  PySem.W.findCls K (.ref C) (.type "type") m=some (.val (.ref f))/\PySem.W.keepIn K (.ref f)=true/\Binds K fd ps []
theorem p7 {pl:Sem Bool}(F:Cm X.prog X.w X.K X.mg X.base k x m ps sp)(hr:fZ k X.A)(hg:Gl X x)(ha:QA X (e::es) t)(h1:notStar e=true:=by rfl)(h2:es.all notStar=true:=by rfl)(hdb:(x == ("__debug__":Str))=false:=by decide)
  (ht:eval (.Call (.Attribute (.Name x p) m apos) (e::es) [] pos) X.env=(do
   let ov <- eval (.Name x p) X.env
   standAt apos.atName
   let (f,first) <- holding [ov] (getMethod ov m pl)
   callWith pos f first (backTo pos (starEach (e::es) X.env)) (backToKw pos (keywordEach [] X.env))):=by rfl) :
  QE X (.Call (.Attribute (.Name x p) m apos) (e::es) [] pos) (GD sp t):=by
 obtain⟨C,f,fd,F,hm,s1,s2,s3,hk,hb⟩:=F.ok
 refine gq (O3 hg hm s1 s2 s3 rfl hk F hr hb E2 ha (lR h1) (mV h2) hdb ht) fun σ H Q ⟨ρ,S,δ,k,R,D,q,hk⟩=>⟨ρ,S,δ,_,R,D,q,fun v H1 ⟨ρ1,S1,d,g1,R1,r1,q1⟩=>?_⟩
 show bA X.K sp (v++[]) H1 Q E0
 rw[List.append_nil]
 exact M4 g1 R1 r1 q1 hk
noncomputable def S7:D->bQ->KD->Prop
 | .t (.v (.int i)),S,k=>k (.int (-i)) S
 | _,_,_=>False
noncomputable def Vj (t:gX):gX:=fun δ S k=>t δ S fun d S1=>S7 d S1 k
theorem CN (h:QE X e te):QE X (.UnaryOp .USub e pos) (Vj te):=gq (VS Rr h) (by rintro σ H Q ⟨ρ,S,δ,k,R,D,q,hk⟩;exact ⟨ρ,S,δ,_,R,D,q,(by
 rintro v H1 ⟨ρ1,S1,d,g1,R1,r1,q1⟩
 replace q1:S7 d S1 k:=q1
 unfold S7 at q1
 split at q1
 ·exact⟨_,bE r1,hk _ _ ⟨ρ1,S1,_,g1,R1,cM,q1⟩⟩
 ·exact q1.elim)⟩)
theorem DF {xs:List Str}(h:QM e=some xs):QE X e (fun _ S k=>xs.length<=sizeLine/\k (.lst (xs.map T.str)) S):=gq (OV h) (by rintro σ H Q ⟨ρ,S,δ,k,R,D,q,hk⟩;exact ⟨by rw[List.length_map];exact q.1,Fy R hk (cZ.ofStrs xs) q.2⟩)
end
section
variable {G:bQ->Prop}{g:zy}{tb:vY}{tt:rQ}{te:gX}{δ0:Sl}
theorem xg {E:uG}{δ:Sl}{S:bQ}{its:List D}(I:Nat->Sl->bQ->Prop)(h0:I 0 δ S)
  (hs:∀ i x δ S (N:KS),its[i]?=some x->I i δ S->(∀ δ' S',I (i+1) δ' S'->N δ' S')->G S/\g x δ S fun δ1 S1=>tb { E with nx:=N,ct:=N,bk:=E.nx } δ1 S1)
  (hd:∀ δ S,I its.length δ S->G S/\E.nx δ S):Cc G g tb its E δ S:=by
 have go:∀ (n i:Nat) (δ:Sl) (S:bQ),its.length - i=n->i<=its.length->I i δ S->Cc G g tb (its.drop i) E δ S:=by
  intro n
  induction n with
  | zero =>
   intro i δ S e hi h
   have:i=its.length:=by omega
   subst this
   rw[List.drop_length]
   exact hd δ S h
  | succ n ih =>
   intro i δ S e hi h
   have hlt:i < its.length:=by omega
   rw[List.drop_eq_getElem_cons hlt]
   exact hs i its[i] δ S _ (List.getElem?_eq_getElem hlt) h fun δ' S' h'=>ih (i+1) δ' S' (by omega) hlt h'
 have:=go _ 0 δ S rfl (Nat.zero_le _) h0
 rwa [List.drop_zero] at this
noncomputable def elem (g:zy)(tt:rQ)(te:gX)(δ0:Sl)(x:D)(S:bQ)(k:Option T->bQ->Prop):Prop :=
 g x δ0 S fun δ1 S1=>tt δ1 S1 fun b S2=>if b=true then te δ1 S2 fun d S3=>∃ y,d=.t y/\k (some y) S3 else k none S2
noncomputable def XC (ys:List T):Option T->List T
 | some y=>ys++[y]
 | none=>ys
theorem NO {k:List T->bQ->Prop}{ys:List T}{S:bQ}{its:List D}(I:Nat->List T->bQ->Prop)(h0:I 0 ys S)
  (hs:∀ i x ys S (k':Option T->bQ->Prop),its[i]?=some x->I i ys S->(∀ o S',I (i+1) (XC ys o) S'->k' o S')->G S/\ys.length < sizeLine/\elem g tt te δ0 x S k')
  (hd:∀ ys S,I its.length ys S->G S/\k ys S):iR G g tt te δ0 its S ys k:=by
 have go:∀ (n i:Nat) (ys:List T) (S:bQ),its.length - i=n->i<=its.length->I i ys S->iR G g tt te δ0 (its.drop i) S ys k:=by
  intro n
  induction n with
  | zero =>
   intro i ys S e hi h
   have:i=its.length:=by omega
   subst this
   rw[List.drop_length]
   exact hd ys S h
  | succ n ih =>
   intro i ys S e hi h
   have hlt:i < its.length:=by omega
   rw[List.drop_eq_getElem_cons hlt]
   obtain⟨h1,h2,h3⟩:=hs i its[i] ys S (fun o S'=>match o with | some y=>ys.length < sizeLine/\iR G g tt te δ0 (its.drop (i+1)) S' (ys++[y]) k | none=>iR G g tt te δ0 (its.drop (i+1)) S' ys k) (List.getElem?_eq_getElem hlt) h fun o S' h'=>by
    cases o with
    | none=>exact ih (i+1) ys S' (by omega) hlt h'
    | some y=>exact⟨(hs i its[i] ys S (fun _ _=>True) (List.getElem?_eq_getElem hlt) h fun _ _ _=>trivial).2.1,ih (i+1) (ys++[y]) S' (by omega) hlt h'⟩
   exact⟨h1,h3⟩
 have:=go _ 0 ys S rfl (Nat.zero_le _) h0
 rwa [List.drop_zero] at this
end
noncomputable abbrev Sm:=List (Str×Int)×Int
noncomputable def wt (l:List (Str×Int))(x:Str):Int:=((l.filter fun p=>decide (p.1=x)).map (·.2)).sum
noncomputable def norm (l:List (Str×Int)):List (Str×Int):=((xT (l.map (·.1))).map fun x=>(x,wt l x)).filter fun p=>decide (p.2≠0)
noncomputable def sumOf (l:List (Str×Int))(n:Int):Sm:=(norm l,n)
noncomputable def pT (p:Str×Int):T:=.tup [.str p.1,.int p.2]
theorem LD (x:Str):wt [] x=0:=rfl
theorem v9 (p:Str×Int)(l:List (Str×Int))(x:Str):wt (p::l) x=(if p.1=x then p.2 else 0)+wt l x:=by
 unfold wt
 by_cases h:p.1=x
 ·rw[List.filter_cons_of_pos (by simpa using h),List.map_cons,List.sum_cons,if_pos h]
 ·rw[List.filter_cons_of_neg (by simpa using h),if_neg h];omega
theorem Rq (l m:List (Str×Int))(x:Str):wt (l++m) x=wt l x+wt m x:=by
 induction l with
 | nil=>rw[LD];simp
 | cons p r ih=>rw[List.cons_append,v9,v9,ih];omega
theorem LC {l:List (Str×Int)}{x:Str}(h:x ∉ l.map (·.1)):wt l x=0:=by
 induction l with
 | nil=>rfl
 | cons p r ih =>
  rw[List.map_cons,List.mem_cons,not_or] at h
  rw[v9,if_neg (fun e=>h.1 e.symm),ih h.2];rfl
structure La (l:List (Str×Int))(d:List (Key×T)):Prop where
 val:∀ x,qh d (.inr x)=if x∈l.map (·.1) then some (.int (wt l x)) else none
 keys:∃ ss:List Str,d.map (·.1)=ss.map Sum.inr/\ss.Nodup/\∀ x,x∈ss↔x∈l.map (·.1)
 len:d.length<=l.length
theorem Fz (d:List (Key×T))(a b:Key)(v:T):qh (dput d a v) b=if a=b then some v else qh d b:=by
 unfold dput
 by_cases h:(d.any fun p=>decide (p.1=a))=true
 ·rw[if_pos h]
  induction d with
  | nil=>simp at h
  | cons p r ih =>
   rw[List.map_cons]
   unfold qh at ih ⊢
   by_cases e:p.1=a
   ·rw[if_pos e]
    by_cases q:a=b
    ·subst q;rw[if_pos rfl];simp[List.find?_cons,e]
    ·rw[if_neg q]
     have ne:¬ p.1=b:=fun z=>q (e ▸ z)
     rw[List.find?_cons_of_neg (by simpa using ne),List.find?_cons_of_neg (by simpa using ne)]
     by_cases h2:(r.any fun p=>decide (p.1=a))=true
     ·rw[ih h2,if_neg q]
     ·have:r.map (fun p=>if p.1=a then (p.1,v) else p)=r:=by
       have hn:∀ z∈r,¬ z.1=a:=fun z hz e=>h2 (List.any_eq_true.mpr ⟨z,hz,by simpa using e⟩)
       have:∀ (r:List (Key×T)),(∀ z∈r,¬ z.1=a)->r.map (fun p=>if p.1=a then (p.1,v) else p)=r:=by
        intro r
        induction r with
        | nil=>intro _;rfl
        | cons z s ih=>intro hz;rw[List.map_cons,if_neg (hz z List.mem_cons_self),ih fun y hy=>hz y (List.mem_cons_of_mem _ hy)]
       exact this r hn
      rw[this]
   ·rw[if_neg e]
    have h2:(r.any fun p=>decide (p.1=a))=true:=by
     rw[List.any_cons,decide_eq_false e,Bool.false_or] at h;exact h
    by_cases q:p.1=b
    ·have:¬ a=b:=fun z=>e (q.trans z.symm)
     rw[if_neg this,List.find?_cons_of_pos (by simpa using q),List.find?_cons_of_pos (by simpa using q)]
    ·rw[List.find?_cons_of_neg (by simpa using q),List.find?_cons_of_neg (by simpa using q)]
     exact ih h2
 ·rw[if_neg h]
  unfold qh
  have hn:∀ z∈d,¬ z.1=a:=fun z hz e=>h (List.any_eq_true.mpr ⟨z,hz,by simpa using e⟩)
  by_cases q:a=b
  ·subst q
   rw[if_pos rfl,List.find?_append]
   have:d.find? (fun p=>decide (p.1=a))=none:=List.find?_eq_none.mpr fun z hz=>by simpa using hn z hz
   rw[this];simp
  ·rw[if_neg q,List.find?_append]
   have:([(a,v)]:List (Key×T)).find? (fun p=>decide (p.1=b))=none:=by simp[List.find?_cons,q]
   rw[this];simp
theorem CU (d:List (Key×T))(a:Key)(v:T):(a∈d.map (·.1)->(dput d a v).map (·.1)=d.map (·.1))/\(a ∉ d.map (·.1)->(dput d a v).map (·.1)=d.map (·.1)++[a]):=by
 unfold dput
 by_cases h:(d.any fun p=>decide (p.1=a))=true
 ·obtain⟨z,hz,e⟩:=List.any_eq_true.mp h
  have hm:a∈d.map (·.1):=List.mem_map.mpr ⟨z,hz,by simpa using e⟩
  refine⟨fun _=>?_,fun z=>absurd hm z⟩
  rw[if_pos h,List.map_map]
  refine List.map_congr_left fun p _=>?_
  show(if p.1=a then (p.1,v) else p).1=p.1
  split <;> rfl
 ·have hm:a ∉ d.map (·.1):=fun hm=>by
   obtain⟨z,hz,e⟩:=List.mem_map.mp hm
   exact h (List.any_eq_true.mpr ⟨z,hz,by simpa using e⟩)
  refine⟨fun z=>absurd z hm,fun _=>?_⟩
  rw[if_neg h,List.map_append];rfl
theorem La.nil:La [] []:=⟨fun x=>by simp[qh],⟨[],rfl,.nil,fun x=>by simp⟩,Nat.le_refl _⟩
theorem La.snoc {l:List (Str×Int)}{d:List (Key×T)}(h:La l d)(x:Str)(w:Int){i:Int}(hi:i=wt l x+w):La (l++[(x,w)]) (dput d (.inr x) (.int i)):=by
 obtain⟨ss,h1,h2,h3⟩:=h.keys
 refine⟨fun y=>?_,?_,?_⟩
 ·rw[Fz,h.val y,List.map_append,Rq,v9,LD]
  by_cases e:x=y
  ·subst e
   rw[if_pos rfl,if_pos (by simp),if_pos rfl,hi];congr 3;omega
  ·have:¬ (Sum.inr x:Key)=Sum.inr y:=fun z=>e (Sum.inr.inj z)
   rw[if_neg this,if_neg e]
   by_cases m:y∈l.map (·.1)
   ·rw[if_pos m,if_pos (List.mem_append_left _ m)];congr 3;omega
   ·rw[if_neg m,if_neg]
    intro z
    rcases List.mem_append.mp z with z | z
    ·exact m z
    ·simp at z;exact e z.symm
 ·obtain⟨k1,k2⟩:=CU d (.inr x) (.int i)
  rw[h1] at k1 k2
  by_cases m:(Sum.inr x:Key)∈ss.map Sum.inr
  ·have mx:x∈ss:=by
    obtain⟨y,hy,e⟩:=List.mem_map.mp m
    rw[<- Sum.inr.inj e];exact hy
   refine⟨ss,k1 m,h2,fun y=>?_⟩
   rw[h3 y,List.map_append,List.mem_append]
   constructor
   ·exact .inl
   ·rintro(z | z)
    ·exact z
    ·simp at z;subst z;exact(h3 y).mp mx
  ·have mx:x ∉ ss:=fun z=>m (List.mem_map.mpr ⟨x,z,rfl⟩)
   refine⟨ss++[x],by rw[k2 m];simp,?_,fun y=>?_⟩
   ·rw[List.nodup_append]
    refine⟨h2,by simp,fun a ha b hb=>?_⟩
    rw[List.mem_singleton.mp hb]
    exact fun z=>mx (z ▸ ha)
   ·rw[List.map_append,List.mem_append,List.mem_append,h3 y];simp
 ·have:(dput d (.inr x) (.int i)).length<=d.length+1:=by
   unfold dput
   split
   ·simp
   ·simp
  have:=h.len
  simp;omega
theorem sz (n:Nat)(h:n<=1000:=by decide):n<=sizeLine:=Nat.le_trans h (by rw[sizeLine_eq];decide)
theorem eX {n:Nat}(h:n<=1000):n<=sizeLine:=sz n h
theorem oA {n:Nat}(h:n<=1000):n < sizeLine:=JI h
theorem aB {S:bQ}{o:O}:(S++[o])[S.length]?=some o:=by simp
theorem gp {S:bQ}{o o':O}:(S++[o]).set S.length o'=S++[o']:=by simp
theorem made {S:bQ}{C:Addr}{ns:List Str}{l:List T}{o:O}{k:KD}(h:k (.t (.ins C ns l)) S):QL C S k .fE ((S++[o]).set S.length (.ins C ns (l.map .t))):=⟨rfl,ns,l,gp,h⟩
theorem Pc (l:List (Str×Int)):(xT (l.map (·.1))).filterMap (fun x=>if wt l x≠0 then some (pT (x,wt l x)) else none)=(norm l).map pT:=by
 unfold norm
 generalize xT (l.map (·.1))=r
 induction r with
 | nil=>rfl
 | cons a r ih =>
  rw[List.map_cons]
  by_cases h:wt l a≠0
  ·rw[List.filterMap_cons_some (f:=fun x=>if wt l x≠0 then some (pT (x,wt l x)) else none) (if_pos h),ih,List.filter_cons_of_pos (by simpa using h)];rfl
  ·rw[List.filterMap_cons_none (f:=fun x=>if wt l x≠0 then some (pT (x,wt l x)) else none) (if_neg h),ih,List.filter_cons_of_neg (by simpa using h)]
theorem MS (l:List (Str×Int)):(norm l).length<=l.length:=by
 unfold norm
 have h1:=List.length_filter_le (fun p:Str×Int=>decide (p.2≠0)) ((xT (l.map (·.1))).map fun x=>(x,wt l x))
 have h2:=wk (l.map (·.1))
 rw[List.length_map] at h1 h2
 omega
theorem je {a b:Int}:decide (V.int a=V.int b)=decide (a=b):=by
 rw[decide_eq_decide]
 exact⟨fun h=>V.int.inj h,fun h=>by rw[h]⟩
theorem LO {a b:Str}:decide (V.str a=V.str b)=decide (a=b):=by
 rw[decide_eq_decide]
 exact⟨fun h=>V.str.inj h,fun h=>by rw[h]⟩
section
variable {S loc:bQ}{d:D}{l:List T}
theorem M1 (h:lq S d=some l):lq (S++loc) d=some l:=by
 cases d with
 | t x=>cases x <;> exact h
 | ob n =>
  have h:(match S[n]? with | some (.lst l)=>some l | _=>none)=some l:=h
  show(match (S++loc)[n]? with | some (.lst l)=>some l | _=>none)=some l
  cases q:S[n]? with
  | none=>rw[q] at h;cases h
  | some o =>
   rw[List.getElem?_append_left (List.getElem?_eq_some_iff.mp q).1,q]
   rw[q] at h
   exact h
theorem zV (h:xq S d=some l):d=.tup l∨lq S d=some l:=by
 cases d with
 | ob n=>exact .inr h
 | t x =>
  cases x with
  | tup m=>left;have h:some m=some l:=h;injection h with h;rw[h]
  | _=>exact .inr h
theorem ur (h:xq S d=some l):sq S d=some l:=by
 rcases zV h with rfl | h
 ·rfl
 ·cases d with
  | ob n=>exact h
  | t x =>
   cases x with
   | tup m=>cases h
   | Eu m=>cases h
   | _=>exact h
theorem qz {n:Nat}{o:O}(h:S[n]?=some o):(S++loc)[n]?=some o:=by rw[List.getElem?_append_left (List.getElem?_eq_some_iff.mp h).1];exact h
theorem Ni {k:List D->(bQ->Prop)->bQ->Prop}(h:xq S d=some l)(hk:∀ G:bQ->Prop,(∀ loc,G (S++loc))->k (l.map .t) G (S++loc)):Ks d (S++loc) k:=by
 rcases zV h with rfl | h
 ·exact .inl ⟨l,.inl rfl,hk _ fun _=>trivial⟩
 ·cases d with
  | t x =>
   cases x with
   | lst m =>
    have h:some m=some l:=h
    injection h with h
    subst h
    exact .inl ⟨m,.inr rfl,hk _ fun _=>trivial⟩
   | _=>cases h
  | ob n =>
   have h':(match S[n]? with | some (.lst l)=>some l | _=>none)=some l:=h
   cases q:S[n]? with
   | none=>rw[q] at h';cases h'
   | some o =>
    rw[q] at h'
    cases o with
    | lst m =>
     have h':some m=some l:=h'
     injection h' with h'
     subst h'
     exact .inr ⟨n,m,rfl,qz q,hk _ fun loc=>qz q⟩
    | _=>cases h'
theorem QU {k:List D->(bQ->Prop)->bQ->Prop}(h:xq S d=some l)(hk:∀ G:bQ->Prop,(∀ loc,G (S++loc))->k (l.map .t) G S):Ks d S k:=by
 have:=Ni (loc:=[]) (k:=k) h (by simpa using hk)
 simpa using this
theorem dI {k:List D->(bQ->Prop)->bQ->Prop}(hk:k (l.map .t) (fun _=>True) S):Ks (.tup l) S k:=.inl ⟨l,.inl rfl,hk⟩
theorem qv {k:List D->(bQ->Prop)->bQ->Prop}(hk:k (l.map .t) (fun _=>True) S):Ks (.lst l) S k:=.inl ⟨l,.inr rfl,hk⟩
end
theorem yp {α:Type}{G:bQ->Prop}{g:zy}{tt:rQ}{te:gX}{δ0:Sl}{k:List T->bQ->Prop}{S:bQ}{l:List α}(c:α->T)(f:α->Option T)(hG:G S)(hl:l.length<=sizeLine)(hs:∀ x∈l,∀ k':Option T->bQ->Prop,k' (f x) S->elem g tt te δ0 (.t (c x)) S k')
  (hk:k (l.filterMap f) S):iR G g tt te δ0 ((l.map c).map .t) S [] k:=by
 have go:∀ (r:List α) (ys:List T),ys.length+r.length<=sizeLine->(∀ x∈r,∀ k':Option T->bQ->Prop,k' (f x) S->elem g tt te δ0 (.t (c x)) S k')->k (ys++r.filterMap f) S->iR G g tt te δ0 ((r.map c).map .t) S ys k:=by
  intro r
  induction r with
  | nil=>intro ys _ _ q;rw[List.filterMap_nil,List.append_nil] at q;exact⟨hG,q⟩
  | cons a r ih =>
   intro ys hz hs q
   rw[List.length_cons] at hz
   refine⟨hG,hs a List.mem_cons_self (fun o S'=>match o with | some y=>ys.length < sizeLine/\iR G g tt te δ0 ((r.map c).map .t) S' (ys++[y]) k | none=>iR G g tt te δ0 ((r.map c).map .t) S' ys k) ?_⟩
   cases e:f a with
   | none=>exact ih ys (by omega) (fun x hx=>hs x (List.mem_cons_of_mem _ hx)) (by rw[List.filterMap_cons_none e] at q;exact q)
   | some y=>exact⟨by omega,ih (ys++[y]) (by simp;omega) (fun x hx=>hs x (List.mem_cons_of_mem _ hx)) (by rw[List.filterMap_cons_some e] at q;simpa using q)⟩
 exact go l [] (by simpa using hl) hs (by simpa using hk)
theorem Pw {α β:Type}(f:α->β)(l:List α):l.filterMap (fun x=>some (f x))=l.map f:=by
 induction l with
 | nil=>rfl
 | cons a r ih=>rw[List.filterMap_cons_some (f:=fun x=>some (f x)) rfl,ih];rfl
theorem dg {α:Type}{G:bQ->Prop}{g:zy}{tt:rQ}{te:gX}{δ0:Sl}{k:List T->bQ->Prop}{S:bQ}{l:List α}(c f:α->T)(hG:G S)(hl:l.length<=sizeLine)(hs:∀ x∈l,∀ k':Option T->bQ->Prop,k' (some (f x)) S->elem g tt te δ0 (.t (c x)) S k')
  (hk:k (l.map f) S):iR G g tt te δ0 ((l.map c).map .t) S [] k:=yp c (fun x=>some (f x)) hG hl hs (by rw[Pw];exact hk)
theorem uB {α:Type}{G:bQ->Prop}{g:zy}{tb:vY}{E:uG}{δ:Sl}{S:bQ}{l:List α}(c:α->T)(I:List α->Sl->bQ->Prop)(h0:I [] δ S)
  (hs:∀ pre x post δ S (N:KS),l=pre++x::post->I pre δ S->(∀ δ' S',I (pre++[x]) δ' S'->N δ' S')->G S/\g (.t (c x)) δ S fun δ1 S1=>tb { E with nx:=N,ct:=N,bk:=E.nx } δ1 S1)
  (hd:∀ δ S,I l δ S->G S/\E.nx δ S):Cc G g tb ((l.map c).map .t) E δ S:=by
 have go:∀ (r pre:List α) (δ:Sl) (S:bQ),l=pre++r->I pre δ S->Cc G g tb ((r.map c).map .t) E δ S:=by
  intro r
  induction r with
  | nil=>intro pre δ S e h;rw[List.append_nil] at e;subst e;exact hd δ S h
  | cons a r ih=>intro pre δ S e h;exact hs pre a r δ S _ e h fun δ' S' h'=>ih (pre++[a]) δ' S' (by rw[e];simp) h'
 exact go l [] δ S rfl h0
theorem ln1 {l:List T}(h:l.length=1):∃ a,l=[a]:=by
 match l,h with
 | [a],_=>exact⟨a,rfl⟩
theorem ln2 {l:List T}(h:l.length=2):∃ a b,l=[a,b]:=by
 match l,h with
 | [a,b],_=>exact⟨a,b,rfl⟩
theorem Zj {l:List T}(h:l.length=3):∃ a b c,l=[a,b,c]:=by
 match l,h with
 | [a,b,c],_=>exact⟨a,b,c,rfl⟩
theorem ln4 {l:List T}(h:l.length=4):∃ a b c d,l=[a,b,c,d]:=by
 match l,h with
 | [a,b,c,d],_=>exact⟨a,b,c,d,rfl⟩
theorem ln5 {l:List T}(h:l.length=5):∃ a b c d e,l=[a,b,c,d,e]:=by
 match l,h with
 | [a,b,c,d,e],_=>exact⟨a,b,c,d,e,rfl⟩
theorem rA {S:bQ}{i:Nat}{o:O}(h:i < S.length):(S.set i o)[i]?=some o:=List.getElem?_set_self h
theorem DT {S loc:bQ}{j:Nat}{l:List T}(h:loc[j]?=some (.lst l)):lq (S++loc) (.ob (S.length+j))=some l:=by
 show(match (S++loc)[S.length+j]? with | some (.lst l)=>some l | _=>none)=some l
 rw[bC,h]
noncomputable def zL (C:Addr)(ns:List Str):fD:=fun ds S k=>∃ (n:Nat) (l:List T),ds=.ob n::l.map .t/\l.length=ns.length/\S[n]?=some (.ins C [] [])/\k .fE (S.set n (.ins C ns (l.map .t)))
noncomputable def qK (K:PySem.W.Frag):fD:=fun ds S k=>∃ (n:Nat) (x:T) (C:Addr),ds=[.ob n,.t x]/\S[n]?=some (.ins C [] [])/\aT K C "at"/\k .fE (S.set n (.ins C ["at"] ([x].map .t)))
theorem set_same {S:bQ}{f:Nat}{o:O}(h:S[f]?=some o):S.set f o=S:=by
 obtain⟨h1,h2⟩:=List.getElem?_eq_some_iff.mp h
 rw[<- h2];exact List.set_getElem_self h1
theorem gk {S S':bQ}{d:D}{k:KD}(h:k d S'):closes S.length d S' k:=.inr (.inr (.inr h))
theorem kZ {S:bQ}{b:Nat}{l:List T}(h:S[b]?=some (.lst l)):sq S (.ob b)=some l:=by
 unfold sq
 show(match S[b]? with | some (.lst l)=>some l | _=>none)=_
 rw[h]
theorem bX {S:bQ}{b:Nat}{l:List T}(h:S[b]?=some (.lst l)):lq S (.ob b)=some l:=by
 show(match S[b]? with | some (.lst l)=>some l | _=>none)=_
 rw[h]
theorem mT {S:bQ}{i:Nat}{C:Addr}{ns ns':List Str}{l l':List D}(h1:S[i]?=some (.ins C ns l)){d:D}{m:List T}(h:xq S d=some m):xq (S.set i (.ins C ns' l')) d=some m:=by
 rcases zV h with rfl | h
 ·rfl
 ·have key:lq (S.set i (.ins C ns' l')) d=some m:=by
   unfold lq at h ⊢
   split at h
   ·exact h
   ·rename_i n hq
    have hn:n≠i:=fun e=>by subst e;rw[h1] at h;cases h
    show(match (S.set i (O.ins C ns' l'))[n]? with | some (.lst l)=>some l | _=>none)=some m
    rw[List.getElem?_set_ne (Ne.symm hn)]
    exact h
   ·cases h
  unfold xq
  split
  ·unfold lq at key;cases key
  ·exact key
theorem J2 {l:List Str}:∀ {m:List Str},l.Nodup->(∀ x∈l,x∈m)->l.length<=m.length:=by
 induction l with
 | nil=>intro m _ _;exact Nat.zero_le _
 | cons a r ih =>
  intro m hn hm
  obtain⟨h1,h2⟩:=List.nodup_cons.mp hn
  have ha:=hm a List.mem_cons_self
  have:=ih (m:=m.erase a) h2 fun x hx=>(List.mem_erase_of_ne fun(e:x=a)=>h1 (e ▸ hx)).mpr (hm x (List.mem_cons_of_mem _ hx))
  rw[List.length_erase_of_mem ha] at this
  have:=List.length_pos_of_mem ha
  rw[List.length_cons]
  omega
theorem ieq {a b:Int}(h:a=b):xor false (decide (V.int a=V.int b))=true:=by rw[je,decide_eq_true h];rfl
theorem ine {a b:Int}(h:a≠b):xor false (decide (V.int a=V.int b))=false:=by rw[je,decide_eq_false h];rfl
theorem seq {a b:Str}(h:a=b):xor false (decide (V.str a=V.str b))=true:=by rw[LO,decide_eq_true h];rfl
theorem UG {a b:Str}(h:a≠b):xor false (decide (V.str a=V.str b))=false:=by rw[LO,decide_eq_false h];rfl
theorem tF {a b:Str}(h:a≠b:=by decide +kernel):D.bl (xor false (decide (V.str a=V.str b)))=D.bl false:=congrArg D.bl (UG h)
theorem tT {a b:Str}(h:a=b:=by rfl):D.bl (xor false (decide (V.str a=V.str b)))=D.bl true:=congrArg D.bl (seq h)
theorem iF {a b:Int}(h:a≠b:=by omega):D.bl (xor false (decide (V.int a=V.int b)))=D.bl false:=congrArg D.bl (ine h)
theorem iT {a b:Int}(h:a=b:=by omega):D.bl (xor false (decide (V.int a=V.int b)))=D.bl true:=congrArg D.bl (ieq h)
theorem ZK {a b:Int}(h:a=b):xor true (decide (V.int a=V.int b))=false:=by rw[je,decide_eq_true h];rfl
theorem ZJ {a b:Int}(h:a≠b):xor true (decide (V.int a=V.int b))=true:=by rw[je,decide_eq_false h];rfl
noncomputable def Oq:fD:=fun _ _ _=>False
theorem kW {S loc:bQ}{L q:Nat}(h:S.length=L):(S++loc)[L+q]?=loc[q]?:=by subst h;exact bC
theorem Ut {S:bQ}{j:Nat}{l:List T}(c:Cl S):∀ o∈S.set j (.lst l),FH S.length o:=fun o ho=>by
 rcases List.mem_or_eq_of_mem_set ho with h | rfl
 ·exact c o h
 ·trivial
noncomputable def bV (S:bQ)(d:Nat)(c m:Int):bQ:=S.set d (.lst [.int c,.int m])
noncomputable def Dq (S:bQ)(d:Nat):Prop:=∃ c m:Int,S[d]?=some (.lst [.int c,.int m])
section
variable {S loc:bQ}{d:Nat}{a b c m:Int}
theorem Dq.lt (h:Dq S d):d < S.length:=by obtain⟨_,_,e⟩:=h;exact(List.getElem?_eq_some_iff.mp e).1
theorem Ue (h:d < S.length):(bV S d c m)[d]?=some (.lst [.int c,.int m]):=List.getElem?_set_self h
theorem Dq.bV (h:Dq S d):Dq (bV S d c m) d:=⟨c,m,Ue h.lt⟩
theorem c5:L3.bV (L3.bV S d a b) d c m=L3.bV S d c m:=List.set_set ..
theorem bh:(bV S d c m).length=S.length:=List.length_set
theorem qj (h:d < S.length):bV (S++loc) d c m=bV S d c m++loc:=List.set_append_left _ _ h
theorem Dq.up (h:Dq S d):Dq (S++loc) d:=let ⟨c,m,e⟩:=h;⟨c,m,qz e⟩
theorem Dq.self (h:Dq S d):∃ c m,S=L3.bV S d c m:=let ⟨c,m,e⟩:=h;⟨c,m,(set_same e).symm⟩
theorem uP {x:D}{N:List Str}(hd:Dq S d)(h:lq S x=some (N.map T.str)):lq (bV S d c m) x=some (N.map T.str):=by
 cases x with
 | t x=>cases x <;> exact h
 | ob n =>
  obtain⟨c0,m0,e0⟩:=hd
  have h:(match S[n]? with | some (.lst l)=>some l | _=>none)=some (N.map T.str):=h
  have hn:n≠d:=fun e=>by
   subst e
   rw[e0] at h
   cases N with
   | nil=>cases h
   | cons y r=>have h:=Option.some.inj h;cases h
  show(match (L3.bV S d c m)[n]? with | some (.lst l)=>some l | _=>none)=some (N.map T.str)
  unfold bV
  rw[List.getElem?_set_ne (Ne.symm hn)]
  exact h
theorem HK (hc:Cl S):∀ o∈bV S d c m,FH S.length o:=Ut hc
theorem Rb {x:T}{k:KD}(hc:Cl S)(h:k (.t x) (bV S d c m)):closes S.length (.t x) (bV S d c m++loc) k:=.inl ⟨_,_,rfl,bh,HK hc,trivial,h⟩
theorem yq {n:Nat}{g:zy}{tt:rQ}{te:gX}{δ0:Sl}{k:List T->bQ->Prop}(hd:Dq S d)(P:T->Prop)(hn:n<=1000)
  (hs:∀ (i:Nat) c m (k':Option T->bQ->Prop),(∀ y c' m',P y->k' (some y) (bV S d c' m'))->elem g tt te δ0 (.int i) (bV S d c m) k')
  (hk:∀ ys c m,ys.length=n->(∀ y∈ys,P y)->k ys (bV S d c m)):iR (fun _=>True) g tt te δ0 ((List.range n).map fun(i:Nat)=>D.int i) (bV S d a b) [] k:=by
 refine NO (fun i ys S'=>ys.length=i/\(∀ y∈ys,P y)/\∃ c m,S'=L3.bV S d c m) ⟨rfl,fun _ h=>absurd h List.not_mem_nil,a,b,rfl⟩ ?_ ?_
 ·rintro i x ys S' k' hx ⟨hl,hp,c,m,rfl⟩ hk'
  rw[List.getElem?_map] at hx
  have hi:i < n:=by
   rcases Nat.lt_or_ge i n with h | h
   ·exact h
   ·rw[List.getElem?_eq_none (by rw[List.length_range];exact h)] at hx;cases hx
  rw[List.getElem?_range hi] at hx
  cases hx
  refine⟨trivial,oA (by omega),hs i c m k' fun y c' m' hy=>hk' _ _ ⟨by simp[XC,hl],fun z hz=>?_,c',m',rfl⟩⟩
  rcases List.mem_append.mp (show z∈ys++[y] from hz) with h | h
  ·exact hp z h
  ·rw[List.mem_singleton.mp h];exact hy
 ·rintro ys S' ⟨hl,hp,c,m,rfl⟩
  rw[List.length_map,List.length_range] at hl
  exact⟨trivial,hk ys c m hl hp⟩
end
noncomputable def B0 (l:List Str):T:=.lst (l.map T.str)
noncomputable def Qq:fD:=fun ds S k=>∃ c j:Int,ds=[.int c,.int j]/\∀ r:Int,0<=r->r < 2147483399->k (.int r) S
noncomputable def Ma:fD:=fun ds S k=>∃ (l:List Int) (j:Nat),ds=[.t (.Eu (l.map T.int)),.int j]/\∀ r:Int,k (.int r) S
noncomputable def VA:fD:=fun ds S k=>∃ (d:Nat) (n:Int),ds=[.ob d,.int n]/\Dq S d/\0 < n/\∀ (r:Nat) c m,(r:Int) < n->k (.int r) (bV S d c m)
theorem ex_map {α β:Type}{f:α->β}{P:α->Prop}:∀ {ys:List β},(∀ y∈ys,∃ x,y=f x/\P x)->∃ xs:List α,ys=xs.map f/\xs.length=ys.length/\∀ x∈xs,P x
 | [],_=>⟨[],rfl,rfl,fun _ h=>absurd h List.not_mem_nil⟩
 | y::r,h=>by
  obtain⟨x,e,p⟩:=h y List.mem_cons_self
  obtain⟨xs,e1,e2,e3⟩:=ex_map (ys:=r) fun z hz=>h z (List.mem_cons_of_mem _ hz)
  exact⟨x::xs,by rw[e,e1];rfl,by rw[List.length_cons,List.length_cons,e2],fun z hz=>by
   rcases List.mem_cons.mp hz with rfl | hz
   ·exact p
   ·exact e3 z hz⟩
section
variable {S:bQ}{x:D}{l:List T}{k:KD}
theorem oh {n:Nat}{neg:Bool}(h:lq S x=some l)(hk:k (.bl (xor neg (decide (l=[])))) S):eq3 n neg x (.lst []) S k:=by
 cases x with
 | ob i=>exact⟨l,[],h,rfl,.inr ⟨rfl,hk⟩⟩
 | t x =>
  cases x with
  | lst m=>exact⟨l,[],h,rfl,.inr ⟨rfl,hk⟩⟩
  | _=>cases h
theorem Tg (h:lq S x=some l)(hk:k (.int l.length) S):Th [x] S k:=by
 cases x with
 | ob i =>
  have h:(match S[i]? with | some (.lst l)=>some l | _=>none)=some l:=h
  exact⟨l,h,hk⟩
 | t x =>
  cases x with
  | lst m=>exact⟨l,h,hk⟩
  | _=>cases h
theorem WX {i:Int}{y:T}(h:lq S x=some l)(e:qp l i=some y)(hk:k (.t y) S):X6 x (.int i) S k:=by
 cases x with
 | ob j =>
  have h:(match S[j]? with | some (.lst l)=>some l | _=>none)=some l:=h
  exact⟨l,y,h,e,hk⟩
 | t x =>
  cases x with
  | lst m=>exact⟨l,y,h,e,hk⟩
  | _=>cases h
end
theorem lO {N:List Str}{r:Nat}(h:(r:Int) < N.length):∃ y,y∈N/\qp (N.map T.str) (r:Int)=some (T.str y):=by
 have h:r < N.length:=by omega
 exact⟨N[r],List.getElem_mem h,xE (by rw[List.getElem?_map,List.getElem?_eq_getElem h];rfl)⟩
theorem Wg {S:bQ}{d:D}{l:List T}(h:lq S d=some l):xq S d=some l:=by
 cases d with
 | ob i=>exact h
 | t x =>
  cases x with
  | lst m=>exact h
  | _=>cases h
theorem DR {ms:List Str}(h:ms≠[]):xor true (decide (ms.map T.str=[]))=true:=by
 rw[decide_eq_false (fun e=>h (List.map_eq_nil_iff.mp e))];rfl
theorem Xu {L j:Nat}{S0 S1:bQ}{o:O}{k:KD}(c:∀ o∈S0,FH L o)(hS:S0.length=L)(e:S1[j]?=some o)(co:FH L o)(h:k (.ob L) (S0++[o])):closes L (.ob (L+j)) (S0++S1) k :=
 .inr (.inl ⟨_,o,S0,S1,rfl,by omega,rfl,hS,c,by rw[kW hS];exact e,co,h⟩)
theorem qf:∀ l:List Str,Ce (l.map T.str)=some (l.map V.str)
 | []=>rfl
 | a::r=>by
  show(match Yh (T.str a),Ce (r.map T.str) with | some v,some vs=>some (v::vs) | _,_=>none)=_
  rw[qf r]
  rfl
theorem TH {w:Str}{xs:List Str}{b:Bool}(h:decide (w∈xs)=b):xor false (Pq (V.str w) (xs.map V.str))=b:=by rw[qe,h];cases b <;> rfl
theorem VD {l:List T}(h:l≠[]):HT.fH l.length 0 (some 1)=1:=by
 have:=HT.IT l.length 0 1
 have e:HT.fH l.length 0 (some 1)=min 1 l.length:=this
 rw[e]
 have:=List.length_pos_iff.mpr h
 omega
theorem oH {l:List T}(h:l≠[]):¬ (HT.fH l.length 0 (some 1)=0/\HT.fH l.length l.length none=l.length):=by rw[VD h];rintro⟨h,_⟩;cases h
theorem gy {x:T}{l:List T}:xr (x::l) (some 1) none=l:=by
 unfold xr
 rw[VD (by simp),HT.Mh]
 simp
theorem K4 {α:Type}{x:α}{l:List α}:qp (x::l) 0=some x:=xE (j:=0) rfl
theorem Pd {α:Type}{f:α->T}{l:List α}(h:l=[]):xor true (decide (l.map f=[]))=false:=by subst h;rfl
theorem Fd {α:Type}{f:α->T}{l:List α}(h:l≠[]):xor true (decide (l.map f=[]))=true:=by
 rw[decide_eq_false (fun e=>h (List.map_eq_nil_iff.mp e))];rfl
theorem D4 {n:Nat}:∀ {l:List T},(∀ x∈l,Fl n x)->NZ n l
 | [],_=>by simp[NZ]
 | x::r,h=>by
  unfold NZ
  exact⟨h x List.mem_cons_self,D4 fun y hy=>h y (List.mem_cons_of_mem _ hy)⟩
theorem Ua {n:Nat}{x:V}(h:j4 x=true):Fl n (.v x):=by cases n <;> (unfold Fl;exact h)
theorem dP {n:Nat}{l:List T}(h:∀ x∈l,Fl n x):Fl (n+1) (.tup l):=by unfold Fl;exact D4 h
theorem cG {n:Nat}(x:Str):Fl n (.str x):=Ua rfl
theorem gG {n:Nat}(x:Int):Fl n (.int x):=Ua rfl
theorem Xi {n:Nat}(p:Str×Int):Fl (n+1) (pT p):=dP fun x hx=>by
 rcases List.mem_cons.mp hx with rfl | hx
 ·exact cG _
 ·rw[List.mem_singleton.mp hx];exact gG _
theorem bM {P:Program}{w:World}{K:PySem.W.Frag}{mg:Str->Option Value}{base:Heap}{x qual:Str}{st:Stmt}{f:Addr}{fd:FuncData}{N ps:List Str}{k:Nat}{sp:fD}(F:c8 K x qual st f fd)(S:av N ps (aj st))
  (hb:∀ (cdv:Value) (A:Around) (outer:List Env) (s:Shared) (H:Hp) (E:XK),fZ k (A.deeper (PyProof.Rows.envOfC qual (aj st) s.heap.objs.size f cdv)) ->
   ∃ t,Lv (FE dG P w K mg base N qual (aj st) f cdv A outer s H E).UH (ao st) t/\∀ ds S kk,Cl S->(∀ d∈ds,UU S.length d)->sp ds S kk->t (endsF S kk) (xS N ds) S)
  (len:∀ ds S k,sp ds S k->ds.length=ps.length:=by intro ds S k h;repeat (first | (obtain⟨rfl,_⟩:=h;rfl) | obtain⟨_,h⟩:=h)):aU P w K mg base dG (k+1) f fd ps (bA K sp):=D5 F S len hb
noncomputable abbrev P5:=Sl->bQ->Str->(Str->bQ->Prop)->Prop
noncomputable def liJ (K:PySem.W.Frag)(t:P5):TJ:=fun σ H acc Q=>∃ ρ S δ k,R3 K ρ S H/\xR K ρ (res ρ H) δ σ/\t δ S acc k/\∀ x H',(∃ ρ' S',Gr ρ H ρ' H'/\R3 K ρ' S' H'/\k x S')->Q x H'
noncomputable def QJ (X:Cx)(es:List Expr)(t:P5):Prop:=PJ X es (liJ X.K t)
noncomputable def WV:P5:=fun _ S acc k=>acc.length<=sizeLine/\k acc S
noncomputable def WU (c:Str)(t:P5):P5:=fun δ S acc k=>(acc++c).length<=sizeLine/\t δ S (acc++c) k
noncomputable def Zy (d:D)(acc:Str)(k:Str->Prop):Prop:=match d with
 | .t (.v (.int i))=>i.natAbs.log2 < 1920/\(acc++(toString i:Str)).length<=sizeLine/\k (acc++(toString i:Str))
 | .t (.v (.str y))=>y.length<=sizeLine/\(acc++y).length<=sizeLine/\k (acc++y)
 | _=>False
noncomputable def WT (te:gX)(t:P5):P5:=fun δ S acc k=>te δ S fun d S1=>Zy d acc fun a=>t δ S1 a k
noncomputable def YL (t:P5):gX:=fun δ S k=>t δ S Str.empty fun x S'=>k (.str x) S'
section
variable {X:Cx}{e v1 v2:Expr}{es:List Expr}{te:gX}{t:P5}{pos:Pos}{c:Str}{j:Nat}
theorem Mv {t t':TJ}(h:PJ X es t)(m:∀ σ H a Q,t' σ H a Q->t σ H a Q):PJ X es t':=fun pins s σ H a Q I q=>h pins s σ H a Q I (m _ _ _ _ q)
theorem DE:QJ X [] WV:=Mv Sx (by rintro σ H a Q ⟨ρ,S,δ,k,R,D,q,hk⟩;exact ⟨q.1,hk _ _ ⟨ρ,S,.refl,R,q.2⟩⟩)
theorem GR (h:QJ X es t):QJ X (.Constant (.str c) j pos::es) (WU c t):=Mv (Sw h) (by rintro σ H a Q ⟨ρ,S,δ,k,R,D,q,hk⟩;exact ⟨q.1,ρ,S,δ,k,R,D,q.2,hk⟩)
theorem GQ (he:QE X e te)(h:QJ X es t):QJ X (.FormattedValue e (-1) none pos::es) (WT te t):=Mv (Sv he h) (by rintro σ H a Q ⟨ρ,S,δ,k,R,D,q,hk⟩;exact  ⟨ρ,S,δ,_,R,D,q,(by
  rintro v H1 ⟨ρ1,S1,d,g1,R1,r1,q1⟩
  replace q1:Zy d a fun a=>t δ S1 a k:=q1
  unfold Zy at q1
  split at q1
  ·exact .inl ⟨_,bE r1,q1.1,q1.2.1,ρ1,S1,δ,k,R1,D.gr g1,q1.2.2,(by rintro x H' ⟨ρ',S',g,z⟩;exact hk x H' ⟨ρ',S',g1.trans g,z⟩)⟩
  ·exact .inr ⟨_,bE r1,q1.1,q1.2.1,ρ1,S1,δ,k,R1,D.gr g1,q1.2.2,(by rintro x H' ⟨ρ',S',g,z⟩;exact hk x H' ⟨ρ',S',g1.trans g,z⟩)⟩
  ·exact q1.elim)⟩)
theorem OG (h:QJ X (v1::v2::es) t):QE X (.JoinedStr (v1::v2::es) pos) (YL t):=gq (OZ h) (by rintro σ H Q ⟨ρ,S,δ,k,R,D,q,hk⟩;exact  ⟨ρ,S,δ,_,R,D,q,(by rintro x H' ⟨ρ',S',g,R',z⟩;exact hk _ _ ⟨ρ',S',_,g,R',cM,z⟩)⟩)
end
noncomputable def XE:Lu
 | [.t (.v (.int i))],S,k=>k (.int (Bg i)) S
 | _,_,_=>False
theorem FN {X:Cx}:Call3 X (.builtin "abs") XE:=by
 refine oj NR ?_
 rintro vs H Q ⟨ρ,S,ds,k,R,rd,q,hk⟩
 unfold XE at q
 split at q
 ·obtain⟨v,rfl,rv⟩:=rd.one
  rw[bE rv]
  exact⟨_,rfl,fin R hk cM q⟩
 ·exact q.elim
noncomputable def YB (c:rQ)(tb:vY):vY:=fun E δ S=>∃ W:Nat->Sl->bQ->Prop,(∃ m,W m δ S)/\∀ m δ S,W m δ S ->
 c δ S fun b S1=>if b=true then ∃ N:KS,(∀ δ' S',N δ' S'->∃ m',m' < m/\W m' δ' S')/\tb { E with nx:=N,ct:=N,bk:=E.nx } δ S1 else E.nx δ S1
section
variable {X:Cx}{c o i e:Expr}{body:List Stmt}{tc:rQ}{tb:vY}{to ti te:gX}{pos:Pos}
theorem Mm (hp:PassesOwn (model X.prog X.w) X.A X.env X.xe)(hc:QT X c tc)(hb:Lv X body tb):QS X (.While c body [] pos) (YB tc tb) :=
 oR (Mu hp hc hb) fun D σ H ⟨ρ,S,δ,E,R,RS,⟨W,⟨m0,w0⟩,q⟩,eu⟩=>by
  refine⟨fun m σ' H'=>∃ ρ' S' δ',Gr ρ H ρ' H'/\R3 X.K ρ' S' H'/\xR X.K ρ' (res ρ' H') δ' σ'/\W m δ' S',⟨m0,ρ,S,δ,.refl,R,RS,w0⟩,?_⟩
  rintro m σ1 H1 ⟨ρ1,S1,δ1,g1,R1,P8,w1⟩
  refine⟨ρ1,S1,δ1,_,R1,P8,q m δ1 S1 w1,fun b H2 ⟨ρ2,S2,g2,R2,q2⟩=>?_⟩
  cases b with
  | true =>
   obtain⟨N,hN,q2⟩:=q2
   have gg:=g1.trans g2
   have fw:∀ σ' H',Ir X.K ρ2 H2 N σ' H'->Ir X.K ρ2 H2 N σ' H':=fun _ _ z=>z
   exact⟨Ir X.K ρ2 H2 N,fun σ3 H3 ⟨ρ3,S3,δ3,g3,Cn,U3,n3⟩=>let ⟨m',hm,w3⟩:=hN δ3 S3 n3;⟨m',hm,ρ3,S3,δ3,gg.trans g3,Cn,U3,w3⟩,
    ρ2,S2,δ1,_,R2,P8.gr g2,q2,⟨fw,fun v H' u=>eu.rt v H' (u.gr gg),fun σ' H' u=>eu.nx σ' H' (u.gr gg),fw⟩⟩
  | false=>exact eu.nx _ _ ⟨ρ2,S2,δ1,g1.trans g2,R2,P8.gr g2,q2⟩
noncomputable def Xd (to ti:gX):zy:=fun d δ S k=>to δ S fun o S1=>ti δ S1 fun i S2=>∃ (n j:Nat) (l:List T) (x:T),o=.ob n/\i=.int j/\d=.t x/\S2[n]?=some (.lst l)/\j < l.length/\k δ (S2.set n (.lst (l.set j x)))
theorem Sd (ho:QE X o to)(hi:QE X i ti)
  (ha:∀ v,assign (.Subscript o i pos) X.env v=(do
   let ov <- holding [v] (eval o X.env)
   let iv <- holding [v,ov] (eval i X.env)
   standAt pos
   holding [v,ov,iv] (setItem ov iv v)
   release [v,ov,iv] []):=by intro _;rfl):QG X (.Subscript o i pos) (Xd to ti) :=
 E1 (Sz ho hi set_list ha) fun v σ H Q ⟨ρ,S,δ,d,k,R,RS,rd,q,hk⟩=>⟨ρ,S,δ,_,R,RS,q,fun v1 H1 ⟨ρ1,S1,d1,g1,R1,r1,q1⟩=>⟨ρ1,S1,δ,_,R1,RS.gr g1,q1,(by
  rintro v2 H2 ⟨ρ2,S2,d2,g2,R2,r2,n,j,l,x,h1,h2,h3,h4,h5,q2⟩
  subst h1 h2 h3
  obtain⟨p,hp,e1⟩:=r1.gr g2
  obtain⟨vs,e2,e3⟩:=R2.ok n p _ hp h4
  have gg:=g1.trans g2
  have key:cZ X.K (res ρ2 H2) (l.set j x) (vs.set j v):=cZ.put (rd.gr gg) e3
  obtain⟨R4,g4⟩:=R2.put (o:=.lst (vs.set j v)) (u:=.lst (l.set j x)) hp ⟨_,rfl,key⟩
  refine⟨p,vs,j,j,e1,bE r2,e2,?_,hk _ _ ⟨ρ2,_,δ,gg.trans g4,R4,(RS.gr gg).gr g4,q2⟩⟩
  unfold Kr
  rw[if_pos (by omega),if_pos (by rw[<- e3.len];omega)]
  simp)⟩⟩
noncomputable def a0Y:Ei:=fun a b S k=>∃ l m,lq S a=some l/\lq S b=some m/\l.length+m.length<=sizeLine/\k (.ob S.length) (S++[.lst (l++m)])
theorem Hf:FW X (binaryOp .Add) a0Y:=by
 refine lK MP ?_
 rintro x y H Q ⟨ρ,S,a,b,k,R,ra,rb,⟨l,m,h1,h2,h3,h4⟩,hk⟩
 obtain⟨p1,vs,e1,e2,e3⟩:=gC R ra h1
 obtain⟨p2,ws,f1,f2,f3⟩:=gC R rb h2
 exact⟨p1,p2,vs,ws,e1,f1,e2,f2,by rw[<- e3.len,<- f3.len];exact h3,fun p hp=>PB R hk (e3.app f3) h4 p hp⟩
end
structure Ad where
 (mJ bS dO dJ fY jJ nL cu d7 mK iA fS gW cY cH bN dM:Addr)
inductive cO where
 | cmp (a:Sm) (s:Str) (b:Sm) | neg (c:cO) | con (k:Bool) (cs:List cO)
inductive eG where
 | lt (a:Int) (x:Str) (s:Sm) | dv (a:Int) (x wd:Str) (s b:Sm) | ft (a:Int) (x r:Str) (p:Sm) | pt (a:Int) (r:Str) (p s:Sm) | mq (a:Int) (r:Str) (z:Sm) | cm (a:Int) (c:cO) | cl (a:Int) (ns:List Str) (hp:Str) (g:List Sm)
 | ch (a:Int) (c:cO) (t e:List eG) | rp (a:Int) (c:cO) (hs:List (Int×cO)) (f:Option (Int×Sm)) (b:List eG)
structure lI where
 (at_:Int) (name:Str) (params answers:List Str) (needs gives:List (Int×cO)) (steps:List eG)
noncomputable def Ju (A:Ad):Nat->Addr
 | 0=>A.nL | 1=>A.cu | 2=>A.d7 | 3=>A.mK | 4=>A.iA | 5=>A.fS | 6=>A.gW | 7=>A.cY | _=>A.cH
noncomputable def Jt (A:Ad):Nat->Addr
 | 9=>A.bN | 10=>A.mJ | j=>Ju A j
noncomputable def xV:cO->Nat
 | .cmp _ _ _=>0 | .neg _=>1 | .con true _=>2 | .con false _=>3
noncomputable def yr (A:Ad):Nat->Addr
 | 0=>A.bS | 1=>A.dO | 2=>A.fY | _=>A.jJ
noncomputable def kd:eG->Nat
 | .lt ..=>0 | .dv ..=>1 | .ft ..=>2 | .pt ..=>3 | .mq ..=>4 | .cm ..=>5 | .cl ..=>6 | .ch ..=>7 | .rp ..=>8
noncomputable def uM (l:List Str):T:=.tup (l.map T.str)
noncomputable def jl (s:Sm):T:=.tup [.tup (s.1.map pT),.int s.2]
section
variable (A:Ad)
noncomputable def qH (s:Sm):T:=.ins A.mJ ["terms","number"] [.tup (s.1.map pT),.int s.2]
mutual
noncomputable def nJ:cO->T
 | .cmp a s b=>.ins A.bS ["one","sign","other"] [qH A a,.str s,qH A b]
 | .neg c=>.ins A.dO ["condition"] [nJ c]
 | .con k cs=>.ins (if k=true then A.fY else A.jJ) ["conditions"] [.tup (PN cs)]
noncomputable def PN:List cO->List T
 | []=>[]
 | c::r=>nJ c::PN r
end
noncomputable def atT (p:Int×cO):T:=.tup [.int p.1,nJ A p.2]
noncomputable def faT:Option (Int×Sm)->T
 | none=>.fE
 | some p=>.tup [.int p.1,qH A p.2]
mutual
noncomputable def nO:eG->T
 | .lt a x s=>.ins A.nL ["at","name","total"] [.int a,.str x,qH A s]
 | .dv a x wd s b=>.ins A.cu ["at","name","word","total","by"] [.int a,.str x,.str wd,qH A s,qH A b]
 | .ft a x r p=>.ins A.d7 ["at","name","row","place"] [.int a,.str x,.str r,qH A p]
 | .pt a r p s=>.ins A.mK ["at","row","place","total"] [.int a,.str r,qH A p,qH A s]
 | .mq a r z=>.ins A.iA ["at","row","size"] [.int a,.str r,qH A z]
 | .cm a c=>.ins A.fS ["at","condition"] [.int a,nJ A c]
 | .cl a ns hp g=>.ins A.gW ["at","names","helper","given"] [.int a,uM ns,.str hp,.tup (g.map (qH A))]
 | .ch a c t e=>.ins A.cY ["at","condition","then","other"] [.int a,nJ A c,.tup (sV t),.tup (sV e)]
 | .rp a c hs f b=>.ins A.cH ["at","condition","keeps","falls","body"] [.int a,nJ A c,.tup (hs.map (atT A)),faT A f,.tup (sV b)]
noncomputable def sV:List eG->List T
 | []=>[]
 | c::r=>nO c::sV r
end
noncomputable def Ll (h:lI):T:=.ins A.bN ["at","name","params","answers","needs","gives","steps"] [.int h.at_,.str h.name,uM h.params,uM h.answers,.tup (h.needs.map (atT A)),.tup (h.gives.map (atT A)),.tup (sV A h.steps)]
noncomputable def GW (hs:List lI):T:=.ins A.dM ["helpers"] [.tup (hs.map (Ll A))]
end
mutual
noncomputable def lG:cO->T
 | .cmp a s b=>.tup [.str "compare",jl a,.str s,jl b]
 | .neg c=>.tup [.str "not",lG c]
 | .con k cs=>.tup (.str (if k=true then "and" else "or")::HL cs)
noncomputable def HL:List cO->List T
 | []=>[]
 | c::r=>lG c::HL r
end
noncomputable def Ln (p:Int×cO):T:=.tup [.int p.1,lG p.2]
noncomputable def faR:Option (Int×Sm)->T
 | none=>.fE
 | some p=>.tup [.int p.1,jl p.2]
mutual
noncomputable def jZ:eG->T
 | .lt a x s=>.tup [.str "let",.int a,.str x,jl s]
 | .dv a x wd s b=>.tup [.str "divide",.int a,.str x,.str wd,jl s,jl b]
 | .ft a x r p=>.tup [.str "fetch",.int a,.str x,.str r,jl p]
 | .pt a r p s=>.tup [.str "put",.int a,.str r,jl p,jl s]
 | .mq a r z=>.tup [.str "make",.int a,.str r,jl z]
 | .cm a c=>.tup [.str "claim",.int a,lG c]
 | .cl a ns hp g=>.tup [.str "call",.int a,uM ns,.str hp,.tup (g.map jl)]
 | .ch a c t e=>.tup [.str "choose",.int a,lG c,.tup (zZ t),.tup (zZ e)]
 | .rp a c hs f b=>.tup [.str "repeat",.int a,lG c,.tup (hs.map Ln),faR f,.tup (zZ b)]
noncomputable def zZ:List eG->List T
 | []=>[]
 | c::r=>jZ c::zZ r
end
noncomputable def yl (h:lI):T:=.tup [.str "helper",.int h.at_,.str h.name,uM h.params,uM h.answers,.tup (h.needs.map Ln),.tup (h.gives.map Ln),.tup (zZ h.steps)]
noncomputable def faD:Option (Int×Sm)->T
 | none=>.fE
 | some p=>jl p.2
mutual
noncomputable def mQ:eG->T
 | .lt _ x s=>.tup [.str "let",.str x,jl s]
 | .dv _ x wd s b=>.tup [.str "divide",.str x,.str wd,jl s,jl b]
 | .ft _ x r p=>.tup [.str "fetch",.str x,.str r,jl p]
 | .pt _ r p s=>.tup [.str "put",.str r,jl p,jl s]
 | .mq _ r z=>.tup [.str "make",.str r,jl z]
 | .cm _ c=>.tup [.str "claim",lG c]
 | .cl _ ns hp g=>.tup [.str "call",uM ns,.str hp,.tup (g.map jl)]
 | .ch _ c t e=>.tup [.str "choose",lG c,.tup (Aa t),.tup (Aa e)]
 | .rp _ c hs f b=>.tup [.str "repeat",lG c,.tup (hs.map fun p=>lG p.2),faD f,.tup (Aa b)]
noncomputable def Aa:List eG->List T
 | []=>[]
 | c::r=>mQ c::Aa r
end
noncomputable def mG (h:lI):T:=.tup [.str h.name,uM h.params,uM h.answers,.tup (h.needs.map fun p=>lG p.2),.tup (h.gives.map fun p=>lG p.2),.tup (Aa h.steps)]
theorem o5 (A:Ad):∀ l:List cO,PN A l=l.map (nJ A)
 | []=>rfl
 | c::r=>by rw[PN,o5 A r];rfl
theorem xw:∀ l:List cO,HL l=l.map lG
 | []=>rfl
 | c::r=>by rw[HL,xw r];rfl
theorem jm (A:Ad):∀ l:List eG,sV A l=l.map (nO A)
 | []=>rfl
 | c::r=>by rw[sV,jm A r];rfl
theorem gn:∀ l:List eG,zZ l=l.map jZ
 | []=>rfl
 | c::r=>by rw[zZ,gn r];rfl
theorem iG:∀ l:List eG,Aa l=l.map mQ
 | []=>rfl
 | c::r=>by rw[Aa,iG r];rfl
mutual
noncomputable def cO.dep:cO->Nat
 | .cmp _ _ _=>0
 | .neg c=>c.dep+1
 | .con _ cs=>Cf cs+1
noncomputable def Cf:List cO->Nat
 | []=>0
 | c::r=>max c.dep (Cf r)
end
mutual
noncomputable def cO.sz:cO->Nat
 | .cmp _ _ _=>1
 | .neg c=>c.sz+1
 | .con _ cs=>Iz cs+1
noncomputable def Iz:List cO->Nat
 | []=>0
 | c::r=>c.sz+Iz r
end
mutual
noncomputable def eG.dp:eG->Nat
 | .ch _ _ t e=>max (pG t) (pG e)+1
 | .rp _ _ _ _ b=>pG b+1
 | _=>1
noncomputable def pG:List eG->Nat
 | []=>0
 | c::r=>max c.dp (pG r)
end
theorem qk {c:cO}:∀ {l:List cO},c∈l->c.dep<=Cf l
 | d::r,h=>by
  unfold Cf
  rcases List.mem_cons.mp h with rfl | h
  ·exact Nat.le_max_left _ _
  ·exact Nat.le_trans (qk h) (Nat.le_max_right _ _)
theorem kg {c:eG}:∀ {l:List eG},c∈l->c.dp<=pG l
 | d::r,h=>by
  unfold pG
  rcases List.mem_cons.mp h with rfl | h
  ·exact Nat.le_max_left _ _
  ·exact Nat.le_trans (kg h) (Nat.le_max_right _ _)
theorem RH (c:cO):1<=c.sz:=by cases c <;> (unfold cO.sz;omega)
theorem nN:∀ l:List cO,l.length<=Iz l
 | []=>Nat.le_refl _
 | c::r=>by unfold Iz;rw[List.length_cons];have:=RH c;have:=nN r;omega
theorem uL {c:cO}:∀ {l:List cO},c∈l->c.sz<=Iz l
 | d::r,h=>by
  unfold Iz
  rcases List.mem_cons.mp h with rfl | h
  ·omega
  ·have:=uL h;omega
theorem ja (c:cO):xV c < 4:=by
 cases c with
 | cmp a s b=>show 0 < 4;decide
 | neg c=>show 1 < 4;decide
 | con k cs=>cases k <;> (first | (show 2 < 4;decide) | (show 3 < 4;decide))
theorem Jd (s:eG):kd s < 9:=by cases s <;> simp[kd]
theorem PV (A:Ad)(a b:Sm)(s:Str):nJ A (.cmp a s b)=.ins A.bS ["one","sign","other"] [qH A a,.str s,qH A b]:=by rw[nJ]
theorem PU (A:Ad)(q:Bool)(cs:List cO):nJ A (.con q cs)=.ins (if q=true then A.fY else A.jJ) ["conditions"] [.tup (cs.map (nJ A))]:=by rw[nJ,o5]
theorem PR (A:Ad)(c:cO):nJ A (.neg c)=.ins A.dO ["condition"] [nJ A c]:=by rw[nJ]
theorem xA (a b:Sm)(s:Str):lG (.cmp a s b)=.tup [.str "compare",jl a,.str s,jl b]:=by rw[lG]
theorem xx (c:cO):lG (.neg c)=.tup [.str "not",lG c]:=by rw[lG]
theorem xy (q:Bool)(cs:List cO):lG (.con q cs)=.tup (.str (if q=true then "and" else "or")::cs.map lG):=by rw[lG,xw]
theorem oX (A:Ad)(S:bQ)(c:cO):∃ ns l,iq S (.t (nJ A c))=some (yr A (xV c),ns,l)/\ns.contains "told"=false/\ns.contains "text"=false:=by
 cases c with
 | cmp a s b=>exact⟨_,_,by unfold nJ;rfl,by decide +kernel,by decide +kernel⟩
 | neg c=>exact⟨_,_,by unfold nJ;rfl,by decide +kernel,by decide +kernel⟩
 | con k cs =>
  cases k with
  | true=>exact⟨_,_,by unfold nJ;rfl,by decide +kernel,by decide +kernel⟩
  | false=>exact⟨_,_,by unfold nJ;rfl,by decide +kernel,by decide +kernel⟩
theorem QV (A:Ad)(S:bQ)(s:eG):∃ ns l,iq S (.t (nO A s))=some (Ju A (kd s),ns,l)/\ns.contains "told"=false/\ns.contains "as_rows"=false:=by
 cases s <;> exact⟨_,_,by unfold nO;rfl,by decide +kernel,by decide +kernel⟩
theorem U8 (A:Ad)(S:bQ)(c:cO):YA S (.t (nJ A c))=some (.ref (yr A (xV c))):=by
 cases c with
 | cmp a s b=>unfold nJ;rfl
 | neg c=>unfold nJ;rfl
 | con k cs=>cases k <;> (unfold nJ;rfl)
noncomputable def ku (s:Sm):Str:=⟨(G0 (eZ s.1 s.2)).toArray⟩
theorem GJ {x:Str}{s:Sm}(h:cp x=G0 (eZ s.1 s.2)):x=ku s:=ql (by rw[h];simp[cp,ku])
mutual
noncomputable def uC:cO->Str
 | .cmp a s b=>(((ku a++(" ":Str))++s)++(" ":Str))++ku b
 | .neg c=>(("not (":Str)++uC c)++(")":Str)
 | .con k cs=>Txt.join (if k=true then (" and ":Str) else (" or ":Str)) (BD cs)
noncomputable def BD:List cO->List Str
 | []=>[]
 | c::r=>(if 2<=xV c then (("(":Str)++uC c)++(")":Str) else uC c)::BD r
end
noncomputable def Gs (c:cO):Str:=if 2<=xV c then (("(":Str)++uC c)++(")":Str) else uC c
theorem mU:∀ l:List cO,BD l=l.map Gs
 | []=>rfl
 | c::r=>by rw[BD,mU r];rfl
noncomputable def pre (w:Str)(c:cO):Str:=w++uC c
noncomputable def uD (ns:List Str)(hp:Str):Str:=(Txt.join "" (ns.map fun x=>x++(" ":Str))++(if ns=[] then ("":Str) else "= "))++hp
noncomputable def C0 (ns:List Str)(hp:Str)(g:List Sm):Str:=("call ":Str)++(if g=[] then uD ns hp else (uD ns hp++(" ":Str))++Txt.join ", " (g.map ku))
noncomputable def PC:Option (Int×Sm)->List Str
 | none=>[]
 | some p=>[("falls ":Str)++ku p.2]
mutual
noncomputable def rws:eG->List Str
 | .lt _ x s=>[((("let ":Str)++x)++(" = ":Str))++ku s]
 | .dv _ x wd s b=>[(((((("let ":Str)++x)++(" = ":Str))++ku s)++(" ":Str))++wd)++(" ":Str)++ku b]
 | .ft _ x r p=>[((((("let ":Str)++x)++(" = ":Str))++r)++(" at ":Str))++ku p]
 | .pt _ r p s=>[((((("put ":Str)++r)++(" at ":Str))++ku p)++(" = ":Str))++ku s]
 | .mq _ r z=>[((("row ":Str)++r)++(" = ":Str))++ku z]
 | .cm _ c=>[pre "claim " c]
 | .cl _ ns hp g=>[C0 ns hp g]
 | .ch _ c t e=>(pre "if " c::aX t)++(if e=[] then [] else ("else":Str)::aX e)++[("end":Str)]
 | .rp _ c hs f b=>(pre "while " c::hs.map fun p=>pre "holds " p.2)++PC f++aX b++[("end":Str)]
noncomputable def aX:List eG->List Str
 | []=>[]
 | c::r=>rws c++aX r
end
noncomputable def bH (h:lI):List Str:=(Txt.join " " ([("helper":Str),h.name]++h.params)::(if h.answers=[] then [] else [Txt.join " " ([("answers":Str)]++h.answers)]))++h.needs.map (fun p=>pre "needs " p.2)++h.gives.map (fun p=>pre "gives " p.2)++aX h.steps++[("end":Str)]
noncomputable def txR (rs:List Str):Str:=Txt.join "" (rs.map fun r=>r++("\n":Str))
noncomputable def Bx (hs:List lI):Str:=txR (hs.map bH).flatten
mutual
noncomputable def lay (n:Nat):eG->eG
 | .lt _ x s=>.lt n x s
 | .dv _ x wd s b=>.dv n x wd s b
 | .ft _ x r p=>.ft n x r p
 | .pt _ r p s=>.pt n r p s
 | .mq _ r z=>.mq n r z
 | .cm _ c=>.cm n c
 | .cl _ ns hp g=>.cl n ns hp g
 | .ch _ c t e=>.ch n c (dZ (n+1) t) (dZ (n+1+(aX t).length+(if e=[] then 0 else 1)) e)
 | .rp _ c hs f b=>.rp n c (gI (n+1) hs) (f.map fun p=>(((n+1+hs.length:Nat):Int),p.2)) (dZ (n+1+hs.length+(PC f).length) b)
noncomputable def dZ (n:Nat):List eG->List eG
 | []=>[]
 | c::r=>lay n c::dZ (n+(rws c).length) r
noncomputable def gI (n:Nat):List (Int×cO)->List (Int×cO)
 | []=>[]
 | p::r=>((n:Int),p.2)::gI (n+1) r
end
noncomputable def K5 (h:lI):Nat:=if h.answers=[] then 0 else 1
noncomputable def M5 (n:Nat)(h:lI):lI:=⟨n,h.name,h.params,h.answers,gI (n+1+K5 h) h.needs,gI (n+1+K5 h+h.needs.length) h.gives,dZ (n+1+K5 h+h.needs.length+h.gives.length) h.steps⟩
noncomputable def c7 (n:Nat):List lI->List lI
 | []=>[]
 | h::r=>M5 n h::c7 (n+(bH h).length) r
structure vp (s:Sm):Prop where
 nm:norm s.1=s.1
 len:s.1.length<=3
 sh:∀ p∈s.1,Small p.2/\p.1.length<=100
 num:Small s.2
theorem vp.short {s:Sm}(h:vp s):Short s.1:=⟨by have:=h.len;omega,h.sh⟩
mutual
noncomputable def v5:cO->Prop
 | .cmp a s b=>vp a/\vp b/\s.length<=2
 | .neg c=>v5 c
 | .con _ cs=>Et cs
noncomputable def Et:List cO->Prop
 | []=>True
 | c::r=>v5 c/\Et r
end
structure C5 (c:cO):Prop where
 g:v5 c
 dep:c.dep < 3
 sz:c.sz<=9
theorem xu {c:cO}:∀ {l:List cO},Et l->c∈l->v5 c
 | d::r,h,m=>by
  unfold Et at h
  rcases List.mem_cons.mp m with rfl | m
  ·exact h.1
  ·exact xu h.2 m
theorem NP:∀ {l:List cO},(∀ c∈l,v5 c)->Et l
 | [],_=>by unfold Et;trivial
 | c::r,h=>by unfold Et;exact⟨h c List.mem_cons_self,NP fun x hx=>h x (List.mem_cons_of_mem _ hx)⟩
mutual
noncomputable def fF:eG->Prop
 | .lt _ x s=>x.length<=100/\vp s
 | .dv _ x wd s b=>x.length<=100/\wd.length<=3/\vp s/\vp b
 | .ft _ x r p=>x.length<=100/\r.length<=100/\vp p
 | .pt _ r p s=>r.length<=100/\vp p/\vp s
 | .mq _ r z=>r.length<=100/\vp z
 | .cm _ c=>C5 c
 | .cl _ ns hp g=>ns.length<=8/\(∀ x∈ns,x.length<=100)/\hp.length<=100/\g.length<=8/\∀ s∈g,vp s
 | .ch _ c t e=>C5 c/\nM t/\nM e/\t.length<=10/\e.length<=10
 | .rp _ c hs f b=>C5 c/\hs.length<=10/\(∀ p∈hs,C5 p.2)/\(∀ p,f=some p->vp p.2)/\nM b/\b.length<=10
noncomputable def nM:List eG->Prop
 | []=>True
 | c::r=>fF c/\nM r
end
theorem g7 {c:eG}:∀ {l:List eG},nM l->c∈l->fF c
 | d::r,h,m=>by
  unfold nM at h
  rcases List.mem_cons.mp m with rfl | m
  ·exact h.1
  ·exact g7 h.2 m
theorem zY:∀ {l:List eG},(∀ c∈l,fF c)->nM l
 | [],_=>by unfold nM;trivial
 | c::r,h=>by unfold nM;exact⟨h c List.mem_cons_self,zY fun x hx=>h x (List.mem_cons_of_mem _ hx)⟩
structure FY (h:lI):Prop where
 nm:h.name.length<=100
 pl:h.params.length<=8/\h.answers.length<=8/\h.needs.length<=8/\h.gives.length<=8/\h.steps.length<=10
 ps:∀ x∈h.params,x.length<=100
 an:∀ x∈h.answers,x.length<=100
 nd:∀ p∈h.needs,C5 p.2
 gv:∀ p∈h.gives,C5 p.2
 st:nM h.steps
theorem ym {M:Nat}:∀ {l:Qs},(∀ q∈l,q.2.length<=M)->(iQ l).length<=(M+3)*l.length
 | [],_=>Nat.zero_le _
 | q::r,h=>by
  have h1:=h q List.mem_cons_self
  have h2:=ym (l:=r) fun x hx=>h x (List.mem_cons_of_mem _ hx)
  have e:iQ (q::r)=cp (k6 q.1)++(cp q.2++iQ r):=by
   unfold iQ
   rw[List.map_cons,List.flatten_cons,List.append_assoc]
  have l:=Dl q.1
  have h3:(cp q.2).length=q.2.length:=(rH q.2).symm
  rw[e,List.length_append,List.length_append,List.length_cons,Nat.mul_succ]
  omega
theorem bD {s:Sm}(h:vp s):(ku s).length<=700:=by
 have e:(ku s).length=(G0 (eZ s.1 s.2)).length:=by simp[ku,Str.length]
 rw[e]
 have h1:=mF h.short h.num
 have h2:(eZ s.1 s.2).length<=4:=by
  unfold eZ
  rw[List.length_append,List.length_map]
  have:=h.len
  split
  ·simp;omega
  ·simp;omega
 obtain⟨q,r,eq⟩:=n9 s.1 s.2
 rw[eq] at h1 h2 ⊢
 have h3:=ym (M:=166) (l:=r) fun x hx=>h1 x (List.mem_cons_of_mem _ hx)
 have h4:(cp q.2).length<=166:=by rw[<- rH];exact h1 q List.mem_cons_self
 rw[List.length_cons] at h2
 unfold G0
 rw[List.length_append,List.length_append]
 have h5:(if q.1 < 0 then [45] else ([]:List Nat)).length<=1:=by split <;> simp
 omega
theorem aS (a b:Str):(a++b).length=a.length+b.length:=xF a b
theorem Mf (sep:Str):∀ ss:List Str,(Str.join sep ss).length<=(ss.map (·.length)).sum+ss.length*sep.length
 | []=>by simp[Str.join,Str.length,Str.empty]
 | [x]=>by simp[Str.join]
 | x::y::r=>by
  show(x++sep++Str.join sep (y::r)).length<=_
  have ih:=Mf sep (y::r)
  rw[aS,aS,List.map_cons,List.sum_cons,List.length_cons,Nat.succ_mul]
  omega
theorem vf (sep:Str)(ss:List Str):(Txt.join sep ss).length<=(ss.map (·.length)).sum+ss.length*sep.length:=by
 show(Builtin.Str.glued sep ss).length<=_
 rw[StrLaws.glued_eq_join]
 exact Mf sep ss
theorem iC {M:Nat}:∀ {l:List Str},(∀ x∈l,x.length<=M)->(l.map (·.length)).sum<=M*l.length
 | [],_=>Nat.zero_le _
 | a::l,h=>by
  have h1:=h a List.mem_cons_self
  have h2:=iC fun x hx=>h x (List.mem_cons_of_mem _ hx)
  rw[List.map_cons,List.sum_cons,List.length_cons,Nat.mul_succ]
  omega
mutual
theorem qm:∀ (c:cO),v5 c->c.sz<=100->(uC c).length<=1500*c.sz
 | .cmp a s b,h,_=>by
  unfold v5 at h
  have h1:=bD h.1
  have h2:=bD h.2.1
  have h3:=h.2.2
  have z:(" ":Str).length=1:=by decide +kernel
  unfold uC cO.sz
  rw[aS,aS,aS,aS,z]
  omega
 | .neg c,h,hz=>by
  unfold v5 at h
  unfold cO.sz at hz
  have ih:=qm c h (by omega)
  have z:("not (":Str).length=5:=by decide +kernel
  have z2:(")":Str).length=1:=by decide +kernel
  unfold uC cO.sz
  rw[aS,aS,z,z2]
  omega
 | .con k cs,h,hz=>by
  unfold v5 at h
  unfold cO.sz at hz
  have ih:=qI cs h (by omega)
  have h2:=nN cs
  have h3:=vf (if k=true then (" and ":Str) else (" or ":Str)) (BD cs)
  have h4:(if k=true then (" and ":Str) else (" or ":Str)).length<=5:=by split <;> decide +kernel
  have h5:(BD cs).length=cs.length:=by rw[mU,List.length_map]
  have h6:(BD cs).length*(if k=true then (" and ":Str) else (" or ":Str)).length<=cs.length*5:=by rw[h5];exact Nat.mul_le_mul_left _ h4
  unfold uC
  show _<=1500*(Iz cs+1)
  omega
theorem qI:∀ (l:List cO),Et l->Iz l<=100->((BD l).map (·.length)).sum<=1500*Iz l+2*l.length
 | [],_,_=>by unfold BD;simp
 | c::r,h,hz=>by
  unfold Et at h
  unfold Iz at hz
  have ih:=qm c h.1 (by omega)
  have ir:=qI r h.2 (by omega)
  have z:("(":Str).length=1:=by decide +kernel
  have z2:(")":Str).length=1:=by decide +kernel
  unfold BD Iz
  rw[List.map_cons,List.sum_cons,List.length_cons]
  have:(if 2<=xV c then (("(":Str)++uC c)++(")":Str) else uC c).length<=(uC c).length+2:=by
   split
   ·rw[aS,aS,z,z2];omega
   ·omega
  omega
end
theorem jI {c:cO}(h:C5 c):(uC c).length<=13500:=by
 have:=qm c h.g (by have:=h.sz;omega)
 have:=h.sz
 omega
theorem sA {w:Str}{c:cO}(h:C5 c)(hw:w.length<=20):(pre w c).length<=13520:=by
 have:=jI h
 unfold pre
 rw[aS];omega
mutual
theorem Ov:∀ (s:eG) (n:Nat),rws (lay n s)=rws s
 | .lt ..,n=>by unfold lay;unfold rws;rfl
 | .dv ..,n=>by unfold lay;unfold rws;rfl
 | .ft ..,n=>by unfold lay;unfold rws;rfl
 | .pt ..,n=>by unfold lay;unfold rws;rfl
 | .mq ..,n=>by unfold lay;unfold rws;rfl
 | .cm ..,n=>by unfold lay;unfold rws;rfl
 | .cl ..,n=>by unfold lay;unfold rws;rfl
 | .ch a c t e,n=>by
  unfold lay
  unfold rws
  rw[qO t,qO e]
  have:∀ m,dZ m e=[]↔e=[]:=fun m=>by
   cases e with
   | nil=>simp[dZ]
   | cons x r=>simp[dZ]
  by_cases h:e=[]
  ·rw[if_pos ((this _).mpr h),if_pos h]
  ·rw[if_neg fun z=>h ((this _).mp z),if_neg h]
 | .rp a c hs f b,n=>by
  unfold lay
  unfold rws
  rw[qO b]
  have h1:∀ (l:List (Int×cO)) (m:Nat),(gI m l).map (fun p=>pre "holds " p.2)=l.map fun p=>pre "holds " p.2:=by
   intro l
   induction l with
   | nil=>intro m;unfold gI;rfl
   | cons p r ih=>intro m;unfold gI;rw[List.map_cons,List.map_cons,ih]
  rw[h1]
  cases f with
  | none=>rfl
  | some p=>rfl
theorem qO:∀ (l:List eG) (n:Nat),aX (dZ n l)=aX l
 | [],n=>by unfold dZ;rfl
 | c::r,n=>by
  unfold dZ
  unfold aX
  rw[Ov c,qO r]
end
mutual
theorem Ug:∀ (s:eG) (n:Nat),(lay n s).dp=s.dp
 | .lt ..,n=>by unfold lay;unfold eG.dp;rfl
 | .dv ..,n=>by unfold lay;unfold eG.dp;rfl
 | .ft ..,n=>by unfold lay;unfold eG.dp;rfl
 | .pt ..,n=>by unfold lay;unfold eG.dp;rfl
 | .mq ..,n=>by unfold lay;unfold eG.dp;rfl
 | .cm ..,n=>by unfold lay;unfold eG.dp;rfl
 | .cl ..,n=>by unfold lay;unfold eG.dp;rfl
 | .ch a c t e,n=>by unfold lay;unfold eG.dp;rw[xm t,xm e]
 | .rp a c hs f b,n=>by unfold lay;unfold eG.dp;rw[xm b]
theorem xm:∀ (l:List eG) (n:Nat),pG (dZ n l)=pG l
 | [],n=>by unfold dZ;rfl
 | c::r,n=>by unfold dZ;unfold pG;rw[Ug c,xm r]
end
theorem iP:∀ (l:List eG) (n:Nat),(dZ n l).length=l.length
 | [],n=>by unfold dZ;rfl
 | c::r,n=>by unfold dZ;rw[List.length_cons,List.length_cons,iP r]
theorem nq:∀ (l:List (Int×cO)) (n:Nat),(gI n l).length=l.length
 | [],n=>by unfold gI;rfl
 | c::r,n=>by unfold gI;rw[List.length_cons,List.length_cons,nq r]
theorem wX {P:cO->Prop}:∀ (l:List (Int×cO)) (n:Nat),(∀ p∈l,P p.2)->∀ p∈gI n l,P p.2
 | [],n,h=>by unfold gI;exact h
 | c::r,n,h=>fun p hp=>by
  unfold gI at hp
  rcases List.mem_cons.mp hp with rfl | hp
  ·exact h c List.mem_cons_self
  ·exact wX r (n+1) (fun q hq=>h q (List.mem_cons_of_mem _ hq)) p hp
theorem AS {β:Type}(g:cO->β):∀ (l:List (Int×cO)) (n:Nat),(gI n l).map (fun p=>g p.2)=l.map fun p=>g p.2
 | [],n=>by unfold gI;rfl
 | c::r,n=>by unfold gI;rw[List.map_cons,List.map_cons,AS g r]
mutual
theorem Xe:∀ (s:eG) (n:Nat),fF s->fF (lay n s)
 | .lt ..,n,h=>by unfold lay;unfold fF at *;exact h
 | .dv ..,n,h=>by unfold lay;unfold fF at *;exact h
 | .ft ..,n,h=>by unfold lay;unfold fF at *;exact h
 | .pt ..,n,h=>by unfold lay;unfold fF at *;exact h
 | .mq ..,n,h=>by unfold lay;unfold fF at *;exact h
 | .cm ..,n,h=>by unfold lay;unfold fF at *;exact h
 | .cl ..,n,h=>by unfold lay;unfold fF at *;exact h
 | .ch a c t e,n,h=>by
  unfold lay
  unfold fF at *
  exact⟨h.1,A5 t _ h.2.1,A5 e _ h.2.2.1,by rw[iP];exact h.2.2.2.1,by rw[iP];exact h.2.2.2.2⟩
 | .rp a c hs f b,n,h=>by
  unfold lay
  unfold fF at *
  refine⟨h.1,by rw[nq];exact h.2.1,wX hs _ h.2.2.1,fun p hp=>?_,A5 b _ h.2.2.2.2.1,by rw[iP];exact h.2.2.2.2.2⟩
  cases f with
  | none=>cases hp
  | some q=>cases hp;exact h.2.2.2.1 q rfl
theorem A5:∀ (l:List eG) (n:Nat),nM l->nM (dZ n l)
 | [],n,h=>by unfold dZ;exact h
 | c::r,n,h=>by
  unfold dZ
  unfold nM at *
  exact⟨Xe c n h.1,A5 r _ h.2⟩
end
theorem TV {h:lI}(g:FY h)(n:Nat):FY (M5 n h) :=
 ⟨g.nm,⟨g.pl.1,g.pl.2.1,by show(gI _ _).length<=8;rw[nq];exact g.pl.2.2.1,by show(gI _ _).length<=8;rw[nq];exact g.pl.2.2.2.1,by show(dZ _ _).length<=10;rw[iP];exact g.pl.2.2.2.2⟩,g.ps,g.an,wX _ _ g.nd,wX _ _ g.gv,A5 _ _ g.st⟩
theorem Hx (h:lI)(n:Nat):bH (M5 n h)=bH h:=by
 unfold bH M5
 rw[AS (pre "needs "),AS (pre "gives "),qO]
theorem fM:∀ l m:List eG,aX (l++m)=aX l++aX m
 | [],m=>by rw[aX];rfl
 | c::r,m=>by rw[List.cons_append,aX,aX,fM,List.append_assoc]
theorem oW:∀ (l m:List eG) (n:Nat),dZ n (l++m)=dZ n l++dZ (n+(aX l).length) m
 | [],m,n=>by rw[dZ,aX];simp
 | c::r,m,n=>by rw[List.cons_append,dZ,dZ,oW,aX,List.length_append,List.cons_append,Nat.add_assoc]
theorem wY:∀ (l m:List (Int×cO)) (n:Nat),gI n (l++m)=gI n l++gI (n+l.length) m
 | [],m,n=>by rw[gI];simp
 | c::r,m,n=>by rw[List.cons_append,gI,gI,wY,List.length_cons,List.cons_append,show n+1+r.length=n+(r.length+1) by omega]
theorem CP:∀ (l m:List lI) (n:Nat),c7 n (l++m)=c7 n l++c7 (n+((l.map bH).flatten).length) m
 | [],m,n=>by rw[c7];simp
 | c::r,m,n=>by rw[List.cons_append,c7,c7,CP,List.map_cons,List.flatten_cons,List.length_append,List.cons_append,Nat.add_assoc]
theorem uS:∀ (l:List lI) (n:Nat),(c7 n l).map bH=l.map bH
 | [],n=>by rw[c7]
 | c::r,n=>by rw[c7,List.map_cons,List.map_cons,Hx,uS]
theorem IU {c:eG}:∀ {l:List eG},c∈l->(rws c).length<=(aX l).length
 | d::r,h=>by
  unfold aX
  rw[List.length_append]
  rcases List.mem_cons.mp h with rfl | h
  ·omega
  ·have:=IU h;omega
mutual
theorem Ox:∀ (s:eG),fF s->∀ r∈rws s,r.length<=25000
 | .lt a x s,h=>fun r hr=>by
  unfold fF at h
  unfold rws at hr
  have:=bD h.2
  have z1:("let ":Str).length=4:=by decide +kernel
  have z2:(" = ":Str).length=3:=by decide +kernel
  rw[List.mem_singleton.mp hr,aS,aS,aS,z1,z2]
  omega
 | .dv a x wd s b,h=>fun r hr=>by
  unfold fF at h
  unfold rws at hr
  have:=bD h.2.2.1
  have:=bD h.2.2.2
  have z1:("let ":Str).length=4:=by decide +kernel
  have z2:(" = ":Str).length=3:=by decide +kernel
  have z3:(" ":Str).length=1:=by decide +kernel
  rw[List.mem_singleton.mp hr,aS,aS,aS,aS,aS,aS,aS,z1,z2,z3]
  omega
 | .ft a x r' p,h=>fun r hr=>by
  unfold fF at h
  unfold rws at hr
  have:=bD h.2.2
  have z1:("let ":Str).length=4:=by decide +kernel
  have z2:(" = ":Str).length=3:=by decide +kernel
  have z3:(" at ":Str).length=4:=by decide +kernel
  rw[List.mem_singleton.mp hr,aS,aS,aS,aS,aS,z1,z2,z3]
  omega
 | .pt a r' p s,h=>fun r hr=>by
  unfold fF at h
  unfold rws at hr
  have:=bD h.2.1
  have:=bD h.2.2
  have z1:("put ":Str).length=4:=by decide +kernel
  have z2:(" = ":Str).length=3:=by decide +kernel
  have z3:(" at ":Str).length=4:=by decide +kernel
  rw[List.mem_singleton.mp hr,aS,aS,aS,aS,aS,z1,z2,z3]
  omega
 | .mq a r' z,h=>fun r hr=>by
  unfold fF at h
  unfold rws at hr
  have:=bD h.2
  have z1:("row ":Str).length=4:=by decide +kernel
  have z2:(" = ":Str).length=3:=by decide +kernel
  rw[List.mem_singleton.mp hr,aS,aS,aS,z1,z2]
  omega
 | .cm a c,h=>fun r hr=>by
  unfold fF at h
  unfold rws at hr
  rw[List.mem_singleton.mp hr]
  exact Nat.le_trans (sA h (by decide +kernel)) (by decide)
 | .cl a ns hp g,h=>fun r hr=>by
  unfold fF at h
  obtain⟨h1,h2,h3,h4,h5⟩:=h
  unfold rws at hr
  rw[List.mem_singleton.mp hr]
  have z1:(" ":Str).length=1:=by decide +kernel
  have z2:(", ":Str).length=2:=by decide +kernel
  have z3:("call ":Str).length=5:=by decide +kernel
  have z4:(Str.ofString "").length=0:=by decide +kernel
  have b1:=vf "" (ns.map fun x=>x++(" ":Str))
  have b2:=iC (M:=101) (l:=ns.map fun x=>x++(" ":Str)) fun x hx=>by
   obtain⟨y,hy,rfl⟩:=List.mem_map.mp hx
   have:=h2 y hy
   rw[aS,z1];omega
  have b3:=vf ", " (g.map ku)
  have b4:=iC (M:=700) (l:=g.map ku) fun x hx=>by
   obtain⟨y,hy,rfl⟩:=List.mem_map.mp hx
   exact bD (h5 y hy)
  rw[z4,Nat.mul_zero] at b1
  rw[List.length_map] at b2 b3 b4
  rw[z2] at b3
  have b5:(uD ns hp).length<=1000:=by
   unfold uD
   have:(if ns=[] then ("":Str) else "= ").length<=2:=by split <;> decide +kernel
   rw[aS,aS]
   omega
  unfold C0
  rw[aS,z3]
  split
  ·omega
  ·rw[aS,aS,z1];omega
 | .ch a c t e,h=>fun r hr=>by
  unfold fF at h
  unfold rws at hr
  have z1:("else":Str).length<=25000:=by decide +kernel
  have z2:("end":Str).length<=25000:=by decide +kernel
  rcases List.mem_append.mp hr with hr | hr
  ·rcases List.mem_append.mp hr with hr | hr
   ·rcases List.mem_cons.mp hr with rfl | hr
    ·exact Nat.le_trans (sA h.1 (by decide +kernel)) (by decide)
    ·exact qP t h.2.1 r hr
   ·split at hr
    ·cases hr
    ·rcases List.mem_cons.mp hr with rfl | hr
     ·exact z1
     ·exact qP e h.2.2.1 r hr
  ·rw[List.mem_singleton.mp hr];exact z2
 | .rp a c hs f b,h=>fun r hr=>by
  unfold fF at h
  unfold rws at hr
  have z2:("end":Str).length<=25000:=by decide +kernel
  have z3:("falls ":Str).length=6:=by decide +kernel
  rcases List.mem_append.mp hr with hr | hr
  ·rcases List.mem_append.mp hr with hr | hr
   ·rcases List.mem_append.mp hr with hr | hr
    ·rcases List.mem_cons.mp hr with rfl | hr
     ·exact Nat.le_trans (sA h.1 (by decide +kernel)) (by decide)
     ·obtain⟨p,hp,rfl⟩:=List.mem_map.mp hr
      exact Nat.le_trans (sA (h.2.2.1 p hp) (by decide +kernel)) (by decide)
    ·cases f with
     | none=>cases hr
     | some p =>
      have:=bD (h.2.2.2.1 p rfl)
      have e:r=("falls ":Str)++ku p.2:=List.mem_singleton.mp hr
      rw[e,aS,z3];omega
   ·exact qP b h.2.2.2.2.1 r hr
  ·rw[List.mem_singleton.mp hr];exact z2
theorem qP:∀ (l:List eG),nM l->∀ r∈aX l,r.length<=25000
 | [],_=>fun r hr=>by unfold aX at hr;cases hr
 | c::l,h=>fun r hr=>by
  unfold nM at h
  unfold aX at hr
  rcases List.mem_append.mp hr with hr | hr
  ·exact Ox c h.1 r hr
  ·exact qP l h.2 r hr
end
theorem CT {h:lI}(g:FY h):∀ r∈bH h,r.length<=25000:=fun r hr=>by
 obtain⟨p1,p2,p3,p4,p5⟩:=g.pl
 have z1:(" ":Str).length=1:=by decide +kernel
 have jn:∀ l:List Str,(∀ x∈l,x.length<=100)->l.length<=10->(Txt.join " " l).length<=25000:=fun l hl h10=>by
  have:=vf " " l
  have:=iC hl
  rw[z1] at *
  omega
 unfold bH at hr
 rcases List.mem_append.mp hr with hr | hr
 ·rcases List.mem_append.mp hr with hr | hr
  ·rcases List.mem_append.mp hr with hr | hr
   ·rcases List.mem_append.mp hr with hr | hr
    ·rcases List.mem_cons.mp hr with rfl | hr
     ·refine jn _ (fun x hx=>?_) (by simp;omega)
      rcases List.mem_append.mp hx with hx | hx
      ·rcases List.mem_cons.mp hx with rfl | hx
       ·decide +kernel
       ·rw[List.mem_singleton.mp hx];exact g.nm
      ·exact g.ps x hx
     ·split at hr
      ·cases hr
      ·rw[List.mem_singleton.mp hr]
       refine jn _ (fun x hx=>?_) (by simp;omega)
       rcases List.mem_append.mp hx with hx | hx
       ·rw[List.mem_singleton.mp hx];decide +kernel
       ·exact g.an x hx
    ·obtain⟨p,hp,rfl⟩:=List.mem_map.mp hr
     exact Nat.le_trans (sA (g.nd p hp) (by decide +kernel)) (by decide)
   ·obtain⟨p,hp,rfl⟩:=List.mem_map.mp hr
    exact Nat.le_trans (sA (g.gv p hp) (by decide +kernel)) (by decide)
  ·exact qP _ g.st r hr
 ·rw[List.mem_singleton.mp hr];decide +kernel
section
variable (K:PySem.W.Frag)(A:Ad)
noncomputable def GG:fD:=fun ds S k=>∃ (n:Nat) (d:D) (l:List (Str×Int)) (m:Int),ds=[.ob n,d,.int m]/\S[n]?=some (.ins A.mJ [] [])/\xq S d=some (l.map pT)/\l.length < 64/\k .fE (S.set n (.ins A.mJ ["terms","number"] ([.tup (l.map pT),.int m].map .t)))
noncomputable def IE:fD:=fun ds S k=>∃ (d:D) (l:List (Str×Int)) (m:Int),ds=[d,.int m]/\xq S d=some (l.map pT)/\l.length < 64/\k (.t (qH A (sumOf l m))) S
noncomputable def Ae (C:Addr):fD:=fun ds S k=>∃ (n:Nat) (d:D) (l:List T),ds=[.ob n,d]/\S[n]?=some (.ins C [] [])/\xq S d=some l/\k .fE (S.set n (.ins C ["conditions"] ([.tup l].map .t)))
noncomputable def IG:fD:=fun ds S k=>∃ (d:D) (l:List (Int×cO)),ds=[d]/\xq S d=some (l.map (atT A))/\l.length<=100/\k (.tup (l.map (atT A))) S
noncomputable def L7:fD:=fun ds S k=>∃ (i:Nat) (a:Int) (d1 d2:D) (ns:List Str) (hp:Str) (g:List Sm),ds=[.ob i,.int a,d1,.str hp,d2]/\S[i]?=some (.ins A.gW [] [])/\xq S d1=some (ns.map T.str)/\xq S d2=some (g.map (qH A)) /\
 k .fE (S.set i (.ins A.gW ["at","names","helper","given"] ([.int a,uM ns,.str hp,.tup (g.map (qH A))].map .t)))
noncomputable def L8:fD:=fun ds S k=>∃ (i:Nat) (a:Int) (c:T) (d1 d2:D) (t e:List T),ds=[.ob i,.int a,.t c,d1,d2]/\S[i]?=some (.ins A.cY [] [])/\xq S d1=some t/\xq S d2=some e /\
 k .fE (S.set i (.ins A.cY ["at","condition","then","other"] ([.int a,c,.tup t,.tup e].map .t)))
noncomputable def LW:fD:=fun ds S k=>∃ (i:Nat) (a:Int) (c f:T) (d1 d2:D) (hs:List (Int×cO)) (b:List T),ds=[.ob i,.int a,.t c,d1,.t f,d2]/\S[i]?=some (.ins A.cH [] [])/\xq S d1=some (hs.map (atT A))/\hs.length<=100/\xq S d2=some b /\
 k .fE (S.set i (.ins A.cH ["at","condition","keeps","falls","body"] ([.int a,c,.tup (hs.map (atT A)),f,.tup b].map .t)))
noncomputable def L6:fD:=fun ds S k=>∃ (i:Nat) (d1 d2 d3 d4 d5:D) (h:lI),ds=[.ob i,.int h.at_,.str h.name,d1,d2,d3,d4,d5]/\S[i]?=some (.ins A.bN [] [])/\xq S d1=some (h.params.map T.str)/\xq S d2=some (h.answers.map T.str)/\xq S d3=some (h.needs.map (atT A))/\xq S d4=some (h.gives.map (atT A))/\xq S d5=some (sV A h.steps) /\
 h.needs.length<=100/\h.gives.length<=100/\k .fE (S.set i (.ins A.bN ["at","name","params","answers","needs","gives","steps"] ([.int h.at_,.str h.name,uM h.params,uM h.answers,.tup (h.needs.map (atT A)),.tup (h.gives.map (atT A)),.tup (sV A h.steps)].map .t)))
noncomputable def LX:fD:=fun ds S k=>∃ (i:Nat) (d:D) (hs:List lI),ds=[.ob i,d]/\S[i]?=some (.ins A.dM [] [])/\xq S d=some (hs.map (Ll A))/\k .fE (S.set i (.ins A.dM ["helpers"] ([.tup (hs.map (Ll A))].map .t)))
noncomputable def zI:fD:=fun ds S k=>∃ a:Sm,ds=[.t (qH A a)]/\k (.t (jl a)) S
noncomputable def gD (n j:Nat):fD:=fun ds S k=>∃ c:cO,ds=[.t (nJ A c)]/\xV c=j/\c.dep < n/\c.sz<=40/\k (.t (lG c)) S
noncomputable def IC:fD:=fun ds S k=>∃ (l:List (Int×cO)),ds=[.tup (l.map (atT A))]/\l.length<=100/\(∀ p∈l,C5 p.2)/\k (.tup (l.map Ln)) S
inductive Tx (n:Nat):T->T->Nat->Prop
 | s (s:eG) (h:fF s) (d:s.dp < n):Tx n (nO A s) (jZ s) (kd s)
 | h (x:lI) (h:FY x) (d:pG x.steps+1 < n):Tx n (Ll A x) (yl x) 9
 | m (s:Sm) (d:0 < n):Tx n (qH A s) (jl s) 10
noncomputable def fG (n j:Nat):fD:=fun ds S k=>∃ x y,ds=[.t x]/\Tx A n x y j/\k (.t y) S
noncomputable def kr (n j:Nat):fD:=fun ds S k=>∃ s:eG,ds=[.t (nO A s)]/\kd s=j/\fF s/\s.dp < n+1/\k (.t (jZ s)) S
noncomputable def EG (n:Nat):fD:=fun ds S k=>∃ h:lI,ds=[.t (Ll A h)]/\FY h/\pG h.steps+1 < n+1/\k (.t (yl h)) S
noncomputable def Df (n:Nat):fD:=fun ds S k=>∃ (l:List (T×T)),ds=[.tup (l.map (·.1))]/\l.length<=100/\(∀ p∈l,∃ j,Tx A n p.1 p.2 j)/\k (.tup (l.map (·.2))) S
noncomputable def Af:fD:=fun ds S k=>∃ hs:List lI,ds=[.t (GW A hs)]/\hs.length<=100/\(∀ h∈hs,FY h/\pG h.steps<=8)/\k (.tup (hs.map yl)) S
noncomputable def ID:fD:=fun ds S k=>∃ (t:Str) (w:Int),ds=[.str t,.int w]/\Small w/\t.length<=100/\k (.str (iw t w)) S
noncomputable def xH (w:Int):Str:=if w < 0 then "-" else ""
noncomputable def Qu:fD:=fun ds S k=>∃ w:Int,ds=[.int w]/\k (.str (xH w)) S
noncomputable def Qt:fD:=fun ds S k=>∃ w:Int,ds=[.int w]/\k (.str (k6 w)) S
noncomputable def Dg:fD:=fun ds S k=>∃ s:Sm,ds=[.t (qH A s)]/\vp s/\k (.str (ku s)) S
noncomputable def gE (n j:Nat):fD:=fun ds S k=>∃ c:cO,ds=[.t (nJ A c)]/\xV c=j/\c.dep < n/\v5 c/\c.sz<=9/\k (.str (uC c)) S
noncomputable def EC (n:Nat):fD:=fun ds S k=>∃ c:cO,ds=[.t (nJ A c)]/\c.dep < n/\v5 c/\c.sz<=9/\k (.str (Gs c)) S
noncomputable def dw (n j:Nat):fD:=fun ds S k=>∃ s:eG,ds=[.t (nO A s)]/\kd s=j/\fF s/\s.dp < n/\(rws s).length<=1000/\k (.lst ((rws s).map T.str)) S
noncomputable def Dh (n:Nat):fD:=fun ds S k=>∃ l:List eG,ds=[.tup (sV A l)]/\nM l/\pG l < n/\(aX l).length<=1000/\k (.lst ((aX l).map T.str)) S
noncomputable def IF:fD:=fun ds S k=>∃ (w:Str) (l:List (Int×cO)),ds=[.str w,.tup (l.map (atT A))]/\l.length<=10/\(∀ p∈l,C5 p.2)/\w.length<=10/\k (.lst (l.map fun p=>T.str ((w++(" ":Str))++uC p.2))) S
noncomputable def Ai:fD:=fun ds S k=>∃ h:lI,ds=[.t (Ll A h)]/\FY h/\pG h.steps<=8/\(bH h).length<=1000/\k (.lst ((bH h).map T.str)) S
noncomputable def ED:fD:=fun ds S k=>∃ hs:List lI,ds=[.t (GW A hs)]/\(∀ h∈hs,FY h/\pG h.steps<=8)/\((hs.map bH).flatten).length<=600/\k (.lst (((hs.map bH).flatten).map T.str)) S
noncomputable def Qo:fD:=fun ds S k=>∃ rs:List Str,ds=[.lst (rs.map T.str)]/\rs.length<=600/\(∀ r∈rs,r.length<=25000)/\k (.str (txR rs)) S
noncomputable def CJ:fD:=fun ds S k=>∃ hs:List lI,ds=[.t (GW A hs)]/\(∀ h∈hs,FY h/\pG h.steps<=8)/\((hs.map bH).flatten).length<=600/\k (.str (Bx hs)) S
noncomputable def Bo (x:Str):Prop:=x.length<=20/\x.cps.toList≠[]
noncomputable def Qp:fD:=fun ds S k=>∃ (d m:Nat),ds=[.ob d,.int m]/\m<=8/\Dq S d/\∀ (ns:List Str) c m',ns.length=m->ns.Nodup->(∀ x∈ns,Bo x)->k (.t (B0 ns)) (bV S d c m')
noncomputable def uz:List Str:=(["helper","answers","needs","gives","end","let","div","mod","put","row","at","if","else"]:List Str)++(["while","holds","falls","call","claim","and","or","not"]:List Str)
noncomputable def L5:fD:=fun ds S k=>ds=[]/\k (.t (B0 uz)) S
noncomputable def LZ:fD:=fun ds S k=>∃ (d:Nat) (x:D) (N:List Str),ds=[.ob d,x]/\Dq S d/\lq S x=some (N.map T.str)/\N.length<=100/\(∀ x∈N,x.length<=100)/\∀ s c m,vp s->k (.t (jl s)) (bV S d c m)
noncomputable def Gw:Nat->Nat
 | 0=>1 | 1=>4 | _=>9
noncomputable def zK (n:Nat):fD:=fun ds S k=>∃ (d:Nat) (x:D) (N:List Str),n < 3/\ds=[.ob d,x,.int n]/\Dq S d/\lq S x=some (N.map T.str)/\N.length<=100/\(∀ x∈N,x.length<=100)/\∀ e c m,v5 e->e.dep<=n->e.sz<=Gw n->k (.t (lG e)) (bV S d c m)
noncomputable def wu:Nat->fD
 | 0=>Oq
 | n+1=>zK n
structure JB (ws N ms us:List Str):Prop where
 w:ws≠[]/\ws.length<=100/\∀ x∈ws,x.length<=100
 n:N≠[]/\N.length<=100/\∀ x∈N,x.length<=100
 m:ms.length<=100/\∀ x∈ms,x.length<=90
 u:us≠[]/\us.length<=100/\∀ x∈us,x.length<=90
noncomputable def GZ (ws N ms us:List Str):T:=.tup [B0 ws,B0 N,B0 ms,B0 us]
structure U7 (h:lI):Prop where
 nm:h.name.length<=100
 pl:h.params.length<=8/\h.answers.length<=8
 ps:∀ x∈h.params,x.cps.toList≠[]/\x.length<=100
noncomputable def CM:Nat->Nat
 | 0=>1 | 1=>7 | _=>31
noncomputable def EE:fD:=fun ds S k=>∃ hs:List lI,ds=[.lst (hs.map mG)]/\hs.length<=100/\(∀ h∈hs,U7 h)/\∀ l:List lI,(∀ h∈l,h∈hs)->l.length<=hs.length->k (.lst (l.map mG)) S
noncomputable def IS:fD:=fun ds S k=>∃ (d:Nat) (ws N ms us:List Str) (h:lI),ds=[.ob d,.t (GZ ws N ms us),.t (mG h)]/\Dq S d/\JB ws N ms us/\U7 h/\∀ s c m,fF s->s.dp=1->(rws s).length=1->k (.t (mQ s)) (bV S d c m)
noncomputable def IL (n:Nat):fD:=fun ds S k=>∃ (d:Nat) (ws N ms us:List Str) (hs:List lI),n < 3/\ds=[.ob d,.t (GZ ws N ms us),.int n,.lst (hs.map mG)]/\Dq S d/\JB ws N ms us/\hs.length<=100/\(∀ h∈hs,U7 h)/\∀ s c m,fF s->s.dp<=n+1->(rws s).length<=CM n->k (.t (mQ s)) (bV S d c m)
noncomputable def Ag (n:Nat):fD:=fun ds S k=>∃ (d j:Nat) (ws N ms us:List Str) (hs:List lI),n < 3/\ds=[.ob d,.t (GZ ws N ms us),.int j,.int n,.lst (hs.map mG)]/\j<=10/\Dq S d/\JB ws N ms us/\hs.length<=100/\(∀ h∈hs,U7 h)/\∀ l c m,nM l->l.length=j->pG l<=n+1->(aX l).length<=j*CM n->k (.tup (Aa l)) (bV S d c m)
noncomputable def r8:Nat->fD
 | 0=>Oq
 | n+1=>Ag n
structure Ri (h:lI)(d r:Nat):Prop where
 g:FY h
 c:U7 h
 dp:pG h.steps<=d
 rw:(bH h).length<=r
noncomputable def CK:fD:=fun ds S k=>∃ (d j:Nat) (nm:Str) (ns:List Str) (hs:List lI),ds=[.ob d,.str nm,.t (B0 ns),.int j,.lst (hs.map mG)]/\Dq S d/\Bo nm/\ns.length=8/\ns.Nodup/\(∀ x∈ns,Bo x)/\j<=2/\hs.length<=100/\(∀ h∈hs,U7 h)/\∀ h c m,Ri h 3 70->k (.t (mG h)) (bV S d c m)
noncomputable def IP:fD:=fun ds S k=>∃ d:Nat,ds=[.ob d,.int 2]/\Dq S d/\∀ (hs:List lI) c m,hs.length<=2->(∀ h∈hs,Ri h 3 70)->k (.ob S.length) (bV S d c m++[.lst (hs.map mG)])
noncomputable def EF:fD:=fun ds S k=>∃ d:Nat,ds=[.ob d]/\Dq S d/\∀ h c m,Ri h 6 70->k (.t (mG h)) (bV S d c m)
noncomputable def IJ:fD:=fun ds S k=>∃ s:Sm,ds=[.t (jl s)]/\vp s/\k (.str (ku s)) S
noncomputable def wm (n:Nat):fD:=fun ds S k=>∃ c:cO,ds=[.t (lG c)]/\c.dep < n/\v5 c/\c.sz<=9/\k (.str (uC c)) S
noncomputable def IM:fD:=fun ds S k=>∃ (r:Nat) (x:Str) (R:List Str),ds=[.ob r,.str x]/\S[r]?=some (.lst (R.map T.str))/\R.length<=1000/\k (.int R.length) (S.set r (.lst ((R++[x]).map T.str)))
noncomputable def GH (n:Nat):fD:=fun ds S k=>∃ (r:Nat) (s:eG) (R:List Str),ds=[.t (mQ s),.ob r]/\S[r]?=some (.lst (R.map T.str))/\fF s/\s.dp < n/\R.length+(rws s).length<=1000/\k (.t (jZ (lay R.length s))) (S.set r (.lst ((R++rws s).map T.str)))
noncomputable def zJ (n:Nat):fD:=fun ds S k=>∃ (r:Nat) (s:eG) (R:List Str),ds=[.t (mQ s),.ob r]/\7<=kd s/\S[r]?=some (.lst (R.map T.str))/\fF s/\s.dp < n/\R.length+(rws s).length<=1000/\k (.t (jZ (lay R.length s))) (S.set r (.lst ((R++rws s).map T.str)))
noncomputable def IQ:fD:=fun ds S k=>∃ (d:D) (hs:List lI),ds=[d]/\lq S d=some (hs.map mG)/\(∀ h∈hs,FY h/\pG h.steps<=8)/\((hs.map bH).flatten).length<=600/\k (.tup [.str (Bx hs),.tup ((c7 0 hs).map yl)]) S
noncomputable def IK:fD:=fun ds S k=>∃ s:Sm,ds=[.t (jl s)]/\vp s/\k (.t (qH A s)) S
noncomputable def Ah (n:Nat):fD:=fun ds S k=>∃ c:cO,ds=[.t (lG c)]/\c.dep < n/\v5 c/\c.sz<=40/\k (.t (nJ A c)) S
noncomputable def L1:fD:=fun ds S k=>∃ l:List (Int×cO),ds=[.tup (l.map Ln)]/\l.length<=100/\(∀ p∈l,C5 p.2)/\k (.lst (l.map (atT A))) S
noncomputable def L0 (n:Nat):fD:=fun ds S k=>∃ s:eG,ds=[.t (jZ s)]/\fF s/\s.dp < n+1/\k (.t (nO A s)) S
noncomputable def Di (n:Nat):fD:=fun ds S k=>∃ l:List eG,ds=[.tup (zZ l)]/\nM l/\l.length<=100/\pG l < n/\k (.lst (sV A l)) S
noncomputable def L4:fD:=fun ds S k=>∃ h:lI,ds=[.t (yl h)]/\FY h/\pG h.steps<=8/\k (.t (Ll A h)) S
noncomputable def LY:fD:=fun ds S k=>∃ l:List Int,ds=[.t (.Eu (l.map T.int))]/\S=[]/\∀ S',k (.bl true) S'
end
theorem WZ (A:Ad)(S:bQ){n j:Nat}{x y:T}(h:Tx A n x y j):∃ ns l,iq S (.t x)=some (Jt A j,ns,l)/\ns.contains "told"=false/\j < 11:=by
 cases h with
 | s s h =>
  obtain⟨ns,l,i1,i2,_⟩:=QV A S s
  have hk:=Jd s
  refine⟨ns,l,?_,i2,by omega⟩
  rw[i1]
  have:Jt A (kd s)=Ju A (kd s):=by cases s <;> rfl
  rw[this]
 | h x hx hq=>exact⟨_,_,rfl,by decide +kernel,by decide⟩
 | m s=>exact⟨_,_,rfl,by decide +kernel,by decide⟩
noncomputable def jq (A:Ad):Nat->fD
 | 0=>Oq
 | n+1=>L0 A n
theorem fB (a b:Str):cp (a++b)=cp a++cp b:=sR a b
theorem oi (x:Str):Str.empty++x=x:=ql (by rw[fB];rfl)
theorem Q9 (sep:Str):∀ (l:List Str) (x:Str),cp (Str.join sep (x::l))=cp x++(l.map fun y=>cp sep++cp y).flatten
 | [],x=>by simp[Str.join]
 | y::r,x=>by
  show cp (x++sep++Str.join sep (y::r))=_
  rw[fB,fB,Q9 sep r y]
  simp
theorem CW (sep:Str)(l:List Str)(x:Str):cp (Txt.join sep (x::l))=cp x++(l.map fun y=>cp sep++cp y).flatten:=by
 show cp (Builtin.Str.glued sep (x::l))=_
 rw[StrLaws.glued_eq_join]
 exact Q9 sep l x
noncomputable def qT (q:Int×Str):T:=.tup [.int q.1,.str q.2]
theorem EH {s:Sm}{q:Int×Str}{r:Qs}(e:eZ s.1 s.2=q::r):Txt.join "" ((xH q.1++q.2)::r.map fun p=>k6 p.1++p.2)=ku s:=by
 apply GJ
 have e1:=A9 ((xH q.1++q.2)::r.map fun p=>k6 p.1++p.2)
 rw[e1,e]
 unfold G0 iQ
 have h:cp (xH q.1)=(if q.1 < 0 then [45] else []):=by unfold xH;split <;> decide +kernel
 rw[List.map_cons,List.flatten_cons,fB,h,List.map_map]
 congr 3
 funext p
 exact fB _ _
theorem AF (l:List (Str×Int))(n:Int):eZ l n=(l.map fun p=>(p.2,iw p.1 p.2))++(if (!decide (n=0) || decide (l.length=0))=true then [(n,qc n)] else []):=by
 unfold eZ
 congr 1
 by_cases h:n=0
 ·by_cases h2:l=[]
  ·rw[if_pos (.inr h2),if_pos (by simp[h2])]
  ·rw[if_neg (by rintro(z | z) <;> contradiction),if_neg (by simp[h,h2])]
 ·rw[if_pos (.inl h),if_pos (by simp[h])]
theorem G1 {t u:rQ}{δ:Sl}{S:bQ}{k:Bool->bQ->Prop}(b1 b2:Bool)(h1:∀ k',k' b1 S->t δ S k')(h2:∀ k',k' b2 S->u δ S k')(hk:k (b1 || b2) S):JG t u δ S k:=by
 refine h1 _ ?_
 cases b1 with
 | true=>exact hk
 | false=>exact h2 _ hk
theorem yU {t u:rQ}{δ:Sl}{S:bQ}{k:Bool->bQ->Prop}(b1 b2:Bool)(h1:∀ k',k' b1 S->t δ S k')(h2:∀ k',k' b2 S->u δ S k')(hk:k (b1 && b2) S):LN t u δ S k:=by
 refine h1 _ ?_
 cases b1 with
 | false=>exact hk
 | true=>exact h2 _ hk
theorem yS:cp (" ":Str)=[32]:=by decide +kernel
theorem Bb:cp ("=":Str)=[61]:=by decide +kernel
theorem Ra:cp ("at":Str)=[97,116]:=by decide +kernel
theorem HH:cp ("let":Str)=[108,101,116]:=by decide +kernel
theorem D6:cp ("let ":Str)=[108,101,116,32]:=by decide +kernel
theorem Ba:cp (" = ":Str)=[32,61,32]:=by decide +kernel
theorem NN:cp (" at ":Str)=[32,97,116,32]:=by decide +kernel
theorem Up:cp ("put":Str)=[112,117,116]:=by decide +kernel
theorem PK:cp ("put ":Str)=[112,117,116,32]:=by decide +kernel
theorem Uo:cp ("row":Str)=[114,111,119]:=by decide +kernel
theorem PF:cp ("row ":Str)=[114,111,119,32]:=by decide +kernel
theorem PL:cp ("call":Str)=[99,97,108,108]:=by decide +kernel
theorem NL:cp ("call ":Str)=[99,97,108,108,32]:=by decide +kernel
theorem Uq:cp ("= ":Str)=[61,32]:=by decide +kernel
theorem Ur:cp ("":Str)=[]:=by decide +kernel
theorem j_lt (x t:Str):Txt.join " " [("let":Str),x,"=",t]=((("let ":Str)++x)++(" = ":Str))++t:=ql (by
 rw[CW];simp only[fB,yS,Bb,HH,D6,Ba,List.map_cons,List.map_nil,List.flatten_cons,List.flatten_nil];simp)
theorem ZA (x t:Str):Txt.join " " [("row":Str),x,"=",t]=((("row ":Str)++x)++(" = ":Str))++t:=ql (by
 rw[CW];simp only[fB,yS,Bb,Uo,PF,Ba,List.map_cons,List.map_nil,List.flatten_cons,List.flatten_nil];simp)
theorem ZD (x s wd b:Str):Txt.join " " [("let":Str),x,"=",s,wd,b]=(((((("let ":Str)++x)++(" = ":Str))++s)++(" ":Str))++wd)++(" ":Str)++b:=ql (by
 rw[CW];simp only[fB,yS,Bb,HH,D6,Ba,List.map_cons,List.map_nil,List.flatten_cons,List.flatten_nil];simp)
theorem ZC (x r p:Str):Txt.join " " [("let":Str),x,"=",r,"at",p]=((((("let ":Str)++x)++(" = ":Str))++r)++(" at ":Str))++p:=ql (by
 rw[CW];simp only[fB,yS,Bb,HH,D6,Ba,Ra,NN,List.map_cons,List.map_nil,List.flatten_cons,List.flatten_nil];simp)
theorem Zz (r p s:Str):Txt.join " " [("put":Str),r,"at",p,"=",s]=((((("put ":Str)++r)++(" at ":Str))++p)++(" = ":Str))++s:=ql (by
 rw[CW];simp only[fB,yS,Bb,Up,PK,Ba,Ra,NN,List.map_cons,List.map_nil,List.flatten_cons,List.flatten_nil];simp)
theorem EB:∀ ns:List Str,[32]++(ns.map fun x=>cp x++[32]).flatten=(ns.map fun x=>[32]++cp x).flatten++[32]
 | []=>rfl
 | x::r=>by
  have ih:=EB r
  rw[List.map_cons,List.flatten_cons,List.map_cons,List.flatten_cons]
  simp only[List.append_assoc] at ih ⊢
  rw[ih]
noncomputable def iz (ns:List Str)(hp:Str)(g:List Sm):List Str:=((if 0 < ns.length then ([("call":Str)]++ns)++[("=":Str)] else [("call":Str)])++[hp])++(if 0 < g.length then [Txt.join ", " (g.map ku)] else [])
theorem Tr (ns:List Str)(hp:Str)(g:List Sm):Txt.join " " (iz ns hp g)=C0 ns hp g:=ql (by
 have hB:cp (uD ns hp)=(ns.map fun x=>cp x++[32]).flatten++((if ns=[] then [] else [61,32])++cp hp):=by
  unfold uD
  rw[fB,fB,A9,List.map_map]
  have:(cp ∘ fun x:Str=>x++(" ":Str))=fun x=>cp x++[32]:=by funext x;show cp (x++(" ":Str))=_;rw[fB,yS]
  rw[this,List.append_assoc]
  congr 2
  split
  ·exact Ur
  ·exact Uq
 have hX:cp (C0 ns hp g)=[99,97,108,108]++(([32]++cp (uD ns hp))++(if g=[] then [] else [32]++cp (Txt.join ", " (g.map ku)))):=by
  unfold C0
  rw[fB,NL]
  split
  ·simp
  ·rw[fB,fB,yS];simp
 rw[hX,hB]
 unfold iz
 have e0:∀ (l:List Str),cp (Txt.join " " (("call":Str)::l))=[99,97,108,108]++(l.map fun y=>[32]++cp y).flatten:=fun l=>by rw[CW,PL,yS]
 have hs:=EB ns
 have key:(([32]++(ns.map fun x=>cp x++[32]).flatten++((if ns=[] then [] else [61,32])++cp hp)):List Nat)=((if 0 < ns.length then (ns.map fun y=>[32]++cp y).flatten++[32,61] else [])++([32]++cp hp)):=by
  rw[hs]
  by_cases h:ns=[]
  ·subst h;simp
  ·rw[if_neg h,if_pos (List.length_pos_iff.mpr h)];simp
 rw[<- List.append_assoc [32],key]
 by_cases h:0 < ns.length
 ·rw[if_pos h,if_pos h]
  by_cases h2:0 < g.length
  ·rw[if_pos h2,if_neg (by rintro rfl;simp at h2)]
   have:=e0 (((ns++[("=":Str)])++[hp])++[Txt.join ", " (g.map ku)])
   simp only[List.map_append,List.flatten_append,List.map_cons,List.map_nil,List.flatten_cons,List.flatten_nil,Bb] at this
   simpa using this
  ·rw[if_neg h2,if_pos (List.length_eq_zero_iff.mp (by omega))]
   have:=e0 ((ns++[("=":Str)])++[hp])
   simp only[List.map_append,List.flatten_append,List.map_cons,List.map_nil,List.flatten_cons,List.flatten_nil,Bb] at this
   simpa using this
 ·rw[if_neg h,if_neg h]
  by_cases h2:0 < g.length
  ·rw[if_pos h2,if_neg (by rintro rfl;simp at h2)]
   have:=e0 ([hp]++[Txt.join ", " (g.map ku)])
   simpa using this
  ·rw[if_neg h2,if_pos (List.length_eq_zero_iff.mp (by omega))]
   have:=e0 [hp]
   simpa using this)
theorem Oc:Str.ofString "holds"++Str.ofString " "=Str.ofString "holds ":=by decide +kernel
theorem Ip:Str.ofString "needs"++Str.ofString " "=Str.ofString "needs ":=by decide +kernel
theorem Iq:Str.ofString "gives"++Str.ofString " "=Str.ofString "gives ":=by decide +kernel
theorem w_and:(Str.ofString " "++Str.ofString "and")++Str.ofString " "=Str.ofString " and ":=by decide +kernel
theorem w_or:(Str.ofString " "++Str.ofString "or")++Str.ofString " "=Str.ofString " or ":=by decide +kernel
theorem dc {n:Nat}(h:n<=1000000):n<=sizeLine:=Nat.le_trans h (by rw[sizeLine_eq];decide)
theorem sU {n:Nat}(h:n<=1000000):n<=sizeLine:=dc h
theorem rJ {α:Type}{G:bQ->Prop}{g:zy}{tt:rQ}{te:gX}{δ0:Sl}{k:List T->bQ->Prop}{S:bQ}{l:List α}(c:α->T)(I:List α->List T->bQ->Prop)(h0:I [] [] S)(hl:∀ pre ys S',I pre ys S'->ys.length < sizeLine)
  (hs:∀ pre x post ys S' (k':Option T->bQ->Prop),l=pre++x::post->I pre ys S'->(∀ y NX,I (pre++[x]) (ys++[y]) NX->k' (some y) NX)->G S'/\elem g tt te δ0 (.t (c x)) S' k')
  (hd:∀ ys S',I l ys S'->G S'/\k ys S'):iR G g tt te δ0 ((l.map c).map .t) S [] k:=by
 have go:∀ (r pre:List α) (ys:List T) (S':bQ),l=pre++r->I pre ys S'->iR G g tt te δ0 ((r.map c).map .t) S' ys k:=by
  intro r
  induction r with
  | nil=>intro pre ys S' e h;rw[List.append_nil] at e;subst e;exact hd ys S' h
  | cons a r ih =>
   intro pre ys S' e h
   obtain⟨h1,h2⟩:=hs pre a r ys S' (fun o NX=>match o with | some y=>ys.length < sizeLine/\iR G g tt te δ0 ((r.map c).map .t) NX (ys++[y]) k | none=>iR G g tt te δ0 ((r.map c).map .t) NX ys k) e h
    fun y NX h'=>⟨hl pre ys S' h,ih (pre++[a]) (ys++[y]) NX (by rw[e];simp) h'⟩
   exact⟨h1,h2⟩
 exact go l [] [] S rfl h0
theorem Mg (w:Int):qp [T.str (Str.ofString " + "),T.str (Str.ofString " - ")] (if decide (w < 0)=true then 1 else 0)=some (T.str (k6 w)):=by
 unfold k6
 by_cases h:w < 0
 ·rw[if_pos h,decide_eq_true h];rfl
 ·rw[if_neg h,decide_eq_false h];rfl
theorem HC {x:Str}{pre:List (Str×Int)}{t:Str}{w:Int}(h:cp x=iQ (pre.map fun p=>(p.2,iw p.1 p.2))):cp ((x++k6 w)++iw t w)=iQ ((pre++[(t,w)]).map fun p=>(p.2,iw p.1 p.2)):=by
 rw[fB,fB,h,List.map_append,List.map_cons,List.map_nil,A6,List.append_assoc]
theorem Jk {x:Str}{l:Qs}(h:cp x=iQ l)(hs:∀ q∈l,q.2.length<=166):x.length<=169*l.length:=by
 rw[rH,h]
 exact ym hs
theorem Ez {s:Sm}{x:Str}(h:cp x=iQ (eZ s.1 s.2)):3<=x.length/\∃ w:Int,Txt.slice x none (some 3)=k6 w/\(w < 0->Str.ofString "-"++Txt.slice x (some 3) none=ku s)/\(¬ w < 0->Txt.slice x (some 3) none=ku s):=by
 obtain⟨q,r,e⟩:=n9 s.1 s.2
 rw[e] at h
 obtain⟨h1,h2⟩:=Nv q r
 have h3:3<=x.length:=by
  rw[rH,h]
  have:=Dl q.1
  rw[<- h1,List.length_take] at this
  omega
 refine⟨h3,q.1,?_,fun hw=>?_,fun hw=>?_⟩
 ·exact ql (by rw[Me h3,h,h1])
 ·refine GJ ?_
  rw[fB,Aj h3,h,e,h2,if_pos hw]
  rfl
 ·refine GJ ?_
  rw[Aj h3,h,e,h2,if_neg hw]
  rfl
theorem hk0:decide (Str.ofString "compare"∈[Str.ofString "and",Str.ofString "or"])=decide (2<=0):=by decide +kernel
theorem hk1:decide (Str.ofString "not"∈[Str.ofString "and",Str.ofString "or"])=decide (2<=1):=by decide +kernel
theorem hk2:decide (Str.ofString "and"∈[Str.ofString "and",Str.ofString "or"])=decide (2<=2):=by decide +kernel
theorem hk3:decide (Str.ofString "or"∈[Str.ofString "and",Str.ofString "or"])=decide (2<=3):=by decide +kernel
theorem TY (c:cO):∃ (w:Str) (l:List T),lG c=.tup (.str w::l)/\decide (w∈[Str.ofString "and",Str.ofString "or"])=decide (2<=xV c):=by
 cases c with
 | cmp a s b=>exact⟨_,_,xA a b s,hk0⟩
 | neg c=>exact⟨_,_,xx c,hk1⟩
 | con q cs =>
  cases q with
  | true=>exact⟨_,_,xy true cs,hk2⟩
  | false=>exact⟨_,_,xy false cs,hk3⟩
theorem QY {c:rQ}{a b:vY}{E:uG}{δ:Sl}{S:bQ}(v:Bool)(hc:∀ k',k' v S->c δ S k')(P:Prop)(h1:v=true->P->a E δ S)(h2:v=false->P->b E δ S)(hP:P):yH c a b E δ S:=by
 refine hc _ ?_
 cases v with
 | true=>exact h1 rfl hP
 | false=>exact h2 rfl hP
noncomputable def Eg (h:lI):List Str:=if h.answers=[] then [] else [Txt.join " " ([("answers":Str)]++h.answers)]
theorem mL (h:lI):(Eg h).length=K5 h:=by unfold Eg K5;split <;> rfl
theorem sP (h:lI):bH h=([Txt.join " " ([("helper":Str),h.name]++h.params)]++Eg h)++h.needs.map (fun p=>pre "needs " p.2)++h.gives.map (fun p=>pre "gives " p.2)++aX h.steps++[("end":Str)]:=by unfold bH Eg;rfl
theorem Tw {S:bQ}{n:Nat}{l:List T}{k:List D->(bQ->Prop)->bQ->Prop}(h:S[n]?=some (.lst l))(hk:k (l.map .t) (fun S=>S[n]?=some (.lst l)) S):Ks (.ob n) S k:=.inr ⟨n,l,rfl,h,hk⟩
theorem Xv {L j:Nat}{S0 S1:bQ}{l:List T}{k:KD}(c:∀ o∈S0,FH L o)(hS:S0.length=L)(e:S1[j]?=some (.lst l))(h:k (.lst l) S0):closes L (.ob (L+j)) (S0++S1) k :=
 .inr (.inr (.inl ⟨_,l,S0,S1,rfl,by omega,rfl,hS,c,by rw[kW hS];exact e,h⟩))
theorem Kp:∀ x∈uz,x.cps.toList.head?≠some 122:=by decide +kernel
theorem zT (k:Int)(t:Nat):zt k t ∉ uz:=fun h=>Kp _ h (by unfold zt;rw[C6];rfl)
theorem Qh (k:Int)(t:Nat):Bo (zt k t):=⟨by unfold zt;rw[Rj];decide,by unfold zt;rw[C6];simp⟩
theorem Ph (i:Int):∃ x,Bo x/\qp (uA.map T.str) (i % 12)=some (T.str x):=by
 have h0:=Int.emod_nonneg i (show(12:Int)≠0 by decide)
 have h1:=Int.emod_lt_of_pos i (show(0:Int) < 12 by decide)
 have e:i % 12=((i % 12).toNat:Int):=(Int.toNat_of_nonneg h0).symm
 have hl:(i % 12).toNat < uA.length:=by rw[Kq];omega
 have hk:∀ x∈uA,x.length<=20/\x.cps.toList≠[]:=by decide +kernel
 refine⟨uA[(i % 12).toNat],hk _ (List.getElem_mem hl),?_⟩
 have:=xE (xs:=uA.map T.str) (j:=(i % 12).toNat) (v:=T.str uA[(i % 12).toNat]) (by rw[List.getElem?_map,List.getElem?_eq_getElem hl];rfl)
 rw[<- e] at this
 exact this
theorem Pn {ss:List Str}(h:∀ x∈ss,x.length=1)(h0:0 < ss.length)(h1:ss.length<=8):Bo (Txt.join "" ss):=by
 have:=Ng ss h
 refine⟨by show(Txt.join (Str.ofString "") ss).length<=20;omega,fun e=>?_⟩
 have e2:(Txt.join (Str.ofString "") ss).length=0:=by
  rw[rH]
  show(Txt.join (Str.ofString "") ss).cps.toList.length=0
  rw[show(Txt.join (Str.ofString "") ss).cps.toList=[] from e]
  rfl
 omega
theorem Fb {ss:List Str}{w:Str->Int}(h:∀ x∈ss,w x≠0):norm ((xT ss).map fun x=>(x,w x))=(xT ss).map fun x=>(x,w x):=by
 have e1:((xT ss).map fun x=>(x,w x)).map (·.1)=xT ss:=by rw[List.map_map];exact List.map_id' _
 have e2:xT (xT ss)=xT ss:=LV fun x=>lS
 have hn:(xT ss).Nodup:=(Ab ss).imp fun {a b} hab=>Wf hab
 have e3:∀ (l:List Str),l.Nodup->∀ x∈l,wt (l.map fun x=>(x,w x)) x=w x:=by
  intro l
  induction l with
  | nil=>intro _ x hx;cases hx
  | cons a r ih =>
   intro hn x hx
   obtain⟨n1,n2⟩:=List.nodup_cons.mp hn
   rw[List.map_cons,v9]
   rcases List.mem_cons.mp hx with rfl | hx
   ·have:wt (r.map fun x=>(x,w x)) x=0:=LC (by rw[List.map_map];simpa using n1)
    rw[if_pos rfl,this];simp
   ·have:¬ a=x:=fun e=>n1 (e ▸ hx)
    rw[if_neg this,ih n2 x hx];simp
 unfold norm
 rw[e1,e2]
 have e4:(xT ss).map (fun x=>(x,wt ((xT ss).map fun x=>(x,w x)) x))=(xT ss).map fun x=>(x,w x):=List.map_congr_left fun x hx=>by rw[e3 _ hn x hx]
 rw[e4,List.filter_eq_self]
 intro p hp
 obtain⟨x,hx,rfl⟩:=List.mem_map.mp hp
 exact decide_eq_true (h x (lS.mp hx))
structure FU (N:List Str)(d:List (Key×T))(ss:List Str)(w:Str->Int):Prop where
 keys:d.map (·.1)=ss.map Sum.inr
 nd:ss.Nodup
 mem:∀ x∈ss,x∈N
 val:∀ x∈ss,qh d (Sum.inr x)=some (.int (w x))/\w x≠0/\Small (w x)
theorem FU.nil {N:List Str}:FU N [] [] fun _=>0:=⟨rfl,.nil,fun _ h=>absurd h List.not_mem_nil,fun _ h=>absurd h List.not_mem_nil⟩
theorem FU.put {N:List Str}{d:List (Key×T)}{ss:List Str}{w:Str->Int}(h:FU N d ss w){x:Str}{v:Int}(hx:x∈N)(hv:v≠0)(hs:Small v):∃ ss',FU N (dput d (Sum.inr x) (.int v)) ss' (fun y=>if y=x then v else w y)/\(dput d (Sum.inr x) (.int v)).length<=d.length+1:=by
 obtain⟨k1,k2⟩:=CU d (Sum.inr x) (.int v)
 rw[h.keys] at k1 k2
 have hl:(dput d (Sum.inr x) (T.int v)).length<=d.length+1:=by unfold dput;split <;> simp
 have hval:∀ y,(y=x∨y∈ss)->qh (dput d (Sum.inr x) (.int v)) (Sum.inr y)=some (.int (if y=x then v else w y))/\(if y=x then v else w y)≠0/\Small (if y=x then v else w y):=fun y hy=>by
  rw[Fz]
  by_cases e:y=x
  ·subst e
   rw[if_pos rfl,if_pos rfl];exact⟨rfl,hv,hs⟩
  ·rw[if_neg e,if_neg (fun z=>e (Sum.inr.inj z).symm)]
   exact h.val y (hy.resolve_left e)
 by_cases m:x∈ss
 ·refine⟨ss,⟨k1 (List.mem_map.mpr ⟨x,m,rfl⟩),h.nd,h.mem,fun y hy=>hval y (.inr hy)⟩,hl⟩
 ·have mx:(Sum.inr x:Key) ∉ ss.map Sum.inr:=fun z=>by
   obtain⟨y,hy,e⟩:=List.mem_map.mp z
   exact m (Sum.inr.inj e ▸ hy)
  refine⟨ss++[x],⟨by rw[k2 mx];simp,?_,fun y hy=>?_,fun y hy=>?_⟩,hl⟩
  ·rw[List.nodup_append]
   exact⟨h.nd,by simp,fun a ha b hb=>by rw[List.mem_singleton.mp hb];exact fun z=>m (z ▸ ha)⟩
  ·rcases List.mem_append.mp hy with hy | hy
   ·exact h.mem y hy
   ·rw[List.mem_singleton.mp hy];exact hx
  ·rcases List.mem_append.mp hy with hy | hy
   ·exact hval y (.inr hy)
   ·exact hval y (.inl (List.mem_singleton.mp hy))
theorem FU.sm {N:List Str}{d:List (Key×T)}{ss:List Str}{w:Str->Int}(h:FU N d ss w)(hl:d.length<=3)(hN:∀ x∈N,x.length<=100){n:Int}(hn:Small n):vp ((xT ss).map (fun x=>(x,w x)),n):=by
 have hs:ss.length<=3:=by have:=congrArg List.length h.keys;rw[List.length_map,List.length_map] at this;omega
 refine⟨Fb fun x hx=>(h.val x hx).2.1,?_,fun p hp=>?_,hn⟩
 ·have:=wk ss
  show((xT ss).map _).length<=3
  rw[List.length_map];omega
 ·obtain⟨x,hx,rfl⟩:=List.mem_map.mp hp
  have hx:=lS.mp hx
  exact⟨(h.val x hx).2.2,hN x (h.mem x hx)⟩
theorem RU {r:Nat}(h:(r:Int) < 7):∃ v:Nat,qp [T.int 0,.int 1,.int 1,.int 1,.int 2,.int 2,.int 3] (r:Int)=some (T.int (v:Int))/\v<=3:=by
 match r,h with
 | 0,_=>exact⟨0,rfl,by decide⟩
 | 1,_=>exact⟨1,rfl,by decide⟩
 | 2,_=>exact⟨1,rfl,by decide⟩
 | 3,_=>exact⟨1,rfl,by decide⟩
 | 4,_=>exact⟨2,rfl,by decide⟩
 | 5,_=>exact⟨2,rfl,by decide⟩
 | 6,_=>exact⟨3,rfl,by decide⟩
 | n+7,h=>omega
theorem Ud {r:Nat}(h:(r:Int) < 8):∃ v:Int,qp [T.int 1,.int 1,.int 1,.int (-1),.int (-1),.int 2,.int (-3),.int 17] (r:Int)=some (T.int v)/\v≠0/\Small v:=by
 match r,h with
 | 0,_=>exact⟨_,rfl,by decide,by decide,by decide⟩
 | 1,_=>exact⟨_,rfl,by decide,by decide,by decide⟩
 | 2,_=>exact⟨_,rfl,by decide,by decide,by decide⟩
 | 3,_=>exact⟨_,rfl,by decide,by decide,by decide⟩
 | 4,_=>exact⟨_,rfl,by decide,by decide,by decide⟩
 | 5,_=>exact⟨_,rfl,by decide,by decide,by decide⟩
 | 6,_=>exact⟨_,rfl,by decide,by decide,by decide⟩
 | 7,_=>exact⟨_,rfl,by decide,by decide,by decide⟩
 | n+8,h=>omega
theorem YX {a b:Int}(ha:Small a)(hb:Small b)(i:Int):∃ v:Int,qp [T.int 0,.int 0,.int 1,.int (-1),.int a,.int b] (i % 6)=some (T.int v)/\Small v:=by
 have h0:=Int.emod_nonneg i (show(6:Int)≠0 by decide)
 have h1:=Int.emod_lt_of_pos i (show(0:Int) < 6 by decide)
 have e:i % 6=((i % 6).toNat:Int):=(Int.toNat_of_nonneg h0).symm
 rw[e]
 have h2:(i % 6).toNat < 6:=by omega
 generalize (i % 6).toNat=r at h2
 match r,h2 with
 | 0,_=>exact⟨_,rfl,by decide,by decide⟩
 | 1,_=>exact⟨_,rfl,by decide,by decide⟩
 | 2,_=>exact⟨_,rfl,by decide,by decide⟩
 | 3,_=>exact⟨_,rfl,by decide,by decide⟩
 | 4,_=>exact⟨_,rfl,ha⟩
 | 5,_=>exact⟨_,rfl,hb⟩
theorem Nn {p:Str}(h:p.cps.toList≠[]):∃ c,qp p.cps.toList 0=some c/\xor false (decide (V.str ⟨#[c]⟩=V.str (Str.ofString "#")))=decide (p.cps.toList.head?=some 35):=by
 cases e:p.cps.toList with
 | nil=>exact absurd e h
 | cons c r =>
  refine⟨c,by simp[qp,Kr],?_⟩
  rw[Bool.false_xor,List.head?_cons]
  refine decide_eq_decide.mpr ⟨fun q=>?_,fun q=>?_⟩
  ·have q2:(⟨#[c]⟩:Str)=Str.ofString "#":=by injection q
   have q3:(Str.ofString "#").cps.toList=[35]:=by decide +kernel
   have q4:[c]=[35]:=by rw[<- q3,<- q2]
   rw[List.cons.inj q4 |>.1]
  ·have:c=35:=Option.some.inj q
   subst this
   exact congrArg V.str (by decide +kernel)
theorem T7 {α β:Type}(f:α->β)(P:α->Prop) [DecidablePred P] (l:List α):∃ l':List α,l.filterMap (fun x=>if P x then some (f x) else none)=l'.map f/\(∀ x∈l',x∈l)/\l'.length<=l.length:=by
 induction l with
 | nil=>exact⟨[],rfl,fun _ h=>h,Nat.le_refl _⟩
 | cons a r ih =>
  obtain⟨l',e,h,hl⟩:=ih
  by_cases q:P a
  ·exact⟨a::l',by simp only[List.filterMap_cons,if_pos q,e,List.map_cons],fun x hx=>by rcases List.mem_cons.mp hx with rfl | hx;exact List.mem_cons_self;exact List.mem_cons_of_mem _ (h x hx),by simp;omega⟩
  ·exact⟨l',by simp only[List.filterMap_cons,if_neg q,e],fun x hx=>List.mem_cons_of_mem _ (h x hx),by simp;omega⟩
theorem PD (ws:List Str)(n:Nat):∃ ns:List Str,xr (ws.map T.str) none (some (n:Int))=ns.map T.str/\ns.length<=n/\∀ x∈ns,x∈ws:=by
 refine⟨(ws.drop (HT.fH ws.length 0 none)).take (HT.fH ws.length ws.length (some (n:Int)) - HT.fH ws.length 0 none),?_,?_,fun x hx=>List.mem_of_mem_drop (List.mem_of_mem_take hx)⟩
 ·unfold xr;rw[List.length_map,List.map_take,List.map_drop]
 ·rw[List.length_take]
  have:HT.fH ws.length ws.length (some (n:Int))<=n:=by rw[HT.IT];omega
  omega
theorem MR (x:Str){v:Int}(h:v≠0):norm [(x,v)]=[(x,v)]:=by
 have:=Fb (ss:=[x]) (w:=fun _=>v) fun _ _=>h
 exact this
theorem Mc {x:Str}(h:x.length<=100):vp ([(x,1)],0):=⟨MR x (by decide),by show 1<=3;decide,fun p hp=>by rw[List.mem_singleton.mp hp];exact⟨show Small 1 from⟨by decide,by decide⟩,h⟩,show Small 0 from⟨by decide,by decide⟩⟩
theorem GI {v:Int}(h:Small v):vp ([],v):=⟨by rfl,by show 0<=3;decide,fun p hp=>absurd hp List.not_mem_nil,h⟩
theorem LQ (a:Int)(x:Str)(s:Sm):mQ (.lt a x s)=.tup [.str "let",.str x,jl s]:=by rw[mQ]
theorem RM (a:Int)(x wd:Str)(s b:Sm):mQ (.dv a x wd s b)=.tup [.str "divide",.str x,.str wd,jl s,jl b]:=by rw[mQ]
theorem RL (a:Int)(x r:Str)(p:Sm):mQ (.ft a x r p)=.tup [.str "fetch",.str x,.str r,jl p]:=by rw[mQ]
theorem RJ (a:Int)(r:Str)(p s:Sm):mQ (.pt a r p s)=.tup [.str "put",.str r,jl p,jl s]:=by rw[mQ]
theorem RK (a:Int)(r:Str)(z:Sm):mQ (.mq a r z)=.tup [.str "make",.str r,jl z]:=by rw[mQ]
theorem LR (a:Int)(c:cO):mQ (.cm a c)=.tup [.str "claim",lG c]:=by rw[mQ]
theorem RN (a:Int)(ns:List Str)(hp:Str)(g:List Sm):mQ (.cl a ns hp g)=.tup [.str "call",uM ns,.str hp,.tup (g.map jl)]:=by rw[mQ]
theorem LS (a:Int)(c:cO)(t e:List eG):mQ (.ch a c t e)=.tup [.str "choose",lG c,.tup (Aa t),.tup (Aa e)]:=by rw[mQ]
theorem LP (a:Int)(c:cO)(hs:List (Int×cO))(f:Option (Int×Sm))(b:List eG):mQ (.rp a c hs f b)=.tup [.str "repeat",lG c,.tup (hs.map fun p=>lG p.2),faD f,.tup (Aa b)]:=by rw[mQ]
theorem W2 {c:rQ}{a b:vY}{E:uG}{δ:Sl}{S:bQ}(v:Bool)(hc:∀ k',k' v S->c δ S k')(h1:v=true->a E δ S)(h2:v=false->b E δ S):yH c a b E δ S:=by
 refine QY v hc True (fun h _=>h1 h) (fun h _=>h2 h) trivial
theorem NH {n:Nat}:∀ {l:List eG},(∀ s∈l,s.dp<=n)->pG l<=n
 | [],_=>Nat.zero_le _
 | a::r,h=>by unfold pG;exact Nat.max_le.mpr ⟨h a List.mem_cons_self,NH fun x hx=>h x (List.mem_cons_of_mem _ hx)⟩
theorem IV {n:Nat}:∀ {l:List eG},(∀ s∈l,(rws s).length<=n)->(aX l).length<=l.length*n
 | [],_=>Nat.zero_le _
 | a::r,h=>by
  have h1:=h a List.mem_cons_self
  have h2:=IV fun x hx=>h x (List.mem_cons_of_mem _ hx)
  unfold aX
  rw[List.length_append,List.length_cons,Nat.succ_mul]
  omega
theorem Fj {c:rQ}{a r:vY}{E:uG}{δ:Sl}{S:bQ}(v:Bool)(hc:∀ k',k' v S->c δ S k')(h1:v=true->a { E with nx:=fun δ1 S1=>r E δ1 S1 } δ S)(h2:v=false->r E δ S):yG (yH c a GB) r E δ S:=W2 v hc h1 h2
theorem Nk {a b c:Int}:xor false (Pq (V.int a) [V.int b,V.int c])=(decide (a=b) || decide (a=c)):=by
 have e:∀ b:Int,Gv (V.int b) (V.int a)=decide (a=b):=fun b=>by
  unfold Gv
  by_cases h:a=b
  ·subst h;simp
  ·rw[decide_eq_false h]
   simp
   omega
 rw[Bool.false_xor]
 unfold Pq
 rw[List.any_cons,List.any_cons,List.any_nil,e,e,Bool.or_false]
theorem nn_b (ms:List Str):xor true (decide (ms.map T.str=[]))=decide (ms≠[]):=by
 cases ms with
 | nil=>rfl
 | cons a r=>rfl
theorem Zg (hs:List lI):xor true (decide (hs.map mG=[]))=decide (hs≠[]):=by
 cases hs with
 | nil=>rfl
 | cons a r=>rfl
theorem YW {r:Nat}(h:(r:Int) < 6):∃ v:Int,qp [T.int 2,.int 3,.int (-2),.int 1,.int 7,.int 0] (r:Int)=some (T.int v)/\Small v:=by
 match r,h with
 | 0,_=>exact⟨_,rfl,by decide,by decide⟩
 | 1,_=>exact⟨_,rfl,by decide,by decide⟩
 | 2,_=>exact⟨_,rfl,by decide,by decide⟩
 | 3,_=>exact⟨_,rfl,by decide,by decide⟩
 | 4,_=>exact⟨_,rfl,by decide,by decide⟩
 | 5,_=>exact⟨_,rfl,by decide,by decide⟩
 | n+6,h=>omega
theorem Ux {a b:Sm}{i:Int}(h:i=0∨i=1)(ha:vp a)(hb:vp b):∃ s:Sm,qp [jl a,jl b] i=some (jl s)/\vp s:=by
 rcases h with rfl | rfl
 ·exact⟨a,rfl,ha⟩
 ·exact⟨b,rfl,hb⟩
theorem Uw {a b c:Sm}{i:Int}(h:i=0∨i=1∨i=2)(ha:vp a)(hb:vp b)(hc:vp c):∃ s:Sm,qp [jl a,jl b,jl c] i=some (jl s)/\vp s:=by
 rcases h with rfl | rfl | rfl
 ·exact⟨a,rfl,ha⟩
 ·exact⟨b,rfl,hb⟩
 ·exact⟨c,rfl,hc⟩
theorem Uy {s:Sm}{i:Int}(h:i=0∨i=1)(hs:vp s):∃ f:Option (Int×Sm),qp [T.fE,jl s] i=some (faD f)/\∀ p,f=some p->vp p.2:=by
 rcases h with rfl | rfl
 ·exact⟨none,rfl,fun p h=>by cases h⟩
 ·exact⟨some (0,s),rfl,fun p h=>by cases h;exact hs⟩
theorem Ow (n:Nat):1<=CM n:=by
 match n with
 | 0=>decide
 | 1=>decide
 | n+2=>exact(by decide:1<=31)
theorem KY {e:cO}(h:v5 e)(d:e.dep<=1)(z:e.sz<=Gw 1):C5 e:=⟨h,by omega,by have:Gw 1=4:=rfl;omega⟩
theorem RZ {a:Int}{c:cO}{t e:List eG}{p:Nat}(h:p < 2)(ht:(aX t).length<=2*CM p)(he:(aX e).length<=2*CM p):(rws (.ch a c t e)).length<=CM (p+1):=by
 unfold rws
 have:(if e=[] then [] else ("else":Str)::aX e).length<=(aX e).length+1:=by split <;> simp
 rw[List.length_append,List.length_append,List.length_cons,List.length_singleton]
 match p,h with
 | 0,_=>have h0:CM 0=1:=rfl;have h1:CM (0+1)=7:=rfl;omega
 | 1,_=>have h0:CM 1=7:=rfl;have h1:CM (1+1)=31:=rfl;omega
theorem RY {a:Int}{c:cO}{hs:List (Int×cO)}{f:Option (Int×Sm)}{b:List eG}{p:Nat}(h:p < 2)(hh:hs.length<=2)(hb:(aX b).length<=2*CM p):(rws (.rp a c hs f b)).length<=CM (p+1):=by
 unfold rws
 have:(PC f).length<=1:=by cases f <;> simp[PC]
 rw[List.length_append,List.length_append,List.length_append,List.length_cons,List.length_map,List.length_singleton]
 match p,h with
 | 0,_=>have h0:CM 0=1:=rfl;have h1:CM (0+1)=7:=rfl;omega
 | 1,_=>have h0:CM 1=7:=rfl;have h1:CM (1+1)=31:=rfl;omega
theorem Za {t u:rQ}{δ:Sl}{S:bQ}{k:Bool->bQ->Prop}(h1:∀ k',k' true S->t δ S k')(hk:k true S):JG t u δ S k:=by
 refine h1 _ ?_
 exact hk
theorem a0X {α:Type}(f:α->T){N:List α}{r:Nat}(h:(r:Int) < N.length):∃ y,y∈N/\qp (N.map f) (r:Int)=some (f y):=by
 have h1:r < N.length:=by omega
 refine⟨N[r],List.getElem_mem h1,?_⟩
 unfold qp
 have e:Kr (N.map f).length (r:Int)=some r:=by
  unfold Kr
  rw[List.length_map]
  simp
  omega
 rw[e]
 simp[h1]
theorem V6 {us:List Str}(h:us≠[]):xor false (decide (us.map T.str=[]))=false:=by
 cases us with
 | nil=>exact absurd rfl h
 | cons a r=>rfl
theorem NF {ns:List Str}(h:ns.length=8):∃ a0 a1 a2 a3 a4 a5 a6 a7,ns=[a0,a1,a2,a3,a4,a5,a6,a7]:=by
 match ns,h with
 | [a0,a1,a2,a3,a4,a5,a6,a7],_=>exact⟨_,_,_,_,_,_,_,_,rfl⟩
section
variable {a0 a1 a2 a3 a4 a5 a6 a7:Str}{r:Nat}
theorem Uk (h:(r:Int) < 3):∃ ps:List Str,xr ([a0,a1,a2,a3,a4,a5,a6,a7].map T.str) none (some (r:Int))=ps.map T.str/\ps.length<=2/\∀ x∈ps,x∈[a0,a1]:=by
 match r,h with
 | 0,_=>exact⟨[],rfl,by decide,fun x h=>by cases h⟩
 | 1,_=>exact⟨[a0],rfl,by simp,fun x h=>by simp at h;simp[h]⟩
 | 2,_=>exact⟨[a0,a1],rfl,by simp,fun x h=>h⟩
 | n+3,h=>omega
theorem Uj (h:(r:Int) < 3):∃ ps:List Str,xr ([a0,a1,a2,a3,a4,a5,a6,a7].map T.str) (some 6) (some (6+(r:Int)))=ps.map T.str/\ps.length<=2/\∀ x∈ps,x∈[a6,a7]:=by
 match r,h with
 | 0,_=>exact⟨[],rfl,by decide,fun x h=>by cases h⟩
 | 1,_=>exact⟨[a6],rfl,by simp,fun x h=>by simp at h;simp[h]⟩
 | 2,_=>exact⟨[a6,a7],rfl,by simp,fun x h=>h⟩
 | n+3,h=>omega
theorem Ul (h:(r:Int) < 3):∃ ps:List Str,xr ([a0,a1,a2,a3,a4,a5,a6,a7].map T.str) (some 3) (some (3+(r:Int)))=ps.map T.str/\ps.length<=2/\∀ x∈ps,x∈[a3,a4]:=by
 match r,h with
 | 0,_=>exact⟨[],rfl,by decide,fun x h=>by cases h⟩
 | 1,_=>exact⟨[a3],rfl,by simp,fun x h=>by simp at h;simp[h]⟩
 | 2,_=>exact⟨[a3,a4],rfl,by simp,fun x h=>h⟩
 | n+3,h=>omega
theorem NK:xr ([a0,a1,a2,a3,a4,a5,a6,a7].map T.str) none (some 6)=[a0,a1,a2,a3,a4,a5].map T.str:=rfl
theorem Um:xr ([a0,a1,a2,a3,a4,a5,a6,a7].map T.str) (some 6) (some 8)=[a6,a7].map T.str:=rfl
end
theorem T8 (ps:List Str)(l:List Str):∃ l':List Str,l.filterMap (fun x=>if x∈ps then none else some (T.str x))=l'.map T.str/\(∀ x∈l',x∈l)/\l'.length<=l.length/\∀ x∈l,x ∉ ps->x∈l':=by
 induction l with
 | nil=>exact⟨[],rfl,fun _ h=>h,Nat.le_refl _,fun _ h=>absurd h List.not_mem_nil⟩
 | cons a r ih =>
  obtain⟨l',e,h,hl,hm⟩:=ih
  by_cases q:a∈ps
  ·exact⟨l',by simp only[List.filterMap_cons,if_pos q,e],fun x hx=>List.mem_cons_of_mem _ (h x hx),by simp;omega,fun x hx hn=>by
    rcases List.mem_cons.mp hx with rfl | hx
    ·exact absurd q hn
    ·exact hm x hx hn⟩
  ·exact⟨a::l',by simp only[List.filterMap_cons,if_neg q,e,List.map_cons],fun x hx=>by rcases List.mem_cons.mp hx with rfl | hx;exact List.mem_cons_self;exact List.mem_cons_of_mem _ (h x hx),by simp;omega,fun x hx hn=>by
    rcases List.mem_cons.mp hx with rfl | hx
    ·exact List.mem_cons_self
    ·exact List.mem_cons_of_mem _ (hm x hx hn)⟩
theorem Px (ps:List Str)(l:List Str):∃ l':List Str,l.filterMap (fun x=>if ("#":Str)++x∈ps then none else some (T.str x))=l'.map T.str/\(∀ x∈l',x∈l)/\l'.length<=l.length:=by
 induction l with
 | nil=>exact⟨[],rfl,fun _ h=>h,Nat.le_refl _⟩
 | cons a r ih =>
  obtain⟨l',e,h,hl⟩:=ih
  by_cases q:("#":Str)++a∈ps
  ·exact⟨l',by simp only[List.filterMap_cons,if_pos q,e],fun x hx=>List.mem_cons_of_mem _ (h x hx),by simp;omega⟩
  ·exact⟨a::l',by simp only[List.filterMap_cons,if_neg q,e,List.map_cons],fun x hx=>by rcases List.mem_cons.mp hx with rfl | hx;exact List.mem_cons_self;exact List.mem_cons_of_mem _ (h x hx),by simp;omega⟩
theorem wZ (x:Str):(("#":Str)++x).length=1+x.length:=by rw[aS];rfl
theorem Nm (x:Str):(("#":Str)++x).cps.toList≠[]:=fun h=>by
 have h1:=wZ x
 have h2:(("#":Str)++x).length=(("#":Str)++x).cps.toList.length:=by simp[Str.length]
 rw[h] at h2
 simp at h2
 omega
theorem HD {n:Nat}(s:Sm):Fl (n+3) (jl s):=dP fun x hx=>by
 rcases List.mem_cons.mp hx with rfl | hx
 ·exact dP fun y hy=>by obtain⟨p,_,rfl⟩:=List.mem_map.mp hy;exact Xi p
 ·rw[List.mem_singleton.mp hx];exact gG _
mutual
theorem yo:∀ (c:cO) {n:Nat},c.dep+4<=n->Fl n (lG c)
 | .cmp a s b,n,h=>by
  obtain⟨m,rfl⟩:∃ m,n=m+4:=⟨n - 4,by omega⟩
  rw[xA]
  refine dP fun x hx=>?_
  rcases List.mem_cons.mp hx with rfl | hx
  ·exact cG _
  rcases List.mem_cons.mp hx with rfl | hx
  ·exact HD _
  rcases List.mem_cons.mp hx with rfl | hx
  ·exact cG _
  ·rw[List.mem_singleton.mp hx];exact HD _
 | .neg c,n,h=>by
  unfold cO.dep at h
  obtain⟨m,rfl⟩:∃ m,n=m+1:=⟨n - 1,by omega⟩
  rw[xx]
  refine dP fun x hx=>?_
  rcases List.mem_cons.mp hx with rfl | hx
  ·exact cG _
  ·rw[List.mem_singleton.mp hx];exact yo c (by omega)
 | .con q cs,n,h=>by
  unfold cO.dep at h
  obtain⟨m,rfl⟩:∃ m,n=m+1:=⟨n - 1,by omega⟩
  rw[lG]
  refine dP fun x hx=>?_
  rcases List.mem_cons.mp hx with rfl | hx
  ·exact cG _
  ·exact Jl cs (by omega) x hx
theorem Jl:∀ (l:List cO) {n:Nat},Cf l+4<=n->∀ x∈HL l,Fl n x
 | [],n,h=>fun x hx=>by rw[HL] at hx;exact(List.not_mem_nil hx).elim
 | c::r,n,h=>fun x hx=>by
  unfold Cf at h
  rw[HL] at hx
  rcases List.mem_cons.mp hx with rfl | hx
  ·exact yo c (by have:=Nat.le_max_left c.dep (Cf r);omega)
  ·exact Jl r (by have:=Nat.le_max_right c.dep (Cf r);omega) x hx
end
theorem xj {n:Nat}(s:Sm)(h:3<=n):Fl n (jl s):=by
 obtain⟨m,rfl⟩:∃ m,n=m+3:=⟨n - 3,by omega⟩
 exact HD s
theorem Ny {n:Nat}(l:List Str)(h:1<=n):Fl n (uM l):=by
 obtain⟨m,rfl⟩:∃ m,n=m+1:=⟨n - 1,by omega⟩
 exact dP fun x hx=>by obtain⟨y,_,rfl⟩:=List.mem_map.mp hx;exact cG y
theorem Xj {n:Nat}{p:Int×cO}(h:C5 p.2)(hn:7<=n):Fl n (Ln p):=by
 obtain⟨m,rfl⟩:∃ m,n=m+1:=⟨n - 1,by omega⟩
 refine dP fun x hx=>?_
 rcases List.mem_cons.mp hx with rfl | hx
 ·exact gG _
 ·rw[List.mem_singleton.mp hx];exact yo _ (by have:=h.dep;omega)
theorem HE {n:Nat}{l:List (Int×cO)}(h:∀ p∈l,C5 p.2)(hn:8<=n):Fl n (.tup (l.map Ln)):=by
 obtain⟨m,rfl⟩:∃ m,n=m+1:=⟨n - 1,by omega⟩
 exact dP fun x hx=>by obtain⟨p,hp,rfl⟩:=List.mem_map.mp hx;exact Xj (h p hp) (by omega)
mutual
theorem Ub:∀ (s:eG) {n:Nat},fF s->2*s.dp+8<=n->Fl n (jZ s)
 | .lt a x s,n,g,h=>by
  unfold jZ
  obtain⟨m,rfl⟩:∃ m,n=m+1:=⟨n - 1,by omega⟩
  refine dP fun x hx=>?_
  simp only[List.mem_cons,List.not_mem_nil,or_false] at hx
  rcases hx with rfl | rfl | rfl | rfl
  ·exact cG _
  ·exact gG _
  ·exact cG _
  ·exact xj _ (by omega)
 | .dv a x wd s b,n,g,h=>by
  unfold jZ
  obtain⟨m,rfl⟩:∃ m,n=m+1:=⟨n - 1,by omega⟩
  refine dP fun x hx=>?_
  simp only[List.mem_cons,List.not_mem_nil,or_false] at hx
  rcases hx with rfl | rfl | rfl | rfl | rfl | rfl
  ·exact cG _
  ·exact gG _
  ·exact cG _
  ·exact cG _
  ·exact xj _ (by omega)
  ·exact xj _ (by omega)
 | .ft a x r p,n,g,h=>by
  unfold jZ
  obtain⟨m,rfl⟩:∃ m,n=m+1:=⟨n - 1,by omega⟩
  refine dP fun x hx=>?_
  simp only[List.mem_cons,List.not_mem_nil,or_false] at hx
  rcases hx with rfl | rfl | rfl | rfl | rfl
  ·exact cG _
  ·exact gG _
  ·exact cG _
  ·exact cG _
  ·exact xj _ (by omega)
 | .pt a r p s,n,g,h=>by
  unfold jZ
  obtain⟨m,rfl⟩:∃ m,n=m+1:=⟨n - 1,by omega⟩
  refine dP fun x hx=>?_
  simp only[List.mem_cons,List.not_mem_nil,or_false] at hx
  rcases hx with rfl | rfl | rfl | rfl | rfl
  ·exact cG _
  ·exact gG _
  ·exact cG _
  ·exact xj _ (by omega)
  ·exact xj _ (by omega)
 | .mq a r z,n,g,h=>by
  unfold jZ
  obtain⟨m,rfl⟩:∃ m,n=m+1:=⟨n - 1,by omega⟩
  refine dP fun x hx=>?_
  simp only[List.mem_cons,List.not_mem_nil,or_false] at hx
  rcases hx with rfl | rfl | rfl | rfl
  ·exact cG _
  ·exact gG _
  ·exact cG _
  ·exact xj _ (by omega)
 | .cm a c,n,g,h=>by
  unfold jZ
  unfold fF at g
  obtain⟨m,rfl⟩:∃ m,n=m+1:=⟨n - 1,by omega⟩
  refine dP fun x hx=>?_
  simp only[List.mem_cons,List.not_mem_nil,or_false] at hx
  rcases hx with rfl | rfl | rfl
  ·exact cG _
  ·exact gG _
  ·exact yo _ (by have:=g.dep;omega)
 | .cl a ns hp gs,n,g,h=>by
  unfold jZ
  obtain⟨m,rfl⟩:∃ m,n=m+2:=⟨n - 2,by omega⟩
  refine dP fun x hx=>?_
  simp only[List.mem_cons,List.not_mem_nil,or_false] at hx
  rcases hx with rfl | rfl | rfl | rfl | rfl
  ·exact cG _
  ·exact gG _
  ·exact Ny _ (by omega)
  ·exact cG _
  ·exact dP fun y hy=>by obtain⟨p,hp,rfl⟩:=List.mem_map.mp hy;exact xj _ (by omega)
 | .ch a c t e,n,g,h=>by
  unfold jZ
  unfold fF at g
  unfold eG.dp at h
  have h1:=Nat.le_max_left (pG t) (pG e)
  have h2:=Nat.le_max_right (pG t) (pG e)
  obtain⟨m,rfl⟩:∃ m,n=m+2:=⟨n - 2,by omega⟩
  refine dP fun x hx=>?_
  simp only[List.mem_cons,List.not_mem_nil,or_false] at hx
  rcases hx with rfl | rfl | rfl | rfl | rfl
  ·exact cG _
  ·exact gG _
  ·exact yo _ (by have:=g.1.dep;omega)
  ·exact dP (xh t g.2.1 (by omega))
  ·exact dP (xh e g.2.2.1 (by omega))
 | .rp a c hs f b,n,g,h=>by
  unfold jZ
  unfold fF at g
  unfold eG.dp at h
  obtain⟨m,rfl⟩:∃ m,n=m+2:=⟨n - 2,by omega⟩
  refine dP fun x hx=>?_
  simp only[List.mem_cons,List.not_mem_nil,or_false] at hx
  rcases hx with rfl | rfl | rfl | rfl | rfl | rfl
  ·exact cG _
  ·exact gG _
  ·exact yo _ (by have:=g.1.dep;omega)
  ·exact HE g.2.2.1 (by omega)
  ·cases f with
   | none=>exact Ua rfl
   | some p =>
    refine dP fun y hy=>?_
    rcases List.mem_cons.mp hy with rfl | hy
    ·exact gG _
    ·rw[List.mem_singleton.mp hy];exact xj _ (by omega)
  ·exact dP (xh b g.2.2.2.2.1 (by omega))
theorem xh:∀ (l:List eG) {n:Nat},nM l->2*pG l+8<=n->∀ x∈zZ l,Fl n x
 | [],n,g,h=>fun x hx=>by rw[zZ] at hx;exact(List.not_mem_nil hx).elim
 | c::r,n,g,h=>fun x hx=>by
  unfold pG at h
  unfold nM at g
  rw[zZ] at hx
  have h1:=Nat.le_max_left c.dp (pG r)
  have h2:=Nat.le_max_right c.dp (pG r)
  rcases List.mem_cons.mp hx with rfl | hx
  ·exact Ub c g.1 (by omega)
  ·exact xh r g.2 (by omega) x hx
end
theorem Uc {l:List lI}(h:∀ x∈l,FY x/\pG x.steps<=8):NZ 40 (l.map yl):=D4 fun x hx=>by
 obtain⟨y,hy,rfl⟩:=List.mem_map.mp hx
 obtain⟨g,d⟩:=h y hy
 refine dP (n:=39) fun x hx=>?_
 simp only[List.mem_cons,List.not_mem_nil,or_false] at hx
 rcases hx with rfl | rfl | rfl | rfl | rfl | rfl | rfl | rfl
 ·exact cG _
 ·exact gG _
 ·exact cG _
 ·exact Ny _ (by omega)
 ·exact Ny _ (by omega)
 ·exact HE g.nd (by omega)
 ·exact HE g.gv (by omega)
 ·exact dP (n:=38) (xh _ g.st (by omega))
theorem sQ {S:bQ}{d j:Nat}{c m:Int}(h:j≠d):(bV S d c m)[j]?=S[j]?:=by
 unfold bV
 rw[List.getElem?_set_ne (Ne.symm h)]
theorem IB {S:bQ}{a b c:O}(h:3<=S.length):(((S.set 0 a).set 2 b).set 1 c)[0]?=some a/\(((S.set 0 a).set 2 b).set 1 c)[1]?=some c/\(((S.set 0 a).set 2 b).set 1 c)[2]?=some b/\3<=(((S.set 0 a).set 2 b).set 1 c).length:=by
 refine⟨?_,?_,?_,by simpa using h⟩
 ·rw[List.getElem?_set_ne (by decide),List.getElem?_set_ne (by decide),List.getElem?_set_self (by omega)]
 ·rw[List.getElem?_set_self (by simp;omega)]
 ·rw[List.getElem?_set_ne (by decide),List.getElem?_set_self (by simp;omega)]
theorem I8 (n:Nat)(hs:List lI):Bx (c7 n hs)=Bx hs:=by unfold Bx;rw[uS]
structure NY (hs:List lI):Prop where
 l:hs.length<=3
 g:∀ h∈hs,FY h/\pG h.steps<=8
 r:((hs.map bH).flatten).length<=600
theorem IW {M:Nat}:∀ {l:List lI},(∀ h∈l,(bH h).length<=M)->((l.map bH).flatten).length<=M*l.length
 | [],_=>Nat.zero_le _
 | a::r,h=>by
  have h1:=h a List.mem_cons_self
  have h2:=IW fun x hx=>h x (List.mem_cons_of_mem _ hx)
  rw[List.map_cons,List.flatten_cons,List.length_append,List.length_cons,Nat.mul_succ]
  omega
theorem NY.of {hs:List lI}(l:hs.length<=3)(h:∀ x∈hs,Ri x 6 70):NY hs:=⟨l,fun x hx=>⟨(h x hx).g,by have:=(h x hx).dp;omega⟩,by
 have:=IW fun x hx=>(h x hx).rw
 have:70*hs.length<=210:=by omega
 omega⟩
theorem Jc:∀ (l:List lI) (n:Nat),(∀ h∈l,FY h/\pG h.steps<=8)->∀ h∈c7 n l,FY h/\pG h.steps<=8
 | [],n,_=>fun h hh=>by rw[c7] at hh;exact(List.not_mem_nil hh).elim
 | c::r,n,g=>fun h hh=>by
  rw[c7] at hh
  rcases List.mem_cons.mp hh with rfl | hh
  ·exact⟨TV (g c List.mem_cons_self).1 n,by show pG (dZ _ _)<=8;rw[xm];exact(g c List.mem_cons_self).2⟩
  ·exact Jc r _ (fun x hx=>g x (List.mem_cons_of_mem _ hx)) h hh
theorem CO:∀ (l:List lI) (n:Nat),(c7 n l).length=l.length
 | [],n=>by rw[c7]
 | c::r,n=>by rw[c7,List.length_cons,List.length_cons,CO r]
theorem NY.lay {hs:List lI}(h:NY hs)(n:Nat):NY (c7 n hs):=⟨by rw[CO];exact h.l,Jc hs n h.g,by rw[uS];exact h.r⟩
theorem Ri.up {h:lI}(w:Ri h 3 70):Ri h 6 70:=⟨w.g,w.c,by have:=w.dp;omega,w.rw⟩
end L3
set_option maxHeartbeats 8000000
namespace L3
open PySem L2 Hw PyProof.Rows
noncomputable def top (i:Nat):Stmt:=PySem.Challenge.pw_holdwright_k11_written.main.body.getD i (.Pass ⟨0,0,0,0⟩)
structure Fx (K:PySem.W.Frag)(mg:Str->Option Value)(A:Ad):Prop where
 j7:mg "len"=none
 br:mg "tuple"=none
 rM:mg "list"=none
 FO:mg "sorted"=none
 Bf:mg "int"=none
 Jz:mg "str"=none
 xD:mg "isinstance"=none
 jK:mg "range"=none
 FP:mg "abs"=none
 Fq:mg "Sum"=some (.ref A.mJ)
 Nb:iB K A.mJ []
 k8:aT K A.mJ "terms"
 jE:aT K A.mJ "number"
 o4:mg "Compare"=some (.ref A.bS)
 yj:iB K A.bS []
 iM:aT K A.bS "one"
 gS:aT K A.bS "sign"
 gw:aT K A.bS "other"
 rB:mg "Turned"=some (.ref A.dO)
 AW:iB K A.dO []
 eS:aT K A.dO "condition"
 oY:mg "Several"=some (.ref A.dJ)
 w6:mg "Every"=some (.ref A.fY)
 DX:iB K A.fY []
 eU:aT K A.fY "conditions"
 A2:mg "Some"=some (.ref A.jJ)
 Hs:iB K A.jJ []
 fm:aT K A.jJ "conditions"
 Fv:mg "Let"=some (.ref A.nL)
 Nd:iB K A.nL []
 rj:aT K A.nL "at"
 ni:aT K A.nL "name"
 lA:aT K A.nL "total"
 rE:mg "Divide"=some (.ref A.cu)
 AZ:iB K A.cu []
 lE:aT K A.cu "at"
 iL:aT K A.cu "name"
 iK:aT K A.cu "word"
 gR:aT K A.cu "total"
 lD:aT K A.cu "by"
 w5:mg "Fetch"=some (.ref A.d7)
 DW:iB K A.d7 []
 nj:aT K A.d7 "at"
 jF:aT K A.d7 "name"
 lC:aT K A.d7 "row"
 iJ:aT K A.d7 "place"
 Ft:mg "Put"=some (.ref A.mK)
 Nc:iB K A.mK []
 q9:aT K A.mK "at"
 oS:aT K A.mK "row"
 lu:aT K A.mK "place"
 lg:aT K A.mK "total"
 A3:mg "Make"=some (.ref A.iA)
 Ht:iB K A.iA []
 oU:aT K A.iA "at"
 nh:aT K A.iA "row"
 ly:aT K A.iA "size"
 w9:mg "Claim"=some (.ref A.fS)
 DY:iB K A.fS []
 nk:aT K A.fS "at"
 fu:aT K A.fS "condition"
 A4:mg "Call"=some (.ref A.gW)
 Hu:iB K A.gW []
 oV:aT K A.gW "at"
 jG:aT K A.gW "names"
 iO:aT K A.gW "helper"
 jH:aT K A.gW "given"
 rF:mg "Choose"=some (.ref A.cY)
 A0:iB K A.cY []
 lF:aT K A.cY "at"
 eV:aT K A.cY "condition"
 iN:aT K A.cY "then"
 gT:aT K A.cY "other"
 rC:mg "Repeat"=some (.ref A.cH)
 AX:iB K A.cH []
 k9:aT K A.cH "at"
 eT:aT K A.cH "condition"
 gK:aT K A.cH "keeps"
 gM:aT K A.cH "falls"
 iH:aT K A.cH "body"
 rD:mg "Helper"=some (.ref A.bN)
 AY:iB K A.bN []
 lB:aT K A.bN "at"
 iI:aT K A.bN "name"
 gu:aT K A.bN "params"
 fP:aT K A.bN "answers"
 gP:aT K A.bN "needs"
 gQ:aT K A.bN "gives"
 gO:aT K A.bN "steps"
 oZ:mg "Program"=some (.ref A.dM)
 yi:iB K A.dM []
 fq:aT K A.dM "helpers"
 kS:∀ j,j < 4->PySem.W.kitOne K (.ref (yr A j)) (.ref A.dJ)=some (decide (2<=j))
section
variable (P:Program)(w:World)(K:PySem.W.Frag)(mg:Str->Option Value)(base:Heap)(k:Nat)(A:Ad)(n:Nat)(q:Bool)
noncomputable abbrev P9:=pH P w K mg base k A.mJ "Sum" ["self","terms","number"] (GG A)
noncomputable abbrev xN:=Dn P w K mg base k "as_pairs" ["pairs"] (bA K (IG A))
noncomputable abbrev H8:=Ms P w K mg base k 11 (Jt A) "told" ["self"] (fG A n)
noncomputable abbrev jf:=Ms P w K mg base k 1 (fun _=>A.mJ) "told" ["self"] (fun _=>zI A)
noncomputable abbrev vq:=Ms P w K mg base k 4 (yr A) "told" ["self"] (gD A n)
noncomputable abbrev kX:=Dn P w K mg base k "told_each" ["parts"] (bA K (Df A n))
noncomputable abbrev rS:=Dn P w K mg base k "told_pairs" ["pairs"] (bA K (IC A))
noncomputable abbrev yz:=Dn P w K mg base k "sign_between" ["number"] (bA K Qt)
noncomputable abbrev Bq:=Dn P w K mg base k "sign_ahead" ["number"] (bA K Qu)
noncomputable abbrev Co:=Dn P w K mg base k "term_text" ["thing","weight"] (bA K ID)
noncomputable abbrev gY:=Ms P w K mg base k 1 (fun _=>A.mJ) "text" ["self"] (fun _=>Dg A)
noncomputable abbrev Bp:=Ms P w K mg base k 4 (yr A) "text" ["self"] (gE A n)
noncomputable abbrev qA:=Dn P w K mg base k "text_within" ["condition"] (bA K (EC A n))
noncomputable abbrev oq:=Dn P w K mg base k "rows_of_steps" ["steps"] (bA K (Dh A n))
noncomputable abbrev ou:=Dn P w K mg base k "rows_of_pairs" ["word","pairs"] (bA K (IF A))
noncomputable abbrev Ia:=Ms P w K mg base k 9 (Ju A) "as_rows" ["self"] (dw A n)
noncomputable abbrev Ib:=Ms P w K mg base k 1 (fun _=>A.bN) "as_rows" ["self"] (fun _=>Ai A)
noncomputable abbrev yy:=Dn P w K mg base k "text_of_rows" ["rows"] (bA K Qo)
noncomputable abbrev sY:=Dn P w K mg base k "rows_of_program" ["program"] (bA K (ED A))
noncomputable abbrev uI:=Dn P w K mg base k "_law_mixed" ["_law_cell","_law_k"] (bA K Qq)
noncomputable abbrev kq:=Dn P w K mg base k "_law_sum_text" ["_law_one"] (bA K IJ)
noncomputable abbrev vz:=Dn P w K mg base k "_law_laid_block" ["_law_step_here","_law_rows"] (bA K (zJ n))
noncomputable abbrev lP:=Dn P w K mg base k "_law_put_row" ["_law_rows","_law_text_here"] (bA K IM)
noncomputable abbrev qq:=Dn P w K mg base k "_law_text" ["_law_told"] (bA K (wm 3))
noncomputable abbrev xM:=Dn P w K mg base k "_law_laid_step" ["_law_step_here","_law_rows"] (bA K (GH n))
noncomputable abbrev Ij:=Dn P w K mg base k "sum_of" ["pairs","number"] (bA K (IE A))
noncomputable abbrev N1:=pH P w K mg base k A.jJ "Some" ["self","conditions"] (Ae A.jJ)
noncomputable abbrev K8:=pH P w K mg base k A.fY "Every" ["self","conditions"] (Ae A.fY)
noncomputable abbrev Ic:=pH P w K mg base k A.dO "Turned" ["self","condition"] (zL A.dO ["condition"])
noncomputable abbrev F0:=pH P w K mg base k A.bS "Compare" ["self","one","sign","other"] (zL A.bS ["one","sign","other"])
noncomputable abbrev o8:=Dn P w K mg base k "_law_sum_made" ["_law_one"] (bA K (IK A))
noncomputable abbrev jM:=Dn P w K mg base k "_law_condition_made" ["_law_told"] (bA K (Ah A 3))
noncomputable abbrev Ie:=pH P w K mg base k A.cH "Repeat" ["self","at","condition","keeps","falls","body"] (LW A)
noncomputable abbrev vv:=Dn P w K mg base k "_law_steps_made" ["_law_steps_here"] (bA K (Di A n))
noncomputable abbrev nu:=Dn P w K mg base k "_law_pairs_made" ["_law_pairs"] (bA K (L1 A))
noncomputable abbrev Ii:=pH P w K mg base k A.cY "Choose" ["self","at","condition","then","other"] (L8 A)
noncomputable abbrev N3:=pH P w K mg base k A.gW "Call" ["self","at","names","helper","given"] (L7 A)
noncomputable abbrev K9:=pH P w K mg base k A.fS "Claim" ["self","at","condition"] (zL A.fS ["at","condition"])
noncomputable abbrev N2:=pH P w K mg base k A.iA "Make" ["self","at","row","size"] (zL A.iA ["at","row","size"])
noncomputable abbrev Qa:=pH P w K mg base k A.mK "Put" ["self","at","row","place","total"] (zL A.mK ["at","row","place","total"])
noncomputable abbrev K7:=pH P w K mg base k A.d7 "Fetch" ["self","at","name","row","place"] (zL A.d7 ["at","name","row","place"])
noncomputable abbrev Ih:=pH P w K mg base k A.cu "Divide" ["self","at","name","word","total","by"] (zL A.cu ["at","name","word","total","by"])
noncomputable abbrev Qc:=pH P w K mg base k A.nL "Let" ["self","at","name","total"] (zL A.nL ["at","name","total"])
noncomputable abbrev Ig:=pH P w K mg base k A.bN "Helper" ["self","at","name","params","answers","needs","gives","steps"] (L6 A)
noncomputable abbrev Em:=Dn P w K mg base k "_law_kept" [] (bA K L5)
noncomputable abbrev d8:=Dn P w K mg base k "_law_next" ["_law_draw","_law_size"] (bA K VA)
noncomputable abbrev rT:=Dn P w K mg base k "_law_sum" ["_law_draw","_law_things"] (bA K LZ)
noncomputable abbrev Ek:=Dn P w K mg base k "_law_step" ["_law_draw","_law_own","_law_deep","_law_helpers"] (bA K (IL n))
noncomputable abbrev Cq:=Dn P w K mg base k "_law_plain" ["_law_helpers"] (bA K EE)
noncomputable abbrev En:=Dn P w K mg base k "_law_call" ["_law_draw","_law_own","_law_helper_here"] (bA K IS)
noncomputable abbrev oz:=Dn P w K mg base k "_law_condition" ["_law_draw","_law_things","_law_deep"] (bA K (zK 1))
noncomputable abbrev Cp:=Dn P w K mg base k "_law_steps" ["_law_draw","_law_own","_law_many","_law_deep","_law_helpers"] (bA K (r8 n))
noncomputable abbrev Br:=Dn P w K mg base k "_law_helper" ["_law_draw","_law_name","_law_names_here","_law_many","_law_helpers"] (bA K CK)
noncomputable abbrev uH:=Dn P w K mg base k "_law_names" ["_law_draw","_law_many"] (bA K Qp)
noncomputable abbrev H9:=Ms P w K mg base k 1 (fun _=>A.dM) "told" ["self"] (fun _=>Af A)
noncomputable abbrev F1:=Dn P w K mg base k "written" ["program"] (bA K (CJ A))
noncomputable abbrev zB:=Dn P w K mg base k "_law_cell_at" ["_law_script","_law_k"] (bA K Ma)
noncomputable abbrev FZ:=pH P w K mg base k A.dM "Program" ["self","helpers"] (LX A)
noncomputable abbrev sZ:=Dn P w K mg base k "_law_helper_made" ["_law_told"] (bA K (L4 A))
noncomputable abbrev El:=Dn P w K mg base k "_law_laid" ["_law_helpers"] (bA K IQ)
noncomputable abbrev Cr:=Dn P w K mg base k "_law_chain" ["_law_draw"] (bA K EF)
noncomputable abbrev zA:=Dn P w K mg base k "_law_program" ["_law_draw","_law_many"] (bA K IP)
end
end L3
namespace L3
open PySem L2 Hw PyProof.Rows
section
variable {P:Program}{w:World}{K:PySem.W.Frag}{mg:Str->Option Value}{base:Heap}{k:Nat}{f:Addr}{fd:FuncData}{A:Ad}{n:Nat}
seal L2.PE L2.PS L2.Ew L2.PA L2.PT QE QT QA QS Lv QW
noncomputable abbrev pQ:Stmt:=inClass (top 24) 0
theorem EK:av ["self","terms","number"] ["self","terms","number"] (aj pQ):=fz
theorem E7 (F:c8 K "__init__" "Sum.__init__" pQ f fd)(J:Fx K mg A) :aU P w K mg base dG (k+1) f fd ["self","terms","number"] (bA K (GG A)):=by
 refine bM F EK fun cdv B outer s H E hr=>?_
 rw[show ao pQ=[_,_] from rfl]
 refine⟨_,(qs (bG (ah 0) (aD bq (by rfl) J.br boot_tuple (qa (bU (aH ["pair"] [] [] rfl (by decide +kernel) (by decide +kernel) (by with_unfolding_all rfl) (by exact trivial) (by rfl) rfl (by rfl)) rfl (qi (ah 1)) (fun _ _ _ _=>(qx (i:=0) (show List.Nodup (["pair"]:List Str) by decide +kernel))) (fun _ _ _ _=>bf) (fun _ _ _ _=>(aD bq (by rfl) J.br boot_tuple (qa (ah 0) aa)))) aa)) rfl) (bO (bG (ah 0) (ah 2) rfl))),fun ds S kk hc hd h=>?_⟩
 obtain⟨i,d,l,m,rfl,h1,h2,h3,h4⟩:=h
 refine⟨_,rfl,QU h2 fun G hG=>dg pT pT (by simpa using hG []) (eX (by omega)) (fun x _ k' hk=>⟨_,rfl,_,rfl,_,rfl,hk⟩) ?_⟩
 refine⟨_,rfl,_,rfl,i,A.mJ,[],[],rfl,h1,J.k8,by decide,_,rfl,_,rfl,i,_,_,_,rfl,List.getElem?_set_self (List.getElem?_eq_some_iff.mp h1).1,J.jE,by decide,?_⟩
 rw[List.set_set]
 exact .inr (.inr (.inr h4))
noncomputable abbrev wB:Stmt:=top 25
theorem r9:av ["pairs","number","weights","thing","weight"] ["pairs","number"] (aj wB):=fz
theorem JV (F:c8 K "sum_of" "sum_of" wB f fd)(J:Fx K mg A)(Nb:P9 P w K mg base k A):aU P w K mg base dG (k+1) f fd ["pairs","number"] (bA K (IE A)):=by
 refine bM F r9 fun cdv B outer s H E hr=>?_
 rw[show ao wB=[_,_,_] from rfl]
 refine⟨_,(qs (ay (i:=2) r9.nd Mn) (qs (jD PassesOwn.never rfl (qi (ah 0)) (p6 (n:=2) rfl (yJ (qg (i:=3) r9.nd) (yJ (qg (i:=4) r9.nd) mE))) (bO (IX (CS hr) (ah 2) (ah 3) (aL aF (OH (CS hr) (ah 2) (ah 3) af) (ah 4))))) (bO (az (sW Nb hr rfl (qa (bU (aH ["thing"] ["weights"] [2] rfl (by decide +kernel) (by decide +kernel) (by with_unfolding_all rfl) (by exact⟨rfl,trivial⟩) (by rfl) rfl (by rfl)) rfl (qi (cj (Jx rfl) (by rfl) J.FO boot_sorted (qa (ah 2) aa))) (fun _ _ _ _=>(qx (i:=0) (show List.Nodup (["thing","weights"]:List Str) by decide +kernel))) (fun _ _ _ _=>(wJ (aI (sX 40 (uE hr)) (GS (CS hr) (ah 1) (ah 0)) af (aJ _)))) (fun _ _ _ _=>(aO (qa (ah 0) (qa (GS (CS hr) (ah 1) (ah 0)) aa))))) (qa (ah 1) aa))))))),fun ds S kk hc hd h=>?_⟩
 obtain⟨d,l,m,rfl,h2,h3,h4⟩:=h
 refine⟨_,rfl,Ni h2 fun G hG=>uB pT (fun pre δ S'=>∃ x y dd,δ=[some d,some (.int m),some (.ob S.length),x,y]/\S'=S++[O.yQ dd]/\La pre dd) ⟨_,_,_,rfl,rfl,.nil⟩ ?_ ?_⟩
 ·rintro pre ⟨x,v⟩ post δ S' N rfl ⟨x0,y0,dd,rfl,rfl,hz⟩ hN
  refine⟨hG _,_,rfl,rfl,_,_,rfl,_,_,rfl,rfl,?_⟩
  have hl:dd.length < sizeLine:=oA (by have:=hz.len;simp at h3;omega)
  refine⟨_,rfl,_,_,rfl,aB,_,rfl,_,_,aB,rfl,_,rfl,?_⟩
  rw[hz.val x]
  by_cases hx:x∈pre.map (·.1)
  ·rw[if_pos hx]
   refine⟨_,rfl,_,rfl,_,_,_,_,rfl,aB,rfl,rfl,hl,?_⟩
   rw[gp]
   exact hN _ _ ⟨_,_,_,rfl,rfl,hz.snoc x v rfl⟩
  ·rw[if_neg hx]
   refine⟨_,rfl,_,rfl,_,_,_,_,rfl,aB,rfl,rfl,hl,?_⟩
   rw[gp]
   exact hN _ _ ⟨_,_,_,rfl,rfl,hz.snoc x v (by rw[LC hx])⟩
 ·rintro δ S' ⟨x0,y0,dd,rfl,rfl,hz⟩
  refine⟨hG _,?_⟩
  obtain⟨ss,k1,k2,k3⟩:=hz.keys
  refine⟨_,rfl,_,_,aB,k1,k2,by have:=hz.len;omega,?_⟩
  rw[LV k3]
  have hsl:=wk (l.map (·.1))
  rw[List.length_map] at hsl
  refine qv (yp T.str (fun x=>if wt l x≠0 then some (pT (x,wt l x)) else none) trivial (eX (by omega)) ?_ ?_)
  ·intro x hx k' hk
   have hv:qh dd (Sum.inr x)=some (.int (wt l x)):=by rw[hz.val x,if_pos (lS.mp hx)]
   refine⟨_,rfl,_,rfl,_,_,_,_,rfl,aB,rfl,hv,rfl,_,rfl,?_⟩
   rw[je,Bool.true_xor]
   by_cases hw:wt l x=0
   ·rw[decide_eq_true hw]
    rw[if_neg (by simpa using hw)] at hk
    exact hk
   ·rw[decide_eq_false hw]
    rw[if_pos hw] at hk
    exact⟨_,rfl,_,rfl,_,rfl,_,_,_,_,rfl,aB,rfl,hv,_,rfl,sz 2,_,rfl,hk⟩
  ·rw[Pc]
   have hnl:=MS l
   exact⟨_,rfl,_,_,norm l,m,rfl,aB,rfl,by omega,made (Cg hc h4)⟩
noncomputable abbrev pO:Stmt:=inClass (top 24) 7
theorem EJ:av ["self"] ["self"] (aj pO):=fz
theorem dH (F:c8 K "told" "Sum.told" pO f fd)(J:Fx K mg A) :aU P w K mg base dG (k+1) f fd ["self"] (bA K (zI A)):=by
 refine bM F EJ fun cdv B outer s H E hr=>?_
 rw[show ao pO=[_] from rfl]
 refine⟨_,(bO (az (aO (qa (aK (ah 0) rfl) (qa (aK (ah 0) rfl) aa))))),fun ds S kk hc hd h=>?_⟩
 obtain⟨a,rfl,h2⟩:=h
 exact⟨_,rfl,_,_,_,_,rfl,rfl,_,rfl,_,_,_,_,rfl,rfl,_,rfl,sz 2,jh hc h2⟩
noncomputable abbrev jC:Stmt:=inClass (top 31) 0
theorem zh:av ["self","one","sign","other"] ["self","one","sign","other"] (aj jC):=fz
theorem zp (F:c8 K "__init__" "Compare.__init__" jC f fd)(J:Fx K mg A) :aU P w K mg base dG (k+1) f fd ["self","one","sign","other"] (bA K (zL A.bS ["one","sign","other"])):=by
 refine D5 F zh (fun ds S kk h=>by obtain⟨i,l,rfl,hl,h1,h4⟩:=h;simpa using hl) fun cdv B outer s H E hr=>?_
 rw[show ao jC=[_,_,_] from rfl]
 refine⟨_,(qs (bG (ah 0) (ah 1) rfl) (qs (bG (ah 0) (ah 2) rfl) (bO (bG (ah 0) (ah 3) rfl)))),fun ds S kk hc hd h=>?_⟩
 obtain⟨i,l,rfl,hl,h1,h4⟩:=h
 obtain⟨x0,x1,x2,rfl⟩:∃ x0 x1 x2,l=[x0,x1,x2]:=Zj hl
 have hz:=(List.getElem?_eq_some_iff.mp h1).1
 refine⟨_,rfl,_,rfl,_,_,_,_,rfl,h1,J.iM,by decide,_,rfl,_,rfl,_,_,_,_,rfl,(List.getElem?_set_self (by first | exact hz | (simp only[List.length_set];exact hz))),J.gS,by decide,_,rfl,_,rfl,_,_,_,_,rfl,(List.getElem?_set_self (by first | exact hz | (simp only[List.length_set];exact hz))),J.gw,by decide,?_⟩
 rw[List.set_set]
 rw[List.set_set]
 exact .inr (.inr (.inr h4))
noncomputable abbrev kH:Stmt:=inClass (top 32) 0
theorem An:av ["self","condition"] ["self","condition"] (aj kH):=fz
theorem AI (F:c8 K "__init__" "Turned.__init__" kH f fd)(J:Fx K mg A) :aU P w K mg base dG (k+1) f fd ["self","condition"] (bA K (zL A.dO ["condition"])):=by
 refine D5 F An (fun ds S kk h=>by obtain⟨i,l,rfl,hl,h1,h4⟩:=h;simpa using hl) fun cdv B outer s H E hr=>?_
 rw[show ao kH=[_] from rfl]
 refine⟨_,(bO (bG (ah 0) (ah 1) rfl)),fun ds S kk hc hd h=>?_⟩
 obtain⟨i,l,rfl,hl,h1,h4⟩:=h
 obtain⟨x0,rfl⟩:∃ x0,l=[x0]:=ln1 hl
 have hz:=(List.getElem?_eq_some_iff.mp h1).1
 refine⟨_,rfl,_,rfl,_,_,_,_,rfl,h1,J.eS,by decide,?_⟩
 exact .inr (.inr (.inr h4))
noncomputable abbrev pX:Stmt:=inClass (top 3) 0
theorem ES:av ["self","at","name","total"] ["self","at","name","total"] (aj pX):=fz
theorem E9 (F:c8 K "__init__" "Let.__init__" pX f fd)(J:Fx K mg A)(bK:Cm P w K mg base k "Step" "__init__" ["self","at"] (qK K)):aU P w K mg base dG (k+1) f fd ["self","at","name","total"] (bA K (zL A.nL ["at","name","total"])):=by
 refine D5 F ES (fun ds S kk h=>by obtain⟨i,l,rfl,hl,h1,h4⟩:=h;simpa using hl) fun cdv B outer s H E hr=>?_
 rw[show ao pX=[_,_,_] from rfl]
 refine⟨_,(qs (iD (p7 bK hr rfl (qa (ah 0) (qa (ah 1) aa)))) (qs (bG (ah 0) (ah 2) rfl) (bO (bG (ah 0) (ah 3) rfl)))),fun ds S kk hc hd h=>?_⟩
 obtain⟨i,l,rfl,hl,h1,h4⟩:=h
 obtain⟨x0,x1,x2,rfl⟩:∃ x0 x1 x2,l=[x0,x1,x2]:=Zj hl
 have hz:=(List.getElem?_eq_some_iff.mp h1).1
 refine⟨_,rfl,_,rfl,_,_,_,rfl,h1,J.rj,_,rfl,_,rfl,_,_,_,_,rfl,(List.getElem?_set_self (by first | exact hz | (simp only[List.length_set];exact hz))),J.ni,by decide,_,rfl,_,rfl,_,_,_,_,rfl,(List.getElem?_set_self (by first | exact hz | (simp only[List.length_set];exact hz))),J.lA,by decide,?_⟩
 rw[List.set_set]
 rw[List.set_set]
 exact .inr (.inr (.inr h4))
noncomputable abbrev kQ:Stmt:=inClass (top 4) 0
theorem Av:av ["self","at","name","word","total","by"] ["self","at","name","word","total","by"] (aj kQ):=fz
theorem AM (F:c8 K "__init__" "Divide.__init__" kQ f fd)(J:Fx K mg A)(bK:Cm P w K mg base k "Step" "__init__" ["self","at"] (qK K)):aU P w K mg base dG (k+1) f fd ["self","at","name","word","total","by"] (bA K (zL A.cu ["at","name","word","total","by"])):=by
 refine D5 F Av (fun ds S kk h=>by obtain⟨i,l,rfl,hl,h1,h4⟩:=h;simpa using hl) fun cdv B outer s H E hr=>?_
 rw[show ao kQ=[_,_,_,_,_] from rfl]
 refine⟨_,(qs (iD (p7 bK hr rfl (qa (ah 0) (qa (ah 1) aa)))) (qs (bG (ah 0) (ah 2) rfl) (qs (bG (ah 0) (ah 3) rfl) (qs (bG (ah 0) (ah 4) rfl) (bO (bG (ah 0) (ah 5) rfl)))))),fun ds S kk hc hd h=>?_⟩
 obtain⟨i,l,rfl,hl,h1,h4⟩:=h
 obtain⟨x0,x1,x2,x3,x4,rfl⟩:∃ x0 x1 x2 x3 x4,l=[x0,x1,x2,x3,x4]:=ln5 hl
 have hz:=(List.getElem?_eq_some_iff.mp h1).1
 refine⟨_,rfl,_,rfl,_,_,_,rfl,h1,J.lE,_,rfl,_,rfl,_,_,_,_,rfl,(List.getElem?_set_self (by first | exact hz | (simp only[List.length_set];exact hz))),J.iL,by decide,_,rfl,_,rfl,_,_,_,_,rfl,(List.getElem?_set_self (by first | exact hz | (simp only[List.length_set];exact hz))),J.iK,by decide,_,rfl,_,rfl,_,_,_,_,rfl,(List.getElem?_set_self (by first | exact hz | (simp only[List.length_set];exact hz))),J.gR,by decide,_,rfl,_,rfl,_,_,_,_,rfl,(List.getElem?_set_self (by first | exact hz | (simp only[List.length_set];exact hz))),J.lD,by decide,?_⟩
 rw[List.set_set]
 rw[List.set_set]
 rw[List.set_set]
 rw[List.set_set]
 exact .inr (.inr (.inr h4))
noncomputable abbrev mh:Stmt:=inClass (top 5) 0
theorem BN:av ["self","at","name","row","place"] ["self","at","name","row","place"] (aj mh):=fz
theorem BY (F:c8 K "__init__" "Fetch.__init__" mh f fd)(J:Fx K mg A)(bK:Cm P w K mg base k "Step" "__init__" ["self","at"] (qK K)):aU P w K mg base dG (k+1) f fd ["self","at","name","row","place"] (bA K (zL A.d7 ["at","name","row","place"])):=by
 refine D5 F BN (fun ds S kk h=>by obtain⟨i,l,rfl,hl,h1,h4⟩:=h;simpa using hl) fun cdv B outer s H E hr=>?_
 rw[show ao mh=[_,_,_,_] from rfl]
 refine⟨_,(qs (iD (p7 bK hr rfl (qa (ah 0) (qa (ah 1) aa)))) (qs (bG (ah 0) (ah 2) rfl) (qs (bG (ah 0) (ah 3) rfl) (bO (bG (ah 0) (ah 4) rfl))))),fun ds S kk hc hd h=>?_⟩
 obtain⟨i,l,rfl,hl,h1,h4⟩:=h
 obtain⟨x0,x1,x2,x3,rfl⟩:∃ x0 x1 x2 x3,l=[x0,x1,x2,x3]:=ln4 hl
 have hz:=(List.getElem?_eq_some_iff.mp h1).1
 refine⟨_,rfl,_,rfl,_,_,_,rfl,h1,J.nj,_,rfl,_,rfl,_,_,_,_,rfl,(List.getElem?_set_self (by first | exact hz | (simp only[List.length_set];exact hz))),J.jF,by decide,_,rfl,_,rfl,_,_,_,_,rfl,(List.getElem?_set_self (by first | exact hz | (simp only[List.length_set];exact hz))),J.lC,by decide,_,rfl,_,rfl,_,_,_,_,rfl,(List.getElem?_set_self (by first | exact hz | (simp only[List.length_set];exact hz))),J.iJ,by decide,?_⟩
 rw[List.set_set]
 rw[List.set_set]
 rw[List.set_set]
 exact .inr (.inr (.inr h4))
noncomputable abbrev pU:Stmt:=inClass (top 6) 0
theorem EN:av ["self","at","row","place","total"] ["self","at","row","place","total"] (aj pU):=fz
theorem E8 (F:c8 K "__init__" "Put.__init__" pU f fd)(J:Fx K mg A)(bK:Cm P w K mg base k "Step" "__init__" ["self","at"] (qK K)):aU P w K mg base dG (k+1) f fd ["self","at","row","place","total"] (bA K (zL A.mK ["at","row","place","total"])):=by
 refine D5 F EN (fun ds S kk h=>by obtain⟨i,l,rfl,hl,h1,h4⟩:=h;simpa using hl) fun cdv B outer s H E hr=>?_
 rw[show ao pU=[_,_,_,_] from rfl]
 refine⟨_,(qs (iD (p7 bK hr rfl (qa (ah 0) (qa (ah 1) aa)))) (qs (bG (ah 0) (ah 2) rfl) (qs (bG (ah 0) (ah 3) rfl) (bO (bG (ah 0) (ah 4) rfl))))),fun ds S kk hc hd h=>?_⟩
 obtain⟨i,l,rfl,hl,h1,h4⟩:=h
 obtain⟨x0,x1,x2,x3,rfl⟩:∃ x0 x1 x2 x3,l=[x0,x1,x2,x3]:=ln4 hl
 have hz:=(List.getElem?_eq_some_iff.mp h1).1
 refine⟨_,rfl,_,rfl,_,_,_,rfl,h1,J.q9,_,rfl,_,rfl,_,_,_,_,rfl,(List.getElem?_set_self (by first | exact hz | (simp only[List.length_set];exact hz))),J.oS,by decide,_,rfl,_,rfl,_,_,_,_,rfl,(List.getElem?_set_self (by first | exact hz | (simp only[List.length_set];exact hz))),J.lu,by decide,_,rfl,_,rfl,_,_,_,_,rfl,(List.getElem?_set_self (by first | exact hz | (simp only[List.length_set];exact hz))),J.lg,by decide,?_⟩
 rw[List.set_set]
 rw[List.set_set]
 rw[List.set_set]
 exact .inr (.inr (.inr h4))
noncomputable abbrev nZ:Stmt:=inClass (top 7) 0
theorem Dy:av ["self","at","row","size"] ["self","at","row","size"] (aj nZ):=fz
theorem DN (F:c8 K "__init__" "Make.__init__" nZ f fd)(J:Fx K mg A)(bK:Cm P w K mg base k "Step" "__init__" ["self","at"] (qK K)):aU P w K mg base dG (k+1) f fd ["self","at","row","size"] (bA K (zL A.iA ["at","row","size"])):=by
 refine D5 F Dy (fun ds S kk h=>by obtain⟨i,l,rfl,hl,h1,h4⟩:=h;simpa using hl) fun cdv B outer s H E hr=>?_
 rw[show ao nZ=[_,_,_] from rfl]
 refine⟨_,(qs (iD (p7 bK hr rfl (qa (ah 0) (qa (ah 1) aa)))) (qs (bG (ah 0) (ah 2) rfl) (bO (bG (ah 0) (ah 3) rfl)))),fun ds S kk hc hd h=>?_⟩
 obtain⟨i,l,rfl,hl,h1,h4⟩:=h
 obtain⟨x0,x1,x2,rfl⟩:∃ x0 x1 x2,l=[x0,x1,x2]:=Zj hl
 have hz:=(List.getElem?_eq_some_iff.mp h1).1
 refine⟨_,rfl,_,rfl,_,_,_,rfl,h1,J.oU,_,rfl,_,rfl,_,_,_,_,rfl,(List.getElem?_set_self (by first | exact hz | (simp only[List.length_set];exact hz))),J.nh,by decide,_,rfl,_,rfl,_,_,_,_,rfl,(List.getElem?_set_self (by first | exact hz | (simp only[List.length_set];exact hz))),J.ly,by decide,?_⟩
 rw[List.set_set]
 rw[List.set_set]
 exact .inr (.inr (.inr h4))
noncomputable abbrev mD:Stmt:=inClass (top 8) 0
theorem BS:av ["self","at","condition"] ["self","at","condition"] (aj mD):=fz
theorem BZ (F:c8 K "__init__" "Claim.__init__" mD f fd)(J:Fx K mg A)(bK:Cm P w K mg base k "Step" "__init__" ["self","at"] (qK K)):aU P w K mg base dG (k+1) f fd ["self","at","condition"] (bA K (zL A.fS ["at","condition"])):=by
 refine D5 F BS (fun ds S kk h=>by obtain⟨i,l,rfl,hl,h1,h4⟩:=h;simpa using hl) fun cdv B outer s H E hr=>?_
 rw[show ao mD=[_,_] from rfl]
 refine⟨_,(qs (iD (p7 bK hr rfl (qa (ah 0) (qa (ah 1) aa)))) (bO (bG (ah 0) (ah 2) rfl))),fun ds S kk hc hd h=>?_⟩
 obtain⟨i,l,rfl,hl,h1,h4⟩:=h
 obtain⟨x0,x1,rfl⟩:∃ x0 x1,l=[x0,x1]:=ln2 hl
 have hz:=(List.getElem?_eq_some_iff.mp h1).1
 refine⟨_,rfl,_,rfl,_,_,_,rfl,h1,J.nk,_,rfl,_,rfl,_,_,_,_,rfl,(List.getElem?_set_self (by first | exact hz | (simp only[List.length_set];exact hz))),J.fu,by decide,?_⟩
 rw[List.set_set]
 exact .inr (.inr (.inr h4))
noncomputable abbrev nU:Stmt:=inClass (top 2) 0
theorem Dr:av ["self","at"] ["self","at"] (aj nU):=fz
theorem DM (F:c8 K "__init__" "Step.__init__" nU f fd)(J:Fx K mg A) :aU P w K mg base dG (k+1) f fd ["self","at"] (bA K (qK K)):=by
 refine bM F Dr fun cdv B outer s H E hr=>?_
 rw[show ao nU=[_] from rfl]
 refine⟨_,(bO (bG (ah 0) (ah 1) rfl)),fun ds S kk hc hd h=>?_⟩
 obtain⟨i,x,C,rfl,h1,h2,h4⟩:=h
 refine⟨_,rfl,_,rfl,_,_,_,_,rfl,h1,h2,by decide,.inr (.inr (.inr h4))⟩
noncomputable abbrev jx:Stmt:=inClass (top 33) 0
theorem zc:av ["self","conditions"] ["self","conditions"] (aj jx):=fz
theorem qu {C:Addr}(hn:aT K C "conditions")(F:c8 K "__init__" "Several.__init__" jx f fd)(J:Fx K mg A) :aU P w K mg base dG (k+1) f fd ["self","conditions"] (bA K (Ae C)):=by
 refine bM F zc fun cdv B outer s H E hr=>?_
 rw[show ao jx=[_] from rfl]
 refine⟨_,(bO (bG (ah 0) (aD bq (by rfl) J.br boot_tuple (qa (ah 1) aa)) rfl)),fun ds S kk hc hd h=>?_⟩
 obtain⟨i,d,l,rfl,h1,h2,h4⟩:=h
 refine⟨_,rfl,_,ur h2,_,rfl,_,_,_,_,rfl,h1,hn,by decide,.inr (.inr (.inr h4))⟩
noncomputable abbrev n8:Stmt:=inClass (top 11) 0
theorem DA:av ["self","at","names","helper","given"] ["self","at","names","helper","given"] (aj n8):=fz
theorem DO (F:c8 K "__init__" "Call.__init__" n8 f fd)(J:Fx K mg A)(bK:Cm P w K mg base k "Step" "__init__" ["self","at"] (qK K)):aU P w K mg base dG (k+1) f fd ["self","at","names","helper","given"] (bA K (L7 A)):=by
 refine bM F DA fun cdv B outer s H E hr=>?_
 rw[show ao n8=[_,_,_,_] from rfl]
 refine⟨_,(qs (iD (p7 bK hr rfl (qa (ah 0) (qa (ah 1) aa)))) (qs (bG (ah 0) (aD bq (by rfl) J.br boot_tuple (qa (ah 2) aa)) rfl) (qs (bG (ah 0) (ah 3) rfl) (bO (bG (ah 0) (aD bq (by rfl) J.br boot_tuple (qa (ah 4) aa)) rfl))))),fun ds S kk hc hd h=>?_⟩
 obtain⟨i,a,d1,d2,ns,hp,g,rfl,h1,e1,e2,hk⟩:=h
 have hz:=(List.getElem?_eq_some_iff.mp h1).1
 refine⟨_,rfl,_,rfl,_,_,_,rfl,h1,J.oV,_,rfl,_,ur (mT h1 e1),_,rfl,_,_,_,_,rfl,rA hz,J.jG,by decide,?_⟩
 rw[List.set_set]
 refine⟨_,rfl,_,rfl,_,_,_,_,rfl,rA hz,J.iO,by decide,?_⟩
 rw[List.set_set]
 refine⟨_,rfl,_,ur (mT h1 e2),_,rfl,_,_,_,_,rfl,rA hz,J.jH,by decide,?_⟩
 rw[List.set_set]
 exact .inr (.inr (.inr hk))
noncomputable abbrev kU:Stmt:=inClass (top 9) 0
theorem Ax:av ["self","at","condition","then","other"] ["self","at","condition","then","other"] (aj kU):=fz
theorem AN (F:c8 K "__init__" "Choose.__init__" kU f fd)(J:Fx K mg A)(bK:Cm P w K mg base k "Step" "__init__" ["self","at"] (qK K)):aU P w K mg base dG (k+1) f fd ["self","at","condition","then","other"] (bA K (L8 A)):=by
 refine bM F Ax fun cdv B outer s H E hr=>?_
 rw[show ao kU=[_,_,_,_] from rfl]
 refine⟨_,(qs (iD (p7 bK hr rfl (qa (ah 0) (qa (ah 1) aa)))) (qs (bG (ah 0) (ah 2) rfl) (qs (bG (ah 0) (aD bq (by rfl) J.br boot_tuple (qa (ah 3) aa)) rfl) (bO (bG (ah 0) (aD bq (by rfl) J.br boot_tuple (qa (ah 4) aa)) rfl))))),fun ds S kk hc hd h=>?_⟩
 obtain⟨i,a,c,d1,d2,t,e,rfl,h1,e1,e2,hk⟩:=h
 have hz:=(List.getElem?_eq_some_iff.mp h1).1
 refine⟨_,rfl,_,rfl,_,_,_,rfl,h1,J.lF,_,rfl,_,rfl,_,_,_,_,rfl,rA hz,J.eV,by decide,?_⟩
 rw[List.set_set]
 refine⟨_,rfl,_,ur (mT h1 e1),_,rfl,_,_,_,_,rfl,rA hz,J.iN,by decide,?_⟩
 rw[List.set_set]
 refine⟨_,rfl,_,ur (mT h1 e2),_,rfl,_,_,_,_,rfl,rA hz,J.gT,by decide,?_⟩
 rw[List.set_set]
 exact .inr (.inr (.inr hk))
noncomputable abbrev kK:Stmt:=inClass (top 10) 0
theorem Ao:av ["self","at","condition","keeps","falls","body"] ["self","at","condition","keeps","falls","body"] (aj kK):=fz
theorem AJ (F:c8 K "__init__" "Repeat.__init__" kK f fd)(J:Fx K mg A)(qo:xN P w K mg base k A)(bK:Cm P w K mg base k "Step" "__init__" ["self","at"] (qK K)):aU P w K mg base dG (k+1) f fd ["self","at","condition","keeps","falls","body"] (bA K (LW A)):=by
 refine bM F Ao fun cdv B outer s H E hr=>?_
 rw[show ao kK=[_,_,_,_,_] from rfl]
 refine⟨_,(qs (iD (p7 bK hr rfl (qa (ah 0) (qa (ah 1) aa)))) (qs (bG (ah 0) (ah 2) rfl) (qs (bG (ah 0) (ai qo hr rfl (qa (ah 3) aa)) rfl) (qs (bG (ah 0) (ah 4) rfl) (bO (bG (ah 0) (aD bq (by rfl) J.br boot_tuple (qa (ah 5) aa)) rfl)))))),fun ds S kk hc hd h=>?_⟩
 obtain⟨i,a,c,f,d1,d2,hs,b,rfl,h1,e1,l1,e2,hk⟩:=h
 have hz:=(List.getElem?_eq_some_iff.mp h1).1
 refine⟨_,rfl,_,rfl,_,_,_,rfl,h1,J.k9,_,rfl,_,rfl,_,_,_,_,rfl,rA hz,J.eT,by decide,?_⟩
 rw[List.set_set]
 refine⟨_,rfl,_,hs,rfl,mT h1 e1,l1,_,rfl,_,_,_,_,rfl,rA hz,J.gK,by decide,?_⟩
 rw[List.set_set]
 refine⟨_,rfl,_,rfl,_,_,_,_,rfl,rA hz,J.gM,by decide,?_⟩
 rw[List.set_set]
 refine⟨_,rfl,_,ur (mT h1 e2),_,rfl,_,_,_,_,rfl,rA hz,J.iH,by decide,?_⟩
 rw[List.set_set]
 exact .inr (.inr (.inr hk))
noncomputable abbrev kN:Stmt:=inClass (top 18) 0
theorem Ar:av ["self","at","name","params","answers","needs","gives","steps"] ["self","at","name","params","answers","needs","gives","steps"] (aj kN):=fz
theorem AL (F:c8 K "__init__" "Helper.__init__" kN f fd)(J:Fx K mg A)(qo:xN P w K mg base k A):aU P w K mg base dG (k+1) f fd ["self","at","name","params","answers","needs","gives","steps"] (bA K (L6 A)):=by
 refine bM F Ar fun cdv B outer s H E hr=>?_
 rw[show ao kN=[_,_,_,_,_,_,_] from rfl]
 refine⟨_,(qs (bG (ah 0) (ah 1) rfl) (qs (bG (ah 0) (ah 2) rfl) (qs (bG (ah 0) (aD bq (by rfl) J.br boot_tuple (qa (ah 3) aa)) rfl) (qs (bG (ah 0) (aD bq (by rfl) J.br boot_tuple (qa (ah 4) aa)) rfl) (qs (bG (ah 0) (ai qo hr rfl (qa (ah 5) aa)) rfl) (qs (bG (ah 0) (ai qo hr rfl (qa (ah 6) aa)) rfl) (bO (bG (ah 0) (aD bq (by rfl) J.br boot_tuple (qa (ah 7) aa)) rfl)))))))),fun ds S kk hc hd h=>?_⟩
 obtain⟨i,d1,d2,d3,d4,d5,h,rfl,h1,e1,e2,e3,e4,e5,l3,l4,hk⟩:=h
 have hz:=(List.getElem?_eq_some_iff.mp h1).1
 refine⟨_,rfl,_,rfl,_,_,_,_,rfl,h1,J.lB,by decide,_,rfl,_,rfl,_,_,_,_,rfl,rA hz,J.iI,by decide,?_⟩
 rw[List.set_set]
 refine⟨_,rfl,_,ur (mT h1 e1),_,rfl,_,_,_,_,rfl,rA hz,J.gu,by decide,?_⟩
 rw[List.set_set]
 refine⟨_,rfl,_,ur (mT h1 e2),_,rfl,_,_,_,_,rfl,rA hz,J.fP,by decide,?_⟩
 rw[List.set_set]
 refine⟨_,rfl,_,_,rfl,mT h1 e3,l3,_,rfl,_,_,_,_,rfl,rA hz,J.gP,by decide,?_⟩
 rw[List.set_set]
 refine⟨_,rfl,_,_,rfl,mT h1 e4,l4,_,rfl,_,_,_,_,rfl,rA hz,J.gQ,by decide,?_⟩
 rw[List.set_set]
 refine⟨_,rfl,_,ur (mT h1 e5),_,rfl,_,_,_,_,rfl,rA hz,J.gO,by decide,?_⟩
 rw[List.set_set]
 exact .inr (.inr (.inr hk))
noncomputable abbrev jz:Stmt:=inClass (top 19) 0
theorem zf:av ["self","helpers"] ["self","helpers"] (aj jz):=fz
theorem zo (F:c8 K "__init__" "Program.__init__" jz f fd)(J:Fx K mg A) :aU P w K mg base dG (k+1) f fd ["self","helpers"] (bA K (LX A)):=by
 refine bM F zf fun cdv B outer s H E hr=>?_
 rw[show ao jz=[_] from rfl]
 refine⟨_,(bO (bG (ah 0) (aD bq (by rfl) J.br boot_tuple (qa (ah 1) aa)) rfl)),fun ds S kk hc hd h=>?_⟩
 obtain⟨i,d,hs,rfl,h1,e1,hk⟩:=h
 exact⟨_,rfl,_,ur e1,_,rfl,_,_,_,_,rfl,h1,J.fq,by decide,.inr (.inr (.inr hk))⟩
noncomputable abbrev pM:Stmt:=top 12
theorem EI:av ["pairs"] ["pairs"] (aj pM):=fz
theorem E5 (F:c8 K "as_pairs" "as_pairs" pM f fd)(J:Fx K mg A) :aU P w K mg base dG (k+1) f fd ["pairs"] (bA K (IG A)):=by
 refine bM F EI fun cdv B outer s H E hr=>?_
 rw[show ao pM=[_] from rfl]
 refine⟨_,(bO (az (aD bq (by rfl) J.br boot_tuple (qa (bU (aH ["pair"] [] [] rfl (by decide +kernel) (by decide +kernel) (by with_unfolding_all rfl) (by exact trivial) (by rfl) rfl (by rfl)) rfl (qi (ah 0)) (fun _ _ _ _=>(qx (i:=0) (show List.Nodup (["pair"]:List Str) by decide +kernel))) (fun _ _ _ _=>bf) (fun _ _ _ _=>(aD bq (by rfl) J.br boot_tuple (qa (ah 0) aa)))) aa)))),fun ds S kk hc hd h=>?_⟩
 obtain⟨d,l,rfl,h1,h2,h⟩:=h
 exact⟨_,rfl,QU h1 fun G hG=>dg (atT A) (atT A) (by simpa using hG []) (eX (by omega)) (fun x _ k' hk=>⟨_,rfl,_,rfl,_,rfl,hk⟩) ⟨_,rfl,jh hc h⟩⟩
noncomputable abbrev lU:Stmt:=top 14
theorem BH:av ["pairs"] ["pairs"] (aj lU):=fz
theorem BU (F:c8 K "told_pairs" "told_pairs" lU f fd)(J:Fx K mg A)(fQ:Ms P w K mg base k 4 (yr A) "told" ["self"] (gD A 3)):aU P w K mg base dG (k+1) f fd ["pairs"] (bA K (IC A)):=by
 refine bM F BH fun cdv B outer s H E hr=>?_
 rw[show ao lU=[_] from rfl]
 refine⟨_,(bO (az (aD bq (by rfl) J.br boot_tuple (qa (bU (aH ["at","condition"] [] [] rfl (by decide +kernel) (by decide +kernel) (by with_unfolding_all rfl) (by exact trivial) (by rfl) rfl (by rfl)) rfl (qi (ah 0)) (fun _ _ _ _=>(DC (n:=2) rfl (Qx (qx (i:=0) (show List.Nodup (["at","condition"]:List Str) by decide +kernel)) (Qx (qx (i:=1) (show List.Nodup (["at","condition"]:List Str) by decide +kernel)) zO)))) (fun _ _ _ _=>bf) (fun _ _ _ _=>(aO (qa (ah 0) (qa (bg (ah 1) fQ hr) aa))))) aa)))),fun ds S kk hc hd h=>?_⟩
 obtain⟨l,rfl,h1,h2,h⟩:=h
 refine⟨_,rfl,dI (dg (atT A) Ln trivial (eX (by omega)) (fun x hx k' hk=>?_) ⟨_,rfl,jh hc h⟩)⟩
 obtain⟨ns,l,i1,i2,_⟩:=oX A S x.2
 have hx:=h2 x hx
 exact⟨_,rfl,rfl,_,_,rfl,_,_,rfl,rfl,_,rfl,_,rfl,xV x.2,ns,l,ja x.2,i1,i2,x.2,rfl,rfl,hx.dep,by have:=hx.sz;omega,_,rfl,sz 2,_,rfl,hk⟩
noncomputable abbrev nP:Stmt:=top 13
theorem Dm:av ["parts"] ["parts"] (aj nP):=fz
theorem cT (F:c8 K "told_each" "told_each" nP f fd)(J:Fx K mg A)(MX:H8 P w K mg base k A n):aU P w K mg base dG (k+1) f fd ["parts"] (bA K (Df A n)):=by
 refine bM F Dm fun cdv B outer s H E hr=>?_
 rw[show ao nP=[_] from rfl]
 refine⟨_,(bO (az (aD bq (by rfl) J.br boot_tuple (qa (bU (aH ["part"] [] [] rfl (by decide +kernel) (by decide +kernel) (by with_unfolding_all rfl) (by exact trivial) (by rfl) rfl (by rfl)) rfl (qi (ah 0)) (fun _ _ _ _=>(qx (i:=0) (show List.Nodup (["part"]:List Str) by decide +kernel))) (fun _ _ _ _=>bf) (fun _ _ _ _=>(bg (ah 0) MX hr))) aa)))),fun ds S kk hc hd h=>?_⟩
 obtain⟨l,rfl,h1,h2,h⟩:=h
 refine⟨_,rfl,dI (dg (fun p:T×T=>p.1) (fun p=>p.2) trivial (eX (by omega)) (fun x hx k' hk=>?_) ⟨_,rfl,jh hc h⟩)⟩
 obtain⟨j,tx⟩:=h2 x hx
 obtain⟨ns,l,i1,i2,i3⟩:=WZ A S tx
 exact⟨_,rfl,j,ns,l,i3,i1,i2,x.1,x.2,rfl,tx,_,rfl,hk⟩
noncomputable abbrev jA:Stmt:=inClass (top 31) 4
theorem zg:av ["self"] ["self"] (aj jA):=fz
theorem lM (F:c8 K "told" "Compare.told" jA f fd)(J:Fx K mg A)(dW:jf P w K mg base k A):aU P w K mg base dG (k+1) f fd ["self"] (bA K (gD A (n+1) 0)):=by
 refine bM F zg fun cdv B outer s H E hr=>?_
 rw[show ao jA=[_] from rfl]
 refine⟨_,(bO (az (aO (qa aq (qa (bg (aK (ah 0) rfl) dW hr) (qa (aK (ah 0) rfl) (qa (bg (aK (ah 0) rfl) dW hr) aa))))))),fun ds S kk hc hd h=>?_⟩
 obtain⟨c,rfl,hj,hn,hs,h⟩:=h
 cases c with
 | cmp a s b =>
  unfold nJ
  exact⟨_,rfl,_,_,_,_,rfl,rfl,0,_,_,by decide,rfl,by decide +kernel,a,rfl,_,rfl,_,_,_,_,rfl,rfl,_,rfl,_,_,_,_,rfl,rfl,0,_,_,by decide,rfl,by decide +kernel,b,rfl,_,rfl,sz 4,jh hc (by unfold lG at h;exact h)⟩
 | neg c=>cases hj
 | con q cs=>cases q <;> cases hj
noncomputable abbrev kF:Stmt:=inClass (top 32) 4
theorem Am:av ["self"] ["self"] (aj kF):=fz
theorem nc (F:c8 K "told" "Turned.told" kF f fd)(J:Fx K mg A)(fQ:vq P w K mg base k A n):aU P w K mg base dG (k+1) f fd ["self"] (bA K (gD A (n+1) 1)):=by
 refine bM F Am fun cdv B outer s H E hr=>?_
 rw[show ao kF=[_] from rfl]
 refine⟨_,(bO (az (aO (qa aq (qa (bg (aK (ah 0) rfl) fQ hr) aa))))),fun ds S kk hc hd h=>?_⟩
 obtain⟨c,rfl,hj,hn,hs,h⟩:=h
 cases c with
 | cmp a s b=>cases hj
 | neg c =>
  unfold cO.dep at hn
  unfold cO.sz at hs
  obtain⟨ns,l,i1,i2,_⟩:=oX A S c
  unfold nJ
  exact⟨_,rfl,_,_,_,_,rfl,rfl,xV c,ns,l,ja c,i1,i2,c,rfl,rfl,by omega,by omega,_,rfl,sz 2,jh hc (by unfold lG at h;exact h)⟩
 | con q cs=>cases q <;> cases hj
noncomputable abbrev mj:Stmt:=inClass (top 34) 2
theorem BO:av ["self"] ["self"] (aj mj):=fz
theorem oE (F:c8 K "told" "Every.told" mj f fd)(J:Fx K mg A)(fQ:vq P w K mg base k A n):aU P w K mg base dG (k+1) f fd ["self"] (bA K (gD A (n+1) 2)):=by
 refine bM F BO fun cdv B outer s H E hr=>?_
 rw[show ao mj=[_] from rfl]
 refine⟨_,(bO (az (aL aF (aO (qa aq aa)) (aD bq (by rfl) J.br boot_tuple (qa (bU (aH ["condition"] [] [] rfl (by decide +kernel) (by decide +kernel) (by with_unfolding_all rfl) (by exact trivial) (by rfl) rfl (by rfl)) rfl (qi (aK (ah 0) rfl)) (fun _ _ _ _=>(qx (i:=0) (show List.Nodup (["condition"]:List Str) by decide +kernel))) (fun _ _ _ _=>bf) (fun _ _ _ _=>(bg (ah 0) fQ hr))) aa))))),fun ds S kk hc hd h=>?_⟩
 obtain⟨c,rfl,hj,hn,hs,h⟩:=h
 cases c with
 | cmp a s b=>cases hj
 | neg c=>cases hj
 | con q cs =>
  cases q with
  | false=>cases hj
  | true =>
   unfold cO.dep at hn
   unfold cO.sz at hs
   have hl:=nN cs
   unfold nJ
   rw[o5]
   refine⟨_,rfl,sz 1,_,rfl,_,_,_,_,rfl,rfl,dI (dg (nJ A) lG trivial (eX (by omega)) (fun c Ca k' hk=>?_) ?_)⟩
   ·have h1:=qk Ca
    have h2:=uL Ca
    obtain⟨ns,l,i1,i2,_⟩:=oX A S c
    exact⟨_,rfl,xV c,ns,l,ja c,i1,i2,c,rfl,rfl,by omega,by omega,_,rfl,hk⟩
   ·refine⟨_,rfl,eX (by simp;omega),jh hc ?_⟩
    unfold lG at h
    rw[xw] at h
    exact h
noncomputable abbrev nV:Stmt:=inClass (top 35) 2
theorem Ds:av ["self"] ["self"] (aj nV):=fz
theorem p8 (F:c8 K "told" "Some.told" nV f fd)(J:Fx K mg A)(fQ:vq P w K mg base k A n):aU P w K mg base dG (k+1) f fd ["self"] (bA K (gD A (n+1) 3)):=by
 refine bM F Ds fun cdv B outer s H E hr=>?_
 rw[show ao nV=[_] from rfl]
 refine⟨_,(bO (az (aL aF (aO (qa aq aa)) (aD bq (by rfl) J.br boot_tuple (qa (bU (aH ["condition"] [] [] rfl (by decide +kernel) (by decide +kernel) (by with_unfolding_all rfl) (by exact trivial) (by rfl) rfl (by rfl)) rfl (qi (aK (ah 0) rfl)) (fun _ _ _ _=>(qx (i:=0) (show List.Nodup (["condition"]:List Str) by decide +kernel))) (fun _ _ _ _=>bf) (fun _ _ _ _=>(bg (ah 0) fQ hr))) aa))))),fun ds S kk hc hd h=>?_⟩
 obtain⟨c,rfl,hj,hn,hs,h⟩:=h
 cases c with
 | cmp a s b=>cases hj
 | neg c=>cases hj
 | con q cs =>
  cases q with
  | true=>cases hj
  | false =>
   unfold cO.dep at hn
   unfold cO.sz at hs
   have hl:=nN cs
   unfold nJ
   rw[o5]
   refine⟨_,rfl,sz 1,_,rfl,_,_,_,_,rfl,rfl,dI (dg (nJ A) lG trivial (eX (by omega)) (fun c Ca k' hk=>?_) ?_)⟩
   ·have h1:=qk Ca
    have h2:=uL Ca
    obtain⟨ns,l,i1,i2,_⟩:=oX A S c
    exact⟨_,rfl,xV c,ns,l,ja c,i1,i2,c,rfl,rfl,by omega,by omega,_,rfl,hk⟩
   ·refine⟨_,rfl,eX (by simp;omega),jh hc ?_⟩
    unfold lG at h
    rw[xw] at h
    exact h
noncomputable abbrev pV:Stmt:=inClass (top 3) 1
theorem EO:av ["self"] ["self"] (aj pV):=fz
theorem eg (F:c8 K "told" "Let.told" pV f fd)(J:Fx K mg A)(dW:jf P w K mg base k A):aU P w K mg base dG (k+1) f fd ["self"] (bA K (kr A n 0)):=by
 refine bM F EO fun cdv B outer s H E hr=>?_
 rw[show ao pV=[_] from rfl]
 refine⟨_,(bO (az (aO (qa aq (qa (aK (ah 0) rfl) (qa (aK (ah 0) rfl) (qa (bg (aK (ah 0) rfl) dW hr) aa))))))),fun ds S kk hc hd h=>?_⟩
 obtain⟨s,rfl,hj,hg,hd2,h⟩:=h
 cases s with
 | lt a x s =>
  unfold jZ at h
  unfold nO
  refine⟨_,rfl,_,_,_,_,rfl,rfl,_,rfl,_,_,_,_,rfl,rfl,_,rfl,_,_,_,_,rfl,rfl,0,_,_,by decide,rfl,by decide +kernel,s,rfl,_,rfl,sz 4,jh hc h⟩
 | dv a x wd s b=>cases hj
 | ft a x r p=>cases hj
 | pt a r p s=>cases hj
 | mq a r z=>cases hj
 | cm a c=>cases hj
 | cl a ns hp g=>cases hj
 | ch a c t e=>cases hj
 | rp a c hs f b=>cases hj
noncomputable abbrev kO:Stmt:=inClass (top 4) 1
theorem As:av ["self"] ["self"] (aj kO):=fz
theorem cC (F:c8 K "told" "Divide.told" kO f fd)(J:Fx K mg A)(dW:jf P w K mg base k A):aU P w K mg base dG (k+1) f fd ["self"] (bA K (kr A n 1)):=by
 refine bM F As fun cdv B outer s H E hr=>?_
 rw[show ao kO=[_] from rfl]
 refine⟨_,(bO (az (aO (qa aq (qa (aK (ah 0) rfl) (qa (aK (ah 0) rfl) (qa (aK (ah 0) rfl) (qa (bg (aK (ah 0) rfl) dW hr) (qa (bg (aK (ah 0) rfl) dW hr) aa))))))))),fun ds S kk hc hd h=>?_⟩
 obtain⟨s,rfl,hj,hg,hd2,h⟩:=h
 cases s with
 | lt a x s=>cases hj
 | dv a x wd s b =>
  unfold jZ at h
  unfold nO
  refine⟨_,rfl,_,_,_,_,rfl,rfl,_,rfl,_,_,_,_,rfl,rfl,_,rfl,_,_,_,_,rfl,rfl,_,rfl,_,_,_,_,rfl,rfl,0,_,_,by decide,rfl,by decide +kernel,s,rfl,_,rfl,_,_,_,_,rfl,rfl,0,_,_,by decide,rfl,by decide +kernel,b,rfl,_,rfl,sz 6,jh hc h⟩
 | ft a x r p=>cases hj
 | pt a r p s=>cases hj
 | mq a r z=>cases hj
 | cm a c=>cases hj
 | cl a ns hp g=>cases hj
 | ch a c t e=>cases hj
 | rp a c hs f b=>cases hj
noncomputable abbrev lY:Stmt:=inClass (top 5) 1
theorem BK:av ["self"] ["self"] (aj lY):=fz
theorem cQ (F:c8 K "told" "Fetch.told" lY f fd)(J:Fx K mg A)(dW:jf P w K mg base k A):aU P w K mg base dG (k+1) f fd ["self"] (bA K (kr A n 2)):=by
 refine bM F BK fun cdv B outer s H E hr=>?_
 rw[show ao lY=[_] from rfl]
 refine⟨_,(bO (az (aO (qa aq (qa (aK (ah 0) rfl) (qa (aK (ah 0) rfl) (qa (aK (ah 0) rfl) (qa (bg (aK (ah 0) rfl) dW hr) aa)))))))),fun ds S kk hc hd h=>?_⟩
 obtain⟨s,rfl,hj,hg,hd2,h⟩:=h
 cases s with
 | lt a x s=>cases hj
 | dv a x wd s b=>cases hj
 | ft a x r p =>
  unfold jZ at h
  unfold nO
  refine⟨_,rfl,_,_,_,_,rfl,rfl,_,rfl,_,_,_,_,rfl,rfl,_,rfl,_,_,_,_,rfl,rfl,_,rfl,_,_,_,_,rfl,rfl,0,_,_,by decide,rfl,by decide +kernel,p,rfl,_,rfl,sz 5,jh hc h⟩
 | pt a r p s=>cases hj
 | mq a r z=>cases hj
 | cm a c=>cases hj
 | cl a ns hp g=>cases hj
 | ch a c t e=>cases hj
 | rp a c hs f b=>cases hj
noncomputable abbrev pR:Stmt:=inClass (top 6) 1
theorem EL:av ["self"] ["self"] (aj pR):=fz
theorem d9 (F:c8 K "told" "Put.told" pR f fd)(J:Fx K mg A)(dW:jf P w K mg base k A):aU P w K mg base dG (k+1) f fd ["self"] (bA K (kr A n 3)):=by
 refine bM F EL fun cdv B outer s H E hr=>?_
 rw[show ao pR=[_] from rfl]
 refine⟨_,(bO (az (aO (qa aq (qa (aK (ah 0) rfl) (qa (aK (ah 0) rfl) (qa (bg (aK (ah 0) rfl) dW hr) (qa (bg (aK (ah 0) rfl) dW hr) aa)))))))),fun ds S kk hc hd h=>?_⟩
 obtain⟨s,rfl,hj,hg,hd2,h⟩:=h
 cases s with
 | lt a x s=>cases hj
 | dv a x wd s b=>cases hj
 | ft a x r p=>cases hj
 | pt a r p s =>
  unfold jZ at h
  unfold nO
  refine⟨_,rfl,_,_,_,_,rfl,rfl,_,rfl,_,_,_,_,rfl,rfl,_,rfl,_,_,_,_,rfl,rfl,0,_,_,by decide,rfl,by decide +kernel,p,rfl,_,rfl,_,_,_,_,rfl,rfl,0,_,_,by decide,rfl,by decide +kernel,s,rfl,_,rfl,sz 5,jh hc h⟩
 | mq a r z=>cases hj
 | cm a c=>cases hj
 | cl a ns hp g=>cases hj
 | ch a c t e=>cases hj
 | rp a c hs f b=>cases hj
noncomputable abbrev nX:Stmt:=inClass (top 7) 1
theorem Dv:av ["self"] ["self"] (aj nX):=fz
theorem dz (F:c8 K "told" "Make.told" nX f fd)(J:Fx K mg A)(dW:jf P w K mg base k A):aU P w K mg base dG (k+1) f fd ["self"] (bA K (kr A n 4)):=by
 refine bM F Dv fun cdv B outer s H E hr=>?_
 rw[show ao nX=[_] from rfl]
 refine⟨_,(bO (az (aO (qa aq (qa (aK (ah 0) rfl) (qa (aK (ah 0) rfl) (qa (bg (aK (ah 0) rfl) dW hr) aa))))))),fun ds S kk hc hd h=>?_⟩
 obtain⟨s,rfl,hj,hg,hd2,h⟩:=h
 cases s with
 | lt a x s=>cases hj
 | dv a x wd s b=>cases hj
 | ft a x r p=>cases hj
 | pt a r p s=>cases hj
 | mq a r z =>
  unfold jZ at h
  unfold nO
  refine⟨_,rfl,_,_,_,_,rfl,rfl,_,rfl,_,_,_,_,rfl,rfl,_,rfl,_,_,_,_,rfl,rfl,0,_,_,by decide,rfl,by decide +kernel,z,rfl,_,rfl,sz 4,jh hc h⟩
 | cm a c=>cases hj
 | cl a ns hp g=>cases hj
 | ch a c t e=>cases hj
 | rp a c hs f b=>cases hj
noncomputable abbrev mz:Stmt:=inClass (top 8) 1
theorem BQ:av ["self"] ["self"] (aj mz):=fz
theorem cR (F:c8 K "told" "Claim.told" mz f fd)(J:Fx K mg A)(fQ:Ms P w K mg base k 4 (yr A) "told" ["self"] (gD A 3)):aU P w K mg base dG (k+1) f fd ["self"] (bA K (kr A n 5)):=by
 refine bM F BQ fun cdv B outer s H E hr=>?_
 rw[show ao mz=[_] from rfl]
 refine⟨_,(bO (az (aO (qa aq (qa (aK (ah 0) rfl) (qa (bg (aK (ah 0) rfl) fQ hr) aa)))))),fun ds S kk hc hd h=>?_⟩
 obtain⟨s,rfl,hj,hg,hd2,h⟩:=h
 cases s with
 | lt a x s=>cases hj
 | dv a x wd s b=>cases hj
 | ft a x r p=>cases hj
 | pt a r p s=>cases hj
 | mq a r z=>cases hj
 | cm a c =>
  obtain⟨ns,l,i1,i2,_⟩:=oX A S c
  unfold fF at hg
  unfold jZ at h
  unfold nO
  refine⟨_,rfl,_,_,_,_,rfl,rfl,_,rfl,_,_,_,_,rfl,rfl,xV c,ns,l,ja c,i1,i2,c,rfl,rfl,hg.dep,by have:=hg.sz;omega,_,rfl,sz 3,jh hc h⟩
 | cl a ns hp g=>cases hj
 | ch a c t e=>cases hj
 | rp a c hs f b=>cases hj
noncomputable abbrev n5:Stmt:=inClass (top 11) 1
theorem Dz:av ["self"] ["self"] (aj n5):=fz
theorem dF (F:c8 K "told" "Call.told" n5 f fd)(J:Fx K mg A)(eF:kX P w K mg base k A n):aU P w K mg base dG (k+1) f fd ["self"] (bA K (kr A n 6)):=by
 refine bM F Dz fun cdv B outer s H E hr=>?_
 rw[show ao n5=[_] from rfl]
 refine⟨_,(bO (az (aO (qa aq (qa (aK (ah 0) rfl) (qa (aK (ah 0) rfl) (qa (aK (ah 0) rfl) (qa (ai eF hr rfl (qa (aK (ah 0) rfl) aa)) aa)))))))),fun ds S kk hc hd h=>?_⟩
 obtain⟨s,rfl,hj,hg,hd2,h⟩:=h
 cases s with
 | lt a x s=>cases hj
 | dv a x wd s b=>cases hj
 | ft a x r p=>cases hj
 | pt a r p s=>cases hj
 | mq a r z=>cases hj
 | cm a c=>cases hj
 | cl a ns hp g =>
  unfold fF at hg
  unfold eG.dp at hd2
  unfold jZ at h
  unfold nO
  refine⟨_,rfl,_,_,_,_,rfl,rfl,_,rfl,_,_,_,_,rfl,rfl,_,rfl,_,_,_,_,rfl,rfl,_,rfl,_,_,_,_,rfl,rfl,g.map (fun s=>(qH A s,jl s)),by rw[List.map_map];rfl,by rw[List.length_map];omega,fun p hp=>?_,_,rfl,sz 5,jh hc ?_⟩
  ·obtain⟨s,_,rfl⟩:=List.mem_map.mp hp
   exact⟨10,.m s (by omega)⟩
  ·rw[List.map_map];exact h
 | ch a c t e=>cases hj
 | rp a c hs f b=>cases hj
noncomputable abbrev kR:Stmt:=inClass (top 9) 1
theorem Aw:av ["self"] ["self"] (aj kR):=fz
theorem cD (F:c8 K "told" "Choose.told" kR f fd)(J:Fx K mg A)(eF:kX P w K mg base k A n)(fQ:Ms P w K mg base k 4 (yr A) "told" ["self"] (gD A 3)):aU P w K mg base dG (k+1) f fd ["self"] (bA K (kr A n 7)):=by
 refine bM F Aw fun cdv B outer s H E hr=>?_
 rw[show ao kR=[_] from rfl]
 refine⟨_,(bO (az (aO (qa aq (qa (aK (ah 0) rfl) (qa (bg (aK (ah 0) rfl) fQ hr) (qa (ai eF hr rfl (qa (aK (ah 0) rfl) aa)) (qa (ai eF hr rfl (qa (aK (ah 0) rfl) aa)) aa)))))))),fun ds S kk hc hd h=>?_⟩
 obtain⟨s,rfl,hj,hg,hd2,h⟩:=h
 cases s with
 | lt a x s=>cases hj
 | dv a x wd s b=>cases hj
 | ft a x r p=>cases hj
 | pt a r p s=>cases hj
 | mq a r z=>cases hj
 | cm a c=>cases hj
 | cl a ns hp g=>cases hj
 | ch a c t e =>
  unfold fF at hg
  obtain⟨hg,g1,g2,l1,l2⟩:=hg
  unfold eG.dp at hd2
  unfold jZ at h
  unfold nO
  obtain⟨ns,l,i1,i2,_⟩:=oX A S c
  refine⟨_,rfl,_,_,_,_,rfl,rfl,_,rfl,_,_,_,_,rfl,rfl,xV c,ns,l,ja c,i1,i2,c,rfl,rfl,hg.dep,by have:=hg.sz;omega,_,rfl,_,_,_,_,rfl,rfl,t.map (fun s=>(nO A s,jZ s)),by rw[jm,List.map_map];rfl,by rw[List.length_map];omega,(fun p hp=>by obtain⟨s,hs,rfl⟩:=List.mem_map.mp hp;have:=kg hs;exact⟨_,.s s (g7 g1 hs) (by omega)⟩),_,rfl,_,_,_,_,rfl,rfl,e.map (fun s=>(nO A s,jZ s)),by rw[jm,List.map_map];rfl,by rw[List.length_map];omega,(fun p hp=>by obtain⟨s,hs,rfl⟩:=List.mem_map.mp hp;have:=kg hs;exact⟨_,.s s (g7 g2 hs) (by omega)⟩),_,rfl,sz 5,jh hc ?_⟩
  rw[gn,gn] at h
  rw[List.map_map,List.map_map]
  exact h
 | rp a c hs f b=>cases hj
noncomputable abbrev kI:Stmt:=inClass (top 10) 1
theorem mX:av ["self","falls"] ["self"] (aj kI):=fz
theorem cA (F:c8 K "told" "Repeat.told" kI f fd)(J:Fx K mg A)(eF:kX P w K mg base k A n)(mH:rS P w K mg base k A)(fQ:Ms P w K mg base k 4 (yr A) "told" ["self"] (gD A 3))(dW:jf P w K mg base k A):aU P w K mg base dG (k+1) f fd ["self"] (bA K (kr A n 8)):=by
 refine bM F mX fun cdv B outer s H E hr=>?_
 rw[show ao kI=[_,_,_] from rfl]
 refine⟨_,(qs (ay (i:=1) mX.nd wL) (qs (bF (aI zR (aK (ah 0) rfl) wL (aJ _)) (bO (ay (i:=1) mX.nd (aO (qa (aM (aK (ah 0) rfl) af) (qa (bg (aM (aK (ah 0) rfl) af) dW hr) aa))))) aY) (bO (az (aO (qa aq (qa (aK (ah 0) rfl) (qa (bg (aK (ah 0) rfl) fQ hr) (qa (ai mH hr rfl (qa (aK (ah 0) rfl) aa)) (qa (ah 1) (qa (ai eF hr rfl (qa (aK (ah 0) rfl) aa)) aa))))))))))),fun ds S kk hc hd h=>?_⟩
 obtain⟨s,rfl,hj,hg,hd2,h⟩:=h
 cases s with
 | lt a x s=>cases hj
 | dv a x wd s b=>cases hj
 | ft a x r p=>cases hj
 | pt a r p s=>cases hj
 | mq a r z=>cases hj
 | cm a c=>cases hj
 | cl a ns hp g=>cases hj
 | ch a c t e=>cases hj
 | rp a c hs f b =>
  unfold fF at hg
  obtain⟨hg,lh,gh,gf,g1,l1⟩:=hg
  unfold eG.dp at hd2
  unfold jZ at h
  unfold nO
  obtain⟨ns,l,i1,i2,_⟩:=oX A S c
  rw[gn] at h
  cases f with
  | none =>
   refine⟨_,rfl,_,_,_,_,rfl,rfl,false,rfl,_,rfl,_,_,_,_,rfl,rfl,_,rfl,_,_,_,_,rfl,rfl,xV c,ns,l,ja c,i1,i2,c,rfl,rfl,hg.dep,by have:=hg.sz;omega,_,rfl,_,_,_,_,rfl,rfl,hs,rfl,by omega,gh,_,rfl,_,rfl,_,_,_,_,rfl,rfl,b.map (fun s=>(nO A s,jZ s)),by rw[jm,List.map_map];rfl,by rw[List.length_map];omega,(fun p hp=>by obtain⟨s,hs,rfl⟩:=List.mem_map.mp hp;have:=kg hs;exact⟨_,.s s (g7 g1 hs) (by omega)⟩),_,rfl,sz 6,jh hc ?_⟩
   rw[List.map_map]
   exact h
  | some p =>
   refine⟨_,rfl,_,_,_,_,rfl,rfl,true,rfl,_,rfl,_,_,_,_,rfl,rfl,_,_,rfl,rfl,_,rfl,_,_,_,_,rfl,rfl,_,_,rfl,rfl,0,_,_,by decide,rfl,by decide +kernel,p.2,rfl,_,rfl,sz 2,_,rfl,_,_,_,_,rfl,rfl,_,rfl,_,_,_,_,rfl,rfl,xV c,ns,l,ja c,i1,i2,c,rfl,rfl,hg.dep,by have:=hg.sz;omega,_,rfl,_,_,_,_,rfl,rfl,hs,rfl,by omega,gh,_,rfl,_,rfl,_,_,_,_,rfl,rfl,b.map (fun s=>(nO A s,jZ s)),by rw[jm,List.map_map];rfl,by rw[List.length_map];omega,(fun p hp=>by obtain⟨s,hs,rfl⟩:=List.mem_map.mp hp;have:=kg hs;exact⟨_,.s s (g7 g1 hs) (by omega)⟩),_,rfl,sz 6,jh hc ?_⟩
   rw[List.map_map]
   exact h
noncomputable abbrev kL:Stmt:=inClass (top 18) 1
theorem Aq:av ["self"] ["self"] (aj kL):=fz
theorem cB (F:c8 K "told" "Helper.told" kL f fd)(J:Fx K mg A)(eF:kX P w K mg base k A n)(mH:rS P w K mg base k A):aU P w K mg base dG (k+1) f fd ["self"] (bA K (EG A n)):=by
 refine bM F Aq fun cdv B outer s H E hr=>?_
 rw[show ao kL=[_] from rfl]
 refine⟨_,(bO (az (aO (qa aq (qa (aK (ah 0) rfl) (qa (aK (ah 0) rfl) (qa (aK (ah 0) rfl) (qa (aK (ah 0) rfl) (qa (ai mH hr rfl (qa (aK (ah 0) rfl) aa)) (qa (ai mH hr rfl (qa (aK (ah 0) rfl) aa)) (qa (ai eF hr rfl (qa (aK (ah 0) rfl) aa)) aa))))))))))),fun ds S kk hc hd h=>?_⟩
 obtain⟨x,rfl,hg,hd2,h⟩:=h
 obtain⟨p1,p2,p3,p4,p5⟩:=hg.pl
 refine⟨_,rfl,_,_,_,_,rfl,rfl,_,rfl,_,_,_,_,rfl,rfl,_,rfl,_,_,_,_,rfl,rfl,_,rfl,_,_,_,_,rfl,rfl,_,rfl,_,_,_,_,rfl,rfl,x.needs,rfl,by omega,hg.nd,_,rfl,_,_,_,_,rfl,rfl,x.gives,rfl,by omega,hg.gv,_,rfl,_,_,_,_,rfl,rfl,x.steps.map (fun s=>(nO A s,jZ s)),by rw[jm,List.map_map];rfl,by rw[List.length_map];omega,(fun p hp=>by obtain⟨s,hs,rfl⟩:=List.mem_map.mp hp;have:=kg hs;exact⟨_,.s s (g7 hg.st hs) (by omega)⟩),_,rfl,sz 8,jh hc ?_⟩
 rw[List.map_map]
 unfold yl at h
 rw[gn] at h
 exact h
noncomputable abbrev jy:Stmt:=inClass (top 19) 2
theorem zd:av ["self"] ["self"] (aj jy):=fz
theorem zm (F:c8 K "told" "Program.told" jy f fd)(J:Fx K mg A)(eF:Dn P w K mg base k "told_each" ["parts"] (bA K (Df A 10))):aU P w K mg base dG (k+1) f fd ["self"] (bA K (Af A)):=by
 refine bM F zd fun cdv B outer s H E hr=>?_
 rw[show ao jy=[_] from rfl]
 refine⟨_,(bO (az (ai eF hr rfl (qa (aK (ah 0) rfl) aa)))),fun ds S kk hc hd h=>?_⟩
 obtain⟨hs,rfl,hl,hg,h⟩:=h
 refine⟨_,rfl,_,_,_,_,rfl,rfl,hs.map (fun x=>(Ll A x,yl x)),by rw[List.map_map];rfl,by rw[List.length_map];exact hl,(fun p hp=>?_),jh hc ?_⟩
 ·obtain⟨x,hx,rfl⟩:=List.mem_map.mp hp
  exact⟨9,.h x (hg x hx).1 (by have:=(hg x hx).2;omega)⟩
 ·rw[List.map_map];exact h
noncomputable abbrev nQ:Stmt:=top 26
theorem wz:av ["thing","weight","size"] ["thing","weight"] (aj nQ):=fz
theorem DI (F:c8 K "term_text" "term_text" nQ f fd)(J:Fx K mg A) :aU P w K mg base dG (k+1) f fd ["thing","weight"] (bA K ID):=by
 refine bM F wz fun cdv B outer s H E hr=>?_
 rw[show ao nQ=[_,_,_] from rfl]
 refine⟨_,(qs (ay (i:=2) wz.nd (cj FN (by rfl) J.FP boot_abs (qa (ah 1) aa))) (qs (bF (aI (fO 40 (uE hr)) (ah 2) af (aJ _)) (bO (az (ah 0))) aY) (bO (az (OG (GQ (ah 2) (GR (GQ (ah 0) DE)))))))),fun ds S kk hc hd h=>?_⟩
 obtain⟨t,w,rfl,hs,ht,h⟩:=h
 refine⟨_,rfl,_,rfl,rfl,?_⟩
 unfold iw at h
 by_cases h1:Bg w=1
 ·rw[if_pos h1] at h
  exact⟨true,congrArg D.bl (ieq h1),_,rfl,gk h⟩
 ·rw[if_neg h1] at h
  have hl:=qZ hs
  have z1:("*":Str).length=1:=by decide +kernel
  refine⟨false,congrArg D.bl (ine h1),_,rfl,hs.log,?_,?_,_,rfl,eX (by omega),?_,?_,gk ?_⟩
  ·rw[oi];exact eX (by show(qc w).length<=1000;omega)
  ·rw[oi,aS,z1];exact eX (by show(qc w).length+1<=1000;omega)
  ·rw[oi,aS,aS,z1];exact eX (by show(qc w).length+1+t.length<=1000;omega)
  ·rw[oi,aS,aS,z1];exact eX (by show(qc w).length+1+t.length<=1000;omega)
  ·rw[oi];exact h
noncomputable abbrev lV:Stmt:=top 27
theorem BI:av ["number"] ["number"] (aj lV):=fz
theorem BV (F:c8 K "sign_ahead" "sign_ahead" lV f fd)(J:Fx K mg A) :aU P w K mg base dG (k+1) f fd ["number"] (bA K Qu):=by
 refine bM F BI fun cdv B outer s H E hr=>?_
 rw[show ao lV=[_] from rfl]
 refine⟨_,(bO (az (VO (aI G8 (ah 0) af (aJ _)) aq aq))),fun ds S kk hc hd h=>?_⟩
 obtain⟨w,rfl,h⟩:=h
 unfold xH at h
 by_cases h1:w < 0
 ·rw[if_pos h1] at h
  exact⟨_,rfl,true,congrArg D.bl (decide_eq_true h1),gk h⟩
 ·rw[if_neg h1] at h
  exact⟨_,rfl,false,congrArg D.bl (decide_eq_false h1),gk h⟩
noncomputable abbrev jt:Stmt:=top 28
theorem yZ:av ["number"] ["number"] (aj jt):=fz
theorem zk (F:c8 K "sign_between" "sign_between" jt f fd)(J:Fx K mg A) :aU P w K mg base dG (k+1) f fd ["number"] (bA K Qt):=by
 refine bM F yZ fun cdv B outer s H E hr=>?_
 rw[show ao jt=[_] from rfl]
 refine⟨_,(bO (az (VO (aI G8 (ah 0) af (aJ _)) aq aq))),fun ds S kk hc hd h=>?_⟩
 obtain⟨w,rfl,h⟩:=h
 unfold k6 at h
 by_cases h1:w < 0
 ·rw[if_pos h1] at h
  exact⟨_,rfl,true,congrArg D.bl (decide_eq_true h1),gk h⟩
 ·rw[if_neg h1] at h
  exact⟨_,rfl,false,congrArg D.bl (decide_eq_false h1),gk h⟩
noncomputable abbrev pP:Stmt:=inClass (top 24) 8
theorem k7:av ["self","parts","written","number","part"] ["self"] (aj pP):=fz
theorem E6 (F:c8 K "text" "Sum.text" pP f fd)(J:Fx K mg A)(Bd:yz P w K mg base k)(Ec:Bq P w K mg base k)(FJ:Co P w K mg base k):aU P w K mg base dG (k+1) f fd ["self"] (bA K (Dg A)):=by
 refine bM F k7 fun cdv B outer s H E hr=>?_
 rw[show ao pP=[_,_,_,_,_] from rfl]
 refine⟨_,(qs (EU (i:=1) k7.nd (aH ["thing","weight"] [] [] rfl (by decide +kernel) (by decide +kernel) (by with_unfolding_all rfl) (by exact trivial) (by rfl) rfl (by rfl)) rfl (qi (aK (ah 0) rfl)) (fun _ _ _ _=>(DC (n:=2) rfl (Qx (qx (i:=0) (show List.Nodup (["thing","weight"]:List Str) by decide +kernel)) (Qx (qx (i:=1) (show List.Nodup (["thing","weight"]:List Str) by decide +kernel)) zO)))) (fun _ _ _ _=>bf) (fun _ _ _ _=>(aO (qa (ah 1) (qa (ai FJ hr rfl (qa (ah 0) (qa (ah 1) aa))) aa))))) (qs (bF (qw (Ay (aI (sX 40 (uE hr)) (aK (ah 0) rfl) af (aJ _)) (xZ (aI (fO 40 (uE hr)) (cj j6 (by rfl) J.j7 PySem.boot_len (qa (ah 1) aa)) af (aJ _))))) (bO (iD (iy (ah 1) (qa (aO (qa (aK (ah 0) rfl) (qa (aD NT (by rfl) J.Jz boot_str (qa (cj FN (by rfl) J.FP boot_abs (qa (aK (ah 0) rfl) aa)) aa)) aa))) aa)))) aY) (qs (ay (i:=2) k7.nd (jd (qa (aL aF (ai Ec hr rfl (qa (aM (aM (ah 1) af) af) aa)) (aM (aM (ah 1) af) af)) aa))) (qs (jD PassesOwn.never rfl (qi (oN false (ah 1) (cS af) fh)) (p6 (n:=2) rfl (yJ (qg (i:=3) k7.nd) (yJ (qg (i:=4) k7.nd) mE))) (bO (iD (iy (ah 2) (qa (aL aF (ai Bd hr rfl (qa (ah 3) aa)) (ah 4)) aa))))) (bO (az (fN aq (qa (ah 2) aa)))))))),fun ds S kk hc hd h=>?_⟩
 obtain⟨a,rfl,hg,h⟩:=h
 have hl3:=hg.len
 refine⟨_,rfl,_,_,_,_,rfl,rfl,dI ?_⟩
 refine dg pT (fun p=>qT (p.2,iw p.1 p.2)) trivial (eX (by omega)) (fun x hx k' hk=>⟨_,rfl,rfl,_,_,rfl,_,_,rfl,rfl,_,rfl,_,rfl,_,rfl,x.1,x.2,rfl,(hg.sh x hx).1,(hg.sh x hx).2,_,rfl,sz 2,_,rfl,hk⟩) ?_
 have ep:=AF a.1 a.2
 dsimp only[Fp]
 show JG _ _ _ _ _
 refine G1 (!decide (a.2=0)) (decide (a.1.length=0)) (fun k' hk=>⟨_,rfl,_,_,_,_,rfl,rfl,rfl,_,congrArg D.bl (by rw[je,Bool.true_xor]),hk⟩) (fun k' hk=>⟨_,rfl,_,kZ aB,rfl,_,congrArg D.bl (by rw[je,Bool.false_xor,List.length_map];exact decide_eq_decide.mpr (by omega)),hk⟩) ?_
 cases hb:(!decide (a.2=0) || decide (a.1.length=0)) with
 | true =>
  rw[hb,if_pos rfl] at ep
  refine⟨_,rfl,⟨rfl,_,bX aB⟩,_,rfl,_,_,_,_,rfl,rfl,_,rfl,_,_,_,_,rfl,rfl,hg.num.log,_,rfl,sz 2,_,aB,oA (by rw[List.length_map];omega),?_⟩
  have es:(S++[O.lst (a.1.map fun p=>qT (p.2,iw p.1 p.2))]).set S.length (O.lst ((a.1.map fun p=>qT (p.2,iw p.1 p.2))++[qT (a.2,qc a.2)]))=S++[O.lst ((eZ a.1 a.2).map qT)]:=by
   rw[gp,ep,List.map_append,List.map_map];rfl
  have es':(S++[O.lst (a.1.map fun p=>qT (p.2,iw p.1 p.2))]).set S.length (O.lst ((a.1.map fun p=>qT (p.2,iw p.1 p.2))++[.tup [.int a.2,.str (toString (Bg a.2))]]))=S++[O.lst ((eZ a.1 a.2).map qT)]:=es
  rw[es']
  obtain⟨q,r,eq⟩:=n9 a.1 a.2
  have hsm:=mF hg.short hg.num
  have hfw:=AG (n:=a.2) hg.short
  rw[eq] at hsm hfw
  rw[eq]
  rw[List.length_cons] at hfw
  have hq:=hsm q List.mem_cons_self
  have ha:(xH q.1).length<=1:=by unfold xH;split <;> decide +kernel
  refine⟨_,rfl,_,_,kZ aB,K4,_,_,rfl,rfl,q.1,rfl,_,rfl,_,_,kZ aB,K4,_,_,rfl,rfl,eX (by omega),_,rfl,sz 1,?_⟩
  rw[List.length_append,List.append_assoc]
  refine⟨_,rfl,1,rfl,_,bX (bC (j:=0)),?_⟩
  rw[if_neg Bool.false_ne_true,List.map_cons,gy]
  refine qv ?_
  refine uB qT (fun pre δ S'=>∃ y z,δ=[some (D.t (qH A a)),some (D.ob S.length),some (D.ob (S.length+1)),y,z]/\S'=S++[O.lst (qT q::r.map qT),O.lst (((xH q.1++q.2)::pre.map fun p=>k6 p.1++p.2).map T.str)]) ⟨_,_,rfl,rfl⟩ ?_ ?_
  ·rintro pre p post δ S' N e ⟨y,z,rfl,rfl⟩ hN
   have hp:=hsm p (List.mem_cons_of_mem _ (by rw[e];simp))
   have hl:pre.length<=20:=by rw[e,List.length_append] at hfw;omega
   have hs:=mW p.1
   refine⟨trivial,_,rfl,rfl,_,_,rfl,_,_,rfl,rfl,_,rfl,⟨rfl,_,bX (bC (j:=1))⟩,_,rfl,p.1,rfl,_,rfl,eX (by omega),_,bC (j:=1),oA (by simp;omega),?_⟩
   rw[g8 (j:=1)]
   refine hN _ _ ⟨_,_,rfl,?_⟩
   simp
  ·rintro δ S' ⟨y,z,rfl,rfl⟩
   refine⟨trivial,rfl,_,rfl,_,bX (bC (j:=1)),?_,Cg hc ?_⟩
   ·have:=iC (M:=169) (l:=(xH q.1++q.2)::r.map fun p=>k6 p.1++p.2) fun x hx=>by
     rcases List.mem_cons.mp hx with rfl | hx
     ·rw[aS];omega
     ·obtain⟨p,hp,rfl⟩:=List.mem_map.mp hx
      have:=hsm p (List.mem_cons_of_mem _ hp)
      have:=mW p.1
      rw[aS];omega
    rw[List.length_cons,List.length_map] at this
    have z:(Str.ofString "").length=0:=by decide +kernel
    rw[z]
    omega
   ·rw[EH eq];exact h
 | false =>
  rw[hb,if_neg Bool.false_ne_true,List.append_nil] at ep
  have es:S++[O.lst (a.1.map fun p=>qT (p.2,iw p.1 p.2))]=S++[O.lst ((eZ a.1 a.2).map qT)]:=by rw[ep,List.map_map];rfl
  rw[es]
  obtain⟨q,r,eq⟩:=n9 a.1 a.2
  have hsm:=mF hg.short hg.num
  have hfw:=AG (n:=a.2) hg.short
  rw[eq] at hsm hfw
  rw[eq]
  rw[List.length_cons] at hfw
  have hq:=hsm q List.mem_cons_self
  have ha:(xH q.1).length<=1:=by unfold xH;split <;> decide +kernel
  refine⟨_,rfl,_,_,kZ aB,K4,_,_,rfl,rfl,q.1,rfl,_,rfl,_,_,kZ aB,K4,_,_,rfl,rfl,eX (by omega),_,rfl,sz 1,?_⟩
  rw[List.length_append,List.append_assoc]
  refine⟨_,rfl,1,rfl,_,bX (bC (j:=0)),?_⟩
  rw[if_neg Bool.false_ne_true,List.map_cons,gy]
  refine qv ?_
  refine uB qT (fun pre δ S'=>∃ y z,δ=[some (D.t (qH A a)),some (D.ob S.length),some (D.ob (S.length+1)),y,z]/\S'=S++[O.lst (qT q::r.map qT),O.lst (((xH q.1++q.2)::pre.map fun p=>k6 p.1++p.2).map T.str)]) ⟨_,_,rfl,rfl⟩ ?_ ?_
  ·rintro pre p post δ S' N e ⟨y,z,rfl,rfl⟩ hN
   have hp:=hsm p (List.mem_cons_of_mem _ (by rw[e];simp))
   have hl:pre.length<=20:=by rw[e,List.length_append] at hfw;omega
   have hs:=mW p.1
   refine⟨trivial,_,rfl,rfl,_,_,rfl,_,_,rfl,rfl,_,rfl,⟨rfl,_,bX (bC (j:=1))⟩,_,rfl,p.1,rfl,_,rfl,eX (by omega),_,bC (j:=1),oA (by simp;omega),?_⟩
   rw[g8 (j:=1)]
   refine hN _ _ ⟨_,_,rfl,?_⟩
   simp
  ·rintro δ S' ⟨y,z,rfl,rfl⟩
   refine⟨trivial,rfl,_,rfl,_,bX (bC (j:=1)),?_,Cg hc ?_⟩
   ·have:=iC (M:=169) (l:=(xH q.1++q.2)::r.map fun p=>k6 p.1++p.2) fun x hx=>by
     rcases List.mem_cons.mp hx with rfl | hx
     ·rw[aS];omega
     ·obtain⟨p,hp,rfl⟩:=List.mem_map.mp hx
      have:=hsm p (List.mem_cons_of_mem _ hp)
      have:=mW p.1
      rw[aS];omega
    rw[List.length_cons,List.length_map] at this
    have z:(Str.ofString "").length=0:=by decide +kernel
    rw[z]
    omega
   ·rw[EH eq];exact h
noncomputable abbrev jB:Stmt:=inClass (top 31) 7
theorem iU:av ["self","one","sign","other"] ["self"] (aj jB):=fz
theorem lN (F:c8 K "text" "Compare.text" jB f fd)(J:Fx K mg A)(c6:gY P w K mg base k A):aU P w K mg base dG (k+1) f fd ["self"] (bA K (gE A (n+1) 0)):=by
 refine bM F iU fun cdv B outer s H E hr=>?_
 rw[show ao jB=[_,_,_,_] from rfl]
 refine⟨_,(qs (ay (i:=1) iU.nd (bg (aK (ah 0) rfl) c6 hr)) (qs (ay (i:=2) iU.nd (aK (ah 0) rfl)) (qs (ay (i:=3) iU.nd (bg (aK (ah 0) rfl) c6 hr)) (bO (az (OG (GQ (ah 1) (GR (GQ (ah 2) (GR (GQ (ah 3) DE))))))))))),fun ds S kk hc hd h=>?_⟩
 obtain⟨c,rfl,hj,hn,hg,hs,h⟩:=h
 cases c with
 | cmp a s b =>
  unfold v5 at hg
  unfold uC at h
  unfold nJ
  have la:=bD hg.1
  have lb:=bD hg.2.1
  have ls:=hg.2.2
  have z1:(" ":Str).length=1:=by decide +kernel
  refine⟨_,rfl,_,_,_,_,rfl,rfl,0,_,_,by decide,rfl,by decide +kernel,a,rfl,hg.1,_,rfl,_,_,_,_,rfl,rfl,_,rfl,_,_,_,_,rfl,rfl,0,_,_,by decide,rfl,by decide +kernel,b,rfl,hg.2.1,_,rfl,eX (by omega),?_,?_,_,rfl,eX (by omega),?_,?_,_,rfl,eX (by omega),?_,?_,gk ?_⟩
  all_goals rw[oi]
  ·exact eX (by omega)
  ·rw[aS,z1];exact eX (by omega)
  ·rw[aS,aS,z1];exact eX (by omega)
  ·rw[aS,aS,aS,z1];exact eX (by omega)
  ·rw[aS,aS,aS,aS,z1];exact sU (by omega)
  ·rw[aS,aS,aS,aS,z1];exact sU (by omega)
  ·exact h
 | neg c=>cases hj
 | con q cs=>cases q <;> cases hj
noncomputable abbrev kG:Stmt:=inClass (top 32) 7
theorem qM:av ["self","inner"] ["self"] (aj kG):=fz
theorem ng (F:c8 K "text" "Turned.text" kG f fd)(J:Fx K mg A)(gU:Bp P w K mg base k A n):aU P w K mg base dG (k+1) f fd ["self"] (bA K (gE A (n+1) 1)):=by
 refine bM F qM fun cdv B outer s H E hr=>?_
 rw[show ao kG=[_,_] from rfl]
 refine⟨_,(qs (ay (i:=1) qM.nd (bg (aK (ah 0) rfl) gU hr)) (bO (az (OG (GR (GQ (ah 1) (GR DE))))))),fun ds S kk hc hd h=>?_⟩
 obtain⟨c,rfl,hj,hn,hg,hs,h⟩:=h
 cases c with
 | cmp a s b=>cases hj
 | neg c =>
  unfold v5 at hg
  unfold cO.dep at hn
  unfold cO.sz at hs
  unfold uC at h
  unfold nJ
  obtain⟨ns,l,i1,_,i2⟩:=oX A S c
  have lc:=qm c hg (by omega)
  have z1:("not (":Str).length=5:=by decide +kernel
  have z2:(")":Str).length=1:=by decide +kernel
  refine⟨_,rfl,_,_,_,_,rfl,rfl,xV c,ns,l,ja c,i1,i2,c,rfl,rfl,by omega,hg,by omega,?_,_,rfl,sU (by omega),?_,?_,?_,gk ?_⟩
  all_goals rw[oi]
  ·exact eX (by omega)
  ·rw[aS,z1];exact sU (by omega)
  ·rw[aS,aS,z1,z2];exact sU (by omega)
  ·rw[aS,aS,z1,z2];exact sU (by omega)
  ·exact h
 | con q cs=>cases q <;> cases hj
noncomputable abbrev mw:Stmt:=inClass (top 34) 5
theorem BP:av ["self"] ["self"] (aj mw):=fz
theorem oF (F:c8 K "text" "Every.text" mw f fd)(J:Fx K mg A)(oJ:qA P w K mg base k A n):aU P w K mg base dG (k+1) f fd ["self"] (bA K (gE A (n+1) 2)):=by
 refine bM F BP fun cdv B outer s H E hr=>?_
 rw[show ao mw=[_] from rfl]
 refine⟨_,(bO (az (fN aq (qa (bU (aH ["condition"] [] [] rfl (by decide +kernel) (by decide +kernel) (by with_unfolding_all rfl) (by exact trivial) (by rfl) rfl (by rfl)) rfl (qi (aK (ah 0) rfl)) (fun _ _ _ _=>(qx (i:=0) (show List.Nodup (["condition"]:List Str) by decide +kernel))) (fun _ _ _ _=>bf) (fun _ _ _ _=>(ai oJ hr rfl (qa (ah 0) aa)))) aa)))),fun ds S kk hc hd h=>?_⟩
 obtain⟨c,rfl,hj,hn,hg,hs,h⟩:=h
 cases c with
 | cmp a s b=>cases hj
 | neg c=>cases hj
 | con q cs =>
  cases q with
  | false=>cases hj
  | true =>
   unfold v5 at hg
   unfold cO.dep at hn
   unfold cO.sz at hs
   unfold uC at h
   have hl:=nN cs
   have hw:=qI cs hg (by omega)
   unfold nJ
   rw[o5]
   refine⟨rfl,_,rfl,_,_,_,_,rfl,rfl,dI (dg (nJ A) (fun c=>T.str (Gs c)) trivial (eX (by omega)) (fun c Ca k' hk=>?_) ?_)⟩
   ·have h1:=qk Ca
    have h2:=uL Ca
    exact⟨_,rfl,c,rfl,by omega,xu hg Ca,by omega,_,rfl,hk⟩
   ·refine⟨cs.map Gs,by rw[List.map_map];rfl,?_,gk ?_⟩
    ·rw[mU] at hw
     have z:(" and ":Str).length<=5:=by decide +kernel
     have z2:=Nat.mul_le_mul_left (cs.map Gs).length z
     rw[List.length_map] at z2 ⊢
     show _<=16777216
     omega
    ·rw[mU] at h;exact h
noncomputable abbrev nW:Stmt:=inClass (top 35) 5
theorem Du:av ["self"] ["self"] (aj nW):=fz
theorem p9 (F:c8 K "text" "Some.text" nW f fd)(J:Fx K mg A)(oJ:qA P w K mg base k A n):aU P w K mg base dG (k+1) f fd ["self"] (bA K (gE A (n+1) 3)):=by
 refine bM F Du fun cdv B outer s H E hr=>?_
 rw[show ao nW=[_] from rfl]
 refine⟨_,(bO (az (fN aq (qa (bU (aH ["condition"] [] [] rfl (by decide +kernel) (by decide +kernel) (by with_unfolding_all rfl) (by exact trivial) (by rfl) rfl (by rfl)) rfl (qi (aK (ah 0) rfl)) (fun _ _ _ _=>(qx (i:=0) (show List.Nodup (["condition"]:List Str) by decide +kernel))) (fun _ _ _ _=>bf) (fun _ _ _ _=>(ai oJ hr rfl (qa (ah 0) aa)))) aa)))),fun ds S kk hc hd h=>?_⟩
 obtain⟨c,rfl,hj,hn,hg,hs,h⟩:=h
 cases c with
 | cmp a s b=>cases hj
 | neg c=>cases hj
 | con q cs =>
  cases q with
  | true=>cases hj
  | false =>
   unfold v5 at hg
   unfold cO.dep at hn
   unfold cO.sz at hs
   unfold uC at h
   have hl:=nN cs
   have hw:=qI cs hg (by omega)
   unfold nJ
   rw[o5]
   refine⟨rfl,_,rfl,_,_,_,_,rfl,rfl,dI (dg (nJ A) (fun c=>T.str (Gs c)) trivial (eX (by omega)) (fun c Ca k' hk=>?_) ?_)⟩
   ·have h1:=qk Ca
    have h2:=uL Ca
    exact⟨_,rfl,c,rfl,by omega,xu hg Ca,by omega,_,rfl,hk⟩
   ·refine⟨cs.map Gs,by rw[List.map_map];rfl,?_,gk ?_⟩
    ·rw[mU] at hw
     have z:(" or ":Str).length<=5:=by decide +kernel
     have z2:=Nat.mul_le_mul_left (cs.map Gs).length z
     rw[List.length_map] at z2 ⊢
     show _<=16777216
     omega
    ·rw[mU] at h;exact h
noncomputable abbrev kB:Stmt:=top 37
theorem qL:av ["condition","written"] ["condition"] (aj kB):=fz
theorem m7 (F:c8 K "text_within" "text_within" kB f fd)(J:Fx K mg A)(gU:Bp P w K mg base k A n):aU P w K mg base dG (k+1) f fd ["condition"] (bA K (EC A n)):=by
 refine bM F qL fun cdv B outer s H E hr=>?_
 rw[show ao kB=[_,_,_] from rfl]
 refine⟨_,(qs (ay (i:=1) qL.nd (bg (ah 0) gU hr)) (qs (bF (GP (cj (Rf (c:=.ref A.dJ) trivial rfl) (by rfl) J.xD boot_isinstance (qa (ah 0) (qa (JL (OY (v:=.ref A.dJ) rfl J.oY rfl)) aa)))) (bO (az (OG (GR (GQ (ah 1) (GR DE)))))) aY) (bO (az (ah 1))))),fun ds S kk hc hd h=>?_⟩
 obtain⟨c,rfl,hn,hg,hs,h⟩:=h
 obtain⟨ns,l,i1,_,i2⟩:=oX A S c
 have lc:=qm c hg (by omega)
 have z1:("(":Str).length=1:=by decide +kernel
 have z2:(")":Str).length=1:=by decide +kernel
 refine⟨_,rfl,xV c,ns,l,ja c,i1,i2,c,rfl,rfl,hn,hg,hs,_,rfl,rfl,_,_,U8 A _ c,J.kS _ (ja c),_,rfl,?_⟩
 unfold Gs at h
 by_cases h2:2<=xV c
 ·rw[if_pos h2] at h
  rw[decide_eq_true h2]
  refine⟨?_,_,rfl,sU (by omega),?_,?_,?_,gk ?_⟩
  all_goals rw[oi]
  ·exact eX (by omega)
  ·rw[aS,z1];exact sU (by omega)
  ·rw[aS,aS,z1,z2];exact sU (by omega)
  ·rw[aS,aS,z1,z2];exact sU (by omega)
  ·exact h
 ·rw[if_neg h2] at h
  rw[decide_eq_false h2]
  exact⟨_,rfl,gk h⟩
noncomputable abbrev pW:Stmt:=inClass (top 3) 4
theorem ER:av ["self"] ["self"] (aj pW):=fz
theorem fk (F:c8 K "as_rows" "Let.as_rows" pW f fd)(J:Fx K mg A)(c6:gY P w K mg base k A):aU P w K mg base dG (k+1) f fd ["self"] (bA K (dw A (n+1) 0)):=by
 refine bM F ER fun cdv B outer s H E hr=>?_
 rw[show ao pW=[_] from rfl]
 refine⟨_,(bO (az (bW (qa (fN aq (qa (bW (qa aq (qa (aK (ah 0) rfl) (qa aq (qa (bg (aK (ah 0) rfl) c6 hr) aa))))) aa)) aa)))),fun ds S kk hc hd h=>?_⟩
 obtain⟨s,rfl,hj,hg,hd2,hrw,h⟩:=h
 cases s with
 | lt a x s =>
  unfold fF at hg
  unfold rws at h
  unfold nO
  have l1:=bD hg.2
  have l2:=hg.1
  have y0:(Str.ofString "let").length<=10:=by decide +kernel
  have y1:(Str.ofString "=").length<=10:=by decide +kernel
  have y9:(Str.ofString " ").length=1:=by decide +kernel
  refine⟨rfl,_,rfl,_,_,_,_,rfl,rfl,_,rfl,_,_,_,_,rfl,rfl,0,_,_,by decide,rfl,by decide +kernel,s,rfl,hg.2,_,rfl,sz 4,[("let":Str),x,("=":Str),ku s],rfl,by simp only[List.map_cons,List.map_nil,List.sum_cons,List.sum_nil,List.length_cons,List.length_nil];omega,_,rfl,sz 1,gk ?_⟩
  rw[j_lt]
  exact h
 | dv a x wd s b=>cases hj
 | ft a x r p=>cases hj
 | pt a r p s=>cases hj
 | mq a r z=>cases hj
 | cm a c=>cases hj
 | cl a ns hp g=>cases hj
 | ch a c t e=>cases hj
 | rp a c hs f b=>cases hj
noncomputable abbrev kP:Stmt:=inClass (top 4) 4
theorem Au:av ["self"] ["self"] (aj kP):=fz
theorem cW (F:c8 K "as_rows" "Divide.as_rows" kP f fd)(J:Fx K mg A)(c6:gY P w K mg base k A):aU P w K mg base dG (k+1) f fd ["self"] (bA K (dw A (n+1) 1)):=by
 refine bM F Au fun cdv B outer s H E hr=>?_
 rw[show ao kP=[_] from rfl]
 refine⟨_,(bO (az (bW (qa (fN aq (qa (bW (qa aq (qa (aK (ah 0) rfl) (qa aq (qa (bg (aK (ah 0) rfl) c6 hr) (qa (aK (ah 0) rfl) (qa (bg (aK (ah 0) rfl) c6 hr) aa))))))) aa)) aa)))),fun ds S kk hc hd h=>?_⟩
 obtain⟨s,rfl,hj,hg,hd2,hrw,h⟩:=h
 cases s with
 | lt a x s=>cases hj
 | dv a x wd s b =>
  unfold fF at hg
  unfold rws at h
  unfold nO
  have l1:=bD hg.2.2.1
  have l2:=bD hg.2.2.2
  have l3:=hg.1
  have l4:=hg.2.1
  have y0:(Str.ofString "let").length<=10:=by decide +kernel
  have y1:(Str.ofString "=").length<=10:=by decide +kernel
  have y9:(Str.ofString " ").length=1:=by decide +kernel
  refine⟨rfl,_,rfl,_,_,_,_,rfl,rfl,_,rfl,_,_,_,_,rfl,rfl,0,_,_,by decide,rfl,by decide +kernel,s,rfl,hg.2.2.1,_,rfl,_,_,_,_,rfl,rfl,_,rfl,_,_,_,_,rfl,rfl,0,_,_,by decide,rfl,by decide +kernel,b,rfl,hg.2.2.2,_,rfl,sz 6,[("let":Str),x,("=":Str),ku s,wd,ku b],rfl,by simp only[List.map_cons,List.map_nil,List.sum_cons,List.sum_nil,List.length_cons,List.length_nil];omega,_,rfl,sz 1,gk ?_⟩
  rw[ZD]
  exact h
 | ft a x r p=>cases hj
 | pt a r p s=>cases hj
 | mq a r z=>cases hj
 | cm a c=>cases hj
 | cl a ns hp g=>cases hj
 | ch a c t e=>cases hj
 | rp a c hs f b=>cases hj
noncomputable abbrev lZ:Stmt:=inClass (top 5) 4
theorem BL:av ["self"] ["self"] (aj lZ):=fz
theorem dB (F:c8 K "as_rows" "Fetch.as_rows" lZ f fd)(J:Fx K mg A)(c6:gY P w K mg base k A):aU P w K mg base dG (k+1) f fd ["self"] (bA K (dw A (n+1) 2)):=by
 refine bM F BL fun cdv B outer s H E hr=>?_
 rw[show ao lZ=[_] from rfl]
 refine⟨_,(bO (az (bW (qa (fN aq (qa (bW (qa aq (qa (aK (ah 0) rfl) (qa aq (qa (aK (ah 0) rfl) (qa aq (qa (bg (aK (ah 0) rfl) c6 hr) aa))))))) aa)) aa)))),fun ds S kk hc hd h=>?_⟩
 obtain⟨s,rfl,hj,hg,hd2,hrw,h⟩:=h
 cases s with
 | lt a x s=>cases hj
 | dv a x wd s b=>cases hj
 | ft a x r p =>
  unfold fF at hg
  unfold rws at h
  unfold nO
  have l1:=bD hg.2.2
  have l3:=hg.1
  have l4:=hg.2.1
  have y0:(Str.ofString "let").length<=10:=by decide +kernel
  have y1:(Str.ofString "=").length<=10:=by decide +kernel
  have y2:(Str.ofString "at").length<=10:=by decide +kernel
  have y9:(Str.ofString " ").length=1:=by decide +kernel
  refine⟨rfl,_,rfl,_,_,_,_,rfl,rfl,_,rfl,_,_,_,_,rfl,rfl,_,rfl,_,_,_,_,rfl,rfl,0,_,_,by decide,rfl,by decide +kernel,p,rfl,hg.2.2,_,rfl,sz 6,[("let":Str),x,("=":Str),r,("at":Str),ku p],rfl,by simp only[List.map_cons,List.map_nil,List.sum_cons,List.sum_nil,List.length_cons,List.length_nil];omega,_,rfl,sz 1,gk ?_⟩
  rw[ZC]
  exact h
 | pt a r p s=>cases hj
 | mq a r z=>cases hj
 | cm a c=>cases hj
 | cl a ns hp g=>cases hj
 | ch a c t e=>cases hj
 | rp a c hs f b=>cases hj
noncomputable abbrev pS:Stmt:=inClass (top 6) 3
theorem EM:av ["self"] ["self"] (aj pS):=fz
theorem fj (F:c8 K "as_rows" "Put.as_rows" pS f fd)(J:Fx K mg A)(c6:gY P w K mg base k A):aU P w K mg base dG (k+1) f fd ["self"] (bA K (dw A (n+1) 3)):=by
 refine bM F EM fun cdv B outer s H E hr=>?_
 rw[show ao pS=[_] from rfl]
 refine⟨_,(bO (az (bW (qa (fN aq (qa (bW (qa aq (qa (aK (ah 0) rfl) (qa aq (qa (bg (aK (ah 0) rfl) c6 hr) (qa aq (qa (bg (aK (ah 0) rfl) c6 hr) aa))))))) aa)) aa)))),fun ds S kk hc hd h=>?_⟩
 obtain⟨s,rfl,hj,hg,hd2,hrw,h⟩:=h
 cases s with
 | lt a x s=>cases hj
 | dv a x wd s b=>cases hj
 | ft a x r p=>cases hj
 | pt a r p s =>
  unfold fF at hg
  unfold rws at h
  unfold nO
  have l1:=bD hg.2.1
  have l2:=bD hg.2.2
  have l3:=hg.1
  have y0:(Str.ofString "put").length<=10:=by decide +kernel
  have y1:(Str.ofString "=").length<=10:=by decide +kernel
  have y2:(Str.ofString "at").length<=10:=by decide +kernel
  have y9:(Str.ofString " ").length=1:=by decide +kernel
  refine⟨rfl,_,rfl,_,_,_,_,rfl,rfl,_,rfl,_,_,_,_,rfl,rfl,0,_,_,by decide,rfl,by decide +kernel,p,rfl,hg.2.1,_,rfl,_,_,_,_,rfl,rfl,0,_,_,by decide,rfl,by decide +kernel,s,rfl,hg.2.2,_,rfl,sz 6,[("put":Str),r,("at":Str),ku p,("=":Str),ku s],rfl,by simp only[List.map_cons,List.map_nil,List.sum_cons,List.sum_nil,List.length_cons,List.length_nil];omega,_,rfl,sz 1,gk ?_⟩
  rw[Zz]
  exact h
 | mq a r z=>cases hj
 | cm a c=>cases hj
 | cl a ns hp g=>cases hj
 | ch a c t e=>cases hj
 | rp a c hs f b=>cases hj
noncomputable abbrev nY:Stmt:=inClass (top 7) 4
theorem Dw:av ["self"] ["self"] (aj nY):=fz
theorem dX (F:c8 K "as_rows" "Make.as_rows" nY f fd)(J:Fx K mg A)(c6:gY P w K mg base k A):aU P w K mg base dG (k+1) f fd ["self"] (bA K (dw A (n+1) 4)):=by
 refine bM F Dw fun cdv B outer s H E hr=>?_
 rw[show ao nY=[_] from rfl]
 refine⟨_,(bO (az (bW (qa (fN aq (qa (bW (qa aq (qa (aK (ah 0) rfl) (qa aq (qa (bg (aK (ah 0) rfl) c6 hr) aa))))) aa)) aa)))),fun ds S kk hc hd h=>?_⟩
 obtain⟨s,rfl,hj,hg,hd2,hrw,h⟩:=h
 cases s with
 | lt a x s=>cases hj
 | dv a x wd s b=>cases hj
 | ft a x r p=>cases hj
 | pt a r p s=>cases hj
 | mq a r z =>
  unfold fF at hg
  unfold rws at h
  unfold nO
  have l1:=bD hg.2
  have l3:=hg.1
  have y0:(Str.ofString "row").length<=10:=by decide +kernel
  have y1:(Str.ofString "=").length<=10:=by decide +kernel
  have y9:(Str.ofString " ").length=1:=by decide +kernel
  refine⟨rfl,_,rfl,_,_,_,_,rfl,rfl,_,rfl,_,_,_,_,rfl,rfl,0,_,_,by decide,rfl,by decide +kernel,z,rfl,hg.2,_,rfl,sz 4,[("row":Str),r,("=":Str),ku z],rfl,by simp only[List.map_cons,List.map_nil,List.sum_cons,List.sum_nil,List.length_cons,List.length_nil];omega,_,rfl,sz 1,gk ?_⟩
  rw[ZA]
  exact h
 | cm a c=>cases hj
 | cl a ns hp g=>cases hj
 | ch a c t e=>cases hj
 | rp a c hs f b=>cases hj
noncomputable abbrev mC:Stmt:=inClass (top 8) 3
theorem BR:av ["self"] ["self"] (aj mC):=fz
theorem dD (F:c8 K "as_rows" "Claim.as_rows" mC f fd)(J:Fx K mg A)(gU:Ms P w K mg base k 4 (yr A) "text" ["self"] (gE A 3)):aU P w K mg base dG (k+1) f fd ["self"] (bA K (dw A (n+1) 5)):=by
 refine bM F BR fun cdv B outer s H E hr=>?_
 rw[show ao mC=[_] from rfl]
 refine⟨_,(bO (az (bW (qa (aL aF aq (bg (aK (ah 0) rfl) gU hr)) aa)))),fun ds S kk hc hd h=>?_⟩
 obtain⟨s,rfl,hj,hg,hd2,hrw,h⟩:=h
 cases s with
 | lt a x s=>cases hj
 | dv a x wd s b=>cases hj
 | ft a x r p=>cases hj
 | pt a r p s=>cases hj
 | mq a r z=>cases hj
 | cm a c =>
  unfold fF at hg
  unfold rws at h
  unfold nO
  obtain⟨ns,l,i1,_,i2⟩:=oX A S c
  have lc:=jI hg
  have z1:("claim ":Str).length=6:=by decide +kernel
  exact⟨_,rfl,_,_,_,_,rfl,rfl,xV c,ns,l,ja c,i1,i2,c,rfl,rfl,hg.dep,hg.g,hg.sz,sU (by rw[z1];omega),_,rfl,sz 1,gk h⟩
 | cl a ns hp g=>cases hj
 | ch a c t e=>cases hj
 | rp a c hs f b=>cases hj
noncomputable abbrev kT:Stmt:=inClass (top 9) 4
theorem mZ:av ["self","rows"] ["self"] (aj kT):=fz
theorem cX (F:c8 K "as_rows" "Choose.as_rows" kT f fd)(J:Fx K mg A)(e8:oq P w K mg base k A n)(gU:Ms P w K mg base k 4 (yr A) "text" ["self"] (gE A 3)):aU P w K mg base dG (k+1) f fd ["self"] (bA K (dw A (n+1) 7)):=by
 refine bM F mZ fun cdv B outer s H E hr=>?_
 rw[show ao kT=[_,_,_] from rfl]
 refine⟨_,(qs (ay (i:=1) mZ.nd (aL aF (bW (qa (aL aF aq (bg (aK (ah 0) rfl) gU hr)) aa)) (ai e8 hr rfl (qa (aK (ah 0) rfl) aa)))) (qs (bF (aI G9 (cj j6 (by rfl) J.j7 PySem.boot_len (qa (aK (ah 0) rfl) aa)) af (aJ _)) (bO (ay (i:=1) mZ.nd (aL aF (aL aF (ah 1) (bW (qa aq aa))) (ai e8 hr rfl (qa (aK (ah 0) rfl) aa))))) aY) (bO (az (aL aF (ah 1) (bW (qa aq aa))))))),fun ds S kk hc hd h=>?_⟩
 obtain⟨s,rfl,hj,hg,hd2,hrw,h⟩:=h
 cases s with
 | lt a x s=>cases hj
 | dv a x wd s b=>cases hj
 | ft a x r p=>cases hj
 | pt a r p s=>cases hj
 | mq a r z=>cases hj
 | cm a c=>cases hj
 | cl a ns hp g=>cases hj
 | ch a c t e =>
  unfold fF at hg
  obtain⟨hg,g1,g2,l1,l2⟩:=hg
  unfold eG.dp at hd2
  unfold rws at h hrw
  unfold nO
  obtain⟨ns,l,i1,_,i2⟩:=oX A S c
  have lc:=jI hg
  have z1:("if ":Str).length=3:=by decide +kernel
  have ht:(aX t).length<=1000:=by simp only[List.length_append,List.length_cons] at hrw;omega
  refine⟨_,rfl,_,_,_,_,rfl,rfl,xV c,ns,l,ja c,i1,i2,c,rfl,rfl,hg.dep,hg.g,hg.sz,sU (by rw[z1];omega),_,rfl,sz 1,_,rfl,_,_,_,_,rfl,rfl,t,rfl,g1,by omega,ht,_,_,rfl,rfl,dc (by simp;omega),_,rfl,_,_,_,_,rfl,rfl,_,rfl,?_⟩
  by_cases he:e=[]
  ·subst he
   rw[if_pos rfl,List.append_nil] at h
   refine⟨false,congrArg D.bl (decide_eq_false (by unfold sV;decide)),_,rfl,_,rfl,sz 1,_,_,rfl,rfl,dc (by simp;omega),gk ?_⟩
   simp at h ⊢
   exact h
  ·rw[if_neg he] at h hrw
   have hel:(aX e).length<=1000:=by simp only[List.length_append,List.length_cons] at hrw;omega
   have hep:=List.length_pos_iff.mpr he
   refine⟨true,congrArg D.bl (decide_eq_true (by rw[jm,List.length_map];omega)),_,rfl,_,rfl,sz 1,_,_,rfl,rfl,dc (by simp;omega),_,rfl,_,_,_,_,rfl,rfl,e,rfl,g2,by omega,hel,_,_,rfl,rfl,dc (by simp;omega),_,rfl,_,rfl,sz 1,_,_,rfl,rfl,dc (by simp;omega),gk ?_⟩
   simp at h ⊢
   exact h
 | rp a c hs f b=>cases hj
noncomputable abbrev kJ:Stmt:=inClass (top 10) 4
theorem qN:av ["self","rows"] ["self"] (aj kJ):=fz
theorem cV (F:c8 K "as_rows" "Repeat.as_rows" kJ f fd)(J:Fx K mg A)(e8:oq P w K mg base k A n)(c6:gY P w K mg base k A)(gU:Ms P w K mg base k 4 (yr A) "text" ["self"] (gE A 3))(iY:ou P w K mg base k A):aU P w K mg base dG (k+1) f fd ["self"] (bA K (dw A (n+1) 8)):=by
 refine bM F qN fun cdv B outer s H E hr=>?_
 rw[show ao kJ=[_,_,_] from rfl]
 refine⟨_,(qs (ay (i:=1) qN.nd (aL Hf (bW (qa (aL aF aq (bg (aK (ah 0) rfl) gU hr)) aa)) (ai iY hr rfl (qa aq (qa (aK (ah 0) rfl) aa))))) (qs (bF (aI zR (aK (ah 0) rfl) wL (aJ _)) (bO (iD (iy (ah 1) (qa (aL aF aq (bg (aM (aK (ah 0) rfl) af) c6 hr)) aa)))) aY) (bO (az (aL aF (aL aF (ah 1) (ai e8 hr rfl (qa (aK (ah 0) rfl) aa))) (bW (qa aq aa))))))),fun ds S kk hc hd h=>?_⟩
 obtain⟨s,rfl,hj,hg,hd2,hrw,h⟩:=h
 cases s with
 | lt a x s=>cases hj
 | dv a x wd s b=>cases hj
 | ft a x r p=>cases hj
 | pt a r p s=>cases hj
 | mq a r z=>cases hj
 | cm a c=>cases hj
 | cl a ns hp g=>cases hj
 | ch a c t e=>cases hj
 | rp a c hs f b =>
  unfold fF at hg
  obtain⟨hg,lh,gh,gf,g1,l1⟩:=hg
  unfold eG.dp at hd2
  unfold rws at h hrw
  unfold nO
  obtain⟨ns,l,i1,_,i2⟩:=oX A S c
  have lc:=jI hg
  have z1:("while ":Str).length=6:=by decide +kernel
  have hbl:(aX b).length<=1000:=by simp only[List.length_append,List.length_cons] at hrw;omega
  have eh:(hs.map fun p=>T.str ((Str.ofString "holds"++(" ":Str))++uC p.2))=(hs.map fun p=>pre "holds " p.2).map T.str:=by
   rw[List.map_map]
   refine List.map_congr_left fun p _=>?_
   show T.str ((Str.ofString "holds"++Str.ofString " ")++uC p.2)=T.str (pre "holds " p.2)
   rw[Oc];rfl
  refine⟨_,rfl,_,_,_,_,rfl,rfl,xV c,ns,l,ja c,i1,i2,c,rfl,rfl,hg.dep,hg.g,hg.sz,sU (by rw[z1];omega),_,rfl,sz 1,_,rfl,_,_,_,_,rfl,rfl,"holds",hs,rfl,lh,gh,by decide +kernel,_,_,rfl,rfl,dc (by simp;omega),_,rfl,_,_,_,_,rfl,rfl,?_⟩
  rw[eh]
  cases f with
  | none =>
   refine⟨false,rfl,_,rfl,_,rfl,_,_,_,_,rfl,rfl,b,rfl,g1,by omega,hbl,_,_,bX aB,rfl,dc (by simp;omega),_,rfl,sz 1,_,_,rfl,rfl,dc (by simp;omega),Cg hc ?_⟩
   simp[PC] at h ⊢
   exact h
  | some p =>
   have hp:=gf p rfl
   have lp:=bD hp
   have z2:("falls ":Str).length=6:=by decide +kernel
   refine⟨true,rfl,_,rfl,⟨rfl,_,bX aB⟩,_,rfl,_,_,_,_,rfl,rfl,_,_,rfl,rfl,0,_,_,by decide,rfl,by decide +kernel,p.2,rfl,hp,sU (by rw[z2];omega),_,aB,oA (by simp;omega),?_⟩
   rw[gp]
   refine⟨_,rfl,_,rfl,_,_,_,_,rfl,rfl,b,rfl,g1,by omega,hbl,_,_,bX aB,rfl,dc (by simp;omega),_,rfl,sz 1,_,_,rfl,rfl,dc (by simp;omega),Cg hc ?_⟩
   simp[PC] at h ⊢
   exact h
noncomputable abbrev iV:Stmt:=top 15
theorem j8:av ["steps","rows","step"] ["steps"] (aj iV):=fz
theorem bR (F:c8 K "rows_of_steps" "rows_of_steps" iV f fd)(J:Fx K mg A)(MZ:Ia P w K mg base k A n):aU P w K mg base dG (k+1) f fd ["steps"] (bA K (Dh A n)):=by
 refine bM F j8 fun cdv B outer s H E hr=>?_
 rw[show ao iV=[_,_,_] from rfl]
 refine⟨_,(qs (ay (i:=1) j8.nd (jd aa)) (qs (jD PassesOwn.never rfl (qi (ah 0)) (qg (i:=2) j8.nd) (bO (iD (Qy (ah 1) (qa (bg (ah 2) MZ hr) aa))))) (bO (az (ah 1))))),fun ds S kk hc hd h=>?_⟩
 obtain⟨l,rfl,hg,hd2,hrw,h⟩:=h
 rw[jm]
 refine⟨_,rfl,sz 0,_,rfl,dI (uB (nO A) (fun pre δ S'=>∃ y,δ=[some (D.tup (l.map (nO A))),some (D.ob (S.length+0)),y]/\S'=S++[O.lst ((aX pre).map T.str)]) ⟨_,rfl,by unfold aX;rfl⟩ ?_ ?_)⟩
 ·rintro pre s post δ S' N e ⟨y,rfl,rfl⟩ hN
  have hs:s∈l:=by rw[e];simp
  have h1:=IU hs
  have h2:=kg hs
  have h3:(aX pre).length+(rws s).length<=1000:=by rw[e,fM,aX] at hrw;simp only[List.length_append] at hrw;omega
  obtain⟨ns,l2,i1,_,i2⟩:=QV A (S++[O.lst ((aX pre).map T.str)]) s
  refine⟨trivial,_,rfl,⟨rfl,_,DT rfl⟩,_,rfl,kd s,ns,l2,Jd s,i1,i2,s,rfl,rfl,g7 hg hs,by omega,by omega,_,_,bC,rfl,eX (by simp;omega),?_⟩
  rw[g8]
  refine hN _ _ ⟨_,rfl,?_⟩
  rw[fM,aX,aX,List.append_nil,List.map_append]
  rfl
 ·rintro δ S' ⟨y,rfl,rfl⟩
  exact⟨trivial,_,rfl,Xw hc rfl h⟩
noncomputable abbrev iW:Stmt:=top 16
theorem xW:av ["word","pairs"] ["word","pairs"] (aj iW):=fz
theorem x8 (F:c8 K "rows_of_pairs" "rows_of_pairs" iW f fd)(J:Fx K mg A)(gU:Ms P w K mg base k 4 (yr A) "text" ["self"] (gE A 3)):aU P w K mg base dG (k+1) f fd ["word","pairs"] (bA K (IF A)):=by
 refine bM F xW fun cdv B outer s H E hr=>?_
 rw[show ao iW=[_] from rfl]
 refine⟨_,(bO (az (bU (aH ["at","condition"] ["word"] [0] rfl (by decide +kernel) (by decide +kernel) (by with_unfolding_all rfl) (by exact⟨rfl,trivial⟩) (by rfl) rfl (by rfl)) rfl (qi (ah 1)) (fun _ _ _ _=>(DC (n:=2) rfl (Qx (qx (i:=0) (show List.Nodup (["at","condition","word"]:List Str) by decide +kernel)) (Qx (qx (i:=1) (show List.Nodup (["at","condition","word"]:List Str) by decide +kernel)) zO)))) (fun _ _ _ _=>bf) (fun _ _ _ _=>(aL aF (aL aF (ah 2) aq) (bg (ah 1) gU hr)))))),fun ds S kk hc hd h=>?_⟩
 obtain⟨w,l,rfl,hl,hg,hw,h⟩:=h
 refine⟨_,rfl,dI (dg (atT A) (fun p=>T.str ((w++(" ":Str))++uC p.2)) trivial (eX (by omega)) (fun x hx k' hk=>?_) (gk h))⟩
 have hg:=hg x hx
 have lc:=jI hg
 have z1:(" ":Str).length=1:=by decide +kernel
 obtain⟨ns,l,i1,_,i2⟩:=oX A S x.2
 exact⟨_,rfl,rfl,_,_,rfl,_,_,rfl,rfl,_,rfl,eX (by rw[z1];omega),_,rfl,xV x.2,ns,l,ja x.2,i1,i2,x.2,rfl,rfl,hg.dep,hg.g,hg.sz,sU (by rw[aS,z1];omega),_,rfl,hk⟩
noncomputable abbrev n6:Stmt:=inClass (top 11) 4
theorem pK:av ["self","words"] ["self"] (aj n6):=fz
theorem dY (F:c8 K "as_rows" "Call.as_rows" n6 f fd)(J:Fx K mg A)(c6:gY P w K mg base k A):aU P w K mg base dG (k+1) f fd ["self"] (bA K (dw A (n+1) 6)):=by
 refine bM F pK fun cdv B outer s H E hr=>?_
 rw[show ao n6=[_,_,_,_,_] from rfl]
 refine⟨_,(qs (ay (i:=1) pK.nd (jd (qa aq aa))) (qs (bF (aI G9 (cj j6 (by rfl) J.j7 PySem.boot_len (qa (aK (ah 0) rfl) aa)) af (aJ _)) (bO (ay (i:=1) pK.nd (aL Hf (aL aF (ah 1) (aD rK (by rfl) J.rM boot_list (qa (aK (ah 0) rfl) aa))) (bW (qa aq aa))))) aY) (qs (iD (iy (ah 1) (qa (aK (ah 0) rfl) aa))) (qs (bF (aI G9 (cj j6 (by rfl) J.j7 PySem.boot_len (qa (aK (ah 0) rfl) aa)) af (aJ _)) (bO (iD (iy (ah 1) (qa (fN aq (qa (bU (aH ["total"] [] [] rfl (by decide +kernel) (by decide +kernel) (by with_unfolding_all rfl) (by exact trivial) (by rfl) rfl (by rfl)) rfl (qi (aK (ah 0) rfl)) (fun _ _ _ _=>(qx (i:=0) (show List.Nodup (["total"]:List Str) by decide +kernel))) (fun _ _ _ _=>bf) (fun _ _ _ _=>(bg (ah 0) c6 hr))) aa)) aa)))) aY) (bO (az (bW (qa (fN aq (qa (ah 1) aa)) aa)))))))),fun ds S kk hc hd h=>?_⟩
 obtain⟨s,rfl,hj,hg,hd2,hrw,h⟩:=h
 cases s with
 | lt a x s=>cases hj
 | dv a x wd s b=>cases hj
 | ft a x r p=>cases hj
 | pt a r p s=>cases hj
 | mq a r z=>cases hj
 | cm a c=>cases hj
 | cl a ns hp g =>
  unfold fF at hg
  obtain⟨l1,g1,l2,l3,g2⟩:=hg
  unfold rws at h
  rw[<- Tr] at h
  unfold nO
  have z1:(Str.ofString ", ").length=2:=by decide +kernel
  have z2:(Str.ofString " ").length=1:=by decide +kernel
  have z3:(Str.ofString "call").length<=100:=by decide +kernel
  have z4:(Str.ofString "=").length<=100:=by decide +kernel
  have b3:=vf ", " (g.map ku)
  have b4:=iC (M:=700) (l:=g.map ku) fun x hx=>by
   obtain⟨y,hy,rfl⟩:=List.mem_map.mp hx
   exact bD (g2 y hy)
  rw[z1] at b3
  rw[List.length_map] at b3 b4
  have big:∀ x∈iz ns hp g,x.length<=10000:=fun x hx=>by
   unfold iz at hx
   rcases List.mem_append.mp hx with hx | hx
   ·rcases List.mem_append.mp hx with hx | hx
    ·split at hx
     ·rcases List.mem_append.mp hx with hx | hx
      ·rcases List.mem_append.mp hx with hx | hx
       ·rw[List.mem_singleton.mp hx];omega
       ·have:=g1 x hx;omega
      ·rw[List.mem_singleton.mp hx];omega
     ·rw[List.mem_singleton.mp hx];omega
    ·rw[List.mem_singleton.mp hx];omega
   ·split at hx
    ·rw[List.mem_singleton.mp hx];omega
    ·cases hx
  have hcl:(iz ns hp g).length<=12:=by
   unfold iz
   simp only[List.length_append,List.length_cons,List.length_nil]
   split <;> split <;> simp <;> omega
  have hsum:=iC big
  have fin:∀ S1,kk (.lst ([Txt.join " " (iz ns hp g)].map T.str)) S->closes S.length (.lst [T.str (Txt.join " " (iz ns hp g))]) (S++S1) kk:=fun S1 h=>Cg hc h
  have Yd:((iz ns hp g).map (·.length)).sum+(iz ns hp g).length*(Str.ofString " ").length<=16777216:=by rw[z2];omega
  refine⟨_,rfl,sz 1,_,rfl,_,_,_,_,rfl,rfl,_,rfl,?_⟩
  by_cases hn:0 < ns.length
  ·refine⟨true,congrArg D.bl (decide_eq_true (by rw[List.length_map];omega)),_,rfl,_,rfl,_,_,_,_,rfl,rfl,_,rfl,_,_,bX aB,rfl,eX (by simp;omega),_,rfl,sz 1,_,_,rfl,rfl,eX (by simp;omega),?_⟩
   rw[List.length_append,List.append_assoc]
   refine⟨_,rfl,⟨rfl,_,bX (bC (j:=1))⟩,_,rfl,_,_,_,_,rfl,rfl,_,bC (j:=1),oA (by simp;omega),?_⟩
   rw[g8]
   have eW:∀ x:Str,([T.str (Str.ofString "call")]++ns.map T.str++[T.str (Str.ofString "=")])++[T.str x]=(([("call":Str)]++ns++[("=":Str)])++[x]).map T.str:=fun x=>by simp
   refine⟨_,rfl,_,_,_,_,rfl,rfl,_,rfl,?_⟩
   by_cases Xb:0 < g.length
   ·have ew:iz ns hp g=(([("call":Str)]++ns++[("=":Str)])++[hp])++[Txt.join ", " (g.map ku)]:=by unfold iz;rw[if_pos hn,if_pos Xb]
    refine⟨true,congrArg D.bl (decide_eq_true (by rw[List.length_map];omega)),_,rfl,⟨rfl,_,bX (bC (j:=1))⟩,rfl,_,rfl,_,_,_,_,rfl,rfl,dI ?_⟩
    refine dg (qH A) (fun s=>T.str (ku s)) trivial (eX (by omega)) (fun x hx k' hk=>⟨_,rfl,0,_,_,by decide,rfl,by decide +kernel,x,rfl,(g2 x hx),_,rfl,hk⟩) ?_
    refine⟨g.map ku,by rw[List.map_map];rfl,by rw[z1,List.length_map];omega,_,bC (j:=1),oA (by simp;omega),?_⟩
    rw[g8]
    refine⟨rfl,_,rfl,iz ns hp g,bX ((bC (j:=1)).trans ?_),Yd,_,rfl,sz 1,fin _ h⟩
    rw[ew]
    simp
   ·have ew:iz ns hp g=([("call":Str)]++ns++[("=":Str)])++[hp]:=by unfold iz;rw[if_pos hn,if_neg Xb,List.append_nil]
    refine⟨false,congrArg D.bl (decide_eq_false (by rw[List.length_map];omega)),rfl,_,rfl,iz ns hp g,bX ((bC (j:=1)).trans ?_),Yd,_,rfl,sz 1,fin _ h⟩
    rw[ew]
    simp
  ·refine⟨false,congrArg D.bl (decide_eq_false (by rw[List.length_map];omega)),_,rfl,⟨rfl,_,bX (aB)⟩,_,rfl,_,_,_,_,rfl,rfl,_,aB,oA (by simp),?_⟩
   rw[gp]
   refine⟨_,rfl,_,_,_,_,rfl,rfl,_,rfl,?_⟩
   by_cases Xb:0 < g.length
   ·have ew:iz ns hp g=([("call":Str)]++[hp])++[Txt.join ", " (g.map ku)]:=by unfold iz;rw[if_neg hn,if_pos Xb]
    refine⟨true,congrArg D.bl (decide_eq_true (by rw[List.length_map];omega)),_,rfl,⟨rfl,_,bX (aB)⟩,rfl,_,rfl,_,_,_,_,rfl,rfl,dI ?_⟩
    refine dg (qH A) (fun s=>T.str (ku s)) trivial (eX (by omega)) (fun x hx k' hk=>⟨_,rfl,0,_,_,by decide,rfl,by decide +kernel,x,rfl,(g2 x hx),_,rfl,hk⟩) ?_
    refine⟨g.map ku,by rw[List.map_map];rfl,by rw[z1,List.length_map];omega,_,aB,oA (by simp),?_⟩
    rw[gp]
    refine⟨rfl,_,rfl,iz ns hp g,bX (aB.trans ?_),Yd,_,rfl,sz 1,fin _ h⟩
    rw[ew]
    simp
   ·have ew:iz ns hp g=[("call":Str)]++[hp]:=by unfold iz;rw[if_neg hn,if_neg Xb,List.append_nil]
    refine⟨false,congrArg D.bl (decide_eq_false (by rw[List.length_map];omega)),rfl,_,rfl,iz ns hp g,bX (aB.trans ?_),Yd,_,rfl,sz 1,fin _ h⟩
    rw[ew]
    simp
 | ch a c t e=>cases hj
 | rp a c hs f b=>cases hj
noncomputable abbrev kM:Stmt:=inClass (top 18) 2
theorem mY:av ["self","rows"] ["self"] (aj kM):=fz
theorem AK (F:c8 K "as_rows" "Helper.as_rows" kM f fd)(J:Fx K mg A)(e8:Dn P w K mg base k "rows_of_steps" ["steps"] (bA K (Dh A 9)))(iY:ou P w K mg base k A):aU P w K mg base dG (k+1) f fd ["self"] (bA K (Ai A)):=by
 refine bM F mY fun cdv B outer s H E hr=>?_
 rw[show ao kM=[_,_,_,_] from rfl]
 refine⟨_,(qs (ay (i:=1) mY.nd (jd (qa (fN aq (qa (aL aF (bW (qa aq (qa (aK (ah 0) rfl) aa))) (aD rK (by rfl) J.rM boot_list (qa (aK (ah 0) rfl) aa))) aa)) aa))) (qs (bF (aI G9 (cj j6 (by rfl) J.j7 PySem.boot_len (qa (aK (ah 0) rfl) aa)) af (aJ _)) (bO (iD (iy (ah 1) (qa (fN aq (qa (aL aF (bW (qa aq aa)) (aD rK (by rfl) J.rM boot_list (qa (aK (ah 0) rfl) aa))) aa)) aa)))) aY) (qs (ay (i:=1) mY.nd (aL Hf (aL aF (ah 1) (ai iY hr rfl (qa aq (qa (aK (ah 0) rfl) aa)))) (ai iY hr rfl (qa aq (qa (aK (ah 0) rfl) aa))))) (bO (az (aL aF (aL aF (ah 1) (ai e8 hr rfl (qa (aK (ah 0) rfl) aa))) (bW (qa aq aa)))))))),fun ds S kk hc hd h=>?_⟩
 obtain⟨x,rfl,hg,hd2,hrw,h⟩:=h
 obtain⟨p1,p2,p3,p4,p5⟩:=hg.pl
 unfold bH at h hrw
 have z2:(Str.ofString " ").length=1:=by decide +kernel
 have z3:(Str.ofString "helper").length<=100:=by decide +kernel
 have z4:(Str.ofString "answers").length<=100:=by decide +kernel
 have s1:=iC (M:=100) hg.ps
 have s2:=iC (M:=100) hg.an
 have hn:=hg.nm
 have hsl:(aX x.steps).length<=1000:=by simp only[List.length_append] at hrw;omega
 have eW:∀ (w:Str) (l:List (Int×cO)),l.map (fun p=>T.str ((w++(" ":Str))++uC p.2))=(l.map fun p=>pre (w++(" ":Str)) p.2).map T.str:=fun w l=>by rw[List.map_map];rfl
 refine⟨rfl,_,rfl,_,_,_,_,rfl,rfl,_,rfl,sz 2,_,rfl,_,_,_,_,rfl,rfl,_,rfl,_,_,rfl,rfl,eX (by simp;omega),[("helper":Str),x.name]++x.params,by rw[List.map_append];rfl,?_,_,rfl,sz 1,_,rfl,_,_,_,_,rfl,rfl,_,rfl,?_⟩
 ·simp only[List.map_append,List.map_cons,List.map_nil,List.sum_append,List.sum_cons,List.sum_nil,List.length_append,List.length_cons,List.length_nil];rw[z2];omega
 by_cases ha:x.answers=[]
 ·rw[if_pos ha] at h hrw
  refine⟨false,congrArg D.bl (decide_eq_false (by rw[ha];decide)),_,rfl,_,rfl,_,_,_,_,rfl,rfl,"needs",x.needs,rfl,by omega,hg.nd,by decide +kernel,_,_,bX aB,rfl,eX (by simp;omega),_,rfl,_,_,_,_,rfl,rfl,"gives",x.gives,rfl,by omega,hg.gv,by decide +kernel,_,_,rfl,rfl,eX (by simp;omega),?_⟩
  rw[List.length_append,List.append_assoc]
  refine⟨_,rfl,_,rfl,_,_,_,_,rfl,rfl,x.steps,rfl,hg.st,by omega,hsl,_,_,bX (bC (j:=1)),rfl,dc (by simp;omega),_,rfl,sz 1,_,_,rfl,rfl,dc (by simp;omega),Cg hc ?_⟩
  have e1:(Str.ofString "needs"++(" ":Str))=("needs ":Str):=Ip
  have e2:(Str.ofString "gives"++(" ":Str))=("gives ":Str):=Iq
  rw[eW,eW,e1,e2]
  simp at h ⊢
  exact h
 ·rw[if_neg ha] at h hrw
  have hap:=List.length_pos_iff.mpr ha
  refine⟨true,congrArg D.bl (decide_eq_true (by rw[List.length_map];omega)),_,rfl,⟨rfl,_,bX aB⟩,rfl,_,rfl,sz 1,_,rfl,_,_,_,_,rfl,rfl,_,rfl,_,_,rfl,rfl,eX (by simp;omega),[("answers":Str)]++x.answers,by rw[List.map_append];rfl,?_,_,aB,oA (by simp),?_⟩
  ·simp only[List.map_append,List.map_cons,List.map_nil,List.sum_append,List.sum_cons,List.sum_nil,List.length_append,List.length_cons,List.length_nil];rw[z2];omega
  rw[gp]
  refine⟨_,rfl,_,rfl,_,_,_,_,rfl,rfl,"needs",x.needs,rfl,by omega,hg.nd,by decide +kernel,_,_,bX aB,rfl,eX (by simp;omega),_,rfl,_,_,_,_,rfl,rfl,"gives",x.gives,rfl,by omega,hg.gv,by decide +kernel,_,_,rfl,rfl,eX (by simp;omega),?_⟩
  rw[List.length_append,List.append_assoc]
  refine⟨_,rfl,_,rfl,_,_,_,_,rfl,rfl,x.steps,rfl,hg.st,by omega,hsl,_,_,bX (bC (j:=1)),rfl,dc (by simp;omega),_,rfl,sz 1,_,_,rfl,rfl,dc (by simp;omega),Cg hc ?_⟩
  have e1:(Str.ofString "needs"++(" ":Str))=("needs ":Str):=Ip
  have e2:(Str.ofString "gives"++(" ":Str))=("gives ":Str):=Iq
  rw[eW,eW,e1,e2]
  simp at h ⊢
  exact h
noncomputable abbrev gF:Stmt:=top 21
theorem jb:av ["program","rows","helper"] ["program"] (aj gF):=fz
theorem uN (F:c8 K "rows_of_program" "rows_of_program" gF f fd)(J:Fx K mg A)(M0:Ib P w K mg base k A):aU P w K mg base dG (k+1) f fd ["program"] (bA K (ED A)):=by
 refine bM F jb fun cdv B outer s H E hr=>?_
 rw[show ao gF=[_,_,_] from rfl]
 refine⟨_,(qs (ay (i:=1) jb.nd (jd aa)) (qs (jD PassesOwn.never rfl (qi (aK (ah 0) rfl)) (qg (i:=2) jb.nd) (bO (iD (Qy (ah 1) (qa (bg (ah 2) M0 hr) aa))))) (bO (az (ah 1))))),fun ds S kk hc hd h=>?_⟩
 obtain⟨hs,rfl,hg,hrw,h⟩:=h
 refine⟨_,rfl,sz 0,_,rfl,_,_,_,_,rfl,rfl,dI (uB (Ll A) (fun pre δ S'=>∃ y,δ=[some (D.t (GW A hs)),some (D.ob (S.length+0)),y]/\S'=S++[O.lst (((pre.map bH).flatten).map T.str)]) ⟨_,rfl,rfl⟩ ?_ ?_)⟩
 ·rintro pre x post δ S' N e ⟨y,rfl,rfl⟩ hN
  have hx:x∈hs:=by rw[e];simp
  have h3:((pre.map bH).flatten).length+(bH x).length<=600:=by rw[e] at hrw;simp only[List.map_append,List.map_cons,List.flatten_append,List.flatten_cons,List.length_append] at hrw;omega
  refine⟨trivial,_,rfl,⟨rfl,_,DT rfl⟩,_,rfl,0,_,_,by decide,rfl,by decide +kernel,x,rfl,(hg x hx).1,(hg x hx).2,by omega,_,_,bC,rfl,eX (by rw[List.length_map,List.length_map];omega),?_⟩
  rw[g8]
  refine hN _ _ ⟨_,rfl,?_⟩
  simp
 ·rintro δ S' ⟨y,rfl,rfl⟩
  exact⟨trivial,_,rfl,Xw hc rfl h⟩
noncomputable abbrev jr:Stmt:=top 22
theorem yY:av ["rows"] ["rows"] (aj jr):=fz
theorem zj (F:c8 K "text_of_rows" "text_of_rows" jr f fd)(J:Fx K mg A) :aU P w K mg base dG (k+1) f fd ["rows"] (bA K Qo):=by
 refine bM F yY fun cdv B outer s H E hr=>?_
 rw[show ao jr=[_] from rfl]
 refine⟨_,(bO (az (fN aq (qa (bU (aH ["row"] [] [] rfl (by decide +kernel) (by decide +kernel) (by with_unfolding_all rfl) (by exact trivial) (by rfl) rfl (by rfl)) rfl (qi (ah 0)) (fun _ _ _ _=>(qx (i:=0) (show List.Nodup (["row"]:List Str) by decide +kernel))) (fun _ _ _ _=>bf) (fun _ _ _ _=>(aL aF (ah 0) aq))) aa)))),fun ds S kk hc hd h=>?_⟩
 obtain⟨rs,rfl,hl,hr2,h⟩:=h
 have z1:("\n":Str).length=1:=by decide +kernel
 refine⟨rfl,_,rfl,qv (dg T.str (fun r=>T.str (r++("\n":Str))) trivial (eX (by omega)) (fun x hx k' hk=>⟨_,rfl,sU (by rw[z1];have:=hr2 x hx;omega),_,rfl,hk⟩) ?_)⟩
 refine⟨rs.map fun r=>r++("\n":Str),by rw[List.map_map];rfl,?_,gk h⟩
 have:=iC (M:=25001) (l:=rs.map fun r=>r++("\n":Str)) fun x hx=>by
  obtain⟨y,hy,rfl⟩:=List.mem_map.mp hx
  have:=hr2 y hy
  rw[aS,z1];omega
 rw[List.length_map] at this ⊢
 have z:(Str.ofString "").length=0:=by decide +kernel
 rw[z]
 omega
noncomputable abbrev se:Stmt:=top 20
theorem GL:av ["program"] ["program"] (aj se):=fz
theorem G3 (F:c8 K "written" "written" se f fd)(J:Fx K mg A)(Bc:yy P w K mg base k)(xB:sY P w K mg base k A):aU P w K mg base dG (k+1) f fd ["program"] (bA K (CJ A)):=by
 refine bM F GL fun cdv B outer s H E hr=>?_
 rw[show ao se=[_] from rfl]
 refine⟨_,(bO (az (ai Bc hr rfl (qa (ai xB hr rfl (qa (ah 0) aa)) aa)))),fun ds S kk hc hd h=>?_⟩
 obtain⟨hs,rfl,hg,hrw,h⟩:=h
 refine⟨_,rfl,hs,rfl,hg,hrw,_,rfl,hrw,fun r hr=>?_,gk h⟩
 obtain⟨l,hl,hr⟩:=List.mem_flatten.mp hr
 obtain⟨x,hx,rfl⟩:=List.mem_map.mp hl
 exact CT (hg x hx).1 r hr
noncomputable abbrev su:Stmt:=top 40
theorem Al:av ["_law_cell","_law_k","_law_mix"] ["_law_cell","_law_k"] (aj su):=fz
theorem G6 (F:c8 K "_law_mixed" "_law_mixed" su f fd)(J:Fx K mg A) :aU P w K mg base dG (k+1) f fd ["_law_cell","_law_k"] (bA K Qq):=by
 refine bM F Al fun cdv B outer s H E hr=>?_
 rw[show ao su=[_,_] from rfl]
 refine⟨_,(qs (ay (i:=2) Al.nd (aL uv (aL AO (aL aF (aL aF (ah 0) (aL AO af (ah 1))) af) af) af)) (bO (az (aL uv (aL aF (aL AO (ah 2) (ah 2)) (aL AO af (ah 2))) af)))),fun ds S kk hc hd h=>?_⟩
 obtain⟨c,j,rfl,h⟩:=h
 refine⟨_,rfl,_,rfl,.inl ⟨by decide,by decide⟩,.inr ⟨by decide,by decide⟩,by decide,?_⟩
 have h1:=Int.emod_nonneg ((c+7919*j+11)*48271) (b:=2147483647) (by decide)
 have h2:=Int.emod_lt_of_pos ((c+7919*j+11)*48271) (b:=2147483647) (by decide)
 exact⟨_,rfl,_,rfl,.inl ⟨by omega,by omega⟩,_,rfl,.inl ⟨by decide,by decide⟩,by decide,gk (h _ (Int.emod_nonneg _ (by decide)) (Int.emod_lt_of_pos _ (by decide)))⟩
noncomputable abbrev nT:Stmt:=top 39
theorem pJ:av ["_law_script","_law_k","_law_cell"] ["_law_script","_law_k"] (aj nT):=fz
theorem DL (F:c8 K "_law_cell_at" "_law_cell_at" nT f fd)(J:Fx K mg A)(rL:uI P w K mg base k):aU P w K mg base dG (k+1) f fd ["_law_script","_law_k"] (bA K Ma):=by
 refine bM F pJ fun cdv B outer s H E hr=>?_
 rw[show ao nT=[_,_,_] from rfl]
 refine⟨_,(qs (ay (i:=2) pJ.nd af) (qs (bF (aI G8 (ah 1) (cj j6 (by rfl) J.j7 PySem.boot_len (qa (ah 0) aa)) (aJ _)) (bO (ay (i:=2) pJ.nd (aM (ah 0) (ah 1)))) aY) (bO (az (ai rL hr rfl (qa (ah 2) (qa (aL aF af (ah 1)) aa))))))),fun ds S kk hc hd h=>?_⟩
 obtain⟨l,j,rfl,h⟩:=h
 refine⟨_,rfl,_,rfl,_,rfl,?_⟩
 by_cases hj:j < l.length
 ·exact⟨true,congrArg D.bl (decide_eq_true (by rw[List.length_map];omega)),_,rfl,_,rfl,_,_,rfl,xE (by rw[List.getElem?_map,List.getElem?_eq_getElem hj];rfl),_,rfl,_,rfl,_,_,rfl,fun r _ _=>gk (h r)⟩
 ·exact⟨false,congrArg D.bl (decide_eq_false (by rw[List.length_map];omega)),_,rfl,_,rfl,_,_,rfl,fun r _ _=>gk (h r)⟩
noncomputable abbrev wF:Stmt:=top 41
theorem JK:av ["_law_draw","_law_size"] ["_law_draw","_law_size"] (aj wF):=fz
theorem JW (F:c8 K "_law_next" "_law_next" wF f fd)(J:Fx K mg A)(rL:uI P w K mg base k):aU P w K mg base dG (k+1) f fd ["_law_draw","_law_size"] (bA K VA):=by
 refine bM F JK fun cdv B outer s H E hr=>?_
 rw[show ao wF=[_,_] from rfl]
 refine⟨_,(qs (OF (ah 0) af af Nj) (bO (az (aL uv (aL AQ (ai rL hr rfl (qa (aM (ah 0) af) (qa (aM (ah 0) af) aa))) af) (ah 1))))),fun ds S kk hc hd h=>?_⟩
 obtain⟨d,n,rfl,hd,hn,h⟩:=h
 have hlt:=hd.lt
 obtain⟨c,m,e0⟩:=hd
 refine⟨_,rfl,d,1,_,_,rfl,rfl,e0,rfl,1,_,rfl,e0,by show 1 < 2;decide,_,rfl,_,_,kZ (rA hlt),rfl,_,rfl,_,_,kZ (rA hlt),rfl,_,_,rfl,fun r _ _=>⟨⟨by decide,by decide⟩,_,rfl,hn,?_⟩⟩
 have e:((r / 7 % n).toNat:Int)=r / 7 % n:=Int.toNat_of_nonneg (Int.emod_nonneg _ (by omega))
 rw[<- e]
 exact gk (h _ _ _ (by rw[e];exact Int.emod_lt_of_pos _ hn))
noncomputable abbrev nR:Stmt:=top 55
theorem Dp:av ["_law_rows","_law_text_here"] ["_law_rows","_law_text_here"] (aj nR):=fz
theorem DJ (F:c8 K "_law_put_row" "_law_put_row" nR f fd)(J:Fx K mg A) :aU P w K mg base dG (k+1) f fd ["_law_rows","_law_text_here"] (bA K IM):=by
 refine bM F Dp fun cdv B outer s H E hr=>?_
 rw[show ao nR=[_,_] from rfl]
 refine⟨_,(qs (iD (iy (ah 0) (qa (ah 1) aa))) (bO (az (aL wQ (cj j6 (by rfl) J.j7 PySem.boot_len (qa (ah 0) aa)) af)))),fun ds S kk hc hd h=>?_⟩
 obtain⟨r,x,R,rfl,e0,hl,h⟩:=h
 have hlt:=(List.getElem?_eq_some_iff.mp e0).1
 refine⟨_,rfl,⟨rfl,_,bX e0⟩,_,rfl,_,e0,oA (by rw[List.length_map];omega),?_⟩
 refine⟨_,rfl,_,kZ (rA hlt),gk ?_⟩
 have e:(((R.map T.str++[T.str x]).length:Nat):Int) - 1=(R.length:Int):=by rw[List.length_append,List.length_map,List.length_singleton];omega
 rw[e]
 rw[List.map_append] at h
 exact h
noncomputable abbrev lW:Stmt:=top 46
theorem cP:av ["_law_one","_law_terms","_law_number","_law_text_here","_law_thing","_law_times","_law_word"] ["_law_one"] (aj lW):=fz
theorem BW (F:c8 K "_law_sum_text" "_law_sum_text" lW f fd)(J:Fx K mg A) :aU P w K mg base dG (k+1) f fd ["_law_one"] (bA K IJ):=by
 refine bM F cP fun cdv B outer s H E hr=>?_
 rw[show ao lW=[_,_,_,_,_,_] from rfl]
 refine⟨_,(qs (x6 (ah 0) (p6 (n:=2) rfl (yJ (qg (i:=1) cP.nd) (yJ (qg (i:=2) cP.nd) mE)))) (qs (ay (i:=3) cP.nd aq) (qs (jD PassesOwn.never rfl (qi (ah 1)) (p6 (n:=2) rfl (yJ (qg (i:=4) cP.nd) (yJ (qg (i:=5) cP.nd) mE))) (qs (ay (i:=6) cP.nd (ah 4)) (qs (bF (aI (sX 40 (uE hr)) (cj FN (by rfl) J.FP boot_abs (qa (ah 5) aa)) af (aJ _)) (bO (ay (i:=6) cP.nd (aL aF (aL aF (aD NT (by rfl) J.Jz boot_str (qa (cj FN (by rfl) J.FP boot_abs (qa (ah 5) aa)) aa)) aq) (ah 4)))) aY) (bO (ay (i:=3) cP.nd (aL aF (aL aF (ah 3) (aM (bW (qa aq (qa aq aa))) (aD Be (by rfl) J.Bf boot_int (qa (yK G8 (ah 5) af (aJ _)) aa)))) (ah 6))))))) (qs (bF (qw (Ay (aI (sX 40 (uE hr)) (ah 2) af (aJ _)) (xZ (aI (fO 40 (uE hr)) (ah 1) (aO aa) (aJ _))))) (bO (ay (i:=3) cP.nd (aL aF (aL aF (ah 3) (aM (bW (qa aq (qa aq aa))) (aD Be (by rfl) J.Bf boot_int (qa (yK G8 (ah 2) af (aJ _)) aa)))) (aD NT (by rfl) J.Jz boot_str (qa (cj FN (by rfl) J.FP boot_abs (qa (ah 2) aa)) aa))))) aY) (qs (bF (aI (fO 40 (uE hr)) (oN false (ah 3) fh (cS af)) aq (aJ _)) (bO (az (aL aF aq (oN false (ah 3) (cS af) fh)))) aY) (bO (az (oN false (ah 3) (cS af) fh)))))))),fun ds S kk hc hd h=>?_⟩
 obtain⟨s,rfl,hg,h⟩:=h
 have hl3:=hg.len
 have hps:=mF hg.short hg.num
 have wl:∀ p∈s.1,(iw p.1 p.2).length<=166:=fun p hp=>by have:=CF (t:=p.1) (hg.sh p hp).1;have:=(hg.sh p hp).2;omega
 refine⟨_,rfl,_,rfl,rfl,_,_,rfl,_,_,rfl,rfl,_,rfl,dI (uB pT (fun pre δ S'=>∃ x y z w,δ=[some (D.t (jl s)),some (D.tup (s.1.map pT)),some (D.int s.2),some (D.str x),y,z,w]/\S'=S/\cp x=iQ (pre.map fun p=>(p.2,iw p.1 p.2))) ⟨_,_,_,_,rfl,rfl,by decide +kernel⟩ ?_ ?_)⟩
 ·rintro pre ⟨t,w⟩ post δ S' N e ⟨x,y,z,w0,rfl,rfl,hx⟩ hN
  have hp:(t,w)∈s.1:=by rw[e];simp
  have hpl:pre.length<=3:=by rw[e,List.length_append] at hl3;omega
  have TN:=Jk hx fun q hq=>by
   obtain⟨p,hp,rfl⟩:=List.mem_map.mp hq
   exact wl p (by rw[e];exact List.mem_append_left _ hp)
  rw[List.length_map] at TN
  have hw:=wl (t,w) hp
  have hsg:=mW w
  have hsw:Small w:=(hg.sh _ hp).1
  have W6:t.length<=100:=(hg.sh _ hp).2
  have a3e:(t,w).fst.length<=100:=W6
  have hnl:=qZ hsw
  have zs:(Str.ofString "*").length=1:=by decide +kernel
  have fin:=HC (t:=t) (w:=w) hx
  refine⟨trivial,_,rfl,rfl,_,_,rfl,_,_,rfl,rfl,_,rfl,_,rfl,rfl,?_⟩
  by_cases h1:Bg w=1
  ·have ew:iw t w=t:=by unfold iw;rw[if_pos h1]
   rw[ew] at fin hw
   refine⟨false,congrArg D.bl (ZK h1),_,rfl,_,rfl,sz 2,_,rfl,_,_,rfl,Mg w,eX (by omega),_,rfl,eX (by rw[aS];omega),hN _ _ ⟨_,_,_,_,rfl,rfl,fin⟩⟩
  ·have ew:iw t w=(qc w++Str.ofString "*")++t:=by unfold iw;rw[if_neg h1]
   rw[ew] at fin hw
   refine⟨true,congrArg D.bl (ZJ h1),_,rfl,hsw.log,eX (by show(qc w).length+_<=1000;rw[zs];omega),_,rfl,eX (by rw[aS,zs];show(qc w).length+1+_<=1000;omega),_,rfl,_,rfl,sz 2,_,rfl,_,_,rfl,Mg w,eX (by omega),_,rfl,eX (by rw[aS];show _+((qc w++Str.ofString "*")++t).length<=1000;omega),hN _ _ ⟨_,_,_,_,rfl,rfl,fin⟩⟩
 rintro δ S0 ⟨x,y,z,w0,rfl,rfl,hx⟩
 refine⟨trivial,?_⟩
 have TN:=Jk hx fun q hq=>by
  obtain⟨p,hp,rfl⟩:=List.mem_map.mp hq
  exact wl p hp
 rw[List.length_map] at TN
 have hnl:=qZ hg.num
 have ep:=AF s.1 s.2
 dsimp only[Fp]
 show JG _ _ _ _ _
 refine G1 (!decide (s.2=0)) (decide (s.1.length=0)) (fun k' hk=>⟨_,rfl,rfl,_,congrArg D.bl (by rw[je,Bool.true_xor]),hk⟩) (fun k' hk=>⟨_,rfl,_,rfl,sz 0,.inr ⟨rfl,_,congrArg D.bl (by rw[Bool.false_xor];exact decide_eq_decide.mpr (by rw[List.map_eq_nil_iff,List.length_eq_zero_iff])),hk⟩⟩) ?_
 cases hb:(!decide (s.2=0) || decide (s.1.length=0)) with
 | true =>
  rw[hb,if_pos rfl] at ep
  have hsg:=mW s.2
  refine⟨_,rfl,_,rfl,sz 2,_,rfl,_,_,rfl,Mg s.2,eX (by omega),_,rfl,hg.num.log,eX (by rw[aS];show _+(qc s.2).length<=1000;omega),?_⟩
  have hx':cp ((x++k6 s.2)++qc s.2)=iQ (eZ s.1 s.2):=by rw[ep,fB,fB,hx,A6,List.append_assoc]
  have TL:((x++k6 s.2)++qc s.2).length<=700:=by rw[aS,aS];omega
  generalize hX:(x++k6 s.2)++qc s.2=X' at hx' TL
  have hX2:(x++k6 s.2)++(toString (Bg s.2):Str)=X':=hX
  rw[hX2]
  obtain⟨h3,v,e1,e2,e3⟩:=Ez hx'
  refine⟨_,rfl,3,rfl,eX (by omega),rfl,?_⟩
  rw[e1]
  by_cases hv:v < 0
  ·refine⟨true,congrArg D.bl (seq (zM.mpr hv)),_,rfl,3,rfl,eX (by omega),eX (by have:=Txt.slice_le X' (some 3) none;have z:(Str.ofString "-").length=1:=(by decide +kernel);rw[z];omega),gk ?_⟩
   rw[e2 hv];exact h
  ·refine⟨false,congrArg D.bl (UG fun z=>hv (zM.mp z)),_,rfl,3,rfl,eX (by omega),gk ?_⟩
   rw[e3 hv];exact h
 | false =>
  rw[hb,if_neg Bool.false_ne_true,List.append_nil] at ep
  have hx':cp x=iQ (eZ s.1 s.2):=by rw[ep];exact hx
  have TL:x.length<=700:=by omega
  generalize hX:x=X' at hx' TL
  obtain⟨h3,v,e1,e2,e3⟩:=Ez hx'
  refine⟨_,rfl,3,rfl,eX (by omega),rfl,?_⟩
  rw[e1]
  by_cases hv:v < 0
  ·refine⟨true,congrArg D.bl (seq (zM.mpr hv)),_,rfl,3,rfl,eX (by omega),eX (by have:=Txt.slice_le X' (some 3) none;have z:(Str.ofString "-").length=1:=(by decide +kernel);rw[z];omega),gk ?_⟩
   rw[e2 hv];exact h
  ·refine⟨false,congrArg D.bl (UG fun z=>hv (zM.mp z)),_,rfl,3,rfl,eX (by omega),gk ?_⟩
   rw[e3 hv];exact h
noncomputable abbrev wC:Stmt:=top 47
theorem xX:av ["_law_told","_law_texts","_law_one"] ["_law_told"] (aj wC):=fz
theorem x9 (F:c8 K "_law_text" "_law_text" wC f fd)(J:Fx K mg A)(dQ:Dn P w K mg base k "_law_text" ["_law_told"] (bA K (wm n)))(bI:kq P w K mg base k):aU P w K mg base dG (k+1) f fd ["_law_told"] (bA K (wm (n+1))):=by
 refine bM F xX fun cdv B outer s H E hr=>?_
 rw[show ao wC=[_,_,_,_,_] from rfl]
 refine⟨_,(qs (bF (aI (fO 40 (uE hr)) (aM (ah 0) af) aq (aJ _)) (bO (az (aL aF (aL aF (aL aF (aL aF (ai bI hr rfl (qa (aM (ah 0) af) aa)) aq) (aM (ah 0) af)) aq) (ai bI hr rfl (qa (aM (ah 0) af) aa))))) aY) (qs (bF (aI (fO 40 (uE hr)) (aM (ah 0) af) aq (aJ _)) (bO (az (aL aF (aL aF aq (ai dQ hr rfl (qa (aM (ah 0) af) aa))) aq))) aY) (qs (ay (i:=1) xX.nd (jd aa)) (qs (jD PassesOwn.never rfl (qi (oN false (ah 0) (cS af) fh)) (qg (i:=2) xX.nd) (bO (iD (iy (ah 1) (qa (aM (bW (qa (ai dQ hr rfl (qa (ah 2) aa)) (qa (aL aF (aL aF aq (ai dQ hr rfl (qa (ah 2) aa))) aq) aa))) (aD Be (by rfl) J.Bf boot_int (qa (yK J1 (aM (ah 2) af) (aO (qa aq (qa aq aa))) (by rfl)) aa))) aa))))) (bO (az (fN (aL aF (aL aF aq (aM (ah 0) af)) aq) (qa (ah 1) aa)))))))),fun ds S kk hc hd h=>?_⟩
 obtain⟨c,rfl,hd2,hg,hs,h⟩:=h
 cases c with
 | cmp a s b =>
  unfold v5 at hg
  unfold uC at h
  have la:=bD hg.1
  have lb:=bD hg.2.1
  have ls:=hg.2.2
  have z1:(" ":Str).length=1:=by decide +kernel
  rw[xA]
  exact⟨_,rfl,_,_,rfl,rfl,rfl,true,tT,_,rfl,_,_,rfl,rfl,a,rfl,hg.1,eX (by rw[z1];omega),_,rfl,_,_,rfl,rfl,eX (by rw[aS,z1];omega),eX (by rw[aS,aS,z1];omega),_,rfl,_,_,rfl,rfl,b,rfl,hg.2.1,dc (by rw[aS,aS,aS,z1];omega),gk h⟩
 | neg c =>
  unfold v5 at hg
  unfold cO.dep at hd2
  unfold cO.sz at hs
  unfold uC at h
  have lc:=qm c hg (by omega)
  have z1:("not (":Str).length=5:=by decide +kernel
  have z2:(")":Str).length=1:=by decide +kernel
  rw[xx]
  exact⟨_,rfl,_,_,rfl,rfl,rfl,false,tF,_,rfl,_,_,rfl,rfl,rfl,true,tT,_,rfl,_,_,rfl,rfl,c,rfl,by omega,hg,by omega,dc (by rw[z1];omega),dc (by rw[aS,z1,z2];omega),gk h⟩
 | con q cs =>
  unfold v5 at hg
  unfold cO.dep at hd2
  unfold cO.sz at hs
  unfold uC at h
  have hl:=nN cs
  have hw:=qI cs hg (by omega)
  rw[mU] at h hw
  have z1:("(":Str).length=1:=by decide +kernel
  have z2:(")":Str).length=1:=by decide +kernel
  have z3:(Str.ofString " ").length=1:=by decide +kernel
  rw[xy]
  refine⟨_,rfl,_,_,rfl,K4,rfl,false,congrArg D.bl (UG (by cases q <;> decide +kernel)),_,rfl,_,_,rfl,K4,rfl,false,congrArg D.bl (UG (by cases q <;> decide +kernel)),_,rfl,sz 0,_,rfl,1,rfl,oH (by simp),?_⟩
  rw[gy]
  refine dI (uB lG (fun pre δ S'=>∃ y,δ=[some (D.tup (.str (if q=true then "and" else "or")::cs.map lG)),some (D.ob (S.length+0)),y]/\S'=S++[O.lst ((pre.map Gs).map T.str)]) ⟨_,rfl,rfl⟩ ?_ ?_)
  ·rintro pre c post δ S' N e ⟨y,rfl,rfl⟩ hN
   have Ca:c∈cs:=by rw[e];simp
   have h1:=qk Ca
   have h2:=uL Ca
   have h3:=xu hg Ca
   have lc:=qm c h3 (by omega)
   have hpl:pre.length<=9:=by have:=congrArg List.length e;rw[List.length_append] at this;omega
   obtain⟨w,lw,ew,TQ⟩:=TY c
   refine⟨trivial,_,rfl,⟨rfl,_,DT rfl⟩,_,rfl,c,rfl,by omega,h3,by omega,_,rfl,c,rfl,by omega,h3,by omega,dc (by rw[z1];omega),dc (by rw[aS,z1,z2];omega),_,rfl,sz 2,_,rfl,?_⟩
   rw[ew]
   refine⟨_,_,rfl,K4,_,rfl,sz 2,_,_,_,rfl,rfl,rfl,rfl,?_⟩
   have e5:(xor false (Pq (V.str w) [V.str (Str.ofString "and"),V.str (Str.ofString "or")]))=decide (2<=xV c):=TH (xs:=[Str.ofString "and",Str.ofString "or"]) TQ
   have e6:qp [T.str (uC c),T.str ((Str.ofString "("++uC c)++Str.ofString ")")] (if decide (2<=xV c)=true then 1 else 0)=some (T.str (Gs c)):=by
    unfold Gs
    by_cases hh:2<=xV c
    ·rw[if_pos hh,decide_eq_true hh];rfl
    ·rw[if_neg hh,decide_eq_false hh];rfl
   rw[e5]
   refine⟨_,_,rfl,e6,_,bC,oA (by simp;omega),?_⟩
   rw[g8]
   refine hN _ _ ⟨_,rfl,?_⟩
   simp
  ·rintro δ S' ⟨y,rfl,rfl⟩
   have hx:∀ w:Str,w.length<=3->(w.length+1+1)*9<=100:=fun w hw=>by omega
   refine⟨trivial,_,rfl,_,_,rfl,K4,?_,?_,rfl,_,rfl,cs.map Gs,DT rfl,?_,Cg hc ?_⟩
   ·exact eX (by cases q <;> decide +kernel)
   ·exact eX (by cases q <;> decide +kernel)
   ·have z:((Str.ofString " "++(if q=true then Str.ofString "and" else Str.ofString "or"))++Str.ofString " ").length<=5:=by cases q <;> decide +kernel
    have z2:=Nat.mul_le_mul_left (cs.map Gs).length z
    rw[List.length_map] at z2 ⊢
    show _<=16777216
    refine Nat.le_trans (Nat.add_le_add_left z2 _) ?_
    omega
   ·cases q with
    | true =>
     have e9:(Str.ofString " "++Str.ofString "and")++Str.ofString " "=Str.ofString " and ":=w_and
     show kk (.str (Txt.join ((Str.ofString " "++Str.ofString "and")++Str.ofString " ") (cs.map Gs))) S
     rw[e9];exact h
    | false =>
     have e9:(Str.ofString " "++Str.ofString "or")++Str.ofString " "=Str.ofString " or ":=w_or
     show kk (.str (Txt.join ((Str.ofString " "++Str.ofString "or")++Str.ofString " ") (cs.map Gs))) S
     rw[e9];exact h
noncomputable abbrev kD:Stmt:=top 56
theorem cy:av ["_law_step_here","_law_rows","_law_kind","_law_text_here"] ["_law_step_here","_law_rows"] (aj kD):=fz
theorem cz (F:c8 K "_law_laid_step" "_law_laid_step" kD f fd)(J:Fx K mg A)(yt:vz P w K mg base k n)(bu:lP P w K mg base k)(bI:kq P w K mg base k)(dQ:qq P w K mg base k):aU P w K mg base dG (k+1) f fd ["_law_step_here","_law_rows"] (bA K (GH n)):=by
 refine bM F cy fun cdv B outer s H E hr=>?_
 rw[show ao kD=[_,_,_,_,_,_,_,_,_] from rfl]
 refine⟨_,(qs (ay (i:=2) cy.nd (aM (ah 0) af)) (qs (bF (aI (fO 40 (uE hr)) (ah 2) aq (aJ _)) (bO (az (aO (qa aq (qa (ai bu hr rfl (qa (ah 1) (qa (aL aF (aL aF (aL aF aq (aM (ah 0) af)) aq) (ai bI hr rfl (qa (aM (ah 0) af) aa))) aa))) (qa (aM (ah 0) af) (qa (aM (ah 0) af) aa))))))) aY) (qs (bF (aI (fO 40 (uE hr)) (ah 2) aq (aJ _)) (qs (ay (i:=3) cy.nd (aL aF (aL aF (aL aF aq (aM (ah 0) af)) aq) (ai bI hr rfl (qa (aM (ah 0) af) aa)))) (qs (ay (i:=3) cy.nd (aL aF (aL aF (aL aF (aL aF (ah 3) aq) (aM (ah 0) af)) aq) (ai bI hr rfl (qa (aM (ah 0) af) aa)))) (bO (az (aL aF (aO (qa aq (qa (ai bu hr rfl (qa (ah 1) (qa (ah 3) aa))) aa))) (oN false (ah 0) (cS af) fh)))))) aY) (qs (bF (aI (fO 40 (uE hr)) (ah 2) aq (aJ _)) (qs (ay (i:=3) cy.nd (aL aF (aL aF (aL aF aq (aM (ah 0) af)) aq) (aM (ah 0) af))) (qs (ay (i:=3) cy.nd (aL aF (aL aF (ah 3) aq) (ai bI hr rfl (qa (aM (ah 0) af) aa)))) (bO (az (aL aF (aO (qa aq (qa (ai bu hr rfl (qa (ah 1) (qa (ah 3) aa))) aa))) (oN false (ah 0) (cS af) fh)))))) aY) (qs (bF (aI (fO 40 (uE hr)) (ah 2) aq (aJ _)) (qs (ay (i:=3) cy.nd (aL aF (aL aF (aL aF aq (aM (ah 0) af)) aq) (ai bI hr rfl (qa (aM (ah 0) af) aa)))) (qs (ay (i:=3) cy.nd (aL aF (aL aF (ah 3) aq) (ai bI hr rfl (qa (aM (ah 0) af) aa)))) (bO (az (aL aF (aO (qa aq (qa (ai bu hr rfl (qa (ah 1) (qa (ah 3) aa))) aa))) (oN false (ah 0) (cS af) fh)))))) aY) (qs (bF (aI (fO 40 (uE hr)) (ah 2) aq (aJ _)) (bO (az (aL aF (aO (qa aq (qa (ai bu hr rfl (qa (ah 1) (qa (aL aF (aL aF (aL aF aq (aM (ah 0) af)) aq) (ai bI hr rfl (qa (aM (ah 0) af) aa))) aa))) aa))) (oN false (ah 0) (cS af) fh)))) aY) (qs (bF (aI (fO 40 (uE hr)) (ah 2) aq (aJ _)) (bO (az (aL aF (aO (qa aq (qa (ai bu hr rfl (qa (ah 1) (qa (aL aF aq (ai dQ hr rfl (qa (aM (ah 0) af) aa))) aa))) aa))) (oN false (ah 0) (cS af) fh)))) aY) (qs (bF (aI (fO 40 (uE hr)) (ah 2) aq (aJ _)) (qs (ay (i:=3) cy.nd (aL aF (aL aF (fN aq (qa (bU (aH ["_law_name"] [] [] rfl (by decide +kernel) (by decide +kernel) (by with_unfolding_all rfl) (by exact trivial) (by rfl) rfl (by rfl)) rfl (qi (aM (ah 0) af)) (fun _ _ _ _=>(qx (i:=0) (show List.Nodup (["_law_name"]:List Str) by decide +kernel))) (fun _ _ _ _=>bf) (fun _ _ _ _=>(aL aF (ah 0) aq))) aa)) (aM (bW (qa aq (qa aq aa))) (aD Be (by rfl) J.Bf boot_int (qa (yK (fO 40 (uE hr)) (aM (ah 0) af) (aO aa) (aJ _)) aa)))) (aM (ah 0) af))) (qs (bF (aI (sX 40 (uE hr)) (aM (ah 0) af) (aO aa) (aJ _)) (bO (ay (i:=3) cy.nd (aL aF (aL aF (ah 3) aq) (fN aq (qa (bU (aH ["_law_one"] [] [] rfl (by decide +kernel) (by decide +kernel) (by with_unfolding_all rfl) (by exact trivial) (by rfl) rfl (by rfl)) rfl (qi (aM (ah 0) af)) (fun _ _ _ _=>(qx (i:=0) (show List.Nodup (["_law_one"]:List Str) by decide +kernel))) (fun _ _ _ _=>bf) (fun _ _ _ _=>(ai bI hr rfl (qa (ah 0) aa)))) aa))))) aY) (bO (az (aL aF (aO (qa aq (qa (ai bu hr rfl (qa (ah 1) (qa (aL aF aq (ah 3)) aa))) aa))) (oN false (ah 0) (cS af) fh)))))) aY) (bO (az (ai yt hr rfl (qa (ah 0) (qa (ah 1) aa))))))))))))),fun ds S kk hc hd h=>?_⟩
 obtain⟨r,s,R,rfl,e0,hg,hd2,hrw,h⟩:=h
 cases s with
 | lt a x s =>
  unfold lay at h
  unfold jZ rws at h
  unfold rws at hrw
  unfold mQ
  unfold fF at hg
  have l1:=bD hg.2
  have l2:=hg.1
  have y1:(Str.ofString " ").length=1:=by decide +kernel
  have y2:(Str.ofString " = ").length=3:=by decide +kernel
  have y3:(Str.ofString " at ").length=4:=by decide +kernel
  have y4:(Str.ofString "let ").length=4:=by decide +kernel
  have y5:(Str.ofString "put ").length=4:=by decide +kernel
  have y6:(Str.ofString "row ").length=4:=by decide +kernel
  exact⟨_,rfl,_,_,rfl,rfl,_,rfl,rfl,true,tT,_,rfl,_,rfl,_,_,rfl,rfl,dc (by(try simp only[aS]);omega),dc (by(try simp only[aS]);omega),_,rfl,_,_,rfl,rfl,s,rfl,hg.2,dc (by(try simp only[aS]);omega),r,_,R,rfl,e0,by rw[List.length_singleton] at hrw;omega,_,rfl,_,_,rfl,rfl,_,rfl,_,_,rfl,rfl,_,rfl,sz 4,gk h⟩
 | dv a x wd s b =>
  unfold lay at h
  unfold jZ rws at h
  unfold rws at hrw
  unfold mQ
  unfold fF at hg
  have l1:=bD hg.2.2.1
  have l2:=bD hg.2.2.2
  have l3:=hg.1
  have l4:=hg.2.1
  have y1:(Str.ofString " ").length=1:=by decide +kernel
  have y2:(Str.ofString " = ").length=3:=by decide +kernel
  have y3:(Str.ofString " at ").length=4:=by decide +kernel
  have y4:(Str.ofString "let ").length=4:=by decide +kernel
  have y5:(Str.ofString "put ").length=4:=by decide +kernel
  have y6:(Str.ofString "row ").length=4:=by decide +kernel
  refine⟨_,rfl,_,_,rfl,rfl,_,rfl,rfl,false,tF,_,rfl,rfl,true,tT,_,rfl,_,_,rfl,rfl,dc (by(try simp only[aS]);omega),dc (by(try simp only[aS]);omega),_,rfl,_,_,rfl,rfl,s,rfl,hg.2.2.1,dc (by(try simp only[aS]);omega),_,rfl,dc (by(try simp only[aS]);omega),_,rfl,_,_,rfl,rfl,dc (by(try simp only[aS]);omega),dc (by(try simp only[aS]);omega),_,rfl,_,_,rfl,rfl,b,rfl,hg.2.2.2,dc (by(try simp only[aS]);omega),_,rfl,_,rfl,r,_,R,rfl,e0,by rw[List.length_singleton] at hrw;omega,_,rfl,sz 2,_,rfl,1,rfl,oH (by simp),?_⟩
  rw[gy]
  exact⟨sz 6,gk h⟩
 | ft a x r0 p =>
  unfold lay at h
  unfold jZ rws at h
  unfold rws at hrw
  unfold mQ
  unfold fF at hg
  have l1:=bD hg.2.2
  have l3:=hg.1
  have l4:=hg.2.1
  have y1:(Str.ofString " ").length=1:=by decide +kernel
  have y2:(Str.ofString " = ").length=3:=by decide +kernel
  have y3:(Str.ofString " at ").length=4:=by decide +kernel
  have y4:(Str.ofString "let ").length=4:=by decide +kernel
  have y5:(Str.ofString "put ").length=4:=by decide +kernel
  have y6:(Str.ofString "row ").length=4:=by decide +kernel
  refine⟨_,rfl,_,_,rfl,rfl,_,rfl,rfl,false,tF,_,rfl,rfl,false,tF,_,rfl,rfl,true,tT,_,rfl,_,_,rfl,rfl,dc (by(try simp only[aS]);omega),dc (by(try simp only[aS]);omega),_,rfl,_,_,rfl,rfl,dc (by(try simp only[aS]);omega),_,rfl,dc (by(try simp only[aS]);omega),_,rfl,_,_,rfl,rfl,p,rfl,hg.2.2,dc (by(try simp only[aS]);omega),_,rfl,_,rfl,r,_,R,rfl,e0,by rw[List.length_singleton] at hrw;omega,_,rfl,sz 2,_,rfl,1,rfl,oH (by simp),?_⟩
  rw[gy]
  exact⟨sz 5,gk h⟩
 | pt a r0 p s =>
  unfold lay at h
  unfold jZ rws at h
  unfold rws at hrw
  unfold mQ
  unfold fF at hg
  have l1:=bD hg.2.1
  have l2:=bD hg.2.2
  have l3:=hg.1
  have y1:(Str.ofString " ").length=1:=by decide +kernel
  have y2:(Str.ofString " = ").length=3:=by decide +kernel
  have y3:(Str.ofString " at ").length=4:=by decide +kernel
  have y4:(Str.ofString "let ").length=4:=by decide +kernel
  have y5:(Str.ofString "put ").length=4:=by decide +kernel
  have y6:(Str.ofString "row ").length=4:=by decide +kernel
  refine⟨_,rfl,_,_,rfl,rfl,_,rfl,rfl,false,tF,_,rfl,rfl,false,tF,_,rfl,rfl,false,tF,_,rfl,rfl,true,tT,_,rfl,_,_,rfl,rfl,dc (by(try simp only[aS]);omega),dc (by(try simp only[aS]);omega),_,rfl,_,_,rfl,rfl,p,rfl,hg.2.1,dc (by(try simp only[aS]);omega),_,rfl,dc (by(try simp only[aS]);omega),_,rfl,_,_,rfl,rfl,s,rfl,hg.2.2,dc (by(try simp only[aS]);omega),_,rfl,_,rfl,r,_,R,rfl,e0,by rw[List.length_singleton] at hrw;omega,_,rfl,sz 2,_,rfl,1,rfl,oH (by simp),?_⟩
  rw[gy]
  exact⟨sz 5,gk h⟩
 | mq a r0 z =>
  unfold lay at h
  unfold jZ rws at h
  unfold rws at hrw
  unfold mQ
  unfold fF at hg
  have l1:=bD hg.2
  have l3:=hg.1
  have y1:(Str.ofString " ").length=1:=by decide +kernel
  have y2:(Str.ofString " = ").length=3:=by decide +kernel
  have y3:(Str.ofString " at ").length=4:=by decide +kernel
  have y4:(Str.ofString "let ").length=4:=by decide +kernel
  have y5:(Str.ofString "put ").length=4:=by decide +kernel
  have y6:(Str.ofString "row ").length=4:=by decide +kernel
  refine⟨_,rfl,_,_,rfl,rfl,_,rfl,rfl,false,tF,_,rfl,rfl,false,tF,_,rfl,rfl,false,tF,_,rfl,rfl,false,tF,_,rfl,rfl,true,tT,_,rfl,_,rfl,_,_,rfl,rfl,dc (by(try simp only[aS]);omega),dc (by(try simp only[aS]);omega),_,rfl,_,_,rfl,rfl,z,rfl,hg.2,dc (by(try simp only[aS]);omega),r,_,R,rfl,e0,by rw[List.length_singleton] at hrw;omega,_,rfl,sz 2,_,rfl,1,rfl,oH (by simp),?_⟩
  rw[gy]
  exact⟨sz 4,gk h⟩
 | cm a c =>
  unfold lay at h
  unfold jZ rws at h
  unfold rws at hrw
  unfold mQ
  unfold fF at hg
  have lc:=jI hg
  have y7:(Str.ofString "claim ").length=6:=by decide +kernel
  have y1:(Str.ofString " ").length=1:=by decide +kernel
  have y2:(Str.ofString " = ").length=3:=by decide +kernel
  have y3:(Str.ofString " at ").length=4:=by decide +kernel
  have y4:(Str.ofString "let ").length=4:=by decide +kernel
  have y5:(Str.ofString "put ").length=4:=by decide +kernel
  have y6:(Str.ofString "row ").length=4:=by decide +kernel
  refine⟨_,rfl,_,_,rfl,rfl,_,rfl,rfl,false,tF,_,rfl,rfl,false,tF,_,rfl,rfl,false,tF,_,rfl,rfl,false,tF,_,rfl,rfl,false,tF,_,rfl,rfl,true,tT,_,rfl,_,rfl,_,_,rfl,rfl,c,rfl,hg.dep,hg.g,hg.sz,dc (by(try simp only[aS]);omega),r,_,R,rfl,e0,by rw[List.length_singleton] at hrw;omega,_,rfl,sz 2,_,rfl,1,rfl,oH (by simp),?_⟩
  rw[gy]
  exact⟨sz 3,gk h⟩
 | cl a ns hp g =>
  unfold lay at h
  unfold jZ rws at h
  unfold rws at hrw
  unfold mQ
  unfold fF at hg
  have y1:(Str.ofString " ").length=1:=by decide +kernel
  have y2:(Str.ofString " = ").length=3:=by decide +kernel
  have y3:(Str.ofString " at ").length=4:=by decide +kernel
  have y4:(Str.ofString "let ").length=4:=by decide +kernel
  have y5:(Str.ofString "put ").length=4:=by decide +kernel
  have y6:(Str.ofString "row ").length=4:=by decide +kernel
  obtain⟨l1,g1,l2,l3,g2⟩:=hg
  have z2:(Str.ofString ", ").length=2:=by decide +kernel
  have z3:(Str.ofString "call ").length=5:=by decide +kernel
  have z4:(Str.ofString "").length=0:=by decide +kernel
  have z5:(Str.ofString "= ").length=2:=by decide +kernel
  have b1:=vf "" (ns.map fun x=>x++(" ":Str))
  have b2:=iC (M:=101) (l:=ns.map fun x=>x++(" ":Str)) fun x hx=>by
   obtain⟨y,hy,rfl⟩:=List.mem_map.mp hx
   have:=g1 y hy
   rw[aS];show _+(Str.ofString " ").length<=_;rw[y1];omega
  have b3:=vf ", " (g.map ku)
  have b4:=iC (M:=700) (l:=g.map ku) fun x hx=>by
   obtain⟨y,hy,rfl⟩:=List.mem_map.mp hx
   exact bD (g2 y hy)
  rw[z4,Nat.mul_zero] at b1
  rw[List.length_map] at b2 b3 b4
  rw[z2] at b3
  have eb:qp [T.str (Str.ofString "= "),T.str (Str.ofString "")] (if (xor false (decide (ns.map T.str=[])))=true then 1 else 0)=some (T.str (if ns=[] then ("":Str) else "= ")):=by
   by_cases hn:ns=[]
   ·rw[if_pos hn,decide_eq_true (by rw[hn];rfl)];rfl
   ·rw[if_neg hn,decide_eq_false (fun z=>hn (List.map_eq_nil_iff.mp z))];rfl
  have hel:(if ns=[] then ("":Str) else "= ").length<=2:=by split <;> (first | exact Nat.le_of_eq z5 | (show(Str.ofString "").length<=2;omega))
  have hB:(uD ns hp).length<=1000:=by unfold uD;simp only[aS];omega
  refine⟨_,rfl,_,_,rfl,rfl,_,rfl,rfl,false,tF,_,rfl,rfl,false,tF,_,rfl,rfl,false,tF,_,rfl,rfl,false,tF,_,rfl,rfl,false,tF,_,rfl,rfl,false,tF,_,rfl,rfl,true,tT,rfl,_,rfl,_,_,rfl,rfl,dI ?_⟩
  refine dg T.str (fun x=>T.str (x++(" ":Str))) trivial (eX (by omega)) (fun x hx k' hk=>⟨_,rfl,eX (by have:=g1 x hx;omega),_,rfl,hk⟩) ?_
  refine⟨ns.map fun x=>x++(" ":Str),by rw[List.map_map];rfl,by rw[List.length_map];show _+_*(Str.ofString "").length<=16777216;rw[z4];omega,?_⟩
  refine⟨_,rfl,sz 2,_,rfl,_,_,rfl,rfl,_,rfl,sz 0,.inr ⟨rfl,_,_,rfl,eb,eX (by omega),_,rfl,_,_,rfl,rfl,eX (by simp only[aS];omega),?_⟩⟩
  have eB:(Txt.join (Str.ofString "") (ns.map fun x=>x++(" ":Str))++(if ns=[] then ("":Str) else "= "))++hp=uD ns hp:=rfl
  rw[eB]
  unfold C0 at h
  refine⟨_,rfl,_,_,rfl,rfl,_,rfl,sz 0,.inr ⟨rfl,?_⟩⟩
  by_cases Ye:g=[]
  ·rw[if_pos Ye] at h
   refine⟨false,congrArg D.bl (Pd Ye),_,rfl,_,rfl,dc (by rw[z3];omega),r,_,R,rfl,e0,by rw[List.length_singleton] at hrw;omega,_,rfl,sz 2,_,rfl,1,rfl,oH (by simp),?_⟩
   rw[gy]
   exact⟨sz 5,gk h⟩
  ·rw[if_neg Ye] at h
   refine⟨true,congrArg D.bl (Fd Ye),_,rfl,dc (by rw[y1];omega),rfl,_,rfl,_,_,rfl,rfl,dI ?_⟩
   refine dg jl (fun s=>T.str (ku s)) trivial (eX (by omega)) (fun x hx k' hk=>⟨_,rfl,x,rfl,g2 x hx,_,rfl,hk⟩) ?_
   refine⟨g.map ku,by rw[List.map_map];rfl,by rw[List.length_map];show _+_*(Str.ofString ", ").length<=16777216;rw[z2];omega,dc (by simp only[aS];show _+(Str.ofString " ").length+(Txt.join ", " (g.map ku)).length<=_;rw[y1];omega),?_⟩
   refine⟨_,rfl,_,rfl,dc (by rw[z3];simp only[aS];show 5+(_+(Str.ofString " ").length+(Txt.join ", " (g.map ku)).length)<=_;rw[y1];omega),r,_,R,rfl,e0,by rw[List.length_singleton] at hrw;omega,_,rfl,sz 2,_,rfl,1,rfl,oH (by simp),?_⟩
   rw[gy]
   exact⟨sz 5,gk h⟩
 | ch a c t e =>
  have e7:7<=kd (.ch a c t e):=by show 7<=7;decide
  have eD:mQ (.ch a c t e)=mQ (.ch a c t e):=rfl
  conv at eD=>rhs;unfold mQ
  rw[eD]
  refine⟨_,rfl,_,_,rfl,rfl,_,rfl,rfl,false,tF,_,rfl,rfl,false,tF,_,rfl,rfl,false,tF,_,rfl,rfl,false,tF,_,rfl,rfl,false,tF,_,rfl,rfl,false,tF,_,rfl,rfl,false,tF,_,rfl,_,rfl,r,.ch a c t e,R,by rw[eD],e7,e0,hg,hd2,hrw,gk h⟩
 | rp a c hs f b =>
  have e7:7<=kd (.rp a c hs f b):=by show 7<=8;decide
  have eD:mQ (.rp a c hs f b)=mQ (.rp a c hs f b):=rfl
  conv at eD=>rhs;unfold mQ
  rw[eD]
  refine⟨_,rfl,_,_,rfl,rfl,_,rfl,rfl,false,tF,_,rfl,rfl,false,tF,_,rfl,rfl,false,tF,_,rfl,rfl,false,tF,_,rfl,rfl,false,tF,_,rfl,rfl,false,tF,_,rfl,rfl,false,tF,_,rfl,_,rfl,r,.rp a c hs f b,R,by rw[eD],e7,e0,hg,hd2,hrw,gk h⟩
noncomputable abbrev jw:Stmt:=top 57
theorem cE:av ["_law_step_here","_law_rows","_law_at","_law_then","_law_other","_law_holds","_law_falls","_law_body"] ["_law_step_here","_law_rows"] (aj jw):=fz
theorem cF (F:c8 K "_law_laid_block" "_law_laid_block" jw f fd)(J:Fx K mg A)(gz:xM P w K mg base k n)(bu:lP P w K mg base k)(bI:kq P w K mg base k)(dQ:qq P w K mg base k):aU P w K mg base dG (k+1) f fd ["_law_step_here","_law_rows"] (bA K (zJ (n+1))):=by
 refine bM F cE fun cdv B outer s H E hr=>?_
 rw[show ao jw=[_,_,_,_,_,_,_,_] from rfl]
 refine⟨_,(qs (bF (aI (fO 40 (uE hr)) (aM (ah 0) af) aq (aJ _)) (qs (ay (i:=2) cE.nd (ai bu hr rfl (qa (ah 1) (qa (aL aF aq (ai dQ hr rfl (qa (aM (ah 0) af) aa))) aa)))) (qs (ay (i:=3) cE.nd (aD bq (by rfl) J.br boot_tuple (qa (bU (aH ["_law_one"] ["_law_rows"] [1] rfl (by decide +kernel) (by decide +kernel) (by with_unfolding_all rfl) (by exact⟨rfl,trivial⟩) (by rfl) rfl (by rfl)) rfl (qi (aM (ah 0) af)) (fun _ _ _ _=>(qx (i:=0) (show List.Nodup (["_law_one","_law_rows"]:List Str) by decide +kernel))) (fun _ _ _ _=>bf) (fun _ _ _ _=>(ai gz hr rfl (qa (ah 0) (qa (ah 1) aa))))) aa))) (qs (bF (aI (sX 40 (uE hr)) (aM (ah 0) af) (aO aa) (aJ _)) (bO (iD (iy (ah 1) (qa aq aa)))) aY) (qs (ay (i:=4) cE.nd (aD bq (by rfl) J.br boot_tuple (qa (bU (aH ["_law_one"] ["_law_rows"] [1] rfl (by decide +kernel) (by decide +kernel) (by with_unfolding_all rfl) (by exact⟨rfl,trivial⟩) (by rfl) rfl (by rfl)) rfl (qi (aM (ah 0) af)) (fun _ _ _ _=>(qx (i:=0) (show List.Nodup (["_law_one","_law_rows"]:List Str) by decide +kernel))) (fun _ _ _ _=>bf) (fun _ _ _ _=>(ai gz hr rfl (qa (ah 0) (qa (ah 1) aa))))) aa))) (qs (iD (iy (ah 1) (qa aq aa))) (bO (az (aO (qa aq (qa (ah 2) (qa (aM (ah 0) af) (qa (ah 3) (qa (ah 4) aa))))))))))))) aY) (qs (ay (i:=2) cE.nd (ai bu hr rfl (qa (ah 1) (qa (aL aF aq (ai dQ hr rfl (qa (aM (ah 0) af) aa))) aa)))) (qs (ay (i:=5) cE.nd (aD bq (by rfl) J.br boot_tuple (qa (bU (aH ["_law_one"] ["_law_rows"] [1] rfl (by decide +kernel) (by decide +kernel) (by with_unfolding_all rfl) (by exact⟨rfl,trivial⟩) (by rfl) rfl (by rfl)) rfl (qi (aM (ah 0) af)) (fun _ _ _ _=>(qx (i:=0) (show List.Nodup (["_law_one","_law_rows"]:List Str) by decide +kernel))) (fun _ _ _ _=>bf) (fun _ _ _ _=>(aO (qa (ai bu hr rfl (qa (ah 1) (qa (aL aF aq (ai dQ hr rfl (qa (ah 0) aa))) aa))) (qa (ah 0) aa))))) aa))) (qs (ay (i:=6) cE.nd wL) (qs (bF (aI zR (aM (ah 0) af) wL (aJ _)) (bO (ay (i:=6) cE.nd (aO (qa (ai bu hr rfl (qa (ah 1) (qa (aL aF aq (ai bI hr rfl (qa (aM (ah 0) af) aa))) aa))) (qa (aM (ah 0) af) aa))))) aY) (qs (ay (i:=7) cE.nd (aD bq (by rfl) J.br boot_tuple (qa (bU (aH ["_law_one"] ["_law_rows"] [1] rfl (by decide +kernel) (by decide +kernel) (by with_unfolding_all rfl) (by exact⟨rfl,trivial⟩) (by rfl) rfl (by rfl)) rfl (qi (aM (ah 0) af)) (fun _ _ _ _=>(qx (i:=0) (show List.Nodup (["_law_one","_law_rows"]:List Str) by decide +kernel))) (fun _ _ _ _=>bf) (fun _ _ _ _=>(ai gz hr rfl (qa (ah 0) (qa (ah 1) aa))))) aa))) (qs (iD (iy (ah 1) (qa aq aa))) (bO (az (aO (qa aq (qa (ah 2) (qa (aM (ah 0) af) (qa (ah 5) (qa (ah 6) (qa (ah 7) aa)))))))))))))))),fun ds S kk hc hd h=>?_⟩
 obtain⟨r,s,R,rfl,TX,e0,hg,hd2,hrw,h⟩:=h
 have hlt:=(List.getElem?_eq_some_iff.mp e0).1
 cases s with
 | lt a x s=>exact absurd TX (by show ¬ 7<=0;decide)
 | dv a x wd s b=>exact absurd TX (by show ¬ 7<=1;decide)
 | ft a x r p=>exact absurd TX (by show ¬ 7<=2;decide)
 | pt a r p s=>exact absurd TX (by show ¬ 7<=3;decide)
 | mq a r z=>exact absurd TX (by show ¬ 7<=4;decide)
 | cm a c=>exact absurd TX (by show ¬ 7<=5;decide)
 | cl a ns hp g=>exact absurd TX (by show ¬ 7<=6;decide)
 | ch a c t e =>
  unfold fF at hg
  obtain⟨hg,g1,g2,l1,l2⟩:=hg
  unfold eG.dp at hd2
  unfold lay at h
  unfold jZ rws at h
  unfold rws at hrw
  unfold mQ
  rw[iG,iG]
  have lc:=jI hg
  have y7:(Str.ofString "if ").length=3:=by decide +kernel
  have hR:R.length<=1000:=by omega
  refine⟨_,rfl,_,_,rfl,rfl,rfl,true,tT,_,rfl,_,rfl,_,_,rfl,rfl,c,rfl,hg.dep,hg.g,hg.sz,dc (by rw[y7];omega),r,_,R,rfl,e0,hR,_,rfl,_,_,rfl,rfl,dI ?_⟩
  have e3:Str.ofString "if "++uC c=pre "if " c:=rfl
  rw[e3]
  refine rJ mQ (fun pr ys S'=>(∃ post,t=pr++post)/\ys=(dZ (R++[pre "if " c]).length pr).map jZ/\S'=S.set r (O.lst ((R++[pre "if " c]++aX pr).map T.str))) ⟨⟨_,rfl⟩,by unfold dZ;rfl,by unfold aX;rw[List.append_nil]⟩ ?_ ?_ ?_
  ·rintro pr ys S' ⟨⟨post,ep⟩,rfl,_⟩
   rw[List.length_map,iP]
   have:=congrArg List.length ep
   rw[List.length_append] at this
   exact oA (by omega)
  ·rintro pr s post ys S' k' ee ⟨_,rfl,rfl⟩ hN
   have hsm:s∈t:=by rw[ee];simp
   have h1:=kg hsm
   have h2:(aX pr).length+(rws s).length<=(aX t).length:=by rw[ee,fM,aX];simp only[List.length_append];omega
   refine⟨trivial,_,rfl,_,rfl,r,s,R++[pre "if " c]++aX pr,rfl,rA hlt,g7 g1 hsm,by omega,by simp only[List.length_append,List.length_cons,List.length_nil,List.length_map] at hrw ⊢;omega,?_⟩
   rw[List.set_set]
   refine⟨_,rfl,hN _ _ ⟨⟨post,by rw[ee];simp⟩,?_,?_⟩⟩
   ·rw[oW,dZ,dZ,List.map_append,show((R++[pre "if " c])++aX pr).length=(R++[pre "if " c]).length+(aX pr).length from List.length_append];rfl
   ·rw[fM,aX,aX,List.append_nil,List.append_assoc]
  rintro ys S' ⟨_,rfl,rfl⟩
  refine⟨trivial,?_⟩
  refine⟨_,rfl,_,rfl,_,_,rfl,rfl,_,rfl,sz 0,.inr ⟨rfl,?_⟩⟩
  by_cases he:e=[]
  ·subst he
   refine⟨false,congrArg D.bl rfl,_,rfl,_,_,rfl,rfl,dI ⟨trivial,_,rfl,_,rfl,⟨rfl,_,bX (rA hlt)⟩,_,rA hlt,oA (by rw[List.length_map,List.length_append,List.length_append];simp only[List.length_append,List.length_cons,List.length_nil] at hrw ⊢;omega),?_⟩⟩
   rw[List.set_set]
   refine⟨_,rfl,_,rfl,_,_,rfl,rfl,_,rfl,_,rfl,_,rfl,sz 5,gk ?_⟩
   rw[if_pos rfl] at h
   rw[gn,gn] at h
   simp[dZ] at h ⊢
   exact h
  ·rw[if_neg he] at h hrw
   refine⟨true,congrArg D.bl (Fd he),_,rfl,⟨rfl,_,bX (rA hlt)⟩,_,rA hlt,oA (by rw[List.length_map,List.length_append,List.length_append];simp only[List.length_append,List.length_cons,List.length_nil] at hrw ⊢;omega),?_⟩
   have es:(S.set r (O.lst (((R++[pre "if " c])++aX t).map T.str))).set r (O.lst (((R++[pre "if " c])++aX t).map T.str++[T.str (Str.ofString "else")]))=S.set r (O.lst ((((R++[pre "if " c])++aX t)++[("else":Str)]).map T.str)):=by rw[List.set_set,List.map_append (l₂:=[("else":Str)])];rfl
   rw[es]
   refine⟨_,rfl,_,_,rfl,rfl,dI ?_⟩
   refine rJ mQ (fun pr ys S'=>(∃ post,e=pr++post)/\ys=(dZ (((R++[pre "if " c])++aX t)++[("else":Str)]).length pr).map jZ/\S'=S.set r (O.lst ((((R++[pre "if " c])++aX t)++[("else":Str)]++aX pr).map T.str))) ⟨⟨_,rfl⟩,by unfold dZ;rfl,by unfold aX;rw[List.append_nil]⟩ ?_ ?_ ?_
   ·rintro pr ys S' ⟨⟨post,ep⟩,rfl,_⟩
    rw[List.length_map,iP]
    have:=congrArg List.length ep
    rw[List.length_append] at this
    exact oA (by omega)
   ·rintro pr s post ys S' k' ee ⟨_,rfl,rfl⟩ hN
    have hsm:s∈e:=by rw[ee];simp
    have h1:=kg hsm
    have h2:(aX pr).length+(rws s).length<=(aX e).length:=by rw[ee,fM,aX];simp only[List.length_append];omega
    refine⟨trivial,_,rfl,_,rfl,r,s,((R++[pre "if " c])++aX t)++[("else":Str)]++aX pr,rfl,rA hlt,g7 g2 hsm,by omega,by simp only[List.length_append,List.length_cons,List.length_nil,List.length_map] at hrw ⊢;omega,?_⟩
    rw[List.set_set]
    refine⟨_,rfl,hN _ _ ⟨⟨post,by rw[ee];simp⟩,?_,?_⟩⟩
    ·rw[oW,dZ,dZ,List.map_append,show((((R++[pre "if " c])++aX t)++[("else":Str)])++aX pr).length=(((R++[pre "if " c])++aX t)++[("else":Str)]).length+(aX pr).length from List.length_append];rfl
    ·rw[fM,aX,aX,List.append_nil,List.append_assoc]
   rintro ys S' ⟨_,rfl,rfl⟩
   refine⟨trivial,?_⟩
   refine⟨_,rfl,_,rfl,⟨rfl,_,bX (rA hlt)⟩,_,rA hlt,oA (by simp only[List.length_append,List.length_cons,List.length_nil,List.length_map] at hrw ⊢;omega),?_⟩
   rw[List.set_set]
   refine⟨_,rfl,_,rfl,_,_,rfl,rfl,_,rfl,_,rfl,_,rfl,sz 5,gk ?_⟩
   rw[if_neg he,gn,gn] at h
   simp at h ⊢
   simp only[Nat.add_assoc,Nat.add_left_comm,Nat.add_comm,Int.add_assoc,Int.add_left_comm,Int.add_comm] at h ⊢
   exact h
 | rp a c hs f b =>
  unfold fF at hg
  obtain⟨hg,lh,gh,gf,g1,l1⟩:=hg
  unfold eG.dp at hd2
  unfold lay at h
  unfold jZ rws at h
  unfold rws at hrw
  unfold mQ
  rw[iG]
  have lc:=jI hg
  have y7:(Str.ofString "while ").length=6:=by decide +kernel
  have y8:(Str.ofString "holds ").length=6:=by decide +kernel
  have y9:(Str.ofString "falls ").length=6:=by decide +kernel
  have hR:R.length<=1000:=by omega
  refine⟨_,rfl,_,_,rfl,rfl,rfl,false,tF,_,rfl,_,rfl,_,_,rfl,rfl,c,rfl,hg.dep,hg.g,hg.sz,dc (by rw[y7];omega),r,_,R,rfl,e0,hR,_,rfl,_,_,rfl,rfl,dI ?_⟩
  have e3:Str.ofString "while "++uC c=pre "while " c:=rfl
  rw[e3]
  refine rJ (fun p:Int×cO=>lG p.2) (fun pr ys S'=>(∃ post,hs=pr++post)/\ys=(gI (R.length+1) pr).map Ln/\S'=S.set r (O.lst (((R++[pre "while " c])++pr.map fun p=>pre "holds " p.2).map T.str))) ⟨⟨_,rfl⟩,by unfold gI;rfl,by rw[List.map_nil,List.append_nil]⟩ ?_ ?_ ?_
  ·rintro pr ys S' ⟨⟨post,ep⟩,rfl,_⟩
   rw[List.length_map,nq]
   have:=congrArg List.length ep
   rw[List.length_append] at this
   exact oA (by omega)
  ·rintro pr p post ys S' k' ee ⟨_,rfl,rfl⟩ hN
   have W9:p∈hs:=by rw[ee];simp
   have hpk:=gh p W9
   have lp:=jI hpk
   have hpl:pr.length < hs.length:=by rw[ee];simp
   refine⟨trivial,_,rfl,_,rfl,p.2,rfl,hpk.dep,hpk.g,hpk.sz,dc (by rw[y8];omega),r,_,(R++[pre "while " c])++pr.map fun p=>pre "holds " p.2,rfl,rA hlt,by simp only[List.length_append,List.length_cons,List.length_nil,List.length_map] at hrw ⊢;omega,_,rfl,_,rfl,sz 2,?_⟩
   rw[List.set_set]
   refine⟨_,rfl,hN _ _ ⟨⟨post,by rw[ee];simp⟩,?_,?_⟩⟩
   ·rw[wY,gI,gI,List.map_append,List.length_append,List.length_append,List.length_map];rfl
   ·rw[List.map_append (l₁:=pr),List.append_assoc (R++_)];rfl
  rintro ys S' ⟨_,rfl,rfl⟩
  refine⟨trivial,_,rfl,_,rfl,_,_,rfl,rfl,?_⟩
  rw[gn] at h
  cases f with
  | none =>
   refine⟨false,rfl,_,rfl,_,_,rfl,rfl,dI ?_⟩
   refine rJ mQ (fun pr ys S'=>(∃ post,b=pr++post)/\ys=(dZ (((R++[pre "while " c])++(hs.map fun p=>pre "holds " p.2))).length pr).map jZ/\S'=S.set r (O.lst ((((R++[pre "while " c])++(hs.map fun p=>pre "holds " p.2))++aX pr).map T.str))) ⟨⟨_,rfl⟩,by unfold dZ;rfl,by unfold aX;rw[List.append_nil]⟩ ?_ ?_ ?_
   ·rintro pr ys S' ⟨⟨post,ep⟩,rfl,_⟩
    rw[List.length_map,iP]
    have:=congrArg List.length ep
    rw[List.length_append] at this
    exact oA (by omega)
   ·rintro pr s post ys S' k' ee ⟨_,rfl,rfl⟩ hN
    have hsm:s∈b:=by rw[ee];simp
    have h1:=kg hsm
    have h2:(aX pr).length+(rws s).length<=(aX b).length:=by rw[ee,fM,aX];simp only[List.length_append];omega
    refine⟨trivial,_,rfl,_,rfl,r,s,((R++[pre "while " c])++(hs.map fun p=>pre "holds " p.2))++aX pr,rfl,rA hlt,g7 g1 hsm,by omega,by simp only[List.length_append,List.length_cons,List.length_nil,List.length_map] at hrw ⊢;omega,?_⟩
    rw[List.set_set]
    refine⟨_,rfl,hN _ _ ⟨⟨post,by rw[ee];simp⟩,?_,?_⟩⟩
    ·rw[oW,dZ,dZ,List.map_append,show((((R++[pre "while " c])++(hs.map fun p=>pre "holds " p.2)))++aX pr).length=(((R++[pre "while " c])++(hs.map fun p=>pre "holds " p.2))).length+(aX pr).length from List.length_append];rfl
    ·rw[fM,aX,aX,List.append_nil,List.append_assoc]
   rintro ys S' ⟨_,rfl,rfl⟩
   refine⟨trivial,?_⟩
   refine⟨_,rfl,_,rfl,⟨rfl,_,bX (rA hlt)⟩,_,rA hlt,oA (by simp only[List.length_append,List.length_cons,List.length_nil,List.length_map] at hrw ⊢;omega),?_⟩
   rw[List.set_set]
   refine⟨_,rfl,_,rfl,_,_,rfl,rfl,_,rfl,_,rfl,_,rfl,_,rfl,sz 6,gk ?_⟩
   simp[PC,faR] at h ⊢
   simp only[Nat.add_assoc,Nat.add_left_comm,Nat.add_comm,Int.add_assoc,Int.add_left_comm,Int.add_comm] at h ⊢
   exact h
  | some p =>
   have hp:=gf p rfl
   have lp:=bD hp
   refine⟨true,rfl,_,rfl,_,rfl,_,_,rfl,rfl,p.2,rfl,hp,dc (by rw[y9];omega),r,_,(R++[pre "while " c])++hs.map fun p=>pre "holds " p.2,rfl,rA hlt,by simp only[List.length_append,List.length_cons,List.length_nil,List.length_map] at hrw ⊢;omega,_,rfl,_,_,rfl,rfl,_,rfl,sz 2,_,rfl,_,_,rfl,rfl,dI ?_⟩
   refine rJ mQ (fun pr ys S'=>(∃ post,b=pr++post)/\ys=(dZ ((((R++[pre "while " c])++(hs.map fun p=>pre "holds " p.2))++[("falls ":Str)++ku p.2])).length pr).map jZ/\S'=S.set r (O.lst (((((R++[pre "while " c])++(hs.map fun p=>pre "holds " p.2))++[("falls ":Str)++ku p.2])++aX pr).map T.str))) ⟨⟨_,rfl⟩,by unfold dZ;rfl,by unfold aX;rw[List.append_nil,List.set_set]⟩ ?_ ?_ ?_
   ·rintro pr ys S' ⟨⟨post,ep⟩,rfl,_⟩
    rw[List.length_map,iP]
    have:=congrArg List.length ep
    rw[List.length_append] at this
    exact oA (by omega)
   ·rintro pr s post ys S' k' ee ⟨_,rfl,rfl⟩ hN
    have hsm:s∈b:=by rw[ee];simp
    have h1:=kg hsm
    have h2:(aX pr).length+(rws s).length<=(aX b).length:=by rw[ee,fM,aX];simp only[List.length_append];omega
    refine⟨trivial,_,rfl,_,rfl,r,s,(((R++[pre "while " c])++(hs.map fun p=>pre "holds " p.2))++[("falls ":Str)++ku p.2])++aX pr,rfl,rA hlt,g7 g1 hsm,by omega,by simp only[List.length_append,List.length_cons,List.length_nil,List.length_map] at hrw ⊢;omega,?_⟩
    rw[List.set_set]
    refine⟨_,rfl,hN _ _ ⟨⟨post,by rw[ee];simp⟩,?_,?_⟩⟩
    ·rw[oW,dZ,dZ,List.map_append,show(((((R++[pre "while " c])++(hs.map fun p=>pre "holds " p.2))++[("falls ":Str)++ku p.2]))++aX pr).length=((((R++[pre "while " c])++(hs.map fun p=>pre "holds " p.2))++[("falls ":Str)++ku p.2])).length+(aX pr).length from List.length_append];rfl
    ·rw[fM,aX,aX,List.append_nil,List.append_assoc]
   rintro ys S' ⟨_,rfl,rfl⟩
   refine⟨trivial,?_⟩
   refine⟨_,rfl,_,rfl,⟨rfl,_,bX (rA hlt)⟩,_,rA hlt,oA (by simp only[List.length_append,List.length_cons,List.length_nil,List.length_map] at hrw ⊢;omega),?_⟩
   rw[List.set_set]
   refine⟨_,rfl,_,rfl,_,_,rfl,rfl,_,rfl,_,rfl,_,rfl,_,rfl,sz 6,gk ?_⟩
   simp[PC,faR] at h ⊢
   simp only[Nat.add_assoc,Nat.add_left_comm,Nat.add_comm,Int.add_assoc,Int.add_left_comm,Int.add_comm] at h ⊢
   exact h
noncomputable abbrev wG:Stmt:=top 58
theorem eK:av ["_law_helpers","_law_rows","_law_told","_law_name","_law_params","_law_answers","_law_needs","_law_gives","_law_steps_here","_law_at","_law_asked","_law_given","_law_laid_here"] ["_law_helpers"] (aj wG):=fz
theorem JX (F:c8 K "_law_laid" "_law_laid" wG f fd)(J:Fx K mg A)(gz:Dn P w K mg base k "_law_laid_step" ["_law_step_here","_law_rows"] (bA K (GH 9)))(bu:lP P w K mg base k)(dQ:qq P w K mg base k):aU P w K mg base dG (k+1) f fd ["_law_helpers"] (bA K IQ):=by
 refine bM F eK fun cdv B outer s H E hr=>?_
 rw[show ao wG=[_,_,_,_] from rfl]
 refine⟨_,(qs (ay (i:=1) eK.nd (jd aa)) (qs (ay (i:=2) eK.nd (jd aa)) (qs (jD PassesOwn.never rfl (qi (ah 0)) (p6 (n:=6) rfl (yJ (qg (i:=3) eK.nd) (yJ (qg (i:=4) eK.nd) (yJ (qg (i:=5) eK.nd) (yJ (qg (i:=6) eK.nd) (yJ (qg (i:=7) eK.nd) (yJ (qg (i:=8) eK.nd) mE))))))) (qs (ay (i:=9) eK.nd (ai bu hr rfl (qa (ah 1) (qa (fN aq (qa (aL aF (bW (qa aq (qa (ah 3) aa))) (aD rK (by rfl) J.rM boot_list (qa (ah 4) aa))) aa)) aa)))) (qs (bF (aI (sX 40 (uE hr)) (ah 5) (aO aa) (aJ _)) (bO (iD (iy (ah 1) (qa (fN aq (qa (aL aF (bW (qa aq aa)) (aD rK (by rfl) J.rM boot_list (qa (ah 5) aa))) aa)) aa)))) aY) (qs (ay (i:=10) eK.nd (aD bq (by rfl) J.br boot_tuple (qa (bU (aH ["_law_one"] ["_law_rows"] [1] rfl (by decide +kernel) (by decide +kernel) (by with_unfolding_all rfl) (by exact⟨rfl,trivial⟩) (by rfl) rfl (by rfl)) rfl (qi (ah 6)) (fun _ _ _ _=>(qx (i:=0) (show List.Nodup (["_law_one","_law_rows"]:List Str) by decide +kernel))) (fun _ _ _ _=>bf) (fun _ _ _ _=>(aO (qa (ai bu hr rfl (qa (ah 1) (qa (aL aF aq (ai dQ hr rfl (qa (ah 0) aa))) aa))) (qa (ah 0) aa))))) aa))) (qs (ay (i:=11) eK.nd (aD bq (by rfl) J.br boot_tuple (qa (bU (aH ["_law_one"] ["_law_rows"] [1] rfl (by decide +kernel) (by decide +kernel) (by with_unfolding_all rfl) (by exact⟨rfl,trivial⟩) (by rfl) rfl (by rfl)) rfl (qi (ah 7)) (fun _ _ _ _=>(qx (i:=0) (show List.Nodup (["_law_one","_law_rows"]:List Str) by decide +kernel))) (fun _ _ _ _=>bf) (fun _ _ _ _=>(aO (qa (ai bu hr rfl (qa (ah 1) (qa (aL aF aq (ai dQ hr rfl (qa (ah 0) aa))) aa))) (qa (ah 0) aa))))) aa))) (qs (ay (i:=12) eK.nd (aD bq (by rfl) J.br boot_tuple (qa (bU (aH ["_law_one"] ["_law_rows"] [1] rfl (by decide +kernel) (by decide +kernel) (by with_unfolding_all rfl) (by exact⟨rfl,trivial⟩) (by rfl) rfl (by rfl)) rfl (qi (ah 8)) (fun _ _ _ _=>(qx (i:=0) (show List.Nodup (["_law_one","_law_rows"]:List Str) by decide +kernel))) (fun _ _ _ _=>bf) (fun _ _ _ _=>(ai gz hr rfl (qa (ah 0) (qa (ah 1) aa))))) aa))) (qs (iD (iy (ah 1) (qa aq aa))) (bO (iD (iy (ah 2) (qa (aO (qa aq (qa (ah 9) (qa (ah 3) (qa (ah 4) (qa (ah 5) (qa (ah 10) (qa (ah 11) (qa (ah 12) aa))))))))) aa))))))))))) (bO (az (aO (qa (fN aq (qa (bU (aH ["_law_row"] [] [] rfl (by decide +kernel) (by decide +kernel) (by with_unfolding_all rfl) (by exact trivial) (by rfl) rfl (by rfl)) rfl (qi (ah 1)) (fun _ _ _ _=>(qx (i:=0) (show List.Nodup (["_law_row"]:List Str) by decide +kernel))) (fun _ _ _ _=>bf) (fun _ _ _ _=>(aL aF (ah 0) aq))) aa)) (qa (aD bq (by rfl) J.br boot_tuple (qa (ah 2) aa)) aa)))))))),fun ds S kk hc hd h=>?_⟩
 obtain⟨d,hs,rfl,hd2,hg,hrw,h⟩:=h
 refine⟨_,rfl,sz 0,_,rfl,sz 0,?_⟩
 rw[List.length_append,List.append_assoc]
 refine⟨_,rfl,Ni (Wg hd2) fun G hG=>uB mG (fun pr δ S'=>∃ z1 z2 z3 z4 z5 z6 z7 z8 z9 z0,δ=[some d,some (D.ob (S.length+0)),some (D.ob (S.length+1)),z1,z2,z3,z4,z5,z6,z7,z8,z9,z0]/\S'=S++[O.lst (((pr.map bH).flatten).map T.str),O.lst ((c7 0 pr).map yl)]) ⟨_,_,_,_,_,_,_,_,_,_,rfl,rfl⟩ ?_ ?_⟩
 ·rintro pr x post δ S' N e ⟨z1,z2,z3,z4,z5,z6,z7,z8,z9,z0,rfl,rfl⟩ hN
  have hx:x∈hs:=by rw[e];simp
  obtain⟨gx,gd⟩:=hg x hx
  obtain⟨p1,p2,p3,p4,p5⟩:=gx.pl
  have h3:((pr.map bH).flatten).length+(bH x).length<=600:=by rw[e] at hrw;simp only[List.map_append,List.map_cons,List.flatten_append,List.flatten_cons,List.length_append] at hrw;omega
  have hlr:(c7 0 pr).length<=600:=by
   have hl0:∀ (l:List lI) (n:Nat),(c7 n l).length<=((l.map bH).flatten).length:=by
    intro l
    induction l with
    | nil=>intro n;unfold c7;simp
    | cons c r ih =>
     intro n
     unfold c7
     have:=ih (n+(bH c).length)
     have hp:1<=(bH c).length:=by rw[sP];simp
     rw[List.length_cons,List.map_cons,List.flatten_cons,List.length_append]
     omega
   have:=hl0 pr 0
   omega
  have eH:=CP pr [x] 0
  rw[Nat.zero_add] at eH
  rw[sP] at h3
  have hxr:bH x=([Txt.join " " ([("helper":Str),x.name]++x.params)]++Eg x)++x.needs.map (fun p=>pre "needs " p.2)++x.gives.map (fun p=>pre "gives " p.2)++aX x.steps++[("end":Str)]:=sP x
  have efl:((pr++[x]).map bH).flatten=(pr.map bH).flatten++bH x:=by simp
  have er:=hN
  generalize hR:(pr.map bH).flatten=R at h3 eH efl
  generalize W6:(c7 0 pr).map yl=tl
  have a3d:tl.length<=600:=by rw[<- W6,List.length_map];exact hlr
  have hW:∀ R R':List Str,(S++[O.lst (R.map T.str),O.lst tl]).set (S.length+0) (O.lst (R'.map T.str))=S++[O.lst (R'.map T.str),O.lst tl]:=fun R R'=>by rw[g8];rfl
  have hA:∀ (R:List Str) (y:Str),(S++[O.lst (R.map T.str),O.lst tl]).set (S.length+0) (O.lst (R.map T.str++[T.str y]))=S++[O.lst ((R++[y]).map T.str),O.lst tl]:=fun R y=>by rw[g8,List.map_append];rfl
  have q2:(Str.ofString " ").length=1:=by decide +kernel
  have q3:(Str.ofString "helper").length<=100:=by decide +kernel
  have q4:(Str.ofString "answers").length<=100:=by decide +kernel
  have N9:(Str.ofString "needs ").length=6:=by decide +kernel
  have Oa:(Str.ofString "gives ").length=6:=by decide +kernel
  have s1:=iC (M:=100) gx.ps
  have s2:=iC (M:=100) gx.an
  have hn:=gx.nm
  simp only[List.length_append,List.length_cons,List.length_nil,List.length_map,mL] at h3
  refine⟨hG _,_,rfl,rfl,_,_,rfl,_,_,rfl,_,_,rfl,_,_,rfl,_,_,rfl,_,_,rfl,rfl,_,rfl,rfl,_,rfl,_,rfl,sz 2,_,rfl,_,rfl,_,_,rfl,rfl,eX (by simp;omega),[("helper":Str),x.name]++x.params,by rw[List.map_append];rfl,?_,S.length+0,_,R,rfl,bC,by omega,?_⟩
  ·simp only[List.map_append,List.map_cons,List.map_nil,List.sum_append,List.sum_cons,List.sum_nil,List.length_append,List.length_cons,List.length_nil];rw[q2];omega
  rw[hW]
  dsimp only[Fp]
  show yH _ _ _ _ _ _
  refine' QY (!decide (x.answers=[])) (fun k' hk=>⟨_,rfl,_,rfl,sz 0,.inr ⟨rfl,_,congrArg D.bl (by rw[Bool.true_xor];congr 1;exact decide_eq_decide.mpr (by rw[List.map_eq_nil_iff])),hk⟩⟩) _ (fun hv hp=>?_) (fun hv hp=>?_) ?_
  rotate_left
  rotate_left
  ·have ha:x.answers=[]:=by simpa using hv
   have ea:R++[Txt.join " " ([("helper":Str),x.name]++x.params)]=(R++[Txt.join " " ([("helper":Str),x.name]++x.params)])++Eg x:=by unfold Eg;rw[if_pos ha,List.append_nil]
   have ea':S++[O.lst ((R++[Txt.join " " ([("helper":Str),x.name]++x.params)]).map T.str),O.lst tl]=S++[O.lst (((R++[Txt.join " " ([("helper":Str),x.name]++x.params)])++Eg x).map T.str),O.lst tl]:=by rw[<- ea]
   show uG.nx _ _ _
   rw[ea']
   exact hp
  rotate_left
  ·have ha:x.answers≠[]:=fun z=>by rw[z] at hv;simp at hv
   refine⟨_,rfl,⟨rfl,_,bX bC⟩,rfl,_,rfl,sz 1,_,rfl,_,rfl,_,_,rfl,rfl,eX (by simp;omega),[("answers":Str)]++x.answers,by rw[List.map_append];rfl,?_,_,bC,oA (by simp;omega),?_⟩
   ·simp only[List.map_append,List.map_cons,List.map_nil,List.sum_append,List.sum_cons,List.sum_nil,List.length_append,List.length_cons,List.length_nil];rw[q2];omega
   rw[hA]
   have ea:[Txt.join (Str.ofString " ") ([("answers":Str)]++x.answers)]=Eg x:=by unfold Eg;rw[if_neg ha]
   rw[ea]
   exact hp
  refine⟨_,rfl,dI ?_⟩
  refine rJ (fun p:Int×cO=>lG p.2) (fun pr ys S'=>(∃ post,x.needs=pr++post)/\ys=(gI (R.length+1+K5 x) pr).map Ln/\S'=S++[O.lst ((((R++[Txt.join " " ([("helper":Str),x.name]++x.params)])++Eg x)++pr.map fun p=>pre "needs " p.2).map T.str),O.lst tl]) ⟨⟨_,rfl⟩,by unfold gI;rfl,by rw[List.map_nil,List.append_nil]⟩ ?_ ?_ ?_
  ·rintro pr ys S' ⟨⟨post,ep⟩,rfl,_⟩
   rw[List.length_map,nq]
   have:=congrArg List.length ep
   rw[List.length_append] at this
   exact oA (by omega)
  ·rintro pr p post ys S' k' ee ⟨_,rfl,rfl⟩ hN
   have W9:p∈x.needs:=by rw[ee];simp
   have hpk:=gx.nd p W9
   have lp:=jI hpk
   have hpl:pr.length < x.needs.length:=by rw[ee];simp
   refine⟨trivial,_,rfl,_,rfl,p.2,rfl,hpk.dep,hpk.g,hpk.sz,dc (by rw[N9];omega),S.length+0,_,((R++[Txt.join " " ([("helper":Str),x.name]++x.params)])++Eg x)++(pr.map fun p=>pre "needs " p.2),rfl,bC,by simp only[List.length_append,List.length_cons,List.length_nil,List.length_map,mL];omega,_,rfl,_,rfl,sz 2,?_⟩
   rw[hW]
   refine⟨_,rfl,hN _ _ ⟨⟨post,by rw[ee];simp⟩,?_,?_⟩⟩
   ·rw[wY,gI,gI,List.map_append,show(((R++[Txt.join " " ([("helper":Str),x.name]++x.params)])++Eg x)++(pr.map fun p=>pre "needs " p.2)).length=R.length+1+K5 x+pr.length by simp only[List.length_append,List.length_map,List.length_cons,List.length_nil,mL] <;> omega];rfl
   ·rw[List.map_append (l₁:=pr),<- List.append_assoc];rfl
  rintro ys S' ⟨_,rfl,rfl⟩
  refine⟨trivial,?_⟩
  refine⟨_,rfl,_,rfl,dI ?_⟩
  refine rJ (fun p:Int×cO=>lG p.2) (fun pr ys S'=>(∃ post,x.gives=pr++post)/\ys=(gI (R.length+1+K5 x+x.needs.length) pr).map Ln/\S'=S++[O.lst (((((R++[Txt.join " " ([("helper":Str),x.name]++x.params)])++Eg x)++x.needs.map fun p=>pre "needs " p.2)++pr.map fun p=>pre "gives " p.2).map T.str),O.lst tl]) ⟨⟨_,rfl⟩,by unfold gI;rfl,by rw[List.map_nil,List.append_nil]⟩ ?_ ?_ ?_
  ·rintro pr ys S' ⟨⟨post,ep⟩,rfl,_⟩
   rw[List.length_map,nq]
   have:=congrArg List.length ep
   rw[List.length_append] at this
   exact oA (by omega)
  ·rintro pr p post ys S' k' ee ⟨_,rfl,rfl⟩ hN
   have W9:p∈x.gives:=by rw[ee];simp
   have hpk:=gx.gv p W9
   have lp:=jI hpk
   have hpl:pr.length < x.gives.length:=by rw[ee];simp
   refine⟨trivial,_,rfl,_,rfl,p.2,rfl,hpk.dep,hpk.g,hpk.sz,dc (by rw[Oa];omega),S.length+0,_,(((R++[Txt.join " " ([("helper":Str),x.name]++x.params)])++Eg x)++x.needs.map fun p=>pre "needs " p.2)++(pr.map fun p=>pre "gives " p.2),rfl,bC,by simp only[List.length_append,List.length_cons,List.length_nil,List.length_map,mL];omega,_,rfl,_,rfl,sz 2,?_⟩
   rw[hW]
   refine⟨_,rfl,hN _ _ ⟨⟨post,by rw[ee];simp⟩,?_,?_⟩⟩
   ·rw[wY,gI,gI,List.map_append,show((((R++[Txt.join " " ([("helper":Str),x.name]++x.params)])++Eg x)++x.needs.map fun p=>pre "needs " p.2)++(pr.map fun p=>pre "gives " p.2)).length=R.length+1+K5 x+x.needs.length+pr.length by simp only[List.length_append,List.length_map,List.length_cons,List.length_nil,mL] <;> omega];rfl
   ·rw[List.map_append (l₁:=pr),<- List.append_assoc];rfl
  rintro ys S' ⟨_,rfl,rfl⟩
  refine⟨trivial,?_⟩
  refine⟨_,rfl,_,rfl,?_⟩
  rw[iG]
  refine dI ?_
  refine rJ mQ (fun pr ys S'=>(∃ post,x.steps=pr++post)/\ys=(dZ (R.length+1+K5 x+x.needs.length+x.gives.length) pr).map jZ/\S'=S++[O.lst ((((((R++[Txt.join " " ([("helper":Str),x.name]++x.params)])++Eg x)++x.needs.map fun p=>pre "needs " p.2)++x.gives.map fun p=>pre "gives " p.2)++aX pr).map T.str),O.lst tl]) ⟨⟨_,rfl⟩,by unfold dZ;rfl,by unfold aX;rw[List.append_nil]⟩ ?_ ?_ ?_
  ·rintro pr ys S' ⟨⟨post,ep⟩,rfl,_⟩
   rw[List.length_map,iP]
   have:=congrArg List.length ep
   rw[List.length_append] at this
   exact oA (by omega)
  ·rintro pr s post ys S' k' ee ⟨_,rfl,rfl⟩ hN
   have hsm:s∈x.steps:=by rw[ee];simp
   have h1:=kg hsm
   have h2:(aX pr).length+(rws s).length<=(aX x.steps).length:=by rw[ee,fM,aX];simp only[List.length_append];omega
   refine⟨trivial,_,rfl,_,rfl,S.length+0,s,((((R++[Txt.join " " ([("helper":Str),x.name]++x.params)])++Eg x)++x.needs.map fun p=>pre "needs " p.2)++x.gives.map fun p=>pre "gives " p.2)++aX pr,rfl,bC,g7 gx.st hsm,by omega,by simp only[List.length_append,List.length_cons,List.length_nil,List.length_map,mL];omega,?_⟩
   rw[hW]
   refine⟨_,rfl,hN _ _ ⟨⟨post,by rw[ee];simp⟩,?_,?_⟩⟩
   ·rw[oW,dZ,dZ,List.map_append,show(((((R++[Txt.join " " ([("helper":Str),x.name]++x.params)])++Eg x)++x.needs.map fun p=>pre "needs " p.2)++x.gives.map fun p=>pre "gives " p.2)++aX pr).length=R.length+1+K5 x+x.needs.length+x.gives.length+(aX pr).length by simp only[List.length_append,List.length_map,List.length_cons,List.length_nil,mL] <;> omega];rfl
   ·rw[fM,aX,aX,List.append_nil,<- List.append_assoc]
  rintro ys S' ⟨_,rfl,rfl⟩
  refine⟨trivial,_,rfl,_,rfl,⟨rfl,_,bX bC⟩,_,bC,oA (by simp only[List.length_append,List.length_cons,List.length_nil,List.length_map,mL];omega),?_⟩
  rw[hA]
  refine⟨_,rfl,⟨rfl,_,bX (bC (j:=1))⟩,_,rfl,_,rfl,_,rfl,_,rfl,_,rfl,_,rfl,_,rfl,_,rfl,sz 8,_,bC (j:=1),oA (by omega),?_⟩
  rw[g8 (j:=1)]
  refine er _ _ ⟨_,_,_,_,_,_,_,_,_,_,rfl,?_⟩
  rw[efl,hxr,eH,List.map_append (l₂:=c7 _ _),W6]
  simp[c7,M5,yl,gn]
 ·rintro δ S' ⟨z1,z2,z3,z4,z5,z6,z7,z8,z9,z0,rfl,rfl⟩
  have z1:("\n":Str).length=1:=by decide +kernel
  have hrl:∀ r∈(hs.map bH).flatten,r.length<=25000:=fun r hr=>by
   obtain⟨l,hl,hr⟩:=List.mem_flatten.mp hr
   obtain⟨x,hx,rfl⟩:=List.mem_map.mp hl
   exact CT (hg x hx).1 r hr
  refine⟨hG _,rfl,_,rfl,Tw (bC (j:=0)) ?_⟩
  refine dg T.str (fun r=>T.str (r++("\n":Str))) (bC (j:=0)) (eX (by omega)) (fun r hr k' hk=>⟨_,rfl,dc (by rw[z1];have:=hrl r hr;omega),_,rfl,hk⟩) ?_
  refine⟨((hs.map bH).flatten).map fun r=>r++("\n":Str),by rw[List.map_map];rfl,?_,_,rfl,_,kZ (bC (j:=1)),_,rfl,sz 2,Cg hc ?_⟩
  ·have:=iC (M:=25001) (l:=((hs.map bH).flatten).map fun r=>r++("\n":Str)) fun x hx=>by
    obtain⟨y,hy,rfl⟩:=List.mem_map.mp hx
    have:=hrl y hy
    rw[aS,z1];omega
   rw[List.length_map] at this ⊢
   have z:(Str.ofString "").length=0:=by decide +kernel
   rw[z]
   omega
  ·exact h
noncomputable abbrev lX:Stmt:=top 59
theorem BJ:av ["_law_one"] ["_law_one"] (aj lX):=fz
theorem BX (F:c8 K "_law_sum_made" "_law_sum_made" lX f fd)(J:Fx K mg A)(NS:Ij P w K mg base k A):aU P w K mg base dG (k+1) f fd ["_law_one"] (bA K (IK A)):=by
 refine bM F BJ fun cdv B outer s H E hr=>?_
 rw[show ao lX=[_] from rfl]
 refine⟨_,(bO (az (ai NS hr rfl (qa (aM (ah 0) af) (qa (aM (ah 0) af) aa))))),fun ds S kk hc hd h=>?_⟩
 obtain⟨s,rfl,hg,h⟩:=h
 have e:sumOf s.1 s.2=s:=by unfold sumOf;rw[hg.nm]
 exact⟨_,rfl,_,_,rfl,rfl,_,rfl,_,_,rfl,rfl,_,s.1,s.2,rfl,rfl,by have:=hg.len;omega,gk (by rw[e];exact h)⟩
noncomputable abbrev fV:Stmt:=top 60
theorem lQ:av ["_law_told","_law_inner"] ["_law_told"] (aj fV):=fz
theorem iE (F:c8 K "_law_condition_made" "_law_condition_made" fV f fd)(J:Fx K mg A)(Hs:N1 P w K mg base k A)(DX:K8 P w K mg base k A)(AW:Ic P w K mg base k A)(cN:Dn P w K mg base k "_law_condition_made" ["_law_told"] (bA K (Ah A n)))(yj:F0 P w K mg base k A)(bP:o8 P w K mg base k A):aU P w K mg base dG (k+1) f fd ["_law_told"] (bA K (Ah A (n+1))):=by
 refine bM F lQ fun cdv B outer s H E hr=>?_
 rw[show ao fV=[_,_,_,_,_] from rfl]
 refine⟨_,(qs (bF (aI (fO 40 (uE hr)) (aM (ah 0) af) aq (aJ _)) (bO (az (sW yj hr rfl (qa (ai bP hr rfl (qa (aM (ah 0) af) aa)) (qa (aM (ah 0) af) (qa (ai bP hr rfl (qa (aM (ah 0) af) aa)) aa)))))) aY) (qs (wK (i:=1) lQ.nd (aH ["_law_one"] [] [] rfl (by decide +kernel) (by decide +kernel) (by with_unfolding_all rfl) (by exact trivial) (by rfl) rfl (by rfl)) rfl (qi (oN false (ah 0) (cS af) fh)) (fun _ _ _ _=>(qx (i:=0) (show List.Nodup (["_law_one"]:List Str) by decide +kernel))) (fun _ _ _ _=>bf) (fun _ _ _ _=>(ai cN hr rfl (qa (ah 0) aa)))) (qs (bF (aI (fO 40 (uE hr)) (aM (ah 0) af) aq (aJ _)) (bO (az (sW AW hr rfl (qa (aM (ah 1) af) aa)))) aY) (qs (bF (aI (fO 40 (uE hr)) (aM (ah 0) af) aq (aJ _)) (bO (az (sW DX hr rfl (qa (ah 1) aa)))) aY) (bO (az (sW Hs hr rfl (qa (ah 1) aa)))))))),fun ds S kk hc hd h=>?_⟩
 obtain⟨c,rfl,hd2,hg,hs,h⟩:=h
 cases c with
 | cmp a s b =>
  unfold v5 at hg
  rw[xA]
  refine⟨_,rfl,_,_,rfl,rfl,rfl,true,tT,_,rfl,_,_,rfl,rfl,a,rfl,hg.1,_,rfl,_,_,rfl,rfl,_,rfl,_,_,rfl,rfl,b,rfl,hg.2.1,_,[qH A a,.str s,qH A b],rfl,rfl,aB,made (gk ?_)⟩
  rw[PV] at h
  exact h
 | neg c =>
  unfold v5 at hg
  unfold cO.dep at hd2
  unfold cO.sz at hs
  rw[xx]
  refine⟨_,rfl,_,_,rfl,rfl,rfl,false,tF,_,rfl,1,rfl,oH (by simp),?_⟩
  rw[gy]
  refine dI ⟨trivial,_,rfl,c,rfl,by omega,hg,by omega,_,rfl,oA (by simp),trivial,?_⟩
  refine⟨_,rfl,_,_,rfl,rfl,rfl,true,tT,_,rfl,_,_,rfl,rfl,_,[nJ A c],rfl,rfl,aB,made (gk ?_)⟩
  rw[PR] at h
  exact h
 | con q cs =>
  unfold v5 at hg
  unfold cO.dep at hd2
  unfold cO.sz at hs
  have hl:=nN cs
  rw[xy]
  refine⟨_,rfl,_,_,rfl,K4,rfl,false,congrArg D.bl (UG (by cases q <;> decide +kernel)),_,rfl,1,rfl,oH (by simp),?_⟩
  rw[gy]
  refine dI (dg lG (nJ A) trivial (eX (by omega)) (fun c Ca k' hk=>?_) ?_)
  ·have h1:=qk Ca
   have h2:=uL Ca
   exact⟨_,rfl,c,rfl,by omega,xu hg Ca,by omega,_,rfl,hk⟩
  rw[PU] at h
  cases q with
  | true=>exact⟨_,rfl,_,_,rfl,K4,rfl,false,tF,_,rfl,_,_,rfl,K4,rfl,true,tT,_,rfl,_,_,_,rfl,aB,rfl,made (gk h)⟩
  | false=>exact⟨_,rfl,_,_,rfl,K4,rfl,false,tF,_,rfl,_,_,rfl,K4,rfl,false,tF,_,rfl,_,_,_,rfl,aB,rfl,made (gk h)⟩
noncomputable abbrev jv:Stmt:=top 61
theorem zb:av ["_law_pairs"] ["_law_pairs"] (aj jv):=fz
theorem zl (F:c8 K "_law_pairs_made" "_law_pairs_made" jv f fd)(J:Fx K mg A)(cN:jM P w K mg base k A):aU P w K mg base dG (k+1) f fd ["_law_pairs"] (bA K (L1 A)):=by
 refine bM F zb fun cdv B outer s H E hr=>?_
 rw[show ao jv=[_] from rfl]
 refine⟨_,(bO (az (bU (aH ["_law_at","_law_one"] [] [] rfl (by decide +kernel) (by decide +kernel) (by with_unfolding_all rfl) (by exact trivial) (by rfl) rfl (by rfl)) rfl (qi (ah 0)) (fun _ _ _ _=>(DC (n:=2) rfl (Qx (qx (i:=0) (show List.Nodup (["_law_at","_law_one"]:List Str) by decide +kernel)) (Qx (qx (i:=1) (show List.Nodup (["_law_at","_law_one"]:List Str) by decide +kernel)) zO)))) (fun _ _ _ _=>bf) (fun _ _ _ _=>(aO (qa (ah 0) (qa (ai cN hr rfl (qa (ah 1) aa)) aa))))))),fun ds S kk hc hd h=>?_⟩
 obtain⟨l,rfl,hl,hg,h⟩:=h
 refine⟨_,rfl,dI (dg Ln (atT A) trivial (eX (by omega)) (fun x hx k' hk=>?_) (gk h))⟩
 have hx:=hg x hx
 exact⟨_,rfl,rfl,_,_,rfl,_,_,rfl,rfl,_,rfl,_,rfl,x.2,rfl,hx.dep,hx.g,by have:=hx.sz;omega,_,rfl,sz 2,_,rfl,hk⟩
noncomputable abbrev ju:Stmt:=top 62
theorem za:av ["_law_steps_here"] ["_law_steps_here"] (aj ju):=fz
theorem bZ (F:c8 K "_law_steps_made" "_law_steps_made" ju f fd)(J:Fx K mg A)(zx:Dn P w K mg base k "_law_step_made" ["_law_told"] (bA K (jq A n))):aU P w K mg base dG (k+1) f fd ["_law_steps_here"] (bA K (Di A n)):=by
 refine bM F za fun cdv B outer s H E hr=>?_
 rw[show ao ju=[_] from rfl]
 refine⟨_,(bO (az (bU (aH ["_law_step_here"] [] [] rfl (by decide +kernel) (by decide +kernel) (by with_unfolding_all rfl) (by exact trivial) (by rfl) rfl (by rfl)) rfl (qi (ah 0)) (fun _ _ _ _=>(qx (i:=0) (show List.Nodup (["_law_step_here"]:List Str) by decide +kernel))) (fun _ _ _ _=>bf) (fun _ _ _ _=>(ai zx hr rfl (qa (ah 0) aa)))))),fun ds S kk hc hd h=>?_⟩
 obtain⟨l,rfl,hg,hl,hd2,h⟩:=h
 rw[gn]
 rw[jm] at h
 cases n with
 | zero=>exact absurd hd2 (Nat.not_lt_zero _)
 | succ n =>
  refine⟨_,rfl,dI (dg jZ (nO A) trivial (eX (by omega)) (fun x hx k' hk=>?_) (gk h))⟩
  have:=kg hx
  exact⟨_,rfl,x,rfl,g7 hg hx,by omega,_,rfl,hk⟩
noncomputable abbrev kC:Stmt:=top 63
theorem fL:av ["_law_told","_law_kind","_law_at","_law_condition_here","_law_falls"] ["_law_told"] (aj kC):=fz
theorem cU (F:c8 K "_law_step_made" "_law_step_made" kC f fd)(J:Fx K mg A)(AX:Ie P w K mg base k A)(fR:vv P w K mg base k A n)(g9:nu P w K mg base k A)(bP:o8 P w K mg base k A)(A0:Ii P w K mg base k A)(cN:jM P w K mg base k A)(Hu:N3 P w K mg base k A)(DY:K9 P w K mg base k A)(Ht:N2 P w K mg base k A)(Nc:Qa P w K mg base k A)(DW:K7 P w K mg base k A)(AZ:Ih P w K mg base k A)(Nd:Qc P w K mg base k A):aU P w K mg base dG (k+1) f fd ["_law_told"] (bA K (L0 A n)):=by
 refine bM F fL fun cdv B outer s H E hr=>?_
 rw[show ao kC=[_,_,_,_,_,_,_,_,_,_,_,_,_] from rfl]
 refine⟨_,(qs (x6 (oN false (ah 0) fh (cS af)) (p6 (n:=2) rfl (yJ (qg (i:=1) fL.nd) (yJ (qg (i:=2) fL.nd) mE)))) (qs (bF (aI (fO 40 (uE hr)) (ah 1) aq (aJ _)) (bO (az (sW Nd hr rfl (qa (ah 2) (qa (aM (ah 0) af) (qa (ai bP hr rfl (qa (aM (ah 0) af) aa)) aa)))))) aY) (qs (bF (aI (fO 40 (uE hr)) (ah 1) aq (aJ _)) (bO (az (sW AZ hr rfl (qa (ah 2) (qa (aM (ah 0) af) (qa (aM (ah 0) af) (qa (ai bP hr rfl (qa (aM (ah 0) af) aa)) (qa (ai bP hr rfl (qa (aM (ah 0) af) aa)) aa)))))))) aY) (qs (bF (aI (fO 40 (uE hr)) (ah 1) aq (aJ _)) (bO (az (sW DW hr rfl (qa (ah 2) (qa (aM (ah 0) af) (qa (aM (ah 0) af) (qa (ai bP hr rfl (qa (aM (ah 0) af) aa)) aa))))))) aY) (qs (bF (aI (fO 40 (uE hr)) (ah 1) aq (aJ _)) (bO (az (sW Nc hr rfl (qa (ah 2) (qa (aM (ah 0) af) (qa (ai bP hr rfl (qa (aM (ah 0) af) aa)) (qa (ai bP hr rfl (qa (aM (ah 0) af) aa)) aa))))))) aY) (qs (bF (aI (fO 40 (uE hr)) (ah 1) aq (aJ _)) (bO (az (sW Ht hr rfl (qa (ah 2) (qa (aM (ah 0) af) (qa (ai bP hr rfl (qa (aM (ah 0) af) aa)) aa)))))) aY) (qs (bF (aI (fO 40 (uE hr)) (ah 1) aq (aJ _)) (bO (az (sW DY hr rfl (qa (ah 2) (qa (ai cN hr rfl (qa (aM (ah 0) af) aa)) aa))))) aY) (qs (bF (aI (fO 40 (uE hr)) (ah 1) aq (aJ _)) (bO (az (sW Hu hr rfl (qa (ah 2) (qa (aD rK (by rfl) J.rM boot_list (qa (aM (ah 0) af) aa)) (qa (aM (ah 0) af) (qa (bU (aH ["_law_one"] [] [] rfl (by decide +kernel) (by decide +kernel) (by with_unfolding_all rfl) (by exact trivial) (by rfl) rfl (by rfl)) rfl (qi (aM (ah 0) af)) (fun _ _ _ _=>(qx (i:=0) (show List.Nodup (["_law_one"]:List Str) by decide +kernel))) (fun _ _ _ _=>bf) (fun _ _ _ _=>(ai bP hr rfl (qa (ah 0) aa)))) aa))))))) aY) (qs (ay (i:=3) fL.nd (ai cN hr rfl (qa (aM (ah 0) af) aa))) (qs (bF (aI (fO 40 (uE hr)) (ah 1) aq (aJ _)) (bO (az (sW A0 hr rfl (qa (ah 2) (qa (ah 3) (qa (ai fR hr rfl (qa (aM (ah 0) af) aa)) (qa (ai fR hr rfl (qa (aM (ah 0) af) aa)) aa))))))) aY) (qs (ay (i:=4) fL.nd wL) (qs (bF (aI zR (aM (ah 0) af) wL (aJ _)) (bO (ay (i:=4) fL.nd (aO (qa (aM (aM (ah 0) af) af) (qa (ai bP hr rfl (qa (aM (aM (ah 0) af) af) aa)) aa))))) aY) (bO (az (sW AX hr rfl (qa (ah 2) (qa (ah 3) (qa (ai g9 hr rfl (qa (aM (ah 0) af) aa)) (qa (ah 4) (qa (ai fR hr rfl (qa (aM (ah 0) af) aa)) aa)))))))))))))))))))),fun ds S kk hc hd h=>?_⟩
 obtain⟨s,rfl,hg,hd2,h⟩:=h
 cases s with
 | lt a x s =>
  unfold fF at hg
  unfold nO at h
  unfold jZ
  exact⟨_,rfl,2,rfl,(by show ¬(HT.fH 4 0 none=0/\HT.fH 4 4 (some 2)=4);decide),_,rfl,rfl,_,_,rfl,_,_,rfl,rfl,_,rfl,rfl,true,tT,_,rfl,_,rfl,_,_,rfl,rfl,_,rfl,_,_,rfl,rfl,s,rfl,hg.2,_,[.int a,.str x,qH A s],rfl,rfl,aB,made (gk h)⟩
 | dv a x wd s b =>
  unfold fF at hg
  unfold nO at h
  unfold jZ
  exact⟨_,rfl,2,rfl,(by show ¬(HT.fH 6 0 none=0/\HT.fH 6 6 (some 2)=6);decide),_,rfl,rfl,_,_,rfl,_,_,rfl,rfl,_,rfl,rfl,false,tF,_,rfl,rfl,true,tT,_,rfl,_,rfl,_,_,rfl,rfl,_,rfl,_,_,rfl,rfl,_,rfl,_,_,rfl,rfl,s,rfl,hg.2.2.1,_,rfl,_,_,rfl,rfl,b,rfl,hg.2.2.2,_,[.int a,.str x,.str wd,qH A s,qH A b],rfl,rfl,aB,made (gk h)⟩
 | ft a x r p =>
  unfold fF at hg
  unfold nO at h
  unfold jZ
  exact⟨_,rfl,2,rfl,(by show ¬(HT.fH 5 0 none=0/\HT.fH 5 5 (some 2)=5);decide),_,rfl,rfl,_,_,rfl,_,_,rfl,rfl,_,rfl,rfl,false,tF,_,rfl,rfl,false,tF,_,rfl,rfl,true,tT,_,rfl,_,rfl,_,_,rfl,rfl,_,rfl,_,_,rfl,rfl,_,rfl,_,_,rfl,rfl,p,rfl,hg.2.2,_,[.int a,.str x,.str r,qH A p],rfl,rfl,aB,made (gk h)⟩
 | pt a r p s =>
  unfold fF at hg
  unfold nO at h
  unfold jZ
  exact⟨_,rfl,2,rfl,(by show ¬(HT.fH 5 0 none=0/\HT.fH 5 5 (some 2)=5);decide),_,rfl,rfl,_,_,rfl,_,_,rfl,rfl,_,rfl,rfl,false,tF,_,rfl,rfl,false,tF,_,rfl,rfl,false,tF,_,rfl,rfl,true,tT,_,rfl,_,rfl,_,_,rfl,rfl,_,rfl,_,_,rfl,rfl,p,rfl,hg.2.1,_,rfl,_,_,rfl,rfl,s,rfl,hg.2.2,_,[.int a,.str r,qH A p,qH A s],rfl,rfl,aB,made (gk h)⟩
 | mq a r z =>
  unfold fF at hg
  unfold nO at h
  unfold jZ
  exact⟨_,rfl,2,rfl,(by show ¬(HT.fH 4 0 none=0/\HT.fH 4 4 (some 2)=4);decide),_,rfl,rfl,_,_,rfl,_,_,rfl,rfl,_,rfl,rfl,false,tF,_,rfl,rfl,false,tF,_,rfl,rfl,false,tF,_,rfl,rfl,false,tF,_,rfl,rfl,true,tT,_,rfl,_,rfl,_,_,rfl,rfl,_,rfl,_,_,rfl,rfl,z,rfl,hg.2,_,[.int a,.str r,qH A z],rfl,rfl,aB,made (gk h)⟩
 | cm a c =>
  unfold fF at hg
  unfold nO at h
  unfold jZ
  exact⟨_,rfl,2,rfl,(by show ¬(HT.fH 3 0 none=0/\HT.fH 3 3 (some 2)=3);decide),_,rfl,rfl,_,_,rfl,_,_,rfl,rfl,_,rfl,rfl,false,tF,_,rfl,rfl,false,tF,_,rfl,rfl,false,tF,_,rfl,rfl,false,tF,_,rfl,rfl,false,tF,_,rfl,rfl,true,tT,_,rfl,_,rfl,_,_,rfl,rfl,c,rfl,hg.dep,hg.g,by have:=hg.sz;omega,_,[.int a,nJ A c],rfl,rfl,aB,made (gk h)⟩
 | cl a ns hp g =>
  unfold fF at hg
  unfold nO at h
  unfold jZ
  obtain⟨l1,g1,l2,l3,g2⟩:=hg
  refine⟨_,rfl,2,rfl,(by show ¬(HT.fH 5 0 none=0/\HT.fH 5 5 (some 2)=5);decide),_,rfl,rfl,_,_,rfl,_,_,rfl,rfl,_,rfl,rfl,false,tF,_,rfl,rfl,false,tF,_,rfl,rfl,false,tF,_,rfl,rfl,false,tF,_,rfl,rfl,false,tF,_,rfl,rfl,false,tF,_,rfl,rfl,true,tT,_,rfl,_,rfl,_,_,rfl,rfl,_,rfl,_,rfl,_,_,rfl,rfl,_,rfl,_,_,rfl,rfl,dI ?_⟩
  refine dg jl (qH A) trivial (eX (by omega)) (fun x hx k' hk=>⟨_,rfl,x,rfl,g2 x hx,_,rfl,hk⟩) ?_
  exact⟨_,a,_,_,ns,hp,g,rfl,aB,rfl,rfl,made (gk h)⟩
 | ch a c t e =>
  unfold fF at hg
  unfold nO at h
  unfold jZ
  obtain⟨hg,g1,g2,l1,l2⟩:=hg
  unfold eG.dp at hd2
  exact⟨_,rfl,2,rfl,(by show ¬(HT.fH 5 0 none=0/\HT.fH 5 5 (some 2)=5);decide),_,rfl,rfl,_,_,rfl,_,_,rfl,rfl,_,rfl,rfl,false,tF,_,rfl,rfl,false,tF,_,rfl,rfl,false,tF,_,rfl,rfl,false,tF,_,rfl,rfl,false,tF,_,rfl,rfl,false,tF,_,rfl,rfl,false,tF,_,rfl,_,_,rfl,rfl,c,rfl,hg.dep,hg.g,by have:=hg.sz;omega,_,rfl,rfl,true,tT,_,rfl,_,rfl,_,rfl,_,_,rfl,rfl,t,rfl,g1,by omega,by omega,_,rfl,_,_,rfl,rfl,e,rfl,g2,by omega,by omega,_,a,nJ A c,_,_,sV A t,sV A e,rfl,aB,rfl,rfl,made (gk h)⟩
 | rp a c hs f b =>
  unfold fF at hg
  unfold nO at h
  unfold jZ
  obtain⟨hg,lh,gh,gf,g1,l1⟩:=hg
  unfold eG.dp at hd2
  refine⟨_,rfl,2,rfl,(by show ¬(HT.fH 6 0 none=0/\HT.fH 6 6 (some 2)=6);decide),_,rfl,rfl,_,_,rfl,_,_,rfl,rfl,_,rfl,rfl,false,tF,_,rfl,rfl,false,tF,_,rfl,rfl,false,tF,_,rfl,rfl,false,tF,_,rfl,rfl,false,tF,_,rfl,rfl,false,tF,_,rfl,rfl,false,tF,_,rfl,_,_,rfl,rfl,c,rfl,hg.dep,hg.g,by have:=hg.sz;omega,_,rfl,rfl,false,tF,_,rfl,_,_,rfl,rfl,?_⟩
  cases f with
  | none =>
   exact⟨false,rfl,_,rfl,_,rfl,_,rfl,_,_,rfl,rfl,hs,rfl,by omega,gh,_,rfl,_,rfl,_,_,rfl,rfl,b,rfl,g1,by omega,by omega,_,a,nJ A c,.fE,_,_,hs,sV A b,rfl,aB,rfl,by omega,rfl,made (gk h)⟩
  | some p =>
   have hp:=gf p rfl
   exact⟨true,rfl,_,rfl,_,_,rfl,rfl,_,_,rfl,rfl,_,rfl,_,_,rfl,rfl,_,_,rfl,rfl,p.2,rfl,hp,_,rfl,sz 2,_,rfl,_,rfl,_,rfl,_,_,rfl,rfl,hs,rfl,by omega,gh,_,rfl,_,rfl,_,_,rfl,rfl,b,rfl,g1,by omega,by omega,_,a,nJ A c,faT A (some p),_,_,hs,sV A b,rfl,aB,rfl,by omega,rfl,made (gk h)⟩
noncomputable abbrev iX:Stmt:=top 64
theorem oM:av ["_law_told","_law_steps_here"] ["_law_told"] (aj iX):=fz
theorem yf (F:c8 K "_law_helper_made" "_law_helper_made" iX f fd)(J:Fx K mg A)(AY:Ig P w K mg base k A)(g9:nu P w K mg base k A)(fR:Dn P w K mg base k "_law_steps_made" ["_law_steps_here"] (bA K (Di A 9))):aU P w K mg base dG (k+1) f fd ["_law_told"] (bA K (L4 A)):=by
 refine bM F oM fun cdv B outer s H E hr=>?_
 rw[show ao iX=[_,_] from rfl]
 refine⟨_,(qs (ay (i:=1) oM.nd (ai fR hr rfl (qa (aM (ah 0) af) aa))) (bO (az (sW AY hr rfl (qa (aM (ah 0) af) (qa (aM (ah 0) af) (qa (aM (ah 0) af) (qa (aM (ah 0) af) (qa (ai g9 hr rfl (qa (aM (ah 0) af) aa)) (qa (ai g9 hr rfl (qa (aM (ah 0) af) aa)) (qa (ah 1) aa))))))))))),fun ds S kk hc hd h=>?_⟩
 obtain⟨x,rfl,hg,hd2,h⟩:=h
 obtain⟨p1,p2,p3,p4,p5⟩:=hg.pl
 exact⟨_,rfl,_,_,rfl,rfl,x.steps,rfl,hg.st,by omega,by omega,_,rfl,_,_,rfl,rfl,_,rfl,_,_,rfl,rfl,_,rfl,_,_,rfl,rfl,_,rfl,_,_,rfl,rfl,_,rfl,_,_,rfl,rfl,x.needs,rfl,by omega,hg.nd,_,rfl,_,_,rfl,rfl,x.gives,rfl,by omega,hg.gv,_,rfl,_,_,_,_,_,_,x,rfl,aB,rfl,rfl,rfl,rfl,rfl,by omega,by omega,made (gk h)⟩
noncomputable abbrev wH:Stmt:=top 43
theorem CL:av ["_law_words"] [] (aj wH):=fz
theorem JY (F:c8 K "_law_kept" "_law_kept" wH f fd)(J:Fx K mg A) :aU P w K mg base dG (k+1) f fd [] (bA K L5):=by
 refine bM F CL fun cdv B outer s H E hr=>?_
 rw[show ao wH=[_,_] from rfl]
 refine⟨_,(qs (ay (i:=0) CL.nd (DF (xs:=["helper","answers","needs","gives","end","let","div","mod","put","row","at","if","else"]) rfl)) (bO (az (aL aF (ah 0) (DF (xs:=["while","holds","falls","call","claim","and","or","not"]) rfl))))),fun ds S kk hc hd h=>?_⟩
 obtain⟨rfl,h⟩:=h
 refine⟨sz 13,_,rfl,sz 8,_,_,rfl,rfl,sz 21,gk ?_⟩
 unfold B0 uz at h
 rw[List.map_append] at h
 exact h
noncomputable abbrev sr:Stmt:=top 42
theorem cI:av ["_law_draw","_law_many","_law_some","_law_size","_law_place","_law_base","_law_shift","_law_kept_here","_law_alike","_law_names_here","_law_k","_law_word","_law_turn"] ["_law_draw","_law_many"] (aj sr):=fz
theorem G5 (F:c8 K "_law_names" "_law_names" sr f fd)(J:Fx K mg A)(HP:Em P w K mg base k)(aA:d8 P w K mg base k):aU P w K mg base dG (k+1) f fd ["_law_draw","_law_many"] (bA K Qp):=by
 refine bM F cI fun cdv B outer s H E hr=>?_
 rw[show ao sr=[_,_,_,_,_,_,_,_,_,_] from rfl]
 refine⟨_,(qs (ay (i:=2) cI.nd aq) (qs (ay (i:=3) cI.nd (aL aF af (ai aA hr rfl (qa (ah 0) (qa af aa))))) (qs (ay (i:=4) cI.nd (ai aA hr rfl (qa (ah 0) (qa (ah 3) aa)))) (qs (EU (i:=5) cI.nd (aH ["_law_k"] ["_law_some","_law_draw"] [2,0] rfl (by decide +kernel) (by decide +kernel) (by with_unfolding_all rfl) (by exact⟨rfl,rfl,trivial⟩) (by rfl) rfl (by rfl)) rfl (m5 rfl J.jK (qa (ah 3) aa)) (fun _ _ _ _=>(qx (i:=0) (show List.Nodup (["_law_k","_law_some","_law_draw"]:List Str) by decide +kernel))) (fun _ _ _ _=>bf) (fun _ _ _ _=>(aM (ah 1) (ai aA hr rfl (qa (ah 2) (qa af aa)))))) (qs (ay (i:=6) cI.nd (ai aA hr rfl (qa (ah 0) (qa af aa)))) (qs (ay (i:=7) cI.nd (DF (xs:=["lets","ifs","order","rows","att","notes","calls","ends","outlet","bend","motor","modes"]) rfl)) (qs (ay (i:=8) cI.nd (yK (fO 40 (uE hr)) (ai aA hr rfl (qa (ah 0) (qa af aa))) af (aJ _))) (qs (ay (i:=9) cI.nd (jd aa)) (qs (jD PassesOwn.never rfl (m5 rfl J.jK (qa (ah 1) aa)) (qg (i:=10) cI.nd) (qs (x6 (aM (ah 2) (aL uv (aL aF (ah 6) (aL AO af (ah 10))) af)) (Sd (ah 5) (ah 4))) (qs (ay (i:=11) cI.nd (fN aq (qa (ah 5) aa))) (qs (bF (qw (qR (GP (ah 8)) (pZ (aI G8 (ah 10) af (aJ _))))) (bO (ay (i:=11) cI.nd (aM (ah 7) (aL uv (aL aF (ah 10) (ah 6)) af)))) aY) (qs (ay (i:=12) cI.nd af) (qs (Mm PassesOwn.never (qw (Ay (aI J1 (ah 11) (ah 9) (by rfl)) (xZ (aI J1 (ah 11) (OI HP hr rfl) (by rfl))))) (qs (Sa (i:=12) cI.nd af Nj) (bO (ay (i:=11) cI.nd (aL aF (aL aF aq (aM (ah 2) (aL uv (ah 12) af))) (aM (ah 2) (aL uv (aL aF (ah 10) (ah 12)) af))))))) (bO (iD (iy (ah 9) (qa (ah 11) aa)))))))))) (bO (az (ah 9)))))))))))),fun ds S kk hc hd h=>?_⟩
 obtain⟨d,m,rfl,hm8,hd,h⟩:=h
 have hlt:=hd.lt
 refine⟨_,rfl,d,8,rfl,hd,by first | decide | omega,fun r1 KU J5 hr1=>?_⟩
 refine⟨_,rfl,_,rfl,d,_,rfl,hd.bV,by omega,fun r2 Xs Wb hr2=>?_⟩
 rw[c5]
 refine⟨_,rfl,(1+(r1:Int)),rfl,by omega,by omega,?_⟩
 have e1:(1+(r1:Int)).toNat=r1+1:=by omega
 rw[e1]
 refine yq (n:=r1+1) hd (fun y=>∃ x,y=T.str x/\x.length=1) (by omega) (fun i c9 m9 k' hk=>?_) fun ys c9 m9 hl hp=>?_
 ·refine⟨_,rfl,_,rfl,d,26,rfl,hd.bV,by first | decide | omega,fun r cr mr hr=>?_⟩
  rw[c5]
  have h26:r < 26:=by omega
  exact⟨sS,_,NV h26,_,rfl,hk _ _ _ ⟨_,rfl,rfl⟩⟩
 obtain⟨ss,rfl,hsl,hs1⟩:=ex_map hp
 rw[List.length_map] at hl
 rw[bh]
 refine⟨_,rfl,d,26,rfl,hd.bV.up,by first | decide | omega,fun r3 Q8 QK By=>?_⟩
 rw[qj (by rw[bh];exact hlt),c5]
 refine⟨sz 12,_,rfl,d,3,rfl,hd.bV.up,by first | decide | omega,fun r4 Q7 QH TU=>?_⟩
 rw[qj (by rw[bh];exact hlt),c5]
 refine⟨rfl,?_⟩
 generalize hal:xor false (decide (V.int (r4:Int)=V.int 1))=al
 refine⟨_,rfl,sz 0,?_⟩
 rw[List.length_append,bh,List.append_assoc]
 generalize Q7=c
 generalize QH=m0
 refine⟨_,rfl,(m:Int),rfl,by omega,by omega,?_⟩
 rw[Int.toNat_natCast]
 refine xg (fun i δ S'=>∃ y z w,∃ ss ns:List Str,δ=[some (D.ob d),some (D.int m),some (D.str UA),some (D.int (1+(r1:Int))),some (D.int r2),some (D.ob (S.length+0)),some (D.int r3),some (D.t (B0 uA)),some (D.bl al),some (D.ob (S.length+1)),y,z,w]/\S'=bV S d c m0++[O.lst (ss.map T.str),O.lst (ns.map T.str)]/\ss.length=r1+1/\(∀ x∈ss,x.length=1)/\ns.length=i/\ns.Nodup/\∀ x∈ns,Bo x) ⟨_,_,_,ss,[],rfl,rfl,by omega,hs1,rfl,.nil,fun _ h=>absurd h List.not_mem_nil⟩ ?_ ?_
 ·rintro i x δ S' N hx ⟨y,z,w,ss,ns,rfl,rfl,hsl,hs1,hnl,hnd,hnm⟩ hN
  have hi:i < m:=by
   have:=(List.getElem?_eq_some_iff.mp hx).1
   simpa using this
  rw[List.getElem?_map,List.getElem?_range hi] at hx
  cases hx
  refine⟨trivial,_,rfl,_,rfl,_,rfl,.inl ⟨by decide,by decide⟩,(by show(0:Int) < 26;decide),sS,_,xJ _,_,rfl,_,rfl,S.length+0,r2,_,_,rfl,rfl,rfl,kW (q:=0) bh,by rw[List.length_map];omega,?_⟩
  obtain⟨ss',hss,W7,Pr⟩:∃ ss':List Str,(bV S d c m0++[O.lst (ss.map T.str),O.lst (ns.map T.str)]).set (S.length+0) (O.lst ((ss.map T.str).set r2 (T.str ⟨#[97+(((r3:Int)+5*(i:Int)) % 26).toNat]⟩)))=bV S d c m0++[O.lst (ss'.map T.str),O.lst (ns.map T.str)]/\ss'.length=r1+1/\∀ x∈ss',x.length=1:=by
   refine⟨ss.set r2 ⟨#[97+(((r3:Int)+5*(i:Int)) % 26).toNat]⟩,?_,by rw[List.length_set];exact hsl,fun x hx=>?_⟩
   ·rw[<- bh (S:=S) (d:=d) (c:=c) (m:=m0),g8,List.map_set];rfl
   ·rcases List.mem_or_eq_of_mem_set hx with hx | rfl
    ·exact hs1 x hx
    ·rfl
  rw[hss]
  have hjo:=Pn Pr (by omega) (by omega)
  refine⟨rfl,_,rfl,ss',bX (kW (q:=0) bh),?_,?_⟩
  ·rw[Ey ss' Pr]
   show _+_*0<=_
   omega
  dsimp only[Fp]
  show LN _ _ _ _ _
  refine yU al (decide ((i:Int) < 12)) (fun k' hk=>⟨_,rfl,_,rfl,hk⟩) (fun k' hk=>⟨_,rfl,_,rfl,hk⟩) ?_
  cases hb:(al && decide ((i:Int) < 12)) with
  | true =>
   obtain⟨x0,hx0,ex0⟩:=Ph ((i:Int)+(r3:Int))
   refine⟨_,rfl,_,rfl,_,rfl,(by show(0:Int) < 12;decide),_,_,rfl,ex0,?_⟩
   refine⟨fun mm δ S'=>∃ (t:Nat) (w:Str),mm=30 - t/\δ=[some (D.ob d),some (D.int m),some (D.str UA),some (D.int (1+(r1:Int))),some (D.int r2),some (D.ob (S.length+0)),some (D.int r3),some (D.t (B0 uA)),some (D.bl al),some (D.ob (S.length+1)),some (D.int i),some (D.str w),some (D.int t)]/\S'=bV S d c m0++[O.lst (ss'.map T.str),O.lst (ns.map T.str)]/\Bo w/\t<=10/\(1<=t->w=zt i t)/\∀ s,s+1 < t->zt i (s+1)∈ns,⟨30,0,x0,rfl,rfl,rfl,hx0,by omega,fun h=>absurd h (by decide),fun s h=>absurd h (by omega)⟩,?_⟩
   rintro mm δ S' ⟨t,w,rfl,rfl,rfl,hw,ht,hz,hm⟩
   have ht8:t<=9:=by
    have:=Lw (k:=(i:Int)) (xs:=ns) (n:=t - 1) (by omega) fun s hs=>hm s (by omega)
    omega
   refine G1 (decide (w∈ns)) (decide (w∈uz)) (fun k' hk=>⟨_,rfl,_,rfl,_,_,_,rfl,rfl,kZ (kW (q:=1) bh),qf ns,_,congrArg D.bl (by rw[Bool.false_xor,qe]),hk⟩) (fun k' hk=>⟨_,rfl,rfl,_,_,_,rfl,rfl,rfl,qf uz,_,congrArg D.bl (by rw[Bool.false_xor,qe]),hk⟩) ?_
   cases hb:(decide (w∈ns) || decide (w∈uz)) with
   | true =>
    refine⟨fun δ' S'=>∃ m',m' < 30 - t/\_,fun δ' S' h=>h,?_⟩
    refine⟨(t:Int),rfl,1,rfl,_,rfl,_,rfl,(by show(0:Int) < 26;decide),sS,_,xJ _,sz 2,_,rfl,_,rfl,_,rfl,(by show(0:Int) < 26;decide),sS,_,xJ _,sz 3,30 - (t+1),by omega,t+1,zt i (t+1),rfl,rfl,rfl,Qh _ _,by omega,fun _=>rfl,fun s hs=>?_⟩
    by_cases e:s+1=t
    ·have TQ:=hz (by omega)
     rw[e,<- TQ]
     rcases Bool.or_eq_true_iff.mp hb with h | h
     ·exact of_decide_eq_true h
     ·exact absurd (of_decide_eq_true h) (by rw[TQ];exact zT _ _)
    ·exact hm s (by omega)
   | false =>
    have hb:=Bool.or_eq_false_iff.mp hb
    have hwn:w ∉ ns:=of_decide_eq_false hb.1
    refine⟨_,rfl,⟨rfl,_,bX (kW (q:=1) bh)⟩,_,rfl,_,kW (q:=1) bh,oA (by rw[List.length_map];omega),?_⟩
    have es:(bV S d c m0++[O.lst (ss'.map T.str),O.lst (ns.map T.str)]).set (S.length+1) (O.lst (ns.map T.str++[T.str w]))=bV S d c m0++[O.lst (ss'.map T.str),O.lst ((ns++[w]).map T.str)]:=by
     rw[<- bh (S:=S) (d:=d) (c:=c) (m:=m0),g8,List.map_append];rfl
    rw[es]
    refine hN _ _ ⟨_,_,_,ss',ns++[w],rfl,rfl,W7,Pr,by rw[List.length_append,hnl];rfl,?_,fun x hx=>?_⟩
    ·rw[List.nodup_append]
     exact⟨hnd,by simp,fun a ha b hb=>by rw[List.mem_singleton.mp hb];exact fun z=>hwn (z ▸ ha)⟩
    ·rcases List.mem_append.mp hx with hx | hx
     ·exact hnm x hx
     ·rw[List.mem_singleton.mp hx];exact hw
  | false =>
   refine⟨fun mm δ S'=>∃ (t:Nat) (w:Str),mm=30 - t/\δ=[some (D.ob d),some (D.int m),some (D.str UA),some (D.int (1+(r1:Int))),some (D.int r2),some (D.ob (S.length+0)),some (D.int r3),some (D.t (B0 uA)),some (D.bl al),some (D.ob (S.length+1)),some (D.int i),some (D.str w),some (D.int t)]/\S'=bV S d c m0++[O.lst (ss'.map T.str),O.lst (ns.map T.str)]/\Bo w/\t<=10/\(1<=t->w=zt i t)/\∀ s,s+1 < t->zt i (s+1)∈ns,⟨30,0,_,rfl,rfl,rfl,hjo,by omega,fun h=>absurd h (by decide),fun s h=>absurd h (by omega)⟩,?_⟩
   rintro mm δ S' ⟨t,w,rfl,rfl,rfl,hw,ht,hz,hm⟩
   have ht8:t<=9:=by
    have:=Lw (k:=(i:Int)) (xs:=ns) (n:=t - 1) (by omega) fun s hs=>hm s (by omega)
    omega
   refine G1 (decide (w∈ns)) (decide (w∈uz)) (fun k' hk=>⟨_,rfl,_,rfl,_,_,_,rfl,rfl,kZ (kW (q:=1) bh),qf ns,_,congrArg D.bl (by rw[Bool.false_xor,qe]),hk⟩) (fun k' hk=>⟨_,rfl,rfl,_,_,_,rfl,rfl,rfl,qf uz,_,congrArg D.bl (by rw[Bool.false_xor,qe]),hk⟩) ?_
   cases hb:(decide (w∈ns) || decide (w∈uz)) with
   | true =>
    refine⟨fun δ' S'=>∃ m',m' < 30 - t/\_,fun δ' S' h=>h,?_⟩
    refine⟨(t:Int),rfl,1,rfl,_,rfl,_,rfl,(by show(0:Int) < 26;decide),sS,_,xJ _,sz 2,_,rfl,_,rfl,_,rfl,(by show(0:Int) < 26;decide),sS,_,xJ _,sz 3,30 - (t+1),by omega,t+1,zt i (t+1),rfl,rfl,rfl,Qh _ _,by omega,fun _=>rfl,fun s hs=>?_⟩
    by_cases e:s+1=t
    ·have TQ:=hz (by omega)
     rw[e,<- TQ]
     rcases Bool.or_eq_true_iff.mp hb with h | h
     ·exact of_decide_eq_true h
     ·exact absurd (of_decide_eq_true h) (by rw[TQ];exact zT _ _)
    ·exact hm s (by omega)
   | false =>
    have hb:=Bool.or_eq_false_iff.mp hb
    have hwn:w ∉ ns:=of_decide_eq_false hb.1
    refine⟨_,rfl,⟨rfl,_,bX (kW (q:=1) bh)⟩,_,rfl,_,kW (q:=1) bh,oA (by rw[List.length_map];omega),?_⟩
    have es:(bV S d c m0++[O.lst (ss'.map T.str),O.lst (ns.map T.str)]).set (S.length+1) (O.lst (ns.map T.str++[T.str w]))=bV S d c m0++[O.lst (ss'.map T.str),O.lst ((ns++[w]).map T.str)]:=by
     rw[<- bh (S:=S) (d:=d) (c:=c) (m:=m0),g8,List.map_append];rfl
    rw[es]
    refine hN _ _ ⟨_,_,_,ss',ns++[w],rfl,rfl,W7,Pr,by rw[List.length_append,hnl];rfl,?_,fun x hx=>?_⟩
    ·rw[List.nodup_append]
     exact⟨hnd,by simp,fun a ha b hb=>by rw[List.mem_singleton.mp hb];exact fun z=>hwn (z ▸ ha)⟩
    ·rcases List.mem_append.mp hx with hx | hx
     ·exact hnm x hx
     ·rw[List.mem_singleton.mp hx];exact hw
 ·rintro δ S' ⟨y,z,w,ss,ns,rfl,rfl,hsl,hs1,hnl,hnd,hnm⟩
  rw[List.length_map,List.length_range] at hnl
  exact⟨trivial,_,rfl,Xv (HK hc) bh rfl (h ns c m0 hnl hnd hnm)⟩
noncomputable abbrev zN:Stmt:=top 44
theorem wA:av ["_law_draw","_law_things","_law_found","_law_k","_law_number"] ["_law_draw","_law_things"] (aj zN):=fz
theorem MQ (F:c8 K "_law_sum" "_law_sum" zN f fd)(J:Fx K mg A)(aA:d8 P w K mg base k):aU P w K mg base dG (k+1) f fd ["_law_draw","_law_things"] (bA K LZ):=by
 refine bM F wA fun cdv B outer s H E hr=>?_
 rw[show ao zN=[_,_,_,_] from rfl]
 refine⟨_,(qs (ay (i:=2) wA.nd Mn) (qs (jD PassesOwn.never rfl (m5 rfl J.jK (qa (aL AO (aM (bW (qa af (qa af (qa af (qa af (qa af (qa af (qa af aa)))))))) (ai aA hr rfl (qa (ah 0) (qa af aa)))) (aD Be (by rfl) J.Bf boot_int (qa (yK (sX 40 (uE hr)) (ah 1) (bW aa) (aJ _)) aa))) aa)) (qg (i:=3) wA.nd) (bO (IX (CS hr) (ah 2) (aM (ah 1) (ai aA hr rfl (qa (ah 0) (qa (cj j6 (by rfl) J.j7 PySem.boot_len (qa (ah 1) aa)) aa)))) (aM (bW (qa af (qa af (qa af (qa (CN af) (qa (CN af) (qa af (qa (CN af) (qa af aa))))))))) (ai aA hr rfl (qa (ah 0) (qa af aa))))))) (qs (ay (i:=4) wA.nd (aM (bW (qa af (qa af (qa af (qa (CN af) (qa (aL wQ (ai aA hr rfl (qa (ah 0) (qa af aa))) af) (qa (ai aA hr rfl (qa (ah 0) (qa af aa))) aa))))))) (aL uv (ai aA hr rfl (qa (ah 0) (qa af aa))) af))) (bO (az (aO (qa (aD bq (by rfl) J.br boot_tuple (qa (bU (aH ["_law_thing"] ["_law_found"] [2] rfl (by decide +kernel) (by decide +kernel) (by with_unfolding_all rfl) (by exact⟨rfl,trivial⟩) (by rfl) rfl (by rfl)) rfl (qi (cj (Jx rfl) (by rfl) J.FO boot_sorted (qa (ah 2) aa))) (fun _ _ _ _=>(qx (i:=0) (show List.Nodup (["_law_thing","_law_found"]:List Str) by decide +kernel))) (fun _ _ _ _=>bf) (fun _ _ _ _=>(aO (qa (ah 0) (qa (GS (CS hr) (ah 1) (ah 0)) aa))))) aa)) (qa (ah 4) aa)))))))),fun ds S kk hc hd h=>?_⟩
 obtain⟨d,x,N,rfl,hd,hx,hn,UT,h⟩:=h
 have hlt:=hd.lt
 have AP:∀ {a b c m:Int} {loc:bQ},bV (bV S d a b++loc) d c m=bV S d c m++loc:=fun {a b c m loc}=>by rw[qj (by rw[bh];exact hlt),c5]
 refine⟨_,rfl,sz 7,_,rfl,d,7,rfl,hd.up,by first | decide | omega,fun r1 KU J5 hr1=>?_⟩
 rw[qj hlt]
 obtain⟨v,ev,hv⟩:=RU hr1
 refine⟨_,_,rfl,ev,_,rfl,_,rfl,sz 0,oh (M1 (uP hd hx)) ⟨.inr ?_,?_⟩⟩
 ·split <;> exact⟨by decide,by decide⟩
 have hb:∃ j:Nat,(v:Int)*(if (xor true (decide (N.map T.str=[])))=true then 1 else 0)=(j:Int)/\j<=3/\(0 < j->N≠[]):=by
  cases N with
  | nil=>exact⟨0,by simp,by decide,fun h=>absurd h (by decide)⟩
  | cons a r=>exact⟨v,by simp,by omega,fun _ h=>by cases h⟩
 obtain⟨j,ej,hj2,hjN⟩:=hb
 refine⟨_,rfl,?_⟩
 rw[ej]
 refine⟨by omega,by omega,?_⟩
 rw[Int.toNat_natCast]
 refine xg (fun i δ S'=>∃ y c m dd ss w,δ=[some (D.ob d),some x,some (D.ob S.length),y,none]/\S'=bV S d c m++[O.yQ dd]/\FU N dd ss w/\dd.length<=i) ⟨_,_,_,[],[],_,rfl,rfl,.nil,Nat.le_refl _⟩ ?_ ?_
 ·rintro i z δ S' Nx hz ⟨y,c,m,dd,ss,w,rfl,rfl,tb,hl⟩ hN
  have hi:=(List.getElem?_eq_some_iff.mp hz).1
  rw[List.length_map,List.length_range] at hi
  have hN0:=hjN (by omega)
  have hNl:0 < N.length:=List.length_pos_iff.mpr hN0
  refine⟨trivial,_,rfl,sz 8,_,rfl,d,8,rfl,hd.bV.up,by first | decide | omega,fun r2 Xs Wb hr2=>?_⟩
  rw[AP]
  obtain⟨v2,ev2,hv2,hs2⟩:=Ud hr2
  refine⟨_,_,rfl,ev2,_,rfl,_,rfl,_,rfl,_,rfl,Tg (M1 (uP hd hx)) ⟨d,_,rfl,hd.bV.up,by rw[List.length_map];omega,fun r3 c3 m3 By=>?_⟩⟩
  rw[AP]
  rw[List.length_map] at By
  obtain⟨y2,hy2,ey2⟩:=lO By
  obtain⟨ss',tb',hl'⟩:=tb.put hy2 hv2 hs2
  refine WX (M1 (uP hd hx)) ey2 ⟨S.length,dd,Sum.inr y2,_,rfl,?_,rfl,rfl,oA (by omega),?_⟩
  ·rw[<- bh (S:=S) (d:=d) (c:=c3) (m:=m3)];exact aB
  have es:(bV S d c3 m3++[O.yQ dd]).set S.length (O.yQ (dput dd (Sum.inr y2) (T.int v2)))=bV S d c3 m3++[O.yQ (dput dd (Sum.inr y2) (T.int v2))]:=by
   rw[<- bh (S:=S) (d:=d) (c:=c3) (m:=m3),gp]
  rw[es]
  exact hN _ _ ⟨_,_,_,_,ss',_,rfl,rfl,tb',by omega⟩
 ·rintro δ S' ⟨y,c,m,dd,ss,w,rfl,rfl,tb,hl⟩
  rw[List.length_map,List.length_range] at hl
  refine⟨trivial,_,rfl,d,19,rfl,hd.bV.up,by first | decide | omega,fun r2 Xs Wb hr2=>?_⟩
  rw[AP]
  refine⟨_,rfl,d,999999999,rfl,hd.bV.up,by first | decide | omega,fun r3 Q8 QK By=>?_⟩
  rw[AP]
  refine⟨_,rfl,sz 6,_,rfl,d,12,rfl,hd.bV.up,by first | decide | omega,fun r4 Q7 QH TU=>?_⟩
  rw[AP]
  obtain⟨nm,enm,hnm⟩:=YX (a:=(r2:Int) - 9) (b:=(r3:Int)) ⟨by omega,by omega⟩ ⟨by omega,by omega⟩ (r4:Int)
  have hgl:∀ c m,(bV S d c m++[O.yQ dd])[S.length]?=some (O.yQ dd):=fun c m=>by rw[<- bh (S:=S) (d:=d) (c:=c) (m:=m)];exact aB
  refine⟨(by show(0:Int) < 6;decide),_,_,rfl,enm,_,rfl,_,ss,hgl _ _,tb.keys,tb.nd,by omega,qv ?_⟩
  have hsl:=wk ss
  have hsn:ss.length<=3:=by have:=congrArg List.length tb.keys;rw[List.length_map,List.length_map] at this;omega
  refine dg T.str (fun x=>pT (x,w x)) trivial (eX (by omega)) (fun t ht k' hk=>?_) ?_
  ·exact⟨_,rfl,_,rfl,_,rfl,S.length,dd,Sum.inr t,_,rfl,hgl _ _,rfl,(tb.val t (lS.mp ht)).1,_,rfl,sz 2,_,rfl,hk⟩
  refine⟨_,rfl,_,rfl,_,rfl,sz 2,Rb hc ?_⟩
  have:=h _ Q7 QH (tb.sm (by omega) UT hnm)
  unfold jl at this
  rw[List.map_map] at this
  exact this
noncomputable abbrev kE:Stmt:=top 45
theorem gJ:av ["_law_draw","_law_things","_law_deep","_law_kind","_law_sign","_law_many","_law_parts"] ["_law_draw","_law_things","_law_deep"] (aj kE):=fz
theorem m8 (F:c8 K "_law_condition" "_law_condition" kE f fd)(J:Fx K mg A)(bx:Dn P w K mg base k "_law_condition" ["_law_draw","_law_things","_law_deep"] (bA K (wu n)))(aA:d8 P w K mg base k)(eL:rT P w K mg base k):aU P w K mg base dG (k+1) f fd ["_law_draw","_law_things","_law_deep"] (bA K (zK n)):=by
 refine bM F gJ fun cdv B outer s H E hr=>?_
 rw[show ao kE=[_,_,_,_,_,_] from rfl]
 refine⟨_,(qs (ay (i:=3) gJ.nd (ai aA hr rfl (qa (ah 0) (qa af aa)))) (qs (bF (qw (Ay (aI (fO 40 (uE hr)) (ah 2) af (aJ _)) (xZ (aI G8 (ah 3) af (aJ _))))) (qs (ay (i:=4) gJ.nd (aM (DF (xs:=["<","<=","=","!=",">=",">"]) rfl) (ai aA hr rfl (qa (ah 0) (qa af aa))))) (bO (az (aO (qa aq (qa (ai eL hr rfl (qa (ah 0) (qa (ah 1) aa))) (qa (ah 4) (qa (ai eL hr rfl (qa (ah 0) (qa (ah 1) aa))) aa)))))))) aY) (qs (bF (aI (fO 40 (uE hr)) (ah 3) af (aJ _)) (bO (az (aO (qa aq (qa (ai bx hr rfl (qa (ah 0) (qa (ah 1) (qa (aL wQ (ah 2) af) aa)))) aa))))) aY) (qs (ay (i:=5) gJ.nd (aL aF af (aL AO (aL AQ (ai aA hr rfl (qa (ah 0) (qa af aa))) af) (aD Be (by rfl) J.Bf boot_int (qa (yK (fO 40 (uE hr)) (ah 2) af (aJ _)) aa))))) (qs (wK (i:=6) gJ.nd (aH ["_law_k"] ["_law_draw","_law_things","_law_deep"] [0,1,2] rfl (by decide +kernel) (by decide +kernel) (by with_unfolding_all rfl) (by exact⟨rfl,rfl,rfl,trivial⟩) (by rfl) rfl (by rfl)) rfl (m5 rfl J.jK (qa (ah 5) aa)) (fun _ _ _ _=>(qx (i:=0) (show List.Nodup (["_law_k","_law_draw","_law_things","_law_deep"]:List Str) by decide +kernel))) (fun _ _ _ _=>bf) (fun _ _ _ _=>(ai bx hr rfl (qa (ah 1) (qa (ah 2) (qa (aL wQ (ah 3) af) aa)))))) (bO (az (aL aF (aO (qa (aM (bW (qa aq (qa aq aa))) (aL uv (ah 3) af)) aa)) (aD bq (by rfl) J.br boot_tuple (qa (ah 6) aa)))))))))),fun ds S kk hc hd h=>?_⟩
 obtain⟨d,x,N,Yc,rfl,dq,hx,hn,UT,h⟩:=h
 refine⟨_,rfl,d,8,rfl,dq,by first | decide | omega,fun r1 KU J5 hr1=>?_⟩
 dsimp only[Fp]
 show JG _ _ _ _ _
 refine G1 (decide (n=0)) (decide ((r1:Int) < 5)) (fun k' hk=>⟨_,rfl,rfl,_,congrArg D.bl (by rw[je,Bool.false_xor];exact decide_eq_decide.mpr (by omega)),hk⟩) (fun k' hk=>⟨_,rfl,_,rfl,hk⟩) ?_
 cases hb:(decide (n=0) || decide ((r1:Int) < 5)) with
 | true =>
  refine⟨sz 6,_,rfl,d,6,rfl,dq.bV,by first | decide | omega,fun r2 Xs Wb hr2=>?_⟩
  rw[c5]
  obtain⟨sg,hsg,esg⟩:=lO (N:=["<","<=","=","!=",">=",">"]) (r:=r2) (by simpa using hr2)
  have hsl:∀ s∈(["<","<=","=","!=",">=",">"]:List Str),s.length<=2:=by decide +kernel
  refine⟨_,_,rfl,esg,_,rfl,_,rfl,d,x,N,rfl,dq.bV,uP dq hx,hn,UT,fun s1 c m hs1=>?_⟩
  rw[c5]
  refine⟨_,rfl,_,rfl,_,rfl,d,x,N,rfl,dq.bV,uP dq hx,hn,UT,fun s2 c m hs2=>?_⟩
  rw[c5]
  refine⟨_,rfl,sz 4,gk ?_⟩
  have:=h (.cmp s1 sg s2) c m (by unfold v5;exact⟨hs1,hs2,hsl sg hsg⟩) (by unfold cO.dep;omega) (by unfold cO.sz;unfold Gw;split <;> omega)
  rw[xA] at this
  exact this
 | false =>
  have hb:=Bool.or_eq_false_iff.mp hb
  have hn0:n≠0:=of_decide_eq_false hb.1
  have Yb:¬ (r1:Int) < 5:=of_decide_eq_false hb.2
  obtain⟨p,rfl⟩:∃ p,n=p+1:=⟨n - 1,by omega⟩
  have ep:((p+1:Nat):Int) - 1=(p:Int):=by omega
  have hbz:Gw p+1<=Gw (p+1)/\1+2*Gw p<=Gw (p+1)/\(p=0->1+3*Gw p<=Gw (p+1)):=by
   match p,Yc with
   | 0,_=>exact⟨by decide,by decide,fun _=>by decide⟩
   | 1,_=>exact⟨by decide,by decide,fun h=>absurd h (by decide)⟩
   | q+2,h=>omega
  by_cases h5:r1=5
  ·refine⟨_,rfl,rfl,true,iT,_,rfl,_,rfl,_,rfl,d,x,N,by omega,congrArg (fun z:Int=>[D.ob d,x,D.int z]) ep,dq.bV,uP dq hx,hn,UT,fun e c m he hd2 hz=>?_⟩
   rw[c5]
   refine⟨_,rfl,sz 2,gk ?_⟩
   have:=h (.neg e) c m (by unfold v5;exact he) (by unfold cO.dep;omega) (by unfold cO.sz;omega)
   rw[xx] at this
   exact this
  ·refine⟨_,rfl,rfl,false,iF,_,rfl,d,4,rfl,dq.bV,by first | decide | omega,fun r2 Xs Wb hr2=>?_⟩
   rw[c5]
   refine⟨⟨by decide,by decide⟩,_,rfl,rfl,.inr ?_,?_⟩
   ·split <;> exact⟨by decide,by decide⟩
   obtain⟨q,eq,hq⟩:∃ q:Nat,2+(r2:Int) / 3*(if (xor false (decide (V.int ((p+1:Nat):Int)=V.int 1)))=true then (1:Int) else 0)=(q:Int)/\(q=2∨(q=3/\p=0)):=by
    rw[je,Bool.false_xor]
    by_cases h1:p=0
    ·rw[decide_eq_true (by omega)]
     by_cases h3:r2=3
     ·exact⟨3,by rw[h3];rfl,.inr ⟨rfl,h1⟩⟩
     ·exact⟨2,by rw[if_pos rfl];omega,.inl rfl⟩
    ·rw[decide_eq_false (by omega)]
     exact⟨2,by simp,.inl rfl⟩
   refine⟨_,rfl,(q:Int),congrArg (fun z:Int=>[D.int z]) eq,by omega,by omega,?_⟩
   rw[Int.toNat_natCast]
   refine yq (n:=q) dq (fun y=>∃ e,y=lG e/\v5 e/\e.dep<=p/\e.sz<=Gw p) (by omega) (fun i c m k' hk=>?_) fun ys c m hl hp=>?_
   ·refine⟨_,rfl,_,rfl,_,rfl,d,x,N,by omega,congrArg (fun z:Int=>[D.ob d,x,D.int z]) ep,dq.bV,uP dq hx,hn,UT,fun e c m he hd2 hz=>?_⟩
    rw[c5]
    exact⟨_,rfl,hk _ _ _ ⟨e,rfl,he,hd2,hz⟩⟩
   obtain⟨es,rfl,hl2,hes⟩:=ex_map hp
   rw[List.length_map] at hl
   have hdl:∀ l:List cO,(∀ e∈l,e.dep<=p)->Cf l<=p:=by
    intro l
    induction l with
    | nil=>intro _;exact Nat.zero_le _
    | cons a r ih=>intro hh;unfold Cf;exact Nat.max_le.mpr ⟨hh a List.mem_cons_self,ih fun e he=>hh e (List.mem_cons_of_mem _ he)⟩
   have hzl:∀ l:List cO,(∀ e∈l,e.sz<=Gw p)->Iz l<=Gw p*l.length:=by
    intro l
    induction l with
    | nil=>intro _;exact Nat.zero_le _
    | cons a r ih =>
     intro hh
     unfold Iz
     have h1:=hh a List.mem_cons_self
     have h2:=ih fun e he=>hh e (List.mem_cons_of_mem _ he)
     rw[List.length_cons,Nat.mul_succ]
     omega
   have h1:=hdl es fun e he=>(hes e he).2.1
   have h2:=hzl es fun e he=>(hes e he).2.2
   rw[hl] at h2
   have hz3:Iz es+1<=Gw (p+1):=by
    rcases hq with rfl | ⟨rfl,h0⟩
    ·have:=hbz.2.1;omega
    ·have:=hbz.2.2 h0;omega
   have hk:∃ qb:Bool,qp [T.str (Str.ofString "and"),T.str (Str.ofString "or")] ((r1:Int) % 2)=some (T.str (if qb=true then "and" else "or")):=by
    have:(r1:Int) % 2=0∨(r1:Int) % 2=1:=by omega
    rcases this with e | e
    ·exact⟨true,by rw[e];rfl⟩
    ·exact⟨false,by rw[e];rfl⟩
   obtain⟨qb,eqb⟩:=hk
   refine⟨_,rfl,sz 2,_,rfl,(by show(0:Int) < 2;decide),_,_,rfl,eqb,_,rfl,sz 1,_,rfl,_,rfl,eX (by simp;omega),gk ?_⟩
   have:=h (.con qb es) c m (by unfold v5;exact NP fun e he=>(hes e he).1) (by unfold cO.dep;omega) (by unfold cO.sz;exact hz3)
   rw[xy] at this
   exact this
noncomputable abbrev sj:Stmt:=top 49
theorem GO:av ["_law_helpers"] ["_law_helpers"] (aj sj):=fz
theorem G4 (F:c8 K "_law_plain" "_law_plain" sj f fd)(J:Fx K mg A) :aU P w K mg base dG (k+1) f fd ["_law_helpers"] (bA K EE):=by
 refine bM F GO fun cdv B outer s H E hr=>?_
 rw[show ao sj=[_] from rfl]
 refine⟨_,(bO (az (bU (aH ["_law_one"] [] [] rfl (by decide +kernel) (by decide +kernel) (by with_unfolding_all rfl) (by exact trivial) (by rfl) rfl (by rfl)) rfl (qi (ah 0)) (fun _ _ _ _=>(qx (i:=0) (show List.Nodup (["_law_one"]:List Str) by decide +kernel))) (fun _ _ _ _=>(wJ (aI (fO 40 (uE hr)) (bU (aH ["_law_param"] [] [] rfl (by decide +kernel) (by decide +kernel) (by with_unfolding_all rfl) (by exact trivial) (by rfl) rfl (by rfl)) rfl (qi (aM (ah 0) af)) (fun _ _ _ _=>(qx (i:=0) (show List.Nodup (["_law_param"]:List Str) by decide +kernel))) (fun _ _ _ _=>(wJ (aI (fO 40 (uE hr)) (aM (ah 0) af) aq (aJ _)))) (fun _ _ _ _=>(ah 0))) (bW aa) (aJ _)))) (fun _ _ _ _=>(ah 0))))),fun ds S kk hc hd h=>?_⟩
 obtain⟨hs,rfl,hn,hC,h⟩:=h
 refine⟨_,rfl,qv ?_⟩
 refine yp mG (fun h=>if h.params.filterMap (fun p=>if p.cps.toList.head?=some 35 then some (T.str p) else none)=[] then some (mG h) else none) trivial (eX (by omega)) (fun x hx k' hk=>?_) ?_
 ·have hx2:=hC x hx
  have hpl:=hx2.pl.1
  refine⟨_,rfl,_,_,rfl,rfl,dI ?_⟩
  refine yp T.str (fun p=>if p.cps.toList.head?=some 35 then some (T.str p) else none) trivial (eX (by omega)) (fun p hp k2 hk2=>?_) ?_
  ·obtain⟨q1,q2⟩:=hx2.ps p hp
   obtain⟨c,e1,e2⟩:=Nn q1
   refine⟨_,rfl,eX (by omega),c,e1,rfl,?_⟩
   cases hb:decide (p.cps.toList.head?=some 35) with
   | true=>rw[if_pos (of_decide_eq_true hb)] at hk2;exact⟨true,congrArg D.bl (e2.trans hb),_,rfl,_,rfl,hk2⟩
   | false=>rw[if_neg (of_decide_eq_false hb)] at hk2;exact⟨false,congrArg D.bl (e2.trans hb),hk2⟩
  refine⟨_,rfl,sz 0,oh rfl ?_⟩
  cases hb:decide (x.params.filterMap (fun p=>if p.cps.toList.head?=some 35 then some (T.str p) else none)=[]) with
  | true=>rw[if_pos (of_decide_eq_true hb)] at hk;exact⟨true,congrArg D.bl rfl,_,rfl,_,rfl,hk⟩
  | false=>rw[if_neg (of_decide_eq_false hb)] at hk;exact⟨false,congrArg D.bl rfl,hk⟩
 obtain⟨l,e,h1,h2⟩:=T7 mG (fun h=>h.params.filterMap (fun p=>if p.cps.toList.head?=some 35 then some (T.str p) else none)=[]) hs
 rw[e]
 exact gk (h l h1 h2)
noncomputable abbrev wI:Stmt:=top 50
theorem jg:av ["_law_draw","_law_own","_law_helper_here","_law_names_here","_law_things","_law_makes","_law_uses","_law_answers","_law_given","_law_param"] ["_law_draw","_law_own","_law_helper_here"] (aj wI):=fz
theorem JZ (F:c8 K "_law_call" "_law_call" wI f fd)(J:Fx K mg A)(aA:d8 P w K mg base k)(eL:rT P w K mg base k):aU P w K mg base dG (k+1) f fd ["_law_draw","_law_own","_law_helper_here"] (bA K IS):=by
 refine bM F jg fun cdv B outer s H E hr=>?_
 rw[show ao wI=[_,_,_,_,_,_] from rfl]
 refine⟨_,(qs (x6 (ah 1) (p6 (n:=4) rfl (yJ (qg (i:=3) jg.nd) (yJ (qg (i:=4) jg.nd) (yJ (qg (i:=5) jg.nd) (yJ (qg (i:=6) jg.nd) mE)))))) (qs (ay (i:=7) jg.nd (aM (ah 2) af)) (qs (bF (aI G9 (cj j6 (by rfl) J.j7 PySem.boot_len (qa (ah 7) aa)) (cj j6 (by rfl) J.j7 PySem.boot_len (qa (ah 3) aa)) (aJ _)) (bO (az (aO (qa aq (qa (aM (ah 3) af) (qa (ai eL hr rfl (qa (ah 0) (qa (ah 4) aa))) aa)))))) aY) (qs (ay (i:=8) jg.nd (jd aa)) (qs (jD PassesOwn.never rfl (qi (aM (ah 2) af)) (qg (i:=9) jg.nd) (bO (bF (aI (fO 40 (uE hr)) (aM (ah 9) af) aq (aJ _)) (bO (iD (iy (ah 8) (qa (aO (qa (aO (qa (aO (qa (aL aF aq (aM (ah 6) (ai aA hr rfl (qa (ah 0) (qa (cj j6 (by rfl) J.j7 PySem.boot_len (qa (ah 6) aa)) aa))))) (qa af aa))) aa)) (qa af aa))) aa)))) (bO (iD (iy (ah 8) (qa (ai eL hr rfl (qa (ah 0) (qa (ah 4) aa))) aa))))))) (bO (az (aO (qa aq (qa (aD bq (by rfl) J.br boot_tuple (qa (oN false (ah 3) fh (cS (cj j6 (by rfl) J.j7 PySem.boot_len (qa (ah 7) aa)))) aa)) (qa (aM (ah 2) af) (qa (aD bq (by rfl) J.br boot_tuple (qa (ah 8) aa)) aa)))))))))))),fun ds S kk hc hd h=>?_⟩
 obtain⟨d,ws,N,ms,us,x,rfl,dq,ok,hC,h⟩:=h
 have hlt:=dq.lt
 have AP:∀ {a b c m:Int} {loc:bQ},bV (bV S d a b++loc) d c m=bV S d c m++loc:=fun {a b c m loc}=>by rw[qj (by rw[bh];exact hlt),c5]
 refine⟨_,rfl,_,rfl,rfl,_,_,rfl,_,_,rfl,_,_,rfl,_,_,rfl,rfl,_,rfl,_,_,rfl,rfl,?_⟩
 by_cases q:((ws.length:Nat):Int) < (x.answers.length:Nat)
 ·obtain⟨w0,hw0,ew0⟩:=lO (N:=ws) (r:=0) (by have:=List.length_pos_iff.mpr ok.w.1;omega)
  refine⟨_,rfl,_,rfl,_,rfl,_,rfl,true,congrArg D.bl (decide_eq_true (by rw[List.length_map,List.length_map];exact q)),_,rfl,_,_,rfl,ew0,_,rfl,_,rfl,d,_,N,rfl,dq,rfl,ok.n.2.1,ok.n.2.2,fun s c m hs=>?_⟩
  refine⟨_,rfl,sz 3,gk ?_⟩
  have:=h (.lt 0 w0 s) c m (by unfold fF;exact⟨ok.w.2.2 w0 hw0,hs⟩) (by unfold eG.dp;rfl) (by unfold rws;rfl)
  rw[LQ] at this
  exact this
 refine⟨_,rfl,_,rfl,_,rfl,_,rfl,false,congrArg D.bl (decide_eq_false (by rw[List.length_map,List.length_map];exact q)),?_⟩
 obtain⟨c0,m0,e0⟩:=dq.self
 refine⟨_,rfl,sz 0,_,rfl,_,_,rfl,rfl,dI ?_⟩
 refine uB T.str (fun pre δ S'=>∃ y c m,∃ g:List Sm,δ=[some (D.ob d),some (D.t (GZ ws N ms us)),some (D.t (mG x)),some (D.t (B0 ws)),some (D.t (B0 N)),some (D.t (B0 ms)),some (D.t (B0 us)),some (D.t (uM x.answers)),some (D.ob S.length),y]/\S'=bV S d c m++[O.lst (g.map jl)]/\g.length=pre.length/\∀ s∈g,vp s) ⟨_,c0,m0,[],rfl,by rw[<- e0];rfl,rfl,fun _ h=>absurd h List.not_mem_nil⟩ ?_ ?_
 ·rintro pre p post δ S' Nx e ⟨y,c,m,g,rfl,rfl,hl,hg⟩ hN
  have hp:p∈x.params:=by rw[e];simp
  have hpre:pre.length < x.params.length:=by rw[e,List.length_append];simp
  have hp8:=hC.pl.1
  obtain⟨q1,q2⟩:=hC.ps p hp
  obtain⟨c1,e1,e2⟩:=Nn q1
  have gl:∀ c m,(bV S d c m++[O.lst (g.map jl)])[S.length]?=some (O.lst (g.map jl)):=fun c m=>by rw[<- bh (S:=S) (d:=d) (c:=c) (m:=m)];exact aB
  have es:∀ c m s,(bV S d c m++[O.lst (g.map jl)]).set S.length (O.lst (g.map jl++[jl s]))=bV S d c m++[O.lst ((g++[s]).map jl)]:=fun c m s=>by
   rw[<- bh (S:=S) (d:=d) (c:=c) (m:=m),gp,List.map_append];rfl
  refine⟨trivial,_,rfl,eX (by omega),c1,e1,rfl,?_⟩
  cases hb:decide (p.cps.toList.head?=some 35) with
  | true =>
   have hup:0 < us.length:=List.length_pos_iff.mpr ok.u.1
   refine⟨true,congrArg D.bl (e2.trans hb),_,rfl,⟨rfl,_,bX (gl _ _)⟩,_,rfl,_,rfl,_,rfl,_,rfl,d,_,rfl,dq.bV.up,by rw[List.length_map];omega,fun r2 c2 m2 hr2=>?_⟩
   rw[AP]
   rw[List.length_map] at hr2
   obtain⟨u,hu,eu⟩:=lO hr2
   have hul:=ok.u.2.2 u hu
   have hz:(("#":Str)++u).length<=100:=by rw[aS];show 1+_<=100;omega
   refine⟨_,_,rfl,eu,eX (by show 1+_<=1000;omega),_,rfl,sz 2,_,rfl,sz 1,_,rfl,sz 2,_,gl _ _,oA (by rw[List.length_map];omega),?_⟩
   have e3:=es c2 m2 ([(("#":Str)++u,1)],0)
   unfold jl at e3
   refine Eq.mpr (congrArg _ e3) (hN _ _ ⟨_,_,_,_,rfl,rfl,by rw[List.length_append,List.length_append,hl];rfl,fun s hs=>?_⟩)
   rcases List.mem_append.mp hs with hs | hs
   ·exact hg s hs
   ·rw[List.mem_singleton.mp hs];exact Mc hz
  | false =>
   refine⟨false,congrArg D.bl (e2.trans hb),_,rfl,⟨rfl,_,bX (gl _ _)⟩,_,rfl,_,rfl,d,_,N,rfl,dq.bV.up,rfl,ok.n.2.1,ok.n.2.2,fun s2 c2 m2 hs2=>?_⟩
   rw[AP]
   refine⟨_,gl _ _,oA (by rw[List.length_map];omega),?_⟩
   refine Eq.mpr (congrArg _ (es c2 m2 s2)) (hN _ _ ⟨_,_,_,_,rfl,rfl,by rw[List.length_append,List.length_append,hl];rfl,fun s hs=>?_⟩)
   rcases List.mem_append.mp hs with hs | hs
   ·exact hg s hs
   ·rw[List.mem_singleton.mp hs];exact hs2
 ·rintro δ S' ⟨y,c,m,g,rfl,rfl,hl,hg⟩
  obtain⟨ns,en,hn1,hn2⟩:=PD ws x.answers.length
  refine⟨trivial,_,rfl,_,rfl,_,rfl,(x.answers.length:Int),by rw[List.length_map],?_⟩
  refine⟨_,rfl,?_⟩
  rw[en,if_neg Bool.false_ne_true]
  have hp8:=hC.pl
  refine⟨_,rfl,_,rfl,_,_,rfl,rfl,_,rfl,_,kZ (l:=g.map jl) (by rw[<- bh (S:=S) (d:=d) (c:=c) (m:=m)];exact aB),_,rfl,sz 4,Rb hc ?_⟩
  have:=h (.cl 0 ns x.name g) c m (by unfold fF;exact⟨by omega,fun y hy=>ok.w.2.2 y (hn2 y hy),hC.nm,by rw[hl];exact hp8.1,hg⟩) (by unfold eG.dp;rfl) (by unfold rws;rfl)
  rw[RN] at this
  exact this
noncomputable abbrev sf:Stmt:=top 51
theorem GN:av ["_law_draw","_law_own","_law_many","_law_deep","_law_helpers"] ["_law_draw","_law_own","_law_many","_law_deep","_law_helpers"] (aj sf):=fz
theorem uO (F:c8 K "_law_steps" "_law_steps" sf f fd)(J:Fx K mg A)(HM:Ek P w K mg base k n):aU P w K mg base dG (k+1) f fd ["_law_draw","_law_own","_law_many","_law_deep","_law_helpers"] (bA K (Ag n)):=by
 refine bM F GN fun cdv B outer s H E hr=>?_
 rw[show ao sf=[_] from rfl]
 refine⟨_,(bO (az (aD bq (by rfl) J.br boot_tuple (qa (bU (aH ["_law_k"] ["_law_draw","_law_own","_law_deep","_law_helpers"] [0,1,3,4] rfl (by decide +kernel) (by decide +kernel) (by with_unfolding_all rfl) (by exact⟨rfl,rfl,rfl,rfl,trivial⟩) (by rfl) rfl (by rfl)) rfl (m5 rfl J.jK (qa (ah 2) aa)) (fun _ _ _ _=>(qx (i:=0) (show List.Nodup (["_law_k","_law_draw","_law_own","_law_deep","_law_helpers"]:List Str) by decide +kernel))) (fun _ _ _ _=>bf) (fun _ _ _ _=>(ai HM hr rfl (qa (ah 1) (qa (ah 2) (qa (ah 3) (qa (ah 4) aa))))))) aa)))),fun ds S kk hc hd h=>?_⟩
 obtain⟨d,j,ws,N,ms,us,hs,Yc,rfl,hj,dq,ok,hh,hC,h⟩:=h
 obtain⟨c0,m0,e0⟩:=dq.self
 refine⟨_,rfl,(j:Int),rfl,by omega,by omega,?_⟩
 rw[e0]
 refine yq (n:=j) dq (fun y=>∃ s,y=mQ s/\fF s/\s.dp<=n+1/\(rws s).length<=CM n) (by omega) (fun i c m k' hk=>?_) fun ys c m hl hp=>?_
 ·refine⟨_,rfl,_,rfl,_,rfl,_,rfl,d,ws,N,ms,us,hs,Yc,rfl,dq.bV,ok,hh,hC,fun s c m h1 h2 h3=>?_⟩
  rw[c5]
  exact⟨_,rfl,hk _ _ _ ⟨s,rfl,h1,h2,h3⟩⟩
 obtain⟨l,rfl,hl2,hp2⟩:=ex_map hp
 rw[<- e0]
 have hlj:l.length=j:=by rw[hl2,hl]
 have hr:=IV fun s hs=>(hp2 s hs).2.2
 rw[hlj] at hr
 refine⟨_,rfl,gk ?_⟩
 have:=h l c m (zY fun s hs=>(hp2 s hs).1) hlj (NH fun s hs=>(hp2 s hs).2.1) hr
 rw[iG] at this
 exact this
noncomputable abbrev wD:Stmt:=top 48
theorem cL:av ["_law_draw","_law_own","_law_deep","_law_helpers","_law_names_here","_law_things","_law_makes","_law_uses","_law_kind","_law_name","_law_word","_law_by","_law_thing","_law_sizes","_law_then","_law_other","_law_holds","_law_falls","_law_body","_law_some"] ["_law_draw","_law_own","_law_deep","_law_helpers"] (aj wD):=fz
theorem ye (F:c8 K "_law_step" "_law_step" wD f fd)(J:Fx K mg A)(eL:rT P w K mg base k)(yT:Cq P w K mg base k)(HQ:En P w K mg base k)(aA:d8 P w K mg base k)(bx:oz P w K mg base k)(lH:Cp P w K mg base k n):aU P w K mg base dG (k+1) f fd ["_law_draw","_law_own","_law_deep","_law_helpers"] (bA K (IL n)):=by
 refine bM F cL fun cdv B outer s H E hr=>?_
 rw[show ao wD=[_,_,_,_,_,_,_,_,_,_,_,_] from rfl]
 refine⟨_,(qs (x6 (ah 1) (p6 (n:=4) rfl (yJ (qg (i:=4) cL.nd) (yJ (qg (i:=5) cL.nd) (yJ (qg (i:=6) cL.nd) (yJ (qg (i:=7) cL.nd) mE)))))) (qs (ay (i:=8) cL.nd (ai aA hr rfl (qa (ah 0) (qa af aa)))) (qs (ay (i:=9) cL.nd (aM (ah 4) (ai aA hr rfl (qa (ah 0) (qa (cj j6 (by rfl) J.j7 PySem.boot_len (qa (ah 4) aa)) aa))))) (qs (bF (aI (fO 40 (uE hr)) (ah 8) af (aJ _)) (qs (ay (i:=10) cL.nd (aM (bW (qa aq (qa aq aa))) (ai aA hr rfl (qa (ah 0) (qa af aa))))) (qs (ay (i:=11) cL.nd (aM (bW (qa (aO (qa (aO aa) (qa (aM (bW (qa af (qa af (qa (CN af) (qa af (qa af (qa af aa))))))) (ai aA hr rfl (qa (ah 0) (qa af aa)))) aa))) (qa (ai eL hr rfl (qa (ah 0) (qa (ah 5) aa))) aa))) (aL AQ (ai aA hr rfl (qa (ah 0) (qa af aa))) af))) (bO (az (aO (qa aq (qa (ah 9) (qa (ah 10) (qa (ai eL hr rfl (qa (ah 0) (qa (ah 5) aa))) (qa (ah 11) aa)))))))))) aY) (qs (bF (qw (qR (aI (fO 40 (uE hr)) (ah 8) af (aJ _)) (pZ (aI (sX 40 (uE hr)) (ah 7) (bW aa) (aJ _))))) (bO (az (aO (qa aq (qa (ah 9) (qa (aM (ah 7) (ai aA hr rfl (qa (ah 0) (qa (cj j6 (by rfl) J.j7 PySem.boot_len (qa (ah 7) aa)) aa)))) (qa (ai eL hr rfl (qa (ah 0) (qa (ah 5) aa))) aa))))))) aY) (qs (bF (qw (qR (aI (fO 40 (uE hr)) (ah 8) af (aJ _)) (pZ (aI (sX 40 (uE hr)) (ah 7) (bW aa) (aJ _))))) (bO (az (aO (qa aq (qa (aM (ah 7) (ai aA hr rfl (qa (ah 0) (qa (cj j6 (by rfl) J.j7 PySem.boot_len (qa (ah 7) aa)) aa)))) (qa (ai eL hr rfl (qa (ah 0) (qa (ah 5) aa))) (qa (ai eL hr rfl (qa (ah 0) (qa (ah 5) aa))) aa))))))) aY) (qs (bF (qw (qR (aI (fO 40 (uE hr)) (ah 8) af (aJ _)) (pZ (aI (sX 40 (uE hr)) (ah 6) (bW aa) (aJ _))))) (qs (ay (i:=12) cL.nd (aM (ah 5) (ai aA hr rfl (qa (ah 0) (qa (cj j6 (by rfl) J.j7 PySem.boot_len (qa (ah 5) aa)) aa))))) (qs (ay (i:=13) cL.nd (bW (qa (aO (qa (aO aa) (qa (ai aA hr rfl (qa (ah 0) (qa af aa))) aa))) (qa (aO (qa (aO aa) (qa (aL wQ (CN af) (ai aA hr rfl (qa (ah 0) (qa af aa)))) aa))) (qa (aO (qa (aO (qa (aO (qa (ah 12) (qa af aa))) aa)) (qa af aa))) aa))))) (bO (az (aO (qa aq (qa (aM (ah 6) (ai aA hr rfl (qa (ah 0) (qa (cj j6 (by rfl) J.j7 PySem.boot_len (qa (ah 6) aa)) aa)))) (qa (aM (ah 13) (aL AQ (ai aA hr rfl (qa (ah 0) (qa af aa))) af)) aa)))))))) aY) (qs (bF (aI (fO 40 (uE hr)) (ah 8) af (aJ _)) (bO (az (aO (qa aq (qa (ai bx hr rfl (qa (ah 0) (qa (ah 5) (qa af aa)))) aa))))) aY) (qs (bF (qw (qR (aI J1 (ah 8) (aO (qa af (qa af aa))) (by rfl)) (pZ (aI G9 (ah 2) af (aJ _))))) (qs (ay (i:=14) cL.nd (ai lH hr rfl (qa (ah 0) (qa (ah 1) (qa (ai aA hr rfl (qa (ah 0) (qa af aa))) (qa (aL wQ (ah 2) af) (qa (ah 3) aa))))))) (qs (ay (i:=15) cL.nd (ai lH hr rfl (qa (ah 0) (qa (ah 1) (qa (ai aA hr rfl (qa (ah 0) (qa af aa))) (qa (aL wQ (ah 2) af) (qa (ah 3) aa))))))) (bO (az (aO (qa aq (qa (ai bx hr rfl (qa (ah 0) (qa (ah 5) (qa af aa)))) (qa (ah 14) (qa (ah 15) aa))))))))) aY) (qs (bF (qw (qR (aI J1 (ah 8) (aO (qa af (qa af aa))) (by rfl)) (pZ (aI G9 (ah 2) af (aJ _))))) (qs (ay (i:=16) cL.nd (aD bq (by rfl) J.br boot_tuple (qa (bU (aH ["_law_k"] ["_law_draw","_law_things"] [0,5] rfl (by decide +kernel) (by decide +kernel) (by with_unfolding_all rfl) (by exact⟨rfl,rfl,trivial⟩) (by rfl) rfl (by rfl)) rfl (m5 rfl J.jK (qa (ai aA hr rfl (qa (ah 0) (qa af aa))) aa)) (fun _ _ _ _=>(qx (i:=0) (show List.Nodup (["_law_k","_law_draw","_law_things"]:List Str) by decide +kernel))) (fun _ _ _ _=>bf) (fun _ _ _ _=>(ai bx hr rfl (qa (ah 1) (qa (ah 2) (qa af aa)))))) aa))) (qs (ay (i:=17) cL.nd (aM (bW (qa wL (qa (ai eL hr rfl (qa (ah 0) (qa (ah 5) aa))) aa))) (ai aA hr rfl (qa (ah 0) (qa af aa))))) (qs (ay (i:=18) cL.nd (ai lH hr rfl (qa (ah 0) (qa (ah 1) (qa (ai aA hr rfl (qa (ah 0) (qa af aa))) (qa (aL wQ (ah 2) af) (qa (ah 3) aa))))))) (bO (az (aO (qa aq (qa (ai bx hr rfl (qa (ah 0) (qa (ah 5) (qa af aa)))) (qa (ah 16) (qa (ah 17) (qa (ah 18) aa))))))))))) aY) (qs (bF (qw (qR (aI J1 (ah 8) (aO (qa af (qa af aa))) (by rfl)) (qR (aI (sX 40 (uE hr)) (ah 3) (bW aa) (aJ _)) (pZ (qw (Ay (aI (sX 40 (uE hr)) (ah 7) (bW aa) (aJ _)) (xZ (aI (sX 40 (uE hr)) (ai yT hr rfl (qa (ah 3) aa)) (bW aa) (aJ _))))))))) (qs (ay (i:=19) cL.nd (aM (bW (qa (ah 3) (qa (ai yT hr rfl (qa (ah 3) aa)) aa))) (aD Be (by rfl) J.Bf boot_int (qa (yK (fO 40 (uE hr)) (ah 7) (bW aa) (aJ _)) aa)))) (bO (az (ai HQ hr rfl (qa (ah 0) (qa (ah 1) (qa (aM (ah 19) (ai aA hr rfl (qa (ah 0) (qa (cj j6 (by rfl) J.j7 PySem.boot_len (qa (ah 19) aa)) aa)))) aa))))))) aY) (bO (az (aO (qa aq (qa (ah 9) (qa (ai eL hr rfl (qa (ah 0) (qa (ah 5) aa))) aa))))))))))))))))),fun ds S kk hc hd h=>?_⟩
 obtain⟨d,ws,N,ms,us,hs,Yc,rfl,dq,ok,hh,hC,h⟩:=h
 have hwp:0 < ws.length:=List.length_pos_iff.mpr ok.w.1
 have hNp:0 < N.length:=List.length_pos_iff.mpr ok.n.1
 have hup:0 < us.length:=List.length_pos_iff.mpr ok.u.1
 refine⟨_,rfl,_,rfl,rfl,_,_,rfl,_,_,rfl,_,_,rfl,_,_,rfl,rfl,_,rfl,d,14,rfl,dq,by first | decide | omega,fun r1 KU J5 hr1=>?_⟩
 refine⟨_,rfl,_,rfl,_,rfl,_,rfl,d,_,rfl,dq.bV,by rw[List.length_map];omega,fun r2 c2 m2 hr2=>?_⟩
 rw[c5]
 rw[List.length_map] at hr2
 obtain⟨x,hx,ex⟩:=lO hr2
 have TN:=ok.w.2.2 x hx
 refine⟨_,_,rfl,ex,?_⟩
 dsimp only[Fp]
 show yG (yH _ _ GB) _ _ _ _
 have fin:∀ (s:eG) (c m:Int),fF s->s.dp=1->(rws s).length=1->closes S.length (.t (mQ s)) (bV S d c m) kk:=fun s c m g e r=>gk (h s c m g (by omega) (by rw[r];exact Ow n))
 have big:∀ (s:eG) (c m:Int),fF s->s.dp<=n+1->(rws s).length<=CM n->closes S.length (.t (mQ s)) (bV S d c m) kk:=fun s c m g e r=>gk (h s c m g e r)
 refine Fj (decide (r1=0)) (fun k' hk=>⟨_,rfl,rfl,_,congrArg D.bl (by rw[je,Bool.false_xor];exact decide_eq_decide.mpr (by omega)),hk⟩) (fun hb=>?_) fun b0=>?_
 ·refine⟨_,rfl,sz 2,_,rfl,d,2,rfl,dq.bV,by first | decide | omega,fun r3 Q8 QK By=>?_⟩
  rw[c5]
  obtain⟨wd,hwd,ewd⟩:=lO (N:=["div","mod"]) (r:=r3) (by simpa using By)
  have hwl:∀ s∈(["div","mod"]:List Str),s.length<=3:=by decide +kernel
  refine⟨_,_,rfl,ewd,_,rfl,sz 0,_,rfl,sz 6,_,rfl,d,6,rfl,dq.bV,by first | decide | omega,fun r4 Q7 QH TU=>?_⟩
  rw[c5]
  obtain⟨v,ev,hv⟩:=YW TU
  refine⟨_,_,rfl,ev,_,rfl,sz 2,_,rfl,_,rfl,d,_,N,rfl,dq.bV,rfl,ok.n.2.1,ok.n.2.2,fun s c m TR=>?_⟩
  rw[c5]
  refine⟨_,rfl,sz 2,_,rfl,d,4,rfl,dq.bV,by first | decide | omega,fun r5 cr5 Zh Yb=>?_⟩
  rw[c5]
  obtain⟨b,eb,hb2⟩:=Ux (i:=(r5:Int) / 3) (by omega) (GI hv) TR
  refine⟨⟨by decide,by decide⟩,_,_,rfl,eb,_,rfl,_,rfl,_,rfl,_,rfl,d,_,N,rfl,dq.bV,rfl,ok.n.2.1,ok.n.2.2,fun s2 c m ZZ=>?_⟩
  rw[c5]
  refine⟨_,rfl,?_⟩
  refine⟨_,rfl,sz 5,?_⟩
  have:=fin (.dv 0 x wd s2 b) c m (by unfold fF;exact⟨TN,hwl wd hwd,ZZ,hb2⟩) (by unfold eG.dp;rfl) (by unfold rws;rfl)
  rw[RM] at this
  exact this
 refine Fj (decide (r1=1)) (fun k' hk=>yU (decide (r1=1)) true (fun k' hk=>⟨_,rfl,rfl,_,congrArg D.bl (by rw[je,Bool.false_xor];exact decide_eq_decide.mpr (by omega)),hk⟩) (fun k' hk=>⟨_,rfl,_,rfl,sz 0,oh rfl ⟨true,congrArg D.bl (DR ok.u.1),hk⟩⟩) (by rw[Bool.and_true];exact hk)) (fun hb=>?_) fun b1=>?_
 ·refine⟨_,rfl,_,rfl,_,rfl,_,rfl,_,rfl,d,_,rfl,dq.bV,by rw[List.length_map];omega,fun r3 Q8 QK By=>?_⟩
  rw[c5]
  rw[List.length_map] at By
  obtain⟨u,hu,eu⟩:=lO By
  refine⟨_,_,rfl,eu,_,rfl,_,rfl,d,_,N,rfl,dq.bV,rfl,ok.n.2.1,ok.n.2.2,fun p c m Z0=>?_⟩
  rw[c5]
  refine⟨_,rfl,sz 4,?_⟩
  have:=fin (.ft 0 x u p) c m (by unfold fF;exact⟨TN,by have:=ok.u.2.2 u hu;omega,Z0⟩) (by unfold eG.dp;rfl) (by unfold rws;rfl)
  rw[RL] at this
  exact this
 refine Fj (decide (r1=2)) (fun k' hk=>yU (decide (r1=2)) true (fun k' hk=>⟨_,rfl,rfl,_,congrArg D.bl (by rw[je,Bool.false_xor];exact decide_eq_decide.mpr (by omega)),hk⟩) (fun k' hk=>⟨_,rfl,_,rfl,sz 0,oh rfl ⟨true,congrArg D.bl (DR ok.u.1),hk⟩⟩) (by rw[Bool.and_true];exact hk)) (fun hb=>?_) fun b2=>?_
 ·refine⟨_,rfl,_,rfl,_,rfl,_,rfl,d,_,rfl,dq.bV,by rw[List.length_map];omega,fun r3 Q8 QK By=>?_⟩
  rw[c5]
  rw[List.length_map] at By
  obtain⟨u,hu,eu⟩:=lO By
  refine⟨_,_,rfl,eu,_,rfl,_,rfl,d,_,N,rfl,dq.bV,rfl,ok.n.2.1,ok.n.2.2,fun p c m Z0=>?_⟩
  rw[c5]
  refine⟨_,rfl,_,rfl,d,_,N,rfl,dq.bV,rfl,ok.n.2.1,ok.n.2.2,fun s c m TR=>?_⟩
  rw[c5]
  refine⟨_,rfl,sz 4,?_⟩
  have:=fin (.pt 0 u p s) c m (by unfold fF;exact⟨by have:=ok.u.2.2 u hu;omega,Z0,TR⟩) (by unfold eG.dp;rfl) (by unfold rws;rfl)
  rw[RJ] at this
  exact this
 refine Fj (decide (r1=3) && decide (ms≠[])) (fun k' hk=>yU (decide (r1=3)) (decide (ms≠[])) (fun k' hk=>⟨_,rfl,rfl,_,congrArg D.bl (by rw[je,Bool.false_xor];exact decide_eq_decide.mpr (by omega)),hk⟩) (fun k' hk=>⟨_,rfl,_,rfl,sz 0,oh rfl ⟨_,congrArg D.bl (nn_b ms),hk⟩⟩) hk) (fun hb=>?_) fun b3=>?_
 ·have hm0:ms≠[]:=of_decide_eq_true (Bool.and_eq_true_iff.mp hb).2
  have hmp:0 < ms.length:=List.length_pos_iff.mpr hm0
  refine⟨_,rfl,_,rfl,_,rfl,_,rfl,d,_,rfl,dq.bV,by rw[List.length_map];omega,fun r3 Q8 QK By=>?_⟩
  rw[c5]
  rw[List.length_map] at By
  obtain⟨t,ht,et⟩:=lO By
  refine⟨_,_,rfl,et,_,rfl,sz 0,_,rfl,d,6,rfl,dq.bV,by first | decide | omega,fun r4 Q7 QH TU=>?_⟩
  rw[c5]
  refine⟨_,rfl,sz 2,_,rfl,sz 0,_,rfl,d,2,rfl,dq.bV,by first | decide | omega,fun r5 cr5 Zh Yb=>?_⟩
  rw[c5]
  refine⟨_,rfl,sz 2,_,rfl,_,rfl,sz 2,_,rfl,sz 1,_,rfl,sz 2,_,rfl,sz 3,_,rfl,_,rfl,_,rfl,_,rfl,d,_,rfl,dq.bV,by rw[List.length_map];omega,fun r6 cr6 mr6 hr6=>?_⟩
  rw[c5]
  rw[List.length_map] at hr6
  obtain⟨w,hw,ew⟩:=lO hr6
  refine⟨_,_,rfl,ew,_,rfl,_,rfl,d,12,rfl,dq.bV,by first | decide | omega,fun r7 cr7 mr7 hr7=>?_⟩
  rw[c5]
  obtain⟨z,ez,hz⟩:=Uw (i:=(r7:Int) / 5) (by omega) (GI (v:=(r4:Int)) ⟨by omega,by omega⟩) (GI (v:=-1 - (r5:Int)) ⟨by omega,by omega⟩) (Mc (ok.n.2.2 t ht))
  refine⟨⟨by decide,by decide⟩,_,_,rfl,ez,?_⟩
  refine⟨_,rfl,sz 3,?_⟩
  have:=fin (.mq 0 w z) cr7 mr7 (by unfold fF;exact⟨by have:=ok.m.2 w hw;omega,hz⟩) (by unfold eG.dp;rfl) (by unfold rws;rfl)
  rw[RK] at this
  exact this
 refine Fj (decide (r1=4)) (fun k' hk=>⟨_,rfl,rfl,_,congrArg D.bl (by rw[je,Bool.false_xor];exact decide_eq_decide.mpr (by omega)),hk⟩) (fun hb=>?_) fun b4=>?_
 ·refine⟨_,rfl,_,rfl,d,_,N,by decide,rfl,dq.bV,rfl,ok.n.2.1,ok.n.2.2,fun e c m he ge ze=>?_⟩
  rw[c5]
  have ke:=KY he ge ze
  refine⟨_,rfl,sz 2,?_⟩
  have:=fin (.cm 0 e) c m (by unfold fF;exact ke) (by unfold eG.dp;rfl) (by unfold rws;rfl)
  rw[LR] at this
  exact this
 refine Fj ((decide ((r1:Int)=5) || decide ((r1:Int)=6)) && decide (0 < n)) (fun k' hk=>yU (decide ((r1:Int)=5) || decide ((r1:Int)=6)) (decide (0 < n)) (fun k' hk=>⟨_,rfl,_,rfl,sz 2,_,_,_,rfl,rfl,rfl,rfl,_,congrArg D.bl Nk,hk⟩) (fun k' hk=>⟨_,rfl,_,congrArg D.bl (decide_eq_decide.mpr (by omega)),hk⟩) hk) (fun hb=>?_) fun b5=>?_
 ·have hn0:0 < n:=of_decide_eq_true (Bool.and_eq_true_iff.mp hb).2
  obtain⟨p,rfl⟩:∃ p,n=p+1:=⟨n - 1,by omega⟩
  have ep:((p+1:Nat):Int) - 1=(p:Int):=by omega
  refine⟨_,rfl,_,rfl,_,rfl,d,3,rfl,dq.bV,by first | decide | omega,fun r3 Q8 QK By=>?_⟩
  rw[c5]
  refine⟨_,rfl,_,rfl,d,r3,ws,N,ms,us,hs,by omega,congrArg (fun z:Int=>[D.ob d,D.t (GZ ws N ms us),D.int r3,D.int z,D.lst (hs.map mG)]) ep,by omega,dq.bV,ok,hh,hC,fun t c m gt lt kt wt=>?_⟩
  rw[c5]
  refine⟨_,rfl,_,rfl,_,rfl,d,3,rfl,dq.bV,by first | decide | omega,fun r4 Q7 QH TU=>?_⟩
  rw[c5]
  refine⟨_,rfl,_,rfl,d,r4,ws,N,ms,us,hs,by omega,congrArg (fun z:Int=>[D.ob d,D.t (GZ ws N ms us),D.int r4,D.int z,D.lst (hs.map mG)]) ep,by omega,dq.bV,ok,hh,hC,fun o c m go lo ko wo=>?_⟩
  rw[c5]
  refine⟨_,rfl,_,rfl,d,_,N,by decide,rfl,dq.bV,rfl,ok.n.2.1,ok.n.2.2,fun e c m he ge ze=>?_⟩
  rw[c5]
  have ke:=KY he ge ze
  refine⟨_,rfl,_,rfl,_,rfl,sz 4,?_⟩
  have:=big (.ch 0 e t o) c m (by unfold fF;exact⟨ke,gt,go,by omega,by omega⟩) (by unfold eG.dp;omega) (RZ (by omega) (Nat.le_trans wt (Nat.mul_le_mul_right _ (by omega))) (Nat.le_trans wo (Nat.mul_le_mul_right _ (by omega))))
  rw[LS] at this
  exact this
 refine Fj ((decide ((r1:Int)=7) || decide ((r1:Int)=8)) && decide (0 < n)) (fun k' hk=>yU (decide ((r1:Int)=7) || decide ((r1:Int)=8)) (decide (0 < n)) (fun k' hk=>⟨_,rfl,_,rfl,sz 2,_,_,_,rfl,rfl,rfl,rfl,_,congrArg D.bl Nk,hk⟩) (fun k' hk=>⟨_,rfl,_,congrArg D.bl (decide_eq_decide.mpr (by omega)),hk⟩) hk) (fun hb=>?_) fun b7=>?_
 ·have hn0:0 < n:=of_decide_eq_true (Bool.and_eq_true_iff.mp hb).2
  obtain⟨p,rfl⟩:∃ p,n=p+1:=⟨n - 1,by omega⟩
  have ep:((p+1:Nat):Int) - 1=(p:Int):=by omega
  refine⟨_,rfl,d,3,rfl,dq.bV,by first | decide | omega,fun r3 Q8 QK By=>?_⟩
  rw[c5]
  refine⟨(r3:Int),rfl,by omega,by omega,?_⟩
  rw[Int.toNat_natCast]
  refine yq (n:=r3) dq (fun y=>∃ e,y=lG e/\C5 e) (by omega) (fun i c m k' hk=>?_) fun ys c m hl hp=>?_
  ·refine⟨_,rfl,_,rfl,d,_,N,by decide,rfl,dq.bV,rfl,ok.n.2.1,ok.n.2.2,fun e c m he ge ze=>?_⟩
   rw[c5]
   have ke:=KY he ge ze
   exact⟨_,rfl,hk _ _ _ ⟨e,rfl,ke⟩⟩
  obtain⟨es,rfl,hl2,hes⟩:=ex_map hp
  rw[List.length_map] at hl
  refine⟨_,rfl,_,rfl,_,rfl,d,_,N,rfl,dq.bV,rfl,ok.n.2.1,ok.n.2.2,fun s c m TR=>?_⟩
  rw[c5]
  refine⟨_,rfl,sz 2,_,rfl,d,2,rfl,dq.bV,by first | decide | omega,fun r4 Q7 QH TU=>?_⟩
  rw[c5]
  obtain⟨f0,ef,hf⟩:=Uy (i:=(r4:Int)) (by omega) TR
  refine⟨_,_,rfl,ef,_,rfl,_,rfl,_,rfl,d,3,rfl,dq.bV,by first | decide | omega,fun r5 cr5 Zh Yb=>?_⟩
  rw[c5]
  refine⟨_,rfl,_,rfl,d,r5,ws,N,ms,us,hs,by omega,congrArg (fun z:Int=>[D.ob d,D.t (GZ ws N ms us),D.int r5,D.int z,D.lst (hs.map mG)]) ep,by omega,dq.bV,ok,hh,hC,fun b c m gb lb kb wb=>?_⟩
  rw[c5]
  refine⟨_,rfl,_,rfl,d,_,N,by decide,rfl,dq.bV,rfl,ok.n.2.1,ok.n.2.2,fun e c m he ge ze=>?_⟩
  rw[c5]
  have ke:=KY he ge ze
  refine⟨_,rfl,_,rfl,_,rfl,_,rfl,sz 5,?_⟩
  have:=big (.rp 0 e (es.map fun x=>(0,x)) f0 b) c m (by unfold fF;exact⟨ke,by rw[List.length_map];omega,fun q hq=>by obtain⟨y,hy,rfl⟩:=List.mem_map.mp hq;exact hes y hy,hf,gb,by omega⟩) (by unfold eG.dp;omega) (RY (by omega) (by rw[List.length_map];omega) (Nat.le_trans wb (Nat.mul_le_mul_right _ (by omega))))
  rw[LP,List.map_map] at this
  exact this
 refine Fj ((decide ((r1:Int)=9) || decide ((r1:Int)=10)) && decide (hs≠[])) (fun k' hk=>yU (decide ((r1:Int)=9) || decide ((r1:Int)=10)) (decide (hs≠[])) (fun k' hk=>⟨_,rfl,_,rfl,sz 2,_,_,_,rfl,rfl,rfl,rfl,_,congrArg D.bl Nk,hk⟩) (fun k' hk=>yU (decide (hs≠[])) true (fun k' hk=>⟨_,rfl,_,rfl,sz 0,oh rfl ⟨_,congrArg D.bl (Zg hs),hk⟩⟩) (fun k' hk=>Za (fun k' hk=>⟨_,rfl,_,rfl,sz 0,oh rfl ⟨true,congrArg D.bl (DR ok.u.1),hk⟩⟩) hk) (by rw[Bool.and_true];exact hk)) hk) (fun hb=>?_) fun b9=>?_
 ·have hh0:hs≠[]:=of_decide_eq_true (Bool.and_eq_true_iff.mp hb).2
  have hhp:0 < hs.length:=List.length_pos_iff.mpr hh0
  refine⟨_,rfl,_,rfl,hs,rfl,hh,hC,fun l _ _=>?_⟩
  refine⟨_,rfl,sz 2,_,rfl,_,rfl,sz 0,oh rfl ?_⟩
  rw[V6 ok.u.1]
  refine⟨_,_,rfl,rfl,_,rfl,_,rfl,_,rfl,_,rfl,_,rfl,_,rfl,d,_,rfl,dq.bV,by rw[List.length_map];omega,fun r3 c3 m3 By=>?_⟩
  rw[c5]
  rw[List.length_map] at By
  obtain⟨y,hy,ey⟩:=a0X mG By
  refine⟨_,_,rfl,ey,d,ws,N,ms,us,y,rfl,dq.bV,ok,hC y hy,fun s c m g1 g2 g3=>?_⟩
  rw[c5]
  exact fin s c m g1 g2 g3
 refine⟨_,rfl,_,rfl,_,rfl,d,_,N,rfl,dq.bV,rfl,ok.n.2.1,ok.n.2.2,fun s c m TR=>?_⟩
 rw[c5]
 refine⟨_,rfl,sz 3,?_⟩
 have:=fin (.lt 0 x s) c m (by unfold fF;exact⟨TN,TR⟩) (by unfold eG.dp;rfl) (by unfold rws;rfl)
 rw[LQ] at this
 exact this
noncomputable abbrev pL:Stmt:=top 52
theorem bY:av ["_law_draw","_law_name","_law_names_here","_law_many","_law_helpers","_law_params","_law_more","_law_answers","_law_uses","_law_things","_law_known","_law_needs","_law_gives","_law_writes","_law_makes","_law_steps_here"] ["_law_draw","_law_name","_law_names_here","_law_many","_law_helpers"] (aj pL):=fz
theorem E4 (F:c8 K "_law_helper" "_law_helper" pL f fd)(J:Fx K mg A)(lH:Dn P w K mg base k "_law_steps" ["_law_draw","_law_own","_law_many","_law_deep","_law_helpers"] (bA K (Ag 2)))(bx:oz P w K mg base k)(aA:d8 P w K mg base k):aU P w K mg base dG (k+1) f fd ["_law_draw","_law_name","_law_names_here","_law_many","_law_helpers"] (bA K CK):=by
 refine bM F bY fun cdv B outer s H E hr=>?_
 rw[show ao pL=[_,_,_,_,_,_,_,_,_,_,_,_,_,_,_] from rfl]
 refine⟨_,(qs (ay (i:=5) bY.nd (aD bq (by rfl) J.br boot_tuple (qa (oN false (ah 2) fh (cS (ai aA hr rfl (qa (ah 0) (qa af aa))))) aa))) (qs (ay (i:=6) bY.nd (aL AQ (ai aA hr rfl (qa (ah 0) (qa af aa))) af)) (qs (ay (i:=5) bY.nd (aL aF (ah 5) (aD bq (by rfl) J.br boot_tuple (qa (bU (aH ["_law_row"] [] [] rfl (by decide +kernel) (by decide +kernel) (by with_unfolding_all rfl) (by exact trivial) (by rfl) rfl (by rfl)) rfl (qi (oN false (ah 2) (cS af) (cS (aL aF af (ah 6))))) (fun _ _ _ _=>(qx (i:=0) (show List.Nodup (["_law_row"]:List Str) by decide +kernel))) (fun _ _ _ _=>bf) (fun _ _ _ _=>(aL aF aq (ah 0)))) aa)))) (qs (ay (i:=7) bY.nd (aD bq (by rfl) J.br boot_tuple (qa (oN false (ah 2) (cS af) (cS (aL aF af (ai aA hr rfl (qa (ah 0) (qa af aa)))))) aa))) (qs (wK (i:=8) bY.nd (aH ["_law_row"] [] [] rfl (by decide +kernel) (by decide +kernel) (by with_unfolding_all rfl) (by exact trivial) (by rfl) rfl (by rfl)) rfl (qi (oN false (ah 2) (cS af) (cS af))) (fun _ _ _ _=>(qx (i:=0) (show List.Nodup (["_law_row"]:List Str) by decide +kernel))) (fun _ _ _ _=>bf) (fun _ _ _ _=>(ah 0))) (qs (ay (i:=9) bY.nd (aL aF (oN false (ah 2) fh (cS af)) (bU (aH ["_law_row"] [] [] rfl (by decide +kernel) (by decide +kernel) (by with_unfolding_all rfl) (by exact trivial) (by rfl) rfl (by rfl)) rfl (qi (ah 8)) (fun _ _ _ _=>(qx (i:=0) (show List.Nodup (["_law_row"]:List Str) by decide +kernel))) (fun _ _ _ _=>bf) (fun _ _ _ _=>(aL aF aq (ah 0)))))) (qs (ay (i:=10) bY.nd (bU (aH ["_law_param"] [] [] rfl (by decide +kernel) (by decide +kernel) (by with_unfolding_all rfl) (by exact trivial) (by rfl) rfl (by rfl)) rfl (qi (ah 5)) (fun _ _ _ _=>(qx (i:=0) (show List.Nodup (["_law_param"]:List Str) by decide +kernel))) (fun _ _ _ _=>bf) (fun _ _ _ _=>(ah 0)))) (qs (ay (i:=6) bY.nd (ai aA hr rfl (qa (ah 0) (qa af aa)))) (qs (ay (i:=11) bY.nd (aD bq (by rfl) J.br boot_tuple (qa (bU (aH ["_law_k"] ["_law_draw","_law_known"] [0,10] rfl (by decide +kernel) (by decide +kernel) (by with_unfolding_all rfl) (by exact⟨rfl,rfl,trivial⟩) (by rfl) rfl (by rfl)) rfl (m5 rfl J.jK (qa (ah 6) aa)) (fun _ _ _ _=>(qx (i:=0) (show List.Nodup (["_law_k","_law_draw","_law_known"]:List Str) by decide +kernel))) (fun _ _ _ _=>bf) (fun _ _ _ _=>(ai bx hr rfl (qa (ah 1) (qa (ah 2) (qa af aa)))))) aa))) (qs (ay (i:=6) bY.nd (ai aA hr rfl (qa (ah 0) (qa af aa)))) (qs (ay (i:=12) bY.nd (aD bq (by rfl) J.br boot_tuple (qa (bU (aH ["_law_k"] ["_law_draw","_law_known","_law_answers"] [0,10,7] rfl (by decide +kernel) (by decide +kernel) (by with_unfolding_all rfl) (by exact⟨rfl,rfl,rfl,trivial⟩) (by rfl) rfl (by rfl)) rfl (m5 rfl J.jK (qa (ah 6) aa)) (fun _ _ _ _=>(qx (i:=0) (show List.Nodup (["_law_k","_law_draw","_law_known","_law_answers"]:List Str) by decide +kernel))) (fun _ _ _ _=>bf) (fun _ _ _ _=>(ai bx hr rfl (qa (ah 1) (qa (aL aF (ah 2) (aD rK (by rfl) J.rM boot_list (qa (ah 3) aa))) (qa af aa)))))) aa))) (qs (wK (i:=13) bY.nd (aH ["_law_one"] ["_law_params"] [5] rfl (by decide +kernel) (by decide +kernel) (by with_unfolding_all rfl) (by exact⟨rfl,trivial⟩) (by rfl) rfl (by rfl)) rfl (qi (oN false (ah 2) fh (cS af))) (fun _ _ _ _=>(qx (i:=0) (show List.Nodup (["_law_one","_law_params"]:List Str) by decide +kernel))) (fun _ _ _ _=>(wJ (aI Jb (ah 0) (ah 1) (by rfl)))) (fun _ _ _ _=>(ah 0))) (qs (wK (i:=14) bY.nd (aH ["_law_row"] ["_law_params"] [5] rfl (by decide +kernel) (by decide +kernel) (by with_unfolding_all rfl) (by exact⟨rfl,trivial⟩) (by rfl) rfl (by rfl)) rfl (qi (ah 8)) (fun _ _ _ _=>(qx (i:=0) (show List.Nodup (["_law_row","_law_params"]:List Str) by decide +kernel))) (fun _ _ _ _=>(wJ (aI Jb (aL aF aq (ah 0)) (ah 1) (by rfl)))) (fun _ _ _ _=>(ah 0))) (qs (ay (i:=15) bY.nd (ai lH hr rfl (qa (ah 0) (qa (aO (qa (ah 13) (qa (ah 9) (qa (ah 14) (qa (ah 8) aa))))) (qa (ah 3) (qa af (qa (ah 4) aa))))))) (bO (az (aO (qa (ah 1) (qa (ah 5) (qa (ah 7) (qa (ah 11) (qa (ah 12) (qa (ah 15) aa))))))))))))))))))))))),fun ds S kk hc hd h=>?_⟩
 obtain⟨d,j,nm,ns,hs,rfl,dq,hnm,hn8,hnd,hw,hj,hh,hC,h⟩:=h
 obtain⟨a0,a1,a2,a3,a4,a5,a6,a7,rfl⟩:=NF hn8
 refine⟨_,rfl,_,rfl,d,3,rfl,dq,by first | decide | omega,fun r1 KU J5 hr1=>?_⟩
 obtain⟨p0,ep0,hp0,Z1⟩:=Uk (a0:=a0) (a1:=a1) (a2:=a2) (a3:=a3) (a4:=a4) (a5:=a5) (a6:=a6) (a7:=a7) hr1
 refine⟨_,rfl,_,rfl,?_⟩
 rw[ep0,if_neg Bool.false_ne_true]
 refine⟨_,rfl,_,rfl,d,3,rfl,dq.bV,by first | decide | omega,fun r2 Xs Wb hr2=>?_⟩
 rw[c5]
 obtain⟨rs,ers,hrs,W8⟩:=Uj (r:=r2 / 2) (a0:=a0) (a1:=a1) (a2:=a2) (a3:=a3) (a4:=a4) (a5:=a5) (a6:=a6) (a7:=a7) (by omega)
 have er2:((r2 / 2:Nat):Int)=(r2:Int) / 2:=by omega
 rw[er2] at ers
 refine⟨⟨by decide,by decide⟩,_,rfl,_,rfl,_,rfl,_,rfl,_,rfl,_,rfl,?_⟩
 rw[ers,if_neg Bool.false_ne_true]
 refine qv ?_
 have QZ:∀ x∈[a6,a7],Bo x:=fun x hx=>hw x (by simp at hx ⊢;rcases hx with rfl | rfl <;> simp)
 refine dg T.str (fun x=>T.str (("#":Str)++x)) trivial (eX (by omega)) (fun x hx k' hk=>?_) ?_
 ·have W4:=QZ x (W8 x hx)
  exact⟨_,rfl,eX (by show 1+_<=1000;have:=W4.1;omega),_,rfl,hk⟩
 refine⟨_,rfl,eX (by rw[List.length_map,List.length_map];omega),?_⟩
 have eps:p0.map T.str++rs.map (fun x=>T.str (("#":Str)++x))=(p0++rs.map fun x=>("#":Str)++x).map T.str:=by rw[List.map_append,List.map_map];rfl
 rw[eps]
 have hpl:(p0++rs.map fun x=>("#":Str)++x).length<=4:=by rw[List.length_append,List.length_map];omega
 have UR:∀ x∈p0++rs.map (fun x=>("#":Str)++x),x.cps.toList≠[]/\x.length<=30:=fun x hx=>by
  rcases List.mem_append.mp hx with hx | hx
  ·have:=hw x (by have:=Z1 x hx;simp at this;rcases this with rfl | rfl <;> simp)
   exact⟨this.2,by have:=this.1;omega⟩
  ·obtain⟨y,hy,rfl⟩:=List.mem_map.mp hx
   have:=QZ y (W8 y hy)
   exact⟨Nm y,by rw[wZ];have:=this.1;omega⟩
 generalize p0++rs.map (fun x=>("#":Str)++x)=ps at hpl UR ⊢
 dsimp only[Fp]
 show yG _ _ _ [some (D.ob d),some (D.str nm),some (D.t (B0 [a0,a1,a2,a3,a4,a5,a6,a7])),some (D.int j),some (D.lst (hs.map mG)),some (D.tup (ps.map T.str)),some (D.int ((r2:Int) / 2)),none,none,none,none,none,none,none,none,none] _
 refine⟨_,rfl,_,rfl,_,rfl,d,3,rfl,dq.bV,by first | decide | omega,fun r3 Q8 QK By=>?_⟩
 rw[c5]
 obtain⟨N6,ean,han,Z8⟩:=Ul (a0:=a0) (a1:=a1) (a2:=a2) (a3:=a3) (a4:=a4) (a5:=a5) (a6:=a6) (a7:=a7) By
 refine⟨_,rfl,_,rfl,?_⟩
 rw[ean,if_neg Bool.false_ne_true]
 refine⟨_,rfl,_,rfl,_,rfl,_,rfl,_,rfl,?_⟩
 rw[Um,if_neg Bool.false_ne_true]
 refine qv ?_
 refine dg T.str T.str trivial (sz 2) (fun x hx k' hk=>⟨_,rfl,_,rfl,hk⟩) ?_
 refine⟨_,rfl,_,rfl,_,rfl,?_⟩
 rw[NK,if_neg Bool.false_ne_true]
 refine⟨_,rfl,qv ?_⟩
 refine dg T.str (fun x=>T.str (("#":Str)++x)) trivial (sz 2) (fun x hx k' hk=>?_) ?_
 ·have W4:=QZ x hx
  exact⟨_,rfl,eX (by show 1+_<=1000;have:=W4.1;omega),_,rfl,hk⟩
 refine⟨_,_,rfl,rfl,sz 8,_,rfl,dI ?_⟩
 refine dg T.str T.str trivial (eX (by omega)) (fun x hx k' hk=>⟨_,rfl,_,rfl,hk⟩) ?_
 refine⟨_,rfl,d,3,rfl,dq.bV,by first | decide | omega,fun r4 Q7 QH TU=>?_⟩
 rw[c5]
 refine⟨_,rfl,(r4:Int),rfl,by omega,by omega,?_⟩
 rw[Int.toNat_natCast]
 refine yq (n:=r4) dq (fun y=>∃ e,y=lG e/\C5 e) (by omega) (fun i c m k' hk=>?_) fun ys c m hl4 hp=>?_
 ·refine⟨_,rfl,_,rfl,d,_,ps,by decide,rfl,dq.bV,rfl,by omega,fun x hx=>by have:=(UR x hx).2;omega,fun e c m he ge ze=>?_⟩
  rw[c5]
  exact⟨_,rfl,hk _ _ _ ⟨e,rfl,KY he ge ze⟩⟩
 obtain⟨nd,rfl,a3m,Z4⟩:=ex_map hp
 rw[List.length_map] at hl4
 refine⟨_,rfl,?_⟩
 dsimp only[Fp]
 show yG _ _ _ [some (D.ob d),some (D.str nm),some (D.t (B0 [a0,a1,a2,a3,a4,a5,a6,a7])),some (D.int j),some (D.lst (hs.map mG)),some (D.tup (ps.map T.str)),some (D.int r4),some (D.tup (N6.map T.str)),some (D.lst ([a6,a7].map T.str)),some (D.lst ([a0,a1,a2,a3,a4,a5,("#":Str)++a6,("#":Str)++a7].map T.str)),some (D.lst (ps.map T.str)),some (D.tup (nd.map lG)),none,none,none,none] _
 refine⟨_,rfl,d,3,rfl,dq.bV,by first | decide | omega,fun r5 cr5 Zh Yb=>?_⟩
 rw[c5]
 have Xc:∀ x∈N6,x.length<=100:=fun x hx=>by
  have h1:=Z8 x hx
  have:=hw x (by simp at h1 ⊢;rcases h1 with rfl | rfl <;> simp)
  have:=this.1
  omega
 refine⟨_,rfl,(r5:Int),rfl,by omega,by omega,?_⟩
 rw[Int.toNat_natCast]
 refine yq (n:=r5) dq (fun y=>∃ e,y=lG e/\C5 e) (by omega) (fun i c m k' hk=>?_) fun ys c m hl5 hp=>?_
 ·refine⟨_,rfl,_,rfl,_,rfl,_,rfl,_,_,rfl,rfl,eX (by rw[List.length_map,List.length_map];omega),d,_,ps++N6,by decide,rfl,dq.bV,by rw[List.map_append];rfl,by rw[List.length_append];omega,fun x hx=>?_,fun e c m he ge ze=>?_⟩
  ·rcases List.mem_append.mp hx with hx | hx
   ·have:=(UR x hx).2;omega
   ·exact Xc x hx
  rw[c5]
  exact⟨_,rfl,hk _ _ _ ⟨e,rfl,KY he ge ze⟩⟩
 obtain⟨gv,rfl,a3k,Z7⟩:=ex_map hp
 rw[List.length_map] at hl5
 refine⟨_,rfl,?_⟩
 dsimp only[Fp]
 show yG _ _ _ [some (D.ob d),some (D.str nm),some (D.t (B0 [a0,a1,a2,a3,a4,a5,a6,a7])),some (D.int j),some (D.lst (hs.map mG)),some (D.tup (ps.map T.str)),some (D.int r5),some (D.tup (N6.map T.str)),some (D.lst ([a6,a7].map T.str)),some (D.lst ([a0,a1,a2,a3,a4,a5,("#":Str)++a6,("#":Str)++a7].map T.str)),some (D.lst (ps.map T.str)),some (D.tup (nd.map lG)),some (D.tup (gv.map lG)),none,none,none] _
 refine⟨_,rfl,_,rfl,_,rfl,?_⟩
 rw[NK,if_neg Bool.false_ne_true]
 refine qv ?_
 refine yp T.str (fun x=>if x∈ps then none else some (T.str x)) trivial (sz 6) (fun x hx k' hk=>?_) ?_
 ·refine⟨_,rfl,_,rfl,_,_,_,rfl,rfl,rfl,qf ps,?_⟩
  rw[qe]
  cases hb:decide (x∈ps) with
  | true=>rw[if_pos (of_decide_eq_true hb)] at hk;exact⟨false,rfl,hk⟩
  | false=>rw[if_neg (of_decide_eq_false hb)] at hk;exact⟨true,rfl,_,rfl,_,rfl,hk⟩
 obtain⟨ws,ews,ZY,a3a,ZX⟩:=T8 ps [a0,a1,a2,a3,a4,a5]
 rw[ews]
 refine⟨_,rfl,qv ?_⟩
 refine yp T.str (fun x=>if ("#":Str)++x∈ps then none else some (T.str x)) trivial (sz 2) (fun x hx k' hk=>?_) ?_
 ·have W4:=QZ x hx
  refine⟨_,rfl,eX (by show 1+_<=1000;have:=W4.1;omega),_,rfl,_,_,_,rfl,rfl,rfl,qf ps,?_⟩
  rw[qe]
  cases hb:decide (("#":Str)++x∈ps) with
  | true=>rw[if_pos (of_decide_eq_true hb)] at hk;exact⟨false,rfl,hk⟩
  | false=>rw[if_neg (of_decide_eq_false hb)] at hk;exact⟨true,rfl,_,rfl,_,rfl,hk⟩
 obtain⟨ms,ems,Z5,a3j⟩:=Px ps [a6,a7]
 rw[ems]
 dsimp only[Fp]
 show yG _ _ _ [some (D.ob d),some (D.str nm),some (D.t (B0 [a0,a1,a2,a3,a4,a5,a6,a7])),some (D.int j),some (D.lst (hs.map mG)),some (D.tup (ps.map T.str)),some (D.int r5),some (D.tup (N6.map T.str)),some (D.lst ([a6,a7].map T.str)),some (D.lst ([a0,a1,a2,a3,a4,a5,("#":Str)++a6,("#":Str)++a7].map T.str)),some (D.lst (ps.map T.str)),some (D.tup (nd.map lG)),some (D.tup (gv.map lG)),some (D.lst (ws.map T.str)),some (D.lst (ms.map T.str)),none] _
 have l6:[a0,a1,a2,a3,a4,a5].length=6:=rfl
 have hw0:∀ x∈[a0,a1,a2,a3,a4,a5],Bo x:=fun x hx=>hw x (by simp at hx ⊢;rcases hx with q | q | q | q | q | q <;> simp[q])
 have OW:JB ws [a0,a1,a2,a3,a4,a5,("#":Str)++a6,("#":Str)++a7] ms [a6,a7]:=by
  refine⟨⟨fun e=>?_,by omega,fun x hx=>by have:=(hw0 x (ZY x hx)).1;omega⟩,⟨by simp,by simp,fun x hx=>?_⟩,⟨by have:[a6,a7].length=2:=rfl;omega,fun x hx=>by have:=(QZ x (Z5 x hx)).1;omega⟩,by simp,by simp,fun x hx=>by have:=(QZ x hx).1;omega⟩
  ·have nd6:[a0,a1,a2,a3,a4,a5].Nodup:=(List.nodup_append.mp (show([a0,a1,a2,a3,a4,a5]++[a6,a7]).Nodup from hnd)).1
   have:=J2 (m:=ps) nd6 fun x hx=>Classical.byContradiction fun q=>by have:=ZX x hx q;rw[e] at this;cases this
   omega
  ·have h6:=(QZ a6 (by simp)).1
   have h7:=(QZ a7 (by simp)).1
   have e6:=wZ a6
   have e7:=wZ a7
   simp only[List.mem_cons,List.not_mem_nil,or_false] at hx
   rcases hx with q | q | q | q | q | q | q | q
   ·rw[q];have:=(hw0 a0 (by simp)).1;omega
   ·rw[q];have:=(hw0 a1 (by simp)).1;omega
   ·rw[q];have:=(hw0 a2 (by simp)).1;omega
   ·rw[q];have:=(hw0 a3 (by simp)).1;omega
   ·rw[q];have:=(hw0 a4 (by simp)).1;omega
   ·rw[q];have:=(hw0 a5 (by simp)).1;omega
   ·rw[q];omega
   ·rw[q];omega
 refine⟨_,rfl,_,rfl,_,rfl,_,rfl,_,rfl,_,rfl,sz 4,_,rfl,_,rfl,d,j,ws,[a0,a1,a2,a3,a4,a5,("#":Str)++a6,("#":Str)++a7],ms,[a6,a7],hs,by decide,rfl,by omega,dq.bV,OW,hh,hC,fun l c m g1 g2 g3 g4=>?_⟩
 rw[c5]
 refine⟨_,rfl,_,rfl,_,rfl,_,rfl,_,rfl,_,rfl,_,rfl,sz 6,gk ?_⟩
 have hmem:∀ (l:List cO),(∀ e∈l,C5 e)->∀ p∈l.map (fun e=>((0:Int),e)),C5 p.2:=fun l h p hp=>by obtain⟨y,hy,rfl⟩:=List.mem_map.mp hp;exact h y hy
 have hrl:CM 2=31:=rfl
 have:=h ⟨0,nm,ps,N6,nd.map fun e=>(0,e),gv.map fun e=>(0,e),l⟩ c m ⟨⟨by have:=hnm.1;show nm.length<=100;omega,⟨by show ps.length<=8;omega,by show N6.length<=8;omega,by show(nd.map _).length<=8;rw[List.length_map];omega,by show(gv.map _).length<=8;rw[List.length_map];omega,by show l.length<=10;omega⟩,fun x hx=>by have:=(UR x hx).2;omega,Xc,hmem nd Z4,hmem gv Z7,g1⟩,⟨by have:=hnm.1;show nm.length<=100;omega,⟨by show ps.length<=8;omega,by show N6.length<=8;omega⟩,fun x hx=>⟨(UR x hx).1,by have:=(UR x hx).2;omega⟩⟩,g3,?_⟩
 ·unfold mG at this
  simp only[List.map_map] at this
  exact this
 ·rw[sP]
  have ha:=mL ⟨0,nm,ps,N6,nd.map fun e=>(0,e),gv.map fun e=>(0,e),l⟩
  have hb:K5 ⟨0,nm,ps,N6,nd.map fun e=>(0,e),gv.map fun e=>(0,e),l⟩<=1:=by unfold K5;split <;> omega
  have hc:j*CM 2<=62:=by rw[hrl];omega
  simp only[List.length_append,List.length_map,List.length_singleton]
  omega
noncomputable abbrev nS:Stmt:=top 53
theorem lT:av ["_law_draw","_law_many","_law_titles","_law_helpers","_law_k"] ["_law_draw","_law_many"] (aj nS):=fz
theorem DK (F:c8 K "_law_program" "_law_program" nS f fd)(J:Fx K mg A)(aA:d8 P w K mg base k)(Ed:Br P w K mg base k)(om:uH P w K mg base k):aU P w K mg base dG (k+1) f fd ["_law_draw","_law_many"] (bA K IP):=by
 refine bM F lT fun cdv B outer s H E hr=>?_
 rw[show ao nS=[_,_,_,_] from rfl]
 refine⟨_,(qs (ay (i:=2) lT.nd (ai om hr rfl (qa (ah 0) (qa af aa)))) (qs (ay (i:=3) lT.nd (jd aa)) (qs (jD PassesOwn.never rfl (m5 rfl J.jK (qa (aM (bW (qa af (qa af (qa af (qa af aa))))) (ai aA hr rfl (qa (ah 0) (qa af aa)))) aa)) (qg (i:=4) lT.nd) (bO (iD (iy (ah 3) (qa (ai Ed hr rfl (qa (ah 0) (qa (aM (ah 2) (ah 4)) (qa (ai om hr rfl (qa (ah 0) (qa af aa))) (qa (ai aA hr rfl (qa (ah 0) (qa (aL aF (ah 1) af) aa))) (qa (aD rK (by rfl) J.rM boot_list (qa (ah 3) aa)) aa)))))) aa))))) (bO (az (ah 3)))))),fun ds S kk hc hd h=>?_⟩
 obtain⟨d,rfl,dq,h⟩:=h
 have hlt:=dq.lt
 have AP:∀ {a b c m:Int} {loc:bQ},bV (bV S d a b++loc) d c m=bV S d c m++loc:=fun {a b c m loc}=>by rw[qj (by rw[bh];exact hlt),c5]
 refine⟨_,rfl,d,3,rfl,by decide,dq,fun ts c0 m0 W6 htn hto=>?_⟩
 refine⟨_,rfl,sz 0,_,rfl,sz 4,_,rfl,d,4,rfl,dq.bV.up,by first | decide | omega,fun r1 KU J5 hr1=>?_⟩
 rw[AP]
 obtain⟨v,ev,hv⟩:∃ v:Nat,qp [T.int 1,.int 1,.int 2,.int 2] (r1:Int)=some (T.int (v:Int))/\v<=2:=by
  match r1,hr1 with
  | 0,_=>exact⟨1,rfl,by decide⟩
  | 1,_=>exact⟨1,rfl,by decide⟩
  | 2,_=>exact⟨2,rfl,by decide⟩
  | 3,_=>exact⟨2,rfl,by decide⟩
  | n+4,h=>omega
 refine⟨_,_,rfl,ev,(v:Int),rfl,by omega,by omega,?_⟩
 rw[Int.toNat_natCast]
 refine xg (fun i δ S'=>∃ y c m,∃ hs:List lI,δ=[some (D.ob d),some (D.int 2),some (D.t (B0 ts)),some (D.ob S.length),y]/\S'=bV S d c m++[O.lst (hs.map mG)]/\hs.length=i/\∀ h∈hs,Ri h 3 70) ⟨_,_,_,[],by rw[bh];rfl,rfl,rfl,fun _ h=>absurd h List.not_mem_nil⟩ ?_ ?_
 ·rintro i z δ S' Nx hz ⟨y,c,m,hs,rfl,rfl,hl,hg⟩ hN
  have hi:i < v:=by
   have:=(List.getElem?_eq_some_iff.mp hz).1
   simpa using this
  rw[List.getElem?_map,List.getElem?_range hi] at hz
  cases hz
  have gl:∀ c m,(bV S d c m++[O.lst (hs.map mG)])[S.length]?=some (O.lst (hs.map mG)):=fun c m=>by rw[<- bh (S:=S) (d:=d) (c:=c) (m:=m)];exact aB
  have es:∀ c m x,(bV S d c m++[O.lst (hs.map mG)]).set S.length (O.lst (hs.map mG++[mG x]))=bV S d c m++[O.lst ((hs++[x]).map mG)]:=fun c m x=>by
   rw[<- bh (S:=S) (d:=d) (c:=c) (m:=m),gp,List.map_append];rfl
  obtain⟨t,ht,et⟩:=lO (N:=ts) (r:=i) (by omega)
  refine⟨trivial,_,rfl,⟨rfl,_,bX (gl _ _)⟩,_,rfl,_,rfl,_,rfl,_,_,rfl,et,_,rfl,d,8,rfl,by decide,dq.bV.up,fun ns c1 m1 hnl hnn hno=>?_⟩
  rw[AP]
  refine⟨_,rfl,_,rfl,d,3,rfl,dq.bV.up,by decide,fun r2 c2 m2 hr2=>?_⟩
  rw[AP]
  refine⟨_,rfl,_,kZ (gl _ _),d,r2,t,ns,hs,rfl,dq.bV.up,hto t ht,hnl,hnn,hno,by omega,by omega,fun x hx=>(hg x hx).c,fun x c3 m3 hx=>?_⟩
  rw[AP]
  refine⟨_,gl _ _,oA (by rw[List.length_map];omega),?_⟩
  refine Eq.mpr (congrArg _ (es c3 m3 x)) (hN _ _ ⟨_,_,_,_,rfl,rfl,by rw[List.length_append,hl];rfl,fun y hy=>?_⟩)
  rcases List.mem_append.mp hy with hy | hy
  ·exact hg y hy
  ·rw[List.mem_singleton.mp hy];exact hx
 ·rintro δ S' ⟨y,c,m,hs,rfl,rfl,hl,hg⟩
  rw[List.length_map,List.length_range] at hl
  refine⟨trivial,_,rfl,?_⟩
  show closes S.length (.ob (S.length+0)) _ _
  exact Xu (HK hc) bh rfl trivial (h hs c m (by omega) hg)
noncomputable abbrev sy:Stmt:=top 54
theorem jc:av ["_law_draw","_law_names_here","_law_step_here","_law_k","_law_condition_here"] ["_law_draw"] (aj sy):=fz
theorem G7 (F:c8 K "_law_chain" "_law_chain" sy f fd)(J:Fx K mg A)(aA:d8 P w K mg base k)(bx:Dn P w K mg base k "_law_condition" ["_law_draw","_law_things","_law_deep"] (bA K (zK 2)))(om:uH P w K mg base k):aU P w K mg base dG (k+1) f fd ["_law_draw"] (bA K EF):=by
 refine bM F jc fun cdv B outer s H E hr=>?_
 rw[show ao sy=[_,_,_,_] from rfl]
 refine⟨_,(qs (ay (i:=1) jc.nd (ai om hr rfl (qa (ah 0) (qa af aa)))) (qs (ay (i:=2) jc.nd (aO (qa aq (qa (ai bx hr rfl (qa (ah 0) (qa (ah 1) (qa af aa)))) aa)))) (qs (jD PassesOwn.never rfl (m5 rfl J.jK (qa af aa)) (qg (i:=3) jc.nd) (qs (ay (i:=4) jc.nd (ai bx hr rfl (qa (ah 0) (qa (ah 1) (qa af aa))))) (bO (bF (aI (fO 40 (uE hr)) (ai aA hr rfl (qa (ah 0) (qa af aa))) af (aJ _)) (bO (ay (i:=2) jc.nd (aO (qa aq (qa (ah 4) (qa (aO (qa (ah 2) aa)) (qa (aO aa) aa))))))) (bO (ay (i:=2) jc.nd (aO (qa aq (qa (ah 4) (qa (aO (qa (ah 4) aa)) (qa wL (qa (aO (qa (ah 2) aa)) aa)))))))))))) (bO (az (aO (qa (aM (ah 1) af) (qa (aO aa) (qa (aO aa) (qa (aO aa) (qa (aO aa) (qa (aO (qa (ah 2) aa)) aa)))))))))))),fun ds S kk hc hd h=>?_⟩
 obtain⟨d,rfl,dq,h⟩:=h
 refine⟨_,rfl,d,3,rfl,by decide,dq,fun ns c0 m0 hnl hnn hno=>?_⟩
 have Q2:∀ x∈ns,x.length<=100:=fun x hx=>by have:=(hno x hx).1;omega
 refine⟨_,rfl,_,rfl,d,_,ns,by decide,rfl,dq.bV,rfl,by omega,Q2,fun e c m he ge ze=>?_⟩
 rw[c5]
 have K2:∀ (e:cO),v5 e->e.dep<=2->e.sz<=Gw 2->C5 e:=fun e h1 h2 h3=>⟨h1,by omega,by have:Gw 2=9:=rfl;omega⟩
 refine⟨_,rfl,sz 2,(5:Int),rfl,by decide,by decide,?_⟩
 refine xg (fun i δ S'=>∃ y z c m s,δ=[some (D.ob d),some (D.t (B0 ns)),some (D.t (mQ s)),y,z]/\S'=bV S d c m/\fF s/\s.dp<=i+1/\(rws s).length<=3*i+1) ⟨_,_,_,_,.cm 0 e,by rw[LR];rfl,rfl,by unfold fF;exact K2 e he ge ze,by unfold eG.dp;decide,by unfold rws;show 1<=1;decide⟩ ?_ ?_
 ·rintro i z δ S' Nx hz ⟨y,z,c,m,s,rfl,rfl,hs,hd1,hr1⟩ hN
  refine⟨trivial,_,rfl,_,rfl,d,_,ns,by decide,rfl,dq.bV,rfl,by omega,Q2,fun e c m he ge ze=>?_⟩
  rw[c5]
  have ke:=K2 e he ge ze
  have hg1:nM [s]:=zY fun x hx=>by rw[List.mem_singleton.mp hx];exact hs
  have hg0:nM []:=zY fun x hx=>absurd hx List.not_mem_nil
  refine⟨_,rfl,d,2,rfl,dq.bV,by first | decide | omega,fun r cr mr hr=>?_⟩
  rw[c5]
  by_cases h0:r=0
  ·refine⟨rfl,true,iT,_,rfl,_,rfl,_,rfl,sz 1,_,rfl,sz 0,_,rfl,sz 4,?_⟩
   refine hN _ _ ⟨_,_,_,_,.ch 0 e [s] [],by rw[LS,iG,iG];rfl,rfl,by unfold fF;exact⟨ke,hg1,hg0,by simp,by simp⟩,?_,?_⟩
   ·simp[eG.dp,pG];omega
   ·simp[rws,aX];omega
  ·refine⟨rfl,false,iF,_,rfl,_,rfl,_,rfl,sz 1,_,rfl,_,rfl,sz 1,_,rfl,sz 5,?_⟩
   refine hN _ _ ⟨_,_,_,_,.rp 0 e [(0,e)] none [s],by rw[LP,iG];rfl,rfl,by unfold fF;exact⟨ke,by simp,fun p hp=>(by rw[List.mem_singleton.mp hp];exact ke),fun p hp=>(by cases hp),hg1,by simp⟩,?_,?_⟩
   ·simp[eG.dp,pG];omega
   ·simp[rws,aX,PC];omega
 ·rintro δ S' ⟨y,z,c,m,s,rfl,rfl,hs,hd1,hr1⟩
  rw[List.length_map,List.length_range] at hd1 hr1
  obtain⟨t,ht,et⟩:=lO (N:=ns) (r:=2) (by omega)
  refine⟨trivial,_,rfl,_,_,rfl,et,_,rfl,sz 0,_,rfl,sz 0,_,rfl,sz 0,_,rfl,sz 0,_,rfl,_,rfl,sz 1,_,rfl,sz 6,gk ?_⟩
  have h5:((5:Int).toNat)=5:=rfl
  rw[h5] at hd1 hr1
  have ht2:=hno t ht
  have:=h ⟨0,t,[],[],[],[],[s]⟩ c m ⟨⟨by show t.length<=100;have:=ht2.1;omega,⟨by simp,by simp,by simp,by simp,by simp⟩,fun x hx=>absurd hx List.not_mem_nil,fun x hx=>absurd hx List.not_mem_nil,fun x hx=>absurd hx List.not_mem_nil,fun x hx=>absurd hx List.not_mem_nil,zY fun x hx=>by rw[List.mem_singleton.mp hx];exact hs⟩,⟨by show t.length<=100;have:=ht2.1;omega,⟨by simp,by simp⟩,fun x hx=>absurd hx List.not_mem_nil⟩,by simp[pG];omega,by simp[bH,aX];omega⟩
  unfold mG at this
  rw[iG] at this
  exact this
noncomputable abbrev uu:Stmt:=top 65
theorem lJ:av ["_law_script","_law_texts","_law_programs","_law_tuples","_law_k","_law_draw","_law_helpers","_law_text_here","_law_told","_law_turn","_law_found"] ["_law_script"] (aj uu):=fz
theorem SV (F:c8 K "law" "law" uu f fd)(J:Fx K mg A)(MY:H9 P w K mg base k A)(K0:F1 P w K mg base k A)(uF:zB P w K mg base k)(yi:FZ P w K mg base k A)(xC:sZ P w K mg base k A)(HN:El P w K mg base k)(aA:d8 P w K mg base k)(FL:Cr P w K mg base k)(Cj:zA P w K mg base k):aU P w K mg base dG (k+1) f fd ["_law_script"] (bA K LY):=by
 refine bM F lJ fun cdv B outer s H E hr=>?_
 rw[show ao uu=[_,_,_,_,_,_,_] from rfl]
 refine⟨_,(qs (ay (i:=1) lJ.nd (jd aa)) (qs (ay (i:=2) lJ.nd (jd aa)) (qs (ay (i:=3) lJ.nd (jd aa)) (qs (jD PassesOwn.never rfl (m5 rfl J.jK (qa af aa)) (qg (i:=4) lJ.nd) (qs (ay (i:=5) lJ.nd (jd (qa (ai uF hr rfl (qa (ah 0) (qa (ah 4) aa))) (qa af aa)))) (qs (ay (i:=6) lJ.nd (ai Cj hr rfl (qa (ah 5) (qa af aa)))) (qs (bF (aI (fO 40 (uE hr)) (ai aA hr rfl (qa (ah 5) (qa af aa))) af (aJ _)) (bO (iD (iy (ah 6) (qa (ai FL hr rfl (qa (ah 5) aa)) aa)))) aY) (qs (x6 (ai HN hr rfl (qa (ah 6) aa)) (p6 (n:=2) rfl (yJ (qg (i:=7) lJ.nd) (yJ (qg (i:=8) lJ.nd) mE)))) (qs (iD (iy (ah 1) (qa (ah 7) aa))) (qs (iD (iy (ah 3) (qa (ah 8) aa))) (bO (iD (iy (ah 2) (qa (sW yi hr rfl (qa (bU (aH ["_law_one"] [] [] rfl (by decide +kernel) (by decide +kernel) (by with_unfolding_all rfl) (by exact trivial) (by rfl) rfl (by rfl)) rfl (qi (ah 8)) (fun _ _ _ _=>(qx (i:=0) (show List.Nodup (["_law_one"]:List Str) by decide +kernel))) (fun _ _ _ _=>bf) (fun _ _ _ _=>(ai xC hr rfl (qa (ah 0) aa)))) aa)) aa))))))))))) (qs (ay (i:=9) lJ.nd (aL uv (ai uF hr rfl (qa (ah 0) (qa af aa))) af)) (qs (jD PassesOwn.never rfl (qi (bW (qa (ah 9) (qa (aL wQ af (ah 9)) (qa (ah 9) aa))))) (qg (i:=4) lJ.nd) (qs (ay (i:=10) lJ.nd (ai K0 hr rfl (qa (aM (ah 2) (ah 4)) aa))) (bO (bF (qw (Ay (R9 (GP (cj (Rf (c:=.ty "str") trivial rfl) (by rfl) J.xD boot_isinstance (qa (ah 10) (qa (JL (O5 (v:=.ty "str") rfl J.Jz boot_str rfl)) aa))))) (Ay (aI (sX 40 (uE hr)) (ah 10) (aM (ah 1) (ah 4)) (aJ _)) (xZ (aI (sX 40 (uE hr)) (bg (aM (ah 2) (ah 4)) MY hr) (aM (ah 3) (ah 4)) (aJ _)))))) OE aY)))) (bO (az Y8)))))))),fun ds S kk hc hd h=>?_⟩
 obtain⟨l,rfl,rfl,h⟩:=h
 refine⟨_,rfl,sz 0,_,rfl,sz 0,_,rfl,sz 0,(2:Int),rfl,by decide,by decide,?_⟩
 refine xg (fun i δ S'=>∃ y4 y5 y6 y7 y8,∃ ps:List (List lI),δ=[some (D.t (T.Eu (l.map T.int))),some (D.ob 0),some (D.ob 1),some (D.ob 2),y4,y5,y6,y7,y8,none,none]/\S'[0]?=some (O.lst (ps.map fun h=>T.str (Bx h)))/\S'[1]?=some (O.lst (ps.map (GW A)))/\S'[2]?=some (O.lst (ps.map fun h=>T.tup (h.map yl)))/\ps.length=i/\3<=S'.length/\∀ h∈ps,NY h) ⟨_,_,_,_,_,[],rfl,rfl,rfl,rfl,rfl,by decide,fun _ h=>absurd h List.not_mem_nil⟩ ?_ ?_
 ·rintro i z δ S' Nx hz ⟨y4,y5,y6,y7,y8,ps,rfl,g0,g1,g2,hl,h3,hp⟩ hN
  have hi:i < 2:=by
   have:=(List.getElem?_eq_some_iff.mp hz).1
   simpa using this
  rw[List.getElem?_map,List.getElem?_range (show i < Int.toNat 2 from hi)] at hz
  cases hz
  refine⟨trivial,_,rfl,_,rfl,l,i,rfl,fun r=>⟨_,rfl,sz 2,?_⟩⟩
  have dq:Dq (S'++[O.lst [T.int r,T.int 0]]) S'.length:=⟨r,0,aB⟩
  have k0:(S'++[O.lst [T.int r,T.int 0]])[0]?=_:=qz g0
  have k1:(S'++[O.lst [T.int r,T.int 0]])[1]?=_:=qz g1
  have k2:(S'++[O.lst [T.int r,T.int 0]])[2]?=_:=qz g2
  have k3:3<=(S'++[O.lst [T.int r,T.int 0]]).length:=by rw[List.length_append];omega
  generalize S'++[O.lst [T.int r,T.int 0]]=S1 at dq k0 k1 k2 k3 ⊢
  generalize S'.length=d at dq h3 ⊢
  have hlt:=dq.lt
  have AP:∀ {a b c m:Int} {loc:bQ},bV (bV S1 d a b++loc) d c m=bV S1 d c m++loc:=fun {a b c m loc}=>by rw[qj (by rw[bh];exact hlt),c5]
  refine⟨_,rfl,d,rfl,dq,fun hs c m hsl hsw=>?_⟩
  dsimp only[Fp]
  show yG (yH _ _ _) _ _ [some (D.t (T.Eu (l.map T.int))),some (D.ob 0),some (D.ob 1),some (D.ob 2),some (D.int i),some (D.ob d),some (D.ob S1.length),y7,y8,none,none] _
  refine⟨_,rfl,d,4,rfl,dq.bV.up,by first | decide | omega,fun r1 KU J5 hr1=>?_⟩
  rw[AP]
  by_cases h0:r1=0
  ·refine⟨rfl,true,iT,?_⟩
   refine⟨_,rfl,⟨rfl,_,bX (l:=hs.map mG) (by rw[<- bh (S:=S1) (d:=d) (c:=KU) (m:=J5)];exact aB)⟩,_,rfl,d,rfl,dq.bV.up,fun x c2 m2 hx=>?_⟩
   rw[AP]
   refine⟨hs.map mG,by rw[<- bh (S:=S1) (d:=d) (c:=c2) (m:=m2)];exact aB,oA (by rw[List.length_map];omega),?_⟩
   have es:(bV S1 d c2 m2++[O.lst (hs.map mG)]).set S1.length (O.lst (hs.map mG++[mG x]))=bV S1 d c2 m2++[O.lst ((hs++[x]).map mG)]:=by
    rw[<- bh (S:=S1) (d:=d) (c:=c2) (m:=m2),gp,List.map_append];rfl
   rw[es]
   have pw:NY (hs++[x]):=NY.of (by rw[List.length_append];show _+1<=3;omega) fun y hy=>by
    rcases List.mem_append.mp hy with hy | hy
    ·exact(hsw y hy).up
    ·rw[List.mem_singleton.mp hy];exact hx
   refine⟨_,rfl,_,(hs++[x]),rfl,bX (by rw[<- bh (S:=S1) (d:=d) (c:=c2) (m:=m2)];exact aB),pw.g,pw.r,_,rfl,rfl,_,_,rfl,_,_,rfl,rfl,?_⟩
   have t0:(bV S1 d c2 m2++[O.lst ((hs++[x]).map mG)])[0]?=some (O.lst (ps.map fun h=>T.str (Bx h))):=qz (by rw[sQ (by omega)];exact k0)
   have t1:(bV S1 d c2 m2++[O.lst ((hs++[x]).map mG)])[1]?=some (O.lst (ps.map (GW A))):=qz (by rw[sQ (by omega)];exact k1)
   have t2:(bV S1 d c2 m2++[O.lst ((hs++[x]).map mG)])[2]?=some (O.lst (ps.map fun h=>T.tup (h.map yl))):=qz (by rw[sQ (by omega)];exact k2)
   have t3:3<=(bV S1 d c2 m2++[O.lst ((hs++[x]).map mG)]).length:=by rw[List.length_append,bh];omega
   generalize bV S1 d c2 m2++[O.lst ((hs++[x]).map mG)]=S2 at t0 t1 t2 t3 ⊢
   refine⟨_,rfl,⟨rfl,_,bX t0⟩,_,rfl,_,t0,oA (by rw[List.length_map];omega),?_⟩
   have RG:=t2
   rw[<- List.getElem?_set_ne (a:=O.lst ((ps.map fun h=>T.str (Bx h))++[T.str (Bx (hs++[x]))])) (l:=S2) (i:=0) (by decide)] at RG
   refine⟨_,rfl,⟨rfl,_,bX RG⟩,_,rfl,_,RG,oA (by rw[List.length_map];omega),?_⟩
   have t1':((S2.set 0 (O.lst ((ps.map fun h=>T.str (Bx h))++[T.str (Bx (hs++[x]))]))).set 2 (O.lst ((ps.map fun h=>T.tup (h.map yl))++[T.tup ((c7 0 (hs++[x])).map yl)])))[1]?=some (O.lst (ps.map (GW A))):=by
    rw[List.getElem?_set_ne (by decide),List.getElem?_set_ne (by decide)];exact t1
   refine⟨_,rfl,⟨rfl,_,bX t1'⟩,_,rfl,dI ?_⟩
   have pl:=pw.lay 0
   refine dg yl (Ll A) trivial (eX (by have:=pl.l;omega)) (fun x hx k' hk=>?_) ?_
   ·exact⟨_,rfl,x,rfl,(pl.g x hx).1,(pl.g x hx).2,_,rfl,hk⟩
   refine⟨_,_,c7 0 (hs++[x]),rfl,aB,rfl,made ⟨_,t1',oA (by rw[List.length_map];omega),?_⟩⟩
   obtain⟨u0,u1,u2,u3⟩:=IB (a:=O.lst ((ps.map fun h=>T.str (Bx h))++[T.str (Bx (hs++[x]))])) (b:=O.lst ((ps.map fun h=>T.tup (h.map yl))++[T.tup ((c7 0 (hs++[x])).map yl)])) (c:=O.lst (ps.map (GW A)++[GW A (c7 0 (hs++[x]))])) t3
   refine hN _ _ ⟨_,_,_,_,_,ps++[c7 0 (hs++[x])],rfl,u0.trans (by rw[List.map_append,List.map_singleton,I8]),u1.trans (by rw[List.map_append,List.map_singleton]),u2.trans (by rw[List.map_append,List.map_singleton]),by rw[List.length_append,hl];rfl,u3,fun x hx=>?_⟩
   rcases List.mem_append.mp hx with hx | hx
   ·exact hp x hx
   ·rw[List.mem_singleton.mp hx];exact pl
  ·refine⟨rfl,false,iF,?_⟩
   have pw:NY hs:=NY.of (by omega) fun y hy=>(hsw y hy).up
   refine⟨_,rfl,_,hs,rfl,bX (by rw[<- bh (S:=S1) (d:=d) (c:=KU) (m:=J5)];exact aB),pw.g,pw.r,_,rfl,rfl,_,_,rfl,_,_,rfl,rfl,?_⟩
   have t0:(bV S1 d KU J5++[O.lst (hs.map mG)])[0]?=some (O.lst (ps.map fun h=>T.str (Bx h))):=qz (by rw[sQ (by omega)];exact k0)
   have t1:(bV S1 d KU J5++[O.lst (hs.map mG)])[1]?=some (O.lst (ps.map (GW A))):=qz (by rw[sQ (by omega)];exact k1)
   have t2:(bV S1 d KU J5++[O.lst (hs.map mG)])[2]?=some (O.lst (ps.map fun h=>T.tup (h.map yl))):=qz (by rw[sQ (by omega)];exact k2)
   have t3:3<=(bV S1 d KU J5++[O.lst (hs.map mG)]).length:=by rw[List.length_append,bh];omega
   generalize bV S1 d KU J5++[O.lst (hs.map mG)]=S2 at t0 t1 t2 t3 ⊢
   refine⟨_,rfl,⟨rfl,_,bX t0⟩,_,rfl,_,t0,oA (by rw[List.length_map];omega),?_⟩
   have RG:=t2
   rw[<- List.getElem?_set_ne (a:=O.lst ((ps.map fun h=>T.str (Bx h))++[T.str (Bx hs)])) (l:=S2) (i:=0) (by decide)] at RG
   refine⟨_,rfl,⟨rfl,_,bX RG⟩,_,rfl,_,RG,oA (by rw[List.length_map];omega),?_⟩
   have t1':((S2.set 0 (O.lst ((ps.map fun h=>T.str (Bx h))++[T.str (Bx hs)]))).set 2 (O.lst ((ps.map fun h=>T.tup (h.map yl))++[T.tup ((c7 0 hs).map yl)])))[1]?=some (O.lst (ps.map (GW A))):=by
    rw[List.getElem?_set_ne (by decide),List.getElem?_set_ne (by decide)];exact t1
   refine⟨_,rfl,⟨rfl,_,bX t1'⟩,_,rfl,dI ?_⟩
   have pl:=pw.lay 0
   refine dg yl (Ll A) trivial (eX (by have:=pl.l;omega)) (fun x hx k' hk=>?_) ?_
   ·exact⟨_,rfl,x,rfl,(pl.g x hx).1,(pl.g x hx).2,_,rfl,hk⟩
   refine⟨_,_,c7 0 hs,rfl,aB,rfl,made ⟨_,t1',oA (by rw[List.length_map];omega),?_⟩⟩
   obtain⟨u0,u1,u2,u3⟩:=IB (a:=O.lst ((ps.map fun h=>T.str (Bx h))++[T.str (Bx hs)])) (b:=O.lst ((ps.map fun h=>T.tup (h.map yl))++[T.tup ((c7 0 hs).map yl)])) (c:=O.lst (ps.map (GW A)++[GW A (c7 0 hs)])) t3
   refine hN _ _ ⟨_,_,_,_,_,ps++[c7 0 hs],rfl,u0.trans (by rw[List.map_append,List.map_singleton,I8]),u1.trans (by rw[List.map_append,List.map_singleton]),u2.trans (by rw[List.map_append,List.map_singleton]),by rw[List.length_append,hl];rfl,u3,fun x hx=>?_⟩
   rcases List.mem_append.mp hx with hx | hx
   ·exact hp x hx
   ·rw[List.mem_singleton.mp hx];exact pl
 ·rintro δ S' ⟨y4,y5,y6,y7,y8,ps,rfl,g0,g1,g2,hl,h3,hp⟩
  rw[List.length_map,List.length_range] at hl
  have hl2:ps.length=2:=hl
  obtain⟨p,q,rfl⟩:∃ p q,ps=[p,q]:=by
   match ps,hl2 with
   | [p,q],_=>exact⟨p,q,rfl⟩
  refine⟨trivial,_,rfl,l,2,rfl,fun r=>⟨by show(0:Int) < 2;decide,?_⟩⟩
  have hr0:r % 2=0∨r % 2=1:=by omega
  refine⟨_,rfl,_,rfl,_,rfl,_,rfl,sz 3,qv ?_⟩
  refine uB T.int (l:=[r % 2,1 - r % 2,r % 2]) (fun pre δ NX=>∃ y4 Yx,δ=[some (D.t (T.Eu (l.map T.int))),some (D.ob 0),some (D.ob 1),some (D.ob 2),y4,y5,y6,y7,y8,some (D.int (r % 2)),Yx]/\NX=S') ⟨_,_,rfl,rfl⟩ ?_ ?_
  ·rintro pre x post δ NX Nx e ⟨y4,Yx,rfl,rfl⟩ hN
   have hx:x=0∨x=1:=by
    have:x∈[r % 2,1 - r % 2,r % 2]:=by rw[e];simp
    simp at this
    omega
   obtain⟨Q,hQ,e0,e1,e2⟩:∃ Q,NY Q/\qp ([p,q].map fun h=>T.str (Bx h)) x=some (T.str (Bx Q))/\qp ([p,q].map (GW A)) x=some (GW A Q)/\qp ([p,q].map fun h=>T.tup (h.map yl)) x=some (T.tup (Q.map yl)):=by
    rcases hx with rfl | rfl
    ·exact⟨p,hp p (by simp),rfl,rfl,rfl⟩
    ·exact⟨q,hp q (by simp),rfl,rfl,rfl⟩
   refine⟨trivial,_,rfl,_,rfl,_,_,kZ g1,e1,Q,rfl,hQ.g,hQ.r,?_⟩
   dsimp only[Fp]
   show yH _ _ _ _ _ _
   refine W2 false (fun k' hk=>G1 false false (fun k' hk=>⟨_,rfl,rfl,_,true,rfl,(by unfold PySem.W.kitOne;rw[if_pos (beq_self_eq_true _)]),true,rfl,hk⟩) (fun k' hk=>G1 false false (fun k' hk=>⟨_,rfl,_,rfl,_,rfl,_,_,kZ g0,e0,rfl,false,congrArg D.bl (by rw[decide_eq_true rfl];rfl),hk⟩) (fun k' hk=>⟨_,rfl,_,rfl,_,_,kZ g1,e1,0,_,_,by decide,rfl,by decide +kernel,Q,rfl,by have:=hQ.l;omega,hQ.g,_,rfl,_,rfl,_,_,kZ g2,e2,.inl ⟨rfl,Uc hQ.g,false,rfl,hk⟩⟩) hk) hk) (fun h=>by cases h) fun _=>hN _ _ ⟨_,_,rfl,rfl⟩
  ·rintro δ NX ⟨y4,Yx,rfl,rfl⟩
   exact⟨trivial,gk (h _)⟩
end
structure qG (K:PySem.W.Frag)(C:Addr):Prop where
 pg:PySem.W.plainGet K C Str.empty=true
 hd:PySem.W.hasDictIn K C=true
 po:PySem.W.plainOver K C=true
 sa:PySem.W.findIn K (.ref C) "__setattr__"=some (some (.builtin "object.__setattr__"))
 mi:PySem.W.makesIn K C=true
 kc:PySem.W.keepIn K (.ref C)=true
 ca:PySem.W.findIn K (.ref C) "__class__"=some (some (.builtin "object.__class__"))
 cm:PySem.W.mroIn K C (.type "object")=some true
theorem qG.ok {K:PySem.W.Frag}{C:Addr}(q:qG K C)(cg:PySem.W.specialIn K (.builtin "object.__class__") "__get__"=some (some (.builtin "getset_descriptor.__get__")))(ct:PySem.W.takesIn K (.builtin "object.__class__")=some true):iB K C []:=⟨⟨q.pg,q.hd,q.po,q.sa⟩,fun _ h=>absurd h List.not_mem_nil,q.ca,cg,ct,q.cm⟩
noncomputable def FnAt (K:PySem.W.Frag)(f:Addr)(x qual:Str)(st:Stmt):Prop:=∃ fd,c8 K x qual st f fd/\PySem.W.keepIn K (.ref f)=true
noncomputable def FnAt.fd {K:PySem.W.Frag}{f:Addr}{x qual:Str}{st:Stmt}(h:FnAt K f x qual st):FuncData:=Classical.choose h
theorem FnAt.F {K:PySem.W.Frag}{f:Addr}{x qual:Str}{st:Stmt}(h:FnAt K f x qual st):c8 K x qual st f h.fd:=(Classical.choose_spec h).1
theorem FnAt.k {K:PySem.W.Frag}{f:Addr}{x qual:Str}{st:Stmt}(h:FnAt K f x qual st):PySem.W.keepIn K (.ref f)=true:=(Classical.choose_spec h).2
section
variable {P:Program}{w:World}{K:PySem.W.Frag}{mg:Str->Option Value}{base:Heap}{k:Nat}{f:Addr}{fd:FuncData}{ps:List Str}{sp VB:fD}{A:Ad}
theorem T6 {s s':Sp}(h:∀ vs H Q E,s' vs H Q E->s vs H Q E)(F:aU P w K mg base dG k f fd ps s):aU P w K mg base dG k f fd ps s' :=
 ⟨fun vs H Q E q=>F.len vs H Q E (h vs H Q E q),fun A outer s H args us vs Q E hr he hb hv q=>F.run A outer s H args us vs Q E hr he hb hv (h _ _ _ _ q)⟩
theorem aE {s':Sp}(h:∀ vs H Q E,s' vs H Q E->bA K sp vs H Q E)(F:aU P w K mg base dG k f fd ps (bA K sp)):aU P w K mg base dG k f fd ps s':=T6 h F
theorem dN (h:∀ ds S k,¬ sp ds S k):aU P w K mg base dG k f fd ps (bA K sp) :=
 ⟨(by rintro vs H Q E ⟨_,S,ds,kk,_,_,q,_⟩;exact (h ds S kk q).elim),(by rintro A outer s H args us vs Q E hr he hb hv ⟨_,S,ds,kk,_,_,q,_⟩;exact (h ds S kk q).elim)⟩
theorem Hr (h:∀ ds S k,VB ds S k->sp ds S k):∀ vs H Q E,bA K VB vs H Q E->bA K sp vs H Q E:=(by rintro vs H Q E ⟨ρ,S,ds,kk,R,r,q,hk⟩;exact ⟨ρ,S,ds,kk,R,r,h ds S kk q,hk⟩)
theorem _root_.Hw.Dn.u {x:Str}{j:Nat}{s:Sp}(h:Dn P w K mg base j x ps s)(l:j<=k:=by decide):Dn P w K mg base k x ps s:=Dn.up h l
theorem Ms.u {n j:Nat}{m:Str}{cl:Nat->Addr}{s:Nat->fD}(h:Ms P w K mg base j n cl m ps s)(l:j<=k:=by decide):Ms P w K mg base k n cl m ps s:=Ms.up h l
theorem pH.u {x:Str}{C:Addr}{j:Nat}(h:pH P w K mg base j C x ps sp)(l:j<=k:=by decide):pH P w K mg base k C x ps sp:=pH.up h l
theorem dA {x y qual:Str}{st:Stmt}{s:Sp}(l:FnAt K f y qual st)(a:mg x=some (.ref f))(b:Binds K l.fd ps [])(o:aU P w K mg base dG k f l.fd ps s):Dn P w K mg base k x ps s:=⟨f,l.fd,o,a,l.k,b⟩
theorem Cm.up {x m:Str}{j:Nat}(h:Cm P w K mg base j x m ps sp)(l:j<=k):Cm P w K mg base k x m ps sp:=let ⟨C,f,fd,F,a⟩:=h.ok;⟨⟨C,f,fd,F.mono l,a⟩⟩
theorem Cm.u {x m:Str}{j:Nat}(h:Cm P w K mg base j x m ps sp)(l:j<=k:=by decide):Cm P w K mg base k x m ps sp:=Cm.up h l
theorem MU:∀ ds S k,¬ Oq ds S k:=fun _ _ _ h=>h
theorem wR (j:Nat):∀ ds S k,¬ gD A 0 j ds S k:=(by rintro _ _ _ ⟨_,_,_,h,_⟩;exact absurd h (Nat.not_lt_zero _))
theorem wU (j:Nat):∀ ds S k,¬ gE A 0 j ds S k:=(by rintro _ _ _ ⟨_,_,_,h,_⟩;exact absurd h (Nat.not_lt_zero _))
theorem wV {j:Nat}:∀ ds S k,¬ dw A 0 j ds S k:=(by rintro _ _ _ ⟨_,_,_,_,h,_⟩;exact absurd h (Nat.not_lt_zero _))
theorem SY:∀ ds S k,¬ wm 0 ds S k:=(by rintro _ _ _ ⟨_,_,h,_⟩;exact absurd h (Nat.not_lt_zero _))
theorem S6:∀ ds S k,¬ Ah A 0 ds S k:=(by rintro _ _ _ ⟨_,_,h,_⟩;exact absurd h (Nat.not_lt_zero _))
theorem SX:∀ ds S k,¬ zJ 0 ds S k:=(by rintro _ _ _ ⟨_,_,_,_,_,_,_,h,_⟩;exact absurd h (Nat.not_lt_zero _))
theorem q8 {j:Nat}:∀ ds S k,¬ fG A 0 j ds S k:=(by
 rintro ds S k ⟨x,y,_,tx,_⟩
 cases tx with
 | s s h d=>exact Nat.not_lt_zero _ d
 | h x h d=>exact Nat.not_lt_zero _ d
 | m s d=>exact Nat.not_lt_zero _ d)
theorem Ru {n j:Nat}{x y:T}(h:Tx A n x y j)(hj:j < 9):∃ s:eG,x=nO A s/\y=jZ s/\kd s=j/\fF s/\s.dp < n:=by
 cases h with
 | s s h d=>exact⟨s,rfl,rfl,rfl,h,d⟩
 | h x hx hq=>omega
 | m s d=>omega
theorem bw {n j:Nat}(hj:j < 9):∀ vs H Q E,bA K (fG A (n+1) j) vs H Q E->bA K (kr A n j) vs H Q E:=Hr (by
 rintro ds S k ⟨x,y,e,tx,h⟩
 obtain⟨s,rfl,rfl,h1,h2,h3⟩:=Ru tx hj
 exact⟨s,e,h1,h2,h3,h⟩)
theorem Of {n j:Nat}{x y:T}(h:Tx A n x y j)(hj:j=9):∃ a:lI,x=Ll A a/\y=yl a/\FY a/\pG a.steps+1 < n:=by
 cases h with
 | s s h d=>have:=Jd s;omega
 | h x hx hq=>exact⟨x,rfl,rfl,hx,hq⟩
 | m s d=>cases hj
theorem BF {n:Nat}:∀ vs H Q E,bA K (fG A (n+1) 9) vs H Q E->bA K (EG A n) vs H Q E:=Hr (by
 rintro ds S k ⟨x,y,e,tx,h⟩
 obtain⟨a,rfl,rfl,h1,h2⟩:=Of tx rfl
 exact⟨a,e,h1,h2,h⟩)
theorem LF {n j:Nat}{x y:T}(h:Tx A n x y j)(hj:j=10):∃ a:Sm,x=qH A a/\y=jl a:=by
 cases h with
 | s s h d=>have:=Jd s;omega
 | h x hx hq=>cases hj
 | m s d=>exact⟨s,rfl,rfl⟩
theorem BE {n:Nat}:∀ vs H Q E,bA K (fG A (n+1) 10) vs H Q E->bA K (zI A) vs H Q E:=Hr (by
 rintro ds S k ⟨x,y,e,tx,h⟩
 obtain⟨a,rfl,rfl⟩:=LF tx rfl
 exact⟨a,e,h⟩)
theorem cZ.ofInts {G:Hp}:∀ ns:List Int,cZ K G (ns.map T.int) (ns.map V.int)
 | []=>cZ.nil
 | a::r=>cZ.cons (by unfold Rp;rfl) (cZ.ofInts r)
theorem Ti:∀ vs H Q E,II K vs H Q E->bA K LY vs H Q E:=(by
 rintro vs H Q E ⟨a,ns,e,hs,_,h⟩
 refine⟨[],[],[.t (.Eu (ns.map T.int))],fun d _=>d=.bl true,⟨rfl,.nil,fun n a o h=>by cases h⟩,?_,⟨ns,rfl,rfl,fun _=>rfl⟩,fun v H' u=>?_⟩
 ·rw[e]
  refine .cons ?_ .nil
  show Rp _ _ _ _
  unfold Rp
  rw[Oz]
  exact⟨a,_,rfl,hs,cZ.ofInts ns⟩
 ·obtain⟨ρ',S',d,_,_,r,rfl⟩:=u
  rw[bE r]
  exact h H')
end
theorem kS4 {K:PySem.W.Frag}{A:Ad}(h0:PySem.W.kitOne K (.ref (yr A 0)) (.ref A.dJ)=some false)(h1:PySem.W.kitOne K (.ref (yr A 1)) (.ref A.dJ)=some false)(h2:PySem.W.kitOne K (.ref (yr A 2)) (.ref A.dJ)=some true)(h3:PySem.W.kitOne K (.ref (yr A 3)) (.ref A.dJ)=some true):∀ j,j < 4->PySem.W.kitOne K (.ref (yr A j)) (.ref A.dJ)=some (decide (2<=j)):=fun j hj=>by
 match j,hj with
 | 0,_=>exact h0
 | 1,_=>exact h1
 | 2,_=>exact h2
 | 3,_=>exact h3
end L3
namespace Hw
open PySem L2 PyProof.Rows
theorem v8 {us:List Value}{k:Nat}(h:us.length=k+1):∃ a r,us=a::r/\r.length=k:=by
 cases us with
 | nil=>exact absurd h (Nat.succ_ne_zero k).symm
 | cons a r=>exact⟨a,r,rfl,Nat.succ.inj h⟩
theorem Yw {A:FuncData}{B:List Str}(us:List Value)(hl:us.length=0)(k:bindArgs A ⟨[],[]⟩=pure (B.zip [])):bindArgs A ⟨us,[]⟩=pure (B.zip us):=by
 obtain rfl:=List.eq_nil_of_length_eq_zero hl
 exact k
theorem Yv {A:FuncData}{B:List Str}(us:List Value)(hl:us.length=1)(k:∀ a,bindArgs A ⟨[a],[]⟩=pure (B.zip [a])):bindArgs A ⟨us,[]⟩=pure (B.zip us):=by
 obtain⟨a,u1,rfl,h1⟩:=v8 hl
 obtain rfl:=List.eq_nil_of_length_eq_zero h1
 exact k a
theorem Yu {A:FuncData}{B:List Str}(us:List Value)(hl:us.length=2)(k:∀ a b,bindArgs A ⟨[a,b],[]⟩=pure (B.zip [a,b])):bindArgs A ⟨us,[]⟩=pure (B.zip us):=by
 obtain⟨a,u1,rfl,h1⟩:=v8 hl
 obtain⟨b,u2,rfl,h2⟩:=v8 h1
 obtain rfl:=List.eq_nil_of_length_eq_zero h2
 exact k a b
theorem Yt {A:FuncData}{B:List Str}(us:List Value)(hl:us.length=3)(k:∀ a b c,bindArgs A ⟨[a,b,c],[]⟩=pure (B.zip [a,b,c])):bindArgs A ⟨us,[]⟩=pure (B.zip us):=by
 obtain⟨a,u1,rfl,h1⟩:=v8 hl
 obtain⟨b,u2,rfl,h2⟩:=v8 h1
 obtain⟨c,u3,rfl,h3⟩:=v8 h2
 obtain rfl:=List.eq_nil_of_length_eq_zero h3
 exact k a b c
theorem Ys {A:FuncData}{B:List Str}(us:List Value)(hl:us.length=4)(k:∀ a b c d,bindArgs A ⟨[a,b,c,d],[]⟩=pure (B.zip [a,b,c,d])):bindArgs A ⟨us,[]⟩=pure (B.zip us):=by
 obtain⟨a,u1,rfl,h1⟩:=v8 hl
 obtain⟨b,u2,rfl,h2⟩:=v8 h1
 obtain⟨c,u3,rfl,h3⟩:=v8 h2
 obtain⟨d,u4,rfl,h4⟩:=v8 h3
 obtain rfl:=List.eq_nil_of_length_eq_zero h4
 exact k a b c d
theorem Yr {A:FuncData}{B:List Str}(us:List Value)(hl:us.length=5)(k:∀ a b c d e,bindArgs A ⟨[a,b,c,d,e],[]⟩=pure (B.zip [a,b,c,d,e])):bindArgs A ⟨us,[]⟩=pure (B.zip us):=by
 obtain⟨a,u1,rfl,h1⟩:=v8 hl
 obtain⟨b,u2,rfl,h2⟩:=v8 h1
 obtain⟨c,u3,rfl,h3⟩:=v8 h2
 obtain⟨d,u4,rfl,h4⟩:=v8 h3
 obtain⟨e,u5,rfl,h5⟩:=v8 h4
 obtain rfl:=List.eq_nil_of_length_eq_zero h5
 exact k a b c d e
theorem Yq {A:FuncData}{B:List Str}(us:List Value)(hl:us.length=6)(k:∀ a b c d e f,bindArgs A ⟨[a,b,c,d,e,f],[]⟩=pure (B.zip [a,b,c,d,e,f])):bindArgs A ⟨us,[]⟩=pure (B.zip us):=by
 obtain⟨a,u1,rfl,h1⟩:=v8 hl
 obtain⟨b,u2,rfl,h2⟩:=v8 h1
 obtain⟨c,u3,rfl,h3⟩:=v8 h2
 obtain⟨d,u4,rfl,h4⟩:=v8 h3
 obtain⟨e,u5,rfl,h5⟩:=v8 h4
 obtain⟨f,u6,rfl,h6⟩:=v8 h5
 obtain rfl:=List.eq_nil_of_length_eq_zero h6
 exact k a b c d e f
theorem Yp {A:FuncData}{B:List Str}(us:List Value)(hl:us.length=8)(k:∀ a b c d e f g h,bindArgs A ⟨[a,b,c,d,e,f,g,h],[]⟩=pure (B.zip [a,b,c,d,e,f,g,h])):bindArgs A ⟨us,[]⟩=pure (B.zip us):=by
 obtain⟨a,u1,rfl,h1⟩:=v8 hl
 obtain⟨b,u2,rfl,h2⟩:=v8 h1
 obtain⟨c,u3,rfl,h3⟩:=v8 h2
 obtain⟨d,u4,rfl,h4⟩:=v8 h3
 obtain⟨e,u5,rfl,h5⟩:=v8 h4
 obtain⟨f,u6,rfl,h6⟩:=v8 h5
 obtain⟨g,u7,rfl,h7⟩:=v8 h6
 obtain⟨h,u8,rfl,h8⟩:=v8 h7
 obtain rfl:=List.eq_nil_of_length_eq_zero h8
 exact k a b c d e f g h
theorem _root_.L2.c8.b1 {K:PySem.W.Frag}{x qual:Str}{st:Stmt}{f:Addr}{fd:FuncData}{ps:List Str}(F:c8 K x qual st f fd)(h:∀ (kV doc pm:Value) (an:Option Addr) (cdv ct a:Value),bindArgs (PySem.W.fnOf x qual (fK st) (ao st) (aj st) .none kV doc pm an cdv ct) ⟨[a],[]⟩=pure (ps.zip [a]):=by intros;rfl)(hl:ps.length=1:=by rfl):Binds K fd ps []:=F.binds fun kV doc pm an cdv ct us e=>Yv us (e.trans hl) (h kV doc pm an cdv ct)
theorem _root_.L2.c8.b2 {K:PySem.W.Frag}{x qual:Str}{st:Stmt}{f:Addr}{fd:FuncData}{ps:List Str}(F:c8 K x qual st f fd)(h:∀ (kV doc pm:Value) (an:Option Addr) (cdv ct a b:Value),bindArgs (PySem.W.fnOf x qual (fK st) (ao st) (aj st) .none kV doc pm an cdv ct) ⟨[a,b],[]⟩=pure (ps.zip [a,b]):=by intros;rfl)(hl:ps.length=2:=by rfl):Binds K fd ps []:=F.binds fun kV doc pm an cdv ct us e=>Yu us (e.trans hl) (h kV doc pm an cdv ct)
theorem _root_.L2.c8.b3 {K:PySem.W.Frag}{x qual:Str}{st:Stmt}{f:Addr}{fd:FuncData}{ps:List Str}(F:c8 K x qual st f fd)(h:∀ (kV doc pm:Value) (an:Option Addr) (cdv ct a b c:Value),bindArgs (PySem.W.fnOf x qual (fK st) (ao st) (aj st) .none kV doc pm an cdv ct) ⟨[a,b,c],[]⟩=pure (ps.zip [a,b,c]):=by intros;rfl)(hl:ps.length=3:=by rfl):Binds K fd ps []:=F.binds fun kV doc pm an cdv ct us e=>Yt us (e.trans hl) (h kV doc pm an cdv ct)
theorem _root_.L2.c8.b4 {K:PySem.W.Frag}{x qual:Str}{st:Stmt}{f:Addr}{fd:FuncData}{ps:List Str}(F:c8 K x qual st f fd)(h:∀ (kV doc pm:Value) (an:Option Addr) (cdv ct a b c d:Value),bindArgs (PySem.W.fnOf x qual (fK st) (ao st) (aj st) .none kV doc pm an cdv ct) ⟨[a,b,c,d],[]⟩=pure (ps.zip [a,b,c,d]):=by intros;rfl)(hl:ps.length=4:=by rfl):Binds K fd ps []:=F.binds fun kV doc pm an cdv ct us e=>Ys us (e.trans hl) (h kV doc pm an cdv ct)
theorem _root_.L2.c8.b5 {K:PySem.W.Frag}{x qual:Str}{st:Stmt}{f:Addr}{fd:FuncData}{ps:List Str}(F:c8 K x qual st f fd)(h:∀ (kV doc pm:Value) (an:Option Addr) (cdv ct a b c d e:Value),bindArgs (PySem.W.fnOf x qual (fK st) (ao st) (aj st) .none kV doc pm an cdv ct) ⟨[a,b,c,d,e],[]⟩=pure (ps.zip [a,b,c,d,e]):=by intros;rfl)(hl:ps.length=5:=by rfl):Binds K fd ps []:=F.binds fun kV doc pm an cdv ct us e=>Yr us (e.trans hl) (h kV doc pm an cdv ct)
theorem _root_.L2.c8.b6 {K:PySem.W.Frag}{x qual:Str}{st:Stmt}{f:Addr}{fd:FuncData}{ps:List Str}(F:c8 K x qual st f fd)(h:∀ (kV doc pm:Value) (an:Option Addr) (cdv ct a b c d e f:Value),bindArgs (PySem.W.fnOf x qual (fK st) (ao st) (aj st) .none kV doc pm an cdv ct) ⟨[a,b,c,d,e,f],[]⟩=pure (ps.zip [a,b,c,d,e,f]):=by intros;rfl)(hl:ps.length=6:=by rfl):Binds K fd ps []:=F.binds fun kV doc pm an cdv ct us e=>Yq us (e.trans hl) (h kV doc pm an cdv ct)
theorem _root_.L2.c8.b8 {K:PySem.W.Frag}{x qual:Str}{st:Stmt}{f:Addr}{fd:FuncData}{ps:List Str}(F:c8 K x qual st f fd)(h:∀ (kV doc pm:Value) (an:Option Addr) (cdv ct a b c d e f g h:Value),bindArgs (PySem.W.fnOf x qual (fK st) (ao st) (aj st) .none kV doc pm an cdv ct) ⟨[a,b,c,d,e,f,g,h],[]⟩=pure (ps.zip [a,b,c,d,e,f,g,h]):=by intros;rfl)(hl:ps.length=8:=by rfl):Binds K fd ps []:=F.binds fun kV doc pm an cdv ct us e=>Yp us (e.trans hl) (h kV doc pm an cdv ct)
theorem Pu {K:PySem.W.Frag}{x qual:Str}{st:Stmt}{f:Addr}{oc:Value}{od an:Option Addr}{osl:Array (Option Value)}{kV doc pm cdv ct:Value}{A:Arguments}{B:List Stmt}{S:Scope}(l:K.lookup f=some ⟨oc,od,.func (PySem.W.fnOf x qual A B S .none kV doc pm an cdv ct),osl⟩)(e:(A,B,S)=(fK st,ao st,aj st))(c:PySem.W.codeIn K cdv qual=true)(k:PySem.W.keepIn K (.ref f)=true):c8 K x qual st f (PySem.W.fnOf x qual (fK st) (ao st) (aj st) .none kV doc pm an cdv ct):=by
 obtain⟨e1,e2⟩:=Prod.mk.inj e
 obtain⟨e2,e3⟩:=Prod.mk.inj e2
 rw[e1,e2,e3] at l
 exact T3 l c k
theorem Xh {K:PySem.W.Frag}{x qual:Str}{st:Stmt}{f:Addr}{oc:Value}{od an:Option Addr}{osl:Array (Option Value)}{kV doc pm cdv ct:Value}{A:Arguments}{B:List Stmt}{S:Scope}(l:K.lookup f=some ⟨oc,od,.func (PySem.W.fnOf x qual A B S .none kV doc pm an cdv ct),osl⟩)(e:(A,B,S)=(fK st,ao st,aj st))(c:PySem.W.codeIn K cdv qual=true)(k:PySem.W.keepIn K (.ref f)=true):L3.FnAt K f x qual st:=⟨_,Pu l e c k,k⟩
theorem _root_.L2.c8.b0 {K:PySem.W.Frag}{x qual:Str}{st:Stmt}{f:Addr}{fd:FuncData}{ps:List Str}(F:c8 K x qual st f fd)(h:∀ (kV doc pm:Value) (an:Option Addr) (cdv ct:Value),bindArgs (PySem.W.fnOf x qual (fK st) (ao st) (aj st) .none kV doc pm an cdv ct) ⟨[],[]⟩=pure (ps.zip []):=by intros;rfl)(hl:ps.length=0:=by rfl):Binds K fd ps []:=F.binds fun kV doc pm an cdv ct us e=>Yw us (e.trans hl) (h kV doc pm an cdv ct)
open PySem.W (findIn keepIn fnOf codeIn kitOne nsIn mg_of isFn plainGet hasDictIn plainOver makesIn mg_none_of mroIn)
theorem all_mk {l:PySem.W.OpenLaw}{w:World}{K:PySem.W.Frag}{h:Heap}{mg:Str->Option Value}{fa mJ bS dO dJ fY jJ nL cu d7 mK iA fS gW cY cH bN dM Sp f1 f2 f3 f4 f5 f6 f7 f8 f9 f10 f11 f12 Yi f14 f15 f16 f17 f18 f19 f20 f21 f22 f23 f24 f25 f26 f27 f28 f29 f30 f31 f32 f33 f34 f35 f36 f37 f38 f39 f40 f41 f42 f43 f44 f45 f46 f47 f48 f49 f50 f51 f52 f53 f54 f55 f56 f57 f58 f59 f60 f61 f62 f63 f64 f65 f66 f67 f68 f69 f70 f71 f72 f73 f74 f75 f76 f77 f78 f79 f80 f81 f82 f83 f84 f85 f86 f87:Addr}(X:K.In h)(G:h.Ns mainGlobals mg)(hfa:mg "law"=some (.ref fa))
  {Zc XA:Option Addr} {YU:Array (Option Value)} {Zd WS Xq VR Uu Xr:Value} {A87:Arguments} {B87:List Stmt} {S87:Scope}
  (Fq:nsIn K mainGlobals "Sum"=some (some (.ref mJ)))
  (EV:L3.qG K mJ)
  (k8:findIn K (.ref mJ) "terms"=some none)
  (jE:findIn K (.ref mJ) "number"=some none)
  (o4:nsIn K mainGlobals "Compare"=some (some (.ref bS)))
  (oQ:L3.qG K bS)
  (iM:findIn K (.ref bS) "one"=some none)
  (gS:findIn K (.ref bS) "sign"=some none)
  (gw:findIn K (.ref bS) "other"=some none)
  (rB:nsIn K mainGlobals "Turned"=some (some (.ref dO)))
  (qS:L3.qG K dO)
  (eS:findIn K (.ref dO) "condition"=some none)
  (oY:nsIn K mainGlobals "Several"=some (some (.ref dJ)))
  (w6:nsIn K mainGlobals "Every"=some (some (.ref fY)))
  (wN:L3.qG K fY)
  (eU:findIn K (.ref fY) "conditions"=some none)
  (A2:nsIn K mainGlobals "Some"=some (some (.ref jJ)))
  (Az:L3.qG K jJ)
  (fm:findIn K (.ref jJ) "conditions"=some none)
  (Fv:nsIn K mainGlobals "Let"=some (some (.ref nL)))
  (EX:L3.qG K nL)
  (rj:findIn K (.ref nL) "at"=some none)
  (ni:findIn K (.ref nL) "name"=some none)
  (lA:findIn K (.ref nL) "total"=some none)
  (rE:nsIn K mainGlobals "Divide"=some (some (.ref cu)))
  (qW:L3.qG K cu)
  (lE:findIn K (.ref cu) "at"=some none)
  (iL:findIn K (.ref cu) "name"=some none)
  (iK:findIn K (.ref cu) "word"=some none)
  (gR:findIn K (.ref cu) "total"=some none)
  (lD:findIn K (.ref cu) "by"=some none)
  (w5:nsIn K mainGlobals "Fetch"=some (some (.ref d7)))
  (wM:L3.qG K d7)
  (nj:findIn K (.ref d7) "at"=some none)
  (jF:findIn K (.ref d7) "name"=some none)
  (lC:findIn K (.ref d7) "row"=some none)
  (iJ:findIn K (.ref d7) "place"=some none)
  (Ft:nsIn K mainGlobals "Put"=some (some (.ref mK)))
  (EW:L3.qG K mK)
  (q9:findIn K (.ref mK) "at"=some none)
  (oS:findIn K (.ref mK) "row"=some none)
  (lu:findIn K (.ref mK) "place"=some none)
  (lg:findIn K (.ref mK) "total"=some none)
  (A3:nsIn K mainGlobals "Make"=some (some (.ref iA)))
  (AA:L3.qG K iA)
  (oU:findIn K (.ref iA) "at"=some none)
  (nh:findIn K (.ref iA) "row"=some none)
  (ly:findIn K (.ref iA) "size"=some none)
  (w9:nsIn K mainGlobals "Claim"=some (some (.ref fS)))
  (wO:L3.qG K fS)
  (nk:findIn K (.ref fS) "at"=some none)
  (fu:findIn K (.ref fS) "condition"=some none)
  (A4:nsIn K mainGlobals "Call"=some (some (.ref gW)))
  (AB:L3.qG K gW)
  (oV:findIn K (.ref gW) "at"=some none)
  (jG:findIn K (.ref gW) "names"=some none)
  (iO:findIn K (.ref gW) "helper"=some none)
  (jH:findIn K (.ref gW) "given"=some none)
  (rF:nsIn K mainGlobals "Choose"=some (some (.ref cY)))
  (qX:L3.qG K cY)
  (lF:findIn K (.ref cY) "at"=some none)
  (eV:findIn K (.ref cY) "condition"=some none)
  (iN:findIn K (.ref cY) "then"=some none)
  (gT:findIn K (.ref cY) "other"=some none)
  (rC:nsIn K mainGlobals "Repeat"=some (some (.ref cH)))
  (qU:L3.qG K cH)
  (k9:findIn K (.ref cH) "at"=some none)
  (eT:findIn K (.ref cH) "condition"=some none)
  (gK:findIn K (.ref cH) "keeps"=some none)
  (gM:findIn K (.ref cH) "falls"=some none)
  (iH:findIn K (.ref cH) "body"=some none)
  (rD:nsIn K mainGlobals "Helper"=some (some (.ref bN)))
  (qV:L3.qG K bN)
  (lB:findIn K (.ref bN) "at"=some none)
  (iI:findIn K (.ref bN) "name"=some none)
  (gu:findIn K (.ref bN) "params"=some none)
  (fP:findIn K (.ref bN) "answers"=some none)
  (gP:findIn K (.ref bN) "needs"=some none)
  (gQ:findIn K (.ref bN) "gives"=some none)
  (gO:findIn K (.ref bN) "steps"=some none)
  (oZ:nsIn K mainGlobals "Program"=some (some (.ref dM)))
  (oO:L3.qG K dM)
  (fq:findIn K (.ref dM) "helpers"=some none)
  (HA:nsIn K mainGlobals "Step"=some (some (.ref Sp)))
  (Ro:PySem.W.findCls K (.ref Sp) (.type "type") "__init__"=some (.val (.ref f12)))
  (qC:PySem.W.specialIn K (.builtin "object.__class__") "__get__"=some (some (.builtin "getset_descriptor.__get__")))
  (qB:PySem.W.takesIn K (.builtin "object.__class__")=some true)
  (Rn:PySem.W.specialIn K (.ref Sp) "__getattribute__"=some (some (.builtin "type.__getattribute__")))
  (Rm:PySem.W.readsIn K Sp (.type "type")=true)
  (HV:findIn K (.ref mJ) "__init__"=some (some (.ref f1)))
  (i1:isFn K (.ref f1)=true)
  (l1:L3.FnAt K f1 "__init__" "Sum.__init__" L3.pQ)
  (a2:nsIn K mainGlobals "sum_of"=some (some (.ref f2)))
  (l2:L3.FnAt K f2 "sum_of" "sum_of" L3.wB)
  (jL:findIn K (.ref mJ) "told"=some (some (.ref f3)))
  (i3:isFn K (.ref f3)=true)
  (l3:L3.FnAt K f3 "told" "Sum.told" L3.pO)
  (vh:findIn K (.ref bS) "__init__"=some (some (.ref f4)))
  (i4:isFn K (.ref f4)=true)
  (l4:L3.FnAt K f4 "__init__" "Compare.__init__" L3.jC)
  (yv:findIn K (.ref dO) "__init__"=some (some (.ref f5)))
  (i5:isFn K (.ref f5)=true)
  (l5:L3.FnAt K f5 "__init__" "Turned.__init__" L3.kH)
  (HU:findIn K (.ref nL) "__init__"=some (some (.ref f6)))
  (i6:isFn K (.ref f6)=true)
  (l6:L3.FnAt K f6 "__init__" "Let.__init__" L3.pX)
  (yu:findIn K (.ref cu) "__init__"=some (some (.ref f7)))
  (i7:isFn K (.ref f7)=true)
  (l7:L3.FnAt K f7 "__init__" "Divide.__init__" L3.kQ)
  (Bh:findIn K (.ref d7) "__init__"=some (some (.ref f8)))
  (i8:isFn K (.ref f8)=true)
  (l8:L3.FnAt K f8 "__init__" "Fetch.__init__" L3.mh)
  (HS:findIn K (.ref mK) "__init__"=some (some (.ref f9)))
  (i9:isFn K (.ref f9)=true)
  (l9:L3.FnAt K f9 "__init__" "Put.__init__" L3.pU)
  (Bm:findIn K (.ref iA) "__init__"=some (some (.ref f10)))
  (ZW:isFn K (.ref f10)=true)
  (X5:L3.FnAt K f10 "__init__" "Make.__init__" L3.nZ)
  (yx:findIn K (.ref fS) "__init__"=some (some (.ref f11)))
  (ZV:isFn K (.ref f11)=true)
  (X4:L3.FnAt K f11 "__init__" "Claim.__init__" L3.mD)
  (WQ:L3.FnAt K f12 "__init__" "Step.__init__" L3.nU)
  (yw:findIn K (.ref fY) "__init__"=some (some (.ref Yi)))
  (Bl:findIn K (.ref jJ) "__init__"=some (some (.ref Yi)))
  (X7:isFn K (.ref Yi)=true)
  (UI:L3.FnAt K Yi "__init__" "Several.__init__" L3.jx)
  (Bj:findIn K (.ref gW) "__init__"=some (some (.ref f14)))
  (ZU:isFn K (.ref f14)=true)
  (X3:L3.FnAt K f14 "__init__" "Call.__init__" L3.n8)
  (vn:findIn K (.ref cY) "__init__"=some (some (.ref f15)))
  (ZT:isFn K (.ref f15)=true)
  (X0:L3.FnAt K f15 "__init__" "Choose.__init__" L3.kU)
  (vm:findIn K (.ref cH) "__init__"=some (some (.ref f16)))
  (ZS:isFn K (.ref f16)=true)
  (XZ:L3.FnAt K f16 "__init__" "Repeat.__init__" L3.kK)
  (vj:findIn K (.ref bN) "__init__"=some (some (.ref f17)))
  (ZR:isFn K (.ref f17)=true)
  (XY:L3.FnAt K f17 "__init__" "Helper.__init__" L3.kN)
  (rP:findIn K (.ref dM) "__init__"=some (some (.ref f18)))
  (ZQ:isFn K (.ref f18)=true)
  (XX:L3.FnAt K f18 "__init__" "Program.__init__" L3.jz)
  (a19:nsIn K mainGlobals "as_pairs"=some (some (.ref f19)))
  (WO:L3.FnAt K f19 "as_pairs" "as_pairs" L3.pM)
  (a20:nsIn K mainGlobals "told_pairs"=some (some (.ref f20)))
  (WN:L3.FnAt K f20 "told_pairs" "told_pairs" L3.lU)
  (K6:nsIn K mainGlobals "told_each"=some (some (.ref f21)))
  (rq:L3.FnAt K f21 "told_each" "told_each" L3.nP)
  (jj:findIn K (.ref bS) "told"=some (some (.ref f22)))
  (UQ:isFn K (.ref f22)=true)
  (Km:L3.FnAt K f22 "told" "Compare.told" L3.jA)
  (kj:findIn K (.ref dO) "told"=some (some (.ref f23)))
  (UP:isFn K (.ref f23)=true)
  (Kl:L3.FnAt K f23 "told" "Turned.told" L3.kF)
  (mS:findIn K (.ref fY) "told"=some (some (.ref f24)))
  (UO:isFn K (.ref f24)=true)
  (Kh:L3.FnAt K f24 "told" "Every.told" L3.mj)
  (o7:findIn K (.ref jJ) "told"=some (some (.ref f25)))
  (UN:isFn K (.ref f25)=true)
  (Kg:L3.FnAt K f25 "told" "Some.told" L3.nV)
  (ic:findIn K (.ref nL) "told"=some (some (.ref f26)))
  (KN:isFn K (.ref f26)=true)
  (sO:L3.FnAt K f26 "told" "Let.told" L3.pV)
  (dm:findIn K (.ref cu) "told"=some (some (.ref f27)))
  (KL:isFn K (.ref f27)=true)
  (sN:L3.FnAt K f27 "told" "Divide.told" L3.kO)
  (eO:findIn K (.ref d7) "told"=some (some (.ref f28)))
  (KJ:isFn K (.ref f28)=true)
  (sM:L3.FnAt K f28 "told" "Fetch.told" L3.lY)
  (ia:findIn K (.ref mK) "told"=some (some (.ref f29)))
  (KI:isFn K (.ref f29)=true)
  (sL:L3.FnAt K f29 "told" "Put.told" L3.pR)
  (fU:findIn K (.ref iA) "told"=some (some (.ref f30)))
  (KH:isFn K (.ref f30)=true)
  (sJ:L3.FnAt K f30 "told" "Make.told" L3.nX)
  (eN:findIn K (.ref fS) "told"=some (some (.ref f31)))
  (KG:isFn K (.ref f31)=true)
  (sI:L3.FnAt K f31 "told" "Claim.told" L3.mz)
  (fT:findIn K (.ref gW) "told"=some (some (.ref f32)))
  (KC:isFn K (.ref f32)=true)
  (sH:L3.FnAt K f32 "told" "Call.told" L3.n5)
  (dj:findIn K (.ref cY) "told"=some (some (.ref f33)))
  (KA:isFn K (.ref f33)=true)
  (sG:L3.FnAt K f33 "told" "Choose.told" L3.kR)
  (di:findIn K (.ref cH) "told"=some (some (.ref f34)))
  (Kz:isFn K (.ref f34)=true)
  (sF:L3.FnAt K f34 "told" "Repeat.told" L3.kI)
  (dh:findIn K (.ref bN) "told"=some (some (.ref f35)))
  (Ky:isFn K (.ref f35)=true)
  (sE:L3.FnAt K f35 "told" "Helper.told" L3.kL)
  (rO:findIn K (.ref dM) "told"=some (some (.ref f36)))
  (ZP:isFn K (.ref f36)=true)
  (WM:L3.FnAt K f36 "told" "Program.told" L3.jy)
  (a37:nsIn K mainGlobals "term_text"=some (some (.ref f37)))
  (WL:L3.FnAt K f37 "term_text" "term_text" L3.nQ)
  (a38:nsIn K mainGlobals "sign_ahead"=some (some (.ref f38)))
  (WK:L3.FnAt K f38 "sign_ahead" "sign_ahead" L3.lV)
  (a39:nsIn K mainGlobals "sign_between"=some (some (.ref f39)))
  (WJ:L3.FnAt K f39 "sign_between" "sign_between" L3.jt)
  (Eh:findIn K (.ref mJ) "text"=some (some (.ref f40)))
  (ZO:isFn K (.ref f40)=true)
  (WI:L3.FnAt K f40 "text" "Sum.text" L3.pP)
  (ji:findIn K (.ref bS) "text"=some (some (.ref f41)))
  (UM:isFn K (.ref f41)=true)
  (Kf:L3.FnAt K f41 "text" "Compare.text" L3.jB)
  (ki:findIn K (.ref dO) "text"=some (some (.ref f42)))
  (UL:isFn K (.ref f42)=true)
  (Ke:L3.FnAt K f42 "text" "Turned.text" L3.kG)
  (mR:findIn K (.ref fY) "text"=some (some (.ref f43)))
  (UK:isFn K (.ref f43)=true)
  (Kd:L3.FnAt K f43 "text" "Every.text" L3.mw)
  (o6:findIn K (.ref jJ) "text"=some (some (.ref f44)))
  (UJ:isFn K (.ref f44)=true)
  (Kc:L3.FnAt K f44 "text" "Some.text" L3.nW)
  (XG:nsIn K mainGlobals "text_within"=some (some (.ref f45)))
  (M8:L3.FnAt K f45 "text_within" "text_within" L3.kB)
  (i0:findIn K (.ref nL) "as_rows"=some (some (.ref f46)))
  (Lk:isFn K (.ref f46)=true)
  (ve:L3.FnAt K f46 "as_rows" "Let.as_rows" L3.pW)
  (dU:findIn K (.ref cu) "as_rows"=some (some (.ref f47)))
  (Lj:isFn K (.ref f47)=true)
  (vd:L3.FnAt K f47 "as_rows" "Divide.as_rows" L3.kP)
  (ff:findIn K (.ref d7) "as_rows"=some (some (.ref f48)))
  (Li:isFn K (.ref f48)=true)
  (vc:L3.FnAt K f48 "as_rows" "Fetch.as_rows" L3.lZ)
  (iZ:findIn K (.ref mK) "as_rows"=some (some (.ref f49)))
  (Lh:isFn K (.ref f49)=true)
  (u9:L3.FnAt K f49 "as_rows" "Put.as_rows" L3.pS)
  (gB:findIn K (.ref iA) "as_rows"=some (some (.ref f50)))
  (Lg:isFn K (.ref f50)=true)
  (uZ:L3.FnAt K f50 "as_rows" "Make.as_rows" L3.nY)
  (fc:findIn K (.ref fS) "as_rows"=some (some (.ref f51)))
  (Lf:isFn K (.ref f51)=true)
  (uY:L3.FnAt K f51 "as_rows" "Claim.as_rows" L3.mC)
  (dS:findIn K (.ref cY) "as_rows"=some (some (.ref f52)))
  (Ld:isFn K (.ref f52)=true)
  (uX:L3.FnAt K f52 "as_rows" "Choose.as_rows" L3.kT)
  (dR:findIn K (.ref cH) "as_rows"=some (some (.ref f53)))
  (Lc:isFn K (.ref f53)=true)
  (uW:L3.FnAt K f53 "as_rows" "Repeat.as_rows" L3.kJ)
  (Ls:nsIn K mainGlobals "rows_of_steps"=some (some (.ref f54)))
  (uy:L3.FnAt K f54 "rows_of_steps" "rows_of_steps" L3.iV)
  (a55:nsIn K mainGlobals "rows_of_pairs"=some (some (.ref f55)))
  (WH:L3.FnAt K f55 "rows_of_pairs" "rows_of_pairs" L3.iW)
  (gA:findIn K (.ref gW) "as_rows"=some (some (.ref f56)))
  (Lb:isFn K (.ref f56)=true)
  (uV:L3.FnAt K f56 "as_rows" "Call.as_rows" L3.n6)
  (vg:findIn K (.ref bN) "as_rows"=some (some (.ref f57)))
  (ZN:isFn K (.ref f57)=true)
  (WG:L3.FnAt K f57 "as_rows" "Helper.as_rows" L3.kM)
  (a58:nsIn K mainGlobals "rows_of_program"=some (some (.ref f58)))
  (WE:L3.FnAt K f58 "rows_of_program" "rows_of_program" L3.gF)
  (a59:nsIn K mainGlobals "text_of_rows"=some (some (.ref f59)))
  (WD:L3.FnAt K f59 "text_of_rows" "text_of_rows" L3.jr)
  (a60:nsIn K mainGlobals "written"=some (some (.ref f60)))
  (WC:L3.FnAt K f60 "written" "written" L3.se)
  (a61:nsIn K mainGlobals "_law_mixed"=some (some (.ref f61)))
  (WB:L3.FnAt K f61 "_law_mixed" "_law_mixed" L3.su)
  (a62:nsIn K mainGlobals "_law_cell_at"=some (some (.ref f62)))
  (WA:L3.FnAt K f62 "_law_cell_at" "_law_cell_at" L3.nT)
  (a63:nsIn K mainGlobals "_law_next"=some (some (.ref f63)))
  (Wz:L3.FnAt K f63 "_law_next" "_law_next" L3.wF)
  (a64:nsIn K mainGlobals "_law_put_row"=some (some (.ref f64)))
  (Wy:L3.FnAt K f64 "_law_put_row" "_law_put_row" L3.nR)
  (a65:nsIn K mainGlobals "_law_sum_text"=some (some (.ref f65)))
  (Wx:L3.FnAt K f65 "_law_sum_text" "_law_sum_text" L3.lW)
  (UZ:nsIn K mainGlobals "_law_text"=some (some (.ref f66)))
  (Ka:L3.FnAt K f66 "_law_text" "_law_text" L3.wC)
  (Lr:nsIn K mainGlobals "_law_laid_step"=some (some (.ref f67)))
  (ux:L3.FnAt K f67 "_law_laid_step" "_law_laid_step" L3.kD)
  (Lq:nsIn K mainGlobals "_law_laid_block"=some (some (.ref f68)))
  (uU:L3.FnAt K f68 "_law_laid_block" "_law_laid_block" L3.jw)
  (a69:nsIn K mainGlobals "_law_laid"=some (some (.ref f69)))
  (Ww:L3.FnAt K f69 "_law_laid" "_law_laid" L3.wG)
  (a70:nsIn K mainGlobals "_law_sum_made"=some (some (.ref f70)))
  (Wv:L3.FnAt K f70 "_law_sum_made" "_law_sum_made" L3.lX)
  (UY:nsIn K mainGlobals "_law_condition_made"=some (some (.ref f71)))
  (J9:L3.FnAt K f71 "_law_condition_made" "_law_condition_made" L3.fV)
  (a72:nsIn K mainGlobals "_law_pairs_made"=some (some (.ref f72)))
  (Wu:L3.FnAt K f72 "_law_pairs_made" "_law_pairs_made" L3.jv)
  (Lp:nsIn K mainGlobals "_law_steps_made"=some (some (.ref f73)))
  (uw:L3.FnAt K f73 "_law_steps_made" "_law_steps_made" L3.ju)
  (Lo:nsIn K mainGlobals "_law_step_made"=some (some (.ref f74)))
  (uT:L3.FnAt K f74 "_law_step_made" "_law_step_made" L3.kC)
  (a75:nsIn K mainGlobals "_law_helper_made"=some (some (.ref f75)))
  (Wt:L3.FnAt K f75 "_law_helper_made" "_law_helper_made" L3.iX)
  (a76:nsIn K mainGlobals "_law_kept"=some (some (.ref f76)))
  (Ws:L3.FnAt K f76 "_law_kept" "_law_kept" L3.wH)
  (a77:nsIn K mainGlobals "_law_names"=some (some (.ref f77)))
  (Wr:L3.FnAt K f77 "_law_names" "_law_names" L3.sr)
  (a78:nsIn K mainGlobals "_law_sum"=some (some (.ref f78)))
  (Wq:L3.FnAt K f78 "_law_sum" "_law_sum" L3.zN)
  (UX:nsIn K mainGlobals "_law_condition"=some (some (.ref f79)))
  (J8:L3.FnAt K f79 "_law_condition" "_law_condition" L3.kE)
  (a80:nsIn K mainGlobals "_law_plain"=some (some (.ref f80)))
  (Wo:L3.FnAt K f80 "_law_plain" "_law_plain" L3.sj)
  (a81:nsIn K mainGlobals "_law_call"=some (some (.ref f81)))
  (Wn:L3.FnAt K f81 "_law_call" "_law_call" L3.wI)
  (UW:nsIn K mainGlobals "_law_steps"=some (some (.ref f82)))
  (J7:L3.FnAt K f82 "_law_steps" "_law_steps" L3.sf)
  (XF:nsIn K mainGlobals "_law_step"=some (some (.ref f83)))
  (M7:L3.FnAt K f83 "_law_step" "_law_step" L3.wD)
  (a84:nsIn K mainGlobals "_law_helper"=some (some (.ref f84)))
  (Wm:L3.FnAt K f84 "_law_helper" "_law_helper" L3.pL)
  (a85:nsIn K mainGlobals "_law_program"=some (some (.ref f85)))
  (Wl:L3.FnAt K f85 "_law_program" "_law_program" L3.nS)
  (a86:nsIn K mainGlobals "_law_chain"=some (some (.ref f86)))
  (Wk:L3.FnAt K f86 "_law_chain" "_law_chain" L3.sy)
  (a87:nsIn K mainGlobals "law"=some (some (.ref f87)))
  (Zr:K.lookup f87=some ⟨Zd,Zc,.func (fnOf "law" "law" A87 B87 S87 .none WS Xq VR XA Uu Xr),YU⟩)
  (Rl:(A87,B87,S87)=(fK L3.uu,ao L3.uu,aj L3.uu))
  (c87:codeIn K Uu "law"=true)
  (Zx:keepIn K (.ref f87)=true)
  (Ly:nsIn K mainGlobals "len"=some none)
  (C7:nsIn K mainGlobals "tuple"=some none)
  (Gx:nsIn K mainGlobals "list"=some none)
  (zU:nsIn K mainGlobals "sorted"=some none)
  (Lz:nsIn K mainGlobals "int"=some none)
  (Lx:nsIn K mainGlobals "str"=some none)
  (pI:nsIn K mainGlobals "isinstance"=some none)
  (C8:nsIn K mainGlobals "range"=some none)
  (LA:nsIn K mainGlobals "abs"=some none)
  (Zw:kitOne K (.ref bS) (.ref dJ)=some false)
  (Zv:kitOne K (.ref dO) (.ref dJ)=some false)
  (Zu:kitOne K (.ref fY) (.ref dJ)=some true)
  (Zt:kitOne K (.ref jJ) (.ref dJ)=some true)
 :∃ fd:FuncData,(∀ (s:Shared) (v:Value),BindsTo s fd ⟨[v],[]⟩ [("_law_script",v)])/\∀ base:Heap,K.In base->base.Ns mainGlobals mg->aU l.prog w K mg base dG 60 fa fd ["_law_script"] (II K):=by
 have e:=hfa.symm.trans (mg_of X G a87)
 cases e
 let A:L3.Ad:=⟨mJ,bS,dO,dJ,fY,jJ,nL,cu,d7,mK,iA,fS,gW,cY,cH,bN,dM⟩
 have kS:∀ j,j < 4->kitOne K (.ref (L3.yr A j)) (.ref A.dJ)=some (decide (2<=j)):=L3.kS4 Zw Zv Zu Zt
 have J:L3.Fx K mg A:=⟨mg_none_of X G Ly,mg_none_of X G C7,mg_none_of X G Gx,mg_none_of X G zU,mg_none_of X G Lz,mg_none_of X G Lx,mg_none_of X G pI,mg_none_of X G C8,mg_none_of X G LA,mg_of X G Fq,EV.ok qC qB,k8,jE,mg_of X G o4,oQ.ok qC qB,iM,gS,gw,mg_of X G rB,qS.ok qC qB,eS,mg_of X G oY,mg_of X G w6,wN.ok qC qB,eU,mg_of X G A2,Az.ok qC qB,fm,mg_of X G Fv,EX.ok qC qB,rj,ni,lA,mg_of X G rE,qW.ok qC qB,lE,iL,iK,gR,lD,mg_of X G w5,wM.ok qC qB,nj,jF,lC,iJ,mg_of X G Ft,EW.ok qC qB,q9,oS,lu,lg,mg_of X G A3,AA.ok qC qB,oU,nh,ly,mg_of X G w9,wO.ok qC qB,nk,fu,mg_of X G A4,AB.ok qC qB,oV,jG,iO,jH,mg_of X G rF,qX.ok qC qB,lF,eV,iN,gT,mg_of X G rC,qU.ok qC qB,k9,eT,gK,gM,iH,mg_of X G rD,qV.ok qC qB,lB,iI,gu,fP,gP,gQ,gO,mg_of X G oZ,oO.ok qC qB,fq,kS⟩
 have F87:=Pu (st:=L3.uu) Zr Rl c87 Zx
 refine⟨fnOf "law" "law" (fK L3.uu) (ao L3.uu) (aj L3.uu) .none WS Xq VR XA Uu Xr,fun s v=>.of_eq rfl,fun base _ _=>?_⟩
 have Qd:L3.pH l.prog w K mg base 2 mJ "Sum" ["self","terms","number"] ((L3.GG A)):=⟨1,by decide,Gu (L3.E7 (P:=l.prog) (w:=w) (base:=base) (k:=0) l1.F J ) EV.mi HV i1 EV.kc (l1.F.b3 (ps:=["self","terms","number"])),J.Nb,J.Fq⟩
 have Io:=L3.dA l2 (mg_of X G a2) (l2.F.b2 (ps:=["pairs","number"])) (L3.JV (k:=2) l2.F J Qd.u)
 have au:L3.Ms l.prog w K mg base 1 1 ((fun _=>A.mJ)) "told" ["self"] ((fun _=>L3.zI A)):=fun j hj=>aR (L3.dH (P:=l.prog) (w:=w) (base:=base) (k:=0) l3.F J ) jL i3 l3.k (l3.F.b1 (ps:=["self"]))
 have bT:L3.Cm l.prog w K mg base 1 "Step" "__init__" ["self","at"] (L3.qK K):=⟨⟨Sp,f12,_,L3.DM (P:=l.prog) (w:=w) (base:=base) (k:=0) WQ.F J ,mg_of X G HA,Rn,Rm,Ro,WQ.k,(WQ.F.b2 (ps:=["self","at"]))⟩⟩
 have xP:=L3.dA WO (mg_of X G a19) (WO.F.b1 (ps:=["pairs"])) (L3.E5 (P:=l.prog) (w:=w) (base:=base) (k:=0) WO.F J )
 have rY:L3.pH l.prog w K mg base 2 bS "Compare" ["self","one","sign","other"] ((L3.zL A.bS ["one","sign","other"])):=⟨1,by decide,Gu (L3.zp (P:=l.prog) (w:=w) (base:=base) (k:=0) l4.F J ) oQ.mi vh i4 oQ.kc (l4.F.b4 (ps:=["self","one","sign","other"])),J.yj,J.o4⟩
 have vA:L3.pH l.prog w K mg base 2 dO "Turned" ["self","condition"] ((L3.zL A.dO ["condition"])):=⟨1,by decide,Gu (L3.AI (P:=l.prog) (w:=w) (base:=base) (k:=0) l5.F J ) qS.mi yv i5 qS.kc (l5.F.b2 (ps:=["self","condition"])),J.AW,J.rB⟩
 have mP:L3.pH l.prog w K mg base 3 nL "Let" ["self","at","name","total"] ((L3.zL A.nL ["at","name","total"])):=⟨2,by decide,Gu (L3.E9 (k:=1) l6.F J bT.u) EX.mi HU i6 EX.kc (l6.F.b4 (ps:=["self","at","name","total"])),J.Nd,J.Fv⟩
 have gi:L3.pH l.prog w K mg base 3 cu "Divide" ["self","at","name","word","total","by"] ((L3.zL A.cu ["at","name","word","total","by"])):=⟨2,by decide,Gu (L3.AM (k:=1) l7.F J bT.u) qW.mi yu i7 qW.kc (l7.F.b6 (ps:=["self","at","name","word","total","by"])),J.AZ,J.rE⟩
 have ig:L3.pH l.prog w K mg base 3 d7 "Fetch" ["self","at","name","row","place"] ((L3.zL A.d7 ["at","name","row","place"])):=⟨2,by decide,Gu (L3.BY (k:=1) l8.F J bT.u) wM.mi Bh i8 wM.kc (l8.F.b5 (ps:=["self","at","name","row","place"])),J.DW,J.w5⟩
 have mO:L3.pH l.prog w K mg base 3 mK "Put" ["self","at","row","place","total"] ((L3.zL A.mK ["at","row","place","total"])):=⟨2,by decide,Gu (L3.E8 (k:=1) l9.F J bT.u) EW.mi HS i9 EW.kc (l9.F.b5 (ps:=["self","at","row","place","total"])),J.Nc,J.Ft⟩
 have jN:L3.pH l.prog w K mg base 3 iA "Make" ["self","at","row","size"] ((L3.zL A.iA ["at","row","size"])):=⟨2,by decide,Gu (L3.DN (k:=1) X5.F J bT.u) AA.mi Bm ZW AA.kc (X5.F.b4 (ps:=["self","at","row","size"])),J.Ht,J.A3⟩
 have iu:L3.pH l.prog w K mg base 3 fS "Claim" ["self","at","condition"] ((L3.zL A.fS ["at","condition"])):=⟨2,by decide,Gu (L3.BZ (k:=1) X4.F J bT.u) wO.mi yx ZV wO.kc (X4.F.b3 (ps:=["self","at","condition"])),J.DY,J.w9⟩
 have jO:L3.pH l.prog w K mg base 3 gW "Call" ["self","at","names","helper","given"] ((L3.L7 A)):=⟨2,by decide,Gu (L3.DO (k:=1) X3.F J bT.u) AB.mi Bj ZU AB.kc (X3.F.b5 (ps:=["self","at","names","helper","given"])),J.Hu,J.A4⟩
 have gj:L3.pH l.prog w K mg base 3 cY "Choose" ["self","at","condition","then","other"] ((L3.L8 A)):=⟨2,by decide,Gu (L3.AN (k:=1) X0.F J bT.u) qX.mi vn ZT qX.kc (X0.F.b5 (ps:=["self","at","condition","then","other"])),J.A0,J.rF⟩
 have gc:L3.pH l.prog w K mg base 3 cH "Repeat" ["self","at","condition","keeps","falls","body"] ((L3.LW A)):=⟨2,by decide,Gu (L3.AJ (k:=1) XZ.F J xP.u bT.u) qU.mi vm ZS qU.kc (XZ.F.b6 (ps:=["self","at","condition","keeps","falls","body"])),J.AX,J.rC⟩
 have Im:L3.pH l.prog w K mg base 3 bN "Helper" ["self","at","name","params","answers","needs","gives","steps"] ((L3.L6 A)):=⟨2,by decide,Gu (L3.AL (k:=1) XY.F J xP.u) qV.mi vj ZR qV.kc (XY.F.b8 (ps:=["self","at","name","params","answers","needs","gives","steps"])),J.AY,J.rD⟩
 have Gp:L3.pH l.prog w K mg base 2 dM "Program" ["self","helpers"] ((L3.LX A)):=⟨1,by decide,Gu (L3.zo (P:=l.prog) (w:=w) (base:=base) (k:=0) XX.F J ) oO.mi rP ZQ oO.kc (XX.F.b2 (ps:=["self","helpers"])),J.yi,J.oZ⟩
 have yC:L3.pH l.prog w K mg base 2 fY "Every" ["self","conditions"] ((L3.Ae A.fY)):=⟨1,by decide,Gu (L3.qu (P:=l.prog) (w:=w) (base:=base) (k:=0) J.eU UI.F J ) wN.mi yw X7 wN.kc (UI.F.b2 (ps:=["self","conditions"])),J.DX,J.w6⟩
 have Bs:L3.pH l.prog w K mg base 2 jJ "Some" ["self","conditions"] ((L3.Ae A.jJ)):=⟨1,by decide,Gu (L3.qu (P:=l.prog) (w:=w) (base:=base) (k:=0) J.fm UI.F J ) Az.mi Bl X7 Az.kc (UI.F.b2 (ps:=["self","conditions"])),J.Hs,J.A2⟩
 have rX:L3.Ms l.prog w K mg base 1 4 ((L3.yr A)) "told" ["self"] ((L3.gD A 0)):=fun j hj=>match j,hj with | 0,_=>aR (L3.dN (L3.wR _)) jj UQ Km.k (Km.F.b1 (ps:=["self"])) | 1,_=>aR (L3.dN (L3.wR _)) kj UP Kl.k (Kl.F.b1 (ps:=["self"])) | 2,_=>aR (L3.dN (L3.wR _)) mS UO Kh.k (Kh.F.b1 (ps:=["self"])) | 3,_=>aR (L3.dN (L3.wR _)) o7 UN Kg.k (Kg.F.b1 (ps:=["self"]))
 have rW:L3.Ms l.prog w K mg base 2 4 ((L3.yr A)) "told" ["self"] ((L3.gD A 1)):=fun j hj=>match j,hj with | 0,_=>aR (L3.lM (k:=1) Km.F J au.u) jj UQ Km.k (Km.F.b1 (ps:=["self"])) | 1,_=>aR (L3.nc (k:=1) Kl.F J rX.u) kj UP Kl.k (Kl.F.b1 (ps:=["self"])) | 2,_=>aR (L3.oE (k:=1) Kh.F J rX.u) mS UO Kh.k (Kh.F.b1 (ps:=["self"])) | 3,_=>aR (L3.p8 (k:=1) Kg.F J rX.u) o7 UN Kg.k (Kg.F.b1 (ps:=["self"]))
 have rV:L3.Ms l.prog w K mg base 3 4 ((L3.yr A)) "told" ["self"] ((L3.gD A 2)):=fun j hj=>match j,hj with | 0,_=>aR ((L3.lM (k:=1) Km.F J au.u).mono (by decide:2<=3)) jj UQ Km.k (Km.F.b1 (ps:=["self"])) | 1,_=>aR (L3.nc (k:=2) Kl.F J rW.u) kj UP Kl.k (Kl.F.b1 (ps:=["self"])) | 2,_=>aR (L3.oE (k:=2) Kh.F J rW.u) mS UO Kh.k (Kh.F.b1 (ps:=["self"])) | 3,_=>aR (L3.p8 (k:=2) Kg.F J rW.u) o7 UN Kg.k (Kg.F.b1 (ps:=["self"]))
 have aP:L3.Ms l.prog w K mg base 4 4 ((L3.yr A)) "told" ["self"] ((L3.gD A 3)):=fun j hj=>match j,hj with | 0,_=>aR ((L3.lM (k:=1) Km.F J au.u).mono (by decide:2<=4)) jj UQ Km.k (Km.F.b1 (ps:=["self"])) | 1,_=>aR (L3.nc (k:=3) Kl.F J rV.u) kj UP Kl.k (Kl.F.b1 (ps:=["self"])) | 2,_=>aR (L3.oE (k:=3) Kh.F J rV.u) mS UO Kh.k (Kh.F.b1 (ps:=["self"])) | 3,_=>aR (L3.p8 (k:=3) Kg.F J rV.u) o7 UN Kg.k (Kg.F.b1 (ps:=["self"]))
 have aQ:=L3.dA WN (mg_of X G a20) (WN.F.b1 (ps:=["pairs"])) (L3.BU (k:=4) WN.F J aP.u)
 have Gb:L3.Ms l.prog w K mg base 1 11 ((L3.Jt A)) "told" ["self"] ((L3.fG A 0)):=fun j hj=>match j,hj with | 0,_=>aR (L3.dN L3.q8) ic KN sO.k (sO.F.b1 (ps:=["self"])) | 1,_=>aR (L3.dN L3.q8) dm KL sN.k (sN.F.b1 (ps:=["self"])) | 2,_=>aR (L3.dN L3.q8) eO KJ sM.k (sM.F.b1 (ps:=["self"])) | 3,_=>aR (L3.dN L3.q8) ia KI sL.k (sL.F.b1 (ps:=["self"])) | 4,_=>aR (L3.dN L3.q8) fU KH sJ.k (sJ.F.b1 (ps:=["self"])) | 5,_=>aR (L3.dN L3.q8) eN KG sI.k (sI.F.b1 (ps:=["self"])) | 6,_=>aR (L3.dN L3.q8) fT KC sH.k (sH.F.b1 (ps:=["self"])) | 7,_=>aR (L3.dN L3.q8) dj KA sG.k (sG.F.b1 (ps:=["self"])) | 8,_=>aR (L3.dN L3.q8) di Kz sF.k (sF.F.b1 (ps:=["self"])) | 9,_=>aR (L3.dN L3.q8) dh Ky sE.k (sE.F.b1 (ps:=["self"])) | 10,_=>aR (L3.dN L3.q8) jL i3 l3.k (l3.F.b1 (ps:=["self"]))
 have jY:=L3.dA rq (mg_of X G K6) (rq.F.b1 (ps:=["parts"])) (L3.cT (k:=1) (n:=0) rq.F J Gb.u)
 have Ga:L3.Ms l.prog w K mg base 6 11 ((L3.Jt A)) "told" ["self"] ((L3.fG A 1)):=fun j hj=>match j,hj with | 0,_=>aR (L3.aE (L3.bw (by decide)) ((L3.eg (k:=1) sO.F J au.u).mono (by decide:2<=6))) ic KN sO.k (sO.F.b1 (ps:=["self"])) | 1,_=>aR (L3.aE (L3.bw (by decide)) ((L3.cC (k:=1) sN.F J au.u).mono (by decide:2<=6))) dm KL sN.k (sN.F.b1 (ps:=["self"])) | 2,_=>aR (L3.aE (L3.bw (by decide)) ((L3.cQ (k:=1) sM.F J au.u).mono (by decide:2<=6))) eO KJ sM.k (sM.F.b1 (ps:=["self"])) | 3,_=>aR (L3.aE (L3.bw (by decide)) ((L3.d9 (k:=1) sL.F J au.u).mono (by decide:2<=6))) ia KI sL.k (sL.F.b1 (ps:=["self"])) | 4,_=>aR (L3.aE (L3.bw (by decide)) ((L3.dz (k:=1) sJ.F J au.u).mono (by decide:2<=6))) fU KH sJ.k (sJ.F.b1 (ps:=["self"])) | 5,_=>aR (L3.aE (L3.bw (by decide)) ((L3.cR (k:=4) sI.F J aP.u).mono (by decide:5<=6))) eN KG sI.k (sI.F.b1 (ps:=["self"])) | 6,_=>aR (L3.aE (L3.bw (by decide)) ((L3.dF (k:=2) sH.F J jY.u).mono (by decide:3<=6))) fT KC sH.k (sH.F.b1 (ps:=["self"])) | 7,_=>aR (L3.aE (L3.bw (by decide)) ((L3.cD (k:=4) sG.F J jY.u aP.u).mono (by decide:5<=6))) dj KA sG.k (sG.F.b1 (ps:=["self"])) | 8,_=>aR (L3.aE (L3.bw (by decide)) (L3.cA (k:=5) sF.F J jY.u aQ.u aP.u au.u)) di Kz sF.k (sF.F.b1 (ps:=["self"])) | 9,_=>aR (L3.aE L3.BF (L3.cB (k:=5) sE.F J jY.u aQ.u)) dh Ky sE.k (sE.F.b1 (ps:=["self"])) | 10,_=>aR (L3.aE L3.BE ((L3.dH (P:=l.prog) (w:=w) (base:=base) (k:=0) l3.F J ).mono (by decide:1<=6))) jL i3 l3.k (l3.F.b1 (ps:=["self"]))
 have jX:=L3.dA rq (mg_of X G K6) (rq.F.b1 (ps:=["parts"])) (L3.cT (k:=6) (n:=1) rq.F J Ga.u)
 have F9:L3.Ms l.prog w K mg base 8 11 ((L3.Jt A)) "told" ["self"] ((L3.fG A 2)):=fun j hj=>match j,hj with | 0,_=>aR (L3.aE (L3.bw (by decide)) ((L3.eg (k:=1) sO.F J au.u).mono (by decide:2<=8))) ic KN sO.k (sO.F.b1 (ps:=["self"])) | 1,_=>aR (L3.aE (L3.bw (by decide)) ((L3.cC (k:=1) sN.F J au.u).mono (by decide:2<=8))) dm KL sN.k (sN.F.b1 (ps:=["self"])) | 2,_=>aR (L3.aE (L3.bw (by decide)) ((L3.cQ (k:=1) sM.F J au.u).mono (by decide:2<=8))) eO KJ sM.k (sM.F.b1 (ps:=["self"])) | 3,_=>aR (L3.aE (L3.bw (by decide)) ((L3.d9 (k:=1) sL.F J au.u).mono (by decide:2<=8))) ia KI sL.k (sL.F.b1 (ps:=["self"])) | 4,_=>aR (L3.aE (L3.bw (by decide)) ((L3.dz (k:=1) sJ.F J au.u).mono (by decide:2<=8))) fU KH sJ.k (sJ.F.b1 (ps:=["self"])) | 5,_=>aR (L3.aE (L3.bw (by decide)) ((L3.cR (k:=4) sI.F J aP.u).mono (by decide:5<=8))) eN KG sI.k (sI.F.b1 (ps:=["self"])) | 6,_=>aR (L3.aE (L3.bw (by decide)) (L3.dF (k:=7) sH.F J jX.u)) fT KC sH.k (sH.F.b1 (ps:=["self"])) | 7,_=>aR (L3.aE (L3.bw (by decide)) (L3.cD (k:=7) sG.F J jX.u aP.u)) dj KA sG.k (sG.F.b1 (ps:=["self"])) | 8,_=>aR (L3.aE (L3.bw (by decide)) (L3.cA (k:=7) sF.F J jX.u aQ.u aP.u au.u)) di Kz sF.k (sF.F.b1 (ps:=["self"])) | 9,_=>aR (L3.aE L3.BF (L3.cB (k:=7) sE.F J jX.u aQ.u)) dh Ky sE.k (sE.F.b1 (ps:=["self"])) | 10,_=>aR (L3.aE L3.BE ((L3.dH (P:=l.prog) (w:=w) (base:=base) (k:=0) l3.F J ).mono (by decide:1<=8))) jL i3 l3.k (l3.F.b1 (ps:=["self"]))
 have jW:=L3.dA rq (mg_of X G K6) (rq.F.b1 (ps:=["parts"])) (L3.cT (k:=8) (n:=2) rq.F J F9.u)
 have F8:L3.Ms l.prog w K mg base 10 11 ((L3.Jt A)) "told" ["self"] ((L3.fG A 3)):=fun j hj=>match j,hj with | 0,_=>aR (L3.aE (L3.bw (by decide)) ((L3.eg (k:=1) sO.F J au.u).mono (by decide:2<=10))) ic KN sO.k (sO.F.b1 (ps:=["self"])) | 1,_=>aR (L3.aE (L3.bw (by decide)) ((L3.cC (k:=1) sN.F J au.u).mono (by decide:2<=10))) dm KL sN.k (sN.F.b1 (ps:=["self"])) | 2,_=>aR (L3.aE (L3.bw (by decide)) ((L3.cQ (k:=1) sM.F J au.u).mono (by decide:2<=10))) eO KJ sM.k (sM.F.b1 (ps:=["self"])) | 3,_=>aR (L3.aE (L3.bw (by decide)) ((L3.d9 (k:=1) sL.F J au.u).mono (by decide:2<=10))) ia KI sL.k (sL.F.b1 (ps:=["self"])) | 4,_=>aR (L3.aE (L3.bw (by decide)) ((L3.dz (k:=1) sJ.F J au.u).mono (by decide:2<=10))) fU KH sJ.k (sJ.F.b1 (ps:=["self"])) | 5,_=>aR (L3.aE (L3.bw (by decide)) ((L3.cR (k:=4) sI.F J aP.u).mono (by decide:5<=10))) eN KG sI.k (sI.F.b1 (ps:=["self"])) | 6,_=>aR (L3.aE (L3.bw (by decide)) (L3.dF (k:=9) sH.F J jW.u)) fT KC sH.k (sH.F.b1 (ps:=["self"])) | 7,_=>aR (L3.aE (L3.bw (by decide)) (L3.cD (k:=9) sG.F J jW.u aP.u)) dj KA sG.k (sG.F.b1 (ps:=["self"])) | 8,_=>aR (L3.aE (L3.bw (by decide)) (L3.cA (k:=9) sF.F J jW.u aQ.u aP.u au.u)) di Kz sF.k (sF.F.b1 (ps:=["self"])) | 9,_=>aR (L3.aE L3.BF (L3.cB (k:=9) sE.F J jW.u aQ.u)) dh Ky sE.k (sE.F.b1 (ps:=["self"])) | 10,_=>aR (L3.aE L3.BE ((L3.dH (P:=l.prog) (w:=w) (base:=base) (k:=0) l3.F J ).mono (by decide:1<=10))) jL i3 l3.k (l3.F.b1 (ps:=["self"]))
 have jV:=L3.dA rq (mg_of X G K6) (rq.F.b1 (ps:=["parts"])) (L3.cT (k:=10) (n:=3) rq.F J F8.u)
 have F7:L3.Ms l.prog w K mg base 12 11 ((L3.Jt A)) "told" ["self"] ((L3.fG A 4)):=fun j hj=>match j,hj with | 0,_=>aR (L3.aE (L3.bw (by decide)) ((L3.eg (k:=1) sO.F J au.u).mono (by decide:2<=12))) ic KN sO.k (sO.F.b1 (ps:=["self"])) | 1,_=>aR (L3.aE (L3.bw (by decide)) ((L3.cC (k:=1) sN.F J au.u).mono (by decide:2<=12))) dm KL sN.k (sN.F.b1 (ps:=["self"])) | 2,_=>aR (L3.aE (L3.bw (by decide)) ((L3.cQ (k:=1) sM.F J au.u).mono (by decide:2<=12))) eO KJ sM.k (sM.F.b1 (ps:=["self"])) | 3,_=>aR (L3.aE (L3.bw (by decide)) ((L3.d9 (k:=1) sL.F J au.u).mono (by decide:2<=12))) ia KI sL.k (sL.F.b1 (ps:=["self"])) | 4,_=>aR (L3.aE (L3.bw (by decide)) ((L3.dz (k:=1) sJ.F J au.u).mono (by decide:2<=12))) fU KH sJ.k (sJ.F.b1 (ps:=["self"])) | 5,_=>aR (L3.aE (L3.bw (by decide)) ((L3.cR (k:=4) sI.F J aP.u).mono (by decide:5<=12))) eN KG sI.k (sI.F.b1 (ps:=["self"])) | 6,_=>aR (L3.aE (L3.bw (by decide)) (L3.dF (k:=11) sH.F J jV.u)) fT KC sH.k (sH.F.b1 (ps:=["self"])) | 7,_=>aR (L3.aE (L3.bw (by decide)) (L3.cD (k:=11) sG.F J jV.u aP.u)) dj KA sG.k (sG.F.b1 (ps:=["self"])) | 8,_=>aR (L3.aE (L3.bw (by decide)) (L3.cA (k:=11) sF.F J jV.u aQ.u aP.u au.u)) di Kz sF.k (sF.F.b1 (ps:=["self"])) | 9,_=>aR (L3.aE L3.BF (L3.cB (k:=11) sE.F J jV.u aQ.u)) dh Ky sE.k (sE.F.b1 (ps:=["self"])) | 10,_=>aR (L3.aE L3.BE ((L3.dH (P:=l.prog) (w:=w) (base:=base) (k:=0) l3.F J ).mono (by decide:1<=12))) jL i3 l3.k (l3.F.b1 (ps:=["self"]))
 have jU:=L3.dA rq (mg_of X G K6) (rq.F.b1 (ps:=["parts"])) (L3.cT (k:=12) (n:=4) rq.F J F7.u)
 have F6:L3.Ms l.prog w K mg base 14 11 ((L3.Jt A)) "told" ["self"] ((L3.fG A 5)):=fun j hj=>match j,hj with | 0,_=>aR (L3.aE (L3.bw (by decide)) ((L3.eg (k:=1) sO.F J au.u).mono (by decide:2<=14))) ic KN sO.k (sO.F.b1 (ps:=["self"])) | 1,_=>aR (L3.aE (L3.bw (by decide)) ((L3.cC (k:=1) sN.F J au.u).mono (by decide:2<=14))) dm KL sN.k (sN.F.b1 (ps:=["self"])) | 2,_=>aR (L3.aE (L3.bw (by decide)) ((L3.cQ (k:=1) sM.F J au.u).mono (by decide:2<=14))) eO KJ sM.k (sM.F.b1 (ps:=["self"])) | 3,_=>aR (L3.aE (L3.bw (by decide)) ((L3.d9 (k:=1) sL.F J au.u).mono (by decide:2<=14))) ia KI sL.k (sL.F.b1 (ps:=["self"])) | 4,_=>aR (L3.aE (L3.bw (by decide)) ((L3.dz (k:=1) sJ.F J au.u).mono (by decide:2<=14))) fU KH sJ.k (sJ.F.b1 (ps:=["self"])) | 5,_=>aR (L3.aE (L3.bw (by decide)) ((L3.cR (k:=4) sI.F J aP.u).mono (by decide:5<=14))) eN KG sI.k (sI.F.b1 (ps:=["self"])) | 6,_=>aR (L3.aE (L3.bw (by decide)) (L3.dF (k:=13) sH.F J jU.u)) fT KC sH.k (sH.F.b1 (ps:=["self"])) | 7,_=>aR (L3.aE (L3.bw (by decide)) (L3.cD (k:=13) sG.F J jU.u aP.u)) dj KA sG.k (sG.F.b1 (ps:=["self"])) | 8,_=>aR (L3.aE (L3.bw (by decide)) (L3.cA (k:=13) sF.F J jU.u aQ.u aP.u au.u)) di Kz sF.k (sF.F.b1 (ps:=["self"])) | 9,_=>aR (L3.aE L3.BF (L3.cB (k:=13) sE.F J jU.u aQ.u)) dh Ky sE.k (sE.F.b1 (ps:=["self"])) | 10,_=>aR (L3.aE L3.BE ((L3.dH (P:=l.prog) (w:=w) (base:=base) (k:=0) l3.F J ).mono (by decide:1<=14))) jL i3 l3.k (l3.F.b1 (ps:=["self"]))
 have jT:=L3.dA rq (mg_of X G K6) (rq.F.b1 (ps:=["parts"])) (L3.cT (k:=14) (n:=5) rq.F J F6.u)
 have F5:L3.Ms l.prog w K mg base 16 11 ((L3.Jt A)) "told" ["self"] ((L3.fG A 6)):=fun j hj=>match j,hj with | 0,_=>aR (L3.aE (L3.bw (by decide)) ((L3.eg (k:=1) sO.F J au.u).mono (by decide:2<=16))) ic KN sO.k (sO.F.b1 (ps:=["self"])) | 1,_=>aR (L3.aE (L3.bw (by decide)) ((L3.cC (k:=1) sN.F J au.u).mono (by decide:2<=16))) dm KL sN.k (sN.F.b1 (ps:=["self"])) | 2,_=>aR (L3.aE (L3.bw (by decide)) ((L3.cQ (k:=1) sM.F J au.u).mono (by decide:2<=16))) eO KJ sM.k (sM.F.b1 (ps:=["self"])) | 3,_=>aR (L3.aE (L3.bw (by decide)) ((L3.d9 (k:=1) sL.F J au.u).mono (by decide:2<=16))) ia KI sL.k (sL.F.b1 (ps:=["self"])) | 4,_=>aR (L3.aE (L3.bw (by decide)) ((L3.dz (k:=1) sJ.F J au.u).mono (by decide:2<=16))) fU KH sJ.k (sJ.F.b1 (ps:=["self"])) | 5,_=>aR (L3.aE (L3.bw (by decide)) ((L3.cR (k:=4) sI.F J aP.u).mono (by decide:5<=16))) eN KG sI.k (sI.F.b1 (ps:=["self"])) | 6,_=>aR (L3.aE (L3.bw (by decide)) (L3.dF (k:=15) sH.F J jT.u)) fT KC sH.k (sH.F.b1 (ps:=["self"])) | 7,_=>aR (L3.aE (L3.bw (by decide)) (L3.cD (k:=15) sG.F J jT.u aP.u)) dj KA sG.k (sG.F.b1 (ps:=["self"])) | 8,_=>aR (L3.aE (L3.bw (by decide)) (L3.cA (k:=15) sF.F J jT.u aQ.u aP.u au.u)) di Kz sF.k (sF.F.b1 (ps:=["self"])) | 9,_=>aR (L3.aE L3.BF (L3.cB (k:=15) sE.F J jT.u aQ.u)) dh Ky sE.k (sE.F.b1 (ps:=["self"])) | 10,_=>aR (L3.aE L3.BE ((L3.dH (P:=l.prog) (w:=w) (base:=base) (k:=0) l3.F J ).mono (by decide:1<=16))) jL i3 l3.k (l3.F.b1 (ps:=["self"]))
 have jS:=L3.dA rq (mg_of X G K6) (rq.F.b1 (ps:=["parts"])) (L3.cT (k:=16) (n:=6) rq.F J F5.u)
 have F4:L3.Ms l.prog w K mg base 18 11 ((L3.Jt A)) "told" ["self"] ((L3.fG A 7)):=fun j hj=>match j,hj with | 0,_=>aR (L3.aE (L3.bw (by decide)) ((L3.eg (k:=1) sO.F J au.u).mono (by decide:2<=18))) ic KN sO.k (sO.F.b1 (ps:=["self"])) | 1,_=>aR (L3.aE (L3.bw (by decide)) ((L3.cC (k:=1) sN.F J au.u).mono (by decide:2<=18))) dm KL sN.k (sN.F.b1 (ps:=["self"])) | 2,_=>aR (L3.aE (L3.bw (by decide)) ((L3.cQ (k:=1) sM.F J au.u).mono (by decide:2<=18))) eO KJ sM.k (sM.F.b1 (ps:=["self"])) | 3,_=>aR (L3.aE (L3.bw (by decide)) ((L3.d9 (k:=1) sL.F J au.u).mono (by decide:2<=18))) ia KI sL.k (sL.F.b1 (ps:=["self"])) | 4,_=>aR (L3.aE (L3.bw (by decide)) ((L3.dz (k:=1) sJ.F J au.u).mono (by decide:2<=18))) fU KH sJ.k (sJ.F.b1 (ps:=["self"])) | 5,_=>aR (L3.aE (L3.bw (by decide)) ((L3.cR (k:=4) sI.F J aP.u).mono (by decide:5<=18))) eN KG sI.k (sI.F.b1 (ps:=["self"])) | 6,_=>aR (L3.aE (L3.bw (by decide)) (L3.dF (k:=17) sH.F J jS.u)) fT KC sH.k (sH.F.b1 (ps:=["self"])) | 7,_=>aR (L3.aE (L3.bw (by decide)) (L3.cD (k:=17) sG.F J jS.u aP.u)) dj KA sG.k (sG.F.b1 (ps:=["self"])) | 8,_=>aR (L3.aE (L3.bw (by decide)) (L3.cA (k:=17) sF.F J jS.u aQ.u aP.u au.u)) di Kz sF.k (sF.F.b1 (ps:=["self"])) | 9,_=>aR (L3.aE L3.BF (L3.cB (k:=17) sE.F J jS.u aQ.u)) dh Ky sE.k (sE.F.b1 (ps:=["self"])) | 10,_=>aR (L3.aE L3.BE ((L3.dH (P:=l.prog) (w:=w) (base:=base) (k:=0) l3.F J ).mono (by decide:1<=18))) jL i3 l3.k (l3.F.b1 (ps:=["self"]))
 have jR:=L3.dA rq (mg_of X G K6) (rq.F.b1 (ps:=["parts"])) (L3.cT (k:=18) (n:=7) rq.F J F4.u)
 have F3:L3.Ms l.prog w K mg base 20 11 ((L3.Jt A)) "told" ["self"] ((L3.fG A 8)):=fun j hj=>match j,hj with | 0,_=>aR (L3.aE (L3.bw (by decide)) ((L3.eg (k:=1) sO.F J au.u).mono (by decide:2<=20))) ic KN sO.k (sO.F.b1 (ps:=["self"])) | 1,_=>aR (L3.aE (L3.bw (by decide)) ((L3.cC (k:=1) sN.F J au.u).mono (by decide:2<=20))) dm KL sN.k (sN.F.b1 (ps:=["self"])) | 2,_=>aR (L3.aE (L3.bw (by decide)) ((L3.cQ (k:=1) sM.F J au.u).mono (by decide:2<=20))) eO KJ sM.k (sM.F.b1 (ps:=["self"])) | 3,_=>aR (L3.aE (L3.bw (by decide)) ((L3.d9 (k:=1) sL.F J au.u).mono (by decide:2<=20))) ia KI sL.k (sL.F.b1 (ps:=["self"])) | 4,_=>aR (L3.aE (L3.bw (by decide)) ((L3.dz (k:=1) sJ.F J au.u).mono (by decide:2<=20))) fU KH sJ.k (sJ.F.b1 (ps:=["self"])) | 5,_=>aR (L3.aE (L3.bw (by decide)) ((L3.cR (k:=4) sI.F J aP.u).mono (by decide:5<=20))) eN KG sI.k (sI.F.b1 (ps:=["self"])) | 6,_=>aR (L3.aE (L3.bw (by decide)) (L3.dF (k:=19) sH.F J jR.u)) fT KC sH.k (sH.F.b1 (ps:=["self"])) | 7,_=>aR (L3.aE (L3.bw (by decide)) (L3.cD (k:=19) sG.F J jR.u aP.u)) dj KA sG.k (sG.F.b1 (ps:=["self"])) | 8,_=>aR (L3.aE (L3.bw (by decide)) (L3.cA (k:=19) sF.F J jR.u aQ.u aP.u au.u)) di Kz sF.k (sF.F.b1 (ps:=["self"])) | 9,_=>aR (L3.aE L3.BF (L3.cB (k:=19) sE.F J jR.u aQ.u)) dh Ky sE.k (sE.F.b1 (ps:=["self"])) | 10,_=>aR (L3.aE L3.BE ((L3.dH (P:=l.prog) (w:=w) (base:=base) (k:=0) l3.F J ).mono (by decide:1<=20))) jL i3 l3.k (l3.F.b1 (ps:=["self"]))
 have jQ:=L3.dA rq (mg_of X G K6) (rq.F.b1 (ps:=["parts"])) (L3.cT (k:=20) (n:=8) rq.F J F3.u)
 have F2:L3.Ms l.prog w K mg base 22 11 ((L3.Jt A)) "told" ["self"] ((L3.fG A 9)):=fun j hj=>match j,hj with | 0,_=>aR (L3.aE (L3.bw (by decide)) ((L3.eg (k:=1) sO.F J au.u).mono (by decide:2<=22))) ic KN sO.k (sO.F.b1 (ps:=["self"])) | 1,_=>aR (L3.aE (L3.bw (by decide)) ((L3.cC (k:=1) sN.F J au.u).mono (by decide:2<=22))) dm KL sN.k (sN.F.b1 (ps:=["self"])) | 2,_=>aR (L3.aE (L3.bw (by decide)) ((L3.cQ (k:=1) sM.F J au.u).mono (by decide:2<=22))) eO KJ sM.k (sM.F.b1 (ps:=["self"])) | 3,_=>aR (L3.aE (L3.bw (by decide)) ((L3.d9 (k:=1) sL.F J au.u).mono (by decide:2<=22))) ia KI sL.k (sL.F.b1 (ps:=["self"])) | 4,_=>aR (L3.aE (L3.bw (by decide)) ((L3.dz (k:=1) sJ.F J au.u).mono (by decide:2<=22))) fU KH sJ.k (sJ.F.b1 (ps:=["self"])) | 5,_=>aR (L3.aE (L3.bw (by decide)) ((L3.cR (k:=4) sI.F J aP.u).mono (by decide:5<=22))) eN KG sI.k (sI.F.b1 (ps:=["self"])) | 6,_=>aR (L3.aE (L3.bw (by decide)) (L3.dF (k:=21) sH.F J jQ.u)) fT KC sH.k (sH.F.b1 (ps:=["self"])) | 7,_=>aR (L3.aE (L3.bw (by decide)) (L3.cD (k:=21) sG.F J jQ.u aP.u)) dj KA sG.k (sG.F.b1 (ps:=["self"])) | 8,_=>aR (L3.aE (L3.bw (by decide)) (L3.cA (k:=21) sF.F J jQ.u aQ.u aP.u au.u)) di Kz sF.k (sF.F.b1 (ps:=["self"])) | 9,_=>aR (L3.aE L3.BF (L3.cB (k:=21) sE.F J jQ.u aQ.u)) dh Ky sE.k (sE.F.b1 (ps:=["self"])) | 10,_=>aR (L3.aE L3.BE ((L3.dH (P:=l.prog) (w:=w) (base:=base) (k:=0) l3.F J ).mono (by decide:1<=22))) jL i3 l3.k (l3.F.b1 (ps:=["self"]))
 have jP:=L3.dA rq (mg_of X G K6) (rq.F.b1 (ps:=["parts"])) (L3.cT (k:=22) (n:=9) rq.F J F2.u)
 have Eo:L3.Ms l.prog w K mg base 24 11 ((L3.Jt A)) "told" ["self"] ((L3.fG A 10)):=fun j hj=>match j,hj with | 0,_=>aR (L3.aE (L3.bw (by decide)) ((L3.eg (k:=1) sO.F J au.u).mono (by decide:2<=24))) ic KN sO.k (sO.F.b1 (ps:=["self"])) | 1,_=>aR (L3.aE (L3.bw (by decide)) ((L3.cC (k:=1) sN.F J au.u).mono (by decide:2<=24))) dm KL sN.k (sN.F.b1 (ps:=["self"])) | 2,_=>aR (L3.aE (L3.bw (by decide)) ((L3.cQ (k:=1) sM.F J au.u).mono (by decide:2<=24))) eO KJ sM.k (sM.F.b1 (ps:=["self"])) | 3,_=>aR (L3.aE (L3.bw (by decide)) ((L3.d9 (k:=1) sL.F J au.u).mono (by decide:2<=24))) ia KI sL.k (sL.F.b1 (ps:=["self"])) | 4,_=>aR (L3.aE (L3.bw (by decide)) ((L3.dz (k:=1) sJ.F J au.u).mono (by decide:2<=24))) fU KH sJ.k (sJ.F.b1 (ps:=["self"])) | 5,_=>aR (L3.aE (L3.bw (by decide)) ((L3.cR (k:=4) sI.F J aP.u).mono (by decide:5<=24))) eN KG sI.k (sI.F.b1 (ps:=["self"])) | 6,_=>aR (L3.aE (L3.bw (by decide)) (L3.dF (k:=23) sH.F J jP.u)) fT KC sH.k (sH.F.b1 (ps:=["self"])) | 7,_=>aR (L3.aE (L3.bw (by decide)) (L3.cD (k:=23) sG.F J jP.u aP.u)) dj KA sG.k (sG.F.b1 (ps:=["self"])) | 8,_=>aR (L3.aE (L3.bw (by decide)) (L3.cA (k:=23) sF.F J jP.u aQ.u aP.u au.u)) di Kz sF.k (sF.F.b1 (ps:=["self"])) | 9,_=>aR (L3.aE L3.BF (L3.cB (k:=23) sE.F J jP.u aQ.u)) dh Ky sE.k (sE.F.b1 (ps:=["self"])) | 10,_=>aR (L3.aE L3.BE ((L3.dH (P:=l.prog) (w:=w) (base:=base) (k:=0) l3.F J ).mono (by decide:1<=24))) jL i3 l3.k (l3.F.b1 (ps:=["self"]))
 have zC:=L3.dA rq (mg_of X G K6) (rq.F.b1 (ps:=["parts"])) (L3.cT (k:=24) (n:=10) rq.F J Eo.u)
 have Ik:L3.Ms l.prog w K mg base 26 1 ((fun _=>A.dM)) "told" ["self"] ((fun _=>L3.Af A)):=fun j hj=>aR (L3.zm (k:=25) WM.F J zC.u) rO ZP WM.k (WM.F.b1 (ps:=["self"]))
 have Cs:=L3.dA WL (mg_of X G a37) (WL.F.b2 (ps:=["thing","weight"])) (L3.DI (P:=l.prog) (w:=w) (base:=base) (k:=0) WL.F J )
 have Bt:=L3.dA WK (mg_of X G a38) (WK.F.b1 (ps:=["number"])) (L3.BV (P:=l.prog) (w:=w) (base:=base) (k:=0) WK.F J )
 have yE:=L3.dA WJ (mg_of X G a39) (WJ.F.b1 (ps:=["number"])) (L3.zk (P:=l.prog) (w:=w) (base:=base) (k:=0) WJ.F J )
 have ak:L3.Ms l.prog w K mg base 2 1 ((fun _=>A.mJ)) "text" ["self"] ((fun _=>L3.Dg A)):=fun j hj=>aR (L3.E6 (k:=1) WI.F J yE.u Bt.u Cs.u) Eh ZO WI.k (WI.F.b1 (ps:=["self"]))
 have yX:L3.Ms l.prog w K mg base 1 4 ((L3.yr A)) "text" ["self"] ((L3.gE A 0)):=fun j hj=>match j,hj with | 0,_=>aR (L3.dN (L3.wU _)) ji UM Kf.k (Kf.F.b1 (ps:=["self"])) | 1,_=>aR (L3.dN (L3.wU _)) ki UL Ke.k (Ke.F.b1 (ps:=["self"])) | 2,_=>aR (L3.dN (L3.wU _)) mR UK Kd.k (Kd.F.b1 (ps:=["self"])) | 3,_=>aR (L3.dN (L3.wU _)) o6 UJ Kc.k (Kc.F.b1 (ps:=["self"]))
 have pA:=L3.dA M8 (mg_of X G XG) (M8.F.b1 (ps:=["condition"])) (L3.m7 (k:=1) (n:=0) M8.F J yX.u)
 have yW:L3.Ms l.prog w K mg base 3 4 ((L3.yr A)) "text" ["self"] ((L3.gE A 1)):=fun j hj=>match j,hj with | 0,_=>aR (L3.lN (k:=2) Kf.F J ak.u) ji UM Kf.k (Kf.F.b1 (ps:=["self"])) | 1,_=>aR ((L3.ng (k:=1) Ke.F J yX.u).mono (by decide:2<=3)) ki UL Ke.k (Ke.F.b1 (ps:=["self"])) | 2,_=>aR (L3.oF (k:=2) Kd.F J pA.u) mR UK Kd.k (Kd.F.b1 (ps:=["self"])) | 3,_=>aR (L3.p9 (k:=2) Kc.F J pA.u) o6 UJ Kc.k (Kc.F.b1 (ps:=["self"]))
 have pe:=L3.dA M8 (mg_of X G XG) (M8.F.b1 (ps:=["condition"])) (L3.m7 (k:=3) (n:=1) M8.F J yW.u)
 have yV:L3.Ms l.prog w K mg base 5 4 ((L3.yr A)) "text" ["self"] ((L3.gE A 2)):=fun j hj=>match j,hj with | 0,_=>aR ((L3.lN (k:=2) Kf.F J ak.u).mono (by decide:3<=5)) ji UM Kf.k (Kf.F.b1 (ps:=["self"])) | 1,_=>aR ((L3.ng (k:=3) Ke.F J yW.u).mono (by decide:4<=5)) ki UL Ke.k (Ke.F.b1 (ps:=["self"])) | 2,_=>aR (L3.oF (k:=4) Kd.F J pe.u) mR UK Kd.k (Kd.F.b1 (ps:=["self"])) | 3,_=>aR (L3.p9 (k:=4) Kc.F J pe.u) o6 UJ Kc.k (Kc.F.b1 (ps:=["self"]))
 have o9:=L3.dA M8 (mg_of X G XG) (M8.F.b1 (ps:=["condition"])) (L3.m7 (k:=5) (n:=2) M8.F J yV.u)
 have aV:L3.Ms l.prog w K mg base 7 4 ((L3.yr A)) "text" ["self"] ((L3.gE A 3)):=fun j hj=>match j,hj with | 0,_=>aR ((L3.lN (k:=2) Kf.F J ak.u).mono (by decide:3<=7)) ji UM Kf.k (Kf.F.b1 (ps:=["self"])) | 1,_=>aR ((L3.ng (k:=5) Ke.F J yV.u).mono (by decide:6<=7)) ki UL Ke.k (Ke.F.b1 (ps:=["self"])) | 2,_=>aR (L3.oF (k:=6) Kd.F J o9.u) mR UK Kd.k (Kd.F.b1 (ps:=["self"])) | 3,_=>aR (L3.p9 (k:=6) Kc.F J o9.u) o6 UJ Kc.k (Kc.F.b1 (ps:=["self"]))
 have bJ:=L3.dA WH (mg_of X G a55) (WH.F.b2 (ps:=["word","pairs"])) (L3.x8 (k:=7) WH.F J aV.u)
 have Gn:L3.Ms l.prog w K mg base 1 9 ((L3.Ju A)) "as_rows" ["self"] ((L3.dw A 0)):=fun j hj=>match j,hj with | 0,_=>aR (L3.dN L3.wV) i0 Lk ve.k (ve.F.b1 (ps:=["self"])) | 1,_=>aR (L3.dN L3.wV) dU Lj vd.k (vd.F.b1 (ps:=["self"])) | 2,_=>aR (L3.dN L3.wV) ff Li vc.k (vc.F.b1 (ps:=["self"])) | 3,_=>aR (L3.dN L3.wV) iZ Lh u9.k (u9.F.b1 (ps:=["self"])) | 4,_=>aR (L3.dN L3.wV) gB Lg uZ.k (uZ.F.b1 (ps:=["self"])) | 5,_=>aR (L3.dN L3.wV) fc Lf uY.k (uY.F.b1 (ps:=["self"])) | 6,_=>aR (L3.dN L3.wV) gA Lb uV.k (uV.F.b1 (ps:=["self"])) | 7,_=>aR (L3.dN L3.wV) dS Ld uX.k (uX.F.b1 (ps:=["self"])) | 8,_=>aR (L3.dN L3.wV) dR Lc uW.k (uW.F.b1 (ps:=["self"]))
 have nH:=L3.dA uy (mg_of X G Ls) (uy.F.b1 (ps:=["steps"])) (L3.bR (k:=1) (n:=0) uy.F J Gn.u)
 have Gm:L3.Ms l.prog w K mg base 9 9 ((L3.Ju A)) "as_rows" ["self"] ((L3.dw A 1)):=fun j hj=>match j,hj with | 0,_=>aR ((L3.fk (k:=2) ve.F J ak.u).mono (by decide:3<=9)) i0 Lk ve.k (ve.F.b1 (ps:=["self"])) | 1,_=>aR ((L3.cW (k:=2) vd.F J ak.u).mono (by decide:3<=9)) dU Lj vd.k (vd.F.b1 (ps:=["self"])) | 2,_=>aR ((L3.dB (k:=2) vc.F J ak.u).mono (by decide:3<=9)) ff Li vc.k (vc.F.b1 (ps:=["self"])) | 3,_=>aR ((L3.fj (k:=2) u9.F J ak.u).mono (by decide:3<=9)) iZ Lh u9.k (u9.F.b1 (ps:=["self"])) | 4,_=>aR ((L3.dX (k:=2) uZ.F J ak.u).mono (by decide:3<=9)) gB Lg uZ.k (uZ.F.b1 (ps:=["self"])) | 5,_=>aR ((L3.dD (k:=7) uY.F J aV.u).mono (by decide:8<=9)) fc Lf uY.k (uY.F.b1 (ps:=["self"])) | 6,_=>aR ((L3.dY (k:=2) uV.F J ak.u).mono (by decide:3<=9)) gA Lb uV.k (uV.F.b1 (ps:=["self"])) | 7,_=>aR ((L3.cX (k:=7) uX.F J nH.u aV.u).mono (by decide:8<=9)) dS Ld uX.k (uX.F.b1 (ps:=["self"])) | 8,_=>aR (L3.cV (k:=8) uW.F J nH.u ak.u aV.u bJ.u) dR Lc uW.k (uW.F.b1 (ps:=["self"]))
 have nG:=L3.dA uy (mg_of X G Ls) (uy.F.b1 (ps:=["steps"])) (L3.bR (k:=9) (n:=1) uy.F J Gm.u)
 have Gk:L3.Ms l.prog w K mg base 11 9 ((L3.Ju A)) "as_rows" ["self"] ((L3.dw A 2)):=fun j hj=>match j,hj with | 0,_=>aR ((L3.fk (k:=2) ve.F J ak.u).mono (by decide:3<=11)) i0 Lk ve.k (ve.F.b1 (ps:=["self"])) | 1,_=>aR ((L3.cW (k:=2) vd.F J ak.u).mono (by decide:3<=11)) dU Lj vd.k (vd.F.b1 (ps:=["self"])) | 2,_=>aR ((L3.dB (k:=2) vc.F J ak.u).mono (by decide:3<=11)) ff Li vc.k (vc.F.b1 (ps:=["self"])) | 3,_=>aR ((L3.fj (k:=2) u9.F J ak.u).mono (by decide:3<=11)) iZ Lh u9.k (u9.F.b1 (ps:=["self"])) | 4,_=>aR ((L3.dX (k:=2) uZ.F J ak.u).mono (by decide:3<=11)) gB Lg uZ.k (uZ.F.b1 (ps:=["self"])) | 5,_=>aR ((L3.dD (k:=7) uY.F J aV.u).mono (by decide:8<=11)) fc Lf uY.k (uY.F.b1 (ps:=["self"])) | 6,_=>aR ((L3.dY (k:=2) uV.F J ak.u).mono (by decide:3<=11)) gA Lb uV.k (uV.F.b1 (ps:=["self"])) | 7,_=>aR (L3.cX (k:=10) uX.F J nG.u aV.u) dS Ld uX.k (uX.F.b1 (ps:=["self"])) | 8,_=>aR (L3.cV (k:=10) uW.F J nG.u ak.u aV.u bJ.u) dR Lc uW.k (uW.F.b1 (ps:=["self"]))
 have nF:=L3.dA uy (mg_of X G Ls) (uy.F.b1 (ps:=["steps"])) (L3.bR (k:=11) (n:=2) uy.F J Gk.u)
 have Gj:L3.Ms l.prog w K mg base 13 9 ((L3.Ju A)) "as_rows" ["self"] ((L3.dw A 3)):=fun j hj=>match j,hj with | 0,_=>aR ((L3.fk (k:=2) ve.F J ak.u).mono (by decide:3<=13)) i0 Lk ve.k (ve.F.b1 (ps:=["self"])) | 1,_=>aR ((L3.cW (k:=2) vd.F J ak.u).mono (by decide:3<=13)) dU Lj vd.k (vd.F.b1 (ps:=["self"])) | 2,_=>aR ((L3.dB (k:=2) vc.F J ak.u).mono (by decide:3<=13)) ff Li vc.k (vc.F.b1 (ps:=["self"])) | 3,_=>aR ((L3.fj (k:=2) u9.F J ak.u).mono (by decide:3<=13)) iZ Lh u9.k (u9.F.b1 (ps:=["self"])) | 4,_=>aR ((L3.dX (k:=2) uZ.F J ak.u).mono (by decide:3<=13)) gB Lg uZ.k (uZ.F.b1 (ps:=["self"])) | 5,_=>aR ((L3.dD (k:=7) uY.F J aV.u).mono (by decide:8<=13)) fc Lf uY.k (uY.F.b1 (ps:=["self"])) | 6,_=>aR ((L3.dY (k:=2) uV.F J ak.u).mono (by decide:3<=13)) gA Lb uV.k (uV.F.b1 (ps:=["self"])) | 7,_=>aR (L3.cX (k:=12) uX.F J nF.u aV.u) dS Ld uX.k (uX.F.b1 (ps:=["self"])) | 8,_=>aR (L3.cV (k:=12) uW.F J nF.u ak.u aV.u bJ.u) dR Lc uW.k (uW.F.b1 (ps:=["self"]))
 have nE:=L3.dA uy (mg_of X G Ls) (uy.F.b1 (ps:=["steps"])) (L3.bR (k:=13) (n:=3) uy.F J Gj.u)
 have Gi:L3.Ms l.prog w K mg base 15 9 ((L3.Ju A)) "as_rows" ["self"] ((L3.dw A 4)):=fun j hj=>match j,hj with | 0,_=>aR ((L3.fk (k:=2) ve.F J ak.u).mono (by decide:3<=15)) i0 Lk ve.k (ve.F.b1 (ps:=["self"])) | 1,_=>aR ((L3.cW (k:=2) vd.F J ak.u).mono (by decide:3<=15)) dU Lj vd.k (vd.F.b1 (ps:=["self"])) | 2,_=>aR ((L3.dB (k:=2) vc.F J ak.u).mono (by decide:3<=15)) ff Li vc.k (vc.F.b1 (ps:=["self"])) | 3,_=>aR ((L3.fj (k:=2) u9.F J ak.u).mono (by decide:3<=15)) iZ Lh u9.k (u9.F.b1 (ps:=["self"])) | 4,_=>aR ((L3.dX (k:=2) uZ.F J ak.u).mono (by decide:3<=15)) gB Lg uZ.k (uZ.F.b1 (ps:=["self"])) | 5,_=>aR ((L3.dD (k:=7) uY.F J aV.u).mono (by decide:8<=15)) fc Lf uY.k (uY.F.b1 (ps:=["self"])) | 6,_=>aR ((L3.dY (k:=2) uV.F J ak.u).mono (by decide:3<=15)) gA Lb uV.k (uV.F.b1 (ps:=["self"])) | 7,_=>aR (L3.cX (k:=14) uX.F J nE.u aV.u) dS Ld uX.k (uX.F.b1 (ps:=["self"])) | 8,_=>aR (L3.cV (k:=14) uW.F J nE.u ak.u aV.u bJ.u) dR Lc uW.k (uW.F.b1 (ps:=["self"]))
 have nD:=L3.dA uy (mg_of X G Ls) (uy.F.b1 (ps:=["steps"])) (L3.bR (k:=15) (n:=4) uy.F J Gi.u)
 have Gh:L3.Ms l.prog w K mg base 17 9 ((L3.Ju A)) "as_rows" ["self"] ((L3.dw A 5)):=fun j hj=>match j,hj with | 0,_=>aR ((L3.fk (k:=2) ve.F J ak.u).mono (by decide:3<=17)) i0 Lk ve.k (ve.F.b1 (ps:=["self"])) | 1,_=>aR ((L3.cW (k:=2) vd.F J ak.u).mono (by decide:3<=17)) dU Lj vd.k (vd.F.b1 (ps:=["self"])) | 2,_=>aR ((L3.dB (k:=2) vc.F J ak.u).mono (by decide:3<=17)) ff Li vc.k (vc.F.b1 (ps:=["self"])) | 3,_=>aR ((L3.fj (k:=2) u9.F J ak.u).mono (by decide:3<=17)) iZ Lh u9.k (u9.F.b1 (ps:=["self"])) | 4,_=>aR ((L3.dX (k:=2) uZ.F J ak.u).mono (by decide:3<=17)) gB Lg uZ.k (uZ.F.b1 (ps:=["self"])) | 5,_=>aR ((L3.dD (k:=7) uY.F J aV.u).mono (by decide:8<=17)) fc Lf uY.k (uY.F.b1 (ps:=["self"])) | 6,_=>aR ((L3.dY (k:=2) uV.F J ak.u).mono (by decide:3<=17)) gA Lb uV.k (uV.F.b1 (ps:=["self"])) | 7,_=>aR (L3.cX (k:=16) uX.F J nD.u aV.u) dS Ld uX.k (uX.F.b1 (ps:=["self"])) | 8,_=>aR (L3.cV (k:=16) uW.F J nD.u ak.u aV.u bJ.u) dR Lc uW.k (uW.F.b1 (ps:=["self"]))
 have nC:=L3.dA uy (mg_of X G Ls) (uy.F.b1 (ps:=["steps"])) (L3.bR (k:=17) (n:=5) uy.F J Gh.u)
 have Gg:L3.Ms l.prog w K mg base 19 9 ((L3.Ju A)) "as_rows" ["self"] ((L3.dw A 6)):=fun j hj=>match j,hj with | 0,_=>aR ((L3.fk (k:=2) ve.F J ak.u).mono (by decide:3<=19)) i0 Lk ve.k (ve.F.b1 (ps:=["self"])) | 1,_=>aR ((L3.cW (k:=2) vd.F J ak.u).mono (by decide:3<=19)) dU Lj vd.k (vd.F.b1 (ps:=["self"])) | 2,_=>aR ((L3.dB (k:=2) vc.F J ak.u).mono (by decide:3<=19)) ff Li vc.k (vc.F.b1 (ps:=["self"])) | 3,_=>aR ((L3.fj (k:=2) u9.F J ak.u).mono (by decide:3<=19)) iZ Lh u9.k (u9.F.b1 (ps:=["self"])) | 4,_=>aR ((L3.dX (k:=2) uZ.F J ak.u).mono (by decide:3<=19)) gB Lg uZ.k (uZ.F.b1 (ps:=["self"])) | 5,_=>aR ((L3.dD (k:=7) uY.F J aV.u).mono (by decide:8<=19)) fc Lf uY.k (uY.F.b1 (ps:=["self"])) | 6,_=>aR ((L3.dY (k:=2) uV.F J ak.u).mono (by decide:3<=19)) gA Lb uV.k (uV.F.b1 (ps:=["self"])) | 7,_=>aR (L3.cX (k:=18) uX.F J nC.u aV.u) dS Ld uX.k (uX.F.b1 (ps:=["self"])) | 8,_=>aR (L3.cV (k:=18) uW.F J nC.u ak.u aV.u bJ.u) dR Lc uW.k (uW.F.b1 (ps:=["self"]))
 have nB:=L3.dA uy (mg_of X G Ls) (uy.F.b1 (ps:=["steps"])) (L3.bR (k:=19) (n:=6) uy.F J Gg.u)
 have Gf:L3.Ms l.prog w K mg base 21 9 ((L3.Ju A)) "as_rows" ["self"] ((L3.dw A 7)):=fun j hj=>match j,hj with | 0,_=>aR ((L3.fk (k:=2) ve.F J ak.u).mono (by decide:3<=21)) i0 Lk ve.k (ve.F.b1 (ps:=["self"])) | 1,_=>aR ((L3.cW (k:=2) vd.F J ak.u).mono (by decide:3<=21)) dU Lj vd.k (vd.F.b1 (ps:=["self"])) | 2,_=>aR ((L3.dB (k:=2) vc.F J ak.u).mono (by decide:3<=21)) ff Li vc.k (vc.F.b1 (ps:=["self"])) | 3,_=>aR ((L3.fj (k:=2) u9.F J ak.u).mono (by decide:3<=21)) iZ Lh u9.k (u9.F.b1 (ps:=["self"])) | 4,_=>aR ((L3.dX (k:=2) uZ.F J ak.u).mono (by decide:3<=21)) gB Lg uZ.k (uZ.F.b1 (ps:=["self"])) | 5,_=>aR ((L3.dD (k:=7) uY.F J aV.u).mono (by decide:8<=21)) fc Lf uY.k (uY.F.b1 (ps:=["self"])) | 6,_=>aR ((L3.dY (k:=2) uV.F J ak.u).mono (by decide:3<=21)) gA Lb uV.k (uV.F.b1 (ps:=["self"])) | 7,_=>aR (L3.cX (k:=20) uX.F J nB.u aV.u) dS Ld uX.k (uX.F.b1 (ps:=["self"])) | 8,_=>aR (L3.cV (k:=20) uW.F J nB.u ak.u aV.u bJ.u) dR Lc uW.k (uW.F.b1 (ps:=["self"]))
 have nA:=L3.dA uy (mg_of X G Ls) (uy.F.b1 (ps:=["steps"])) (L3.bR (k:=21) (n:=7) uy.F J Gf.u)
 have Ge:L3.Ms l.prog w K mg base 23 9 ((L3.Ju A)) "as_rows" ["self"] ((L3.dw A 8)):=fun j hj=>match j,hj with | 0,_=>aR ((L3.fk (k:=2) ve.F J ak.u).mono (by decide:3<=23)) i0 Lk ve.k (ve.F.b1 (ps:=["self"])) | 1,_=>aR ((L3.cW (k:=2) vd.F J ak.u).mono (by decide:3<=23)) dU Lj vd.k (vd.F.b1 (ps:=["self"])) | 2,_=>aR ((L3.dB (k:=2) vc.F J ak.u).mono (by decide:3<=23)) ff Li vc.k (vc.F.b1 (ps:=["self"])) | 3,_=>aR ((L3.fj (k:=2) u9.F J ak.u).mono (by decide:3<=23)) iZ Lh u9.k (u9.F.b1 (ps:=["self"])) | 4,_=>aR ((L3.dX (k:=2) uZ.F J ak.u).mono (by decide:3<=23)) gB Lg uZ.k (uZ.F.b1 (ps:=["self"])) | 5,_=>aR ((L3.dD (k:=7) uY.F J aV.u).mono (by decide:8<=23)) fc Lf uY.k (uY.F.b1 (ps:=["self"])) | 6,_=>aR ((L3.dY (k:=2) uV.F J ak.u).mono (by decide:3<=23)) gA Lb uV.k (uV.F.b1 (ps:=["self"])) | 7,_=>aR (L3.cX (k:=22) uX.F J nA.u aV.u) dS Ld uX.k (uX.F.b1 (ps:=["self"])) | 8,_=>aR (L3.cV (k:=22) uW.F J nA.u ak.u aV.u bJ.u) dR Lc uW.k (uW.F.b1 (ps:=["self"]))
 have nv:=L3.dA uy (mg_of X G Ls) (uy.F.b1 (ps:=["steps"])) (L3.bR (k:=23) (n:=8) uy.F J Ge.u)
 have Gd:L3.Ms l.prog w K mg base 25 9 ((L3.Ju A)) "as_rows" ["self"] ((L3.dw A 9)):=fun j hj=>match j,hj with | 0,_=>aR ((L3.fk (k:=2) ve.F J ak.u).mono (by decide:3<=25)) i0 Lk ve.k (ve.F.b1 (ps:=["self"])) | 1,_=>aR ((L3.cW (k:=2) vd.F J ak.u).mono (by decide:3<=25)) dU Lj vd.k (vd.F.b1 (ps:=["self"])) | 2,_=>aR ((L3.dB (k:=2) vc.F J ak.u).mono (by decide:3<=25)) ff Li vc.k (vc.F.b1 (ps:=["self"])) | 3,_=>aR ((L3.fj (k:=2) u9.F J ak.u).mono (by decide:3<=25)) iZ Lh u9.k (u9.F.b1 (ps:=["self"])) | 4,_=>aR ((L3.dX (k:=2) uZ.F J ak.u).mono (by decide:3<=25)) gB Lg uZ.k (uZ.F.b1 (ps:=["self"])) | 5,_=>aR ((L3.dD (k:=7) uY.F J aV.u).mono (by decide:8<=25)) fc Lf uY.k (uY.F.b1 (ps:=["self"])) | 6,_=>aR ((L3.dY (k:=2) uV.F J ak.u).mono (by decide:3<=25)) gA Lb uV.k (uV.F.b1 (ps:=["self"])) | 7,_=>aR (L3.cX (k:=24) uX.F J nv.u aV.u) dS Ld uX.k (uX.F.b1 (ps:=["self"])) | 8,_=>aR (L3.cV (k:=24) uW.F J nv.u ak.u aV.u bJ.u) dR Lc uW.k (uW.F.b1 (ps:=["self"]))
 have vB:=L3.dA uy (mg_of X G Ls) (uy.F.b1 (ps:=["steps"])) (L3.bR (k:=25) (n:=9) uy.F J Gd.u)
 have Il:L3.Ms l.prog w K mg base 27 1 ((fun _=>A.bN)) "as_rows" ["self"] ((fun _=>L3.Ai A)):=fun j hj=>aR (L3.AK (k:=26) WG.F J vB.u bJ.u) vg ZN WG.k (WG.F.b1 (ps:=["self"]))
 have s8:=L3.dA WE (mg_of X G a58) (WE.F.b1 (ps:=["program"])) (L3.uN (k:=27) WE.F J Il.u)
 have yD:=L3.dA WD (mg_of X G a59) (WD.F.b1 (ps:=["rows"])) (L3.zj (P:=l.prog) (w:=w) (base:=base) (k:=0) WD.F J )
 have Gq:=L3.dA WC (mg_of X G a60) (WC.F.b1 (ps:=["program"])) (L3.G3 (k:=28) WC.F J yD.u s8.u)
 have uK:=L3.dA WB (mg_of X G a61) (WB.F.b2 (ps:=["_law_cell","_law_k"])) (L3.G6 (P:=l.prog) (w:=w) (base:=base) (k:=0) WB.F J )
 have zH:=L3.dA WA (mg_of X G a62) (WA.F.b2 (ps:=["_law_script","_law_k"])) (L3.DL (k:=1) WA.F J uK.u)
 have ck:=L3.dA Wz (mg_of X G a63) (Wz.F.b2 (ps:=["_law_draw","_law_size"])) (L3.JW (k:=1) Wz.F J uK.u)
 have aN:=L3.dA Wy (mg_of X G a64) (Wy.F.b2 (ps:=["_law_rows","_law_text_here"])) (L3.DJ (P:=l.prog) (w:=w) (base:=base) (k:=0) Wy.F J )
 have aG:=L3.dA Wx (mg_of X G a65) (Wx.F.b1 (ps:=["_law_one"])) (L3.BW (P:=l.prog) (w:=w) (base:=base) (k:=0) Wx.F J )
 have Cv:Dn l.prog w K mg base 1 "_law_text" ["_law_told"] (L3.bA K ((L3.wm 0):L3.fD)):=L3.dA Ka (mg_of X G UZ) (Ka.F.b1 (ps:=["_law_told"])) (L3.dN L3.SY)
 have Cu:=L3.dA Ka (mg_of X G UZ) (Ka.F.b1 (ps:=["_law_told"])) (L3.x9 (k:=1) (n:=0) Ka.F J Cv.u aG.u)
 have Ct:=L3.dA Ka (mg_of X G UZ) (Ka.F.b1 (ps:=["_law_told"])) (L3.x9 (k:=2) (n:=1) Ka.F J Cu.u aG.u)
 have aZ:=L3.dA Ka (mg_of X G UZ) (Ka.F.b1 (ps:=["_law_told"])) (L3.x9 (k:=3) (n:=2) Ka.F J Ct.u aG.u)
 have ug:Dn l.prog w K mg base 1 "_law_laid_block" ["_law_step_here","_law_rows"] (L3.bA K ((L3.zJ 0):L3.fD)):=L3.dA uU (mg_of X G Lq) (uU.F.b2 (ps:=["_law_step_here","_law_rows"])) (L3.dN L3.SX)
 have vV:=L3.dA ux (mg_of X G Lr) (ux.F.b2 (ps:=["_law_step_here","_law_rows"])) (L3.cz (k:=4) (n:=0) ux.F J ug.u aN.u aG.u aZ.u)
 have uf:=L3.dA uU (mg_of X G Lq) (uU.F.b2 (ps:=["_law_step_here","_law_rows"])) (L3.cF (k:=5) (n:=0) uU.F J vV.u aN.u aG.u aZ.u)
 have vU:=L3.dA ux (mg_of X G Lr) (ux.F.b2 (ps:=["_law_step_here","_law_rows"])) (L3.cz (k:=6) (n:=1) ux.F J uf.u aN.u aG.u aZ.u)
 have ue:=L3.dA uU (mg_of X G Lq) (uU.F.b2 (ps:=["_law_step_here","_law_rows"])) (L3.cF (k:=7) (n:=1) uU.F J vU.u aN.u aG.u aZ.u)
 have vS:=L3.dA ux (mg_of X G Lr) (ux.F.b2 (ps:=["_law_step_here","_law_rows"])) (L3.cz (k:=8) (n:=2) ux.F J ue.u aN.u aG.u aZ.u)
 have ud:=L3.dA uU (mg_of X G Lq) (uU.F.b2 (ps:=["_law_step_here","_law_rows"])) (L3.cF (k:=9) (n:=2) uU.F J vS.u aN.u aG.u aZ.u)
 have vR:=L3.dA ux (mg_of X G Lr) (ux.F.b2 (ps:=["_law_step_here","_law_rows"])) (L3.cz (k:=10) (n:=3) ux.F J ud.u aN.u aG.u aZ.u)
 have uc:=L3.dA uU (mg_of X G Lq) (uU.F.b2 (ps:=["_law_step_here","_law_rows"])) (L3.cF (k:=11) (n:=3) uU.F J vR.u aN.u aG.u aZ.u)
 have vQ:=L3.dA ux (mg_of X G Lr) (ux.F.b2 (ps:=["_law_step_here","_law_rows"])) (L3.cz (k:=12) (n:=4) ux.F J uc.u aN.u aG.u aZ.u)
 have ua:=L3.dA uU (mg_of X G Lq) (uU.F.b2 (ps:=["_law_step_here","_law_rows"])) (L3.cF (k:=13) (n:=4) uU.F J vQ.u aN.u aG.u aZ.u)
 have vP:=L3.dA ux (mg_of X G Lr) (ux.F.b2 (ps:=["_law_step_here","_law_rows"])) (L3.cz (k:=14) (n:=5) ux.F J ua.u aN.u aG.u aZ.u)
 have t9:=L3.dA uU (mg_of X G Lq) (uU.F.b2 (ps:=["_law_step_here","_law_rows"])) (L3.cF (k:=15) (n:=5) uU.F J vP.u aN.u aG.u aZ.u)
 have vO:=L3.dA ux (mg_of X G Lr) (ux.F.b2 (ps:=["_law_step_here","_law_rows"])) (L3.cz (k:=16) (n:=6) ux.F J t9.u aN.u aG.u aZ.u)
 have t6:=L3.dA uU (mg_of X G Lq) (uU.F.b2 (ps:=["_law_step_here","_law_rows"])) (L3.cF (k:=17) (n:=6) uU.F J vO.u aN.u aG.u aZ.u)
 have vN:=L3.dA ux (mg_of X G Lr) (ux.F.b2 (ps:=["_law_step_here","_law_rows"])) (L3.cz (k:=18) (n:=7) ux.F J t6.u aN.u aG.u aZ.u)
 have tZ:=L3.dA uU (mg_of X G Lq) (uU.F.b2 (ps:=["_law_step_here","_law_rows"])) (L3.cF (k:=19) (n:=7) uU.F J vN.u aN.u aG.u aZ.u)
 have vM:=L3.dA ux (mg_of X G Lr) (ux.F.b2 (ps:=["_law_step_here","_law_rows"])) (L3.cz (k:=20) (n:=8) ux.F J tZ.u aN.u aG.u aZ.u)
 have tY:=L3.dA uU (mg_of X G Lq) (uU.F.b2 (ps:=["_law_step_here","_law_rows"])) (L3.cF (k:=21) (n:=8) uU.F J vM.u aN.u aG.u aZ.u)
 have xO:=L3.dA ux (mg_of X G Lr) (ux.F.b2 (ps:=["_law_step_here","_law_rows"])) (L3.cz (k:=22) (n:=9) ux.F J tY.u aN.u aG.u aZ.u)
 have Ep:=L3.dA Ww (mg_of X G a69) (Ww.F.b1 (ps:=["_law_helpers"])) (L3.JX (k:=23) Ww.F J xO.u aN.u aZ.u)
 have bz:=L3.dA Wv (mg_of X G a70) (Wv.F.b1 (ps:=["_law_one"])) (L3.BX (k:=3) Wv.F J Io.u)
 have pF:Dn l.prog w K mg base 1 "_law_condition_made" ["_law_told"] (L3.bA K ((L3.Ah A 0):L3.fD)):=L3.dA J9 (mg_of X G UY) (J9.F.b1 (ps:=["_law_told"])) (L3.dN L3.S6)
 have pC:=L3.dA J9 (mg_of X G UY) (J9.F.b1 (ps:=["_law_told"])) (L3.iE (k:=4) (n:=0) J9.F J Bs.u yC.u vA.u pF.u rY.u bz.u)
 have pB:=L3.dA J9 (mg_of X G UY) (J9.F.b1 (ps:=["_law_told"])) (L3.iE (k:=5) (n:=1) J9.F J Bs.u yC.u vA.u pC.u rY.u bz.u)
 have aW:=L3.dA J9 (mg_of X G UY) (J9.F.b1 (ps:=["_law_told"])) (L3.iE (k:=6) (n:=2) J9.F J Bs.u yC.u vA.u pB.u rY.u bz.u)
 have bB:=L3.dA Wu (mg_of X G a72) (Wu.F.b1 (ps:=["_law_pairs"])) (L3.zl (k:=7) Wu.F J aW.u)
 have tX:Dn l.prog w K mg base 1 "_law_step_made" ["_law_told"] (L3.bA K ((L3.jq A 0):L3.fD)):=L3.dA uT (mg_of X G Lo) (uT.F.b1 (ps:=["_law_told"])) (L3.dN L3.MU)
 have tM:=L3.dA uw (mg_of X G Lp) (uw.F.b1 (ps:=["_law_steps_here"])) (L3.bZ (k:=1) (n:=0) uw.F J tX.u)
 have vL:=L3.dA uT (mg_of X G Lo) (uT.F.b1 (ps:=["_law_told"])) (L3.cU (k:=8) (n:=0) uT.F J gc.u tM.u bB.u bz.u gj.u aW.u jO.u iu.u jN.u mO.u ig.u gi.u mP.u)
 have tW:Dn l.prog w K mg base 9 "_law_step_made" ["_law_told"] (L3.bA K (L3.jq A 1)):=vL
 have tL:=L3.dA uw (mg_of X G Lp) (uw.F.b1 (ps:=["_law_steps_here"])) (L3.bZ (k:=9) (n:=1) uw.F J tW.u)
 have vK:=L3.dA uT (mg_of X G Lo) (uT.F.b1 (ps:=["_law_told"])) (L3.cU (k:=10) (n:=1) uT.F J gc.u tL.u bB.u bz.u gj.u aW.u jO.u iu.u jN.u mO.u ig.u gi.u mP.u)
 have tV:Dn l.prog w K mg base 11 "_law_step_made" ["_law_told"] (L3.bA K (L3.jq A 2)):=vK
 have tK:=L3.dA uw (mg_of X G Lp) (uw.F.b1 (ps:=["_law_steps_here"])) (L3.bZ (k:=11) (n:=2) uw.F J tV.u)
 have vJ:=L3.dA uT (mg_of X G Lo) (uT.F.b1 (ps:=["_law_told"])) (L3.cU (k:=12) (n:=2) uT.F J gc.u tK.u bB.u bz.u gj.u aW.u jO.u iu.u jN.u mO.u ig.u gi.u mP.u)
 have tU:Dn l.prog w K mg base 13 "_law_step_made" ["_law_told"] (L3.bA K (L3.jq A 3)):=vJ
 have tH:=L3.dA uw (mg_of X G Lp) (uw.F.b1 (ps:=["_law_steps_here"])) (L3.bZ (k:=13) (n:=3) uw.F J tU.u)
 have vI:=L3.dA uT (mg_of X G Lo) (uT.F.b1 (ps:=["_law_told"])) (L3.cU (k:=14) (n:=3) uT.F J gc.u tH.u bB.u bz.u gj.u aW.u jO.u iu.u jN.u mO.u ig.u gi.u mP.u)
 have tS:Dn l.prog w K mg base 15 "_law_step_made" ["_law_told"] (L3.bA K (L3.jq A 4)):=vI
 have tG:=L3.dA uw (mg_of X G Lp) (uw.F.b1 (ps:=["_law_steps_here"])) (L3.bZ (k:=15) (n:=4) uw.F J tS.u)
 have vH:=L3.dA uT (mg_of X G Lo) (uT.F.b1 (ps:=["_law_told"])) (L3.cU (k:=16) (n:=4) uT.F J gc.u tG.u bB.u bz.u gj.u aW.u jO.u iu.u jN.u mO.u ig.u gi.u mP.u)
 have tR:Dn l.prog w K mg base 17 "_law_step_made" ["_law_told"] (L3.bA K (L3.jq A 5)):=vH
 have tE:=L3.dA uw (mg_of X G Lp) (uw.F.b1 (ps:=["_law_steps_here"])) (L3.bZ (k:=17) (n:=5) uw.F J tR.u)
 have vG:=L3.dA uT (mg_of X G Lo) (uT.F.b1 (ps:=["_law_told"])) (L3.cU (k:=18) (n:=5) uT.F J gc.u tE.u bB.u bz.u gj.u aW.u jO.u iu.u jN.u mO.u ig.u gi.u mP.u)
 have tQ:Dn l.prog w K mg base 19 "_law_step_made" ["_law_told"] (L3.bA K (L3.jq A 6)):=vG
 have tD:=L3.dA uw (mg_of X G Lp) (uw.F.b1 (ps:=["_law_steps_here"])) (L3.bZ (k:=19) (n:=6) uw.F J tQ.u)
 have vF:=L3.dA uT (mg_of X G Lo) (uT.F.b1 (ps:=["_law_told"])) (L3.cU (k:=20) (n:=6) uT.F J gc.u tD.u bB.u bz.u gj.u aW.u jO.u iu.u jN.u mO.u ig.u gi.u mP.u)
 have tP:Dn l.prog w K mg base 21 "_law_step_made" ["_law_told"] (L3.bA K (L3.jq A 7)):=vF
 have tu:=L3.dA uw (mg_of X G Lp) (uw.F.b1 (ps:=["_law_steps_here"])) (L3.bZ (k:=21) (n:=7) uw.F J tP.u)
 have vE:=L3.dA uT (mg_of X G Lo) (uT.F.b1 (ps:=["_law_told"])) (L3.cU (k:=22) (n:=7) uT.F J gc.u tu.u bB.u bz.u gj.u aW.u jO.u iu.u jN.u mO.u ig.u gi.u mP.u)
 have tO:Dn l.prog w K mg base 23 "_law_step_made" ["_law_told"] (L3.bA K (L3.jq A 8)):=vE
 have s9:=L3.dA uw (mg_of X G Lp) (uw.F.b1 (ps:=["_law_steps_here"])) (L3.bZ (k:=23) (n:=8) uw.F J tO.u)
 have vD:=L3.dA uT (mg_of X G Lo) (uT.F.b1 (ps:=["_law_told"])) (L3.cU (k:=24) (n:=8) uT.F J gc.u s9.u bB.u bz.u gj.u aW.u jO.u iu.u jN.u mO.u ig.u gi.u mP.u)
 have tN:Dn l.prog w K mg base 25 "_law_step_made" ["_law_told"] (L3.bA K (L3.jq A 9)):=vD
 have vC:=L3.dA uw (mg_of X G Lp) (uw.F.b1 (ps:=["_law_steps_here"])) (L3.bZ (k:=25) (n:=9) uw.F J tN.u)
 have uh:=L3.dA Wt (mg_of X G a75) (Wt.F.b1 (ps:=["_law_told"])) (L3.yf (k:=26) Wt.F J Im.u bB.u vC.u)
 have Er:=L3.dA Ws (mg_of X G a76) (Ws.F.b0 (ps:=[])) (L3.JY (P:=l.prog) (w:=w) (base:=base) (k:=0) Ws.F J )
 have uJ:=L3.dA Wr (mg_of X G a77) (Wr.F.b2 (ps:=["_law_draw","_law_many"])) (L3.G5 (k:=2) Wr.F J Er.u ck.u)
 have gZ:=L3.dA Wq (mg_of X G a78) (Wq.F.b2 (ps:=["_law_draw","_law_things"])) (L3.MQ (k:=2) Wq.F J ck.u)
 have uq:Dn l.prog w K mg base 1 "_law_condition" ["_law_draw","_law_things","_law_deep"] (L3.bA K ((L3.wu 0):L3.fD)):=L3.dA J8 (mg_of X G UX) (J8.F.b3 (ps:=["_law_draw","_law_things","_law_deep"])) (L3.dN L3.MU)
 have vX:=L3.dA J8 (mg_of X G UX) (J8.F.b3 (ps:=["_law_draw","_law_things","_law_deep"])) (L3.m8 (k:=3) (n:=0) J8.F J uq.u ck.u gZ.u)
 have uo:Dn l.prog w K mg base 4 "_law_condition" ["_law_draw","_law_things","_law_deep"] (L3.bA K (L3.wu 1)):=vX
 have nI:=L3.dA J8 (mg_of X G UX) (J8.F.b3 (ps:=["_law_draw","_law_things","_law_deep"])) (L3.m8 (k:=4) (n:=1) J8.F J uo.u ck.u gZ.u)
 have um:Dn l.prog w K mg base 5 "_law_condition" ["_law_draw","_law_things","_law_deep"] (L3.bA K (L3.wu 2)):=nI
 have vW:=L3.dA J8 (mg_of X G UX) (J8.F.b3 (ps:=["_law_draw","_law_things","_law_deep"])) (L3.m8 (k:=5) (n:=2) J8.F J um.u ck.u gZ.u)
 have gH:=nI
 have oK:=L3.dA Wo (mg_of X G a80) (Wo.F.b1 (ps:=["_law_helpers"])) (L3.G4 (P:=l.prog) (w:=w) (base:=base) (k:=0) Wo.F J )
 have qt:=L3.dA Wn (mg_of X G a81) (Wn.F.b3 (ps:=["_law_draw","_law_own","_law_helper_here"])) (L3.JZ (k:=3) Wn.F J ck.u gZ.u)
 have zF:Dn l.prog w K mg base 1 "_law_steps" ["_law_draw","_law_own","_law_many","_law_deep","_law_helpers"] (L3.bA K ((L3.r8 0):L3.fD)):=L3.dA J7 (mg_of X G UW) (J7.F.b5 (ps:=["_law_draw","_law_own","_law_many","_law_deep","_law_helpers"])) (L3.dN L3.MU)
 have CC:=L3.dA M7 (mg_of X G XF) (M7.F.b4 (ps:=["_law_draw","_law_own","_law_deep","_law_helpers"])) (L3.ye (k:=5) (n:=0) M7.F J gZ.u oK.u qt.u ck.u gH.u zF.u)
 have Bv:=L3.dA J7 (mg_of X G UW) (J7.F.b5 (ps:=["_law_draw","_law_own","_law_many","_law_deep","_law_helpers"])) (L3.uO (k:=6) (n:=0) J7.F J CC.u)
 have zE:Dn l.prog w K mg base 7 "_law_steps" ["_law_draw","_law_own","_law_many","_law_deep","_law_helpers"] (L3.bA K (L3.r8 1)):=Bv
 have CB:=L3.dA M7 (mg_of X G XF) (M7.F.b4 (ps:=["_law_draw","_law_own","_law_deep","_law_helpers"])) (L3.ye (k:=7) (n:=1) M7.F J gZ.u oK.u qt.u ck.u gH.u zE.u)
 have Bu:=L3.dA J7 (mg_of X G UW) (J7.F.b5 (ps:=["_law_draw","_law_own","_law_many","_law_deep","_law_helpers"])) (L3.uO (k:=8) (n:=1) J7.F J CB.u)
 have zD:Dn l.prog w K mg base 9 "_law_steps" ["_law_draw","_law_own","_law_many","_law_deep","_law_helpers"] (L3.bA K (L3.r8 2)):=Bu
 have CA:=L3.dA M7 (mg_of X G XF) (M7.F.b4 (ps:=["_law_draw","_law_own","_law_deep","_law_helpers"])) (L3.ye (k:=9) (n:=2) M7.F J gZ.u oK.u qt.u ck.u gH.u zD.u)
 have Cw:=L3.dA J7 (mg_of X G UW) (J7.F.b5 (ps:=["_law_draw","_law_own","_law_many","_law_deep","_law_helpers"])) (L3.uO (k:=10) (n:=2) J7.F J CA.u)
 have Bw:=L3.dA Wm (mg_of X G a84) (Wm.F.b5 (ps:=["_law_draw","_law_name","_law_names_here","_law_many","_law_helpers"])) (L3.E4 (k:=11) Wm.F J Cw.u gH.u ck.u)
 have zG:=L3.dA Wl (mg_of X G a85) (Wl.F.b2 (ps:=["_law_draw","_law_many"])) (L3.DK (k:=12) Wl.F J ck.u Bw.u uJ.u)
 have CD:=L3.dA Wk (mg_of X G a86) (Wk.F.b1 (ps:=["_law_draw"])) (L3.G7 (k:=6) Wk.F J ck.u vW.u uJ.u)
 exact L3.aE L3.Ti ((L3.SV (k:=29) F87 J Ik.u Gq.u zH.u Gp.u uh.u Ep.u ck.u CD.u zG.u).mono (by decide:30<=60))
theorem walk {l:PySem.W.OpenLaw}{q:Program}{loose:List Str}{XP:(Str->Option Value)->Heap->Prop}{YP:World->Heap->Prop}{d:DefRec}{K:Params->PySem.W.Frag}(hn:l.most=some 63)(hdf:d.params.defaults=[])
  (hY:∀ (w:World) (h:Heap),YP w h->(K w.params).In h)
  (F:∀ (w:World) (mg:Str->Option Value) (fa:Addr) (h:Heap),(K w.params).In h->h.Ns mainGlobals mg->mg d.name=some (.ref fa) ->
   ∃ fd:FuncData,(∀ (s:Shared) (u:Value),BindsTo s fd ⟨[u],[]⟩ [("_law_script",u)])/\∀ base:Heap,(K w.params).In base->base.Ns mainGlobals mg->aU l.prog w (K w.params) mg base dG 60 fa fd ["_law_script"] (II (K w.params))) :
  PySem.W.WalkO q loose XP YP l.row.toRowW d [] (fun f vs=>PySem.call f vs) :=
 L2.Ob (n:=63) (k:=60) (x:="_law_script") (CX:=fun _=>dG) (sp:=fun w=>II (K w.params)) hn (by decide) hdf ⟨rfl,by decide,by decide⟩ hY F (fun _ _ a ns hl _ hS=>⟨a,ns,rfl,hS,hl,fun _=>rfl⟩) fun _ _ _ _ _ z=>z
end Hw
open PySem PySem.W PyProof.Rows
set_option maxRecDepth 100000 in
set_option maxHeartbeats 0 in
theorem PySem.Challenge.cw_holdwright_k11_written_holds : PySem.Challenge.rw_holdwright_k11_written.Holds := by
 refine Hd ?_
 k_fill
 refine Hw.walk (l:=PySem.Challenge.rw_holdwright_k11_written) rfl rfl (fun w h Y=>Y) ?F
 case F =>
  intro w mg fa h KX G hmg
  refine' Hw.all_mk KX G hmg ?Fq ?EV ?k8 ?jE ?o4 ?oQ ?iM ?gS ?gw ?rB ?qS ?eS ?oY ?w6 ?wN ?eU ?A2 ?Az ?fm ?Fv ?EX ?rj ?ni ?lA ?rE ?qW ?lE ?iL ?iK ?gR ?lD ?w5 ?wM ?nj ?jF ?lC ?iJ ?Ft ?EW ?q9 ?oS ?lu ?lg ?A3 ?AA ?oU ?nh ?ly ?w9 ?wO ?nk ?fu ?A4 ?AB ?oV ?jG ?iO ?jH ?rF ?qX ?lF ?eV ?iN ?gT ?rC ?qU ?k9 ?eT ?gK ?gM ?iH ?rD ?qV ?lB ?iI ?gu ?fP ?gP ?gQ ?gO ?oZ ?oO ?fq ?HA ?Ro ?qC ?qB ?Rn ?Rm ?HV ?i1 ?l1 ?a2 ?l2 ?jL ?i3 ?l3 ?vh ?i4 ?l4 ?yv ?i5 ?l5 ?HU ?i6 ?l6 ?yu ?i7 ?l7 ?Bh ?i8 ?l8 ?HS ?i9 ?l9 ?Bm ?ZW ?X5 ?yx ?ZV ?X4 ?WQ ?yw ?Bl ?X7 ?UI ?Bj ?ZU ?X3 ?vn ?ZT ?X0 ?vm ?ZS ?XZ ?vj ?ZR ?XY ?rP ?ZQ ?XX ?a19 ?WO ?a20 ?WN ?K6 ?rq ?jj ?UQ ?Km ?kj ?UP ?Kl ?mS ?UO ?Kh ?o7 ?UN ?Kg ?ic ?KN ?sO ?dm ?KL ?sN ?eO ?KJ ?sM ?ia ?KI ?sL ?fU ?KH ?sJ ?eN ?KG ?sI ?fT ?KC ?sH ?dj ?KA ?sG ?di ?Kz ?sF ?dh ?Ky ?sE ?rO ?ZP ?WM ?a37 ?WL ?a38 ?WK ?a39 ?WJ ?Eh ?ZO ?WI ?ji ?UM ?Kf ?ki ?UL ?Ke ?mR ?UK ?Kd ?o6 ?UJ ?Kc ?XG ?M8 ?i0 ?Lk ?ve ?dU ?Lj ?vd ?ff ?Li ?vc ?iZ ?Lh ?u9 ?gB ?Lg ?uZ ?fc ?Lf ?uY ?dS ?Ld ?uX ?dR ?Lc ?uW ?Ls ?uy ?a55 ?WH ?gA ?Lb ?uV ?vg ?ZN ?WG ?a58 ?WE ?a59 ?WD ?a60 ?WC ?a61 ?WB ?a62 ?WA ?a63 ?Wz ?a64 ?Wy ?a65 ?Wx ?UZ ?Ka ?Lr ?ux ?Lq ?uU ?a69 ?Ww ?a70 ?Wv ?UY ?J9 ?a72 ?Wu ?Lp ?uw ?Lo ?uT ?a75 ?Wt ?a76 ?Ws ?a77 ?Wr ?a78 ?Wq ?UX ?J8 ?a80 ?Wo ?a81 ?Wn ?UW ?J7 ?XF ?M7 ?a84 ?Wm ?a85 ?Wl ?a86 ?Wk ?a87 ?Zr ?Rl ?c87 ?Zx ?Ly ?C7 ?Gx ?zU ?Lz ?Lx ?pI ?C8 ?LA ?Zw ?Zv ?Zu ?Zt
  (case Fq|o4|rB|oY|w6|A2|Fv|rE|w5|Ft|A3|w9|A4|rF|rC|rD|oZ|HA|Ro|k8|jE|iM|gS|gw|eS|eU|fm|rj|ni|lA|lE|iL|iK|gR|lD|nj|jF|lC|iJ|q9|oS|lu|lg|oU|nh|ly|nk|fu|oV|jG|iO|jH|lF|eV|iN|gT|k9|eT|gK|gM=>k_is)
  (case iH|lB|iI|gu|fP|gP|gQ|gO|fq|qC|qB|Rn|Rm|HV|i1|a2|jL|i3|vh|i4|yv|i5|HU|i6|yu|i7|Bh|i8|HS|i9|Bm|ZW|yx|ZV|yw|Bl|X7|Bj|ZU|vn|ZT|vm|ZS|vj|ZR|rP|ZQ|a19|a20|K6|jj|UQ|kj|UP|mS|UO|o7|UN|ic|KN=>k_is)
  (case dm|KL|eO|KJ|ia|KI|fU|KH|eN|KG|fT|KC|dj|KA|di|Kz|dh|Ky|rO|ZP|a37|a38|a39|Eh|ZO|ji|UM|ki|UL|mR|UK|o6|UJ|XG|i0|Lk|dU|Lj|ff|Li|iZ|Lh|gB|Lg|fc|Lf|dS|Ld|dR|Lc|Ls|a55|gA|Lb|vg|ZN|a58|a59|a60|a61=>k_is)
  (case a62|a63|a64|a65|UZ|Lr|Lq|a69|a70|UY|a72|Lp|Lo|a75|a76|a77|a78|UX|a80|a81|UW|XF|a84|a85|a86|a87|Zr|c87|Zx|Ly|C7|Gx|zU|Lz|Lx|pI|C8|LA=>k_is)
  (case EV|oQ|qS|wN|Az|EX|qW|wM|EW|AA|wO|AB|qX|qU|qV|oO=>(refine⟨?_,?_,?_,?_,?_,?_,?_,?_⟩ <;> k_is))
  (case l1|l2|l3|l4|l5|l6|l7|l8|l9|X5|X4|WQ|UI|X3|X0|XZ|XY|XX|WO|WN|rq|Km|Kl|Kh|Kg|sO|sN|sM|sL|sJ|sI|sH|sG|sF|sE|WM|WL|WK|WJ|WI|Kf|Ke|Kd|Kc|M8|ve|vd|vc|u9|uZ|uY|uX|uW|uy|WH|uV|WG|WE|WD|WC=>(refine' Hw.Xh ?ya ?yb ?yc ?yd;(case ya=>k_is);(case yb=>kernel_rfl);(case yc|yd=>k_is)))
  (case WB|WA|Wz|Wy|Wx|Ka|ux|uU|Ww|Wv|J9|Wu|uw|uT|Wt|Ws|Wr|Wq|J8|Wo|Wn|J7|M7|Wm|Wl|Wk=>(refine' Hw.Xh ?ya ?yb ?yc ?yd;(case ya=>k_is);(case yb=>kernel_rfl);(case yc|yd=>k_is)))
  (case Zw|Zv|Zu|Zt=>kit_is)
  (case Rl=>kernel_rfl)
#print axioms PySem.Challenge.cw_holdwright_k11_written_holds
