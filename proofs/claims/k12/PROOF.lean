import PyProof.Rows.All
import Wide.All
import OpenK.KLine
import OpenK.KWalk
import KE.KNestM
import KE.RegKIsAll
import KE.KxBytes
import KE.KItem
import KE.KDictOf
import KE.KDictSum
import KE.LcSums
import KE.KxText
import Wide.FinOn
import Lean
import PyProof.EqAt
import PyProof.EqKinds
import PyProof.TupleCall
import PySem.Spec
import PyProof.NeKinds
import KE.KDictList
import KE.KPairComp
import PyProof.DictWalks
import PyProof.ExcClass3
import PyProof.ExcInit
import PyProof.ExcBaseAll.ValueError
import OpenK.KMore
import PyProof.RaisesMany
import PyProof.FString5
import PyProof.StrLawsIn
import PyProof.Rows.SetFrom
import PyProof.ExcAttrAll.ValueError
import KE.KIsAll
import PyProof.RulesAs
import KE.KIntText
import PyProof.Rows.StrNews2
import PyProof.Rows.Range3
import PyProof.StrLawsTight
import PyProof.StrLawsChain
import PyProof.Rows.StrPins
import PyProof.Rows.StrCut
import PyProof.Rows.StrMadeLen
import PyProof.Rows.StrBin
import PySem.Challenge.RW_holdwright_k12_rows_read
set_option Elab.async false
set_option linter.all false
set_option maxRecDepth 100000
namespace Hq
open PySem PySem.W
noncomputable def d1 (l:List Obj):List Obj:=@List.rec Obj (fun _=>List Obj) [] (fun _ t _=>t) l
noncomputable def d4 (l:List Obj):List Obj:=d1 (d1 (d1 (d1 l)))
noncomputable def d32 (l:List Obj):List Obj:=d4 (d4 (d4 (d4 (d4 (d4 (d4 (d4 l)))))))
noncomputable def gB (l:List Obj) (k:Nat):List Obj:=@Nat.rec (fun _=>List Obj) l (fun _ r=>d32 r) k
noncomputable def gA (i:Nat):List Obj→Option Obj:=@Nat.rec (fun _=>List Obj→Option Obj) (fun l=>@List.rec Obj (fun _=>Option Obj) none (fun x _ _=>some x) l) (fun _ ih l=>ih (d1 l)) i
def nF (o:Option Obj):Option Obj:=match o with|some ⟨_,_,.freed,_⟩=>none|o=>o
noncomputable def gQ (h:Heap) (a:Addr):Option Obj:=nF (gA (Nat.mod a 32) (gB h.objs.toList (Nat.div a 32)))
theorem d1_eq (l:List Obj):d1 l=l.drop 1:=by cases l<;>rfl
theorem d32_eq (l:List Obj):d32 l=l.drop 32:=by
 unfold d32 d4;simp only [d1_eq,List.drop_drop]
theorem gB_eq (l:List Obj):∀ k,gB l k=l.drop (32*k)
 |0=>rfl
 |k+1=>by
  show d32 (gB l k)=_;rw [gB_eq l k,d32_eq,List.drop_drop,Nat.mul_succ]
theorem gA_eq:∀ (i:Nat) (l:List Obj),gA i l=l[i]?
 |0,l=>by cases l<;>rfl
 |i+1,l=>by
  show gA i (d1 l)=_;rw [gA_eq i,d1_eq,List.getElem?_drop,Nat.add_comm]
theorem gQ_eq:gQ=Heap.get?:=by
 funext h a;show nF (gA (a%32) (gB h.objs.toList (a/32)))=nF h.objs[a]?;rw [gA_eq,gB_eq,List.getElem?_drop,Nat.div_add_mod,Array.getElem?_toList]
noncomputable def hk (K:Params→Frag) (as:List Addr) (e:∀ P,as=(K P).map (·.1)):Hook:=⟨List (Option Obj),fun s=>as.map (gQ s.heap),fun w=>(K w.params).map fun p=>some p.2,InK K,fun w s x=>InK.of e w s (by rw [gQ_eq] at x; exact x),InK.keeps⟩
end Hq
local macro_rules|`(tactic|o_head (kHook $k $a $e))=>`(tactic|o_head (Hq.hk $k $a $e))
namespace PySem.W.Fast
noncomputable def te13052408679150730464:=0
noncomputable def te4110290226886642065:=0
noncomputable def te5369427470323729400:=0
noncomputable def te12305933238918452080:=0
noncomputable def te16555476440528808052:=0
noncomputable def te4868988410673395695:=0
noncomputable def te5452508617037859911:=0
noncomputable def te11152381544001756331:=0
end PySem.W.Fast
set_option maxHeartbeats 0 in
open_top Hd for PySem.Challenge.rw_holdwright_k12_rows_read
namespace L2
open PySem PySem.Spec PyProof.Rows
noncomputable abbrev Key:=Sum Int Str
noncomputable def yk:Key->Value->Bool
 | .inl k,v=>Value.isInt k v
 | .inr x,v=>Value.isStrOf x v
noncomputable def a3D (w:World):Key->Int
 | .inl k=>hashInt k
 | .inr x=>hashStr w x
theorem b9:∀ {k:Key} {v:Value},yk k v=true->(∃ i t,k=Sum.inl i/\v=Value.int i t)∨(∃ x t,k=Sum.inr x/\v=Value.str x t)
 | .inl i,v,h=>by
  obtain⟨t,e⟩:=Value.isInt_shape (k:=i) (v:=v) h;exact .inl ⟨i,t,rfl,e⟩
 | .inr x,v,h=>by
  obtain⟨t,e⟩:=Value.isStrOf_shape (x:=x) (v:=v) h;exact .inr ⟨x,t,rfl,e⟩
theorem KQ (i:Int)(t:Tok):yk (.inl i) (.int i t)=true:=by simp[yk,Value.isInt]
theorem KP (x:Str)(t:Tok):yk (.inr x) (.str x t)=true:=by simp[yk,Value.isStrOf]
theorem WQ (a b:Int):decide ((Sum.inl a:Key)=Sum.inl b)=(a == b):=by
 by_cases e:a=b
 ·subst e;simp
 ·have h:¬ (Sum.inl a:Key)=Sum.inl b:=fun q=>e (Sum.inl.inj q);rw[decide_eq_false h];exact(beq_eq_false_iff_ne.mpr e).symm
theorem WM (a b:Str):decide ((Sum.inr a:Key)=Sum.inr b)=decide (a=b):=by
 by_cases e:a=b
 ·subst e;simp
 ·have h:¬ (Sum.inr a:Key)=Sum.inr b:=fun q=>e (Sum.inr.inj q);rw[decide_eq_false h,decide_eq_false e]
theorem WO (a:Int)(b:Str):decide ((Sum.inl a:Key)=Sum.inr b)=false:=decide_eq_false (fun q=>nomatch q)
theorem WN (a:Str)(b:Int):decide ((Sum.inr a:Key)=Sum.inl b)=false:=decide_eq_false (fun q=>nomatch q)
noncomputable def bZ (prog:Program)(w:World):PySem.KeyKind prog w Key where
 is:=yk
 hash:=a3D w
 inj:=fun v a b ha hb=>by
  rcases b9 ha with ⟨i,t,rfl,rfl⟩ | ⟨x,t,rfl,rfl⟩
  ·rcases b9 hb with ⟨j,u,rfl,e⟩ | ⟨y,u,rfl,e⟩
   ·injection e with e1 _;rw[e1]
   ·exact nomatch e
  ·rcases b9 hb with ⟨j,u,rfl,e⟩ | ⟨y,u,rfl,e⟩
   ·exact nomatch e
   ·injection e with e1 _;rw[e1]
 byValue:=fun k v h=>by
  rcases b9 h with ⟨i,t,rfl,rfl⟩ | ⟨x,t,rfl,rfl⟩ <;> rfl
 pyHash:=fun hv h=>by
  rcases b9 hv with ⟨i,t,rfl,rfl⟩ | ⟨x,t,rfl,rfl⟩
  ·exact wpAny_pyHash_int h
  ·exact wpAny_pyHash_str h
 eqBool:=fun hu hv h=>by
  rcases b9 hu with ⟨i,t,rfl,rfl⟩ | ⟨x,t,rfl,rfl⟩
  ·rcases b9 hv with ⟨j,u,rfl,rfl⟩ | ⟨y,u,rfl,rfl⟩
   ·rw[WQ] at h;exact wpAny_eqBool_int h
   ·rw[WO] at h;exact SeqAt.EqAt.int_str i t y u _ _ _ _ h
  ·rcases b9 hv with ⟨j,u,rfl,rfl⟩ | ⟨y,u,rfl,rfl⟩
   ·rw[WN] at h;exact SeqAt.EqAt.str_int x t j u _ _ _ _ h
   ·rw[WM] at h;exact wpAny_eqBool_str h
 «strs»:=fun k x t v h=>by
  rcases b9 h with ⟨i,u,rfl,e⟩ | ⟨y,u,rfl,e⟩
  ·exact nomatch e
  ·injection e with e1 _
   subst e1;cases v <;> rfl
theorem Ei (prog:Program)(w:World)(i:Int)(t:Tok):(bZ prog w).is (.inl i) (.int i t)=true:=KQ i t
theorem Eh (prog:Program)(w:World)(x:Str)(t:Tok):(bZ prog w).is (.inr x) (.str x t)=true:=KP x t
end L2
namespace L2
open PySem PySem.Spec PyProof.Rows
inductive V where
 | dO | bl (b:Bool) | int (i:Int) | str (x:Str) | Lw (b:Array UInt8) | Xb (b:UInt64) | ref (a:Addr) | ty (n:String)
 deriving DecidableEq
noncomputable def RelV:V->Value->Prop
 | .dO,u=>u=Value.none
 | .bl b,u=>u=Value.bool b
 | .int i,u=>∃ t,u=Value.int i t
 | .str x,u=>∃ t,u=Value.str x t
 | .Lw b,u=>∃ t,u=Value.bytes b t
 | .Xb b,u=>∃ t,u=Value.float b t
 | .ref a,u=>u=Value.ref a
 | .ty n,u=>u=Value.type n
noncomputable abbrev Vals:List V->List Value->Prop:=Paired RelV
theorem Vals.length {xs:List V}{us:List Value}(r:Vals xs us):xs.length=us.length:=Paired.length r
theorem Vals.get:∀ {xs:List V} {us:List Value} {i:Nat} {x:V},Vals xs us->xs[i]?=some x->∃ u,us[i]?=some u/\RelV x u
 | _,_,_,_,.nil,e=>by simp at e
 | _,_,0,_,.cons r _,e=>by simp at e;subst e;exact⟨_,rfl,r⟩
 | _,_,i+1,x,.cons _ t,e=>by
  obtain⟨u,h1,h2⟩:=Vals.get (i:=i) (x:=x) t (by simpa using e);exact⟨u,by simpa using h1,h2⟩
theorem Vals.set {x:V}{u:Value}(r:RelV x u):∀ {xs:List V} {us:List Value} (i:Nat),Vals xs us->Vals (xs.set i x) (us.set i u)
 | _,_,_,.nil=>.nil
 | _,_,0,.cons _ t=>.cons r t
 | _,_,i+1,.cons q t=>.cons q (Vals.set r i t)
theorem Vals.append:∀ {xs ys:List V} {us ws:List Value},Vals xs us->Vals ys ws->Vals (xs++ys) (us++ws)
 | _,_,_,_,.nil,s=>s
 | _,_,_,_,.cons r t,s=>.cons r (Vals.append t s)
theorem Vals.take:∀ {xs:List V} {us:List Value} (n:Nat),Vals xs us->Vals (xs.take n) (us.take n)
 | _,_,0,_=>.nil
 | _,_,_+1,.nil=>.nil
 | _,_,n+1,.cons r t=>.cons r (Vals.take n t)
theorem Vals.drop:∀ {xs:List V} {us:List Value} (n:Nat),Vals xs us->Vals (xs.drop n) (us.drop n)
 | _,_,0,r=>r
 | _,_,_+1,.nil=>.nil
 | _,_,n+1,.cons _ t=>Vals.drop n t
noncomputable def mj:Option V->Option Value->Prop
 | some v,some u=>RelV v u
 | none,none=>True
 | _,_=>False
noncomputable def KV {κ:Type}:List (κ×V)->List (κ×Value)->Prop:=Paired fun(p:κ×V) (q:κ×Value)=>p.1=q.1/\RelV p.2 q.2
noncomputable def kV:Key->V
 | .inl i=>.int i
 | .inr x=>.str x
inductive HO where
 | lst (xs:List V)
 | tup (xs:List V)
 | dK (kvs:List (Key×V)) | dT (kvs:List (List Key×V))
 | set (S:Int->Bool) (n:Nat)
 | ins (C dx:Addr) (fs:List (Str×V))
 | own (x:Addr)
 | xd (fs:List (Str×V))
 | met (f x:Addr)
 | rng (lo hi:Int)
 | uC (o:Obj) (u:HO)
 | Th (ps:Array Value)
 | ext (φ:Heap->Prop)
noncomputable abbrev Hp:=Addr->Option HO
noncomputable def upd (H:Hp)(a:Addr)(o:HO):Hp:=fun b=>if b=a then some o else H b
theorem eY {H:Hp}{a:Addr}{o:HO}:upd H a o a=some o:=by unfold upd;rw[if_pos rfl]
theorem aQ {H:Hp}{a b:Addr}{o:HO}(h:b≠a):upd H a o b=H b:=by unfold upd;rw[if_neg h]
theorem Ef {H:Hp}{a b:Addr}{o u:HO}(h:H a=some o)(h':H b=some u)(d:o≠u):a≠b:=by
 intro e;subst e;rw[h] at h';exact d (Option.some.inj h')
theorem bK {H:Hp}{a b:Addr}{o:HO}(h:H a=some o)(h':H b=none):a≠b:=by
 intro e;subst e;rw[h] at h';cases h'
section
variable (P:Program)(w:World)
noncomputable def cY (H:Hp)(h:Heap)(a:Addr):HO->Prop
 | .lst xs=>xs.length<=sizeLine/\∃ (its:List Value) (n:Nat),Vals xs its/\h.get? a=some { cls:=.type "list",data:=.seq its.toArray n }
 | .tup xs=>xs.length<=sizeLine/\∃ its:List Value,Vals xs its/\IsTup h a its.toArray
 | .dK kvs=>kvs.length<=sizeLine/\(a == sysModules)=false/\∃ vs,KV kvs vs/\h.DictOf (bZ P w) a vs
 | .dT kvs=>kvs.length<=sizeLine/\(a == sysModules)=false/\∃ xs:List (List Key×Addr×Value),
   Paired (fun(p:List Key×V) (q:List Key×Addr×Value)=>p.1=q.1/\H q.2.1=some (.tup (p.1.map kV))/\RelV p.2 q.2.2) kvs xs /\
   ∃ o es ep,h.get? a=some o/\o.ExactDict/\o.data=.dict es ep/\es.toList=xs.map (entryOfKey (tupleKind (bZ P w)))/\(xs.map (·.1)).Nodup
 | .set S n=>h.SetOf (intKind P w) a S n
 | .ins C dx fs=>H dx=some (.own a)/\fs.length<=1000/\dx≠a/\h.get? a=some (PySem.W.instObj C dx) /\
   ∃ mA,h.Ns1 dx mA/\(∀ f,mj (fs.lookup f) (mA f))/\PySem.Within mA (fs.map (·.1))
 | .own _=>∃ o,h.get? a=some o
 | .xd fs=>∃ mA,h.Ns1 a mA/\∀ f,mj (fs.lookup f) (mA f)
 | .rng lo hi=>∃ t u v,h.get? a=some { cls:=.type "range",data:=.fields #[.int lo t,.int hi u,.int 1 v] }
 | .uC o u=>h.get? a=some o/\cY H h a u
 | .Th ps=>h.get? a=some { cls:=.none,data:=.fields ps }
 | .met f x=>h.get? a=some (PySem.W.methodObj (.ref f) (.ref x))
 | .ext φ=>φ h/\(∃ o,h.get? a=some o)/\∀ h1 h2:Heap,φ h1->(∀ o,h1.get? a=some o->h2.get? a=some o)->φ h2
noncomputable def q9 (H:Hp)(h:Heap):Prop:=∀ a o,H a=some o->cY P w H h a o
end
section
variable {P:Program}{w:World}{H H':Hp}{h h':Heap}{a:Addr}{o:HO}
theorem cY.lt (x:cY P w H h a o):a < h.objs.size:=by
 cases o with
 | lst xs=>obtain⟨_,_,_,_,e⟩:=x;exact Heap.lt_size e
 | tup xs=>obtain⟨_,_,_,p⟩:=x;exact p.lt
 | dK kvs=>obtain⟨_,_,_,_,o,_,_,e,_⟩:=x;exact Heap.lt_size e
 | dT kvs=>obtain⟨_,_,_,_,o,_,_,e,_⟩:=x;exact Heap.lt_size e
 | set S n=>obtain⟨o,_,_,_,e,_⟩:=x;exact Heap.lt_size e
 | ins C dx fs=>obtain⟨_,_,_,e,_⟩:=x;exact Heap.lt_size e
 | own y=>obtain⟨_,e⟩:=x;exact Heap.lt_size e
 | xd fs=>obtain⟨_,⟨_,_,_,e,_⟩,_⟩:=x;exact Heap.lt_size e
 | rng lo hi=>obtain⟨_,_,_,e⟩:=x;exact Heap.lt_size e
 | uC ob u=>obtain⟨e,_⟩:=x;exact Heap.lt_size e
 | Th ps=>exact Heap.lt_size (show h.get? a=some _ from x)
 | met f y=>exact Heap.lt_size (show h.get? a=some _ from x)
 | ext φ=>obtain⟨_,⟨_,e⟩,_⟩:=x;exact Heap.lt_size e
theorem Paired.Wz {α β:Type}{F G:α->β->Prop}:∀ {l₁:List α} {l₂:List β},Paired F l₁ l₂->(∀ a b,F a b->G a b)->Paired G l₁ l₂
 | _,_,.nil,_=>.nil
 | _,_,.cons r t,f=>.cons (f _ _ r) (Paired.Wz t f)
theorem cY.stay (x:cY P w H h a o)(k:∀ b u,(b=a∨H b=some (.own a))->h.get? b=some u->h'.get? b=some u)
  (ho:∀ b,H b=some (.own a)->H' b=some (.own a)) (ht:∀ b xs,H b=some (.tup xs)->H' b=some (.tup xs)):cY P w H' h' a o:=by
 induction o with
 | lst xs=>obtain⟨z,its,n,r,e⟩:=x;exact⟨z,its,n,r,k _ _ (.inl rfl) e⟩
 | tup xs=>obtain⟨z,its,r,ob,e,c⟩:=x;exact⟨z,its,r,ob,k _ _ (.inl rfl) e,c⟩
 | dK kvs=>obtain⟨z,y,vs,r,ob,es,ep,e,c⟩:=x;exact⟨z,y,vs,r,ob,es,ep,k _ _ (.inl rfl) e,c⟩
 | dT kvs =>
  obtain⟨z,y,xs,r,ob,es,ep,e,c⟩:=x;exact⟨z,y,xs,Paired.Wz r fun p q z=>⟨z.1,ht _ _ z.2.1,z.2.2⟩,ob,es,ep,k _ _ (.inl rfl) e,c⟩
 | set S n=>obtain⟨ob,es,ep,t,e,c⟩:=x;exact⟨ob,es,ep,t,k _ _ (.inl rfl) e,c⟩
 | ins C dx fs =>
  obtain⟨d,z,ne,e,mA,⟨od,es,ep,e2,c⟩,r⟩:=x;exact⟨ho _ d,z,ne,k _ _ (.inl rfl) e,mA,⟨od,es,ep,k _ _ (.inr d) e2,c⟩,r⟩
 | own y=>obtain⟨ob,e⟩:=x;exact⟨ob,k _ _ (.inl rfl) e⟩
 | xd fs=>obtain⟨mA,⟨od,es,ep,e,c⟩,r⟩:=x;exact⟨mA,⟨od,es,ep,k _ _ (.inl rfl) e,c⟩,r⟩
 | rng lo hi=>obtain⟨t,u,v,e⟩:=x;exact⟨t,u,v,k _ _ (.inl rfl) e⟩
 | uC ob u ih=>obtain⟨e,q⟩:=x;exact⟨k _ _ (.inl rfl) e,ih q⟩
 | Th ps =>
  have e:h.get? a=some { cls:=.none,data:=.fields ps }:=x;show h'.get? a=some { cls:=.none,data:=.fields ps };exact k a _ (.inl rfl) e
 | met f y =>
  have e:h.get? a=some (PySem.W.methodObj (.ref f) (.ref y)):=x;show h'.get? a=some (PySem.W.methodObj (.ref f) (.ref y));exact k a _ (.inl rfl) e
 | ext φ=>obtain⟨p,⟨o,e⟩,st⟩:=x;exact⟨st _ _ p fun o q=>k _ _ (.inl rfl) q,⟨o,k _ _ (.inl rfl) e⟩,st⟩
theorem q9.lt (x:q9 P w H h)(e:H a=some o):a < h.objs.size:=(x a o e).lt
theorem q9.fresh (x:q9 P w H h)(e:h.objs.size<=a):H a=none:=by
 cases q:H a with
 | none=>rfl
 | some u=>exact absurd (Nat.lt_of_lt_of_le (x.lt q) e) (Nat.lt_irrefl _)
theorem q9.kept (x:q9 P w H h)(k:∀ b u,h.get? b=some u->h'.get? b=some u):q9 P w H h':=fun a o e =>
 (x a o e).stay (fun b u _ q=>k b u q) (fun _ q=>q) fun _ _ q=>q
theorem q9.laid (x:q9 P w H h)(k:∀ b u,h.get? b=some u->h'.get? b=some u)(hp:h.objs.size<=a)(new:cY P w (upd H a o) h' a o):q9 P w (upd H a o) h':=fun b u e=>by
 have hn:=x.fresh hp;by_cases hb:b=a
 ·subst hb;rw[eY] at e;cases e;exact new
 ·rw[aQ hb] at e;exact(x b u e).stay (fun c v _ q=>k c v q) (fun c q=>by rw[aQ (bK q hn)];exact q) fun c xs q=>by rw[aQ (bK q hn)];exact q
end
noncomputable def Rd (H:Hp)(a:Addr)(u:HO):Prop:=H a=some u∨∃ o,H a=some (.uC o u)
theorem Rd.ok {P:Program}{w:World}{H:Hp}{h:Heap}{a:Addr}{u:HO}(r:Rd H a u)(x:q9 P w H h):cY P w H h a u:=by
 rcases r with r | ⟨o,r⟩
 ·exact x a u r
 ·obtain⟨_,q⟩:=x a _ r;exact q
noncomputable def Mut:Option HO->Prop
 | some (.lst _)=>True
 | some (.dK _)=>True
 | some (.dT _)=>True
 | some (.set _ _)=>True
 | some (.ins _ _ _)=>True
 | some (.ext _)=>True
 | _=>False
section
variable {P:Program}{w:World}{H:Hp}{h h':Heap}{x e:Addr}{o':HO}
theorem q9.write (ok:q9 P w H h)(mu:Mut (H x))(he:e=x∨H e=some (.own x))(k:∀ b u,b≠e->h.get? b=some u->h'.get? b=some u)(Yd:∃ u,h'.get? e=some u)
  (new:cY P w (upd H x o') h' x o'):q9 P w (upd H x o') h':=fun b u q=>by
 have Z4:∀ c y,H c=some (.own y)->c≠x:=fun c y r z=>by subst z;rw[r] at mu;exact mu
 have a3p:∀ c xs,H c=some (.tup xs)->c≠x:=fun c xs r z=>by subst z;rw[r] at mu;exact mu
 by_cases hb:b=x
 ·subst hb;rw[eY] at q;cases q;exact new
 ·rw[aQ hb] at q;by_cases W6:b=e
  ·have q':H b=some (.own x):=by
    rcases he with z | z
    ·exact absurd (W6.trans z) hb
    ·rw[W6];exact z
   rw[q] at q';cases q';obtain⟨v,hv⟩:=Yd;exact⟨v,by rw[W6];exact hv⟩
  ·refine(ok b u q).stay (fun c v hc r=>k c v ?_ r) (fun c r=>by rw[aQ (Z4 c b r)];exact r) fun c xs r=>by rw[aQ (a3p c xs r)];exact r
   rcases hc with rfl | hc
   ·exact W6
   ·rintro rfl;rcases he with z | z
    ·exact Z4 c b hc z
    ·rw[hc] at z;cases z;exact hb rfl
end
structure Un (fs ex:List Addr)(H H':Hp)(h h':Heap):Prop where
 keep:∀ b o,h.get? b=some o->H b=none->b ∉ fs->b ∉ ex->h'.get? b=some o
 slot:∀ b o,h.get? b=some o->H b=none->b∈fs->b ∉ ex->∃ sl,h'.get? b=some { o with slots:=sl }
 free:∀ b o,h.get? b=some o->H b=none->b ∉ ex->H' b=none
 there:∀ b o,h.get? b=some o->b ∉ ex->∃ o',h'.get? b=some o'
 tups:∀ b xs,H b=some (.tup xs)->H' b=some (.tup xs)
 zS:∀ b o u,H b=some (.uC o u)->H' b=some (.uC o u)
 AZ:∀ b ps,H b=some (.Th ps)->∃ more,H' b=some (.Th (ps++more))
section
variable {fs fs' ex ex':List Addr}{H H1 H2:Hp}{h h1 h2 h':Heap}{a x e:Addr}{o:HO}
theorem Un.any (u:Un fs ex H H1 h h1){b:Addr}{ob:Obj}(q:h.get? b=some ob)(n:H b=none)(hx:b ∉ ex):∃ sl,h1.get? b=some { ob with slots:=sl }:=by
 by_cases hb:b∈fs
 ·exact u.slot b ob q n hb hx
 ·exact⟨ob.slots,u.keep b ob q n hb hx⟩
theorem Un.kept (k:∀ b u,h.get? b=some u->h'.get? b=some u):Un fs ex H H h h' :=
 ⟨fun b ob q _ _ _=>k b ob q,fun b ob q _ _ _=>⟨ob.slots,k b ob q⟩,fun _ _ _ n _=>n,fun b ob q _=>⟨ob,k b ob q⟩,fun _ _ q=>q,fun _ _ _ q=>q,fun _ ps q=>⟨#[],by rw[q];simp⟩⟩
theorem Un.refl:Un fs ex H H h h:=Un.kept fun _ _ q=>q
theorem Un.laid (k:∀ b u,h.get? b=some u->h'.get? b=some u)(hp:h.objs.size<=a)(hn:H a=none):Un fs ex H (upd H a o) h h' where
 keep:=fun b u q _ _ _=>k b u q
 slot:=fun b u q _ _ _=>⟨u.slots,k b u q⟩
 free:=fun b u q n _=>by rw[aQ (Nat.ne_of_lt (Nat.lt_of_lt_of_le (Heap.lt_size q) hp))];exact n
 there:=fun b u q _=>⟨u,k b u q⟩
 tups:=fun b xs q=>by rw[aQ (bK q hn)];exact q
 zS:=fun b u xs q=>by rw[aQ (bK q hn)];exact q
 AZ:=fun b ps q=>⟨#[],by rw[aQ (bK q hn),q];simp⟩
theorem Un.write (mu:Mut (H x))(he:e=x∨H e=some (.own x))(k:∀ b u,b≠e->h.get? b=some u->h'.get? b=some u)(Yd:∃ u,h'.get? e=some u):Un fs ex H (upd H x o) h h':=by
 have hx:∀ b,H b=none->b≠x:=fun b n z=>by subst z;rw[n] at mu;exact mu
 have hb:∀ b,H b=none->b≠e:=fun b n z=>by
  subst z;rcases he with r | r
  ·exact hx b n r
  ·rw[n] at r;cases r
 have hm:∀ b u,H b=some u->¬ Mut (some u)->b≠x:=fun b u q nm z=>by subst z;rw[q] at mu;exact nm mu
 refine⟨fun b u q n _ _=>k b u (hb b n) q,fun b u q n _ _=>⟨u.slots,k b u (hb b n) q⟩,fun b u q n _=>by rw[aQ (hx b n)];exact n,fun b u q _=>?_,
  fun b xs q=>by rw[aQ (hm b _ q fun z=>z)];exact q,fun b u xs q=>by rw[aQ (hm b _ q fun z=>z)];exact q,fun b ps q=>⟨#[],by rw[aQ (hm b _ q fun z=>z),q];simp⟩⟩
 by_cases W6:b=e
 ·subst W6;exact Yd
 ·exact⟨u,k b u W6 q⟩
end
noncomputable def trk (h:Heap)(H:Hp):List Addr:=(List.range h.objs.size).filter fun a=>(H a).isSome
noncomputable def Cw (h:Heap)(H:Hp):Heap:=PySem.W.hideAll h (trk h H)
theorem K3 (h:Heap)(H:Hp):(Cw h H).objs.size=h.objs.size:=PySem.W.hideAll_size _ _
theorem N7 {h:Heap}{H:Hp}{b:Addr}{o:Obj}(e:h.get? b=some o)(n:H b=none):(Cw h H).get? b=some o :=
 PySem.W.hideAll_get _ e fun hm=>by
  have q:(H b).isSome=true:=(List.mem_filter.mp hm).2;rw[n] at q;simp at q
theorem RD {h:Heap}{H:Hp}{b:Addr}{o:Obj}(e:(Cw h H).get? b=some o):h.get? b=some o/\H b=none:=by
 have e':h.get? b=some o:=PySem.W.of_hideAll (trk h H) e;refine⟨e',?_⟩;cases q:H b with
 | none=>rfl
 | some x =>
  have hm:b∈trk h H:=List.mem_filter.mpr ⟨List.mem_range.mpr (Heap.lt_size e'),by simp[q]⟩;have z:(Cw h H).get? b=none:=PySem.W.hideAll_none (trk h H) hm;rw[z] at e;cases e
end L2
namespace L2
open PySem PySem.Spec PyProof.Rows
structure Mod (K:PySem.W.Frag)(mg:Str->Option Value)(base:Heap):Prop where
 XU:K.In base
 glob:base.Ns mainGlobals mg
 blt:∃ mb,base.Ns builtinsNs mb/\∀ x:Str,x≠"__name__"->mb x=bootBuiltins x
 nolimit:base.NoLimit
structure Cx where
 prog:Program
 w:World
 K:PySem.W.Frag
 mg:Str->Option Value
 base:Heap
 A:Around
 N:List Str
 s₀:Shared
 H₀:Hp
 env:Env
 outer:List Env
 stack:List Env
 ex:List Addr
 fn:Str->Bool
 calm:Bool
 pn:List (Addr×Obj)
 xe:Value->Shared->Prop
noncomputable def frs (l:List Env):List Addr:=l.filterMap (·.frame)
noncomputable abbrev Cx.fs (X:Cx):List Addr:=frs X.outer
noncomputable def Vis (sc:Scope)(x:Str):Prop:=sc.names.lookup x=some .local∨sc.names.lookup x=some .cell∨sc.names.lookup x=some .free
noncomputable def Loc (sc:Scope)(x:Str):Prop:=sc.names.lookup x=some .local∨sc.names.lookup x=some .cell
noncomputable def Look (env:Env)(h:Heap)(m:Str->Option Value)(x:Str)(u:Value):Prop :=
 (env.kindOf x=some .local/\m x=some u)∨((env.kindOf x=some .cell∨env.kindOf x=some .free)/\∃ c,env.cells.lookup x=some c/\h.IsCell c (some u))
structure Cx.Ok (X:Cx):Prop where
 mod:Mod X.K X.mg X.base
 kind:X.env.scope.kind=.function
 glob:X.env.globals=mainGlobals
 blt:X.env.builtins=builtinsNs
 above:X.s₀.heap.objs.size<=X.env.locals
 inj:∀ x y c,X.env.cells.lookup x=some c->X.env.cells.lookup y=some c->x=y
 has:∀ x,(X.env.kindOf x=some .cell∨X.env.kindOf x=some .free)->∃ c,X.env.cells.lookup x=some c
 cab:∀ x c,X.fn x=true->X.env.cells.lookup x=some c->X.s₀.heap.objs.size<=c
 hd:X.calm=true->X.A.handled=none
 frames:X.A.frames=some X.stack
 stk:X.stack=X.outer∨(X.stack=X.env::X.outer/\X.env.frame=some X.env.locals)
 exf:∀ b∈X.ex,b≠X.env.locals/\∀ x c,X.env.cells.lookup x=some c->c≠b
 bs:∀ b o,X.base.get? b=some o->X.s₀.heap.get? b=some o/\X.H₀ b=none
 SD:X.base.objs.size<=X.s₀.heap.objs.size
 NB:∀ b o,X.base.get? b=some o->b ∉ X.ex
 Oh:∀ b∈X.ex,b ∉ X.fs
 vL:X.s₀.heap.FunFrames X.base X.outer
 W9:∀ b∈X.fs,X.H₀ b=none
structure Inv (X:Cx)(pins:List (Addr×Obj))(σ:List (Option V))(H:Hp)(s:Shared):Prop where
 ok:X.Ok
 os:s.os=X.s₀.os
 bare:AllBare s.gens
 base:Un X.fs X.ex X.H₀ H X.s₀.heap s.heap
 loc:∃ m,s.heap.Ns X.env.locals m/\∀ (i:Nat) (x:Str) (v:V),X.N[i]?=some x->σ[i]?=some (some v)->Vis X.env.scope x->∃ u,RelV v u/\Look X.env s.heap m x u
 cell:∀ x c,X.env.cells.lookup x=some c->∃ v,s.heap.IsCell c v
 free:H X.env.locals=none
 nC:∀ x c,X.env.cells.lookup x=some c->H c=none
 pin:∀ p∈X.pn++pins,s.heap.get? p.1=some p.2/\H p.1=none/\p.1≠X.env.locals/\p.1 ∉ X.fs/\∀ v,p.2.data≠.cell v
 hok:q9 X.prog X.w H s.heap
 len:σ.length=X.N.length
section
variable {X:Cx}{pins:List (Addr×Obj)}{σ:List (Option V)}{H H':Hp}{s:Shared}{h':Heap}
theorem Cx.Ok.a3q (ok:X.Ok){b:Addr}{o:Obj}(e:X.base.get? b=some o):b ∉ X.fs:=fun hb=>by
 have:=(ok.vL.mem hb).1;rw[e] at this;cases this
theorem Inv.bs (I:Inv X pins σ H s):∀ b o,X.base.get? b=some o->s.heap.get? b=some o/\H b=none:=fun b o e =>
 ⟨I.base.keep b o (I.ok.bs b o e).1 (I.ok.bs b o e).2 (I.ok.a3q e) (I.ok.NB b o e),I.base.free b o (I.ok.bs b o e).1 (I.ok.bs b o e).2 (I.ok.NB b o e)⟩
theorem Inv.bk (I:Inv X pins σ H s):∀ b o,X.base.get? b=some o->s.heap.get? b=some o:=fun b o e=>(I.bs b o e).1
theorem Inv.mod (I:Inv X pins σ H s):Mod X.K X.mg X.base:=I.ok.mod
theorem Inv.sH (I:Inv X pins σ H s):X.K.In s.heap:=I.ok.mod.XU.keeps I.bk
theorem Inv.lt (I:Inv X pins σ H s):X.env.locals < s.heap.objs.size:=let ⟨_,hn,_⟩:=I.loc;hn.lt
theorem Inv.sz (I:Inv X pins σ H s):X.s₀.heap.objs.size<=s.heap.objs.size:=Nat.le_trans I.ok.above (Nat.le_of_lt I.lt)
theorem Inv.Z5 (I:Inv X pins σ H s){a:Addr}(h:s.heap.objs.size<=a):a ∉ X.fs:=fun hb=>by
 obtain⟨_,o,ho,_⟩:=I.ok.vL.mem hb;exact absurd (Nat.lt_of_lt_of_le (Heap.lt_size ho) (Nat.le_trans I.sz h)) (Nat.lt_irrefl _)
theorem Inv.Xx (I:Inv X pins σ H s):∀ x c,X.env.cells.lookup x=some c->c≠X.env.locals:=fun x c e z=>by
 obtain⟨v,o,ho,hd⟩:=I.cell x c e;obtain⟨m,⟨o',es,ep,ho',hd',_⟩,_⟩:=I.loc;rw[z,ho'] at ho;cases ho;rw[hd'] at hd;cases hd
theorem Inv.vL (I:Inv X pins σ H s):s.heap.FunFrames X.base X.outer:=by
 have all:∀ (l:List Env),(∀ b∈frs l,b∈X.fs)->X.s₀.heap.FunFrames X.base l->s.heap.FunFrames X.base l:=by
  intro l
  induction l with
  | nil=>intro _ _;trivial
  | cons env r ih =>
   intro hs hl;obtain⟨hk,⟨L,o,hf,hn,ho,hd⟩,hr⟩:=hl;have hL:L∈X.fs:=hs L (by unfold frs;rw[List.filterMap_cons,hf];exact List.mem_cons_self);obtain⟨sl,e⟩:=I.base.slot L o ho (I.ok.W9 L hL) hL fun z=>I.ok.Oh L z hL;exact⟨hk,⟨L,_,hf,hn,e,hd⟩,ih (fun b hb=>hs b (by unfold frs;rw[List.filterMap_cons,hf];exact List.mem_cons_of_mem _ hb)) hr⟩
 exact all X.outer (fun _ hb=>hb) I.ok.vL
theorem Inv.stack (I:Inv X pins σ H s):s.heap.FunFrames X.base X.stack:=by
 rcases I.ok.stk with e | ⟨e,hf⟩
 ·rw[e];exact I.vL
 ·rw[e];obtain⟨m,hn,_⟩:=I.loc;refine .cons (by rw[I.ok.kind];decide) hf hn ?_ I.vL;exact Heap.get?_none_of_le (Nat.le_trans I.ok.SD I.ok.above)
theorem Inv.A6 (I:Inv X pins σ H s):∀ b∈frs X.stack,b∈X.env.locals::X.fs:=fun b hb=>by
 rcases I.ok.stk with e | ⟨e,hf⟩
 ·rw[e] at hb;exact List.mem_cons_of_mem _ hb
 ·rw[e] at hb;unfold frs at hb;rw[List.filterMap_cons,hf] at hb;exact hb
theorem Inv.H9 (I:Inv X pins σ H s):∀ b∈frs X.stack,H b=none:=fun b hb=>by
 rcases List.mem_cons.mp (I.A6 b hb) with e | hb
 ·rw[e];exact I.free
 ·obtain⟨_,o,ho,_⟩:=I.ok.vL.mem hb;exact I.base.free b o ho (I.ok.W9 b hb) fun z=>I.ok.Oh b z hb
theorem Inv.step {g':Array GenState}{t':Nat}{d':Drawn}{ch:List Addr}(I:Inv X pins σ H s)
  (hch:∀ b∈ch,(b∈X.ex∨X.s₀.heap.objs.size<=b)/\b≠X.env.locals/\(∀ x c,X.env.cells.lookup x=some c->c≠b)/\∀ p∈X.pn++pins,p.1≠b)
  (keep:∀ b o,b≠X.env.locals->b ∉ X.fs->b ∉ ch->s.heap.get? b=some o->H b=none->h'.get? b=some o)
  (slot:∀ b o,b≠X.env.locals->b∈X.fs->b ∉ ch->s.heap.get? b=some o->H b=none->∃ sl,h'.get? b=some { o with slots:=sl }) (free:∀ b o,b ∉ ch->s.heap.get? b=some o->H b=none->H' b=none)
  (there:∀ b o,b ∉ ch->s.heap.get? b=some o->∃ o',h'.get? b=some o')
  (tups:∀ b xs,H b=some (.tup xs)->H' b=some (.tup xs)) (zS:∀ b o u,H b=some (.uC o u)->H' b=some (.uC o u)) (AZ:∀ b ps,H b=some (.Th ps)->∃ more,H' b=some (.Th (ps++more)))
  (ns:∀ m,s.heap.Ns X.env.locals m->h'.Ns X.env.locals m) (hok:q9 X.prog X.w H' h') (hg:AllBare g') :
  Inv X pins σ H' { s with heap:=h',gens:=g',drawn:=d',toks:=t' }:=by
 have neL:∀ b o,X.s₀.heap.get? b=some o->b≠X.env.locals:=fun b o e=>Nat.ne_of_lt (Nat.lt_of_lt_of_le (Heap.lt_size e) I.ok.above);have neC:∀ b o,X.s₀.heap.get? b=some o->b ∉ X.ex->b ∉ ch:=fun b o e hx hb=>by
  rcases(hch b hb).1 with z | z
  ·exact hx z
  ·exact absurd (Nat.lt_of_lt_of_le (Heap.lt_size e) z) (Nat.lt_irrefl _)
 have cellK:∀ x c,X.env.cells.lookup x=some c->∀ v,s.heap.IsCell c v->h'.IsCell c v:=(by
  rintro x c e v ⟨o,ho,hd⟩;have Z7:c ∉ ch:=fun z=>(hch c z).2.2.1 x c e rfl;by_cases hc:c∈X.fs
  ·obtain⟨sl,q⟩:=slot c o (I.Xx x c e) hc Z7 ho (I.nC x c e);exact⟨_,q,hd⟩
  ·exact⟨o,keep c o (I.Xx x c e) hc Z7 ho (I.nC x c e),hd⟩)
 refine⟨I.ok,I.os,hg,⟨fun b o e n hb hx=>?_,fun b o e n hb hx=>?_,fun b o e n hx=>?_,fun b o e hx=>?_,fun b xs e=>tups b xs (I.base.tups b xs e),fun b o xs e=>zS b o xs (I.base.zS b o xs e),fun b ps e=>?_⟩,?_,fun x c e=>?_,?_,fun x c e=>?_,fun p hp=>?_,hok,I.len⟩
 ·exact keep b o (neL b o e) hb (neC b o e hx) (I.base.keep b o e n hb hx) (I.base.free b o e n hx)
 ·obtain⟨sl,e1⟩:=I.base.slot b o e n hb hx;obtain⟨sl',e2⟩:=slot b _ (neL b o e) hb (neC b o e hx) e1 (I.base.free b o e n hx);exact⟨sl',e2⟩
 ·obtain⟨o',e1⟩:=I.base.there b o e hx;exact free b o' (neC b o e hx) e1 (I.base.free b o e n hx)
 ·obtain⟨o',e1⟩:=I.base.there b o e hx;exact there b o' (neC b o e hx) e1
 ·obtain⟨m1,e1⟩:=I.base.AZ b ps e;obtain⟨m2,e2⟩:=AZ b _ e1;exact⟨m1++m2,by rw[e2,Array.append_assoc]⟩
 ·obtain⟨m,hn,hl⟩:=I.loc;refine⟨m,ns m hn,fun i x v e1 e2 e3=>?_⟩;obtain⟨u,r,l⟩:=hl i x v e1 e2 e3;refine⟨u,r,?_⟩;rcases l with l | ⟨k,c,e,z⟩
  ·exact .inl l
  ·exact .inr ⟨k,c,e,cellK x c e _ z⟩
 ·obtain⟨v,z⟩:=I.cell x c e;exact⟨v,cellK x c e v z⟩
 ·obtain⟨m,⟨o,_,_,ho,_⟩,_⟩:=I.loc;exact free _ o (fun z=>(hch _ z).2.1 rfl) ho I.free
 ·obtain⟨v,o,ho,hd⟩:=I.cell x c e;exact free c o (fun z=>(hch c z).2.2.1 x c e rfl) ho (I.nC x c e)
 ·obtain⟨e,n,ne,nf,d⟩:=I.pin p hp;have Z7:p.1 ∉ ch:=fun z=>(hch p.1 z).2.2.2 p hp rfl;exact⟨keep p.1 p.2 ne nf Z7 e n,free p.1 p.2 Z7 e n,ne,nf,d⟩
theorem Inv.un {t':Nat}(I:Inv X pins σ H s)(u:Un X.fs [] H H' s.heap h')(hok:q9 X.prog X.w H' h'):Inv X pins σ H' { s with heap:=h',toks:=t' }:=by
 obtain⟨m,⟨o,es,ep,ho,r⟩,_⟩:=id I.loc;obtain⟨sl,hL⟩:=u.any ho I.free (by simp);exact I.step (g':=s.gens) (d':=s.drawn) (ch:=[]) (fun _ z=>nomatch z) (fun b o _ hb _ e n=>u.keep b o e n hb (by simp)) (fun b o _ hb _ e n=>u.slot b o e n hb (by simp)) (fun b o _ e n=>u.free b o e n (by simp)) (fun b o _ e=>u.there b o e (by simp)) u.tups u.zS u.AZ (fun m' hm=>by
  obtain⟨o',es',Xg,ho',r'⟩:=hm;rw[ho] at ho';cases ho';exact⟨_,es',Xg,hL,r'⟩) hok I.bare
theorem Inv.call {g':Array GenState}{t':Nat}{d':Drawn}{ch:List Addr}(I:Inv X pins σ H s)(u:Un (frs X.stack) ch H H' s.heap h')(hok:q9 X.prog X.w H' h')(hg:AllBare g')
  (hch:∀ b∈ch,(b∈X.ex∨X.s₀.heap.objs.size<=b)/\b≠X.env.locals/\(∀ x c,X.env.cells.lookup x=some c->c≠b)/\∀ p∈X.pn++pins,p.1≠b) :
  Inv X pins σ H' { s with heap:=h',gens:=g',drawn:=d',toks:=t' }:=by
 obtain⟨m,⟨o,es,ep,ho,r⟩,_⟩:=id I.loc;obtain⟨sl,hL⟩:=u.any ho I.free fun z=>(hch _ z).2.1 rfl;exact I.step (ch:=ch) hch (fun b o hL hb hc e n=>u.keep b o e n (fun z=>(List.mem_cons.mp (I.A6 b z)).elim hL hb) hc) (fun b o _ _ hc e n=>u.any e n hc) (fun b o hc e n=>u.free b o e n hc) (fun b o hc e=>u.there b o e hc) u.tups u.zS u.AZ (fun m' hm=>by
  obtain⟨o',es',Xg,ho',r'⟩:=hm;rw[ho] at ho';cases ho';exact⟨_,es',Xg,hL,r'⟩) hok hg
theorem Inv.turned {t':Nat}{it:Addr}(I:Inv X pins σ H s)(k:∀ b o,b≠it->s.heap.get? b=some o->h'.get? b=some o)(hn:H it=none)(hL:it≠X.env.locals)
  (h1:it∈X.ex∨X.s₀.heap.objs.size<=it) (h2:∀ x c,X.env.cells.lookup x=some c->c≠it) (h3:∀ p∈X.pn++pins,p.1≠it):Inv X pins σ H { s with heap:=h',toks:=t' }:=by
 have nit:∀ b u,H b=some u->b≠it:=fun b u e z=>by rw[z,hn] at e;cases e
 refine I.step (g':=s.gens) (d':=s.drawn) (ch:=[it]) (fun b hb=>?_) (fun b o _ _ hc e _=>k b o (fun z=>hc (by simp[z])) e) (fun b o _ _ hc e _=>⟨o.slots,k b o (fun z=>hc (by simp[z])) e⟩) (fun _ _ _ _ n=>n)
  (fun b o hc e=>⟨o,k b o (fun z=>hc (by simp[z])) e⟩) (fun _ _ e=>e) (fun _ _ _ e=>e) (fun b ps e=>⟨#[],by rw[e];simp⟩) (fun m hm=>?_) (fun b u e=>?_) I.bare
 ·have e:b=it:=by simpa using hb
  subst e;exact⟨h1,hL,h2,h3⟩
 ·obtain⟨o,es,ep,ho,r⟩:=hm;exact⟨o,es,ep,k _ o (Ne.symm hL) ho,r⟩
 ·refine(I.hok b u e).stay (fun c v hc q=>k c v ?_ q) (fun _ q=>q) fun _ _ q=>q;rcases hc with z | z
  ·rw[z];exact nit b u e
  ·exact nit c _ z
theorem Inv.tok (I:Inv X pins σ H s)(t:Nat):Inv X pins σ H { s with toks:=t }:=I.un (h':=s.heap) (t':=t) Un.refl I.hok
theorem Inv.kept {t':Nat}(I:Inv X pins σ H s)(k:∀ b u,s.heap.get? b=some u->h'.get? b=some u):Inv X pins σ H { s with heap:=h',toks:=t' }:=I.un (Un.kept k) (I.hok.kept k)
theorem Inv.laid {a:Addr}{o:HO}{t':Nat}(I:Inv X pins σ H s)(k:∀ b u,s.heap.get? b=some u->h'.get? b=some u)(hp:s.heap.objs.size<=a)(new:cY X.prog X.w (upd H a o) h' a o) :
  Inv X pins σ (upd H a o) { s with heap:=h',toks:=t' }:=I.un (Un.laid k hp (I.hok.fresh hp)) (I.hok.laid k hp new)
theorem Inv.write {x e:Addr}{o:HO}{t':Nat}(I:Inv X pins σ H s)(mu:Mut (H x))(he:e=x∨H e=some (.own x))(k:∀ b u,b≠e->s.heap.get? b=some u->h'.get? b=some u)(Yd:∃ u,h'.get? e=some u)
  (new:cY X.prog X.w (upd H x o) h' x o):Inv X pins σ (upd H x o) { s with heap:=h',toks:=t' }:=I.un (Un.write mu he k Yd) (I.hok.write mu he k Yd new)
theorem Inv.weak {σ':List (Option V)}(I:Inv X pins σ H s)(hl:σ'.length=σ.length)(w:∀ (i:Nat) v,σ'[i]?=some (some v)->σ[i]?=some (some v)):Inv X pins σ' H s :=
 ⟨I.ok,I.os,I.bare,I.base,let ⟨m,hn,hl'⟩:=I.loc;⟨m,hn,fun i x v e1 e2 e3=>hl' i x v e1 (w i v e2) e3⟩,I.cell,I.free,I.nC,I.pin,I.hok,hl.trans I.len⟩
theorem Inv.wI {xV:List (Addr×Obj)}(I:Inv X pins σ H s)(h:∀ p∈xV,s.heap.get? p.1=some p.2/\H p.1=none/\p.1≠X.env.locals/\p.1 ∉ X.fs/\∀ v,p.2.data≠.cell v):Inv X xV σ H s :=
 ⟨I.ok,I.os,I.bare,I.base,I.loc,I.cell,I.free,I.nC,fun p hp=>(List.mem_append.mp hp).elim (fun z=>I.pin p (List.mem_append_left _ z)) (h p),I.hok,I.len⟩
theorem Ed {N:List Str}(hN:N.Nodup){i j:Nat}{x:Str}(a:N[i]?=some x)(b:N[j]?=some x):i=j:=by
 obtain⟨h1,e1⟩:=List.getElem?_eq_some_iff.mp a;obtain⟨h2,e2⟩:=List.getElem?_eq_some_iff.mp b;exact(List.getElem_inj hN).mp (e1.trans e2.symm)
theorem Ak {M:Model}{A:Around}{E:Value->Shared->Prop}{i:Nat}{x:Str}{v:V}{u:Value}{Q:Unit->Shared->Prop}(I:Inv X pins σ H s)(hN:X.N.Nodup)(hi:X.N[i]?=some x)(hx:Loc X.env.scope x)(r:RelV v u)
  (h:∀ s',Inv X pins (σ.set i (some v)) H s'->(∃ a,Heap.SameBut a s.heap s'.heap/\(a=X.env.locals∨X.env.cells.lookup x=some a))->Q () s') (hf:X.fn x=true∨X.env.scope.names.lookup x=some .local:=by first | exact .inl rfl | exact .inr rfl | assumption):wpAny M A (storeName X.env x u) Q E s:=by
 obtain⟨m,hn,hl⟩:=id I.loc;have hcls:(X.env.scope.kind == .class || (X.env.scope.kind == .module && X.env.locals != X.env.globals))=false:=by rw[I.ok.kind];rfl
 have hiσ:i < σ.length:=by rw[I.len];exact(List.getElem?_eq_some_iff.mp hi).1
 have Xx:=I.Xx;have tracked:∀ {a:Addr} {h':Heap},(∃ o,s.heap.get? a=some o/\H a=none)->Heap.SameBut a s.heap h'->q9 X.prog X.w H h':=fun {a h'} ha hs b ob e=>by
  obtain⟨_,_,hfree⟩:=ha;refine(I.hok b ob e).stay (fun c w' hc q=>(hs.2 c ?_).trans q) (fun _ q=>q) fun _ _ q=>q;rintro rfl;rcases hc with rfl | hc
  ·rw[hfree] at e;cases e
  ·rw[hfree] at hc;cases hc
 rcases hx with hk | hk
 ·refine wpAny_storeName_local hk hn (fun h' hn' hs=>?_) hcls;obtain⟨oL,_,_,hoL,_⟩:=id hn;refine h _ ⟨I.ok,I.os,I.bare,⟨fun b o e n hb hx=>?_,fun b o e n hb hx=>?_,I.base.free,fun b o e hx=>?_,I.base.tups,I.base.zS,I.base.AZ⟩,⟨_,hn',fun j y v' e1 e2 e3=>?_⟩,fun y c e=>?_,I.free,I.nC,fun p hp=>?_,tracked ⟨oL,hoL,I.free⟩ hs,by simpa using I.len⟩ ⟨_,hs,.inl rfl⟩
  ·exact(hs.2 b (Nat.ne_of_lt (Nat.lt_of_lt_of_le (Heap.lt_size e) I.ok.above))).trans (I.base.keep b o e n hb hx)
  ·obtain⟨sl,e1⟩:=I.base.slot b o e n hb hx;exact⟨sl,(hs.2 b (Nat.ne_of_lt (Nat.lt_of_lt_of_le (Heap.lt_size e) I.ok.above))).trans e1⟩
  ·obtain⟨o',e1⟩:=I.base.there b o e hx;exact⟨o',(hs.2 b (Nat.ne_of_lt (Nat.lt_of_lt_of_le (Heap.lt_size e) I.ok.above))).trans e1⟩
  ·by_cases hj:j=i
   ·subst hj;rw[hi] at e1;cases e1;rw[List.getElem?_set_self hiσ] at e2;cases e2;exact⟨u,r,.inl ⟨hk,by simp⟩⟩
   ·rw[List.getElem?_set_ne (Ne.symm hj)] at e2;obtain⟨u',r',q⟩:=hl j y v' e1 e2 e3;refine⟨u',r',?_⟩;rcases q with ⟨k,e⟩ | ⟨k,c,e,z⟩
    ·refine .inl ⟨k,?_⟩;have:y≠x:=fun e=>hj (Ed hN e1 (e ▸ hi));simp[this,e]
    ·exact .inr ⟨k,c,e,z.sameBut hs (Xx y c e)⟩
  ·obtain⟨w',z⟩:=I.cell y c e;exact⟨w',z.sameBut hs (Xx y c e)⟩
  ·obtain⟨e,n,ne,nf,d⟩:=I.pin p hp;exact⟨(hs.2 p.1 ne).trans e,n,ne,nf,d⟩
 ·have hfn:X.fn x=true:=by
   rcases hf with z | z
   ·exact z
   ·rw[z] at hk;cases hk
  obtain⟨c,hc⟩:=I.ok.has x (.inl hk);obtain⟨w',z⟩:=I.cell x c hc;refine wpAny_storeName_cell I.ok.kind hk hc z (fun h' hc' hs=>?_);obtain⟨oc,hoc,a4l⟩:=id z;refine h { s with heap:=h' } ⟨I.ok,I.os,I.bare,⟨fun b o e n hb hx=>?_,fun b o e n hb hx=>?_,I.base.free,fun b o e hx=>?_,I.base.tups,I.base.zS,I.base.AZ⟩,⟨m,hn.sameBut hs (Ne.symm (Xx x c hc)),fun j y v' e1 e2 e3=>?_⟩,fun y c' e=>?_,I.free,I.nC,fun p hp=>?_,tracked ⟨oc,hoc,I.nC x c hc⟩ hs,by simpa using I.len⟩ ⟨c,hs,.inr hc⟩
  ·exact(hs.2 b (Nat.ne_of_lt (Nat.lt_of_lt_of_le (Heap.lt_size e) (I.ok.cab x c hfn hc)))).trans (I.base.keep b o e n hb hx)
  ·obtain⟨sl,e1⟩:=I.base.slot b o e n hb hx;exact⟨sl,(hs.2 b (Nat.ne_of_lt (Nat.lt_of_lt_of_le (Heap.lt_size e) (I.ok.cab x c hfn hc)))).trans e1⟩
  ·obtain⟨o',e1⟩:=I.base.there b o e hx;exact⟨o',(hs.2 b (Nat.ne_of_lt (Nat.lt_of_lt_of_le (Heap.lt_size e) (I.ok.cab x c hfn hc)))).trans e1⟩
  ·by_cases hj:j=i
   ·subst hj;rw[hi] at e1;cases e1;rw[List.getElem?_set_self hiσ] at e2;cases e2;exact⟨u,r,.inr ⟨.inl hk,c,hc,hc'⟩⟩
   ·rw[List.getElem?_set_ne (Ne.symm hj)] at e2;obtain⟨u',r',q⟩:=hl j y v' e1 e2 e3;refine⟨u',r',?_⟩;rcases q with q | ⟨k,c',e,z'⟩
    ·exact .inl q
    ·refine .inr ⟨k,c',e,z'.sameBut hs ?_⟩;rintro rfl;exact hj (Ed hN e1 (I.ok.inj _ _ _ e hc ▸ hi))
  ·by_cases hcc:c'=c
   ·subst hcc;exact⟨_,hc'⟩
   ·obtain⟨w2,z2⟩:=I.cell y c' e;exact⟨w2,z2.sameBut hs hcc⟩
  ·obtain⟨e,n,ne,nf,d⟩:=I.pin p hp;refine⟨(hs.2 p.1 ?_).trans e,n,ne,nf,d⟩;intro q;rw[q,hoc] at e;have q':oc=p.2:=Option.some.inj e;exact d w' (by rw[<- q'];exact a4l)
theorem xj {M:Model}{A:Around}{E:Value->Shared->Prop}{i:Nat}{x:Str}{v:V}{u:Value}{Q:Unit->Shared->Prop}(I:Inv X pins σ H s)(hN:X.N.Nodup)(hi:X.N[i]?=some x)(hx:Loc X.env.scope x)(r:RelV v u)
  (h:∀ s',Inv X pins (σ.set i (some v)) H s'->Q () s') (hf:X.fn x=true∨X.env.scope.names.lookup x=some .local:=by first | exact .inl rfl | exact .inr rfl | assumption):wpAny M A (storeName X.env x u) Q E s :=
 Ak I hN hi hx r (fun s' I' _=>h s' I') hf
theorem Inv.a1D {s':Shared}{ch:List Addr}(I:Inv X pins σ H s)(ho:s'.os=s.os)(u:Un (frs X.stack) ch H H' s.heap s'.heap)(hok:q9 X.prog X.w H' s'.heap)(hg:AllBare s'.gens)
  (hch:∀ b∈ch,(b∈X.ex∨X.s₀.heap.objs.size<=b)/\b≠X.env.locals/\(∀ x c,X.env.cells.lookup x=some c->c≠b)/\∀ p∈X.pn++pins,p.1≠b):Inv X pins σ H' s':=by
 obtain⟨h',g',d',t',o'⟩:=s';have e:o'=s.os:=ho;subst e;exact I.call (g':=g') (t':=t') (d':=d') u hok hg hch
end
noncomputable abbrev XK:=Value->Option Addr->Hp->Prop
noncomputable abbrev St:=List (Option V)
noncomputable abbrev VK:=V->Hp->Prop
noncomputable abbrev TE:=St->Hp->VK->Prop
noncomputable abbrev TT:=St->Hp->(Bool->Hp->Prop)->Prop
noncomputable abbrev TA:=St->Hp->(List V->Hp->Prop)->Prop
structure Ends where
 nx:St->Hp->Prop
 rt:VK
 bk:St->Hp->Prop:=fun _ _=>False
 ct:St->Hp->Prop:=fun _ _=>False
noncomputable abbrev TS:=Ends->St->Hp->Prop
noncomputable def EP (X:Cx)(pins:List (Addr×Obj))(σ:St)(Q:VK)(u:Value)(s':Shared):Prop:=∃ v H',Inv X pins σ H' s'/\RelV v u/\Q v H'
noncomputable def TP (X:Cx)(pins:List (Addr×Obj))(σ:St)(Q:Bool->Hp->Prop)(b:Bool)(s':Shared):Prop:=∃ H',Inv X pins σ H' s'/\Q b H'
noncomputable def AP (X:Cx)(pins:List (Addr×Obj))(σ:St)(Q:List V->Hp->Prop)(us:List Value)(s':Shared):Prop:=∃ vs H',Inv X pins σ H' s'/\Vals vs us/\Q vs H'
noncomputable def SP (X:Cx)(pins:List (Addr×Obj))(D:Ends)(f:Flow)(s':Shared):Prop :=
 match f with
 | .next=>∃ σ' H',Inv X pins σ' H' s'/\D.nx σ' H'
 | .brk=>∃ σ' H',Inv X pins σ' H' s'/\D.bk σ' H'
 | .cont=>∃ σ' H',Inv X pins σ' H' s'/\D.ct σ' H'
 | .ret u=>∃ v σ' H',Inv X pins σ' H' s'/\RelV v u/\D.rt v H'
noncomputable def PE (X:Cx)(e:Expr)(t:TE):Prop :=
 ∀ (pins:List (Addr×Obj)) (s:Shared) (σ:St) (H:Hp) (Q:VK),Inv X pins σ H s->t σ H Q->wpAny (model X.prog X.w) X.A (eval e X.env) (EP X pins σ Q) X.xe s
noncomputable def PT (X:Cx)(e:Expr)(t:TT):Prop :=
 ∀ (pins:List (Addr×Obj)) (s:Shared) (σ:St) (H:Hp) (Q:Bool->Hp->Prop),Inv X pins σ H s->t σ H Q->wpAny (model X.prog X.w) X.A (isTrue e X.env (eval e X.env)) (TP X pins σ Q) X.xe s
noncomputable def PW (X:Cx)(e:Expr)(t:TT):Prop :=
 ∀ (whole:Sem Value) (pins:List (Addr×Obj)) (s:Shared) (σ:St) (H:Hp) (Q:Bool->Hp->Prop),Inv X pins σ H s->t σ H Q->wpAny (model X.prog X.w) X.A (isTrue e X.env whole) (TP X pins σ Q) X.xe s
theorem PW.pt {X:Cx}{e:Expr}{t:TT}(h:PW X e t):PT X e t:=h _
noncomputable def PA (X:Cx)(es:List Expr)(t:TA):Prop :=
 ∀ (pos:Pos) (pins:List (Addr×Obj)) (s:Shared) (σ:St) (H:Hp) (Q:List V->Hp->Prop),Inv X pins σ H s->t σ H Q->wpAny (model X.prog X.w) X.A (spliced (backTo pos (starEach es X.env))) (AP X pins σ Q) X.xe s
noncomputable def PS (X:Cx)(st:Stmt)(t:TS):Prop :=
 ∀ (pins:List (Addr×Obj)) (s:Shared) (σ:St) (H:Hp) (D:Ends),Inv X pins σ H s->t D σ H->wpAny (model X.prog X.w) X.A (exec st X.env) (SP X pins D) X.xe s
noncomputable def C1 (X:Cx)(st:List Stmt)(t:TS):Prop :=
 ∀ (pins:List (Addr×Obj)) (s:Shared) (σ:St) (H:Hp) (D:Ends),Inv X pins σ H s->t D σ H->wpAny (model X.prog X.w) X.A (execs st X.env) (SP X pins D) X.xe s
theorem cH {α:Type}{t:Sem α}{Q Q':α->Shared->Prop}{M:Model}{A:Around}{E:Value->Shared->Prop}{s:Shared}(h:wpAny M A t Q E s)(hQ:∀ a s,Q a s->Q' a s):wpAny M A t Q' E s:=wpAny_mono h hQ fun _ _ x=>x
end L2
namespace L2
open PySem PySem.Spec PyProof.Rows
section
variable {X:Cx}
noncomputable def a2O (i:Nat):TE:=fun σ H Q=>∃ v,σ[i]?=some (some v)/\Q v H
noncomputable def tC (v:V):TE:=fun _ H Q=>Q v H
theorem VZ {i:Nat}{x:Str}{pos:Pos}(hN:X.N[i]?=some x)(hv:Vis X.env.scope x)(hd:(x == ("__debug__":Str))=false:=by decide)(hcd:(x == ("__classdict__":Str))=false:=by decide):PE X (.Name x pos) (a2O i):=by
 intro pins s σ H Q I h;obtain⟨v,e,h⟩:=h;obtain⟨m,hn,hl⟩:=I.loc;obtain⟨u,r,l⟩:=hl i x v hN e hv;have fin:EP X pins σ Q u s:=⟨v,H,I,r,h⟩
 rcases l with ⟨hk,hm⟩ | ⟨hk,c,hc,hcell⟩
 ·exact wpAny_Name (wpAny_loadName_local I.ok.kind hk hn hm fin) hd
 ·rcases hk with hk | hk
  ·exact wpAny_Name (wpAny_loadName_cell I.ok.kind hk hc hcell fin) hd
  ·exact wpAny_Name (wpAny_loadName_free I.ok.kind hk hc hcell fin hcd) hd
theorem M3 {i j pos}:PE X (.Constant (.int i) j pos) (tC (.int i)):=fun _ _ _ H _ I h=>wpAny_Constant_int ⟨.int i,H,I.tok _,⟨_,rfl⟩,h⟩
theorem ZU {b j pos}:PE X (.Constant (.bool b) j pos) (tC (.bl b)):=fun _ _ _ H _ I h=>Constant_bool ⟨.bl b,H,I,rfl,h⟩
theorem Ga {x j pos}:PE X (.Constant (.str x) j pos) (tC (.str x)):=fun _ _ _ H _ I h=>Calls.Constant_str ⟨.str x,H,I.tok _,⟨_,rfl⟩,h⟩
noncomputable def Gl (X:Cx)(x:Str):Prop:=X.env.kindOf x=some .globalImplicit
theorem sF {E:Value->Shared->Prop}{pins:List (Addr×Obj)}{s:Shared}{σ:St}{H:Hp}{x:Str}{u:Value}{pos:Pos}{Q:Value->Shared->Prop}(I:Inv X pins σ H s)(hg:Gl X x)(hm:X.mg x=some u)(h:Q u s)
  (hd:(x == ("__debug__":Str))=false:=by decide):wpAny (model X.prog X.w) X.A (eval (.Name x pos) X.env) Q E s :=
 Calls.Name_function_global I.ok.kind hg (Calls.loadGlobal_global (by rw[I.ok.glob];exact I.mod.glob.keeps I.bk) hm h) hd
theorem yj {E:Value->Shared->Prop}{pins:List (Addr×Obj)}{s:Shared}{σ:St}{H:Hp}{x:Str}{u:Value}{pos:Pos}{Q:Value->Shared->Prop}(I:Inv X pins σ H s)(hg:Gl X x)(hm:X.mg x=none)(hv:bootBuiltins x=some u)(h:Q u s)
  (hn:x≠"__name__":=by decide) (hd:(x == ("__debug__":Str))=false:=by decide):wpAny (model X.prog X.w) X.A (eval (.Name x pos) X.env) Q E s:=by
 obtain⟨mb,h1,h2⟩:=I.mod.blt;exact Calls.Name_function_global I.ok.kind hg (Calls.loadGlobal_builtin (by rw[I.ok.glob];exact I.mod.glob.keeps I.bk) hm (by rw[I.ok.blt];exact h1.keeps I.bk) ((h2 x hn).trans hv) h) hd
theorem jI {x:Str}{v:V}{u:Value}{pos:Pos}(hg:Gl X x)(hm:X.mg x=some u)(r:RelV v u)(hd:(x == ("__debug__":Str))=false:=by decide):PE X (.Name x pos) (tC v) :=
 fun _ _ _ H _ I h=>sF I hg hm ⟨v,H,I,r,h⟩ hd
theorem Q5 {x:Str}{v:V}{u:Value}{pos:Pos}(hg:Gl X x)(hm:X.mg x=none)(hv:bootBuiltins x=some u)(r:RelV v u)(hn:x≠"__name__":=by decide)(hd:(x == ("__debug__":Str))=false:=by decide):PE X (.Name x pos) (tC v) :=
 fun _ _ _ H _ I h=>yj I hg hm hv ⟨v,H,I,r,h⟩ hn hd
variable {a b:Expr}{ta tb:TE}{pos:Pos}
noncomputable def tB (t:TE):TT:=fun σ H Q=>t σ H fun x H1=>∃ c,x=.bl c/\Q c H1
theorem VJ {e:Expr}{t:TE}(h:PE X e t)(he:∀ whole,isTrue e X.env whole=(do let v <- whole;standAt e.pos;holding [v] (truthy v)):=by intro _;rfl):PT X e (tB t):=by
 intro pins s σ H Q I hw;refine isTrue_plain (cH (h pins s σ H _ I hw) fun v s1 ⟨x,H1,I1,r1,q1⟩=>?_) (he _);obtain⟨d,rfl,q⟩:=q1;cases r1;exact wpAny_truthy_bool ⟨H1,I1,q⟩
variable {tA tB':TT}{rest:List Expr}
noncomputable def a20 (t u:TT):TT:=fun σ H Q=>t σ H fun c H1=>if c=true then u σ H1 Q else Q false H1
noncomputable def tOr (t u:TT):TT:=fun σ H Q=>t σ H fun c H1=>if c=true then Q true H1 else u σ H1 Q
noncomputable def a2T (t:TT):TT:=fun σ H Q=>t σ H fun c H1=>Q (!c) H1
theorem Qx (ha:PT X a tA):PW X (.BoolOp .And [a] pos) tA:=by
 intro wh pins s σ H Q I h;refine isTrue_and (cH (ha pins s σ H Q I h) fun c s1 e=>?_);cases c with
 | true=>exact isTrue_and_nil e
 | false=>exact e
theorem VF (ha:PT X a tA):PW X (.BoolOp .Or [a] pos) tA:=by
 intro wh pins s σ H Q I h;refine isTrue_or (cH (ha pins s σ H Q I h) fun c s1 e=>?_);cases c with
 | false=>exact isTrue_or_nil e
 | true=>exact e
theorem VI (ha:PT X a tA)(hb:PW X (.BoolOp .And (b::rest) pos) tB'):PW X (.BoolOp .And (a::b::rest) pos) (a20 tA tB'):=by
 intro wh pins s σ H Q I h;refine isTrue_and (cH (ha pins s σ H _ I h) ?_);rintro c s1 ⟨H1,I1,q1⟩;cases c with
 | true=>exact hb wh pins s1 σ H1 Q I1 q1
 | false=>exact⟨H1,I1,q1⟩
theorem ZL (ha:PT X a tA)(hb:PW X (.BoolOp .Or (b::rest) pos) tB'):PW X (.BoolOp .Or (a::b::rest) pos) (tOr tA tB'):=by
 intro wh pins s σ H Q I h;refine isTrue_or (cH (ha pins s σ H _ I h) ?_);rintro c s1 ⟨H1,I1,q1⟩;cases c with
 | true=>exact⟨H1,I1,q1⟩
 | false=>exact hb wh pins s1 σ H1 Q I1 q1
theorem VL (ha:PT X a tA):PT X (.UnaryOp .Not a pos) (a2T tA):=by
 intro pins s σ H Q I h;exact isTrue_not (ha pins s σ H (fun c H1=>Q (!c) H1) I h)
noncomputable def Y6 (ta tb:TE):TE:=fun σ H Q=>ta σ H fun x H1=>∃ c,x=.bl c/\if c=true then tb σ H1 Q else Q (.bl false) H1
noncomputable def a2S (ta tb:TE):TE:=fun σ H Q=>ta σ H fun x H1=>∃ c,x=.bl c/\if c=true then Q (.bl true) H1 else tb σ H1 Q
noncomputable def YJ (ta:TE):TE:=fun σ H Q=>ta σ H fun x H1=>∃ c,x=.bl c/\Q (.bl (!c)) H1
theorem V1 {op}{t:TE}(h:PE X a t):PE X (.BoolOp op [a] pos) t:=fun pins s σ H Q I hw=>BoolOp_one (h pins s σ H Q I hw)
theorem V6 (ha:PE X a ta)(hb:PE X (.BoolOp .And (b::rest) pos) tb):PE X (.BoolOp .And (a::b::rest) pos) (Y6 ta tb):=by
 intro pins s σ H Q I h;refine BoolOp_and (cH (ha pins s σ H _ I h) ?_);rintro v s1 ⟨x,H1,I1,r1,q1⟩;obtain⟨c,rfl,q1⟩:=q1;cases r1;refine wpAny_truthy_bool ?_;cases c with
 | true=>exact hb pins s1 σ H1 Q I1 q1
 | false=>exact⟨.bl false,H1,I1,rfl,q1⟩
theorem ZQ (ha:PE X a ta)(hb:PE X (.BoolOp .Or (b::rest) pos) tb):PE X (.BoolOp .Or (a::b::rest) pos) (a2S ta tb):=by
 intro pins s σ H Q I h;refine BoolOp_or (cH (ha pins s σ H _ I h) ?_);rintro v s1 ⟨x,H1,I1,r1,q1⟩;obtain⟨c,rfl,q1⟩:=q1;cases r1;refine wpAny_truthy_bool ?_;cases c with
 | false=>exact hb pins s1 σ H1 Q I1 q1
 | true=>exact⟨.bl true,H1,I1,rfl,q1⟩
theorem V2 (ha:PE X a ta):PE X (.UnaryOp .Not a pos) (YJ ta):=by
 intro pins s σ H Q I h;refine UnaryOp_ (cH (ha pins s σ H _ I h) ?_);rintro v s1 ⟨x,H1,I1,r1,q1⟩;obtain⟨c,rfl,q1⟩:=q1;cases r1;exact not_of (wpAny_truthy_bool ⟨.bl (!c),H1,I1,rfl,q1⟩)
noncomputable def tIf (t:TT)(ta tb:TE):TE:=fun σ H Q=>t σ H fun c H1=>if c=true then ta σ H1 Q else tb σ H1 Q
theorem M4 {c:Expr}(hc:PT X c tA)(ha:PE X a ta)(hb:PE X b tb):PE X (.IfExp c a b pos) (tIf tA ta tb):=by
 intro pins s σ H Q I h;refine wpAny_IfExp (cH (hc pins s σ H _ I h) ?_);rintro d s1 ⟨H1,I1,q1⟩;cases d with
 | true=>exact ha pins s1 σ H1 Q I1 q1
 | false=>exact hb pins s1 σ H1 Q I1 q1
end
end L2
namespace L2
open PySem PySem.Spec PyProof.Rows
noncomputable def mD (K:PySem.W.Frag)(H:Hp)(a:Addr)(xs:List V):Prop :=
 Rd H a (.lst xs) ∨
  ∃ (o:Obj) (its:Array Value) (n:Nat),K.lookup a=some o/\o.cls=.type "list"/\o.dict=none/\o.data=.seq its n/\its.size<=sizeLine/\Vals xs its.toList
noncomputable def mC (K:PySem.W.Frag)(H:Hp)(a:Addr)(xs:List V):Prop :=
 Rd H a (.tup xs) ∨
  ∃ (o:Obj) (its:Array Value) (n:Nat),K.lookup a=some o/\o.cls=.type "tuple"/\o.data=.seq its n/\its.size<=sizeLine/\Vals xs its.toList
noncomputable def a5w:Value->Option V
 | .none=>some .dO
 | .bool b=>some (.bl b)
 | .int i _=>some (.int i)
 | .str x _=>some (.str x)
 | .bytes b _=>some (.Lw b)
 | .float b _=>some (.Xb b)
 | .ref a=>some (.ref a)
 | .type n=>some (.ty n)
 | _=>none
theorem RelV.abs {x:V}{u:Value}(r:RelV x u):a5w u=some x:=by
 cases x with
 | dO=>cases r;rfl
 | bl _=>cases r;rfl
 | int _=>obtain⟨t,rfl⟩:=r;rfl
 | str _=>obtain⟨t,rfl⟩:=r;rfl
 | Lw _=>obtain⟨t,rfl⟩:=r;rfl
 | Xb _=>obtain⟨t,rfl⟩:=r;rfl
 | ref _=>cases r;rfl
 | ty _=>cases r;rfl
theorem RelV.inj {x y:V}{u:Value}(r:RelV x u)(q:RelV y u):x=y:=Option.some.inj (r.abs.symm.trans q.abs)
theorem Vals.inj:∀ {xs ys:List V} {us:List Value},Vals xs us->Vals ys us->xs=ys
 | _,_,_,.nil,.nil=>rfl
 | _,_,_,.cons r t,.cons r' t'=>by rw[r.inj r',Vals.inj t t']
section
variable {X:Cx}{pins:List (Addr×Obj)}{σ:St}{H:Hp}{s:Shared}{a:Addr}{xs ys:List V}
theorem mD.of {K:PySem.W.Frag}(h:H a=some (.lst xs)):mD K H a xs:=.inl (.inl h)
theorem mC.of {K:PySem.W.Frag}(h:H a=some (.tup xs)):mC K H a xs:=.inl (.inl h)
theorem Inv.list (I:Inv X pins σ H s)(h:mD X.K H a xs):∃ its:List Value,Vals xs its/\PlainL s.heap a its.toArray/\xs.length<=sizeLine:=by
 rcases h with h | ⟨o,its,n,hk,hc,hd,hs,hz,r⟩
 ·obtain⟨z,its,n,r,e⟩:=h.ok I.hok;exact⟨its,r,⟨_,n,e,rfl,rfl,rfl⟩,z⟩
 ·refine⟨its.toList,r,⟨o,n,I.sH a o hk,hc,hd,by simpa using hs⟩,?_⟩;have e:=r.length;simp only[Array.length_toList] at e;omega
theorem Inv.tuple (I:Inv X pins σ H s)(h:mC X.K H a xs):∃ its:List Value,Vals xs its/\IsTup s.heap a its.toArray/\xs.length<=sizeLine:=by
 rcases h with h | ⟨o,its,n,hk,hc,hs,hz,r⟩
 ·obtain⟨z,its,r,p⟩:=h.ok I.hok;exact⟨its,r,p,z⟩
 ·refine⟨its.toList,r,⟨o,I.sH a o hk,hc,n,by simpa using hs⟩,?_⟩;have e:=r.length;simp only[Array.length_toList] at e;omega
theorem Inv.NJ (I:Inv X pins σ H s)(h:mD X.K H a xs)(h':mD X.K H a ys):xs=ys:=by
 obtain⟨its,r,⟨o,n,e,_,_,d⟩,_⟩:=I.list h;obtain⟨its',r',⟨o',n',e',_,_,d'⟩,_⟩:=I.list h';rw[e] at e';cases e';rw[d] at d';injection d' with d1 _
 have:its=its':=by simpa using congrArg Array.toList d1
 subst this;exact r.inj r'
theorem Inv.JU (I:Inv X pins σ H s)(h:mC X.K H a xs)(h':mC X.K H a ys):xs=ys:=by
 obtain⟨its,r,⟨o,e,_,n,d⟩,_⟩:=I.tuple h;obtain⟨its',r',⟨o',e',_,n',d'⟩,_⟩:=I.tuple h';rw[e] at e';cases e';rw[d] at d';injection d' with d1 _
 have:its=its':=by simpa using congrArg Array.toList d1
 subst this;exact r.inj r'
end
noncomputable abbrev Cx.zy (X:Cx)(E:Value->Shared->Prop):Cx:={ X with xe:=E }
noncomputable abbrev Cx.XR (X:Cx):Cx:=X.zy fun _ _=>False
theorem Cx.Ok.zy {X:Cx}(ok:X.Ok)(E:Value->Shared->Prop):(X.zy E).Ok :=
 ⟨ok.mod,ok.kind,ok.glob,ok.blt,ok.above,ok.inj,ok.has,ok.cab,ok.hd,ok.frames,ok.stk,ok.exf,ok.bs,ok.SD,ok.NB,ok.Oh,ok.vL,ok.W9⟩
theorem Cx.Ok.mG {X:Cx}{E:Value->Shared->Prop}(ok:(X.zy E).Ok):X.Ok :=
 ⟨ok.mod,ok.kind,ok.glob,ok.blt,ok.above,ok.inj,ok.has,ok.cab,ok.hd,ok.frames,ok.stk,ok.exf,ok.bs,ok.SD,ok.NB,ok.Oh,ok.vL,ok.W9⟩
section
variable {X:Cx}{pins:List (Addr×Obj)}{σ:St}{H:Hp}{s:Shared}{E:Value->Shared->Prop}
theorem Inv.zy (I:Inv X pins σ H s)(E:Value->Shared->Prop):Inv (X.zy E) pins σ H s:=⟨I.ok.zy E,I.os,I.bare,I.base,I.loc,I.cell,I.free,I.nC,I.pin,I.hok,I.len⟩
theorem Inv.mG (I:Inv (X.zy E) pins σ H s):Inv X pins σ H s:=⟨I.ok.mG,I.os,I.bare,I.base,I.loc,I.cell,I.free,I.nC,I.pin,I.hok,I.len⟩
theorem SP.mG {D:Ends}{f:Flow}{s':Shared}(h:SP (X.zy E) pins D f s'):SP X pins D f s':=by
 cases f with
 | next=>obtain⟨σ',H',I,q⟩:=h;exact⟨σ',H',I.mG,q⟩
 | brk=>obtain⟨σ',H',I,q⟩:=h;exact⟨σ',H',I.mG,q⟩
 | cont=>obtain⟨σ',H',I,q⟩:=h;exact⟨σ',H',I.mG,q⟩
 | ret u=>obtain⟨v,σ',H',I,r,q⟩:=h;exact⟨v,σ',H',I.mG,r,q⟩
theorem C1.XR {st:List Stmt}{t:TS}(h:C1 X.XR st t):C1 X st t:=fun pins s σ H D I hw =>
 wpAny_mono (h pins s σ H D (I.zy _) hw) (fun _ _ q=>q.mG) fun _ _ z=>False.elim z
end
section
variable {X:Cx}{st:Stmt}{rest:List Stmt}{t u:TS}{e:Expr}{te:TE}{pos:Pos}
noncomputable def YM:TS:=fun D σ H=>D.nx σ H
noncomputable def a2Q (t u:TS):TS:=fun D σ H=>t { D with nx:=u D } σ H
theorem QD:C1 X [] YM:=fun _ _ σ H _ I h=>wpAny_execs_nil ⟨σ,H,I,h⟩
theorem MU (h1:PS X st t)(h2:C1 X rest u):C1 X (st::rest) (a2Q t u):=by
 intro pins s σ H D I h;refine wpAny_execs_cons (cH (h1 pins s σ H { D with nx:=u D } I h) fun f s1 q=>?_);cases f with
 | next =>
  obtain⟨σ',H',I',q⟩:=q;exact h2 pins s1 σ' H' D I' q
 | ret v=>exact q
 | brk=>exact q
 | cont=>exact q
theorem QC (h1:PS X st t):C1 X [st] t:=by
 intro pins s σ H D I h;refine wpAny_execs_cons (cH (h1 pins s σ H D I h) fun f s1 q=>?_);cases f with
 | next=>exact wpAny_execs_nil q
 | ret v=>exact q
 | brk=>exact q
 | cont=>exact q
theorem Inv.quiet {pins:List (Addr×Obj)}{σ:St}{H:Hp}{s:Shared}(I:Inv X pins σ H s):interactive X.env=false:=by simp[interactive,I.ok.kind]
noncomputable def YV (te:TE):TS:=fun D σ H=>te σ H fun _ H1=>D.nx σ H1
theorem QF (he:PE X e te)(hs:swapsWith e none pos.line X.env=pure false:=by rfl):PS X (.Expr e pos) (YV te):=by
 intro pins s σ H D I h;exact wpAny_Expr_any (cH (he pins s σ H _ I h) (by rintro v s1 ⟨x,H1,I1,r1,q1⟩;exact ⟨σ,H1,I1,q1⟩)) I.quiet hs
noncomputable def a2R (te:TE):TS:=fun D σ H=>te σ H D.rt
theorem VO (he:PE X e te):PS X (.Return (some e) pos) (a2R te):=by
 intro pins s σ H D I h;exact wpAny_Return_some (cH (he pins s σ H _ I h) (by rintro v s1 ⟨x,H1,I1,r1,q1⟩;exact ⟨x,σ,H1,I1,r1,q1⟩))
noncomputable def a2U (c:TT)(t u:TS):TS:=fun D σ H=>c σ H fun b H1=>if b=true then t D σ H1 else u D σ H1
theorem ZM {c:Expr}{a b:List Stmt}{tc:TT}(hc:PT X c tc)(ha:C1 X a t)(hb:C1 X b u):PS X (.If c a b pos) (a2U tc t u):=by
 intro pins s σ H D I h;refine wpAny_If (cH (hc pins s σ H _ I h) ?_);rintro d s1 ⟨H1,I1,q1⟩;cases d with
 | true=>exact ha pins s1 σ H1 D I1 q1
 | false=>exact hb pins s1 σ H1 D I1 q1
noncomputable def UT:TS:=fun _ _ _=>False
theorem J0 {sts:List Stmt}:C1 X sts UT:=fun _ _ _ _ _ _ h=>h.elim
end
noncomputable abbrev TG:=V->St->Hp->(St->Hp->Prop)->Prop
noncomputable abbrev Ph:=List V->St->Hp->(St->Hp->Prop)->Prop
noncomputable def PG (X:Cx)(target:Expr)(t:TG):Prop :=
 ∀ (pins:List (Addr×Obj)) (s:Shared) (σ:St) (H:Hp) (v:V) (u:Value) (Q:St->Hp->Prop),Inv X pins σ H s->RelV v u->t v σ H Q ->
  wpAny (model X.prog X.w) X.A (assign target X.env u) (fun _ s'=>∃ σ' H',Inv X pins σ' H' s'/\Q σ' H') X.xe s
noncomputable def Uz (X:Cx)(ts:List Expr)(t:Ph):Prop :=
 ∀ (pins:List (Addr×Obj)) (s:Shared) (σ:St) (H:Hp) (vs:List V) (us:List Value) (Q:St->Hp->Prop),Inv X pins σ H s->Vals vs us->t vs σ H Q ->
  wpAny (model X.prog X.w) X.A (assignInOrder ((assignEach ts X.env).map (·.2)) us) (fun _ s'=>∃ σ' H',Inv X pins σ' H' s'/\Q σ' H') X.xe s
noncomputable abbrev OU:=V->V->V->Hp->(Hp->Prop)->Prop
noncomputable def XM (X:Cx)(t:OU):Prop :=
 ∀ (pins:List (Addr×Obj)) (s:Shared) (σ:St) (H:Hp) (o i v:V) (ov iv u:Value) (Q:Hp->Prop),Inv X pins σ H s->RelV o ov->RelV i iv->RelV v u->t o i v H Q ->
  wpAny (model X.prog X.w) X.A (setItem ov iv u) (fun _ s'=>∃ H',Inv X pins σ H' s'/\Q H') X.xe s
noncomputable abbrev Yn:=V->V->Hp->VK->Prop
noncomputable def PIp (X:Cx)(op:Operator)(t:Yn):Prop :=
 ∀ (pins:List (Addr×Obj)) (s:Shared) (σ:St) (H:Hp) (x y:V) (v u:Value) (Q:VK),Inv X pins σ H s->RelV x v->RelV y u->t x y H Q ->
  wpAny (model X.prog X.w) X.A (inplaceOp op v u) (EP X pins σ Q) X.xe s
section
variable {X:Cx}{pos:Pos}
noncomputable def Ob (i:Nat):TG:=fun v σ H Q=>Q (σ.set i (some v)) H
theorem IL {i:Nat}{x:Str}(hN:X.N.Nodup)(hi:X.N[i]?=some x)(hx:Loc X.env.scope x)(hf:X.fn x=true∨X.env.scope.names.lookup x=some .local:=by first | exact .inl rfl | exact .inr rfl | assumption):PG X (.Name x pos) (Ob i):=by
 intro pins s σ H v u Q I r h;exact wpAny_assign_Name (xj I hN hi hx r (fun s' I'=>⟨_,H,I',h⟩) hf)
noncomputable def a4w:Ph:=fun vs σ H Q=>vs=[]/\Q σ H
noncomputable def a1h (t:TG)(u:Ph):Ph:=fun vs σ H Q=>∃ v r,vs=v::r/\t v σ H fun σ' H'=>u r σ' H' Q
theorem IK:Uz X [] a4w:=by
 intro pins s σ H vs us Q I r h;obtain⟨e,h⟩:=h;subst e;cases r;exact assignInOrder_nil ⟨σ,H,I,h⟩
theorem DX {e:Expr}{es:List Expr}{t:TG}{u:Ph}(h1:PG X e t)(h2:Uz X es u)
  (hs:(assignEach (e::es) X.env).map (·.2)=assign e X.env::(assignEach es X.env).map (·.2):=by rfl):Uz X (e::es) (a1h t u):=by
 intro pins s σ H vs us Q I r h;obtain⟨v,vr,e1,h⟩:=h;subst e1;cases r with
 | cons r rr =>
  rw[hs];refine assignInOrder_cons (cH (h1 pins s σ H _ _ _ I r h) ?_);rintro _ s1 ⟨σ1,H1,I1,q1⟩;exact h2 pins s1 σ1 H1 _ _ Q I1 rr q1
noncomputable def a4u (K:PySem.W.Frag)(n:Nat)(t:Ph):TG:=fun v σ H Q=>∃ a xs,v=.ref a/\mC K H a xs/\xs.length=n/\t xs σ H Q
theorem M0 {es:List Expr}{k:Nat}{t:Ph}{n:Nat}(hc:X.calm=true)(h:Uz X es t)
  (hn:(assignEach es X.env).length=n:=by rfl) (hst:(assignEach es X.env).findIdx? (·.1)=none:=by rfl):PG X (.Tuple es k pos) (a4u X.K n t):=by
 intro pins s σ H v u Q I r hw;obtain⟨a,xs,e1,hq,hl,hw⟩:=hw;subst e1;cases r;obtain⟨its,rv,ht,hz⟩:=I.tuple hq;refine assign_Tuple_tuple (I.ok.hd hc) ht (by simp[hn,<- hl,rv.length]) hst fun h' hx=>?_;have I1:Inv X pins σ H { s with heap:=h' }:=I.kept (t':=s.toks) fun b o e=>hx b o (Nat.ne_of_lt (Heap.lt_size e)) e;exact h pins _ σ H xs _ Q I1 (by simpa using rv) hw
noncomputable def a4v (to ti:TE)(t:OU):TG:=fun v σ H Q=>to σ H fun o H1=>ti σ H1 fun i H2=>t o i v H2 fun H3=>Q σ H3
theorem VY {o i:Expr}{to ti:TE}{t:OU}(ho:PE X o to)(hi:PE X i ti)(hs:XM X t)
  (ha:∀ v,assign (.Subscript o i pos) X.env v=(do
   let ov <- holding [v] (eval o X.env)
   let iv <- holding [v,ov] (eval i X.env)
   standAt pos
   holding [v,ov,iv] (setItem ov iv v)
   release [v,ov,iv] []):=by intro _;rfl):PG X (.Subscript o i pos) (a4v to ti t):=by
 intro pins s σ H v u Q I r h;rw[ha];refine wpAny_bind (wpAny_holding (cH (ho pins s σ H _ I h) ?_));rintro ov s1 ⟨x,H1,I1,r1,q1⟩;refine wpAny_bind (wpAny_holding (cH (hi pins s1 σ H1 _ I1 q1) ?_));rintro iv s2 ⟨y,H2,I2,r2,q2⟩;refine wpAny_bind (wpAny_standAt (wpAny_bind (wpAny_holding (cH (hs pins s2 σ H2 x y v ov iv u _ I2 r1 r2 r q2) ?_))));rintro _ s3 ⟨H3,I3,q3⟩;exact wpAny_release ⟨σ,H3,I3,q3⟩
noncomputable def UY (te:TE)(g:TG):TS:=fun D σ H=>te σ H fun x H1=>g x σ H1 D.nx
theorem VS {tg e:Expr}{te:TE}{g:TG}(he:PE X e te)(hg:PG X tg g)(hs:swapsWithSole [tg] e pos.line X.env=pure false:=by rfl)(hw:swappedStores [tg] e X.env=pure none:=by rfl)
  (h1:(assignEach [tg] X.env).map (·.2)=[assign tg X.env]:=by rfl):PS X (.Assign [tg] e pos) (UY te g):=by
 intro pins s σ H D I h;refine wpAny_Assign_stores (cH (he pins s σ H _ I h) fun v s1 ⟨x,H1,I1,r1,q1⟩=>?_) hs hw;rw[h1];exact cH (hg pins s1 σ H1 x v _ I1 r1 q1) fun _ s2 q=>q
theorem VN {i:Nat}{x:Str}{e:Expr}{te:TE}{pos':Pos}(hN:X.N.Nodup)(hi:X.N[i]?=some x)(hx:Loc X.env.scope x)(he:PE X e te)(hs:swapsWith e (some (.Name x pos')) pos.line X.env=pure false:=by rfl)(hf:X.fn x=true∨X.env.scope.names.lookup x=some .local:=by first | exact .inl rfl | exact .inr rfl | assumption) :
  PS X (.Assign [.Name x pos'] e pos) (UY te (Ob i)):=by
 intro pins s σ H D I h;refine wpAny_Assign_Name (cH (he pins s σ H _ I h) fun v s1 ⟨y,H1,I1,r1,q1⟩=>?_) hs;exact xj I1 hN hi hx r1 (fun s2 I2=>⟨_,H1,I2,q1⟩) hf
noncomputable def a2Z (i:Nat)(te:TE)(ti:Yn):TS:=fun D σ H=>∃ x,σ[i]?=some (some x)/\te σ H fun y H1=>ti x y H1 fun z H2=>D.nx (σ.set i (some z)) H2
theorem VR {i:Nat}{x:Str}{e:Expr}{te:TE}{op:Operator}{ti:Yn}{pos':Pos}(hN:X.N.Nodup)(hi:X.N[i]?=some x)(hx:Loc X.env.scope x)(he:PE X e te)(ho:PIp X op ti)(hf:X.fn x=true∨X.env.scope.names.lookup x=some .local:=by first | exact .inl rfl | exact .inr rfl | assumption) :
  PS X (.AugAssign (.Name x pos') op e pos) (a2Z i te ti):=by
 intro pins s σ H D I h;obtain⟨v,e1,h⟩:=h;obtain⟨m,hn,hl⟩:=I.loc;have vis:Vis X.env.scope x:=by rcases hx with k | k;exact .inl k;exact .inr (.inl k)
 obtain⟨u,r,l⟩:=hl i x v hi e1 vis;refine wpAny_AugAssign_Name ?_;have go:wpAny (model X.prog X.w) X.A (eval e X.env) (fun w s₂=>wpAny (model X.prog X.w) X.A (inplaceOp op u w) (fun r s₃=>wpAny (model X.prog X.w) X.A (storeName X.env x r) (fun _=>SP X pins D .next) X.xe s₃) X.xe s₂) X.xe s:=by
  refine cH (he pins s σ H _ I h) ?_;rintro w s1 ⟨y,H1,I1,r1,q1⟩;refine cH (ho pins s1 σ H1 v y u w _ I1 r r1 q1) ?_;rintro z s2 ⟨zv,H2,I2,r2,q2⟩;exact xj I2 hN hi hx r2 (fun s3 I3=>⟨_,H2,I3,q2⟩) hf
 rcases l with ⟨hk,hm⟩ | ⟨hk,c,hc,hcell⟩
 ·exact wpAny_loadName_local I.ok.kind hk hn hm go
 ·rcases hk with hk | hk
  ·exact wpAny_loadName_cell I.ok.kind hk hc hcell go
  ·rcases hx with k | k
   ·have:X.env.scope.names.lookup x=some .free:=hk;rw[k] at this;cases this
   ·have:X.env.scope.names.lookup x=some .free:=hk;rw[k] at this;cases this
noncomputable def Y3 (to ti te:TE)(Py:V->V->Hp->VK->Prop)(tip:Yn)(Pu:OU):TS:=fun D σ H=>to σ H fun o H1=>ti σ H1 fun i H2=>Py o i H2 fun x H3=>te σ H3 fun y H4=>tip x y H4 fun z H5=>Pu o i z H5 fun H6=>D.nx σ H6
noncomputable def a1P (X:Cx)(t:V->V->Hp->VK->Prop):Prop :=
 ∀ (pins:List (Addr×Obj)) (s:Shared) (σ:St) (H:Hp) (o i:V) (ov iv:Value) (Q:VK),Inv X pins σ H s->RelV o ov->RelV i iv->t o i H Q ->
  wpAny (model X.prog X.w) X.A (getItem ov iv) (EP X pins σ Q) X.xe s
theorem QJ {o i e:Expr}{to ti te:TE}{Py:V->V->Hp->VK->Prop}{tip:Yn}{Pu:OU}{op:Operator}{tpos:Pos}(ho:PE X o to)(hi:PE X i ti)(hg:a1P X Py)(he:PE X e te)(hp:PIp X op tip)(hs:XM X Pu)
  (ha:∀ ov iv new,augStore i ov iv new=(do holding [new,ov,iv] (setItem ov iv new);release [new,ov,iv] [];pure .next):=by intros;rfl):PS X (.AugAssign (.Subscript o i tpos) op e pos) (Y3 to ti te Py tip Pu):=by
 intro pins s σ H D I h;refine wpAny_AugAssign_SubscriptAny (cH (ho pins s σ H _ I h) fun ov s1 ⟨x1,H1,I1,r1,q1⟩=>?_) ha;refine cH (hi pins s1 σ H1 _ I1 q1) ?_;rintro iv s2 ⟨x2,H2,I2,r2,q2⟩;refine cH (hg pins s2 σ H2 x1 x2 ov iv _ I2 r1 r2 q2) ?_;rintro old s3 ⟨x3,H3,I3,r3,q3⟩;refine cH (he pins s3 σ H3 _ I3 q3) ?_;rintro v s4 ⟨x4,H4,I4,r4,q4⟩;refine cH (hp pins s4 σ H4 x3 x4 old v _ I4 r3 r4 q4) ?_;rintro new s5 ⟨x5,H5,I5,r5,q5⟩;exact cH (hs pins s5 σ H5 x1 x2 x5 ov iv new _ I5 r1 r2 r5 q5) (by rintro _ s6 ⟨H6,I6,q6⟩;exact ⟨σ,H6,I6,q6⟩)
noncomputable def ipI (f:Int->Int->Int):Yn:=fun x y H Q=>∃ i j,x=.int i/\y=.int j/\Q (.int (f i j)) H
theorem N3:PIp X .Add (ipI fun i j=>i+j):=by
 intro pins s σ H x y v u Q I r1 r2 h;obtain⟨i,j,e1,e2,q⟩:=h;subst e1;subst e2;obtain⟨t,rfl⟩:=r1;obtain⟨t',rfl⟩:=r2;exact iadd_int ⟨.int _,H,I.tok _,⟨_,rfl⟩,q⟩
end
section
variable {X:Cx}{pos:Pos}
noncomputable def UP (c:TT)(tb:TS):TS:=fun D σ H=>∃ W:Nat->St->Hp->Prop,(∃ m,W m σ H)/\∀ m σ H,W m σ H ->
 c σ H fun b H1=>if b=true then ∃ N:St->Hp->Prop,(∀ σ' H',N σ' H'->∃ m',m' < m/\W m' σ' H')/\tb { D with nx:=N,ct:=N,bk:=D.nx } σ H1 else D.nx σ H1
theorem MV {c:Expr}{body:List Stmt}{tc:TT}{tb:TS}(hp:PassesOwn (model X.prog X.w) X.A X.env X.xe)(hc:PT X c tc)(hb:C1 X body tb):PS X (.While c body [] pos) (UP tc tb):=by
 intro pins s σ H D I h;obtain⟨W,⟨m0,w0⟩,turn⟩:=h;refine wpAny_While (codeAny_whileLoop (fun n s'=>∃ σ' H',Inv X pins σ' H' s'/\W n σ' H') ?_ m0 ⟨σ,H,I,w0⟩);rintro n s1 ⟨σ1,H1,I1,w1⟩;refine wpAny_passesOwn hp (cH (hc pins s1 σ1 H1 _ I1 (turn n σ1 H1 w1)) ?_);rintro b s2 ⟨H2,I2,q2⟩;cases b with
 | true =>
  obtain⟨N,hN,q2⟩:=q2;rw[if_pos rfl];refine wpAny_passesOwn hp (cH (hb pins s2 σ1 H2 _ I2 q2) fun f s3 q3=>?_);cases f with
  | next =>
   obtain⟨σ3,H3,I3,n3⟩:=q3;obtain⟨m',hm,w3⟩:=hN σ3 H3 n3;exact⟨m',hm,σ3,H3,I3,w3⟩
  | cont =>
   obtain⟨σ3,H3,I3,n3⟩:=q3;obtain⟨m',hm,w3⟩:=hN σ3 H3 n3;exact⟨m',hm,σ3,H3,I3,w3⟩
  | brk=>exact q3
  | ret v=>exact q3
 | false =>
  rw[if_neg Bool.false_ne_true];exact wpAny_execs_nil ⟨σ1,H2,I2,q2⟩
end
structure It where
 go:Nat->Hp->Prop
 FE:Nat->Hp->V->Hp->Prop
 stop:Nat->Hp->Prop
noncomputable def vU (X:Cx)(pins:List (Addr×Obj))(H:Hp)(b:Addr):Prop :=
 H b=none/\b≠X.env.locals/\b ∉ X.fs/\(b∈X.ex∨X.s₀.heap.objs.size<=b)/\(∀ x c,X.env.cells.lookup x=some c->c≠b)/\∀ p∈X.pn++pins,p.1≠b
theorem Inv.Eu {X:Cx}{pins:List (Addr×Obj)}{σ:St}{H H':Hp}{s:Shared}{b:Addr}(I:Inv X pins σ H s)(hb:s.heap.objs.size<=b)(hn:H' b=none):vU X pins H' b:=by
 refine⟨hn,Nat.ne_of_gt (Nat.lt_of_lt_of_le I.lt hb),I.Z5 hb,.inr (Nat.le_trans I.sz hb),fun x c e z=>?_,fun p hp z=>?_⟩
 ·obtain⟨v,q⟩:=I.cell x c e;exact absurd (Nat.lt_of_lt_of_le q.lt (by rw[z];exact hb)) (Nat.lt_irrefl _)
 ·exact absurd (Nat.lt_of_lt_of_le (Heap.lt_size (I.pin p hp).1) (by rw[z];exact hb)) (Nat.lt_irrefl _)
structure Turn (P:Program)(w:World)(K:PySem.W.Frag)(tg:Expr)(J:It)(fp:List Addr)(it:Addr)(tn:Nat->Heap->Prop):Prop where
 mem:it∈fp
 obj:∀ i h,tn i h->∀ b∈fp,∃ o,h.get? b=some o/\∀ v,o.data≠.cell v
 keep:∀ i h h',tn i h->(∀ b∈fp,∀ o,h.get? b=some o->h'.get? b=some o)->tn i h'
 item:∀ (X:Cx),X.prog=P->X.w=w->X.K=K->X.calm=true->∀ (i:Nat) (pins:List (Addr×Obj)) (s:Shared) (σ:St) (H:Hp) (E:Value->Shared->Prop),Inv X pins σ H s->(∀ b∈fp,vU X pins H b)->tn i s.heap->J.go i H ->
  wpAny (model P w) X.A (pyNext (.ref it)) (fun r s1=>∃ u,r=some u /\
   wpAny (model P w) X.A (letOwnedTupleGo tg (.ref it) u) (fun _ s2=>∃ x H',Inv X pins σ H' s2/\RelV x u/\J.FE i H x H'/\tn (i+1) s2.heap/\∀ b∈fp,H' b=none) E s1) E s
 done:∀ (X:Cx),X.prog=P->X.w=w->X.K=K->X.calm=true->∀ (i:Nat) (pins:List (Addr×Obj)) (s:Shared) (σ:St) (H:Hp) (E:Value->Shared->Prop),Inv X pins σ H s->(∀ b∈fp,vU X pins H b)->tn i s.heap->J.stop i H ->
  wpAny (model P w) X.A (pyNext (.ref it)) (fun r s1=>r=none/\Inv X pins σ H s1) E s
 self:∀ (A:Around) (i:Nat) (s:Shared) (Q:Value->Shared->Prop) (E:Value->Shared->Prop),tn i s.heap->Q (.ref it) s->wpAny (model P w) A (pyIter (.ref it)) Q E s
noncomputable abbrev TI:=St->Hp->(It->Hp->Prop)->Prop
noncomputable def PIE (X:Cx)(pins:List (Addr×Obj))(σ:St)(tg:Expr)(R:It->Hp->Prop)(itv:Value)(s2:Shared):Prop :=
 ∃ (it:Addr) (fp:List Addr) (tn:Nat->Heap->Prop) (J:It) (H':Hp),itv=.ref it/\Inv X pins σ H' s2/\Turn X.prog X.w X.K tg J fp it tn/\tn 0 s2.heap/\(∀ b∈fp,vU X pins H' b)/\R J H'
noncomputable def PI (X:Cx)(tg iter:Expr)(wi:TI):Prop :=
 ∀ (pins:List (Addr×Obj)) (s:Shared) (σ:St) (H:Hp) (R:It->Hp->Prop),Inv X pins σ H s->wi σ H R ->
  wpAny (model X.prog X.w) X.A (eval iter X.env) (fun v s1=>wpAny (model X.prog X.w) X.A (pyIter v) (PIE X pins σ tg R) X.xe s1) X.xe s
theorem vn {M:Model}{A:Around}{E:Value->Shared->Prop}{s:Shared}{tg:Expr}{it:Addr}{u:Value}{o:Obj}{n:String}{vs:Array Value}{Q:Unit->Shared->Prop}(ho:s.heap.get? it=some o)(hc:o.cls=.type n)(hd:o.data=.fields vs)
  (hn:["enumerate","zip","dict_itemiterator","dict_reverseitemiterator","odict_iterator","itertools.zip_longest","itertools.pairwise"].contains n=false) (hQ:Q () s):wpAny M A (letOwnedTupleGo tg (.ref it) u) Q E s:=by
 unfold letOwnedTupleGo;cases tg <;> first
  | exact wpAny_pure hQ
  | (cases u <;> first
    | exact wpAny_pure hQ
    | (
      refine wpAny_bind (wpAny_load ho ?_);rw[hc,hd];show wpAny M A (if (["enumerate","zip","dict_itemiterator","dict_reverseitemiterator","odict_iterator","itertools.zip_longest","itertools.pairwise"].contains n && vs[0]? == some (rawInt _))=true then _ else _) Q E s;rw[if_neg (by intro h;rw[hn,Bool.false_and] at h;cases h)];exact wpAny_pure hQ))
noncomputable def Itl (K:PySem.W.Frag)(a:Addr):It :=
 ⟨fun i H=>∃ xs x,mD K H a xs/\xs[i]?=some x,fun i H x H'=>H'=H/\∀ xs,mD K H a xs->xs[i]?=some x,fun i H=>∃ xs,mD K H a xs/\xs.length<=i⟩
noncomputable def Itt (K:PySem.W.Frag)(a:Addr):It :=
 ⟨fun i H=>∃ xs x,mC K H a xs/\xs[i]?=some x,fun i H x H'=>H'=H/\∀ xs,mC K H a xs->xs[i]?=some x,fun i H=>∃ xs,mC K H a xs/\xs.length<=i⟩
noncomputable def Itr (lo:Int)(n:Nat):It:=⟨fun i _=>i < n,fun i H x H'=>H'=H/\x=.int (lo+i),fun i _=>n<=i⟩
theorem JS {P:Program}{w:World}{K:PySem.W.Frag}{tg:Expr}(a it:Addr):Turn P w K tg (Itl K a) [it] it (fun i h=>h.IsListIter it a i) where
 mem:=by simp
 obj:=fun i h st b hb=>by
  have e:b=it:=by simpa using hb
  subst e;obtain⟨o,e,c,d⟩:=st;exact⟨o,e,fun v z=>by rw[d] at z;cases z⟩
 keep:=fun i h h' st k=>st.at fun o e=>k it (by simp) o e
 item:=by
  intro X hP hw hK hc i pins s σ H E I hf st hg;subst hP hw hK;obtain⟨xs,x,hq,hx⟩:=hg;obtain⟨its,rv,p,hz⟩:=I.list hq;obtain⟨u,hu,ru⟩:=rv.get hx;obtain⟨f0,f1,f2,f3,f4,f5⟩:=hf it (by simp);refine wpAny_pyNext_list_item st p.isList (x:=u) (by simpa using hu) fun h' st' sb=>?_;have I1:Inv X pins σ H { s with heap:=h' }:=I.turned (t':=s.toks) (fun b o hb e=>(sb.2 b hb).trans e) f0 f1 f3 f4 f5;obtain⟨o,e,c,d⟩:=id st';exact⟨u,rfl,vn (s:={ s with heap:=h' }) e c d (by decide) ⟨x,H,I1,ru,⟨rfl,fun ys hy=>by rw[I.NJ hy hq];exact hx⟩,st',fun b hb=>(hf b hb).1⟩⟩
 done:=by
  intro X hP hw hK hc i pins s σ H E I hf st hg;subst hP hw hK;obtain⟨xs,hq,hx⟩:=hg;obtain⟨its,rv,p,hz⟩:=I.list hq;obtain⟨f0,f1,f2,f3,f4,f5⟩:=hf it (by simp);have hl:=rv.length;exact wpAny_pyNext_list_end (I.ok.hd hc) st p.isList (by simp;omega) fun h' eb=>⟨rfl,I.turned (t':=s.toks) (fun b o hb e=>eb b o hb e) f0 f1 f3 f4 f5⟩
 self:=fun _ _ _ _ _ st h=>wpAny_pyIter_listiter st h
theorem FG {P:Program}{w:World}{K:PySem.W.Frag}{tg:Expr}(a it:Addr):Turn P w K tg (Itt K a) [it] it (fun i h=>h.IsTupleIter it a i) where
 mem:=by simp
 obj:=fun i h st b hb=>by
  have e:b=it:=by simpa using hb
  subst e;obtain⟨o,e,c,d⟩:=st;exact⟨o,e,fun v z=>by rw[d] at z;cases z⟩
 keep:=fun i h h' st k=>st.at fun o e=>k it (by simp) o e
 item:=by
  intro X hP hw hK hc i pins s σ H E I hf st hg;subst hP hw hK;obtain⟨xs,x,hq,hx⟩:=hg;obtain⟨its,rv,p,hz⟩:=I.tuple hq;obtain⟨u,hu,ru⟩:=rv.get hx;obtain⟨f0,f1,f2,f3,f4,f5⟩:=hf it (by simp);refine wpAny_pyNext_tuple_item st (show s.heap.IsTuple a its.toArray from p) (x:=u) (by simpa using hu) fun h' st' sb=>?_;have I1:Inv X pins σ H { s with heap:=h' }:=I.turned (t':=s.toks) (fun b o hb e=>(sb.2 b hb).trans e) f0 f1 f3 f4 f5;obtain⟨o,e,c,d⟩:=id st';exact⟨u,rfl,vn (s:={ s with heap:=h' }) e c d (by decide) ⟨x,H,I1,ru,⟨rfl,fun ys hy=>by rw[I.JU hy hq];exact hx⟩,st',fun b hb=>(hf b hb).1⟩⟩
 done:=by
  intro X hP hw hK hc i pins s σ H E I hf st hg;subst hP hw hK;obtain⟨xs,hq,hx⟩:=hg;obtain⟨its,rv,p,hz⟩:=I.tuple hq;obtain⟨f0,f1,f2,f3,f4,f5⟩:=hf it (by simp);have hl:=rv.length;exact wpAny_pyNext_tuple_end (I.ok.hd hc) st (show s.heap.IsTuple a its.toArray from p) (by simp;omega) fun h' eb=>⟨rfl,I.turned (t':=s.toks) (fun b o hb e=>eb b o hb e) f0 f1 f3 f4 f5⟩
 self:=fun _ _ _ _ _ st h=>wpAny_pyIter_tupleiter st h
theorem FH {P:Program}{w:World}{K:PySem.W.Frag}{tg:Expr}(it:Addr)(lo:Int)(n:Nat):Turn P w K tg (Itr lo n) [it] it (fun i h=>IsRangeIter h it (lo+(i:Nat)*1) ((n:Int) - (i:Nat)) 1) where
 mem:=by simp
 obj:=fun i h st b hb=>by
  have e:b=it:=by simpa using hb
  subst e;exact⟨_,st,fun v z=>by
   have z':Data.fields _=Data.cell v:=z;cases z'⟩
 keep:=fun i h h' st k=>k it (by simp) _ st
 item:=by
  intro X hP hw hK hc i pins s σ H E I hf st hg;subst hP hw hK;obtain⟨f0,f1,f2,f3,f4,f5⟩:=hf it (by simp);have W:=Walks.range (prog:=X.prog) (w:=X.w) (I.ok.hd hc) it lo 1 n;refine W.item i s _ _ hg st fun v h' tk hv st' kk=>?_;obtain⟨t,rfl⟩:=hv;have I1:Inv X pins σ H { s with heap:=h',toks:=tk }:=I.turned (fun b o hb e=>kk b o (by simpa using hb) e) f0 f1 f3 f4 f5;refine⟨_,rfl,vn (s:={ s with heap:=h',toks:=tk }) (n:="range_iterator") st' rfl rfl (by decide) ⟨.int (lo+i),H,I1,⟨t,?_⟩,⟨rfl,rfl⟩,st',fun b hb=>(hf b hb).1⟩⟩;rw[Int.mul_one]
 done:=by
  intro X hP hw hK hc i pins s σ H E I hf st hg;subst hP hw hK;obtain⟨f0,f1,f2,f3,f4,f5⟩:=hf it (by simp);exact wpAny_pyNext_range_end (I.ok.hd hc) st (by have:n<=i:=hg;omega) fun h' eb=>⟨rfl,I.turned (t':=s.toks) (fun b o hb e=>eb b o hb e) f0 f1 f3 f4 f5⟩
 self:=fun _ _ _ _ _ st h=>wpAny_pyIter_rangeiter st h
end L2
namespace L2
open PySem PySem.Spec PyProof.Rows
section
variable {X:Cx}{tg:Expr}
theorem ML {pins:List (Addr×Obj)}{σ:St}{H:Hp}{s:Shared}{R:It->Hp->Prop}{E:Value->Shared->Prop}{lo hi:Int}{t u v:Tok}{tk:Nat}(I:Inv X pins σ H s)(h1:-(2 ^ 62)<=lo)(h2:lo < 2 ^ 62)(h3:-(2 ^ 62)<=hi)(h4:hi < 2 ^ 62)
  (q:R (Itr lo (hi - lo).toNat) H):wpAny (model X.prog X.w) X.A (pyIter (.ref s.heap.objs.size)) (PIE X pins σ tg R) E { s with heap:=s.heap.push { cls:=.type "range",data:=.fields #[.int lo t,.int hi u,.int 1 v] },toks:=tk }:=by
 refine wpAny_pyIter_range (IsRange.new ..) (small_one h1 h2 h3 h4) ?_;have I1:Inv X pins σ H { s with heap:=s.heap.push { cls:=.type "range",data:=.fields #[.int lo t,.int hi u,.int 1 v] },toks:=tk }:=I.kept fun b o e=>Heap.get?_push_of_some _ e;refine⟨(s.heap.push { cls:=.type "range",data:=.fields #[.int lo t,.int hi u,.int 1 v] }).objs.size,[(s.heap.push { cls:=.type "range",data:=.fields #[.int lo t,.int hi u,.int 1 v] }).objs.size],_,_,H,rfl,
  I1.kept (t':=tk) fun b o e=>Heap.get?_push_of_some _ e,FH _ lo (hi - lo).toNat,?_,fun b hb=>?_,q⟩
 ·have e1:lo+((0:Nat):Int)*1=lo:=by simp
  have e2:(((hi - lo).toNat:Nat):Int) - ((0:Nat):Int)=Builtin.Range.rangeSize lo hi 1:=by rw[rangeSize_one];split <;> omega
  show IsRangeIter _ _ (lo+((0:Nat):Int)*1) ((((hi - lo).toNat:Nat):Int) - ((0:Nat):Int)) 1;rw[e1,e2];exact Heap.get?_push_size _ rfl
 ·have e:b=(s.heap.push { cls:=.type "range",data:=.fields #[.int lo t,.int hi u,.int 1 v] }).objs.size:=by simpa using hb
  subst e;exact I1.Eu (Nat.le_refl _) (I1.hok.fresh (Nat.le_refl _))
noncomputable def a07 (ta:TA):TI:=fun σ H R=>ta σ H fun vs H1=>∃ j:Int,vs=[.int j]/\-(2 ^ 62)<=j/\j < 2 ^ 62/\R (Itr 0 j.toNat) H1
theorem J2 {a:Expr}{ta:TA}{p pos:Pos}(hg:Gl X "range")(hm:X.mg "range"=none)(ha:PA X [a] ta)(hs:starEach [a] X.env=[(false,eval a X.env)]:=by rfl):PI X tg (.Call (.Name "range" p) [a] [] pos) (a07 ta):=by
 intro pins s σ H R I h;refine Call_ (yj I hg hm boot_range (PyProof.Rows.callWith_type1 (cH (ha pos pins s σ H _ I h) fun us s1 ⟨vs,H1,I1,r1,q1⟩=>?_) hs rfl));obtain⟨j,e,q1,q2,q⟩:=q1;subst e;cases r1 with
 | cons r rr =>
  cases rr;obtain⟨t,rfl⟩:=r;exact call_range_1 (ML I1 (by omega) (by omega) q1 q2 (by simpa using q))
noncomputable def a2V (wi:TI)(g:TG)(tb:TS):TS:=fun D σ H=>wi σ H fun J H1=>∃ W:Nat->Nat->St->Hp->Prop,(∃ m,W 0 m σ H1)/\∀ i m σ H,W i m σ H ->
 (J.stop i H/\D.nx σ H)∨(J.go i H/\∃ N:St->Hp->Prop,(∀ σ' H',N σ' H'->∃ m',m' < m/\W (i+1) m' σ' H')/\∀ x H',J.FE i H x H'->g x σ H' fun σ2 H2=>tb { D with nx:=N,ct:=N,bk:=D.nx } σ2 H2)
noncomputable def xU (fp:List Addr)(h:Heap):List (Addr×Obj):=fp.filterMap fun b=>(h.get? b).map fun o=>(b,o)
theorem lJ {fp:List Addr}{h:Heap}{b:Addr}{o:Obj}(hb:b∈fp)(e:h.get? b=some o):(b,o)∈xU fp h:=List.mem_filterMap.mpr ⟨b,hb,by rw[e];rfl⟩
theorem Kh {fp:List Addr}{h:Heap}{p:Addr×Obj}(hp:p∈xU fp h):p.1∈fp/\h.get? p.1=some p.2:=by
 obtain⟨b,hb,e⟩:=List.mem_filterMap.mp hp;cases q:h.get? b with
 | none=>rw[q] at e;cases e
 | some o =>
  rw[q] at e;have e':(b,o)=p:=Option.some.inj e;subst e';exact⟨hb,q⟩
theorem Inv.pinned {pins:List (Addr×Obj)}{σ:St}{H:Hp}{s:Shared}{fp:List Addr}(I:Inv X pins σ H s)(hf:∀ b∈fp,vU X pins H b)(ho:∀ b∈fp,∃ o,s.heap.get? b=some o/\∀ v,o.data≠.cell v):Inv X (pins++xU fp s.heap) σ H s :=
 I.wI fun p hp=>(List.mem_append.mp hp).elim (fun z=>I.pin p (List.mem_append_right _ z)) fun z=>by
  obtain⟨hb,e⟩:=Kh z;obtain⟨f0,f1,f2,_⟩:=hf p.1 hb;obtain⟨o,e',d⟩:=ho p.1 hb;rw[e] at e';cases e';exact⟨e,f0,f1,f2,d⟩
theorem Inv.rC {pins pl:List (Addr×Obj)}{σ:St}{H:Hp}{s:Shared}(I:Inv X (pins++pl) σ H s):Inv X pins σ H s:=I.wI fun p hp=>I.pin p (List.mem_append_right _ (List.mem_append_left _ hp))
theorem VP {iter:Expr}{body:List Stmt}{wi:TI}{g:TG}{tb:TS}{pos:Pos}(hp:PassesOwn (model X.prog X.w) X.A X.env X.xe)(hc:X.calm=true)(hi:PI X tg iter wi)(hg:PG X tg g)(hb:C1 X body tb)
  (hs:∀ x,foldedSetIterable iter X.env x=pure x:=by intro _;rfl):PS X (.For tg iter body [] pos) (a2V wi g tb):=by
 intro pins s σ H D I h;refine wpAny_For (cH (hi pins s σ H _ I h) fun v s1 h1=>cH h1 fun itv s2 h2=>?_) hs;obtain⟨it,fp,tn,J,H2,e,I2,T,st2,f2,W,⟨m0,w0⟩,turn⟩:=h2;subst e;have U1:∀ {H':Hp},(∀ b∈fp,H' b=none)->∀ b∈fp,vU X pins H' b:=fun hn b hb=>⟨hn b hb,(f2 b hb).2⟩
 refine codeAny_forLoop_any (fun n s'=>∃ i σ' H',Inv X pins σ' H' s'/\tn i s'.heap/\(∀ b∈fp,H' b=none)/\W i n σ' H') ?_ m0 ⟨0,σ,H2,I2,st2,fun b hb=>(f2 b hb).1,w0⟩;rintro n s3 ⟨i,σ3,H3,I3,st3,fr3,w3⟩;rcases turn i n σ3 H3 w3 with ⟨stop,qn⟩ | ⟨go,N,hN,step⟩
 ·refine wpAny_passesOwn hp (cH (T.done X rfl rfl rfl hc i pins s3 σ3 H3 X.xe I3 (U1 fr3) st3 stop) ?_);rintro r s4 ⟨hr,I4⟩;subst hr;exact wpAny_execs_nil ⟨σ3,H3,I4,qn⟩
 ·refine wpAny_passesOwn hp (cH (T.item X rfl rfl rfl hc i pins s3 σ3 H3 X.xe I3 (U1 fr3) st3 go) ?_);rintro r s4 ⟨u,hr,h4⟩;subst hr;refine wpAny_passesOwn hp (cH h4 ?_);rintro _ s5 ⟨x,H5,I5,r5,y5,st5,fr5⟩;have I5':=I5.pinned (U1 fr5) (T.obj _ _ st5);refine wpAny_passesOwn hp (cH (hg _ s5 σ3 H5 x u _ I5' r5 (step x H5 y5)) ?_);rintro _ s6 ⟨σ6,H6,I6,q6⟩;refine wpAny_passesOwn hp (cH (hb _ s6 σ6 H6 _ I6 q6) fun f s7 q7=>?_);have again:∀ {σ7:St} {H7:Hp},Inv X (pins++xU fp s5.heap) σ7 H7 s7->N σ7 H7->∃ m,m < n/\∃ i σ' H',Inv X pins σ' H' s7/\tn i s7.heap/\(∀ b∈fp,H' b=none)/\W i m σ' H':=fun {σ7 H7} I7 n7=>by
   obtain⟨m',hm,w7⟩:=hN σ7 H7 n7;refine⟨m',hm,i+1,σ7,H7,I7.rC,T.keep _ _ _ st5 fun b hb o e=>(I7.pin (b,o) (List.mem_append_right _ (List.mem_append_right _ (lJ hb e)))).1,fun b hb=>?_,w7⟩;obtain⟨o,e,d⟩:=T.obj _ _ st5 b hb;exact(I7.pin (b,o) (List.mem_append_right _ (List.mem_append_right _ (lJ hb e)))).2.1
  cases f with
  | next=>obtain⟨σ7,H7,I7,n7⟩:=q7;exact again I7 n7
  | cont=>obtain⟨σ7,H7,I7,n7⟩:=q7;exact again I7 n7
  | brk=>obtain⟨σ7,H7,I7,q7⟩:=q7;exact⟨σ7,H7,I7.rC,q7⟩
  | ret v=>obtain⟨x7,σ7,H7,I7,r7,q7⟩:=q7;exact⟨x7,σ7,H7,I7.rC,r7,q7⟩
end
end L2
namespace L2
open PySem PySem.Spec PyProof.Rows
noncomputable abbrev R2:=V->V->Hp->VK->Prop
noncomputable def jX (X:Cx)(f:Value->Value->Sem Value)(r:R2):Prop :=
 ∀ (pins:List (Addr×Obj)) (s:Shared) (σ:St) (H:Hp) (x y:V) (v u:Value) (Q:VK),Inv X pins σ H s->RelV x v->RelV y u->r x y H Q ->
  wpAny (model X.prog X.w) X.A (f v u) (EP X pins σ Q) X.xe s
noncomputable def UnR (X:Cx)(f:Value->Sem Value)(r:V->Hp->VK->Prop):Prop :=
 ∀ (pins:List (Addr×Obj)) (s:Shared) (σ:St) (H:Hp) (x:V) (v:Value) (Q:VK),Inv X pins σ H s->RelV x v->r x H Q ->
  wpAny (model X.prog X.w) X.A (f v) (EP X pins σ Q) X.xe s
noncomputable def eW (X:Cx)(f:Value)(r:List V->Hp->VK->Prop):Prop :=
 ∀ (pins:List (Addr×Obj)) (s:Shared) (σ:St) (H:Hp) (xs:List V) (us:List Value) (Q:VK),Inv X pins σ H s->Vals xs us->r xs H Q ->
  wpAny (model X.prog X.w) X.A (call f us) (EP X pins σ Q) X.xe s
noncomputable def YI (r:R2)(ta tb:TE):TE:=fun σ H Q=>ta σ H fun x H1=>tb σ H1 fun y H2=>r x y H2 Q
noncomputable def tUn (r:V->Hp->VK->Prop)(ta:TE):TE:=fun σ H Q=>ta σ H fun x H1=>r x H1 Q
noncomputable def rI (C:Int->Int->Prop)(g:Int->Int->V):R2:=fun x y H Q=>∃ i j,x=.int i/\y=.int j/\C i j/\Q (g i j) H
noncomputable def TQ (g:Int->Int->V):R2:=fun x y H Q=>∃ i j,x=.int i/\y=.int j/\Q (g i j) H
noncomputable def rU (g:Int->V):V->Hp->VK->Prop:=fun x H Q=>∃ i,x=.int i/\Q (g i) H
section
variable {X:Cx}{a b c:Expr}{ta tb tc:TE}{pos:Pos}
theorem XE (ha:PE X a ta)(hb:PE X b tb){pins:List (Addr×Obj)}{s:Shared}{σ:St}{H:Hp}{R:V->V->Hp->Prop}(I:Inv X pins σ H s)
  (h:ta σ H fun x H1=>tb σ H1 fun y H2=>R x y H2) {Q:Value->Shared->Prop} {f:Value->Value->Sem Value}
  (hf:∀ v u s2 x y H2,Inv X pins σ H2 s2->RelV x v->RelV y u->R x y H2->wpAny (model X.prog X.w) X.A (f v u) Q X.xe s2) :
  wpAny (model X.prog X.w) X.A (eval a X.env) (fun v s₁=>wpAny (model X.prog X.w) X.A (eval b X.env) (fun u s₂=>wpAny (model X.prog X.w) X.A (f v u) Q X.xe s₂) X.xe s₁) X.xe s:=by
 refine cH (ha pins s σ H _ I h) ?_;rintro v s1 ⟨x,H1,I1,r1,q1⟩;refine cH (hb pins s1 σ H1 _ I1 q1) ?_;rintro u s2 ⟨y,H2,I2,r2,q2⟩;exact hf v u s2 x y H2 I2 r1 r2 q2
theorem ZR {op:Operator}{r:R2}(ho:jX X (binaryOp op) r)(ha:PE X a ta)(hb:PE X b tb):PE X (.BinOp a op b pos) (YI r ta tb):=by
 intro pins s σ H Q I h;exact wpAny_BinOp (XE ha hb I h fun v u s2 x y H2 I2 rx ry q=>ho pins s2 σ H2 x y v u Q I2 rx ry q)
theorem ZP {op:UnaryOp}{r:V->Hp->VK->Prop}(ho:UnR X (unaryOp op) r)(ha:PE X a ta):PE X (.UnaryOp op a pos) (tUn r ta):=by
 intro pins s σ H Q I h;exact UnaryOp_ (cH (ha pins s σ H _ I h) (by rintro v s1 ⟨x,H1,I1,r1,q1⟩;exact ho pins s1 σ H1 x v Q I1 r1 q1))
theorem opI {f:Value->Value->Sem Value}{C:Int->Int->Prop}{g:Int->Int->Int}
  (rule:∀ (i j:Int) (t u:Tok) (s:Shared) (Q:Value->Shared->Prop) (E:Value->Shared->Prop),C i j->Q (.int (g i j) s.toks) { s with toks:=s.toks+1 }->wpAny (model X.prog X.w) X.A (f (.int i t) (.int j u)) Q E s) :
  jX X f (rI C fun i j=>.int (g i j)):=by
 intro pins s σ H x y v u Q I rx ry h;obtain⟨i,j,rfl,rfl,hc,q⟩:=h;obtain⟨t,rfl⟩:=rx;obtain⟨t',rfl⟩:=ry;exact rule i j t t' s _ _ hc ⟨.int (g i j),H,I.tok _,⟨_,rfl⟩,q⟩
theorem Z1 {f:Value->Value->Sem Value}{g:Int->Int->Int}
  (rule:∀ (i j:Int) (t u:Tok) (s:Shared) (Q:Value->Shared->Prop) (E:Value->Shared->Prop),Q (.int (g i j) s.toks) { s with toks:=s.toks+1 }->wpAny (model X.prog X.w) X.A (f (.int i t) (.int j u)) Q E s) :
  jX X f (TQ fun i j=>.int (g i j)):=by
 intro pins s σ H x y v u Q I rx ry h;obtain⟨i,j,rfl,rfl,q⟩:=h;obtain⟨t,rfl⟩:=rx;obtain⟨t',rfl⟩:=ry;exact rule i j t t' s _ _ ⟨.int (g i j),H,I.tok _,⟨_,rfl⟩,q⟩
theorem Wk {f:Value->Value->Sem Value}{g:Int->Int->Bool}
  (rule:∀ (i j:Int) (t u:Tok) (s:Shared) (Q:Value->Shared->Prop) (E:Value->Shared->Prop),Q (.bool (g i j)) s->wpAny (model X.prog X.w) X.A (f (.int i t) (.int j u)) Q E s) :
  jX X f (TQ fun i j=>.bl (g i j)):=by
 intro pins s σ H x y v u Q I rx ry h;obtain⟨i,j,rfl,rfl,q⟩:=h;obtain⟨t,rfl⟩:=rx;obtain⟨t',rfl⟩:=ry;exact rule i j t t' s _ _ ⟨.bl (g i j),H,I,rfl,q⟩
noncomputable def a1U (i j:Int):Prop:=0 < j/\j < 1073741824
noncomputable def a1T (i j:Int):Prop:=0<=j/\j<=1000000/\i.natAbs < 2 ^ 64
noncomputable def S8 (i j:Int):Prop:=(-(2 ^ 64) < i/\i < 2 ^ 64)∨(-(2 ^ 64) < j/\j < 2 ^ 64)
theorem S8.ok {i j:Int}(h:S8 i j):IntMulOk i j:=by
 rcases h with ⟨h1,h2⟩ | ⟨h1,h2⟩
 ·exact .of_left (intBits_le_64 h1 h2)
 ·exact .of_right (intBits_le_64 h1 h2)
theorem Wj:jX X (binaryOp .Add) (TQ fun i j=>.int (i+j)):=Z1 fun _ _ _ _ _ _ _ q=>add_int q
theorem Wc:jX X (binaryOp .Sub) (TQ fun i j=>.int (i - j)):=Z1 fun _ _ _ _ _ _ _ q=>sub_int q
theorem Wg:jX X (binaryOp .Mult) (rI S8 fun i j=>.int (i*j)):=opI fun _ _ _ _ _ _ _ hc q=>mul_int q hc.ok
theorem Q6:jX X (binaryOp .FloorDiv) (rI a1U fun i j=>.int (i / j)):=opI fun i j _ _ _ _ _ hc q=>by
 have h1:(0:Int) < j:=hc.1;have h2:j < 1073741824:=hc.2;exact floordiv_int (by omega) (by rw[Int.fdiv_eq_ediv_of_nonneg i (by omega)];exact q) (.inl (PyProof.noPylong_small (by omega)))
theorem Wh:jX X (binaryOp .Mod) (rI (fun _ j=>0 < j) fun i j=>.int (i % j)):=opI fun i j _ _ _ _ _ hc q=>by
 have h1:(0:Int) < j:=hc;exact mod_int' (by omega) (by rw[Int.fmod_eq_emod_of_nonneg i (by omega)];exact q)
theorem We:jX X (binaryOp .Pow) (rI a1T fun i j=>.int (i ^ j.toNat)):=opI fun _ _ _ _ _ _ _ hc q=>pow_int_small hc.1 hc.2.1 hc.2.2 q
theorem unI {f:Value->Sem Value}{g:Int->Int}
  (rule:∀ (i:Int) (t:Tok) (s:Shared) (Q:Value->Shared->Prop) (E:Value->Shared->Prop),Q (.int (g i) s.toks) { s with toks:=s.toks+1 }->wpAny (model X.prog X.w) X.A (f (.int i t)) Q E s) :
  UnR X f (rU fun i=>.int (g i)):=by
 intro pins s σ H x v Q I rx h;obtain⟨i,rfl,q⟩:=h;obtain⟨t,rfl⟩:=rx;exact rule i t s _ _ ⟨.int (g i),H,I.tok _,⟨_,rfl⟩,q⟩
theorem UJ:UnR X (unaryOp .USub) (rU fun i=>.int (-i)):=unI fun _ _ _ _ _ q=>neg_int q
end
noncomputable def Vj:V->V->Bool
 | .dO,.dO=>true | .dO,.int _=>true | .int _,.dO=>true | .dO,.bl _=>true | .bl _,.dO=>true | .dO,.str _=>true | .str _,.dO=>true
 | .int _,.int _=>true | .bl _,.bl _=>true | .str _,.str _=>true | .Lw _,.Lw _=>true
 | .int _,.str _=>true | .str _,.int _=>true | .bl _,.str _=>true | .str _,.bl _=>true
 | _,_=>false
noncomputable def rEq:R2:=fun x y H Q=>Vj x y=true/\Q (.bl (decide (x=y))) H
noncomputable def rNe:R2:=fun x y H Q=>Vj x y=true/\Q (.bl (!decide (x=y))) H
theorem Jr {i j:Int}:decide (V.int i=V.int j)=(i == j):=by
 rw[Bool.eq_iff_iff];simp
theorem Ot {i j:Bool}:decide (V.bl i=V.bl j)=(i == j):=by
 rw[Bool.eq_iff_iff];simp
theorem Jq {i j:Str}:decide (V.str i=V.str j)=(i == j):=by
 rw[Bool.eq_iff_iff];simp
theorem Js {i j:Array UInt8}:decide (V.Lw i=V.Lw j)=(i.toList == j.toList):=by
 rw[Bool.eq_iff_iff];cases i;cases j;simp
section
variable {X:Cx}{a b c:Expr}{ta tb tc:TE}{pos:Pos}
theorem bP {pins:List (Addr×Obj)}{σ:St}{H:Hp}{s:Shared}{Q:VK}{k k':Bool}(I:Inv X pins σ H s)(q:Q (.bl k) H)(e:k=k'):EP X pins σ Q (.bool k') s:=by
 subst e;exact⟨.bl k,H,I,rfl,q⟩
theorem Z0:jX X (compareOp .Eq) rEq:=by
 intro pins s σ H x y v u Q I rx ry h;obtain⟨hs,q⟩:=h;cases x with
 | dO =>
  cases rx;cases y with
  | dO=>cases ry;exact PySem.EqNone.eq_none_none (bP I q (by simp))
  | bl j=>cases ry;exact PySem.EqNone.eq_none_bool (bP I q (by simp))
  | int j=>obtain⟨t',rfl⟩:=ry;exact PySem.EqNone.eq_none_int (bP I q (by simp))
  | str j=>obtain⟨t',rfl⟩:=ry;exact PySem.EqNone.eq_none_str (bP I q (by simp))
  | _=>exact absurd (show false=true from hs) Bool.false_ne_true
 | bl i =>
  cases rx;cases y with
  | dO=>cases ry;exact PySem.EqNone.eq_bool_none (bP I q (by simp))
  | bl j=>cases ry;exact eq_bool (bP I q Ot)
  | str j=>obtain⟨t',rfl⟩:=ry;exact PySem.EqMixed.eq_bool_str (bP I q (by simp))
  | _=>exact absurd (show false=true from hs) Bool.false_ne_true
 | int i =>
  obtain⟨t,rfl⟩:=rx;cases y with
  | dO=>cases ry;exact PySem.EqNone.eq_int_none (bP I q (by simp))
  | int j=>obtain⟨t',rfl⟩:=ry;exact eq_int (bP I q Jr)
  | str j=>obtain⟨t',rfl⟩:=ry;exact PySem.EqMixed.eq_int_str (bP I q (by simp))
  | _=>exact absurd (show false=true from hs) Bool.false_ne_true
 | str i =>
  obtain⟨t,rfl⟩:=rx;cases y with
  | dO=>cases ry;exact PySem.EqNone.eq_str_none (bP I q (by simp))
  | bl j=>cases ry;exact PySem.EqMixed.eq_str_bool (bP I q (by simp))
  | int j=>obtain⟨t',rfl⟩:=ry;exact PySem.EqMixed.eq_str_int (bP I q (by simp))
  | str j=>obtain⟨t',rfl⟩:=ry;exact eq_str (bP I q Jq)
  | _=>exact absurd (show false=true from hs) Bool.false_ne_true
 | Lw i =>
  obtain⟨t,rfl⟩:=rx;cases y with
  | Lw j=>obtain⟨t',rfl⟩:=ry;exact PySem.W.eq_bytes (bP I q Js)
  | _=>exact absurd (show false=true from hs) Bool.false_ne_true
 | _=>cases y <;> exact absurd (show false=true from hs) Bool.false_ne_true
theorem ZW:jX X (compareOp .NotEq) rNe:=by
 intro pins s σ H x y v u Q I rx ry h;obtain⟨hs,q⟩:=h;cases x with
 | dO =>
  cases rx;cases y with
  | dO=>cases ry;exact PySem.EqNone.ne_none_none (bP I q (by simp))
  | bl j=>cases ry;exact PySem.EqNone.ne_none_bool (bP I q (by simp))
  | int j=>obtain⟨t',rfl⟩:=ry;exact PySem.EqNone.ne_none_int (bP I q (by simp))
  | str j=>obtain⟨t',rfl⟩:=ry;exact PySem.EqNone.ne_none_str (bP I q (by simp))
  | _=>exact absurd (show false=true from hs) Bool.false_ne_true
 | bl i =>
  cases rx;cases y with
  | dO=>cases ry;exact PySem.EqNone.ne_bool_none (bP I q (by simp))
  | bl j=>cases ry;exact ne_bool (bP I q (congrArg not Ot))
  | str j=>obtain⟨t',rfl⟩:=ry;exact PySem.EqMixed.ne_bool_str (bP I q (by simp))
  | _=>exact absurd (show false=true from hs) Bool.false_ne_true
 | int i =>
  obtain⟨t,rfl⟩:=rx;cases y with
  | dO=>cases ry;exact PySem.EqNone.ne_int_none (bP I q (by simp))
  | int j=>obtain⟨t',rfl⟩:=ry;exact ne_int (bP I q (congrArg not Jr))
  | str j=>obtain⟨t',rfl⟩:=ry;exact PySem.EqMixed.ne_int_str (bP I q (by simp))
  | _=>exact absurd (show false=true from hs) Bool.false_ne_true
 | str i =>
  obtain⟨t,rfl⟩:=rx;cases y with
  | dO=>cases ry;exact PySem.EqNone.ne_str_none (bP I q (by simp))
  | bl j=>cases ry;exact PySem.EqMixed.ne_str_bool (bP I q (by simp))
  | int j=>obtain⟨t',rfl⟩:=ry;exact PySem.EqMixed.ne_str_int (bP I q (by simp))
  | str j=>obtain⟨t',rfl⟩:=ry;exact ne_str (bP I q (congrArg not Jq))
  | _=>exact absurd (show false=true from hs) Bool.false_ne_true
 | Lw i =>
  obtain⟨t,rfl⟩:=rx;cases y with
  | Lw j=>obtain⟨t',rfl⟩:=ry;exact PySem.W.ne_bytes (bP I q (congrArg not Js))
  | _=>exact absurd (show false=true from hs) Bool.false_ne_true
 | _=>cases y <;> exact absurd (show false=true from hs) Bool.false_ne_true
theorem ZX:jX X (compareOp .Lt) (TQ fun i j=>.bl (decide (i < j))):=Wk fun _ _ _ _ _ _ _ q=>lt_int q
theorem ZY:jX X (compareOp .LtE) (TQ fun i j=>.bl (decide (i<=j))):=Wk fun _ _ _ _ _ _ _ q=>le_int q
theorem ZZ:jX X (compareOp .Gt) (TQ fun i j=>.bl (decide (j < i))):=Wk fun _ _ _ _ _ _ _ q=>gt_int q
theorem jX.or {f:Value->Value->Sem Value}{r r':R2}(h:jX X f r)(h':jX X f r'):jX X f (fun x y H Q=>r x y H Q∨r' x y H Q):=by
 intro pins s σ H x y v u Q I rx ry q;rcases q with q | q
 ·exact h pins s σ H x y v u Q I rx ry q
 ·exact h' pins s σ H x y v u Q I rx ry q
theorem aA (b:Expr){op:CmpOp}(h:op≠.In:=by decide)(h2:op≠.NotIn:=by decide):behindInMarks op b=false:=by
 have e1:(op == CmpOp.In)=false:=by cases op <;> first | rfl | exact absurd rfl h
 have e2:(op == CmpOp.NotIn)=false:=by cases op <;> first | rfl | exact absurd rfl h2
 cases b <;> simp[behindInMarks,e1,e2]
theorem Q2 {op:CmpOp}{r:R2}(ho:jX X (compareOp op) r)(ha:PE X a ta)(hb:PE X b tb)(hm:behindInMarks op b=false):PE X (.Compare a [op] [b] pos) (YI r ta tb):=by
 intro pins s σ H Q I h;exact wpAny_Compare1 (XE ha hb I h fun v u s2 x y H2 I2 rx ry q=>ho pins s2 σ H2 x y v u Q I2 rx ry q) hm
noncomputable def LW (t:TE):TT:=fun σ H Q=>t σ H fun x H'=>∃ k,x=.bl k/\Q k H'
theorem QB {op:CmpOp}{r:R2}(ho:jX X (compareOp op) r)(ha:PE X a ta)(hb:PE X b tb)(hm:behindInMarks op b=false):PT X (.Compare a [op] [b] pos) (LW (YI r ta tb)):=by
 intro pins s σ H Q I h;refine wpAny_isTrue_Compare1 (cH (ha pins s σ H _ I h) fun v s1 ⟨x,H1,I1,r1,q1⟩=>cH (hb pins s1 σ H1 _ I1 q1) fun u s2 ⟨y,H2,I2,r2,q2⟩ =>
  cH (ho pins s2 σ H2 x y v u _ I2 r1 r2 q2) fun c s3 ⟨z,H3,I3,r3,k,e,q3⟩=>?_) hm
 subst e;cases r3;exact wpAny_truthy_bool ⟨H3,I3,q3⟩
noncomputable def FO (r r':R2)(ta tb tc:TE):TE:=fun σ H Q=>ta σ H fun x H1=>tb σ H1 fun y H2=>r x y H2 fun z H3=>∃ k,z=.bl k /\
 (if k=true then tc σ H3 fun w' H4=>r' y w' H4 Q else Q (.bl false) H3)
theorem M7 {op op':CmpOp}{r r':R2}(ho:jX X (compareOp op) r)(ho':jX X (compareOp op') r')(ha:PE X a ta)(hb:PE X b tb)(hc:PE X c tc)
  (hm:lastMarks [op,op'] [b,c]=false:=by with_unfolding_all rfl):PE X (.Compare a [op,op'] [b,c] pos) (FO r r' ta tb tc):=by
 intro pins s σ H Q I h;refine Compare_chain (cH (ha pins s σ H _ I h) fun v s1 ⟨x,H1,I1,r1,q1⟩=>chain_link (cH (hb pins s1 σ H1 _ I1 q1) fun u s2 ⟨y,H2,I2,r2,q2⟩ =>
  cH (ho pins s2 σ H2 x y v u _ I2 r1 r2 q2) fun d s3 ⟨z,H3,I3,r3,k,e,q3⟩=>?_)) hm
 subst e;cases r3;refine wpAny_truthy_bool ?_;cases k with
 | false=>exact ite_ff ⟨.bl false,H3,I3,rfl,q3⟩
 | true=>exact ite_tt (chain_last (cH (hc pins s3 σ H3 _ I3 q3) (by rintro w' s4 ⟨z',H4,I4,r4,q4⟩;exact ho' pins s4 σ H4 y z' u w' Q I4 r2 r4 q4)))
theorem MT {op op':CmpOp}{r r':R2}(ho:jX X (compareOp op) r)(ho':jX X (compareOp op') r')(ha:PE X a ta)(hb:PE X b tb)(hc:PE X c tc)
  (hm:lastMarks [op,op'] [b,c]=false:=by with_unfolding_all rfl):PT X (.Compare a [op,op'] [b,c] pos) (LW (FO r r' ta tb tc)):=by
 intro pins s σ H Q I h;refine isTrue_chain (cH (ha pins s σ H _ I h) fun v s1 ⟨x,H1,I1,r1,q1⟩=>test_link (cH (hb pins s1 σ H1 _ I1 q1) fun u s2 ⟨y,H2,I2,r2,q2⟩ =>
  cH (ho pins s2 σ H2 x y v u _ I2 r1 r2 q2) fun d s3 ⟨z,H3,I3,r3,k,e,q3⟩=>?_)) hm
 subst e;cases r3;refine wpAny_truthy_bool ?_;cases k with
 | false =>
  obtain⟨k',e',q'⟩:=q3;cases e';exact ite_ff ⟨H3,I3,q'⟩
 | true =>
  refine ite_tt (test_last (cH (hc pins s3 σ H3 _ I3 q3) fun w' s4 ⟨z',H4,I4,r4,q4⟩=>cH (ho' pins s4 σ H4 y z' u w' _ I4 r2 r4 q4) ?_));rintro d' s5 ⟨z2,H5,I5,r5,k2,e2,q5⟩;subst e2;cases r5;exact wpAny_truthy_bool ⟨H5,I5,q5⟩
theorem nc:(sizeLine:Nat) < 2 ^ 63:=by rw[sizeLine_eq];decide
theorem Gf:jX X (binaryOp .Add) (fun x y H Q=>∃ i j,x=.str i/\y=.str j/\i.length+j.length<=sizeLine/\Q (.str (i++j)) H):=by
 intro pins s σ H x y v u Q I rx ry h;obtain⟨i,j,rfl,rfl,hz,q⟩:=h;obtain⟨t,rfl⟩:=rx;obtain⟨t',rfl⟩:=ry;exact add_str (fun t' tk=>⟨.str (i++j),H,I.tok _,⟨_,rfl⟩,q⟩) hz
theorem vals1 {x:V}{us:List Value}(r:Vals [x] us):∃ u,us=[u]/\RelV x u:=by
 cases r with
 | cons r1 r2=>cases r2;exact⟨_,rfl,r1⟩
theorem vals2 {x y:V}{us:List Value}(r:Vals [x,y] us):∃ u w',us=[u,w']/\RelV x u/\RelV y w':=by
 cases r with
 | cons r1 r2 =>
  cases r2 with
  | cons r3 r4=>cases r4;exact⟨_,_,rfl,r1,r3⟩
theorem OG:eW X (.builtin "abs") (fun xs H Q=>∃ i,xs=[.int i]/\Q (.int (if i < 0 then -i else i)) H):=by
 intro pins s σ H xs us Q I r h;obtain⟨i,rfl,q⟩:=h;obtain⟨u,rfl,t,rfl⟩:=vals1 r;exact call_abs_int fun u tk=>⟨.int (if i < 0 then -i else i),H,I.tok _,⟨_,rfl⟩,q⟩
theorem Lc:eW X (.type "int") (fun xs H Q=>(∃ i,xs=[.int i]/\Q (.int i) H)∨∃ k,xs=[.bl k]/\Q (.int (if k then 1 else 0)) H):=by
 intro pins s σ H xs us Q I r h;rcases h with ⟨i,rfl,q⟩ | ⟨k,rfl,q⟩
 ·obtain⟨u,rfl,t,rfl⟩:=vals1 r;exact call_int_int ⟨.int i,H,I,⟨_,rfl⟩,q⟩
 ·obtain⟨u,rfl,r1⟩:=vals1 r;cases r1;exact call_int_bool ⟨.int (if k then 1 else 0),H,I.tok _,⟨_,rfl⟩,q⟩
theorem CL:eW X (.type "str") (fun xs H Q=>∃ i,xs=[.int i]/\i.natAbs.log2 < 1920/\Q (.str (toString i)) H):=by
 intro pins s σ H xs us Q I r h;obtain⟨i,rfl,hz,q⟩:=h;obtain⟨u,rfl,t,rfl⟩:=vals1 r;exact PySem.P.str_of_int hz ⟨.str _,H,I.tok _,⟨_,rfl⟩,q⟩
end
end L2
namespace L2
open PySem PySem.Spec PyProof.Rows
structure Hf (h:Heap)(x dx C:Addr)(mA:Str->Option Value):Prop where
 obj:h.get? x=some (PySem.W.instObj C dx)
 ns:h.Ns1 dx mA
 ne:dx≠x
theorem Kr {h:Heap}{dx:Addr}{mA:Str->Option Value}(n:h.Ns1 dx mA):∃ od,h.get? dx=some od/\∀ name,PySem.W.lookIn name od=some (mA name):=by
 obtain⟨o,es,ep,ho,hd,hk,_,hm⟩:=n;refine⟨o,ho,fun name=>?_⟩;have e:=hm name;unfold nsFind findBy at e;rw[<- Array.find?_toList] at e;unfold PySem.W.lookIn;rw[hd];dsimp only;split
 ·rename_i y q;rw[q] at e;exact congrArg some e
 ·rename_i q;rw[q] at e;have a:es.toList.any (·.refKey)=false:=by
   rw[List.any_eq_false];intro y hy;obtain⟨z,t,hkey⟩:=hk y (Array.mem_toList_iff.mp hy);simp[DictEntry.refKey,hkey]
  have a':¬ es.toList.any (·.refKey)=true:=by rw[a];exact Bool.false_ne_true
  rw[if_neg a'];exact congrArg some e
theorem Hf.look {h:Heap}{x dx C:Addr}{mA:Str->Option Value}(I:Hf h x dx C mA):∃ od,PySem.W.InstAt h x (PySem.W.instObj C dx) C (some od)/\∀ name,PySem.W.lookIn name od=some (mA name) :=
 let ⟨od,ho,hl⟩:=Kr I.ns
 ⟨od,⟨I.obj,rfl,rfl,ho⟩,hl⟩
section
variable {prog:Program}{w:World}{A:Around}{E:Value->Shared->Prop}{s:Shared}{K:PySem.W.Frag}{x dx C f:Addr}{mA:Str->Option Value}{name:Str}{v:Value}
theorem get_map {expr:Bool}{Q:Value->Shared->Prop}(X:K.In s.heap)(I:Hf s.heap x dx C mA)(hg:PySem.W.plainGet K C name=true)(hh:PySem.W.hasDictIn K C=true)
  (ha:PySem.W.findIn K (.ref C) name=some none) (hv:mA name=some v) (hv':PySem.W.handedIn v=true) (h:Q v { s with toks:=s.toks+1 }) :
  wpAny (model prog w) A (getAttr (.ref x) name expr) Q E s:=by
 obtain⟨od,J,hl⟩:=I.look;exact PySem.W.get_value X J (PySem.W.plainGet_of hg).1 (PySem.W.findObj_own hh ha rfl (by rw[hl,hv])) hv' h
theorem N8 {pl:Sem Bool}{Q:Value×List Value->Shared->Prop}(X:K.In s.heap)(I:Hf s.heap x dx C mA)(hg:PySem.W.plainGet K C name=true)
  (hf:PySem.W.findIn K (.ref C) name=some (some (.ref f))) (ht:PySem.W.isFn K (.ref f)=true) (hv:mA name=none) (h:Q (.ref f,[.ref x]) s) :
  wpAny (model prog w) A (getMethod (.ref x) name pl) Q E s:=by
 obtain⟨od,J,hl⟩:=I.look;exact PySem.W.method_fn X J (PySem.W.plainGet_of hg).1 (PySem.W.plainGet_of hg).2 hf (beq_iff_eq.mp ht) (by show(PySem.W.lookIn name od).map (·.isSome)=some false;rw[hl,hv];rfl) h
theorem PX {ns:List Str}{Q:Unit->Shared->Prop}(X:K.In s.heap)(I:Hf s.heap x dx C mA)
  (hs:PySem.W.findIn K (.ref C) "__setattr__"=some (some (.builtin "object.__setattr__"))) (hp:PySem.W.plainOver K C=true) (ht:PySem.W.takerIn K C name=some none) (hh:PySem.W.hasDictIn K C=true)
  (hw:PySem.Within mA ns) (hsz:ns.length<=sizeLine)
  (h:∀ h',Hf h' x dx C (fun y=>if y=name then some v else mA y)->Heap.SameBut dx s.heap h'->Q () { s with heap:=h',toks:=s.toks+2 }) :
  wpAny (model prog w) A (setAttr (.ref x) name v) Q E s:=by
 obtain⟨od,J,hl⟩:=I.look;refine PySem.W.set_plain X J hs (PySem.W.osa_open (s:={ s with toks:=s.toks+1 }) (r:=none) X J hp ht fun b=>?_);obtain⟨cd,hc,hd'⟩:=PySem.W.any_some hh;have hx:s.heap.get? x=some ⟨.ref C,some dx,.plain,#[]⟩:=I.obj;refine wpAny_bind (wpAny_pure (wpAny_bind (wpAny_bind (wpAny_loadPart hx (wpAny_bind (PySem.W.Looks.here (s:={ s with toks:=s.toks+1 }) (PySem.W.looks_clsIn X hc) ?_))))));rw[hd'];refine wpAny_pure (a:=some dx) (wpAny_bind (wpAny_pure (wpAny_bind ?_)));refine wpAny_nsSet1 (s:={ s with toks:=s.toks+1 }) I.ns fun h' hn2 hs2=>?_;obtain⟨oD,esD,epD,hoD,hdD,hcD⟩:=hn2.count (PySem.Within.cons name v hw);refine wpAny_bind (wpAny_lookBehind hoD (by rw[hdD];exact pastItsLine_dict (Nat.le_trans hcD (by rw[List.length_cons];omega))) ?_);exact wpAny_pure (h _ ⟨(hs2.2 _ (Ne.symm I.ne)).trans I.obj,hn2,I.ne⟩ hs2)
theorem NG {R:Result->Shared->Prop}{vs:List Value}{kw:List (Str×Value)}(X:K.In s.heap)(hm:PySem.W.makesIn K C=true)
  (hi:PySem.W.findIn K (.ref C) "__init__"=some (some (.ref f))) (hf:PySem.W.typeIn K (.ref f)=some (.type "function"))
  (h:codeAny (model prog w) (A.under (.builtin "type.__call__" ⟨.ref C::vs,kw⟩)) (.call (.ref f) ⟨.ref (s.heap.objs.size+1)::vs,kw⟩) (PySem.W.InitBack (s.heap.objs.size+1) R)
   { s with heap:=(s.heap.push PySem.W.emptyDict).push (PySem.W.instObj C s.heap.objs.size) }) :
  codeAny (model prog w) A (.call (.ref C) ⟨vs,kw⟩) R s:=by
 obtain⟨hh,g,d,t,os⟩:=s;exact PySem.W.make_core (PySem.W.makes_of X hm) (PySem.W.looks_findIn X hi) (fun self=>PySem.W.bind_fn X self hf) (.inl rfl) h
end
noncomputable def lZ (f:Str)(v:V):List (Str×V)->List (Str×V)
 | []=>[(f,v)]
 | (g,x)::r=>if g=f then (g,v)::r else (g,x)::lZ f v r
theorem vh (f g:Str)(v:V):∀ fs:List (Str×V),(lZ f v fs).lookup g=if g=f then some v else fs.lookup g
 | []=>by
  show List.lookup g [(f,v)]=_;by_cases h:g=f
  ·have hb:(g == f)=true:=beq_iff_eq.mpr h;simp only[List.lookup,hb,if_pos h]
  ·have hb:(g == f)=false:=beq_eq_false_iff_ne.mpr h;simp only[List.lookup,hb,if_neg h]
 | (k,x)::r=>by
  have ih:=vh f g v r;rw[show lZ f v ((k,x)::r)=(if k=f then (k,v)::r else (k,x)::lZ f v r) from rfl];by_cases hk:k=f
  ·rw[if_pos hk];by_cases h:g=k
   ·have hb:(g == k)=true:=beq_iff_eq.mpr h;simp only[List.lookup,hb,if_pos (h.trans hk)]
   ·have hb:(g == k)=false:=beq_eq_false_iff_ne.mpr h;simp only[List.lookup,hb,if_neg (fun e:g=f=>h (e.trans hk.symm))]
  ·rw[if_neg hk];by_cases h:g=k
   ·have hb:(g == k)=true:=beq_iff_eq.mpr h;simp only[List.lookup,hb,if_neg (fun e:g=f=>hk (h.symm.trans e))]
   ·have hb:(g == k)=false:=beq_eq_false_iff_ne.mpr h;simp only[List.lookup,hb];exact ih
theorem uw (f:Str)(v:V):∀ fs:List (Str×V),f∈(lZ f v fs).map (·.1)/\∀ g,g∈fs.map (·.1)->g∈(lZ f v fs).map (·.1)
 | []=>⟨by simp[lZ],fun g h=>by simp at h⟩
 | (k,x)::r=>by
  obtain⟨i1,i2⟩:=uw f v r;rw[show lZ f v ((k,x)::r)=(if k=f then (k,v)::r else (k,x)::lZ f v r) from rfl];by_cases hk:k=f
  ·rw[if_pos hk];subst hk;exact⟨by simp,fun g h=>by simpa using h⟩
  ·rw[if_neg hk];refine⟨?_,fun g h=>?_⟩
   ·rw[List.map_cons];exact List.mem_cons_of_mem _ i1
   ·rw[List.map_cons] at h ⊢;rcases List.mem_cons.mp h with e | e
    ·exact List.mem_cons.mpr (.inl e)
    ·exact List.mem_cons_of_mem _ (i2 g e)
theorem vj (f:Str)(v:V):∀ fs:List (Str×V),(lZ f v fs).length<=fs.length+1
 | []=>by simp[lZ]
 | (k,x)::r=>by
  have ih:=vj f v r;rw[show lZ f v ((k,x)::r)=(if k=f then (k,v)::r else (k,x)::lZ f v r) from rfl];by_cases hk:k=f
  ·rw[if_pos hk,List.length_cons,List.length_cons];omega
  ·rw[if_neg hk,List.length_cons,List.length_cons];omega
theorem mj.some_of {v:V}{o:Option Value}(r:mj (some v) o):∃ u,o=some u/\RelV v u:=by
 cases o with
 | none=>exact(show False from r).elim
 | some u=>exact⟨u,rfl,r⟩
theorem mj.none_of {o:Option Value}(r:mj none o):o=none:=by
 cases o with
 | none=>rfl
 | some u=>exact(show False from r).elim
theorem K4 {v:V}{u:Value}(r:RelV v u):PySem.W.handedIn u=true:=by
 cases v with
 | dO=>cases (show u=Value.none from r);rfl
 | bl b=>cases (show u=Value.bool b from r);rfl
 | int i=>obtain⟨t,e⟩:=(show ∃ t,u=Value.int i t from r);cases e;rfl
 | str x=>obtain⟨t,e⟩:=(show ∃ t,u=Value.str x t from r);cases e;rfl
 | Lw b=>obtain⟨t,e⟩:=(show ∃ t,u=Value.bytes b t from r);cases e;rfl
 | Xb b=>obtain⟨t,e⟩:=(show ∃ t,u=Value.float b t from r);cases e;rfl
 | ref a=>cases (show u=Value.ref a from r);rfl
 | ty n=>cases (show u=Value.type n from r);rfl
section
variable {P:Program}{w:World}{H H':Hp}{h h':Heap}{a C dx:Addr}{fs fs':List (Str×V)}
theorem wK (hok:q9 P w H h)(e:H a=some (.ins C dx fs)):∃ mA,Hf h a dx C mA/\(∀ f,mj (fs.lookup f) (mA f))/\PySem.Within mA (fs.map (·.1))/\fs.length<=1000/\H dx=some (.own a):=by
 obtain⟨d,z,ne,ob,mA,n,r,q⟩:=(show cY P w H h a (.ins C dx fs) from hok a _ e)
 exact⟨mA,⟨ob,n,ne⟩,r,q,z,d⟩
end
structure S7 (K:PySem.W.Frag)(C:Addr):Prop where
 pg:PySem.W.plainGet K C Str.empty=true
 hd:PySem.W.hasDictIn K C=true
 po:PySem.W.plainOver K C=true
 sa:PySem.W.findIn K (.ref C) "__setattr__"=some (some (.builtin "object.__setattr__"))
theorem S7.get {K:PySem.W.Frag}{C:Addr}(c:S7 K C)(f:Str):PySem.W.plainGet K C f=true:=c.pg
noncomputable def aM (K:PySem.W.Frag)(C:Addr)(f:Str):Prop:=PySem.W.findIn K (.ref C) f=some none
theorem aM.YD {K:PySem.W.Frag}{C:Addr}{f:Str}(n:aM K C f):PySem.W.takerIn K C f=some none:=by
 unfold PySem.W.takerIn;rw[show PySem.W.findIn K (.ref C) f=some none from n];rfl
structure Meth (K:PySem.W.Frag)(C:Addr)(m:Str)(f:Addr):Prop where
 at_:PySem.W.findIn K (.ref C) m=some (some (.ref f))
 fn:PySem.W.isFn K (.ref f)=true
 kp:PySem.W.keepIn K (.ref f)=true
section
variable {X:Cx}{pins:List (Addr×Obj)}{σ:St}{H:Hp}{s:Shared}{a C dx:Addr}{fs:List (Str×V)}{f:Str}{v:V}{A:Around}{E:Value->Shared->Prop}
theorem GK {b:Bool}{Q:Value->Shared->Prop}(I:Inv X pins σ H s)(e:H a=some (.ins C dx fs))(c:S7 X.K C)(n:aM X.K C f)(l:fs.lookup f=some v)
  (h:∀ u s',Inv X pins σ H s'->RelV v u->Q u s'):wpAny (model X.prog X.w) A (getAttr (.ref a) f b) Q E s:=by
 obtain⟨mA,O,r,_,_,_⟩:=wK I.hok e;obtain⟨u,hu,ru⟩:=mj.some_of (v:=v) (o:=mA f) (by rw[<- l];exact r f);exact get_map I.sH O (c.get f) c.hd n hu (K4 ru) (h u _ (I.tok _) ru)
theorem yr {m:Str}{g:Addr}{pl:Sem Bool}{Q:Value×List Value->Shared->Prop}(I:Inv X pins σ H s)(e:H a=some (.ins C dx fs))(c:S7 X.K C)(k:Meth X.K C m g)(l:fs.lookup m=none)
  (h:Q (.ref g,[.ref a]) s):wpAny (model X.prog X.w) A (getMethod (.ref a) m pl) Q E s:=by
 obtain⟨mA,O,r,_,_,_⟩:=wK I.hok e;have hn:mA m=none:=mj.none_of (by rw[<- l];exact r m);exact N8 I.sH O (c.get m) k.at_ k.fn hn h
theorem F2 {y:V}{u:Value}{Q:Unit->Shared->Prop}(I:Inv X pins σ H s)(e:H a=some (.ins C dx fs))(c:S7 X.K C)(n:aM X.K C f)(hl:fs.length < 1000)(ry:RelV y u)
  (h:∀ s',Inv X pins σ (upd H a (.ins C dx (lZ f y fs))) s'->Q () s'):wpAny (model X.prog X.w) A (setAttr (.ref a) f u) Q E s:=by
 obtain⟨mA,O,r,wi,_,ho⟩:=wK I.hok e;have hz:(fs.map (·.1)).length<=sizeLine:=by rw[List.length_map,sizeLine_eq];omega
 refine PX I.sH O c.sa c.po n.YD c.hd wi hz fun h' O' sb=>h _ ?_;have hd:∃ o,h'.get? dx=some o:=let ⟨o,_,_,e',_⟩:=O'.ns;⟨o,e'⟩;refine I.write (x:=a) (e:=dx) (by rw[e];exact True.intro) (.inr ho) (fun b q hb z=>(sb.2 b hb).trans z) hd ?_;refine⟨by rw[aQ O.ne];exact ho,?_,O.ne,O'.obj,_,O'.ns,fun g=>?_,fun g hg=>?_⟩
 ·have:=vj f y fs;omega
 ·show mj ((lZ f y fs).lookup g) (if g=f then some u else mA g);rw[vh];by_cases q:g=f
  ·rw[if_pos q,if_pos q];exact ry
  ·rw[if_neg q,if_neg q];exact r g
 ·by_cases q:g=f
  ·rw[q];exact(uw f y fs).1
  ·refine(uw f y fs).2 g (wi g fun z=>hg ?_);show(if g=f then some u else mA g)=none;rw[if_neg q];exact z
theorem Inv.made (I:Inv X pins σ H s):Inv X pins σ (upd (upd H s.heap.objs.size (.own (s.heap.objs.size+1))) (s.heap.objs.size+1) (.ins C s.heap.objs.size []))
  { s with heap:=(s.heap.push PySem.W.emptyDict).push (PySem.W.instObj C s.heap.objs.size) }:=by
 have e1:(s.heap.push PySem.W.emptyDict).get? s.heap.objs.size=some PySem.W.emptyDict:=Heap.get?_push_size s.heap rfl;have e2:((s.heap.push PySem.W.emptyDict).push (PySem.W.instObj C s.heap.objs.size)).get? (s.heap.objs.size+1)=some (PySem.W.instObj C s.heap.objs.size):=by
  have:=Heap.get?_push_size (s.heap.push PySem.W.emptyDict) (o:=PySem.W.instObj C s.heap.objs.size) rfl;rwa [Heap.size_push] at this
 have e3:(s.heap.push PySem.W.emptyDict).Ns s.heap.objs.size (fun _=>none):=⟨PySem.W.emptyDict,#[],_,e1,rfl,(fun e he=>absurd he (by simp)),fun _=>rfl⟩
 have I1:=I.laid (a:=s.heap.objs.size) (o:=.own (s.heap.objs.size+1)) (h':=s.heap.push PySem.W.emptyDict) (t':=s.toks) (fun b u q=>Heap.get?_push_of_some _ q) (Nat.le_refl _) ⟨_,e1⟩;refine I1.laid (a:=s.heap.objs.size+1) (o:=.ins C s.heap.objs.size []) (t':=s.toks) (fun b u q=>Heap.get?_push_of_some _ q) (Nat.le_of_eq (Heap.size_push _ _)) ?_;have ne:s.heap.objs.size≠s.heap.objs.size+1:=Nat.ne_of_lt (Nat.lt_succ_self _);refine⟨by rw[aQ ne,eY],Nat.zero_le _,ne,e2,fun _=>none,(Heap.Ns1.of_empty e3).at fun o q=>Heap.get?_push_of_some _ q,fun _=>True.intro,fun y hy=>absurd rfl hy⟩
theorem SE {prog:Program}{w:World}{env:Env}{e:Expr}{f:Str}{pos:Pos}{s:Shared}{Q:Value->Shared->Prop}(hb:attributeBase e f env (eval e env)=eval e env)
  (h:wpAny (model prog w) A (eval e env) (fun o s₁=>wpAny (model prog w) A (getAttr o f true) Q E s₁) E s):wpAny (model prog w) A (eval (.Attribute e f pos) env) Q E s :=
 Attribute_any_ h (by rw[arm_eval_Attribute,hb])
end
noncomputable def a2W (K:PySem.W.Frag)(ta:TE)(f:Str):TE:=fun σ H Q=>ta σ H fun x H1=>∃ a C dx fs v,x=.ref a/\H1 a=some (.ins C dx fs)/\S7 K C/\aM K C f/\fs.lookup f=some v/\Q v H1
noncomputable def a3a (K:PySem.W.Frag)(ta tv:TE)(f:Str):TS:=fun D σ H=>tv σ H fun y H1=>ta σ H1 fun x H2=>∃ a C dx fs,x=.ref a/\H2 a=some (.ins C dx fs)/\S7 K C/\aM K C f/\fs.length < 1000 /\
 D.nx σ (upd H2 a (.ins C dx (lZ f y fs)))
section
variable {X:Cx}{o e value:Expr}{f:Str}{pos pos' tpos:Pos}{ta tv:TE}
theorem V3 (he:PE X e ta)(hb:attributeBase e f X.env (eval e X.env)=eval e X.env):PE X (.Attribute e f pos) (a2W X.K ta f):=by
 intro pins s σ H Q I h;refine SE hb (cH (he pins s σ H _ I h) ?_);rintro u s1 ⟨x,H1,I1,rx,a,C,dx,fs,v,ex,ea,c,n,l,q⟩;subst ex;obtain rfl:u=Value.ref a:=rx;exact GK I1 ea c n l fun u' s2 I2 ru=>⟨v,H1,I2,ru,q⟩
theorem VQ (ha:PE X o ta)(hv:PE X value tv)(hs:swapsWith value (some (.Attribute o f pos')) pos.line X.env=pure false):PS X (.Assign [.Attribute o f pos'] value pos) (a3a X.K ta tv f):=by
 intro pins s σ H D I h;refine plainObj_wpAny_Assign_Attribute (cH (hv pins s σ H _ I h) ?_) hs;rintro u s1 ⟨y,H1,I1,ry,q⟩;refine cH (ha pins s1 σ H1 _ I1 q) ?_;rintro ov s2 ⟨x,H2,I2,rx,a,C,dx,fs,ex,ea,c,n,l,q2⟩;subst ex;obtain rfl:ov=Value.ref a:=rx;exact F2 I2 ea c n l ry fun s3 I3=>⟨σ,_,I3,q2⟩
end
section
variable {X:Cx}{pins:List (Addr×Obj)}{σ:St}{H:Hp}{s:Shared}{A:Around}{E:Value->Shared->Prop}{Q:Value->Shared->Prop}{c:Value}{b:Bool}
inductive tM (K:PySem.W.Frag) (H:Hp):V->Value->Prop where
 | dO:tM K H .dO (.type "NoneType")
 | bl (x:Bool):tM K H (.bl x) (.type "bool")
 | int (i:Int):tM K H (.int i) (.type "int")
 | str (x:Str):tM K H (.str x) (.type "str")
 | Xb (x:UInt64):tM K H (.Xb x) (.type "float")
 | lst {a:Addr} {xs:List V} (e:H a=some (.lst xs)):tM K H (.ref a) (.type "list")
 | uC {a:Addr} {o:Obj} {xs:List V} (e:H a=some (.uC o (.lst xs))):tM K H (.ref a) (.type "list")
 | tup {a:Addr} {xs:List V} (e:H a=some (.tup xs)):tM K H (.ref a) (.type "tuple")
 | dK {a:Addr} {kvs:List (Key×V)} (e:H a=some (.dK kvs)):tM K H (.ref a) (.type "dict")
 | dT {a:Addr} {kvs:List (List Key×V)} (e:H a=some (.dT kvs)):tM K H (.ref a) (.type "dict")
 | ins {a C dx:Addr} {fs:List (Str×V)} (e:H a=some (.ins C dx fs)) (cl:S7 K C) (ha:PySem.W.findIn K (.ref C) "__class__"=some (some (.builtin "object.__class__")))
   (hn:PySem.W.specialIn K (.builtin "object.__class__") "__get__"=some (some (.builtin "getset_descriptor.__get__"))) (htk:PySem.W.takesIn K (.builtin "object.__class__")=some true)
   (hm:PySem.W.mroIn K C (.type "object")=some true):tM K H (.ref a) (.ref C)
theorem KZ {x:V}{u t:Value}(I:Inv X pins σ H s)(rx:RelV x u)(ty:tM X.K H x t)(e:PySem.W.kitOne X.K t c=some b)(h:∀ tk,Q (.bool b) { s with toks:=tk }) :
  wpAny (model X.prog X.w) A (call (.builtin "isinstance") [u,c]) Q E s:=by
 cases ty with
 | dO=>cases (show u=Value.none from rx);exact PySem.W.kia_one PySem.W.kitx_none I.sH True.intro e (fun z=>nomatch z) h
 | bl y=>cases (show u=Value.bool y from rx);exact PySem.W.kia_one PySem.W.kitx_bool I.sH True.intro e (fun z=>nomatch z) h
 | int i=>obtain⟨t,q⟩:=(show ∃ t,u=Value.int i t from rx);cases q;exact PySem.W.kia_one PySem.W.kitx_int I.sH True.intro e (fun z=>nomatch z) h
 | str y=>obtain⟨t,q⟩:=(show ∃ t,u=Value.str y t from rx);cases q;exact PySem.W.kia_one PySem.W.kitx_str I.sH True.intro e (fun z=>nomatch z) h
 | Xb y=>obtain⟨t,q⟩:=(show ∃ t,u=Value.float y t from rx);cases q;exact PySem.W.kia_one PySem.W.kitx_float I.sH True.intro e (fun z=>nomatch z) h
 | @lst a xs ea =>
  cases (show u=Value.ref a from rx);obtain⟨_,_,n,_,h1⟩:=(show cY X.prog X.w H s.heap a (.lst xs) from I.hok a _ ea)
  exact PySem.W.kia_one PySem.W.kitx_list I.sH ⟨_,h1,rfl⟩ e (fun z=>nomatch z) h
 | @uC a ob xs ea =>
  cases (show u=Value.ref a from rx);obtain⟨_,_,_,n,_,h1⟩:=(show cY X.prog X.w H s.heap a (.uC ob (.lst xs)) from I.hok a _ ea)
  exact PySem.W.kia_one PySem.W.kitx_list I.sH ⟨_,h1,rfl⟩ e (fun z=>nomatch z) h
 | @tup a xs ea =>
  cases (show u=Value.ref a from rx);obtain⟨_,_,_,p⟩:=(show cY X.prog X.w H s.heap a (.tup xs) from I.hok a _ ea)
  obtain⟨o,h1,h2,_⟩:=p;exact PySem.W.kia_one PySem.W.kitx_tuple I.sH ⟨o,h1,h2⟩ e (fun z=>nomatch z) h
 | @dK a kvs ea =>
  cases (show u=Value.ref a from rx);obtain⟨_,_,vs,_,p⟩:=(show cY X.prog X.w H s.heap a (.dK kvs) from I.hok a _ ea)
  obtain⟨o,es,ep,h1,h2,_⟩:=p;exact PySem.W.kia_one PySem.W.kitx_dict I.sH ⟨o,h1,h2.1⟩ e (fun z=>nomatch z) h
 | @dT a kvs ea =>
  cases (show u=Value.ref a from rx);obtain⟨_,_,xs,_,o,es,ep,h1,h2,_⟩:=(show cY X.prog X.w H s.heap a (.dT kvs) from I.hok a _ ea)
  exact PySem.W.kia_one PySem.W.kitx_dict I.sH ⟨o,h1,h2.1⟩ e (fun z=>nomatch z) h
 | @ins a C dx fs ea cl ha hn htk hm =>
  cases (show u=Value.ref a from rx);obtain⟨mA,O,_⟩:=wK I.hok ea;obtain⟨od,J,_⟩:=O.look;exact PySem.W.kia_one (PySem.W.kitx_own (cl.get _) cl.hd ha hn htk hm) I.sH J e (fun z=>nomatch z) h
end
end L2
namespace L2
open PySem PySem.Spec PyProof.Rows
structure c7 (k:Nat)(A:Around):Prop where
 hd:A.handled=none
 dp:A.depth+3*k+5 < recursionLimit
 un:A.units+16*k+200 < cLine
theorem c7.mono {j k:Nat}{A:Around}(r:c7 k A)(h:j<=k):c7 j A:=⟨r.hd,by have:=r.dp;omega,by have:=r.un;omega⟩
theorem c7.m {j k:Nat}{A:Around}(r:c7 k A)(h:j<=k:=by first | decide | omega):c7 j A:=r.mono h
theorem c7.deeper {k:Nat}{A:Around}(r:c7 (k+1) A)(env:Env):c7 k (A.deeper env) :=
 ⟨r.hd,by have:=r.dp;show A.depth+1+3*k+5 < _;omega,by have:=r.un;show A.units+3+16*k+200 < _;omega⟩
theorem Gw {A:Around}{C:Addr}{us:List Value}{kw:List (Str×Value)}:(A.under (.builtin "type.__call__" ⟨.ref C::us,kw⟩)).depth=A.depth+1:=by
 first | rfl | simp[Around.under,Code.weight,Code.isCreation,Code.isGuard,Code.isCaller,Code.frames,Code.isFrame,guardIds]
theorem Gv {A:Around}{C:Addr}{us:List Value}{kw:List (Str×Value)}:(A.under (.builtin "type.__call__" ⟨.ref C::us,kw⟩)).units=A.units+1:=by
 first | rfl | simp[Around.under,Code.cUnits,Code.frames,Code.isFrame]
theorem c7.make {k:Nat}{A:Around}(r:c7 (k+1) A)(C:Addr)(us:List Value)(kw:List (Str×Value)):c7 k (A.under (.builtin "type.__call__" ⟨.ref C::us,kw⟩)) :=
 ⟨r.hd,by have:=r.dp;rw[Gw];omega,by have:=r.un;rw[Gv];omega⟩
theorem c7.depth {k:Nat}{A:Around}(r:c7 k A):A.depth < recursionLimit:=by have:=r.dp;omega
theorem c7.units {k:Nat}{A:Around}(r:c7 k A):A.units+64 < cLine:=by have:=r.un;omega
noncomputable def YL:TA:=fun _ H Q=>Q [] H
noncomputable def Tp (ta:TE)(tr:TA):TA:=fun σ H Q=>ta σ H fun x H1=>tr σ H1 fun xs H2=>Q (x::xs) H2
section
variable {X:Cx}{e:Expr}{es:List Expr}{te:TE}{t:TA}{pos:Pos}
theorem Nb:PA X [] YL:=fun _ _ _ _ H Q I h=>Calls.spliced_nil ⟨[],H,I,.nil,h⟩
theorem IQ (ha:PE X e te)(hr:PA X es t)(hs:starEach (e::es) X.env=(false,eval e X.env)::starEach es X.env:=by rfl):PA X (e::es) (Tp te t):=by
 intro pos pins s σ H Q I h;rw[hs];show wpAny _ _ (spliced ((false,eval e X.env)::backTo pos (starEach es X.env))) _ _ s;refine Calls.spliced_cons (cH (ha pins s σ H _ I h) ?_);rintro u s1 ⟨x,H1,I1,r1,q1⟩;exact cH (hr pos pins s1 σ H1 _ I1 q1) (by rintro us s2 ⟨xs,H2,I2,r2,q2⟩;exact ⟨x::xs,H2,I2,.cons r1 r2,q2⟩)
noncomputable def a2P (t:TA):TE:=fun σ H Q=>t σ H fun xs H1=>xs.length<=sizeLine/\∀ p,H1 p=none->Q (.ref p) (upd H1 p (.tup xs))
noncomputable def YR (t:TA):TE:=fun σ H Q=>t σ H fun xs H1=>xs.length<=sizeLine/\∀ p,H1 p=none->Q (.ref p) (upd H1 p (.lst xs))
theorem V0 {x1}(h:PA X es t):PE X (.Tuple es x1 pos) (a2P t):=by
 intro pins s σ H Q I hq;refine wpAny_Tuple_spliced (cH (h pos pins s σ H _ I hq) fun us s1 ⟨xs,H1,I1,r,z,q⟩=>⟨by rw[<- r.length];exact z,?_⟩);have hf:H1 s1.heap.objs.size=none:=I1.hok.fresh (Nat.le_refl _);refine⟨.ref s1.heap.objs.size,upd H1 s1.heap.objs.size (.tup xs),I1.laid (t':=s1.toks) (fun b u e=>Heap.get?_push_of_some _ e) (Nat.le_refl _) ?_,rfl,q _ hf⟩;exact⟨z,us,r,⟨_,Heap.get?_push_size _ rfl,rfl,_,rfl⟩⟩
theorem Gb (h:PA X es t):PE X (.List es pos) (YR t):=by
 intro pins s σ H Q I hq;refine wpAny_List_spliced (cH (h pos pins s σ H _ I hq) fun us s1 ⟨xs,H1,I1,r,z,q⟩=>⟨by rw[<- r.length];exact z,?_⟩);have hf:H1 s1.heap.objs.size=none:=I1.hok.fresh (Nat.le_refl _);refine⟨.ref s1.heap.objs.size,upd H1 s1.heap.objs.size (.lst xs),I1.laid (t':=s1.toks) (fun b u e=>Heap.get?_push_of_some _ e) (Nat.le_refl _) ?_,rfl,q _ hf⟩;exact⟨z,us,0,r,Heap.get?_push_size _ rfl⟩
end
noncomputable abbrev Sp:=List V->Hp->VK->XK->Prop
noncomputable abbrev JO:=List Env->Hp->Shared->XK->Value->Shared->Prop
structure Hh (P:Program)(w:World)(K:PySem.W.Frag)(mg:Str->Option Value)(base:Heap)(A:Around)(outer:List Env)(s:Shared)(H:Hp):Prop where
 frames:A.frames=some outer
 mod:Mod K mg base
 bs:∀ b o,base.get? b=some o->s.heap.get? b=some o/\H b=none
 SD:base.objs.size<=s.heap.objs.size
 vL:s.heap.FunFrames base outer
 W9:∀ b∈frs outer,H b=none
 hok:q9 P w H s.heap
 bare:AllBare s.gens
noncomputable def CE (outer:List Env)(P:Program)(w:World)(H:Hp)(s:Shared)(Q:VK)(u:Value)(s':Shared):Prop :=
 ∃ v H',s'.os=s.os/\AllBare s'.gens/\Un (frs outer) [] H H' s.heap s'.heap/\q9 P w H' s'.heap/\RelV v u/\Q v H'
noncomputable def CR (CX:JO)(outer:List Env)(P:Program)(w:World)(H:Hp)(s:Shared)(Q:VK)(E:XK)(r:Result)(s':Shared):Prop :=
 match r with
 | .ok (.ret u)=>CE outer P w H s Q u s'
 | .ok _=>False
 | .error e=>CX outer H s E e s'
structure aN (P:Program)(w:World)(K:PySem.W.Frag)(mg:Str->Option Value)(base:Heap)(CX:JO)(k:Nat)(f:Addr)(fd:FuncData)(ps:List Str)(sp:Sp):Prop where
 len:∀ vs H Q E,sp vs H Q E->vs.length=ps.length
 run:∀ (A:Around) (outer:List Env) (s:Shared) (H:Hp) (args:Args) (us:List Value) (vs:List V) (Q:VK) (E:XK),c7 k A->Hh P w K mg base A outer s H->BindsTo s fd args (ps.zip us)->Vals vs us->sp vs H Q E ->
  codeAny (model P w) A (.call (.ref f) args) (CR CX outer P w H s Q E) s
theorem aN.mono {P:Program}{w:World}{K:PySem.W.Frag}{mg:Str->Option Value}{base:Heap}{CX:JO}{j k:Nat}{f:Addr}{fd:FuncData}{ps:List Str}{sp:Sp}(F:aN P w K mg base CX j f fd ps sp)(h:j<=k) :
  aN P w K mg base CX k f fd ps sp:=⟨F.len,fun A outer s H args us vs Q E hr=>F.run A outer s H args us vs Q E (hr.mono h)⟩
theorem Hh.make {P:Program}{w:World}{K:PySem.W.Frag}{mg:Str->Option Value}{base:Heap}{A:Around}{outer:List Env}{s:Shared}{H:Hp}(e:Hh P w K mg base A outer s H)(C:Addr)(us:List Value)(kw:List (Str×Value)) :
  Hh P w K mg base (A.under (.builtin "type.__call__" ⟨.ref C::us,kw⟩)) outer s H:=⟨by first | exact e.frames | (simpa [Around.under,Code.envs,Code.isFrame,pushEnvs] using e.frames),e.mod,e.bs,e.SD,e.vL,e.W9,e.hok,e.bare⟩
section
variable {X:Cx}{pins:List (Addr×Obj)}{σ:St}{H:Hp}{s s':Shared}
theorem Inv.a1m (I:Inv X pins σ H s):Hh X.prog X.w X.K X.mg X.base X.A X.stack s H :=
 ⟨I.ok.frames,I.ok.mod,I.bs,Nat.le_trans I.ok.SD I.sz,I.stack,I.H9,I.hok,I.bare⟩
theorem Inv.after {Q:VK}{u:Value}(I:Inv X pins σ H s)(h:CE X.stack X.prog X.w H s Q u s'):EP X pins σ Q u s':=by
 obtain⟨v,H',os,bare,un,hok,r,q⟩:=h;obtain⟨hh,g,d,t,os'⟩:=s';obtain rfl:os'=s.os:=os;exact⟨v,H',I.call (h':=hh) (g':=g) (d':=d) (t':=t) (ch:=[]) un hok bare (fun b z=>absurd z (by simp)),r,q⟩
end
noncomputable def L4 (sp:Sp)(zq:List V)(E:XK)(t:TA):TE:=fun σ H Q=>t σ H fun vs H1=>sp (vs++zq) H1 Q E
noncomputable def Tj (C:Addr)(sp:Sp)(zq:List V)(E:XK)(t:TA):TE:=fun σ H Q=>t σ H fun vs H1=>∀ x dx,H1 x=none->H1 dx=none->dx≠x ->
 sp (.ref x::(vs++zq)) (upd (upd H1 dx (.own x)) x (.ins C dx [])) (fun v H2=>v=.dO/\Q (.ref x) H2) E
noncomputable def Binds (K:PySem.W.Frag)(fd:FuncData)(ps:List Str)(ds:List Value):Prop :=
 ∀ (s:Shared) (us:List Value),K.In s.heap->(us++ds).length=ps.length->BindsTo s fd ⟨us,[]⟩ (ps.zip (us++ds))
theorem Binds.all {K:PySem.W.Frag}{fd:FuncData}{ps:List Str}(h:∀ us:List Value,us.length=ps.length->bindArgs fd ⟨us,[]⟩=pure (ps.zip us)):Binds K fd ps []:=fun s us _ hl=>by
 rw[List.append_nil] at hl ⊢;exact .of_eq (h us hl)
noncomputable def Passes (CX:JO)(X:Cx)(E:XK):Prop:=∀ (pins:List (Addr×Obj)) (σ:St) (H:Hp) (s:Shared) (e:Value) (s':Shared),Inv X pins σ H s->CX X.stack H s E e s'->X.xe e s'
section
variable {X:Cx}{CX:JO}{k:Nat}{f C:Addr}{fd:FuncData}{ps:List Str}{sp:Sp}{zq:List V}{ds:List Value}{E:XK}{x m:Str}{p pos apos:Pos}{e o:Expr}{es:List Expr}{ta:TE}{t:TA}
theorem xK {pins:List (Addr×Obj)}{σ:St}{H:Hp}{s:Shared}{Q:VK}{us:List Value}{vs:List V}(F:aN X.prog X.w X.K X.mg X.base CX k f fd ps sp)(hr:c7 k X.A)(hb:Binds X.K fd ps ds)(hd:Vals zq ds)(hx:Passes CX X E)
  (I:Inv X pins σ H s) (r:Vals vs us) (h:sp (vs++zq) H Q E):wpAny (model X.prog X.w) X.A (call (.ref f) us) (EP X pins σ Q) X.xe s:=by
 have r2:Vals (vs++zq) (us++ds):=r.append hd;have hl:(us++ds).length=ps.length:=by rw[<- r2.length];exact F.len _ _ _ _ h
 refine wpAny_call (codeAny_mono (F.run X.A X.stack s H ⟨us,[]⟩ (us++ds) (vs++zq) Q E hr I.a1m (hb s us I.sH hl) r2 h) fun r s' hq=>?_);cases r with
 | error e=>exact hx pins σ H s e s' I hq
 | ok fl =>
  cases fl with
  | ret u=>exact I.after hq
  | next=>exact False.elim hq
  | brk=>exact False.elim hq
  | cont=>exact False.elim hq
theorem Q4 (F:aN X.prog X.w X.K X.mg X.base CX k f fd ps sp)(hr:c7 k X.A)(hg:Gl X x)(hm:X.mg x=some (.ref f))(hk:PySem.W.keepIn X.K (.ref f)=true)(hb:Binds X.K fd ps ds)(hd:Vals zq ds)(hx:Passes CX X E)
  (ha:PA X (e::es) t) (hdb:(x == ("__debug__":Str))=false:=by decide) (he:starEach (e::es) X.env=(false,eval e X.env)::starEach es X.env:=by rfl) (hpl:(backTo pos (starEach es X.env)).any (·.1)=false:=by rfl) :
  PE X (.Call (.Name x p) (e::es) [] pos) (L4 sp zq E t):=by
 intro pins s σ H Q I h;refine wpAny_Call_Name_kw (sF I hg hm ?_ hdb);refine PySem.W.callWith_K (h₀:=X.base) I.ok.mod.XU hk (cH (ha pos pins s σ H _ I h) fun us s1 ⟨vs,H1,I1,r,q⟩=>⟨I1.sH,?_⟩) he hpl;exact xK F hr hb hd hx I1 r q
theorem Na (F:aN X.prog X.w X.K X.mg X.base CX k f fd ps sp)(hr:c7 k X.A)(hg:Gl X x)(hm:X.mg x=some (.ref f))(hk:PySem.W.keepIn X.K (.ref f)=true)(hb:Binds X.K fd ps ds)(hd:Vals zq ds)(hx:Passes CX X E)
  (hdb:(x == ("__debug__":Str))=false:=by decide):PE X (.Call (.Name x p) [] [] pos) (L4 sp zq E YL):=by
 intro pins s σ H Q I h;refine wpAny_Call_Name_kw (sF I hg hm ?_ hdb);exact PySem.W.callWith_K0 I.sH hk (xK (us:=[]) F hr hb hd hx I .nil h)
structure Mk (K:PySem.W.Frag)(C f:Addr):Prop where
 makes:PySem.W.makesIn K C=true
 init:PySem.W.findIn K (.ref C) "__init__"=some (some (.ref f))
 fn:PySem.W.isFn K (.ref f)=true
 kp:PySem.W.keepIn K (.ref C)=true
theorem MJ {pins:List (Addr×Obj)}{σ:St}{H:Hp}{s:Shared}{Q:VK}{us:List Value}{vs:List V}(M:Mk X.K C f)(F:aN X.prog X.w X.K X.mg X.base CX k f fd ps sp)(hr:c7 (k+1) X.A)(hb:Binds X.K fd ps ds)(hd:Vals zq ds)
  (hx:Passes CX X E) (I:Inv X pins σ H s) (r:Vals vs us)
  (h:∀ x dx,H x=none->H dx=none->dx≠x->sp (.ref x::(vs++zq)) (upd (upd H dx (.own x)) x (.ins C dx [])) (fun v H2=>v=.dO/\Q (.ref x) H2) E) :
  wpAny (model X.prog X.w) X.A (call (.ref C) us) (EP X pins σ Q) X.xe s:=by
 have hq:=h (s.heap.objs.size+1) s.heap.objs.size (I.hok.fresh (Nat.le_succ _)) (I.hok.fresh (Nat.le_refl _)) (Nat.ne_of_lt (Nat.lt_succ_self _));have I2:=Inv.made (C:=C) I;have r2:Vals (V.ref (s.heap.objs.size+1)::(vs++zq)) (Value.ref (s.heap.objs.size+1)::(us++ds)):=.cons rfl (r.append hd);have hl:(Value.ref (s.heap.objs.size+1)::us++ds).length=ps.length:=by
  have e:=r2.length;rw[F.len _ _ _ _ hq] at e;exact e.symm
 refine wpAny_call (NG (f:=f) I.sH M.makes M.init (beq_iff_eq.mp M.fn) (codeAny_mono (F.run _ X.stack _ _ ⟨Value.ref (s.heap.objs.size+1)::us,[]⟩ (Value.ref (s.heap.objs.size+1)::(us++ds)) _ _ E (hr.make C us [])
  (I2.a1m.make C us []) (hb _ (Value.ref (s.heap.objs.size+1)::us) I2.sH hl) r2 hq) fun r s' hq'=>?_))
 cases r with
 | error e=>exact hx pins σ _ _ e s' I2 hq'
 | ok fl =>
  cases fl with
  | ret u =>
   obtain⟨v,H',I3,rv,ev,q3⟩:=I2.after hq';subst ev;exact⟨rv,⟨V.ref (s.heap.objs.size+1),H',I3,rfl,q3⟩⟩
  | next=>exact False.elim hq'
  | brk=>exact False.elim hq'
  | cont=>exact False.elim hq'
theorem QY (M:Mk X.K C f)(F:aN X.prog X.w X.K X.mg X.base CX k f fd ps sp)(hr:c7 (k+1) X.A)(hg:Gl X x)(hm:X.mg x=some (.ref C))(hb:Binds X.K fd ps ds)(hd:Vals zq ds)(hx:Passes CX X E)
  (ha:PA X (e::es) t) (hdb:(x == ("__debug__":Str))=false:=by decide) (he:starEach (e::es) X.env=(false,eval e X.env)::starEach es X.env:=by rfl) (hpl:(backTo pos (starEach es X.env)).any (·.1)=false:=by rfl) :
  PE X (.Call (.Name x p) (e::es) [] pos) (Tj C sp zq E t):=by
 intro pins s σ H Q I h;refine wpAny_Call_Name_kw (sF I hg hm ?_ hdb);refine PySem.W.callWith_K (h₀:=X.base) I.ok.mod.XU M.kp (cH (ha pos pins s σ H _ I h) fun us s1 ⟨vs,H1,I1,r,q⟩=>⟨I1.sH,?_⟩) he hpl;exact MJ M F hr hb hd hx I1 r q
end
section
variable {X:Cx}{CX:JO}{k:Nat}{f C:Addr}{fd:FuncData}{ps ks:List Str}{sp:Sp}{E:XK}{x m:Str}{p pos apos kpos:Pos}{e o:Expr}{es:List Expr}{kws:List Keyword}{te ta:TE}{t tk:TA}{nm:Option Str}
variable {g:List Value->List Value->List Value}{gV:List V->List V->List V}
end
structure au (N P:List Str)(sc:Scope):Prop where
 kind:sc.kind=.function
 co:sc.isCoroutine=false
 gen:sc.isGenerator=false
 nd:N.Nodup
 pre:N.take P.length=P
 par:∀ x∈P,sc.names.lookup x=some .local∨sc.names.lookup x=some .cell
 Ws:∀ y∈sc.names,y.2≠.free
theorem dM {N P:List Str}{sc:Scope}(a:sc.kind=.function:=by rfl)(b:sc.isCoroutine=false:=by rfl)(c:sc.isGenerator=false:=by rfl)(d:N.Nodup:=by decide +kernel)(e:N.take P.length=P:=by rfl)(f:∀ x∈P,sc.names.lookup x=some .local∨sc.names.lookup x=some .cell:=by decide +kernel)(g:∀ y∈sc.names,y.2≠.free:=by decide +kernel):au N P sc:=⟨a,b,c,d,e,f,g⟩
theorem AI {kindOf:Str->Option NameKind}{x:Str}:∀ {binds:List (Str×Value)} {m:Str->Option Value},(∀ v,(x,v) ∉ binds)->bindL kindOf binds m x=m x
 | [],_,_=>rfl
 | (n,v)::r,m,h=>by
  unfold bindL;rw[AI fun w hw=>h w (List.mem_cons_of_mem _ hw)];split
  ·have:x≠n:=by rintro rfl;exact h v List.mem_cons_self
   simp[this]
  ·rfl
theorem AK {kindOf:Str->Option NameKind}{x:Str}:∀ {binds:List (Str×Value)} {m:Str->Option Value},(∀ v,(x,v) ∉ binds)->bindC kindOf binds m x=m x
 | [],_,_=>rfl
 | (n,v)::r,m,h=>by
  unfold bindC;rw[AK fun w hw=>h w (List.mem_cons_of_mem _ hw)];split
  ·rfl
  ·have:x≠n:=by rintro rfl;exact h v List.mem_cons_self
   simp[this]
theorem AJ {kindOf:Str->Option NameKind}{x:Str}{v:Value}:∀ {P:List Str} {vs:List Value} {i:Nat} {m:Str->Option Value},P.Nodup->P[i]?=some x->vs[i]?=some v->kindOf x=some .local ->
  bindL kindOf (P.zip vs) m x=some v
 | [],_,_,_,_,h,_,_=>by simp at h
 | _::_,[],_,_,_,_,h,_=>by simp at h
 | p::P,w::vs,0,m,nd,h1,h2,hk=>by
  simp at h1 h2;subst h1;subst h2;show bindL kindOf ((p,w)::P.zip vs) m p=_;unfold bindL;rw[AI fun v hv=>(List.nodup_cons.mp nd).1 (List.of_mem_zip hv).1,if_pos hk];simp
 | p::P,w::vs,i+1,m,nd,h1,h2,hk=>by
  show bindL kindOf ((p,w)::P.zip vs) m x=_;unfold bindL;exact AJ (i:=i) (List.nodup_cons.mp nd).2 (by simpa using h1) (by simpa using h2) hk
theorem AL {kindOf:Str->Option NameKind}{x:Str}{v:Value}:∀ {P:List Str} {vs:List Value} {i:Nat} {m:Str->Option Value},P.Nodup->P[i]?=some x->vs[i]?=some v->kindOf x≠some .local ->
  bindC kindOf (P.zip vs) m x=some v
 | [],_,_,_,_,h,_,_=>by simp at h
 | _::_,[],_,_,_,_,h,_=>by simp at h
 | p::P,w::vs,0,m,nd,h1,h2,hk=>by
  simp at h1 h2;subst h1;subst h2;show bindC kindOf ((p,w)::P.zip vs) m p=_;unfold bindC;rw[AK fun v hv=>(List.nodup_cons.mp nd).1 (List.of_mem_zip hv).1,if_neg hk];simp
 | p::P,w::vs,i+1,m,nd,h1,h2,hk=>by
  show bindC kindOf ((p,w)::P.zip vs) m x=_;unfold bindC;exact AL (i:=i) (List.nodup_cons.mp nd).2 (by simpa using h1) (by simpa using h2) hk
noncomputable def start (N:List Str)(vs:List V):St:=vs.map some++List.replicate (N.length - vs.length) none
noncomputable def EJ (CX:JO)(P:Program)(w:World)(K:PySem.W.Frag)(mg:Str->Option Value)(base:Heap)(N:List Str)(qual:Str)(scope:Scope)(f:Addr)(cd:Value)(A:Around)(outer:List Env)(s:Shared)(H:Hp)(E:XK):Cx where
 prog:=P
 w:=w
 K:=K
 mg:=mg
 base:=base
 A:=A.deeper (envOfC qual scope s.heap.objs.size f cd)
 N:=N
 s₀:=s
 H₀:=H
 env:=envOfC qual scope s.heap.objs.size f cd
 outer:=outer
 stack:=envOfC qual scope s.heap.objs.size f cd::outer
 ex:=[]
 calm:=true
 fn:=fun _=>true
 pn:=[]
 xe:=fun e s'=>wpAny (model P w) (A.deeper (envOfC qual scope s.heap.objs.size f cd)) (leaving (envOfC qual scope s.heap.objs.size f cd) e) (fun _ s''=>CX outer H s E e s'') (fun e' s''=>CX outer H s E e' s'') s'
theorem ET {sc:Scope}{n:Nat}{x:Str}(h:sc.names.lookup x=some .cell):∃ c,(cellsFrom n sc.names []).lookup x=some c:=by
 have q:=PySem.W.cellsFrom_some sc.names n [] (.inl h);exact Option.isSome_iff_exists.mp q
theorem K1 {CX:JO}{P:Program}{w:World}{K:PySem.W.Frag}{mg:Str->Option Value}{base:Heap}{N ps:List Str}{qual:Str}{scope:Scope}{f:Addr}{cd:Value}{A:Around}{outer:List Env}{s s1:Shared}{H:Hp}{E:XK}{us:List Value}{vs:List V}
  (S:au N ps scope) (hd:A.handled=none) (e0:Hh P w K mg base A outer s H) (hl:vs.length=ps.length) (r:Vals vs us)
  (x:InCallC s s.heap.objs.size (bindL (envOfC qual scope s.heap.objs.size f cd).kindOf (ps.zip us) fun _=>none) (cellsFrom (s.heap.objs.size+1) scope.names []) (bindC (envOfC qual scope s.heap.objs.size f cd).kindOf (ps.zip us) fun _=>none) s1) :
  Inv (EJ CX P w K mg base N qual scope f cd A outer s H E) [] (start N vs) H s1:=by
 have hpl:ps.length<=N.length:=by have:=congrArg List.length S.pre;rw[List.length_take] at this;omega
 obtain⟨h1,tk,rfl,hk⟩:=x.done;have Z6:∀ b:Addr,b ∉ (EJ CX P w K mg base N qual scope f cd A outer s H E).ex:=fun b z=>absurd (show b∈([]:List Addr) from z) (by simp);refine⟨⟨e0.mod,S.kind,rfl,rfl,Nat.le_refl _,fun y z c h1 h2=>?_,fun y hy=>?_,fun y c _ h=>?_,fun _=>hd,Around.frames_deeper e0.frames,.inr ⟨rfl,rfl⟩,fun b z=>absurd z (Z6 b),e0.bs,e0.SD,fun b _ _=>Z6 b,fun b z=>absurd z (Z6 b),e0.vL,e0.W9⟩,
  rfl,e0.bare,Un.kept hk,⟨_,x.toInCall.ns,fun i y v h1 h2 h3=>?_⟩,fun y c h=>⟨_,x.cell y c h⟩,e0.hok.fresh (Nat.le_refl _),fun y c h=>?_,fun p hp=>absurd (show p∈([]:List (Addr×Obj)) from hp) (by simp),e0.hok.kept hk,?_⟩
 ·exact name_of_addr x.apart (PySem.mem_of_lookup h1) (PySem.mem_of_lookup h2)
 ·have hy:scope.names.lookup y=some .cell∨scope.names.lookup y=some .free:=hy;rcases hy with hy | hy
  ·exact ET hy
  ·exact absurd rfl (S.Ws _ (PySem.mem_of_lookup hy))
 ·exact Nat.le_of_lt (x.above y c (PySem.mem_of_lookup h))
 ·have hi:i < vs.length:=by
   unfold start at h2;by_cases hi:i < vs.length
   ·exact hi
   ·rw[List.getElem?_append_right (by simpa using hi)] at h2;rw[List.getElem?_replicate] at h2;split at h2 <;> cases h2
  have ha:vs[i]?=some v:=by
   unfold start at h2;rw[List.getElem?_append_left (by simpa using hi),List.getElem?_map] at h2;cases e:vs[i]? with
   | none=>rw[e] at h2;cases h2
   | some a=>rw[e] at h2;cases h2;rfl
  obtain⟨u,hu,rv⟩:=r.get ha;have hp:ps[i]?=some y:=by
   rw[<- S.pre,List.getElem?_take_of_lt (by omega)];exact h1
  have ndP:ps.Nodup:=by rw[<- S.pre];exact S.nd.sublist (List.take_sublist _ _)
  refine⟨u,rv,?_⟩;rcases S.par y (List.mem_of_getElem? hp) with k | k
  ·exact .inl ⟨k,AJ ndP hp hu k⟩
  ·obtain⟨c,e⟩:=ET (n:=s.heap.objs.size+1) k;refine .inr ⟨.inl k,c,e,?_⟩;have q:=x.cell y c e;rw[AL ndP hp hu (by show scope.names.lookup y≠_;rw[k];decide)] at q;exact q
 ·exact e0.hok.fresh (Nat.le_of_lt (x.above y c (PySem.mem_of_lookup h)))
 ·unfold start;show _=N.length;rw[List.length_append,List.length_map,List.length_replicate];omega
theorem a1i {CX:JO}{P:Program}{w:World}{K:PySem.W.Frag}{mg:Str->Option Value}{base:Heap}{k:Nat}{f:Addr}{name qual:Str}{params:Arguments}{body:List Stmt}{scope:Scope}{dV kV doc pm cdv ct oc:Value}{an od:Option Addr}
  {osl:Array (Option Value)} {N ps:List Str} {sp:Sp} (lk:K.lookup f=some ⟨oc,od,.func (PySem.W.fnOf name qual params body scope dV kV doc pm an cdv ct),osl⟩) (hcd:PySem.W.codeIn K cdv qual=true) (S:au N ps scope)
  (len:∀ vs H Q E,sp vs H Q E->vs.length=ps.length)
  (hbody:∀ (A:Around) (outer:List Env) (s:Shared) (H:Hp) (vs:List V) (Q:VK) (E:XK),c7 k (A.deeper (envOfC qual scope s.heap.objs.size f cdv))->sp vs H Q E ->
   ∃ t,C1 (EJ CX P w K mg base N qual scope f cdv A outer s H E) body t/\t { nx:=fun _ H'=>Q .dO H',rt:=Q } (start N vs) H) :
  aN P w K mg base CX (k+1) f (PySem.W.fnOf name qual params body scope dV kV doc pm an cdv ct) ps sp:=by
 refine⟨len,fun A outer s H args us vs Q E hr e0 hb r Pe=>?_⟩;have hl:=len _ _ _ _ Pe;have KX:K.In s.heap:=e0.mod.XU.keeps fun b o e=>(e0.bs b o e).1;have lim:s.heap.NoLimit:=e0.mod.nolimit.keeps fun b o e=>(e0.bs b o e).1;have hkind:∀ y∈ps.zip us,scope.names.lookup y.1=some .local∨(scope.names.lookup y.1=some .cell/\((cellsFrom (s.heap.objs.size+1) scope.names []).lookup y.1).isSome=true):=fun⟨n,v⟩ hy=>by
  rcases S.par n (List.of_mem_zip hy).1 with q | q
  ·exact .inl q
  ·exact .inr ⟨q,PySem.W.cellsFrom_some _ _ _ (.inl q)⟩
 refine codeAny_call_function hr.depth (KX _ _ lk) rfl S.co S.gen rfl (PySem.W.codeRec_of KX hcd) (hb _ _ _ _ ?_);refine wpAny_newFunctionEnv_cells S.kind hkind fun env he s1 x=>?_;subst he;refine⟨lim.keeps x.toInCall.keep,codeAny_func ?_⟩;obtain⟨t,ht,hq⟩:=hbody A outer s H vs Q E (hr.deeper _) Pe;have I:Inv (EJ CX P w K mg base N qual scope f cdv A outer s H E) [] (start N vs) H s1:=K1 S hr.hd e0 hl r x;refine wpAny_mono (ht [] s1 (start N vs) H _ I hq) (fun fl s' hs=>?_) fun e s' hs=>hs;have fin:∀ {σ':St} {H':Hp} {v:V} {u:Value},Inv (EJ CX P w K mg base N qual scope f cdv A outer s H E) [] σ' H' s'->RelV v u->Q v H'->CE outer P w H s Q u s' :=
  fun {σ' H' v u} J rv q=>⟨v,H',J.os,J.bare,J.base,J.hok,rv,q⟩
 cases fl with
 | ret u =>
  obtain⟨v,σ',H',J,rv,q⟩:=hs;exact fin J rv q
 | next =>
  obtain⟨σ',H',J,q⟩:=hs;exact fin (v:=V.dO) (u:=Value.none) J rfl q
 | brk =>
  obtain⟨_,_,_,q⟩:=hs;exact False.elim q
 | cont =>
  obtain⟨_,_,_,q⟩:=hs;exact False.elim q
end L2
namespace L2
open PySem PySem.Spec PyProof.Rows
section
variable {X:Cx}{x:Str}{p pos:Pos}{e:Expr}{es:List Expr}{t:TA}{id T:String}{r:List V->Hp->VK->Prop}
noncomputable def YZ (r:List V->Hp->VK->Prop)(t:TA):TE:=fun σ H Q=>t σ H fun vs H1=>r vs H1 Q
theorem M9 (hc:eW X (.builtin id) r)(hg:Gl X x)(hm:X.mg x=none)(hv:bootBuiltins x=some (.builtin id))(ha:PA X (e::es) t)(hn:x≠"__name__":=by decide)(hdb:(x == ("__debug__":Str))=false:=by decide)
  (he:starEach (e::es) X.env=(false,eval e X.env)::starEach es X.env:=by rfl) (hpl:(backTo pos (starEach es X.env)).any (·.1)=false:=by rfl):PE X (.Call (.Name x p) (e::es) [] pos) (YZ r t):=by
 intro pins s σ H Q I h;refine wpAny_Call_Name_kw (yj I hg hm hv ?_ hn hdb);exact PyProof.Rows.callWith_builtin1 (cH (ha pos pins s σ H _ I h) (by rintro us s1 ⟨vs,H1,I1,r1,q1⟩;exact hc pins s1 σ H1 vs us Q I1 r1 q1)) he hpl
theorem J4 (hc:eW X (.type T) r)(hg:Gl X x)(hm:X.mg x=none)(hv:bootBuiltins x=some (.type T))(ha:PA X (e::es) t)(hn:x≠"__name__":=by decide)(hdb:(x == ("__debug__":Str))=false:=by decide)
  (he:starEach (e::es) X.env=(false,eval e X.env)::starEach es X.env:=by rfl) (hpl:(backTo pos (starEach es X.env)).any (·.1)=false:=by rfl):PE X (.Call (.Name x p) (e::es) [] pos) (YZ r t):=by
 intro pins s σ H Q I h;refine wpAny_Call_Name_kw (yj I hg hm hv ?_ hn hdb);exact PyProof.Rows.callWith_type1 (cH (ha pos pins s σ H _ I h) (by rintro us s1 ⟨vs,H1,I1,r1,q1⟩;exact hc pins s1 σ H1 vs us Q I1 r1 q1)) he hpl
end
end L2
namespace HT
open PySem PyProof.Rows
section
open PySem.SeqAt
open PySem.AutoSeq1 (wpAny_loadPart')
open PySem.MeetsSeq PySem.MeetsSeq2 PySem.MeetsSeq3
end
section
variable {prog:Program}{w:World}{A:Around}{E:Value->Shared->Prop}{s:Shared}
theorem Sz {t b:Addr}{vs ws:List Value}{Q:Value->Shared->Prop}(ht:IsTup s.heap t vs.toArray)(hb:IsTup s.heap b ws.toArray)(hv:vs≠[])
  (h1:ws=[]->Q (.ref t) s) (h2:ws≠[]->Q (.ref s.heap.objs.size) { s with heap:=s.heap.push { cls:=.type "tuple",data:=.seq (vs++ws).toArray } })
  (hsz:vs.length+ws.length<=sizeLine):wpAny (model prog w) A (binaryOp .Add (.ref t) (.ref b)) Q E s:=by
 obtain⟨⟨cls,dd,data,sl⟩,ho,hc,n,hd⟩:=id ht;obtain⟨⟨a5n,dd2,data2,sl2⟩,ho2,hc2,n2,hd2⟩:=id hb;simp only at hc hd hc2 hd2;subst hc hd hc2 hd2;have e:vs.toArray++ws.toArray=(vs++ws).toArray:=by simp
 by_cases hw:ws=[]
 ·exact concat_meets ⟨_,ho,rfl⟩ ⟨_,ho2,rfl⟩ noFill_tuple_add seq_tuple_add PySem.F.slot_tuple_add PySem.F.entry_tuple_add (PySem.F.args_tuple_add_2 _ _)
   (tuple_addW1 t b vs.toArray ws.toArray n n2 dd dd2 sl sl2 (by simpa using hv) (by simp[hw])) ⟨ho,ho2,h1 hw⟩
 ·refine concat_meets ⟨_,ho,rfl⟩ ⟨_,ho2,rfl⟩ noFill_tuple_add seq_tuple_add PySem.F.slot_tuple_add PySem.F.entry_tuple_add (PySem.F.args_tuple_add_2 _ _)
   (tuple_addW2 t b vs.toArray ws.toArray n n2 dd dd2 sl sl2 (by simpa using hv) (by simpa using hw) (by rw[List.size_toArray,List.size_toArray];exact hsz)) ⟨ho,ho2,?_⟩
  rw[e];exact h2 hw
noncomputable def fK (n d:Nat):Option Int->Nat
 | none=>d
 | some v=>if v < 0 then (v+(n:Int)).toNat else min v.toNat n
theorem xJ (n d:Nat):fK n d none=d:=rfl
theorem r6 (n d k:Nat):fK n d (some (k:Int))=min k n:=by
 show(if (k:Int) < 0 then ((k:Int)+(n:Int)).toNat else min (k:Int).toNat n)=min k n;rw[if_neg (by omega),Int.toNat_natCast]
theorem Vm (n d:Nat)(hd:d<=n)(o:Option Int):fK n d o<=n:=by
 cases o with
 | none=>exact hd
 | some v =>
  show(if v < 0 then (v+(n:Int)).toNat else min v.toNat n)<=n;by_cases hv:v < 0
  ·rw[if_pos hv];omega
  ·rw[if_neg hv];exact Nat.min_le_right _ _
theorem JA (v:Int)(n d:Nat):(if v < 0 then max (v+(n:Int)) 0 else min v (n:Int))=((fK n d (some v):Nat):Int):=by
 show(if v < 0 then max (v+(n:Int)) 0 else min v (n:Int))=(((if v < 0 then (v+(n:Int)).toNat else min v.toNat n):Nat):Int);by_cases hv:v < 0
 ·simp only[if_pos hv];omega
 ·simp only[if_neg hv];omega
theorem G8 (lo hi:Option Int)(n:Nat):Builtin.Slice.sliceAdjust lo hi 1 (n:Int)=(((fK n 0 lo:Nat):Int),((fK n n hi:Nat):Int)):=by
 have h1:¬ ((1:Int) < 0):=by omega
 unfold Builtin.Slice.sliceAdjust;simp only[h1,if_false];refine Prod.ext ?_ ?_
 ·cases lo with
  | none=>rfl
  | some v=>exact JA v n 0
 ·cases hi with
  | none=>rfl
  | some v=>exact JA v n n
theorem F9 (i j:Nat):Builtin.Slice.slicePlaces (i:Int) (j:Int) 1=j - i:=by
 unfold Builtin.Slice.slicePlaces;have h1:(1:Int) > 0:=by omega
 simp only[h1,if_true,Int.ediv_one];split <;> omega
theorem xy {v:Value}{o:Option Int}{Q:Option Int->Shared->Prop}(p:IsPart v o)(h:Q o s):wpAny (model prog w) A (Builtin.Slice.slicePartIndex v) Q E s:=by
 cases p with
 | none=>exact slicePart_none h
 | int i t=>exact slicePart_int h
theorem ug {sl:Addr}{vl vu:Value}{lo hi:Option Int}{n:Nat}{Q:Int×Int×Nat->Shared->Prop}(hs:s.heap.IsSliceOf sl vl vu .none)(pl:IsPart vl lo)(pu:IsPart vu hi)
  (h:Q (((fK n 0 lo:Nat):Int),1,fK n n hi - fK n 0 lo) s):wpAny (model prog w) A (Builtin.Slice.sliceApplied (.ref sl) (pure (n:Int))) Q E s:=by
 obtain⟨os,hos,hcs,hds⟩:=id hs;unfold Builtin.Slice.sliceApplied Builtin.Slice.sliceFields;refine wpAny_bind (wpAny_bind (wpAny_field hos hds (x:=vl) rfl (wpAny_bind (wpAny_field hos hds (x:=vu) rfl (wpAny_bind (wpAny_field hos hds (x:=.none) rfl (wpAny_pure ?_)))))));refine wpAny_bind (slicePart_none ?_);show wpAny _ _ (if ((1:Int) == 0)=true then _ else _) _ _ s;rw[if_neg (by decide)];refine wpAny_bind (xy pl (wpAny_bind (xy pu (wpAny_bind (wpAny_pure ?_)))));show wpAny _ _ (match Builtin.Slice.sliceAdjust lo hi 1 (n:Int) with | (lo,hi)=>pure (lo,(1:Int),Builtin.Slice.slicePlaces lo hi 1)) _ _ s;rw[G8 lo hi n];show wpAny _ _ (pure (((fK n 0 lo:Nat):Int),(1:Int),Builtin.Slice.slicePlaces ((fK n 0 lo:Nat):Int) ((fK n n hi:Nat):Int) 1)) _ _ s;rw[F9];exact wpAny_pure h
theorem MZ (xs:Array Value)(i k:Nat):((List.range k).filterMap fun(m:Nat)=>xs[((i:Int)+(m:Int)*1).toNat]?).toArray=((xs.toList.drop i).take k).toArray:=by
 have e:(fun(m:Nat)=>xs[((i:Int)+(m:Int)*1).toNat]?)=fun m=>xs[i+m]?:=by
  funext m;have:((i:Int)+(m:Int)*1).toNat=i+m:=by omega
  rw[this]
 rw[e];have:=pick_run xs i k;rw[List.filterMap_map] at this;have e2:((fun x=>xs[x]?) ∘ fun x=>i+x)=fun m=>xs[i+m]?:=rfl;rw[e2] at this;rw[this]
theorem sN {t sl:Addr}{items:Array Value}{vl vu:Value}{lo hi:Option Int}{Q:Value->Shared->Prop}(ht:IsTup s.heap t items)(hs:s.heap.IsSliceOf sl vl vu .none)(pl:IsPart vl lo)(pu:IsPart vu hi)
  (hw:¬ (fK items.size 0 lo=0/\fK items.size items.size hi=items.size))
  (h:Q (.ref s.heap.objs.size) { s with heap:=s.heap.push { cls:=.type "tuple",data:=.seq ((items.toList.drop (fK items.size 0 lo)).take (fK items.size items.size hi - fK items.size 0 lo)).toArray } })
  (hsz:items.size<=sizeLine):wpAny (model prog w) A (getItem (.ref t) (.ref sl)) Q E s:=by
 have Je:sizeOk (.seq ((items.toList.drop (fK items.size 0 lo)).take (fK items.size items.size hi - fK items.size 0 lo)).toArray):=by
  show((items.toList.drop (fK items.size 0 lo)).take (fK items.size items.size hi - fK items.size 0 lo)).toArray.size<=sizeLine;rw[List.size_toArray,List.length_take,List.length_drop,Array.length_toList];omega
 have hj:fK items.size items.size hi<=items.size:=Vm _ _ (Nat.le_refl _) hi;obtain⟨os,hos,hcs,hds⟩:=id hs;have hTs:s.TypeIs (.ref sl) "slice":=⟨os,hos,hcs⟩
 unfold getItem
 try with_reducible refine wpAny_holding ?_
 first | refine wpAny_bind (wpAny_pure ?_) | skip
 refine wpAny_bind (wpAny_sequenceKey ht.typeIs (by decide) ?_);refine wpAny_bind (wpAny_callSpecial?_slot (name:=Str.ofString "__getitem__") ht.typeIs PyProof.Rows.slot_tuple_getitem
  (wpAny_call_entry PyProof.Rows.slot_tuple_getitem ht.typeIs entry_tuple_getitem ?_ (args_tuple_getitem _ _)))
 show wpAny _ _ (Builtin.Tuple.tupleItemsOf (.ref t) >>= _) _ _ s;refine wpAny_bind (tupleItemsOf_ ht ?_);refine wpAny_bind (wpAny_typeOf hTs ?_);rw[if_pos (by decide)];refine wpAny_bind (ug hs pl pu ?_);have hno:¬ ((((fK items.size 0 lo:Nat):Int) == 0 && (1:Int) == 1 && (fK items.size items.size hi - fK items.size 0 lo) == items.size)=true):=by
  intro q;rw[Bool.and_eq_true,Bool.and_eq_true] at q;have q1:((fK items.size 0 lo:Nat):Int)=0:=eq_of_beq q.1.1;have q2:fK items.size items.size hi - fK items.size 0 lo=items.size:=eq_of_beq q.2;exact hw ⟨by omega,by omega⟩
 show wpAny _ _ (if (((fK items.size 0 lo:Nat):Int) == 0 && (1:Int) == 1 && (fK items.size items.size hi - fK items.size 0 lo) == items.size)=true then _ else _) _ _ s;rw[if_neg hno,MZ]
 first
  | exact wpAny_bind (m:=Builtin.Tuple.tupleExact _) (wpAny_newObj_type (wpAny_pure ⟨_,rfl,wpAny_pure h⟩) Je)
  | exact wpAny_bind (m:=Builtin.Tuple.tupleExact _) (wpAny_newObj_type (wpAny_bind (wpAny_pure (wpAny_pure ⟨_,rfl,wpAny_pure h⟩))) Je)
  | exact wpAny_bind (wpAny_bind (m:=Builtin.Tuple.tupleExact _) (wpAny_newObj_type (wpAny_pure (wpAny_pure ⟨_,rfl,wpAny_pure h⟩)) Je))
  | exact wpAny_bind (wpAny_bind (m:=Builtin.Tuple.tupleExact _) (wpAny_newObj_type (wpAny_pure ⟨_,rfl,wpAny_pure h⟩) Je))
end
end HT
namespace L2
open PySem PySem.Spec PyProof.Rows
noncomputable abbrev TO:=St->Hp->(Option Int->Hp->Prop)->Prop
noncomputable def PO (X:Cx)(e:Option Expr)(t:TO):Prop :=
 ∀ (pins:List (Addr×Obj)) (s:Shared) (σ:St) (H:Hp) (Q:Option Int->Hp->Prop),Inv X pins σ H s->t σ H Q ->
  wpAny (model X.prog X.w) X.A (evalPart e X.env) (fun u s'=>∃ o H',Inv X pins σ H' s'/\IsPart u o/\Q o H') X.xe s
noncomputable def Pz:TO:=fun _ H Q=>Q none H
noncomputable def YG (t:TE):TO:=fun σ H Q=>t σ H fun x H1=>∃ i,x=.int i/\Q (some i) H1
section
variable {X:Cx}{e:Expr}{te:TE}{lo hi:Option Expr}{tl th:TO}{pos p2:Pos}
theorem QM:PO X none Pz:=by
 intro pins s σ H Q I h;rw[evalPart_none];exact wpAny_pure ⟨none,H,I,.none,h⟩
theorem QL (h:PE X e te):PO X (some e) (YG te):=by
 intro pins s σ H Q I hw;rw[evalPart_some];refine cH (h pins s σ H _ I hw) ?_;rintro u s1 ⟨x,H1,I1,r1,q1⟩;obtain⟨i,rfl,q⟩:=q1;obtain⟨t,rfl⟩:=r1;exact⟨some i,H1,I1,.int i t,q⟩
noncomputable def SM (X:Cx)(r:V->Option Int->Option Int->Hp->VK->Prop):Prop :=
 ∀ (pins:List (Addr×Obj)) (s:Shared) (σ:St) (H:Hp) (x:V) (v vl vu:Value) (lo hi:Option Int) (sl:Addr) (Q:VK),Inv X pins σ H s->RelV x v->s.heap.IsSliceOf sl vl vu .none->IsPart vl lo->IsPart vu hi->r x lo hi H Q ->
  ∃ T id,typeLookup (.type T) "__getitem__"=pure (some (.builtin id))/\s.TypeIs v T/\wpAny (model X.prog X.w) X.A (getItem v (.ref sl)) (EP X pins σ Q) X.xe s
theorem SM.or {r r':V->Option Int->Option Int->Hp->VK->Prop}(h:SM X r)(h':SM X r'):SM X (fun x lo hi H Q=>r x lo hi H Q∨r' x lo hi H Q):=by
 intro pins s σ H x v vl vu lo hi sl Q I rx hs pl pu q;rcases q with q | q
 ·exact h pins s σ H x v vl vu lo hi sl Q I rx hs pl pu q
 ·exact h' pins s σ H x v vl vu lo hi sl Q I rx hs pl pu q
noncomputable def tSl (r:V->Option Int->Option Int->Hp->VK->Prop)(te:TE)(tl th:TO):TE:=fun σ H Q=>te σ H fun x H1=>tl σ H1 fun l H2=>th σ H2 fun u H3=>r x l u H3 Q
theorem M1 {r:V->Option Int->Option Int->Hp->VK->Prop}(hr:SM X r)(he:PE X e te)(hl:PO X lo tl)(hu:PO X hi th):PE X (.Subscript e (.Slice lo hi none p2) pos) (tSl r te tl th):=by
 intro pins s σ H Q I h;refine Subscript_ (cH (he pins s σ H _ I h) ?_);rintro v s1 ⟨x,H1,I1,r1,q1⟩;refine wpAny_Slice (cH (hl pins s1 σ H1 _ I1 q1) fun vl s2 ⟨l,H2,I2,pl,q2⟩=>cH (hu pins s2 σ H2 _ I2 q2) ?_);rintro vu s3 ⟨u,H3,I3,pu,q3⟩;rw[evalPart_none];refine wpAny_pure ?_;have I4:Inv X pins σ H3 { s3 with heap:=s3.heap.push { cls:=.type "slice",data:=.fields #[vl,vu,.none] } }:=I3.kept (t':=s3.toks) fun b ob q=>Heap.get?_push_of_some _ q;obtain⟨T,id,hT,ht,hg⟩:=hr pins { s3 with heap:=s3.heap.push { cls:=.type "slice",data:=.fields #[vl,vu,.none] } } σ H3 x v vl vu l u s3.heap.objs.size Q I4 r1 (Heap.IsSliceOf.new ..) pl pu q3;show wpAny (model X.prog X.w) X.A (subscriptTail e (.Slice lo hi none p2) v (.ref s3.heap.objs.size)) (EP X pins σ Q) X.xe { s3 with heap:=s3.heap.push { cls:=.type "slice",data:=.fields #[vl,vu,.none] } };exact tail_any (ops:=[.ref s3.heap.objs.size,v]) ht hT hg (by with_unfolding_all rfl)
noncomputable def EK (xs:List V)(lo hi:Option Int):List V:=(xs.drop (HT.fK xs.length 0 lo)).take (HT.fK xs.length xs.length hi - HT.fK xs.length 0 lo)
theorem vo (xs:List V)(lo hi:Option Int):(EK xs lo hi).length<=xs.length:=by
 unfold EK;rw[List.length_take,List.length_drop];omega
noncomputable def a3b (K:PySem.W.Frag):V->Option Int->Option Int->Hp->VK->Prop:=fun x lo hi H Q=>∃ a xs,x=.ref a/\mC K H a xs /\
 ¬ (HT.fK xs.length 0 lo=0/\HT.fK xs.length xs.length hi=xs.length)/\∀ p,H p=none->Q (.ref p) (upd H p (.tup (EK xs lo hi)))
theorem Vc:SM X (a3b X.K):=by
 intro pins s σ H x v vl vu lo hi sl Q I rx hs pl pu h;obtain⟨a,xs,rfl,hx,hw,q⟩:=h;cases rx;obtain⟨its,r,ht,hz⟩:=I.tuple hx;have hlen:its.toArray.size=xs.length:=by rw[List.size_toArray];exact r.length.symm
 refine⟨"tuple",_,PyProof.Rows.slot_tuple_getitem.lookup,ht.typeIs,?_⟩;refine HT.sN ht hs pl pu (by rw[hlen];exact hw) ?_ (by rw[hlen];exact hz);rw[hlen];refine⟨.ref s.heap.objs.size,_,I.laid (t':=s.toks) (o:=.tup (EK xs lo hi)) (fun b ob q=>Heap.get?_push_of_some _ q) (Nat.le_refl _) ?_,rfl,q _ (I.hok.fresh (Nat.le_refl _))⟩;exact⟨Nat.le_trans (vo xs lo hi) hz,_,(r.drop (HT.fK xs.length 0 lo)).take (HT.fK xs.length xs.length hi - HT.fK xs.length 0 lo),IsTup.new _ _⟩
noncomputable def ZE (K:PySem.W.Frag):R2:=fun x y H Q=>∃ a b xs ys,x=.ref a/\y=.ref b/\mC K H a xs/\mC K H b ys/\xs≠[]/\xs.length+ys.length<=sizeLine /\
 (ys=[]->Q (.ref a) H)/\(ys≠[]->∀ p,H p=none->Q (.ref p) (upd H p (.tup (xs++ys))))
theorem Vals.dJ {xs:List V}{us:List Value}(r:Vals xs us):us=[]↔xs=[]:=by
 cases r with
 | nil=>simp
 | cons _ _=>simp
theorem Q8:jX X (binaryOp .Add) (ZE X.K):=by
 intro pins s σ H x y v u Q I rx ry h;obtain⟨a,b,xs,ys,rfl,rfl,ha,hb,hx,hz,q1,q2⟩:=h;cases rx;cases ry;obtain⟨its,r1,p1,_⟩:=I.tuple ha;obtain⟨its2,r2,p2,_⟩:=I.tuple hb;refine HT.Sz p1 p2 (fun z=>hx (r1.dJ.mp z)) (fun z=>⟨.ref a,H,I,rfl,q1 (r2.dJ.mp z)⟩) (fun z=>?_) (by rw[<- r1.length,<- r2.length];exact hz);refine⟨.ref s.heap.objs.size,_,I.laid (t':=s.toks) (o:=.tup (xs++ys)) (fun b ob q=>Heap.get?_push_of_some _ q) (Nat.le_refl _) ?_,rfl,q2 (fun w=>z (r2.dJ.mpr w)) _ (I.hok.fresh (Nat.le_refl _))⟩;exact⟨by rw[List.length_append];exact hz,_,r1.append r2,IsTup.new _ _⟩
end
end L2
namespace L2
open PySem PySem.Spec PyProof.Rows
noncomputable def Pd (n:Nat)(i:Int):Option Nat:=if 0<=i then (if i < n then some i.toNat else none) else if -(n:Int)<=i then some (i+n).toNat else none
noncomputable def oO {α:Type}(xs:List α)(i:Int):Option α:=(Pd xs.length i).bind fun j=>xs[j]?
theorem Jb {n:Nat}{i:Int}{j:Nat}(h:Pd n i=some j):seqIndex? i n=some j/\j < n/\-(n:Int)<=i/\i < n:=by
 unfold Pd at h;by_cases h0:0<=i
 ·rw[if_pos h0] at h;by_cases h1:i < n
  ·rw[if_pos h1] at h;have e:i.toNat=j:=Option.some.inj h;exact⟨by rw[seqIndex_of h0 h1,e],by omega,by omega,h1⟩
  ·rw[if_neg h1] at h;cases h
 ·rw[if_neg h0] at h;by_cases h1:-(n:Int)<=i
  ·rw[if_pos h1] at h;have e:(i+n).toNat=j:=Option.some.inj h;exact⟨by rw[seqIndex_neg (by omega) h1,e],by omega,h1,by omega⟩
  ·rw[if_neg h1] at h;cases h
theorem CS {α:Type}{xs:List α}{i:Int}{v:α}(h:oO xs i=some v):∃ j,seqIndex? i xs.length=some j/\xs[j]?=some v/\j < xs.length/\-(xs.length:Int)<=i/\i < xs.length:=by
 unfold oO at h;cases e:Pd xs.length i with
 | none=>rw[e] at h;cases h
 | some j =>
  rw[e] at h;obtain⟨h1,h2,h3,h4⟩:=Jb e;exact⟨j,h1,h,h2,h3,h4⟩
theorem aB {α:Type}{xs:List α}{j:Nat}{v:α}(h:xs[j]?=some v):oO xs (j:Int)=some v:=by
 have hj:j < xs.length:=(List.getElem?_eq_some_iff.mp h).1;have e:Pd xs.length (j:Int)=some j:=by
  unfold Pd;rw[if_pos (by omega),if_pos (by omega)];simp
 unfold oO;rw[e];exact h
noncomputable def JN (b:Expr):Prop:=∀ o i,subscripted b false o i=operate [o,i] (getItem o i)
noncomputable def Pk (X:Cx)(r:R2):Prop :=
 ∀ (value slice:Expr) (pins:List (Addr×Obj)) (s:Shared) (σ:St) (H:Hp) (x y:V) (v u:Value) (Q:VK),Inv X pins σ H s->RelV x v->RelV y u->r x y H Q ->
  subscripted slice false v u=operate [v,u] (getItem v u)->wpAny (model X.prog X.w) X.A (subscriptTail value slice v u) (EP X pins σ Q) X.xe s
noncomputable def qO (X:Cx)(id:String)(r:V->List V->Hp->VK->Prop):Prop :=
 ∀ (pins:List (Addr×Obj)) (s:Shared) (σ:St) (H:Hp) (x:V) (xs:List V) (v:Value) (us:List Value) (Q:VK),Inv X pins σ H s->RelV x v->Vals xs us->r x xs H Q ->
  wpAny (model X.prog X.w) X.A (call (.builtin id) (v::us)) (EP X pins σ Q) X.xe s
section
variable {X:Cx}{a b:Expr}{ta tb:TE}{pos:Pos}
theorem Pk.or {r r':R2}(h:Pk X r)(h':Pk X r'):Pk X (fun x y H Q=>r x y H Q∨r' x y H Q):=by
 intro value slice pins s σ H x y v u Q I rx ry q hs;rcases q with q | q
 ·exact h value slice pins s σ H x y v u Q I rx ry q hs
 ·exact h' value slice pins s σ H x y v u Q I rx ry q hs
theorem qO.or {id:String}{r r':V->List V->Hp->VK->Prop}(h:qO X id r)(h':qO X id r'):qO X id (fun x xs H Q=>r x xs H Q∨r' x xs H Q):=by
 intro pins s σ H x xs v us Q I rx rs q;rcases q with q | q
 ·exact h pins s σ H x xs v us Q I rx rs q
 ·exact h' pins s σ H x xs v us Q I rx rs q
theorem ZS {r:R2}(hr:Pk X r)(ha:PE X a ta)(hb:PE X b tb)(hs:JN b):PE X (.Subscript a b pos) (YI r ta tb):=by
 intro pins s σ H Q I h;exact Subscript_ (XE ha hb I h fun v u s2 x y H2 I2 rx ry q=>hr a b pins s2 σ H2 x y v u Q I2 rx ry q (hs _ _))
noncomputable def ZA (K:PySem.W.Frag):R2:=fun x y H Q=>∃ p xs i v,x=.ref p/\y=.int i/\mD K H p xs/\oO xs i=some v/\Q v H
noncomputable def Zy (K:PySem.W.Frag):R2:=fun x y H Q=>∃ p xs i v,x=.ref p/\y=.int i/\mC K H p xs/\oO xs i=some v/\Q v H
noncomputable def Zz:R2:=fun x y H Q=>∃ z i c,x=.str z/\y=.int i/\z.length<=sizeLine/\oO z.cps.toList i=some c/\Q (.str ⟨#[c]⟩) H
theorem R6:Pk X (ZA X.K):=by
 intro value slice pins s σ H x y v u Q I rx ry h hs;obtain⟨p,xs,i,z,rfl,rfl,hq,he,q⟩:=h;cases rx;obtain⟨t,rfl⟩:=ry;obtain⟨its,r,pl,hz⟩:=I.list hq;obtain⟨j,h1,h2,h3,h4,h5⟩:=CS he;obtain⟨w,ew,rw'⟩:=r.get h2;have hl:=r.length;have hn:=nc;have fin:EP X pins σ Q w s:=⟨z,H,I,rw',q⟩
 by_cases h0:0<=i
 ·have hj:i.toNat=j:=by
   rw[seqIndex_of h0 h5] at h1;exact Option.some.inj h1
  exact item_listR pl.isList h0 (by omega) (by rw[hj];simpa using ew) fin hs
 ·have hj:(i+(its.toArray.size:Int)).toNat=j:=by
   rw[seqIndex_neg (by omega) h4] at h1;rw[List.size_toArray,<- hl];exact Option.some.inj h1
  exact subscriptTail_builtinR (x:=w) pl.isList.typeIs slot_list_getitem.lookup
   (wpAny_getItem_list_neg (Q:=fun r s'=>r=w/\EP X pins σ Q r s') pl.isList (by omega) (by rw[List.size_toArray] <;> omega) (by omega) (by rw[hj];simpa using ew) ⟨rfl,fin⟩) hs
theorem WU:Pk X (Zy X.K):=by
 intro value slice pins s σ H x y v u Q I rx ry h hs;obtain⟨p,xs,i,z,rfl,rfl,hq,he,q⟩:=h;cases rx;obtain⟨t,rfl⟩:=ry;obtain⟨its,r,pl,hz⟩:=I.tuple hq;obtain⟨j,h1,h2,h3,h4,h5⟩:=CS he;obtain⟨w,ew,rw'⟩:=r.get h2;have hl:=r.length;have hn:=nc;have fin:EP X pins σ Q w s:=⟨z,H,I,rw',q⟩
 exact subscriptTail_builtinR (x:=w) pl.typeIs slot_tuple_getitem.lookup
  (getItem_tuple (j:=j) (Q:=fun r s'=>r=w/\EP X pins σ Q r s') pl (by omega) (by omega) (by rw[List.size_toArray,<- hl];exact h1) (by simpa using ew) ⟨rfl,fin⟩) hs
theorem WV:Pk X Zz:=by
 intro value slice pins s σ H x y v u Q I rx ry h hs;obtain⟨z,i,c,rfl,rfl,hz,he,q⟩:=h;obtain⟨t,rfl⟩:=rx;obtain⟨t',rfl⟩:=ry;obtain⟨j,h1,h2,h3,h4,h5⟩:=CS he;have hl:z.cps.toList.length=z.length:=by simp[Str.length]
 rw[hl] at h1 h4 h5;have hn:=nc;exact tail_any (typeIs_str s z t) slot_str_getitem.lookup (getItem_str (c:=c) (by
  have e1:decide (i < -(2 ^ 63:Int))=false:=decide_eq_false (by omega);have e2:decide (i ≥ 2 ^ 63)=false:=decide_eq_false (by omega);rw[e1,e2,Bool.or_false]) (by rw[h1];simpa using h2) ⟨.str ⟨#[c]⟩,H,I.tok _,⟨_,rfl⟩,q⟩) hs
noncomputable def rIx (K:PySem.W.Frag):R2:=fun x y H Q=>ZA K x y H Q∨Zy K x y H Q∨Zz x y H Q
theorem WW:Pk X (rIx X.K):=R6.or (WU.or WV)
theorem Gu (its:List Value)(n j:Nat)(u:Value):Obj.mapSeq (·.setIfInBounds j u) { cls:=.type "list",data:=.seq its.toArray n }={ cls:=.type "list",data:=.seq (its.set j u).toArray n }:=by
 simp[Obj.mapSeq]
theorem Inv.lst {pins:List (Addr×Obj)}{σ:St}{H:Hp}{s:Shared}{p:Addr}{xs:List V}(I:Inv X pins σ H s)(h:H p=some (.lst xs)) :
  ∃ (its:List Value) (n:Nat),Vals xs its/\s.heap.get? p=some { cls:=.type "list",data:=.seq its.toArray n }/\xs.length<=sizeLine:=by
 obtain⟨z,its,n,r,e⟩:=I.hok p _ h;exact⟨its,n,r,e,z⟩
theorem Inv.WC {pins:List (Addr×Obj)}{σ:St}{H:Hp}{s:Shared}{p:Addr}{xs ys:List V}{its its':List Value}{n n':Nat}{f:Obj->Obj}(I:Inv X pins σ H s)(h:H p=some (.lst xs))
  (ho:s.heap.get? p=some { cls:=.type "list",data:=.seq its.toArray n }) (hf:f { cls:=.type "list",data:=.seq its.toArray n }={ cls:=.type "list",data:=.seq its'.toArray n' }) (r:Vals ys its') (hz:ys.length<=sizeLine) (t:Nat) :
  Inv X pins σ (upd H p (.lst ys)) { s with heap:=s.heap.update p f,toks:=t }:=by
 have e:(s.heap.update p f).get? p=some { cls:=.type "list",data:=.seq its'.toArray n' }:=by
  rw[Heap.get?_update_self f ho (by rw[hf] <;> rfl),hf]
 refine I.write (x:=p) (e:=p) (by rw[h];trivial) (.inl rfl) (fun b u hb q=>(Heap.get?_update_other _ _ (Ne.symm hb)).trans q) ⟨_,e⟩ ?_;exact⟨hz,its',n',r,e⟩
noncomputable def Zw:V->V->V->Hp->(Hp->Prop)->Prop:=fun o i v H Q=>∃ p xs k j,o=.ref p/\i=.int k/\H p=some (.lst xs)/\Pd xs.length k=some j/\Q (upd H p (.lst (xs.set j v)))
theorem set_list:XM X Zw:=by
 intro pins s σ H o i v ov iv u Q I ro ri rv h;obtain⟨p,xs,k,j,rfl,rfl,hp,hj,q⟩:=h;cases ro;obtain⟨t,rfl⟩:=ri;obtain⟨its,n,r,ho,hz⟩:=I.lst hp;obtain⟨h1,h2,h3,h4⟩:=Jb hj;have hl:=r.length;have hn:=nc;have I':Inv X pins σ (upd H p (.lst (xs.set j v))) { s with heap:=s.heap.update p (Obj.mapSeq (·.setIfInBounds j u)) } :=
  I.WC hp ho (Gu its n j u) (r.set rv j) (by rw[List.length_set];exact hz) s.toks
 by_cases h0:0<=k
 ·have hk:k.toNat=j:=by
   rw[seqIndex_of h0 h4] at h1;exact Option.some.inj h1
  exact PySem.W.ki_setAt ho h0 (by omega) (by rw[List.size_toArray,<- hl];exact h4) (by rw[hk];exact⟨_,I',q⟩)
 ·have hk:(k+(its.toArray.size:Int)).toNat=j:=by
   rw[seqIndex_neg (by omega) h3] at h1;rw[List.size_toArray,<- hl];exact Option.some.inj h1
  exact PySem.W.ki_setBack ho (by omega) (by rw[List.size_toArray,<- hl];exact h3) (by omega) (by rw[hk];exact⟨_,I',q⟩)
theorem Bd (lo hi:Option Int)(n:Nat):(sliceBounds lo hi none n).1=((HT.fK n 0 lo:Nat):Int)/\(sliceBounds lo hi none n).2.1=((HT.fK n n hi:Nat):Int)/\(sliceBounds lo hi none n).2.2=1:=by
 refine⟨?_,?_,rfl⟩
 ·cases lo with
  | none=>simp[sliceBounds,HT.fK]
  | some i =>
   simp only[sliceBounds,HT.fK,Option.getD_none,show(1:Int) > 0 by decide,if_true];by_cases h:i < 0
   ·simp only[h,if_true] <;> omega
   ·simp only[h,if_false] <;> omega
 ·cases hi with
  | none=>simp[sliceBounds,HT.fK]
  | some i =>
   simp only[sliceBounds,HT.fK,Option.getD_none,show(1:Int) > 0 by decide,if_true];by_cases h:i < 0
   ·simp only[h,if_true] <;> omega
   ·simp only[h,if_false] <;> omega
theorem zD (its:List Value)(lo hi:Option Int):slicePick its.toArray lo hi none=((its.drop (HT.fK its.length 0 lo)).take (HT.fK its.length its.length hi - HT.fK its.length 0 lo)).toArray:=by
 obtain⟨h1,h2,h3⟩:=Bd lo hi its.toArray.size;unfold slicePick;rw[h1,h2,h3];simp only[sliceRange_one,pick_run,List.size_toArray] <;> rfl
noncomputable def a3d (K:PySem.W.Frag):V->Option Int->Option Int->Hp->VK->Prop:=fun x lo hi H Q=>∃ a xs,x=.ref a/\mD K H a xs/\∀ p,H p=none->Q (.ref p) (upd H p (.lst (EK xs lo hi)))
theorem PM:SM X (a3d X.K):=by
 intro pins s σ H x v vl vu lo hi sl Q I rx hs pl pu h;obtain⟨a,xs,rfl,hx,q⟩:=h;cases rx;obtain⟨its,r,ht,hz⟩:=I.list hx;have hlen:=r.length;refine⟨"list",_,slot_list_getitem.lookup,ht.isList.typeIs,?_⟩;refine wpAny_getItem_list_slice ht.isList hs pl pu .none (by simp) ?_ (by rw[List.size_toArray] <;> omega);rw[zD,<- hlen];refine⟨.ref s.heap.objs.size,_,I.laid (t':=s.toks) (o:=.lst (EK xs lo hi)) (fun b ob q=>Heap.get?_push_of_some _ q) (Nat.le_refl _) ?_,rfl,q _ (I.hok.fresh (Nat.le_refl _))⟩;exact⟨Nat.le_trans (vo xs lo hi) hz,_,0,(r.drop (HT.fK xs.length 0 lo)).take (HT.fK xs.length xs.length hi - HT.fK xs.length 0 lo),Heap.get?_push_size _ rfl⟩
noncomputable def eT:V->Bool
 | .dO=>true
 | .bl _=>true
 | .int _=>true
 | .str _=>true
 | _=>false
noncomputable def Ez:V->V->Bool
 | .dO,.dO=>true
 | .bl a,.bl b=>a == b
 | .bl a,.int b=>(if a then 1 else 0) == b
 | .int a,.bl b=>a == (if b then 1 else 0)
 | .int a,.int b=>a == b
 | .str a,.str b=>a == b
 | _,_=>false
theorem Oi {A:Around}{s:Shared}{y x:V}{u v:Value}(ry:RelV y u)(rx:RelV x v)(fy:eT y=true)(fx:eT x=true):SeqAt.EqAt A s u v (Ez y x):=by
 cases y with
 | dO =>
  cases ry;cases x with
  | dO=>cases rx;exact SeqAt.EqAt.same _
  | bl b=>cases rx;exact SeqAt.EqAt.none_bool b
  | int b=>obtain⟨t,rfl⟩:=rx;exact SeqAt.EqAt.none_int b t
  | str b=>obtain⟨t,rfl⟩:=rx;exact SeqAt.EqAt.none_str b t
  | _=>exact absurd (show false=true from fx) Bool.false_ne_true
 | bl a =>
  cases ry;cases x with
  | dO=>cases rx;exact SeqAt.EqAt.bool_none a
  | bl b=>cases rx;exact SeqAt.EqAt.bool_bool a b
  | int b=>obtain⟨t,rfl⟩:=rx;exact SeqAt.EqAt.bool_int a b t
  | str b=>obtain⟨t,rfl⟩:=rx;exact SeqAt.EqAt.bool_str a b t
  | _=>exact absurd (show false=true from fx) Bool.false_ne_true
 | int a =>
  obtain⟨t',rfl⟩:=ry;cases x with
  | dO=>cases rx;exact SeqAt.EqAt.int_none a t'
  | bl b=>cases rx;exact SeqAt.EqAt.int_bool a t' b
  | int b=>obtain⟨t,rfl⟩:=rx;exact SeqAt.EqAt.int_int a t' b t
  | str b=>obtain⟨t,rfl⟩:=rx;exact SeqAt.EqAt.int_str a t' b t
  | _=>exact absurd (show false=true from fx) Bool.false_ne_true
 | str a =>
  obtain⟨t',rfl⟩:=ry;cases x with
  | dO=>cases rx;exact SeqAt.EqAt.str_none a t'
  | bl b=>cases rx;exact SeqAt.EqAt.str_bool a t' b
  | int b=>obtain⟨t,rfl⟩:=rx;exact SeqAt.EqAt.str_int a t' b t
  | str b=>obtain⟨t,rfl⟩:=rx;exact SeqAt.EqAt.str_str a t' b t
  | _=>exact absurd (show false=true from fx) Bool.false_ne_true
 | _=>exact absurd (show false=true from fy) Bool.false_ne_true
noncomputable def EA (x:V)(u:Value):Bool:=match u with
 | .none=>Ez .dO x
 | .bool b=>Ez (.bl b) x
 | .int i _=>Ez (.int i) x
 | .str z _=>Ez (.str z) x
 | _=>false
theorem GV {x y:V}{u:Value}(r:RelV y u)(f:eT y=true):EA x u=Ez y x:=by
 cases y with
 | dO=>cases r;rfl
 | bl b=>cases r;rfl
 | int i=>obtain⟨t,rfl⟩:=r;rfl
 | str z=>obtain⟨t,rfl⟩:=r;rfl
 | _=>exact absurd (show false=true from f) Bool.false_ne_true
theorem tK {x:V}:∀ {xs:List V} {us:List Value},Vals xs us->xs.all eT=true->us.any (EA x)=xs.any fun y=>Ez y x
 | _,_,.nil,_=>rfl
 | y::xs,u::us,.cons r t,f=>by
  rw[List.all_cons,Bool.and_eq_true] at f;rw[List.any_cons,List.any_cons,GV r f.1,tK t f.2]
theorem kD {A:Around}{s:Shared}{x:V}{v:Value}(rx:RelV x v)(fx:eT x=true):∀ {xs:List V} {us:List Value},Vals xs us->xs.all eT=true->∀ u∈us,SeqAt.EqAt A s u v (EA x u)
 | _,_,.nil,_=>fun u hu=>by cases hu
 | y::xs,u::us,.cons r t,f=>fun u' hu=>by
  rw[List.all_cons,Bool.and_eq_true] at f;rcases List.mem_cons.mp hu with rfl | hu
  ·rw[GV r f.1];exact Oi r rx f.1 fx
  ·exact kD rx fx t f.2 u' hu
noncomputable def K2 (x:V)(xs:List V):Bool:=xs.any fun y=>Ez y x
noncomputable def rIn (K:PySem.W.Frag)(neg:Bool):R2:=fun x y H Q=>∃ p xs,y=.ref p/\(mD K H p xs∨mC K H p xs)/\eT x=true/\xs.all eT=true/\Q (.bl (if neg then !K2 x xs else K2 x xs)) H
theorem Aq:jX X (compareOp .In) (rIn X.K false):=by
 intro pins s σ H x y v u Q I rx ry h;obtain⟨p,xs,rfl,hq,fx,fs,q⟩:=h;cases ry;rcases hq with hq | hq
 ·obtain⟨its,r,pl,hz⟩:=I.list hq;refine SeqAt.in_listAt (EA x) pl.isList (fun w hw=>kD rx fx r fs w (by simpa using hw)) ⟨.bl _,H,I,rfl,?_⟩;rw[show its.toArray.any (EA x)=its.any (EA x) by simp,tK r fs];exact q
 ·obtain⟨its,r,pl,hz⟩:=I.tuple hq;refine SeqAt.in_tupleAt (EA x) pl (fun w hw=>kD rx fx r fs w (by simpa using hw)) ⟨.bl _,H,I,rfl,?_⟩;rw[show its.toArray.any (EA x)=its.any (EA x) by simp,tK r fs];exact q
theorem sj:jX X (compareOp .NotIn) (rIn X.K true):=by
 intro pins s σ H x y v u Q I rx ry h;obtain⟨p,xs,rfl,hq,fx,fs,q⟩:=h;cases ry;rcases hq with hq | hq
 ·obtain⟨its,r,pl,hz⟩:=I.list hq;refine SeqAt.notIn_listAt (EA x) pl.isList (fun w hw=>kD rx fx r fs w (by simpa using hw)) ⟨.bl _,H,I,rfl,?_⟩;rw[show its.toArray.any (EA x)=its.any (EA x) by simp,tK r fs];exact q
 ·obtain⟨its,r,pl,hz⟩:=I.tuple hq;refine SeqAt.notIn_tupleAt (EA x) pl (fun w hw=>kD rx fx r fs w (by simpa using hw)) ⟨.bl _,H,I,rfl,?_⟩;rw[show its.toArray.any (EA x)=its.any (EA x) by simp,tK r fs];exact q
theorem CO:eW X (.builtin "len") (fun xs H Q=>∃ p ys,xs=[.ref p]/\(mD X.K H p ys∨mC X.K H p ys)/\Q (.int ys.length) H):=by
 intro pins s σ H xs us Q I r h;obtain⟨p,ys,rfl,hq,q⟩:=h;obtain⟨u,rfl,rx⟩:=vals1 r;cases rx;have hn:=nc;rcases hq with hq | hq
 ·obtain⟨its,r',pl,hz⟩:=I.list hq;have hlen:=r'.length;exact Calls.call_len_list pl.isList (by simp only[List.size_toArray] <;> omega) ⟨.int ys.length,H,I.tok _,⟨s.toks+1,by rw[List.size_toArray,hlen]⟩,q⟩
 ·obtain⟨its,r',pl,hz⟩:=I.tuple hq;have hlen:=r'.length;exact len_tuple pl (by simp only[List.size_toArray] <;> omega) ⟨.int ys.length,H,I.tok _,⟨s.toks+1,by rw[List.size_toArray,hlen]⟩,q⟩
theorem CN:eW X (.builtin "len") (fun xs H Q=>∃ z,xs=[.str z]/\z.length<=sizeLine/\Q (.int z.length) H):=by
 intro pins s σ H xs us Q I r h;obtain⟨z,rfl,hz,q⟩:=h;obtain⟨u,rfl,t,rfl⟩:=vals1 r;have hn:=nc;exact len_str (by omega) ⟨.int z.length,H,I.tok _,⟨_,rfl⟩,q⟩
theorem eW.or {f:Value}{r r':List V->Hp->VK->Prop}(h:eW X f r)(h':eW X f r'):eW X f (fun xs H Q=>r xs H Q∨r' xs H Q):=by
 intro pins s σ H xs us Q I rs q;rcases q with q | q
 ·exact h pins s σ H xs us Q I rs q
 ·exact h' pins s σ H xs us Q I rs q
theorem zV:eW X (.type "tuple") (fun xs H Q=>∃ p ys,xs=[.ref p]/\((mD X.K H p ys/\∀ l,H l=none->Q (.ref l) (upd H l (.tup ys)))∨(mC X.K H p ys/\Q (.ref p) H))):=by
 intro pins s σ H xs us Q I r h;obtain⟨p,ys,rfl,h⟩:=h;obtain⟨u,rfl,rx⟩:=vals1 r;cases rx;rcases h with ⟨hq,q⟩ | ⟨hq,q⟩
 ·obtain⟨its,r',pl,hz⟩:=I.list hq;have hlen:=r'.length;refine call_tuple_list pl.isList (fun h' kp=>?_) (by simp only[List.size_toArray] <;> omega);have I1:Inv X pins σ H { s with heap:=h' }:=I.kept (t':=s.toks) kp;have I2:Inv X pins σ (upd H h'.objs.size (.tup ys)) { s with heap:=h'.push { cls:=.type "tuple",data:=.seq its.toArray } } :=
   I1.laid (t':=s.toks) (fun b o e=>Heap.get?_push_of_some _ e) (Nat.le_refl _) (show cY X.prog X.w _ _ _ (.tup ys) from⟨hz,its,r',IsTup.new _ _⟩)
  exact⟨.ref h'.objs.size,_,I2,rfl,q _ (I1.hok.fresh (Nat.le_refl _))⟩
 ·obtain⟨its,r',pl,hz⟩:=I.tuple hq;exact call_tuple_same pl ⟨.ref p,H,I,rfl,q⟩
noncomputable def tyV (K:PySem.W.Frag)(T:String)(x:V)(H:Hp):Prop:=match x with
 | .str _=>T="str"
 | .int _=>T="int"
 | .ref p=>(T="list"/\∃ xs,mD K H p xs)∨(T="tuple"/\∃ o,K.lookup p=some o/\o.cls=.type "tuple"/\o.dict=none) ∨
   (T="dict"/\((∃ kvs,H p=some (.dK kvs))∨∃ kvs,H p=some (.dT kvs)))∨(T="set"/\∃ S n,H p=some (.set S n))
 | _=>False
theorem LK {pins:List (Addr×Obj)}{σ:St}{H:Hp}{s:Shared}{T:String}{x:V}{v:Value}(I:Inv X pins σ H s)(r:RelV x v)(ty:tyV X.K T x H) :
  s.TypeIs v T/\∀ a,v=.ref a->∃ ob,s.heap.get? a=some ob/\ob.dict=none:=by
 cases x with
 | str z =>
  obtain⟨t,rfl⟩:=r;cases (show T="str" from ty);exact⟨typeIs_str s z t,fun _ e=>nomatch e⟩
 | int i =>
  obtain⟨t,rfl⟩:=r;cases (show T="int" from ty);exact⟨typeIs_int s i t,fun _ e=>nomatch e⟩
 | ref p =>
  cases r;rcases ty with ⟨rfl,xs,hq⟩ | ⟨rfl,o,hk,hc,hd⟩ | ⟨rfl,hk⟩ | ⟨rfl,S,n,hk⟩
  ·obtain⟨its,_,pl,_⟩:=I.list hq;refine⟨pl.isList.typeIs,fun a e=>?_⟩;cases e;obtain⟨o,n,e,c,hd,_⟩:=pl;exact⟨o,e,hd⟩
  ·refine⟨⟨o,I.sH p o hk,hc⟩,fun a e=>?_⟩;cases e;exact⟨o,I.sH _ o hk,hd⟩
  ·have z:∃ o,s.heap.get? p=some o/\o.ExactDict:=by
    rcases hk with ⟨kvs,hk⟩ | ⟨kvs,hk⟩
    ·obtain⟨_,_,_,_,o,_,_,e,ex,_⟩:=I.hok p _ hk;exact⟨o,e,ex⟩
    ·obtain⟨_,_,_,_,o,_,_,e,ex,_⟩:=I.hok p _ hk;exact⟨o,e,ex⟩
   obtain⟨o,e,ex⟩:=z;refine⟨⟨o,e,ex.1⟩,fun a e2=>?_⟩;cases e2;exact⟨o,e,ex.2.1⟩
  ·obtain⟨o,_,_,_,e,ex,_⟩:=I.hok p _ hk;refine⟨⟨o,e,ex.1⟩,fun a e2=>?_⟩;cases e2;exact⟨o,e,ex.2.1⟩
 | _=>exact False.elim ty
noncomputable def Y0 (K:PySem.W.Frag)(T:String)(r:V->List V->Hp->VK->Prop)(to:TE):TE:=fun σ H Q=>to σ H fun x H1=>tyV K T x H1/\r x [] H1 Q
noncomputable def tBM (K:PySem.W.Frag)(T:String)(r:V->List V->Hp->VK->Prop)(to:TE)(t:TA):TE:=fun σ H Q=>to σ H fun x H1=>tyV K T x H1/\t σ H1 fun xs H2=>r x xs H2 Q
variable {o e:Expr}{es:List Expr}{to:TE}{t:TA}{name:Str}{apos cpos:Pos}{T id:String}{r:V->List V->Hp->VK->Prop}
theorem V5 (pa:PlainAttrs T)(slot:Slot T name id)(hty:typeOf (.builtin id)=pure (.type "method_descriptor"))(hm:qO X id r)(ho:PE X o to)
  (hbase:attributeBase o name X.env (eval o X.env)=eval o X.env:=by rfl) (hline:(apos.endLine == cpos.line)=true:=by rfl):PE X (.Call (.Attribute o name apos) [] [] cpos) (Y0 X.K T r to):=by
 intro pins s σ H Q I h;refine wpAny_Call_method0_late hbase hline (cH (ho pins s σ H _ I h) ?_);rintro v s1 ⟨x,H1,I1,r1,ty,q1⟩;obtain⟨h1,h2⟩:=LK I1 r1 ty;exact⟨T,id,pa,slot,hty,h1,h2,Calls.callWith_builtin rfl (PySem.evalArgs_none (hm pins s1 σ H1 x [] v [] Q I1 r1 .nil q1))⟩
theorem ZT (pa:PlainAttrs T)(slot:Slot T name id)(hty:typeOf (.builtin id)=pure (.type "method_descriptor"))(hm:qO X id r)(ho:PE X o to)(ha:PA X (e::es) t)
  (hbase:attributeBase o name X.env (eval o X.env)=eval o X.env:=by rfl)
  (hfew:((backTo cpos (starEach (e::es) X.env)).all (fun x=>!x.1) && (backToKw cpos (keywordEach [] X.env)).all (fun x=>x.1.isSome)
   && decide ((e::es).length+([]:List Keyword).length+(if ([]:List Keyword).isEmpty then 0 else 1) < 30))=true:=by rfl)
  (hline:(apos.endLine == cpos.line)=true:=by rfl) (hs:starEach (e::es) X.env=(false,eval e X.env)::starEach es X.env:=by rfl) (hplain:(backTo cpos (starEach es X.env)).any (·.1)=false:=by rfl) :
  PE X (.Call (.Attribute o name apos) (e::es) [] cpos) (tBM X.K T r to t):=by
 intro pins s σ H Q I h;refine wpAny_Call_method_late hbase hfew hline rfl (cH (ho pins s σ H _ I h) ?_);rintro v s1 ⟨x,H1,I1,r1,ty,q1⟩;obtain⟨h1,h2⟩:=LK I1 r1 ty;refine⟨T,id,pa,slot,hty,h1,h2,?_⟩;have hA:=ha cpos pins s1 σ H1 _ I1 q1;rw[hs] at hA ⊢;refine Calls.callWith_builtin (by show(false || (backTo cpos (starEach es X.env)).any (·.1))=false;rw[hplain] <;> rfl) (Calls.evalArgs_plain ?_);exact cH hA (by rintro us s2 ⟨vs,H2,I2,r2,q2⟩;exact hm pins s2 σ H2 x vs v us Q I2 r1 r2 q2)
end
end L2
namespace L2
open PySem PySem.Spec PyProof.Rows
noncomputable def MtM (X:Cx)(id:String)(r:V->List V->Hp->VK->Prop):Prop :=
 ∀ (pins:List (Addr×Obj)) (s:Shared) (σ:St) (H:Hp) (x:V) (xs:List V) (v:Value) (us:List Value) (Q:VK),Inv X pins σ H s->RelV x v->Vals xs us->r x xs H Q ->
  wpAny (model X.prog X.w) X.A (call (.builtin id) (v::us)) (EP X pins σ Q) X.xe s
theorem Vals.one:∀ {x:V} {us:List Value},Vals [x] us->∃ u,us=[u]/\RelV x u:=by
 intro x us h;cases h with
 | cons r t=>cases t;exact⟨_,rfl,r⟩
theorem Vals.two:∀ {x y:V} {us:List Value},Vals [x,y] us->∃ u v,us=[u,v]/\RelV x u/\RelV y v:=by
 intro x y us h;cases h with
 | cons r t=>
  cases t with
  | cons q t=>cases t;exact⟨_,_,rfl,r,q⟩
theorem Vals.zero:∀ {us:List Value},Vals [] us->us=[]
 | _,.nil=>rfl
theorem Vals.dropLast {xs:List V}{us:List Value}(h:Vals xs us):Vals xs.dropLast us.dropLast:=by
 induction h with
 | nil=>exact .nil
 | cons r t ih =>
  cases t with
  | nil=>exact .nil
  | cons q t'=>exact .cons r ih
theorem Vals.rep {xs:List V}{us:List Value}(h:Vals xs us):∀ k:Nat,Vals (List.replicate k xs).flatten (List.replicate k us).flatten
 | 0=>.nil
 | k+1=>by
  rw[List.replicate_succ,List.replicate_succ,List.flatten_cons,List.flatten_cons];exact Vals.append h (Vals.rep h k)
theorem GU {α:Type}(l:List α):l.eraseIdx (l.length - 1)=l.dropLast:=by
 induction l with
 | nil=>rfl
 | cons a r ih =>
  cases r with
  | nil=>rfl
  | cons b r =>
   have e:(a::b::r).length - 1=((b::r).length - 1)+1:=by
    have h1:(a::b::r).length=r.length+2:=rfl;have h2:(b::r).length=r.length+1:=rfl;omega
   rw[e,List.eraseIdx_cons_succ,ih]
   all_goals rfl
theorem foldl_rep (its:List Value):∀ (k:Nat) (acc:List Value),
  List.foldl (fun x1 x2=>x1++x2) acc.toArray (List.replicate k its.toArray)=(acc++(List.replicate k its).flatten).toArray
 | 0,acc=>by simp
 | k+1,acc=>by
  have e:acc.toArray++its.toArray=(acc++its).toArray:=by simp
  have e2:(acc++its)++(List.replicate k its).flatten=acc++(List.replicate (k+1) its).flatten:=by
   rw[List.replicate_succ,List.flatten_cons,List.append_assoc]
  rw[<- e2,<- foldl_rep its k (acc++its),<- e,List.replicate_succ,List.foldl_cons]
section
variable {X:Cx}{pins:List (Addr×Obj)}{σ:St}{H:Hp}{s:Shared}{l b:Addr}{xs ys zs:List V}
theorem Inv.NI {its its':List Value}{n:Nat}{f:Array Value->Array Value}{t':Nat}(I:Inv X pins σ H s)(hH:H l=some (.lst xs))
  (e:s.heap.get? l=some { cls:=.type "list",data:=.seq its.toArray n }) (hf:f its.toArray=its'.toArray) (hv:Vals ys its') (hz:ys.length<=sizeLine) :
  Inv X pins σ (upd H l (.lst ys)) { s with heap:=s.heap.update l (Obj.mapSeq f),toks:=t' }:=by
 have q:=PySem.IsL.update e f;rw[hf] at q;refine I.write (x:=l) (e:=l) (by rw[hH];exact trivial) (.inl rfl) (fun b' u hb hu=>(Heap.get?_update_other s.heap (Obj.mapSeq f) (Ne.symm hb)).trans hu) ⟨_,q⟩ ?_;exact⟨hz,its',_,hv,q⟩
theorem Inv.WE {its:List Value}{t':Nat}(I:Inv X pins σ H s)(hv:Vals ys its)(hz:ys.length<=sizeLine) :
  Inv X pins σ (upd H s.heap.objs.size (.lst ys)) { s with heap:=s.heap.push { cls:=.type "list",data:=.seq its.toArray },toks:=t' } :=
 I.laid (fun _ _ q=>Heap.get?_push_of_some _ q) (Nat.le_refl _) ⟨hz,its,0,hv,Heap.get?_push_size _ rfl⟩
theorem Inv.fresh (I:Inv X pins σ H s):H s.heap.objs.size=none:=I.hok.fresh (Nat.le_refl _)
theorem Inv.zP (I:Inv X pins σ H s)(hH:H l=some (.lst xs)):xs.length<=sizeLine/\∃ (its:List Value) (n:Nat),Vals xs its/\xs.length=its.length/\s.heap.get? l=some { cls:=.type "list",data:=.seq its.toArray n }:=by
 obtain⟨z,its,n,r,e⟩:=I.hok l _ hH;exact⟨z,its,n,r,r.length,e⟩
theorem x9 {n:Nat}(h:n<=sizeLine):Builtin.List.listTooLong n=false:=by
 unfold Builtin.List.listTooLong;exact decide_eq_false (by omega)
end
section
variable {X:Cx}
noncomputable def Qo:V->List V->Hp->VK->Prop:=fun x vs H Q=>∃ l xs y,x=.ref l/\vs=[y]/\H l=some (.lst xs)/\xs.length < sizeLine/\Q .dO (upd H l (.lst (xs++[y])))
theorem Kq:MtM X "list.append" Qo:=by
 intro pins s σ H x vs v us Q I rx rv h;obtain⟨l,xs,y,rfl,rfl,hH,hz,q⟩:=h;cases rx;obtain⟨u,rfl,ru⟩:=rv.one;obtain⟨z,its,n,r,hl,e⟩:=I.zP hH;refine call_meets F.slot_list_append ⟨_,e,rfl⟩ F.entry_list_append (F.args_list_append_2 _ _) (PySem.list_append l its.toArray n u (by rw[List.size_toArray];omega)) ⟨e,?_⟩;refine⟨.dO,_,I.NI (its':=its++[u]) hH e (by simp) (r.append (.cons ru .nil)) ?_,rfl,q⟩;rw[List.length_append,List.length_singleton];omega
noncomputable def Qm:V->List V->Hp->VK->Prop:=fun x vs H Q=>∃ l b xs zs,x=.ref l/\vs=[.ref b]/\H l=some (.lst xs)/\H b=some (.lst zs)/\xs.length+zs.length<=sizeLine/\Q .dO (upd H l (.lst (xs++zs)))
theorem Kp:MtM X "list.extend" Qm:=by
 intro pins s σ H x vs v us Q I rx rv h;obtain⟨l,b,xs,zs,rfl,rfl,hH,hB,hz,q⟩:=h;cases rx;obtain⟨u,rfl,ru⟩:=rv.one;cases ru;obtain⟨z,its,n,r,hl,e⟩:=I.zP hH;obtain⟨z2,its2,n2,r2,hl2,e2⟩:=I.zP hB;have hsz:its.toArray.size+its2.toArray.size<=sizeLine:=by rw[List.size_toArray,List.size_toArray];omega
 have Eo:¬ (!its.toArray.isEmpty && Builtin.List.listTooLong (its.toArray.size+its2.toArray.size))=true:=by
  rw[x9 hsz,Bool.and_false];exact Bool.false_ne_true
 refine call_meets F.slot_list_extend ⟨_,e,rfl⟩ F.entry_list_extend (F.args_list_extend_2 _ _)
  (AutoSeq1.list_extend_list_list_0 l its.toArray n b its2.toArray n2 Eo (by rw[List.size_toArray];omega) (by omega)) ⟨e,e2,?_⟩
 refine⟨.dO,_,I.NI (its':=its++its2) hH e (by simp) (r.append r2) ?_,rfl,q⟩;rw[List.length_append];omega
noncomputable def a3g:V->List V->Hp->VK->Prop:=fun x vs H Q=>∃ l xs y,x=.ref l/\vs=[]/\H l=some (.lst xs)/\xs[xs.length - 1]?=some y/\Q y (upd H l (.lst xs.dropLast))
theorem Wy:MtM X "list.pop" a3g:=by
 intro pins s σ H x vs v us Q I rx rv h;obtain⟨l,xs,y,rfl,rfl,hH,hy,q⟩:=h;cases rx;have hus:=rv.zero;subst hus;obtain⟨z,its,n,r,hl,e⟩:=I.zP hH;obtain⟨u,hu,ru⟩:=r.get hy;have hy':its.toArray[its.toArray.size - 1]?=some u:=by
  show its.toArray[its.length - 1]?=some u;rw[<- Array.getElem?_toList,<- hl];exact hu
 refine call_meets F.slot_list_pop ⟨_,e,rfl⟩ F.entry_list_pop (F.args_list_pop_1 _) (MeetsSeq.list_pop_last l its.toArray n u hy' (by rw[List.size_toArray];omega)) ⟨e,?_⟩;refine⟨y,_,I.NI (its':=its.dropLast) hH e ?_ r.dropLast ?_,ru,q⟩
 ·show its.toArray.eraseIdxIfInBounds (its.toArray.size - 1)=its.dropLast.toArray;rw[List.size_toArray,List.eraseIdxIfInBounds_toArray,GU]
 ·rw[List.length_dropLast];omega
noncomputable def a3k:R2:=fun x y H Q=>∃ l b xs zs,x=.ref l/\y=.ref b/\H l=some (.lst xs)/\H b=some (.lst zs)/\xs.length+zs.length<=sizeLine/\∀ p,H p=none->Q (.ref p) (upd H p (.lst (xs++zs)))
theorem Ni:jX X (binaryOp .Add) a3k:=by
 intro pins s σ H x y v u Q I rx ry h;obtain⟨l,b,xs,zs,rfl,rfl,hH,hB,hz,q⟩:=h;cases rx;cases ry;obtain⟨z,its,n,r,hl,e⟩:=I.zP hH;obtain⟨z2,its2,n2,r2,hl2,e2⟩:=I.zP hB;refine PySem.P.add_list e e2 ?_ (by rw[List.size_toArray,List.size_toArray];omega);have ea:its.toArray++its2.toArray=(its++its2).toArray:=by simp
 rw[ea];exact⟨.ref _,_,I.WE (t':=s.toks) (r.append r2) (by rw[List.length_append];omega),rfl,q _ I.fresh⟩
noncomputable def a3f:R2:=fun x y H Q=>∃ l k xs,x=.ref l/\y=.int k/\H l=some (.lst xs)/\-(2 ^ 63)<=k/\k < 2 ^ 63/\xs.length*k.toNat<=sizeLine /\
 ∀ p,H p=none->Q (.ref p) (upd H p (.lst (List.replicate k.toNat xs).flatten))
theorem len_rep {α:Type}(xs:List α)(k:Nat):(List.replicate k xs).flatten.length=k*xs.length:=by
 induction k with
 | zero=>simp
 | succ k ih=>rw[List.replicate_succ,List.flatten_cons,List.length_append,ih,Nat.succ_mul,Nat.add_comm]
theorem Wd:jX X (binaryOp .Mult) a3f:=by
 intro pins s σ H x y v u Q I rx ry h;obtain⟨l,k,xs,rfl,rfl,hH,h1,h2,hz,q⟩:=h;cases rx;obtain⟨t,rfl⟩:=ry;obtain⟨z,its,n,r,hl,e⟩:=I.zP hH;have hlen:its.toArray.size*k.toNat<=sizeLine:=by rw[List.size_toArray,<- hl];exact hz
 have hcap:¬ its.toArray.size*k.toNat > (2 ^ 63 - 1) / 8:=by
  have:(sizeLine:Nat)<=(2 ^ 63 - 1) / 8:=by decide
  omega
 have hfit:¬ (!Builtin.List.listFitsIndex k)=true:=by
  rw[fitsIndex_both h1 h2];exact Bool.false_ne_true
 have Eo:¬ Builtin.List.listTooLong (its.toArray.size*k.toNat)=true:=by
  rw[x9 hlen];exact Bool.false_ne_true
 have hnew:List.foldl (fun x1 x2=>x1++x2) #[] (List.replicate (if its.toArray.isEmpty=true then 0 else k.toNat) its.toArray)=(List.replicate k.toNat its).flatten.toArray:=by
  have f0:∀ m:Nat,List.foldl (fun x1 x2=>x1++x2) #[] (List.replicate m its.toArray)=(List.replicate m its).flatten.toArray:=fun m=>by
   have:=foldl_rep its m [];rw[List.nil_append] at this;exact this
  rw[f0];cases its with
  | nil=>simp
  | cons a r'=>rw[if_neg (by simp)]
 refine wpAny_binaryOp_repeat_ref (T:="list") (U:="int") (by decide) ⟨_,e,rfl⟩ (fun s'=>typeIs_int s' k t) noFill_list_mul F.fills_int_mul F.slot_int_rmul repeat_list F.slot_int_index.lookup
  (call_meets F.slot_int_rmul (typeIs_int s k t) F.entry_int_rmul (F.args_int_rmul_2 _ _) (int___rmul___int_list k t l its.toArray n)
   ⟨e,rfl,⟨_,e,rfl⟩,call_meets F.slot_list_mul ⟨_,e,rfl⟩ F.entry_list_mul (F.args_list_mul_2 _ _) (AutoListH.list___mul___list_int_3 l its.toArray n k t hfit hcap Eo) ⟨e,?_⟩⟩)
 rw[hnew];exact⟨.ref _,_,I.WE (t':=s.toks) (r.rep k.toNat) (by rw[len_rep,Nat.mul_comm];exact hz),rfl,q _ I.fresh⟩
end
section
variable {prog:Program}{w:World}{A:Around}{E:Value->Shared->Prop}{s:Shared}
end
section
variable {X:Cx}
end
end L2
namespace Att
open PySem PySem.W PySem.Calls PyProof.Rows
theorem vK {P:Params}{h:Heap}:∀ (ns:List Int) (vs:List Value),WellAll P h vs (ns.map WData.int)->IntsAre vs ns:=by
 intro ns
 induction ns with
 | nil =>
  intro vs w;rw[List.map_nil] at w;cases w;exact .nil
 | cons n ns ih =>
  intro vs w;rw[List.map_cons] at w;cases w with
  | cons a b =>
   cases a;exact .cons _ _ (ih _ b)
theorem JX {l:OpenLaw}{n:Nat}(hn:l.most=some n){P:Params}{h:Heap}{args:List WData}{vals:List Value}
  (hpre:l.row.toRowW.claim.pre args=true) (hwl:WellAll P h vals args) :
  ∃ a vs ns,vals=[Value.ref a]/\args=[WData.list (ns.map WData.int)]/\h.get? a=some { cls:=.type "list",data:=.seq vs.toArray }/\IntsAre vs ns/\ns.length<=n:=by
 have hsh:WShape.hasAll [] args [.list .int]=true:=(pre_splitW hpre).1;have hc:l.pre.holds [] { args:=args }=true:=(pre_splitW hpre).2;obtain⟨d,r,rfl,h1,h2⟩:=hasAllW_cons hsh;obtain rfl:=hasAllW_nil h2;obtain⟨xs,rfl,h3⟩:=hasW_list h1;obtain⟨ns,rfl⟩:=items_int h3;have hlen:ns.length<=n:=by
  unfold OpenLaw.pre at hc;have h4:(WTm.not (.lt (.lit (.int (n:Int))) (.len (.arg 0)))).holds [] { args:=[.list (ns.map .int)] }=true:=by
   have h4:=(holds_andW hc).1;rw[hn] at h4;exact h4
  have h5:=condW_of h4 (w_not (w_lt w_lit (w_len_list (w_arg rfl))));rw[List.length_map] at h5;refine Nat.le_of_not_lt fun q=>?_;have q':(n:Int) < ((ns.length:Nat):Int):=by omega
  first
   | (rw[decide_eq_true q'] at h5;exact absurd h5 (by decide))
   | (simp at h5;omega)
 cases hwl with
 | cons w1 w2 =>
  cases w2;cases w1 with
  | list ho hall=>exact⟨_,_,ns,rfl,rfl,ho,vK ns _ hall,hlen⟩
theorem J1 (l:OpenLaw)(args:List WData):l.row.toRowW.claim.post args (.bool true) args=true :=
 postW_of (r:=l.row.toRowW) (X:=(true == true))
  (show WShape.has [] (.bool true) .bool=true by first | rfl | decide | simp[WShape.has,WShape.arms,WShape.armsAll])
  (show(WTm.eq .res (.lit (.bool true))).value [] { args:=args,res:=some (.bool true),after:=args }=some (.bool (true == true)) from w_eq_bool (w_res rfl) w_lit) rfl
theorem E3 {l:OpenLaw}{n:Nat}{q:Program}{loose:List Str}{XP:(Str->Option Value)->Heap->Prop}{YP:World->Heap->Prop}{d:DefRec}
  (hn:l.most=some n) (hdf:d.params.defaults=[])
  (call:∀ (w:World) (s₀ s₁:Shared) (mg mb:Str->Option Value) (fa:Addr) (o:Obj) (pm cd doc:Value) (a:Addr) (vs:List Value) (ns:List Int),
   Ground q loose [] XP w s₀ mg mb s₁.heap->YP w s₁.heap ->
   s₁.heap.get? fa=some o->o.data=.func (docDef d.name d.params d.body d.scope pm cd doc)->s₁.heap.CodeRec cd d.name->mg d.name=some (.ref fa) ->
   s₁.heap.get? a=some { cls:=.type "list",data:=.seq vs.toArray }->IntsAre vs ns->ns.length<=n->s₁.gens=#[] ->
   codeAny (model l.prog w) callerA (.call (.ref fa) ⟨[.ref a],[]⟩) (fun r s'=>r=.ok (.ret (.bool true))/\OldK s₁.heap s'.heap/\s'.os=s₁.os/\AllBare s'.gens) s₁) :
  WalkO q loose XP YP l.row.toRowW d [] (fun f vs=>PySem.call f vs):=by
 intro w s₀ s₁ mg mb G Y fa o pm cd doc dV kV ho hd hcd hD hmg hg args vals as hpre hlay hrd hwl hlo;obtain rfl:dV=.none:=Dflts.none hD hdf;obtain rfl:kV=.none:=Dflts.noKw hD;obtain⟨a,vs,ns,rfl,rfl,hobj,hints,hlen⟩:=JX hn hpre hwl;refine enter_call (codeAny_mono (call w s₀ s₁ mg mb fa o pm cd doc a vs ns G Y ho (fd_plain hd) hcd hmg hobj hints hlen hg) fun r s' hq=>?_);obtain⟨rfl,h2,h3,h4⟩:=hq;exact⟨.inl ⟨.bool true,.bool true,[],rfl,fun _=>rfl,.bool true,J1 l _,fun _=>⟨List.Pairwise.nil,fun _ hm=>(nomatch hm)⟩⟩,h2,h3,h4⟩
section
variable {prog:Program}{w:World}{A:Around}{E:Value->Shared->Prop}{s:Shared}{K:Frag}
end
end Att
namespace L2
open PySem PySem.Spec PyProof.Rows
theorem Ai:∀ {vs:List Value} {ns:List Int},IntsAre vs ns->Vals (ns.map V.int) vs
 | _,_,.nil=>.nil
 | _,_,.cons n t h=>.cons ⟨t,rfl⟩ (Ai h)
noncomputable def XN (H:Hp):Prop:=∀ b,H b=none∨∃ o xs,H b=some (.uC o (.lst xs))
theorem NL {P:Program}{w:World}{K:PySem.W.Frag}{mg mb:Str->Option Value}{CX:JO}{k:Nat}{fa a:Addr}{fd:FuncData}{x:Str}{sp:Sp}{s₁:Shared}{vs:List Value}{ns:List Int}
  (KX:K.In s₁.heap) (hns:s₁.heap.Ns mainGlobals mg) (hb:s₁.heap.Ns builtinsNs mb) (hbb:∀ x:Str,x≠"__name__"->mb x=bootBuiltins x) (hlim:s₁.heap.NoLimit) (hg:s₁.gens=#[])
  (ha:s₁.heap.get? a=some { cls:=.type "list",data:=.seq vs.toArray }) (hi:IntsAre vs ns) (hl:ns.length<=sizeLine) (hr:c7 k callerA)
  (F:∀ base:Heap,K.In base->base.Ns mainGlobals mg->aN P w K mg base CX k fa fd [x] sp) (hbind:∀ (s:Shared) (u:Value),BindsTo s fd ⟨[u],[]⟩ [(x,u)])
  (Pe:∀ H:Hp,XN H->mD K H a (ns.map V.int)->sp [.ref a] H (fun v _=>v=.bl true) fun _ _ _=>False)
  (hCX:∀ H e s',CX [] H s₁ (fun _ _ _=>False) e s'->False) :
  codeAny (model P w) callerA (.call (.ref fa) ⟨[.ref a],[]⟩) (fun r s'=>r=.ok (.ret (.bool true))/\OldK s₁.heap s'.heap/\s'.os=s₁.os/\AllBare s'.gens) s₁:=by
 have rv:=Ai hi;have a3y:=hi.length;have core:∀ H:Hp,XN H->mD K H a (ns.map V.int)->q9 P w H s₁.heap->(∀ b,H b≠none->b=a)->(H a≠none->K.lookup a=none) ->
   codeAny (model P w) callerA (.call (.ref fa) ⟨[.ref a],[]⟩) (fun r s'=>r=.ok (.ret (.bool true))/\OldK s₁.heap s'.heap/\s'.os=s₁.os/\AllBare s'.gens) s₁:=by
  intro H hO hS hok hA hK;have JK:∀ {b:Addr} {o:Obj},s₁.heap.get? b=some o->H b=none->(Cw s₁.heap H).get? b=some o:=fun e n=>N7 e n;have Z6:∀ {b:Addr} {o:Obj} {es:Array DictEntry} {ep:Nat},s₁.heap.get? b=some o->o.data=.dict es ep->H b=none:=fun {b o es ep} e d=>by
   cases q:H b with
   | none=>rfl
   | some u =>
    have e':b=a:=hA b (by rw[q];simp);subst e';rw[ha] at e;cases e;have d':Data.seq vs.toArray _=Data.dict es ep:=d;cases d'
  have nsK:∀ {b:Addr} {m:Str->Option Value},s₁.heap.Ns b m->(Cw s₁.heap H).Ns b m:=fun {b m} ⟨o,es,ep,e,d,r⟩=>⟨o,es,ep,JK e (Z6 e d),d,r⟩
  have hKb:K.In (Cw s₁.heap H):=fun b o e=>JK (KX b o e) (by
   cases q:H b with
   | none=>rfl
   | some u =>
    have e':b=a:=hA b (by rw[q];simp);subst e';rw[hK (by rw[q];simp)] at e;cases e)
  have hM:Mod K mg (Cw s₁.heap H):=⟨hKb,nsK hns,⟨mb,nsK hb,hbb⟩,let ⟨mc,h1,h2⟩:=hlim;⟨mc,nsK h1,h2⟩⟩
  have e0:Hh P w K mg (Cw s₁.heap H) callerA [] s₁ H:=⟨rfl,hM,fun b o e=>RD e,Nat.le_of_eq (K3 _ _),trivial,fun b hb=>absurd (show b∈([]:List Addr) from hb) (by simp),hok,.of_eq hg⟩
  refine codeAny_mono ((F _ hKb (nsK hns)).run callerA [] s₁ H ⟨[.ref a],[]⟩ [.ref a] [.ref a] _ _ hr e0 (hbind s₁ (.ref a)) (.cons rfl .nil) (Pe H hO hS)) fun r s' h=>?_;cases r with
  | error e=>exact(hCX H e s' h).elim
  | ok fl =>
   cases fl with
   | next=>exact False.elim h
   | brk=>exact False.elim h
   | cont=>exact False.elim h
   | ret u =>
    obtain⟨v,H',os,bare,un,a4k,r',q⟩:=h;have q':v=.bl true:=q;subst q';obtain rfl:u=Value.bool true:=r';refine⟨rfl,OldK.of_keep fun b o e=>?_,os,bare⟩;cases q:H b with
    | none=>exact un.keep b o e q (by intro z;exact absurd (show b∈([]:List Addr) from z) (by simp)) (by simp)
    | some u =>
     rcases hO b with z | ⟨ob,xs,z⟩
     ·rw[q] at z;cases z
     ·have z2:=un.zS b ob _ z;obtain⟨e1,_⟩:=hok b _ z;obtain⟨e2,_⟩:=a4k b _ z2;rw[e] at e1;cases e1;exact e2
 cases hk:K.lookup a with
 | some o =>
  have e:=KX a o hk;rw[ha] at e;cases e;refine core (fun _=>none) (fun _=>.inl rfl) (.inr ⟨_,vs.toArray,_,hk,rfl,rfl,rfl,by rw[List.size_toArray,a3y];exact hl,by simpa using rv⟩) (fun b u z=>by have z':(none:Option HO)=some u:=z;cases z') (fun b z=>absurd rfl z) fun z=>absurd rfl z
 | none =>
  refine core (fun b=>if b=a then some (.uC { cls:=.type "list",data:=.seq vs.toArray } (.lst (ns.map V.int))) else none) (fun b=>?_) (.inl (.inr ⟨{ cls:=.type "list",data:=.seq vs.toArray },if_pos rfl⟩)) (fun b u z=>?_) (fun b z=>?_) fun _=>hk
  ·by_cases hb:b=a
   ·exact .inr ⟨_,_,if_pos hb⟩
   ·exact .inl (if_neg hb)
  ·by_cases hb:b=a
   ·have z':=(if_pos hb).symm.trans z;cases z';subst hb;exact⟨ha,by rw[List.length_map];exact hl,vs,_,rv,ha⟩
   ·have z':=(if_neg hb).symm.trans z;cases z'
  ·by_cases hb:b=a
   ·exact hb
   ·exact absurd (if_neg hb) z
end L2
namespace L2
open PySem PySem.Spec PyProof.Rows
theorem Pn {l:PySem.W.OpenLaw}{n k:Nat}{q:Program}{loose:List Str}{XP:(Str->Option Value)->Heap->Prop}{YP:World->Heap->Prop}{d:DefRec}{K:Params->PySem.W.Frag}{CX:World->JO}{sp:World->Sp}{x:Str}
  (hn:l.most=some n) (hn2:n<=sizeLine) (hdf:d.params.defaults=[]) (hr:c7 k callerA)
  (hY:∀ (w:World) (h:Heap),YP w h->(K w.params).In h)
  (F:∀ (w:World) (mg:Str->Option Value) (fa:Addr) (h:Heap),(K w.params).In h->h.Ns mainGlobals mg->mg d.name=some (.ref fa) ->
   ∃ fd:FuncData,(∀ (s:Shared) (u:Value),BindsTo s fd ⟨[u],[]⟩ [(x,u)]) /\
    ∀ base:Heap,(K w.params).In base->base.Ns mainGlobals mg->aN l.prog w (K w.params) mg base (CX w) k fa fd [x] (sp w))
  (Pe:∀ (w:World) (H:Hp) (a:Addr) (ns:List Int),ns.length<=n->XN H->mD (K w.params) H a (ns.map V.int)->sp w [.ref a] H (fun v _=>v=.bl true) fun _ _ _=>False)
  (hCX:∀ (w:World) (H:Hp) (s:Shared) (e:Value) (s':Shared),CX w [] H s (fun _ _ _=>False) e s'->False) :
  PySem.W.WalkO q loose XP YP l.row.toRowW d [] (fun f vs=>PySem.call f vs):=by
 refine Att.E3 hn hdf fun w s₀ s₁ mg mb fa o pm cd doc a vs ns G Y ho hd hcd hmg hobj hints hlen hg=>?_;have KX:=hY w _ Y;obtain⟨fd,hb,hF⟩:=F w mg fa _ KX G.T.g hmg;exact NL KX G.T.g G.T.b G.T.builtins G.T.nolimit hg hobj hints (Nat.le_trans hlen hn2) hr hF hb (fun H hO hS=>Pe w H a ns hlen hO hS) fun H e s'=>hCX w H s₁ e s'
end L2
namespace L2
open PySem PySem.Spec PyProof.Rows
noncomputable def inClass (s:Stmt)(j:Nat):Stmt:=match s with
 | .ClassDef _ _ _ body _ _ _ _ _ _ _=>body.getD j (.Pass ⟨0,0,0,0⟩)
 | _=>.Pass ⟨0,0,0,0⟩
noncomputable def c8 (s:Stmt):Arguments:=match s with
 | .FunctionDef _ a _ _ _ _ _ _ _ _=>a
 | _=>{ posonlyargs:=[],args:=[],vararg:=none,kwonlyargs:=[],kw_defaults:=[],kwarg:=none,defaults:=[] }
noncomputable def ao (s:Stmt):List Stmt:=match s with
 | .FunctionDef _ _ b _ _ _ _ _ _ _=>b
 | _=>[]
noncomputable def ai (s:Stmt):Scope:=match s with
 | .FunctionDef _ _ _ _ _ _ sc _ _ _=>sc
 | _=>{ kind:=.function,names:=[],isGenerator:=false,isCoroutine:=false }
noncomputable abbrev cG:JO:=fun _ _ _ _ _ _=>False
noncomputable abbrev E0:XK:=fun _ _ _=>False
theorem xW {X:Cx}:Passes cG X E0:=fun _ _ _ _ _ _ _ h=>h.elim
structure cj (K:PySem.W.Frag)(x qual:Str)(st:Stmt)(f:Addr)(fd:FuncData):Prop where
 ex:∃ (oc:Value) (od:Option Addr) (kV doc pm:Value) (an:Option Addr) (cdv ct:Value) (osl:Array (Option Value)),
  fd=PySem.W.fnOf x qual (c8 st) (ao st) (ai st) .none kV doc pm an cdv ct/\K.lookup f=some ⟨oc,od,.func fd,osl⟩/\PySem.W.codeIn K cdv qual=true
 kp:PySem.W.keepIn K (.ref f)=true
section
variable {P:Program}{w:World}{K:PySem.W.Frag}{mg:Str->Option Value}{base:Heap}
theorem cj.ok {x qual:Str}{st:Stmt}{f:Addr}{fd:FuncData}{N ps:List Str}{k:Nat}{sp:Sp}(F:cj K x qual st f fd)(S:au N ps (ai st))(len:∀ vs H Q E,sp vs H Q E->vs.length=ps.length)
  (hbody:∀ (cdv:Value) (A:Around) (outer:List Env) (s:Shared) (H:Hp) (vs:List V) (Q:VK) (E:XK),c7 k (A.deeper (envOfC qual (ai st) s.heap.objs.size f cdv))->sp vs H Q E ->
   ∃ t,C1 (EJ cG P w K mg base N qual (ai st) f cdv A outer s H E).XR (ao st) t/\t { nx:=fun _ H'=>Q .dO H',rt:=Q } (start N vs) H):aN P w K mg base cG (k+1) f fd ps sp:=by
 obtain⟨oc,od,kV,doc,pm,an,cdv,ct,osl,rfl,lk,hcd⟩:=F.ex;refine a1i lk hcd S len fun A outer s H vs Q E hr Pe=>?_;obtain⟨t,h,q⟩:=hbody cdv A outer s H vs Q E hr Pe;exact⟨t,h.XR,q⟩
theorem cj.binds {x qual:Str}{st:Stmt}{f:Addr}{fd:FuncData}{ps:List Str}(F:cj K x qual st f fd)
  (h:∀ (kV doc pm:Value) (an:Option Addr) (cdv ct:Value) (us:List Value),us.length=ps.length->bindArgs (PySem.W.fnOf x qual (c8 st) (ao st) (ai st) .none kV doc pm an cdv ct) ⟨us,[]⟩=pure (ps.zip us)):Binds K fd ps []:=by
 obtain⟨oc,od,kV,doc,pm,an,cdv,ct,osl,rfl,lk,hcd⟩:=F.ex;exact .all (h kV doc pm an cdv ct)
theorem W8 {x qual:Str}{st:Stmt}{f:Addr}{oc:Value}{od an:Option Addr}{osl:Array (Option Value)}{kV doc pm cdv ct:Value}(l:K.lookup f=some ⟨oc,od,.func (PySem.W.fnOf x qual (c8 st) (ao st) (ai st) .none kV doc pm an cdv ct),osl⟩)
  (c:PySem.W.codeIn K cdv qual=true) (k:PySem.W.keepIn K (.ref f)=true):cj K x qual st f (PySem.W.fnOf x qual (c8 st) (ao st) (ai st) .none kV doc pm an cdv ct):=⟨⟨oc,od,kV,doc,pm,an,cdv,ct,osl,rfl,l,c⟩,k⟩
end
theorem pU {A:Around}{k:Nat}(hr:c7 k A):A.units+1 < cLine:=Nat.lt_of_le_of_lt (Nat.add_le_add_left (by decide:1<=64) _) hr.units
theorem JW {n:Nat}(h:n<=1000):n < sizeLine:=Nat.lt_of_le_of_lt h (by decide)
section
variable {X:Cx}
end
end L2
namespace L2
open PySem PySem.Spec PyProof.Rows
section
variable {κ:Type} [DecidableEq κ]
noncomputable def rB (kvs:List (κ×V))(k:κ):Option V:=(kvs.find? fun kv=>decide (kv.1=k)).map (·.2)
noncomputable def putK (kvs:List (κ×V))(k:κ)(v:V):List (κ×V) :=
 if (kvs.any fun kv=>decide (kv.1=k))=true then kvs.map (fun kv=>if kv.1=k then (kv.1,v) else kv) else kvs++[(k,v)]
theorem rq {p:κ×V}{r:List (κ×V)}{k:κ}(e:p.1=k):rB (p::r) k=some p.2:=by simp[rB,List.find?_cons,e]
theorem rA {p:κ×V}{r:List (κ×V)}{k:κ}(e:¬ p.1=k):rB (p::r) k=rB r k:=by simp[rB,List.find?_cons,e]
theorem Dk (k:κ):∀ kvs:List (κ×V),(kvs.any fun kv=>decide (kv.1=k))=(rB kvs k).isSome
 | []=>rfl
 | p::r=>by
  rw[List.any_cons];by_cases e:p.1=k
  ·simp only[rq e,decide_eq_true e,Bool.true_or,Option.isSome_some]
  ·rw[rA e,decide_eq_false e,Bool.false_or];exact Dk k r
theorem ng (kvs:List (κ×V))(k:κ)(v:V):(putK kvs k v).length<=kvs.length+1:=by
 unfold putK;split
 ·rw[List.length_map];omega
 ·rw[List.length_append,List.length_cons,List.length_nil];omega
theorem mj.K0 {o:Option V}{u:Option Value}(r:mj o u):o.isSome=u.isSome:=by
 cases o with
 | none=>cases u with
  | none=>rfl
  | some _=>exact(show False from r).elim
 | some _=>cases u with
  | none=>exact(show False from r).elim
  | some _=>rfl
theorem mj.getD {o:Option V}{u:Option Value}{d:V}{d':Value}(r:mj o u)(rd:RelV d d'):RelV (o.getD d) (u.getD d'):=by
 cases o with
 | none=>cases u with
  | none=>exact rd
  | some _=>exact(show False from r).elim
 | some _=>cases u with
  | none=>exact(show False from r).elim
  | some _=>exact r
theorem KV.val {kvs:List (κ×V)}{vs:List (κ×Value)}(r:KV kvs vs)(k:κ):mj (rB kvs k) (valueAt vs k):=by
 unfold KV at r
 induction r with
 | nil=>exact True.intro
 | @cons p q ps qs h t ih =>
  obtain⟨h1,h2⟩:=h;by_cases e:p.1=k
  ·have e':q.1=k:=h1.symm.trans e;have b:valueAt (q::qs) k=some q.2:=by simp[valueAt,List.find?_cons,e']
   rw[rq e,b];exact h2
  ·have e':¬ q.1=k:=fun z=>e (h1.trans z);have b:valueAt (q::qs) k=valueAt qs k:=by simp[valueAt,List.find?_cons,e']
   rw[rA e,b];exact ih
theorem KV.any {kvs:List (κ×V)}{vs:List (κ×Value)}(r:KV kvs vs)(k:κ):(kvs.any fun kv=>decide (kv.1=k))=vs.any fun kv=>decide (kv.1=k):=by
 unfold KV at r
 induction r with
 | nil=>rfl
 | cons h t ih=>rw[List.any_cons,List.any_cons,ih,h.1]
theorem KV.repl {kvs:List (κ×V)}{vs:List (κ×Value)}(r:KV kvs vs)(k:κ){y:V}{u:Value}(ry:RelV y u) :
  KV (kvs.map fun kv=>if kv.1=k then (kv.1,y) else kv) (vs.map fun kv=>if kv.1=k then (kv.1,u) else kv):=by
 unfold KV at r ⊢
 induction r with
 | nil=>exact .nil
 | @cons p q ps qs h t ih =>
  rw[List.map_cons,List.map_cons];refine .cons ?_ ih;obtain⟨h1,h2⟩:=h;by_cases e:p.1=k
  ·rw[if_pos e,if_pos (h1.symm.trans e)];exact⟨h1,ry⟩
  ·rw[if_neg e,if_neg (fun z=>e (h1.trans z))];exact⟨h1,h2⟩
theorem KV.put {kvs:List (κ×V)}{vs:List (κ×Value)}(r:KV kvs vs)(k:κ){y:V}{u:Value}(ry:RelV y u):KV (putK kvs k y) (stored vs k u):=by
 unfold putK stored;rw[r.any k];by_cases e:(vs.any fun kv=>decide (kv.1=k))=true
 ·rw[if_pos e,if_pos e];exact r.repl k ry
 ·rw[if_neg e,if_neg e];exact Paired.snoc r ⟨rfl,ry⟩
theorem KV.keys {kvs:List (κ×V)}{vs:List (κ×Value)}(r:KV kvs vs):kvs.map (·.1)=vs.map (·.1):=by
 unfold KV at r
 induction r with
 | nil=>rfl
 | cons h t ih=>rw[List.map_cons,List.map_cons,ih,h.1]
theorem KV.length {kvs:List (κ×V)}{vs:List (κ×Value)}(r:KV kvs vs):kvs.length=vs.length:=Paired.length r
end
theorem Ek {P:Program}{w:World}{k:Key}{u:Value}(r:RelV (kV k) u):(bZ P w).is k u=true:=by
 cases k with
 | inl i=>obtain⟨t,e⟩:=(show ∃ t,u=Value.int i t from r);subst e;exact Ei P w i t
 | inr x=>obtain⟨t,e⟩:=(show ∃ t,u=Value.str x t from r);subst e;exact Eh P w x t
theorem Av {P:Program}{w:World}:∀ {ks:List Key} {us:List Value},Vals (ks.map kV) us->ItemsAre (bZ P w) ks us
 | [],_,r=>by rw[List.map_nil] at r;cases r;exact .nil
 | k::ks,_,r=>by
  rw[List.map_cons] at r;cases r with
  | cons h t=>exact .cons (Ek h) (Av t)
noncomputable abbrev KT (H:Hp):List (List Key×V)->List (List Key×Addr×Value)->Prop:=Paired fun p q=>p.1=q.1/\H q.2.1=some (.tup (p.1.map kV))/\RelV p.2 q.2.2
theorem KT.val {H:Hp}{kvs:List (List Key×V)}{xs:List (List Key×Addr×Value)}(r:KT H kvs xs)(k:List Key):mj (rB kvs k) ((atKey xs k).map (·.2)):=by
 induction r with
 | nil=>exact True.intro
 | @cons p q ps qs h t ih =>
  obtain⟨h1,_,h2⟩:=h;by_cases e:p.1=k
  ·have e':q.1=k:=h1.symm.trans e;have b:atKey (q::qs) k=some q.2:=by simp[atKey,List.find?_cons,e']
   rw[rq e,b];exact h2
  ·have e':¬ q.1=k:=fun z=>e (h1.trans z);have b:atKey (q::qs) k=atKey qs k:=by simp[atKey,List.find?_cons,e']
   rw[rA e,b];exact ih
theorem KT.repl {H:Hp}{kvs:List (List Key×V)}{xs:List (List Key×Addr×Value)}(r:KT H kvs xs)(k:List Key){y:V}{u:Value}(ry:RelV y u) :
  KT H (kvs.map fun kv=>if kv.1=k then (kv.1,y) else kv) (xs.map (putAt k u)):=by
 induction r with
 | nil=>exact .nil
 | @cons p q ps qs h t ih =>
  rw[List.map_cons,List.map_cons];refine .cons ?_ ih;obtain⟨h1,h2,h3⟩:=h;unfold putAt;by_cases e:p.1=k
  ·rw[if_pos e,if_pos (h1.symm.trans e)];exact⟨h1,h2,ry⟩
  ·rw[if_neg e,if_neg (fun z=>e (h1.trans z))];exact⟨h1,h2,h3⟩
theorem KT.put {H:Hp}{kvs:List (List Key×V)}{xs:List (List Key×Addr×Value)}(r:KT H kvs xs)(k:List Key){b:Addr}{y:V}{u:Value}(hb:H b=some (.tup (k.map kV)))(ry:RelV y u) :
  KT H (putK kvs k y) (storedH xs k b u):=by
 have e:(kvs.any fun kv=>decide (kv.1=k))=(atKey xs k).isSome:=by
  rw[Dk,(r.val k).K0,Option.isSome_map]
 unfold putK storedH;rw[e];by_cases q:(atKey xs k).isSome=true
 ·rw[if_pos q,if_pos q];exact r.repl k ry
 ·rw[if_neg q,if_neg q];exact Paired.snoc r ⟨rfl,hb,ry⟩
theorem KT.keeps {H H':Hp}{kvs:List (List Key×V)}{xs:List (List Key×Addr×Value)}(r:KT H kvs xs)(ht:∀ b ys,H b=some (.tup ys)->H' b=some (.tup ys)):KT H' kvs xs :=
 Paired.Wz r fun _ _ z=>⟨z.1,ht _ _ z.2.1,z.2.2⟩
section
variable {P:Program}{w:World}{H:Hp}{h:Heap}{a:Addr}
theorem TL {u:HO}(ok:q9 P w H h)(e:Rd H a u):cY P w H h a u:=e.ok ok
theorem sZ {kvs:List (Key×V)}(ok:q9 P w H h)(e:Rd H a (.dK kvs)):kvs.length<=sizeLine/\(a == sysModules)=false/\∃ vs,KV kvs vs/\h.DictOf (bZ P w) a vs :=
 show cY P w H h a (.dK kvs) from TL ok e
theorem Ul {kvs:List (Key×V)}(ok:q9 P w H h)(e:H a=some (.dK kvs)):kvs.length<=sizeLine/\(a == sysModules)=false/\∃ vs,KV kvs vs/\h.DictOf (bZ P w) a vs:=sZ ok (.inl e)
theorem Co {ks:List Key}(ok:q9 P w H h)(e:H a=some (.tup (ks.map kV))):(tupleKind (bZ P w)).is h ks a:=by
 obtain⟨_,its,r,o,h1,h2,n,h3⟩:=(show cY P w H h a (.tup (ks.map kV)) from ok a _ e)
 exact⟨o,its.toArray,n,h1,h2,h3,by simpa using Av r⟩
theorem EE {kvs:List (List Key×V)}(ok:q9 P w H h)(e:Rd H a (.dT kvs)):kvs.length<=sizeLine/\(a == sysModules)=false /\
  ∃ xs,KT H kvs xs/\h.DictOfH (tupleKind (bZ P w)) a xs:=by
 obtain⟨z,y,xs,r,o,es,ep,h1,h2,h3,h4,h5⟩:=(show cY P w H h a (.dT kvs) from TL ok e)
 refine⟨z,y,xs,r,o,es,ep,h1,h2,h3,h4,fun x hx=>?_,h5⟩;have all:∀ {l:List (List Key×V)} {m:List (List Key×Addr×Value)},KT H l m->∀ x∈m,(tupleKind (bZ P w)).is h x.1 x.2.1:=by
  intro l m q
  induction q with
  | nil=>intro x hx;exact nomatch hx
  | @cons p q ps qs hq t ih =>
   intro x hx;rcases List.mem_cons.mp hx with e | hx
   ·subst e;exact Co ok (by rw[<- hq.1];exact hq.2.1)
   ·exact ih x hx
 exact all r x hx
theorem a1r {kvs:List (List Key×V)}(ok:q9 P w H h)(e:H a=some (.dT kvs)):kvs.length<=sizeLine/\(a == sysModules)=false /\
  ∃ xs,KT H kvs xs/\h.DictOfH (tupleKind (bZ P w)) a xs:=EE ok (.inl e)
end
noncomputable def Df (H:Hp)(a:Addr)(y:V)(r:Option V):Prop :=
 (∃ kvs k,Rd H a (.dK kvs)/\y=kV k/\r=rB kvs k)∨∃ kvs k b,Rd H a (.dT kvs)/\y=.ref b/\H b=some (.tup (k.map kV))/\r=rB kvs k
noncomputable def O6 (H:Hp)(a:Addr)(y v:V)(H':Hp):Prop :=
 (∃ kvs k,H a=some (.dK kvs)/\y=kV k/\kvs.length < sizeLine/\H'=upd H a (.dK (putK kvs k v))) ∨
 ∃ kvs k b,H a=some (.dT kvs)/\y=.ref b/\H b=some (.tup (k.map kV))/\kvs.length < sizeLine/\H'=upd H a (.dT (putK kvs k v))
theorem Df.k {H:Hp}{a:Addr}{kvs:List (Key×V)}{k:Key}(e:H a=some (.dK kvs)):Df H a (kV k) (rB kvs k):=.inl ⟨kvs,k,.inl e,rfl,rfl⟩
theorem O6.k {H:Hp}{a:Addr}{kvs:List (Key×V)}{k:Key}{v:V}(e:H a=some (.dK kvs))(hl:kvs.length < sizeLine):O6 H a (kV k) v (upd H a (.dK (putK kvs k v))):=.inl ⟨kvs,k,e,rfl,hl,rfl⟩
section
variable {X:Cx}{pins:List (Addr×Obj)}{σ:St}{H:Hp}{s:Shared}{a:Addr}{y v:V}{u r:Value}{o:Option V}{A:Around}{E:Value->Shared->Prop}
theorem Inv.big (I:Inv X pins σ H s):sysModules < s.heap.objs.size:=by
 have h:mainGlobals < s.heap.objs.size:=(I.mod.glob.keeps I.bk).lt;exact Nat.lt_trans (by decide) h
theorem K9 {Q:Value->Shared->Prop}(hu:A.units+1 < cLine)(I:Inv X pins σ H s)(g:Df H a y (some v))(ry:RelV y u)(h:∀ w' s',Inv X pins σ H s'->RelV v w'->Q w' s') :
  wpAny (model X.prog X.w) A (getItem (.ref a) u) Q E s:=by
 rcases g with ⟨kvs,k,e,ey,l⟩ | ⟨kvs,k,b,e,ey,eb,l⟩
 ·subst ey;obtain⟨z,hd,vs,rel,dd⟩:=sZ I.hok e;obtain⟨w',hw,rw'⟩:=mj.some_of (v:=v) (o:=valueAt vs k) (by rw[l];exact rel.val k);exact wpAny_getItem_of (Ek ry) dd.mapOf hw (h w' _ (I.tok _) rw')
 ·subst ey;cases (show u=Value.ref b from ry);obtain⟨z,hd,xs,rel,dd⟩:=EE I.hok e;obtain⟨w',hw,rw'⟩:=mj.some_of (v:=v) (o:=(atKey xs k).map (·.2)) (by rw[l];exact rel.val k);obtain⟨p,hp,hp2⟩:=Option.map_eq_some_iff.mp hw;refine wpAny_getItem_heap (tupleKind_room_in1 hu) (Co I.hok eb) dd hp ?_;rw[hp2];exact h w' _ (I.tok _) rw'
theorem CF {h':Heap}{t':Nat}{ob:HO}(I:Inv X pins σ H s)(mu:Mut (H a))(hs:Heap.SameBut a s.heap h')(he:∃ q,h'.get? a=some q)(new:cY X.prog X.w (upd H a ob) h' a ob) :
  Inv X pins σ (upd H a ob) { s with heap:=h',toks:=t' } :=
 I.write (x:=a) (e:=a) mu (.inl rfl) (fun b q hb z=>(hs.2 b hb).trans z) he new
theorem Oq {P:Program}{w:World}{H':Hp}{h':Heap}{kvs:List (Key×V)}{vs:List (Key×Value)}(z:kvs.length<=sizeLine)(hd:(a == sysModules)=false)(rel:KV kvs vs)(dd:h'.DictOf (bZ P w) a vs) :
  cY P w H' h' a (.dK kvs):=⟨z,hd,vs,rel,dd⟩
theorem K8 {H':Hp}{Q:Unit->Shared->Prop}(hu:A.units+1 < cLine)(I:Inv X pins σ H s)(g:O6 H a y v H')(ry:RelV y u)(rv:RelV v r)(h:∀ s',Inv X pins σ H' s'->Q () s') :
  wpAny (model X.prog X.w) A (setItem (.ref a) u r) Q E s:=by
 rcases g with ⟨kvs,k,e,ey,l,eH⟩ | ⟨kvs,k,b,e,ey,eb,l,eH⟩
 ·subst ey eH;obtain⟨z,hd,vs,rel,dd⟩:=Ul I.hok e;have hz:vs.length<=sizeLine:=by rw[<- rel.length];exact z
  have hl:(putK kvs k v).length<=sizeLine:=by have:=ng kvs k v;omega
  refine wpAny_setItem_pairs (hsz:=hz) (Ek ry) dd fun h' Um hs=>h _ ?_;have he:∃ q,h'.get? a=some q:=let ⟨q,_,_,hq,_⟩:=Um;⟨q,hq⟩;exact CF I (by rw[e];exact True.intro) hs he (Oq hl hd (rel.put k rv) Um)
 ·subst ey eH;cases (show u=Value.ref b from ry);obtain⟨z,hd,xs,rel,dd⟩:=a1r I.hok e;have hz:xs.length<=sizeLine:=by rw[<- Paired.length rel];exact z
  have hl:(putK kvs k v).length<=sizeLine:=by have:=ng kvs k v;omega
  refine wpAny_setItem_heap (hsz:=hz) (tupleKind_room_in1 hu) (Co I.hok eb) dd fun h' Um hs=>h _ ?_;obtain⟨q,es,ep,hq,h2,h3,h4,_,h5⟩:=Um;refine CF I (by rw[e];exact True.intro) hs ⟨q,hq⟩ ⟨hl,hd,_,(rel.put k eb rv).keeps fun c ys ec=>?_,q,es,ep,hq,h2,h3,h4,h5⟩;rw[aQ (Ef ec e (fun z=>nomatch z))];exact ec
end
section
variable {X:Cx}{pins:List (Addr×Obj)}{σ:St}{H:Hp}{s:Shared}{a:Addr}{kvs:List (Key×V)}{k:Key}{u:Value}{A:Around}{E:Value->Shared->Prop}
end
noncomputable def SQ (i:Expr):Prop:=∀ ov iv,subscripted i false ov iv=operate [ov,iv] (getItem ov iv)
theorem PJ {prog:Program}{w:World}{A:Around}{E:Value->Shared->Prop}{s:Shared}{env:Env}{value slice:Expr}{pos:Pos}{T id:String}{Q:Value->Shared->Prop}
  (hl:typeLookup (.type T) "__getitem__"=pure (some (.builtin id))) (hs:SQ slice)
  (h:wpAny (model prog w) A (eval value env) (fun o s₁=>wpAny (model prog w) A (eval slice env) (fun i s₂=>s₂.TypeIs o T/\wpAny (model prog w) A (getItem o i) Q E s₂) E s₁) E s) :
  wpAny (model prog w) A (eval (.Subscript value slice pos) env) Q E s:=by
 refine Subscript_ (wpAny_mono h (fun o s₁ h₁=>wpAny_mono h₁ (fun i s₂ h₂=>?_) fun _ _ x=>x) fun _ _ x=>x);obtain⟨hT,h₂⟩:=h₂;unfold subscriptTail;refine wpAny_bind ?_;rw[getitemInPython_of_ne hT.not_modules];refine wpAny_bind (wpAny_specialOf hT hl ?_);have fin:wpAny (model prog w) A (subscripted slice false o i) (fun r s₃=>wpAny (model prog w) A (letTemporaryGo value o r >>= fun _=>pure r) Q E s₃) E s₂:=by
  rw[hs o i];exact wpAny_operating (wpAny_mono h₂ (fun r s₃ h₃=>wpAny_bind (wpAny_letTemporaryGo (wpAny_pure h₃))) fun _ _ x=>x)
 first
  | exact wpAny_pure (wpAny_bind fin)
  | exact wpAny_bind (wpAny_pure (wpAny_bind fin))
  | exact wpAny_bind fin
theorem EH {X:Cx}{pins:List (Addr×Obj)}{σ:St}{H:Hp}{s:Shared}{a:Addr}{y:V}{o:Option V}(I:Inv X pins σ H s)(g:Df H a y o):s.TypeIs (.ref a) "dict":=by
 rcases g with ⟨kvs,k,e,_,_⟩ | ⟨kvs,k,b,e,_,_,_⟩
 ·obtain⟨_,_,vs,_,dd⟩:=sZ I.hok e;exact dd.typeIs
 ·obtain⟨_,_,xs,_,dd⟩:=EE I.hok e;exact dd.typeIs
noncomputable def YX (td ty:TE):TE:=fun σ H Q=>td σ H fun x H1=>ty σ H1 fun y H2=>∃ a v,x=.ref a/\Df H2 a y (some v)/\Q v H2
noncomputable def Zt (td ty tv:TE):TS:=fun D σ H=>tv σ H fun v H1=>td σ H1 fun x H2=>ty σ H2 fun y H3=>∃ a H4,x=.ref a/\O6 H3 a y v H4/\D.nx σ H4
section
variable {X:Cx}{o i e value:Expr}{pos pos' tpos:Pos}{td ty tv:TE}
theorem IM (hu:X.A.units+1 < cLine)(ho:PE X o td)(hi:PE X i ty)(hs:SQ i):PE X (.Subscript o i pos) (YX td ty):=by
 intro pins s σ H Q I h;refine PJ PySem.F.slot_dict_getitem.lookup hs (cH (ho pins s σ H _ I h) fun u s1 ⟨x,H1,I1,rx,q1⟩=>cH (hi pins s1 σ H1 _ I1 q1) ?_);rintro iv s2 ⟨y,H2,I2,ry,a,v,ex,g,q2⟩;subst ex;obtain rfl:u=Value.ref a:=rx;exact⟨EH I2 g,K9 hu I2 g ry fun w' s3 I3 rw'=>⟨v,H2,I3,rw',q2⟩⟩
theorem QH (hu:X.A.units+1 < cLine)(ho:PE X o td)(hi:PE X i ty)(hv:PE X value tv)(hs:swapsWith value (some (.Subscript o i pos')) pos.line X.env=pure false) :
  PS X (.Assign [.Subscript o i pos'] value pos) (Zt td ty tv):=by
 intro pins s σ H D I h;refine wpAny_Assign_Subscript (cH (hv pins s σ H _ I h) fun r s1 ⟨v,H1,I1,rv,q1⟩=>cH (ho pins s1 σ H1 _ I1 q1) fun u s2 ⟨x,H2,I2,rx,q2⟩=>cH (hi pins s2 σ H2 _ I2 q2) fun iv s3 ⟨y,H3,I3,ry,a,H4,ex,g,q3⟩=>?_) hs;subst ex;obtain rfl:u=Value.ref a:=rx;exact K8 hu I3 g ry rv fun s4 I4=>⟨σ,H4,I4,q3⟩
end
theorem EG {P:Program}{w:World}{H:Hp}(h:Heap)(hb:sysModules < h.objs.size):cY P w H (h.push { cls:=.type "dict",data:=.dict #[] }) h.objs.size (.dK []) :=
 ⟨Nat.zero_le _,beq_eq_false_iff_ne.mpr (Ne.symm (Nat.ne_of_lt hb)),[],.nil,Heap.DictOf.new h⟩
noncomputable def UU:TE:=fun _ H Q=>∀ p,H p=none->Q (.ref p) (upd H p (.dK []))
section
variable {X:Cx}{pos:Pos}
theorem M5:PE X (.Dict [] [] pos) UU:=fun pins s σ H Q I h =>
 wpAny_Dict_empty ⟨.ref s.heap.objs.size,_,I.laid (a:=s.heap.objs.size) (o:=.dK []) (t':=s.toks) (fun _ _ q=>Heap.get?_push_of_some _ q) (Nat.le_refl _) (EG s.heap I.big),rfl,h _ (I.hok.fresh (Nat.le_refl _))⟩
end
noncomputable def FI:List (TE×TE)->St->Hp->(List (V×V)->Hp->Prop)->Prop
 | [],_,H,Q=>Q [] H
 | (tk,tv)::r,σ,H,Q=>tk σ H fun x H1=>tv σ H1 fun y H2=>FI r σ H2 fun ps H3=>Q ((x,y)::ps) H3
noncomputable abbrev VV:List (V×V)->List (Value×Value)->Prop:=Paired fun p q=>RelV p.1 q.1/\RelV p.2 q.2
noncomputable def PPs (X:Cx)(pos:Pos)(keys:List (Option Expr))(values:List Expr)(Px:List (TE×TE)):Prop :=
 ∀ (pins:List (Addr×Obj)) (s:Shared) (σ:St) (H:Hp) (Q:List (V×V)->Hp->Prop),Inv X pins σ H s->FI Px σ H Q ->
  wpAny (model X.prog X.w) X.A (evalPairs (pairTrees keys values X.env pos)) (fun vs s'=>∃ ps H',Inv X pins σ H' s'/\VV ps vs/\Q ps H') X.xe s
theorem QK {X:Cx}{pos:Pos}:PPs X pos [] [] []:=fun pins s σ H Q I h=>pairTrees_nil_walk ⟨[],H,I,.nil,h⟩
theorem MW {X:Cx}{pos:Pos}{k v:Expr}{ks:List (Option Expr)}{vs:List Expr}{tk tv:TE}{Px:List (TE×TE)}(hk:PE X k tk)(hv:PE X v tv)(hr:PPs X pos ks vs Px) :
  PPs X pos (some k::ks) (v::vs) ((tk,tv)::Px):=fun pins s σ H Q I h =>
 pairTrees_cons_walk (cH (hk pins s σ H _ I h) (by rintro u s1 ⟨x,H1,I1,rx,q1⟩;exact cH (hv pins s1 σ H1 _ I1 q1) (by rintro w2 s2 ⟨y,H2,I2,ry,q2⟩;exact   cH (hr pins s2 σ H2 _ I2 q2) (by rintro ws s3 ⟨ps,H3,I3,rel,q3⟩;exact ⟨(x,y)::ps,H3,I3,.cons ⟨rx,ry⟩ rel,q3⟩))))
noncomputable def yf (kvs more:List (Key×V)):List (Key×V):=more.foldl (fun acc kv=>putK acc kv.1 kv.2) kvs
theorem KV.merge:∀ {more:List (Key×V)} {rs:List (Key×Value)} {kvs:List (Key×V)} {vs:List (Key×Value)},KV more rs->KV kvs vs->KV (yf kvs more) (merged vs rs):=by
 intro more rs kvs vs r;unfold KV at r
 induction r generalizing kvs vs with
 | nil=>intro q;exact q
 | @cons p q ps qs h t ih =>
  intro r0;have e:KV (putK kvs p.1 p.2) (stored vs q.1 q.2):=by
   have:=r0.put p.1 h.2;rw[<- h.1];exact this
  exact ih e
theorem pQ:∀ (more kvs:List (Key×V)),(yf kvs more).length<=kvs.length+more.length
 | [],kvs=>by show kvs.length<=kvs.length+0;omega
 | p::r,kvs=>by
  have h1:=pQ r (putK kvs p.1 p.2);have h2:=ng kvs p.1 p.2;show(yf (putK kvs p.1 p.2) r).length<=_;rw[List.length_cons];omega
theorem yK {P:Program}{w:World}:∀ {kvs:List (Key×V)} {ws:List (Value×Value)},VV (kvs.map fun kv=>(kV kv.1,kv.2)) ws->∃ rs,Carries (bZ P w) ws rs/\KV kvs rs
 | [],_,r=>by rw[List.map_nil] at r;cases r;exact⟨[],True.intro,.nil⟩
 | p::kvs,_,r=>by
  rw[List.map_cons] at r;cases r with
  | @cons a b as bs h t =>
   obtain⟨rs,c,q⟩:=yK (P:=P) (w:=w) t;obtain⟨b1,b2⟩:=b;exact⟨(p.1,b2)::rs,⟨Ek h.1,rfl,c⟩,.cons ⟨rfl,h.2⟩ q⟩
noncomputable def YW (Px:List (TE×TE)):TE:=fun σ H Q=>∀ p,H p=none->FI Px σ (upd H p (.dK [])) fun ps H2=>H2 p=some (.dK [])/\∃ kvs:List (Key×V),ps=kvs.map (fun kv=>(kV kv.1,kv.2))/\kvs.length<=15/\Q (.ref p) (upd H2 p (.dK (yf [] kvs)))
theorem QZ {X:Cx}{pos:Pos}{keys:List (Option Expr)}{values:List Expr}{Px:List (TE×TE)}(h:PPs X pos keys values Px)(hall:keys.all (·.isSome)=true)(hl:keys.length=values.length)(h0:keys≠[])
  (h15:keys.length<=15):PE X (.Dict keys values pos) (YW Px):=by
 intro pins s σ H Q I q;have hn:=I.hok.fresh (Nat.le_refl s.heap.objs.size);have I1:=I.laid (a:=s.heap.objs.size) (o:=.dK []) (h':=s.heap.push { cls:=.type "dict",data:=.dict #[] }) (t':=s.toks) (fun _ _ q=>Heap.get?_push_of_some _ q) (Nat.le_refl _) (EG s.heap I.big);refine wpAny_Dict_walk (knd:=bZ X.prog X.w) hall hl h0 h15 (cH (h pins _ σ _ _ I1 (q _ hn)) ?_);rintro ws s2 ⟨ps,H2,I2,rel,e,kvs,ep,lk,q2⟩;subst ep;obtain⟨rs,c,rk⟩:=yK (P:=X.prog) (w:=X.w) rel;obtain⟨z,hd,vs0,r0,dd⟩:=Ul I2.hok e;cases r0;refine⟨rs,c,dd,fun h' Um hs=>⟨.ref s.heap.objs.size,_,?_,rfl,q2⟩⟩;have hz:(yf [] kvs).length<=sizeLine:=by
  have h1:=pQ kvs [];rw[List.length_nil] at h1;rw[sizeLine_eq];omega
 have he:∃ q,h'.get? s.heap.objs.size=some q:=let ⟨q,_,_,hq,_⟩:=Um;⟨q,hq⟩;exact CF I2 (by rw[e];exact True.intro) hs he (Oq hz hd (rk.merge .nil) Um)
structure M2 (X:Cx)(o:Expr)(m:Str)(apos:Pos)(e f:Expr)(cpos:Pos):Prop where
 base:attributeBase o m X.env (eval o X.env)=eval o X.env
 few:((backTo cpos (starEach [e,f] X.env)).all (fun x=>!x.1) && (backToKw cpos (keywordEach [] X.env)).all (fun x=>x.1.isSome)
  && decide (([e,f]:List Expr).length+([]:List Keyword).length+(if ([]:List Keyword).isEmpty then 0 else 1) < 30))=true
 line:(apos.endLine == cpos.line)=true
 trees:backTo cpos (starEach [e,f] X.env)=[(false,eval e X.env),(false,eval f X.env)]
noncomputable def IsD (H:Hp)(a:Addr):Prop:=(∃ kvs,Rd H a (.dK kvs))∨∃ kvs,Rd H a (.dT kvs)
theorem WZ {X:Cx}{pins:List (Addr×Obj)}{σ:St}{H:Hp}{s:Shared}{a:Addr}(I:Inv X pins σ H s)(d:IsD H a) :
  s.TypeIs (.ref a) "dict"/\(∀ b,Value.ref a=.ref b->∃ ob,s.heap.get? b=some ob/\ob.dict=none)/\(a == sysModules)=false:=by
 rcases d with ⟨kvs,e⟩ | ⟨kvs,e⟩
 ·obtain⟨_,hd,vs,_,dd⟩:=sZ I.hok e;refine⟨dd.typeIs,fun b q=>?_,hd⟩;cases q;obtain⟨ob,_,_,h1,h2,_⟩:=dd;exact⟨ob,h1,h2.2.1⟩
 ·obtain⟨_,hd,xs,_,dd⟩:=EE I.hok e;refine⟨dd.typeIs,fun b q=>?_,hd⟩;cases q;obtain⟨ob,_,_,h1,h2,_⟩:=dd;exact⟨ob,h1,h2.2.1⟩
section
variable {X:Cx}{pins:List (Addr×Obj)}{σ:St}{H:Hp}{s:Shared}{a:Addr}{y d:V}{u r:Value}{o:Option V}{A:Around}{E:Value->Shared->Prop}
theorem Xm {Q:Value->Shared->Prop}(hu:A.units+1 < cLine)(I:Inv X pins σ H s)(g:Df H a y o)(ry:RelV y u)(rd:RelV d r)(h:∀ w' s',Inv X pins σ H s'->RelV (o.getD d) w'->Q w' s') :
  wpAny (model X.prog X.w) A (call (.builtin "dict.get") [.ref a,u,r]) Q E s:=by
 rcases g with ⟨kvs,k,e,ey,l⟩ | ⟨kvs,k,b,e,ey,eb,l⟩
 ·subst ey;obtain⟨z,hd,vs,rel,dd⟩:=sZ I.hok e;refine call_meetsIn PySem.F.slot_dict_get dd.typeIs PySem.F.entry_dict_get (PySem.F.args_dict_get_3 _ _ _) (meets_dict_get_default (bZ X.prog X.w) a (Ek ry) hd r) ⟨_,dd.mapOf,h _ _ (I.tok _) ?_⟩;rw[l];exact(rel.val k).getD rd
 ·subst ey;cases (show u=Value.ref b from ry);obtain⟨z,hd,xs,rel,dd⟩:=EE I.hok e;refine call_meetsIn PySem.F.slot_dict_get dd.typeIs PySem.F.entry_dict_get (PySem.F.args_dict_get_3 _ _ _) (meetsH_dict_get_default (tupleKind (bZ X.prog X.w)) a b hd r) ⟨tupleKind_room_in1 hu,k,xs,Co I.hok eb,dd,h _ _ (I.tok _) ?_⟩;rw[l];exact(rel.val k).getD rd
end
noncomputable def UX (td ty tx:TE):TE:=fun σ H Q=>td σ H fun x H1=>∃ a,x=.ref a/\IsD H1 a/\ty σ H1 fun y H2=>tx σ H2 fun z H3=>∃ o,Df H3 a y o/\Q (o.getD z) H3
section
variable {X:Cx}{o e f:Expr}{apos cpos:Pos}{td ty tx:TE}
theorem M6 (hu:X.A.units+1 < cLine)(ho:PE X o td)(he:PE X e ty)(hf:PE X f tx)(m:M2 X o "get" apos e f cpos):PE X (.Call (.Attribute o "get" apos) [e,f] [] cpos) (UX td ty tx):=by
 intro pins s σ H Q I h;refine wpAny_Call_method m.base m.few m.line PySem.F.plainAttrs_dict PySem.F.slot_dict_get PySem.F.type_dict_get (cH (ho pins s σ H _ I h) ?_);rintro u s1 ⟨x,H1,I1,rx,a,ex,d,q1⟩;subst ex;obtain rfl:u=Value.ref a:=rx;obtain⟨t1,t2,_⟩:=WZ I1 d;refine⟨t1,t2,?_⟩;rw[m.trees];refine Calls.callWith_builtin rfl (Calls.evalArgs_plain (Calls.spliced_cons (cH (he pins s1 σ H1 _ I1 q1) fun iv s2 ⟨y,H2,I2,ry,q2⟩ =>
  Calls.spliced_cons (cH (hf pins s2 σ H2 _ I2 q2) fun fv s3 ⟨z,H3,I3,rz,ov,g,q3⟩=>Calls.spliced_nil ?_))))
 exact Xm hu I3 g ry rz fun w' s4 I4 rw'=>⟨_,H3,I4,rw',q3⟩
end
section
variable {X:Cx}{pins:List (Addr×Obj)}{σ:St}{H:Hp}{s:Shared}{a:Addr}{kvs:List (Key×V)}{A:Around}{E:Value->Shared->Prop}
end
section
variable {X:Cx}{pins:List (Addr×Obj)}{σ:St}{H:Hp}{s:Shared}{a:Addr}{y:V}{u:Value}{A:Around}{E:Value->Shared->Prop}
end
end L2
namespace L2
open PySem PySem.Spec PyProof.Rows
section
variable {X:Cx}
end
section
variable {κ:Type} [DecidableEq κ]
end
end L2
set_option maxHeartbeats 4000000
namespace L2
open PySem PySem.Spec PyProof.Rows
noncomputable abbrev jT:Value->Shared->Prop:=fun _ _=>False
noncomputable abbrev s9 (X:Cx)(sc:Scope)(N:List Str)(cl:List (Str×Addr))(C:Addr)(s:Shared)(H:Hp)(fp:List Addr):Cx :=
 { X with N:=N,s₀:=s,H₀:=H,env:=compEnvC sc cl C X.env,outer:=X.stack,ex:=fp,fn:=fun _=>false,pn:=[],xe:=jT }
noncomputable def Ext (σ σ':St):Prop:=σ'.length=σ.length/\∀ (i:Nat) v,σ[i]?=some (some v)->σ'[i]?=some (some v)
noncomputable def HV (cs:List Expr)(env:Env):Sem Bool:=forIn cs true fun c r=>if r=true then do let ok <- isTrue c env (eval c env);pure (ForInStep.yield ok) else pure (ForInStep.yield r)
noncomputable def Yq (X:Cx)(cs:List Expr)(t:TT):Prop :=
 ∀ (pins:List (Addr×Obj)) (s:Shared) (σ:St) (H:Hp) (Q:Bool->Hp->Prop),Inv X pins σ H s->t σ H Q->wpAny (model X.prog X.w) X.A (HV cs X.env) (TP X pins σ Q) X.xe s
noncomputable def PC:TT:=fun _ H Q=>Q true H
theorem Qz {X:Cx}:Yq X [] PC:=fun pins s σ H Q I h=>wpAny_tests_nil ⟨H,I,h⟩
theorem Qy {X:Cx}{c:Expr}{t:TT}(hc:PT X c t):Yq X [c] t:=fun pins s σ H Q I h=>wpAny_tests_one (hc pins s σ H Q I h)
section
variable {prog:Program}{w:World}{A:Around}{R:Result->Shared->Prop}{s:Shared}
theorem La {elt target iter:Expr}{cs:List Expr}{scope:Scope}{pos:Pos}{it acc:Value}{env:Env}(J:Nat->Shared->Prop)
  (turn:∀ n s,J n s->wpAny (model prog w) A (pyNext it) (fun r s1=>match r with
   | none=>R (.ok .next) s1
   | some v=>wpAny (model prog w) A (letOwnedTupleGo target it v) (fun _ s2=>wpAny (model prog w) A (assign target env v) (fun _ s3 =>
     wpAny (model prog w) A (HV cs env) (fun ok s4=>if ok=true then wpAny (model prog w) A (eval elt env) (fun x s5 =>
       wpAny (model prog w) A (call (.builtin "list.append") [acc,x]) (fun _ s6=>∃ m,m < n/\J m s6) jT s5) jT s4
      else ∃ m,m < n/\J m s4) jT s3) jT s2) jT s1) jT s) (n:Nat) (h:J n s) :
  codeAny (model prog w) A (.compLoop (.ListComp elt [⟨target,iter,cs,0⟩] scope pos) 0 it acc env) R s:=by
 refine codeAny_loop rfl J (fun k s' hk=>?_) n h;show wpAny (model prog w) A ((compTurn (.ListComp elt [⟨target,iter,cs,0⟩] scope pos) 0 it acc env).onRaise (fun x=>do noteFrame x env;theTreesLotGoes x)) _ _ s';refine wpAny_noted ?_;have no:∀ (e:Value) (s2:Shared),jT e s2->notedBy (model prog w) A env (fun e s'=>R (.error e) s') e s2:=fun _ _ f=>f.elim;rw[compTurn_list];refine wpAny_bind (wpAny_standAt (wpAny_bind (wpAny_mono (turn k s' hk) (fun r s1 g1=>?_) no)));cases r with
 | none=>exact wpAny_pure g1
 | some v =>
  refine wpAny_bind (wpAny_mono g1 (fun _ s2 g2=>?_) no);refine wpAny_bind (wpAny_mono g2 (fun _ s3 g3=>?_) no);refine wpAny_bind (wpAny_mono g3 (fun ok s4 g4=>?_) no);cases ok with
  | false=>exact wpAny_pure ⟨rfl,g4⟩
  | true=>exact wpAny_bind (wpAny_bind (wpAny_mono g4 (fun x s5 g5=>wpAny_bind (wpAny_mono g5 (fun _ s6 g6=>wpAny_pure (wpAny_pure ⟨rfl,g6⟩)) no)) no))
end
noncomputable def OJ (J:It)(g:TG)(tt:TT)(te:TE)(σ0:St)(W:Nat->Nat->List V->Hp->Prop)(R:List V->Hp->Prop):Prop :=
 ∀ i m ys H,W i m ys H->(J.stop i H/\R ys H)∨(J.go i H/\∃ F:List V->Hp->Prop,(∀ ys' H',F ys' H'->∃ m',m' < m/\W (i+1) m' ys' H')/\∀ x H',J.FE i H x H'->g x σ0 H' fun σ2 H2=>Ext σ0 σ2/\tt σ2 H2 fun b H3 =>
  if b=true then te σ2 H3 fun v H4=>ys.length < sizeLine/\F (ys++[v]) H4 else F ys H3)
structure nV (X:Cx)(sc:Scope)(cl:List (Str×Addr))(own:Nat)(N:List Str)(fr:List Nat):Prop where
 kind:sc.kind=.function
 names:∀ x∈sc.names,x.2=.local->sc.names.lookup x.1=some .local
 Cj:∀ x∈sc.names,x.2≠.cell
 clos:closureFor sc X.env=pure cl
 cells:∀ x c,cl.lookup x=some c->X.env.cells.lookup x=some c
 has:∀ x,((relabel sc X.env).names.lookup x=some .cell∨(relabel sc X.env).names.lookup x=some .free)->∃ c,cl.lookup x=some c
 len:N.length=own+fr.length
 fro:∀ (i:Nat) j,fr[i]?=some j->∃ x,N[own+i]?=some x/\X.N[j]?=some x/\(X.env.kindOf x=some .cell∨X.env.kindOf x=some .free)/\((relabel sc X.env).names.lookup x=some .cell∨(relabel sc X.env).names.lookup x=some .free)
noncomputable def S9 (env:Env):List (Str×Addr)->Prop
 | []=>True
 | p::r=>env.cells.lookup p.1=some p.2/\S9 env r
theorem S9.mem {env:Env}:∀ {cl:List (Str×Addr)},S9 env cl->∀ p∈cl,env.cells.lookup p.1=some p.2
 | [],_,_,h=>nomatch h
 | _::_,h,p,hp=>by
  rcases List.mem_cons.mp hp with rfl | hp
  ·exact h.1
  ·exact h.2.mem p hp
noncomputable def Cu (k:Option NameKind):Bool:=match k with
 | some .cell=>true
 | some .free=>true
 | _=>false
theorem Jc {k:Option NameKind}(h:Cu k=true):k=some .cell∨k=some .free:=by
 cases k with
 | none=>cases h
 | some k=>cases k <;> first | exact .inl rfl | exact .inr rfl | cases h
noncomputable def Ji (X:Cx)(sc:Scope):List Str->List Nat->Bool
 | [],[]=>true
 | x::ns,j::fr=>decide (X.N[j]?=some x) && Cu (X.env.kindOf x) && Cu ((relabel sc X.env).names.lookup x) && Ji X sc ns fr
 | _,_=>false
theorem Et {X:Cx}{sc:Scope}:∀ {ns:List Str} {fr:List Nat},Ji X sc ns fr=true->ns.length=fr.length/\∀ (i:Nat) j,fr[i]?=some j->∃ x,ns[i]?=some x/\X.N[j]?=some x/\Cu (X.env.kindOf x)=true/\Cu ((relabel sc X.env).names.lookup x)=true
 | [],[],_=>⟨rfl,fun i j h=>by simp at h⟩
 | [],_::_,h=>by cases h
 | _::_,[],h=>by cases h
 | x::ns,j::fr,h=>by
  have h:(decide (X.N[j]?=some x) && Cu (X.env.kindOf x) && Cu ((relabel sc X.env).names.lookup x) && Ji X sc ns fr)=true:=h;rw[Bool.and_eq_true,Bool.and_eq_true,Bool.and_eq_true] at h;obtain⟨⟨⟨h1,h2⟩,h3⟩,h4⟩:=h;obtain⟨l,g⟩:=Et h4;refine⟨by simp[l],fun i k e=>?_⟩;cases i with
  | zero=>cases e;exact⟨x,rfl,of_decide_eq_true h1,h2,h3⟩
  | succ i=>exact g i k e
theorem bf {X:Cx}{sc:Scope}{cl:List (Str×Addr)}(ZV frN:List Str)(fr:List Nat)(kind:sc.kind=.function)(names:(sc.names.all fun x=>x.2 != .local || sc.names.lookup x.1 == some .local)=true)
  (Cj:(sc.names.all fun x=>x.2 != .cell)=true) (clos:closureFor sc X.env=pure cl) (cells:S9 X.env cl) (has:((relabel sc X.env).names.all fun y=>!Cu (some y.2) || (cl.lookup y.1).isSome)=true)
  (len:frN.length=fr.length) (fro:Ji X sc frN fr=true):nV X sc cl ZV.length (ZV++frN) fr where
 kind:=kind
 names:=fun x hx hl=>by
  have:=List.all_eq_true.mp names x hx;rw[hl] at this;simpa using this
 Cj:=fun x hx=>by simpa using List.all_eq_true.mp Cj x hx
 clos:=clos
 cells:=fun x c h=>cells.mem (x,c) (PySem.mem_of_lookup h)
 has:=fun x h=>by
  obtain⟨k,hk,e⟩:∃ k,(relabel sc X.env).names.lookup x=some k/\Cu (some k)=true:=by
   rcases h with h | h
   ·exact⟨_,h,rfl⟩
   ·exact⟨_,h,rfl⟩
  have:=List.all_eq_true.mp has (x,k) (PySem.mem_of_lookup hk);rw[e] at this;exact Option.isSome_iff_exists.mp (by simpa using this)
 len:=by rw[List.length_append,len]
 fro:=fun i j e=>by
  obtain⟨_,g⟩:=Et fro;obtain⟨x,e1,e2,e3,e4⟩:=g i j e;refine⟨x,?_,e2,Jc e3,Jc e4⟩;rw[List.getElem?_append_right (Nat.le_add_right _ _),Nat.add_sub_cancel_left];exact e1
noncomputable def A9 (own:Nat)(fr:List Nat)(σ:St):St:=List.replicate own none++fr.map fun j=>(σ[j]?).join
section
variable {X:Cx}{sc:Scope}{cl:List (Str×Addr)}{own:Nat}{N:List Str}{fr:List Nat}
theorem U3 {σ:St}{i:Nat}{v:V}(h:(A9 own fr σ)[i]?=some (some v)):∃ k j,i=own+k/\fr[k]?=some j/\σ[j]?=some (some v):=by
 unfold A9 at h;by_cases hi:i < own
 ·rw[List.getElem?_append_left (by simpa using hi),List.getElem?_replicate,if_pos hi] at h;cases h
 ·rw[List.getElem?_append_right (by simpa using hi),List.length_replicate,List.getElem?_map] at h;cases e:fr[i - own]? with
  | none=>rw[e] at h;cases h
  | some j =>
   rw[e] at h;have h:(σ[j]?).join=some v:=Option.some.inj h;refine⟨i - own,j,by omega,e,?_⟩;cases q:σ[j]? with
   | none=>rw[q] at h;cases h
   | some o=>rw[q] at h;exact congrArg some h
theorem Lg {pins:List (Addr×Obj)}{σ:St}{H:Hp}{s:Shared}{fp:List Addr}{h1:Heap}{m1:Str->Option Value}{t:Nat}{C D:Addr}{od:Obj}(S:nV X sc cl own N fr)(I:Inv X pins σ H s)(hfp:∀ b∈fp,vU X pins H b)
  (hob:∀ b∈fp,∃ o,s.heap.get? b=some o) (kp:∀ b o,s.heap.get? b=some o->h1.get? b=some o) (hC:s.heap.objs.size<=C) (hns:h1.Ns C m1) (hD:s.heap.objs.size<=D) (hDC:D≠C) (ho:h1.get? D=some od) (hod:∀ v,od.data≠.cell v) :
  Inv (s9 X sc N cl C s H fp) [(D,od)] (A9 own fr σ) H { s with heap:=h1,toks:=t }:=by
 have PF:∀ b∈fp,b < s.heap.objs.size:=fun b hb=>let ⟨o,e⟩:=hob b hb;Heap.lt_size e;refine⟨⟨I.ok.mod,S.kind,I.ok.glob,I.ok.blt,hC,fun x y c a b=>I.ok.inj x y c (S.cells x c a) (S.cells y c b),S.has,(fun x c z=>nomatch z),I.ok.hd,I.ok.frames,.inl rfl,fun b hb=>?_,I.bs,Nat.le_trans I.ok.SD I.sz,fun b o e hb=>?_,fun b hb hf=>?_,I.stack,I.H9⟩,
  rfl,I.bare,Un.kept kp,⟨m1,hns,fun i x v e1 e2 e3=>?_⟩,fun x c e=>?_,I.hok.fresh hC,fun x c e=>I.nC x c (S.cells x c e),fun p hp=>?_,I.hok.kept kp,?_⟩
 ·exact⟨Nat.ne_of_lt (Nat.lt_of_lt_of_le (PF b hb) hC),fun x c e=>(hfp b hb).2.2.2.2.1 x c (S.cells x c e)⟩
 ·rcases(hfp b hb).2.2.2.1 with z | z
  ·exact I.ok.NB b o e z
  ·exact absurd (Nat.lt_of_lt_of_le (Heap.lt_size e) (Nat.le_trans I.ok.SD z)) (Nat.lt_irrefl _)
 ·rcases List.mem_cons.mp (I.A6 b hf) with z | z
  ·exact(hfp b hb).2.1 z
  ·exact(hfp b hb).2.2.1 z
 ·obtain⟨k,j,rfl,ej,eσ⟩:=U3 e2;obtain⟨y,n1,n2,k1,k2⟩:=S.fro k j ej;have e1:N[own+k]?=some x:=e1;rw[n1] at e1;cases e1;obtain⟨m,hn,hl⟩:=I.loc;obtain⟨u,ru,l⟩:=hl j x v n2 eσ (by rcases k1 with z | z;exact .inr (.inl z);exact .inr (.inr z));refine⟨u,ru,.inr ⟨k2,?_⟩⟩;obtain⟨c,hc⟩:=S.has x k2;refine⟨c,hc,?_⟩;rcases l with ⟨q,_⟩ | ⟨_,c',e',z⟩
  ·rcases k1 with k1 | k1 <;> (rw[k1] at q;cases q)
  ·have:=S.cells x c hc;rw[e'] at this;cases this;obtain⟨o,Uh,h2'⟩:=z;exact⟨o,kp _ _ Uh,h2'⟩
 ·obtain⟨v,o,Uh,h2'⟩:=I.cell x c (S.cells x c e);exact⟨v,o,kp _ _ Uh,h2'⟩
 ·have hp:p=(D,od):=by simpa using hp
  subst hp;refine⟨ho,I.hok.fresh hD,hDC,fun hf=>?_,hod⟩;have:D∈X.env.locals::X.fs:=I.A6 D hf;rcases List.mem_cons.mp this with z | z
  ·exact absurd (Nat.lt_of_lt_of_le I.lt hD) (by rw[z];exact Nat.lt_irrefl _)
  ·exact I.Z5 hD z
 ·unfold A9;rw[List.length_append,List.length_replicate,List.length_map];exact S.len.symm
theorem Lh {pins pl:List (Addr×Obj)}{σ τ:St}{H H':Hp}{s s':Shared}{fp:List Addr}{C D:Addr}{ys:List V}{its:List Value}{n:Nat}(I:Inv X pins σ H s)(hfp:∀ b∈fp,vU X pins H b)(hC:s.heap.objs.size<=C)(hD:s.heap.objs.size<=D)
  (B:Inv (s9 X sc N cl C s H fp) pl τ H' s') (hn:H' D=none) (ho:s'.heap.get? D=some { cls:=.type "list",data:=.seq its.toArray n }) (r:Vals ys its) (hz:ys.length<=sizeLine) :
  Inv X pins σ (upd H' D (.lst ys)) s':=by
 have ne:∀ b o,s.heap.get? b=some o->b≠D:=fun b o e=>Nat.ne_of_lt (Nat.lt_of_lt_of_le (Heap.lt_size e) hD);have nt:∀ b u,H' b=some u->b≠D:=fun b u e=>bK e hn;refine I.a1D (ch:=fp) B.os ⟨B.base.keep,B.base.slot,fun b o e q hx=>?_,B.base.there,fun b xs e=>?_,fun b o u e=>?_,fun b ps e=>?_⟩ (fun b u e=>?_) B.bare fun b hb=>?_
 ·rw[aQ (ne b o e)];exact B.base.free b o e q hx
 ·have:=B.base.tups b xs e;rw[aQ (nt _ _ this)];exact this
 ·have:=B.base.zS b o u e;rw[aQ (nt _ _ this)];exact this
 ·obtain⟨mo,this⟩:=B.base.AZ b ps e;exact⟨mo,by rw[aQ (nt _ _ this)];exact this⟩
 ·by_cases hb:b=D
  ·subst hb;rw[eY] at e;cases e;exact⟨hz,its,n,r,ho⟩
  ·rw[aQ hb] at e;exact(B.hok b u e).stay (fun _ _ _ q=>q) (fun c q=>by rw[aQ (nt _ _ q)];exact q) fun c xs q=>by rw[aQ (nt _ _ q)];exact q
 ·obtain⟨_,f1,_,f3,f4,f5⟩:=hfp b hb;exact⟨f3,f1,f4,f5⟩
end
end L2
namespace L2
open PySem PySem.Spec PyProof.Rows
section
variable {X:Cx}{sc:Scope}{cl:List (Str×Addr)}{own:Nat}{N:List Str}{fr:List Nat}
theorem Inv.MX {pins xV:List (Addr×Obj)}{σ:St}{H:Hp}{s:Shared}(I:Inv X pins σ H s)(h:∀ p∈xV,p∈pins):Inv X xV σ H s:=I.wI fun p hp=>I.pin p (List.mem_append_right _ (h p hp))
theorem AF {elt tg iter:Expr}{cs:List Expr}{pos:Pos}{g:TG}{tt:TT}{te:TE}{pins:List (Addr×Obj)}{σ:St}{H:Hp}{s:Shared}{it:Addr}{fp:List Addr}{tn:Nat->Heap->Prop}{J:It}{RR:Value->Addr->Result->Shared->Prop}
  (S:nV X sc cl own N fr) (hc:X.calm=true) (I:Inv X pins σ H s) (T:Turn X.prog X.w X.K tg J fp it tn) (st:tn 0 s.heap) (hfp:∀ b∈fp,vU X pins H b)
  (hg:∀ C s H,PG (s9 X sc N cl C s H fp) tg g) (ht:∀ C s H,Yq (s9 X sc N cl C s H fp) cs tt) (he:∀ C s H,PE (s9 X sc N cl C s H fp) elt te)
  {W:Nat->Nat->List V->Hp->Prop} {R:List V->Hp->Prop} (w0:∃ m,W 0 m [] H) (walk:OJ J g tt te (A9 own fr σ) W R)
  (fin:∀ D C H' ys s' m,s'.heap.Ns C m->H' D=none->vU X pins (upd H' D (.lst ys)) C->Inv X pins σ (upd H' D (.lst ys)) s'->R ys H'->RR (.ref D) C (.ok .next) s') :
  wpAny (model X.prog X.w) X.A (newList []) (fun acc s3=>wpAny (model X.prog X.w) X.A (newFunctionEnv sc X.env.globals cl [] X.env.qual none .none (some X.env)) (fun cenv s4 =>
   codeAny (model X.prog X.w) X.A (.compStart (.ListComp elt [⟨tg,iter,cs,0⟩] sc pos) 0 (.ref it) acc { cenv with scope:=relabel sc X.env }) (RR acc cenv.locals) s4) X.xe s3) X.xe s:=by
 refine wpAny_newObj_type (wpAny_newFunctionEnv S.Cj (by intro y hy;simp at hy) (fun h1 hns R8=>?_) S.kind);dsimp only at hns R8 ⊢;generalize hH:s.heap.push { cls:=.type "list",dict:=none,data:=.seq ([]:List Value).toArray }=hp at hns R8 ⊢;have sC:hp.objs.size=s.heap.objs.size+1:=by rw[<- hH,Heap.size_push]
 have hDC:s.heap.objs.size≠hp.objs.size:=by omega
 have kp:∀ b o,s.heap.get? b=some o->h1.get? b=some o:=fun b o e=>by
  have l:=Heap.lt_size e;exact R8.extBut b o (Nat.ne_of_lt (by rw[sC];exact Nat.lt_succ_of_lt l)) (Heap.get?_push_of_some _ (hH ▸ Heap.get?_push_of_some _ e))
 have hD1:h1.get? s.heap.objs.size=some { cls:=.type "list",data:=.seq ([]:List Value).toArray }:=R8.extBut _ _ hDC (Heap.get?_push_of_some _ (hH ▸ Heap.get?_push_size _ rfl));have PF:∀ b∈fp,b < s.heap.objs.size:=fun b hb=>let ⟨o,e,_⟩:=T.obj 0 _ st b hb;Heap.lt_size e;generalize hCC:hp.objs.size=C at *;generalize hDD:s.heap.objs.size=D at *;have I1:∀ t,Inv (s9 X sc N cl C s H fp) [(D,{ cls:=.type "list",data:=.seq ([]:List Value).toArray })] (A9 own fr σ) H { s with heap:=h1,toks:=t }:=fun t =>
  Lg S I hfp (fun b hb=>let ⟨o,e,_⟩:=T.obj 0 _ st b hb;⟨o,e⟩) kp (by omega) hns (by omega) hDC hD1 (by intro v z;cases z)
 have st1:tn 0 h1:=T.keep 0 _ _ st fun b hb o e=>kp b o e;have fpo:∀ {H':Hp} {s':Shared} {τ:St} {pl:List (Addr×Obj)} {od:Obj},Inv (s9 X sc N cl C s H fp) pl τ H' s'->(∀ p∈pl,p.1=D)->(∀ b∈fp,H' b=none)->∀ b∈fp,vU (s9 X sc N cl C s H fp) pl H' b:=fun {H' s' τ pl od} B hpl hn b hb=>by
  have q:=PF b hb;refine⟨hn b hb,(B.ok.exf b hb).1,B.ok.Oh b hb,.inl hb,(B.ok.exf b hb).2,fun p hp=>?_⟩;have hp:p∈pl:=by simpa using hp
  rw[hpl p hp];exact(Nat.ne_of_lt q).symm
 have loop:∀ t,codeAny (model X.prog X.w) X.A (.compLoop (.ListComp elt [⟨tg,iter,cs,0⟩] sc pos) 0 (.ref it) (.ref D) (compEnvC sc cl C X.env)) (RR (.ref D) C) { s with heap:=h1,toks:=t }:=by
  intro t;obtain⟨m0,w0⟩:=w0;refine La (fun n s'=>∃ i ys its k H',Inv (s9 X sc N cl C s H fp) [(D,{ cls:=.type "list",data:=.seq (List.toArray its) k })] (A9 own fr σ) H' s'/\tn i s'.heap/\(∀ b∈fp,H' b=none)/\Vals ys its/\ys.length<=sizeLine/\W i n ys H') ?_ m0
   ⟨0,[],[],_,H,I1 t,st1,fun b hb=>(hfp b hb).1,.nil,Nat.zero_le _,w0⟩
  rintro n s2 ⟨i,ys,its,k,H2,B2,st2,fr2,rv,hz,w2⟩;have pD:=B2.pin (D,{ cls:=.type "list",data:=.seq (List.toArray its) k }) (List.mem_append_right _ (List.mem_singleton.mpr rfl));rcases walk i n ys H2 w2 with ⟨stop,rr⟩ | ⟨go,nx,hnx,tk⟩
  ·refine wpAny_mono (T.done (s9 X sc N cl C s H fp) rfl rfl rfl hc i _ s2 _ H2 jT B2 (fpo (od:=default) B2 (by simp) fr2) st2 stop) (fun r s3 ⟨hr,B3⟩=>?_) fun _ _ z=>z;subst hr;obtain⟨m3,n3,_⟩:=B3.loc;have pD3:=B3.pin (D,{ cls:=.type "list",data:=.seq (List.toArray its) k }) (List.mem_append_right _ (List.mem_singleton.mpr rfl));refine fin D C H2 ys s3 m3 n3 pD3.2.1 ?_ (Lh I hfp (by omega) (by omega) B3 pD3.2.1 pD3.1 rv hz) rr;exact I.Eu (by omega) (by rw[aQ (Ne.symm hDC)];exact B3.free)
  ·refine wpAny_mono (T.item (s9 X sc N cl C s H fp) rfl rfl rfl hc i _ s2 _ H2 jT B2 (fpo (od:=default) B2 (by simp) fr2) st2 go) (fun r s3 ⟨u,hr,g3⟩=>?_) fun _ _ z=>z;subst hr;refine wpAny_mono g3 (fun _ s4 ⟨x,H4,B4,rx,y4,st4,fr4⟩=>?_) fun _ _ z=>z;have B5:=B4.pinned (fpo (od:=default) B4 (by simp) fr4) (T.obj _ _ st4);refine wpAny_mono (hg C s H _ s4 _ H4 x u _ B5 rx (tk x H4 y4)) (fun _ s5 ⟨σ5,H5,B6,ex,q5⟩=>?_) fun _ _ z=>z;refine wpAny_mono (ht C s H _ s5 σ5 H5 _ B6 q5) (fun b s6 ⟨H6,B7,q6⟩=>?_) fun _ _ z=>z;have back:∀ {H':Hp} {s':Shared},Inv (s9 X sc N cl C s H fp) ([(D,{ cls:=.type "list",data:=.seq (List.toArray its) k })]++xU fp s4.heap) σ5 H' s'->tn (i+1) s'.heap/\∀ b∈fp,H' b=none:=fun {H' s'} B=>by
    refine⟨T.keep _ _ _ st4 fun b hb o e=>(B.pin (b,o) (List.mem_append_right _ (List.mem_append_right _ (lJ hb e)))).1,fun b hb=>?_⟩;obtain⟨o,e,_⟩:=T.obj _ _ st4 b hb;exact(B.pin (b,o) (List.mem_append_right _ (List.mem_append_right _ (lJ hb e)))).2.1
   cases b with
   | false =>
    obtain⟨m',hm,w'⟩:=hnx _ _ q6;obtain⟨t7,f7⟩:=back B7;exact⟨m',hm,i+1,ys,its,k,H6,(B7.rC).weak ex.1.symm ex.2,t7,f7,rv,hz,w'⟩
   | true =>
    refine wpAny_mono (he C s H _ s6 σ5 H6 _ B7 q6) (fun x7 s7 ⟨v7,H7,B8,r7,hz7,q7⟩=>?_) fun _ _ z=>z;obtain⟨m',hm,w'⟩:=hnx _ _ q7;obtain⟨t8,f8⟩:=back B8;have V8:=B8.pin (D,{ cls:=.type "list",data:=.seq (List.toArray its) k }) (List.mem_append_right _ (List.mem_append_left _ (List.mem_singleton.mpr rfl)));have lz:its.length=ys.length:=rv.length.symm;refine call_meets F.slot_list_append ⟨_,V8.1,rfl⟩ F.entry_list_append (F.args_list_append_2 _ _) (PySem.list_append D its.toArray k x7 (by rw[List.size_toArray];omega)) ⟨V8.1,?_⟩;have q:=PySem.IsL.update V8.1 (·.push x7);have eo:its.toArray.push x7=(its++[x7]).toArray:=by simp
    have B9:Inv (s9 X sc N cl C s H fp) [] (A9 own fr σ) H7 { s7 with heap:=s7.heap.update D (Obj.mapSeq (·.push x7)) } :=
     Inv.turned (t':=s7.toks) (((B8.MX (xV:=[]) (by intro p hp;simp at hp)).weak ex.1.symm ex.2)) (fun b o hb e=>(Heap.get?_update_other _ _ (Ne.symm hb)).trans e) V8.2.1 hDC (.inr (by show s.heap.objs.size<=D;omega)) (fun y c e z=>by
      have:=B8.cell y c e;obtain⟨v,o,Uh,h2'⟩:=this;have Uh:s7.heap.get? c=some o:=Uh;rw[z,V8.1] at Uh;cases Uh;cases h2') (by intro p hp;simp at hp)
    have B10:∀ o',(s7.heap.update D (Obj.mapSeq (·.push x7))).get? D=some o'->(∀ v,o'.data≠.cell v)->Inv (s9 X sc N cl C s H fp) [(D,o')] (A9 own fr σ) H7 { s7 with heap:=s7.heap.update D (Obj.mapSeq (·.push x7)) }:=fun o' e1 e2 =>
     Inv.wI B9 fun p hp=>by
      have hp:p=(D,o'):=by simpa using hp
      subst hp;exact⟨e1,V8.2.1,hDC,V8.2.2.2.1,e2⟩
    rw[eo] at q;refine⟨m',hm,i+1,ys++[v7],its++[x7],_,H7,B10 _ q (by intro v z;cases z),T.keep _ _ _ t8 fun b hb o e=>(Heap.get?_update_other _ _ (Nat.ne_of_gt (PF b hb))).trans e,f8,rv.append (.cons r7 .nil),by rw[List.length_append,List.length_singleton];omega,w'⟩
 exact codeAny_compStart_list (loop _) (T.self _ 0 _ _ _ st1 (loop _))
noncomputable def HZ (own:Nat)(fr:List Nat)(wi:TI)(g:TG)(tt:TT)(te:TE):TE:=fun σ H Q=>wi σ H fun J H1=>∃ W:Nat->Nat->List V->Hp->Prop,(∃ m,W 0 m [] H1) /\
 OJ J g tt te (A9 own fr σ) W fun ys H2=>∀ p,H2 p=none->Q (.ref p) (upd H2 p (.lst ys))
theorem Q0 {elt tg iter:Expr}{cs:List Expr}{pos:Pos}{wi:TI}{g:TG}{tt:TT}{te:TE}(S:nV X sc cl own N fr)(hc:X.calm=true)(hi:PI X tg iter wi)(hg:∀ C s H fp,PG (s9 X sc N cl C s H fp) tg g)
  (ht:∀ C s H fp,Yq (s9 X sc N cl C s H fp) cs tt) (he:∀ C s H fp,PE (s9 X sc N cl C s H fp) elt te) (hs:∀ x,foldedSetIterable iter X.env x=pure x:=by intro _;rfl) :
  PE X (.ListComp elt [⟨tg,iter,cs,0⟩] sc pos) (HZ own fr wi g tt te):=by
 intro pins s σ H Q I h;rw[eval_ListComp];refine wpAny_comprehension_free (use:=none) rfl hs S.clos S.kind S.names (cH (hi pins s σ H _ I h) fun v s1 h1=>cH h1 fun itv s2 h2=>?_);obtain⟨it,fp,tn,J,H2,e,I2,T,st2,f2,W,w0,walk⟩:=h2;subst e;refine AF (RR:=fun acc C=>compPost (model X.prog X.w) X.A X.xe none (EP X pins σ Q) acc C) S hc I2 T st2 f2 (fun C s H=>hg C s H fp) (fun C s H=>ht C s H fp) (fun C s H=>he C s H fp) w0 walk ?_;intro D C H' ys s' m hn hD fC I' rr;obtain⟨f0,f1,f2',f3,f4,f5⟩:=fC;exact⟨m,hn,fun h' hs'=>⟨.ref D,_,Inv.turned (t':=s'.toks) I' (fun b o hb e=>hs'.extBut b o hb e) f0 f1 f3 f4 f5,rfl,rr D hD⟩⟩
theorem IJ {elt tg iter:Expr}{cs:List Expr}{pos spos py:Pos}{wi:TI}{g:TG}{tt:TT}{te:TE}{i:Nat}{y:Str}(hN:X.N.Nodup)(hiy:X.N[i]?=some y)(hy:Loc X.env.scope y)(S:nV X sc cl own N fr)(hc:X.calm=true)(hi:PI X tg iter wi)
  (hg:∀ C s H fp,PG (s9 X sc N cl C s H fp) tg g) (ht:∀ C s H fp,Yq (s9 X sc N cl C s H fp) cs tt) (he:∀ C s H fp,PE (s9 X sc N cl C s H fp) elt te)
  (hsw:swapsWith (.ListComp elt [⟨tg,iter,cs,0⟩] sc pos) (some (.Name y py)) spos.line X.env=pure true:=by rfl) (hs:∀ x,foldedSetIterable iter X.env x=pure x:=by intro _;rfl)
  (hf:X.fn y=true∨X.env.scope.names.lookup y=some .local:=by first | exact .inl rfl | exact .inr rfl | assumption) :
  PS X (.Assign [.Name y py] (.ListComp elt [⟨tg,iter,cs,0⟩] sc pos) spos) (UY (HZ own fr wi g tt te) (Ob i)):=by
 intro pins s σ H D0 I h;rw[exec_Assign_Name_used _ _ _ _ hsw];refine wpAny_bind (wpAny_standAt (wpAny_bind ?_));show wpAny _ X.A (do let _ <- comprehension (.ListComp elt [⟨tg,iter,cs,0⟩] sc pos) sc X.env _ (newList []) false (eval iter X.env) (some (assign (.Name y py) X.env))) _ _ s;refine wpAny_bind (cH (wpAny_comprehension_free (use:=some (assign (.Name y py) X.env)) (Q:=fun _ s'=>SP X pins D0 .next s') rfl hs S.clos S.kind S.names
  (cH (hi pins s σ H _ I h) fun v s1 h1=>cH h1 fun itv s2 h2=>?_)) fun _ s' hq=>wpAny_pure (wpAny_pure hq))
 obtain⟨it,fp,tn,J,H2,e,I2,T,st2,f2,W,w0,walk⟩:=h2;subst e;refine AF (RR:=fun acc C=>compPost (model X.prog X.w) X.A X.xe (some (assign (.Name y py) X.env)) (fun _ s'=>SP X pins D0 .next s') acc C) S hc I2 T st2 f2 (fun C s H=>hg C s H fp) (fun C s H=>ht C s H fp) (fun C s H=>he C s H fp) w0 walk ?_;intro D C H' ys s' m hn hD fC I' rr;obtain⟨f0,f1,f2',f3,f4,f5⟩:=fC;show wpAny _ X.A (assign (.Name y py) X.env (.ref D)) _ _ _;refine wpAny_assign_Name (Ak I' hN hiy hy (v:=.ref D) rfl (fun s2 I2 ⟨a,sb,ha⟩=>?_) hf);have aC:C≠a:=by
  rcases ha with z | z
  ·rw[z];exact f1
  ·exact fun q=>f4 y a z q.symm
 exact⟨m,hn.sameBut sb aC,fun h' hs'=>⟨_,_,Inv.turned (t':=s2.toks) I2 (fun b o hb e=>hs'.extBut b o hb e) f0 f1 f3 f4 f5,rr D hD⟩⟩
end
noncomputable def a3Q (K:PySem.W.Frag)(tl:TE):TI:=fun σ H R=>tl σ H fun x H1=>∃ a,x=.ref a/\(((∃ xs,mD K H1 a xs)/\R (Itl K a) H1)∨((∃ xs,mC K H1 a xs)/\R (Itt K a) H1))
theorem VW {X:Cx}{tg l:Expr}{tl:TE}(hl:PE X l tl):PI X tg l (a3Q X.K tl):=by
 intro pins s σ H R I h;refine cH (hl pins s σ H _ I h) ?_;rintro v s1 ⟨x,H1,I1,r1,q1⟩;obtain⟨a,e,q⟩:=q1;subst e;cases r1;have fo:∀ b∈[s1.heap.objs.size],vU X pins H1 b:=fun b hb=>by
  have e:b=s1.heap.objs.size:=by simpa using hb
  subst e;exact I1.Eu (Nat.le_refl _) (I1.hok.fresh (Nat.le_refl _))
 rcases q with ⟨⟨xs,hq⟩,q⟩ | ⟨⟨xs,hq⟩,q⟩
 ·obtain⟨its,rv,p,hz⟩:=I1.list hq;refine wpAny_pyIter_list p.isList ?_;exact⟨s1.heap.objs.size,[s1.heap.objs.size],_,_,H1,rfl,I1.kept (t':=s1.toks) fun b o e=>Heap.get?_push_of_some _ e,JS a _,⟨_,Heap.get?_push_size _ rfl,rfl,rfl⟩,fo,q⟩
 ·obtain⟨its,rv,p,hz⟩:=I1.tuple hq;refine wpAny_pyIter_tuple (show s1.heap.IsTuple a its.toArray from p) ?_;exact⟨s1.heap.objs.size,[s1.heap.objs.size],_,_,H1,rfl,I1.kept (t':=s1.toks) fun b o e=>Heap.get?_push_of_some _ e,FG a _,⟨_,Heap.get?_push_size _ rfl,rfl,rfl⟩,fo,q⟩
end L2
namespace Hw
open PySem PySem.Spec
noncomputable def lt (a b:Str):Bool:=ltCps a.cps.toList b.cps.toList
theorem Uu:∀ a:List Nat,ltCps a a=false
 | []=>rfl
 | x::r=>by simp[ltCps,Uu r]
theorem JG:∀ a b c:List Nat,ltCps a b=true->ltCps b c=true->ltCps a c=true
 | [],[],_,h,_=>by simp[ltCps] at h
 | [],_::_,[],_,h=>by simp[ltCps] at h
 | [],_::_,_::_,_,_=>rfl
 | _::_,[],_,h,_=>by simp[ltCps] at h
 | _::_,_::_,[],_,h=>by simp[ltCps] at h
 | x::a,y::b,z::c,h,g=>by
  simp only[ltCps,Bool.or_eq_true,Bool.and_eq_true,decide_eq_true_eq,beq_iff_eq] at h g ⊢;rcases h with h | ⟨h,h'⟩ <;> rcases g with g | ⟨g,g'⟩
  ·left;omega
  ·left;omega
  ·left;omega
  ·right;exact⟨by omega,JG a b c h' g'⟩
theorem Us:∀ a b:List Nat,ltCps a b=true∨a=b∨ltCps b a=true
 | [],[]=>.inr (.inl rfl)
 | [],_::_=>.inl rfl
 | _::_,[]=>.inr (.inr rfl)
 | x::a,y::b=>by
  simp only[ltCps,Bool.or_eq_true,Bool.and_eq_true,decide_eq_true_eq,beq_iff_eq,List.cons.injEq];rcases Nat.lt_trichotomy x y with h | h | h
  ·exact .inl (.inl h)
  ·rcases Us a b with g | g | g
   ·exact .inl (.inr ⟨h,g⟩)
   ·exact .inr (.inl ⟨h,g⟩)
   ·exact .inr (.inr (.inr ⟨h.symm,g⟩))
  ·exact .inr (.inr (.inl h))
theorem uv (a:Str):lt a a=false:=Uu _
theorem lt_trans {a b c:Str}:lt a b=true->lt b c=true->lt a c=true:=JG _ _ _
theorem Ck (a b:Str):lt a b=true∨a=b∨lt b a=true:=by
 rcases Us a.cps.toList b.cps.toList with h | h | h
 ·exact .inl h
 ·refine .inr (.inl ?_);obtain⟨⟨x⟩⟩:=a;obtain⟨⟨y⟩⟩:=b;have h:x=y:=h;rw[h]
 ·exact .inr (.inr h)
theorem a0j {a b:Str}(h:lt a b=true):a≠b:=fun e=>by rw[e,uv] at h;cases h
theorem not_lt_trans {a b c:Str}(h:lt b a=false)(g:lt c b=false):lt c a=false:=by
 rcases Ck c a with e | e | e
 ·rcases Ck b a with k | k | k
  ·rw[h] at k;cases k
  ·rw[k] at g;rw[g] at e;cases e
  ·rw[lt_trans e k] at g;cases g
 ·rw[e];exact uv a
 ·cases q:lt c a with
  | false=>rfl
  | true=>have:=lt_trans e q;rw[uv] at this;cases this
end Hw
namespace L2
open PySem PySem.Spec PyProof.Rows
section
variable {X:Cx}
theorem vd:∀ (p:Str) (l:List Str),risingS p l=true->(p::l).Pairwise fun a b=>Hw.lt b a=false
 | p,[],_=>by simp
 | p,x::r,h=>by
  have h:(!ltCps x.cps.toList p.cps.toList && risingS x r)=true:=h;rw[Bool.and_eq_true,Bool.not_eq_true'] at h;have ih:=vd x r h.2;refine List.pairwise_cons.mpr ⟨fun y hy=>?_,ih⟩;rcases List.mem_cons.mp hy with rfl | hy
  ·exact h.1
  ·exact Hw.not_lt_trans h.1 ((List.pairwise_cons.mp ih).1 y hy)
theorem Bc:∀ (l:List Str),sortedS l=true->l.Pairwise fun a b=>Hw.lt b a=false
 | [],_=>.nil
 | x::r,h=>vd x r h
theorem xh:∀ {ss:List Str} {us:List Value},StrsAre us ss->Vals (ss.map V.str) us
 | _,_,.nil=>.nil
 | _,_,.cons x t h=>.cons ⟨t,rfl⟩ (xh h)
theorem mW:∀ {ss:List Str} {us:List Value},Vals (ss.map V.str) us->StrsAre us ss:=by
 intro ss
 induction ss with
 | nil=>intro us r;rw[List.map_nil] at r;cases r;exact .nil
 | cons x ss ih =>
  intro us r;rw[List.map_cons] at r;cases r with
  | cons r1 r2 =>
   obtain⟨t,e⟩:=r1;subst e;exact .cons x t (ih r2)
theorem uX:∀ {xs:List V} {us:List Value},xs.length=us.length->(∀ (i:Nat) x,xs[i]?=some x->∃ u,us[i]?=some u/\RelV x u)->Vals xs us
 | [],[],_,_=>.nil
 | [],_::_,h,_=>by simp at h
 | _::_,[],h,_=>by simp at h
 | x::xs,u::us,h,g=>by
  obtain⟨v,e,r⟩:=g 0 x rfl;cases e;exact .cons r (uX (by simpa using h) fun i y hy=>g (i+1) y hy)
theorem cY.here {P:Program}{w:World}{H:Hp}{h:Heap}{a:Addr}{o:HO}(x:cY P w H h a o):∃ u,h.get? a=some u:=by
 cases o with
 | lst xs=>obtain⟨_,_,_,_,e⟩:=x;exact⟨_,e⟩
 | tup xs=>obtain⟨_,_,_,o,e,_⟩:=x;exact⟨_,e⟩
 | dK kvs=>obtain⟨_,_,_,_,o,_,_,e,_⟩:=x;exact⟨_,e⟩
 | dT kvs=>obtain⟨_,_,_,_,o,_,_,e,_⟩:=x;exact⟨_,e⟩
 | set S n=>obtain⟨o,_,_,_,e,_⟩:=x;exact⟨_,e⟩
 | ins C dx fs=>obtain⟨_,_,_,e,_⟩:=x;exact⟨_,e⟩
 | own y=>obtain⟨_,e⟩:=x;exact⟨_,e⟩
 | xd fs=>obtain⟨_,⟨_,_,_,e,_⟩,_⟩:=x;exact⟨_,e⟩
 | rng lo hi=>obtain⟨_,_,_,e⟩:=x;exact⟨_,e⟩
 | uC ob u=>obtain⟨e,_⟩:=x;exact⟨_,e⟩
 | Th ps=>exact⟨_,(show h.get? a=some _ from x)⟩
 | met f y=>exact⟨_,(show h.get? a=some _ from x)⟩
 | ext φ=>obtain⟨_,⟨_,e⟩,_⟩:=x;exact⟨_,e⟩
theorem Inv.a0l {pins:List (Addr×Obj)}{σ:St}{H:Hp}{s:Shared}{h':Heap}{a:Addr}{o:HO}{t':Nat}(I:Inv X pins σ H s)(k:∀ b u,s.heap.get? b=some u->h'.get? b=some u)(hp:∀ b u,s.heap.get? b=some u->b≠a)(new:cY X.prog X.w (upd H a o) h' a o) :
  H a=none/\Inv X pins σ (upd H a o) { s with heap:=h',toks:=t' }:=by
 have hn:H a=none:=by
  cases q:H a with
  | none=>rfl
  | some u=>obtain⟨v,e⟩:=(I.hok a u q).here;exact absurd rfl (hp a v e)
 refine⟨hn,I.un ⟨fun b u e _ _ _=>k b u e,fun b u e _ _ _=>⟨u.slots,k b u e⟩,fun b u e n _=>by rw[aQ (hp b u e)];exact n,fun b u e _=>⟨u,k b u e⟩,fun b xs e=>by rw[aQ (bK e hn)];exact e,fun b u xs e=>by rw[aQ (bK e hn)];exact e,fun b ps e=>⟨#[],by rw[aQ (bK e hn),e];simp⟩⟩ fun b u e=>?_⟩;by_cases hb:b=a
 ·subst hb;rw[eY] at e;cases e;exact new
 ·rw[aQ hb] at e;exact(I.hok b u e).stay (fun c v _ q=>k c v q) (fun c q=>by rw[aQ (bK q hn)];exact q) fun c xs q=>by rw[aQ (bK q hn)];exact q
theorem CM (hc:X.calm=true):eW X (.builtin "sorted") (fun xs H Q=>∃ p kvs ss,xs=[.ref p]/\H p=some (.dK kvs)/\kvs.map (·.1)=List.map (Sum.inr:Str->Key) ss/\kvs.length < 64 /\
  ∀ l ys,H l=none->List.Perm ys ss->ys.Pairwise (fun a b=>Hw.lt b a=false)->Q (.ref l) (upd H l (.lst (ys.map V.str)))):=by
 intro pins s σ H xs us Q I r h;obtain⟨p,kvs,ss,rfl,hp,hk,h64,q⟩:=h;obtain⟨u,rfl,ru⟩:=vals1 r;cases ru;obtain⟨hz,lo,vs,rel,dd⟩:=sZ I.hok (.inl hp);obtain⟨ep,hat⟩:=dd.dictAt;have hlv:=rel.length;refine Calls.call_function_entry kind_sorted plain_sorted entry_sorted (args_sorted1 _) ?_;unfold Builtin.«sorted»;refine wpAny_bind (m:=checkCount "sorted" 1 1 _) (wpAny_pure (wpAny_bind (PySem.W.kdu_collect (A:=X.A.in1) (PySem.W.kdl_dict (knd:=bZ X.prog X.w) (kvs:=vs) (ep:=ep) lo) (I.ok.hd hc) hat (by rw[<- hlv];exact hz) fun h' tk acc kp hacc=>?_)));have hS:StrsAre acc.toList ss:=by
  refine mW (uX ?_ fun i x hx=>?_)
  ·have:(kvs.map (·.1)).length=(List.map (Sum.inr:Str->Key) ss).length:=by rw[hk]
   rw[List.length_map,List.length_map] at this;have el:acc.toList.length=kvs.length:=by rw[Array.length_toList,hacc.1,<- hlv]
   rw[List.length_map,el,this]
  ·rw[List.getElem?_map] at hx;cases e:ss[i]? with
   | none=>rw[e] at hx;cases hx
   | some y =>
    rw[e] at hx;cases hx;have hi:i < acc.size:=by
     have h1:i < ss.length:=(List.getElem?_eq_some_iff.mp e).1;have:(kvs.map (·.1)).length=(List.map (Sum.inr:Str->Key) ss).length:=by rw[hk]
     rw[List.length_map,List.length_map] at this;rw[hacc.1];omega
    obtain⟨k,x,hv,hkk⟩:=hacc.2 i acc[i] (by simp);have ek:(vs.map (·.1))[i]?=some (Sum.inr y):=by rw[<- rel.keys,hk,List.getElem?_map,e];rfl
    rw[List.getElem?_map,hv] at ek;have ek:k=Sum.inr y:=Option.some.inj ek;subst ek;rcases b9 (show yk (Sum.inr y) acc[i]=true from hkk) with ⟨_,_,z,_⟩ | ⟨z,t,z1,z2⟩
    ·cases z
    ·cases z1;exact⟨acc[i],by simp,t,z2⟩
 have hla:acc.toList.length < 64:=by rw[Array.length_toList,hacc.1,<- hlv];exact h64
 refine wpAny_bind (wpAny_newList ?_ (by
   have:64<=sizeLine:=by rw[sizeLine_eq];decide
   omega))
 have ho:(h'.push (seqObj "list" acc.toList.toArray 0)).get? h'.objs.size=some (seqObj "list" acc.toList.toArray 0):=Heap.get?_push_size _ rfl;refine wpAny_bind (wpAny_holding (wpAny_call_entry slot_list_sort ⟨_,ho,rfl⟩ entry_list_sort (list_sort_treeK (s:={ s with heap:=h'.push (seqObj "list" acc.toList.toArray 0),toks:=tk }) strKind_oneLt ho hS.keysOf (fun v1 v2 rest e=>keyKind_strs (by rw[<- e];exact hS)) hla fun st' a1 a2=>⟨_,rfl,?_⟩) (args_list_sort _)));obtain⟨ss',b1,b2,b3⟩:=sorted_out_str hS a1 a2;obtain⟨e,he⟩:=sortedHeap_at (out:=(arrOf st').map (·.2)) ho;have hss:(ss'.map V.str).length<=sizeLine:=by
  have h1:64<=sizeLine:=by rw[sizeLine_eq];decide
  have h2:(ss'.map V.str).length=acc.toList.length:=by rw[List.length_map,b2.length_eq,<- StrsAre.length hS]
  rw[h2];exact Nat.le_trans (Nat.le_of_lt hla) h1
 have L:=I.a0l (h':=sortedHeap (h'.push (seqObj "list" acc.toList.toArray 0)) h'.objs.size acc.toList ((arrOf st').map (·.2))) (a:=h'.objs.size) (o:=.lst (ss'.map V.str)) (t':=tk)
  (fun b u q=>by
   have l:=Heap.lt_size (kp b u q);rw[sortedHeap_old (Nat.ne_of_lt l) (by rw[Heap.size_push];exact Nat.lt_succ_of_lt l)];exact Heap.get?_push_of_some _ (kp b u q))
  (fun b u q=>Nat.ne_of_lt (Heap.lt_size (kp b u q)))
  ⟨hss,((arrOf st').map (·.2)).toList,e,xh b1,by rw[Array.toArray_toList];exact he⟩
 exact wpAny_pure ⟨_,rfl,.ref h'.objs.size,_,L.2,rfl,q _ ss' L.1 b2 (Bc _ b3)⟩
noncomputable def Hg (K:PySem.W.Frag)(H:Hp):Nat->V->V->Prop
 | 0,x,y=>eT x=true/\x=y
 | n+1,x,y=>(eT x=true/\x=y)∨∃ a b xs ys,x=.ref a/\y=.ref b/\((mD K H a xs/\mD K H b ys)∨(mC K H a xs/\mC K H b ys))/\Paired (Hg K H n) xs ys
theorem Ey {x:V}(h:eT x=true):Ez x x=true:=by
 cases x with
 | dO=>rfl
 | bl b=>simp[Ez]
 | int i=>simp[Ez]
 | str z=>simp[Ez]
 | _=>cases h
theorem D4 {F:V->V->Prop}:∀ {xs ys:List V},Paired F xs ys->∀ {i:Nat} {x y:V},xs[i]?=some x->ys[i]?=some y->F x y
 | _,_,.nil,_,_,_,e,_=>by simp at e
 | _,_,.cons r t,0,_,_,e,e'=>by simp at e e';rw[<- e,<- e'];exact r
 | _,_,.cons r t,i+1,_,_,e,e'=>D4 t (by simpa using e) (by simpa using e')
theorem gq {K:PySem.W.Frag}{n:Nat}{H:Hp}{A:Around}{s:Shared}{xs ys:List V}{us vs:List Value}(p:Paired (Hg K H n) xs ys)(r:Vals xs us)(r':Vals ys vs)
  (ih:∀ x y u v,RelV x u->RelV y v->Hg K H n x y->SeqAt.EqAt A s u v true):∀ (j:Nat) (h1:j < us.toArray.size) (h2:j < vs.toArray.size),SeqAt.EqAt A s us.toArray[j] vs.toArray[j] true:=by
 intro j h1 h2;have l1:=r.length;have l2:=r'.length;simp only[List.size_toArray] at h1 h2;have e1:xs[j]?=some xs[j]:=List.getElem?_eq_getElem (by omega);have e2:ys[j]?=some ys[j]:=List.getElem?_eq_getElem (by omega);obtain⟨u,hu,ru⟩:=r.get e1;obtain⟨v,hv,rv⟩:=r'.get e2;have hu':us.toArray[j]=u:=by
  rw[List.getElem?_eq_getElem h1] at hu;simpa using hu
 have hv':vs.toArray[j]=v:=by
  rw[List.getElem?_eq_getElem h2] at hv;simpa using hv
 rw[hu',hv'];exact ih _ _ u v ru rv (D4 p e1 e2)
theorem nE (n:Nat):((List.range n).all fun _=>true)=true:=by rw[List.all_eq_true];intro _ _;rfl
theorem like_eq {pins:List (Addr×Obj)}{σ:St}{H:Hp}{s:Shared}(I:Inv X pins σ H s):∀ (n:Nat) (A:Around),A.units+n < cLine->∀ x y u v,RelV x u->RelV y v->Hg X.K H n x y->SeqAt.EqAt A s u v true:=by
 intro n;have flat:∀ (A:Around) (x y:V) (u v:Value),RelV x u->RelV y v->eT x=true/\x=y->SeqAt.EqAt A s u v true:=by
  rintro A x y u v ru rv ⟨f,rfl⟩;have:=Oi (A:=A) (s:=s) ru rv f f;rw[Ey f] at this;exact this
 induction n with
 | zero=>intro A hu x y u v ru rv h;exact flat A x y u v ru rv h
 | succ n ih =>
  intro A hu x y u v ru rv h;rcases h with h | ⟨a,b,xs,ys,rfl,rfl,h,p⟩
  ·exact flat A x y u v ru rv h
  ·cases ru;cases rv;have ih':=ih A.in1 (by show A.units+1+n < cLine;omega);by_cases hab:a=b
   ·subst hab;exact SeqAt.EqAt.same _
   ·refine .of_refs hab ?_;have lp:xs.length=ys.length:=Paired.length p;rcases h with ⟨ha,hb⟩ | ⟨ha,hb⟩
    ·obtain⟨us,r1,p1,_⟩:=I.list ha;obtain⟨vs,r2,p2,_⟩:=I.list hb;have l1:=r1.length;have l2:=r2.length;have:=SeqAt.RcAt.lists (A:=A) (e:=fun _=>true) p1.isList p2.isList (by simp only[List.size_toArray];omega) (by omega) (gq p r1 r2 ih');rw[nE] at this;exact this
    ·obtain⟨us,r1,p1,_⟩:=I.tuple ha;obtain⟨vs,r2,p2,_⟩:=I.tuple hb;have l1:=r1.length;have l2:=r2.length;have:=SeqAt.RcAt.tuples (A:=A) (e:=fun _=>true) (show s.heap.IsTuple a us.toArray from p1) (show s.heap.IsTuple b vs.toArray from p2) (by omega) (gq p r1 r2 ih');have e:(us.toArray.size == vs.toArray.size)=true:=by simp only[List.size_toArray,beq_iff_eq];omega
     rw[nE,e] at this;exact this
noncomputable def TN (K:PySem.W.Frag)(n:Nat)(k:Bool):R2:=fun x y H Q=>∃ a b xs ys,x=.ref a/\y=.ref b/\((mD K H a xs/\mD K H b ys)∨(mC K H a xs/\mC K H b ys))/\Paired (Hg K H n) xs ys/\Q (.bl k) H
theorem Wi (n:Nat)(hu:X.A.units+1+n < cLine):jX X (compareOp .Eq) (TN X.K n true):=by
 intro pins s σ H x y v u Q I rx ry h;obtain⟨a,b,xs,ys,rfl,rfl,h,p,q⟩:=h;cases rx;cases ry;have ih':=like_eq I n X.A.in1 (by show X.A.units+1+n < cLine;omega);have lp:xs.length=ys.length:=Paired.length p;have fin:EP X pins σ Q (.bool true) s:=⟨.bl true,H,I,rfl,q⟩
 rcases h with ⟨ha,hb⟩ | ⟨ha,hb⟩
 ·obtain⟨us,r1,p1,_⟩:=I.list ha;obtain⟨vs,r2,p2,_⟩:=I.list hb;have l1:=r1.length;have l2:=r2.length;exact SeqAt.eq_listAt (e:=fun _=>true) p1.isList p2.isList (by simp only[List.size_toArray];omega) (by omega) (gq p r1 r2 ih') (by rw[nE];exact fin)
 ·obtain⟨us,r1,p1,_⟩:=I.tuple ha;obtain⟨vs,r2,p2,_⟩:=I.tuple hb;have l1:=r1.length;have l2:=r2.length;have e:(us.toArray.size == vs.toArray.size)=true:=by simp only[List.size_toArray,beq_iff_eq];omega
  exact SeqAt.eq_tupleAt (e:=fun _=>true) (show s.heap.IsTuple a us.toArray from p1) (show s.heap.IsTuple b vs.toArray from p2) (by omega) (gq p r1 r2 ih') (by rw[nE,e];exact fin)
theorem Wf (n:Nat)(hu:X.A.units+1+n < cLine):jX X (compareOp .NotEq) (TN X.K n false):=by
 intro pins s σ H x y v u Q I rx ry h;obtain⟨a,b,xs,ys,rfl,rfl,h,p,q⟩:=h;cases rx;cases ry;have ih':=like_eq I n X.A.in1 (by show X.A.units+1+n < cLine;omega);have lp:xs.length=ys.length:=Paired.length p;have fin:EP X pins σ Q (.bool false) s:=⟨.bl false,H,I,rfl,q⟩
 rcases h with ⟨ha,hb⟩ | ⟨ha,hb⟩
 ·obtain⟨us,r1,p1,_⟩:=I.list ha;obtain⟨vs,r2,p2,_⟩:=I.list hb;have l1:=r1.length;have l2:=r2.length;exact SeqAt.RcNeAt.lists (A:=X.A) (e:=fun _=>true) p1.isList p2.isList (by simp only[List.size_toArray];omega) (by omega) (gq p r1 r2 ih') _ _ _ _ (by rw[nE];exact fin)
 ·obtain⟨us,r1,p1,_⟩:=I.tuple ha;obtain⟨vs,r2,p2,_⟩:=I.tuple hb;have l1:=r1.length;have l2:=r2.length;have e:(us.toArray.size == vs.toArray.size)=true:=by simp only[List.size_toArray,beq_iff_eq];omega
  exact SeqAt.RcNeAt.tuples (A:=X.A) (e:=fun _=>true) (show s.heap.IsTuple a us.toArray from p1) (show s.heap.IsTuple b vs.toArray from p2) (by omega) (gq p r1 r2 ih') _ _ _ _ (by rw[nE,e];exact fin)
noncomputable def rJoin:V->List V->Hp->VK->Prop:=fun x vs H Q=>∃ sep p ss,x=.str sep/\vs=[.ref p]/\H p=some (.lst (List.map V.str ss))/\(ss.map (·.length)).sum+ss.length*sep.length<=16777216/\Q (.str (Txt.join sep ss)) H
theorem RK:qO X "str.join" rJoin:=by
 intro pins s σ H x vs v us Q I rx rv h;obtain⟨sep,p,ss,rfl,rfl,hp,hz,q⟩:=h;obtain⟨t,rfl⟩:=rx;obtain⟨u,rfl,ru⟩:=rv.one;cases ru;obtain⟨its,r,pl,_⟩:=I.list (mD.of hp);exact join_list pl.isList (by simpa using mW r) hz fun t' k=>⟨.str _,H,I.tok _,⟨_,rfl⟩,q⟩
noncomputable def a3K (xs:List V)(k:Nat)(y:V):List V:=xs.take k++[y]++xs.drop k
noncomputable def Ql:V->List V->Hp->VK->Prop:=fun x vs H Q=>∃ (l:Addr) (xs:List V) (i:Int) (k:Nat) (y:V),x=.ref l/\vs=[.int i,y]/\i=k/\H l=some (.lst xs)/\k<=xs.length/\xs.length < sizeLine/\Q .dO (upd H l (.lst (a3K xs k y)))
theorem Ko:MtM X "list.insert" Ql:=by
 intro pins s σ H x vs v us Q I rx rv h;obtain⟨l,xs,i,k,y,rfl,rfl,hik,hH,hk,hz,q⟩:=h;cases rx;obtain⟨u,w',rfl,⟨t,rfl⟩,ru⟩:=rv.two;obtain⟨z,its,n,r,hl,e⟩:=I.zP hH;have hn:=nc;have fit:¬ (!Builtin.List.listFitsIndex i)=true:=by
  rw[fitsIndex_of (by omega) (by omega)];decide
 have hsz:its.toArray.size<=sizeLine:=by rw[List.size_toArray];omega
 refine call_meets F.slot_list_insert ⟨_,e,rfl⟩ F.entry_list_insert (F.args_list_insert_3 _ _ _) (PySem.AutoSeq1.list_insert_list_int_val_1 l its.toArray n i t w' fit hsz) ⟨e,?_⟩;refine⟨.dO,_,I.NI (its':=its.take k++[w']++its.drop k) hH e ?_ (((r.take k).append (.cons ru .nil)).append (r.drop k)) ?_,rfl,q⟩
 ·have e1:¬ i < 0:=by omega
  have e2:min i.toNat its.length=k:=by omega
  simp only[List.size_toArray,e1,if_false,e2];apply Array.ext';simp only[Array.toList_append,Array.toList_push,Array.toList_extract,List.extract_eq_take_drop];rw[List.take_of_length_le (l:=List.drop k its) (by rw[List.length_drop];simp)];simp
 ·simp only[List.length_append,List.length_take,List.length_drop,List.length_singleton];omega
noncomputable def a3j (K:PySem.W.Frag)(c:V):List V->Hp->VK->Prop:=fun vs H Q=>∃ x t u b,vs=[x,c]/\tM K H x t/\RelV c u/\PySem.W.kitOne K t u=some b/\Q (.bl b) H
theorem RelV.a3L {c:V}{u u':Value}(hc:match c with | .ref _=>True | .ty _=>True | _=>False)(r:RelV c u)(r':RelV c u'):u=u':=by
 cases c with
 | ref a=>cases r;cases r';rfl
 | ty n=>cases r;cases r';rfl
 | _=>exact hc.elim
theorem OE {c:V}(hc:match c with | .ref _=>True | .ty _=>True | _=>False):eW X (.builtin "isinstance") (a3j X.K c):=by
 intro pins s σ H xs us Q I r h;obtain⟨x,t,u,b,rfl,ty,rc,hb,q⟩:=h;obtain⟨w1,w2,rfl,rx,r2⟩:=vals2 r;rw[RelV.a3L hc r2 rc];exact KZ I rx ty hb fun tk=>⟨.bl b,H,I.tok _,rfl,q⟩
noncomputable def ZD (K:PySem.W.Frag):R2:=fun x y H Q=>∃ a b xs ys,x=.ref a/\y=.ref b/\mC K H a xs/\mC K H b ys/\xs.length+ys.length<=sizeLine /\
 (xs=[]->Q (.ref b) H)/\(xs≠[]->ys=[]->Q (.ref a) H)/\(xs≠[]->ys≠[]->∀ p,H p=none->Q (.ref p) (upd H p (.tup (xs++ys))))
theorem Q7:jX X (binaryOp .Add) (ZD X.K):=by
 intro pins s σ H x y v u Q I rx ry h;obtain⟨a,b,xs,ys,rfl,rfl,ha,hb,hz,q0,q1,q2⟩:=h;by_cases hx:xs=[]
 ·cases rx;cases ry;obtain⟨its,r1,p1,_⟩:=I.tuple ha;obtain⟨its2,r2,p2,_⟩:=I.tuple hb;obtain⟨⟨cls,dd,data,sl⟩,ho,hc,n,hd⟩:=id p1;obtain⟨⟨a5n,dd2,data2,sl2⟩,ho2,hc2,n2,hd2⟩:=id p2;simp only at hc hd hc2 hd2;subst hc hd hc2 hd2;have hi:its=[]:=r1.dJ.mpr hx;refine concat_meets ⟨_,ho,rfl⟩ ⟨_,ho2,rfl⟩ noFill_tuple_add seq_tuple_add PySem.F.slot_tuple_add PySem.F.entry_tuple_add (PySem.F.args_tuple_add_2 _ _)
   (tuple_addW0 a b its.toArray its2.toArray n n2 dd dd2 sl sl2 (by simp[hi])) ⟨ho,ho2,?_⟩
  exact⟨.ref b,H,I,rfl,q0 hx⟩
 ·exact Q8 pins s σ H _ _ v u Q I rx ry ⟨a,b,xs,ys,rfl,rfl,ha,hb,hx,hz,q1 hx,fun hy=>q2 hx hy⟩
noncomputable def a3i (K:PySem.W.Frag):R2:=fun x y H Q=>∃ p xs k v,x=.ref p/\y=.int (k:Nat)/\mD K H p xs/\xs[k]?=some v/\Q v H
theorem N9:a1P X (a3i X.K):=by
 intro pins s σ H o i ov iv Q I ro ri h;obtain⟨p,xs,k,v,rfl,rfl,hq,he,q⟩:=h;cases ro;obtain⟨t,rfl⟩:=ri;obtain⟨its,r,pl,hz⟩:=I.list hq;obtain⟨w,ew,rw'⟩:=r.get he;have hk:k < xs.length:=(List.getElem?_eq_some_iff.mp he).1;have hn:=nc;exact wpAny_getItem_list pl.isList (by omega) (by omega) (by simpa using ew) ⟨v,H,I,rw',q⟩
end
end L2
namespace Hw
open PySem L2
end Hw
namespace Hw
open PySem L2
noncomputable def Dn (P:Program)(w:World)(K:PySem.W.Frag)(mg:Str->Option Value)(base:Heap)(k:Nat)(x:Str)(ps:List Str)(sp:Sp):Prop :=
 ∃ (f:Addr) (fd:FuncData),aN P w K mg base cG k f fd ps sp/\mg x=some (.ref f)/\PySem.W.keepIn K (.ref f)=true/\Binds K fd ps []
noncomputable def Mt (P:Program)(w:World)(K:PySem.W.Frag)(mg:Str->Option Value)(base:Heap)(k:Nat)(C:Addr)(m:Str)(ps:List Str)(sp:Sp):Prop :=
 ∃ (f:Addr) (fd:FuncData),aN P w K mg base cG k f fd ps sp/\Meth K C m f/\Binds K fd ps []
noncomputable def Mr (P:Program)(w:World)(K:PySem.W.Frag)(mg:Str->Option Value)(base:Heap)(k:Nat)(C:Addr)(ps:List Str)(sp:Sp):Prop :=
 ∃ (f:Addr) (fd:FuncData),aN P w K mg base cG k f fd ps sp/\Mk K C f/\Binds K fd ps []
end Hw
namespace Hw
open PySem L2
theorem line (n:Nat)(h:n<=100000):n < sizeLine:=by rw[sizeLine_eq];omega
theorem szl (n:Nat)(h:n<=100000:=by decide):n<=sizeLine:=Nat.le_of_lt (line n h)
end Hw
namespace L2
open PySem PySem.Spec PyProof.Rows
section
variable {X:Cx}{K:PySem.W.Frag}
noncomputable def strsOf:List Expr->Option (List Str)
 | []=>some []
 | .Constant (.str x) _ _::r=>(strsOf r).map (x::·)
 | _=>none
noncomputable def Ti (xs:List Str):TA:=fun _ H Q=>Q (xs.map V.str) H
theorem IP:∀ {es:List Expr} {xs:List Str},strsOf es=some xs->PA X es (Ti xs)
 | [],xs,h=>by
  cases h;exact Nb
 | e::r,xs,h=>by
  unfold strsOf at h;split at h
  ·rename_i he;cases he
  ·rename_i x j pos r' he;cases he;cases q:strsOf r with
   | none=>rw[q] at h;cases h
   | some ys =>
    rw[q] at h;cases h;have ih:=IP q;exact IQ Ga ih rfl
  ·cases h
noncomputable def T9:Expr->Option (List Str)
 | .List es _=>strsOf es
 | _=>none
theorem QV {xs:List Str}:∀ {e:Expr},T9 e=some xs->PE X e (YR (Ti xs)):=by
 intro e h;cases e<;>first|exact Gb (IP h)|exact (Option.some_ne_none _ h.symm).elim
end
end L2
namespace Hw
open PySem L2
noncomputable def a0W:List Str:=["helper","answers","needs","gives","end","let","div","mod","put","row","at","if","else"]
noncomputable def a0V:List Str:=["while","holds","falls","call","claim","and","or","not"]
noncomputable def pR:List Str:=a0W++a0V
noncomputable def Il (K:PySem.W.Frag):Sp:=fun vs H Q _=>∃ (a:Addr) (ns:List Int),vs=[.ref a]/\mD K H a (ns.map V.int)/\ns.length<=63/\∀ H',Q (.bl true) H'
end Hw
namespace Hw
open PySem L2
end Hw
namespace L2
open PySem PySem.Spec PyProof.Rows
section
variable {X:Cx}{K:PySem.W.Frag}
noncomputable def a3c:V->Option Int->Option Int->Hp->VK->Prop:=fun x lo hi H Q=>∃ z,x=.str z/\z.length<=sizeLine/\Q (.str (Txt.slice z lo hi)) H
theorem Vd:SM X a3c:=by
 intro pins s σ H x v vl vu lo hi sl Q I rx hs pl pu h;obtain⟨z,rfl,hz,q⟩:=h;obtain⟨t,rfl⟩:=rx;have fin:(Txt.slice z lo hi).length<=sizeLine/\∀ t' k,EP X pins σ Q (.str (Txt.slice z lo hi) t') { s with toks:=k }:=⟨Nat.le_trans (Txt.slice_le z _ _) hz,fun t' k=>⟨.str _,H,I.tok _,⟨_,rfl⟩,q⟩⟩
 refine⟨"str",_,PySem.F.slot_str_getitem.lookup,typeIs_str _ _ _,?_⟩;cases pl with
 | none=>cases pu with
  | none=>exact wpAny_getItem_str_slice (l:=none) (u:=none) (st:=none) hs rfl (post_val_or_str fin)
  | int j t'=>exact wpAny_getItem_str_slice (l:=none) (u:=some (j,t')) (st:=none) hs rfl (post_val_or_str fin)
 | int i ti=>cases pu with
  | none=>exact wpAny_getItem_str_slice (l:=some (i,ti)) (u:=none) (st:=none) hs rfl (post_val_or_str fin)
  | int j t'=>exact wpAny_getItem_str_slice (l:=some (i,ti)) (u:=some (j,t')) (st:=none) hs rfl (post_val_or_str fin)
noncomputable def Vw (K:PySem.W.Frag):R2:=fun x y H Q=>∃ a b xs,x=.ref a/\y=.ref b/\mC K H a xs/\mC K H b []/\Q (.bl (decide (xs=[]))) H
theorem Nh (hu:X.A.units < cLine):jX X (compareOp .Eq) (Vw X.K):=by
 intro pins s σ H x y v u Q I rx ry h;obtain⟨a,b,xs,rfl,rfl,ha,hb,q⟩:=h;cases rx;cases ry;obtain⟨us,r1,p1,_⟩:=I.tuple ha;obtain⟨vs,r2,p2,_⟩:=I.tuple hb;cases r2;refine SeqAt.eq_tupleAt (e:=fun _=>true) (show s.heap.IsTuple a us.toArray from p1) (show s.heap.IsTuple b ([]:List Value).toArray from p2) hu (fun j h1 h2=>absurd h2 (by simp)) ?_;have e:((List.range (min us.toArray.size ([]:List Value).toArray.size)).all (fun _=>true) && us.toArray.size == ([]:List Value).toArray.size)=decide (xs=[]):=by
  have l:=r1.length;rw[nE,Bool.true_and];by_cases hx:xs=[]
  ·subst hx;cases r1;simp
  ·rw[decide_eq_false hx];have:us≠[]:=fun z=>hx (by rw[z] at l;exact List.length_eq_zero_iff.mp l);cases us with
   | nil=>exact absurd rfl this
   | cons _ _=>simp
 rw[e];exact⟨.bl _,H,I,rfl,q⟩
end
end L2
namespace HT
open PySem PySem.Spec PyProof.Rows
section
variable {prog:Program}{w:World}{A:Around}{E:Value->Shared->Prop}{s:Shared}
end
end HT
namespace L2
open PySem PySem.Spec PyProof.Rows
section
variable {X:Cx}{K:PySem.W.Frag}
end
end L2
namespace L2
open PySem PySem.Spec PyProof.Rows
section
variable {X:Cx}{K:PySem.W.Frag}
noncomputable def Frz (d:Addr)(ob:Obj)(kvs:List (Key×V))(H H':Hp):Prop:=H' d=some (.uC ob (.dK kvs))/\∀ b,b≠d->H' b=H b
theorem Inv.frozen {pins:List (Addr×Obj)}{σ:St}{H:Hp}{s:Shared}{d:Addr}{kvs:List (Key×V)}(I:Inv X pins σ H s)(e:Rd H d (.dK kvs)) :
  ∃ (ob:Obj) (H':Hp),Frz d ob kvs H H'/\Inv X pins σ H' s/\s.heap.get? d=some ob:=by
 rcases e with e | ⟨ob,e⟩
 ·have ok:=I.hok d _ e;obtain⟨ob,hob⟩:=ok.here;refine⟨ob,upd H d (.uC ob (.dK kvs)),⟨eY,fun b hb=>aQ hb⟩,?_,hob⟩;have nt:∀ b xs,H b=some (.tup xs)->b≠d:=fun b xs z=>Ef z e (by intro w;cases w);have no:∀ b x,H b=some (.own x)->b≠d:=fun b x z=>Ef z e (by intro w;cases w);have:=I.un (h':=s.heap) (t':=s.toks) (H':=upd H d (.uC ob (.dK kvs))) ⟨fun b u q _ _ _=>q,fun b u q _ _ _=>⟨u.slots,q⟩,fun b u q n _=>by rw[aQ (bK e n).symm];exact n,fun b u q _=>⟨u,q⟩,
   fun b xs z=>by rw[aQ (nt b xs z)];exact z,fun b u xs z=>by rw[aQ (Ef z e (by intro w;cases w))];exact z,fun b ps z=>⟨#[],by rw[aQ (Ef z e (by intro w;cases w)),z];simp⟩⟩ fun b u z=>by
   by_cases hb:b=d
   ·subst hb;rw[eY] at z;cases z;exact⟨hob,ok.stay (fun _ _ _ q=>q) (fun c q=>by rw[aQ (no c _ q)];exact q) fun c xs q=>by rw[aQ (nt c xs q)];exact q⟩
   ·rw[aQ hb] at z;exact(I.hok b u z).stay (fun _ _ _ q=>q) (fun c q=>by rw[aQ (no c _ q)];exact q) fun c xs q=>by rw[aQ (nt c xs q)];exact q
  exact this
 ·obtain⟨hob,_⟩:=I.hok d _ e;exact⟨ob,H,⟨e,fun _ _=>rfl⟩,I,hob⟩
theorem Inv.held {pins:List (Addr×Obj)}{σ:St}{H:Hp}{s:Shared}{d:Addr}{ob:Obj}{kvs:List (Key×V)}(I:Inv X pins σ H s)(e:H d=some (.uC ob (.dK kvs))) :
  (d == sysModules)=false/\kvs.length<=sizeLine/\s.heap.get? d=some ob/\∃ vs es ep,KV kvs vs/\ob.data=.dict es ep/\s.heap.DictAt (bZ X.prog X.w) d vs ep:=by
 obtain⟨hob,_⟩:=I.hok d _ e;obtain⟨hz,lo,vs,rel,dd⟩:=sZ I.hok (.inr ⟨ob,e⟩);obtain⟨ep,hat⟩:=dd.dictAt;obtain⟨o,es,ho,hx,hd,_⟩:=id hat;have eo:=ho.symm.trans hob;cases eo;exact⟨lo,hz,hob,vs,es,ep,rel,hd,hat⟩
theorem KV.at {κ:Type}:∀ {kvs:List (κ×V)} {vs:List (κ×Value)},KV kvs vs->∀ {i:Nat} {k:κ} {x:V},kvs[i]?=some (k,x)->∃ u,vs[i]?=some (k,u)/\RelV x u
 | _,_,.nil,_,_,_,e=>by simp at e
 | _,_,.cons (b:=q) r t,0,k,x,e=>by
  simp at e;obtain⟨h1,h2⟩:=r;rw[e] at h1 h2;exact⟨q.2,by simp;exact Prod.ext h1.symm rfl,h2⟩
 | _,_,.cons r t,i+1,k,x,e=>by
  obtain⟨u,h1,h2⟩:=KV.at t (i:=i) (k:=k) (x:=x) (by simpa using e);exact⟨u,by simpa using h1,h2⟩
theorem KV.len {κ:Type}{kvs:List (κ×V)}{vs:List (κ×Value)}(r:KV kvs vs):kvs.length=vs.length:=Paired.length r
theorem Qi {P:Program}{w:World}{k:Key}{v:Value}(h:(bZ P w).is k v=true):RelV (kV k) v:=by
 rcases b9 h with ⟨i,t,rfl,rfl⟩ | ⟨x,t,rfl,rfl⟩
 ·exact⟨t,rfl⟩
 ·exact⟨t,rfl⟩
noncomputable def Dj (p d:Addr):HO:=.ext fun h=>h.IsValuesView p d
noncomputable def YE (O:Addr->Addr->HO)(to:TE):TE:=fun σ H Q=>to σ H fun x H1=>∃ d kvs,x=.ref d/\Rd H1 d (.dK kvs)/\∀ p,H1 p=none->Q (.ref p) (upd H1 p (O p d))
theorem Sj {pins:List (Addr×Obj)}{σ:St}{H:Hp}{s:Shared}{d:Addr}{kvs:List (Key×V)}(I:Inv X pins σ H s)(e:Rd H d (.dK kvs)):s.TypeIs (.ref d) "dict"/\∀ a,Value.ref d=.ref a->∃ ob,s.heap.get? a=some ob/\ob.dict=none:=by
 obtain⟨_,_,vs,rel,dd⟩:=sZ I.hok e;refine⟨dd.typeIs,fun a z=>?_⟩;cases z;obtain⟨o,es,ep,ho,hx,_⟩:=dd;exact⟨o,ho,hx.2.1⟩
variable {o e:Expr}{to:TE}{apos cpos:Pos}
theorem J3 (ho:PE X o to)(hbase:attributeBase o "values" X.env (eval o X.env)=eval o X.env:=by rfl)(hline:(apos.endLine == cpos.line)=true:=by rfl):PE X (.Call (.Attribute o "values" apos) [] [] cpos) (YE Dj to):=by
 intro pins s σ H Q I h;refine wpAny_Call_method0_late hbase hline (cH (ho pins s σ H _ I h) ?_);rintro v s1 ⟨x,H1,I1,r1,d,kvs,ex,rd,q1⟩;subst ex;cases r1;obtain⟨h1,h2⟩:=Sj I1 rd;obtain⟨_,lo,vs,rel,dd⟩:=sZ I1.hok rd;refine⟨"dict","dict.values",PySem.F.plainAttrs_dict,PySem.F.slot_dict_values,PySem.F.type_dict_values,h1,h2,Calls.callWith_builtin rfl (PySem.evalArgs_none ?_)⟩;refine call_meetsIn PySem.F.slot_dict_values h1 PySem.F.entry_dict_values (PySem.F.args_dict_values_1 _) (meets_dict_values (bZ X.prog X.w) d lo) ⟨⟨vs,dd⟩,?_⟩;refine⟨.ref s1.heap.objs.size,_,I1.laid (t':=s1.toks) (o:=Dj s1.heap.objs.size d) (fun b ob q=>Heap.get?_push_of_some _ q) (Nat.le_refl _) ?_,rfl,q1 _ (I1.hok.fresh (Nat.le_refl _))⟩;exact⟨⟨_,Heap.get?_push_size _ rfl,rfl,rfl⟩,⟨_,Heap.get?_push_size _ rfl⟩,fun h1 h2 ⟨o,ho,r⟩ k=>⟨o,k o ho,r⟩⟩
theorem GS (l b:Addr)(xs ys:Array Value)(n m:Nat)(dd:Option Addr)(sl:Array (Option Value))(h0:¬ (!xs.isEmpty && Builtin.List.listTooLong (xs.size+ys.size))=true)(h1:xs.size<=sizeLine)(h2:xs.size+ys.size<=sizeLine+1) :
  Meets (Builtin.«list.extend» ⟨[.ref l,.ref b],[]⟩) (fun _ R s=>s.heap.get? l=some ⟨.type "list",none,.seq xs n,#[]⟩/\s.heap.get? b=some ⟨.type "tuple",dd,.seq ys m,sl⟩ /\
   R (.ok (.ret Value.none)) { s with heap:=s.heap.update l (Obj.mapSeq fun x=>x++ys),toks:=s.toks }) :=
 .of_wp fun prog w A R s h=>by
  obtain⟨hp,g,d,tk,os⟩:=s;obtain⟨hl,hb,h⟩:=h;have q1:=PySem.AutoSeq1.idx_int;have q2:=PySem.AutoSeq1.sub_tuple_tuple;have q3:=PySem.AutoSeq1.sub_list_list;have q4:=PySem.AutoSeq1.sub_tuple_list;have q5:=PySem.AutoSeq1.sub_list_tuple;have z:(xs++ys).size<=sizeLine+1:=by
   rw[Array.size_append];exact h2
  wp_walk using(wpAny_updateSeq hl rfl (hz:=h1) (_hz':=z)),PySem.AutoSeq1.wpAny_loadPart' hl,PySem.AutoSeq1.wpAny_loadPart' hb
  exact⟨_,rfl,h⟩
noncomputable def MM (K:PySem.W.Frag):V->List V->Hp->VK->Prop:=fun x vs H Q=>∃ l b xs zs,x=.ref l/\vs=[.ref b]/\H l=some (.lst xs)/\mC K H b zs/\xs.length+zs.length<=sizeLine/\Q .dO (upd H l (.lst (xs++zs)))
theorem Gs:MtM X "list.extend" (MM X.K):=by
 intro pins s σ H x vs v us Q I rx rv h;obtain⟨l,b,xs,zs,rfl,rfl,hH,hB,hz,q⟩:=h;cases rx;obtain⟨u,rfl,ru⟩:=rv.one;cases ru;obtain⟨z,its,n,r,hl,e⟩:=I.zP hH;obtain⟨its2,r2,p2,z2⟩:=I.tuple hB;have hl2:=r2.length;have hsz:its.toArray.size+its2.toArray.size<=sizeLine:=by rw[List.size_toArray,List.size_toArray];omega
 have Eo:¬ (!its.toArray.isEmpty && Builtin.List.listTooLong (its.toArray.size+its2.toArray.size))=true:=by
  rw[x9 hsz,Bool.and_false];exact Bool.false_ne_true
 have go:∀ n2 dd sl,s.heap.get? b=some { cls:=.type "tuple",dict:=dd,data:=.seq its2.toArray n2,slots:=sl }->wpAny (model X.prog X.w) X.A (call (.builtin "list.extend") [.ref l,.ref b]) (EP X pins σ Q) X.xe s:=fun n2 dd sl e2=>by
  refine call_meets F.slot_list_extend ⟨_,e,rfl⟩ F.entry_list_extend (F.args_list_extend_2 _ _)
   (GS l b its.toArray its2.toArray n n2 dd sl Eo (by rw[List.size_toArray];omega) (by omega)) ⟨e,e2,?_⟩
  refine⟨.dO,_,I.NI (its':=its++its2) hH e (by simp) (r.append r2) ?_,rfl,q⟩;rw[List.length_append];omega
 obtain⟨⟨cls,dd,data,sl⟩,ho,hc,n2,hd⟩:=id p2;simp only at hc hd;subst hc hd;exact go n2 dd sl ho
noncomputable def Vu (K:PySem.W.Frag):R2:=fun x y H Q=>∃ a b xs,x=.ref a/\y=.ref b/\mD K H a xs/\mD K H b []/\Q (.bl (!decide (xs=[]))) H
theorem Ng (hu:X.A.units < cLine):jX X (compareOp .NotEq) (Vu X.K):=by
 intro pins s σ H x y v u Q I rx ry h;obtain⟨a,b,xs,rfl,rfl,ha,hb,q⟩:=h;cases rx;cases ry;obtain⟨us,r1,p1,_⟩:=I.list ha;obtain⟨vs,r2,p2,_⟩:=I.list hb;cases r2;have l1:=r1.length;by_cases hx:xs=[]
 ·rw[decide_eq_true hx] at q;subst hx;cases r1;exact SeqAt.RcNeAt.lists (A:=X.A) (e:=fun _=>true) p1.isList p2.isList rfl hu (fun j h1 h2=>absurd h2 (by simp)) _ _ _ _ ⟨.bl false,H,I,rfl,q⟩
 ·rw[decide_eq_false hx] at q;have:us≠[]:=fun z=>hx (by rw[z] at l1;exact List.length_eq_zero_iff.mp l1);refine SeqAt.RcNeAt.lists_lengths (A:=X.A) p1.isList p2.isList ?_ hu _ _ _ _ ⟨.bl true,H,I,rfl,q⟩;cases us with
  | nil=>exact absurd rfl this
  | cons _ _=>simp
end
end L2
namespace L2
open PySem PySem.Spec PyProof.Rows
noncomputable def Itv (d:Addr)(ob:Obj)(kvs:List (Key×V)):It :=
 ⟨fun i H=>H d=some (.uC ob (.dK kvs))/\i < kvs.length,fun i H x H'=>H'=H/\∃ k,kvs[i]?=some (k,x),fun i H=>H d=some (.uC ob (.dK kvs))/\kvs.length<=i⟩
theorem JP {P:Program}{w:World}{K:PySem.W.Frag}{tg:Expr}(d it:Addr)(ob:Obj)(kvs:List (Key×V))(es:Array DictEntry)(ep:Nat)(hob:ob.data=.dict es ep) :
  Turn P w K tg (Itv d ob kvs) [it] it (fun i h=>h.IsValIter it d i kvs.length ep) where
 mem:=by simp
 obj:=fun i h st b hb=>by
  have e:b=it:=by simpa using hb
  subst e;obtain⟨o,e,c,dd⟩:=st;exact⟨o,e,fun v z=>by rw[dd] at z;cases z⟩
 keep:=fun i h h' st k=>st.at fun o e=>k it (by simp) o e
 item:=by
  intro X hP hw hK hc i pins s σ H E I hf st hg;subst hP hw hK;obtain⟨hd,hi⟩:=hg;obtain⟨lo,hz,N6,vs,es',Xg,rel,hdat,hat⟩:=I.held hd;rw[hob] at hdat;cases hdat;obtain⟨f0,f1,f2,f3,f4,f5⟩:=hf it (by simp);have hl:=rel.len;obtain⟨⟨k,v⟩,hkv⟩:∃ p,kvs[i]?=some p:=⟨kvs[i],by simp[hi]⟩
  obtain⟨u,hu,ru⟩:=rel.at hkv;rw[hl] at st;refine wpAny_pyNext_values_item st hat hu fun h' st' sb=>?_;have I1:Inv X pins σ H { s with heap:=h' }:=I.turned (t':=s.toks) (fun b o hb e=>(sb.2 b hb).trans e) f0 f1 f3 f4 f5;obtain⟨o,e,c,dd⟩:=id st';exact⟨u,rfl,vn (s:={ s with heap:=h' }) e c dd (by decide) ⟨v,H,I1,ru,⟨rfl,k,hkv⟩,by rw[hl];exact st',fun b hb=>(hf b hb).1⟩⟩
 done:=by
  intro X hP hw hK hc i pins s σ H E I hf st hg;subst hP hw hK;obtain⟨hd,hi⟩:=hg;obtain⟨lo,hz,N6,vs,es',Xg,rel,hdat,hat⟩:=I.held hd;rw[hob] at hdat;cases hdat;obtain⟨f0,f1,f2,f3,f4,f5⟩:=hf it (by simp);have hl:=rel.len;rw[hl] at st;exact wpAny_pyNext_values_end (I.ok.hd hc) st hat (List.getElem?_eq_none_iff.mpr (by omega)) fun h' eb=>⟨rfl,I.turned (t':=s.toks) (fun b o hb e=>eb b o hb e) f0 f1 f3 f4 f5⟩
 self:=fun _ _ _ _ _ st h=>wpAny_pyIter_valiter st h
section
variable {X:Cx}{e:Expr}{te:TE}
noncomputable def a06 (te:TE):TI:=fun σ H R=>te σ H fun x H1=>∃ p d kvs,x=.ref p/\H1 p=some (Dj p d)/\Rd H1 d (.dK kvs)/\∀ ob H2,Frz d ob kvs H1 H2->R (Itv d ob kvs) H2
theorem QN {tg:Expr}(he:PE X e te):PI X tg e (a06 te):=by
 intro pins s σ H R I h;refine cH (he pins s σ H _ I h) ?_;rintro v s1 ⟨x,H1,I1,r1,p,d,kvs,ex,hp,rd,q⟩;subst ex;cases r1;obtain⟨ob,H2,fz,I2,hob⟩:=I1.frozen rd;obtain⟨lo,hz,N6,vs,es,ep,rel,hdat,hat⟩:=I2.held fz.1;have hv:s1.heap.IsValuesView p d:=(I1.hok p _ hp).1;have hl:=rel.len;refine wpAny_pyIter_values hv hat ?_;exact⟨s1.heap.objs.size,[s1.heap.objs.size],_,_,H2,rfl,I2.kept (t':=s1.toks) fun b o e=>Heap.get?_push_of_some _ e,JP d _ ob kvs es ep hdat,⟨_,Heap.get?_push_size _ rfl,rfl,by rw[hl];rfl⟩,fun b hb=>by
  have e:b=s1.heap.objs.size:=by simpa using hb
  subst e;exact I2.Eu (Nat.le_refl _) (I2.hok.fresh (Nat.le_refl _)),q ob H2 fz⟩
end
end L2
namespace Hw
open PySem L2
noncomputable def XH:Str:="abcdefghijklmnopqrstuvwxyz"
theorem SJ:XH.cps.toList=(List.range 26).map (97+·):=by decide +kernel
theorem oF:XH.length<=sizeLine:=Nat.le_of_lt (line _ (by decide +kernel))
theorem OS {r:Nat}(h:r < 26):oO XH.cps.toList (r:Int)=some (97+r):=aB (by rw[SJ,List.getElem?_map,List.getElem?_range h];rfl)
theorem tL (i:Int):oO XH.cps.toList (i % 26)=some (97+(i % 26).toNat):=by
 have h0:=Int.emod_nonneg i (show(26:Int)≠0 by decide);have h1:=Int.emod_lt_of_pos i (show(0:Int) < 26 by decide);have e:i % 26=((i % 26).toNat:Int):=(Int.toNat_of_nonneg h0).symm;have:=OS (r:=(i % 26).toNat) (by omega);rw[<- e] at this;exact this
noncomputable def pS:List Str:=["lets","ifs","order","rows","att","notes","calls","ends","outlet","bend","motor","modes"]
theorem KW:pS.length=12:=rfl
noncomputable abbrev a1C (c:Nat):Str:=⟨#[c]⟩
noncomputable def zw (a b:Nat):Str:=(("z":Str)++a1C a)++a1C b
theorem wV (a b:Str):(a++b).cps.toList=a.cps.toList++b.cps.toList:=PySem.W.KT.app_list a b
theorem lO (a b:Str):(a++b).length=a.length+b.length:=by
 have h:∀ x:Str,x.length=x.cps.toList.length:=fun x=>by simp[Str.length]
 rw[h,h,h,wV,List.length_append]
theorem AN (a b:Nat):(zw a b).cps.toList=[122,a,b]:=by
 unfold zw;rw[wV,wV];rfl
theorem Lz (a b:Nat):(zw a b).length=3:=by
 unfold zw;rw[lO,lO];rfl
noncomputable def zt (k:Int)(t:Nat):Str:=zw (97+((t:Int) % 26).toNat) (97+((k+t) % 26).toNat)
theorem UA {k:Int}{s t:Nat}(hs:s < 26)(ht:t < 26)(h:zt k s=zt k t):s=t:=by
 have e:(zt k s).cps.toList=(zt k t).cps.toList:=by rw[h]
 unfold zt at e;rw[AN,AN] at e;have:=(List.cons.inj (List.cons.inj e).2).1;omega
theorem MY:∀ (n:Nat) (f:Nat->Str) (xs:List Str),(∀ s,s < n->f s∈xs)->(∀ s t,s < n->t < n->f s=f t->s=t)->n<=xs.length
 | 0,_,_,_,_=>Nat.zero_le _
 | n+1,f,xs,h,inj=>by
  have m:=h n (Nat.lt_succ_self n);have ih:=MY n f (xs.erase (f n)) (fun s hs=>by
   have ne:f s≠f n:=fun e=>Nat.ne_of_lt hs (inj s n (Nat.lt_succ_of_lt hs) (Nat.lt_succ_self n) e);exact(List.mem_erase_of_ne ne).mpr (h s (Nat.lt_succ_of_lt hs))) fun s t hs ht=>inj s t (Nat.lt_succ_of_lt hs) (Nat.lt_succ_of_lt ht)
  rw[List.length_erase_of_mem m] at ih;have:0 < xs.length:=List.length_pos_of_mem m;omega
theorem LA {k:Int}{xs:List Str}{n:Nat}(hn:n<=20)(h:∀ s,s < n->zt k (s+1)∈xs):n<=xs.length :=
 MY n (fun s=>zt k (s+1)) xs h fun s t hs ht e=>by have:=UA (by omega) (by omega) e;omega
theorem wL (w:Str)(xs:List Str):K2 (.str w) (xs.map V.str)=decide (w∈xs):=by
 unfold K2;rw[List.any_map];by_cases h:w∈xs
 ·rw[decide_eq_true h,List.any_eq_true];exact⟨w,h,by simp[Ez]⟩
 ·rw[decide_eq_false h,List.any_eq_false];intro y hy;simp only[Function.comp,Ez,beq_iff_eq];intro e;exact h (e ▸ hy)
theorem oz (xs:List Str):(xs.map V.str).all eT=true:=by rw[List.all_map,List.all_eq_true];intro _ _;rfl
theorem Dr:∀ ss:List Str,(∀ a∈ss,a.length=1)->(ss.map (·.length)).sum=ss.length
 | [],_=>rfl
 | a::r,h=>by
  rw[List.map_cons,List.sum_cons,Dr r fun b hb=>h b (List.mem_cons_of_mem _ hb),List.length_cons,h a (List.mem_cons_self ..)];omega
end Hw
namespace Hw
open PySem L2
end Hw
namespace Hw
open PySem L2
noncomputable abbrev cp (x:Str):List Nat:=x.cps.toList
theorem dw {a b:Str}(h:cp a=cp b):a=b:=PyProof.Rows.ext_toList h
theorem bB (x:Str):x.length=(cp x).length:=by simp[Str.length]
noncomputable def jq (i:Int):Int:=if i < 0 then -i else i
theorem OR (i:Int):(jq i).natAbs=i.natAbs:=by unfold jq;split <;> omega
noncomputable def Small (i:Int):Prop:=-(2 ^ 60) < i/\i < 2 ^ 60
theorem Small.log {i:Int}(h:Small i):(jq i).natAbs.log2 < 1920:=by
 rw[OR];have hn:i.natAbs < 2 ^ 64:=by have:=h.1;have:=h.2;omega
 by_cases h0:i.natAbs=0
 ·rw[h0];decide
 ·exact Nat.lt_of_lt_of_le ((Nat.log2_lt h0).mpr hn) (by decide)
noncomputable def gQ (i:Int):Str:=Str.ofString (toString (jq i))
noncomputable def oN (w:Int):Str:=if w < 0 then Str.ofString " - " else Str.ofString " + "
theorem DF (w:Int):(oN w).length=3:=by unfold oN;split <;> decide
theorem Bf (w:Int):(cp (oN w)).length=3:=by rw[<- bB];exact DF w
noncomputable abbrev Qs:=List (Int×Str)
noncomputable def fD (ps:Qs):List Nat:=(ps.map fun p=>cp (oN p.1)++cp p.2).flatten
noncomputable def V9:Qs->List Nat
 | []=>[]
 | p::r=>(if p.1 < 0 then [45] else [])++cp p.2++fD r
theorem Od (p:Int×Str)(r:Qs):(fD (p::r)).take 3=cp (oN p.1)/\V9 (p::r)=(if p.1 < 0 then [45] else [])++(fD (p::r)).drop 3:=by
 have e:fD (p::r)=cp (oN p.1)++(cp p.2++fD r):=by
  unfold fD;rw[List.map_cons,List.flatten_cons,List.append_assoc]
 have l:=Bf p.1;constructor
 ·rw[e,List.take_append_of_le_length (by omega),List.take_of_length_le (by omega)]
 ·rw[e,List.drop_append_of_le_length (by omega),List.drop_of_length_le (by omega),List.nil_append,V9,List.append_assoc]
theorem Ip {w:Int}:oN w=Str.ofString " - "↔w < 0:=by
 unfold oN;constructor
 ·intro h;by_cases hw:w < 0
  ·exact hw
  ·rw[if_neg hw] at h;exact absurd h (by decide +kernel)
 ·intro h;rw[if_pos h]
theorem ME {x:Str}(h:3<=x.length):cp (Txt.slice x none (some 3))=(cp x).take 3:=by
 have:=StrLaws.sliceText_to (x:=x) (j:=3) ⟨by decide,by rw[bB] at h;have h:3<=x.cps.toList.length:=h;omega⟩;have e:Txt.slice x none (some 3)=StrLaws.sliceText x none (some 3):=rfl;rw[e,this];simp
theorem xx {x:Str}(h:3<=x.length):cp (Txt.slice x (some 3) none)=(cp x).drop 3:=by
 have:=StrLaws.sliceText_from (x:=x) (i:=3) ⟨by decide,by rw[bB] at h;have h:3<=x.cps.toList.length:=h;omega⟩
 have e:Txt.slice x (some 3) none=StrLaws.sliceText x (some 3) none:=rfl;rw[e,this];show(((cp x).drop 3).take _)=_;rw[List.take_of_length_le];rw[List.length_drop];show x.cps.toList.length - 3<=_;omega
end Hw
namespace Hw
open PySem L2
section
variable {C:Addr}{H H':Hp}{tl pq q0 q1 hq du u0 u1 sl sa sb:Addr}{xs:List Str}{ps0 t0 t1:Ps}{h0 h1:Int}
end
end Hw
namespace Hw
open PySem L2
theorem GO (r:Qs)(q:Int×Str):fD (r++[q])=fD r++(cp (oN q.1)++cp q.2):=by
 unfold fD;rw[List.map_append,List.flatten_append];simp
end Hw
namespace Hw
open PySem L2
end Hw
namespace Hw
open PySem L2
section
variable {H H':Hp}{z:Addr}{o:HO}
end
section
variable {H0 H H':Hp}{d tl ro:Addr}{xs:List Str}{t0:Ps}{n0:Int}
end
end Hw
namespace Hw
open PySem L2
end Hw
namespace Hw
open PySem L2
end Hw
namespace L2
open PySem PySem.Spec PyProof.Rows Hw
section
variable {X:Cx}{k:Nat}{m:Str}{pos apos:Pos}{o e:Expr}{es:List Expr}{ta:TE}{t:TA}{Z:Cz}{ps:List Str}{sp:Nat->Sp}
end
end L2
namespace Hw
open PySem L2
end Hw
namespace Hw
open PySem L2
end Hw
namespace L2
open PySem PySem.Spec PyProof.Rows Hw
section
variable {X:Cx}{K:PySem.W.Frag}
theorem OF (hc:X.calm=true):eW X (.builtin "all") (fun xs H Q=>∃ (p:Addr) (bs:List Bool),xs=[.ref p]/\mD X.K H p (bs.map V.bl)/\Q (.bl (bs.all id)) H):=by
 intro pins s σ H xs us Q I r h;obtain⟨p,bs,rfl,hq,q⟩:=h;obtain⟨u,rfl,ru⟩:=vals1 r;cases ru;obtain⟨its,rv,pl,hz⟩:=I.list hq;have lp:p < s.heap.objs.size:=let ⟨o,_,e,_⟩:=pl;Heap.lt_size e;have hl:=rv.length;rw[List.length_map] at hl;refine call_all_walk (wpAny_pyIter_list pl.isList ?_);have W:=Walks.list (prog:=X.prog) (w:=X.w) (A:=X.A.in1) (I.ok.hd hc) s.heap.objs.size p (Nat.ne_of_lt lp) its.toArray;refine⟨s.heap.objs.size,_,_,_,_,_,(fun i=>(bs[i]?).getD true),rfl,W,⟨⟨_,Heap.get?_push_size _ rfl,rfl,rfl⟩,pl.isList.at fun o e=>Heap.get?_push_of_some _ e⟩,fun i v s' Q' E' hv hQ=>?_,fun h' tk hk=>?_⟩
 ·have hv:its.toArray[i]?=some v:=hv;have hv:its[i]?=some v:=by simpa using hv
  have hil:i < its.length:=(List.getElem?_eq_some_iff.mp hv).1;obtain⟨u,hu,ru⟩:=rv.get (i:=i) (x:=.bl ((bs[i]?).getD true)) (by rw[List.getElem?_map,List.getElem?_eq_getElem (by omega)];rfl);rw[hv] at hu;cases hu;cases ru;exact wpAny_truthy_bool hQ
 ·have kp:∀ b o,s.heap.get? b=some o->h'.get? b=some o:=fun b o e =>
   hk b o (fun hI=>absurd (Heap.lt_size e) (by rw[List.mem_singleton.mp hI];exact Nat.lt_irrefl _)) (Heap.get?_push_of_some _ e)
  have e:((List.range its.toArray.size).all fun i=>(bs[i]?).getD true)=bs.all id:=by rw[List.size_toArray,<- hl];exact LSm.range_all bs
  rw[e];exact⟨.bl (bs.all id),H,I.kept (t':=tk) kp,rfl,q⟩
end
end L2
namespace Hw
open PySem L2
end Hw
namespace Hw
open PySem L2
end Hw
namespace Hw
open PySem L2
end Hw
namespace Hw
open PySem L2
end Hw
namespace Hw
open PySem L2
end Hw
namespace L2
open PySem PySem.Spec PyProof.Rows Hw
section
variable {X:Cx}{x:Str}{D:Addr}{kvs:List (Key×V)}{i:Expr}{ty:TE}{p pos:Pos}
end
end L2
namespace Hw
open PySem L2
end Hw
namespace Hw
open PySem L2
end Hw
namespace L2
open PySem PySem.Spec PyProof.Rows Hw
section
variable {X:Cx}
theorem VM {body:List Stmt}{h₀:ExceptHandler}{hs:List ExceptHandler}{pos:Pos}{t:TS}(hx:∀ e s,¬ X.xe e s)(hb:C1 X body t):PS X (.Try body (h₀::hs) [] [] pos) t:=by
 intro pins s σ H D I h;refine wpAny_Try_except (wpAny_mono (hb pins s σ H D I h) (fun f s1 q=>?_) fun e s1 z=>(hx e s1 z).elim);cases f with
 | next=>exact wpAny_pure q
 | brk=>exact q
 | cont=>exact q
 | ret u=>exact q
end
end L2
namespace Hw
open PySem L2
end Hw
namespace Hw
open PySem L2
end Hw
namespace Hw
open PySem L2
end Hw
namespace Hw
open PySem L2
end Hw
namespace Hw
open PySem L2
end Hw
namespace L2
open PySem PySem.Spec PyProof.Rows Hw
section
variable {X:Cx}
noncomputable def Qn (K:PySem.W.Frag):R2:=fun x y H Q=>∃ a b xs,x=.ref a/\y=.ref b/\mD K H a xs/\mD K H b []/\Q (.bl (decide (xs=[]))) H
theorem Kc (hu:X.A.units < cLine):jX X (compareOp .Eq) (Qn X.K):=by
 intro pins s σ H x y v u Q I rx ry h;obtain⟨a,b,xs,rfl,rfl,ha,hb,q⟩:=h;cases rx;cases ry;obtain⟨us,r1,p1,_⟩:=I.list ha;obtain⟨vs,r2,p2,_⟩:=I.list hb;cases r2;have l1:=r1.length;by_cases hx:xs=[]
 ·rw[decide_eq_true hx] at q;subst hx;cases r1;exact SeqAt.RcAt.lists (A:=X.A) (e:=fun _=>true) p1.isList p2.isList rfl hu (fun j h1 h2=>absurd h2 (by simp)) _ _ _ _ ⟨.bl true,H,I,rfl,q⟩
 ·rw[decide_eq_false hx] at q;have:us≠[]:=fun z=>hx (by rw[z] at l1;exact List.length_eq_zero_iff.mp l1);refine SeqAt.RcAt.lists_lengths (A:=X.A) p1.isList p2.isList ?_ hu _ _ _ _ ⟨.bl false,H,I,rfl,q⟩;cases us with
  | nil=>exact absurd rfl this
  | cons _ _=>simp
end
end L2
namespace Hw
open PySem L2
end Hw
namespace Hw
open PySem L2
end Hw
namespace Hw
open PySem L2
end Hw
namespace Hw
open PySem L2
section
variable {Z:Cz}{H0 H H':Hp}{d tl sd hd p pf:Addr}{xs:List Str}{vt:V}{c c':Cd}{kvs kh:List (Key×V)}{S:Sb}
end
end Hw
namespace PySem
section
variable {prog:Program}{w:World}{A:Around}{E:Value->Shared->Prop}{h:Heap}{g:Array GenState}{d:Drawn}{t:Nat}{os:OsState}
variable {nm q:Str}{C N:Addr}{bs bm:List Value}{hdct:Bool}{sn:List Str}{sub:List Value}{ab:Bool}{col:Option Bool}{dd:Option Addr}{k0 k1 k2 k3 k5:Option Value}
end
end PySem
namespace PySem
section
variable {M:Model}{A:Around}{E:Value->Shared->Prop}{s:Shared}{base:Heap}{env:Env}{outer:List Env}{L a C:Addr}{oe:Obj}{vs:Array Value}
end
end PySem
namespace L2
open PySem PySem.Spec PyProof.Rows
section
variable {P:Program}{w:World}{K:PySem.W.Frag}{mg:Str->Option Value}{base:Heap}{N:List Str}{qual:Str}{scope:Scope}{f C:Addr}{cd:Value}{A:Around}{outer:List Env}{s:Shared}{H:Hp}{E:XK}
end
end L2
namespace L2
open PySem PySem.Spec PyProof.Rows
section
variable {X:Cx}{CX:JO}{k:Nat}{f C D fI:Addr}{fd:FuncData}{ps:List Str}{sp:Sp}{E:XK}{x m:Str}{p pos apos:Pos}{e o:Expr}{es:List Expr}{t:TA}{bm:List Value}
noncomputable def YY (sp:Sp)(E:XK)(to:TE)(t:TA):TE:=fun σ H Q=>to σ H fun _ H1=>t σ H1 fun vs H2=>sp (vs++[]) H2 Q E
theorem Q3 {pl:Sem Bool}(hg:Gl X x)(hm:X.mg x=some (.ref D))(h1:PySem.W.specialIn X.K (.ref D) "__getattribute__"=some (some (.builtin "type.__getattribute__")))(h2:PySem.W.readsIn X.K D (.type "type")=true)
  (h3:PySem.W.findCls X.K (.ref D) (.type "type") m=some (.val (.ref f))) (h4:PySem.W.handedIn (.ref f)=true) (hk:PySem.W.keepIn X.K (.ref f)=true) (F:aN X.prog X.w X.K X.mg X.base CX k f fd ps sp) (hr:c7 k X.A) (hb:Binds X.K fd ps [])
  (hx:Passes CX X E) (ha:PA X (e::es) t) (hst:starEach (e::es) X.env=(false,eval e X.env)::starEach es X.env:=by rfl) (hpl:(backTo pos (starEach es X.env)).any (·.1)=false:=by rfl) (hdb:(x == ("__debug__":Str))=false:=by decide)
  (ht:eval (.Call (.Attribute (.Name x p) m apos) (e::es) [] pos) X.env=(do
   let ov <- eval (.Name x p) X.env
   standAt apos.atName
   let (f,first) <- holding [ov] (getMethod ov m pl)
   callWith pos f first (backTo pos (starEach (e::es) X.env)) (backToKw pos (keywordEach [] X.env))):=by rfl) :
  PE X (.Call (.Attribute (.Name x p) m apos) (e::es) [] pos) (YY sp E (tC (.ref D)) t):=by
 intro pins s σ H Q I h;refine PySem.W.methodCall_KW (pl:=pl) (sF I hg hm ?_ hdb) ht;refine PySem.W.method_cls I.sH h1 (PySem.W.cls_value I.sH h2 h3 h4 ?_);have I1:=I.tok (s.toks+1);refine PySem.W.callWith_K (first:=[]) (h₀:=X.base) I.ok.mod.XU hk (cH (ha pos pins _ σ H _ I1 h) fun us s2 ⟨vs,H2,I2,r,q2⟩=>⟨I2.sH,?_⟩) hst hpl;exact xK F hr hb .nil hx I2 r q2
end
end L2
namespace L2
open PySem PySem.Spec PyProof.Rows
noncomputable def Its (x:Str):It:=⟨fun i _=>i < x.cps.size,fun i H v H'=>H'=H/\∃ c,x.cps[i]?=some c/\v=.str ⟨#[c]⟩,fun i _=>x.cps.size<=i⟩
theorem JR {P:Program}{w:World}{K:PySem.W.Frag}{tg:Expr}(x:Str)(t:Tok)(it:Addr):Turn P w K tg (Its x) [it] it (fun i h=>h.IsStrIter it "str_ascii_iterator" x t i) where
 mem:=by simp
 obj:=fun i h st b hb=>by
  have e:b=it:=by simpa using hb
  subst e;obtain⟨o,e,c,d⟩:=st;exact⟨o,e,fun v z=>by rw[d] at z;cases z⟩
 keep:=fun i h h' st k=>let ⟨o,ho,r⟩:=st;⟨o,k it (by simp) o ho,r⟩
 item:=by
  intro X hP hw hK hc i pins s σ H E I hf st hg;subst hP hw hK;have hg:i < x.cps.size:=hg;obtain⟨f0,f1,f2,f3,f4,f5⟩:=hf it (by simp);refine wpAny_pyNext_ascii_item st (c:=x.cps[i]) (by simp[hg]) fun h' st' sb=>?_;have I1:Inv X pins σ H { s with heap:=h',toks:=s.toks+1 }:=I.turned (t':=s.toks+1) (fun b o hb e=>(sb.2 b hb).trans e) f0 f1 f3 f4 f5;obtain⟨o,e,c,d⟩:=id st';exact⟨_,rfl,vn (s:={ s with heap:=h',toks:=s.toks+1 }) e c d (by decide) ⟨.str ⟨#[x.cps[i]]⟩,H,I1,⟨_,rfl⟩,⟨rfl,_,by simp[hg],rfl⟩,st',fun b hb=>(hf b hb).1⟩⟩
 done:=by
  intro X hP hw hK hc i pins s σ H E I hf st hg;subst hP hw hK;have hg:x.cps.size<=i:=hg;obtain⟨f0,f1,f2,f3,f4,f5⟩:=hf it (by simp);exact wpAny_pyNext_ascii_end (I.ok.hd hc) st (by simp[hg]) fun h' eb=>⟨rfl,I.turned (t':=s.toks) (fun b o hb e=>eb b o hb e) f0 f1 f3 f4 f5⟩
 self:=fun _ _ _ _ _ st h=>wpAny_pyIter_striter_ascii st h
theorem JQ {P:Program}{w:World}{K:PySem.W.Frag}{tg:Expr}(x:Str)(t:Tok)(it:Addr):Turn P w K tg (Its x) [it] it (fun i h=>h.IsStrIter it "str_iterator" x t i) where
 mem:=by simp
 obj:=fun i h st b hb=>by
  have e:b=it:=by simpa using hb
  subst e;obtain⟨o,e,c,d⟩:=st;exact⟨o,e,fun v z=>by rw[d] at z;cases z⟩
 keep:=fun i h h' st k=>let ⟨o,ho,r⟩:=st;⟨o,k it (by simp) o ho,r⟩
 item:=by
  intro X hP hw hK hc i pins s σ H E I hf st hg;subst hP hw hK;have hg:i < x.cps.size:=hg;obtain⟨f0,f1,f2,f3,f4,f5⟩:=hf it (by simp);refine wpAny_pyNext_wide_item st (c:=x.cps[i]) (by simp[hg]) fun h' st' sb=>?_;have I1:Inv X pins σ H { s with heap:=h',toks:=s.toks+1 }:=I.turned (t':=s.toks+1) (fun b o hb e=>(sb.2 b hb).trans e) f0 f1 f3 f4 f5;obtain⟨o,e,c,d⟩:=id st';exact⟨_,rfl,vn (s:={ s with heap:=h',toks:=s.toks+1 }) e c d (by decide) ⟨.str ⟨#[x.cps[i]]⟩,H,I1,⟨_,rfl⟩,⟨rfl,_,by simp[hg],rfl⟩,st',fun b hb=>(hf b hb).1⟩⟩
 done:=by
  intro X hP hw hK hc i pins s σ H E I hf st hg;subst hP hw hK;have hg:x.cps.size<=i:=hg;obtain⟨f0,f1,f2,f3,f4,f5⟩:=hf it (by simp);exact wpAny_pyNext_wide_end (I.ok.hd hc) st (by simp[hg]) fun h' eb=>⟨rfl,I.turned (t':=s.toks) (fun b o hb e=>eb b o hb e) f0 f1 f3 f4 f5⟩
 self:=fun _ _ _ _ _ st h=>wpAny_pyIter_striter_wide st h
section
variable {X:Cx}{tg:Expr}
noncomputable def a3P (tl:TE):TI:=fun σ H R=>tl σ H fun x H1=>∃ z,x=.str z/\R (Its z) H1
theorem VU {l:Expr}{tl:TE}(hl:PE X l tl):PI X tg l (a3P tl):=by
 intro pins s σ H R I h;refine cH (hl pins s σ H _ I h) ?_;rintro v s1 ⟨x,H1,I1,r1,q1⟩;obtain⟨z,e,q⟩:=q1;subst e;obtain⟨t,rfl⟩:=r1;cases ha:z.cps.all (· < 128)
 ·refine wpAny_pyIter_wide ha ?_;refine⟨s1.heap.objs.size,[s1.heap.objs.size],_,_,H1,rfl,I1.kept (t':=s1.toks) fun b o e=>Heap.get?_push_of_some _ e,JQ z t _,⟨_,Heap.get?_push_size _ rfl,rfl,rfl⟩,fun b hb=>?_,q⟩;have e:b=s1.heap.objs.size:=by simpa using hb
  subst e;exact I1.Eu (Nat.le_refl _) (I1.hok.fresh (Nat.le_refl _))
 ·refine wpAny_pyIter_ascii ha ?_;refine⟨s1.heap.objs.size,[s1.heap.objs.size],_,_,H1,rfl,I1.kept (t':=s1.toks) fun b o e=>Heap.get?_push_of_some _ e,JR z t _,⟨_,Heap.get?_push_size _ rfl,rfl,rfl⟩,fun b hb=>?_,q⟩;have e:b=s1.heap.objs.size:=by simpa using hb
  subst e;exact I1.Eu (Nat.le_refl _) (I1.hok.fresh (Nat.le_refl _))
theorem Ka:jX X (compareOp .LtE) (fun x y H Q=>∃ i j,x=.str i/\y=.str j/\Q (.bl (!(decide (j.cps.toList < i.cps.toList)))) H):=by
 intro pins s σ H x y v u Q I rx ry h;obtain⟨i,j,rfl,rfl,q⟩:=h;obtain⟨t,rfl⟩:=rx;obtain⟨t',rfl⟩:=ry;exact P.le_str (bP I q rfl)
end
end L2
namespace PySem
open L2
section
variable {prog:Program}{w:World}{A:Around}{E:Value->Shared->Prop}{s:Shared}
end
end PySem
namespace PySem
open L2 PyProof.Rows
section
variable {prog:Program}{w:World}{A:Around}{R:Result->Shared->Prop}{I:Addr}{fp wr:List Addr}{G:Array GenState->Array GenState->Prop}{n:Nat}{P:Nat->Value->Prop}{St:Nat->Shared->Prop}
end
section
variable {prog:Program}{w:World}{A:Around}{E:Value->Shared->Prop}{s:Shared}
end
end PySem
namespace PySem
open L2 PyProof.Rows
namespace F
end F
section
variable {prog:Program}{w:World}{A:Around}{E:Value->Shared->Prop}{s:Shared}{I a tp:Addr}{i n ep:Nat}{es:Array (Int×Value)}{t:SetTable}
end
end PySem
namespace PySem
open L2 PyProof.Rows
section
variable {prog:Program}{w:World}{A:Around}{E:Value->Shared->Prop}{s:Shared}{I a tp:Addr}{i n ep:Nat}{es:Array (Int×Value)}{t:SetTable}
end
end PySem
namespace PySem
open L2 PyProof.Rows
section
variable {M:Model}{A:Around}{E:Value->Shared->Prop}{s:Shared}
end
section
variable {prog:Program}{w:World}{A:Around}{E:Value->Shared->Prop}{s:Shared}{I a tp:Addr}{i n ep:Nat}{es:Array (Int×Value)}{t:SetTable}
end
end PySem
namespace PySem
open L2 PyProof.Rows
section
variable {prog:Program}{w:World}{A:Around}{E:Value->Shared->Prop}{s:Shared}{I a tp:Addr}{i n ep:Nat}{es:Array (Int×Value)}{t:SetTable}
end
end PySem
namespace PySem
open L2 PyProof.Rows
section
variable {prog:Program}{w:World}{A:Around}{E:Value->Shared->Prop}{s:Shared}{a:Addr}
end
end PySem
namespace PySem
open L2 PyProof.Rows
section
variable {prog:Program}{w:World}{A:Around}{E:Value->Shared->Prop}{s:Shared}{a:Addr}{zs:List Str}
end
end PySem
namespace L2
open PySem PySem.Spec PyProof.Rows Hw
section
variable {X:Cx}
end
end L2
namespace Hw
open PySem L2
noncomputable def oK (c:Nat):Bool:=decide (97<=c) && decide (c<=122)
noncomputable def isNm (z:Str):Bool:=(decide (1<=z.length) && decide (z.length<=8)) && !(decide (z∈pR)) && z.cps.toList.all oK
theorem a3A (c:Nat):(!(decide (((⟨#[c]⟩:Str)).cps.toList < (("a":Str)).cps.toList)))=decide (97<=c):=by
 show(!(decide ([c] < [97])))=_;have e:([c] < [97])↔(c < 97):=by rw[List.cons_lt_cons_iff];simp
 by_cases h:97<=c
 ·rw[decide_eq_true h,decide_eq_false (fun z=>absurd (e.mp z) (by omega))];rfl
 ·rw[decide_eq_false h,decide_eq_true (e.mpr (by omega))];rfl
theorem a3z (c:Nat):(!(decide ((("z":Str)).cps.toList < ((⟨#[c]⟩:Str)).cps.toList)))=decide (c<=122):=by
 show(!(decide ([122] < [c])))=_;have e:([122] < [c])↔(122 < c):=by rw[List.cons_lt_cons_iff];simp
 by_cases h:c<=122
 ·rw[decide_eq_true h,decide_eq_false (fun z=>absurd (e.mp z) (by omega))];rfl
 ·rw[decide_eq_false h,decide_eq_true (e.mpr (by omega))];rfl
end Hw
namespace L2
open PySem PySem.Spec PyProof.Rows Hw
section
variable {X:Cx}
end
end L2
namespace Hw
open PySem L2
theorem DO {ys:List Str}(h:ys.Pairwise (fun a b=>lt b a=false))(n:ys.Nodup):ys.Pairwise (fun a b=>lt a b=true):=by
 unfold List.Nodup at n;exact(h.and n).imp fun {a b} ⟨h1,h2⟩=>by
  rcases Ck a b with z | z | z
  ·exact z
  ·exact absurd z h2
  ·rw[h1] at z;cases z
theorem oj:∀ {xs ys:List Str},xs.Pairwise (fun a b=>lt a b=true)->ys.Pairwise (fun a b=>lt a b=true)->(∀ x,x∈xs↔x∈ys)->xs=ys
 | [],[],_,_,_=>rfl
 | [],y::_,_,_,h=>absurd ((h y).mpr (List.mem_cons_self ..)) (fun z=>nomatch z)
 | x::_,[],_,_,h=>absurd ((h x).mp (List.mem_cons_self ..)) (fun z=>nomatch z)
 | x::xs,y::ys,p,q,h=>by
  obtain⟨px,p'⟩:=List.pairwise_cons.mp p;obtain⟨qy,q'⟩:=List.pairwise_cons.mp q;have e:x=y:=by
   rcases List.mem_cons.mp ((h x).mp (List.mem_cons_self ..)) with z | z
   ·exact z
   ·rcases List.mem_cons.mp ((h y).mpr (List.mem_cons_self ..)) with u | u
    ·exact u.symm
    ·have:=lt_trans (px y u) (qy x z);rw[uv] at this;cases this
  subst e;have t:xs=ys:=oj p' q' fun z=>by
   constructor
   ·intro hz;rcases List.mem_cons.mp ((h z).mp (List.mem_cons_of_mem _ hz)) with u | u
    ·subst u;have:=px z hz;rw[uv] at this;cases this
    ·exact u
   ·intro hz;rcases List.mem_cons.mp ((h z).mpr (List.mem_cons_of_mem _ hz)) with u | u
    ·subst u;have:=qy z hz;rw[uv] at this;cases this
    ·exact u
  rw[t]
end Hw
namespace Hw
open PySem L2
theorem join_le (sep:Str):∀ (ss:List Str),(∀ x∈ss,x.length<=(Str.join sep ss).length)/\(ss.map (·.length)).sum<=(Str.join sep ss).length
 | []=>⟨(fun x h=>nomatch h),Nat.zero_le _⟩
 | [x]=>⟨fun y h=>by rw[List.mem_singleton.mp h];exact Nat.le_refl _,by simp[Str.join]⟩
 | x::y::r=>by
  have ih:=join_le sep (y::r);have e:(Str.join sep (x::y::r)).length=x.length+sep.length+(Str.join sep (y::r)).length:=by
   show((x++sep)++Str.join sep (y::r)).length=_;rw[lO,lO]
  refine⟨fun z hz=>?_,?_⟩
  ·rcases List.mem_cons.mp hz with q | q
   ·rw[q,e];omega
   ·have:=ih.1 z q;omega
  ·rw[e,List.map_cons,List.sum_cons];have:=ih.2;omega
end Hw
namespace Hw
open PySem L2
end Hw
namespace L2
open PySem PySem.Spec PyProof.Rows Hw
section
variable {X:Cx}
end
end L2
namespace Hw
open PySem L2
end Hw
namespace PySem.W
open PySem PySem.Spec PySem.Calls PyProof.Rows
section
variable {prog:Program}{w:World}{A:Around}{E:Value->Shared->Prop}{K:Frag}{x D:Addr}{ox:Obj}
end
end PySem.W
namespace L2
open PySem PySem.Spec PyProof.Rows
section
variable {X:Cx}{a C:Addr}{oe:Obj}
end
end L2
namespace PySem
section
variable {M:Model}{A:Around}{E:Value->Shared->Prop}
variable {nm q nm' q':Str}{C N W N':Addr}{bs bm bs' bm':List Value}{hdct a6y:Bool}{sn sn':List Str}{sub sub':List Value}{ab ab':Bool}{col col':Option Bool}{dd Um:Option Addr}{k0 k1 k2 k3 k5 j0 j1 j2 j3 j5:Option Value}{newId newId':String}
end
section
variable {M:Model}{A:Around}{E:Value->Shared->Prop}{s:Shared}{base:Heap}{env:Env}{outer:List Env}{L a C:Addr}{oe:Obj}{vs:Array Value}
end
end PySem
namespace L2
open PySem PySem.Spec PyProof.Rows
section
variable {X:Cx}{pn:List (Addr×Obj)}{xe:Value->Shared->Prop}{pins xV:List (Addr×Obj)}{σ:St}{H:Hp}{s:Shared}{a:Addr}
end
section
variable {X:Cx}{C W fI fW:Addr}{bm bmW:List Value}{xc n:Str}{i:Nat}{np hpos pos:Pos}{body:List Stmt}{b₀:Stmt}{suite:List Stmt}{tb:XK->TS}{ts:Addr->TS}
end
end L2
namespace Hw
open PySem L2
end Hw
namespace L2
open PySem PySem.Spec PyProof.Rows Hw
section
variable {X:Cx}{C:Addr}{k:Nat}{m:Str}{pos apos:Pos}{o:Expr}{ta:TE}{Z:Cz}{ps:List Str}{sp:Nat->Sp}{E:XK}
end
end L2
namespace Hw
open PySem L2
end Hw
namespace Hw
open PySem L2
section
variable {xs:List Str}{H H' H'':Hp}{d l P:Addr}{us:List V}{cs:List Cd}
end
end Hw
namespace L2
open PySem PySem.Spec PyProof.Rows
end L2
namespace Hw
open PySem L2
end Hw
namespace L2
open PySem PySem.Spec PyProof.Rows Hw
section
variable {X:Cx}{k:Nat}{m:Str}{pos apos:Pos}{o:Expr}{ta:TE}{Y:Cy}{ps:List Str}{sp:Nat->Sp}
end
end L2
namespace Hw
open PySem L2
end Hw
namespace Hw
open PySem L2
end Hw
namespace L2
open PySem PySem.Spec PyProof.Rows
noncomputable def notStar:Expr->Bool
 | .Starred ..=>false
 | _=>true
theorem gE {e:Expr}{es:List Expr}{env:Env}(h:notStar e=true):starEach (e::es) env=(false,eval e env)::starEach es env:=by
 cases e <;> first | rfl | cases h
theorem gP {pos:Pos}{env:Env}:∀ {es:List Expr},es.all notStar=true->(backTo pos (starEach es env)).any (·.1)=false
 | [],_=>rfl
 | e::es,h=>by
  have h:(notStar e && es.all notStar)=true:=h;rw[Bool.and_eq_true] at h;rw[gE h.1];show(false || (backTo pos (starEach es env)).any (·.1))=false;rw[gP h.2];rfl
theorem Dv {pos:Pos}{env:Env}:∀ {es:List Expr},es.all notStar=true->(backTo pos (starEach es env)).all (fun x=>!x.1)=true
 | [],_=>rfl
 | e::es,h=>by
  have h:(notStar e && es.all notStar)=true:=h;rw[Bool.and_eq_true] at h;rw[gE h.1];show(true && (backTo pos (starEach es env)).all (fun x=>!x.1))=true;rw[Dv h.2];rfl
section
variable {X:Cx}{CX:JO}{k:Nat}{f C:Addr}{fd:FuncData}{ps:List Str}{sp:Sp}{zq:List V}{ds:List Value}{E:XK}{x:Str}{p pos:Pos}{e:Expr}{es:List Expr}{te:TE}{t:TA}
theorem Nc (ha:PE X e te)(hr:PA X es t)(h:notStar e=true:=by rfl):PA X (e::es) (Tp te t):=IQ ha hr (gE h)
theorem M8 (F:aN X.prog X.w X.K X.mg X.base CX k f fd ps sp)(hr:c7 k X.A)(hg:Gl X x)(hm:X.mg x=some (.ref f))(hk:PySem.W.keepIn X.K (.ref f)=true)(hb:Binds X.K fd ps ds)(hd:Vals zq ds)(hx:Passes CX X E)
  (ha:PA X (e::es) t) (h1:notStar e=true:=by rfl) (h2:es.all notStar=true:=by rfl) (hdb:(x == ("__debug__":Str))=false:=by decide):PE X (.Call (.Name x p) (e::es) [] pos) (L4 sp zq E t) :=
 Q4 F hr hg hm hk hb hd hx ha hdb (gE h1) (gP h2)
theorem DZ (M:Mk X.K C f)(F:aN X.prog X.w X.K X.mg X.base CX k f fd ps sp)(hr:c7 (k+1) X.A)(hg:Gl X x)(hm:X.mg x=some (.ref C))(hb:Binds X.K fd ps ds)(hd:Vals zq ds)(hx:Passes CX X E)
  (ha:PA X (e::es) t) (h1:notStar e=true:=by rfl) (h2:es.all notStar=true:=by rfl) (hdb:(x == ("__debug__":Str))=false:=by decide):PE X (.Call (.Name x p) (e::es) [] pos) (Tj C sp zq E t) :=
 QY M F hr hg hm hb hd hx ha hdb (gE h1) (gP h2)
theorem J5 {id:String}{r:List V->Hp->VK->Prop}(hc:eW X (.builtin id) r)(hg:Gl X x)(hm:X.mg x=none)(hv:bootBuiltins x=some (.builtin id))(ha:PA X (e::es) t)(h1:notStar e=true:=by rfl)(h2:es.all notStar=true:=by rfl)(hn:x≠"__name__":=by decide)(hdb:(x == ("__debug__":Str))=false:=by decide) :
  PE X (.Call (.Name x p) (e::es) [] pos) (YZ r t):=M9 hc hg hm hv ha hn hdb (gE h1) (gP h2)
theorem Gd {T:String}{r:List V->Hp->VK->Prop}(hc:eW X (.type T) r)(hg:Gl X x)(hm:X.mg x=none)(hv:bootBuiltins x=some (.type T))(ha:PA X (e::es) t)(h1:notStar e=true:=by rfl)(h2:es.all notStar=true:=by rfl)(hn:x≠"__name__":=by decide)(hdb:(x == ("__debug__":Str))=false:=by decide) :
  PE X (.Call (.Name x p) (e::es) [] pos) (YZ r t):=J4 hc hg hm hv ha hn hdb (gE h1) (gP h2)
theorem V4 {T id:String}{name:Str}{r:V->List V->Hp->VK->Prop}{o:Expr}{to:TE}{apos cpos:Pos}(pa:PlainAttrs T)(slot:Slot T name id)(hty:typeOf (.builtin id)=pure (.type "method_descriptor"))(hm:qO X id r)(ho:PE X o to)(ha:PA X (e::es) t)
  (h1:notStar e=true:=by rfl) (h2:es.all notStar=true:=by rfl) (h3:es.length < 20:=by decide) (hbase:attributeBase o name X.env (eval o X.env)=eval o X.env:=by rfl) (hline:(apos.endLine == cpos.line)=true:=by rfl) :
  PE X (.Call (.Attribute o name apos) (e::es) [] cpos) (tBM X.K T r to t) :=
 ZT pa slot hty hm ho ha hbase (by
  rw[Dv (show(e::es).all notStar=true by show(notStar e && es.all notStar)=true;rw[h1,h2];rfl)];show(true && true && decide (es.length+1+0+0 < 30))=true;rw[decide_eq_true (by omega)];rfl) hline (gE h1) (gP h2)
end
end L2
namespace Hw
open PySem L2
section
variable {H0 H H':Hp}{d p q a1 a2 a3 a4:Addr}{o:Own}{us:List V}{hs:List Hl}
end
end Hw
namespace L2
open PySem PySem.Spec PyProof.Rows
end L2
namespace Hw
open PySem L2
end Hw
namespace Hw
open PySem L2
end Hw
namespace PySem
open Sem (wp)
open Builtin
section
variable {prog:Program}{w:World}{A:Around}{E:Value->Shared->Prop}{h:Heap}{g:Array GenState}{d:Drawn}{t:Nat}{os:OsState}{K:W.Frag}{C x:Addr}{o:Obj}
end
end PySem
namespace L2
open PySem PySem.Spec PyProof.Rows
end L2
namespace Hw
open PySem L2
section
variable {Y:Cy}{G G':Hp}{tt pg pc pb pl:Addr}{us ws:List V}{hs:List Hl}{c:Cd}{h0:Hl}{u0:V}
end
end Hw
namespace PySem
open L2
section
variable {prog:Program}{w:World}{A:Around}{E:Value->Shared->Prop}{s:Shared}
end
end PySem
namespace L2
open PySem PySem.Spec PyProof.Rows Hw
section
variable {X:Cx}
end
end L2
namespace PySem
open L2 PyProof.Rows
section
variable {prog:Program}{w:World}{A:Around}{E:Value->Shared->Prop}{s:Shared}
end
end PySem
namespace L2
open PySem PySem.Spec PyProof.Rows Hw
section
variable {X:Cx}
end
end L2
namespace PySem
section
variable {M:Model}{A:Around}{E:Value->Shared->Prop}{s:Shared}{base:Heap}{env:Env}{outer:List Env}{L a C T:Addr}{z:Value}
end
end PySem
namespace L2
open PySem PySem.Spec PyProof.Rows
section
variable {prog:Program}{w:World}{A:Around}{R:Result->Shared->Prop}{s:Shared}
end
section
variable {X:Cx}{sc:Scope}{cl:List (Str×Addr)}{own:Nat}{N:List Str}{fr:List Nat}
end
end L2
namespace L2
open PySem PySem.Spec PyProof.Rows
section
variable {P:Program}{w:World}{K:PySem.W.Frag}{mg:Str->Option Value}{base:Heap}{N:List Str}{qual:Str}{scope:Scope}{f TM:Addr}{cd:Value}{A:Around}{outer:List Env}{s:Shared}{H:Hp}{E:XK}
end
section
variable {P:Program}{w:World}{K:PySem.W.Frag}{mg:Str->Option Value}{base:Heap}{N0:List Str}{qual:Str}{scope:Scope}{f00 TM:Addr}{cd:Value}{A:Around}{outer:List Env}{s0:Shared}{H00:Hp}{E:XK}{sc:Scope}{cl:List (Str×Addr)}{own:Nat}{N:List Str}{fr:List Nat}
end
end L2
namespace Hw
open PySem L2
end Hw
namespace Hw
open PySem L2
end Hw
namespace L2
open PySem PySem.Spec PyProof.Rows Hw
section
variable {X:Cx}{k:Nat}{m:Str}{pos apos:Pos}{o:Expr}{ta:TE}{Y:Cy}{ps:List Str}{sp:Nat->Sp}
noncomputable def Qj:V->List V->Hp->VK->Prop:=fun x vs H Q=>∃ a b,x=.str a/\vs=[.str b]/\Q (.bl (Txt.startswith a b)) H
theorem Kl:qO X "str.startswith" Qj:=by
 intro pins s σ H x vs v us Q I rx rv h;obtain⟨a,b,rfl,rfl,q⟩:=h;obtain⟨t,rfl⟩:=rx;obtain⟨u,rfl,ru⟩:=rv.one;obtain⟨t2,rfl⟩:=ru;exact PySem.SC.startswith ⟨.bl _,H,I,rfl,q⟩
end
end L2
namespace Hw
open PySem L2
section
variable {Y:Cy}{H:Hp}{s:oQ}{p:Addr}
end
section
variable {Y:Cy}{H H':Hp}
end
end Hw
namespace Hw
open PySem L2
section
variable {Z:Cz}{Bk Db:Addr}{H H':Hp}{b F:Addr}{pg:V}{ds:List V}{dd:List Dt}
end
end Hw
namespace Hw
open PySem L2
section
variable {N:List Str}{Y:Cy}{H:Hp}{s:oQ}{p:Addr}
end
end Hw
namespace PySem
open L2
end PySem
namespace PySem
open L2
section
variable {prog:Program}{w:World}{A:Around}{E:Value->Shared->Prop}{s:Shared}
end
end PySem
namespace PySem
open L2
section
variable {prog:Program}{w:World}{A:Around}{E:Value->Shared->Prop}{s:Shared}
end
end PySem
namespace L2
open PySem PySem.Spec PyProof.Rows Hw
section
variable {X:Cx}
end
end L2
namespace PySem
open Sem (wp)
section
variable {prog:Program}{w:World}{A:Around}{E:Value->Shared->Prop}{s:Shared}
end
end PySem
namespace L2
open PySem PySem.Spec PyProof.Rows Hw
section
variable {X:Cx}
end
section
variable {X:Cx}{l:Expr}{tl:TE}{p pos:Pos}
end
end L2
namespace PySem
open Sem (wp)
section
variable {prog:Program}{w:World}{A:Around}{E:Value->Shared->Prop}{s:Shared}{z ti tw i1 i2:Addr}{f1 f2:List Addr}{n1 n2 k:Nat}{P1 P2:Nat->Value->Prop}{S1 S2:Nat->Heap->Prop}{a b:Value}
end
end PySem
namespace PySem
section
variable {prog:Program}{w:World}{A:Around}{E:Value->Shared->Prop}{s:Shared}
end
end PySem
namespace L2
open PySem PySem.Spec PyProof.Rows Hw
section
variable {X:Cx}
end
section
variable {X:Cx}{l m:Expr}{p pos:Pos}
end
end L2
namespace L2
open PySem PySem.Spec PyProof.Rows Hw
end L2
namespace Hw
open PySem L2
end Hw
namespace Hw
open PySem L2
end Hw
namespace Hw
open PySem L2
end Hw
namespace L2
open PySem PySem.Spec PyProof.Rows Hw
end L2
namespace Hw
open PySem L2
end Hw
namespace Hw
open PySem L2
end Hw
namespace Hw
open PySem L2
end Hw
namespace Hw
open PySem L2
end Hw
namespace Hw
open PySem L2
end Hw
namespace L2
open PySem PySem.Spec PyProof.Rows Hw
theorem fM {P:Program}{w:World}{K:PySem.W.Frag}{mg:Str->Option Value}{base:Heap}{k:Nat}{m:Str}{C f:Addr}{fd:FuncData}{ps:List Str}{sp:Sp}(a:aN P w K mg base cG k f fd ps sp)(b:PySem.W.findIn K (.ref C) m=some (some (.ref f)))(e:PySem.W.isFn K (.ref f)=true)(c:PySem.W.keepIn K (.ref f)=true)(d:Binds K fd ps []):Mt P w K mg base k C m ps sp:=⟨f,fd,a,⟨b,e,c⟩,d⟩
theorem Ft {P:Program}{w:World}{K:PySem.W.Frag}{mg:Str->Option Value}{base:Heap}{k:Nat}{C f:Addr}{fd:FuncData}{ps:List Str}{sp:Sp}(a:aN P w K mg base cG k f fd ps sp)(m:PySem.W.makesIn K C=true)(b:PySem.W.findIn K (.ref C) "__init__"=some (some (.ref f)))(e:PySem.W.isFn K (.ref f)=true)(c:PySem.W.keepIn K (.ref C)=true)(d:Binds K fd ps []):Mr P w K mg base k C ps sp:=⟨f,fd,a,⟨m,b,e,c⟩,d⟩
end L2
namespace Hw
open PySem L2
end Hw
namespace Hw
open PySem L2
end Hw
namespace Hw
open PySem L2
end Hw
namespace Hw
open PySem L2
end Hw
namespace Hw
open PySem L2
end Hw
namespace Hw
open PySem L2
end Hw
namespace Hw
open PySem L2
end Hw
namespace L2
open PySem PySem.Spec PyProof.Rows Hw
end L2
namespace Hw
open PySem L2
end Hw
namespace L2
open PySem PySem.Spec PyProof.Rows PySem.Builtin PySem.Builtin.Str
section
variable {X:Cx}
theorem uY:∀ l:List (Str×Tok),Vals ((l.map (·.1)).map V.str) (strValues l)
 | []=>.nil
 | p::r=>.cons ⟨p.2,rfl⟩ (uY r)
theorem DB {x y:Str}:(Txt.split x y).length<=x.length+2:=by
 unfold Txt.split;split
 ·show 1<=_;omega
 ·split
  ·show 1<=_;omega
  ·rw[length_partsBetween];have e1:=StrLaws.occ_length_le x y 0 x.length (x.length+1);omega
noncomputable def Vt:V->List V->Hp->VK->Prop:=fun x vs H Q=>∃ a b,x=.str a/\vs=[.str b]/\(b.length == 0)=false/\a.length+2<=sizeLine/\∀ p,H p=none->Q (.ref p) (upd H p (.lst ((Txt.split a b).map V.str)))
theorem NC:qO X "str.split" Vt:=by
 intro pins s σ H x vs v us Q I rx rv h;obtain⟨a,b,rfl,rfl,hb,hz,q⟩:=h;obtain⟨t,rfl⟩:=rx;obtain⟨u,rfl,ru⟩:=rv.one;obtain⟨t2,rfl⟩:=ru;have fin:∀ (l:List (Str×Tok)) (k:Nat),l.map (·.1)=Txt.split a b->EP X pins σ Q (.ref s.heap.objs.size) { s with heap:=s.heap.push { cls:=.type "list",data:=.seq (strValues l).toArray },toks:=k }:=fun l k e=>by
  refine⟨.ref s.heap.objs.size,_,I.WE (ys:=(Txt.split a b).map V.str) (e ▸ uY l) ?_,rfl,q _ I.fresh⟩;rw[List.length_map];have:=DB (x:=a) (y:=b);omega
 have hn:(partsBetween a (occurrences a b 0 a.length (a.length+1)) b.length).length<=sizeLine:=by
  have e1:=StrLaws.occ_length_le a b 0 a.length (a.length+1);rw[length_partsBetween];omega
 cases h1:(decide (a.length < b.length) || decide (strKind a < strKind b))
 ·cases hf:(occurrences a b 0 a.length (a.length+1)).isEmpty
  ·refine call_meets F.slot_str_split (typeIs_str _ _ _) F.entry_str_split (F.args_str_split_2 _ _) (meets_str_split_sep a b t t2 h1 hb hf (by omega) hn) ?_;show wants _ _ _ { s with toks:=_,heap:=s.heap.push { cls:=.type "list",data:=.seq (strsFrom s.toks (partsBetween a (occurrences a b 0 a.length (a.length+1)) b.length)).toArray } };rw[strsFrom_eq];exact fin (numbered s.toks _) _ ((numbered_texts _ _).trans ((if_neg (ne_true_of_eq_false h1)).trans (if_neg (ne_true_of_eq_false hf))).symm)
  ·exact call_meets F.slot_str_split (typeIs_str _ _ _) F.entry_str_split (F.args_str_split_2 _ _) (meets_str_split_not_found a b t t2 h1 hb hf) (fin [(a,t)] s.toks ((if_neg (ne_true_of_eq_false h1)).trans (if_pos hf)).symm)
 ·exact call_meets F.slot_str_split (typeIs_str _ _ _) F.entry_str_split (F.args_str_split_2 _ _) (meets_str_split_cannot_occur a b t t2 h1) (fin [(a,t)] s.toks (if_pos h1).symm)
noncomputable def Zx:V->List V->Hp->VK->Prop:=fun x vs H Q=>∃ a b,x=.str a/\vs=[.str b]/\(b.length == 0)=false/\a.length<=sizeLine/\∀ p,H p=none->Q (.ref p) (upd H p (.tup [.str (Txt.partition a b).1,.str (Txt.partition a b).2.1,.str (Txt.partition a b).2.2]))
theorem RI:qO X "str.partition" Zx:=by
 intro pins s σ H x vs v us Q I rx rv h;obtain⟨a,b,rfl,rfl,hb,hz,q⟩:=h;obtain⟨t,rfl⟩:=rx;obtain⟨u,rfl,ru⟩:=rv.one;obtain⟨t2,rfl⟩:=ru;refine call_meets F.slot_str_partition (typeIs_str _ _ _) F.entry_str_partition (F.args_str_partition_2 _ _) (meets_str_partition a b t t2 hb hz) ?_;have fin:∀ (x1 x2 x3:Str) (ta tb tc:Tok) (k:Nat),Txt.partition a b=(x1,x2,x3)->EP X pins σ Q (.ref s.heap.objs.size) { s with heap:=s.heap.push { cls:=.type "tuple",data:=.seq [.str x1 ta,.str x2 tb,.str x3 tc].toArray },toks:=k }:=fun x1 x2 x3 ta tb tc k e=>by
  rw[e] at q;refine⟨.ref s.heap.objs.size,_,?_,rfl,q _ I.fresh⟩;refine I.laid (fun b o e=>Heap.get?_push_of_some _ e) (Nat.le_refl _) ⟨by simp only[List.length_cons,List.length_nil];rw[sizeLine_eq];decide,[.str x1 ta,.str x2 tb,.str x3 tc],.cons ⟨_,rfl⟩ (.cons ⟨_,rfl⟩ (.cons ⟨_,rfl⟩ .nil)),?_⟩;exact⟨_,Heap.get?_push_size s.heap rfl,rfl,0,rfl⟩
 unfold Txt.partition at fin;revert fin;cases occurrences a b 0 a.length 1 with
 | nil=>intro fin;exact fin _ _ _ _ _ _ _ rfl
 | cons i r=>intro fin;exact fin _ _ _ _ _ _ _ rfl
noncomputable def a3h:V->List V->Hp->VK->Prop:=fun x vs H Q=>∃ a b,x=.str a/\vs=[.str b]/\a.length<=sizeLine/\Q (.str (Txt.lstripChars a b)) H
theorem Kn:qO X "str.lstrip" a3h:=by
 intro pins s σ H x vs v us Q I rx rv h;obtain⟨a,b,rfl,rfl,hz,q⟩:=h;obtain⟨t,rfl⟩:=rx;obtain⟨u,rfl,ru⟩:=rv.one;obtain⟨t2,rfl⟩:=ru;exact SC.lstripChars (fun t' k=>⟨.str _,H,I.tok _,⟨_,rfl⟩,q⟩) hz
noncomputable def a3e:V->List V->Hp->VK->Prop:=fun x vs H Q=>∃ a b,x=.str a/\vs=[.str b]/\a.length<=sizeLine/\Q (.str (Txt.rstripChars a b)) H
theorem Km:qO X "str.rstrip" a3e:=by
 intro pins s σ H x vs v us Q I rx rv h;obtain⟨a,b,rfl,rfl,hz,q⟩:=h;obtain⟨t,rfl⟩:=rx;obtain⟨u,rfl,ru⟩:=rv.one;obtain⟨t2,rfl⟩:=ru;exact SC.rstripChars (fun t' k=>⟨.str _,H,I.tok _,⟨_,rfl⟩,q⟩) hz
theorem Lb:eW X (.type "int") (fun vs H Q=>∃ (x:Str) (n:Int),vs=[.str x]/\PySem.intText? x=some n/\x.length<=640/\Q (.int n) H):=by
 intro pins s σ H xs us Q I r h;obtain⟨x,n,rfl,hn,hl,q⟩:=h;obtain⟨u,rfl,ru⟩:=r.one;obtain⟨t,rfl⟩:=ru;exact PySem.W.KIN.call_text hn hl ⟨.int n,H,I.tok _,⟨_,rfl⟩,q⟩
noncomputable def ZC:V->List V->Hp->VK->Prop:=fun x vs H Q=>∃ (l:Addr) (xs:List V) (y z:V) (j:Nat),x=.ref l/\vs=[y]/\H l=some (.lst xs)/\eT y=true/\xs.all eT=true/\xs[j]?=some z/\Ez z y=true/\(∀ i,i < j->∀ c,xs[i]?=some c->Ez c y=false)/\Q (.int j) H
theorem Jl {y:V}{xs:List V}{us:List Value}(r:Vals xs us)(f:xs.all eT=true){i:Nat}{z:V}(e:xs[i]?=some z)(hi:i < us.length):EA y us[i]=Ez z y:=by
 obtain⟨u,hu,ru⟩:=r.get e;rw[List.getElem?_eq_getElem hi] at hu;cases hu;exact GV ru (List.all_eq_true.mp f z (List.mem_of_getElem? e))
theorem RL:qO X "list.index" ZC:=by
 intro pins s σ H x vs v us Q I rx rv h;obtain⟨l,xs,y,z,j,rfl,rfl,hH,fy,fx,hj,hit,hno,q⟩:=h;cases rx;obtain⟨u,rfl,ru⟩:=rv.one;obtain⟨hz,its,n,r,hl,e⟩:=I.zP hH;have hjl:j < xs.length:=(List.getElem?_eq_some_iff.mp hj).1;have hs:sizeLine < 2 ^ 62:=by rw[sizeLine_eq];decide
 refine call_meets PySem.F.slot_list_index ⟨_,e,rfl⟩ PySem.F.entry_list_index (PySem.F.args_list_index_2 _ _) (SeqAt.list_indexAt l its.toArray n none #[] u (EA y) j (by simp;omega) (by omega) ?_ (fun m hm hmj=>?_)) ⟨e,fun w hw=>kD ru fy r fx w (by simpa using hw),?_⟩
 ·simp only[List.getElem_toArray];rw[Jl r fx hj];exact hit
 ·have hm':m < its.length:=by simpa using hm
  have hx:m < xs.length:=by omega
  simp only[List.getElem_toArray];rw[Jl r fx (List.getElem?_eq_getElem hx)];exact hno m hmj _ (List.getElem?_eq_getElem hx)
 ·exact⟨.int _,H,I.tok _,⟨_,rfl⟩,q⟩
end
end L2
namespace L3
open PySem L2
inductive T where
 | v (x:V) | tup (l:List T) | lst (l:List T) | Fq (l:List T) | ins (C:Addr) (ns:List Str) (l:List T)
inductive D where
 | t (x:T) | ob (n:Nat)
inductive O where
 | lst (l:List T) | qC (l:List (Key×T)) | yC (ob:Obj) (kvs:List (Key×V)) (l:List (Key×T)) | ins (C:Addr) (ns:List Str) (l:List D)
noncomputable abbrev aY:=List O
noncomputable abbrev Sl:=List (Option D)
noncomputable abbrev T.int (i:Int):T:=.v (.int i)
noncomputable abbrev T.str (x:Str):T:=.v (.str x)
noncomputable abbrev T.bl (b:Bool):T:=.v (.bl b)
noncomputable abbrev T.dO:T:=.v .dO
noncomputable abbrev D.int (i:Int):D:=.t (.v (.int i))
noncomputable abbrev D.str (x:Str):D:=.t (.v (.str x))
noncomputable abbrev D.bl (b:Bool):D:=.t (.v (.bl b))
noncomputable abbrev D.dO:D:=.t (.v .dO)
noncomputable abbrev D.tup (l:List T):D:=.t (.tup l)
noncomputable abbrev D.lst (l:List T):D:=.t (.lst l)
noncomputable def Le (G G':Hp):Prop:=∀ a o,G a=some o->G' a=some o
theorem Le.refl (G:Hp):Le G G:=fun _ _ h=>h
theorem Le.trans {A B C:Hp}(h:Le A B)(k:Le B C):Le A C:=fun a o e=>k a o (h a o e)
theorem Zv {G G':Hp}(h:Le G G'){a:Addr}{u:HO}:Rd G a u->Rd G' a u
 | .inl e=>.inl (h _ _ e)
 | .inr ⟨o,e⟩=>.inr ⟨o,h _ _ e⟩
theorem FY {K:PySem.W.Frag}{G G':Hp}(h:Le G G'){a:Addr}{xs:List V}:mD K G a xs->mD K G' a xs
 | .inl e=>.inl (Zv h e)
 | .inr e=>.inr e
structure eV (K:PySem.W.Frag)(C:Addr)(ns:List Str):Prop where
 cls:S7 K C
 no:∀ f∈ns,aM K C f
 ca:PySem.W.findIn K (.ref C) "__class__"=some (some (.builtin "object.__class__"))
 cg:PySem.W.specialIn K (.builtin "object.__class__") "__get__"=some (some (.builtin "getset_descriptor.__get__"))
 ct:PySem.W.takesIn K (.builtin "object.__class__")=some true
 cm:PySem.W.mroIn K C (.type "object")=some true
mutual
noncomputable def Rp (K:PySem.W.Frag)(G:Hp):T->V->Prop
 | .v x,w=>w=x
 | .tup l,w=>∃ a vs,w=.ref a/\G a=some (.tup vs)/\bI K G l vs
 | .lst l,w=>∃ a vs,w=.ref a/\G a=some (.lst vs)/\bI K G l vs
 | .Fq l,w=>∃ a vs,w=.ref a/\mD K G a vs/\bI K G l vs
 | .ins C ns l,w=>∃ a dx vs,w=.ref a/\G a=some (.ins C dx (ns.zip vs))/\ns.length=vs.length/\eV K C ns/\bI K G l vs
noncomputable def bI (K:PySem.W.Frag)(G:Hp):List T->List V->Prop
 | [],vs=>vs=[]
 | x::r,vs=>∃ v vr,vs=v::vr/\Rp K G x v/\bI K G r vr
end
mutual
theorem Rp.le {K:PySem.W.Frag}{G G':Hp}(h:Le G G'):∀ {x:T} {w:V},Rp K G x w->Rp K G' x w
 | .v x,w,e=>by unfold Rp at *;exact e
 | .tup l,w,e=>by
  unfold Rp at *;obtain⟨a,vs,e1,e2,e3⟩:=e;exact⟨a,vs,e1,h _ _ e2,bI.le h e3⟩
 | .lst l,w,e=>by
  unfold Rp at *;obtain⟨a,vs,e1,e2,e3⟩:=e;exact⟨a,vs,e1,h _ _ e2,bI.le h e3⟩
 | .Fq l,w,e=>by
  unfold Rp at *;obtain⟨a,vs,e1,e2,e3⟩:=e;exact⟨a,vs,e1,FY h e2,bI.le h e3⟩
 | .ins C ns l,w,e=>by
  unfold Rp at *;obtain⟨a,dx,vs,e1,e2,e3,e4,e5⟩:=e;exact⟨a,dx,vs,e1,h _ _ e2,e3,e4,bI.le h e5⟩
theorem bI.le {K:PySem.W.Frag}{G G':Hp}(h:Le G G'):∀ {l:List T} {vs:List V},bI K G l vs->bI K G' l vs
 | [],vs,e=>by unfold bI at *;exact e
 | x::r,vs,e=>by
  unfold bI at *;obtain⟨v,vr,e1,e2,e3⟩:=e;exact⟨v,vr,e1,Rp.le h e2,bI.le h e3⟩
end
section
variable {K:PySem.W.Frag}{G:Hp}
theorem bI.nil:bI K G [] []:=by unfold bI;rfl
theorem bI.cons {x:T}{v:V}{l:List T}{vs:List V}(h:Rp K G x v)(r:bI K G l vs):bI K G (x::l) (v::vs):=by
 unfold bI;exact⟨v,vs,rfl,h,r⟩
theorem bI.len:∀ {l:List T} {vs:List V},bI K G l vs->l.length=vs.length
 | [],vs,e=>by unfold bI at e;rw[e];rfl
 | x::r,vs,e=>by
  unfold bI at e;obtain⟨v,vr,e1,_,e3⟩:=e;rw[e1,List.length_cons,List.length_cons,e3.len]
theorem bI.app:∀ {l m:List T} {vs ws:List V},bI K G l vs->bI K G m ws->bI K G (l++m) (vs++ws)
 | [],m,vs,ws,e,k=>by unfold bI at e;rw[e];exact k
 | x::r,m,vs,ws,e,k=>by
  unfold bI at e;obtain⟨v,vr,e1,e2,e3⟩:=e;rw[e1];exact .cons e2 (e3.app k)
theorem bI.get:∀ {l:List T} {vs:List V} {i:Nat} {x:T},bI K G l vs->l[i]?=some x->∃ v,vs[i]?=some v/\Rp K G x v
 | [],vs,i,x,e,k=>by simp at k
 | y::r,vs,0,x,e,k=>by
  unfold bI at e;obtain⟨v,vr,e1,e2,e3⟩:=e;simp at k;subst k;exact⟨v,by rw[e1];rfl,e2⟩
 | y::r,vs,i+1,x,e,k=>by
  unfold bI at e;obtain⟨v,vr,e1,e2,e3⟩:=e;obtain⟨u,h1,h2⟩:=e3.get (i:=i) (x:=x) (by simpa using k);exact⟨u,by rw[e1];simpa using h1,h2⟩
theorem bI.tk:∀ {l:List T} {vs:List V} (n:Nat),bI K G l vs->bI K G (l.take n) (vs.take n)
 | _,_,0,_=>by simp;exact .nil
 | [],vs,n+1,e=>by unfold bI at e;rw[e];simp;exact .nil
 | y::r,vs,n+1,e=>by
  unfold bI at e;obtain⟨v,vr,e1,e2,e3⟩:=e;rw[e1,List.take_succ_cons,List.take_succ_cons];exact .cons e2 (e3.tk n)
theorem bI.dp:∀ {l:List T} {vs:List V} (n:Nat),bI K G l vs->bI K G (l.drop n) (vs.drop n)
 | _,_,0,e=>by simpa using e
 | [],vs,n+1,e=>by unfold bI at e;rw[e];simp;exact .nil
 | y::r,vs,n+1,e=>by
  unfold bI at e;obtain⟨v,vr,e1,e2,e3⟩:=e;rw[e1,List.drop_succ_cons,List.drop_succ_cons];exact e3.dp n
theorem bI.ye:∀ {ns:List Str} {vs:List V} {f:Str},f ∉ ns->(ns.zip vs).lookup f=none
 | [],vs,f,_=>by simp
 | n::ns,[],f,_=>by simp
 | n::ns,v::vs,f,h=>by
  rw[List.zip_cons_cons,List.lookup_cons];have q:(f == n)=false:=by
   cases q:(f == n) with
   | false=>rfl
   | true=>exact absurd (List.mem_cons.mpr (.inl (eq_of_beq q))) h
  rw[q];exact bI.ye fun z=>h (List.mem_cons_of_mem _ z)
end
theorem om:∀ {l:List Addr} {i j:Nat} {a:Addr},l.Nodup->l[i]?=some a->l[j]?=some a->i=j
 | [],_,_,_,_,h,_=>by simp at h
 | x::r,0,0,_,_,_,_=>rfl
 | x::r,0,j+1,a,nd,h,k=>by
  simp at h k;subst h;exact absurd (List.mem_of_getElem? k) (List.nodup_cons.mp nd).1
 | x::r,i+1,0,a,nd,h,k=>by
  simp at h k;subst k;exact absurd (List.mem_of_getElem? h) (List.nodup_cons.mp nd).1
 | x::r,i+1,j+1,a,nd,h,k=>congrArg (·+1) (om (l:=r) (List.nodup_cons.mp nd).2 (by simpa using h) (by simpa using k))
noncomputable def res (ρ:List Addr)(H:Hp):Hp:=fun a=>if a∈ρ then none else H a
noncomputable def iM (K:PySem.W.Frag)(ρ:List Addr)(G:Hp):D->V->Prop
 | .t x,w=>Rp K G x w
 | .ob n,w=>∃ a,ρ[n]?=some a/\w=.ref a
noncomputable def eN (K:PySem.W.Frag)(ρ:List Addr)(G:Hp):List D->List V->Prop:=Paired (iM K ρ G)
noncomputable def G9 (K:PySem.W.Frag)(ρ:List Addr)(G:Hp)(h:Option HO):O->Prop
 | .lst l=>∃ vs,h=some (.lst vs)/\bI K G l vs
 | .qC l=>∃ kvs,h=some (.dK kvs)/\Paired (fun(p:Key×T) (q:Key×V)=>p.1=q.1/\Rp K G p.2 q.2) l kvs
 | .yC ob kvs l=>h=some (.uC ob (.dK kvs))/\Paired (fun(p:Key×T) (q:Key×V)=>p.1=q.1/\Rp K G p.2 q.2) l kvs
 | .ins C ns l=>∃ dx vs,h=some (.ins C dx (ns.zip vs))/\ns.length=vs.length/\eV K C ns/\eN K ρ G l vs
structure R3 (K:PySem.W.Frag)(ρ:List Addr)(S:aY)(H:Hp):Prop where
 len:ρ.length=S.length
 nd:ρ.Nodup
 ok:∀ (n:Nat) (a:Addr) (o:O),ρ[n]?=some a->S[n]?=some o->G9 K ρ (res ρ H) (H a) o
structure Gr (ρ:List Addr)(H:Hp)(ρ':List Addr)(H':Hp):Prop where
 ext:∃ e,ρ'=ρ++e
 le:Le (res ρ H) (res ρ' H')
theorem Gr.refl {ρ:List Addr}{H:Hp}:Gr ρ H ρ H:=⟨⟨[],by simp⟩,Le.refl _⟩
theorem Gr.trans {ρ ρ' ρ'':List Addr}{H H' H'':Hp}(a:Gr ρ H ρ' H')(b:Gr ρ' H' ρ'' H''):Gr ρ H ρ'' H'':=by
 obtain⟨e,rfl⟩:=a.ext;obtain⟨f,rfl⟩:=b.ext;exact⟨⟨e++f,by simp⟩,a.le.trans b.le⟩
theorem Gr.at {ρ ρ':List Addr}{H H':Hp}(a:Gr ρ H ρ' H'){n:Nat}{x:Addr}(h:ρ[n]?=some x):ρ'[n]?=some x:=by
 obtain⟨e,rfl⟩:=a.ext;have hl:n < ρ.length:=(List.getElem?_eq_some_iff.mp h).1;rw[List.getElem?_append_left hl];exact h
section
variable {K:PySem.W.Frag}{ρ ρ':List Addr}{G G' H H':Hp}
theorem iM.le' (he:∀ (n:Nat) (a:Addr),ρ[n]?=some a->ρ'[n]?=some a)(h:Le G G'):∀ {d:D} {w:V},iM K ρ G d w->iM K ρ' G' d w
 | .t x,w,e=>Rp.le h e
 | .ob n,w,⟨a,e1,e2⟩=>⟨a,he n a e1,e2⟩
theorem iM.gr (g:Gr ρ H ρ' H'){d:D}{w:V}(e:iM K ρ (res ρ H) d w):iM K ρ' (res ρ' H') d w:=iM.le' (fun _ _=>g.at) g.le e
theorem dI {α β:Type}{F F':α->β->Prop}(h:∀ a b,F a b->F' a b):∀ {l:List α} {m:List β},Paired F l m->Paired F' l m
 | _,_,.nil=>.nil
 | _,_,.cons r t=>.cons (h _ _ r) (dI h t)
theorem eN.gr (g:Gr ρ H ρ' H'){l:List D}{w:List V}(e:eN K ρ (res ρ H) l w):eN K ρ' (res ρ' H') l w:=dI (fun _ _=>iM.gr g) e
theorem eN.t:∀ {l:List T} {vs:List V},eN K ρ G (l.map .t) vs->bI K G l vs
 | [],_,.nil=>.nil
 | _::_,_,.cons r t=>.cons r (eN.t t)
theorem eN.of:∀ {l:List T} {vs:List V},bI K G l vs->eN K ρ G (l.map .t) vs
 | [],vs,e=>by unfold bI at e;subst e;exact .nil
 | x::r,vs,e=>by
  unfold bI at e;obtain⟨v,vr,e1,e2,e3⟩:=e;subst e1;exact .cons e2 (eN.of e3)
theorem G9.le' (he:∀ (n:Nat) (a:Addr),ρ[n]?=some a->ρ'[n]?=some a)(h:Le G G'){x:Option HO}:∀ {o:O},G9 K ρ G x o->G9 K ρ' G' x o
 | .lst l,⟨vs,e1,e2⟩=>⟨vs,e1,e2.le h⟩
 | .qC l,⟨vs,e1,e2⟩=>⟨vs,e1,dI (fun _ _ z=>⟨z.1,z.2.le h⟩) e2⟩
 | .yC ob vs l,⟨e1,e2⟩=>⟨e1,dI (fun _ _ z=>⟨z.1,z.2.le h⟩) e2⟩
 | .ins C ns l,⟨dx,vs,e1,e2,e3,e4⟩=>⟨dx,vs,e1,e2,e3,dI (fun _ _=>iM.le' he h) e4⟩
theorem G9.some {x:Option HO}:∀ {o:O},G9 K ρ G x o->∃ u,x=some u
 | .lst l,⟨vs,e1,e2⟩=>⟨_,e1⟩
 | .qC l,⟨vs,e1,e2⟩=>⟨_,e1⟩
 | .yC ob vs l,⟨e1,e2⟩=>⟨_,e1⟩
 | .ins C ns l,⟨dx,vs,e1,e2,e3,e4⟩=>⟨_,e1⟩
theorem res_some {a:Addr}{o:HO}(h:res ρ H a=some o):a ∉ ρ/\H a=some o:=by
 unfold res at h;split at h
 ·cases h
 ·exact⟨by assumption,h⟩
theorem mK {a:Addr}{o:HO}(n:a ∉ ρ)(h:H a=some o):res ρ H a=some o:=by unfold res;rw[if_neg n];exact h
theorem Qg:res [] H=H:=by funext a;unfold res;rw[if_neg (by simp)]
end
section
variable {K:PySem.W.Frag}{ρ:List Addr}{S:aY}{H:Hp}
theorem R3.tracked (r:R3 K ρ S H){a:Addr}(h:a∈ρ):∃ u,H a=some u:=by
 obtain⟨n,hn⟩:=List.mem_iff_getElem?.mp h;have hl:n < S.length:=by rw[<- r.len];exact(List.getElem?_eq_some_iff.mp hn).1
 exact(r.ok n a S[n] hn (List.getElem?_eq_getElem hl)).some
theorem R3.fresh (r:R3 K ρ S H){p:Addr}(h:H p=none):p ∉ ρ:=fun z=>by
 obtain⟨u,e⟩:=r.tracked z;rw[h] at e;cases e
theorem R3.new (r:R3 K ρ S H){p:Addr}{o:HO}(h:H p=none):R3 K ρ S (upd H p o)/\Gr ρ H ρ (upd H p o)/\res ρ (upd H p o) p=some o:=by
 have np:=r.fresh h;have le:Le (res ρ H) (res ρ (upd H p o)):=fun a u e=>by
  obtain⟨e1,e2⟩:=res_some e;refine mK e1 ?_;rw[aQ (bK e2 h)];exact e2
 refine⟨⟨r.len,r.nd,fun n a u e1 e2=>?_⟩,⟨⟨[],by simp⟩,le⟩,mK np eY⟩;have q:=r.ok n a u e1 e2;obtain⟨x,ex⟩:=q.some;rw[aQ (bK ex h)];exact q.le' (fun _ _ z=>z) le
theorem R3.push (r:R3 K ρ S H){p:Addr}{o:HO}{u:O}(h:H p=none)(hu:G9 K (ρ++[p]) (res ρ H) (some o) u):R3 K (ρ++[p]) (S++[u]) (upd H p o)/\Gr ρ H (ρ++[p]) (upd H p o):=by
 have np:=r.fresh h;have le:Le (res ρ H) (res (ρ++[p]) (upd H p o)):=fun a u e=>by
  obtain⟨e1,e2⟩:=res_some e;have ne:=bK e2 h;refine mK (fun z=>?_) ?_
  ·rcases List.mem_append.mp z with z | z
   ·exact e1 z
   ·exact ne (List.mem_singleton.mp z)
  ·rw[aQ ne];exact e2
 have he:∀ (n:Nat) (a:Addr),ρ[n]?=some a->(ρ++[p])[n]?=some a:=fun n a e=>by
  rw[List.getElem?_append_left (List.getElem?_eq_some_iff.mp e).1];exact e
 refine⟨⟨by simp[r.len],?_,fun n a x e1 e2=>?_⟩,⟨⟨[p],rfl⟩,le⟩⟩
 ·rw[List.nodup_append];refine⟨r.nd,by simp,fun a ha b hb=>?_⟩;rw[List.mem_singleton.mp hb];exact fun z=>np (z ▸ ha)
 ·by_cases hn:n < ρ.length
  ·rw[List.getElem?_append_left hn] at e1;rw[List.getElem?_append_left (by rw[<- r.len];exact hn)] at e2;have q:=r.ok n a x e1 e2;obtain⟨y,ey⟩:=q.some;rw[aQ (bK ey h)];exact q.le' he le
  ·have hn':n=ρ.length:=by
    have:=(List.getElem?_eq_some_iff.mp e1).1;rw[List.length_append,List.length_singleton] at this;omega
   subst hn';rw[List.getElem?_append_right (Nat.le_refl _),Nat.sub_self] at e1;rw[List.getElem?_append_right (by rw[r.len];exact Nat.le_refl _),r.len,Nat.sub_self] at e2;cases e1;cases e2;rw[eY];exact hu.le' (fun _ _ z=>z) le
theorem R3.put (r:R3 K ρ S H){n:Nat}{a:Addr}{o:HO}{u:O}(ha:ρ[n]?=some a)(hu:G9 K ρ (res ρ H) (some o) u):R3 K ρ (S.set n u) (upd H a o)/\Gr ρ H ρ (upd H a o):=by
 have hm:a∈ρ:=List.mem_of_getElem? ha;have le:Le (res ρ H) (res ρ (upd H a o)):=fun b u e=>by
  obtain⟨e1,e2⟩:=res_some e;refine mK e1 ?_;rw[aQ (fun z=>e1 (by rw[z];exact hm))];exact e2
 refine⟨⟨by rw[List.length_set];exact r.len,r.nd,fun m b x e1 e2=>?_⟩,⟨⟨[],by simp⟩,le⟩⟩;by_cases hmn:n=m
 ·subst hmn;rw[ha] at e1;cases e1;have hl:n < S.length:=by rw[<- r.len];exact(List.getElem?_eq_some_iff.mp ha).1
  rw[List.getElem?_set_self hl] at e2;cases e2;rw[eY];exact hu.le' (fun _ _ z=>z) le
 ·rw[List.getElem?_set_ne hmn] at e2;have nb:b≠a:=fun z=>by
   subst z;exact hmn (om r.nd ha e1)
  rw[aQ nb];exact(r.ok m b x e1 e2).le' (fun _ _ z=>z) le
end
noncomputable abbrev KD:=D->aY->Prop
noncomputable abbrev KS:=Sl->aY->Prop
noncomputable abbrev cX:=Sl->aY->KD->Prop
noncomputable abbrev pX:=Sl->aY->(Bool->aY->Prop)->Prop
noncomputable abbrev uL:=Sl->aY->(List D->aY->Prop)->Prop
structure tN where
 nx:KS
 rt:KD
 bk:KS:=fun _ _=>False
 ct:KS:=fun _ _=>False
noncomputable abbrev qN:=tN->Sl->aY->Prop
section
variable (K:PySem.W.Frag)(ρ:List Addr)(H:Hp)
noncomputable def up (k:KD):VK:=fun v H'=>∃ ρ' S' d,Gr ρ H ρ' H'/\R3 K ρ' S' H'/\iM K ρ' (res ρ' H') d v/\k d S'
noncomputable def upT (k:Bool->aY->Prop):Bool->Hp->Prop:=fun b H'=>∃ ρ' S',Gr ρ H ρ' H'/\R3 K ρ' S' H'/\k b S'
noncomputable def upA (k:List D->aY->Prop):List V->Hp->Prop:=fun v H'=>∃ ρ' S' d,Gr ρ H ρ' H'/\R3 K ρ' S' H'/\eN K ρ' (res ρ' H') d v/\k d S'
noncomputable def uM (G:Hp)(δ:Sl)(σ:St):Prop:=δ.length=σ.length/\∀ (i:Nat) d,δ[i]?=some (some d)->∃ v,σ[i]?=some (some v)/\iM K ρ G d v
noncomputable def HD (k:KS):St->Hp->Prop:=fun σ H'=>∃ ρ' S' δ,Gr ρ H ρ' H'/\R3 K ρ' S' H'/\uM K ρ' (res ρ' H') δ σ/\k δ S'
structure C2 (E:tN)(D:Ends):Prop where
 nx:∀ σ H',HD K ρ H E.nx σ H'->D.nx σ H'
 rt:∀ v H',up K ρ H E.rt v H'->D.rt v H'
 bk:∀ σ H',HD K ρ H E.bk σ H'->D.bk σ H'
 ct:∀ σ H',HD K ρ H E.ct σ H'->D.ct σ H'
end
section
variable (K:PySem.W.Frag)
noncomputable def li (t:cX):TE:=fun σ H Q=>∃ ρ S δ k,R3 K ρ S H/\uM K ρ (res ρ H) δ σ/\t δ S k/\∀ v H',up K ρ H k v H'->Q v H'
noncomputable def Pa (t:pX):TT:=fun σ H Q=>∃ ρ S δ k,R3 K ρ S H/\uM K ρ (res ρ H) δ σ/\t δ S k/\∀ v H',upT K ρ H k v H'->Q v H'
noncomputable def liA (t:uL):TA:=fun σ H Q=>∃ ρ S δ k,R3 K ρ S H/\uM K ρ (res ρ H) δ σ/\t δ S k/\∀ v H',upA K ρ H k v H'->Q v H'
noncomputable def liS (t:qN):TS:=fun D σ H=>∃ ρ S δ E,R3 K ρ S H/\uM K ρ (res ρ H) δ σ/\t E δ S/\C2 K ρ H E D
end
section
variable {K:PySem.W.Frag}{ρ ρ':List Addr}{H H':Hp}
theorem uM.gr (g:Gr ρ H ρ' H'){δ:Sl}{σ:St}(r:uM K ρ (res ρ H) δ σ):uM K ρ' (res ρ' H') δ σ :=
 ⟨r.1,fun i d e=>let ⟨v,e1,e2⟩:=r.2 i d e;⟨v,e1,e2.gr g⟩⟩
theorem uM.set {G:Hp}{δ:Sl}{σ:St}(r:uM K ρ G δ σ){d:D}{v:V}(h:iM K ρ G d v)(i:Nat):uM K ρ G (δ.set i (some d)) (σ.set i (some v)):=by
 refine⟨by simp[r.1],fun j e q=>?_⟩;by_cases hij:i=j
 ·subst hij;have hl:i < δ.length:=by
   have:=(List.getElem?_eq_some_iff.mp q).1;simpa using this
  rw[List.getElem?_set_self hl] at q;cases q;exact⟨v,by rw[List.getElem?_set_self (by rw[<- r.1];exact hl)],h⟩
 ·rw[List.getElem?_set_ne hij] at q;rw[List.getElem?_set_ne hij];exact r.2 j e q
theorem up.gr (g:Gr ρ H ρ' H'){k:KD}{v:V}{H2:Hp}:up K ρ' H' k v H2->up K ρ H k v H2:=fun⟨r,s,d,g2,x⟩=>⟨r,s,d,g.trans g2,x⟩
theorem upT.gr (g:Gr ρ H ρ' H'){k:Bool->aY->Prop}{v:Bool}{H2:Hp}:upT K ρ' H' k v H2->upT K ρ H k v H2:=fun⟨r,s,g2,x⟩=>⟨r,s,g.trans g2,x⟩
theorem HD.gr (g:Gr ρ H ρ' H'){k:KS}{v:St}{H2:Hp}:HD K ρ' H' k v H2->HD K ρ H k v H2:=fun⟨r,s,d,g2,x⟩=>⟨r,s,d,g.trans g2,x⟩
theorem C2.gr (g:Gr ρ H ρ' H'){E:tN}{D:Ends}(u:C2 K ρ H E D):C2 K ρ' H' E D :=
 ⟨fun σ H2 h=>u.nx σ H2 (h.gr g),fun σ H2 h=>u.rt σ H2 (h.gr g),fun σ H2 h=>u.bk σ H2 (h.gr g),fun σ H2 h=>u.ct σ H2 (h.gr g)⟩
end
noncomputable def QE (X:Cx)(e:Expr)(t:cX):Prop:=PE X e (li X.K t)
noncomputable def QT (X:Cx)(e:Expr)(t:pX):Prop:=PT X e (Pa X.K t)
noncomputable def QW (X:Cx)(e:Expr)(t:pX):Prop:=PW X e (Pa X.K t)
noncomputable def QA (X:Cx)(e:List Expr)(t:uL):Prop:=PA X e (liA X.K t)
noncomputable def QS (X:Cx)(e:Stmt)(t:qN):Prop:=PS X e (liS X.K t)
noncomputable def Lk (X:Cx)(e:List Stmt)(t:qN):Prop:=C1 X e (liS X.K t)
section
variable {X:Cx}{e:Expr}
theorem cL {t t':TE}(h:PE X e t)(m:∀ σ H Q,t' σ H Q->t σ H Q):PE X e t':=fun pins s σ H Q I q=>h pins s σ H Q I (m _ _ _ q)
theorem II {t t':TT}(h:PT X e t)(m:∀ σ H Q,t' σ H Q->t σ H Q):PT X e t':=fun pins s σ H Q I q=>h pins s σ H Q I (m _ _ _ q)
theorem TY {t t':TT}(h:PW X e t)(m:∀ σ H Q,t' σ H Q->t σ H Q):PW X e t':=fun w pins s σ H Q I q=>h w pins s σ H Q I (m _ _ _ q)
theorem T3 {es:List Expr}{t t':TA}(h:PA X es t)(m:∀ σ H Q,t' σ H Q->t σ H Q):PA X es t':=fun p pins s σ H Q I q=>h p pins s σ H Q I (m _ _ _ q)
theorem kr {st:Stmt}{t t':TS}(h:PS X st t)(m:∀ D σ H,t' D σ H->t D σ H):PS X st t':=fun pins s σ H D I q=>h pins s σ H D I (m _ _ _ q)
theorem F8 {st:List Stmt}{t t':TS}(h:C1 X st t)(m:∀ D σ H,t' D σ H->t D σ H):C1 X st t':=fun pins s σ H D I q=>h pins s σ H D I (m _ _ _ q)
end
end L3
namespace L3
open PySem L2
theorem bI.put {K:PySem.W.Frag}{G:Hp}{x:T}{v:V}(h:Rp K G x v):∀ {l:List T} {vs:List V} {j:Nat},bI K G l vs->bI K G (l.set j x) (vs.set j v)
 | [],vs,j,e=>by unfold bI at e;subst e;exact .nil
 | y::r,vs,0,e=>by
  unfold bI at e;obtain⟨w,wr,e1,e2,e3⟩:=e;subst e1;exact .cons h e3
 | y::r,vs,j+1,e=>by
  unfold bI at e;obtain⟨w,wr,e1,e2,e3⟩:=e;subst e1;exact .cons e2 (bI.put h e3)
end L3
namespace L3
open PySem L2
section
variable {K:PySem.W.Frag}{ρ:List Addr}{S:aY}{H:Hp}{k:KD}{Q:VK}
theorem jP:Le (res ρ H) H:=fun a o e=>(res_some e).2
theorem fin {d:D}{v:V}(R:R3 K ρ S H)(hk:∀ v H',up K ρ H k v H'->Q v H')(r:iM K ρ (res ρ H) d v)(q:k d S):Q v H:=hk _ _ ⟨ρ,S,d,.refl,R,r,q⟩
theorem Of {l:List T}{vs:List V}(R:R3 K ρ S H)(hk:∀ v H',up K ρ H k v H'->Q v H')(r:bI K (res ρ H) l vs)(q:k (.tup l) S)(p:Addr)(hp:H p=none):Q (.ref p) (upd H p (.tup vs)):=by
 obtain⟨R',g,e⟩:=R.new (o:=.tup vs) hp;refine hk _ _ ⟨ρ,S,.tup l,g,R',?_,q⟩;show Rp _ _ _ _;unfold Rp;exact⟨p,vs,rfl,e,r.le g.le⟩
theorem Ex {l:List T}{vs:List V}(R:R3 K ρ S H)(hk:∀ v H',up K ρ H k v H'->Q v H')(r:bI K (res ρ H) l vs)(q:k (.lst l) S)(p:Addr)(hp:H p=none):Q (.ref p) (upd H p (.lst vs)):=by
 obtain⟨R',g,e⟩:=R.new (o:=.lst vs) hp;refine hk _ _ ⟨ρ,S,.lst l,g,R',?_,q⟩;show Rp _ _ _ _;unfold Rp;exact⟨p,vs,rfl,e,r.le g.le⟩
theorem Xf {o:O}{h:HO}(R:R3 K ρ S H)(hk:∀ v H',up K ρ H k v H'->Q v H')(p:Addr)(hp:H p=none)(r:G9 K (ρ++[p]) (res ρ H) (some h) o)(q:k (.ob S.length) (S++[o])):Q (.ref p) (upd H p h):=by
 obtain⟨R',g⟩:=R.push hp r;exact hk _ _ ⟨_,_,.ob S.length,g,R',⟨p,by rw[<- R.len];simp,rfl⟩,q⟩
theorem Og {l:List T}{vs:List V}(R:R3 K ρ S H)(hk:∀ v H',up K ρ H k v H'->Q v H')(r:bI K (res ρ H) l vs)(q:k (.ob S.length) (S++[.lst l]))(p:Addr)(hp:H p=none):Q (.ref p) (upd H p (.lst vs)) :=
 Xf (o:=.lst l) R hk p hp ⟨vs,rfl,r⟩ q
theorem K7 {n:Nat}{a:Addr}{o:O}{h:HO}{d:D}{v:V}(R:R3 K ρ S H)(hk:∀ v H',up K ρ H k v H'->Q v H')(ha:ρ[n]?=some a)(r:G9 K ρ (res ρ H) (some h) o)(rv:iM K ρ (res ρ H) d v)(q:k d (S.set n o)):Q v (upd H a h):=by
 obtain⟨R',g⟩:=R.put ha r;exact hk _ _ ⟨_,_,d,g,R',rv.gr g,q⟩
end
noncomputable def lq (S:aY):D->Option (List T)
 | .t (.lst l)=>some l
 | .ob n=>match S[n]? with
  | some (.lst l)=>some l
  | _=>none
 | _=>none
noncomputable def sq (S:aY):D->Option (List T)
 | .t (.tup l)=>some l
 | .t (.Fq l)=>some l
 | d=>lq S d
section
variable {K:PySem.W.Frag}{ρ:List Addr}{S:aY}{H:Hp}
theorem dj (R:R3 K ρ S H):∀ {d:D} {v:V} {l:List T},iM K ρ (res ρ H) d v->lq S d=some l->∃ a vs,v=.ref a/\H a=some (.lst vs)/\bI K (res ρ H) l vs
 | .t (.lst l'),v,l,r,e=>by
  have e:some l'=some l:=e;cases e;have r:Rp _ _ _ _:=r;unfold Rp at r;obtain⟨a,vs,e1,e2,e3⟩:=r;exact⟨a,vs,e1,jP _ _ e2,e3⟩
 | .t (.Fq _),_,_,_,e=>nomatch e
 | .t (.v _),_,_,_,e=>nomatch e
 | .t (.tup _),_,_,_,e=>nomatch e
 | .t (.ins _ _ _),_,_,_,e=>nomatch e
 | .ob n,v,l,⟨a,ha,r⟩,e=>by
  have e:(match S[n]? with | some (.lst l)=>some l | _=>none)=some l:=e;cases q:S[n]? with
  | none=>rw[q] at e;cases e
  | some o =>
   rw[q] at e;cases o with
   | lst m =>
    have e:some m=some l:=e;cases e;obtain⟨vs,h1,h2⟩:=R.ok n a _ ha q;exact⟨a,vs,r,h1,h2⟩
   | qC m=>cases e
   | yC _ _ m=>cases e
   | ins C ns m=>cases e
theorem Ba (R:R3 K ρ S H){d:D}{v:V}{l:List T}(r:iM K ρ (res ρ H) d v)(e:sq S d=some l):∃ a vs,v=.ref a/\(mD K H a vs∨mC K H a vs)/\bI K (res ρ H) l vs:=by
 unfold sq at e;split at e
 ·cases e;have r:Rp _ _ _ _:=r;unfold Rp at r;obtain⟨a,vs,e1,e2,e3⟩:=r;exact⟨a,vs,e1,.inr (.of (jP _ _ e2)),e3⟩
 ·cases e;have r:Rp _ _ _ _:=r;unfold Rp at r;obtain⟨a,vs,e1,e2,e3⟩:=r;exact⟨a,vs,e1,.inl (FY jP e2),e3⟩
 ·obtain⟨a,vs,h1,h2,h3⟩:=dj R r e;exact⟨a,vs,h1,.inl (.of h2),h3⟩
theorem dX {v:V}{l:List T}(r:iM K ρ (res ρ H) (.tup l) v):∃ a vs,v=.ref a/\H a=some (.tup vs)/\bI K (res ρ H) l vs:=by
 have r:Rp _ _ _ _:=r;unfold Rp at r;obtain⟨a,vs,e1,e2,e3⟩:=r;exact⟨a,vs,e1,jP _ _ e2,e3⟩
theorem aI {G:Hp}{x w:V}(r:iM K ρ G (.t (.v x)) w):w=x:=by
 have r:Rp _ _ _ _:=r;unfold Rp at r;exact r
theorem aW {G:Hp}{x:V}:iM K ρ G (.t (.v x)) x:=by show Rp _ _ _ _;unfold Rp;rfl
end
section
variable {X:Cx}{a b e:Expr}{ta tb:cX}{pos:Pos}
noncomputable def cQ (i:Nat):cX:=fun δ S k=>∃ d,δ[i]?=some (some d)/\k d S
noncomputable def xg (d:D):cX:=fun _ S k=>k d S
theorem af (i:Nat){x:Str}{pos:Pos}(hN:X.N[i]?=some x:=by rfl)(hv:Vis X.env.scope x:=by first | exact Or.inl rfl | exact Or.inr (Or.inl rfl) | exact Or.inr (Or.inr rfl))(hd:(x == ("__debug__":Str))=false:=by decide)
  (hcd:(x == ("__classdict__":Str))=false:=by decide):QE X (.Name x pos) (cQ i) :=
 cL (VZ hN hv hd hcd) (by
  rintro σ H Q ⟨ρ,S,δ,k,R,D,⟨d,e,q⟩,hk⟩;obtain⟨v,e1,e2⟩:=D.2 i d e;exact⟨v,e1,fin R hk e2 q⟩)
theorem vG {v:V}(h:PE X e (tC v)):QE X e (xg (.t (.v v))):=cL h (by rintro σ H Q ⟨ρ,S,δ,k,R,D,q,hk⟩;exact fin R hk aW q)
theorem ah {i j pos}:QE X (.Constant (.int i) j pos) (xg (.int i)):=vG M3
theorem ZK {b j pos}:QE X (.Constant (.bool b) j pos) (xg (.bl b)):=vG ZU
theorem aq {x j pos}:QE X (.Constant (.str x) j pos) (xg (.str x)):=vG Ga
noncomputable abbrev uN:=D->D->aY->KD->Prop
noncomputable def liR (K:PySem.W.Frag)(r:uN):R2:=fun x y H Q=>∃ ρ S a b k,R3 K ρ S H/\iM K ρ (res ρ H) a x/\iM K ρ (res ρ H) b y/\r a b S k/\∀ v H',up K ρ H k v H'->Q v H'
noncomputable def vS (X:Cx)(f:Value->Value->Sem Value)(r:uN):Prop:=jX X f (liR X.K r)
theorem fJ {f:Value->Value->Sem Value}{r r':R2}(h:jX X f r)(m:∀ x y H Q,r' x y H Q->r x y H Q):jX X f r':=fun pins s σ H x y v u Q I rx ry q=>h pins s σ H x y v u Q I rx ry (m _ _ _ _ q)
noncomputable def qc (r:uN)(ta tb:cX):cX:=fun δ S k=>ta δ S fun x S1=>tb δ S1 fun y S2=>r x y S2 k
theorem wJ {r:uN}:∀ σ H Q,li X.K (qc r ta tb) σ H Q->YI (liR X.K r) (li X.K ta) (li X.K tb) σ H Q:=(by rintro σ H Q ⟨ρ,S,δ,k,R,D,q,hk⟩;exact  ⟨ρ,S,δ,_,R,D,q,(by rintro v H1 ⟨ρ1,S1,d1,g1,R1,r1,q1⟩;exact ⟨ρ1,S1,δ,_,R1,D.gr g1,q1,(by rintro w H2 ⟨ρ2,S2,d2,g2,R2,r2,q2⟩;exact   ⟨ρ2,S2,d1,d2,k,R2,r1.gr g2,r2,q2,fun z H3 u=>hk z H3 (u.gr (g1.trans g2))⟩)⟩)⟩)
theorem aJ {op:Operator}{r:uN}(ho:vS X (binaryOp op) r)(ha:QE X a ta)(hb:QE X b tb):QE X (.BinOp a op b pos) (qc r ta tb):=cL (ZR ho ha hb) wJ
theorem cE {op:CmpOp}{r:uN}(ho:vS X (compareOp op) r)(ha:QE X a ta)(hb:QE X b tb)(hm:behindInMarks op b=false):QE X (.Compare a [op] [b] pos) (qc r ta tb):=cL (Q2 ho ha hb hm) wJ
noncomputable def w6 (t:cX):pX:=fun δ S k=>t δ S fun d S1=>∃ b,d=.bl b/\k b S1
theorem t6 {t:cX}{t':TE}(m:∀ σ H Q,li X.K t σ H Q->t' σ H Q):∀ σ H Q,Pa X.K (w6 t) σ H Q->LW t' σ H Q:=(by rintro σ H Q ⟨ρ,S,δ,k,R,D,q,hk⟩;exact  m _ _ _ ⟨ρ,S,δ,_,R,D,q,(by
  rintro v H1 ⟨ρ1,S1,d1,g1,R1,r1,b,e,q1⟩;subst e;exact⟨b,aI r1,hk _ _ ⟨ρ1,S1,g1,R1,q1⟩⟩)⟩)
theorem aH {op:CmpOp}{r:uN}(ho:vS X (compareOp op) r)(ha:QE X a ta)(hb:QE X b tb)(hm:behindInMarks op b=false):QT X (.Compare a [op] [b] pos) (w6 (qc r ta tb)):=II (QB ho ha hb hm) (t6 wJ)
end
end L3
namespace L3
open PySem L2
noncomputable def OQ:uN
 | .t (.v (.int i)),.t (.v (.int j)),S,k=>k (.int (i+j)) S
 | .t (.v (.str a)),.t (.v (.str b)),S,k=>a.length+b.length<=sizeLine/\k (.str (a++b)) S
 | .t (.tup a),.t (.tup b),S,k=>a.length+b.length<=sizeLine/\k (.tup (a++b)) S
 | a,b,S,k=>∃ l m,lq S a=some l/\lq S b=some m/\l.length+m.length<=sizeLine/\k (.lst (l++m)) S
noncomputable def Za:uN
 | .t (.v (.int i)),.t (.v (.int j)),S,k=>k (.int (i - j)) S
 | _,_,_,_=>False
noncomputable def Z8:uN
 | .t (.v (.int i)),.t (.v (.int j)),S,k=>S8 i j/\k (.int (i*j)) S
 | a,.t (.v (.int j)),S,k=>∃ l,lq S a=some l/\-(2 ^ 63)<=j/\j < 2 ^ 63/\l.length*j.toNat<=sizeLine/\k (.lst (List.replicate j.toNat l).flatten) S
 | _,_,_,_=>False
noncomputable def Uk:uN
 | .t (.v (.int i)),.t (.v (.int j)),S,k=>a1U i j/\k (.int (i / j)) S
 | _,_,_,_=>False
noncomputable def Z9:uN
 | .t (.v (.int i)),.t (.v (.int j)),S,k=>0 < j/\k (.int (i % j)) S
 | _,_,_,_=>False
noncomputable def CI (f:Int->Int->Bool):uN
 | .t (.v (.int i)),.t (.v (.int j)),S,k=>k (.bl (f i j)) S
 | _,_,_,_=>False
mutual
noncomputable def Fl:Nat->T->Prop
 | _,.v x=>eT x=true
 | 0,_=>False
 | n+1,.tup l=>OW n l
 | n+1,.lst l=>OW n l
 | _+1,_=>False
noncomputable def OW:Nat->List T->Prop
 | _,[]=>True
 | n,x::r=>Fl n x/\OW n r
end
noncomputable def eq3 (n:Nat)(neg:Bool):uN
 | .t (.v x),.t (.v y),S,k=>Vj x y=true/\k (.bl (xor neg (decide (x=y)))) S
 | .t (.tup l),.t (.tup m),S,k=>(l=m/\OW n l/\k (.bl (!neg)) S)∨(m=[]/\k (.bl (xor neg (decide (l=[])))) S)
 | a,b,S,k=>∃ l m,lq S a=some l/\lq S b=some m/\((l=m/\OW n l/\k (.bl (!neg)) S)∨(m=[]/\k (.bl (xor neg (decide (l=[])))) S))
noncomputable def flT:T->Option V
 | .v x=>if eT x=true then some x else none
 | _=>none
noncomputable def zU:List T->Option (List V)
 | []=>some []
 | x::r=>match flT x,zU r with
  | some v,some vs=>some (v::vs)
  | _,_=>none
noncomputable def in3 (neg:Bool):uN:=fun a b S k=>∃ x l vs,a=.t (.v x)/\eT x=true/\sq S b=some l/\zU l=some vs/\k (.bl (xor neg (K2 x vs))) S
section
variable {X:Cx}
theorem bI.rep {K:PySem.W.Frag}{G:Hp}{l:List T}{vs:List V}(r:bI K G l vs):∀ n:Nat,bI K G (List.replicate n l).flatten (List.replicate n vs).flatten
 | 0=>.nil
 | n+1=>by
  rw[List.replicate_succ,List.replicate_succ,List.flatten_cons,List.flatten_cons];exact r.app (bI.rep r n)
theorem bI.dJ {K:PySem.W.Frag}{G:Hp}{l:List T}{vs:List V}(r:bI K G l vs):vs=[]↔l=[]:=by
 have:=r.len;constructor
 ·intro e;subst e;exact List.length_eq_zero_iff.mp this
 ·intro e;subst e;exact List.length_eq_zero_iff.mp this.symm
theorem yx {K:PySem.W.Frag}{G:Hp}:∀ {l:List T} {us vs:List V},zU l=some vs->bI K G l us->us=vs/\vs.all eT=true
 | [],us,vs,e,r=>by
  unfold bI at r;have e:some []=some vs:=e;cases e;exact⟨r,rfl⟩
 | x::l,us,vs,e,r=>by
  unfold bI at r;obtain⟨v,vr,e1,e2,e3⟩:=r;cases x with
  | v y =>
   by_cases hf:eT y=true
   ·have q1:flT (.v y)=some y:=if_pos hf;cases q2:zU l with
    | none=>unfold zU at e;rw[q1,q2] at e;cases e
    | some vs' =>
     unfold zU at e;rw[q1,q2] at e;have e:some (y::vs')=some vs:=e;cases e;obtain⟨h1,h2⟩:=yx q2 e3;subst h1;unfold Rp at e2;subst e2;exact⟨e1,by rw[List.all_cons,hf,h2];rfl⟩
   ·have q1:flT (.v y)=none:=if_neg hf;unfold zU at e;rw[q1] at e;cases e
  | _=>unfold zU at e;cases e
end
section
variable {K:PySem.W.Frag}{H:Hp}{G:Hp}
mutual
theorem WG (le:Le G H):∀ (n:Nat) {x:T} {v w:V},Fl n x->Rp K G x v->Rp K G x w->Hg K H n v w
 | n,.v y,v,w,f,r1,r2=>by
  unfold Rp at r1 r2;unfold Fl at f;subst r1;subst r2;cases n with
  | zero=>exact⟨f,rfl⟩
  | succ n=>exact .inl ⟨f,rfl⟩
 | n+1,.tup l,v,w,f,r1,r2=>by
  unfold Rp at r1 r2;unfold Fl at f;obtain⟨a,vs,e1,e2,e3⟩:=r1;obtain⟨b,ws,e4,e5,e6⟩:=r2;exact .inr ⟨a,b,vs,ws,e1,e4,.inr ⟨.of (le _ _ e2),.of (le _ _ e5)⟩,qz le n f e3 e6⟩
 | n+1,.lst l,v,w,f,r1,r2=>by
  unfold Rp at r1 r2;unfold Fl at f;obtain⟨a,vs,e1,e2,e3⟩:=r1;obtain⟨b,ws,e4,e5,e6⟩:=r2;exact .inr ⟨a,b,vs,ws,e1,e4,.inl ⟨.of (le _ _ e2),.of (le _ _ e5)⟩,qz le n f e3 e6⟩
 | n+1,.Fq l,v,w,f,r1,r2=>by unfold Fl at f;exact f.elim
 | n+1,.ins C ns l,v,w,f,r1,r2=>by unfold Fl at f;exact f.elim
 | 0,.tup l,v,w,f,r1,r2=>by unfold Fl at f;exact f.elim
 | 0,.lst l,v,w,f,r1,r2=>by unfold Fl at f;exact f.elim
 | 0,.Fq l,v,w,f,r1,r2=>by unfold Fl at f;exact f.elim
 | 0,.ins C ns l,v,w,f,r1,r2=>by unfold Fl at f;exact f.elim
theorem qz (le:Le G H):∀ (n:Nat) {l:List T} {vs ws:List V},OW n l->bI K G l vs->bI K G l ws->Paired (Hg K H n) vs ws
 | n,[],vs,ws,f,r1,r2=>by
  unfold bI at r1 r2;subst r1;subst r2;exact .nil
 | n,x::l,vs,ws,f,r1,r2=>by
  unfold bI at r1 r2;unfold OW at f;obtain⟨v,vr,e1,e2,e3⟩:=r1;obtain⟨w,wr,e4,e5,e6⟩:=r2;subst e1;subst e4;exact .cons (WG le n f.1 e2 e5) (qz le n f.2 e3 e6)
end
end
section
variable {X:Cx}
theorem aG:vS X (binaryOp .Add) OQ:=by
 refine fJ ((Wj.or (Gf.or (Q7.or Ni)))) ?_;rintro x y H Q ⟨ρ,S,a,b,k,R,ra,rb,q,hk⟩;unfold OQ at q;split at q
 ·exact .inl ⟨_,_,aI ra,aI rb,fin R hk aW q⟩
 ·exact .inr (.inl ⟨_,_,aI ra,aI rb,q.1,fin R hk aW q.2⟩)
 ·obtain⟨p1,vs,e1,e2,e3⟩:=dX ra;obtain⟨p2,ws,f1,f2,f3⟩:=dX rb;refine .inr (.inr (.inl ⟨p1,p2,vs,ws,e1,f1,.of e2,.of f2,by rw[<- e3.len,<- f3.len];exact q.1,fun z=>?_,fun _ z=>?_,fun _ _ p hp=>Of R hk (e3.app f3) q.2 p hp⟩))
  ·have z:=e3.dJ.mp z;subst z;rw[<- f1];exact fin R hk rb q.2
  ·have z:=f3.dJ.mp z;subst z;rw[<- e1];refine fin R hk ra ?_;have:=q.2;rwa [List.append_nil] at this
 ·obtain⟨l,m,h1,h2,h3,h4⟩:=q;obtain⟨p1,vs,e1,e2,e3⟩:=dj R ra h1;obtain⟨p2,ws,f1,f2,f3⟩:=dj R rb h2;exact .inr (.inr (.inr ⟨p1,p2,vs,ws,e1,f1,e2,f2,by rw[<- e3.len,<- f3.len];exact h3,fun p hp=>Ex R hk (e3.app f3) h4 p hp⟩))
theorem mX:vS X (binaryOp .Sub) Za:=by
 refine fJ Wc ?_;rintro x y H Q ⟨ρ,S,a,b,k,R,ra,rb,q,hk⟩;unfold Za at q;split at q
 ·exact⟨_,_,aI ra,aI rb,fin R hk aW q⟩
 ·exact q.elim
theorem pP:vS X (binaryOp .Mult) Z8:=by
 refine fJ (Wg.or Wd) ?_;rintro x y H Q ⟨ρ,S,a,b,k,R,ra,rb,q,hk⟩;unfold Z8 at q;split at q
 ·exact .inl ⟨_,_,aI ra,aI rb,q.1,fin R hk aW q.2⟩
 ·obtain⟨l,h1,h2,h3,h4,h5⟩:=q;obtain⟨p1,vs,e1,e2,e3⟩:=dj R ra h1;exact .inr ⟨p1,_,vs,e1,aI rb,e2,h2,h3,by rw[<- e3.len];exact h4,fun p hp=>Ex R hk (e3.rep _) h5 p hp⟩
 ·exact q.elim
theorem Nq:vS X (binaryOp .FloorDiv) Uk:=by
 refine fJ Q6 ?_;rintro x y H Q ⟨ρ,S,a,b,k,R,ra,rb,q,hk⟩;unfold Uk at q;split at q
 ·exact⟨_,_,aI ra,aI rb,q.1,fin R hk aW q.2⟩
 ·exact q.elim
theorem mY:vS X (binaryOp .Mod) Z9:=by
 refine fJ Wh ?_;rintro x y H Q ⟨ρ,S,a,b,k,R,ra,rb,q,hk⟩;unfold Z9 at q;split at q
 ·exact⟨_,_,aI ra,aI rb,q.1,fin R hk aW q.2⟩
 ·exact q.elim
theorem Nr {op:CmpOp}{f:Int->Int->Bool}(h:jX X (compareOp op) (TQ fun i j=>.bl (f i j))):vS X (compareOp op) (CI f):=by
 refine fJ h ?_;rintro x y H Q ⟨ρ,S,a,b,k,R,ra,rb,q,hk⟩;unfold CI at q;split at q
 ·exact⟨_,_,aI ra,aI rb,fin R hk aW q⟩
 ·exact q.elim
theorem uu:vS X (compareOp .Lt) (CI fun i j=>decide (i < j)):=Nr ZX
theorem Np:vS X (compareOp .LtE) (CI fun i j=>decide (i<=j)):=Nr ZY
theorem D9:vS X (compareOp .Gt) (CI fun i j=>decide (j < i)):=Nr ZZ
noncomputable def Qk (K:PySem.W.Frag):R2:=fun x y H Q=>∃ a b xs,x=.ref a/\y=.ref b/\mC K H a xs/\mC K H b []/\Q (.bl (!decide (xs=[]))) H
theorem J9 (hu:X.A.units < cLine):jX X (compareOp .NotEq) (Qk X.K):=by
 intro pins s σ H x y v u Q I rx ry h;obtain⟨a,b,xs,rfl,rfl,ha,hb,q⟩:=h;cases rx;cases ry;obtain⟨us,r1,p1,_⟩:=I.tuple ha;obtain⟨vs,r2,p2,_⟩:=I.tuple hb;cases r2;refine SeqAt.RcNeAt.tuples (A:=X.A) (e:=fun _=>true) (show s.heap.IsTuple a us.toArray from p1) (show s.heap.IsTuple b ([]:List Value).toArray from p2) hu (fun j h1 h2=>absurd h2 (by simp)) _ _ _ _ ?_;have e:(!((List.range (min us.toArray.size ([]:List Value).toArray.size)).all (fun _=>true) && us.toArray.size == ([]:List Value).toArray.size))=!decide (xs=[]):=by
  have l:=r1.length;rw[nE,Bool.true_and];by_cases hx:xs=[]
  ·subst hx;cases r1;simp
  ·rw[decide_eq_false hx];have:us≠[]:=fun z=>hx (by rw[z] at l;exact List.length_eq_zero_iff.mp l);cases us with
   | nil=>exact absurd rfl this
   | cons _ _=>simp
 rw[e];exact⟨.bl _,H,I,rfl,q⟩
theorem cP (n:Nat)(hu:X.A.units+1+n < cLine):vS X (compareOp .Eq) (eq3 n false):=by
 have hu0:X.A.units < cLine:=by omega
 refine fJ (Z0.or ((Wi n hu).or ((Nh hu0).or (Kc hu0)))) ?_;rintro x y H Q ⟨ρ,S,a,b,k,R,ra,rb,q,hk⟩;unfold eq3 at q;split at q
 ·rw[aI ra,aI rb];refine .inl ⟨q.1,fin R hk aW ?_⟩;have:=q.2;rwa [Bool.false_xor] at this
 ·obtain⟨p1,vs,e1,e2,e3⟩:=dX ra;obtain⟨p2,ws,f1,f2,f3⟩:=dX rb;rcases q with ⟨z,h1,h2⟩ | ⟨z,h2⟩
  ·subst z;exact .inr (.inl ⟨p1,p2,vs,ws,e1,f1,.inr ⟨.of e2,.of f2⟩,qz jP n h1 e3 f3,fin R hk aW h2⟩)
  ·subst z;have w:=f3.dJ.mpr rfl;subst w;refine .inr (.inr (.inl ⟨p1,p2,vs,e1,f1,.of e2,.of f2,?_⟩));rw[Bool.false_xor] at h2;rw[decide_eq_decide.mpr e3.dJ];exact fin R hk aW h2
 ·obtain⟨l,m,h1,h2,q⟩:=q;obtain⟨p1,vs,e1,e2,e3⟩:=dj R ra h1;obtain⟨p2,ws,f1,f2,f3⟩:=dj R rb h2;rcases q with ⟨z,g1,g2⟩ | ⟨z,g2⟩
  ·subst z;exact .inr (.inl ⟨p1,p2,vs,ws,e1,f1,.inl ⟨.of e2,.of f2⟩,qz jP n g1 e3 f3,fin R hk aW g2⟩)
  ·subst z;have w:=f3.dJ.mpr rfl;subst w;refine .inr (.inr (.inr ⟨p1,p2,vs,e1,f1,.of e2,.of f2,?_⟩));rw[Bool.false_xor] at g2;rw[decide_eq_decide.mpr e3.dJ];exact fin R hk aW g2
theorem su (n:Nat)(hu:X.A.units+1+n < cLine):vS X (compareOp .NotEq) (eq3 n true):=by
 have hu0:X.A.units < cLine:=by omega
 refine fJ (ZW.or ((Wf n hu).or ((J9 hu0).or (Ng hu0)))) ?_;rintro x y H Q ⟨ρ,S,a,b,k,R,ra,rb,q,hk⟩;unfold eq3 at q;split at q
 ·rw[aI ra,aI rb];refine .inl ⟨q.1,fin R hk aW ?_⟩;have:=q.2;rwa [Bool.true_xor] at this
 ·obtain⟨p1,vs,e1,e2,e3⟩:=dX ra;obtain⟨p2,ws,f1,f2,f3⟩:=dX rb;rcases q with ⟨z,h1,h2⟩ | ⟨z,h2⟩
  ·subst z;exact .inr (.inl ⟨p1,p2,vs,ws,e1,f1,.inr ⟨.of e2,.of f2⟩,qz jP n h1 e3 f3,fin R hk aW h2⟩)
  ·subst z;have w:=f3.dJ.mpr rfl;subst w;refine .inr (.inr (.inl ⟨p1,p2,vs,e1,f1,.of e2,.of f2,?_⟩));rw[Bool.true_xor] at h2;rw[decide_eq_decide.mpr e3.dJ];exact fin R hk aW h2
 ·obtain⟨l,m,h1,h2,q⟩:=q;obtain⟨p1,vs,e1,e2,e3⟩:=dj R ra h1;obtain⟨p2,ws,f1,f2,f3⟩:=dj R rb h2;rcases q with ⟨z,g1,g2⟩ | ⟨z,g2⟩
  ·subst z;exact .inr (.inl ⟨p1,p2,vs,ws,e1,f1,.inl ⟨.of e2,.of f2⟩,qz jP n g1 e3 f3,fin R hk aW g2⟩)
  ·subst z;have w:=f3.dJ.mpr rfl;subst w;refine .inr (.inr (.inr ⟨p1,p2,vs,e1,f1,.of e2,.of f2,?_⟩));rw[Bool.true_xor] at g2;rw[decide_eq_decide.mpr e3.dJ];exact fin R hk aW g2
theorem Gm:vS X (compareOp .In) (in3 false):=by
 refine fJ Aq ?_;rintro x y H Q ⟨ρ,S,a,b,k,R,ra,rb,⟨z,l,vs,h1,h2,h3,h4,q⟩,hk⟩;subst h1;obtain⟨p,us,e1,e2,e3⟩:=Ba R rb h3;obtain⟨f1,f2⟩:=yx h4 e3;subst f1;rw[aI ra];rw[Bool.false_xor] at q;exact⟨p,us,e1,e2,h2,f2,fin R hk aW q⟩
theorem IV:vS X (compareOp .NotIn) (in3 true):=by
 refine fJ sj ?_;rintro x y H Q ⟨ρ,S,a,b,k,R,ra,rb,⟨z,l,vs,h1,h2,h3,h4,q⟩,hk⟩;subst h1;obtain⟨p,us,e1,e2,e3⟩:=Ba R rb h3;obtain⟨f1,f2⟩:=yx h4 e3;subst f1;rw[aI ra];rw[Bool.true_xor] at q;exact⟨p,us,e1,e2,h2,f2,fin R hk aW q⟩
end
end L3
namespace L3
open PySem L2 Hw
section
variable {X:Cx}{a b c e:Expr}{ta tb:cX}{tA tB:pX}{rest:List Expr}{pos:Pos}
noncomputable def H8 (t u:pX):pX:=fun δ S k=>t δ S fun c S1=>if c=true then u δ S1 k else k false S1
noncomputable def UQ (t u:pX):pX:=fun δ S k=>t δ S fun c S1=>if c=true then k true S1 else u δ S1 k
noncomputable def YK (t:pX):pX:=fun δ S k=>t δ S fun c S1=>k (!c) S1
theorem qk (ha:QT X a tA)(hb:QW X (.BoolOp .And (b::rest) pos) tB):QW X (.BoolOp .And (a::b::rest) pos) (H8 tA tB) :=
 TY (VI ha hb) (by rintro σ H Q ⟨ρ,S,δ,k,R,D,q,hk⟩;exact ⟨ρ,S,δ,_,R,D,q,(by
  rintro c H1 ⟨ρ1,S1,g1,R1,q1⟩;cases c with
  | true=>exact⟨ρ1,S1,δ,k,R1,D.gr g1,q1,fun z H2 u=>hk z H2 (u.gr g1)⟩
  | false=>exact hk _ _ ⟨ρ1,S1,g1,R1,q1⟩)⟩)
theorem xM (ha:QT X a tA)(hb:QW X (.BoolOp .Or (b::rest) pos) tB):QW X (.BoolOp .Or (a::b::rest) pos) (UQ tA tB) :=
 TY (ZL ha hb) (by rintro σ H Q ⟨ρ,S,δ,k,R,D,q,hk⟩;exact ⟨ρ,S,δ,_,R,D,q,(by
  rintro c H1 ⟨ρ1,S1,g1,R1,q1⟩;cases c with
  | false=>exact⟨ρ1,S1,δ,k,R1,D.gr g1,q1,fun z H2 u=>hk z H2 (u.gr g1)⟩
  | true=>exact hk _ _ ⟨ρ1,S1,g1,R1,q1⟩)⟩)
theorem lE (ha:QT X a tA):QW X (.BoolOp .And [a] pos) tA:=Qx ha
theorem um (ha:QT X a tA):QW X (.BoolOp .Or [a] pos) tA:=VF ha
theorem qw (h:QW X e tA):QT X e tA:=h.pt
theorem xN (ha:QT X a tA):QT X (.UnaryOp .Not a pos) (YK tA) :=
 II (VL ha) (by rintro σ H Q ⟨ρ,S,δ,k,R,D,q,hk⟩;exact ⟨ρ,S,δ,_,R,D,q,(by rintro c H1 ⟨ρ1,S1,g1,R1,q1⟩;exact hk _ _ ⟨ρ1,S1,g1,R1,q1⟩)⟩)
noncomputable def L6 (ta tb:cX):cX:=fun δ S k=>ta δ S fun x S1=>∃ c,x=.bl c/\if c=true then tb δ S1 k else k (.bl false) S1
noncomputable def YH (ta tb:cX):cX:=fun δ S k=>ta δ S fun x S1=>∃ c,x=.bl c/\if c=true then k (.bl true) S1 else tb δ S1 k
noncomputable def UR (ta:cX):cX:=fun δ S k=>ta δ S fun x S1=>∃ c,x=.bl c/\k (.bl (!c)) S1
theorem ki {op}{t:cX}(h:QE X a t):QE X (.BoolOp op [a] pos) t:=V1 h
theorem iW (ha:QE X a ta)(hb:QE X (.BoolOp .And (b::rest) pos) tb):QE X (.BoolOp .And (a::b::rest) pos) (L6 ta tb) :=
 cL (V6 ha hb) fun σ H Q ⟨ρ,S,δ,k,R,D,q,hk⟩=>⟨ρ,S,δ,_,R,D,q,(by
  rintro v H1 ⟨ρ1,S1,d,g1,R1,r1,c,e,q1⟩;subst e;refine⟨c,aI r1,?_⟩;cases c with
  | true=>exact⟨ρ1,S1,δ,k,R1,D.gr g1,q1,fun z H2 u=>hk z H2 (u.gr g1)⟩
  | false=>exact hk _ _ ⟨ρ1,S1,.bl false,g1,R1,aW,q1⟩)⟩
theorem VD (ha:QE X a ta)(hb:QE X (.BoolOp .Or (b::rest) pos) tb):QE X (.BoolOp .Or (a::b::rest) pos) (YH ta tb) :=
 cL (ZQ ha hb) fun σ H Q ⟨ρ,S,δ,k,R,D,q,hk⟩=>⟨ρ,S,δ,_,R,D,q,(by
  rintro v H1 ⟨ρ1,S1,d,g1,R1,r1,c,e,q1⟩;subst e;refine⟨c,aI r1,?_⟩;cases c with
  | false=>exact⟨ρ1,S1,δ,k,R1,D.gr g1,q1,fun z H2 u=>hk z H2 (u.gr g1)⟩
  | true=>exact hk _ _ ⟨ρ1,S1,.bl true,g1,R1,aW,q1⟩)⟩
theorem ZI (ha:QE X a ta):QE X (.UnaryOp .Not a pos) (UR ta) :=
 cL (V2 ha) (by rintro σ H Q ⟨ρ,S,δ,k,R,D,q,hk⟩;exact ⟨ρ,S,δ,_,R,D,q,(by
  rintro v H1 ⟨ρ1,S1,d,g1,R1,r1,c,e,q1⟩;subst e;exact⟨c,aI r1,hk _ _ ⟨ρ1,S1,.bl (!c),g1,R1,aW,q1⟩⟩)⟩)
noncomputable def YS (t:pX)(ta tb:cX):cX:=fun δ S k=>t δ S fun c S1=>if c=true then ta δ S1 k else tb δ S1 k
theorem MP (hc:QT X c tA)(ha:QE X a ta)(hb:QE X b tb):QE X (.IfExp c a b pos) (YS tA ta tb) :=
 cL (M4 hc ha hb) (by rintro σ H Q ⟨ρ,S,δ,k,R,D,q,hk⟩;exact ⟨ρ,S,δ,_,R,D,q,(by
  rintro c H1 ⟨ρ1,S1,g1,R1,q1⟩;cases c with
  | true=>exact⟨ρ1,S1,δ,k,R1,D.gr g1,q1,fun z H2 u=>hk z H2 (u.gr g1)⟩
  | false=>exact⟨ρ1,S1,δ,k,R1,D.gr g1,q1,fun z H2 u=>hk z H2 (u.gr g1)⟩)⟩)
theorem uo {t:cX}(h:QE X e t)(he:∀ whole,isTrue e X.env whole=(do let v <- whole;standAt e.pos;holding [v] (truthy v)):=by intro _;rfl):QT X e (w6 t):=II (VJ h he) (t6 fun _ _ _ z=>z)
noncomputable def eS:uL:=fun _ S k=>k [] S
noncomputable def bA (ta:cX)(tr:uL):uL:=fun δ S k=>ta δ S fun x S1=>tr δ S1 fun xs S2=>k (x::xs) S2
variable {es:List Expr}{te:cX}{t:uL}
theorem aa:QA X [] eS:=T3 Nb (by rintro σ H Q ⟨ρ,S,δ,k,R,D,q,hk⟩;exact hk _ _ ⟨ρ,S,[],.refl,R,.nil,q⟩)
theorem qa (ha:QE X e te)(hr:QA X es t)(h:notStar e=true:=by rfl):QA X (e::es) (bA te t) :=
 T3 (Nc ha hr h) (by rintro σ H Q ⟨ρ,S,δ,k,R,D,q,hk⟩;exact ⟨ρ,S,δ,_,R,D,q,(by rintro v H1 ⟨ρ1,S1,d,g1,R1,r1,q1⟩;exact   ⟨ρ1,S1,δ,_,R1,D.gr g1,q1,(by rintro w H2 ⟨ρ2,S2,ds,g2,R2,r2,q2⟩;exact hk _ _ ⟨ρ2,S2,d::ds,g1.trans g2,R2,.cons (r1.gr g2) r2,q2⟩)⟩)⟩)
noncomputable def ts?:List D->Option (List T)
 | []=>some []
 | .t x::r=>match ts? r with
  | some l=>some (x::l)
  | none=>none
 | .ob _::_=>none
theorem AW {K:PySem.W.Frag}{ρ:List Addr}{G:Hp}:∀ {ds:List D} {l:List T} {vs:List V},ts? ds=some l->eN K ρ G ds vs->bI K G l vs
 | [],l,_,e,.nil=>by
  have e:some []=some l:=e;cases e;exact .nil
 | .t x::r,l,_,e,.cons h t=>by
  cases q:ts? r with
  | none=>unfold ts? at e;rw[q] at e;cases e
  | some m =>
   unfold ts? at e;rw[q] at e;have e:some (x::m)=some l:=e;cases e;exact .cons h (AW q t)
 | .ob n::r,l,_,e,.cons h t=>by cases (show none=some l from e)
noncomputable def HW (t:uL):cX:=fun δ S k=>t δ S fun ds S1=>∃ l,ts? ds=some l/\l.length<=sizeLine/\k (.tup l) S1
noncomputable def Tn (t:uL):cX:=fun δ S k=>t δ S fun ds S1=>∃ l,ts? ds=some l/\l.length<=sizeLine/\k (.lst l) S1
noncomputable def YQ (t:uL):cX:=fun δ S k=>t δ S fun ds S1=>∃ l,ts? ds=some l/\l.length<=sizeLine/\k (.ob S1.length) (S1++[.lst l])
theorem aP {x1}(h:QA X es t):QE X (.Tuple es x1 pos) (HW t) :=
 cL (V0 h) (by rintro σ H Q ⟨ρ,S,δ,k,R,D,q,hk⟩;exact ⟨ρ,S,δ,_,R,D,q,(by
  rintro vs H1 ⟨ρ1,S1,ds,g1,R1,r1,l,e,z,q1⟩;have r2:=AW e r1;exact⟨by rw[<- r2.len];exact z,Of R1 (fun v H' u=>hk v H' (u.gr g1)) r2 q1⟩)⟩)
theorem dG (h:QA X es t):QE X (.List es pos) (Tn t) :=
 cL (Gb h) (by rintro σ H Q ⟨ρ,S,δ,k,R,D,q,hk⟩;exact ⟨ρ,S,δ,_,R,D,q,(by
  rintro vs H1 ⟨ρ1,S1,ds,g1,R1,r1,l,e,z,q1⟩;have r2:=AW e r1;exact⟨by rw[<- r2.len];exact z,Ex R1 (fun v H' u=>hk v H' (u.gr g1)) r2 q1⟩)⟩)
theorem ig (h:QA X es t):QE X (.List es pos) (YQ t) :=
 cL (Gb h) (by rintro σ H Q ⟨ρ,S,δ,k,R,D,q,hk⟩;exact ⟨ρ,S,δ,_,R,D,q,(by
  rintro vs H1 ⟨ρ1,S1,ds,g1,R1,r1,l,e,z,q1⟩;have r2:=AW e r1;exact⟨by rw[<- r2.len];exact z,Og R1 (fun v H' u=>hk v H' (u.gr g1)) r2 q1⟩)⟩)
end
noncomputable def iq (S:aY):D->Option (Addr×List Str×List D)
 | .t (.ins C ns l)=>some (C,ns,l.map .t)
 | .ob n=>match S[n]? with
  | some (.ins C ns l)=>some (C,ns,l)
  | _=>none
 | _=>none
theorem eN.len {K:PySem.W.Frag}{ρ:List Addr}{G:Hp}{l:List D}{vs:List V}(r:eN K ρ G l vs):l.length=vs.length:=Paired.length r
theorem eN.look {K:PySem.W.Frag}{ρ:List Addr}{G:Hp}:∀ {ns:List Str} {l:List D} {vs:List V} {f:Str} {x:D},eN K ρ G l vs->(ns.zip l).lookup f=some x->∃ v,(ns.zip vs).lookup f=some v/\iM K ρ G x v
 | [],l,vs,f,x,_,k=>by simp at k
 | n::ns,[],vs,f,x,_,k=>by simp at k
 | n::ns,y::l,_,f,x,.cons (b:=v) (l₂:=vr) e2 e3,k=>by
  rw[List.zip_cons_cons,List.lookup_cons] at k;rw[List.zip_cons_cons,List.lookup_cons];cases q:(f == n) with
  | true=>rw[q] at k;cases k;exact⟨v,rfl,e2⟩
  | false=>rw[q] at k;exact eN.look e3 k
section
variable {K:PySem.W.Frag}{ρ:List Addr}{S:aY}{H:Hp}
theorem Cv (R:R3 K ρ S H):∀ {d:D} {v:V} {C:Addr} {ns:List Str} {l:List D},iM K ρ (res ρ H) d v->iq S d=some (C,ns,l) ->
  ∃ a dx vs,v=.ref a/\H a=some (.ins C dx (ns.zip vs))/\ns.length=vs.length/\eV K C ns/\eN K ρ (res ρ H) l vs
 | .t (.ins C' ns' l'),v,C,ns,l,r,e=>by
  have e:some (C',ns',l'.map D.t)=some (C,ns,l):=e;cases e;have r:Rp _ _ _ _:=r;unfold Rp at r;obtain⟨a,dx,vs,e1,e2,e3,e4,e5⟩:=r;exact⟨a,dx,vs,e1,jP _ _ e2,e3,e4,eN.of e5⟩
 | .t (.v _),_,_,_,_,_,e=>nomatch e
 | .t (.tup _),_,_,_,_,_,e=>nomatch e
 | .t (.lst _),_,_,_,_,_,e=>nomatch e
 | .t (.Fq _),_,_,_,_,_,e=>nomatch e
 | .ob n,v,C,ns,l,⟨a,ha,r⟩,e=>by
  have e:(match S[n]? with | some (.ins C ns l)=>some (C,ns,l) | _=>none)=some (C,ns,l):=e;cases q:S[n]? with
  | none=>rw[q] at e;cases e
  | some o =>
   rw[q] at e;cases o with
   | ins C' ns' m =>
    have e:some (C',ns',m)=some (C,ns,l):=e;cases e;obtain⟨dx,vs,h1,h2,h3,h4⟩:=R.ok n a _ ha q;exact⟨a,dx,vs,r,h1,h2,h3,h4⟩
   | qC m=>cases e
   | yC _ _ m=>cases e
   | lst m=>cases e
end
section
variable {X:Cx}{o e:Expr}{es:List Expr}{ta tv:cX}{t:uL}{f m:Str}{pos apos pos':Pos}
noncomputable def YU (ta:cX)(f:Str):cX:=fun δ S k=>ta δ S fun d S1=>∃ C ns l x,iq S1 d=some (C,ns,l)/\(ns.zip l).lookup f=some x/\k x S1
theorem Ej {α:Type}:∀ {ns:List Str} {l:List α} {f:Str} {x:α},(ns.zip l).lookup f=some x->f∈ns
 | [],l,f,x,h=>by simp at h
 | n::ns,[],f,x,h=>by simp at h
 | n::ns,y::l,f,x,h=>by
  rw[List.zip_cons_cons,List.lookup_cons] at h;cases q:(f == n) with
  | true=>exact List.mem_cons.mpr (.inl (eq_of_beq q))
  | false=>rw[q] at h;exact List.mem_cons_of_mem _ (Ej h)
theorem aO (he:QE X e ta)(hb:attributeBase e f X.env (eval e X.env)=eval e X.env):QE X (.Attribute e f pos) (YU ta f) :=
 cL (V3 he hb) (by rintro σ H Q ⟨ρ,S,δ,k,R,D,q,hk⟩;exact ⟨ρ,S,δ,_,R,D,q,(by
  rintro v H1 ⟨ρ1,S1,d,g1,R1,r1,C,ns,l,x,h1,h2,q1⟩;obtain⟨a,dx,vs,e1,e2,e3,e4,e5⟩:=Cv R1 r1 h1;obtain⟨w,e6,e7⟩:=eN.look e5 h2;exact⟨a,C,dx,_,w,e1,e2,e4.cls,e4.no f (Ej h2),e6,hk _ _ ⟨ρ1,S1,x,g1,R1,e7,q1⟩⟩)⟩)
noncomputable abbrev c6:=List D->aY->KD->Prop
noncomputable def br (K:PySem.W.Frag)(sp:c6):Sp:=fun vs H Q _=>∃ ρ S ds k,R3 K ρ S H/\eN K ρ (res ρ H) ds vs/\sp ds S k/\∀ v H',up K ρ H k v H'->Q v H'
noncomputable def kU (sp:c6)(t:uL):cX:=fun δ S k=>t δ S fun ds S1=>sp ds S1 k
variable {k:Nat}{x:Str}{ps:List Str}{sp:c6}{p:Pos}{C:Addr}
theorem NK {K:PySem.W.Frag}{ρ ρ1:List Addr}{S1:aY}{H H1:Hp}{kk:KD}{Q:VK}{E:XK}{ds:List D}{vs:List V}(g1:Gr ρ H ρ1 H1)(R1:R3 K ρ1 S1 H1)(r1:eN K ρ1 (res ρ1 H1) ds vs)(q1:sp ds S1 kk)(hk:∀ v H',up K ρ H kk v H'->Q v H'):br K sp vs H1 Q E :=
 ⟨ρ1,S1,ds,kk,R1,r1,q1,fun v H' u=>hk v H' (u.gr g1)⟩
theorem aj (F:Dn X.prog X.w X.K X.mg X.base k x ps (br X.K sp))(hr:c7 k X.A)(hg:Gl X x)(ha:QA X (e::es) t)(h1:notStar e=true:=by rfl)(h2:es.all notStar=true:=by rfl)(hdb:(x == ("__debug__":Str))=false:=by decide) :
  QE X (.Call (.Name x p) (e::es) [] pos) (kU sp t):=by
 obtain⟨f,fd,F,hm,hk,hb⟩:=F;refine cL (M8 F hr hg hm hk hb .nil xW ha h1 h2 hdb) fun σ H Q ⟨ρ,S,δ,k,R,D,q,hk⟩=>⟨ρ,S,δ,_,R,D,q,?_⟩
 rintro v H1 ⟨ρ1,S1,d,g1,R1,r1,q1⟩;show br X.K sp (v++[]) H1 Q E0;rw[List.append_nil];exact NK g1 R1 r1 q1 hk
theorem Qw (F:Dn X.prog X.w X.K X.mg X.base k x ps (br X.K sp))(hr:c7 k X.A)(hg:Gl X x)(hdb:(x == ("__debug__":Str))=false:=by decide):QE X (.Call (.Name x p) [] [] pos) (kU sp eS):=by
 obtain⟨f,fd,F,hm,hk,hb⟩:=F;exact cL (Na F hr hg hm hk hb .nil xW hdb) (by rintro σ H Q ⟨ρ,S,δ,k,R,D,q,hk⟩;exact ⟨ρ,S,[],k,R,.nil,q,hk⟩)
noncomputable def Ms (P:Program)(w:World)(K:PySem.W.Frag)(mg:Str->Option Value)(base:Heap)(k:Nat)(n:Nat)(cl:Nat->Addr)(m:Str)(ps:List Str)(sp:Nat->c6):Prop :=
 ∀ j,j < n->Mt P w K mg base k (cl j) m ps (br K (sp j))
noncomputable def LZ (n:Nat)(cl:Nat->Addr)(m:Str)(sp:Nat->c6)(ta:cX)(t:uL):cX:=fun δ S k=>ta δ S fun d S1=>∃ j ns l,j < n/\iq S1 d=some (cl j,ns,l)/\ns.contains m=false/\t δ S1 fun ds S2=>sp j (d::ds) S2 k
variable {n:Nat}{cl:Nat->Addr}{Va:Nat->c6}
theorem ye {ns:List Str}{vs:List V}(h:ns.contains m=false):(ns.zip vs).lookup m=none:=bI.ye (by
 intro z;rw[List.contains_iff_mem.mpr z] at h;cases h)
theorem qo {pl:Sem Bool}(he:QE X o ta)(M:Ms X.prog X.w X.K X.mg X.base k n cl m ps Va)(hr:c7 k X.A)(ha:QA X (e::es) t)(h1:notStar e=true:=by rfl)(h2:es.all notStar=true:=by rfl)
  (ht:eval (.Call (.Attribute o m apos) (e::es) [] pos) X.env=(do
   let ov <- eval o X.env
   standAt apos.atName
   let (f,first) <- holding [ov] (getMethod ov m pl)
   callWith pos f first (backTo pos (starEach (e::es) X.env)) (backToKw pos (keywordEach [] X.env))):=by rfl) :
  QE X (.Call (.Attribute o m apos) (e::es) [] pos) (LZ n cl m Va ta t):=by
 rintro pins s σ H Q I ⟨ρ,S,δ,k,R,D,q,hk⟩;refine PySem.W.methodCall_KW (pl:=pl) (cH (he pins s σ H _ I ⟨ρ,S,δ,_,R,D,q,fun v H' z=>z⟩) ?_) ht;rintro u s1 ⟨x,H1,I1,rx,ρ1,S1,d,g1,R1,r1,j,ns,l,hj,i1,hm0,q1⟩;obtain⟨a,dx,vs,e1,e2,e3,e4,e5⟩:=Cv R1 r1 i1;subst e1;obtain rfl:u=Value.ref a:=rx;obtain⟨f,fd,F,hm,hb⟩:=M j hj;refine yr I1 e2 e4.cls hm (ye hm0) ?_;refine PySem.W.callWith_K (first:=[.ref a]) (h₀:=X.base) I.ok.mod.XU hm.kp (cH (ha pos pins s1 σ H1 _ I1 ⟨ρ1,S1,δ,_,R1,D.gr g1,q1,fun v H' z=>z⟩) ?_) (gE h1) (gP h2);rintro us s2 ⟨ws,H2,I2,r,ρ2,S2,ds,g2,R2,r2,q2⟩;refine⟨I2.sH,xK (us:=.ref a::us) (vs:=.ref a::ws) F hr hb .nil xW I2 (.cons rfl r) ?_⟩;rw[List.append_nil];exact⟨ρ2,S2,d::ds,k,R2,.cons (r1.gr g2) r2,q2,fun v H' u=>hk v H' (u.gr (g1.trans g2))⟩
theorem aR {pl:Sem Bool}(he:QE X o ta)(M:Ms X.prog X.w X.K X.mg X.base k n cl m ps Va)(hr:c7 k X.A)
  (ht:eval (.Call (.Attribute o m apos) [] [] pos) X.env=(do
   let ov <- eval o X.env
   standAt apos.atName
   let (f,first) <- holding [ov] (getMethod ov m pl)
   callWith pos f first (backTo pos (starEach [] X.env)) (backToKw pos (keywordEach [] X.env))):=by rfl) :
  QE X (.Call (.Attribute o m apos) [] [] pos) (LZ n cl m Va ta eS):=by
 rintro pins s σ H Q I ⟨ρ,S,δ,k,R,D,q,hk⟩;refine PySem.W.methodCall_KW (pl:=pl) (cH (he pins s σ H _ I ⟨ρ,S,δ,_,R,D,q,fun v H' z=>z⟩) ?_) ht;rintro u s1 ⟨x,H1,I1,rx,ρ1,S1,d,g1,R1,r1,j,ns,l,hj,i1,hm0,q1⟩;obtain⟨a,dx,vs,e1,e2,e3,e4,e5⟩:=Cv R1 r1 i1;subst e1;obtain rfl:u=Value.ref a:=rx;obtain⟨f,fd,F,hm,hb⟩:=M j hj;refine yr I1 e2 e4.cls hm (ye hm0) ?_;refine PySem.W.callWith_K0 (first:=[.ref a]) I1.sH hm.kp (xK (us:=[.ref a]) (vs:=[.ref a]) F hr hb .nil xW I1 (.cons rfl .nil) ?_);exact⟨ρ1,S1,[d],k,R1,.cons r1 .nil,q1,fun v H' u=>hk v H' (u.gr g1)⟩
end
noncomputable def Yi (n:Nat):D->Prop
 | .t _=>True
 | .ob m=>m < n
noncomputable def ES (n:Nat):O->Prop
 | .ins _ _ l=>∀ d∈l,Yi n d
 | _=>True
section
variable {K:PySem.W.Frag}{ρ e:List Addr}{S:aY}{H:Hp}{G G':Hp}
theorem mR {α β:Type}{F:α->β->Prop}:∀ {l:List α} {m:List β},Paired F l m->∀ a∈l,∃ b,F a b
 | _,_,.nil,a,h=>nomatch h
 | _,_,.cons r t,a,h=>by
  rcases List.mem_cons.mp h with rfl | h
  ·exact⟨_,r⟩
  ·exact mR t a h
theorem iM.cl {d:D}{w:V}(r:iM K ρ G d w):Yi ρ.length d:=by
 cases d with
 | t x=>trivial
 | ob n=>obtain⟨a,h,_⟩:=r;exact(List.getElem?_eq_some_iff.mp h).1
theorem G9.cl {h:Option HO}:∀ {o:O},G9 K ρ G h o->ES ρ.length o
 | .lst l,_=>trivial
 | .qC l,_=>trivial
 | .yC _ _ l,_=>trivial
 | .ins C ns l,⟨dx,vs,_,_,_,r⟩=>fun d hd=>let ⟨_,q⟩:=mR r d hd;q.cl
theorem R3.cl (r:R3 K ρ S H):∀ o∈S,ES S.length o:=fun o ho=>by
 obtain⟨n,hn⟩:=List.mem_iff_getElem?.mp ho;have hl:n < ρ.length:=by rw[r.len];exact(List.getElem?_eq_some_iff.mp hn).1
 rw[<- r.len];exact(r.ok n ρ[n] o (List.getElem?_eq_getElem hl) hn).cl
theorem iM.pop (le:Le G G'){d:D}{w:V}(r:iM K (ρ++e) G d w)(c:Yi ρ.length d):iM K ρ G' d w:=by
 cases d with
 | t x=>exact Rp.le le r
 | ob n =>
  obtain⟨a,h,q⟩:=r;refine⟨a,?_,q⟩;rw[List.getElem?_append_left (show n < ρ.length from c)] at h;exact h
theorem vg {α β:Type}{F F':α->β->Prop}:∀ {l:List α} {m:List β},(∀ a∈l,∀ b,F a b->F' a b)->Paired F l m->Paired F' l m
 | _,_,_,.nil=>.nil
 | _,_,h,.cons r t=>.cons (h _ List.mem_cons_self _ r) (vg (fun a ha b=>h a (List.mem_cons_of_mem _ ha) b) t)
theorem G9.pop (le:Le G G'){h:Option HO}:∀ {o:O},G9 K (ρ++e) G h o->ES ρ.length o->G9 K ρ G' h o
 | .lst l,⟨vs,e1,e2⟩,_=>⟨vs,e1,e2.le le⟩
 | .qC l,⟨vs,e1,e2⟩,_=>⟨vs,e1,dI (fun _ _ z=>⟨z.1,z.2.le le⟩) e2⟩
 | .yC ob vs l,⟨e1,e2⟩,_=>⟨e1,dI (fun _ _ z=>⟨z.1,z.2.le le⟩) e2⟩
 | .ins C ns l,⟨dx,vs,e1,e2,e3,e4⟩,c=>⟨dx,vs,e1,e2,e3,vg (fun a ha b z=>z.pop le (c a ha)) e4⟩
theorem lD:Le (res (ρ++e) H) (res ρ H):=fun a o h=>by
 obtain⟨h1,h2⟩:=res_some h;exact mK (fun z=>h1 (List.mem_append_left _ z)) h2
theorem R3.pop {S':aY}(r:R3 K (ρ++e) (S++S') H)(hl:ρ.length=S.length)(c:∀ o∈S,ES S.length o):R3 K ρ S H:=by
 refine⟨hl,(List.nodup_append.mp r.nd).1,fun n a o h1 h2=>?_⟩;have l1:=(List.getElem?_eq_some_iff.mp h1).1;have l2:=(List.getElem?_eq_some_iff.mp h2).1;have q:=r.ok n a o (by rw[List.getElem?_append_left l1];exact h1) (by rw[List.getElem?_append_left l2];exact h2);exact q.pop lD (by rw[hl];exact c o (List.mem_of_getElem? h2))
end
section
variable {X:Cx}{o e:Expr}{es:List Expr}{ta tv:cX}{t:uL}{f m x:Str}{pos apos pos' p:Pos}{k:Nat}{ps:List Str}{sp:c6}{C:Addr}
structure Mkr (P:Program)(w:World)(K:PySem.W.Frag)(mg:Str->Option Value)(base:Heap)(k:Nat)(C:Addr)(x:Str)(ps:List Str)(sp:c6):Prop where
 mr:Mr P w K mg base k C ps (br K sp)
 ok:eV K C []
 mg:mg x=some (.ref C)
noncomputable def T8 (C:Addr)(S1:aY)(k:KD)(d:D)(S2:aY):Prop:=d=.dO/\∃ ns l,S2=S1++[.ins C ns (l.map .t)]/\k (.t (.ins C ns l)) S1
noncomputable def w9 (C:Addr)(sp:c6)(t:uL):cX:=fun δ S k=>t δ S fun ds S1=>sp (.ob S1.length::ds) (S1++[.ins C [] []]) (T8 C S1 k)
noncomputable def L0 (C:Addr)(sp:c6)(t:uL):cX:=fun δ S k=>t δ S fun ds S1=>sp (.ob S1.length::ds) (S1++[.ins C [] []]) fun d S2=>d=.dO/\k (.ob S1.length) S2
theorem yg {K:PySem.W.Frag}{ρ:List Addr}{S:aY}{H:Hp}(R:R3 K ρ S H)(ok:eV K C []){x dx:Addr}(hx:H x=none)(hd:H dx=none)(ne:dx≠x) :
  R3 K (ρ++[x]) (S++[.ins C [] []]) (upd (upd H dx (.own x)) x (.ins C dx []))/\Gr ρ H (ρ++[x]) (upd (upd H dx (.own x)) x (.ins C dx [])):=by
 obtain⟨R1,g1,_⟩:=R.new (o:=.own x) hd;have hx1:upd H dx (.own x) x=none:=by rw[aQ (Ne.symm ne)];exact hx
 obtain⟨R2,g2⟩:=R1.push (o:=.ins C dx []) (u:=.ins C [] []) hx1 ⟨dx,[],rfl,rfl,ok,.nil⟩;exact⟨R2,g1.trans g2⟩
theorem VE (F:Mkr X.prog X.w X.K X.mg X.base k C x ps sp)(hr:c7 (k+1) X.A)(hg:Gl X x)(ha:QA X (e::es) t)(h1:notStar e=true:=by rfl)(h2:es.all notStar=true:=by rfl)(hdb:(x == ("__debug__":Str))=false:=by decide) :
  QE X (.Call (.Name x p) (e::es) [] pos) (w9 C sp t):=by
 obtain⟨f,fd,F',hM,hb⟩:=F.mr;refine cL (DZ hM F' hr hg F.mg hb .nil xW ha h1 h2 hdb) fun σ H Q ⟨ρ,S,δ,k,R,D,q,hk⟩=>⟨ρ,S,δ,_,R,D,q,fun vs H1 ⟨ρ1,S1,ds,g1,R1,r1,q1⟩ y dy hy hdy ne=>?_⟩
 obtain⟨R2,g2⟩:=yg R1 F.ok hy hdy ne;refine⟨ρ1++[y],S1++[.ins C [] []],.ob S1.length::ds,_,R2,.cons ⟨y,by rw[<- R1.len];simp,rfl⟩ ?_,q1,?_⟩
 ·rw[List.append_nil];exact r1.gr g2
 ·rintro v H3 ⟨ρ3,S3,d,g3,vz,r3,rfl,ns,l,rfl,q3⟩;refine⟨aI r3,?_⟩;have hρ:ρ3=ρ1++[y]:=by
   obtain⟨ex,he⟩:=g3.ext;have:=vz.len;rw[he] at this;simp only[List.length_append,List.length_singleton] at this;have l0:=R1.len;have:ex=[]:=List.length_eq_zero_iff.mp (by omega);rw[he,this,List.append_nil]
  subst hρ;have R4:R3 X.K ρ1 S1 H3:=vz.pop R1.len R1.cl;have g4:Gr ρ1 H1 ρ1 H3:=⟨⟨[],by simp⟩,(g2.le.trans g3.le).trans lD⟩
  refine hk _ _ ⟨ρ1,S1,.t (.ins C ns l),g1.trans g4,R4,?_,q3⟩;obtain⟨dx,ws,h3,h4,h5,h6⟩:=vz.ok S1.length y (.ins C ns (l.map .t)) (by rw[<- R1.len];simp) (by simp);show Rp _ _ _ _;unfold Rp;have ny:y ∉ ρ1:=R1.fresh hy;exact⟨y,dx,ws,rfl,mK ny h3,h4,h5,(eN.t h6).le lD⟩
theorem Qu (F:Mkr X.prog X.w X.K X.mg X.base k C x ps sp)(hr:c7 (k+1) X.A)(hg:Gl X x)(ha:QA X (e::es) t)(h1:notStar e=true:=by rfl)(h2:es.all notStar=true:=by rfl)(hdb:(x == ("__debug__":Str))=false:=by decide) :
  QE X (.Call (.Name x p) (e::es) [] pos) (L0 C sp t):=by
 obtain⟨f,fd,F',hM,hb⟩:=F.mr;refine cL (DZ hM F' hr hg F.mg hb .nil xW ha h1 h2 hdb) fun σ H Q ⟨ρ,S,δ,k,R,D,q,hk⟩=>⟨ρ,S,δ,_,R,D,q,fun vs H1 ⟨ρ1,S1,ds,g1,R1,r1,q1⟩ y dy hy hdy ne=>?_⟩
 obtain⟨R2,g2⟩:=yg R1 F.ok hy hdy ne;refine⟨ρ1++[y],S1++[.ins C [] []],.ob S1.length::ds,_,R2,.cons ⟨y,by rw[<- R1.len];simp,rfl⟩ ?_,q1,?_⟩
 ·rw[List.append_nil];exact r1.gr g2
 ·rintro v H3 ⟨ρ3,S3,d,g3,vz,r3,rfl,q3⟩;refine⟨aI r3,hk _ _ ⟨ρ3,S3,.ob S1.length,(g1.trans g2).trans g3,vz,⟨y,?_,rfl⟩,q3⟩⟩;exact g3.at (by rw[<- R1.len];simp)
noncomputable def pN (f:Str):List Str->List Str
 | []=>[f]
 | g::r=>if g=f then g::r else g::pN f r
noncomputable def pD {α:Type}(f:Str)(y:α):List Str->List α->List α
 | [],_=>[y]
 | _::_,[]=>[]
 | g::r,x::l=>if g=f then y::l else x::pD f y r l
theorem DV (f:Str)(y:V):∀ {ns:List Str} {vs:List V},ns.length=vs.length->lZ f y (ns.zip vs)=(pN f ns).zip (pD f y ns vs)/\(pN f ns).length=(pD f y ns vs).length
 | [],[],_=>⟨rfl,rfl⟩
 | [],_::_,h=>by simp at h
 | _::_,[],h=>by simp at h
 | g::ns,v::vs,h=>by
  have h':ns.length=vs.length:=by simpa using h
  obtain⟨i1,i2⟩:=DV f y h';rw[List.zip_cons_cons];unfold lZ pN pD;by_cases e:g=f
  ·rw[if_pos e,if_pos e,if_pos e];exact⟨rfl,by simpa using h'⟩
  ·rw[if_neg e,if_neg e,if_neg e,i1];exact⟨rfl,by simpa using i2⟩
theorem Nf {K:PySem.W.Frag}{ρ:List Addr}{G:Hp}{d:D}{v:V}(r:iM K ρ G d v):∀ {ns:List Str} {l:List D} {vs:List V},eN K ρ G l vs->eN K ρ G (pD f d ns l) (pD f v ns vs)
 | [],_,_,_=>by unfold pD;exact .cons r .nil
 | _::_,[],_,.nil=>by unfold pD;exact .nil
 | g::ns,_::_,_,.cons h t=>by
  unfold pD;by_cases e:g=f
  ·rw[if_pos e,if_pos e];exact .cons r t
  ·rw[if_neg e,if_neg e];exact .cons h (Nf r t)
theorem Nd {g:Str}:∀ {ns:List Str},g∈pN f ns->g=f∨g∈ns
 | [],h=>.inl (List.mem_singleton.mp h)
 | n::ns,h=>by
  unfold pN at h;by_cases e:n=f
  ·rw[if_pos e] at h;exact .inr h
  ·rw[if_neg e] at h;rcases List.mem_cons.mp h with h | h
   ·exact .inr (List.mem_cons.mpr (.inl h))
   ·rcases Nd h with h | h
    ·exact .inl h
    ·exact .inr (List.mem_cons_of_mem _ h)
noncomputable def Zs (K:PySem.W.Frag)(ta tv:cX)(f:Str):qN:=fun E δ S=>tv δ S fun y S1=>ta δ S1 fun x S2=>∃ n C ns l,x=.ob n/\S2[n]?=some (.ins C ns l)/\aM K C f/\ns.length < 1000/\E.nx δ (S2.set n (.ins C (pN f ns) (pD f y ns l)))
theorem aZ {value:Expr}(ha:QE X o ta)(hv:QE X value tv)(hs:swapsWith value (some (.Attribute o f pos')) pos.line X.env=pure false):QS X (.Assign [.Attribute o f pos'] value pos) (Zs X.K ta tv f) :=
 kr (VQ ha hv hs) fun D σ H ⟨ρ,S,δ,E,R,RS,q,eu⟩=>⟨ρ,S,δ,_,R,RS,q,fun v H1 ⟨ρ1,S1,d,g1,R1,r1,q1⟩=>⟨ρ1,S1,δ,_,R1,RS.gr g1,q1,(by
  rintro w H2 ⟨ρ2,S2,d2,g2,R2,r2,n,C,ns,l,h1,h2,h3,h4,q2⟩;subst h1;obtain⟨a,ha,e⟩:=r2;obtain⟨dx,vs,e1,e2,e3,e4⟩:=R2.ok n a _ ha h2;refine⟨a,C,dx,ns.zip vs,e,e1,e3.cls,h3,by rw[List.length_zip];omega,?_⟩;obtain⟨i1,i2⟩:=DV f v e2;rw[i1];obtain⟨R4,g4⟩:=R2.put (o:=.ins C dx ((pN f ns).zip (pD f v ns vs))) (u:=.ins C (pN f ns) (pD f d ns l)) ha
   ⟨dx,_,rfl,i2,⟨e3.cls,fun g hg=>by rcases Nd hg with z | z;rw[z];exact h3;exact e3.no g z,e3.ca,e3.cg,e3.ct,e3.cm⟩,Nf (r1.gr g2) e4⟩
  exact eu.nx _ _ ⟨ρ2,_,δ,(g1.trans g2).trans g4,R4,(RS.gr (g1.trans g2)).gr g4,q2⟩)⟩⟩
end
noncomputable abbrev Lj:=List D->aY->KD->Prop
noncomputable def liC (K:PySem.W.Frag)(r:Lj):List V->Hp->VK->Prop:=fun vs H Q=>∃ ρ S ds k,R3 K ρ S H/\eN K ρ (res ρ H) ds vs/\r ds S k/\∀ v H',up K ρ H k v H'->Q v H'
noncomputable def Call3 (X:Cx)(f:Value)(r:Lj):Prop:=eW X f (liC X.K r)
theorem iK {X:Cx}{f:Value}{r r':List V->Hp->VK->Prop}(h:eW X f r)(m:∀ vs H Q,r' vs H Q->r vs H Q):eW X f r':=fun pins s σ H xs us Q I rx q=>h pins s σ H xs us Q I rx (m _ _ _ q)
theorem eN.one {K:PySem.W.Frag}{ρ:List Addr}{G:Hp}{d:D}{vs:List V}(r:eN K ρ G [d] vs):∃ v,vs=[v]/\iM K ρ G d v:=by
 cases r with
 | cons h t=>cases t;exact⟨_,rfl,h⟩
theorem eN.two {K:PySem.W.Frag}{ρ:List Addr}{G:Hp}{d e:D}{vs:List V}(r:eN K ρ G [d,e] vs):∃ v w,vs=[v,w]/\iM K ρ G d v/\iM K ρ G e w:=by
 cases r with
 | cons h t =>
  cases t with
  | cons h2 t2=>cases t2;exact⟨_,_,rfl,h,h2⟩
noncomputable def RO:Lj
 | [.t (.v (.str z))],S,k=>z.length<=sizeLine/\k (.int z.length) S
 | [d],S,k=>∃ l,sq S d=some l/\k (.int l.length) S
 | _,_,_=>False
noncomputable def LN:Lj
 | [d],S,k=>∃ l,sq S d=some l/\k (.tup l) S
 | _,_,_=>False
noncomputable def W2:Lj
 | [.t (.v (.int i))],S,k=>k (.int i) S
 | [.t (.v (.bl b))],S,k=>k (.int (if b then 1 else 0)) S
 | _,_,_=>False
noncomputable def Zb:Lj
 | [.t (.v (.int i))],S,k=>i.natAbs.log2 < 1920/\k (.str (toString i)) S
 | _,_,_=>False
noncomputable def XG (f:List Bool->Bool):Lj
 | [d],S,k=>∃ bs:List Bool,lq S d=some (bs.map T.bl)/\k (.bl (f bs)) S
 | _,_,_=>False
section
variable {X:Cx}{x:Str}{p pos apos cpos:Pos}{e o:Expr}{es:List Expr}{t:uL}{to:cX}{id ty:String}{r:Lj}
theorem bI.bls {K:PySem.W.Frag}{G:Hp}:∀ {ns:List Bool} {vs:List V},bI K G (ns.map T.bl) vs->vs=ns.map V.bl
 | [],vs,r=>by unfold bI at r;exact r
 | n::ns,vs,r=>by
  rw[List.map_cons] at r;unfold bI at r;obtain⟨v,vr,e1,e2,e3⟩:=r;unfold Rp at e2;rw[e1,e2,bI.bls e3];rfl
theorem bI.strs {K:PySem.W.Frag}{G:Hp}:∀ {ns:List Str} {vs:List V},bI K G (ns.map T.str) vs->vs=ns.map V.str
 | [],vs,r=>by unfold bI at r;exact r
 | n::ns,vs,r=>by
  rw[List.map_cons] at r;unfold bI at r;obtain⟨v,vr,e1,e2,e3⟩:=r;unfold Rp at e2;rw[e1,e2,bI.strs e3];rfl
theorem bI.ofStrs {K:PySem.W.Frag}{G:Hp}:∀ (ns:List Str),bI K G (ns.map T.str) (ns.map V.str)
 | []=>.nil
 | n::ns=>.cons (by unfold Rp;rfl) (bI.ofStrs ns)
noncomputable def L5 (r:Lj)(t:uL):cX:=fun δ S k=>t δ S fun ds S1=>r ds S1 k
theorem JF:∀ σ H Q,li X.K (L5 r t) σ H Q->YZ (liC X.K r) (liA X.K t) σ H Q:=(by rintro σ H Q ⟨ρ,S,δ,k,R,D,q,hk⟩;exact  ⟨ρ,S,δ,_,R,D,q,(by rintro v H1 ⟨ρ1,S1,d,g1,R1,r1,q1⟩;exact ⟨ρ1,S1,d,k,R1,r1,q1,fun w H2 u=>hk w H2 (u.gr g1)⟩)⟩)
theorem aK (hc:Call3 X (.builtin id) r)(hg:Gl X x)(hm:X.mg x=none)(hv:bootBuiltins x=some (.builtin id))(ha:QA X (e::es) t)(h1:notStar e=true:=by rfl)(h2:es.all notStar=true:=by rfl)(hn:x≠"__name__":=by decide)(hdb:(x == ("__debug__":Str))=false:=by decide) :
  QE X (.Call (.Name x p) (e::es) [] pos) (L5 r t):=cL (J5 hc hg hm hv ha h1 h2 hn hdb) JF
theorem aU (hc:Call3 X (.type ty) r)(hg:Gl X x)(hm:X.mg x=none)(hv:bootBuiltins x=some (.type ty))(ha:QA X (e::es) t)(h1:notStar e=true:=by rfl)(h2:es.all notStar=true:=by rfl)(hn:x≠"__name__":=by decide)(hdb:(x == ("__debug__":Str))=false:=by decide) :
  QE X (.Call (.Name x p) (e::es) [] pos) (L5 r t):=cL (Gd hc hg hm hv ha h1 h2 hn hdb) JF
theorem cV:Call3 X (.builtin "len") RO:=by
 refine iK (CN.or CO) ?_;rintro vs H Q ⟨ρ,S,ds,k,R,rd,q,hk⟩;unfold RO at q;split at q
 ·obtain⟨v,rfl,rv⟩:=rd.one;rw[aI rv];exact .inl ⟨_,rfl,q.1,fin R hk aW q.2⟩
 ·obtain⟨v,rfl,rv⟩:=rd.one;obtain⟨l,h1,h2⟩:=q;obtain⟨a,us,e1,e2,e3⟩:=Ba R rv h1;refine .inr ⟨a,us,by rw[e1],e2,?_⟩;rw[<- e3.len];exact fin R hk aW h2
 ·exact q.elim
theorem LO {K:PySem.W.Frag}{ρ:List Addr}{S:aY}{H:Hp}(R:R3 K ρ S H):∀ {d:D} {v:V} {l:List T},iM K ρ (res ρ H) d v->sq S d=some l ->
  (∃ a vs,v=.ref a/\mD K H a vs/\bI K (res ρ H) l vs)∨(d=.tup l/\∃ a vs,v=.ref a/\mC K H a vs)
 | .t (.tup m),v,l,r,e=>by
  have e:some m=some l:=e;cases e;obtain⟨a,vs,e1,e2,e3⟩:=dX r;exact .inr ⟨rfl,a,vs,e1,.of e2⟩
 | .t (.Fq m),v,l,r,e=>by
  have e:some m=some l:=e;cases e;have r:Rp _ _ _ _:=r;unfold Rp at r;obtain⟨a,vs,e1,e2,e3⟩:=r;exact .inl ⟨a,vs,e1,FY jP e2,e3⟩
 | .t (.lst m),v,l,r,e=>by
  obtain⟨a,vs,e1,e2,e3⟩:=dj R r (show lq S (.t (.lst m))=some l from e);exact .inl ⟨a,vs,e1,.of e2,e3⟩
 | .t (.v _),_,_,_,e=>nomatch e
 | .t (.ins _ _ _),_,_,_,e=>nomatch e
 | .ob n,v,l,r,e=>by
  obtain⟨a,vs,e1,e2,e3⟩:=dj R r (show lq S (.ob n)=some l from e);exact .inl ⟨a,vs,e1,.of e2,e3⟩
theorem cy:Call3 X (.type "tuple") LN:=by
 refine iK zV ?_;rintro vs H Q ⟨ρ,S,ds,k,R,rd,q,hk⟩;unfold LN at q;split at q
 ·obtain⟨v,rfl,rv⟩:=rd.one;obtain⟨l,h1,h2⟩:=q;rcases LO R rv h1 with ⟨a,us,e1,e2,e3⟩ | ⟨hd,a,us,e1,e2⟩
  ·exact⟨a,us,by rw[e1],.inl ⟨e2,Of R hk e3 h2⟩⟩
  ·subst hd;refine⟨a,us,by rw[e1],.inr ⟨e2,?_⟩⟩;rw[<- e1];exact fin R hk rv h2
 ·exact q.elim
theorem AG:Call3 X (.type "int") W2:=by
 refine iK Lc ?_;rintro vs H Q ⟨ρ,S,ds,k,R,rd,q,hk⟩;unfold W2 at q;split at q
 ·obtain⟨v,rfl,rv⟩:=rd.one;rw[aI rv];exact .inl ⟨_,rfl,fin R hk aW q⟩
 ·obtain⟨v,rfl,rv⟩:=rd.one;rw[aI rv];exact .inr ⟨_,rfl,fin R hk aW q⟩
 ·exact q.elim
theorem Ut:Call3 X (.type "str") Zb:=by
 refine iK CL ?_;rintro vs H Q ⟨ρ,S,ds,k,R,rd,q,hk⟩;unfold Zb at q;split at q
 ·obtain⟨v,rfl,rv⟩:=rd.one;rw[aI rv];exact⟨_,rfl,q.1,fin R hk aW q.2⟩
 ·exact q.elim
theorem a1F {f:List Bool->Bool}(h:eW X (.builtin id) (fun xs H Q=>∃ (p:Addr) (bs:List Bool),xs=[.ref p]/\mD X.K H p (bs.map V.bl)/\Q (.bl (f bs)) H)):Call3 X (.builtin id) (XG f):=by
 refine iK h ?_;rintro vs H Q ⟨ρ,S,ds,k,R,rd,q,hk⟩;unfold XG at q;split at q
 ·obtain⟨v,rfl,rv⟩:=rd.one;obtain⟨ns,h1,h2⟩:=q;obtain⟨a,us,e1,e2,e3⟩:=dj R rv h1;rw[e3.bls] at e2;exact⟨a,ns,by rw[e1],.of e2,fin R hk aW h2⟩
 ·exact q.elim
theorem AH (hc:X.calm=true):Call3 X (.builtin "all") (XG fun bs=>bs.all _root_.id):=a1F (OF hc)
noncomputable def tyT:T->Option Value
 | .v .dO=>some (.type "NoneType")
 | .v (.bl _)=>some (.type "bool")
 | .v (.int _)=>some (.type "int")
 | .v (.str _)=>some (.type "str")
 | .tup _=>some (.type "tuple")
 | .lst _=>some (.type "list")
 | .ins C _ _=>some (.ref C)
 | _=>none
noncomputable def tyD (S:aY):D->Option Value
 | .t x=>tyT x
 | .ob n=>match S[n]? with
  | some (.lst _)=>some (.type "list")
  | some (.ins C _ _)=>some (.ref C)
  | some (.qC _)=>some (.type "dict")
  | some (.yC _ _ _)=>none
  | none=>none
theorem Pp {K:PySem.W.Frag}{ρ:List Addr}{S:aY}{H:Hp}(R:R3 K ρ S H){d:D}{v:V}{u:Value}(r:iM K ρ (res ρ H) d v)(e:tyD S d=some u):tM K H v u:=by
 cases d with
 | t x =>
  have e:tyT x=some u:=e;cases x with
  | v y =>
   rw[aI r];cases y with
   | dO=>cases e;exact .dO
   | bl b=>cases e;exact .bl b
   | int i=>cases e;exact .int i
   | str z=>cases e;exact .str z
   | _=>cases e
  | tup l=>obtain⟨a,vs,e1,e2,e3⟩:=dX r;cases e;rw[e1];exact .tup e2
  | lst l=>obtain⟨a,vs,e1,e2,e3⟩:=dj R r rfl;cases e;rw[e1];exact .lst e2
  | Fq l=>cases e
  | ins C ns l=>obtain⟨a,dx,vs,e1,e2,e3,e4,e5⟩:=Cv R r rfl;cases e;rw[e1];exact .ins e2 e4.cls e4.ca e4.cg e4.ct e4.cm
 | ob n =>
  have e:(match S[n]? with | some (.lst _)=>some (Value.type "list") | some (.ins C _ _)=>some (.ref C) | some (.qC _)=>some (.type "dict") | some (.yC _ _ _)=>none | none=>none)=some u:=e;obtain⟨a,ha,rfl⟩:=r;cases q:S[n]? with
  | none=>rw[q] at e;cases e
  | some o =>
   rw[q] at e;have z:=R.ok n a o ha q;cases o with
   | lst l=>obtain⟨vs,h1,h2⟩:=z;cases e;exact .lst h1
   | qC l=>obtain⟨vs,h1,h2⟩:=z;cases e;exact .dK h1
   | yC _ _ l=>cases e
   | ins C ns l=>obtain⟨dx,vs,h1,h2,h3,h4⟩:=z;cases e;exact .ins h1 h3.cls h3.ca h3.cg h3.ct h3.cm
noncomputable def a02 (K:PySem.W.Frag)(c:V)(u:Value):Lj
 | [d,.t (.v c')],S,k=>c'=c/\∃ t b,tyD S d=some t/\PySem.W.kitOne K t u=some b/\k (.bl b) S
 | _,_,_=>False
theorem JI {c:V}{u:Value}(hc:match c with | .ref _=>True | .ty _=>True | _=>False)(ru:RelV c u):Call3 X (.builtin "isinstance") (a02 X.K c u):=by
 refine iK (OE hc) ?_;rintro vs H Q ⟨ρ,S,ds,k,R,rd,q,hk⟩;unfold a02 at q;split at q
 ·obtain⟨v,w,rfl,rv,rw'⟩:=rd.two;obtain⟨rfl,t,b,h1,h2,h3⟩:=q;rw[aI rw'];exact⟨v,t,u,b,rfl,Pp R rv h1,ru,h2,fin R hk aW h3⟩
 ·exact q.elim
end
noncomputable abbrev Fz:=D->List D->aY->KD->Prop
noncomputable def Gz (K:PySem.W.Frag)(r:Fz):V->List V->Hp->VK->Prop:=fun v vs H Q=>∃ ρ S d ds k,R3 K ρ S H/\iM K ρ (res ρ H) d v/\eN K ρ (res ρ H) ds vs/\r d ds S k/\∀ v H',up K ρ H k v H'->Q v H'
noncomputable def xq (S:aY):D->Option (List T)
 | .t (.tup l)=>some l
 | d=>lq S d
noncomputable def SG:Fz
 | .ob n,[.t x],S,k=>∃ l,S[n]?=some (.lst l)/\l.length < sizeLine/\k .dO (S.set n (.lst (l++[x])))
 | _,_,_,_=>False
noncomputable def ext3:Fz
 | .ob n,[d],S,k=>∃ l m,S[n]?=some (.lst l)/\xq S d=some m/\l.length+m.length<=sizeLine/\k .dO (S.set n (.lst (l++m)))
 | _,_,_,_=>False
noncomputable def W3:Fz
 | .ob n,[.t (.v (.int i)),.t x],S,k=>∃ (l:List T) (j:Nat),S[n]?=some (.lst l)/\i=j/\j<=l.length/\l.length < sizeLine/\k .dO (S.set n (.lst (l.take j++[x]++l.drop j)))
 | _,_,_,_=>False
noncomputable def PK:Fz
 | .t (.v (.str a)),[.t (.v (.str b))],S,k=>k (.bl (Txt.startswith a b)) S
 | _,_,_,_=>False
noncomputable def NY:Fz
 | .t (.v (.str sep)),[d],S,k=>∃ ss:List Str,lq S d=some (ss.map T.str)/\(ss.map (·.length)).sum+ss.length*sep.length<=16777216/\k (.str (Txt.join sep ss)) S
 | _,_,_,_=>False
section
variable {X:Cx}{x:Str}{p pos apos cpos:Pos}{e o i value:Expr}{es:List Expr}{t:uL}{to ti tv:cX}{id ty:String}{r:Fz}
theorem lV {r r':V->List V->Hp->VK->Prop}(h:qO X id r)(m:∀ v vs H Q,r' v vs H Q->r v vs H Q):qO X id r':=fun pins s σ H x xs u us Q I rx rv q=>h pins s σ H x xs u us Q I rx rv (m _ _ _ _ q)
noncomputable def tyM (S:aY)(ty:String):D->Prop
 | .t (.v (.str _))=>ty="str"
 | d=>ty="list"/\∃ l,lq S d=some l
noncomputable def mH (ty:String)(r:Fz)(to:cX)(t:uL):cX:=fun δ S k=>to δ S fun d S1=>tyM S1 ty d/\t δ S1 fun ds S2=>r d ds S2 k
theorem HL {K:PySem.W.Frag}{ρ:List Addr}{S:aY}{H:Hp}(R:R3 K ρ S H){d:D}{v:V}(r:iM K ρ (res ρ H) d v)(e:tyM S ty d):tyV K ty v H:=by
 unfold tyM at e;split at e
 ·rw[aI r];exact e
 ·obtain⟨e1,l,e2⟩:=e;obtain⟨a,vs,h1,h2,h3⟩:=dj R r e2;rw[h1];exact .inl ⟨e1,vs,.of h2⟩
theorem RJ:∀ σ H Q,li X.K (mH ty r to t) σ H Q->tBM X.K ty (Gz X.K r) (li X.K to) (liA X.K t) σ H Q:=(by rintro σ H Q ⟨ρ,S,δ,k,R,D,q,hk⟩;exact  ⟨ρ,S,δ,_,R,D,q,(by rintro v H1 ⟨ρ1,S1,d,g1,R1,r1,h1,q1⟩;exact ⟨HL R1 r1 h1,ρ1,S1,δ,_,R1,D.gr g1,q1,(by rintro vs H2 ⟨ρ2,S2,ds,g2,R2,r2,q2⟩;exact   ⟨ρ2,S2,d,ds,k,R2,r1.gr g2,r2,q2,fun w H3 u=>hk w H3 (u.gr (g1.trans g2))⟩)⟩)⟩)
theorem ND:∀ σ H Q,li X.K (mH ty r to eS) σ H Q->Y0 X.K ty (Gz X.K r) (li X.K to) σ H Q:=(by rintro σ H Q ⟨ρ,S,δ,k,R,D,q,hk⟩;exact  ⟨ρ,S,δ,_,R,D,q,(by rintro v H1 ⟨ρ1,S1,d,g1,R1,r1,h1,q1⟩;exact ⟨HL R1 r1 h1,ρ1,S1,d,[],k,R1,r1,.nil,q1,fun w H3 u=>hk w H3 (u.gr g1)⟩)⟩)
theorem xP {name:Str}(pa:PlainAttrs ty)(slot:Slot ty name id)(hty:typeOf (.builtin id)=pure (.type "method_descriptor"))(hm:qO X id (Gz X.K r))(ho:QE X o to)(ha:QA X (e::es) t)
  (h1:notStar e=true:=by rfl) (h2:es.all notStar=true:=by rfl) (h3:es.length < 20:=by decide) (hbase:attributeBase o name X.env (eval o X.env)=eval o X.env:=by rfl) (hline:(apos.endLine == cpos.line)=true:=by rfl) :
  QE X (.Call (.Attribute o name apos) (e::es) [] cpos) (mH ty r to t):=cL (V4 pa slot hty hm ho ha h1 h2 h3 hbase hline) RJ
theorem a0h:qO X "list.append" (Gz X.K SG):=by
 refine lV Kq ?_;rintro v vs H Q ⟨ρ,S,d,ds,k,R,rd,rs,q,hk⟩;unfold SG at q;split at q
 ·obtain⟨l,h1,h2,h3⟩:=q;obtain⟨a,ha,rfl⟩:=rd;obtain⟨w,rfl,rw'⟩:=rs.one;obtain⟨us,e1,e2⟩:=R.ok _ a _ ha h1;exact⟨a,us,w,rfl,rfl,e1,by rw[<- e2.len];exact h2,K7 R hk ha (o:=.lst (l++[_])) ⟨_,rfl,e2.app (.cons rw' .nil)⟩ aW h3⟩
 ·exact q.elim
theorem a0g:qO X "list.extend" (Gz X.K ext3):=by
 refine lV (qO.or Kp Gs) fun v vs H Q ⟨ρ,S,d,ds,k,R,rd,rs,q,hk⟩=>?_;unfold ext3 at q;split at q
 ·obtain⟨l,m,h1,h2,h3,h4⟩:=q;obtain⟨a,ha,rfl⟩:=rd;obtain⟨w,rfl,rw'⟩:=rs.one;obtain⟨us,e1,e2⟩:=R.ok _ a _ ha h1;rename_i d2 _;cases d2 with
  | ob m' =>
   obtain⟨b,ws,f1,f2,f3⟩:=dj R rw' (show lq S (.ob m')=some m from h2);exact .inl ⟨a,b,us,ws,rfl,by rw[f1],e1,f2,by rw[<- e2.len,<- f3.len];exact h3,K7 R hk ha (o:=.lst (l++m)) ⟨_,rfl,e2.app f3⟩ aW h4⟩
  | t y =>
   cases y with
   | lst m' =>
    obtain⟨b,ws,f1,f2,f3⟩:=dj R rw' (show lq S (.t (.lst m'))=some m from h2);exact .inl ⟨a,b,us,ws,rfl,by rw[f1],e1,f2,by rw[<- e2.len,<- f3.len];exact h3,K7 R hk ha (o:=.lst (l++m)) ⟨_,rfl,e2.app f3⟩ aW h4⟩
   | tup m' =>
    have h2:some m'=some m:=h2;injection h2 with h2
    subst h2;obtain⟨b,ws,f1,f2,f3⟩:=dX rw';exact .inr ⟨a,b,us,ws,rfl,by rw[f1],e1,.of f2,by rw[<- e2.len,<- f3.len];exact h3,K7 R hk ha (o:=.lst (l++m')) ⟨_,rfl,e2.app f3⟩ aW h4⟩
   | Fq m'=>cases h2
   | v _=>cases h2
   | ins _ _ _=>cases h2
 ·exact q.elim
theorem a0e:qO X "list.insert" (Gz X.K W3):=by
 refine lV Ko ?_;rintro v vs H Q ⟨ρ,S,d,ds,k,R,rd,rs,q,hk⟩;unfold W3 at q;split at q
 ·obtain⟨l,j,h1,h2,h3,h4,h5⟩:=q;obtain⟨a,ha,rfl⟩:=rd;obtain⟨w,w2,rfl,rw',r2⟩:=rs.two;obtain⟨us,e1,e2⟩:=R.ok _ a _ ha h1;rw[aI rw'];exact⟨a,us,_,j,w2,rfl,rfl,h2,e1,by rw[<- e2.len];exact h3,by rw[<- e2.len];exact h4,K7 R hk ha (o:=.lst (l.take j++[_]++l.drop j)) ⟨_,rfl,((e2.tk j).app (.cons r2 .nil)).app (e2.dp j)⟩ aW h5⟩
 ·exact q.elim
theorem a0a:qO X "str.startswith" (Gz X.K PK):=by
 refine lV Kl ?_;rintro v vs H Q ⟨ρ,S,d,ds,k,R,rd,rs,q,hk⟩;unfold PK at q;split at q
 ·obtain⟨w,rfl,rw'⟩:=rs.one;rw[aI rd,aI rw'];exact⟨_,_,rfl,rfl,fin R hk aW q⟩
 ·exact q.elim
theorem WB:qO X "str.join" (Gz X.K NY):=by
 refine lV RK ?_;rintro v vs H Q ⟨ρ,S,d,ds,k,R,rd,rs,q,hk⟩;unfold NY at q;split at q
 ·obtain⟨ss,h1,h2,h3⟩:=q;obtain⟨w,rfl,rw'⟩:=rs.one;obtain⟨a,us,e1,e2,e3⟩:=dj R rw' h1;rw[aI rd];rw[e3.strs] at e2;exact⟨_,a,ss,rfl,by rw[e1],e2,h2,fin R hk aW h3⟩
 ·exact q.elim
theorem kj (ho:QE X o to)(ha:QA X [e] t)(h1:notStar e=true:=by rfl)(hbase:attributeBase o "append" X.env (eval o X.env)=eval o X.env:=by rfl)(hline:(apos.endLine == cpos.line)=true:=by rfl) :
  QE X (.Call (.Attribute o "append" apos) [e] [] cpos) (mH "list" SG to t):=xP PySem.F.plainAttrs_list PySem.F.slot_list_append PySem.F.type_list_append a0h ho ha h1 rfl (by decide) hbase hline
theorem TX (ho:QE X o to)(ha:QA X [e] t)(h1:notStar e=true:=by rfl)(hbase:attributeBase o "extend" X.env (eval o X.env)=eval o X.env:=by rfl)(hline:(apos.endLine == cpos.line)=true:=by rfl) :
  QE X (.Call (.Attribute o "extend" apos) [e] [] cpos) (mH "list" ext3 to t):=xP PySem.F.plainAttrs_list PySem.F.slot_list_extend PySem.F.type_list_extend a0g ho ha h1 rfl (by decide) hbase hline
theorem ZJ {e2:Expr}(ho:QE X o to)(ha:QA X [e,e2] t)(h1:notStar e=true:=by rfl)(h2:[e2].all notStar=true:=by rfl)(hbase:attributeBase o "insert" X.env (eval o X.env)=eval o X.env:=by rfl)(hline:(apos.endLine == cpos.line)=true:=by rfl) :
  QE X (.Call (.Attribute o "insert" apos) [e,e2] [] cpos) (mH "list" W3 to t):=xP PySem.F.plainAttrs_list PySem.F.slot_list_insert PySem.F.type_list_insert a0e ho ha h1 h2 (by show 1 < 20;decide) hbase hline
theorem TU (ho:QE X o to)(ha:QA X [e] t)(h1:notStar e=true:=by rfl)(hbase:attributeBase o "startswith" X.env (eval o X.env)=eval o X.env:=by rfl)(hline:(apos.endLine == cpos.line)=true:=by rfl) :
  QE X (.Call (.Attribute o "startswith" apos) [e] [] cpos) (mH "str" PK to t):=xP PySem.F.plainAttrs_str PySem.F.slot_str_startswith PySem.F.type_str_startswith a0a ho ha h1 rfl (by decide) hbase hline
theorem xO (ho:QE X o to)(ha:QA X [e] t)(h1:notStar e=true:=by rfl)(hbase:attributeBase o "join" X.env (eval o X.env)=eval o X.env:=by rfl)(hline:(apos.endLine == cpos.line)=true:=by rfl) :
  QE X (.Call (.Attribute o "join" apos) [e] [] cpos) (mH "str" NY to t):=xP PySem.F.plainAttrs_str PySem.F.slot_str_join PySem.F.type_str_join WB ho ha h1 rfl (by decide) hbase hline
end
noncomputable def WX:uN
 | .t (.v (.str z)),.t (.v (.int i)),S,k=>z.length<=sizeLine/\∃ c,oO z.cps.toList i=some c/\k (.str ⟨#[c]⟩) S
 | a,.t (.v (.int i)),S,k=>∃ l x,sq S a=some l/\oO l i=some x/\k (.t x) S
 | _,_,_,_=>False
section
variable {X:Cx}{a b e:Expr}{ta tb te:cX}{pos p2:Pos}
theorem bI.oO {K:PySem.W.Frag}{G:Hp}{l:List T}{vs:List V}{i:Int}{x:T}(r:bI K G l vs)(h:L2.oO l i=some x):∃ v,L2.oO vs i=some v/\Rp K G x v:=by
 unfold L2.oO at h ⊢;rw[<- r.len];cases q:Pd l.length i with
 | none=>rw[q] at h;cases h
 | some j=>rw[q] at h;exact r.get h
theorem a01:Pk X (liR X.K WX):=by
 intro value slice pins s σ H x y v u Q I rx ry ⟨ρ,S,a,b,k,R,ra,rb,q,hk⟩ hs;refine WW value slice pins s σ H x y v u Q I rx ry ?_ hs;unfold WX at q;split at q
 ·obtain⟨h1,c,h2,h3⟩:=q;exact .inr (.inr ⟨_,_,c,aI ra,aI rb,h1,h2,fin R hk aW h3⟩)
 ·obtain⟨l,x',h1,h2,h3⟩:=q;obtain⟨p,us,e1,e2,e3⟩:=Ba R ra h1;obtain⟨w,f1,f2⟩:=e3.oO h2;rcases e2 with e2 | e2
  ·exact .inl ⟨p,us,_,w,e1,aI rb,e2,f1,fin R hk (d:=.t x') f2 h3⟩
  ·exact .inr (.inl ⟨p,us,_,w,e1,aI rb,e2,f1,fin R hk (d:=.t x') f2 h3⟩)
 ·exact q.elim
theorem aS (ha:QE X a ta)(hb:QE X b tb)(hs:JN b:=by intro _ _;rfl):QE X (.Subscript a b pos) (qc WX ta tb):=cL (ZS a01 ha hb hs) wJ
noncomputable def tu (l:List T)(lo hi:Option Int):List T:=(l.drop (HT.fK l.length 0 lo)).take (HT.fK l.length l.length hi - HT.fK l.length 0 lo)
theorem bI.cut {K:PySem.W.Frag}{G:Hp}{l:List T}{vs:List V}(r:bI K G l vs)(lo hi:Option Int):bI K G (tu l lo hi) (EK vs lo hi):=by
 unfold tu EK;rw[<- r.len];exact(r.dp _).tk _
noncomputable abbrev Ym:=Sl->aY->(Option Int->aY->Prop)->Prop
noncomputable def liO (K:PySem.W.Frag)(t:Ym):TO:=fun σ H Q=>∃ ρ S δ k,R3 K ρ S H/\uM K ρ (res ρ H) δ σ/\t δ S k/\∀ o H',(∃ ρ' S',Gr ρ H ρ' H'/\R3 K ρ' S' H'/\k o S')->Q o H'
noncomputable def QO (X:Cx)(e:Option Expr)(t:Ym):Prop:=PO X e (liO X.K t)
noncomputable def LY:Ym:=fun _ S k=>k none S
noncomputable def YF (t:cX):Ym:=fun δ S k=>t δ S fun d S1=>∃ i,d=.int i/\k (some i) S1
theorem TZ {o:Option Expr}{t t':TO}(h:PO X o t)(m:∀ σ H Q,t' σ H Q->t σ H Q):PO X o t':=fun pins s σ H Q I q=>h pins s σ H Q I (m _ _ _ q)
theorem bq:QO X none LY:=TZ QM (by rintro σ H Q ⟨ρ,S,δ,k,R,D,q,hk⟩;exact hk _ _ ⟨ρ,S,.refl,R,q⟩)
theorem aX (h:QE X e te):QO X (some e) (YF te):=TZ (QL h) (by rintro σ H Q ⟨ρ,S,δ,k,R,D,q,hk⟩;exact ⟨ρ,S,δ,_,R,D,q,(by
 rintro v H1 ⟨ρ1,S1,d,g1,R1,r1,i,e,q1⟩;subst e;exact⟨i,aI r1,hk _ _ ⟨ρ1,S1,g1,R1,q1⟩⟩)⟩)
noncomputable def sl3 (mu:Bool):D->Option Int->Option Int->aY->KD->Prop
 | .t (.v (.str z)),lo,hi,S,k=>z.length<=sizeLine/\k (.str (Txt.slice z lo hi)) S
 | .t (.tup l),lo,hi,S,k=>¬ (HT.fK l.length 0 lo=0/\HT.fK l.length l.length hi=l.length)/\k (.tup (tu l lo hi)) S
 | d,lo,hi,S,k=>∃ l,lq S d=some l/\(if mu then k (.ob S.length) (S++[.lst (tu l lo hi)]) else k (.lst (tu l lo hi)) S)
noncomputable def a3u (K:PySem.W.Frag)(r:D->Option Int->Option Int->aY->KD->Prop):V->Option Int->Option Int->Hp->VK->Prop:=fun v lo hi H Q=>∃ ρ S d k,R3 K ρ S H/\iM K ρ (res ρ H) d v/\r d lo hi S k/\∀ v H',up K ρ H k v H'->Q v H'
theorem Zn (mu:Bool):SM X (a3u X.K (sl3 mu)):=by
 intro pins s σ H x v vl vu lo hi sl Q I rx hs pl pu ⟨ρ,S,d,k,R,rd,q,hk⟩;refine(Vd.or (Vc.or PM)) pins s σ H x v vl vu lo hi sl Q I rx hs pl pu ?_;unfold sl3 at q;split at q
 ·exact .inl ⟨_,aI rd,q.1,fin R hk aW q.2⟩
 ·obtain⟨a,vs,e1,e2,e3⟩:=dX rd;refine .inr (.inl ⟨a,vs,e1,.of e2,by rw[<- e3.len];exact q.1,Of R hk (e3.cut lo hi) q.2⟩)
 ·obtain⟨l,h1,h2⟩:=q;obtain⟨a,vs,e1,e2,e3⟩:=dj R rd h1;refine .inr (.inr ⟨a,vs,e1,.of e2,?_⟩);cases mu with
  | true=>exact Og R hk (e3.cut lo hi) h2
  | false=>exact Ex R hk (e3.cut lo hi) h2
noncomputable def LX (mu:Bool)(te:cX)(tl th:Ym):cX:=fun δ S k=>te δ S fun x S1=>tl δ S1 fun l S2=>th δ S2 fun u S3=>sl3 mu x l u S3 k
theorem eZ (mu:Bool){lo hi:Option Expr}{tl th:Ym}(he:QE X e te)(hl:QO X lo tl)(hu:QO X hi th):QE X (.Subscript e (.Slice lo hi none p2) pos) (LX mu te tl th) :=
 cL (M1 (Zn mu) he hl hu) (by rintro σ H Q ⟨ρ,S,δ,k,R,D,q,hk⟩;exact ⟨ρ,S,δ,_,R,D,q,(by rintro v H1 ⟨ρ1,S1,d,g1,R1,r1,q1⟩;exact ⟨ρ1,S1,δ,_,R1,D.gr g1,q1,(by rintro o H2 ⟨ρ2,S2,g2,R2,q2⟩;exact   ⟨ρ2,S2,δ,_,R2,D.gr (g1.trans g2),q2,(by rintro o2 H3 ⟨ρ3,S3,g3,vz,q3⟩;exact ⟨ρ3,S3,d,k,vz,r1.gr (g2.trans g3),q3,fun w H4 u=>hk w H4 (u.gr ((g1.trans g2).trans g3))⟩)⟩)⟩)⟩)
end
noncomputable abbrev vv:=D->Sl->aY->KS->Prop
noncomputable abbrev zX:=List T->Sl->aY->KS->Prop
noncomputable def liG (K:PySem.W.Frag)(g:vv):TG:=fun v σ H Q=>∃ ρ S δ d k,R3 K ρ S H/\uM K ρ (res ρ H) δ σ/\iM K ρ (res ρ H) d v/\g d δ S k/\∀ σ' H',HD K ρ H k σ' H'->Q σ' H'
noncomputable def a3w (K:PySem.W.Frag)(g:zX):Ph:=fun vs σ H Q=>∃ ρ S δ l k,R3 K ρ S H/\uM K ρ (res ρ H) δ σ/\bI K (res ρ H) l vs/\g l δ S k/\∀ σ' H',HD K ρ H k σ' H'->Q σ' H'
noncomputable def QG (X:Cx)(tg:Expr)(g:vv):Prop:=PG X tg (liG X.K g)
noncomputable def QGs (X:Cx)(tg:List Expr)(g:zX):Prop:=Uz X tg (a3w X.K g)
noncomputable def dD (i:Nat):vv:=fun d δ S k=>k (δ.set i (some d)) S
noncomputable def Uj:zX:=fun l δ S k=>l=[]/\k δ S
noncomputable def Oa (g:vv)(gs:zX):zX:=fun l δ S k=>∃ x r,l=x::r/\g (.t x) δ S fun δ1 S1=>gs r δ1 S1 k
noncomputable def Ui (n:Nat)(gs:zX):vv:=fun d δ S k=>∃ l,d=.tup l/\l.length=n/\gs l δ S k
section
variable {X:Cx}{pos:Pos}{tg e c:Expr}{es:List Expr}{te:cX}{g:vv}{gs:zX}
theorem DY {t t':TG}(h:PG X tg t)(m:∀ v σ H Q,t' v σ H Q->t v σ H Q):PG X tg t':=fun pins s σ H v u Q I r q=>h pins s σ H v u Q I r (m _ _ _ _ q)
theorem Ca {t t':Ph}(h:Uz X es t)(m:∀ v σ H Q,t' v σ H Q->t v σ H Q):Uz X es t':=fun pins s σ H v u Q I r q=>h pins s σ H v u Q I r (m _ _ _ _ q)
theorem qg {i:Nat}{x:Str}(hN:X.N.Nodup)(hi:X.N[i]?=some x:=by rfl)(hx:Loc X.env.scope x:=by first | exact Or.inl rfl | exact Or.inr rfl)(hf:X.fn x=true∨X.env.scope.names.lookup x=some .local:=by first | exact .inl rfl | exact .inr rfl | assumption):QG X (.Name x pos) (dD i) :=
 DY (IL hN hi hx hf) (by rintro v σ H Q ⟨ρ,S,δ,d,k,R,RS,rd,q,hk⟩;exact hk _ _ ⟨ρ,S,δ.set i (some d),.refl,R,RS.set rd i,q⟩)
theorem lF:QGs X [] Uj:=Ca IK (by
 rintro v σ H Q ⟨ρ,S,δ,l,k,R,RS,rl,⟨e,q⟩,hk⟩;subst e;unfold bI at rl;exact⟨rl,hk _ _ ⟨ρ,S,δ,.refl,R,RS,q⟩⟩)
theorem F6 (h1:QG X e g)(h2:QGs X es gs)(hs:(assignEach (e::es) X.env).map (·.2)=assign e X.env::(assignEach es X.env).map (·.2):=by rfl):QGs X (e::es) (Oa g gs) :=
 Ca (DX h1 h2 hs) (by
  rintro v σ H Q ⟨ρ,S,δ,l,k,R,RS,rl,⟨x,r,e,q⟩,hk⟩;subst e;unfold bI at rl;obtain⟨w,wr,e1,e2,e3⟩:=rl;refine⟨w,wr,e1,ρ,S,δ,.t x,_,R,RS,e2,q,(by rintro σ1 H1 ⟨ρ1,S1,δ1,g1,R1,SN,q1⟩;exact ⟨ρ1,S1,δ1,r,k,R1,SN,e3.le g1.le,q1,fun σ2 H2 u=>hk σ2 H2 (u.gr g1)⟩)⟩)
theorem qm {k0 n:Nat}(hc:X.calm=true)(h:QGs X es gs)(hn:(assignEach es X.env).length=n:=by rfl)(hst:(assignEach es X.env).findIdx? (·.1)=none:=by rfl):QG X (.Tuple es k0 pos) (Ui n gs) :=
 DY (M0 hc h hn hst) (by
  rintro v σ H Q ⟨ρ,S,δ,d,k,R,RS,rd,⟨l,e,hl,q⟩,hk⟩;subst e;obtain⟨a,vs,e1,e2,e3⟩:=dX rd;exact⟨a,vs,e1,.of e2,by rw[<- e3.len];exact hl,ρ,S,δ,l,k,R,RS,e3,q,hk⟩)
noncomputable def US:qN:=fun E δ S=>E.nx δ S
noncomputable def uZ (t u:qN):qN:=fun E δ S=>t { E with nx:=fun δ1 S1=>u E δ1 S1 } δ S
noncomputable def Aj (te:cX)(g:vv):qN:=fun E δ S=>te δ S fun d S1=>g d δ S1 E.nx
noncomputable def FJ (te:cX):qN:=fun E δ S=>te δ S fun _ S1=>E.nx δ S1
noncomputable def HY (te:cX):qN:=fun E δ S=>te δ S E.rt
noncomputable def To (c:pX)(t u:qN):qN:=fun E δ S=>c δ S fun b S1=>if b=true then t E δ S1 else u E δ S1
noncomputable def YN:qN:=fun _ _ _=>False
variable {st:Stmt}{rest a b:List Stmt}{t u:qN}{tc:pX}
theorem bh:Lk X [] US:=F8 QD (by rintro D σ H ⟨ρ,S,δ,E,R,RS,q,eu⟩;exact eu.nx _ _ ⟨ρ,S,δ,.refl,R,RS,q⟩)
theorem qs (h1:QS X st t)(h2:Lk X rest u):Lk X (st::rest) (uZ t u):=F8 (MU h1 h2) (by rintro D σ H ⟨ρ,S,δ,E,R,RS,q,eu⟩;exact  ⟨ρ,S,δ,_,R,RS,q,⟨(by rintro σ1 H1 ⟨ρ1,S1,δ1,g1,R1,SN,q1⟩;exact ⟨ρ1,S1,δ1,E,R1,SN,q1,eu.gr g1⟩),eu.rt,eu.bk,eu.ct⟩⟩)
theorem bM (h1:QS X st t):Lk X [st] t:=QC h1
theorem wG {sts:List Stmt}:Lk X sts YN:=F8 J0 (by rintro D σ H ⟨ρ,S,δ,E,R,RS,q,eu⟩;exact q)
theorem cD (he:QE X e te)(hs:swapsWith e none pos.line X.env=pure false:=by rfl):QS X (.Expr e pos) (FJ te):=kr (QF he hs) (by rintro D σ H ⟨ρ,S,δ,E,R,RS,q,eu⟩;exact  ⟨ρ,S,δ,_,R,RS,q,(by rintro v H1 ⟨ρ1,S1,d,g1,R1,r1,q1⟩;exact eu.nx _ _ ⟨ρ1,S1,δ,g1,R1,RS.gr g1,q1⟩)⟩)
theorem az (he:QE X e te):QS X (.Return (some e) pos) (HY te):=kr (VO he) (by rintro D σ H ⟨ρ,S,δ,E,R,RS,q,eu⟩;exact ⟨ρ,S,δ,_,R,RS,q,eu.rt⟩)
theorem bT (hc:QT X c tc)(ha:Lk X a t)(hb:Lk X b u):QS X (.If c a b pos) (To tc t u):=kr (ZM hc ha hb) (by rintro D σ H ⟨ρ,S,δ,E,R,RS,q,eu⟩;exact  ⟨ρ,S,δ,_,R,RS,q,(by
  rintro v H1 ⟨ρ1,S1,g1,R1,q1⟩;cases v with
  | true=>exact⟨ρ1,S1,δ,E,R1,RS.gr g1,q1,eu.gr g1⟩
  | false=>exact⟨ρ1,S1,δ,E,R1,RS.gr g1,q1,eu.gr g1⟩)⟩)
theorem av {i:Nat}{x:Str}{pos':Pos}(hN:X.N.Nodup)(he:QE X e te)(hi:X.N[i]?=some x:=by rfl)(hx:Loc X.env.scope x:=by first | exact Or.inl rfl | exact Or.inr rfl)(hs:swapsWith e (some (.Name x pos')) pos.line X.env=pure false:=by rfl)(hf:X.fn x=true∨X.env.scope.names.lookup x=some .local:=by first | exact .inl rfl | exact .inr rfl | assumption) :
  QS X (.Assign [.Name x pos'] e pos) (Aj te (dD i)):=kr (VN hN hi hx he hs hf) (by rintro D σ H ⟨ρ,S,δ,E,R,RS,q,eu⟩;exact  ⟨ρ,S,δ,_,R,RS,q,(by rintro v H1 ⟨ρ1,S1,d,g1,R1,r1,q1⟩;exact eu.nx _ _ ⟨ρ1,S1,δ.set i (some d),g1,R1,(RS.gr g1).set r1 i,q1⟩)⟩)
theorem BZ (he:QE X e te)(hg:QG X tg g)(hs:swapsWithSole [tg] e pos.line X.env=pure false:=by rfl)(hw:swappedStores [tg] e X.env=pure none:=by rfl)(h1:(assignEach [tg] X.env).map (·.2)=[assign tg X.env]:=by rfl) :
  QS X (.Assign [tg] e pos) (Aj te g):=kr (VS he hg hs hw h1) (by rintro D σ H ⟨ρ,S,δ,E,R,RS,q,eu⟩;exact  ⟨ρ,S,δ,_,R,RS,q,(by rintro v H1 ⟨ρ1,S1,d,g1,R1,r1,q1⟩;exact ⟨ρ1,S1,δ,d,E.nx,R1,RS.gr g1,r1,q1,fun σ2 H2 u=>eu.nx _ _ (u.gr g1)⟩)⟩)
noncomputable def Y5 (i:Nat)(te:cX)(f:Int->Int->Int):qN:=fun E δ S=>∃ a,δ[i]?=some (some (.int a))/\te δ S fun d S1=>∃ b,d=.int b/\E.nx (δ.set i (some (.int (f a b)))) S1
theorem Vz {i:Nat}{x:Str}{op:Operator}{f:Int->Int->Int}{pos':Pos}(hN:X.N.Nodup)(he:QE X e te)(ho:PIp X op (ipI f))(hi:X.N[i]?=some x:=by rfl)(hx:Loc X.env.scope x:=by first | exact Or.inl rfl | exact Or.inr rfl)(hf:X.fn x=true∨X.env.scope.names.lookup x=some .local:=by first | exact .inl rfl | exact .inr rfl | assumption) :
  QS X (.AugAssign (.Name x pos') op e pos) (Y5 i te f):=kr (VR hN hi hx he ho hf) fun D σ H ⟨ρ,S,δ,E,R,RS,⟨a,ea,q⟩,eu⟩=>by
 obtain⟨v,e1,e2⟩:=RS.2 i _ ea;refine⟨v,e1,ρ,S,δ,_,R,RS,q,?_⟩;rintro w H1 ⟨ρ1,S1,d,g1,R1,r1,b,eb,q1⟩;subst eb;exact⟨a,b,aI e2,aI r1,eu.nx _ _ ⟨ρ1,S1,_,g1,R1,(RS.gr g1).set (d:=.int (f a b)) aW i,q1⟩⟩
noncomputable def Y4 (to ti te:cX)(f:Int->Int->Int):qN:=fun E δ S=>to δ S fun o S1=>ti δ S1 fun i S2=>∃ (n j:Nat) (l:List T) (a:Int),o=.ob n/\i=.int (j:Nat)/\S2[n]?=some (.lst l)/\l[j]?=some (.int a) /\
 te δ S2 fun d S3=>∃ b l',d=.int b/\S3[n]?=some (.lst l')/\j < l'.length/\E.nx δ (S3.set n (.lst (l'.set j (.int (f a b)))))
theorem Qt {o i:Expr}{to ti:cX}{op:Operator}{f:Int->Int->Int}{tpos:Pos}(ho:QE X o to)(hi:QE X i ti)(he:QE X e te)(hp:PIp X op (ipI f))
  (ha:∀ ov iv new,augStore i ov iv new=(do holding [new,ov,iv] (setItem ov iv new);release [new,ov,iv] [];pure .next):=by intros;rfl):QS X (.AugAssign (.Subscript o i tpos) op e pos) (Y4 to ti te f) :=
 kr (QJ ho hi N9 he hp set_list ha) fun D σ H ⟨ρ,S,δ,E,R,RS,q,eu⟩=>⟨ρ,S,δ,_,R,RS,q,fun v1 H1 ⟨ρ1,S1,d1,g1,R1,r1,q1⟩=>⟨ρ1,S1,δ,_,R1,RS.gr g1,q1,(by
  rintro v2 H2 ⟨ρ2,S2,d2,g2,R2,r2,n,j,l,a,h1,h2,h3,h4,q2⟩;subst h1 h2;obtain⟨p,hp,e1⟩:=r1.gr g2;obtain⟨vs,e2,e3⟩:=R2.ok n p _ hp h3;obtain⟨w,e4,e5⟩:=e3.get h4;refine⟨p,vs,j,w,e1,aI r2,.of e2,e4,ρ2,S2,δ,_,R2,RS.gr (g1.trans g2),q2,?_⟩;rintro v3 H3 ⟨ρ3,S3,d3,g3,vz,r3,b,l',h5,h6,h7,q3⟩;subst h5;have ew:w=V.int a:=by unfold Rp at e5;exact e5
  refine⟨a,b,ew,aI r3,?_⟩;have hp3:=g3.at hp;obtain⟨us,f1,f2⟩:=vz.ok n p _ hp3 h6;refine⟨p,us,j,j,e1,aI r2,f1,?_,?_⟩
  ·unfold Pd;rw[if_pos (by omega),if_pos (by rw[<- f2.len];omega)];simp
  ·have key:bI X.K (res ρ3 H3) (l'.set j (.int (f a b))) (us.set j (.int (f a b))):=bI.put (by unfold Rp;rfl) f2;obtain⟨R4,g4⟩:=vz.put (o:=.lst (us.set j (.int (f a b)))) (u:=.lst (l'.set j (.int (f a b)))) hp3 ⟨_,rfl,key⟩;exact eu.nx _ _ ⟨ρ3,_,δ,((g1.trans g2).trans g3).trans g4,R4,(RS.gr ((g1.trans g2).trans g3)).gr g4,q3⟩)⟩⟩
end
noncomputable abbrev Li:=Sl->aY->(List D->(aY->Prop)->aY->Prop)->Prop
structure Pj (K:PySem.W.Frag)(J:It)(its:List D)(G:aY->Prop)(ρ0:List Addr)(H0:Hp):Prop where
 go:∀ i ρ S H,Gr ρ0 H0 ρ H->R3 K ρ S H->G S->i < its.length->J.go i H
 FE:∀ i x ρ S H H' d,Gr ρ0 H0 ρ H->R3 K ρ S H->G S->its[i]?=some d->J.FE i H x H'->∃ ρ',Gr ρ H ρ' H'/\R3 K ρ' S H'/\iM K ρ' (res ρ' H') d x
 stop:∀ i ρ S H,Gr ρ0 H0 ρ H->R3 K ρ S H->G S->its.length<=i->i<=its.length->J.stop i H
noncomputable def liI (K:PySem.W.Frag)(w:Li):TI:=fun σ H R=>∃ ρ S δ k,R3 K ρ S H/\uM K ρ (res ρ H) δ σ/\w δ S k/\∀ J H',(∃ ρ' S' its G,Gr ρ H ρ' H'/\R3 K ρ' S' H'/\Pj K J its G ρ' H'/\k its G S')->R J H'
noncomputable def QI (X:Cx)(tg iter:Expr)(w:Li):Prop:=PI X tg iter (liI X.K w)
noncomputable def KY (d:D)(S1:aY)(k:List D->(aY->Prop)->aY->Prop):Prop:=(∃ l,(d=.tup l∨d=.lst l)/\k (l.map .t) (fun _=>True) S1)∨(∃ n l,d=.ob n/\S1[n]?=some (.lst l)/\k (l.map .t) (fun S=>S[n]?=some (.lst l)) S1)
noncomputable def iSq (te:cX):Li:=fun δ S k=>te δ S fun d S1=>KY d S1 k
noncomputable def a3R (t:uL):Li:=fun δ S k=>t δ S fun ds S1=>∃ j:Int,ds=[.int j]/\-(2 ^ 62)<=j/\j < 2 ^ 62/\k ((List.range j.toNat).map fun(i:Nat)=>D.int i) (fun _=>True) S1
section
variable {X:Cx}{tg iter e:Expr}{te:cX}{pos p:Pos}
theorem Ao {t t':TI}(h:PI X tg iter t)(m:∀ σ H R,t' σ H R->t σ H R):PI X tg iter t':=fun pins s σ H R I q=>h pins s σ H R I (m _ _ _ q)
theorem NW {K:PySem.W.Frag}{ρ:List Addr}{H:Hp}{a:Addr}{l:List T}{vs:List V}(h:res ρ H a=some (.lst vs))(r:bI K (res ρ H) l vs):Pj K (Itl K a) (l.map .t) (fun _=>True) ρ H where
 go:=fun i ρ1 S1 H1 g R _ hi=>by
  have e:=(res_some (g.le _ _ h)).2;have hl:i < vs.length:=by rw[<- r.len];simpa using hi
  exact⟨vs,vs[i],.of e,List.getElem?_eq_getElem hl⟩
 FE:=fun i x ρ1 S1 H1 H' d g R _ hd y=>by
  obtain⟨rfl,y⟩:=y;have e:=(res_some (g.le _ _ h)).2;rw[List.getElem?_map] at hd;cases q:l[i]? with
  | none=>rw[q] at hd;cases hd
  | some z =>
   rw[q] at hd;cases hd;obtain⟨v,e1,e2⟩:=r.get q;have:=y vs (.of e);rw[e1] at this;cases this;exact⟨ρ1,.refl,R,e2.le g.le⟩
 stop:=fun i ρ1 S1 H1 g R _ hi _=>by
  have e:=(res_some (g.le _ _ h)).2;exact⟨vs,.of e,by rw[<- r.len];simpa using hi⟩
theorem RW {K:PySem.W.Frag}{ρ:List Addr}{H:Hp}{a:Addr}{l:List T}{vs:List V}(h:res ρ H a=some (.tup vs))(r:bI K (res ρ H) l vs):Pj K (Itt K a) (l.map .t) (fun _=>True) ρ H where
 go:=fun i ρ1 S1 H1 g R _ hi=>by
  have e:=(res_some (g.le _ _ h)).2;have hl:i < vs.length:=by rw[<- r.len];simpa using hi
  exact⟨vs,vs[i],.of e,List.getElem?_eq_getElem hl⟩
 FE:=fun i x ρ1 S1 H1 H' d g R _ hd y=>by
  obtain⟨rfl,y⟩:=y;have e:=(res_some (g.le _ _ h)).2;rw[List.getElem?_map] at hd;cases q:l[i]? with
  | none=>rw[q] at hd;cases hd
  | some z =>
   rw[q] at hd;cases hd;obtain⟨v,e1,e2⟩:=r.get q;have:=y vs (.of e);rw[e1] at this;cases this;exact⟨ρ1,.refl,R,e2.le g.le⟩
 stop:=fun i ρ1 S1 H1 g R _ hi _=>by
  have e:=(res_some (g.le _ _ h)).2;exact⟨vs,.of e,by rw[<- r.len];simpa using hi⟩
theorem WS {K:PySem.W.Frag}{ρ:List Addr}{H:Hp}{n:Nat}{a:Addr}{l:List T}(ha:ρ[n]?=some a):Pj K (Itl K a) (l.map .t) (fun S=>S[n]?=some (.lst l)) ρ H where
 go:=fun i ρ1 S1 H1 g R hS hi=>by
  obtain⟨vs,e,r⟩:=R.ok n a _ (g.at ha) hS;have hl:i < vs.length:=by rw[<- r.len];simpa using hi
  exact⟨vs,vs[i],.of e,List.getElem?_eq_getElem hl⟩
 FE:=fun i x ρ1 S1 H1 H' d g R hS hd y=>by
  obtain⟨rfl,y⟩:=y;obtain⟨vs,e,r⟩:=R.ok n a _ (g.at ha) hS;rw[List.getElem?_map] at hd;cases q:l[i]? with
  | none=>rw[q] at hd;cases hd
  | some z =>
   rw[q] at hd;cases hd;obtain⟨v,e1,e2⟩:=r.get q;have:=y vs (.of e);rw[e1] at this;cases this;exact⟨ρ1,.refl,R,e2⟩
 stop:=fun i ρ1 S1 H1 g R hS hi _=>by
  obtain⟨vs,e,r⟩:=R.ok n a _ (g.at ha) hS;exact⟨vs,.of e,by rw[<- r.len];simpa using hi⟩
theorem qi (he:QE X iter te):QI X tg iter (iSq te):=Ao (VW he) (by rintro σ H Q ⟨ρ,S,δ,k,R,D,q,hk⟩;exact ⟨ρ,S,δ,_,R,D,q,(by
 rintro v H1 ⟨ρ1,S1,d,g1,R1,r1,q1⟩;rcases q1 with ⟨l,rfl | rfl,q1⟩ | ⟨n,l,rfl,h,q1⟩
 ·have r1:Rp _ _ _ _:=r1;unfold Rp at r1;obtain⟨a,vs,e1,e2,e3⟩:=r1;exact⟨a,e1,.inr ⟨⟨vs,.of (res_some e2).2⟩,hk _ _ ⟨ρ1,S1,_,_,g1,R1,RW e2 e3,q1⟩⟩⟩
 ·have r1:Rp _ _ _ _:=r1;unfold Rp at r1;obtain⟨a,vs,e1,e2,e3⟩:=r1;exact⟨a,e1,.inl ⟨⟨vs,.of (res_some e2).2⟩,hk _ _ ⟨ρ1,S1,_,_,g1,R1,NW e2 e3,q1⟩⟩⟩
 ·obtain⟨a,ha,e⟩:=r1;obtain⟨vs,e2,e3⟩:=R1.ok n a _ ha h;exact⟨a,e,.inl ⟨⟨vs,.of e2⟩,hk _ _ ⟨ρ1,S1,_,_,g1,R1,WS ha,q1⟩⟩⟩)⟩)
theorem RY {K:PySem.W.Frag}{ρ:List Addr}{H:Hp}{n:Nat}:Pj K (Itr 0 n) ((List.range n).map fun(i:Nat)=>D.int i) (fun _=>True) ρ H where
 go:=fun i ρ1 S1 H1 g R _ hi=>by show i < n;simpa using hi
 FE:=fun i x ρ1 S1 H1 H' d g R _ hd y=>by
  obtain⟨rfl,y⟩:=y;rw[List.getElem?_map] at hd;cases q:(List.range n)[i]? with
  | none=>rw[q] at hd;cases hd
  | some z =>
   rw[q] at hd;cases hd;have:=List.getElem?_range (n:=n) (i:=i) (by have:=(List.getElem?_eq_some_iff.mp q).1;simpa using this);rw[this] at q;cases q;subst y;refine⟨ρ1,.refl,R,?_⟩;show Rp _ _ _ _;unfold Rp;rw[Int.zero_add]
 stop:=fun i ρ1 S1 H1 g R _ hi _=>by show n<=i;simpa using hi
theorem uq {a:Expr}{t:uL}(hg:Gl X "range")(hm:X.mg "range"=none)(ha:QA X [a] t)(hs:starEach [a] X.env=[(false,eval a X.env)]:=by rfl):QI X tg (.Call (.Name "range" p) [a] [] pos) (a3R t) :=
 Ao (J2 hg hm ha hs) (by rintro σ H Q ⟨ρ,S,δ,k,R,D,q,hk⟩;exact ⟨ρ,S,δ,_,R,D,q,(by
  rintro v H1 ⟨ρ1,S1,d,g1,R1,r1,j,e,h1,h2,q1⟩;subst e;obtain⟨w,rfl,rw'⟩:=r1.one;rw[aI rw'];exact⟨j,rfl,h1,h2,hk _ _ ⟨ρ1,S1,_,_,g1,R1,RY,q1⟩⟩)⟩)
noncomputable def zT (G:aY->Prop)(g:vv)(tb:qN):List D->qN
 | []=>fun E δ S=>G S/\E.nx δ S
 | x::r=>fun E δ S=>G S/\g x δ S fun δ1 S1=>tb { E with nx:=zT G g tb r E,ct:=zT G g tb r E,bk:=E.nx } δ1 S1
noncomputable def YT (w:Li)(g:vv)(tb:qN):qN:=fun E δ S=>w δ S fun its G S1=>zT G g tb its E δ S1
variable {g:vv}{tb:qN}{body:List Stmt}
theorem iV {w:Li}(hp:PassesOwn (model X.prog X.w) X.A X.env X.xe)(hc:X.calm=true)(hi:QI X tg iter w)(hg:QG X tg g)(hb:Lk X body tb)(hs:∀ x,foldedSetIterable iter X.env x=pure x:=by intro _;rfl) :
  QS X (.For tg iter body [] pos) (YT w g tb):=kr (VP hp hc hi hg hb hs) fun D σ H ⟨ρ,S,δ,E,R,RS,q,eu⟩=>⟨ρ,S,δ,_,R,RS,q,fun J H1 ⟨ρ1,S1,its,G,g1,R1,jo,q1⟩=>by
 refine⟨fun i m σ' H'=>m=its.length - i/\i<=its.length/\∃ ρ' S' δ',Gr ρ1 H1 ρ' H'/\R3 X.K ρ' S' H'/\uM X.K ρ' (res ρ' H') δ' σ'/\zT G g tb (its.drop i) E δ' S',⟨its.length,by simp,Nat.zero_le _,ρ1,S1,δ,.refl,R1,RS.gr g1,q1⟩,?_⟩;rintro i m σ' H' ⟨rfl,hi,ρ',S',δ',g',R',RS',q'⟩;by_cases hlt:i < its.length
 ·rw[List.drop_eq_getElem_cons hlt] at q';obtain⟨hG,q'⟩:=q';refine .inr ⟨jo.go i ρ' S' H' g' R' hG hlt,_,fun σ2 H2 z=>z,fun x H2 y=>?_⟩;obtain⟨ρ2,g2,R2,r2⟩:=jo.FE i x ρ' S' H' H2 its[i] g' R' hG (List.getElem?_eq_getElem hlt) y;refine⟨ρ2,S',δ',its[i],_,R2,RS'.gr g2,r2,q',fun σ3 H3 ⟨ρ3,S3,δ3,g3,vz,Yp,q3⟩=>⟨ρ3,S3,δ3,_,vz,Yp,q3,?_⟩⟩;have gg:=((g1.trans g').trans g2).trans g3;have fwd:∀ σ4 H4,HD X.K ρ3 H3 (zT G g tb (its.drop (i+1)) E) σ4 H4->∃ m',m' < its.length - i/\(m'=its.length - (i+1)/\i+1<=its.length/\∃ ρ' S' δ',Gr ρ1 H1 ρ' H4/\R3 X.K ρ' S' H4/\uM X.K ρ' (res ρ' H4) δ' σ4/\zT G g tb (its.drop (i+1)) E δ' S') :=
   (by rintro σ4 H4 ⟨ρ4,S4,δ4,g4,R4,RS4,q4⟩;exact ⟨its.length - (i+1),by omega,rfl,hlt,ρ4,S4,δ4,((g'.trans g2).trans g3).trans g4,R4,RS4,q4⟩)
  exact⟨fwd,fun v H4 u=>eu.rt v H4 (u.gr gg),fun σ4 H4 u=>eu.nx σ4 H4 (u.gr gg),fwd⟩
 ·have e:its.drop i=[]:=List.drop_eq_nil_of_le (by omega);rw[e] at q';exact .inl ⟨jo.stop i ρ' S' H' g' R' q'.1 (by omega) (by omega),eu.nx _ _ ⟨ρ',S',δ',g1.trans g',R',RS',q'.2⟩⟩⟩
end
noncomputable def SmS (own:Nat)(σ σ':St):Prop:=σ'.length=σ.length/\∀ i:Nat,own<=i->σ'[i]?=σ[i]?
noncomputable def WH (K:PySem.W.Frag)(own:Nat)(g:vv):TG:=fun v σ H Q=>∃ ρ S δ d k,R3 K ρ S H/\uM K ρ (res ρ H) δ σ/\iM K ρ (res ρ H) d v/\g d δ S k/\∀ σ' H',HD K ρ H k σ' H'->SmS own σ σ'->Q σ' H'
noncomputable def a3t (K:PySem.W.Frag)(own:Nat)(g:zX):Ph:=fun vs σ H Q=>∃ ρ S δ l k,R3 K ρ S H/\uM K ρ (res ρ H) δ σ/\bI K (res ρ H) l vs/\g l δ S k/\∀ σ' H',HD K ρ H k σ' H'->SmS own σ σ'->Q σ' H'
noncomputable def QX (X:Cx)(own:Nat)(tg:Expr)(g:vv):Prop:=PG X tg (WH X.K own g)
noncomputable def QXs (X:Cx)(own:Nat)(tg:List Expr)(g:zX):Prop:=Uz X tg (a3t X.K own g)
section
variable {X:Cx}{pos:Pos}{tg e:Expr}{es:List Expr}{g:vv}{gs:zX}{own:Nat}
theorem qx {i:Nat}{x:Str}(hN:X.N.Nodup)(hi:X.N[i]?=some x:=by rfl)(ho:i < own:=by decide)(hx:Loc X.env.scope x:=by first | exact Or.inl rfl | exact Or.inr rfl)(hf:X.fn x=true∨X.env.scope.names.lookup x=some .local:=by first | exact .inl rfl | exact .inr rfl | assumption):QX X own (.Name x pos) (dD i) :=
 DY (IL hN hi hx hf) fun v σ H Q ⟨ρ,S,δ,d,k,R,RS,rd,q,hk⟩=>hk _ _ ⟨ρ,S,δ.set i (some d),.refl,R,RS.set rd i,q⟩ ⟨by simp,fun j hj=>List.getElem?_set_ne (by omega)⟩
theorem Qp:QXs X own [] Uj:=Ca IK (by
 rintro v σ H Q ⟨ρ,S,δ,l,k,R,RS,rl,⟨e,q⟩,hk⟩;subst e;unfold bI at rl;exact⟨rl,hk _ _ ⟨ρ,S,δ,.refl,R,RS,q⟩ ⟨rfl,fun _ _=>rfl⟩⟩)
theorem qxs (h1:QX X own e g)(h2:QXs X own es gs)(hs:(assignEach (e::es) X.env).map (·.2)=assign e X.env::(assignEach es X.env).map (·.2):=by rfl):QXs X own (e::es) (Oa g gs) :=
 Ca (DX h1 h2 hs) (by
  rintro v σ H Q ⟨ρ,S,δ,l,k,R,RS,rl,⟨x,r,e,q⟩,hk⟩;subst e;unfold bI at rl;obtain⟨w,wr,e1,e2,e3⟩:=rl;refine⟨w,wr,e1,ρ,S,δ,.t x,_,R,RS,e2,q,fun σ1 H1 ⟨ρ1,S1,δ1,g1,R1,SN,q1⟩ m1=>⟨ρ1,S1,δ1,r,k,R1,SN,e3.le g1.le,q1,fun σ2 H2 u m2=>hk σ2 H2 (u.gr g1) ⟨m2.1.trans m1.1,fun i hi=>(m2.2 i hi).trans (m1.2 i hi)⟩⟩⟩)
theorem Vx {k0 n:Nat}(hc:X.calm=true)(h:QXs X own es gs)(hn:(assignEach es X.env).length=n:=by rfl)(hst:(assignEach es X.env).findIdx? (·.1)=none:=by rfl):QX X own (.Tuple es k0 pos) (Ui n gs) :=
 DY (M0 hc h hn hst) (by
  rintro v σ H Q ⟨ρ,S,δ,d,k,R,RS,rd,⟨l,e,hl,q⟩,hk⟩;subst e;obtain⟨a,vs,e1,e2,e3⟩:=dX rd;exact⟨a,vs,e1,.of e2,by rw[<- e3.len];exact hl,ρ,S,δ,l,k,R,RS,e3,q,hk⟩)
end
noncomputable def st3 (own:Nat)(fr:List Nat)(δ:Sl):Sl:=List.replicate own none++fr.map fun j=>(δ[j]?).join
noncomputable def eU (G:aY->Prop)(g:vv)(tt:pX)(te:cX)(δ0:Sl):List D->aY->List T->(List T->aY->Prop)->Prop
 | [],S,ys,k=>G S/\k ys S
 | x::r,S,ys,k=>G S/\g x δ0 S fun δ1 S1=>tt δ1 S1 fun b S2=>if b=true then te δ1 S2 fun d S3=>∃ y,d=.t y/\ys.length < sizeLine/\eU G g tt te δ0 r S3 (ys++[y]) k else eU G g tt te δ0 r S2 ys k
noncomputable def FN (own:Nat)(fr:List Nat)(w:Li)(g:vv)(tt:pX)(te:cX):cX:=fun δ S k=>w δ S fun its G S1=>eU G g tt te (st3 own fr δ) its S1 [] fun ys S2=>k (.lst ys) S2
noncomputable def L1 (own:Nat)(fr:List Nat)(w:Li)(g:vv)(tt:pX)(te:cX):cX:=fun δ S k=>w δ S fun its G S1=>eU G g tt te (st3 own fr δ) its S1 [] fun ys S2=>k (.ob S2.length) (S2++[.lst ys])
noncomputable def QTs (X:Cx)(cs:List Expr)(t:pX):Prop:=Yq X cs (Pa X.K t)
noncomputable def Y7:pX:=fun _ S k=>k true S
theorem uM.A9 {K:PySem.W.Frag}{ρ:List Addr}{G:Hp}{δ:Sl}{σ:St}(r:uM K ρ G δ σ)(own:Nat)(fr:List Nat):uM K ρ G (st3 own fr δ) (A9 own fr σ):=by
 refine⟨by unfold st3 L2.A9;simp,fun i d h=>?_⟩;unfold st3 at h;unfold L2.A9;by_cases hi:i < own
 ·rw[List.getElem?_append_left (by simpa using hi),List.getElem?_replicate,if_pos hi] at h;cases h
 ·rw[List.getElem?_append_right (by simpa using hi),List.length_replicate,List.getElem?_map] at h ⊢;cases e:fr[i - own]? with
  | none=>rw[e] at h;cases h
  | some j =>
   rw[e] at h;have h:(δ[j]?).join=some d:=Option.some.inj h;have h2:δ[j]?=some (some d):=by
    cases q:δ[j]? with
    | none=>rw[q] at h;cases h
    | some o=>rw[q] at h;exact congrArg some h
   obtain⟨v,e1,e2⟩:=r.2 j d h2;exact⟨v,by show some ((σ[j]?).join)=some (some v);rw[e1];rfl,e2⟩
theorem Me {own:Nat}{fr:List Nat}{σ σ':St}(h:SmS own (A9 own fr σ) σ'):Ext (A9 own fr σ) σ':=by
 refine⟨h.1,fun i v e=>?_⟩;by_cases hi:i < own
 ·unfold L2.A9 at e;rw[List.getElem?_append_left (by simpa using hi),List.getElem?_replicate,if_pos hi] at e;cases e
 ·rw[h.2 i (by omega)];exact e
section
variable {X:Cx}{sc:Scope}{cl:List (Str×Addr)}{own:Nat}{N:List Str}{fr:List Nat}{elt tg iter:Expr}{cs:List Expr}{pos spos py:Pos}{w:Li}{g:vv}{tt:pX}{te:cX}
theorem cI:QTs X [] Y7:=(by rintro pins s σ H Q I ⟨ρ,S,δ,k,R,D,q,hk⟩;exact Qz pins s σ H Q I (hk _ _ ⟨ρ,S,.refl,R,q⟩))
theorem wF {c:Expr}{t:pX}(hc:QT X c t):QTs X [c] t:=Qy hc
theorem Te {σ:St}{H1:Hp}{ρ1:List Addr}{S1:aY}{δ:Sl}{J:It}{its:List D}{G:aY->Prop}{k:List T->aY->Prop}{R:List V->Hp->Prop}(RS:uM X.K ρ1 (res ρ1 H1) δ σ)(R1:R3 X.K ρ1 S1 H1)(jo:Pj X.K J its G ρ1 H1)
  (q:eU G g tt te (st3 own fr δ) its S1 [] k) (hR:∀ ρ2 S2 H2 ys l,Gr ρ1 H1 ρ2 H2->R3 X.K ρ2 S2 H2->bI X.K (res ρ2 H2) l ys->k l S2->R ys H2) :
  ∃ W:Nat->Nat->List V->Hp->Prop,(∃ m,W 0 m [] H1)/\OJ J (WH X.K own g) (Pa X.K tt) (li X.K te) (A9 own fr σ) W R:=by
 refine⟨fun i m ys H'=>m=its.length - i/\i<=its.length/\∃ ρ' S' l,Gr ρ1 H1 ρ' H'/\R3 X.K ρ' S' H'/\bI X.K (res ρ' H') l ys/\eU G g tt te (st3 own fr δ) (its.drop i) S' l k,⟨its.length,by simp,Nat.zero_le _,ρ1,S1,[],.refl,R1,.nil,q⟩,?_⟩;rintro i m ys H' ⟨rfl,hi,ρ',S',l,g',R',rl,q'⟩;by_cases hlt:i < its.length
 ·rw[List.drop_eq_getElem_cons hlt] at q';obtain⟨hG,q'⟩:=q';refine .inr ⟨jo.go i ρ' S' H' g' R' hG hlt,fun ys' H2=>∃ ρ2 S2 l2,Gr ρ1 H1 ρ2 H2/\R3 X.K ρ2 S2 H2/\bI X.K (res ρ2 H2) l2 ys'/\eU G g tt te (st3 own fr δ) (its.drop (i+1)) S2 l2 k,fun ys' H2 z=>⟨its.length - (i+1),by omega,rfl,hlt,z⟩,fun x H2 y=>?_⟩;obtain⟨ρ2,g2,R2,r2⟩:=jo.FE i x ρ' S' H' H2 its[i] g' R' hG (List.getElem?_eq_getElem hlt) y;refine⟨ρ2,S',st3 own fr δ,its[i],_,R2,(RS.gr (g'.trans g2)).A9 own fr,r2,q',fun σ3 H3 ⟨ρ3,S3,δ3,g3,vz,Yp,q3⟩ sm=>⟨Me sm,ρ3,S3,δ3,_,vz,Yp,q3,?_⟩⟩;rintro b H4 ⟨ρ4,S4,g4,R4,q4⟩;cases b with
  | false=>exact⟨ρ4,S4,l,(((g'.trans g2).trans g3).trans g4),R4,rl.le ((g2.trans g3).trans g4).le,q4⟩
  | true =>
   refine⟨ρ4,S4,δ3,_,R4,Yp.gr g4,q4,?_⟩;rintro v H5 ⟨ρ5,S5,d,g5,R5,r5,z,hz,hl,q5⟩;subst hz;have gg:=((g2.trans g3).trans g4).trans g5;exact⟨by rw[<- rl.len];exact hl,ρ5,S5,l++[z],g'.trans gg,R5,(rl.le gg.le).app (.cons r5 .nil),q5⟩
 ·have e:its.drop i=[]:=List.drop_eq_nil_of_le (by omega);rw[e] at q';exact .inl ⟨jo.stop i ρ' S' H' g' R' q'.1 (by omega) (by omega),hR ρ' S' H' ys l g' R' rl q'.2⟩
theorem AE:∀ σ H Q,li X.K (FN own fr w g tt te) σ H Q->HZ own fr (liI X.K w) (WH X.K own g) (Pa X.K tt) (li X.K te) σ H Q:=(by rintro σ H Q ⟨ρ,S,δ,k,R,D,q,hk⟩;exact  ⟨ρ,S,δ,_,R,D,q,(by rintro J H1 ⟨ρ1,S1,its,G,g1,R1,jo,q1⟩;exact Te (D.gr g1) R1 jo q1 fun ρ2 S2 H2 ys l g2 R2 rl q2=>Ex R2 (fun v H' u=>hk v H' (u.gr (g1.trans g2))) rl q2)⟩)
theorem G1:∀ σ H Q,li X.K (L1 own fr w g tt te) σ H Q->HZ own fr (liI X.K w) (WH X.K own g) (Pa X.K tt) (li X.K te) σ H Q:=(by rintro σ H Q ⟨ρ,S,δ,k,R,D,q,hk⟩;exact  ⟨ρ,S,δ,_,R,D,q,(by rintro J H1 ⟨ρ1,S1,its,G,g1,R1,jo,q1⟩;exact Te (D.gr g1) R1 jo q1 fun ρ2 S2 H2 ys l g2 R2 rl q2=>Og R2 (fun v H' u=>hk v H' (u.gr (g1.trans g2))) rl q2)⟩)
theorem dg (S:nV X sc cl own N fr)(hc:X.calm=true)(hi:QI X tg iter w)(hg:∀ C s H fp,QX (s9 X sc N cl C s H fp) own tg g)
  (ht:∀ C s H fp,QTs (s9 X sc N cl C s H fp) cs tt) (he:∀ C s H fp,QE (s9 X sc N cl C s H fp) elt te) (hs:∀ x,foldedSetIterable iter X.env x=pure x:=by intro _;rfl) :
  QE X (.ListComp elt [⟨tg,iter,cs,0⟩] sc pos) (FN own fr w g tt te):=cL (Q0 (g:=WH X.K own g) (tt:=Pa X.K tt) (te:=li X.K te) S hc hi hg ht he hs) AE
theorem Qq {i:Nat}{y:Str}(hN:X.N.Nodup)(S:nV X sc cl own N fr)(hc:X.calm=true)(hi:QI X tg iter w)(hg:∀ C s H fp,QX (s9 X sc N cl C s H fp) own tg g)
  (ht:∀ C s H fp,QTs (s9 X sc N cl C s H fp) cs tt) (he:∀ C s H fp,QE (s9 X sc N cl C s H fp) elt te) (hiy:X.N[i]?=some y:=by rfl) (hy:Loc X.env.scope y:=by first | exact Or.inl rfl | exact Or.inr rfl)
  (hsw:swapsWith (.ListComp elt [⟨tg,iter,cs,0⟩] sc pos) (some (.Name y py)) spos.line X.env=pure true:=by rfl) (hs:∀ x,foldedSetIterable iter X.env x=pure x:=by intro _;rfl)
  (hf:X.fn y=true∨X.env.scope.names.lookup y=some .local:=by first | exact .inl rfl | exact .inr rfl | assumption) :
  QS X (.Assign [.Name y py] (.ListComp elt [⟨tg,iter,cs,0⟩] sc pos) spos) (Aj (FN own fr w g tt te) (dD i)) :=
 kr (IJ (g:=WH X.K own g) (tt:=Pa X.K tt) (te:=li X.K te) hN hiy hy S hc hi hg ht he hsw hs hf) (by rintro D σ H ⟨ρ,S,δ,E,R,RS,q,eu⟩;exact AE _ _ _ ⟨ρ,S,δ,_,R,RS,q,(by rintro v H1 ⟨ρ1,S1,d,g1,R1,r1,q1⟩;exact eu.nx _ _ ⟨ρ1,S1,δ.set i (some d),g1,R1,(RS.gr g1).set r1 i,q1⟩)⟩)
theorem DR {i:Nat}{y:Str}(hN:X.N.Nodup)(S:nV X sc cl own N fr)(hc:X.calm=true)(hi:QI X tg iter w)(hg:∀ C s H fp,QX (s9 X sc N cl C s H fp) own tg g)
  (ht:∀ C s H fp,QTs (s9 X sc N cl C s H fp) cs tt) (he:∀ C s H fp,QE (s9 X sc N cl C s H fp) elt te) (hiy:X.N[i]?=some y:=by rfl) (hy:Loc X.env.scope y:=by first | exact Or.inl rfl | exact Or.inr rfl)
  (hsw:swapsWith (.ListComp elt [⟨tg,iter,cs,0⟩] sc pos) (some (.Name y py)) spos.line X.env=pure true:=by rfl) (hs:∀ x,foldedSetIterable iter X.env x=pure x:=by intro _;rfl)
  (hf:X.fn y=true∨X.env.scope.names.lookup y=some .local:=by first | exact .inl rfl | exact .inr rfl | assumption) :
  QS X (.Assign [.Name y py] (.ListComp elt [⟨tg,iter,cs,0⟩] sc pos) spos) (Aj (L1 own fr w g tt te) (dD i)) :=
 kr (IJ (g:=WH X.K own g) (tt:=Pa X.K tt) (te:=li X.K te) hN hiy hy S hc hi hg ht he hsw hs hf) (by rintro D σ H ⟨ρ,S,δ,E,R,RS,q,eu⟩;exact G1 _ _ _ ⟨ρ,S,δ,_,R,RS,q,(by rintro v H1 ⟨ρ1,S1,d,g1,R1,r1,q1⟩;exact eu.nx _ _ ⟨ρ1,S1,δ.set i (some d),g1,R1,(RS.gr g1).set r1 i,q1⟩)⟩)
end
noncomputable def closes (L:Nat)(d:D)(S':aY)(k:KD):Prop :=
 (∃ S0 S1,S'=S0++S1/\S0.length=L/\(∀ o∈S0,ES L o)/\Yi L d/\k d S0) ∨
 (∃ m o S0 S1,d=.ob m/\L<=m/\S'=S0++S1/\S0.length=L/\(∀ o∈S0,ES L o)/\S'[m]?=some o/\ES L o/\k (.ob L) (S0++[o])) ∨
 (∃ m l S0 S1,d=.ob m/\L<=m/\S'=S0++S1/\S0.length=L/\(∀ o∈S0,ES L o)/\S'[m]?=some (.lst l)/\k (.lst l) S0)∨k d S'
noncomputable def uc (N:List Str)(ds:List D):Sl:=ds.map some++List.replicate (N.length - ds.length) none
theorem uM.start {K:PySem.W.Frag}{ρ:List Addr}{G:Hp}{ds:List D}{vs:List V}(r:eN K ρ G ds vs)(N:List Str):uM K ρ G (uc N ds) (start N vs):=by
 have hl:ds.length=vs.length:=eN.len r;refine⟨by unfold uc L2.start;simp[hl],fun i d h=>?_⟩;unfold uc at h;unfold L2.start;by_cases hi:i < ds.length
 ·rw[List.getElem?_append_left (by simpa using hi),List.getElem?_map] at h;rw[List.getElem?_append_left (by simpa [<- hl] using hi),List.getElem?_map];cases e:ds[i]? with
  | none=>rw[e] at h;cases h
  | some x =>
   rw[e] at h;cases h;have gt:∀ {l:List D} {m:List V} {i:Nat} {x:D},Paired (iM K ρ G) l m->l[i]?=some x->∃ v,m[i]?=some v/\iM K ρ G x v:=by
    intro l m i x r
    induction r generalizing i with
    | nil=>intro e;simp at e
    | cons a t ih =>
     intro e;cases i with
     | zero=>simp at e;subst e;exact⟨_,rfl,a⟩
     | succ i=>obtain⟨v,h1,h2⟩:=ih (i:=i) (by simpa using e);exact⟨v,by simpa using h1,h2⟩
   obtain⟨v,h1,h2⟩:=gt r e;exact⟨v,by rw[h1];rfl,h2⟩
 ·rw[List.getElem?_append_right (by simpa using hi),List.getElem?_replicate] at h;split at h <;> cases h
theorem EN {K:PySem.W.Frag}{ρ:List Addr}{S:aY}{H:Hp}{k:KD}{v:V}{H':Hp}(R:R3 K ρ S H)(h:up K ρ H (fun d S'=>closes S.length d S' k) v H'):up K ρ H k v H':=by
 obtain⟨ρ',S',d,g,R',r,c⟩:=h;obtain⟨ex,hex⟩:=g.ext;subst hex;rcases c with ⟨S0,S1,rfl,hl,hc,hd,q⟩ | ⟨m,o,S0,S1,rfl,hm,rfl,hl,hc,ho,hco,q⟩ | ⟨m,l,S0,S1,rfl,hm,rfl,hl,hc,ho,q⟩ | q
 ·refine⟨ρ,S0,d,⟨⟨[],by simp⟩,g.le.trans lD⟩,R'.pop (by rw[R.len,hl]) (by rw[hl];exact hc),r.pop lD (by rw[R.len];exact hd),q⟩
 ·obtain⟨a,ha,rfl⟩:=r;have hρ:ρ.length=S0.length:=by rw[R.len,hl]
  have R0:R3 K ρ S0 H':=R'.pop hρ (by rw[hl];exact hc);have na:a ∉ ρ:=fun z=>by
   obtain⟨n,hn⟩:=List.mem_iff_getElem?.mp z;have l1:=(List.getElem?_eq_some_iff.mp hn).1;have:=om R'.nd (by rw[List.getElem?_append_left l1];exact hn) ha;have:=R.len;omega
  have le:Le (res (ρ++ex) H') (res (ρ++[a]) H'):=fun b o h=>by
   obtain⟨h1,h2⟩:=res_some h;refine mK (fun z=>h1 ?_) h2;rcases List.mem_append.mp z with z | z
   ·exact List.mem_append_left _ z
   ·rw[List.mem_singleton.mp z];exact List.mem_of_getElem? ha
  have pre:∀ (n:Nat) (b:Addr),ρ[n]?=some b->(ρ++[a])[n]?=some b:=fun n b e=>by
   rw[List.getElem?_append_left (List.getElem?_eq_some_iff.mp e).1];exact e
  refine⟨ρ++[a],S0++[o],.ob S.length,⟨⟨[a],rfl⟩,g.le.trans le⟩,⟨by simp[hρ],?_,fun n b u e1 e2=>?_⟩,⟨a,by rw[<- R.len];simp,rfl⟩,q⟩
  ·rw[List.nodup_append];refine⟨R0.nd,by simp,fun x hx y hy=>?_⟩;rw[List.mem_singleton.mp hy];exact fun z=>na (z ▸ hx)
  ·by_cases hn:n < ρ.length
   ·rw[List.getElem?_append_left hn] at e1;have hn2:n < S0.length:=by omega
    rw[List.getElem?_append_left hn2] at e2;have q0:=R'.ok n b u (by rw[List.getElem?_append_left hn];exact e1) (by rw[List.getElem?_append_left hn2];exact e2);exact(q0.pop le (by rw[R.len];exact hc u (List.mem_of_getElem? e2))).le' pre (Le.refl _)
   ·have l1:=(List.getElem?_eq_some_iff.mp e1).1;rw[List.length_append,List.length_singleton] at l1;have hn':n=ρ.length:=by omega
    subst hn';rw[List.getElem?_append_right (Nat.le_refl _),Nat.sub_self] at e1;rw[List.getElem?_append_right (by omega),hρ,Nat.sub_self] at e2;cases e1;cases e2;exact((R'.ok m a o ha ho).pop le (by rw[R.len];exact hco)).le' pre (Le.refl _)
 ·obtain⟨a,ha,rfl⟩:=r;have hρ:ρ.length=S0.length:=by rw[R.len,hl]
  have na:a ∉ ρ:=fun z=>by
   obtain⟨n,hn⟩:=List.mem_iff_getElem?.mp z;have l1:=(List.getElem?_eq_some_iff.mp hn).1;have:=om R'.nd (by rw[List.getElem?_append_left l1];exact hn) ha;have:=R.len;omega
  obtain⟨vs,h1,h2⟩:=R'.ok m a _ ha ho;refine⟨ρ,S0,.lst l,⟨⟨[],by simp⟩,g.le.trans lD⟩,R'.pop hρ (by rw[hl];exact hc),?_,q⟩;show Rp _ _ _ _;unfold Rp;exact⟨a,vs,rfl,mK na h1,h2.le lD⟩
 ·exact⟨_,S',d,g,R',r,q⟩
noncomputable def endsF (S:aY)(k:KD):tN:={ nx:=fun _ S'=>closes S.length .dO S' k,rt:=fun d S'=>closes S.length d S' k }
theorem Ss {S S1:aY}{x:T}{k:KD}(c:∀ o∈S,ES S.length o)(h:k (.t x) S):closes S.length (.t x) (S++S1) k:=.inl ⟨S,S1,rfl,rfl,c,trivial,h⟩
theorem cF {S:aY}{x:T}{k:KD}(c:∀ o∈S,ES S.length o)(h:k (.t x) S):closes S.length (.t x) S k:=.inr (.inr (.inr h))
theorem a1A {S S1:aY}{j:Nat}{l:List T}{k:KD}(c:∀ o∈S,ES S.length o)(e:S1[j]?=some (.lst l))(h:k (.lst l) S):closes S.length (.ob (S.length+j)) (S++S1) k :=
 .inr (.inr (.inl ⟨_,l,S,S1,rfl,by omega,rfl,rfl,c,by rw[List.getElem?_append_right (by omega),Nat.add_sub_cancel_left];exact e,h⟩))
theorem oq {S S1:aY}{j:Nat}:(S++S1)[S.length+j]?=S1[j]?:=by rw[List.getElem?_append_right (by omega),Nat.add_sub_cancel_left]
theorem fH {S S1:aY}{j:Nat}{o:O}:(S++S1).set (S.length+j) o=S++S1.set j o:=by rw[List.set_append_right _ _ (by omega),Nat.add_sub_cancel_left]
noncomputable def Cl (S:aY):Prop:=∀ o∈S,ES S.length o
section
variable {P:Program}{w:World}{K:PySem.W.Frag}{mg:Str->Option Value}{base:Heap}
theorem CD {x qual:Str}{st:Stmt}{f:Addr}{fd:FuncData}{N ps:List Str}{k:Nat}{sp:c6}(F:cj K x qual st f fd)(S:au N ps (ai st))(len:∀ ds S k,sp ds S k->ds.length=ps.length)
  (hb:∀ (cdv:Value) (A:Around) (outer:List Env) (s:Shared) (H:Hp) (E:XK),c7 k (A.deeper (PyProof.Rows.envOfC qual (ai st) s.heap.objs.size f cdv)) ->
   ∃ t,Lk (EJ cG P w K mg base N qual (ai st) f cdv A outer s H E).XR (ao st) t/\∀ ds S kk,Cl S->(∀ d∈ds,Yi S.length d)->sp ds S kk->t (endsF S kk) (uc N ds) S):aN P w K mg base cG (k+1) f fd ps (br K sp):=by
 refine F.ok S (fun vs H Q E ⟨ρ,S,ds,kk,R,rd,q,_⟩=>by rw[<- eN.len rd];exact len ds S kk q) ?_;rintro cdv A outer s H vs Q E hr ⟨ρ,S,ds,kk,R,rd,q,hk⟩;obtain⟨t,h1,h2⟩:=hb cdv A outer s H E hr;refine⟨_,h1,ρ,S,uc N ds,endsF S kk,R,uM.start rd N,h2 ds S kk R.cl (fun d hd=>?_) q,?_⟩
 ·obtain⟨v,z⟩:=mR rd d hd;rw[<- R.len];exact z.cl
 ·refine⟨(by rintro σ H' ⟨ρ',S',δ',g',R',RS',q'⟩;exact hk _ _ (EN R ⟨ρ',S',.dO,g',R',aW,q'⟩)),fun v H' u=>hk _ _ (EN R u),(by rintro σ H' ⟨_,_,_,_,_,_,z⟩;exact z),(by rintro σ H' ⟨_,_,_,_,_,_,z⟩;exact z)⟩
end
end L3
namespace PySem
open L2
section
variable {m:Nat}{ow:Array (Option Nat)}
end
end PySem
namespace PySem
open L2
section
variable {prog:Program}{w:World}{A:Around}{E:Value->Shared->Prop}{s:Shared}
end
end PySem
namespace L2
open PySem PySem.Spec PyProof.Rows Hw
section
variable {X:Cx}
end
end L2
namespace L3
open PySem L2 Hw
noncomputable def KR:D->Option Key
 | .t (.v (.str x))=>some (Sum.inr x)
 | .t (.v (.int i))=>some (Sum.inl i)
 | _=>none
noncomputable def iu (l:List (Key×T))(k:Key):Option T:=(l.find? fun p=>decide (p.1=k)).map (·.2)
noncomputable def dput (l:List (Key×T))(k:Key)(v:T):List (Key×T):=if (l.any fun p=>decide (p.1=k))=true then l.map (fun p=>if p.1=k then (p.1,v) else p) else l++[(k,v)]
noncomputable abbrev Uy (K:PySem.W.Frag)(G:Hp):List (Key×T)->List (Key×V)->Prop:=Paired fun p q=>p.1=q.1/\Rp K G p.2 q.2
section
variable {K:PySem.W.Frag}{G:Hp}
theorem sG {ρ:List Addr}{d:D}{v:V}{k:Key}(r:iM K ρ G d v)(h:KR d=some k):v=kV k:=by
 unfold KR at h;split at h
 ·cases h;exact aI r
 ·cases h;exact aI r
 ·cases h
theorem sX {l:List (Key×T)}{kvs:List (Key×V)}(r:Uy K G l kvs)(k:Key):(∀ x,iu l k=some x->∃ v,rB kvs k=some v/\Rp K G x v)/\(iu l k=none->rB kvs k=none):=by
 induction r with
 | nil=>exact⟨(fun x h=>nomatch h),fun _=>rfl⟩
 | @cons p q ps qs h t ih =>
  by_cases e:p.1=k
  ·have e':q.1=k:=h.1 ▸ e;have a:iu (p::ps) k=some p.2:=by unfold iu;simp[List.find?_cons,e]
   rw[a,rq e'];exact⟨fun x z=>by cases z;exact⟨_,rfl,h.2⟩,fun z=>nomatch z⟩
  ·have e':¬ q.1=k:=fun z=>e (h.1.trans z);have a:iu (p::ps) k=iu ps k:=by unfold iu;simp[List.find?_cons,e]
   rw[a,rA e'];exact ih
theorem SH {l:List (Key×T)}{kvs:List (Key×V)}(r:Uy K G l kvs)(k:Key):(l.any fun p=>decide (p.1=k))=(kvs.any fun p=>decide (p.1=k)):=by
 induction r with
 | nil=>rfl
 | @cons p q ps qs h t ih=>rw[List.any_cons,List.any_cons,ih,h.1]
theorem RM {l:List (Key×T)}{kvs:List (Key×V)}(r:Uy K G l kvs)(k:Key){x:T}{v:V}(h:Rp K G x v):Uy K G (l.map fun p=>if p.1=k then (p.1,x) else p) (kvs.map fun p=>if p.1=k then (p.1,v) else p):=by
 induction r with
 | nil=>exact .nil
 | @cons p q ps qs h' t ih =>
  rw[List.map_cons,List.map_cons];refine .cons ?_ ih;by_cases e:p.1=k
  ·rw[if_pos e,if_pos (h'.1 ▸ e)];exact⟨h'.1,h⟩
  ·rw[if_neg e,if_neg (fun z=>e (h'.1.trans z))];exact h'
theorem iX {α β:Type}{F:α->β->Prop}:∀ {l l':List α} {m m':List β},Paired F l m->Paired F l' m'->Paired F (l++l') (m++m')
 | _,_,_,_,.nil,h=>h
 | _,_,_,_,.cons r t,h=>.cons r (iX t h)
theorem Om {l:List (Key×T)}{kvs:List (Key×V)}(r:Uy K G l kvs)(k:Key){x:T}{v:V}(h:Rp K G x v):Uy K G (dput l k x) (putK kvs k v):=by
 unfold dput putK;rw[SH r k];by_cases e:(kvs.any fun p=>decide (p.1=k))=true
 ·rw[if_pos e,if_pos e];exact RM r k h
 ·rw[if_neg e,if_neg e];exact iX r (.cons ⟨rfl,h⟩ .nil)
end
noncomputable def a1s:uN:=fun a b S k=>∃ n l key x,a=.ob n/\S[n]?=some (.qC l)/\KR b=some key/\iu l key=some x/\k (.t x) S
section
variable {X:Cx}{o i e f value:Expr}{to ti te tx tv:cX}{pos pos' apos cpos:Pos}{t:uL}
theorem F7 (hu:X.A.units+1 < cLine)(ho:QE X o to)(hi:QE X i ti)(hs:SQ i:=by intro _ _;rfl):QE X (.Subscript o i pos) (qc a1s to ti) :=
 cL (IM hu ho hi hs) (by rintro σ H Q ⟨ρ,S,δ,k,R,D,q,hk⟩;exact ⟨ρ,S,δ,_,R,D,q,(by rintro v H1 ⟨ρ1,S1,d1,g1,R1,r1,q1⟩;exact ⟨ρ1,S1,δ,_,R1,D.gr g1,q1,(by
  rintro w H2 ⟨ρ2,S2,d2,g2,R2,r2,n,l,key,x,h1,h2,h3,h4,q2⟩;subst h1;obtain⟨a,ha,e1⟩:=r1.gr g2;obtain⟨kvs,e2,e3⟩:=R2.ok n a _ ha h2;obtain⟨u,e4,e5⟩:=(sX e3 key).1 x h4;exact⟨a,u,e1,by rw[sG r2 h3,<- e4];exact Df.k e2,hk _ _ ⟨ρ2,S2,.t x,g1.trans g2,R2,e5,q2⟩⟩)⟩)⟩)
noncomputable def UW:cX:=fun _ S k=>k (.ob S.length) (S++[.qC []])
theorem MR:QE X (.Dict [] [] pos) UW:=cL M5 fun σ H Q ⟨ρ,S,δ,k,R,D,q,hk⟩ p hp=>Xf R hk p hp (o:=.qC []) ⟨[],rfl,.nil⟩ q
noncomputable def Vn (to ti tv:cX):qN:=fun E δ S=>tv δ S fun y S1=>to δ S1 fun o S2=>ti δ S2 fun i S3=>∃ n l key x,o=.ob n/\S3[n]?=some (.qC l)/\KR i=some key/\y=.t x/\l.length < sizeLine/\E.nx δ (S3.set n (.qC (dput l key x)))
theorem BY (hu:X.A.units+1 < cLine)(ho:QE X o to)(hi:QE X i ti)(hv:QE X value tv)(hs:swapsWith value (some (.Subscript o i pos')) pos.line X.env=pure false:=by rfl):QS X (.Assign [.Subscript o i pos'] value pos) (Vn to ti tv) :=
 kr (QH hu ho hi hv hs) (by rintro D σ H ⟨ρ,S,δ,E,R,RS,q,eu⟩;exact ⟨ρ,S,δ,_,R,RS,q,(by rintro v H1 ⟨ρ1,S1,d1,g1,R1,r1,q1⟩;exact ⟨ρ1,S1,δ,_,R1,RS.gr g1,q1,(by rintro w H2 ⟨ρ2,S2,d2,g2,R2,r2,q2⟩;exact   ⟨ρ2,S2,δ,_,R2,RS.gr (g1.trans g2),q2,(by
   rintro z H3 ⟨ρ3,S3,d3,g3,vz,r3,n,l,key,x,h1,h2,h3,h4,h5,q3⟩;subst h1 h4;obtain⟨a,ha,e1⟩:=r2.gr g3;obtain⟨kvs,e2,e3⟩:=vz.ok n a _ ha h2;have hl:kvs.length < sizeLine:=by rw[<- Paired.length e3];exact h5
   obtain⟨R4,g4⟩:=vz.put (o:=.dK (putK kvs key v)) (u:=.qC (dput l key x)) ha ⟨_,rfl,Om e3 key (r1.gr (g2.trans g3))⟩;refine⟨a,_,e1,by rw[sG r3 h3];exact O6.k e2 hl,eu.nx _ _ ⟨ρ3,_,δ,((g1.trans g2).trans g3).trans g4,R4,(RS.gr ((g1.trans g2).trans g3)).gr g4,q3⟩⟩)⟩)⟩)⟩)
noncomputable def PB (to ti tx:cX):cX:=fun δ S k=>to δ S fun o S1=>∃ n l0,o=.ob n/\S1[n]?=some (.qC l0)/\ti δ S1 fun i S2=>tx δ S2 fun z S3=>∃ l key,S3[n]?=some (.qC l)/\KR i=some key/\k (match iu l key with | some x=>.t x | none=>z) S3
theorem IF (hu:X.A.units+1 < cLine)(ho:QE X o to)(he:QE X e te)(hf:QE X f tx)(m:M2 X o "get" apos e f cpos:=by exact⟨rfl,rfl,rfl,rfl⟩):QE X (.Call (.Attribute o "get" apos) [e,f] [] cpos) (PB to te tx) :=
 cL (M6 hu ho he hf m) fun σ H Q ⟨ρ,S,δ,k,R,D,q,hk⟩=>⟨ρ,S,δ,_,R,D,q,(by
  rintro v H1 ⟨ρ1,S1,d1,g1,R1,r1,n,l0,h1,h2,q1⟩;subst h1;obtain⟨a,ha,e1⟩:=r1;obtain⟨kvs,e2,e3⟩:=R1.ok n a _ ha h2;refine⟨a,e1,.inl ⟨kvs,.inl e2⟩,ρ1,S1,δ,_,R1,D.gr g1,q1,fun w H2 ⟨ρ2,S2,d2,g2,R2,r2,q2⟩=>⟨ρ2,S2,δ,_,R2,D.gr (g1.trans g2),q2,?_⟩⟩;rintro z H3 ⟨ρ3,S3,d3,g3,vz,r3,l,key,h3,h4,q3⟩;obtain⟨kvs',f1,f2⟩:=vz.ok n a _ ((g2.trans g3).at ha) h3;refine⟨rB kvs' key,by rw[sG (r2.gr g3) h4];exact Df.k f1,?_⟩;have gg:=(g1.trans g2).trans g3;cases c:iu l key with
  | none=>rw[c] at q3;rw[(sX f2 key).2 c];exact hk _ _ ⟨ρ3,S3,d3,gg,vz,r3,q3⟩
  | some x =>
   rw[c] at q3;obtain⟨u,i1,i2⟩:=(sX f2 key).1 x c;rw[i1];exact hk _ _ ⟨ρ3,S3,.t x,gg,vz,i2,q3⟩)⟩
end
noncomputable def uA (x:Str):List Str->List Str
 | []=>[x]
 | y::r=>if lt x y=true then x::y::r else if x=y then y::r else y::uA x r
noncomputable def qZ:List Str->List Str:=List.foldr uA []
theorem yq {x z:Str}:∀ {l:List Str},z∈uA x l↔z=x∨z∈l
 | []=>by simp[uA]
 | y::r=>by
  unfold uA;by_cases h:lt x y=true
  ·rw[if_pos h,List.mem_cons]
  ·rw[if_neg h];by_cases e:x=y
   ·subst e;rw[if_pos rfl,List.mem_cons];constructor
    ·intro q;exact .inr q
    ·rintro(q | q)
     ·exact .inl q
     ·exact q
   ·rw[if_neg e,List.mem_cons,yq,List.mem_cons];constructor
    ·rintro(q | q | q)
     ·exact .inr (.inl q)
     ·exact .inl q
     ·exact .inr (.inr q)
    ·rintro(q | q | q)
     ·exact .inr (.inl q)
     ·exact .inl q
     ·exact .inr (.inr q)
theorem fO {z:Str}:∀ {l:List Str},z∈qZ l↔z∈l
 | []=>Iff.rfl
 | x::r=>by
  show z∈uA x (qZ r)↔_;rw[yq,fO,List.mem_cons]
theorem Jd {x:Str}:∀ {l:List Str},l.Pairwise (fun a b=>lt a b=true)->(uA x l).Pairwise fun a b=>lt a b=true
 | [],_=>by unfold uA;simp
 | y::r,h=>by
  unfold uA;by_cases e:lt x y=true
  ·rw[if_pos e];refine List.pairwise_cons.mpr ⟨fun z hz=>?_,h⟩;rcases List.mem_cons.mp hz with rfl | hz
   ·exact e
   ·exact lt_trans e ((List.pairwise_cons.mp h).1 z hz)
  ·rw[if_neg e];by_cases q:x=y
   ·rw[if_pos q];exact h
   ·rw[if_neg q];refine List.pairwise_cons.mpr ⟨fun z hz=>?_,Jd (List.pairwise_cons.mp h).2⟩;rcases yq.mp hz with rfl | hz
    ·rcases Ck z y with a | a | a
     ·exact absurd a e
     ·exact absurd a q
     ·exact a
    ·exact(List.pairwise_cons.mp h).1 z hz
theorem ue:∀ (l:List Str),(qZ l).Pairwise fun a b=>lt a b=true
 | []=>.nil
 | x::r=>Jd (ue r)
theorem U4 {l ys:List Str}(h:ys.Pairwise (fun a b=>lt b a=false))(n:ys.Nodup)(m:∀ x,x∈ys↔x∈l):ys=qZ l:=oj (DO h n) (ue l) fun x=>(m x).trans fO.symm
theorem FW {l m:List Str}(h:∀ x,x∈l↔x∈m):qZ l=qZ m:=oj (ue l) (ue m) fun x=>(fO.trans (h x)).trans fO.symm
noncomputable def MD:Lj
 | [.ob n],S,k=>∃ l ss,S[n]?=some (.qC l)/\l.map (·.1)=List.map (Sum.inr:Str->Key) ss/\ss.Nodup/\l.length < 64/\k (.lst ((qZ ss).map T.str)) S
 | _,_,_=>False
section
variable {X:Cx}{e f:Expr}{te tf:cX}{p1 p2 p3 p4 p5 pos pos':Pos}
theorem NP {K:PySem.W.Frag}{G:Hp}{l:List (Key×T)}{kvs:List (Key×V)}(r:Uy K G l kvs):kvs.map (·.1)=l.map (·.1):=by
 induction r with
 | nil=>rfl
 | cons h t ih=>rw[List.map_cons,List.map_cons,ih,h.1]
theorem JH (hc:X.calm=true):Call3 X (.builtin "sorted") MD:=by
 refine iK (CM hc) ?_;rintro vs H Q ⟨ρ,S,ds,k,R,rd,q,hk⟩;unfold MD at q;split at q
 ·obtain⟨l,ss,h1,h2,h3,h4,h5⟩:=q;obtain⟨v,rfl,a,ha,rfl⟩:=rd.one;obtain⟨kvs,e1,e2⟩:=R.ok _ a _ ha h1;refine⟨a,kvs,ss,rfl,e1,by rw[NP e2];exact h2,by rw[<- Paired.length e2];exact h4,fun l' ys hl hp hs=>?_⟩;rw[U4 hs (hp.nodup_iff.mpr h3) (fun x=>hp.mem_iff)];exact Ex R hk (bI.ofStrs _) h5 l' hl
 ·exact q.elim
end
theorem En (x:Str):∀ l:List Str,(uA x l).length<=l.length+1
 | []=>by simp[uA]
 | y::r=>by
  unfold uA;split
  ·simp
  ·split
   ·simp
   ·have:=En x r;simp only[List.length_cons];omega
theorem rP:∀ l:List Str,(qZ l).length<=l.length
 | []=>Nat.le_refl _
 | x::r=>by
  have h1:=En x (qZ r);have h2:=rP r;show(uA x (qZ r)).length<=r.length+1;omega
theorem uE {k:Nat}{A:Around}(hr:c7 k A):A.units+1+40 < cLine:=by have:=hr.un;omega
section
variable {P:Program}{w:World}{K:PySem.W.Frag}{mg:Str->Option Value}{base:Heap}{j k:Nat}{x m:Str}{C:Addr}{ps:List Str}
theorem Dn.up {sp:Sp}(h:Dn P w K mg base j x ps sp)(l:j<=k):Dn P w K mg base k x ps sp:=let ⟨f,fd,F,a⟩:=h;⟨f,fd,F.mono l,a⟩
theorem Mt.up {sp:Sp}(h:Mt P w K mg base j C m ps sp)(l:j<=k):Mt P w K mg base k C m ps sp:=let ⟨f,fd,F,a⟩:=h;⟨f,fd,F.mono l,a⟩
theorem Ms.up {n:Nat}{cl:Nat->Addr}{sp:Nat->c6}(h:Ms P w K mg base j n cl m ps sp)(l:j<=k):Ms P w K mg base k n cl m ps sp:=fun i hi=>Mt.up (h i hi) l
noncomputable def kJ (P:Program)(w:World)(K:PySem.W.Frag)(mg:Str->Option Value)(base:Heap)(k:Nat)(C:Addr)(x:Str)(ps:List Str)(sp:c6):Prop:=∃ j,j < k/\Mkr P w K mg base j C x ps sp
theorem kJ.up {sp:c6}(h:kJ P w K mg base j C x ps sp)(l:j<=k):kJ P w K mg base k C x ps sp:=let ⟨i,a,b⟩:=h;⟨i,Nat.lt_of_lt_of_le a l,b⟩
end
section
variable {X:Cx}{o e i:Expr}{es:List Expr}{ta te:cX}{t:uL}{f m x:Str}{pos apos p:Pos}{k:Nat}{ps:List Str}{sp:c6}{C:Addr}
theorem r8 (F:kJ X.prog X.w X.K X.mg X.base k C x ps sp)(hr:c7 k X.A)(hg:Gl X x)(ha:QA X (e::es) t)(h1:notStar e=true:=by rfl)(h2:es.all notStar=true:=by rfl)(hdb:(x == ("__debug__":Str))=false:=by decide) :
  QE X (.Call (.Name x p) (e::es) [] pos) (w9 C sp t):=let ⟨_,hj,F⟩:=F;VE F (hr.mono hj) hg ha h1 h2 hdb
theorem TV (F:kJ X.prog X.w X.K X.mg X.base k C x ps sp)(hr:c7 k X.A)(hg:Gl X x)(ha:QA X (e::es) t)(h1:notStar e=true:=by rfl)(h2:es.all notStar=true:=by rfl)(hdb:(x == ("__debug__":Str))=false:=by decide) :
  QE X (.Call (.Name x p) (e::es) [] pos) (L0 C sp t):=let ⟨_,hj,F⟩:=F;Qu F (hr.mono hj) hg ha h1 h2 hdb
structure Cm (P:Program)(w:World)(K:PySem.W.Frag)(mg:Str->Option Value)(base:Heap)(k:Nat)(x m:Str)(ps:List Str)(sp:c6):Prop where
 ok:∃ (C f:Addr) (fd:FuncData),aN P w K mg base cG k f fd ps (br K sp)/\mg x=some (.ref C)/\PySem.W.specialIn K (.ref C) "__getattribute__"=some (some (.builtin "type.__getattribute__"))/\PySem.W.readsIn K C (.type "type")=true /\
  PySem.W.findCls K (.ref C) (.type "type") m=some (.val (.ref f))/\PySem.W.keepIn K (.ref f)=true/\Binds K fd ps []
theorem qp {pl:Sem Bool}(F:Cm X.prog X.w X.K X.mg X.base k x m ps sp)(hr:c7 k X.A)(hg:Gl X x)(ha:QA X (e::es) t)(h1:notStar e=true:=by rfl)(h2:es.all notStar=true:=by rfl)(hdb:(x == ("__debug__":Str))=false:=by decide)
  (ht:eval (.Call (.Attribute (.Name x p) m apos) (e::es) [] pos) X.env=(do
   let ov <- eval (.Name x p) X.env
   standAt apos.atName
   let (f,first) <- holding [ov] (getMethod ov m pl)
   callWith pos f first (backTo pos (starEach (e::es) X.env)) (backToKw pos (keywordEach [] X.env))):=by rfl) :
  QE X (.Call (.Attribute (.Name x p) m apos) (e::es) [] pos) (kU sp t):=by
 obtain⟨C,f,fd,F,hm,s1,s2,s3,hk,hb⟩:=F.ok;refine cL (Q3 hg hm s1 s2 s3 rfl hk F hr hb xW ha (gE h1) (gP h2) hdb ht) fun σ H Q ⟨ρ,S,δ,k,R,D,q,hk⟩=>⟨ρ,S,δ,_,R,D,q,?_⟩
 rintro v H1 ⟨ρ1,S1,d,g1,R1,r1,q1⟩;show br X.K sp (v++[]) H1 Q E0;rw[List.append_nil];exact NK g1 R1 r1 q1 hk
noncomputable def Wv:D->aY->KD->Prop
 | .t (.v (.int i)),S,k=>k (.int (-i)) S
 | _,_,_=>False
noncomputable def YO (t:cX):cX:=fun δ S k=>t δ S fun d S1=>Wv d S1 k
theorem An (h:QE X e te):QE X (.UnaryOp .USub e pos) (YO te):=cL (ZP UJ h) (by rintro σ H Q ⟨ρ,S,δ,k,R,D,q,hk⟩;exact ⟨ρ,S,δ,_,R,D,q,(by
 rintro v H1 ⟨ρ1,S1,d,g1,R1,r1,q1⟩
 replace q1:Wv d S1 k:=q1
 unfold Wv at q1;split at q1
 ·exact⟨_,aI r1,hk _ _ ⟨ρ1,S1,_,g1,R1,aW,q1⟩⟩
 ·exact q1.elim)⟩)
theorem B0 {xs:List Str}(h:T9 e=some xs):QE X e (fun _ S k=>xs.length<=sizeLine/\k (.lst (xs.map T.str)) S):=cL (QV h) (by rintro σ H Q ⟨ρ,S,δ,k,R,D,q,hk⟩;exact ⟨by rw[List.length_map];exact q.1,Ex R hk (bI.ofStrs xs) q.2⟩)
theorem Vy {body:List Stmt}{h₀:ExceptHandler}{hs:List ExceptHandler}{t:qN}(hb:Lk X body t)(hx:∀ e s,¬ X.xe e s:=by intro _ _ h;exact h):QS X (.Try body (h₀::hs) [] [] pos) t:=VM hx hb
end
noncomputable def newL (mu:Bool)(l:List T)(S:aY)(k:KD):Prop:=if mu then k (.ob S.length) (S++[.lst l]) else k (.lst l) S
noncomputable def FZ (mu:Bool):Fz
 | .t (.v (.str a)),[.t (.v (.str b))],S,k=>(b.length == 0)=false/\a.length+2<=sizeLine/\newL mu ((Txt.split a b).map T.str) S k
 | _,_,_,_=>False
noncomputable def part3:Fz
 | .t (.v (.str a)),[.t (.v (.str b))],S,k=>(b.length == 0)=false/\a.length<=sizeLine/\k (.tup [.str (Txt.partition a b).1,.str (Txt.partition a b).2.1,.str (Txt.partition a b).2.2]) S
 | _,_,_,_=>False
noncomputable def WD:Fz
 | .t (.v (.str a)),[.t (.v (.str b))],S,k=>a.length<=sizeLine/\k (.str (Txt.lstripChars a b)) S
 | _,_,_,_=>False
noncomputable def Vq:Fz
 | .t (.v (.str a)),[.t (.v (.str b))],S,k=>a.length<=sizeLine/\k (.str (Txt.rstripChars a b)) S
 | _,_,_,_=>False
noncomputable def VT:Fz
 | .ob n,[],S,k=>∃ l x,S[n]?=some (.lst (l++[x]))/\k (.t x) (S.set n (.lst l))
 | _,_,_,_=>False
noncomputable def W4:Fz
 | d,[.t (.v (.str x))],S,k=>∃ (a b:List Str),lq S d=some ((a++x::b).map T.str)/\x ∉ a/\k (.int a.length) S
 | _,_,_,_=>False
noncomputable def Ud:Lj
 | [.t (.v (.str x))],S,k=>∃ n:Int,PySem.intText? x=some n/\x.length<=640/\k (.int n) S
 | _,_,_=>False
section
variable {X:Cx}{x:Str}{p pos apos cpos:Pos}{e o i value:Expr}{es:List Expr}{t:uL}{to ti tv:cX}{id ty:String}{r:Fz}
theorem m_split (mu:Bool):qO X "str.split" (Gz X.K (FZ mu)):=by
 refine lV NC ?_;rintro v vs H Q ⟨ρ,S,d,ds,k,R,rd,rs,q,hk⟩;unfold FZ at q;split at q
 ·obtain⟨h1,h2,h3⟩:=q;obtain⟨w,rfl,rw'⟩:=rs.one;rw[aI rd,aI rw'];refine⟨_,_,rfl,rfl,h1,h2,?_⟩;cases mu with
  | true=>exact Og R hk (bI.ofStrs _) h3
  | false=>exact Ex R hk (bI.ofStrs _) h3
 ·exact q.elim
theorem WA:qO X "str.partition" (Gz X.K part3):=by
 refine lV RI ?_;rintro v vs H Q ⟨ρ,S,d,ds,k,R,rd,rs,q,hk⟩;unfold part3 at q;split at q
 ·obtain⟨h1,h2,h3⟩:=q;obtain⟨w,rfl,rw'⟩:=rs.one;rw[aI rd,aI rw'];exact⟨_,_,rfl,rfl,h1,h2,Of R hk (bI.ofStrs [_,_,_]) h3⟩
 ·exact q.elim
theorem a0d:qO X "str.lstrip" (Gz X.K WD):=by
 refine lV Kn ?_;rintro v vs H Q ⟨ρ,S,d,ds,k,R,rd,rs,q,hk⟩;unfold WD at q;split at q
 ·obtain⟨w,rfl,rw'⟩:=rs.one;rw[aI rd,aI rw'];exact⟨_,_,rfl,rfl,q.1,fin R hk aW q.2⟩
 ·exact q.elim
theorem a0b:qO X "str.rstrip" (Gz X.K Vq):=by
 refine lV Km ?_;rintro v vs H Q ⟨ρ,S,d,ds,k,R,rd,rs,q,hk⟩;unfold Vq at q;split at q
 ·obtain⟨w,rfl,rw'⟩:=rs.one;rw[aI rd,aI rw'];exact⟨_,_,rfl,rfl,q.1,fin R hk aW q.2⟩
 ·exact q.elim
theorem bI.snoc {K:PySem.W.Frag}{G:Hp}{x:T}:∀ {l:List T} {vs:List V},bI K G (l++[x]) vs->∃ us v,vs=us++[v]/\bI K G l us/\Rp K G x v
 | [],vs,r=>by
  rw[List.nil_append] at r;unfold bI at r;obtain⟨v,vr,e1,e2,e3⟩:=r;unfold bI at e3;exact⟨[],v,by rw[e1,e3];rfl,by unfold bI;rfl,e2⟩
 | y::l,vs,r=>by
  rw[List.cons_append] at r;unfold bI at r;obtain⟨v,vr,e1,e2,e3⟩:=r;obtain⟨us,w,f1,f2,f3⟩:=bI.snoc e3;exact⟨v::us,w,by rw[e1,f1];rfl,by unfold bI;exact⟨v,us,rfl,e2,f2⟩,f3⟩
theorem a0c:qO X "list.pop" (Gz X.K VT):=by
 refine lV Wy ?_;rintro v vs H Q ⟨ρ,S,d,ds,k,R,rd,rs,q,hk⟩;unfold VT at q;split at q
 ·obtain⟨l,x,h1,h2⟩:=q;obtain⟨a,ha,rfl⟩:=rd;cases rs;obtain⟨us,e1,e2⟩:=R.ok _ a _ ha h1;obtain⟨u1,v1,rfl,f1,f2⟩:=bI.snoc e2;refine⟨a,u1++[v1],v1,rfl,rfl,e1,?_,?_⟩
  ·rw[List.length_append,List.length_singleton,Nat.add_sub_cancel,List.getElem?_append_right (Nat.le_refl _),Nat.sub_self];rfl
  ·rw[List.dropLast_concat];exact K7 R hk ha (o:=.lst l) ⟨_,rfl,f1⟩ (d:=.t x) f2 h2
 ·exact q.elim
theorem a0f:qO X "list.index" (Gz X.K W4):=by
 refine lV RL ?_;rintro v vs H Q ⟨ρ,S,d,ds,k,R,rd,rs,q,hk⟩;unfold W4 at q;split at q
 ·rename_i x;obtain⟨a,b,h1,h2,h3⟩:=q;obtain⟨w,rfl,rw'⟩:=rs.one;obtain⟨p,us,e1,e2,e3⟩:=dj R rd h1;rw[e3.strs] at e2;rw[aI rw'];refine⟨p,_,.str _,.str _,a.length,e1,rfl,e2,rfl,?_,?_,Ey rfl,?_,fin R hk aW h3⟩
  ·exact oz _
  ·rw[List.map_append,List.getElem?_append_right (by simp)];simp
  ·intro i hi c hc;rw[List.map_append,List.getElem?_append_left (by simpa using hi),List.getElem?_map] at hc;obtain⟨y,hy,rfl⟩:=Option.map_eq_some_iff.mp hc;have:y≠x:=fun e=>h2 (e ▸ List.mem_of_getElem? hy);show(y == _)=false;exact beq_false_of_ne this
 ·exact q.elim
theorem XD:Call3 X (.type "int") Ud:=by
 refine iK Lb ?_;rintro vs H Q ⟨ρ,S,ds,k,R,rd,q,hk⟩;unfold Ud at q;split at q
 ·obtain⟨n,h1,h2,h3⟩:=q;obtain⟨w,rfl,rw'⟩:=rd.one;rw[aI rw'];exact⟨_,n,rfl,h1,h2,fin R hk aW h3⟩
 ·exact q.elim
theorem wH (mu:Bool)(ho:QE X o to)(ha:QA X [e] t)(h1:notStar e=true:=by rfl)(hbase:attributeBase o "split" X.env (eval o X.env)=eval o X.env:=by rfl)(hline:(apos.endLine == cpos.line)=true:=by rfl) :
  QE X (.Call (.Attribute o "split" apos) [e] [] cpos) (mH "str" (FZ mu) to t):=xP PySem.F.plainAttrs_str PySem.F.slot_str_split PySem.F.type_str_split (m_split mu) ho ha h1 rfl (by decide) hbase hline
theorem VC (ho:QE X o to)(ha:QA X [e] t)(h1:notStar e=true:=by rfl)(hbase:attributeBase o "partition" X.env (eval o X.env)=eval o X.env:=by rfl)(hline:(apos.endLine == cpos.line)=true:=by rfl) :
  QE X (.Call (.Attribute o "partition" apos) [e] [] cpos) (mH "str" part3 to t):=xP PySem.F.plainAttrs_str PySem.F.slot_str_partition PySem.F.type_str_partition WA ho ha h1 rfl (by decide) hbase hline
theorem MO (ho:QE X o to)(ha:QA X [e] t)(h1:notStar e=true:=by rfl)(hbase:attributeBase o "lstrip" X.env (eval o X.env)=eval o X.env:=by rfl)(hline:(apos.endLine == cpos.line)=true:=by rfl) :
  QE X (.Call (.Attribute o "lstrip" apos) [e] [] cpos) (mH "str" WD to t):=xP PySem.F.plainAttrs_str PySem.F.slot_str_lstrip PySem.F.type_str_lstrip a0d ho ha h1 rfl (by decide) hbase hline
theorem MN (ho:QE X o to)(ha:QA X [e] t)(h1:notStar e=true:=by rfl)(hbase:attributeBase o "rstrip" X.env (eval o X.env)=eval o X.env:=by rfl)(hline:(apos.endLine == cpos.line)=true:=by rfl) :
  QE X (.Call (.Attribute o "rstrip" apos) [e] [] cpos) (mH "str" Vq to t):=xP PySem.F.plainAttrs_str PySem.F.slot_str_rstrip PySem.F.type_str_rstrip a0b ho ha h1 rfl (by decide) hbase hline
theorem ZH (ho:QE X o to)(hbase:attributeBase o "pop" X.env (eval o X.env)=eval o X.env:=by rfl)(hline:(apos.endLine == cpos.line)=true:=by rfl) :
  QE X (.Call (.Attribute o "pop" apos) [] [] cpos) (mH "list" VT to eS):=cL (V5 PySem.F.plainAttrs_list PySem.F.slot_list_pop PySem.F.type_list_pop a0c ho hbase hline) ND
theorem MQ (ho:QE X o to)(ha:QA X [e] t)(h1:notStar e=true:=by rfl)(hbase:attributeBase o "index" X.env (eval o X.env)=eval o X.env:=by rfl)(hline:(apos.endLine == cpos.line)=true:=by rfl) :
  QE X (.Call (.Attribute o "index" apos) [e] [] cpos) (mH "list" W4 to t):=xP PySem.F.plainAttrs_list PySem.F.slot_list_index PySem.F.type_list_index a0f ho ha h1 rfl (by decide) hbase hline
end
noncomputable def A1 (r r':uN)(ta tb tc:cX):cX:=fun δ S k=>ta δ S fun x S1=>tb δ S1 fun y S2=>r x y S2 fun z S3=>∃ b,z=.bl b/\(if b=true then tc δ S3 fun w' S4=>r' y w' S4 k else k (.bl false) S3)
noncomputable def RP:uN
 | .t (.v (.str i)),.t (.v (.str j)),S,k=>k (.bl (!(decide (j.cps.toList < i.cps.toList)))) S
 | _,_,_,_=>False
section
variable {X:Cx}{a b c:Expr}{ta tb tc:cX}{pos:Pos}
theorem IW:vS X (compareOp .LtE) RP:=by
 refine fJ Ka ?_;rintro x y H Q ⟨ρ,S,a,b,k,R,ra,rb,q,hk⟩;unfold RP at q;split at q
 ·exact⟨_,_,aI ra,aI rb,fin R hk aW q⟩
 ·exact q.elim
theorem yJ {r r':uN}:∀ σ H Q,li X.K (A1 r r' ta tb tc) σ H Q->FO (liR X.K r) (liR X.K r') (li X.K ta) (li X.K tb) (li X.K tc) σ H Q:=fun σ H Q ⟨ρ,S,δ,k,R,D,q,hk⟩ =>
 ⟨ρ,S,δ,_,R,D,q,fun v H1 ⟨ρ1,S1,d1,g1,R1,r1,q1⟩=>⟨ρ1,S1,δ,_,R1,D.gr g1,q1,fun w H2 ⟨ρ2,S2,d2,g2,R2,r2,q2⟩ =>
  ⟨ρ2,S2,d1,d2,_,R2,r1.gr g2,r2,q2,(by
   rintro z H3 ⟨ρ3,S3,d3,g3,vz,r3,b,e,q3⟩;subst e;refine⟨b,aI r3,?_⟩;have g13:=g1.trans (g2.trans g3);cases b with
   | false=>exact hk _ _ ⟨ρ3,S3,.bl false,g13,vz,aW,q3⟩
   | true=>exact⟨ρ3,S3,δ,_,vz,D.gr g13,q3,(by rintro w' H4 ⟨ρ4,S4,d4,g4,R4,r4,q4⟩;exact ⟨ρ4,S4,d2,d4,k,R4,r2.gr (g3.trans g4),r4,q4,fun z H5 u=>hk z H5 (u.gr (g13.trans g4))⟩)⟩)⟩⟩⟩
theorem IG {op op':CmpOp}{r r':uN}(ho:vS X (compareOp op) r)(ho':vS X (compareOp op') r')(ha:QE X a ta)(hb:QE X b tb)(hc:QE X c tc)
  (hm:lastMarks [op,op'] [b,c]=false:=by with_unfolding_all rfl):QE X (.Compare a [op,op'] [b,c] pos) (A1 r r' ta tb tc):=cL (M7 ho ho' ha hb hc hm) yJ
theorem DP {op op':CmpOp}{r r':uN}(ho:vS X (compareOp op) r)(ho':vS X (compareOp op') r')(ha:QE X a ta)(hb:QE X b tb)(hc:QE X c tc)
  (hm:lastMarks [op,op'] [b,c]=false:=by with_unfolding_all rfl):QT X (.Compare a [op,op'] [b,c] pos) (w6 (A1 r r' ta tb tc)):=II (MT ho ho' ha hb hc hm) (t6 yJ)
end
end L3
namespace L2
open PySem PySem.Spec PyProof.Rows
noncomputable def Itq (lo:Int)(n:Nat):It:=⟨fun i _=>i < n,fun i H x H'=>H'=H/\x=.int (lo+i*2),fun i _=>n<=i⟩
theorem LM {P:Program}{w:World}{K:PySem.W.Frag}{tg:Expr}(it:Addr)(lo:Int)(n:Nat):Turn P w K tg (Itq lo n) [it] it (fun i h=>IsRangeIter h it (lo+(i:Nat)*2) ((n:Int) - (i:Nat)) 2) where
 mem:=by simp
 obj:=fun i h st b hb=>by
  obtain rfl:b=it:=by simpa using hb
  exact⟨_,st,fun v z=>by
   have z':Data.fields _=Data.cell v:=z;cases z'⟩
 keep:=fun i h h' st k=>k it (by simp) _ st
 item:=by
  intro X hP hw hK hc i pins s σ H E I hf st hg;subst hP hw hK;obtain⟨f0,f1,f2,f3,f4,f5⟩:=hf it (by simp);refine(Walks.range (prog:=X.prog) (w:=X.w) (I.ok.hd hc) it lo 2 n).item i s _ _ hg st fun v h' tk hv st' kk=>?_;obtain⟨t,rfl⟩:=hv;have I1:Inv X pins σ H { s with heap:=h',toks:=tk }:=I.turned (fun b o hb e=>kk b o (by simpa using hb) e) f0 f1 f3 f4 f5;exact⟨_,rfl,vn (s:={ s with heap:=h',toks:=tk }) (n:="range_iterator") st' rfl rfl (by decide) ⟨.int (lo+i*2),H,I1,⟨t,rfl⟩,⟨rfl,rfl⟩,st',fun b hb=>(hf b hb).1⟩⟩
 done:=by
  intro X hP hw hK hc i pins s σ H E I hf st hg;subst hP hw hK;obtain⟨f0,f1,f2,f3,f4,f5⟩:=hf it (by simp);exact wpAny_pyNext_range_end (I.ok.hd hc) st (by have:n<=i:=hg;omega) fun h' eb=>⟨rfl,I.turned (t':=s.toks) (fun b o hb e=>eb b o hb e) f0 f1 f3 f4 f5⟩
 self:=fun _ _ _ _ _ st h=>wpAny_pyIter_rangeiter st h
section
variable {X:Cx}{tg:Expr}
noncomputable def a3S (ta:TA):TI:=fun σ H R=>ta σ H fun vs H1=>∃ i j:Int,vs=[.int i,.int j,.int 2]/\(0<=i/\i < 2 ^ 50/\0<=j/\j < 2 ^ 50)/\R (Itq i ((j - i+1) / 2).toNat) H1
theorem VX {a b c:Expr}{ta:TA}{p pos:Pos}(hg:Gl X "range")(hm:X.mg "range"=none)(ha:PA X [a,b,c] ta)(hs:starEach [a,b,c] X.env=[(false,eval a X.env),(false,eval b X.env),(false,eval c X.env)]:=by rfl)(hs2:starEach [b,c] X.env=[(false,eval b X.env),(false,eval c X.env)]:=by rfl) :
  PI X tg (.Call (.Name "range" p) [a,b,c] [] pos) (a3S ta):=by
 intro pins s σ H R I h;refine Call_ (yj I hg hm boot_range (PyProof.Rows.callWith_type1 (cH (ha pos pins s σ H _ I h) fun us s1 ⟨vs,H1,I1,r1,q1⟩=>?_) (by rw[hs,hs2]) (by rw[hs2];rfl)));obtain⟨i,j,e,⟨q1,q2,q3,q4⟩,q⟩:=q1;subst e;cases r1 with
 | cons r rr =>
 cases rr with
 | cons r' rr =>
 cases rr with
 | cons r'' rr =>
 cases rr;obtain⟨t,rfl⟩:=r;obtain⟨u,rfl⟩:=r';obtain⟨v,rfl⟩:=r'';have hz:Builtin.Range.rangeSize i j 2=(((j - i+1) / 2).toNat:Nat):=by
  unfold Builtin.Range.rangeSize;rw[if_pos (by decide)];split <;> omega
 refine call_range_3 (by decide) ?_ (Or.inl (PyProof.noPylong_small (by omega)));refine wpAny_pyIter_range (IsRange.new ..) ?_ ?_
 ·unfold Builtin.Range.small;rw[hz];simp only[Builtin.Range.rangeFitsLong,Bool.and_eq_true,Bool.or_eq_true,decide_eq_true_eq,beq_iff_eq,show(2:Int) > 0 by decide,if_true];omega
 ·have I2:Inv X pins σ H1 { s1 with heap:=s1.heap.push { cls:=.type "range",data:=.fields #[.int i t,.int j u,.int 2 v] },toks:=s1.toks }:=I1.kept fun b o e=>Heap.get?_push_of_some _ e;refine⟨_,[(s1.heap.push { cls:=.type "range",data:=.fields #[.int i t,.int j u,.int 2 v] }).objs.size],_,_,H1,rfl,
   I2.kept (t':=s1.toks) fun b o e=>Heap.get?_push_of_some _ e,LM _ i ((j - i+1) / 2).toNat,?_,fun b hb=>?_,q⟩
  ·show IsRangeIter _ _ (i+((0:Nat):Int)*2) ((((j - i+1) / 2).toNat:Int) - ((0:Nat):Int)) 2;rw[show i+((0:Nat):Int)*2=i by simp,show((((j - i+1) / 2).toNat:Int) - ((0:Nat):Int))=Builtin.Range.rangeSize i j 2 by rw[hz];simp];exact Heap.get?_push_size _ rfl
  ·obtain rfl:b=(s1.heap.push { cls:=.type "range",data:=.fields #[.int i t,.int j u,.int 2 v] }).objs.size:=by simpa using hb
   exact I2.Eu (Nat.le_refl _) (I2.hok.fresh (Nat.le_refl _))
end
end L2
namespace L3
open PySem L2 Hw
section
variable {X:Cx}{tg iter e:Expr}{te:cX}{pos p:Pos}
noncomputable def iSg (te:cX):Li:=fun δ S k=>te δ S fun d S1=>∃ z:Str,d=.str z/\k (z.cps.toList.map fun c=>D.str ⟨#[c]⟩) (fun _=>True) S1
theorem RX {K:PySem.W.Frag}{ρ:List Addr}{H:Hp}{z:Str}:Pj K (Its z) (z.cps.toList.map fun c=>D.str ⟨#[c]⟩) (fun _=>True) ρ H where
 go:=fun i ρ1 S1 H1 g R _ hi=>by show i < z.cps.size;simpa using hi
 FE:=fun i x ρ1 S1 H1 H' d g R _ hd y=>by
  obtain⟨rfl,c,hc,rfl⟩:=y;rw[List.getElem?_map,Array.getElem?_toList,hc] at hd;cases hd;exact⟨ρ1,.refl,R,aW⟩
 stop:=fun i ρ1 S1 H1 g R _ hi _=>by show z.cps.size<=i;simpa using hi
theorem TR (he:QE X iter te):QI X tg iter (iSg te):=Ao (VU he) (by rintro σ H Q ⟨ρ,S,δ,k,R,D,q,hk⟩;exact ⟨ρ,S,δ,_,R,D,q,(by
 rintro v H1 ⟨ρ1,S1,d,g1,R1,r1,z,e,q1⟩;subst e;exact⟨z,aI r1,hk _ _ ⟨ρ1,S1,_,_,g1,R1,RX,q1⟩⟩)⟩)
noncomputable def iB2 (t:uL):Li:=fun δ S k=>t δ S fun ds S1=>∃ i j:Int,ds=[.int i,.int j,.int 2]/\(0<=i/\i < 2 ^ 50/\0<=j/\j < 2 ^ 50)/\k ((List.range ((j - i+1) / 2).toNat).map fun(m:Nat)=>D.int (i+m*2)) (fun _=>True) S1
theorem RZ {K:PySem.W.Frag}{ρ:List Addr}{H:Hp}{lo:Int}{n:Nat}:Pj K (Itq lo n) ((List.range n).map fun(i:Nat)=>D.int (lo+i*2)) (fun _=>True) ρ H where
 go:=fun i ρ1 S1 H1 g R _ hi=>by show i < n;simpa using hi
 FE:=fun i x ρ1 S1 H1 H' d g R _ hd y=>by
  obtain⟨rfl,rfl⟩:=y;rw[List.getElem?_map] at hd;cases q:(List.range n)[i]? with
  | none=>rw[q] at hd;cases hd
  | some z =>
   rw[q] at hd;cases hd;have:=List.getElem?_range (n:=n) (i:=i) (by have:=(List.getElem?_eq_some_iff.mp q).1;simpa using this);rw[this] at q;cases q;exact⟨ρ1,.refl,R,aW⟩
 stop:=fun i ρ1 S1 H1 g R _ hi _=>by show n<=i;simpa using hi
theorem VA {a b c:Expr}{t:uL}(hg:Gl X "range")(hm:X.mg "range"=none)(ha:QA X [a,b,c] t)(hs:starEach [a,b,c] X.env=[(false,eval a X.env),(false,eval b X.env),(false,eval c X.env)]:=by rfl)(hs2:starEach [b,c] X.env=[(false,eval b X.env),(false,eval c X.env)]:=by rfl) :
  QI X tg (.Call (.Name "range" p) [a,b,c] [] pos) (iB2 t) :=
 Ao (VX hg hm ha hs hs2) fun σ H Q ⟨ρ,S,δ,k,R,D,q,hk⟩=>⟨ρ,S,δ,_,R,D,q,fun v H1 ⟨ρ1,S1,d,g1,R1,r1,i,j,e,h1,q1⟩=>by
  subst e;obtain⟨x,y,z,rfl,hx,hy,hz⟩:∃ x y z,v=[x,y,z]/\iM X.K ρ1 (res ρ1 H1) (.int i) x/\iM X.K ρ1 (res ρ1 H1) (.int j) y/\iM X.K ρ1 (res ρ1 H1) (.int 2) z:=by
   cases r1 with
   | cons a r=>cases r with
    | cons b r=>cases r with
     | cons c r=>cases r;exact⟨_,_,_,rfl,a,b,c⟩
  exact⟨i,j,by rw[aI hx,aI hy,aI hz],h1,hk _ _ ⟨ρ1,S1,_,_,g1,R1,RZ,q1⟩⟩⟩
end
section
variable {X:Cx}{pos p1 p2:Pos}
theorem ia (z:Str):∀ ss:List Str,K2 (.str z) (ss.map V.str)=decide (z∈ss)
 | []=>rfl
 | s::r=>by
  have ih:=ia z r;unfold K2 at ih ⊢;rw[List.map_cons,List.any_cons,ih];show((s == z) || decide (z∈r))=_;by_cases e:s=z
  ·subst e;simp
  ·rw[beq_false_of_ne e,Bool.false_or];exact decide_eq_decide.mpr ⟨fun h=>List.mem_cons_of_mem _ h,fun h=>(List.mem_cons.mp h).resolve_left fun w=>e w.symm⟩
noncomputable def inK (neg:Bool)(a:Addr)(ss:List Str):uN:=fun x y S k=>∃ z,x=.str z/\y=.t (.v (.ref a))/\k (.bl (xor neg (decide (z∈ss)))) S
theorem Z3 {a:Addr}{ss:List Str}(h:∀ H:Hp,mC X.K H a (ss.map V.str)):vS X (compareOp .In) (inK false a ss):=by
 refine fJ Aq ?_;rintro x y H Q ⟨ρ,S,d,b,k,R,ra,rb,⟨z,h1,h2,q⟩,hk⟩;subst h1 h2;rw[aI ra,aI rb];refine⟨a,_,rfl,.inr (h H),rfl,oz ss,?_⟩;rw[ia];exact fin R hk aW (by rw[Bool.false_xor] at q;exact q)
noncomputable def tD1 (c:Str)(n:Int):cX:=fun _ S k=>k (.ob S.length) (S++[.qC [(Sum.inr c,.int n)]])
theorem Po {H:Hp}{p:Addr}{o o':HO}:upd (upd H p o) p o'=upd H p o':=by
 funext b;unfold upd;split <;> rfl
theorem a3l {c:Str}{n:Int}{j1 j2:Nat}:QE X (.Dict [some (.Constant (.str c) j1 p1)] [.Constant (.int n) j2 p2] pos) (tD1 c n) :=
 cL (QZ (MW Ga M3 QK) rfl rfl (by simp) (by show 1<=15;decide)) fun σ H Q ⟨ρ,S,δ,k,R,D,q,hk⟩ p hp=>by
  refine⟨if_pos rfl,[(Sum.inr c,.int n)],rfl,by show 1<=15;decide,?_⟩;rw[Po];refine Xf R hk p hp (o:=.qC [(Sum.inr c,.int n)]) ⟨_,rfl,.cons ⟨rfl,?_⟩ .nil⟩ q;unfold Rp;rfl
end
end L3
namespace L2
open PySem PySem.Spec PyProof.Rows
noncomputable def Itk (d:Addr)(ob:Obj)(kvs:List (Key×V)):It :=
 ⟨fun i H=>H d=some (.uC ob (.dK kvs))/\i < kvs.length,fun i H x H'=>H'=H/\∃ k v,kvs[i]?=some (k,v)/\x=kV k,fun i H=>H d=some (.uC ob (.dK kvs))/\kvs.length<=i⟩
theorem JT {P:Program}{w:World}{K:PySem.W.Frag}{tg:Expr}(d it:Addr)(ob:Obj)(kvs:List (Key×V))(es:Array DictEntry)(ep:Nat)(hob:ob.data=.dict es ep) :
  Turn P w K tg (Itk d ob kvs) [it] it (fun i h=>h.IsKeyIter it d i kvs.length ep) where
 mem:=by simp
 obj:=fun i h st b hb=>by
  obtain rfl:b=it:=by simpa using hb
  obtain⟨o,e,c,dd⟩:=st;exact⟨o,e,fun v z=>by rw[dd] at z;cases z⟩
 keep:=fun i h h' st k=>st.at fun o e=>k it (by simp) o e
 item:=by
  intro X hP hw hK hc i pins s σ H E I hf st hg;subst hP hw hK;obtain⟨hd,hi⟩:=hg;obtain⟨lo,hz,N6,vs,es',Xg,rel,hdat,hat⟩:=I.held hd;rw[hob] at hdat;cases hdat;obtain⟨f0,f1,f2,f3,f4,f5⟩:=hf it (by simp);have hl:=rel.len;obtain⟨⟨k,v⟩,hkv⟩:∃ p,kvs[i]?=some p:=⟨kvs[i],by simp[hi]⟩
  obtain⟨u,hu,ru⟩:=rel.at hkv;rw[hl] at st;refine wpAny_pyNext_dict_item st hat hu fun key h' hk st' sb=>?_;have I1:Inv X pins σ H { s with heap:=h' }:=I.turned (t':=s.toks) (fun b o hb e=>(sb.2 b hb).trans e) f0 f1 f3 f4 f5;obtain⟨o,e,c,dd⟩:=id st';exact⟨key,rfl,vn (s:={ s with heap:=h' }) e c dd (by decide) ⟨kV k,H,I1,Qi hk,⟨rfl,k,v,hkv,rfl⟩,by rw[hl];exact st',fun b hb=>(hf b hb).1⟩⟩
 done:=by
  intro X hP hw hK hc i pins s σ H E I hf st hg;subst hP hw hK;obtain⟨hd,hi⟩:=hg;obtain⟨lo,hz,N6,vs,es',Xg,rel,hdat,hat⟩:=I.held hd;rw[hob] at hdat;cases hdat;obtain⟨f0,f1,f2,f3,f4,f5⟩:=hf it (by simp);have hl:=rel.len;rw[hl] at st;exact wpAny_pyNext_dict_end (I.ok.hd hc) st hat (List.getElem?_eq_none_iff.mpr (by omega)) fun h' eb=>⟨rfl,I.turned (t':=s.toks) (fun b o hb e=>eb b o hb e) f0 f1 f3 f4 f5⟩
 self:=fun _ _ _ _ _ st h=>wpAny_pyIter_keyiter st h
section
variable {X:Cx}{e:Expr}{te:TE}
noncomputable def a08 (te:TE):TI:=fun σ H R=>te σ H fun x H1=>∃ d kvs,x=.ref d/\Rd H1 d (.dK kvs)/\∀ ob H2,Frz d ob kvs H1 H2->R (Itk d ob kvs) H2
theorem QU {tg:Expr}(he:PE X e te):PI X tg e (a08 te):=by
 intro pins s σ H R I h;refine cH (he pins s σ H _ I h) ?_;rintro v s1 ⟨x,H1,I1,r1,d,kvs,ex,rd,q⟩;subst ex;cases r1;obtain⟨ob,H2,fz,I2,hob⟩:=I1.frozen rd;obtain⟨lo,hz,N6,vs,es,ep,rel,hdat,hat⟩:=I2.held fz.1;have hl:=rel.len;refine wpAny_pyIter_dict lo hat ?_;exact⟨s1.heap.objs.size,[s1.heap.objs.size],_,_,H2,rfl,I2.kept (t':=s1.toks) fun b o e=>Heap.get?_push_of_some _ e,JT d _ ob kvs es ep hdat,⟨_,Heap.get?_push_size _ rfl,rfl,by rw[hl];rfl⟩,fun b hb=>by
  obtain rfl:b=s1.heap.objs.size:=by simpa using hb
  exact I2.Eu (Nat.le_refl _) (I2.hok.fresh (Nat.le_refl _)),q ob H2 fz⟩
end
end L2
namespace L3
open PySem L2 Hw
noncomputable def NQ:Key->T
 | .inl i=>.int i
 | .inr x=>.str x
noncomputable def dq (S:aY)(n:Nat)(l:List (Key×T)):Prop:=S[n]?=some (.qC l)∨∃ ob kvs,S[n]?=some (.yC ob kvs l)
theorem Qh {K:PySem.W.Frag}{ρ:List Addr}{G:Hp}(k:Key):iM K ρ G (.t (NQ k)) (kV k):=by cases k <;> exact aW
theorem ur {α β:Type}{F:α->β->Prop}:∀ {l:List α} {m:List β},Paired F l m->∀ {i:Nat} {p:α},l[i]?=some p->∃ q,m[i]?=some q/\F p q
 | _,_,.nil,_,_,h=>by simp at h
 | _,_,.cons r t,0,p,h=>by cases h;exact⟨_,rfl,r⟩
 | _,_,.cons r t,i+1,p,h=>ur t (i:=i) h
theorem GW {K:PySem.W.Frag}{ρ:List Addr}{S:aY}{H:Hp}{n:Nat}{a:Addr}{l:List (Key×T)}(R:R3 K ρ S H)(ha:ρ[n]?=some a)(h:dq S n l):∃ kvs,Rd H a (.dK kvs)/\Uy K (res ρ H) l kvs:=by
 rcases h with h | ⟨ob,kvs,h⟩
 ·obtain⟨kvs,e1,e2⟩:=R.ok n a _ ha h;exact⟨kvs,.inl e1,e2⟩
 ·obtain⟨e1,e2⟩:=R.ok n a _ ha h;exact⟨kvs,.inr ⟨ob,e1⟩,e2⟩
noncomputable def Xl:uN:=fun a b S k=>∃ n l key x,a=.ob n/\dq S n l/\KR b=some key/\iu l key=some x/\k (.t x) S
noncomputable def iKy (te:cX):Li:=fun δ S k=>te δ S fun d S1=>∃ n l,d=.ob n/\dq S1 n l/\∀ ob kvs,k (l.map fun p=>D.t (NQ p.1)) (fun S=>S[n]?=some (.yC ob kvs l)) (S1.set n (.yC ob kvs l))
noncomputable def iVl (te:cX):Li:=fun δ S k=>te δ S fun d S1=>∃ n l,d=.ob n/\dq S1 n l/\∀ ob kvs,k (l.map fun p=>D.t p.2) (fun S=>S[n]?=some (.yC ob kvs l)) (S1.set n (.yC ob kvs l))
section
variable {X:Cx}{tg iter o i:Expr}{te to ti:cX}{pos apos cpos:Pos}
theorem IE (hu:X.A.units+1 < cLine)(ho:QE X o to)(hi:QE X i ti)(hs:SQ i:=by intro _ _;rfl):QE X (.Subscript o i pos) (qc Xl to ti) :=
 cL (IM hu ho hi hs) (by rintro σ H Q ⟨ρ,S,δ,k,R,D,q,hk⟩;exact ⟨ρ,S,δ,_,R,D,q,(by rintro v H1 ⟨ρ1,S1,d1,g1,R1,r1,q1⟩;exact ⟨ρ1,S1,δ,_,R1,D.gr g1,q1,(by
  rintro w H2 ⟨ρ2,S2,d2,g2,R2,r2,n,l,key,x,h1,h2,h3,h4,q2⟩;subst h1;obtain⟨a,ha,e1⟩:=r1.gr g2;obtain⟨kvs,e2,e3⟩:=GW R2 ha h2;obtain⟨u,e4,e5⟩:=(sX e3 key).1 x h4;exact⟨a,u,e1,by rw[sG r2 h3,<- e4];exact .inl ⟨kvs,key,e2,rfl,rfl⟩,hk _ _ ⟨ρ2,S2,.t x,g1.trans g2,R2,e5,q2⟩⟩)⟩)⟩)
theorem NX {K:PySem.W.Frag}{ρ:List Addr}{H:Hp}{n:Nat}{a:Addr}{ob:Obj}{kvs:List (Key×V)}{l:List (Key×T)}(ha:ρ[n]?=some a):Pj K (Itk a ob kvs) (l.map fun p=>D.t (NQ p.1)) (fun S=>S[n]?=some (.yC ob kvs l)) ρ H where
 go:=fun i ρ1 S1 H1 g R hS hi=>by
  obtain⟨e1,e2⟩:=R.ok n a _ (g.at ha) hS;exact⟨e1,by rw[<- Paired.length e2];simpa using hi⟩
 FE:=fun i x ρ1 S1 H1 H' d g R hS hd y=>by
  obtain⟨rfl,k,v,hkv,rfl⟩:=y;obtain⟨e1,e2⟩:=R.ok n a _ (g.at ha) hS;rw[List.getElem?_map] at hd;cases q:l[i]? with
  | none=>rw[q] at hd;cases hd
  | some p =>
   rw[q] at hd;cases hd;obtain⟨q',f1,f2,f3⟩:=ur e2 q;rw[hkv] at f1;cases f1;have f2:p.1=k:=f2;exact⟨ρ1,.refl,R,by show iM _ _ _ (.t (NQ p.1)) _;rw[f2];exact Qh k⟩
 stop:=fun i ρ1 S1 H1 g R hS hi _=>by
  obtain⟨e1,e2⟩:=R.ok n a _ (g.at ha) hS;exact⟨e1,by rw[<- Paired.length e2];simpa using hi⟩
theorem NV {K:PySem.W.Frag}{ρ:List Addr}{H:Hp}{n:Nat}{a:Addr}{ob:Obj}{kvs:List (Key×V)}{l:List (Key×T)}(ha:ρ[n]?=some a):Pj K (Itv a ob kvs) (l.map fun p=>D.t p.2) (fun S=>S[n]?=some (.yC ob kvs l)) ρ H where
 go:=fun i ρ1 S1 H1 g R hS hi=>by
  obtain⟨e1,e2⟩:=R.ok n a _ (g.at ha) hS;exact⟨e1,by rw[<- Paired.length e2];simpa using hi⟩
 FE:=fun i x ρ1 S1 H1 H' d g R hS hd y=>by
  obtain⟨rfl,k,hkv⟩:=y;obtain⟨e1,e2⟩:=R.ok n a _ (g.at ha) hS;rw[List.getElem?_map] at hd;cases q:l[i]? with
  | none=>rw[q] at hd;cases hd
  | some p =>
   rw[q] at hd;cases hd;obtain⟨q',f1,f2,f3⟩:=ur e2 q;rw[hkv] at f1;cases f1;exact⟨ρ1,.refl,R,f3⟩
 stop:=fun i ρ1 S1 H1 g R hS hi _=>by
  obtain⟨e1,e2⟩:=R.ok n a _ (g.at ha) hS;exact⟨e1,by rw[<- Paired.length e2];simpa using hi⟩
theorem Oc {d:Addr}{ob:Obj}{kvs:List (Key×V)}{H H':Hp}(f:Frz d ob kvs H H'):H'=upd H d (.uC ob (.dK kvs)):=by
 funext b;unfold upd;by_cases e:b=d
 ·subst e;rw[if_pos rfl];exact f.1
 ·rw[if_neg e];exact f.2 b e
theorem ZG (he:QE X iter te):QI X tg iter (iKy te):=Ao (QU he) fun σ H Q ⟨ρ,S,δ,k,R,D,q,hk⟩=>⟨ρ,S,δ,_,R,D,q,(by
 rintro v H1 ⟨ρ1,S1,d,g1,R1,r1,n,l,e,hq,q1⟩;subst e;obtain⟨a,ha,e⟩:=r1;obtain⟨kvs,e1,e2⟩:=GW R1 ha hq;refine⟨a,kvs,e,e1,fun ob H2 f=>?_⟩;obtain⟨R4,g4⟩:=R1.put (o:=.uC ob (.dK kvs)) (u:=.yC ob kvs l) ha ⟨rfl,e2⟩;rw[Oc f];exact hk _ _ ⟨ρ1,_,_,_,g1.trans g4,R4,NX ha,q1 ob kvs⟩)⟩
theorem ZF (ho:QE X o to)(hbase:attributeBase o "values" X.env (eval o X.env)=eval o X.env:=by rfl)(hline:(apos.endLine == cpos.line)=true:=by rfl):QI X tg (.Call (.Attribute o "values" apos) [] [] cpos) (iVl to) :=
 Ao (QN (J3 ho hbase hline)) fun σ H Q ⟨ρ,S,δ,k,R,D,q,hk⟩=>⟨ρ,S,δ,_,R,D,q,(by
  rintro v H1 ⟨ρ1,S1,d,g1,R1,r1,n,l,e,hq,q1⟩;subst e;obtain⟨a,ha,e⟩:=r1;obtain⟨kvs,e1,e2⟩:=GW R1 ha hq;refine⟨a,kvs,e,e1,fun p hp=>?_⟩;obtain⟨R2,g2,e3⟩:=R1.new (o:=Dj p a) hp;have ne:a≠p:=fun z=>by
   subst z;rcases e1 with e1 | ⟨ob,e1⟩ <;> (rw[hp] at e1;cases e1)
  have e1':Rd (upd H1 p (Dj p a)) a (.dK kvs):=by
   rcases e1 with e1 | ⟨ob,e1⟩
   ·exact .inl (by unfold upd;rw[if_neg ne];exact e1)
   ·exact .inr ⟨ob,by unfold upd;rw[if_neg ne];exact e1⟩
  refine⟨p,a,kvs,rfl,by unfold upd;rw[if_pos rfl],e1',fun ob H2 f=>?_⟩;obtain⟨R4,g4⟩:=R2.put (o:=.uC ob (.dK kvs)) (u:=.yC ob kvs l) ha ⟨rfl,dI (fun _ _ z=>⟨z.1,z.2.le g2.le⟩) e2⟩;rw[Oc f];exact hk _ _ ⟨ρ1,_,_,_,(g1.trans g2).trans g4,R4,NV ha,q1 ob kvs⟩)⟩
end
end L3
namespace Hw
open PySem L2 PySem.Builtin PySem.Builtin.Str
theorem Ox (a b:Str):cp (a++b)=cp a++cp b:=by show(a.cps++b.cps).toList=_;simp[cp]
theorem CG (c:Nat):∀ (l:List Str) (x y:Str),cp (Str.join ⟨#[c]⟩ (x::y::l))=cp x++c::cp (Str.join ⟨#[c]⟩ (y::l)):=fun l x y=>by
 show cp (x++(⟨#[c]⟩:Str)++Str.join ⟨#[c]⟩ (y::l))=_;rw[Ox,Ox,List.append_assoc];rfl
theorem uF {c:Nat}:∀ {a b r s:List Nat},c ∉ a->c ∉ b->a++c::r=b++c::s->a=b/\r=s
 | [],[],r,s,_,_,e=>by cases e;exact⟨rfl,rfl⟩
 | [],y::b,r,s,_,hb,e=>by cases e;exact(hb (List.mem_cons_self ..)).elim
 | x::a,[],r,s,ha,_,e=>by cases e;exact(ha (List.mem_cons_self ..)).elim
 | x::a,y::b,r,s,ha,hb,e=>by
  rw[List.cons_append,List.cons_append] at e;injection e with e1 e2
  obtain⟨f1,f2⟩:=uF (fun h=>ha (List.mem_cons_of_mem _ h)) (fun h=>hb (List.mem_cons_of_mem _ h)) e2;exact⟨by rw[e1,f1],f2⟩
theorem El {c:Nat}:∀ {ps ws:List Str},ps≠[]->ws≠[]->(∀ p∈ps,c ∉ cp p)->(∀ p∈ws,c ∉ cp p)->cp (Str.join ⟨#[c]⟩ ps)=cp (Str.join ⟨#[c]⟩ ws)->ps=ws
 | [],_,h,_,_,_,_=>(h rfl).elim
 | _::_,[],_,h,_,_,_=>(h rfl).elim
 | [p],[w],_,_,_,_,e=>by rw[dw (a:=p) (b:=w) e]
 | [p],w::v::r,_,_,hp,_,e=>by
  rw[CG] at e;exact(hp p (List.mem_cons_self ..) (by show c∈cp (Str.join ⟨#[c]⟩ [p]);rw[e];simp)).elim
 | p::q::r,[w],_,_,_,hw,e=>by
  rw[CG] at e;exact(hw w (List.mem_cons_self ..) (by show c∈cp (Str.join ⟨#[c]⟩ [w]);rw[<- e];simp)).elim
 | p::q::r,w::v::s,_,_,hp,hw,e=>by
  rw[CG,CG] at e;obtain⟨f1,f2⟩:=uF (hp p (List.mem_cons_self ..)) (hw w (List.mem_cons_self ..)) e;rw[dw f1,El (by simp) (by simp) (fun z hz=>hp z (List.mem_cons_of_mem _ hz)) (fun z hz=>hw z (List.mem_cons_of_mem _ hz)) f2]
theorem Dw (x y:Str):Txt.split x y≠[]:=by
 unfold Txt.split;split
 ·simp
 ·split
  ·simp
  ·intro h;have:=congrArg List.length h;rw[PySem.length_partsBetween] at this;simp at this
theorem qd {c:Nat}{ws:List Str}(h0:ws≠[])(h:∀ p∈ws,c ∉ cp p):Txt.split (Txt.join ⟨#[c]⟩ ws) ⟨#[c]⟩=ws:=by
 have e:Txt.join ⟨#[c]⟩ ws=Str.join ⟨#[c]⟩ ws:=StrLaws.glued_eq_join ..;rw[e];exact El (Dw _ _) h0 (fun p hp=>StrLaws.split_free _ c p hp) h (congrArg cp (StrLaws.join_split (Str.join ⟨#[c]⟩ ws) ⟨#[c]⟩))
theorem qE (s:Str):∀ (l:List Str) (x y:Str),cp (Str.join s (x::y::l))=cp x++(cp s++cp (Str.join s (y::l))):=fun l x y=>by
 show cp (x++s++Str.join s (y::l))=_;rw[Ox,Ox,List.append_assoc]
theorem Au {c d:Nat}:∀ {ps ws:List Str},ps≠[]->ws≠[]->(∀ p∈ps,c ∉ cp p)->(∀ p∈ws,c ∉ cp p)->cp (Str.join ⟨#[c,d]⟩ ps)=cp (Str.join ⟨#[c,d]⟩ ws)->ps=ws
 | [],_,h,_,_,_,_=>(h rfl).elim
 | _::_,[],_,h,_,_,_=>(h rfl).elim
 | [p],[w],_,_,_,_,e=>by rw[dw (a:=p) (b:=w) e]
 | [p],w::v::r,_,_,hp,_,e=>by
  rw[qE] at e;exact(hp p (List.mem_cons_self ..) (by show c∈cp (Str.join ⟨#[c,d]⟩ [p]);rw[e];simp)).elim
 | p::q::r,[w],_,_,_,hw,e=>by
  rw[qE] at e;exact(hw w (List.mem_cons_self ..) (by show c∈cp (Str.join ⟨#[c,d]⟩ [w]);rw[<- e];simp)).elim
 | p::q::r,w::v::s,_,_,hp,hw,e=>by
  rw[qE,qE] at e;obtain⟨f1,f2⟩:=uF (c:=c) (r:=d::_) (s:=d::_) (hp p (List.mem_cons_self ..)) (hw w (List.mem_cons_self ..)) e;injection f2 with _ f2
  rw[dw f1,Au (by simp) (by simp) (fun z hz=>hp z (List.mem_cons_of_mem _ hz)) (fun z hz=>hw z (List.mem_cons_of_mem _ hz)) f2]
theorem OO {x:Str}{c d i:Nat}(h1:(cp x)[i]?=some c)(h2:(cp x)[i+1]?=some d):StrLaws.At x ⟨#[c,d]⟩ x.length i:=by
 have hl:i < (cp x).length:=(List.getElem?_eq_some_iff.mp h1).1;have hl2:i+1 < (cp x).length:=(List.getElem?_eq_some_iff.mp h2).1;have hl':i+1 < x.cps.size:=by simpa [cp] using hl2
 refine⟨by show i+2<=x.cps.size;omega,?_⟩;unfold subAt;apply beq_iff_eq.mpr;apply Array.ext';show(x.cps.extract i (i+2)).toList=[c,d];rw[Array.toList_extract,List.extract_eq_take_drop,Nat.add_sub_cancel_left];show List.take 2 (List.drop i (cp x))=[c,d];rw[List.drop_eq_getElem_cons hl,List.drop_eq_getElem_cons hl2,(List.getElem?_eq_some_iff.mp h1).2,(List.getElem?_eq_some_iff.mp h2).2];rfl
noncomputable def Fol (c d:Nat)(l:List Nat):Prop:=∀ j,l[j]?=some c->l[j+1]?=some d
theorem Ew {c d:Nat}(hcd:d≠c):∀ {ws:List Str},(∀ p∈ws,c ∉ cp p)->Fol c d (cp (Str.join ⟨#[c,d]⟩ ws))
 | [],_,j,h=>by cases h
 | [w],hw,j,h=>(hw w (List.mem_cons_self ..) (List.mem_of_getElem? h)).elim
 | w::v::r,hw,j,h=>by
  have ih:=Ew hcd (ws:=v::r) fun p hp=>hw p (List.mem_cons_of_mem _ hp);rw[qE] at h ⊢;rcases Nat.lt_or_ge j (cp w).length with l | l
  ·rw[List.getElem?_append_left l] at h;exact(hw w (List.mem_cons_self ..) (List.mem_of_getElem? h)).elim
  ·rw[List.getElem?_append_right l] at h;rw[List.getElem?_append_right (by omega),show j+1 - (cp w).length=(j - (cp w).length)+1 by omega];generalize j - (cp w).length=m at h ⊢
   match m,h with
   | 0,_=>rfl
   | 1,h=>injection h with h;exact(hcd h).elim
   | m+2,h=>exact ih m h
theorem qt (x:Str){c d:Nat}(hf:Fol c d (cp x))(a b:Nat)(hb:b<=x.length)(hn:∀ k,a<=k->k < b->¬ StrLaws.At x ⟨#[c,d]⟩ x.length k):c ∉ cp (strSub x a b):=by
 intro hm;unfold cp at hm;rw[StrLaws.strSub_toList] at hm;obtain⟨j,hj⟩:=List.getElem?_of_mem hm;have hlt:j < b - a:=by
  have:=(List.getElem?_eq_some_iff.mp hj).1;rw[List.length_take] at this;omega
 rw[List.getElem?_take_of_lt hlt,List.getElem?_drop] at hj;exact hn (a+j) (by omega) (by omega) (OO hj (hf _ hj))
theorem ve (x:Str){c d:Nat}(hf:Fol c d (cp x)):∀ (cuts:List Nat) (a f:Nat),StrLaws.ChainG x ⟨#[c,d]⟩ x.length a cuts f->(∀ k,f<=k->¬ StrLaws.At x ⟨#[c,d]⟩ x.length k)->∀ p∈StrLaws.partsFrom x (⟨#[c,d]⟩:Str).length a cuts,c ∉ cp p
 | [],a,f,h,hn,p,hp=>by
  have e:f=a:=h;subst e;rw[List.mem_singleton.mp hp];exact qt x hf f x.length (Nat.le_refl _) fun k h1 _=>hn k h1
 | z::r,a,f,h,hn,p,hp=>by
  rcases List.mem_cons.mp hp with rfl | hp'
  ·exact qt x hf a z (by have:=h.2.1.1;omega) h.2.2.1
  ·exact ve x hf r _ f h.2.2.2 hn p hp'
theorem DA (x:Str){c d:Nat}(hf:Fol c d (cp x))(hc:c < 256)(hd:d < 256):∀ p∈Txt.split x ⟨#[c,d]⟩,c ∉ cp p:=by
 obtain⟨f,hG,hn⟩:=StrLaws.occ_tight x ⟨#[c,d]⟩ (by show 1<=2;omega);unfold Txt.split;split
 ·rename_i hk;intro p hp;rw[List.mem_singleton.mp hp];intro hm;obtain⟨j,hj⟩:=List.getElem?_of_mem hm;have hA:=OO hj (hf _ hj);rw[Bool.or_eq_true,decide_eq_true_eq,decide_eq_true_eq] at hk;rcases hk with h | h
  ·have:=hA.1;omega
  ·have hs:PySem.Builtin.Str.strKind ⟨#[c,d]⟩<=PySem.Builtin.Str.strKind x:=by
    unfold PySem.Builtin.Str.strKind;have k1:(#[c,d]:Array Nat).all (· < 256)=true:=by simp[hc,hd]
    simp only[k1,if_true];split
    ·omega
    ·split <;> omega
   omega
 ·split
  ·rename_i he;intro p hp;rw[List.mem_singleton.mp hp];have e0:occurrences x ⟨#[c,d]⟩ 0 x.length (x.length+1)=[]:=List.isEmpty_iff.mp he;rw[e0] at hG;have ef:f=0:=hG;subst ef;rw[<- StrLaws.sub_whole x];exact qt x hf 0 x.length (Nat.le_refl _) fun k h1 _=>hn k h1
  ·rw[StrLaws.partsBetween_eq];exact ve x hf _ 0 f hG hn
theorem Dy {c d:Nat}{ws:List Str}(h0:ws≠[])(h:∀ p∈ws,c ∉ cp p)(hcd:d≠c)(hc:c < 256)(hd:d < 256):Txt.split (Txt.join ⟨#[c,d]⟩ ws) ⟨#[c,d]⟩=ws:=by
 have e:Txt.join ⟨#[c,d]⟩ ws=Str.join ⟨#[c,d]⟩ ws:=StrLaws.glued_eq_join ..;rw[e];exact Au (Dw _ _) h0 (DA _ (Ew hcd h) hc hd) h (congrArg cp (StrLaws.join_split (Str.join ⟨#[c,d]⟩ ws) ⟨#[c,d]⟩))
theorem lN {x:Str}{c i:Nat}:StrLaws.At x ⟨#[c]⟩ x.length i↔(cp x)[i]?=some c:=by
 unfold StrLaws.At subAt;constructor
 ·intro⟨h1,h2⟩;have h2:=eq_of_beq h2;have h3:(x.cps.extract i (i+1))[0]?=some c:=by rw[show x.cps.extract i (i+1)=#[c] from h2];rfl
  rw[Array.getElem?_extract] at h3;split at h3
  ·simpa [cp] using h3
  ·cases h3
 ·intro h;have hl:i < (cp x).length:=(List.getElem?_eq_some_iff.mp h).1;have hl':i < x.cps.size:=by simpa [cp] using hl
  refine⟨by show i+1<=x.cps.size;omega,?_⟩;apply beq_iff_eq.mpr;apply Array.ext';show(x.cps.extract i (i+1)).toList=[c];rw[Array.toList_extract,List.extract_eq_take_drop,Nat.add_sub_cancel_left];show List.take 1 (List.drop i (cp x))=[c];rw[List.drop_eq_getElem_cons hl,(List.getElem?_eq_some_iff.mp h).2];simp
theorem J8 {x:Str}{c:Nat}(h:c ∉ cp x):Txt.partition x ⟨#[c]⟩=(x,Str.empty,Str.empty):=by
 unfold Txt.partition;rcases StrLaws.occ_head x ⟨#[c]⟩ 1 (Nat.le_refl 1) with ⟨h0,hn⟩ | ⟨i,r,h0,hi,hn⟩
 ·rw[h0]
 ·exact(h (List.mem_of_getElem? (lN.mp hi))).elim
theorem J7 {a b:Str}{c:Nat}(h:c ∉ cp a):Txt.partition (a++⟨#[c]⟩++b) ⟨#[c]⟩=(a,⟨#[c]⟩,b):=by
 have e:cp (a++⟨#[c]⟩++b)=cp a++c::cp b:=by rw[Ox,Ox,List.append_assoc];rfl
 have hat:(cp (a++(⟨#[c]⟩:Str)++b))[(cp a).length]?=some c:=by rw[e,List.getElem?_append_right (Nat.le_refl _),Nat.sub_self];rfl
 unfold Txt.partition;rcases StrLaws.occ_head (a++⟨#[c]⟩++b) ⟨#[c]⟩ 1 (Nat.le_refl 1) with ⟨h0,hn⟩ | ⟨i,r,h0,hi,hn⟩
 ·exact(hn _ (lN.mpr hat)).elim
 ·rw[h0];have h1:i=(cp a).length:=by
   have hi':=lN.mp hi;rcases Nat.lt_trichotomy i (cp a).length with l | l | l
   ·rw[e,List.getElem?_append_left l] at hi';exact(h (List.mem_of_getElem? hi')).elim
   ·exact l
   ·exact(hn _ l (lN.mpr hat)).elim
  subst h1;have f1:strSub (a++⟨#[c]⟩++b) 0 (cp a).length=a:=dw (by
   unfold cp;rw[StrLaws.strSub_toList];show List.take _ (List.drop 0 (cp (a++(⟨#[c]⟩:Str)++b)))=cp a;rw[e,List.drop_zero,Nat.sub_zero,List.take_left])
  have f2:strSub (a++⟨#[c]⟩++b) ((cp a).length+1) (a++(⟨#[c]⟩:Str)++b).length=b:=dw (by
   unfold cp;rw[StrLaws.strSub_toList];show List.take _ (List.drop _ (cp (a++(⟨#[c]⟩:Str)++b)))=cp b;rw[bB,e,show cp a++c::cp b=(cp a++[c])++cp b by simp,List.drop_left' (by simp)];exact List.take_of_length_le (by simp;omega))
  show(strSub _ 0 _,_,strSub _ ((cp a).length+1) _)=_;rw[f1,f2]
theorem Gx {c:Nat}{x r:Str}{n:Nat}(e:cp x=List.replicate n c++cp r)(h:(cp r).head?≠some c):Txt.lstripChars x ⟨#[c]⟩=r:=by
 unfold Txt.lstripChars;rw[PyProof.Rows.stripBy_eq];have hg:∀ k:Nat,(#[c]:Array Nat).contains k=(k == c):=fun k=>by simp;rfl
 have t:((cp x).takeWhile fun k=>(#[c]:Array Nat).contains k).length=n:=by
  rw[e];clear e
  induction n with
  | zero =>
   rw[List.replicate_zero,List.nil_append];cases q:cp r with
   | nil=>rfl
   | cons y l =>
    rw[q] at h;have:y≠c:=fun w=>h (by rw[w];rfl);rw[List.takeWhile_cons,hg,beq_false_of_ne this];rfl
  | succ n ih=>rw[List.replicate_succ,List.cons_append,List.takeWhile_cons,hg];simp only[beq_self_eq_true,if_true,List.length_cons];rw[ih]
 refine dw ?_;unfold cp;rw[StrLaws.strSub_toList];show List.take _ (List.drop (((cp x).takeWhile fun k=>(#[c]:Array Nat).contains k).length) (cp x))=cp r;rw[t,e,List.drop_left' (by simp)];refine List.take_of_length_le ?_;show(cp r).length<=x.length - _;rw[bB,e];show _<=_ - ((cp x).takeWhile fun k=>(#[c]:Array Nat).contains k).length;rw[t];simp
theorem F5 {c:Nat}{x r:Str}{n:Nat}(e:cp x=cp r++List.replicate n c)(h:(cp r).getLast?≠some c):Txt.rstripChars x ⟨#[c]⟩=r:=by
 unfold Txt.rstripChars;rw[PyProof.Rows.stripBy_eq];have hg:∀ k:Nat,(#[c]:Array Nat).contains k=(k == c):=fun k=>by simp;rfl
 have t:((cp x).reverse.takeWhile fun k=>(#[c]:Array Nat).contains k).length=n:=by
  rw[e,List.reverse_append,List.reverse_replicate];rw[List.getLast?_eq_head?_reverse] at h;clear e;generalize (cp r).reverse=z at h
  induction n with
  | zero =>
   rw[List.replicate_zero,List.nil_append];cases z with
   | nil=>rfl
   | cons y l =>
    have:y≠c:=fun w=>h (by rw[w];rfl);rw[List.takeWhile_cons,hg,beq_false_of_ne this];rfl
  | succ n ih=>rw[List.replicate_succ,List.cons_append,List.takeWhile_cons,hg];simp only[beq_self_eq_true,if_true,List.length_cons];rw[ih]
 refine dw ?_;unfold cp;rw[StrLaws.strSub_toList];show List.take (x.length - ((List.drop 0 (cp x)).reverse.takeWhile fun k=>(#[c]:Array Nat).contains k).length - 0) (List.drop 0 (cp x))=cp r;rw[List.drop_zero,t,bB,e,Nat.sub_zero];rw[List.length_append,List.length_replicate,Nat.add_sub_cancel,List.take_left]
end Hw
namespace L3
open PySem L2 Hw
section
variable {G:aY->Prop}{g:vv}{tb:qN}{tt:pX}{te:cX}{δ0:Sl}
theorem wN {E:tN}{δ:Sl}{S:aY}{its:List D}(I:Nat->Sl->aY->Prop)(h0:I 0 δ S)
  (hs:∀ i x δ S (N:KS),its[i]?=some x->I i δ S->(∀ δ' S',I (i+1) δ' S'->N δ' S')->G S/\g x δ S fun δ1 S1=>tb { E with nx:=N,ct:=N,bk:=E.nx } δ1 S1)
  (hd:∀ δ S,I its.length δ S->G S/\E.nx δ S):zT G g tb its E δ S:=by
 have go:∀ (n i:Nat) (δ:Sl) (S:aY),its.length - i=n->i<=its.length->I i δ S->zT G g tb (its.drop i) E δ S:=by
  intro n
  induction n with
  | zero =>
   intro i δ S e hi h;have:i=its.length:=by omega
   subst this;rw[List.drop_length];exact hd δ S h
  | succ n ih =>
   intro i δ S e hi h;have hlt:i < its.length:=by omega
   rw[List.drop_eq_getElem_cons hlt];exact hs i its[i] δ S _ (List.getElem?_eq_getElem hlt) h fun δ' S' h'=>ih (i+1) δ' S' (by omega) hlt h'
 have:=go _ 0 δ S rfl (Nat.zero_le _) h0;rwa [List.drop_zero] at this
noncomputable def elem (g:vv)(tt:pX)(te:cX)(δ0:Sl)(x:D)(S:aY)(k:Option T->aY->Prop):Prop :=
 g x δ0 S fun δ1 S1=>tt δ1 S1 fun b S2=>if b=true then te δ1 S2 fun d S3=>∃ y,d=.t y/\k (some y) S3 else k none S2
noncomputable def a1I (ys:List T):Option T->List T
 | some y=>ys++[y]
 | none=>ys
theorem Oz {k:List T->aY->Prop}{ys:List T}{S:aY}{its:List D}(I:Nat->List T->aY->Prop)(h0:I 0 ys S)
  (hs:∀ i x ys S (k':Option T->aY->Prop),its[i]?=some x->I i ys S->(∀ o S',I (i+1) (a1I ys o) S'->k' o S')->G S/\ys.length < sizeLine/\elem g tt te δ0 x S k')
  (hd:∀ ys S,I its.length ys S->G S/\k ys S):eU G g tt te δ0 its S ys k:=by
 have go:∀ (n i:Nat) (ys:List T) (S:aY),its.length - i=n->i<=its.length->I i ys S->eU G g tt te δ0 (its.drop i) S ys k:=by
  intro n
  induction n with
  | zero =>
   intro i ys S e hi h;have:i=its.length:=by omega
   subst this;rw[List.drop_length];exact hd ys S h
  | succ n ih =>
   intro i ys S e hi h;have hlt:i < its.length:=by omega
   rw[List.drop_eq_getElem_cons hlt];obtain⟨h1,h2,h3⟩:=hs i its[i] ys S (fun o S'=>match o with | some y=>ys.length < sizeLine/\eU G g tt te δ0 (its.drop (i+1)) S' (ys++[y]) k | none=>eU G g tt te δ0 (its.drop (i+1)) S' ys k) (List.getElem?_eq_getElem hlt) h fun o S' h'=>by
    cases o with
    | none=>exact ih (i+1) ys S' (by omega) hlt h'
    | some y=>exact⟨(hs i its[i] ys S (fun _ _=>True) (List.getElem?_eq_getElem hlt) h fun _ _ _=>trivial).2.1,ih (i+1) (ys++[y]) S' (by omega) hlt h'⟩
   exact⟨h1,h3⟩
 have:=go _ 0 ys S rfl (Nat.zero_le _) h0;rwa [List.drop_zero] at this
end
noncomputable abbrev Sm:=List (Str×Int)×Int
noncomputable def wt (l:List (Str×Int))(x:Str):Int:=((l.filter fun p=>decide (p.1=x)).map (·.2)).sum
noncomputable def norm (l:List (Str×Int)):List (Str×Int):=((qZ (l.map (·.1))).map fun x=>(x,wt l x)).filter fun p=>decide (p.2≠0)
noncomputable def sumOf (l:List (Str×Int))(n:Int):Sm:=(norm l,n)
noncomputable def pT (p:Str×Int):T:=.tup [.str p.1,.int p.2]
theorem mE (x:Str):wt [] x=0:=rfl
theorem ck (p:Str×Int)(l:List (Str×Int))(x:Str):wt (p::l) x=(if p.1=x then p.2 else 0)+wt l x:=by
 unfold wt;by_cases h:p.1=x
 ·rw[List.filter_cons_of_pos (by simpa using h),List.map_cons,List.sum_cons,if_pos h]
 ·rw[List.filter_cons_of_neg (by simpa using h),if_neg h];omega
theorem jN (l m:List (Str×Int))(x:Str):wt (l++m) x=wt l x+wt m x:=by
 induction l with
 | nil=>rw[mE];simp
 | cons p r ih=>rw[List.cons_append,ck,ck,ih];omega
theorem kN {l:List (Str×Int)}{x:Str}(h:x ∉ l.map (·.1)):wt l x=0:=by
 induction l with
 | nil=>rfl
 | cons p r ih =>
  rw[List.map_cons,List.mem_cons,not_or] at h;rw[ck,if_neg (fun e=>h.1 e.symm),ih h.2];rfl
structure yZ (l:List (Str×Int))(d:List (Key×T)):Prop where
 val:∀ x,iu d (.inr x)=if x∈l.map (·.1) then some (.int (wt l x)) else none
 keys:∃ ss:List Str,d.map (·.1)=ss.map Sum.inr/\ss.Nodup/\∀ x,x∈ss↔x∈l.map (·.1)
 len:d.length<=l.length
theorem ED (d:List (Key×T))(a b:Key)(v:T):iu (dput d a v) b=if a=b then some v else iu d b:=by
 unfold dput;by_cases h:(d.any fun p=>decide (p.1=a))=true
 ·rw[if_pos h]
  induction d with
  | nil=>simp at h
  | cons p r ih =>
   rw[List.map_cons];unfold iu at ih ⊢;by_cases e:p.1=a
   ·rw[if_pos e];by_cases q:a=b
    ·subst q;rw[if_pos rfl];simp[List.find?_cons,e]
    ·rw[if_neg q];have ne:¬ p.1=b:=fun z=>q (e ▸ z);rw[List.find?_cons_of_neg (by simpa using ne),List.find?_cons_of_neg (by simpa using ne)];by_cases h2:(r.any fun p=>decide (p.1=a))=true
     ·rw[ih h2,if_neg q]
     ·have:r.map (fun p=>if p.1=a then (p.1,v) else p)=r:=by
       have hn:∀ z∈r,¬ z.1=a:=fun z hz e=>h2 (List.any_eq_true.mpr ⟨z,hz,by simpa using e⟩);have:∀ (r:List (Key×T)),(∀ z∈r,¬ z.1=a)->r.map (fun p=>if p.1=a then (p.1,v) else p)=r:=by
        intro r
        induction r with
        | nil=>intro _;rfl
        | cons z s ih=>intro hz;rw[List.map_cons,if_neg (hz z List.mem_cons_self),ih fun y hy=>hz y (List.mem_cons_of_mem _ hy)]
       exact this r hn
      rw[this]
   ·rw[if_neg e];have h2:(r.any fun p=>decide (p.1=a))=true:=by
     rw[List.any_cons,decide_eq_false e,Bool.false_or] at h;exact h
    by_cases q:p.1=b
    ·have:¬ a=b:=fun z=>e (q.trans z.symm);rw[if_neg this,List.find?_cons_of_pos (by simpa using q),List.find?_cons_of_pos (by simpa using q)]
    ·rw[List.find?_cons_of_neg (by simpa using q),List.find?_cons_of_neg (by simpa using q)];exact ih h2
 ·rw[if_neg h];unfold iu;have hn:∀ z∈d,¬ z.1=a:=fun z hz e=>h (List.any_eq_true.mpr ⟨z,hz,by simpa using e⟩);by_cases q:a=b
  ·subst q;rw[if_pos rfl,List.find?_append];have:d.find? (fun p=>decide (p.1=a))=none:=List.find?_eq_none.mpr fun z hz=>by simpa using hn z hz
   rw[this];simp
  ·rw[if_neg q,List.find?_append];have:([(a,v)]:List (Key×T)).find? (fun p=>decide (p.1=b))=none:=by simp[List.find?_cons,q]
   rw[this];simp
theorem AB (d:List (Key×T))(a:Key)(v:T):(a∈d.map (·.1)->(dput d a v).map (·.1)=d.map (·.1))/\(a ∉ d.map (·.1)->(dput d a v).map (·.1)=d.map (·.1)++[a]):=by
 unfold dput;by_cases h:(d.any fun p=>decide (p.1=a))=true
 ·obtain⟨z,hz,e⟩:=List.any_eq_true.mp h;have hm:a∈d.map (·.1):=List.mem_map.mpr ⟨z,hz,by simpa using e⟩;refine⟨fun _=>?_,fun z=>absurd hm z⟩;rw[if_pos h,List.map_map];refine List.map_congr_left fun p _=>?_;show(if p.1=a then (p.1,v) else p).1=p.1;split <;> rfl
 ·have hm:a ∉ d.map (·.1):=fun hm=>by
   obtain⟨z,hz,e⟩:=List.mem_map.mp hm;exact h (List.any_eq_true.mpr ⟨z,hz,by simpa using e⟩)
  refine⟨fun z=>absurd z hm,fun _=>?_⟩;rw[if_neg h,List.map_append];rfl
theorem yZ.nil:yZ [] []:=⟨fun x=>by simp[iu],⟨[],rfl,.nil,fun x=>by simp⟩,Nat.le_refl _⟩
theorem yZ.snoc {l:List (Str×Int)}{d:List (Key×T)}(h:yZ l d)(x:Str)(w:Int){i:Int}(hi:i=wt l x+w):yZ (l++[(x,w)]) (dput d (.inr x) (.int i)):=by
 obtain⟨ss,h1,h2,h3⟩:=h.keys;refine⟨fun y=>?_,?_,?_⟩
 ·rw[ED,h.val y,List.map_append,jN,ck,mE];by_cases e:x=y
  ·subst e;rw[if_pos rfl,if_pos (by simp),if_pos rfl,hi];congr 3;omega
  ·have:¬ (Sum.inr x:Key)=Sum.inr y:=fun z=>e (Sum.inr.inj z);rw[if_neg this,if_neg e];by_cases m:y∈l.map (·.1)
   ·rw[if_pos m,if_pos (List.mem_append_left _ m)];congr 3;omega
   ·rw[if_neg m,if_neg];intro z;rcases List.mem_append.mp z with z | z
    ·exact m z
    ·simp at z;exact e z.symm
 ·obtain⟨k1,k2⟩:=AB d (.inr x) (.int i);rw[h1] at k1 k2;by_cases m:(Sum.inr x:Key)∈ss.map Sum.inr
  ·have mx:x∈ss:=by
    obtain⟨y,hy,e⟩:=List.mem_map.mp m;rw[<- Sum.inr.inj e];exact hy
   refine⟨ss,k1 m,h2,fun y=>?_⟩;rw[h3 y,List.map_append,List.mem_append];constructor
   ·exact .inl
   ·rintro(z | z)
    ·exact z
    ·simp at z;subst z;exact(h3 y).mp mx
  ·have mx:x ∉ ss:=fun z=>m (List.mem_map.mpr ⟨x,z,rfl⟩);refine⟨ss++[x],by rw[k2 m];simp,?_,fun y=>?_⟩
   ·rw[List.nodup_append];refine⟨h2,by simp,fun a ha b hb=>?_⟩;rw[List.mem_singleton.mp hb];exact fun z=>mx (z ▸ ha)
   ·rw[List.map_append,List.mem_append,List.mem_append,h3 y];simp
 ·have:(dput d (.inr x) (.int i)).length<=d.length+1:=by
   unfold dput;split
   ·simp
   ·simp
  have:=h.len;simp;omega
theorem sz (n:Nat)(h:n<=1000:=by decide):n<=sizeLine:=Nat.le_trans h (by rw[sizeLine_eq];decide)
theorem j4 {n:Nat}(h:n<=1000):n<=sizeLine:=sz n h
theorem A4 {n:Nat}(h:n<=1000):n < sizeLine:=JW h
theorem aD {S:aY}{o:O}:(S++[o])[S.length]?=some o:=by simp
theorem cC {S:aY}{o o':O}:(S++[o]).set S.length o'=S++[o']:=by simp
theorem made {S:aY}{C:Addr}{ns:List Str}{l:List T}{o:O}{k:KD}(h:k (.t (.ins C ns l)) S):T8 C S k .dO ((S++[o]).set S.length (.ins C ns (l.map .t))):=⟨rfl,ns,l,cC,h⟩
theorem RH (l:List (Str×Int)):(qZ (l.map (·.1))).filterMap (fun x=>if wt l x≠0 then some (pT (x,wt l x)) else none)=(norm l).map pT:=by
 unfold norm;generalize qZ (l.map (·.1))=r
 induction r with
 | nil=>rfl
 | cons a r ih =>
  rw[List.map_cons];by_cases h:wt l a≠0
  ·rw[List.filterMap_cons_some (f:=fun x=>if wt l x≠0 then some (pT (x,wt l x)) else none) (if_pos h),ih,List.filter_cons_of_pos (by simpa using h)];rfl
  ·rw[List.filterMap_cons_none (f:=fun x=>if wt l x≠0 then some (pT (x,wt l x)) else none) (if_neg h),ih,List.filter_cons_of_neg (by simpa using h)]
theorem Nv (l:List (Str×Int)):(norm l).length<=l.length:=by
 unfold norm;have h1:=List.length_filter_le (fun p:Str×Int=>decide (p.2≠0)) ((qZ (l.map (·.1))).map fun x=>(x,wt l x));have h2:=rP (l.map (·.1));rw[List.length_map] at h1 h2;omega
theorem jf {a b:Int}:decide (V.int a=V.int b)=decide (a=b):=by
 rw[decide_eq_decide];exact⟨fun h=>V.int.inj h,fun h=>by rw[h]⟩
theorem A5 {a b:Str}:decide (V.str a=V.str b)=decide (a=b):=by
 rw[decide_eq_decide];exact⟨fun h=>V.str.inj h,fun h=>by rw[h]⟩
section
variable {S loc:aY}{d:D}{l:List T}
theorem IZ (h:lq S d=some l):lq (S++loc) d=some l:=by
 cases d with
 | t x=>cases x <;> exact h
 | ob n =>
  have h:(match S[n]? with | some (.lst l)=>some l | _=>none)=some l:=h;show(match (S++loc)[n]? with | some (.lst l)=>some l | _=>none)=some l;cases q:S[n]? with
  | none=>rw[q] at h;cases h
  | some o =>
   rw[List.getElem?_append_left (List.getElem?_eq_some_iff.mp q).1,q];rw[q] at h;exact h
theorem rm (h:xq S d=some l):d=.tup l∨lq S d=some l:=by
 cases d with
 | ob n=>exact .inr h
 | t x =>
  cases x with
  | tup m=>left;have h:some m=some l:=h;injection h with h;rw[h]
  | _=>exact .inr h
theorem Tc (h:xq S d=some l):xq (S++loc) d=some l:=by
 rcases rm h with rfl | h
 ·rfl
 ·cases d with
  | ob n=>exact IZ h
  | t x =>
   cases x with
   | tup m=>cases h
   | _=>exact h
theorem w4 (h:xq S d=some l):sq S d=some l:=by
 rcases rm h with rfl | h
 ·rfl
 ·cases d with
  | ob n=>exact h
  | t x =>
   cases x with
   | tup m=>cases h
   | Fq m=>cases h
   | _=>exact h
theorem ON {n:Nat}{o:O}(h:S[n]?=some o):(S++loc)[n]?=some o:=by rw[List.getElem?_append_left (List.getElem?_eq_some_iff.mp h).1];exact h
theorem Ub {k:List D->(aY->Prop)->aY->Prop}(h:xq S d=some l)(hk:∀ G:aY->Prop,(∀ loc,G (S++loc))->k (l.map .t) G (S++loc)):KY d (S++loc) k:=by
 rcases rm h with rfl | h
 ·exact .inl ⟨l,.inl rfl,hk _ fun _=>trivial⟩
 ·cases d with
  | t x =>
   cases x with
   | lst m =>
    have h:some m=some l:=h;injection h with h
    subst h;exact .inl ⟨m,.inr rfl,hk _ fun _=>trivial⟩
   | _=>cases h
  | ob n =>
   have h':(match S[n]? with | some (.lst l)=>some l | _=>none)=some l:=h;cases q:S[n]? with
   | none=>rw[q] at h';cases h'
   | some o =>
    rw[q] at h';cases o with
    | lst m =>
     have h':some m=some l:=h';injection h' with h'
     subst h';exact .inr ⟨n,m,rfl,ON q,hk _ fun loc=>ON q⟩
    | _=>cases h'
theorem N2 {k:List D->(aY->Prop)->aY->Prop}(h:xq S d=some l)(hk:∀ G:aY->Prop,(∀ loc,G (S++loc))->k (l.map .t) G S):KY d S k:=by
 have:=Ub (loc:=[]) (k:=k) h (by simpa using hk);simpa using this
theorem sJ {k:List D->(aY->Prop)->aY->Prop}(hk:k (l.map .t) (fun _=>True) S):KY (.tup l) S k:=.inl ⟨l,.inl rfl,hk⟩
theorem nq {k:List D->(aY->Prop)->aY->Prop}(hk:k (l.map .t) (fun _=>True) S):KY (.lst l) S k:=.inl ⟨l,.inr rfl,hk⟩
end
theorem yH {α:Type}{G:aY->Prop}{g:vv}{tt:pX}{te:cX}{δ0:Sl}{k:List T->aY->Prop}{S:aY}{l:List α}(c:α->T)(f:α->Option T)(hG:G S)(hl:l.length<=sizeLine)(hs:∀ x∈l,∀ k':Option T->aY->Prop,k' (f x) S->elem g tt te δ0 (.t (c x)) S k')
  (hk:k (l.filterMap f) S):eU G g tt te δ0 ((l.map c).map .t) S [] k:=by
 have go:∀ (r:List α) (ys:List T),ys.length+r.length<=sizeLine->(∀ x∈r,∀ k':Option T->aY->Prop,k' (f x) S->elem g tt te δ0 (.t (c x)) S k')->k (ys++r.filterMap f) S->eU G g tt te δ0 ((r.map c).map .t) S ys k:=by
  intro r
  induction r with
  | nil=>intro ys _ _ q;rw[List.filterMap_nil,List.append_nil] at q;exact⟨hG,q⟩
  | cons a r ih =>
   intro ys hz hs q;rw[List.length_cons] at hz;refine⟨hG,hs a List.mem_cons_self (fun o S'=>match o with | some y=>ys.length < sizeLine/\eU G g tt te δ0 ((r.map c).map .t) S' (ys++[y]) k | none=>eU G g tt te δ0 ((r.map c).map .t) S' ys k) ?_⟩;cases e:f a with
   | none=>exact ih ys (by omega) (fun x hx=>hs x (List.mem_cons_of_mem _ hx)) (by rw[List.filterMap_cons_none e] at q;exact q)
   | some y=>exact⟨by omega,ih (ys++[y]) (by simp;omega) (fun x hx=>hs x (List.mem_cons_of_mem _ hx)) (by rw[List.filterMap_cons_some e] at q;simpa using q)⟩
 exact go l [] (by simpa using hl) hs (by simpa using hk)
theorem Sh {α β:Type}(f:α->β)(l:List α):l.filterMap (fun x=>some (f x))=l.map f:=by
 induction l with
 | nil=>rfl
 | cons a r ih=>rw[List.filterMap_cons_some (f:=fun x=>some (f x)) rfl,ih];rfl
theorem gi {α:Type}{G:aY->Prop}{g:vv}{tt:pX}{te:cX}{δ0:Sl}{k:List T->aY->Prop}{S:aY}{l:List α}(c f:α->T)(hG:G S)(hl:l.length<=sizeLine)(hs:∀ x∈l,∀ k':Option T->aY->Prop,k' (some (f x)) S->elem g tt te δ0 (.t (c x)) S k')
  (hk:k (l.map f) S):eU G g tt te δ0 ((l.map c).map .t) S [] k:=yH c (fun x=>some (f x)) hG hl hs (by rw[Sh];exact hk)
theorem Ax {α:Type}{G:aY->Prop}{g:vv}{tb:qN}{E:tN}{δ:Sl}{S:aY}{l:List α}(c:α->T)(I:List α->Sl->aY->Prop)(h0:I [] δ S)
  (hs:∀ pre x post δ S (N:KS),l=pre++x::post->I pre δ S->(∀ δ' S',I (pre++[x]) δ' S'->N δ' S')->G S/\g (.t (c x)) δ S fun δ1 S1=>tb { E with nx:=N,ct:=N,bk:=E.nx } δ1 S1)
  (hd:∀ δ S,I l δ S->G S/\E.nx δ S):zT G g tb ((l.map c).map .t) E δ S:=by
 have go:∀ (r pre:List α) (δ:Sl) (S:aY),l=pre++r->I pre δ S->zT G g tb ((r.map c).map .t) E δ S:=by
  intro r
  induction r with
  | nil=>intro pre δ S e h;rw[List.append_nil] at e;subst e;exact hd δ S h
  | cons a r ih=>intro pre δ S e h;exact hs pre a r δ S _ e h fun δ' S' h'=>ih (pre++[a]) δ' S' (by rw[e];simp) h'
 exact go l [] δ S rfl h0
theorem ln1 {l:List T}(h:l.length=1):∃ a,l=[a]:=by
 match l,h with
 | [a],_=>exact⟨a,rfl⟩
theorem ln2 {l:List T}(h:l.length=2):∃ a b,l=[a,b]:=by
 match l,h with
 | [a,b],_=>exact⟨a,b,rfl⟩
theorem ln3 {l:List T}(h:l.length=3):∃ a b c,l=[a,b,c]:=by
 match l,h with
 | [a,b,c],_=>exact⟨a,b,c,rfl⟩
theorem ln4 {l:List T}(h:l.length=4):∃ a b c d,l=[a,b,c,d]:=by
 match l,h with
 | [a,b,c,d],_=>exact⟨a,b,c,d,rfl⟩
theorem ln5 {l:List T}(h:l.length=5):∃ a b c d e,l=[a,b,c,d,e]:=by
 match l,h with
 | [a,b,c,d,e],_=>exact⟨a,b,c,d,e,rfl⟩
theorem ou {S:aY}{i:Nat}{o:O}(h:i < S.length):(S.set i o)[i]?=some o:=List.getElem?_set_self h
theorem Cn {S loc:aY}{j:Nat}{l:List T}(h:loc[j]?=some (.lst l)):lq (S++loc) (.ob (S.length+j))=some l:=by
 show(match (S++loc)[S.length+j]? with | some (.lst l)=>some l | _=>none)=some l;rw[oq,h]
noncomputable def vc (C:Addr)(ns:List Str):c6:=fun ds S k=>∃ (n:Nat) (l:List T),ds=.ob n::l.map .t/\l.length=ns.length/\S[n]?=some (.ins C [] [])/\k .dO (S.set n (.ins C ns (l.map .t)))
noncomputable def rQ (K:PySem.W.Frag):c6:=fun ds S k=>∃ (n:Nat) (x:T) (C:Addr),ds=[.ob n,.t x]/\S[n]?=some (.ins C [] [])/\aM K C "at"/\k .dO (S.set n (.ins C ["at"] ([x].map .t)))
theorem set_same {S:aY}{f:Nat}{o:O}(h:S[f]?=some o):S.set f o=S:=by
 obtain⟨h1,h2⟩:=List.getElem?_eq_some_iff.mp h;rw[<- h2];exact List.set_getElem_self h1
theorem iA {S S':aY}{d:D}{k:KD}(h:k d S'):closes S.length d S' k:=.inr (.inr (.inr h))
theorem aT {S:aY}{b:Nat}{C:Addr}{ns:List Str}{l:List D}(h:S[b]?=some (.ins C ns l)):iq S (.ob b)=some (C,ns,l):=by
 show(match S[b]? with | some (.ins C ns l)=>some (C,ns,l) | _=>none)=_;rw[h]
theorem Ic {S:aY}{b:Nat}{l:List T}(h:S[b]?=some (.lst l)):sq S (.ob b)=some l:=by
 unfold sq;show(match S[b]? with | some (.lst l)=>some l | _=>none)=_;rw[h]
theorem fu {S:aY}{b:Nat}{l:List T}(h:S[b]?=some (.lst l)):lq S (.ob b)=some l:=by
 show(match S[b]? with | some (.lst l)=>some l | _=>none)=_;rw[h]
theorem p8 {S:aY}{i:Nat}{C:Addr}{ns ns':List Str}{l l':List D}(h1:S[i]?=some (.ins C ns l)){d:D}{m:List T}(h:xq S d=some m):xq (S.set i (.ins C ns' l')) d=some m:=by
 rcases rm h with rfl | h
 ·rfl
 ·have key:lq (S.set i (.ins C ns' l')) d=some m:=by
   unfold lq at h ⊢;split at h
   ·exact h
   ·rename_i n hq;have hn:n≠i:=fun e=>by subst e;rw[h1] at h;cases h
    show(match (S.set i (O.ins C ns' l'))[n]? with | some (.lst l)=>some l | _=>none)=some m;rw[List.getElem?_set_ne (Ne.symm hn)];exact h
   ·cases h
  unfold xq;split
  ·unfold lq at key;cases key
  ·exact key
theorem XW {a b:Int}(h:a=b):xor false (decide (V.int a=V.int b))=true:=by rw[jf,decide_eq_true h];rfl
theorem zp {a b:Int}(h:a≠b):xor false (decide (V.int a=V.int b))=false:=by rw[jf,decide_eq_false h];rfl
theorem seq {a b:Str}(h:a=b):xor false (decide (V.str a=V.str b))=true:=by rw[A5,decide_eq_true h];rfl
theorem O9 {a b:Str}(h:a≠b):xor false (decide (V.str a=V.str b))=false:=by rw[A5,decide_eq_false h];rfl
theorem tF {a b:Str}(h:a≠b:=by decide +kernel):D.bl (xor false (decide (V.str a=V.str b)))=D.bl false:=congrArg D.bl (O9 h)
theorem tT {a b:Str}(h:a=b:=by rfl):D.bl (xor false (decide (V.str a=V.str b)))=D.bl true:=congrArg D.bl (seq h)
theorem iF {a b:Int}(h:a≠b:=by omega):D.bl (xor false (decide (V.int a=V.int b)))=D.bl false:=congrArg D.bl (zp h)
theorem iT {a b:Int}(h:a=b:=by omega):D.bl (xor false (decide (V.int a=V.int b)))=D.bl true:=congrArg D.bl (XW h)
theorem a3O {a b:Int}(h:a=b):xor true (decide (V.int a=V.int b))=false:=by rw[jf,decide_eq_true h];rfl
theorem a3M {a b:Int}(h:a≠b):xor true (decide (V.int a=V.int b))=true:=by rw[jf,decide_eq_false h];rfl
noncomputable def U8:c6:=fun _ _ _=>False
theorem cu {S loc:aY}{L q:Nat}(h:S.length=L):(S++loc)[L+q]?=loc[q]?:=by subst h;exact oq
theorem Xy {S:aY}{j:Nat}{l:List T}(c:Cl S):∀ o∈S.set j (.lst l),ES S.length o:=fun o ho=>by
 rcases List.mem_or_eq_of_mem_set ho with h | rfl
 ·exact c o h
 ·trivial
noncomputable def bS (S:aY)(d:Nat)(c m:Int):aY:=S.set d (.lst [.int c,.int m])
noncomputable def Dq (S:aY)(d:Nat):Prop:=∃ c m:Int,S[d]?=some (.lst [.int c,.int m])
section
variable {S loc:aY}{d:Nat}{a b c m:Int}
theorem Dq.lt (h:Dq S d):d < S.length:=by obtain⟨_,_,e⟩:=h;exact(List.getElem?_eq_some_iff.mp e).1
theorem Xj (h:d < S.length):(bS S d c m)[d]?=some (.lst [.int c,.int m]):=List.getElem?_set_self h
theorem Dq.bS (h:Dq S d):Dq (bS S d c m) d:=⟨c,m,Xj h.lt⟩
theorem gh:L3.bS (L3.bS S d a b) d c m=L3.bS S d c m:=List.set_set ..
theorem bG:(bS S d c m).length=S.length:=List.length_set
theorem sY (h:d < S.length):bS (S++loc) d c m=bS S d c m++loc:=List.set_append_left _ _ h
theorem Dq.up (h:Dq S d):Dq (S++loc) d:=let ⟨c,m,e⟩:=h;⟨c,m,ON e⟩
theorem qv {x:D}{N:List Str}(hd:Dq S d)(h:lq S x=some (N.map T.str)):lq (bS S d c m) x=some (N.map T.str):=by
 cases x with
 | t x=>cases x <;> exact h
 | ob n =>
  obtain⟨c0,m0,e0⟩:=hd;have h:(match S[n]? with | some (.lst l)=>some l | _=>none)=some (N.map T.str):=h;have hn:n≠d:=fun e=>by
   subst e;rw[e0] at h;cases N with
   | nil=>cases h
   | cons y r=>have h:=Option.some.inj h;cases h
  show(match (L3.bS S d c m)[n]? with | some (.lst l)=>some l | _=>none)=some (N.map T.str);unfold bS;rw[List.getElem?_set_ne (Ne.symm hn)];exact h
theorem OC (hc:Cl S):∀ o∈bS S d c m,ES S.length o:=Xy hc
theorem EO {x:T}{k:KD}(hc:Cl S)(h:k (.t x) (bS S d c m)):closes S.length (.t x) (bS S d c m++loc) k:=.inl ⟨_,_,rfl,bG,OC hc,trivial,h⟩
theorem G0 {n:Nat}{g:vv}{tt:pX}{te:cX}{δ0:Sl}{k:List T->aY->Prop}(hd:Dq S d)(P:T->Prop)(hn:n<=1000)
  (hs:∀ (i:Nat) c m (k':Option T->aY->Prop),(∀ y c' m',P y->k' (some y) (bS S d c' m'))->elem g tt te δ0 (.int i) (bS S d c m) k')
  (hk:∀ ys c m,ys.length=n->(∀ y∈ys,P y)->k ys (bS S d c m)):eU (fun _=>True) g tt te δ0 ((List.range n).map fun(i:Nat)=>D.int i) (bS S d a b) [] k:=by
 refine Oz (fun i ys S'=>ys.length=i/\(∀ y∈ys,P y)/\∃ c m,S'=L3.bS S d c m) ⟨rfl,fun _ h=>absurd h List.not_mem_nil,a,b,rfl⟩ ?_ ?_
 ·rintro i x ys S' k' hx ⟨hl,hp,c,m,rfl⟩ hk';rw[List.getElem?_map] at hx;have hi:i < n:=by
   rcases Nat.lt_or_ge i n with h | h
   ·exact h
   ·rw[List.getElem?_eq_none (by rw[List.length_range];exact h)] at hx;cases hx
  rw[List.getElem?_range hi] at hx;cases hx;refine⟨trivial,A4 (by omega),hs i c m k' fun y c' m' hy=>hk' _ _ ⟨by simp[a1I,hl],fun z hz=>?_,c',m',rfl⟩⟩;rcases List.mem_append.mp (show z∈ys++[y] from hz) with h | h
  ·exact hp z h
  ·rw[List.mem_singleton.mp h];exact hy
 ·rintro ys S' ⟨hl,hp,c,m,rfl⟩;rw[List.length_map,List.length_range] at hl;exact⟨trivial,hk ys c m hl hp⟩
end
noncomputable def Lr (l:List Str):T:=.lst (l.map T.str)
noncomputable def Tz:c6:=fun ds S k=>∃ c j:Int,ds=[.int c,.int j]/\∀ r:Int,0<=r->r < 2147483399->k (.int r) S
noncomputable def MC:c6:=fun ds S k=>∃ (l:List Int) (j:Nat),ds=[.t (.Fq (l.map T.int)),.int j]/\∀ r:Int,k (.int r) S
noncomputable def Zl:c6:=fun ds S k=>∃ (d:Nat) (n:Int),ds=[.ob d,.int n]/\Dq S d/\0 < n/\∀ (r:Nat) c m,(r:Int) < n->k (.int r) (bS S d c m)
theorem ex_map {α β:Type}{f:α->β}{P:α->Prop}:∀ {ys:List β},(∀ y∈ys,∃ x,y=f x/\P x)->∃ xs:List α,ys=xs.map f/\xs.length=ys.length/\∀ x∈xs,P x
 | [],_=>⟨[],rfl,rfl,fun _ h=>absurd h List.not_mem_nil⟩
 | y::r,h=>by
  obtain⟨x,e,p⟩:=h y List.mem_cons_self;obtain⟨xs,e1,e2,e3⟩:=ex_map (ys:=r) fun z hz=>h z (List.mem_cons_of_mem _ hz);exact⟨x::xs,by rw[e,e1];rfl,by rw[List.length_cons,List.length_cons,e2],fun z hz=>by
   rcases List.mem_cons.mp hz with rfl | hz
   ·exact p
   ·exact e3 z hz⟩
section
variable {S:aY}{x:D}{l:List T}{k:KD}
theorem Jm {n:Nat}{neg:Bool}(h:lq S x=some l)(hk:k (.bl (xor neg (decide (l=[])))) S):eq3 n neg x (.lst []) S k:=by
 cases x with
 | ob i=>exact⟨l,[],h,rfl,.inr ⟨rfl,hk⟩⟩
 | t x =>
  cases x with
  | lst m=>exact⟨l,[],h,rfl,.inr ⟨rfl,hk⟩⟩
  | _=>cases h
theorem WI (h:lq S x=some l)(hk:k (.int l.length) S):RO [x] S k:=by
 cases x with
 | ob i =>
  have h:(match S[i]? with | some (.lst l)=>some l | _=>none)=some l:=h;exact⟨l,h,hk⟩
 | t x =>
  cases x with
  | lst m=>exact⟨l,h,hk⟩
  | _=>cases h
theorem N1 {i:Int}{y:T}(h:lq S x=some l)(e:oO l i=some y)(hk:k (.t y) S):WX x (.int i) S k:=by
 cases x with
 | ob j =>
  have h:(match S[j]? with | some (.lst l)=>some l | _=>none)=some l:=h;exact⟨l,y,h,e,hk⟩
 | t x =>
  cases x with
  | lst m=>exact⟨l,y,h,e,hk⟩
  | _=>cases h
end
theorem OP {N:List Str}{r:Nat}(h:(r:Int) < N.length):∃ y,y∈N/\oO (N.map T.str) (r:Int)=some (T.str y):=by
 have h:r < N.length:=by omega
 exact⟨N[r],List.getElem_mem h,aB (by rw[List.getElem?_map,List.getElem?_eq_getElem h];rfl)⟩
theorem oA:∀ l:List Str,zU (l.map T.str)=some (l.map V.str)
 | []=>rfl
 | a::r=>by
  show(match flT (T.str a),zU (r.map T.str) with | some v,some vs=>some (v::vs) | _,_=>none)=_;rw[oA r];rfl
theorem Zo {l:List T}(h:l≠[]):HT.fK l.length 0 (some 1)=1:=by
 have:=HT.r6 l.length 0 1;have e:HT.fK l.length 0 (some 1)=min 1 l.length:=this;rw[e];have:=List.length_pos_iff.mpr h;omega
theorem Xn {l:List T}(h:l≠[]):¬ (HT.fK l.length 0 (some 1)=0/\HT.fK l.length l.length none=l.length):=by rw[Zo h];rintro⟨h,_⟩;cases h
theorem ji {x:T}{l:List T}:tu (x::l) (some 1) none=l:=by
 unfold tu;rw[Zo (by simp),HT.xJ];simp
theorem mh {α:Type}{x:α}{l:List α}:oO (x::l) 0=some x:=aB (j:=0) rfl
theorem wO {n:Nat}:∀ {l:List T},(∀ x∈l,Fl n x)->OW n l
 | [],_=>by simp[OW]
 | x::r,h=>by
  unfold OW;exact⟨h x List.mem_cons_self,wO fun y hy=>h y (List.mem_cons_of_mem _ hy)⟩
theorem Xc {n:Nat}{x:V}(h:eT x=true):Fl n (.v x):=by cases n <;> (unfold Fl;exact h)
theorem cA {n:Nat}{l:List T}(h:∀ x∈l,Fl n x):Fl (n+1) (.tup l):=by unfold Fl;exact wO h
theorem bL {n:Nat}(x:Str):Fl n (.str x):=Xc rfl
theorem dY {n:Nat}(x:Int):Fl n (.int x):=Xc rfl
theorem a1k {n:Nat}(p:Str×Int):Fl (n+1) (pT p):=cA fun x hx=>by
 rcases List.mem_cons.mp hx with rfl | hx
 ·exact bL _
 ·rw[List.mem_singleton.mp hx];exact dY _
theorem bD {P:Program}{w:World}{K:PySem.W.Frag}{mg:Str->Option Value}{base:Heap}{x qual:Str}{st:Stmt}{f:Addr}{fd:FuncData}{N ps:List Str}{k:Nat}{sp:c6}(F:cj K x qual st f fd)(S:au N ps (ai st))
  (hb:∀ (cdv:Value) (A:Around) (outer:List Env) (s:Shared) (H:Hp) (E:XK),c7 k (A.deeper (PyProof.Rows.envOfC qual (ai st) s.heap.objs.size f cdv)) ->
   ∃ t,Lk (EJ cG P w K mg base N qual (ai st) f cdv A outer s H E).XR (ao st) t/\∀ ds S kk,Cl S->(∀ d∈ds,Yi S.length d)->sp ds S kk->t (endsF S kk) (uc N ds) S)
  (len:∀ ds S k,sp ds S k->ds.length=ps.length:=by intro ds S k h;repeat (first | (obtain⟨rfl,_⟩:=h;rfl) | obtain⟨_,h⟩:=h)):aN P w K mg base cG (k+1) f fd ps (br K sp):=CD F S len hb
section
variable {X:Cx}{e v1 v2:Expr}{es:List Expr}{te:cX}{t:TJ3}{pos:Pos}{c:Str}{j:Nat}
end
noncomputable def a1J:Lj
 | [.t (.v (.int i))],S,k=>k (.int (jq i)) S
 | _,_,_=>False
theorem EZ {X:Cx}:Call3 X (.builtin "abs") a1J:=by
 refine iK OG ?_;rintro vs H Q ⟨ρ,S,ds,k,R,rd,q,hk⟩;unfold a1J at q;split at q
 ·obtain⟨v,rfl,rv⟩:=rd.one;rw[aI rv];exact⟨_,rfl,fin R hk aW q⟩
 ·exact q.elim
noncomputable def a2N (c:pX)(tb:qN):qN:=fun E δ S=>∃ W:Nat->Sl->aY->Prop,(∃ m,W m δ S)/\∀ m δ S,W m δ S ->
 c δ S fun b S1=>if b=true then ∃ N:KS,(∀ δ' S',N δ' S'->∃ m',m' < m/\W m' δ' S')/\tb { E with nx:=N,ct:=N,bk:=E.nx } δ S1 else E.nx δ S1
section
variable {X:Cx}{c o i e:Expr}{body:List Stmt}{tc:pX}{tb:qN}{to ti te:cX}{pos:Pos}
theorem j9 (hp:PassesOwn (model X.prog X.w) X.A X.env X.xe)(hc:QT X c tc)(hb:Lk X body tb):QS X (.While c body [] pos) (a2N tc tb) :=
 kr (MV hp hc hb) fun D σ H ⟨ρ,S,δ,E,R,RS,⟨W,⟨m0,w0⟩,q⟩,eu⟩=>by
  refine⟨fun m σ' H'=>∃ ρ' S' δ',Gr ρ H ρ' H'/\R3 X.K ρ' S' H'/\uM X.K ρ' (res ρ' H') δ' σ'/\W m δ' S',⟨m0,ρ,S,δ,.refl,R,RS,w0⟩,?_⟩;rintro m σ1 H1 ⟨ρ1,S1,δ1,g1,R1,SN,w1⟩;refine⟨ρ1,S1,δ1,_,R1,SN,q m δ1 S1 w1,fun b H2 ⟨ρ2,S2,g2,R2,q2⟩=>?_⟩;cases b with
  | true =>
   obtain⟨N,hN,q2⟩:=q2;have gg:=g1.trans g2;have fw:∀ σ' H',HD X.K ρ2 H2 N σ' H'->HD X.K ρ2 H2 N σ' H':=fun _ _ z=>z;exact⟨HD X.K ρ2 H2 N,fun σ3 H3 ⟨ρ3,S3,δ3,g3,vz,Yp,n3⟩=>let ⟨m',hm,w3⟩:=hN δ3 S3 n3;⟨m',hm,ρ3,S3,δ3,gg.trans g3,vz,Yp,w3⟩,
    ρ2,S2,δ1,_,R2,SN.gr g2,q2,⟨fw,fun v H' u=>eu.rt v H' (u.gr gg),fun σ' H' u=>eu.nx σ' H' (u.gr gg),fw⟩⟩
  | false=>exact eu.nx _ _ ⟨ρ2,S2,δ1,g1.trans g2,R2,SN.gr g2,q2⟩
noncomputable def a1g (to ti:cX):vv:=fun d δ S k=>to δ S fun o S1=>ti δ S1 fun i S2=>∃ (n j:Nat) (l:List T) (x:T),o=.ob n/\i=.int j/\d=.t x/\S2[n]?=some (.lst l)/\j < l.length/\k δ (S2.set n (.lst (l.set j x)))
theorem VB (ho:QE X o to)(hi:QE X i ti)
  (ha:∀ v,assign (.Subscript o i pos) X.env v=(do
   let ov <- holding [v] (eval o X.env)
   let iv <- holding [v,ov] (eval i X.env)
   standAt pos
   holding [v,ov,iv] (setItem ov iv v)
   release [v,ov,iv] []):=by intro _;rfl):QG X (.Subscript o i pos) (a1g to ti) :=
 DY (VY ho hi set_list ha) fun v σ H Q ⟨ρ,S,δ,d,k,R,RS,rd,q,hk⟩=>⟨ρ,S,δ,_,R,RS,q,fun v1 H1 ⟨ρ1,S1,d1,g1,R1,r1,q1⟩=>⟨ρ1,S1,δ,_,R1,RS.gr g1,q1,(by
  rintro v2 H2 ⟨ρ2,S2,d2,g2,R2,r2,n,j,l,x,h1,h2,h3,h4,h5,q2⟩;subst h1 h2 h3;obtain⟨p,hp,e1⟩:=r1.gr g2;obtain⟨vs,e2,e3⟩:=R2.ok n p _ hp h4;have gg:=g1.trans g2;have key:bI X.K (res ρ2 H2) (l.set j x) (vs.set j v):=bI.put (rd.gr gg) e3;obtain⟨R4,g4⟩:=R2.put (o:=.lst (vs.set j v)) (u:=.lst (l.set j x)) hp ⟨_,rfl,key⟩;refine⟨p,vs,j,j,e1,aI r2,e2,?_,hk _ _ ⟨ρ2,_,δ,gg.trans g4,R4,(RS.gr gg).gr g4,q2⟩⟩;unfold Pd;rw[if_pos (by omega),if_pos (by rw[<- e3.len];omega)];simp)⟩⟩
noncomputable def a5v:uN:=fun a b S k=>∃ l m,lq S a=some l/\lq S b=some m/\l.length+m.length<=sizeLine/\k (.ob S.length) (S++[.lst (l++m)])
theorem Gn:vS X (binaryOp .Add) a5v:=by
 refine fJ Ni ?_;rintro x y H Q ⟨ρ,S,a,b,k,R,ra,rb,⟨l,m,h1,h2,h3,h4⟩,hk⟩;obtain⟨p1,vs,e1,e2,e3⟩:=dj R ra h1;obtain⟨p2,ws,f1,f2,f3⟩:=dj R rb h2;exact⟨p1,p2,vs,ws,e1,f1,e2,f2,by rw[<- e3.len,<- f3.len];exact h3,fun p hp=>Og R hk (e3.app f3) h4 p hp⟩
end
structure Ad where
 (jW bF cJ bU dW gn jm bH cO jk fE dN eF oE oB bC bE dZ bz:Addr)
inductive dF where
 | cmp (a:Sm) (s:Str) (b:Sm) | neg (c:dF) | con (k:Bool) (cs:List dF)
inductive oQ where
 | lt (a:Int) (x:Str) (s:Sm) | dv (a:Int) (x wd:Str) (s b:Sm) | ft (a:Int) (x r:Str) (p:Sm) | pt (a:Int) (r:Str) (p s:Sm) | mq (a:Int) (r:Str) (z:Sm) | cm (a:Int) (c:dF) | cl (a:Int) (ns:List Str) (hp:Str) (g:List Sm)
 | ch (a:Int) (c:dF) (t e:List oQ) | rp (a:Int) (c:dF) (hs:List (Int×dF)) (f:Option (Int×Sm)) (b:List oQ)
structure Ly where
 (at_:Int) (name:Str) (params answers:List Str) (needs gives:List (Int×dF)) (steps:List oQ)
noncomputable def clS (A:Ad):Nat->Addr
 | 0=>A.jm | 1=>A.bH | 2=>A.cO | 3=>A.jk | 4=>A.fE | 5=>A.dN | 6=>A.eF | 7=>A.oE | _=>A.oB
noncomputable def Dh:dF->Nat
 | .cmp _ _ _=>0 | .neg _=>1 | .con true _=>2 | .con false _=>3
noncomputable def Fw (A:Ad):Nat->Addr
 | 0=>A.bF | 1=>A.cJ | 2=>A.dW | _=>A.gn
noncomputable def kd:oQ->Nat
 | .lt ..=>0 | .dv ..=>1 | .ft ..=>2 | .pt ..=>3 | .mq ..=>4 | .cm ..=>5 | .cl ..=>6 | .ch ..=>7 | .rp ..=>8
noncomputable def zB (l:List Str):T:=.tup (l.map T.str)
noncomputable def iN (s:Sm):T:=.tup [.tup (s.1.map pT),.int s.2]
section
variable (A:Ad)
noncomputable def pM (s:Sm):T:=.ins A.jW ["terms","number"] [.tup (s.1.map pT),.int s.2]
mutual
noncomputable def jK:dF->T
 | .cmp a s b=>.ins A.bF ["one","sign","other"] [pM A a,.str s,pM A b]
 | .neg c=>.ins A.cJ ["condition"] [jK c]
 | .con k cs=>.ins (if k=true then A.dW else A.gn) ["conditions"] [.tup (Su cs)]
noncomputable def Su:List dF->List T
 | []=>[]
 | c::r=>jK c::Su r
end
noncomputable def atT (p:Int×dF):T:=.tup [.int p.1,jK A p.2]
noncomputable def faT:Option (Int×Sm)->T
 | none=>.dO
 | some p=>.tup [.int p.1,pM A p.2]
mutual
noncomputable def ud:oQ->T
 | .lt a x s=>.ins A.jm ["at","name","total"] [.int a,.str x,pM A s]
 | .dv a x wd s b=>.ins A.bH ["at","name","word","total","by"] [.int a,.str x,.str wd,pM A s,pM A b]
 | .ft a x r p=>.ins A.cO ["at","name","row","place"] [.int a,.str x,.str r,pM A p]
 | .pt a r p s=>.ins A.jk ["at","row","place","total"] [.int a,.str r,pM A p,pM A s]
 | .mq a r z=>.ins A.fE ["at","row","size"] [.int a,.str r,pM A z]
 | .cm a c=>.ins A.dN ["at","condition"] [.int a,jK A c]
 | .cl a ns hp g=>.ins A.eF ["at","names","helper","given"] [.int a,zB ns,.str hp,.tup (g.map (pM A))]
 | .ch a c t e=>.ins A.oE ["at","condition","then","other"] [.int a,jK A c,.tup (A8 t),.tup (A8 e)]
 | .rp a c hs f b=>.ins A.oB ["at","condition","keeps","falls","body"] [.int a,jK A c,.tup (hs.map (atT A)),faT A f,.tup (A8 b)]
noncomputable def A8:List oQ->List T
 | []=>[]
 | c::r=>ud c::A8 r
end
noncomputable def Pf (h:Ly):T:=.ins A.bC ["at","name","params","answers","needs","gives","steps"] [.int h.at_,.str h.name,zB h.params,zB h.answers,.tup (h.needs.map (atT A)),.tup (h.gives.map (atT A)),.tup (A8 A h.steps)]
noncomputable def pgT (hs:List Ly):T:=.ins A.bE ["helpers"] [.tup (hs.map (Pf A))]
end
mutual
noncomputable def mz:dF->T
 | .cmp a s b=>.tup [.str "compare",iN a,.str s,iN b]
 | .neg c=>.tup [.str "not",mz c]
 | .con k cs=>.tup (.str (if k=true then "and" else "or")::G3 cs)
noncomputable def G3:List dF->List T
 | []=>[]
 | c::r=>mz c::G3 r
end
noncomputable def XF (p:Int×dF):T:=.tup [.int p.1,mz p.2]
noncomputable def faR:Option (Int×Sm)->T
 | none=>.dO
 | some p=>.tup [.int p.1,iN p.2]
mutual
noncomputable def oJ:oQ->T
 | .lt a x s=>.tup [.str "let",.int a,.str x,iN s]
 | .dv a x wd s b=>.tup [.str "divide",.int a,.str x,.str wd,iN s,iN b]
 | .ft a x r p=>.tup [.str "fetch",.int a,.str x,.str r,iN p]
 | .pt a r p s=>.tup [.str "put",.int a,.str r,iN p,iN s]
 | .mq a r z=>.tup [.str "make",.int a,.str r,iN z]
 | .cm a c=>.tup [.str "claim",.int a,mz c]
 | .cl a ns hp g=>.tup [.str "call",.int a,zB ns,.str hp,.tup (g.map iN)]
 | .ch a c t e=>.tup [.str "choose",.int a,mz c,.tup (zC t),.tup (zC e)]
 | .rp a c hs f b=>.tup [.str "repeat",.int a,mz c,.tup (hs.map XF),faR f,.tup (zC b)]
noncomputable def zC:List oQ->List T
 | []=>[]
 | c::r=>oJ c::zC r
end
noncomputable def Sa (h:Ly):T:=.tup [.str "helper",.int h.at_,.str h.name,zB h.params,zB h.answers,.tup (h.needs.map XF),.tup (h.gives.map XF),.tup (zC h.steps)]
theorem tD (A:Ad):∀ l:List dF,Su A l=l.map (jK A)
 | []=>rfl
 | c::r=>by rw[Su,tD A r];rfl
theorem tE:∀ l:List dF,G3 l=l.map mz
 | []=>rfl
 | c::r=>by rw[G3,tE r];rfl
theorem xm (A:Ad):∀ l:List oQ,A8 A l=l.map (ud A)
 | []=>rfl
 | c::r=>by rw[A8,xm A r];rfl
theorem xo:∀ l:List oQ,zC l=l.map oJ
 | []=>rfl
 | c::r=>by rw[zC,xo r];rfl
mutual
noncomputable def dF.dep:dF->Nat
 | .cmp _ _ _=>0
 | .neg c=>c.dep+1
 | .con _ cs=>uG cs+1
noncomputable def uG:List dF->Nat
 | []=>0
 | c::r=>max c.dep (uG r)
end
mutual
noncomputable def dF.sz:dF->Nat
 | .cmp _ _ _=>1
 | .neg c=>c.sz+1
 | .con _ cs=>PD cs+1
noncomputable def PD:List dF->Nat
 | []=>0
 | c::r=>c.sz+PD r
end
mutual
noncomputable def oQ.dp:oQ->Nat
 | .ch _ _ t e=>max (yz t) (yz e)+1
 | .rp _ _ _ _ b=>yz b+1
 | _=>1
noncomputable def yz:List oQ->Nat
 | []=>0
 | c::r=>max c.dp (yz r)
end
theorem s8 {c:dF}:∀ {l:List dF},c∈l->c.dep<=uG l
 | d::r,h=>by
  unfold uG;rcases List.mem_cons.mp h with rfl | h
  ·exact Nat.le_max_left _ _
  ·exact Nat.le_trans (s8 h) (Nat.le_max_right _ _)
theorem Oo {c:oQ}:∀ {l:List oQ},c∈l->c.dp<=yz l
 | d::r,h=>by
  unfold yz;rcases List.mem_cons.mp h with rfl | h
  ·exact Nat.le_max_left _ _
  ·exact Nat.le_trans (Oo h) (Nat.le_max_right _ _)
theorem UZ (c:dF):1<=c.sz:=by cases c <;> (unfold dF.sz;omega)
theorem A3:∀ l:List dF,l.length<=PD l
 | []=>Nat.le_refl _
 | c::r=>by unfold PD;rw[List.length_cons];have:=UZ c;have:=A3 r;omega
theorem FP {c:dF}:∀ {l:List dF},c∈l->c.sz<=PD l
 | d::r,h=>by
  unfold PD;rcases List.mem_cons.mp h with rfl | h
  ·omega
  ·have:=FP h;omega
theorem qe (c:dF):Dh c < 4:=by
 cases c with
 | cmp a s b=>show 0 < 4;decide
 | neg c=>show 1 < 4;decide
 | con k cs=>cases k <;> (first | (show 2 < 4;decide) | (show 3 < 4;decide))
theorem Sy (A:Ad)(a b:Sm)(s:Str):jK A (.cmp a s b)=.ins A.bF ["one","sign","other"] [pM A a,.str s,pM A b]:=by rw[jK]
theorem Sx (A:Ad)(q:Bool)(cs:List dF):jK A (.con q cs)=.ins (if q=true then A.dW else A.gn) ["conditions"] [.tup (cs.map (jK A))]:=by rw[jK,tD]
theorem Sv (A:Ad)(c:dF):jK A (.neg c)=.ins A.cJ ["condition"] [jK A c]:=by rw[jK]
theorem wU (a b:Sm)(s:Str):mz (.cmp a s b)=.tup [.str "compare",iN a,.str s,iN b]:=by rw[mz]
theorem wQ (c:dF):mz (.neg c)=.tup [.str "not",mz c]:=by rw[mz]
theorem wR (q:Bool)(cs:List dF):mz (.con q cs)=.tup (.str (if q=true then "and" else "or")::cs.map mz):=by rw[mz,tE]
theorem Em (A:Ad)(S:aY)(c:dF):∃ ns l,iq S (.t (jK A c))=some (Fw A (Dh c),ns,l)/\ns.contains "told"=false/\ns.contains "text"=false:=by
 cases c with
 | cmp a s b=>exact⟨_,_,by unfold jK;rfl,by decide +kernel,by decide +kernel⟩
 | neg c=>exact⟨_,_,by unfold jK;rfl,by decide +kernel,by decide +kernel⟩
 | con k cs =>
  cases k with
  | true=>exact⟨_,_,by unfold jK;rfl,by decide +kernel,by decide +kernel⟩
  | false=>exact⟨_,_,by unfold jK;rfl,by decide +kernel,by decide +kernel⟩
theorem a05 (A:Ad)(S:aY)(s:oQ):∃ ns l,iq S (.t (ud A s))=some (clS A (kd s),ns,l)/\ns.contains "told"=false/\ns.contains "as_rows"=false:=by
 cases s <;> exact⟨_,_,by unfold ud;rfl,by decide +kernel,by decide +kernel⟩
theorem Tf (A:Ad)(S:aY)(c:dF):tyD S (.t (jK A c))=some (.ref (Fw A (Dh c))):=by
 cases c with
 | cmp a s b=>unfold jK;rfl
 | neg c=>unfold jK;rfl
 | con k cs=>cases k <;> (unfold jK;rfl)
structure Lx (s:Sm):Prop where
 nm:norm s.1=s.1
 len:s.1.length<=3
 sh:∀ p∈s.1,Small p.2/\p.1.length<=100
 num:Small s.2
mutual
noncomputable def XQ:dF->Prop
 | .cmp a s b=>Lx a/\Lx b/\s.length<=2
 | .neg c=>XQ c
 | .con _ cs=>O7 cs
noncomputable def O7:List dF->Prop
 | []=>True
 | c::r=>XQ c/\O7 r
end
structure Lq (c:dF):Prop where
 g:XQ c
 dep:c.dep < 3
 sz:c.sz<=9
mutual
noncomputable def zY:oQ->Prop
 | .lt _ x s=>x.length<=100/\Lx s
 | .dv _ x wd s b=>x.length<=100/\wd.length<=3/\Lx s/\Lx b
 | .ft _ x r p=>x.length<=100/\r.length<=100/\Lx p
 | .pt _ r p s=>r.length<=100/\Lx p/\Lx s
 | .mq _ r z=>r.length<=100/\Lx z
 | .cm _ c=>Lq c
 | .cl _ ns hp g=>ns.length<=8/\(∀ x∈ns,x.length<=100)/\hp.length<=100/\g.length<=8/\∀ s∈g,Lx s
 | .ch _ c t e=>Lq c/\vR t/\vR e/\t.length<=10/\e.length<=10
 | .rp _ c hs f b=>Lq c/\hs.length<=10/\(∀ p∈hs,Lq p.2)/\(∀ p,f=some p->Lx p.2)/\vR b/\b.length<=10
noncomputable def vR:List oQ->Prop
 | []=>True
 | c::r=>zY c/\vR r
end
theorem Ia {c:oQ}:∀ {l:List oQ},vR l->c∈l->zY c
 | d::r,h,m=>by
  unfold vR at h;rcases List.mem_cons.mp m with rfl | m
  ·exact h.1
  ·exact Ia h.2 m
structure XO (h:Ly):Prop where
 nm:h.name.length<=100
 pl:h.params.length<=8/\h.answers.length<=8/\h.needs.length<=8/\h.gives.length<=8/\h.steps.length<=10
 ps:∀ x∈h.params,x.length<=100
 an:∀ x∈h.answers,x.length<=100
 nd:∀ p∈h.needs,Lq p.2
 gv:∀ p∈h.gives,Lq p.2
 st:vR h.steps
theorem Ay {M:Nat}:∀ {l:Qs},(∀ q∈l,q.2.length<=M)->(fD l).length<=(M+3)*l.length
 | [],_=>Nat.zero_le _
 | q::r,h=>by
  have h1:=h q List.mem_cons_self;have h2:=Ay (l:=r) fun x hx=>h x (List.mem_cons_of_mem _ hx);have e:fD (q::r)=cp (oN q.1)++(cp q.2++fD r):=by
   unfold fD;rw[List.map_cons,List.flatten_cons,List.append_assoc]
  have l:=Bf q.1;have h3:(cp q.2).length=q.2.length:=(bB q.2).symm;rw[e,List.length_append,List.length_append,List.length_cons,Nat.mul_succ];omega
theorem fN (a b:Str):(a++b).length=a.length+b.length:=lO a b
theorem MF (sep:Str):∀ ss:List Str,(Str.join sep ss).length<=(ss.map (·.length)).sum+ss.length*sep.length
 | []=>by simp[Str.join,Str.length,Str.empty]
 | [x]=>by simp[Str.join]
 | x::y::r=>by
  show(x++sep++Str.join sep (y::r)).length<=_;have ih:=MF sep (y::r);rw[fN,fN,List.map_cons,List.sum_cons,List.length_cons,Nat.succ_mul];omega
theorem Ct (sep:Str)(ss:List Str):(Txt.join sep ss).length<=(ss.map (·.length)).sum+ss.length*sep.length:=by
 show(Builtin.Str.glued sep ss).length<=_;rw[StrLaws.glued_eq_join];exact MF sep ss
theorem ua {M:Nat}:∀ {l:List Str},(∀ x∈l,x.length<=M)->(l.map (·.length)).sum<=M*l.length
 | [],_=>Nat.zero_le _
 | a::l,h=>by
  have h1:=h a List.mem_cons_self;have h2:=ua fun x hx=>h x (List.mem_cons_of_mem _ hx);rw[List.map_cons,List.sum_cons,List.length_cons,Nat.mul_succ];omega
section
variable (K:PySem.W.Frag)(A:Ad)
noncomputable def F0:c6:=fun ds S k=>∃ (n:Nat) (d:D) (l:List (Str×Int)) (m:Int),ds=[.ob n,d,.int m]/\S[n]?=some (.ins A.jW [] [])/\xq S d=some (l.map pT)/\l.length < 64/\k .dO (S.set n (.ins A.jW ["terms","number"] ([.tup (l.map pT),.int m].map .t)))
noncomputable def Ig:c6:=fun ds S k=>∃ (d:D) (l:List (Str×Int)) (m:Int),ds=[d,.int m]/\xq S d=some (l.map pT)/\l.length < 64/\k (.t (pM A (sumOf l m))) S
noncomputable def xu (C:Addr):c6:=fun ds S k=>∃ (n:Nat) (d:D) (l:List T),ds=[.ob n,d]/\S[n]?=some (.ins C [] [])/\xq S d=some l/\k .dO (S.set n (.ins C ["conditions"] ([.tup l].map .t)))
noncomputable def Ij:c6:=fun ds S k=>∃ (d:D) (l:List (Int×dF)),ds=[d]/\xq S d=some (l.map (atT A))/\l.length<=100/\k (.tup (l.map (atT A))) S
noncomputable def Io:c6:=fun ds S k=>∃ (i:Nat) (a:Int) (d1 d2:D) (ns:List Str) (hp:Str) (g:List Sm),ds=[.ob i,.int a,d1,.str hp,d2]/\S[i]?=some (.ins A.eF [] [])/\xq S d1=some (ns.map T.str)/\xq S d2=some (g.map (pM A)) /\
 k .dO (S.set i (.ins A.eF ["at","names","helper","given"] ([.int a,zB ns,.str hp,.tup (g.map (pM A))].map .t)))
noncomputable def My:c6:=fun ds S k=>∃ (i:Nat) (d1 d2 d3 d4 d5:D) (h:Ly),ds=[.ob i,.int h.at_,.str h.name,d1,d2,d3,d4,d5]/\S[i]?=some (.ins A.bC [] [])/\xq S d1=some (h.params.map T.str)/\xq S d2=some (h.answers.map T.str)/\xq S d3=some (h.needs.map (atT A))/\xq S d4=some (h.gives.map (atT A))/\xq S d5=some (A8 A h.steps) /\
 h.needs.length<=100/\h.gives.length<=100/\k .dO (S.set i (.ins A.bC ["at","name","params","answers","needs","gives","steps"] ([.int h.at_,.str h.name,zB h.params,zB h.answers,.tup (h.needs.map (atT A)),.tup (h.gives.map (atT A)),.tup (A8 A h.steps)].map .t)))
noncomputable def Mu:c6:=fun ds S k=>∃ (i:Nat) (d:D) (hs:List Ly),ds=[.ob i,d]/\S[i]?=some (.ins A.bE [] [])/\xq S d=some (hs.map (Pf A))/\k .dO (S.set i (.ins A.bE ["helpers"] ([.tup (hs.map (Pf A))].map .t)))
noncomputable def wo:c6:=fun ds S k=>∃ a:Sm,ds=[.t (pM A a)]/\k (.t (iN a)) S
noncomputable def fG (n j:Nat):c6:=fun ds S k=>∃ c:dF,ds=[.t (jK A c)]/\Dh c=j/\c.dep < n/\c.sz<=40/\k (.t (mz c)) S
noncomputable def Ie:c6:=fun ds S k=>∃ (l:List (Int×dF)),ds=[.tup (l.map (atT A))]/\l.length<=100/\(∀ p∈l,Lq p.2)/\k (.tup (l.map XF)) S
noncomputable def jy (n j:Nat):c6:=fun ds S k=>∃ s:oQ,ds=[.t (ud A s)]/\kd s=j/\zY s/\s.dp < n+1/\k (.t (oJ s)) S
noncomputable def nh:List Str:=(["helper","answers","needs","gives","end","let","div","mod","put","row","at","if","else"]:List Str)++(["while","holds","falls","call","claim","and","or","not"]:List Str)
noncomputable def Mx:c6:=fun ds S k=>ds=[]/\k (.t (Lr nh)) S
noncomputable def Lv:Nat->Nat
 | 0=>1 | 1=>4 | _=>9
noncomputable def Mw:c6:=fun ds S k=>∃ l:List Int,ds=[.t (.Fq (l.map T.int))]/\S=[]/\∀ S',k (.bl true) S'
end
end L3
namespace L3
open PySem L2 Hw
theorem bg (a b:Str):cp (a++b)=cp a++cp b:=wV a b
theorem Up (sep:Str):∀ (l:List Str) (x:Str),cp (Str.join sep (x::l))=cp x++(l.map fun y=>cp sep++cp y).flatten
 | [],x=>by simp[Str.join]
 | y::r,x=>by
  show cp (x++sep++Str.join sep (y::r))=_;rw[bg,bg,Up sep r y];simp
theorem yF (sep:Str)(l:List Str)(x:Str):cp (Txt.join sep (x::l))=cp x++(l.map fun y=>cp sep++cp y).flatten:=by
 show cp (Builtin.Str.glued sep (x::l))=_;rw[StrLaws.glued_eq_join];exact Up sep l x
theorem Wa {t u:pX}{δ:Sl}{S:aY}{k:Bool->aY->Prop}(b1 b2:Bool)(h1:∀ k',k' b1 S->t δ S k')(h2:∀ k',k' b2 S->u δ S k')(hk:k (b1 || b2) S):UQ t u δ S k:=by
 refine h1 _ ?_;cases b1 with
 | true=>exact hk
 | false=>exact h2 _ hk
theorem Ux {t u:pX}{δ:Sl}{S:aY}{k:Bool->aY->Prop}(b1 b2:Bool)(h1:∀ k',k' b1 S->t δ S k')(h2:∀ k',k' b2 S->u δ S k')(hk:k (b1 && b2) S):H8 t u δ S k:=by
 refine h1 _ ?_;cases b1 with
 | false=>exact hk
 | true=>exact h2 _ hk
theorem EM:cp (" ":Str)=[32]:=by decide +kernel
theorem AD:cp ("=":Str)=[61]:=by decide +kernel
theorem Ur:cp ("at":Str)=[97,116]:=by decide +kernel
theorem GZ:cp ("let":Str)=[108,101,116]:=by decide +kernel
theorem CH:cp ("let ":Str)=[108,101,116,32]:=by decide +kernel
theorem uH:cp (" = ":Str)=[32,61,32]:=by decide +kernel
theorem Ow:cp (" at ":Str)=[32,97,116,32]:=by decide +kernel
theorem Xq:cp ("put":Str)=[112,117,116]:=by decide +kernel
theorem Sn:cp ("put ":Str)=[112,117,116,32]:=by decide +kernel
theorem Xp:cp ("row":Str)=[114,111,119]:=by decide +kernel
theorem Sk:cp ("row ":Str)=[114,111,119,32]:=by decide +kernel
theorem Sq:cp ("call":Str)=[99,97,108,108]:=by decide +kernel
theorem Ov:cp ("call ":Str)=[99,97,108,108,32]:=by decide +kernel
theorem yG:cp ("":Str)=[]:=by decide +kernel
theorem gp {n:Nat}(h:n<=1000000):n<=sizeLine:=Nat.le_trans h (by rw[sizeLine_eq];decide)
theorem Xw {α:Type}{G:aY->Prop}{g:vv}{tt:pX}{te:cX}{δ0:Sl}{k:List T->aY->Prop}{S:aY}{l:List α}(c:α->T)(I:List α->List T->aY->Prop)(h0:I [] [] S)(hl:∀ pre ys S',I pre ys S'->ys.length < sizeLine)
  (hs:∀ pre x post ys S' (k':Option T->aY->Prop),l=pre++x::post->I pre ys S'->(∀ y XI,I (pre++[x]) (ys++[y]) XI->k' (some y) XI)->G S'/\elem g tt te δ0 (.t (c x)) S' k')
  (hd:∀ ys S',I l ys S'->G S'/\k ys S'):eU G g tt te δ0 ((l.map c).map .t) S [] k:=by
 have go:∀ (r pre:List α) (ys:List T) (S':aY),l=pre++r->I pre ys S'->eU G g tt te δ0 ((r.map c).map .t) S' ys k:=by
  intro r
  induction r with
  | nil=>intro pre ys S' e h;rw[List.append_nil] at e;subst e;exact hd ys S' h
  | cons a r ih =>
   intro pre ys S' e h;obtain⟨h1,h2⟩:=hs pre a r ys S' (fun o XI=>match o with | some y=>ys.length < sizeLine/\eU G g tt te δ0 ((r.map c).map .t) XI (ys++[y]) k | none=>eU G g tt te δ0 ((r.map c).map .t) XI ys k) e h
    fun y XI h'=>⟨hl pre ys S' h,ih (pre++[a]) (ys++[y]) XI (by rw[e];simp) h'⟩
   exact⟨h1,h2⟩
 exact go l [] [] S rfl h0
theorem Zp (w:Int):oO [T.str (Str.ofString " + "),T.str (Str.ofString " - ")] (if decide (w < 0)=true then 1 else 0)=some (T.str (oN w)):=by
 unfold oN;by_cases h:w < 0
 ·rw[if_pos h,decide_eq_true h];rfl
 ·rw[if_neg h,decide_eq_false h];rfl
theorem Jj {x:Str}{l:Qs}(h:cp x=fD l)(hs:∀ q∈l,q.2.length<=166):x.length<=169*l.length:=by
 rw[bB,h];exact Ay hs
theorem hk0:decide (Str.ofString "compare"∈[Str.ofString "and",Str.ofString "or"])=decide (2<=0):=by decide +kernel
theorem hk1:decide (Str.ofString "not"∈[Str.ofString "and",Str.ofString "or"])=decide (2<=1):=by decide +kernel
theorem hk2:decide (Str.ofString "and"∈[Str.ofString "and",Str.ofString "or"])=decide (2<=2):=by decide +kernel
theorem hk3:decide (Str.ofString "or"∈[Str.ofString "and",Str.ofString "or"])=decide (2<=3):=by decide +kernel
theorem W5 (c:dF):∃ (w:Str) (l:List T),mz c=.tup (.str w::l)/\decide (w∈[Str.ofString "and",Str.ofString "or"])=decide (2<=Dh c):=by
 cases c with
 | cmp a s b=>exact⟨_,_,wU a b s,hk0⟩
 | neg c=>exact⟨_,_,wQ c,hk1⟩
 | con q cs =>
  cases q with
  | true=>exact⟨_,_,wR true cs,hk2⟩
  | false=>exact⟨_,_,wR false cs,hk3⟩
theorem WY {S:aY}{n:Nat}{l:List T}{k:List D->(aY->Prop)->aY->Prop}(h:S[n]?=some (.lst l))(hk:k (l.map .t) (fun S=>S[n]?=some (.lst l)) S):KY (.ob n) S k:=.inr ⟨n,l,rfl,h,hk⟩
theorem JD {L j:Nat}{S0 S1:aY}{l:List T}{k:KD}(c:∀ o∈S0,ES L o)(hS:S0.length=L)(e:S1[j]?=some (.lst l))(h:k (.lst l) S0):closes L (.ob (L+j)) (S0++S1) k :=
 .inr (.inr (.inl ⟨_,l,S0,S1,rfl,by omega,rfl,hS,c,by rw[cu hS];exact e,h⟩))
theorem KU:∀ x∈nh,x.cps.toList.head?≠some 122:=by decide +kernel
theorem wY (k:Int)(t:Nat):zt k t ∉ nh:=fun h=>KU _ h (by unfold zt;rw[AN];rfl)
theorem Ec {ss:List Str}{w:Str->Int}(h:∀ x∈ss,w x≠0):norm ((qZ ss).map fun x=>(x,w x))=(qZ ss).map fun x=>(x,w x):=by
 have e1:((qZ ss).map fun x=>(x,w x)).map (·.1)=qZ ss:=by rw[List.map_map];exact List.map_id' _
 have e2:qZ (qZ ss)=qZ ss:=FW fun x=>fO;have hn:(qZ ss).Nodup:=(ue ss).imp fun {a b} hab=>a0j hab;have e3:∀ (l:List Str),l.Nodup->∀ x∈l,wt (l.map fun x=>(x,w x)) x=w x:=by
  intro l
  induction l with
  | nil=>intro _ x hx;cases hx
  | cons a r ih =>
   intro hn x hx;obtain⟨n1,n2⟩:=List.nodup_cons.mp hn;rw[List.map_cons,ck];rcases List.mem_cons.mp hx with rfl | hx
   ·have:wt (r.map fun x=>(x,w x)) x=0:=kN (by rw[List.map_map];simpa using n1);rw[if_pos rfl,this];simp
   ·have:¬ a=x:=fun e=>n1 (e ▸ hx);rw[if_neg this,ih n2 x hx];simp
 unfold norm;rw[e1,e2];have e4:(qZ ss).map (fun x=>(x,wt ((qZ ss).map fun x=>(x,w x)) x))=(qZ ss).map fun x=>(x,w x):=List.map_congr_left fun x hx=>by rw[e3 _ hn x hx]
 rw[e4,List.filter_eq_self];intro p hp;obtain⟨x,hx,rfl⟩:=List.mem_map.mp hp;exact decide_eq_true (h x (fO.mp hx))
structure E4 (N:List Str)(d:List (Key×T))(ss:List Str)(w:Str->Int):Prop where
 keys:d.map (·.1)=ss.map Sum.inr
 nd:ss.Nodup
 mem:∀ x∈ss,x∈N
 val:∀ x∈ss,iu d (Sum.inr x)=some (.int (w x))/\w x≠0/\Small (w x)
theorem E4.nil {N:List Str}:E4 N [] [] fun _=>0:=⟨rfl,.nil,fun _ h=>absurd h List.not_mem_nil,fun _ h=>absurd h List.not_mem_nil⟩
theorem E4.put {N:List Str}{d:List (Key×T)}{ss:List Str}{w:Str->Int}(h:E4 N d ss w){x:Str}{v:Int}(hx:x∈N)(hv:v≠0)(hs:Small v):∃ ss',E4 N (dput d (Sum.inr x) (.int v)) ss' (fun y=>if y=x then v else w y)/\(dput d (Sum.inr x) (.int v)).length<=d.length+1:=by
 obtain⟨k1,k2⟩:=AB d (Sum.inr x) (.int v);rw[h.keys] at k1 k2;have hl:(dput d (Sum.inr x) (T.int v)).length<=d.length+1:=by unfold dput;split <;> simp
 have hval:∀ y,(y=x∨y∈ss)->iu (dput d (Sum.inr x) (.int v)) (Sum.inr y)=some (.int (if y=x then v else w y))/\(if y=x then v else w y)≠0/\Small (if y=x then v else w y):=fun y hy=>by
  rw[ED];by_cases e:y=x
  ·subst e;rw[if_pos rfl,if_pos rfl];exact⟨rfl,hv,hs⟩
  ·rw[if_neg e,if_neg (fun z=>e (Sum.inr.inj z).symm)];exact h.val y (hy.resolve_left e)
 by_cases m:x∈ss
 ·refine⟨ss,⟨k1 (List.mem_map.mpr ⟨x,m,rfl⟩),h.nd,h.mem,fun y hy=>hval y (.inr hy)⟩,hl⟩
 ·have mx:(Sum.inr x:Key) ∉ ss.map Sum.inr:=fun z=>by
   obtain⟨y,hy,e⟩:=List.mem_map.mp z;exact m (Sum.inr.inj e ▸ hy)
  refine⟨ss++[x],⟨by rw[k2 mx];simp,?_,fun y hy=>?_,fun y hy=>?_⟩,hl⟩
  ·rw[List.nodup_append];exact⟨h.nd,by simp,fun a ha b hb=>by rw[List.mem_singleton.mp hb];exact fun z=>m (z ▸ ha)⟩
  ·rcases List.mem_append.mp hy with hy | hy
   ·exact h.mem y hy
   ·rw[List.mem_singleton.mp hy];exact hx
  ·rcases List.mem_append.mp hy with hy | hy
   ·exact hval y (.inr hy)
   ·exact hval y (.inl (List.mem_singleton.mp hy))
theorem Vi {r:Nat}(h:(r:Int) < 7):∃ v:Nat,oO [T.int 0,.int 1,.int 1,.int 1,.int 2,.int 2,.int 3] (r:Int)=some (T.int (v:Int))/\v<=3:=by
 match r,h with
 | 0,_=>exact⟨0,rfl,by decide⟩
 | 1,_=>exact⟨1,rfl,by decide⟩
 | 2,_=>exact⟨1,rfl,by decide⟩
 | 3,_=>exact⟨1,rfl,by decide⟩
 | 4,_=>exact⟨2,rfl,by decide⟩
 | 5,_=>exact⟨2,rfl,by decide⟩
 | 6,_=>exact⟨3,rfl,by decide⟩
 | n+7,h=>omega
theorem Nu (x:Str){v:Int}(h:v≠0):norm [(x,v)]=[(x,v)]:=by
 have:=Ec (ss:=[x]) (w:=fun _=>v) fun _ _=>h;exact this
section
variable {a0 a1 a2 a3 a4 a5 a6 a7:Str}{r:Nat}
end
theorem GP {n:Nat}(s:Sm):Fl (n+3) (iN s):=cA fun x hx=>by
 rcases List.mem_cons.mp hx with rfl | hx
 ·exact cA fun y hy=>by obtain⟨p,_,rfl⟩:=List.mem_map.mp hy;exact a1k p
 ·rw[List.mem_singleton.mp hx];exact dY _
mutual
theorem uD:∀ (c:dF) {n:Nat},c.dep+4<=n->Fl n (mz c)
 | .cmp a s b,n,h=>by
  obtain⟨m,rfl⟩:∃ m,n=m+4:=⟨n - 4,by omega⟩
  rw[wU];refine cA fun x hx=>?_;rcases List.mem_cons.mp hx with rfl | hx
  ·exact bL _
  rcases List.mem_cons.mp hx with rfl | hx
  ·exact GP _
  rcases List.mem_cons.mp hx with rfl | hx
  ·exact bL _
  ·rw[List.mem_singleton.mp hx];exact GP _
 | .neg c,n,h=>by
  unfold dF.dep at h;obtain⟨m,rfl⟩:∃ m,n=m+1:=⟨n - 1,by omega⟩
  rw[wQ];refine cA fun x hx=>?_;rcases List.mem_cons.mp hx with rfl | hx
  ·exact bL _
  ·rw[List.mem_singleton.mp hx];exact uD c (by omega)
 | .con q cs,n,h=>by
  unfold dF.dep at h;obtain⟨m,rfl⟩:∃ m,n=m+1:=⟨n - 1,by omega⟩
  rw[mz];refine cA fun x hx=>?_;rcases List.mem_cons.mp hx with rfl | hx
  ·exact bL _
  ·exact Jk cs (by omega) x hx
theorem Jk:∀ (l:List dF) {n:Nat},uG l+4<=n->∀ x∈G3 l,Fl n x
 | [],n,h=>fun x hx=>by rw[G3] at hx;exact(List.not_mem_nil hx).elim
 | c::r,n,h=>fun x hx=>by
  unfold uG at h;rw[G3] at hx;rcases List.mem_cons.mp hx with rfl | hx
  ·exact uD c (by have:=Nat.le_max_left c.dep (uG r);omega)
  ·exact Jk r (by have:=Nat.le_max_right c.dep (uG r);omega) x hx
end
theorem sV {n:Nat}(s:Sm)(h:3<=n):Fl n (iN s):=by
 obtain⟨m,rfl⟩:∃ m,n=m+3:=⟨n - 3,by omega⟩
 exact GP s
theorem Oe {n:Nat}(l:List Str)(h:1<=n):Fl n (zB l):=by
 obtain⟨m,rfl⟩:∃ m,n=m+1:=⟨n - 1,by omega⟩
 exact cA fun x hx=>by obtain⟨y,_,rfl⟩:=List.mem_map.mp hx;exact bL y
theorem a1l {n:Nat}{p:Int×dF}(h:Lq p.2)(hn:7<=n):Fl n (XF p):=by
 obtain⟨m,rfl⟩:∃ m,n=m+1:=⟨n - 1,by omega⟩
 refine cA fun x hx=>?_;rcases List.mem_cons.mp hx with rfl | hx
 ·exact dY _
 ·rw[List.mem_singleton.mp hx];exact uD _ (by have:=h.dep;omega)
theorem GQ {n:Nat}{l:List (Int×dF)}(h:∀ p∈l,Lq p.2)(hn:8<=n):Fl n (.tup (l.map XF)):=by
 obtain⟨m,rfl⟩:∃ m,n=m+1:=⟨n - 1,by omega⟩
 exact cA fun x hx=>by obtain⟨p,hp,rfl⟩:=List.mem_map.mp hx;exact a1l (h p hp) (by omega)
mutual
theorem Xd:∀ (s:oQ) {n:Nat},zY s->2*s.dp+8<=n->Fl n (oJ s)
 | .lt a x s,n,g,h=>by
  unfold oJ;obtain⟨m,rfl⟩:∃ m,n=m+1:=⟨n - 1,by omega⟩
  refine cA fun x hx=>?_;simp only[List.mem_cons,List.not_mem_nil,or_false] at hx;rcases hx with rfl | rfl | rfl | rfl
  ·exact bL _
  ·exact dY _
  ·exact bL _
  ·exact sV _ (by omega)
 | .dv a x wd s b,n,g,h=>by
  unfold oJ;obtain⟨m,rfl⟩:∃ m,n=m+1:=⟨n - 1,by omega⟩
  refine cA fun x hx=>?_;simp only[List.mem_cons,List.not_mem_nil,or_false] at hx;rcases hx with rfl | rfl | rfl | rfl | rfl | rfl
  ·exact bL _
  ·exact dY _
  ·exact bL _
  ·exact bL _
  ·exact sV _ (by omega)
  ·exact sV _ (by omega)
 | .ft a x r p,n,g,h=>by
  unfold oJ;obtain⟨m,rfl⟩:∃ m,n=m+1:=⟨n - 1,by omega⟩
  refine cA fun x hx=>?_;simp only[List.mem_cons,List.not_mem_nil,or_false] at hx;rcases hx with rfl | rfl | rfl | rfl | rfl
  ·exact bL _
  ·exact dY _
  ·exact bL _
  ·exact bL _
  ·exact sV _ (by omega)
 | .pt a r p s,n,g,h=>by
  unfold oJ;obtain⟨m,rfl⟩:∃ m,n=m+1:=⟨n - 1,by omega⟩
  refine cA fun x hx=>?_;simp only[List.mem_cons,List.not_mem_nil,or_false] at hx;rcases hx with rfl | rfl | rfl | rfl | rfl
  ·exact bL _
  ·exact dY _
  ·exact bL _
  ·exact sV _ (by omega)
  ·exact sV _ (by omega)
 | .mq a r z,n,g,h=>by
  unfold oJ;obtain⟨m,rfl⟩:∃ m,n=m+1:=⟨n - 1,by omega⟩
  refine cA fun x hx=>?_;simp only[List.mem_cons,List.not_mem_nil,or_false] at hx;rcases hx with rfl | rfl | rfl | rfl
  ·exact bL _
  ·exact dY _
  ·exact bL _
  ·exact sV _ (by omega)
 | .cm a c,n,g,h=>by
  unfold oJ;unfold zY at g;obtain⟨m,rfl⟩:∃ m,n=m+1:=⟨n - 1,by omega⟩
  refine cA fun x hx=>?_;simp only[List.mem_cons,List.not_mem_nil,or_false] at hx;rcases hx with rfl | rfl | rfl
  ·exact bL _
  ·exact dY _
  ·exact uD _ (by have:=g.dep;omega)
 | .cl a ns hp gs,n,g,h=>by
  unfold oJ;obtain⟨m,rfl⟩:∃ m,n=m+2:=⟨n - 2,by omega⟩
  refine cA fun x hx=>?_;simp only[List.mem_cons,List.not_mem_nil,or_false] at hx;rcases hx with rfl | rfl | rfl | rfl | rfl
  ·exact bL _
  ·exact dY _
  ·exact Oe _ (by omega)
  ·exact bL _
  ·exact cA fun y hy=>by obtain⟨p,hp,rfl⟩:=List.mem_map.mp hy;exact sV _ (by omega)
 | .ch a c t e,n,g,h=>by
  unfold oJ;unfold zY at g;unfold oQ.dp at h;have h1:=Nat.le_max_left (yz t) (yz e);have h2:=Nat.le_max_right (yz t) (yz e);obtain⟨m,rfl⟩:∃ m,n=m+2:=⟨n - 2,by omega⟩
  refine cA fun x hx=>?_;simp only[List.mem_cons,List.not_mem_nil,or_false] at hx;rcases hx with rfl | rfl | rfl | rfl | rfl
  ·exact bL _
  ·exact dY _
  ·exact uD _ (by have:=g.1.dep;omega)
  ·exact cA (sU t g.2.1 (by omega))
  ·exact cA (sU e g.2.2.1 (by omega))
 | .rp a c hs f b,n,g,h=>by
  unfold oJ;unfold zY at g;unfold oQ.dp at h;obtain⟨m,rfl⟩:∃ m,n=m+2:=⟨n - 2,by omega⟩
  refine cA fun x hx=>?_;simp only[List.mem_cons,List.not_mem_nil,or_false] at hx;rcases hx with rfl | rfl | rfl | rfl | rfl | rfl
  ·exact bL _
  ·exact dY _
  ·exact uD _ (by have:=g.1.dep;omega)
  ·exact GQ g.2.2.1 (by omega)
  ·cases f with
   | none=>exact Xc rfl
   | some p =>
    refine cA fun y hy=>?_;rcases List.mem_cons.mp hy with rfl | hy
    ·exact dY _
    ·rw[List.mem_singleton.mp hy];exact sV _ (by omega)
  ·exact cA (sU b g.2.2.2.2.1 (by omega))
theorem sU:∀ (l:List oQ) {n:Nat},vR l->2*yz l+8<=n->∀ x∈zC l,Fl n x
 | [],n,g,h=>fun x hx=>by rw[zC] at hx;exact(List.not_mem_nil hx).elim
 | c::r,n,g,h=>fun x hx=>by
  unfold yz at h;unfold vR at g;rw[zC] at hx;have h1:=Nat.le_max_left c.dp (yz r);have h2:=Nat.le_max_right c.dp (yz r);rcases List.mem_cons.mp hx with rfl | hx
  ·exact Xd c g.1 (by omega)
  ·exact sU r g.2 (by omega) x hx
end
theorem Xe {l:List Ly}(h:∀ x∈l,XO x/\yz x.steps<=8):OW 40 (l.map Sa):=wO fun x hx=>by
 obtain⟨y,hy,rfl⟩:=List.mem_map.mp hx;obtain⟨g,d⟩:=h y hy;refine cA (n:=39) fun x hx=>?_;simp only[List.mem_cons,List.not_mem_nil,or_false] at hx;rcases hx with rfl | rfl | rfl | rfl | rfl | rfl | rfl | rfl
 ·exact bL _
 ·exact dY _
 ·exact bL _
 ·exact Oe _ (by omega)
 ·exact Oe _ (by omega)
 ·exact GQ g.nd (by omega)
 ·exact GQ g.gv (by omega)
 ·exact cA (n:=38) (sU _ g.st (by omega))
noncomputable def vN (c:Nat):Bool:=decide (48<=c) && decide (c<=57)
noncomputable def GR (z:Str):Bool:=z.cps.toList.all vN
noncomputable def vM (z:Str):Bool:=(decide (1<=z.length) && decide (z.length<=9)) && !(decide ((cp z).head?=some 48) && decide (z≠"0")) && GR z
noncomputable def jU (z:Str):Bool:=isNm z || (Txt.startswith z "#" && isNm (Txt.slice z (some 1) none))
noncomputable def MA:c6:=fun ds S k=>∃ z:Str,ds=[.str z]/\z.length<=1000/\k (.bl (GR z)) S
noncomputable def MB:c6:=fun ds S k=>∃ z:Str,ds=[.str z]/\z.length<=1000/\k (.bl (vM z)) S
noncomputable def U9:c6:=fun ds S k=>∃ z:Str,ds=[.str z]/\z.length<=1000/\k (.bl (isNm z)) S
noncomputable def Zd:c6:=fun ds S k=>∃ z:Str,ds=[.str z]/\z.length<=1000/\k (.bl (jU z)) S
noncomputable def U6:c6:=fun ds S k=>∃ a:D,ds=[.bl true,a]/\k .dO S
theorem le_0 (c:Nat):(!(decide (((⟨#[c]⟩:Str)).cps.toList < (("0":Str)).cps.toList)))=decide (48<=c):=by
 show(!(decide ([c] < [48])))=_;have e:([c] < [48])↔(c < 48):=by rw[List.cons_lt_cons_iff];simp
 by_cases h:48<=c
 ·rw[decide_eq_true h,decide_eq_false (fun z=>absurd (e.mp z) (by omega))];rfl
 ·rw[decide_eq_false h,decide_eq_true (e.mpr (by omega))];rfl
theorem a3B (c:Nat):(!(decide ((("9":Str)).cps.toList < ((⟨#[c]⟩:Str)).cps.toList)))=decide (c<=57):=by
 show(!(decide ([57] < [c])))=_;have e:([57] < [c])↔(57 < c):=by rw[List.cons_lt_cons_iff];simp
 by_cases h:c<=57
 ·rw[decide_eq_true h,decide_eq_false (fun z=>absurd (e.mp z) (by omega))];rfl
 ·rw[decide_eq_false h,decide_eq_true (e.mpr (by omega))];rfl
theorem JL (f:Nat->Bool)(l:List Nat):(l.map f).all _root_.id=l.all f:=by rw[List.all_map];rfl
theorem Jx {G:aY->Prop}{g:vv}{tt:pX}{te:cX}{δ0:Sl}{k:List T->aY->Prop}{S:aY}{z:Str}(f:Nat->T)(hG:G S)(hl:z.length<=sizeLine)(hs:∀ c∈cp z,∀ k':Option T->aY->Prop,k' (some (f c)) S->elem g tt te δ0 (.str ⟨#[c]⟩) S k')
  (hk:k ((cp z).map f) S):eU G g tt te δ0 (z.cps.toList.map fun c=>D.str ⟨#[c]⟩) S [] k:=by
 have:=gi (G:=G) (g:=g) (tt:=tt) (te:=te) (δ0:=δ0) (k:=k) (S:=S) (l:=cp z) (fun c=>T.str ⟨#[c]⟩) f hG (by rw[<- bB];exact hl) hs hk;rw[List.map_map] at this;exact this
theorem chI {i m j:Int}{δ:Sl}{S:aY}{k:KD}(h:k (.bl (decide (i<=m) && decide (m<=j))) S) :
  CI (fun i j=>decide (i<=j)) (.int i) (.int m) S (fun z S3=>∃ b,z=.bl b/\if b=true then xg (.int j) δ S3 (fun w S4=>CI (fun i j=>decide (i<=j)) (.int m) w S4 k) else k (.bl false) S3):=by
 refine⟨_,rfl,?_⟩;by_cases e:i<=m
 ·rw[if_pos (decide_eq_true e)];rw[decide_eq_true e,Bool.true_and] at h;exact h
 ·rw[if_neg (by simp[e])];rw[decide_eq_false e,Bool.false_and] at h;exact h
theorem chS {a y b:Str}{δ:Sl}{S:aY}{k:KD}(h:k (.bl ((!(decide (y.cps.toList < a.cps.toList))) && (!(decide (b.cps.toList < y.cps.toList))))) S) :
  RP (.str a) (.str y) S (fun z S3=>∃ b',z=.bl b'/\if b'=true then xg (.str b) δ S3 (fun w S4=>RP (.str y) w S4 k) else k (.bl false) S3):=by
 refine⟨_,rfl,?_⟩;by_cases e:y.cps.toList < a.cps.toList
 ·rw[if_neg (by simp[e])];rw[decide_eq_true e] at h;exact h
 ·rw[if_pos (by simp[e])];rw[decide_eq_false e] at h;exact h
theorem L8:(⟨#[42]⟩:Str)="*":=by decide +kernel
theorem Ge {x:Str}(h:42 ∉ cp x):Txt.partition x "*"=(x,Str.empty,Str.empty):=by rw[<- L8];exact J8 h
theorem J6 {f t:Str}(h:42 ∉ cp f):Txt.partition (f++"*"++t) "*"=(f,("*":Str),t):=by rw[<- L8];exact J7 h
theorem lO {x f t:Str}(e:x=f++"*"++t):x.length=f.length+1+t.length:=by rw[e,<- L8];simp only[bB,Ox,List.length_append];rfl
noncomputable def iB (n:Bool):Str:=if n then "-" else "+"
noncomputable def gk (p:Bool×Str)(r:List (Bool×Str)):List Str:=(if p.1 then ("-":Str)++p.2 else p.2)::(r.map fun q=>[iB q.1,q.2]).flatten
noncomputable def FU (q:Bool×Str):T:=.tup [.str (iB q.1),.str q.2]
theorem K6 (r:List (Bool×Str)):(r.map fun q=>[iB q.1,q.2]).flatten.length=2*r.length:=by
 induction r with
 | nil=>rfl
 | cons a r ih=>rw[List.map_cons,List.flatten_cons,List.length_append,ih];simp;omega
theorem t9 (p:Bool×Str)(r:List (Bool×Str)):(gk p r).length=2*r.length+1:=by unfold gk;rw[List.length_cons,K6]
theorem Az:∀ {r:List (Bool×Str)} {i:Nat} {q:Bool×Str},r[i]?=some q->(r.map fun q=>[iB q.1,q.2]).flatten[2*i]?=some (iB q.1)/\(r.map fun q=>[iB q.1,q.2]).flatten[2*i+1]?=some q.2
 | [],_,_,h=>by cases h
 | a::r,0,q,h=>by cases h;exact⟨rfl,rfl⟩
 | a::r,i+1,q,h=>by
  have:=Az (r:=r) (i:=i) (q:=q) h;rw[List.map_cons,List.flatten_cons];show([iB a.1,a.2]++_)[2*(i+1)]?=_/\([iB a.1,a.2]++_)[2*(i+1)+1]?=_;rw[List.getElem?_append_right (by simp;omega),List.getElem?_append_right (by simp;omega)];exact this
theorem U0 {p:Bool×Str}{r:List (Bool×Str)}{i:Nat}{q:Bool×Str}(h:r[i]?=some q):(gk p r)[1+i*2]?=some (iB q.1)/\(gk p r)[1+i*2+1]?=some q.2:=by
 obtain⟨h1,h2⟩:=Az h;unfold gk;rw[show 1+i*2=2*i+1 by omega];exact⟨h1,h2⟩
noncomputable def uB (p:Bool×Str):Str:=if p.1 then ("-":Str)++p.2 else p.2
theorem a1u {x:Str}(h:1<=x.length):cp (Txt.slice x (some 1) none)=(cp x).drop 1:=by
 have:=StrLaws.sliceText_from (x:=x) (i:=1) ⟨by decide,by rw[bB] at h;have h:1<=x.cps.toList.length:=h;omega⟩
 have e:Txt.slice x (some 1) none=StrLaws.sliceText x (some 1) none:=rfl;rw[e,this];show(((cp x).drop 1).take _)=_;rw[List.take_of_length_le];rw[List.length_drop];show x.cps.toList.length - 1<=_;omega
theorem Ma (x:Str):Txt.startswith (("-":Str)++x) "-"=true:=by
 have e:(⟨#[45]⟩:Str)="-":=by decide +kernel
 rw[<- e];obtain⟨h1,h2⟩:=lN.mpr (show(cp ((⟨#[45]⟩:Str)++x))[0]?=some 45 by rw[Ox];rfl);show(decide (0+_<=_) && Builtin.Str.subAt _ _ 0)=true;rw[Bool.and_eq_true];exact⟨decide_eq_true h1,h2⟩
theorem PV {δ:Sl}{S:aY}{k:KD}{p:Bool×Str}(h2:δ[2]?=some (some (D.str (uB p))))(hp:p.2.length<=100)(hs:Txt.startswith p.2 "-"=false)(h:k (.t (FU p)) S) :
  YS (w6 (mH "str" PK (cQ 2) (bA (xg (D.str "-")) eS))) (HW (bA (xg (D.str "-")) (bA (LX false (cQ 2) (YF (xg (D.int 1))) LY) eS))) (HW (bA (xg (D.str "+")) (bA (cQ 2) eS))) δ S k:=by
 obtain⟨n,x⟩:=p;refine⟨_,h2,rfl,_,rfl,?_⟩;cases n with
 | true =>
  have e:uB (true,x)=("-":Str)++x:=rfl;rw[e,if_pos (Ma x)];have l:(("-":Str)++x).length=x.length+1:=by simp only[bB,Ox,List.length_append];rw[show(cp "-").length=1 by decide +kernel];omega
  refine⟨_,h2,_,rfl,j4 (by rw[e,l];simp at hp;omega),_,rfl,sz 2,?_⟩;have c:Txt.slice (uB (true,x)) (some 1) none=x:=dw (by rw[e,a1u (by rw[l];omega),Ox];rw[show cp "-"=[45] by decide +kernel];rfl);rw[c];exact h
 | false =>
  have e:uB (false,x)=x:=rfl;rw[e,if_neg (by rw[hs];decide)];refine⟨_,h2,_,rfl,sz 2,h⟩
theorem Vf (n:Bool):K2 (V.str (iB n)) [V.str (Str.ofString "+"),V.str (Str.ofString "-")]=true:=by cases n <;> decide +kernel
noncomputable def Tu:c6:=fun ds S k=>∃ (p:Bool×Str) (r:List (Bool×Str)) (a:D),ds=[.lst ((gk p r).map T.str),a]/\r.length<=20/\p.2.length<=100/\Txt.startswith p.2 "-"=false/\k (.lst ((p::r).map FU)) S
inductive OT:Str->Str->Int->Prop
 | nm {x:Str} (h:jU x=true):OT x x 1
 | num {x:Str} {w:Int} (h:jU x=false) (hf:vM x=true) (hs:42 ∉ cp x) (hi:PySem.intText? x=some w):OT x "" w
 | mul {x f t:Str} {w:Int} (e:x=f++"*"++t) (h:jU x=false) (hf:vM f=true) (hs:42 ∉ cp f) (ht:jU t=true) (hi:PySem.intText? f=some w):OT x t w
noncomputable def Zc:c6:=fun ds S k=>∃ (x t:Str) (w:Int) (a:D),ds=[.str x,a]/\OT x t w/\x.length<=100/\k (.tup [.str t,.int w]) S
noncomputable def Pc (q:Bool×Str)(tw:Str×Int):Prop:=q.2.length<=100/\∃ w:Int,OT q.2 tw.1 w/\tw.2=(if q.1 then -w else w)
noncomputable def z0 (ws:List (Str×Int)):List (Str×Int):=("",0)::ws
theorem vf {α β:Type}{F:α->β->Prop}:∀ {pre post:List α} {x:α} {ws:List β},Paired F (pre++x::post) ws->∃ a b c,ws=a++b::c/\Paired F pre a/\F x b/\Paired F post c
 | [],post,x,_,.cons r t=>⟨[],_,_,rfl,.nil,r,t⟩
 | y::pre,post,x,_,.cons r t=>by
  obtain⟨a,b,c,e,h1,h2,h3⟩:=vf t;exact⟨_::a,b,c,by rw[e];rfl,.cons r h1,h2,h3⟩
theorem TF:(false ^^ decide (V.str (iB false)=V.str (Str.ofString "+")))=true:=by decide +kernel
theorem TH:¬ (false ^^ decide (V.str (iB true)=V.str (Str.ofString "+")))=true:=by decide +kernel
theorem Jp (f:Str->Int):∀ (d:List (Key×T)) (ss:List Str),d.map (·.1)=ss.map Sum.inr->ss.Nodup->(∀ x∈ss,iu d (Sum.inr x)=some (.int (f x)))->d=ss.map fun x=>(Sum.inr x,T.int (f x))
 | [],[],_,_,_=>rfl
 | [],_::_,h,_,_=>by simp at h
 | _::_,[],h,_,_=>by simp at h
 | (k,v)::d,x::ss,h,nd,hv=>by
  rw[List.map_cons,List.map_cons] at h;injection h with h1 h2
  have h1:k=Sum.inr x:=h1;subst h1;rw[List.nodup_cons] at nd;have e:v=.int (f x):=by
   have:=hv x (List.mem_cons_self ..);unfold iu at this;rw[List.find?_cons_of_pos (by simp)] at this;injection this
  rw[List.map_cons,<- e];congr 1;refine Jp f d ss h2 nd.2 fun y hy=>?_;have:=hv y (List.mem_cons_of_mem _ hy);have ne:¬ ((Sum.inr x:Key)=Sum.inr y):=fun z=>nd.1 (by injection z with z;rw[z];exact hy);unfold iu at this ⊢;rw[List.find?_cons_of_neg (by simpa using ne)] at this;exact this
theorem a1q {l:List (Str×Int)}{d:List (Key×T)}(h:yZ l d):∃ ss:List Str,ss.Nodup/\(∀ x,x∈ss↔x∈l.map (·.1))/\d=ss.map fun x=>(Sum.inr x,T.int (wt l x)):=by
 obtain⟨ss,h1,h2,h3⟩:=h.keys;exact⟨ss,h2,h3,Jp _ _ _ h1 h2 fun x hx=>by rw[h.val x,if_pos ((h3 x).mp hx)]⟩
theorem yy (f:Str->Int):∀ {ss:List Str} {x:Str},x∈ss->iu (ss.map fun x=>((Sum.inr x:Key),T.int (f x))) (Sum.inr x)=some (.int (f x))
 | y::ss,x,h=>by
  rw[List.map_cons];unfold iu;by_cases e:y=x
  ·subst e;rw[List.find?_cons_of_pos (by simp)];rfl
  ·rw[List.find?_cons_of_neg (by simpa using e)];exact yy f ((List.mem_cons.mp h).resolve_left fun z=>e z.symm)
theorem Nz {l m:List (Str×Int)}(h:∀ x,x∈l.map (·.1)↔x∈m.map (·.1))(w:∀ x∈m.map (·.1),wt l x=wt m x):norm l=norm m:=by
 unfold norm;rw[FW h];congr 1;exact List.map_congr_left fun x hx=>by rw[w x (fO.mp hx)]
theorem LH (f:Str->Int):∀ {ss:List Str},ss.Nodup->∀ {x:Str},x∈ss->wt (ss.map fun y=>(y,f y)) x=f x
 | y::ss,nd,x,h=>by
  rw[List.nodup_cons] at nd;rw[List.map_cons,ck];by_cases e:y=x
  ·subst e;rw[if_pos rfl,kN (by rw[List.map_map];simpa using nd.1)];simp
  ·rw[if_neg e,LH f nd.2 ((List.mem_cons.mp h).resolve_left fun z=>e z.symm)];simp
theorem AR {x:Str}(hx:x≠""):∀ ws:List (Str×Int),wt (ws.filter fun p=>decide (p.1≠("":Str))) x=wt ws x
 | []=>rfl
 | p::ws=>by
  by_cases e:p.1=("":Str)
  ·rw[List.filter_cons_of_neg (by simp[e]),AR hx ws,ck,if_neg (fun z=>hx (z.symm.trans e))];simp
  ·rw[List.filter_cons_of_pos (by simp[e]),ck,ck,AR hx ws]
noncomputable def oM (ws:List (Str×Int)):Sm:=(norm (ws.filter fun p=>decide (p.1≠("":Str))),wt ws "")
theorem Vb {ws:List (Str×Int)}{ss:List Str}(nd:ss.Nodup)(mem:∀ x,x∈ss↔x∈(z0 ws).map (·.1)):sumOf ((ss.filter fun x=>decide (x≠("":Str))).map fun x=>(x,wt (z0 ws) x)) (wt (z0 ws) "")=oM ws:=by
 have w0:∀ x,wt (z0 ws) x=wt ws x:=fun x=>by unfold z0;rw[ck];split <;> simp
 unfold sumOf oM;rw[w0];congr 1;have hk:∀ x,x∈(ws.filter fun p=>decide (p.1≠("":Str))).map (·.1)↔x∈ss.filter fun x=>decide (x≠("":Str)):=fun x=>by
  rw[List.mem_filter,mem x,List.mem_map];unfold z0;rw[List.map_cons,List.mem_cons,List.mem_map];constructor
  ·rintro⟨p,hp,rfl⟩;rw[List.mem_filter] at hp;exact⟨.inr ⟨p,hp.1,rfl⟩,hp.2⟩
  ·rintro⟨h | ⟨p,hp,rfl⟩,hne⟩
   ·exact(of_decide_eq_true hne h).elim
   ·exact⟨p,List.mem_filter.mpr ⟨hp,hne⟩,rfl⟩
 have hm:((ss.filter fun x=>decide (x≠("":Str))).map fun x=>(x,wt (z0 ws) x)).map (·.1)=ss.filter fun x=>decide (x≠("":Str)):=by rw[List.map_map];exact List.map_id _
 refine Nz (fun x=>by rw[hm,hk]) fun x hx=>?_;have hx':=(hk x).mp hx;rw[LH (fun x=>wt (z0 ws) x) (nd.filter _) hx',AR (of_decide_eq_true (List.mem_filter.mp hx').2),w0]
noncomputable def DC (A:Ad):c6:=fun ds S k=>∃ (p:Bool×Str) (r:List (Bool×Str)) (ws:List (Str×Int)) (a:D),ds=[.lst ((gk p r).map T.str),a]/\r.length<=20/\p.2.length<=100/\Txt.startswith p.2 "-"=false/\Paired Pc (p::r) ws /\
 (∀ x,-999999999<=wt (z0 ws) x/\wt (z0 ws) x<=999999999)/\k (.t (pM A (oM ws))) S
structure Sw where
 (p:Bool×Str) (r:List (Bool×Str)) (ws:List (Str×Int))
structure SwOk (s:Sw):Prop where
 len:s.r.length<=20
 fst:s.p.2.length<=100
 pl:Txt.startswith s.p.2 "-"=false
 pc:Paired Pc (s.p::s.r) s.ws
 bd:∀ x,-999999999<=wt (z0 s.ws) x/\wt (z0 s.ws) x<=999999999
 sp:∀ x∈gk s.p s.r,32 ∉ cp x
 cm:∀ x∈gk s.p s.r,44 ∉ cp x
noncomputable def Sw.txt (s:Sw):Str:=Txt.join " " (gk s.p s.r)
noncomputable def Mz (A:Ad):c6:=fun ds S k=>∃ (W:List Str) (l:List Sw) (a:D),ds=[.lst (W.map T.str),a]/\((W=[]/\l=[])∨(W≠[]/\l≠[]/\(∀ s∈l,SwOk s)/\Txt.join " " W=Txt.join ", " (l.map Sw.txt))) /\
 (l.length<=20/\(W.map (·.length)).sum+W.length<=100000)/\k (.lst (l.map fun s=>pM A (oM s.ws))) S
theorem a29:(⟨#[44,32]⟩:Str)=", ":=by decide +kernel
theorem Zr:(⟨#[32]⟩:Str)=" ":=by decide +kernel
theorem I9 {c:Nat}(h32:c≠32):∀ {ws:List Str},(∀ x∈ws,c ∉ cp x)->c ∉ cp (Txt.join " " ws)
 | [],_=>by rw[show cp (Txt.join " " [])=[] by decide +kernel];simp
 | [x],h=>by
  have e:Txt.join " " [x]=Str.join " " [x]:=StrLaws.glued_eq_join ..;rw[e];exact h x (List.mem_cons_self ..)
 | x::y::r,h=>by
  have e:Txt.join " " (x::y::r)=Str.join " " (x::y::r):=StrLaws.glued_eq_join ..;have e2:Txt.join " " (y::r)=Str.join " " (y::r):=StrLaws.glued_eq_join ..;have ih:=I9 h32 (ws:=y::r) fun z hz=>h z (List.mem_cons_of_mem _ hz);rw[e,qE,<- e2];intro hm;rcases List.mem_append.mp hm with m | m
  ·exact h x (List.mem_cons_self ..) m
  ·rcases List.mem_append.mp m with m | m
   ·rw[show cp " "=[32] by decide +kernel] at m;exact h32 (List.mem_singleton.mp m)
   ·exact ih m
theorem K5 {l:List Sw}(h0:l≠[])(ok:∀ s∈l,SwOk s):Txt.split (Txt.join ", " (l.map Sw.txt)) ", "=l.map Sw.txt:=by
 rw[<- a29];refine Dy (by simpa using h0) (fun x hx=>?_) (by decide) (by decide) (by decide);obtain⟨s,hs,rfl⟩:=List.mem_map.mp hx;exact I9 (by decide) (ok s hs).cm
theorem L7 {s:Sw}(ok:SwOk s):Txt.split s.txt " "=gk s.p s.r:=by
 unfold Sw.txt;rw[<- Zr];exact qd (by unfold gk;simp) ok.sp
theorem Gq {l:List T}{S:aY}{k:KD}(h:k (.lst l) S):newL false l S k:=by unfold newL;rw[if_neg (by decide)];exact h
theorem FQ {s:Sw}{l:List Sw}(hs:s∈l){n:Nat}(h:(Txt.join ", " (l.map Sw.txt)).length<=n):s.txt.length<=n:=by
 have e:Txt.join ", " (l.map Sw.txt)=Str.join ", " (l.map Sw.txt):=StrLaws.glued_eq_join ..;rw[e] at h;exact Nat.le_trans ((join_le ", " (l.map Sw.txt)).1 _ (List.mem_map.mpr ⟨s,hs,rfl⟩)) h
noncomputable def Wr (c:Nat):Bool:=oK c || vN c || decide (c=35) || decide (c=42) || decide (c=43) || decide (c=45)
structure nI (x:Str):Prop where
 ne:cp x≠[]
 ok:∀ c∈cp x,Wr c=true
 nk:x ∉ pR
 len:x.length<=30
theorem nI.no {x:Str}(h:nI x){c:Nat}(hc:Wr c=false:=by decide +kernel):c ∉ cp x:=fun z=>by rw[h.ok c z] at hc;cases hc
theorem nI.nw {x:Str}(h:nI x)(y:Str)(hy:(cp y).any (fun c=>!Wr c)=true:=by decide +kernel):x≠y:=fun z=>by
 subst z;rw[List.any_eq_true] at hy;obtain⟨c,h1,h2⟩:=hy;rw[h.ok c h1] at h2;cases h2
theorem nI.kw {x:Str}(h:nI x)(y:Str)(hy:y∈pR:=by decide +kernel):x≠y:=fun z=>h.nk (z ▸ hy)
structure wX (s:Sw):Prop where
 ok:SwOk s
 wd:∀ x∈gk s.p s.r,nI x
noncomputable def jn:List Str->List Nat
 | []=>[]
 | [a]=>cp a
 | a::b::r=>cp a++32::jn (b::r)
theorem eL (a b:Str)(r:List Str):jn (a::b::r)=cp a++32::jn (b::r):=rfl
theorem sI:∀ ws:List Str,cp (Txt.join " " ws)=jn ws
 | []=>by decide +kernel
 | [x]=>by
  have e:Txt.join " " [x]=Str.join " " [x]:=StrLaws.glued_eq_join ..;rw[e];rfl
 | x::y::r=>by
  have e:Txt.join " " (x::y::r)=Str.join " " (x::y::r):=StrLaws.glued_eq_join ..;have e2:Txt.join " " (y::r)=Str.join " " (y::r):=StrLaws.glued_eq_join ..;rw[e,qE,<- e2,sI (y::r),eL,show cp " "=[32] by decide +kernel];rfl
theorem nj:∀ {l m:List Str},l≠[]->m≠[]->jn (l++m)=jn l++32::jn m
 | [],_,h,_=>(h rfl).elim
 | [a],[],_,h=>(h rfl).elim
 | [a],b::m,_,_=>rfl
 | a::b::l,m,_,h=>by
  have ih:=nj (l:=b::l) (m:=m) (by simp) h;rw[List.cons_append] at ih;rw[List.cons_append,List.cons_append,eL,eL,ih];simp
theorem uz {a:Str}{m:List Str}(h:m≠[]):jn (a::m)=cp a++32::jn m:=nj (l:=[a]) (by simp) h
theorem Dz {x:Str}{ws:List Str}(e:cp x=jn ws)(h0:ws≠[])(h:∀ w∈ws,32 ∉ cp w):Txt.split x " "=ws:=by
 have:x=Txt.join " " ws:=dw (by rw[e,sI]);rw[this,<- Zr];exact qd h0 h
theorem j7 (p:Bool×Str)(r:List (Bool×Str)):gk p r≠[]:=by unfold gk;simp
theorem mJ (s:Sw):cp s.txt=jn (gk s.p s.r):=sI _
inductive CW where
 | cmp (a:Sw) (s:Str) (b:Sw) | neg (c:CW) | con (k:Bool) (cs:List CW)
noncomputable def gm:CW->Bool
 | .con _ _=>true
 | _=>false
noncomputable def vm (k:Bool):Str:=if k then "and" else "or"
noncomputable def TJ:List Str:=["<","<=","=","!=",">=",">"]
mutual
noncomputable def CW.cd:CW->dF
 | .cmp a s b=>.cmp (oM a.ws) s (oM b.ws)
 | .neg c=>.neg c.cd
 | .con k cs=>.con k (XA cs)
noncomputable def XA:List CW->List dF
 | []=>[]
 | c::r=>c.cd::XA r
end
mutual
noncomputable def CW.dep:CW->Nat
 | .cmp _ _ _=>0
 | .neg c=>c.dep+1
 | .con _ cs=>qD cs+1
noncomputable def qD:List CW->Nat
 | []=>0
 | c::r=>max c.dep (qD r)
end
mutual
noncomputable def CW.ok:CW->Prop
 | .cmp a s b=>wX a/\wX b/\s∈TJ
 | .neg c=>c.ok
 | .con _ cs=>Gk cs/\2<=cs.length/\cs.length<=3
noncomputable def Gk:List CW->Prop
 | []=>True
 | c::r=>c.ok/\Gk r
end
mutual
noncomputable def tZ:CW->List Str
 | .cmp a s b=>gk a.p a.r++s::gk b.p b.r
 | .neg c=>("not":Str)::("(":Str)::(tZ c++[(")":Str)])
 | .con k cs=>(pK k cs).tail
noncomputable def pK (k:Bool):List CW->List Str
 | []=>[]
 | d::r=>vm k::((if gm d=true then ("(":Str)::(tZ d++[(")":Str)]) else tZ d)++pK k r)
end
noncomputable def wk (d:CW):List Str:=if gm d=true then ("(":Str)::(tZ d++[(")":Str)]) else tZ d
theorem gO (k:Bool)(d:CW)(r:List CW):pK k (d::r)=vm k::(wk d++pK k r):=by rw[pK];rfl
theorem HU (k:Bool)(d:CW)(r:List CW):tZ (.con k (d::r))=wk d++pK k r:=by rw[tZ,gO];rfl
theorem CK:∀ l:List CW,XA l=l.map CW.cd
 | []=>rfl
 | c::r=>by rw[XA,CK r];rfl
theorem IU {c:CW}:∀ {l:List CW},Gk l->c∈l->c.ok
 | d::r,h,m=>by
  unfold Gk at h;rcases List.mem_cons.mp m with rfl | m
  ·exact h.1
  ·exact IU h.2 m
theorem Nm:∀ {l:List CW},(∀ c∈l,c.ok)->Gk l
 | [],_=>by unfold Gk;trivial
 | c::r,h=>by unfold Gk;exact⟨h c List.mem_cons_self,Nm fun x hx=>h x (List.mem_cons_of_mem _ hx)⟩
theorem EI {c:CW}:∀ {l:List CW},c∈l->c.dep<=qD l
 | d::r,h=>by
  unfold qD;rcases List.mem_cons.mp h with rfl | h
  ·exact Nat.le_max_left _ _
  ·exact Nat.le_trans (EI h) (Nat.le_max_right _ _)
noncomputable abbrev BW:=Nat×Str×Nat
noncomputable def j6 (b:BW):Str:=⟨(List.replicate b.1 40++(cp b.2.1++List.replicate b.2.2 41)).toArray⟩
noncomputable def bw (x:Str):BW:=(0,x,0)
noncomputable def Di:List BW->List BW
 | []=>[]
 | (o,x,c)::r=>(o+1,x,c)::r
noncomputable def cls:List BW->List BW
 | []=>[]
 | [(o,x,c)]=>[(o,x,c+1)]
 | a::b::r=>a::cls (b::r)
noncomputable def w5 (l:List BW):List Str:=(l.map fun b=>List.replicate b.1 ("(":Str)++b.2.1::List.replicate b.2.2 (")":Str)).flatten
mutual
noncomputable def kO:CW->List BW
 | .cmp a s b=>(gk a.p a.r++s::gk b.p b.r).map bw
 | .neg c=>bw ("not":Str)::cls (Di (kO c))
 | .con k cs=>(zm k cs).tail
noncomputable def zm (k:Bool):List CW->List BW
 | []=>[]
 | d::r=>bw (vm k)::((if gm d=true then cls (Di (kO d)) else kO d)++zm k r)
end
noncomputable def FF (d:CW):List BW:=if gm d=true then cls (Di (kO d)) else kO d
theorem mF (k:Bool)(d:CW)(r:List CW):zm k (d::r)=bw (vm k)::(FF d++zm k r):=by rw[zm];rfl
theorem AS (k:Bool)(d:CW)(r:List CW):kO (.con k (d::r))=FF d++zm k r:=by rw[kO,mF];rfl
theorem yI:∀ {l:List BW},l≠[]->cls l≠[]
 | [],h=>(h rfl).elim
 | [(o,x,c)],_=>by simp[cls]
 | a::b::r,_=>by simp[cls]
theorem mT:∀ {l:List BW},l≠[]->Di l≠[]
 | [],h=>(h rfl).elim
 | (o,x,c)::r,_=>by simp[Di]
mutual
theorem p9:∀ {c:CW},c.ok->kO c≠[]
 | .cmp a s b,_=>by rw[kO];simp
 | .neg c,_=>by rw[kO];simp
 | .con k [],h=>by unfold CW.ok at h;have:=h.2.1;simp at this
 | .con k (d::r),h=>by
  rw[AS];unfold CW.ok at h;obtain⟨h,_⟩:=h;unfold Gk at h;have:=p9 h.1;unfold FF;split
  ·intro z;exact yI (mT this) (List.append_eq_nil_iff.mp z).1
  ·intro z;exact this (List.append_eq_nil_iff.mp z).1
end
theorem HS (l m:List BW):w5 (l++m)=w5 l++w5 m:=by unfold w5;simp
theorem dP (a:BW)(m:List BW):w5 (a::m)=(List.replicate a.1 ("(":Str)++a.2.1::List.replicate a.2.2 (")":Str))++w5 m:=rfl
theorem HR:∀ {l:List BW},l≠[]->w5 (Di l)=("(":Str)::w5 l
 | [],h=>(h rfl).elim
 | (o,x,c)::r,_=>by rw[Di,dP,dP,List.replicate_succ];rfl
theorem AX:∀ {l:List BW},l≠[]->w5 (cls l)=w5 l++[(")":Str)]
 | [],h=>(h rfl).elim
 | [(o,x,c)],_=>by
  rw[cls,dP,dP,List.replicate_succ'];simp[w5]
 | a::b::r,_=>by rw[cls,dP,dP,AX (by simp)];simp
theorem LQ:∀ l:List Str,w5 (l.map bw)=l
 | []=>rfl
 | a::r=>by rw[List.map_cons,dP,LQ r];rfl
mutual
theorem HQ:∀ {c:CW},c.ok->w5 (kO c)=tZ c
 | .cmp a s b,_=>by rw[kO,LQ,tZ]
 | .neg c,h=>by
  unfold CW.ok at h;have n:=p9 h;rw[kO,dP,AX (mT n),HR n,HQ h,tZ];rfl
 | .con k cs,h=>by
  unfold CW.ok at h;have:=LP k h.1
  match cs,h,this with
  | [],h,_=>have:=h.2.1;simp at this
  | d::r,h,this =>
   rw[mF,gO,dP] at this;rw[AS,HU];have e:vm k::w5 (FF d++zm k r)=vm k::(wk d++pK k r):=this;injection e
theorem LP (k:Bool):∀ {l:List CW},Gk l->w5 (zm k l)=pK k l
 | [],_=>by rw[zm,pK];rfl
 | d::r,h=>by
  unfold Gk at h;rw[zm,pK,dP,HS,LP k h.2];have e:w5 (if gm d=true then cls (Di (kO d)) else kO d)=(if gm d=true then ("(":Str)::(tZ d++[(")":Str)]) else tZ d):=by
   have n:=p9 h.1;split
   ·rw[AX (mT n),HR n,HQ h.1];rfl
   ·exact HQ h.1
  rw[e];rfl
end
noncomputable def jw (l:List BW):List Nat:=jn (l.map j6)
theorem gu (b:BW):cp (j6 b)=List.replicate b.1 40++(cp b.2.1++List.replicate b.2.2 41):=by simp[cp,j6]
theorem Jw (x:Str):cp (j6 (bw x))=cp x:=by rw[gu];simp[bw]
theorem Vs (x:Str):j6 (bw x)=x:=dw (Jw x)
theorem WR {l m:List BW}(h:l≠[])(k:m≠[]):jw (l++m)=jw l++32::jw m:=by unfold jw;rw[List.map_append];exact nj (by simpa using h) (by simpa using k)
theorem a0Y (l:List Str):jw (l.map bw)=jn l:=by
 unfold jw;rw[List.map_map];congr 1
 conv=>rhs;rw[<- List.map_id l]
 exact List.map_congr_left fun x _=>Vs x
theorem a0Z {a a':Str}{x:List Nat}(e:cp a'=x++cp a)(r:List Str):jn (a'::r)=x++jn (a::r):=by
 cases r with
 | nil=>exact e
 | cons b r=>rw[eL,eL,e,List.append_assoc]
theorem NU:∀ {l:List BW},l≠[]->jw (Di l)=40::jw l
 | [],h=>(h rfl).elim
 | (o,x,c)::r,_=>by
  unfold jw;rw[Di,List.map_cons,List.map_cons];exact a0Z (x:=[40]) (by rw[gu,gu,List.replicate_succ];rfl) _
theorem GF:∀ {l:List BW},l≠[]->jw (cls l)=jw l++[41]
 | [],h=>(h rfl).elim
 | [(o,x,c)],_=>by
  show cp (j6 (o,x,c+1))=cp (j6 (o,x,c))++[41];rw[gu,gu,List.replicate_succ'];simp
 | a::b::r,_=>by
  have ih:=GF (l:=b::r) (by simp);unfold jw at ih ⊢;rw[cls,List.map_cons,uz (by simpa using yI (l:=b::r) (by simp)),ih];show _=jn (j6 a::j6 b::r.map j6)++[41];rw[eL];simp
mutual
noncomputable def zo:CW->Str
 | .cmp a s b=>(((a.txt++(" ":Str))++s)++(" ":Str))++b.txt
 | .neg c=>(("not (":Str)++zo c)++(")":Str)
 | .con k cs=>Txt.join (if k=true then (" and ":Str) else (" or ":Str)) (txL cs)
noncomputable def txL:List CW->List Str
 | []=>[]
 | d::r=>(if gm d=true then (("(":Str)++zo d)++(")":Str) else zo d)::txL r
end
noncomputable def Fp (d:CW):Str:=if gm d=true then (("(":Str)++zo d)++(")":Str) else zo d
theorem AV:∀ l:List CW,txL l=l.map Fp
 | []=>rfl
 | d::r=>by rw[txL,AV r];rfl
theorem Xr:cp ("not (":Str)=[110,111,116,32,40]:=by decide +kernel
theorem Uq:cp (")":Str)=[41]:=by decide +kernel
theorem a1x:cp ("(":Str)=[40]:=by decide +kernel
theorem Ju (k:Bool):cp (if k=true then (" and ":Str) else (" or ":Str))=32::(cp (vm k)++[32]):=by cases k <;> decide +kernel
theorem So:cp ("not":Str)=[110,111,116]:=by decide +kernel
mutual
theorem EL:∀ {c:CW},c.ok->cp (zo c)=jw (kO c)
 | .cmp a s b,_=>by
  rw[zo,kO,a0Y,nj (j7 _ _) (by simp),uz (j7 _ _),bg,bg,bg,bg,mJ,mJ,EM];simp
 | .neg c,h=>by
  unfold CW.ok at h;have n:=p9 h;have e:jw (kO (.neg c))=cp "not"++32::jw (cls (Di (kO c))):=by
   rw[kO];unfold jw;rw[List.map_cons,uz (by simpa using yI (mT n)),Jw]
  rw[e,GF (mT n),NU n,zo,bg,bg,EL h,Xr,Uq,So];simp
 | .con k cs,h=>by
  unfold CW.ok at h;have t:=Ou k h.1
  match cs,h,t with
  | [],h,_=>have:=h.2.1;simp at this
  | d::r,h,t =>
   rw[zo,AV,List.map_cons,yF,AS];unfold Gk at h;rw[t.1 d (List.mem_cons_self ..)];have t2:=t.2;rw[List.map_cons,List.flatten_cons] at t2;rw[mF] at t2;have n:=t.1 d (List.mem_cons_self ..);have e:jw (bw (vm k)::(FF d++zm k r))=cp (vm k)++32::jw (FF d++zm k r):=by
    unfold jw;have nn:FF d≠[]:=by
     have q:=p9 h.1.1;unfold FF;split
     ·exact yI (mT q)
     ·exact q
    rw[List.map_cons,uz (by simp[nn]),Jw]
   rw[e,Ju,n] at t2;simp at t2;rw[t2,Ju,List.map_map];simp[Function.comp_def]
theorem Ou (k:Bool):∀ {l:List CW},Gk l->(∀ d∈l,cp (Fp d)=jw (FF d))/\32::jw (zm k l)=(if l=[] then [32] else [])++(l.map fun d=>cp (if k=true then (" and ":Str) else (" or ":Str))++cp (Fp d)).flatten
 | [],_=>⟨fun _ h=>absurd h List.not_mem_nil,by rw[zm];rfl⟩
 | d::r,h=>by
  unfold Gk at h;obtain⟨t1,t2⟩:=Ou k h.2;have n:=p9 h.1;have nP:FF d≠[]:=by
   unfold FF;split
   ·exact yI (mT n)
   ·exact n
  have e:cp (Fp d)=jw (FF d):=by
   unfold Fp FF;split
   ·rw[bg,bg,EL h.1,GF (mT n),NU n,a1x,Uq];rfl
   ·exact EL h.1
  refine⟨fun x hx=>?_,?_⟩
  ·rcases List.mem_cons.mp hx with rfl | hx
   ·exact e
   ·exact t1 x hx
  rw[if_neg (by simp),List.nil_append,List.map_cons,List.flatten_cons,mF,e,Ju];have e2:jw (bw (vm k)::(FF d++zm k r))=cp (vm k)++32::jw (FF d++zm k r):=by
   unfold jw;rw[List.map_cons,uz (by simp[nP]),Jw]
  rw[e2];cases r with
  | nil=>rw[zm];simp
  | cons f r =>
   rw[if_neg (by simp),List.nil_append] at t2;have nR:zm k (f::r)≠[]:=by rw[mF];simp
   rw[WR nP nR,t2,Ju];simp
end
noncomputable def a1S (K:PySem.W.Frag)(e:D)(xs:List Str):Prop:=e=.tup (xs.map T.str)∨∃ a,e=.t (.v (.ref a))/\∀ H:Hp,mC K H a (xs.map V.str)
noncomputable def inU (K:PySem.W.Frag)(neg:Bool):uN:=fun x y S k=>∃ z xs,x=.str z/\a1S K y xs/\k (.bl (xor neg (decide (z∈xs)))) S
theorem Nn {X:Cx}:vS X (compareOp .NotIn) (inU X.K true):=by
 refine fJ sj ?_;rintro x y H Q ⟨ρ,S,d,b,k,R,ra,rb,⟨z,xs,h1,h2,q⟩,hk⟩;subst h1;rw[aI ra];rcases h2 with rfl | ⟨a,rfl,h⟩
 ·obtain⟨a,vs,e1,e2,e3⟩:=dX rb;rw[e3.strs] at e2;refine⟨a,_,e1,.inr (.of e2),rfl,oz xs,?_⟩;rw[ia];exact fin R hk aW (by rw[Bool.true_xor] at q;exact q)
 ·rw[aI rb];refine⟨a,_,rfl,.inr (h H),rfl,oz xs,?_⟩;rw[ia];exact fin R hk aW (by rw[Bool.true_xor] at q;exact q)
section
variable {S loc:aY}{n:Nat}{o o':O}
theorem gA (h:n < S.length):(S.set n o++loc)[n]?=some o:=by rw[List.getElem?_append_left (by simpa using h),List.getElem?_set_self h]
theorem sA (h:n < S.length):(S.set n o++loc).set n o'=S.set n o'++loc:=by rw[List.set_append_left _ _ (by simpa using h),List.set_set]
theorem IY (h:S[n]?=some o):n < S.length:=(List.getElem?_eq_some_iff.mp h).1
theorem Ar:(S.set n o).length=S.length:=List.length_set ..
end
section
variable {ts l r:List Str}{i:Nat}{w:Str}
theorem Ol (h:ts.drop i=w::r):ts.getD i ""=w/\ts.drop (i+1)=r:=by
 have e:=congrArg (fun l=>l[0]?) h;simp at e;refine⟨by rw[List.getD_eq_getElem?_getD,e];rfl,?_⟩;rw[<- List.tail_drop,h];rfl
theorem dr0 (h:ts.drop i=[]):ts.getD i ""="":=by
 have:=List.drop_eq_nil_iff.mp h;rw[List.getD_eq_getElem?_getD,List.getElem?_eq_none this];rfl
theorem Yg (h:ts.drop i=l++r):ts.drop (i+l.length)=r:=by rw[<- List.drop_drop,h,List.drop_left]
end
section
variable (A:Ad)
noncomputable def tX (ts:List Str)(i:Nat)(a:Int):O:=.ins A.bz ["tokens","place","at"] [.lst (ts.map T.str),.int i,.int a]
noncomputable def Ml:c6:=fun ds S k=>∃ n ts i a,ds=[.ob n]/\S[n]?=some (tX A ts i a)/\k (.str (ts.getD i "")) S
noncomputable def Mh:c6:=fun ds S k=>∃ n ts i a,ds=[.ob n]/\S[n]?=some (tX A ts i a)/\k (.str (ts.getD i "")) (S.set n (tX A ts (i+1) a))
noncomputable def Mi:c6:=fun ds S k=>∃ n ts i a w,ds=[.ob n,.str w]/\S[n]?=some (tX A ts i a)/\ts.getD i ""=w/\k .dO (S.set n (tX A ts (i+1) a))
noncomputable def Mg (K:PySem.W.Frag):c6:=fun ds S k=>∃ (n:Nat) (e:D) (xs ts:List Str) (i:Nat) (a:Int) (l r:List Str),ds=[.ob n,e]/\a1S K e xs/\S[n]?=some (tX A ts i a)/\ts.drop i=l++r/\(∀ x∈l,x≠""/\x ∉ xs)/\(∀ x r',r=x::r'->x=""∨x∈xs)/\l.length<=900/\k (.lst (l.map T.str)) (S.set n (tX A ts (i+l.length) a))
structure O8 (b:BW):Prop where
 ne:cp b.2.1≠[]
 o:40 ∉ cp b.2.1
 c:41 ∉ cp b.2.1
 l1:b.1<=100
 l2:b.2.2<=100
 l3:b.2.1.length<=100
noncomputable def Tt:c6:=fun ds S k=>∃ (bs:List BW) (a:D),ds=[.lst ((bs.map j6).map T.str),a]/\(∀ b∈bs,O8 b)/\bs.length<=1000/\k (.lst ((w5 bs).map T.str)) S
noncomputable def Mj:c6:=fun ds S k=>∃ (n:Nat) (bs:List BW) (a:Int),ds=[.ob n,.lst ((bs.map j6).map T.str),.int a]/\S[n]?=some (.ins A.bz [] [])/\(∀ b∈bs,O8 b)/\bs.length<=1000/\k .dO (S.set n (tX A (w5 bs) 0 a))
noncomputable def JM (r:List Str):Prop:=r.head?=none∨r.head?=some ")"
noncomputable def E5 (r:List Str):Prop:=r.head?=none∨∃ x∈[("and":Str),"or",")"],r.head?=some x
noncomputable def U7 (m:Nat):c6:=fun ds S k=>∃ (n:Nat) (ts:List Str) (i:Nat) (a:Int) (c:CW) (r:List Str),ds=[.ob n]/\S[n]?=some (tX A ts i a)/\c.ok/\c.dep<=m/\ts.drop i=tZ c++r/\JM r/\k (.t (jK A c.cd)) (S.set n (tX A ts (i+(tZ c).length) a))
noncomputable def Zh (m:Nat):c6:=fun ds S k=>∃ (n:Nat) (ts:List Str) (i:Nat) (a:Int) (c:CW) (r:List Str),ds=[.ob n]/\S[n]?=some (tX A ts i a)/\c.ok/\c.dep<=m/\(gm c=true->c.dep < m)/\ts.drop i=wk c++r/\E5 r/\k (.t (jK A c.cd)) (S.set n (tX A ts (i+(wk c).length) a))
noncomputable def Zj (m:Nat):c6:=fun ds S k=>∃ (n:Nat) (ts:List Str) (i:Nat) (a:Int) (c:CW) (r:List Str),ds=[.ob n]/\S[n]?=some (tX A ts i a)/\c.ok/\c.dep<=m/\ts.drop i=("(":Str)::(tZ c++(")":Str)::r)/\k (.t (jK A c.cd)) (S.set n (tX A ts (i+(tZ c).length+2) a))
noncomputable def Ii:Nat->c6
 | 0=>U8
 | m+1=>Zj A m
noncomputable def Zf:c6:=fun ds S k=>∃ (n:Nat) (ts:List Str) (i:Nat) (a:Int) (x y:Sw) (s:Str) (r:List Str),ds=[.ob n]/\S[n]?=some (tX A ts i a)/\wX x/\wX y/\s∈TJ/\ts.drop i=(gk x.p x.r++s::gk y.p y.r)++r/\E5 r /\
 k (.t (jK A (.cmp (oM x.ws) s (oM y.ws)))) (S.set n (tX A ts (i+(gk x.p x.r++s::gk y.p y.r).length) a))
noncomputable def Zm:c6:=fun ds S k=>∃ (c:CW) (a:Int),ds=[.lst (((kO c).map j6).map T.str),.int a]/\c.ok/\c.dep<=2/\(∀ b∈kO c,O8 b)/\(kO c).length<=1000/\k (.t (jK A c.cd)) S
end
theorem JC {S:aY}{n:Nat}{A:Ad}{ts:List Str}{i:Nat}{a:Int}(hc:Cl S):∀ o∈S.set n (tX A ts i a),ES S.length o:=fun o ho=>by
 rcases List.mem_or_eq_of_mem_set ho with h | rfl
 ·exact hc o h
 ·intro d hd;simp at hd;rcases hd with rfl | rfl | rfl <;> trivial
theorem Vh:∀ y∈TJ,(cp y).any (fun c=>!Wr c)=true:=by decide +kernel
theorem wd1 {s:Sw}(h:wX s):∀ x∈gk s.p s.r,x≠""/\x ∉ TJ:=fun x hx=>⟨fun z=>(h.wd x hx).ne (by rw[z];decide +kernel),fun z=>(h.wd x hx).nw x (Vh x z) rfl⟩
theorem wd2 {s:Sw}(h:wX s):∀ x∈gk s.p s.r,x≠""/\x ∉ [("and":Str),"or",")"]:=fun x hx=>⟨(wd1 h x hx).1,fun z=>by
 have k:=h.wd x hx;simp at z;rcases z with z | z | z
 ·exact k.kw "and" (by decide +kernel) z
 ·exact k.kw "or" (by decide +kernel) z
 ·exact k.nw ")" (by decide +kernel) z⟩
theorem FT {s:Sw}(h:wX s):(gk s.p s.r).length<=41:=by rw[t9];have:=h.ok.len;omega
theorem Y9 (s:Sw):∃ l,gk s.p s.r=uB s.p::l:=⟨_,rfl⟩
theorem Ds {r:List Str}(h:JM r):E5 r:=h.elim .inl fun h=>.inr ⟨")",by simp,h⟩
theorem AY (k:Bool):∀ l m:List CW,pK k (l++m)=pK k l++pK k m
 | [],m=>by rw[pK];rfl
 | d::l,m=>by rw[List.cons_append,gO,gO,AY k l m];simp
theorem Tq {k:Bool}{l:List CW}{r:List Str}(h:JM r):E5 (pK k l++r):=by
 cases l with
 | nil=>rw[pK];exact Ds h
 | cons d l=>rw[gO];exact .inr ⟨vm k,by cases k <;> simp[vm],rfl⟩
theorem Du {ts r:List Str}{i:Nat}{k:Bool}(e:ts.drop i=r)(h:JM r):ts.getD i ""≠vm k:=by
 cases r with
 | nil=>rw[dr0 e];cases k <;> decide +kernel
 | cons x r =>
  rw[(Ol e).1];rcases h with h | h
  ·simp at h
  ·simp at h;rw[h];cases k <;> decide +kernel
theorem OB {S S1:aY}{n:Nat}{A:Ad}{ts:List Str}{i:Nat}{a:Int}{x:T}{k:KD}(hc:Cl S)(h:k (.t x) (S.set n (tX A ts i a))):closes S.length (.t x) (S.set n (tX A ts i a)++S1) k:=.inl ⟨_,_,rfl,Ar,JC hc,trivial,h⟩
theorem JV {r:List Str}(h:E5 r):∀ x r',r=x::r'->x=""∨x∈[("and":Str),"or",")"]:=fun x r' e=>by
 subst e;rcases h with h | ⟨y,hy,h⟩
 ·cases h
 ·injection h with h;rw[h];exact .inr hy
theorem F1 (c:CW):(2<=Dh c.cd)↔gm c=true:=by
 cases c with
 | cmp a s b=>simp[CW.cd,Dh,gm]
 | neg c=>simp[CW.cd,Dh,gm]
 | con k cs=>cases k <;> simp[CW.cd,Dh,gm]
theorem LR {c:CW}(h:gm c=false):wk c=tZ c:=by unfold wk;rw[if_neg (by rw[h];decide)]
theorem YB {c:CW}(h:gm c=true):wk c=("(":Str)::(tZ c++[(")":Str)]):=by unfold wk;rw[if_pos h]
noncomputable def Ks:Nat->Nat
 | 0=>83
 | d+1=>3*Ks d+2
theorem yh:∀ {a b:Nat},a<=b->Ks a<=Ks b
 | 0,0,_=>Nat.le_refl _
 | 0,b+1,_=>by have:=yh (a:=0) (b:=b) (Nat.zero_le _);show Ks 0<=3*Ks b+2;omega
 | a+1,0,h=>by omega
 | a+1,b+1,h=>by have:=yh (a:=a) (b:=b) (by omega);show 3*Ks a+2<=3*Ks b+2;omega
theorem CJ:∀ l:List BW,(cls l).length=l.length
 | []=>rfl
 | [_]=>rfl
 | a::b::r=>by rw[cls,List.length_cons,CJ (b::r)];rfl
theorem IT:∀ l:List BW,(Di l).length=l.length
 | []=>rfl
 | _::_=>rfl
structure FA (n:Nat)(b:BW):Prop where
 ne:cp b.2.1≠[]
 o:40 ∉ cp b.2.1
 c:41 ∉ cp b.2.1
 sp:32 ∉ cp b.2.1
 nl:10 ∉ cp b.2.1
 l1:b.1<=n
 l2:b.2.2<=n
 l3:b.2.1.length<=30
theorem FA.up {n m:Nat}{b:BW}(h:FA n b)(l:n<=m):FA m b:=⟨h.ne,h.o,h.c,h.sp,h.nl,Nat.le_trans h.l1 l,Nat.le_trans h.l2 l,h.l3⟩
theorem SA {n:Nat}:∀ {l:List BW},(∀ b∈l,FA n b)->∀ b∈Di l,FA (n+1) b
 | [],h=>fun b hb=>by cases hb
 | (o,x,c)::r,h=>fun b hb=>by
  rw[Di] at hb;rcases List.mem_cons.mp hb with rfl | hb
  ·have:=h _ (List.mem_cons_self ..);exact⟨this.ne,this.o,this.c,this.sp,this.nl,Nat.succ_le_succ this.l1,Nat.le_succ_of_le this.l2,this.l3⟩
  ·exact(h b (List.mem_cons_of_mem _ hb)).up (Nat.le_succ _)
theorem JJ {n m:Nat}:∀ {l:List BW},(∀ b∈l,FA m b)->(∀ b∈l,b.2.2<=n)->n+1<=m->∀ b∈cls l,FA m b
 | [],h,_,_=>fun b hb=>by cases hb
 | [(o,x,c)],h,k,l=>fun b hb=>by
  rw[cls,List.mem_singleton] at hb;subst hb;have:=h _ (List.mem_cons_self ..);have q:=k _ (List.mem_cons_self ..);exact⟨this.ne,this.o,this.c,this.sp,this.nl,this.l1,Nat.le_trans (Nat.succ_le_succ q) l,this.l3⟩
 | a::b'::r,h,k,l=>fun b hb=>by
  rw[cls] at hb;rcases List.mem_cons.mp hb with rfl | hb
  ·exact h _ (List.mem_cons_self ..)
  ·exact JJ (fun z hz=>h z (List.mem_cons_of_mem _ hz)) (fun z hz=>k z (List.mem_cons_of_mem _ hz)) l b hb
theorem Wb {n:Nat}:∀ {l:List BW},(∀ b∈l,b.2.2<=n)->∀ b∈Di l,b.2.2<=n
 | [],h=>fun b hb=>by cases hb
 | (o,x,c)::r,h=>fun b hb=>by
  rw[Di] at hb;rcases List.mem_cons.mp hb with rfl | hb
  ·exact h (o,x,c) (List.mem_cons_self ..)
  ·exact h b (List.mem_cons_of_mem _ hb)
theorem OM {n:Nat}{l:List BW}(h:∀ b∈l,FA n b):∀ b∈cls (Di l),FA (n+1) b:=JJ (SA h) (Wb fun b hb=>(h b hb).l2) (Nat.le_refl _)
theorem OL {x:Str}(h:nI x)(n:Nat):FA n (bw x):=⟨h.ne,h.no,h.no,h.no,h.no,Nat.zero_le _,Nat.zero_le _,h.len⟩
theorem CQ (x:Str)(n:Nat)(h:(decide (cp x≠[]) && !((cp x).contains 40) && !((cp x).contains 41) && !((cp x).contains 32) && !((cp x).contains 10) && decide (x.length<=30))=true):FA n (bw x):=by
 simp only[Bool.and_eq_true,decide_eq_true_eq,Bool.not_eq_true',List.contains_eq_mem,decide_eq_false_iff_not] at h;obtain⟨⟨⟨⟨⟨h1,h2⟩,h3⟩,h4⟩,h5⟩,h6⟩:=h;exact⟨h1,h2,h3,h4,h5,Nat.zero_le _,Nat.zero_le _,h6⟩
theorem Vg:∀ x∈TJ,(decide (cp x≠[]) && !((cp x).contains 40) && !((cp x).contains 41) && !((cp x).contains 32) && !((cp x).contains 10) && decide (x.length<=30))=true:=by decide +kernel
theorem WL (k:Bool):(decide (cp (vm k)≠[]) && !((cp (vm k)).contains 40) && !((cp (vm k)).contains 41) && !((cp (vm k)).contains 32) && !((cp (vm k)).contains 10) && decide ((vm k).length<=30))=true:=by cases k <;> decide +kernel
mutual
theorem wj:∀ {c:CW},c.ok->(∀ b∈kO c,FA c.dep b)/\(kO c).length<=Ks c.dep
 | .cmp x s y,h=>by
  unfold CW.ok at h;rw[kO,CW.dep];constructor
  ·intro b hb;obtain⟨w,hw,rfl⟩:=List.mem_map.mp hb;rcases List.mem_append.mp hw with hw | hw
   ·exact OL (h.1.wd w hw) _
   ·rcases List.mem_cons.mp hw with rfl | hw
    ·exact CQ _ _ (Vg _ h.2.2)
    ·exact OL (h.2.1.wd w hw) _
  ·have h1:=FT h.1;have h2:=FT h.2.1;rw[List.length_map,List.length_append,List.length_cons];show _<=83;omega
 | .neg c,h=>by
  unfold CW.ok at h;obtain⟨h1,h2⟩:=wj h;rw[kO,CW.dep];constructor
  ·intro b hb;rcases List.mem_cons.mp hb with rfl | hb
   ·exact CQ _ _ (by decide +kernel)
   ·exact OM h1 b hb
  ·rw[List.length_cons,CJ,IT];show _<=3*Ks c.dep+2;omega
 | .con k cs,h=>by
  unfold CW.ok at h;obtain⟨h1,h2⟩:=HB k h.1;rw[kO,CW.dep];refine⟨fun b hb=>h1 b (List.mem_of_mem_tail hb),?_⟩;rw[List.length_tail];show _<=3*Ks (qD cs)+2;have h3:=h.2.2;have:(Ks (qD cs)+1)*cs.length<=(Ks (qD cs)+1)*3:=Nat.mul_le_mul_left _ h3;omega
theorem HB (k:Bool):∀ {l:List CW},Gk l->(∀ b∈zm k l,FA (qD l+1) b)/\(zm k l).length<=(Ks (qD l)+1)*l.length
 | [],_=>by rw[zm];exact⟨(fun b hb=>absurd hb List.not_mem_nil),Nat.zero_le _⟩
 | d::r,h=>by
  unfold Gk at h;obtain⟨h1,h2⟩:=wj h.1;obtain⟨h3,h4⟩:=HB k h.2;rw[zm,qD];have m1:=Nat.le_max_left d.dep (qD r);have m2:=Nat.le_max_right d.dep (qD r);constructor
  ·intro b hb;rcases List.mem_cons.mp hb with rfl | hb
   ·exact CQ _ _ (WL k)
   ·rcases List.mem_append.mp hb with hb | hb
    ·split at hb
     ·exact(OM h1 b hb).up (by omega)
     ·exact(h1 b hb).up (by omega)
    ·exact(h3 b hb).up (by omega)
  ·have e:(if gm d=true then cls (Di (kO d)) else kO d).length=(kO d).length:=by
    split
    ·rw[CJ,IT]
    ·rfl
   rw[List.length_cons,List.length_append,e,List.length_cons];have u1:=yh m1;have u2:=Nat.mul_le_mul_right r.length (Nat.succ_le_succ (yh m2));rw[Nat.mul_succ];simp only[Nat.succ_eq_add_one] at u2;omega
end
noncomputable def Fo (c:CW):Prop:=c.ok/\c.dep<=2
theorem Fo.bw {c:CW}(h:Fo c):∀ b∈kO c,FA 2 b:=fun b hb=>((wj h.1).1 b hb).up h.2
theorem Fo.b {c:CW}(h:Fo c):∀ b∈kO c,O8 b:=fun b hb=>by
 have q:=h.bw b hb;have q1:=q.l1;have q2:=q.l2;have q3:=q.l3;exact⟨q.ne,q.o,q.c,by omega,by omega,by omega⟩
theorem Fo.ln {c:CW}(h:Fo c):(kO c).length<=755:=Nat.le_trans (wj h.1).2 (yh h.2)
theorem MK {n:Nat}{b:BW}(h:FA n b):32 ∉ cp (j6 b)/\10 ∉ cp (j6 b):=by
 rw[gu];constructor <;> intro z <;> rcases List.mem_append.mp z with z | z
 ·rw[List.mem_replicate] at z;omega
 ·rcases List.mem_append.mp z with z | z
  ·exact h.sp z
  ·rw[List.mem_replicate] at z;omega
 ·rw[List.mem_replicate] at z;omega
 ·rcases List.mem_append.mp z with z | z
  ·exact h.nl z
  ·rw[List.mem_replicate] at z;omega
theorem pV (l:List T)(n:Nat):tu l (some (n:Int)) none=l.drop n:=by
 unfold tu;rw[HT.r6,HT.xJ,List.take_of_length_le (by simp)];rcases Nat.le_total n l.length with h | h
 ·rw[Nat.min_eq_left h]
 ·rw[Nat.min_eq_right h,List.drop_length,List.drop_eq_nil_of_le h]
theorem Jt (l:List T)(n:Nat):tu l none (some (n:Int))=l.take n:=by
 unfold tu;rw[HT.r6,HT.xJ,List.drop_zero,Nat.sub_zero];rcases Nat.le_total n l.length with h | h
 ·rw[Nat.min_eq_left h]
 ·rw[Nat.min_eq_right h,List.take_length,List.take_of_length_le h]
theorem Xo (l:List T){m n:Nat}(h:m<=n)(hn:n<=l.length):tu l (some (m:Int)) (some (n:Int))=(l.drop m).take (n - m):=by
 unfold tu;rw[HT.r6,HT.r6,Nat.min_eq_left hn,Nat.min_eq_left (Nat.le_trans h hn)]
theorem zQ {neg:Bool}{x:Str}{ws:List Str}{d:D}{S:aY}{k:KD}(hd:sq S d=some (ws.map T.str))(h:k (.bl (xor neg (decide (x∈ws)))) S):in3 neg (.str x) d S k :=
 ⟨_,_,_,rfl,rfl,hd,oA ws,by rw[ia];exact h⟩
theorem a5d {n:Nat}{l:List Str}{S:aY}{k:KD}(hn:0 < n)(h:k (.bl true) S):eq3 n false (.lst (l.map T.str)) (.lst (l.map T.str)) S k:=⟨_,_,rfl,rfl,.inl ⟨rfl,wO fun x hx=>by obtain⟨y,_,rfl⟩:=List.mem_map.mp hx;exact bL y,h⟩⟩
section
variable (A:Ad)
noncomputable def oi (R:List (List Str))(i:Nat):O:=.ins A.dZ ["rows","at"] [.lst (R.map fun ws=>T.lst (ws.map T.str)),.int i]
noncomputable def Mp:c6:=fun ds S k=>∃ (n:Nat) (d:D) (xs:List Str),ds=[.ob n,d]/\S[n]?=some (.ins A.dZ [] [])/\xq S d=some (xs.map T.str)/\xs.length<=1000/\(∀ x∈xs,x.length<=100000)/\k .dO (S.set n (oi A (xs.map fun x=>Txt.split x " ") 0))
noncomputable def Mq:c6:=fun ds S k=>∃ n R i,ds=[.ob n]/\S[n]?=some (oi A R i)/\(i < R.length->R.getD i []≠[])/\k (.str ((R.getD i []).headD "")) S
noncomputable def Mm:c6:=fun ds S k=>∃ n R i ws,ds=[.ob n]/\S[n]?=some (oi A R i)/\R[i]?=some ws/\k (.lst (ws.map T.str)) (S.set n (oi A R (i+1)))
noncomputable def Mn:c6:=fun ds S k=>∃ n R i w,ds=[.ob n,.str w]/\S[n]?=some (oi A R i)/\R[i]?=some [w]/\k .dO (S.set n (oi A R (i+1)))
noncomputable def Zk:c6:=fun ds S k=>∃ n R i vQ,ds=[.ob n]/\S[n]?=some (oi A R i)/\R[i]?=some (("answers":Str)::vQ)/\vQ≠[]/\(∀ x∈vQ,isNm x=true)/\vQ.length<=100/\k (.lst (vQ.map T.str)) (S.set n (oi A R (i+1)))
noncomputable def Dg:Nat->List CW->List (Int×dF)
 | _,[]=>[]
 | i,c::r=>((i:Int),c.cd)::Dg (i+1) r
noncomputable def zx (w:Str)(c:CW):List Str:=w::(kO c).map j6
noncomputable def Zg:c6:=fun ds S k=>∃ (n:Nat) (R:List (List Str)) (i:Nat) (w:Str) (l:List CW) (y:Str) (ys:List Str) (r:List (List Str)),ds=[.ob n,.str w]/\S[n]?=some (oi A R i)/\R.drop i=l.map (zx w)++(y::ys)::r/\y≠w/\(∀ c∈l,Fo c)/\l.length<=100 /\
 k (.lst ((Dg i l).map (atT A))) (S.set n (oi A R (i+l.length)))
end
inductive SX where
 | lt (x:Str) (a:Sw) | dv (x wd:Str) (a b:Sw) | ft (x r:Str) (p:Sw) | pt (r:Str) (p s:Sw) | mq (r:Str) (z:Sw) | cm (c:CW) | cl (ns:List Str) (hp:Str) (g:List Sw)
noncomputable def SX.st (i:Nat):SX->oQ
 | .lt x a=>.lt i x (oM a.ws)
 | .dv x wd a b=>.dv i x wd (oM a.ws) (oM b.ws)
 | .ft x r p=>.ft i x r (oM p.ws)
 | .pt r p s=>.pt i r (oM p.ws) (oM s.ws)
 | .mq r z=>.mq i r (oM z.ws)
 | .cm c=>.cm i c.cd
 | .cl ns hp g=>.cl i ns hp (g.map fun s=>oM s.ws)
noncomputable abbrev Sw.w (s:Sw):List Str:=gk s.p s.r
noncomputable def Lu:List Str->List Str
 | []=>[]
 | [x]=>[x++(",":Str)]
 | x::y::r=>x::Lu (y::r)
noncomputable def sM:List Sw->List Str
 | []=>[]
 | [s]=>s.w
 | s::t::r=>Lu s.w++sM (t::r)
noncomputable def Pg (ns:List Str):List Str:=if ns=[] then [] else ns++[("=":Str)]
noncomputable def SX.jZ:SX->List Str
 | .lt x a=>("let":Str)::x::("=":Str)::a.w
 | .dv x wd a b=>("let":Str)::x::("=":Str)::(a.w++wd::b.w)
 | .ft x r p=>("let":Str)::x::("=":Str)::r::("at":Str)::p.w
 | .pt r p s=>("put":Str)::r::("at":Str)::(p.w++("=":Str)::s.w)
 | .mq r z=>("row":Str)::r::("=":Str)::z.w
 | .cm c=>zx "claim" c
 | .cl ns hp g=>("call":Str)::(Pg ns++hp::sM g)
noncomputable def SX.ok:SX->Prop
 | .lt x a=>isNm x=true/\wX a
 | .dv x wd a b=>isNm x=true/\(wd="div"∨wd="mod")/\wX a/\wX b
 | .ft x r p=>isNm x=true/\isNm r=true/\wX p
 | .pt r p s=>isNm r=true/\wX p/\wX s
 | .mq r z=>isNm r=true/\wX z
 | .cm c=>Fo c
 | .cl ns hp g=>(∀ x∈ns,isNm x=true)/\ns.length<=10/\isNm hp=true/\g.length<=10/\∀ s∈g,wX s
section
variable (A:Ad)
noncomputable def DE (P:SX->Prop):c6:=fun ds S k=>∃ (x:SX) (i:Nat),ds=[.lst (x.jZ.map T.str),.int i]/\P x/\x.ok/\k (.t (ud A (x.st i))) S
noncomputable def isLet:SX->Prop
 | .lt ..=>True | .dv ..=>True | .ft ..=>True | _=>False
noncomputable def Uc:SX->Prop
 | .pt ..=>True | _=>False
noncomputable def a03:SX->Prop
 | .mq ..=>True | _=>False
noncomputable def a04:SX->Prop
 | .cl ..=>True | _=>False
noncomputable def Tw:c6:=fun ds S k=>∃ (n:Nat) (R:List (List Str)) (i:Nat) (x:SX),ds=[.ob n]/\S[n]?=some (oi A R i)/\R[i]?=some x.jZ/\x.ok/\k (.t (ud A (x.st i))) (S.set n (oi A R (i+1)))
noncomputable def vA:Nat->List SX->List oQ
 | _,[]=>[]
 | i,x::r=>x.st i::vA (i+1) r
noncomputable def Tv:c6:=fun ds S k=>∃ (n:Nat) (R:List (List Str)) (i:Nat) (l:List SX) (r:List (List Str)),ds=[.ob n]/\S[n]?=some (oi A R i)/\R.drop i=l.map SX.jZ++[("end":Str)]::r/\(∀ x∈l,x.ok)/\l.length<=100/\k (.lst ((vA i l).map (ud A))) (S.set n (oi A R (i+l.length)))
structure HX where
 (name:Str) (ps an:List Str) (nd gv:List CW) (st:List SX)
structure HX.ok (h:HX):Prop where
 nm:isNm h.name=true
 ps:∀ x∈h.ps,jU x=true/\x.length<=100
 an:∀ x∈h.an,isNm x=true
 an0:h.an≠[]
 lp:h.ps.length<=100
 la:h.an.length<=100
 nd:∀ c∈h.nd,Fo c
 gv:∀ c∈h.gv,Fo c
 st:∀ x∈h.st,x.ok
 ln:h.nd.length<=100
 lg:h.gv.length<=100
 ls:h.st.length<=100
noncomputable def HX.rows (h:HX):List (List Str):=(("helper":Str)::h.name::h.ps)::(("answers":Str)::h.an)::(h.nd.map (zx "needs")++(h.gv.map (zx "gives")++(h.st.map SX.jZ++[[("end":Str)]])))
noncomputable def HX.hl (h:HX)(i:Nat):Ly:=⟨i,h.name,h.ps,h.an,Dg (i+2) h.nd,Dg (i+2+h.nd.length) h.gv,vA (i+2+h.nd.length+h.gv.length) h.st⟩
noncomputable def Zi:c6:=fun ds S k=>∃ (n:Nat) (R:List (List Str)) (i:Nat) (h:HX) (r:List (List Str)),ds=[.ob n]/\S[n]?=some (oi A R i)/\R.drop i=h.rows++r/\h.ok/\k (.t (Pf A (h.hl i))) (S.set n (oi A R (i+h.rows.length)))
noncomputable def Ze:c6:=fun ds S k=>∃ (t:Str) (xs:List Str) (h:HX),ds=[.str t]/\t.length<=5000000/\Txt.split t "\n"=xs++[("":Str)]/\xs.length<=1000/\(∀ x∈xs,x.length<=100000)/\(xs.map fun x=>Txt.split x " ")=h.rows/\h.ok/\k (.t (pgT A [h.hl 0])) S
end
theorem nW:∀ (l:List CW) (i:Nat),(Dg i l).length=l.length
 | [],_=>rfl
 | c::r,i=>by rw[Dg,List.length_cons,nW r,List.length_cons]
theorem HA:∀ (l m:List CW) (i:Nat),Dg i (l++m)=Dg i l++Dg (i+l.length) m
 | [],m,i=>by rw[Dg];rfl
 | c::r,m,i=>by rw[List.cons_append,Dg,Dg,HA r m,List.cons_append,List.length_cons,show i+1+r.length=i+(r.length+1) by omega]
theorem A7:∀ (l m:List SX) (i:Nat),vA i (l++m)=vA i l++vA (i+l.length) m
 | [],m,i=>by rw[vA];rfl
 | c::r,m,i=>by rw[List.cons_append,vA,vA,A7 r m,List.cons_append,List.length_cons,show i+1+r.length=i+(r.length+1) by omega]
theorem wm:∀ (l:List SX) (i:Nat),(vA i l).length=l.length
 | [],_=>rfl
 | c::r,i=>by rw[vA,List.length_cons,wm r,List.length_cons]
section
variable {R l r:List (List Str)}{i:Nat}{w:List Str}
theorem Vr (h:R.drop i=w::r):R[i]?=some w/\R.getD i []=w/\R.drop (i+1)=r:=by
 have e:=congrArg (fun l=>l[0]?) h;simp at e;refine⟨e,by rw[List.getD_eq_getElem?_getD,e];rfl,?_⟩;rw[<- List.tail_drop,h];rfl
theorem Zu (h:R.drop i=l++r):R.drop (i+l.length)=r:=by rw[<- List.drop_drop,h,List.drop_left]
end
theorem JB {S:aY}{n:Nat}{A:Ad}{R:List (List Str)}{i:Nat}(hc:Cl S):∀ o∈S.set n (oi A R i),ES S.length o:=fun o ho=>by
 rcases List.mem_or_eq_of_mem_set ho with h | rfl
 ·exact hc o h
 ·intro d hd;simp at hd;rcases hd with rfl | rfl <;> trivial
theorem iy {x:Str}(h:isNm x=true):nI x:=by
 unfold isNm at h;simp only[Bool.and_eq_true,decide_eq_true_eq,Bool.not_eq_true',decide_eq_false_iff_not] at h;obtain⟨⟨⟨h1,h2⟩,h3⟩,h4⟩:=h;refine⟨fun z=>?_,fun c hc=>?_,h3,by omega⟩
 ·rw[bB,z] at h1;simp at h1
 ·rw[List.all_eq_true] at h4;unfold Wr;rw[h4 c hc];rfl
theorem bJ {x:Str}(h:isNm x=true):x.length<=8:=by
 unfold isNm at h;simp only[Bool.and_eq_true,decide_eq_true_eq] at h;exact h.1.1.2
theorem G2:∀ {l:List Str},l≠[]->Lu l≠[]
 | [],h=>(h rfl).elim
 | [x],_=>by simp[Lu]
 | x::y::r,_=>by simp[Lu]
theorem OA:∀ {l:List Str},l≠[]->jn (Lu l)=jn l++[44]
 | [],h=>(h rfl).elim
 | [x],_=>by
  show cp (x++(",":Str))=cp x++[44];rw[bg,show cp (",":Str)=[44] by decide +kernel]
 | x::y::r,_=>by rw[Lu,uz (G2 (by simp)),OA (by simp),eL];simp
theorem a1z:cp (", ":Str)=[44,32]:=by decide +kernel
theorem GI:∀ {l:List Sw},l≠[]->sM l≠[]
 | [],h=>(h rfl).elim
 | [s],_=>j7 _ _
 | s::t::r,_=>by rw[sM];intro z;exact G2 (j7 _ _) (List.append_eq_nil_iff.mp z).1
theorem GJ:∀ l:List Sw,jn (sM l)=cp (Txt.join ", " (l.map Sw.txt))
 | []=>by decide +kernel
 | [s]=>by rw[sM,List.map_cons,yF,mJ];simp
 | s::t::r=>by
  rw[sM,nj (G2 (j7 _ _)) (GI (by simp)),OA (j7 _ _),GJ (t::r),List.map_cons,List.map_cons,yF,yF,a1z,mJ s];simp
theorem Jy:∀ {l:List Str} {x:Str},x∈Lu l->x∈l∨∃ y∈l,x=y++(",":Str)
 | [y],x,h=>.inr ⟨y,by simp,by simpa [Lu] using h⟩
 | y::z::r,x,h=>by
  rw[Lu] at h;rcases List.mem_cons.mp h with rfl | h
  ·exact .inl (by simp)
  ·rcases Jy h with h | ⟨w,h1,h2⟩
   ·exact .inl (List.mem_cons_of_mem _ h)
   ·exact .inr ⟨w,List.mem_cons_of_mem _ h1,h2⟩
theorem Jg:∀ {l:List Sw} {x:Str},x∈sM l->(∃ s∈l,x∈s.w)∨∃ s∈l,∃ y∈s.w,x=y++(",":Str)
 | [s],x,h=>.inl ⟨s,by simp,h⟩
 | s::t::r,x,h=>by
  rw[sM] at h;rcases List.mem_append.mp h with h | h
  ·rcases Jy h with h | ⟨w,h1,h2⟩
   ·exact .inl ⟨s,by simp,h⟩
   ·exact .inr ⟨s,by simp,w,h1,h2⟩
  ·rcases Jg h with ⟨u,h1,h2⟩ | ⟨u,h1,y,h2,h3⟩
   ·exact .inl ⟨u,List.mem_cons_of_mem _ h1,h2⟩
   ·exact .inr ⟨u,List.mem_cons_of_mem _ h1,y,h2,h3⟩
theorem Jz:∀ l:List Str,(Lu l).length=l.length
 | []=>rfl
 | [_]=>rfl
 | x::y::r=>by rw[Lu,List.length_cons,Jz (y::r)];rfl
theorem Jh:∀ {l:List Sw},(∀ s∈l,wX s)->(sM l).length<=41*l.length
 | [],_=>Nat.zero_le _
 | [s],h=>by have:=FT (h s (by simp));rw[sM];simpa using this
 | s::t::r,h=>by
  have h1:=FT (h s (by simp));have h2:=Jh (l:=t::r) fun u hu=>h u (List.mem_cons_of_mem _ hu);rw[sM,List.length_append,Jz];show(gk s.p s.r).length+_<=41*((t::r).length+1);omega
theorem GH {l:List Sw}(h:∀ s∈l,wX s):∀ x∈sM l,x≠("=":Str)/\32 ∉ cp x/\10 ∉ cp x/\x.length<=31:=fun x hx=>by
 rcases Jg hx with ⟨s,hs,hw⟩ | ⟨s,hs,y,hy,rfl⟩
 ·have k:=(h s hs).wd x hw;exact⟨k.nw "=",k.no,k.no,by have:=k.len;omega⟩
 ·have k:=(h s hs).wd y hy;have e:cp (y++(",":Str))=cp y++[44]:=by rw[bg,show cp (",":Str)=[44] by decide +kernel]
  refine⟨fun z=>?_,fun z=>?_,fun z=>?_,?_⟩
  ·have:44∈cp ("=":Str):=by rw[<- z,e];simp
   revert this;decide +kernel
  ·rw[e] at z;rcases List.mem_append.mp z with z | z
   ·exact(k.no (c:=32)) z
   ·simp at z
  ·rw[e] at z;rcases List.mem_append.mp z with z | z
   ·exact(k.no (c:=10)) z
   ·simp at z
  ·have:=k.len;rw[bB] at this ⊢;rw[e];simp;exact this
theorem LJ (x:SX):∃ y ys,x.jZ=y::ys/\y ∉ [("end":Str),"else"]:=by
 cases x <;> exact⟨_,_,rfl,by decide +kernel⟩
end L3
namespace L3
open PySem L2 Hw PyProof.Rows
section
variable {X:Cx}{o e:Expr}{to:cX}{t:uL}{apos cpos:Pos}
noncomputable def Vv (K:PySem.W.Frag):V->List V->Hp->VK->Prop:=fun x vs H Q=>∃ sep p ss,x=.str sep/\vs=[.ref p]/\mC K H p (List.map V.str ss)/\(ss.map (·.length)).sum+ss.length*sep.length<=16777216/\Q (.str (Txt.join sep ss)) H
theorem NF:qO X "str.join" (Vv X.K):=by
 intro pins s σ H x vs v us Q I rx rv h;obtain⟨sep,p,ss,rfl,rfl,hp,hz,q⟩:=h;obtain⟨t,rfl⟩:=rx;obtain⟨u,rfl,ru⟩:=rv.one;cases ru;obtain⟨its,r,pl,_⟩:=I.tuple hp;exact join_tuple pl (by simpa using mW r) hz fun t' k=>⟨.str _,H,I.tok _,⟨_,rfl⟩,q⟩
noncomputable def GG:Fz
 | .t (.v (.str sep)),[.t (.tup l)],S,k=>∃ ss:List Str,l=ss.map T.str/\(ss.map (·.length)).sum+ss.length*sep.length<=16777216/\k (.str (Txt.join sep ss)) S
 | _,_,_,_=>False
theorem RN:qO X "str.join" (Gz X.K GG):=by
 refine lV NF ?_;rintro v vs H Q ⟨ρ,S,d,ds,k,R,rd,rs,q,hk⟩;unfold GG at q;split at q
 ·obtain⟨ss,rfl,h2,h3⟩:=q;obtain⟨w,rfl,rw'⟩:=rs.one;obtain⟨a,us,e1,e2,e3⟩:=dX rw';rw[aI rd];rw[e3.strs] at e2;exact⟨_,a,ss,rfl,by rw[e1],.of e2,h2,fin R hk aW h3⟩
 ·exact q.elim
theorem Qv (ho:QE X o to)(ha:QA X [e] t)(h1:notStar e=true:=by rfl)(hbase:attributeBase o "join" X.env (eval o X.env)=eval o X.env:=by rfl)(hline:(apos.endLine == cpos.line)=true:=by rfl) :
  QE X (.Call (.Attribute o "join" apos) [e] [] cpos) (mH "str" GG to t):=xP PySem.F.plainAttrs_str PySem.F.slot_str_join PySem.F.type_str_join RN ho ha h1 rfl (by decide) hbase hline
noncomputable def ZN:uN
 | .t (.v (.int i)),.t (.v (.int j)),S,k=>a1T i j/\k (.int (i ^ j.toNat)) S
 | _,_,_,_=>False
theorem Z2:vS X (binaryOp .Pow) ZN:=by
 refine fJ We ?_;rintro x y H Q ⟨ρ,S,a,b,k,R,ra,rb,q,hk⟩;unfold ZN at q;split at q
 ·exact⟨_,_,aI ra,aI rb,q.1,fin R hk aW q.2⟩
 ·exact q.elim
end
noncomputable def Yr (x:Str):Prop:=1<=x.length/\x.length<=8/\(cp x).all oK=true
noncomputable def E6 (x:Str):Prop:=∃ c,x=⟨#[c]⟩/\oK c=true
theorem T6 {x:Str}(h:Yr x)(k:x ∉ nh):isNm x=true:=by
 unfold isNm;rw[decide_eq_true h.1,decide_eq_true h.2.1,decide_eq_false (show x ∉ pR from k),show x.cps.toList.all oK=true from h.2.2];rfl
theorem I0 {r:Nat}(h:r < 26):E6 ⟨#[97+r]⟩:=⟨_,rfl,by unfold oK;rw[decide_eq_true (by omega),decide_eq_true (by omega)];rfl⟩
theorem yi (i:Int):E6 ⟨#[97+(i % 26).toNat]⟩:=I0 (by have:=Int.emod_nonneg i (show(26:Int)≠0 by decide);have:=Int.emod_lt_of_pos i (show(0:Int) < 26 by decide);omega)
theorem E6.len {x:Str}(h:E6 x):x.length=1:=by obtain⟨c,rfl,_⟩:=h;rfl
theorem Yt (k:Int)(t:Nat):Yr (zt k t):=by
 refine⟨by unfold zt;rw[Lz];decide,by unfold zt;rw[Lz];decide,?_⟩;obtain⟨c1,e1,s1⟩:=yi (t:Int);obtain⟨c2,e2,s2⟩:=yi (k+t);unfold zt;show(zw _ _).cps.toList.all oK=true;rw[AN];injection e1 with e1
 injection e1 with e1
 injection e1 with e1
 injection e2 with e2
 injection e2 with e2
 injection e2 with e2
 rw[e1,e2];simp[s1,s2];decide
theorem RU (i:Int):∃ x,Yr x/\oO (pS.map T.str) (i % 12)=some (T.str x):=by
 have h0:=Int.emod_nonneg i (show(12:Int)≠0 by decide);have h1:=Int.emod_lt_of_pos i (show(0:Int) < 12 by decide);have e:i % 12=((i % 12).toNat:Int):=(Int.toNat_of_nonneg h0).symm;have hl:(i % 12).toNat < pS.length:=by rw[KW];omega
 have hk:∀ x∈pS,1<=x.length/\x.length<=8/\(cp x).all oK=true:=by decide +kernel
 refine⟨pS[(i % 12).toNat],hk _ (List.getElem_mem hl),?_⟩;have:=aB (xs:=pS.map T.str) (j:=(i % 12).toNat) (v:=T.str pS[(i % 12).toNat]) (by rw[List.getElem?_map,List.getElem?_eq_getElem hl];rfl);rw[<- e] at this;exact this
theorem a1y:∀ ss:List Str,cp (Txt.join "" ss)=(ss.map cp).flatten
 | []=>by decide +kernel
 | x::r=>by
  rw[yF,List.map_cons,List.flatten_cons,show cp ("":Str)=[] by decide +kernel];rfl
theorem WT {ss:List Str}(h:∀ x∈ss,E6 x)(h0:0 < ss.length)(h1:ss.length<=8):Yr (Txt.join "" ss):=by
 have e:=a1y ss;have hl:(cp (Txt.join "" ss)).length=ss.length:=by
  rw[e];clear e h0 h1
  induction ss with
  | nil=>rfl
  | cons x r ih =>
   obtain⟨c,rfl,_⟩:=h x (List.mem_cons_self ..);have:=ih fun y hy=>h y (List.mem_cons_of_mem _ hy);rw[List.map_cons,List.flatten_cons,List.length_append,this];show 1+r.length=r.length+1;omega
 refine⟨by rw[bB,hl];omega,by rw[bB,hl];omega,?_⟩;rw[e,List.all_flatten,List.all_map,List.all_eq_true];intro x hx;obtain⟨c,rfl,s⟩:=h x hx;show [c].all oK=true;simp[s]
noncomputable def Mv:c6:=fun ds S k=>∃ (d m:Nat),ds=[.ob d,.int m]/\m<=8/\Dq S d/\∀ (ns:List Str) c m',ns.length=m->ns.Nodup->(∀ x∈ns,isNm x=true)->k (.t (Lr ns)) (bS S d c m')
structure Fy (N:List Str)(s:Sm):Prop where
 nm:norm s.1=s.1
 len:s.1.length<=3
 mem:∀ p∈s.1,p.1∈N/\-3<=p.2/\p.2<=17/\p.2≠0
 lo:-9<=s.2
 hi:s.2<=999999998
structure zu (x:Str):Prop where
 th:jU x=true
 wd:nI x
 len:x.length<=9
 ne:x≠""
theorem Fy.g {N:List Str}{s:Sm}(h:Fy N s)(hN:∀ x∈N,zu x):Lx s :=
 ⟨h.nm,h.len,fun p hp=>⟨⟨by have:=(h.mem p hp).2.1;omega,by have:=(h.mem p hp).2.2.1;omega⟩,by have:=(hN _ (h.mem p hp).1).len;omega⟩,⟨by have:=h.lo;omega,by have:=h.hi;omega⟩⟩
theorem mZ {x:Str}(h:isNm x=true):zu x:=⟨by unfold jU;rw[h];rfl,iy h,by have:=bJ h;omega,fun z=>by rw[z] at h;revert h;decide +kernel⟩
theorem Jv:cp ("#":Str)=[35]:=by decide +kernel
theorem wM {x:Str}(h:isNm x=true):zu (("#":Str)++x):=by
 have l:=bJ h;have e:cp (("#":Str)++x)=35::cp x:=by rw[bg,Jv];rfl
 have ln:(("#":Str)++x).length=x.length+1:=by rw[bB,bB,e];simp
 have k:=iy h;refine⟨?_,⟨by rw[e];simp,fun c hc=>?_,fun z=>?_,by omega⟩,by omega,fun z=>?_⟩
 ·unfold jU;have s1:Txt.startswith (("#":Str)++x) "#"=true:=by
   have e0:(⟨#[35]⟩:Str)="#":=by decide +kernel
   rw[<- e0];obtain⟨h1,h2⟩:=lN.mpr (show(cp ((⟨#[35]⟩:Str)++x))[0]?=some 35 by rw[Ox];rfl);show(decide (0+_<=_) && Builtin.Str.subAt _ _ 0)=true;rw[Bool.and_eq_true];exact⟨decide_eq_true h1,h2⟩
  have s2:Txt.slice (("#":Str)++x) (some 1) none=x:=dw (by rw[a1u (by omega),e];rfl);rw[s1,s2,h];simp
 ·rw[e] at hc;rcases List.mem_cons.mp hc with rfl | hc
  ·decide
  ·exact k.ok c hc
 ·have:∀ y∈pR,(cp y).head?≠some 35:=by decide +kernel
  exact this _ z (by rw[e];rfl)
 ·have:=congrArg cp z;rw[e,yG] at this;cases this
theorem Xh {r:Nat}(h:(r:Int) < 8):∃ v:Int,oO [T.int 1,.int 1,.int 1,.int (-1),.int (-1),.int 2,.int (-3),.int 17] (r:Int)=some (T.int v)/\v≠0/\-3<=v/\v<=17:=by
 match r,h with
 | 0,_=>exact⟨_,rfl,by decide,by decide,by decide⟩
 | 1,_=>exact⟨_,rfl,by decide,by decide,by decide⟩
 | 2,_=>exact⟨_,rfl,by decide,by decide,by decide⟩
 | 3,_=>exact⟨_,rfl,by decide,by decide,by decide⟩
 | 4,_=>exact⟨_,rfl,by decide,by decide,by decide⟩
 | 5,_=>exact⟨_,rfl,by decide,by decide,by decide⟩
 | 6,_=>exact⟨_,rfl,by decide,by decide,by decide⟩
 | 7,_=>exact⟨_,rfl,by decide,by decide,by decide⟩
 | n+8,h=>omega
theorem a25 {a b:Int}(P:Int->Prop)(h0:P 0)(h1:P 1)(h2:P (-1))(ha:P a)(hb:P b)(i:Int):∃ v:Int,oO [T.int 0,.int 0,.int 1,.int (-1),.int a,.int b] (i % 6)=some (T.int v)/\P v:=by
 have k0:=Int.emod_nonneg i (show(6:Int)≠0 by decide);have k1:=Int.emod_lt_of_pos i (show(0:Int) < 6 by decide);generalize i % 6=j at k0 k1;have:j=0∨j=1∨j=2∨j=3∨j=4∨j=5:=by omega
 rcases this with rfl | rfl | rfl | rfl | rfl | rfl
 ·exact⟨_,rfl,h0⟩
 ·exact⟨_,rfl,h0⟩
 ·exact⟨_,rfl,h1⟩
 ·exact⟨_,rfl,h2⟩
 ·exact⟨_,rfl,ha⟩
 ·exact⟨_,rfl,hb⟩
theorem E4.sl {N:List Str}{d:List (Key×T)}{ss:List Str}{w:Str->Int}(h:E4 N d ss w)(hl:d.length<=3)(hw:∀ x,-3<=w x/\w x<=17){n:Int}(h1:-9<=n)(h2:n<=999999998):Fy N ((qZ ss).map (fun x=>(x,w x)),n):=by
 have hs:ss.length<=3:=by have:=congrArg List.length h.keys;rw[List.length_map,List.length_map] at this;omega
 refine⟨Ec fun x hx=>(h.val x hx).2.1,?_,fun p hp=>?_,h1,h2⟩
 ·have:=rP ss;show((qZ ss).map _).length<=3;rw[List.length_map];omega
 ·obtain⟨x,hx,rfl⟩:=List.mem_map.mp hp;have hx:=fO.mp hx;exact⟨h.mem x hx,(hw x).1,(hw x).2,(h.val x hx).2.1⟩
noncomputable def Im:c6:=fun ds S k=>∃ (d:Nat) (x:D) (N:List Str),ds=[.ob d,x]/\Dq S d/\lq S x=some (N.map T.str)/\N.length<=100/\∀ s c m,Fy N s->k (.t (iN s)) (bS S d c m)
mutual
noncomputable def zl (N:List Str):dF->Prop
 | .cmp a s b=>Fy N a/\Fy N b/\s∈TJ
 | .neg c=>zl N c
 | .con _ cs=>we N cs/\2<=cs.length/\cs.length<=3
noncomputable def we (N:List Str):List dF->Prop
 | []=>True
 | c::r=>zl N c/\we N r
end
theorem JE {N:List Str}{c:dF}:∀ {l:List dF},we N l->c∈l->zl N c
 | d::r,h,m=>by
  unfold we at h;rcases List.mem_cons.mp m with rfl | m
  ·exact h.1
  ·exact JE h.2 m
theorem OD {N:List Str}:∀ {l:List dF},(∀ c∈l,zl N c)->we N l
 | [],_=>by unfold we;trivial
 | c::r,h=>by unfold we;exact⟨h c List.mem_cons_self,OD fun x hx=>h x (List.mem_cons_of_mem _ hx)⟩
theorem MG:∀ s∈TJ,s.length<=2:=by decide +kernel
mutual
theorem zl.g {N:List Str}(hN:∀ x∈N,zu x):∀ {c:dF},zl N c->XQ c
 | .cmp a s b,h=>by unfold zl at h;unfold XQ;exact⟨h.1.g hN,h.2.1.g hN,MG s h.2.2⟩
 | .neg c,h=>by unfold zl at h;unfold XQ;exact zl.g hN h
 | .con k cs,h=>by unfold zl at h;unfold XQ;exact we.g hN h.1
theorem we.g {N:List Str}(hN:∀ x∈N,zu x):∀ {l:List dF},we N l->O7 l
 | [],_=>by unfold O7;trivial
 | c::r,h=>by unfold we at h;unfold O7;exact⟨zl.g hN h.1,we.g hN h.2⟩
end
noncomputable def xw (n:Nat):c6:=fun ds S k=>∃ (d:Nat) (x:D) (N:List Str),n < 3/\ds=[.ob d,x,.int n]/\Dq S d/\lq S x=some (N.map T.str)/\N.length<=100/\∀ e c m,zl N e->e.dep<=n->e.sz<=Lv n->k (.t (mz e)) (bS S d c m)
noncomputable def nX:Nat->c6
 | 0=>U8
 | n+1=>xw n
noncomputable def GY (m:Nat):List Nat:=(Nat.toDigits 10 m).map Char.toNat
theorem wW (v:Int):jq v=((v.natAbs:Nat):Int):=by unfold jq;split <;> omega
theorem yE (v:Int):cp (gQ v)=GY v.natAbs:=by
 unfold gQ GY;rw[wW];exact PySem.W.KIN.signs_num _
theorem CC (m:Nat):∀ c∈GY m,vN c=true:=fun c hc=>by
 obtain⟨ch,hch,e⟩:=List.mem_map.mp hc;have hd:=Nat.isDigit_of_mem_toDigits (b:=10) (by decide) (by decide) hch;have r:48<=ch.toNat/\ch.toNat<=57:=by
  unfold Char.isDigit at hd;simp only[Bool.and_eq_true,decide_eq_true_eq] at hd;have h1:=hd.1;have h2:=hd.2;exact⟨by simpa using UInt32.le_iff_toNat_le.mp h1,by simpa using UInt32.le_iff_toNat_le.mp h2⟩
 unfold vN;rw[<- e,decide_eq_true r.1,decide_eq_true r.2];rfl
theorem GX (m:Nat):GY m≠[]:=fun z=>by
 have h:=PySem.toDigits_len_ge 10 m;rw[List.map_eq_nil_iff.mp z] at h;exact absurd h (by decide)
theorem CB {m:Nat}(h:m<=999999999):(GY m).length<=9:=by
 unfold GY;rw[List.length_map];exact PySem.toDigits_len_pow (by decide) (by decide) (by omega)
theorem Xk (m:Nat):1<=m->(GY m).head?≠some 48:=by
 induction m using Nat.strongRecOn with
 | _ m ih =>
  intro h1;by_cases h:m < 10
  ·unfold GY;rw[Nat.toDigits_of_lt_base h];have:∀ d:Nat,d < 10->1<=d->([Nat.digitChar d].map Char.toNat).head?≠some 48:=by decide
   exact this m h h1
  ·have hm:m % 10 < 10:=Nat.mod_lt m (by decide);have t:Nat.toDigits 10 (m / 10)++Nat.toDigits 10 (m % 10)=Nat.toDigits 10 (10*(m / 10)+m % 10):=Nat.toDigits_append_toDigits (by decide) (by omega) hm;rw[Nat.div_add_mod] at t;have q:=ih (m / 10) (by omega) (by omega);have ne:=GX (m / 10);unfold GY at q ne ⊢;rw[<- t,List.map_append];cases e:(Nat.toDigits 10 (m / 10)).map Char.toNat with
   | nil=>exact absurd e ne
   | cons a r=>rw[e] at q;exact q
theorem sW {c:Nat}(h:vN c=true):Wr c=true/\oK c=false/\c≠42/\c≠35/\c≠45:=by
 unfold vN at h;simp only[Bool.and_eq_true,decide_eq_true_eq] at h;refine⟨by unfold Wr vN;rw[decide_eq_true h.1,decide_eq_true h.2];simp,by unfold oK;rw[decide_eq_false (by omega)];rfl,by omega,by omega,by omega⟩
theorem rO {x:Str}{c:Nat}(h:(cp x).head?≠some c):Txt.startswith x ⟨#[c]⟩=false:=by
 cases q:Txt.startswith x ⟨#[c]⟩ with
 | false=>rfl
 | true =>
  have q:(decide (0+_<=_) && Builtin.Str.subAt _ _ 0)=true:=q;rw[Bool.and_eq_true] at q;have:=(lN (x:=x) (c:=c) (i:=0)).mp ⟨of_decide_eq_true q.1,q.2⟩;exact absurd (by rw[List.head?_eq_getElem?];exact this) h
structure CZ (x:Str):Prop where
 wd:nI x
 len:x.length<=20
 hd:∃ c r,cp x=c::r/\vN c=true
theorem CZ.nm {x:Str}(h:CZ x):isNm x=false:=by
 obtain⟨c,r,e,hc⟩:=h.hd;unfold isNm;rw[show x.cps.toList=c::r from e,List.all_cons,(sW hc).2.1];simp
theorem CZ.th {x:Str}(h:CZ x):jU x=false:=by
 obtain⟨c,r,e,hc⟩:=h.hd;unfold jU;rw[h.nm,show("#":Str)=⟨#[35]⟩ by decide +kernel,rO (by rw[e];intro z;injection z with z;exact(sW hc).2.2.2.1 z)];rfl
theorem CZ.mi {x:Str}(h:CZ x):Txt.startswith x "-"=false:=by
 obtain⟨c,r,e,hc⟩:=h.hd;rw[show("-":Str)=⟨#[45]⟩ by decide +kernel];exact rO (by rw[e];intro z;injection z with z;exact(sW hc).2.2.2.2 z)
theorem As:∀ y∈pR,∀ c∈cp y,vN c=false:=by decide +kernel
theorem Gp {v:Int}(h1:-999999999<=v)(h2:v<=999999999):CZ (gQ v):=by
 have e:=yE v;have l:=CB (m:=v.natAbs) (by omega);have hl:(gQ v).length<=9:=by rw[bB,e];exact l
 have ne:=GX v.natAbs;obtain⟨c,r,ec⟩:∃ c r,GY v.natAbs=c::r:=by
  cases q:GY v.natAbs with
  | nil=>exact absurd q ne
  | cons c r=>exact⟨c,r,rfl⟩
 have fc:=CC v.natAbs;refine⟨⟨by rw[e];exact ne,fun d hd=>(sW (fc d (by rw[<- e];exact hd))).1,fun z=>?_,by omega⟩,by omega,c,r,by rw[e,ec],fc c (by rw[ec];simp)⟩;have:=As _ z c (by rw[e,ec];simp);rw[fc c (by rw[ec];simp)] at this;cases this
theorem Nt (v:Int):GR (gQ v)=true:=by
 unfold GR;rw[show(gQ v).cps.toList=GY v.natAbs from yE v,List.all_eq_true];exact CC _
theorem Eb {v:Int}(h1:-999999999<=v)(h2:v<=999999999):vM (gQ v)=true:=by
 have e:=yE v;have l:=CB (m:=v.natAbs) (by omega);have hl:(gQ v).length=(GY v.natAbs).length:=by rw[bB,e]
 have h0:1<=(GY v.natAbs).length:=by
  have:=GX v.natAbs;cases q:GY v.natAbs with
  | nil=>exact absurd q this
  | cons a r=>simp
 have hz:(decide ((cp (gQ v)).head?=some 48) && decide (gQ v≠"0"))=false:=by
  by_cases q:v.natAbs=0
  ·have:gQ v="0":=by unfold gQ;rw[wW,q];decide +kernel
   rw[this];decide +kernel
  ·rw[decide_eq_false (by rw[e];exact Xk _ (by omega))];rfl
 unfold vM;rw[hl,decide_eq_true h0,decide_eq_true l,hz,Nt];rfl
theorem Ea (v:Int):42 ∉ cp (gQ v):=fun z=>by
 rw[yE] at z;exact(sW (CC _ _ z)).2.2.1 rfl
theorem IX {v:Int}(h1:-999999999<=v)(h2:v<=999999999):PySem.intText? (gQ v)=some (jq v):=PySem.W.KIN.num_reads (by rw[wW];omega) (by rw[wW];omega)
theorem Wx {v:Int}{t:Str}(h1:-999999999<=v)(h2:v<=999999999)(ht:zu t):CZ ((gQ v++("*":Str))++t):=by
 have k:=Gp h1 h2;obtain⟨c,r,ec,hc⟩:=k.hd;have l:=CB (m:=v.natAbs) (by omega);have e:cp ((gQ v++("*":Str))++t)=cp (gQ v)++42::cp t:=by rw[bg,bg,show cp ("*":Str)=[42] by decide +kernel];simp
 have hl:((gQ v++("*":Str))++t).length<=19:=by
  have:=ht.len;rw[bB] at this;rw[bB,e,List.length_append,yE,List.length_cons];omega
 refine⟨⟨by rw[e];simp,fun d hd=>?_,fun z=>?_,by omega⟩,by omega,c,r++42::cp t,by rw[e,ec];rfl,hc⟩
 ·rw[e] at hd;rcases List.mem_append.mp hd with hd | hd
  ·exact k.wd.ok d hd
  ·rcases List.mem_cons.mp hd with rfl | hd
   ·decide
   ·exact ht.wd.ok d hd
 ·have:=As _ z c (by rw[e,ec];simp);rw[hc] at this;cases this
noncomputable def SO (p:Str×Int):Prop:=(p.1=""∨zu p.1)/\-999999999<=p.2/\p.2<=999999999
structure Pw (p:Str×Int)(q:Bool×Str):Prop where
 sg:q.1=decide (p.2 < 0)
 pc:Pc q p
 wd:nI q.2
 len:q.2.length<=20
 mi:Txt.startswith q.2 "-"=false
theorem Ve (v:Int):v=(if decide (v < 0)=true then -(jq v) else jq v):=by
 unfold jq;by_cases h:v < 0
 ·rw[decide_eq_true h,if_pos rfl,if_pos h];omega
 ·rw[decide_eq_false h,if_neg (by decide),if_neg h]
theorem VH {v:Int}(h:SO ("",v)):Pw ("",v) (decide (v < 0),gQ v):=by
 have k:CZ (gQ v):=Gp h.2.1 h.2.2;exact⟨rfl,⟨by have:=k.len;show(gQ v).length<=100;omega,jq v,.num k.th (Eb h.2.1 h.2.2) (Ea v) (IX h.2.1 h.2.2),Ve v⟩,k.wd,k.len,k.mi⟩
theorem MS {t:Str}{v:Int}(ht:zu t)(h1:-999999999<=v)(h2:v<=999999999):Pw (t,v) (decide (v < 0),(gQ v++("*":Str))++t):=by
 have k:=Wx h1 h2 ht;exact⟨rfl,⟨by have:=k.len;show((gQ v++("*":Str))++t).length<=100;omega,jq v,.mul rfl k.th (Eb h1 h2) (Ea v) ht.th (IX h1 h2),Ve v⟩,k.wd,k.len,k.mi⟩
theorem YC {t:Str}(ht:zu t):Txt.startswith t "-"=false:=by
 rw[show("-":Str)=⟨#[45]⟩ by decide +kernel];refine rO fun z=>?_;have h:=ht.th;unfold jU isNm at h;rw[Bool.or_eq_true] at h;obtain⟨r,e⟩:∃ r,cp t=45::r:=by
  cases q:cp t with
  | nil=>rw[q] at z;cases z
  | cons a r=>rw[q] at z;injection z with z;exact⟨r,by rw[z]⟩
 rcases h with h | h
 ·simp only[Bool.and_eq_true] at h;have:=h.2;rw[show t.cps.toList=45::r from e] at this;simp[oK] at this
 ·rw[Bool.and_eq_true,show("#":Str)=⟨#[35]⟩ by decide +kernel,rO (by rw[e];simp)] at h;cases h.1
theorem VG {t:Str}{v:Int}(ht:zu t)(h:jq v=1):Pw (t,v) (decide (v < 0),t) :=
 ⟨rfl,⟨by have:=ht.len;show t.length<=100;omega,1,.nm ht.th,by have:=Ve v;rw[h] at this;exact this⟩,ht.wd,by have:=ht.len;show t.length<=20;omega,YC ht⟩
noncomputable def PcE (P:List (Str×Int))(s:Sm):Prop:=∀ x,wt P x=if x="" then s.2 else wt s.1 x
noncomputable def zA (t:Str)(a b:Int):List (Str×Int):=([a,b].filter fun v=>decide (v≠0)).map fun v=>(t,v)
theorem HP (t:Str)(a b:Int):[a,b].filterMap (fun v=>if v≠0 then some (pT (t,v)) else none)=(zA t a b).map pT:=by
 unfold zA;by_cases ha:a=0 <;> by_cases hb:b=0 <;> simp[ha,hb]
theorem HN (t:Str)(a b:Int)(x:Str):wt (zA t a b) x=if t=x then a+b else 0:=by
 unfold zA;by_cases ha:a=0 <;> by_cases hb:b=0 <;> simp[ha,hb,ck,mE] <;> split <;> simp
theorem Dm (t:Str)(a b:Int):(zA t a b).length<=2:=by
 unfold zA;by_cases ha:a=0 <;> by_cases hb:b=0 <;> simp[ha,hb]
theorem Dl {t:Str}{a b:Int}{p:Str×Int}(h:p∈zA t a b):p.1=t/\(p.2=a∨p.2=b):=by
 unfold zA at h;obtain⟨v,hv,rfl⟩:=List.mem_map.mp h;have:=(List.mem_filter.mp hv).1;simp at this;exact⟨rfl,this⟩
theorem RG {l m:List (Str×Int)}(h:∀ x,wt l x=wt m x):norm l=norm m:=by
 have key:∀ l:List (Str×Int),norm l=((qZ (l.map (·.1))).filter fun x=>decide (wt l x≠0)).map fun x=>(x,wt l x):=fun l=>by
  unfold norm;rw[List.filter_map];rfl
 have up:∀ l:List (Str×Int),((qZ (l.map (·.1))).filter fun x=>decide (wt l x≠0)).Pairwise fun a b=>lt a b=true:=fun l=>(ue _).filter _;have mem:∀ (l:List (Str×Int)) (x:Str),x∈((qZ (l.map (·.1))).filter fun x=>decide (wt l x≠0))↔wt l x≠0:=fun l x=>by
  rw[List.mem_filter];constructor
  ·rintro⟨_,h⟩;exact of_decide_eq_true h
  ·intro h;refine⟨fO.mpr ?_,decide_eq_true h⟩;by_cases q:x∈l.map (·.1)
   ·exact q
   ·exact absurd (kN q) h
 rw[key,key,oj (up l) (up m) fun x=>by rw[mem,mem,h]];exact List.map_congr_left fun x _=>by rw[h]
theorem V7 {N:List Str}{P:List (Str×Int)}{s:Sm}(h:PcE P s)(hs:Fy N s)(hN:∀ x∈N,zu x):oM P=s:=by
 unfold oM;have e2:wt P ""=s.2:=by rw[h ""];rfl
 have z:wt s.1 ""=0:=kN fun q=>by
  obtain⟨p,hp,e⟩:=List.mem_map.mp q;exact(hN _ (hs.mem p hp).1).ne e
 have e1:norm (P.filter fun p=>decide (p.1≠("":Str)))=s.1:=by
  rw[<- hs.nm];refine RG fun x=>?_;by_cases e:x=""
  ·subst e;rw[z];exact kN fun q=>by
    obtain⟨p,hp,e⟩:=List.mem_map.mp q;exact of_decide_eq_true (List.mem_filter.mp hp).2 e
  ·rw[AR e,h x,if_neg e]
 rw[e1,e2]
noncomputable def q8 (q:Int×Str):Bool×Str:=(decide (q.1 < 0),q.2)
noncomputable abbrev PwQ (p:Str×Int)(q:Int×Str):Prop:=q.1=p.2/\Pw p (q8 q)
theorem a1w (v:Int):cp (oN v)=32::(cp (iB (decide (v < 0)))++[32]):=by
 unfold oN iB;by_cases h:v < 0
 ·rw[if_pos h,decide_eq_true h];decide +kernel
 ·rw[if_neg h,decide_eq_false h];decide +kernel
theorem Ja (a:Str):∀ r:List (Int×Str),jn (a::((r.map q8).map fun q=>[iB q.1,q.2]).flatten)=cp a++fD r
 | []=>by show cp a=cp a++[];rw[List.append_nil]
 | q::r=>by
  have ih:=Ja q.2 r;rw[List.map_cons,List.map_cons,List.flatten_cons];show jn (a::iB (q8 q).1::(q8 q).2::_)=_;rw[eL,eL];show cp a++32::(cp (iB (q8 q).1)++32::jn (q.2::((r.map q8).map fun q=>[iB q.1,q.2]).flatten))=_;rw[ih];show _=cp a++((cp (oN q.1)++cp q.2)++fD r);rw[a1w];show _=cp a++((32::(cp (iB (q8 q).1)++[32])++cp q.2)++fD r);simp
theorem IS (q:Int×Str)(r:List (Int×Str))(ws:List (Str×Int)):V9 (q::r)=cp (Sw.txt ⟨q8 q,r.map q8,ws⟩):=by
 rw[mJ];show _=jn (uB (q8 q)::((r.map q8).map fun q=>[iB q.1,q.2]).flatten);rw[Ja];show(if q.1 < 0 then [45] else [])++cp q.2++fD r=cp (if decide (q.1 < 0)=true then ("-":Str)++q.2 else q.2)++fD r;by_cases h:q.1 < 0
 ·rw[if_pos h,decide_eq_true h,if_pos rfl,bg,show cp ("-":Str)=[45] by decide +kernel]
 ·rw[if_neg h,decide_eq_false h,if_neg (by decide)];rfl
theorem a1G {x:Str}{q:Int×Str}{r:List (Int×Str)}(ws:List (Str×Int))(h:cp x=fD (q::r)):3<=x.length/\Txt.slice x none (some 3)=oN q.1/\(q.1 < 0->Str.ofString "-"++Txt.slice x (some 3) none=Sw.txt ⟨q8 q,r.map q8,ws⟩)/\(¬ q.1 < 0->Txt.slice x (some 3) none=Sw.txt ⟨q8 q,r.map q8,ws⟩):=by
 obtain⟨h1,h2⟩:=Od q r;have h3:3<=x.length:=by
  rw[bB,h];have:=Bf q.1;rw[<- h1,List.length_take] at this;omega
 refine⟨h3,?_,fun hw=>?_,fun hw=>?_⟩
 ·exact dw (by rw[ME h3,h,h1])
 ·refine dw ?_;rw[bg,xx h3,h,<- IS,h2,if_pos hw];rfl
 ·refine dw ?_;rw[xx h3,h,<- IS,h2,if_neg hw];rfl
theorem GN {α β:Type}{F:α->β->Prop}{G:β->α->Prop}(h:∀ a b,F a b->G b a):∀ {l:List α} {m:List β},Paired F l m->Paired G m l
 | _,_,.nil=>.nil
 | _,_,.cons r t=>.cons (h _ _ r) (GN h t)
theorem D3 {α β γ:Type}{F:α->γ->Prop}(g:β->γ):∀ {l:List α} {m:List β},Paired (fun a b=>F a (g b)) l m->Paired F l (m.map g)
 | _,_,.nil=>.nil
 | _,_,.cons r t=>.cons r (D3 g t)
theorem mS {α β:Type}{F:α->β->Prop}{R:β->Prop}(h:∀ a b,F a b->R b){l:List α}{m:List β}(p:Paired F l m):∀ b∈m,R b:=by
 induction p with
 | nil=>intro b hb;exact absurd hb List.not_mem_nil
 | cons r t ih =>
  intro b hb;rcases List.mem_cons.mp hb with rfl | hb
  ·exact h _ _ r
  ·exact ih b hb
theorem Yu {l:List (Str×Int)}(h:∀ p∈l,-3<=p.2/\p.2<=17)(x:Str):-3*(l.length:Int)<=wt l x/\wt l x<=17*(l.length:Int):=by
 induction l with
 | nil=>rw[mE];exact⟨by simp,by simp⟩
 | cons p l ih =>
  have:=ih fun q hq=>h q (List.mem_cons_of_mem _ hq);have k:=h p (List.mem_cons_self ..);rw[ck,List.length_cons];split <;> (constructor <;> push_cast <;> omega)
theorem PU (n:Bool):nI (iB n):=by
 cases n with
 | true=>exact⟨by decide +kernel,by decide +kernel,by decide +kernel,by decide +kernel⟩
 | false=>exact⟨by decide +kernel,by decide +kernel,by decide +kernel,by decide +kernel⟩
theorem Sg {q:Bool×Str}(h:nI q.2)(l:q.2.length<=20):nI (uB q):=by
 unfold uB;split
 ·have e:cp (("-":Str)++q.2)=45::cp q.2:=by rw[bg,show cp ("-":Str)=[45] by decide +kernel];rfl
  have k:∀ y∈pR,(cp y).head?≠some 45:=by decide +kernel
  refine⟨by rw[e];simp,fun c hc=>?_,fun z=>k _ z (by rw[e];rfl),?_⟩
  ·rw[e] at hc;rcases List.mem_cons.mp hc with rfl | hc
   ·decide
   ·exact h.ok c hc
  ·rw[bB] at l;rw[bB,e,List.length_cons];omega
 ·exact h
theorem Y8 {N:List Str}{s:Sm}{P:List (Str×Int)}{q:Int×Str}{r:List (Int×Str)}(hp:Paired PwQ P (q::r))(hE:PcE P s)(hs:Fy N s)(hN:∀ x∈N,zu x)(hl:P.length<=15):wX ⟨q8 q,r.map q8,P⟩/\oM P=s:=by
 have hm:=V7 hE hs hN;have len:P.length=r.length+1:=by have:=Paired.length hp;simpa using this
 have hp2:Paired Pw P ((q::r).map q8):=D3 q8 (dI (fun _ _ z=>z.2) hp);have all:∀ b∈(q::r).map q8,nI b.2/\b.2.length<=20/\Txt.startswith b.2 "-"=false:=mS (fun _ _ z=>⟨z.wd,z.len,z.mi⟩) hp2;have wd:∀ x∈gk (q8 q) (r.map q8),nI x:=fun x hx=>by
  rcases List.mem_cons.mp (show x∈uB (q8 q)::((r.map q8).map fun q=>[iB q.1,q.2]).flatten from hx) with rfl | hx
  ·have:=all (q8 q) (by simp);exact Sg this.1 this.2.1
  ·obtain⟨l,hl,hx⟩:=List.mem_flatten.mp hx;obtain⟨b,hb,rfl⟩:=List.mem_map.mp hl;rcases List.mem_cons.mp hx with rfl | hx
   ·exact PU _
   ·rw[List.mem_singleton.mp hx];exact(all b (by rw[List.map_cons];exact List.mem_cons_of_mem _ hb)).1
 have a0:=all (q8 q) (by simp);refine⟨⟨⟨?_,?_,a0.2.2,GN (fun _ _ z=>z.pc) hp2,fun x=>?_,fun x hx=>(wd x hx).no,fun x hx=>(wd x hx).no⟩,wd⟩,hm⟩
 ·show(r.map q8).length<=20;rw[List.length_map];omega
 ·have:=a0.2.1;show(q8 q).2.length<=100;omega
 ·have w0:wt (z0 P) x=wt P x:=by unfold z0;rw[ck];split <;> simp
  show -999999999<=wt (z0 P) x/\wt (z0 P) x<=999999999;rw[w0,hE x];split
  ·exact⟨by have:=hs.lo;omega,by have:=hs.hi;omega⟩
  ·have:=Yu (fun p hp=>⟨(hs.mem p hp).2.1,(hs.mem p hp).2.2.1⟩) x;have:=hs.len;omega
theorem NZ {M:Nat}:∀ {l:List Str},(∀ x∈l,x.length<=M)->(jn l).length<=(M+1)*l.length
 | [],_=>Nat.zero_le _
 | [a],h=>by have:=h a (by simp);rw[bB] at this;show(cp a).length<=(M+1)*1;omega
 | a::b::r,h=>by
  have ih:=NZ (l:=b::r) fun x hx=>h x (List.mem_cons_of_mem _ hx);have h1:=h a (by simp);rw[bB] at h1;rw[eL,List.length_append,List.length_cons,List.length_cons (a:=a),Nat.mul_succ];omega
theorem pL {s:Sw}(h:wX s):s.txt.length<=1271:=by
 have:=NZ (l:=gk s.p s.r) (M:=30) fun x hx=>(h.wd x hx).len;have l:=FT h;rw[bB,mJ];omega
theorem yD:∀ (c:CW),c.cd.dep=c.dep:=by
 intro c;have:(∀ c:CW,c.cd.dep=c.dep):=CW.rec (motive_1:=fun c=>c.cd.dep=c.dep) (motive_2:=fun l=>uG (XA l)=qD l) (fun a s b=>by rw[CW.cd,dF.dep,CW.dep]) (fun c ih=>by rw[CW.cd,dF.dep,CW.dep,ih]) (fun k cs ih=>by rw[CW.cd,dF.dep,CW.dep,ih]) (by rw[XA,uG,qD]) (fun c r i1 i2=>by rw[XA,uG,qD,i1,i2]);exact this c
theorem Qf {n:Nat}{b:BW}(h:FA n b):(j6 b).length<=30+2*n:=by
 have h1:=h.l1;have h2:=h.l2;have h3:=h.l3;rw[bB] at h3;rw[bB,gu];simp;have:(cp b.2.1).length=b.2.1.cps.size:=by simp[cp]
 omega
theorem tY {c:CW}(h:Fo c):(zo c).length<=30000:=by
 have l:=h.ln;have:=NZ (l:=(kO c).map j6) (M:=34) fun x hx=>by
  obtain⟨b,hb,rfl⟩:=List.mem_map.mp hx;exact Qf (h.bw b hb)
 rw[List.length_map] at this;rw[bB,EL h.1];unfold jw;omega
noncomputable def Ik:c6:=fun ds S k=>∃ (d:Nat) (s:Sm) (N:List Str),ds=[.ob d,.t (iN s)]/\Dq S d/\Fy N s/\(∀ x∈N,zu x)/\∀ (w:Sw) c m,wX w->oM w.ws=s->k (.str w.txt) (bS S d c m)
noncomputable def j8 (n:Nat):c6:=fun ds S k=>∃ (d:Nat) (e:dF) (N:List Str),ds=[.ob d,.t (mz e)]/\Dq S d/\zl N e/\(∀ x∈N,zu x)/\e.dep < n/\n<=3/\∀ (w:CW) c m,w.ok->w.cd=e->k (.str (zo w)) (bS S d c m)
theorem F3 {t u:qN}{E:tN}{δ:Sl}{S:aY}(I:KS)(h1:∀ N:KS,(∀ δ S,I δ S->N δ S)->t { E with nx:=N } δ S)(h2:∀ δ S,I δ S->u E δ S):uZ t u E δ S:=h1 _ h2
structure C0 (P:List (Str×Int))(s:Sm)(n:Nat):Prop where
 e:PcE P s
 b:∀ p∈P,SO p
 len:P.length<=n
theorem C0.up {P:List (Str×Int)}{s:Sm}{n m:Nat}(h:C0 P s n)(l:n<=m):C0 P s m:=⟨h.e,h.b,Nat.le_trans h.len l⟩
theorem UC:SO ("",0):=⟨.inl rfl,by decide,by decide⟩
theorem HC:zu "void":=mZ (by decide +kernel)
theorem UI:SO ("void",0):=⟨.inr HC,by decide,by decide⟩
theorem C0.a5u {P:List (Str×Int)}{s:Sm}{n:Nat}(h:C0 P s n){t:Str}(hb:SO (t,0))(l:P.length < n):C0 (P++[(t,0)]) s n :=
 ⟨fun x=>by rw[jN,<- h.e x,ck,mE];simp,fun p hp=>by
  rcases List.mem_append.mp hp with hp | hp
  ·exact h.b p hp
  ·rw[List.mem_singleton.mp hp];exact hb,by rw[List.length_append];simp;omega⟩
theorem C0.far {p:Str×Int}{P:List (Str×Int)}{s:Sm}{n:Nat}(h:C0 (p::P) s n){t:Str}{f:Int}(h1:SO (t,f))(h2:SO (t,-f))(l:P.length+3<=n):C0 (P++[(t,f),p,(t,-f)]) s n :=
 ⟨fun x=>by
  rw[jN,<- h.e x,ck,ck,ck,ck,mE];dsimp only;split <;> split <;> omega,fun q hq=>by
  rcases List.mem_append.mp hq with hq | hq
  ·exact h.b q (List.mem_cons_of_mem _ hq)
  ·simp at hq;rcases hq with rfl | rfl | rfl
   ·exact h1
   ·exact h.b _ (List.mem_cons_self ..)
   ·exact h2,by rw[List.length_append];simp;omega⟩
theorem Td (P:List (Str×Int))(j:Nat)(x:Str):wt (P.take j) x+wt (P.drop j) x=wt P x:=by rw[<- jN,List.take_append_drop]
theorem C0.ins {P:List (Str×Int)}{s:Sm}{n:Nat}(h:C0 P s n){t:Str}(hb:SO (t,0))(j:Nat)(l:P.length < n):C0 (P.take j++[(t,0)]++P.drop j) s n :=
 ⟨fun x=>by rw[jN,jN,<- h.e x,<- Td P j x,ck,mE];simp,fun p hp=>by
  rcases List.mem_append.mp hp with hp | hp
  ·rcases List.mem_append.mp hp with hp | hp
   ·exact h.b p (List.mem_of_mem_take hp)
   ·rw[List.mem_singleton.mp hp];exact hb
  ·exact h.b p (List.mem_of_mem_drop hp),by
  have:=congrArg List.length (List.take_append_drop j P);rw[List.length_append] at this;rw[List.length_append,List.length_append];simp at *;omega⟩
theorem C0.rot {P:List (Str×Int)}{s:Sm}{n:Nat}(h:C0 P s n)(j:Nat):C0 (P.drop j++P.take j) s n :=
 ⟨fun x=>by rw[jN,<- h.e x,<- Td P j x];omega,fun p hp=>by
  rcases List.mem_append.mp hp with hp | hp
  ·exact h.b p (List.mem_of_mem_drop hp)
  ·exact h.b p (List.mem_of_mem_take hp),by
  have:=congrArg List.length (List.take_append_drop j P);rw[List.length_append] at this;have:=h.len;rw[List.length_append];omega⟩
section
variable {S loc:aY}{d q:Nat}{c m:Int}{o:O}
theorem gL:(bS S d c m++loc)[S.length+q]?=loc[q]?:=cu bG
theorem sL:(bS S d c m++loc).set (S.length+q) o=bS S d c m++loc.set q o:=by rw[<- bG (S:=S) (d:=d) (c:=c) (m:=m),fH]
theorem aL {a b:Int}(h:d < S.length):bS (bS S d a b++loc) d c m=bS S d c m++loc:=by rw[sY (by rw[bG];exact h),gh]
end
theorem EF {S:aY}{d:Nat}(h:Dq S d):∃ c m,S=bS S d c m:=by
 obtain⟨c,m,e⟩:=h;exact⟨c,m,(set_same e).symm⟩
theorem LS {r:Nat}(h:(r:Int) < 3):∃ v:Int,oO [T.int 1,.int 7,.int 999999999] (r:Int)=some (T.int v)/\1<=v/\v<=999999999:=by
 match r,h with
 | 0,_=>exact⟨_,rfl,by decide,by decide⟩
 | 1,_=>exact⟨_,rfl,by decide,by decide⟩
 | 2,_=>exact⟨_,rfl,by decide,by decide⟩
 | n+3,h=>omega
theorem UN {r:Nat}{a b:Str}(h:(r:Int) < 2):∃ y,(y=a∨y=b)/\oO [T.str a,.str b] (r:Int)=some (T.str y):=by
 match r,h with
 | 0,_=>exact⟨a,.inl rfl,rfl⟩
 | 1,_=>exact⟨b,.inr rfl,rfl⟩
 | n+2,h=>omega
theorem HM {n:Nat}{w:CW}(ok:w.ok){e:dF}(he:w.cd=e)(hd:e.dep < n)(hn:n<=3):(zo w).length<=30000:=tY ⟨ok,by rw[<- yD,he];omega⟩
theorem Aw {w:CW}{e:dF}(h:w.cd=e):gm w=decide (2<=Dh e):=by
 have:=F1 w;rw[h] at this;by_cases q:2<=Dh e
 ·rw[decide_eq_true q];exact this.mp q
 ·rw[decide_eq_false q];exact Bool.eq_false_iff.mpr fun z=>q (this.mpr z)
theorem RQ (q:Bool):((Str.ofString " ")++(if q=true then (Str.ofString "and") else Str.ofString "or"))++Str.ofString " "=(if q=true then (Str.ofString " and ") else Str.ofString " or "):=by cases q <;> decide +kernel
theorem jn2 {a b:Str}{m:List Str}(h:m≠[]):jn (a::b::m)=cp a++32::(cp b++32::jn m):=by rw[eL,uz h]
theorem jn3 {a b c:Str}{m:List Str}(h:m≠[]):jn (a::b::c::m)=cp a++32::(cp b++32::(cp c++32::jn m)):=by rw[eL,jn2 h]
theorem Yx (x:Str)(w:Sw):cp (((("let ":Str)++x)++(" = ":Str))++w.txt)=jn (SX.lt x w).jZ:=by
 show _=jn (("let":Str)::x::("=":Str)::w.w);rw[jn3 (j7 _ _),bg,bg,bg,mJ,CH,uH,GZ,AD];simp
theorem Yz (x wd:Str)(w v:Sw):cp ((((((("let ":Str)++x)++(" = ":Str))++w.txt)++(" ":Str))++wd)++(" ":Str)++v.txt)=jn (SX.dv x wd w v).jZ:=by
 show _=jn (("let":Str)::x::("=":Str)::(w.w++wd::v.w));rw[jn3 (by simp),nj (j7 _ _) (by simp),uz (j7 _ _)];simp only[bg,mJ,CH,uH,GZ,AD,EM];simp
theorem Yy (x r:Str)(w:Sw):cp ((((((("let ":Str)++x)++(" = ":Str))++r)++(" at ":Str)))++w.txt)=jn (SX.ft x r w).jZ:=by
 show _=jn (("let":Str)::x::("=":Str)::r::("at":Str)::w.w);rw[jn3 (by simp),jn2 (j7 _ _)];simp only[bg,mJ,CH,uH,GZ,AD,Ow,Ur];simp
theorem Yv (r:Str)(w v:Sw):cp ((((((("put ":Str)++r)++(" at ":Str))++w.txt)++(" = ":Str)))++v.txt)=jn (SX.pt r w v).jZ:=by
 show _=jn (("put":Str)::r::("at":Str)::(w.w++("=":Str)::v.w));rw[jn3 (by simp),nj (j7 _ _) (by simp),uz (j7 _ _)];simp only[bg,mJ,Sn,uH,Xq,AD,Ow,Ur];simp
theorem Yw (r:Str)(w:Sw):cp (((("row ":Str)++r)++(" = ":Str))++w.txt)=jn (SX.mq r w).jZ:=by
 show _=jn (("row":Str)::r::("=":Str)::w.w);rw[jn3 (j7 _ _)];simp only[bg,mJ,Sk,uH,Xp,AD];simp
theorem Tg {w:Str}{c:CW}{w':Str}(hw:cp w'=cp w++[32])(ok:c.ok):cp (w'++zo c)=jn (zx w c):=by
 unfold zx;rw[uz (by simpa using p9 ok),bg,hw,EL ok];unfold jw;simp
noncomputable def clT (ns:List Str)(hp:Str)(g:List Sw):Str:=((("call ":Str)++(if ns=[] then ("":Str) else (Txt.join " " ns++(" = ":Str))))++hp)++(if g=[] then ("":Str) else (" ":Str)++Txt.join ", " (g.map Sw.txt))
theorem YA (ns:List Str)(hp:Str)(g:List Sw):cp (clT ns hp g)=jn (SX.cl ns hp g).jZ:=by
 show _=jn (("call":Str)::(Pg ns++hp::sM g));have t1:cp (hp++(if g=[] then ("":Str) else (" ":Str)++Txt.join ", " (g.map Sw.txt)))=jn (hp::sM g):=by
  cases g with
  | nil=>rw[if_pos rfl,bg,yG];exact List.append_nil _
  | cons s r=>rw[if_neg (by simp),uz (GI (by simp)),GJ,bg,bg,EM];simp
 have t2:cp (if ns=[] then ("":Str) else (Txt.join " " ns++(" = ":Str)))++jn (hp::sM g)=jn (Pg ns++hp::sM g):=by
  unfold Pg;by_cases h:ns=[]
  ·rw[if_pos h,if_pos h,yG];rfl
  ·rw[if_neg h,if_neg h,List.append_assoc,nj h (by simp),List.singleton_append,uz (a:=Str.ofString "=") (by simp),bg,sI,uH,AD];simp
 rw[uz (by simp),<- t2,<- t1];unfold clT;simp only[bg,Ov,Sq];simp
theorem UH {x:SX}(ok:x.ok):∀ w∈x.jZ,32 ∉ cp w/\10 ∉ cp w:=by
 have lit:∀ y:Str,((cp y).contains 32 || (cp y).contains 10)=false->32 ∉ cp y/\10 ∉ cp y:=fun y h=>by
  simp only[Bool.or_eq_false_iff,List.contains_eq_mem,decide_eq_false_iff_not] at h;exact h
 have sw:∀ {s:Sw},wX s->∀ w∈s.w,32 ∉ cp w/\10 ∉ cp w:=fun h w hw=>⟨(h.wd w hw).no,(h.wd w hw).no⟩
 have nm:∀ {y:Str},isNm y=true->32 ∉ cp y/\10 ∉ cp y:=fun h=>⟨(iy h).no,(iy h).no⟩
 intro w hw;cases x with
 | lt x a =>
  unfold SX.ok at ok;rcases List.mem_cons.mp hw with rfl | hw
  ·exact lit _ (by decide +kernel)
  rcases List.mem_cons.mp hw with rfl | hw
  ·exact nm ok.1
  rcases List.mem_cons.mp hw with rfl | hw
  ·exact lit _ (by decide +kernel)
  exact sw ok.2 w hw
 | dv x wd a b =>
  unfold SX.ok at ok;rcases List.mem_cons.mp hw with rfl | hw
  ·exact lit _ (by decide +kernel)
  rcases List.mem_cons.mp hw with rfl | hw
  ·exact nm ok.1
  rcases List.mem_cons.mp hw with rfl | hw
  ·exact lit _ (by decide +kernel)
  rcases List.mem_append.mp hw with hw | hw
  ·exact sw ok.2.2.1 w hw
  rcases List.mem_cons.mp hw with rfl | hw
  ·rcases ok.2.1 with rfl | rfl <;> exact lit _ (by decide +kernel)
  exact sw ok.2.2.2 w hw
 | ft x r p =>
  unfold SX.ok at ok;rcases List.mem_cons.mp hw with rfl | hw
  ·exact lit _ (by decide +kernel)
  rcases List.mem_cons.mp hw with rfl | hw
  ·exact nm ok.1
  rcases List.mem_cons.mp hw with rfl | hw
  ·exact lit _ (by decide +kernel)
  rcases List.mem_cons.mp hw with rfl | hw
  ·exact nm ok.2.1
  rcases List.mem_cons.mp hw with rfl | hw
  ·exact lit _ (by decide +kernel)
  exact sw ok.2.2 w hw
 | pt r p s =>
  unfold SX.ok at ok;rcases List.mem_cons.mp hw with rfl | hw
  ·exact lit _ (by decide +kernel)
  rcases List.mem_cons.mp hw with rfl | hw
  ·exact nm ok.1
  rcases List.mem_cons.mp hw with rfl | hw
  ·exact lit _ (by decide +kernel)
  rcases List.mem_append.mp hw with hw | hw
  ·exact sw ok.2.1 w hw
  rcases List.mem_cons.mp hw with rfl | hw
  ·exact lit _ (by decide +kernel)
  exact sw ok.2.2 w hw
 | mq r z =>
  unfold SX.ok at ok;rcases List.mem_cons.mp hw with rfl | hw
  ·exact lit _ (by decide +kernel)
  rcases List.mem_cons.mp hw with rfl | hw
  ·exact nm ok.1
  rcases List.mem_cons.mp hw with rfl | hw
  ·exact lit _ (by decide +kernel)
  exact sw ok.2 w hw
 | cm c =>
  unfold SX.ok at ok;rcases List.mem_cons.mp hw with rfl | hw
  ·exact lit _ (by decide +kernel)
  obtain⟨b,hb,rfl⟩:=List.mem_map.mp hw;exact MK (ok.bw b hb)
 | cl ns hp g =>
  unfold SX.ok at ok;rcases List.mem_cons.mp hw with rfl | hw
  ·exact lit _ (by decide +kernel)
  rcases List.mem_append.mp hw with hw | hw
  ·unfold Pg at hw;split at hw
   ·cases hw
   ·rcases List.mem_append.mp hw with hw | hw
    ·exact nm (ok.1 w hw)
    ·rw[List.mem_singleton.mp hw];exact lit _ (by decide +kernel)
  rcases List.mem_cons.mp hw with rfl | hw
  ·exact nm ok.2.2.1
  exact⟨(GH ok.2.2.2.2 w hw).2.1,(GH ok.2.2.2.2 w hw).2.2.1⟩
theorem Ua {c:Nat}(hc:c≠32):∀ {l:List Str},(∀ x∈l,c ∉ cp x)->c ∉ jn l
 | [],_=>by intro z;cases z
 | [a],h=>h a (by simp)
 | a::b::r,h=>by
  rw[eL];intro z;rcases List.mem_append.mp z with z | z
  ·exact h a (by simp) z
  ·rcases List.mem_cons.mp z with z | z
   ·exact hc z
   ·exact Ua hc (l:=b::r) (fun x hx=>h x (List.mem_cons_of_mem _ hx)) z
structure zZ (t:Str)(ws:List Str):Prop where
 e:cp t=jn ws
 ne:ws≠[]
 no:∀ w∈ws,32 ∉ cp w/\10 ∉ cp w
 len:t.length<=100000
theorem zZ.sp {t:Str}{ws:List Str}(h:zZ t ws):Txt.split t " "=ws:=Dz h.e h.ne fun w hw=>(h.no w hw).1
theorem zZ.nl {t:Str}{ws:List Str}(h:zZ t ws):10 ∉ cp t:=by rw[h.e];exact Ua (by decide) fun w hw=>(h.no w hw).2
noncomputable def Bb (P:SX->Prop):c6:=fun ds S k=>∃ (d i:Nat) (a0 a1 a2 a3 a4:Str),ds=[.ob d,.int i,.t (Lr [a0,a1,a2,a3,a4])]/\Dq S d/\(∀ x∈[a0,a1,a2,a3,a4],isNm x=true) /\
 ∀ (x:SX) (t:Str) c m,x.ok->zZ t x.jZ->zY (x.st i)->(x.st i).dp=1->k (.tup [.str t,oJ (x.st i)]) (bS S d c m)
theorem qj {x:SX}{t:Str}(ok:x.ok)(e:cp t=jn x.jZ)(l:t.length<=100000):zZ t x.jZ:=⟨e,by obtain⟨y,ys,h,_⟩:=LJ x;rw[h];simp,UH ok,l⟩
theorem u9 (x:SX)(i:Nat):(x.st i).dp=1:=by cases x <;> (unfold SX.st oQ.dp;rfl)
theorem Fy.up {N M:List Str}{s:Sm}(h:Fy N s)(k:∀ x∈N,x∈M):Fy M s:=⟨h.nm,h.len,fun p hp=>⟨k _ (h.mem p hp).1,(h.mem p hp).2⟩,h.lo,h.hi⟩
theorem PL {N:List Str}{x:Str}(h:x∈N):Fy N ([(x,1)],0):=⟨Nu x (by decide),by show 1<=3;decide,fun p hp=>by rw[List.mem_singleton.mp hp];exact⟨h,by show(-3:Int)<=1;decide,by show(1:Int)<=17;decide,by show(1:Int)≠0;decide⟩,by show(-9:Int)<=0;decide,by show(0:Int)<=999999998;decide⟩
theorem Pq {ws:List Sw}(h:∀ w∈ws,wX w):((ws.map Sw.txt).map (·.length)).sum<=1271*ws.length:=by
 have:=ua (l:=ws.map Sw.txt) (M:=1271) fun x hx=>by
  obtain⟨w,hw,rfl⟩:=List.mem_map.mp hx;exact pL (h w hw)
 rwa [List.length_map] at this
theorem Zq {u:qN}{E:tN}{δ:Sl}{S:aY}{d:D}{i:Nat}(h:u E (δ.set i (some d)) S):uZ (Aj (xg d) (dD i)) u E δ S:=h
theorem jx {t u:qN}{E:tN}{δ:Sl}{S:aY}(h:∀ N:KS,(∀ δ1 S1,u E δ1 S1->N δ1 S1)->t { E with nx:=N } δ S):uZ t u E δ S:=h _ fun _ _ z=>z
theorem le_app {x y:Str}{a b:Nat}(hx:x.length<=a)(hy:y.length<=b):(x++y).length<=a+b:=by rw[fN];exact Nat.add_le_add hx hy
theorem pY {x y:Str}{a b:Nat}(hx:x.length<=a)(hy:y.length<=b)(h:decide (a+b<=1000000)=true:=by rfl):x.length+y.length<=sizeLine:=gp (Nat.le_trans (Nat.add_le_add hx hy) (of_decide_eq_true h))
theorem Ys {x y:Str}{a b:Nat}(hx:x.length<=a)(hy:y.length<=b)(h:decide (a+b<=100000)=true:=by rfl):(x++y).length<=100000:=Nat.le_trans (le_app hx hy) (of_decide_eq_true h)
theorem Wu {x:Str}{l:List Str}:Txt.join "\n" (x::l)++("\nend\n":Str)=Txt.join "\n" ((x::l)++[("end":Str),""]):=dw (by
 rw[bg,List.cons_append,yF,yF,List.map_append,List.flatten_append];rw[show cp ("\nend\n":Str)=[10,101,110,100,10] by decide +kernel];show _=_++(_++((cp "\n"++cp "end")++((cp "\n"++cp "")++[])));rw[show cp ("\n":Str)=[10] by decide +kernel,show cp ("end":Str)=[101,110,100] by decide +kernel,yG];simp)
theorem Mf {x:Str}{l:List Str}(h:∀ t∈x::l,10 ∉ cp t):Txt.split (Txt.join "\n" (x::l)++("\nend\n":Str)) "\n"=((x::l)++[("end":Str)])++[("":Str)]:=by
 rw[Wu,show("\n":Str)=⟨#[10]⟩ by decide +kernel,qd (by simp) (fun t ht=>?_)]
 ·simp
 ·rcases List.mem_append.mp ht with ht | ht
  ·exact h t ht
  ·simp at ht;rcases ht with rfl | rfl <;> decide +kernel
theorem U5:Txt.split ("end":Str) " "=[("end":Str)]:=Dz (by rfl) (by simp) (by decide +kernel)
structure XJ (t:Str)(x:SX):Prop where
 r:zZ t x.jZ
 ok:x.ok
theorem MI:∀ {ts:List Str} {xs:List SX},Paired XJ ts xs->ts.map (fun x=>Txt.split x " ")=xs.map SX.jZ
 | _,_,.nil=>rfl
 | _,_,.cons r t=>by rw[List.map_cons,List.map_cons,r.r.sp,MI t]
theorem Vo {R:SX->Prop}(h:∀ t x,XJ t x->R x){ts:List Str}{xs:List SX}(p:Paired XJ ts xs):∀ x∈xs,R x:=mS h p
theorem Vp {R:Str->Prop}(h:∀ t x,XJ t x->R t){ts:List Str}{xs:List SX}(p:Paired XJ ts xs):∀ t∈ts,R t:=mS (fun x t z=>h t x z) (GN (G:=fun x t=>XJ t x) (fun _ _ z=>z) p)
theorem Xu:cp ("helper ":Str)=cp ("helper":Str)++[32]:=by decide +kernel
theorem Xv:cp ("answers ":Str)=cp ("answers":Str)++[32]:=by decide +kernel
theorem Xs:cp (" #":Str)=[32,35]:=by decide +kernel
theorem Sd {n p e:Str}(hn:isNm n=true)(hp:isNm p=true)(he:isNm e=true):zZ (((((("helper ":Str)++n)++(" ":Str))++p)++(" #":Str))++e) [("helper":Str),n,p,("#":Str)++e]:=by
 have l1:=bJ hn;have l2:=bJ hp;have l3:=bJ he;have k:=(wM he).wd;refine⟨?_,by simp,fun w hw=>?_,?_⟩
 ·show _=cp "helper"++32::(cp n++32::(cp p++32::cp (("#":Str)++e)))
  rw[bg (Str.ofString "#"),Jv];simp only[bg,Xu,EM,Xs];simp
 ·simp at hw;rcases hw with rfl | rfl | rfl | rfl
  ·decide +kernel
  ·exact⟨(iy hn).no,(iy hn).no⟩
  ·exact⟨(iy hp).no,(iy hp).no⟩
  ·exact⟨k.no,k.no⟩
 ·simp only[fN];have z1:("helper ":Str).length=7:=by decide +kernel
  have z2:(" ":Str).length=1:=by decide +kernel
  have z3:(" #":Str).length=2:=by decide +kernel
  omega
theorem SI {a b:Str}(ha:isNm a=true)(hb:isNm b=true):zZ (((("answers ":Str)++a)++(" ":Str))++b) [("answers":Str),a,b]:=by
 have l1:=bJ ha;have l2:=bJ hb;refine⟨?_,by simp,fun w hw=>?_,?_⟩
 ·show _=cp "answers"++32::(cp a++32::cp b)
  simp only[bg,Xv,EM];simp
 ·simp at hw;rcases hw with rfl | rfl | rfl
  ·decide +kernel
  ·exact⟨(iy ha).no,(iy ha).no⟩
  ·exact⟨(iy hb).no,(iy hb).no⟩
 ·simp only[fN];have z1:("answers ":Str).length=8:=by decide +kernel
  have z2:(" ":Str).length=1:=by decide +kernel
  omega
theorem LI {w w':Str}{c:CW}(hw:cp w'=cp w++[32])(h:Fo c)(k:32 ∉ cp w/\10 ∉ cp w)(l:w'.length<=100):zZ (w'++zo c) (zx w c):=by
 refine⟨Tg hw h.1,by unfold zx;simp,fun x hx=>?_,?_⟩
 ·rcases List.mem_cons.mp hx with rfl | hx
  ·exact k
  ·obtain⟨b,hb,rfl⟩:=List.mem_map.mp hx;exact MK (h.bw b hb)
 ·rw[fN];have:=tY h;omega
noncomputable def Yo:Nat->List SX->Prop
 | _,[]=>True
 | i,x::r=>zY (x.st i)/\Yo (i+1) r
theorem Ib:∀ {xs:List SX} {i:Nat} {x:SX},Yo i xs->zY (x.st (i+xs.length))->Yo i (xs++[x])
 | [],i,x,_,h=>⟨h,trivial⟩
 | y::r,i,x,h,k=>⟨h.1,Ib (i:=i+1) h.2 (by rw[show i+1+r.length=i+(y::r).length by simp;omega];exact k)⟩
theorem Tr:∀ {xs:List SX} {i:Nat},Yo i xs->vR (vA i xs)
 | [],_,_=>by unfold vA vR;trivial
 | x::r,i,h=>by unfold vA vR;exact⟨h.1,Tr h.2⟩
theorem Mc:∀ (xs:List SX) (i:Nat),yz (vA i xs)<=1
 | [],_=>Nat.zero_le _
 | x::r,i=>by unfold vA yz;rw[u9];exact Nat.max_le.mpr ⟨Nat.le_refl _,Mc r _⟩
noncomputable def Ih:c6:=fun ds S k=>∃ l:List Int,ds=[.t (.Fq (l.map T.int))]/\S=[]/\∀ S',k (.bl true) S'
theorem Si {ns:List Str}(h:ns.length=5):∃ a0 a1 a2 a3 a4,ns=[a0,a1,a2,a3,a4]:=by
 match ns,h with
 | [a0,a1,a2,a3,a4],_=>exact⟨_,_,_,_,_,rfl⟩
noncomputable def zR (a0 a1 a2 a3 a4:Str)(wn wg:CW)(xs:List SX):HX:=⟨a3,[a1,("#":Str)++a4],[a0,a2],[wn],[wg],xs⟩
theorem a1a {a0 a1 a2 a3 a4:Str}{wn wg:CW}{xs:List SX}(hn:∀ x∈[a0,a1,a2,a3,a4],isNm x=true)(h1:Fo wn)(h2:Fo wg)(h3:∀ x∈xs,x.ok)(h4:xs.length<=8):(zR a0 a1 a2 a3 a4 wn wg xs).ok:=by
 have n0:=hn a0 (by simp);have n1:=hn a1 (by simp);have n2:=hn a2 (by simp);have n3:=hn a3 (by simp);have n4:=hn a4 (by simp);have k1:=mZ n1;have k4:=wM n4;refine⟨n3,fun x hx=>?_,fun x hx=>?_,by unfold zR;simp,by unfold zR;simp,by unfold zR;simp,fun c hc=>?_,fun c hc=>?_,h3,by unfold zR;simp,by unfold zR;simp,by show xs.length<=100;omega⟩
 ·have hx:x∈[a1,("#":Str)++a4]:=hx;simp at hx;rcases hx with rfl | rfl
  ·exact⟨k1.th,by have:=k1.len;omega⟩
  ·exact⟨k4.th,by have:=k4.len;omega⟩
 ·have hx:x∈[a0,a2]:=hx;simp at hx;rcases hx with rfl | rfl
  ·exact n0
  ·exact n2
 ·rw[List.mem_singleton.mp (show c∈[wn] from hc)];exact h1
 ·rw[List.mem_singleton.mp (show c∈[wg] from hc)];exact h2
theorem a4g {a0 a1 a2 a3 a4:Str}{wn wg:CW}{xs:List SX}(hn:∀ x∈[a0,a1,a2,a3,a4],isNm x=true)(h1:Lq wn.cd)(h2:Lq wg.cd)(h3:Yo 4 xs)(h4:xs.length<=8):XO ((zR a0 a1 a2 a3 a4 wn wg xs).hl 0)/\yz ((zR a0 a1 a2 a3 a4 wn wg xs).hl 0).steps<=1:=by
 have n0:=bJ (hn a0 (by simp));have n1:=bJ (hn a1 (by simp));have n2:=bJ (hn a2 (by simp));have n3:=bJ (hn a3 (by simp));have n4:=bJ (hn a4 (by simp));refine⟨⟨by show a3.length<=100;omega,⟨by show [a1,("#":Str)++a4].length<=8;simp,by show [a0,a2].length<=8;simp,by show(Dg _ [wn]).length<=8;rw[nW];simp,by show(Dg _ [wg]).length<=8;rw[nW];simp,by show(vA _ xs).length<=10;rw[wm];omega⟩,fun x hx=>?_,fun x hx=>?_,fun p hp=>?_,fun p hp=>?_,Tr h3⟩,Mc xs 4⟩
 ·have hx:x∈[a1,("#":Str)++a4]:=hx;simp at hx;rcases hx with rfl | rfl
  ·omega
  ·rw[fN];have:("#":Str).length=1:=by decide +kernel
   omega
 ·have hx:x∈[a0,a2]:=hx;simp at hx;rcases hx with rfl | rfl <;> omega
 ·have hp:p∈[(((2:Nat):Int),wn.cd)]:=hp;rw[List.mem_singleton.mp hp];exact h1
 ·have hp:p∈[(((3:Nat):Int),wg.cd)]:=hp;rw[List.mem_singleton.mp hp];exact h2
end L3
namespace L3
open PySem L2 Hw
noncomputable def ER (A:Ad)(j:Nat):Addr:=if j=7 then A.bC else if j=8 then A.jW else clS A j
inductive SK (A:Ad) (n:Nat):T->T->Nat->Prop
 | s (s:oQ) (h:zY s) (d:s.dp < n) (k:kd s < 7):SK A n (ud A s) (oJ s) (kd s)
 | h (x:Ly) (h:XO x) (d:yz x.steps+1 < n) (k:∀ s∈x.steps,kd s < 7):SK A n (Pf A x) (Sa x) 7
 | m (s:Sm) (d:0 < n):SK A n (pM A s) (iN s) 8
section
variable (A:Ad)
noncomputable def fP (n j:Nat):c6:=fun ds S k=>∃ x y,ds=[.t x]/\SK A n x y j/\k (.t y) S
noncomputable def Al (n:Nat):c6:=fun ds S k=>∃ h:Ly,ds=[.t (Pf A h)]/\XO h/\yz h.steps+1 < n+1/\(∀ s∈h.steps,kd s < 7)/\k (.t (Sa h)) S
noncomputable def xr (n:Nat):c6:=fun ds S k=>∃ (l:List (T×T)),ds=[.tup (l.map (·.1))]/\l.length<=100/\(∀ p∈l,∃ j,SK A n p.1 p.2 j)/\k (.tup (l.map (·.2))) S
noncomputable def uf:c6:=fun ds S k=>∃ hs:List Ly,ds=[.t (pgT A hs)]/\hs.length<=100/\(∀ h∈hs,XO h/\yz h.steps<=1/\∀ s∈h.steps,kd s < 7)/\k (.tup (hs.map Sa)) S
end
theorem Xz (A:Ad){j:Nat}(h:j < 7):ER A j=clS A j:=by unfold ER;rw[if_neg (by omega),if_neg (by omega)]
theorem W0 (A:Ad)(S:aY){n j:Nat}{x y:T}(h:SK A n x y j):∃ ns l,iq S (.t x)=some (ER A j,ns,l)/\ns.contains "told"=false/\j < 9:=by
 cases h with
 | s s h d k =>
  obtain⟨ns,l,h1,h2,_⟩:=a05 A S s;exact⟨ns,l,by rw[h1,Xz A k],h2,by omega⟩
 | h x hx hq k=>exact⟨_,_,rfl,by decide +kernel,by decide⟩
 | m s=>exact⟨_,_,rfl,by decide +kernel,by decide⟩
theorem Mb:∀ (xs:List SX) (i:Nat),∀ s∈vA i xs,kd s < 7
 | [],_,s,h=>by rw[vA] at h;exact absurd h List.not_mem_nil
 | x::r,i,s,h=>by
  rw[vA] at h;rcases List.mem_cons.mp h with rfl | h
  ·cases x <;> exact of_decide_eq_true rfl
  ·exact Mb r _ s h
end L3
set_option maxHeartbeats 8000000
namespace L3
open PySem L2 Hw PyProof.Rows
noncomputable def top (i:Nat):Stmt:=PySem.Challenge.pw_holdwright_k12_rows_read.main.body.getD i (.Pass ⟨0,0,0,0⟩)
structure Fx (K:PySem.W.Frag)(mg:Str->Option Value)(A:Ad):Prop where
 cW:mg "len"=none
 b7:mg "tuple"=none
 a5t:mg "list"=none
 E1:mg "sorted"=none
 yP:mg "int"=none
 Uv:mg "str"=none
 iL:mg "isinstance"=none
 lM:mg "range"=none
 E2:mg "abs"=none
 AM:mg "all"=none
 Ep:mg "Sum"=some (.ref A.jW)
 NR:eV K A.jW []
 gS:aM K A.jW "terms"
 fX:aM K A.jW "number"
 kE:mg "Compare"=some (.ref A.bF)
 uy:eV K A.bF []
 fk:aM K A.bF "one"
 eB:aM K A.bF "sign"
 dS:aM K A.bF "other"
 nu:mg "Turned"=some (.ref A.cJ)
 yl:eV K A.cJ []
 cM:aM K A.cJ "condition"
 iP:mg "Several"=some (.ref A.bU)
 sQ:mg "Every"=some (.ref A.dW)
 Cr:eV K A.dW []
 cN:aM K A.dW "conditions"
 yt:mg "Some"=some (.ref A.gn)
 GA:eV K A.gn []
 cR:aM K A.gn "conditions"
 Es:mg "Let"=some (.ref A.jm)
 NT:eV K A.jm []
 m6:aM K A.jm "at"
 jb:aM K A.jm "name"
 gY:aM K A.jm "total"
 nB:mg "Divide"=some (.ref A.bH)
 yp:eV K A.bH []
 g9:aM K A.bH "at"
 fj:aM K A.bH "name"
 fh:aM K A.bH "word"
 ez:aM K A.bH "total"
 g8:aM K A.bH "by"
 sP:mg "Fetch"=some (.ref A.cO)
 Cq:eV K A.cO []
 jc:aM K A.cO "at"
 fY:aM K A.cO "name"
 g7:aM K A.cO "row"
 ff:aM K A.cO "place"
 Er:mg "Put"=some (.ref A.jk)
 NS:eV K A.jk []
 m5:aM K A.jk "at"
 ku:aM K A.jk "row"
 gW:aM K A.jk "place"
 gU:aM K A.jk "total"
 yv:mg "Make"=some (.ref A.fE)
 GC:eV K A.fE []
 kB:aM K A.fE "at"
 ja:aM K A.fE "row"
 gX:aM K A.fE "size"
 sR:mg "Claim"=some (.ref A.dN)
 Cs:eV K A.dN []
 jd:aM K A.dN "at"
 cT:aM K A.dN "condition"
 yw:mg "Call"=some (.ref A.eF)
 GD:eV K A.eF []
 kC:aM K A.eF "at"
 fZ:aM K A.eF "names"
 fq:aM K A.eF "helper"
 gb:aM K A.eF "given"
 sS:mg "Choose"=some (.ref A.oE)
 sO:mg "Repeat"=some (.ref A.oB)
 nA:mg "Helper"=some (.ref A.bC)
 yo:eV K A.bC []
 gZ:aM K A.bC "at"
 e9:aM K A.bC "name"
 dR:aM K A.bC "params"
 di:aM K A.bC "answers"
 d9:aM K A.bC "needs"
 er:aM K A.bC "gives"
 d8:aM K A.bC "steps"
 iQ:mg "Program"=some (.ref A.bE)
 ux:eV K A.bE []
 cS:aM K A.bE "helpers"
 yu:mg "Rows"=some (.ref A.dZ)
 GB:eV K A.dZ []
 gT:aM K A.dZ "rows"
 iO:aM K A.dZ "at"
 nv:mg "Tokens"=some (.ref A.bz)
 ym:eV K A.bz []
 dQ:aM K A.bz "tokens"
 dh:aM K A.bz "place"
 gR:aM K A.bz "at"
 jg:∃ t,mg "MOST_LETTERS"=some (.int 8 t)
 jh:∃ t,mg "MOST_FIGURES"=some (.int 9 t)
 qA:∃ t,mg "GREATEST"=some (.int 999999999 t)
 kS:∀ j,j < 4->PySem.W.kitOne K (.ref (Fw A j)) (.ref A.bU)=some (decide (2<=j))
 kP:PySem.W.kitOne K (.ref A.bE) (.ref A.bE)=some true
 kT:PySem.W.kitOne K (.type "tuple") (.type "tuple")=some true
section
variable (P:Program)(w:World)(K:PySem.W.Frag)(mg:Str->Option Value)(base:Heap)(k:Nat)(A:Ad)(n:Nat)(q:Bool)
noncomputable abbrev eG:=Dn P w K mg base k "is_name" ["word"] (br K U9)
noncomputable abbrev vY:=Dn P w K mg base k "are_figures" ["word"] (br K MA)
noncomputable abbrev aE:=Dn P w K mg base k "refuse_unless" ["truth","at"] (br K U6)
noncomputable abbrev tQ:=Dn P w K mg base k "is_thing" ["word"] (br K Zd)
noncomputable abbrev tR:=Dn P w K mg base k "is_figure_row" ["word"] (br K MB)
noncomputable abbrev Ht:=Dn P w K mg base k "sum_of" ["pairs","number"] (br K (Ig A))
noncomputable abbrev uP:=Dn P w K mg base k "signed_terms" ["words","at"] (br K Tu)
noncomputable abbrev E9:=Dn P w K mg base k "term_of" ["term","at"] (br K Zc)
noncomputable abbrev dz:=Dn P w K mg base k "sum_of_words" ["words","at"] (br K (DC A))
noncomputable abbrev SR:=kJ P w K mg base k A.jW "Sum" ["self","terms","number"] (F0 A)
noncomputable abbrev C7:=Dn P w K mg base k "as_pairs" ["pairs"] (br K (Ij A))
noncomputable abbrev Hi:=Ms P w K mg base k 9 (ER A) "told" ["self"] (fP A n)
noncomputable abbrev gD:=Ms P w K mg base k 1 (fun _=>A.jW) "told" ["self"] (fun _=>wo A)
noncomputable abbrev qP:=Ms P w K mg base k 4 (Fw A) "told" ["self"] (fG A n)
noncomputable abbrev pZ:=Dn P w K mg base k "told_each" ["parts"] (br K (xr A n))
noncomputable abbrev yX:=Dn P w K mg base k "told_pairs" ["pairs"] (br K (Ie A))
noncomputable abbrev gj:=Ms P w K mg base k 1 (fun _=>A.bz) "coming" ["self"] (fun _=>Ml A)
noncomputable abbrev qQ:=Ms P w K mg base k 1 (fun _=>A.bz) "take" ["self"] (fun _=>Mh A)
noncomputable abbrev z4:=Dn P w K mg base k "tokens_of" ["words","at"] (br K Tt)
noncomputable abbrev E8:=kJ P w K mg base k A.bF "Compare" ["self","one","sign","other"] (vc A.bF ["one","sign","other"])
noncomputable abbrev uO:=Ms P w K mg base k 1 (fun _=>A.bz) "take_until" ["self","ends"] (fun _=>Mg A K)
noncomputable abbrev iw:=Ms P w K mg base k 1 (fun _=>A.bz) "take_just" ["self","token"] (fun _=>Mi A)
noncomputable abbrev qR:=Dn P w K mg base k "read_condition" ["source"] (br K (U7 A n))
noncomputable abbrev oR:=Dn P w K mg base k "read_comparison" ["source"] (br K (Zf A))
noncomputable abbrev qS:=Dn P w K mg base k "read_bracketed" ["source"] (br K (Ii A n))
noncomputable abbrev Ho:=kJ P w K mg base k A.cJ "Turned" ["self","condition"] (vc A.cJ ["condition"])
noncomputable abbrev Lm:=kJ P w K mg base k A.dW "Every" ["self","conditions"] (xu A.dW)
noncomputable abbrev OX:=kJ P w K mg base k A.gn "Some" ["self","conditions"] (xu A.gn)
noncomputable abbrev z8:=Dn P w K mg base k "read_part" ["source"] (br K (Zh A n))
noncomputable abbrev Hq:=kJ P w K mg base k A.bz "Tokens" ["self","words","at"] (Mj A)
noncomputable abbrev jr:=Ms P w K mg base k 1 (fun _=>A.dZ) "take" ["self"] (fun _=>Mm A)
noncomputable abbrev lR:=Ms P w K mg base k 1 (fun _=>A.dZ) "coming" ["self"] (fun _=>Mq A)
noncomputable abbrev kK:=Dn P w K mg base k "condition_of" ["words","at"] (br K (Zm A))
noncomputable abbrev OZ:=kJ P w K mg base k A.fE "Make" ["self","at","row","size"] (vc A.fE ["at","row","size"])
noncomputable abbrev SS:=kJ P w K mg base k A.jk "Put" ["self","at","row","place","total"] (vc A.jk ["at","row","place","total"])
noncomputable abbrev SV:=kJ P w K mg base k A.jm "Let" ["self","at","name","total"] (vc A.jm ["at","name","total"])
noncomputable abbrev Ll:=kJ P w K mg base k A.cO "Fetch" ["self","at","name","row","place"] (vc A.cO ["at","name","row","place"])
noncomputable abbrev Hs:=kJ P w K mg base k A.bH "Divide" ["self","at","name","word","total","by"] (vc A.bH ["at","name","word","total","by"])
noncomputable abbrev O0:=kJ P w K mg base k A.eF "Call" ["self","at","names","helper","given"] (Io A)
noncomputable abbrev C6:=Dn P w K mg base k "given_of" ["words","at"] (br K (Mz A))
noncomputable abbrev Aa:=Dn P w K mg base k "read_call" ["words","at"] (br K (DE A a04))
noncomputable abbrev Ln:=kJ P w K mg base k A.dN "Claim" ["self","at","condition"] (vc A.dN ["at","condition"])
noncomputable abbrev z9:=Dn P w K mg base k "read_make" ["words","at"] (br K (DE A a03))
noncomputable abbrev C3:=Dn P w K mg base k "read_put" ["words","at"] (br K (DE A Uc))
noncomputable abbrev C4:=Dn P w K mg base k "read_let" ["words","at"] (br K (DE A isLet))
noncomputable abbrev z7:=Dn P w K mg base k "read_step" ["source"] (br K (Tw A))
noncomputable abbrev Hr:=kJ P w K mg base k A.bC "Helper" ["self","at","name","params","answers","needs","gives","steps"] (My A)
noncomputable abbrev vV:=Ms P w K mg base k 1 (fun _=>A.dZ) "take_just" ["self","word"] (fun _=>Mn A)
noncomputable abbrev yY:=Dn P w K mg base k "read_steps" ["source"] (br K (Tv A))
noncomputable abbrev tO:=Dn P w K mg base k "read_writings" ["source","word"] (br K (Zg A))
noncomputable abbrev uQ:=Dn P w K mg base k "read_answers" ["source"] (br K (Zk A))
noncomputable abbrev E7:=kJ P w K mg base k A.bE "Program" ["self","helpers"] (Mu A)
noncomputable abbrev vW:=Dn P w K mg base k "read_helper" ["source"] (br K (Zi A))
noncomputable abbrev OY:=kJ P w K mg base k A.dZ "Rows" ["self","rows"] (Mp A)
noncomputable abbrev p6:=Dn P w K mg base k "_law_mixed" ["_law_cell","_law_k"] (br K Tz)
noncomputable abbrev C5:=Dn P w K mg base k "_law_kept" [] (br K Mx)
noncomputable abbrev eO:=Dn P w K mg base k "_law_next" ["_law_draw","_law_size"] (br K Zl)
noncomputable abbrev nJ:=Dn P w K mg base k "_law_sum" ["_law_draw","_law_things"] (br K Im)
noncomputable abbrev jY:=Dn P w K mg base k "_law_loose" ["_law_draw","_law_one"] (br K Ik)
noncomputable abbrev uR:=Dn P w K mg base k "_law_call_row" ["_law_draw","_law_at","_law_names_here"] (br K (Bb fun _=>True))
noncomputable abbrev jL:=Dn P w K mg base k "_law_condition" ["_law_draw","_law_things","_law_deep"] (br K (xw 2))
noncomputable abbrev Hj:=Ms P w K mg base k 1 (fun _=>A.bE) "told" ["self"] (fun _=>uf A)
noncomputable abbrev O1:=Dn P w K mg base k "read" ["text"] (br K (Ze A))
noncomputable abbrev vX:=Dn P w K mg base k "_law_cell_at" ["_law_script","_law_k"] (br K MC)
noncomputable abbrev Ab:=Dn P w K mg base k "_law_names" ["_law_draw","_law_many"] (br K Mv)
noncomputable abbrev tP:=Dn P w K mg base k "_law_all_right" ["_law_script"] (br K Ih)
end
end L3
namespace L3
open PySem L2 Hw PyProof.Rows
section
variable {P:Program}{w:World}{K:PySem.W.Frag}{mg:Str->Option Value}{base:Heap}{k:Nat}{f:Addr}{fd:FuncData}{A:Ad}{n:Nat}
seal L2.PE L2.PS L2.C1 L2.PA L2.PT QE QT QA QS Lk QW
noncomputable abbrev rX:Stmt:=top 47
theorem JY:au ["truth","at"] ["truth","at"] (ai rX):=dM
theorem Ke (F:cj K "refuse_unless" "refuse_unless" rX f fd)(J:Fx K mg A) :aN P w K mg base cG (k+1) f fd ["truth","at"] (br K U6):=by
 refine bD F JY fun cdv B outer s H E hr=>?_;rw[show ao rX=[_] from rfl];refine⟨_,(bM (bT (xN (uo (af 0))) wG bh)),fun ds S kk hc hd h=>?_⟩;obtain⟨a,rfl,h⟩:=h;refine⟨_,rfl,_,rfl,?_⟩;show(endsF S kk).nx _ _;exact iA h
noncomputable abbrev BV:Stmt:=top 46
theorem Qd:au ["word"] ["word"] (ai BV):=dM
theorem RB (F:cj K "are_figures" "are_figures" BV f fd)(J:Fx K mg A) :aN P w K mg base cG (k+1) f fd ["word"] (br K MA):=by
 refine bD F Qd fun cdv B outer s H E hr=>?_;rw[show ao BV=[_] from rfl];refine⟨_,(bM (az (aK (AH rfl) (by rfl) J.AM boot_all (qa (dg (bf ["sign"] [] [] rfl (by decide +kernel) (by decide +kernel) (by with_unfolding_all rfl) (by exact trivial) (by rfl) rfl (by rfl)) rfl (TR (af 0)) (fun _ _ _ _=>(qx (i:=0) (show List.Nodup (["sign"]:List Str) by decide +kernel))) (fun _ _ _ _=>cI) (fun _ _ _ _=>(IG IW IW aq (af 0) aq))) aa)))),fun ds S kk hc hd h=>?_⟩;obtain⟨z,rfl,hz,h⟩:=h;refine⟨_,rfl,z,rfl,Jx (fun c=>T.bl (vN c)) trivial (j4 (by omega)) (fun c _ k' hk=>?_) ?_⟩
 ·refine⟨_,rfl,chS ?_⟩;rw[le_0,a3B];exact⟨_,rfl,hk⟩
 ·refine⟨(cp z).map vN,?_,cF hc ?_⟩
  ·rw[List.map_map];rfl
  ·show kk (D.bl ((List.map vN (cp z)).all _root_.id)) S;rw[JL];exact h
noncomputable abbrev BU:Stmt:=top 43
theorem Qc:au ["word"] ["word"] (ai BU):=dM
theorem RA (F:cj K "is_name" "is_name" BU f fd)(J:Fx K mg A){lP:Addr}(CA:mg "KEPT_WORDS"=some (.ref lP))(Cp:∀ H:Hp,mC K H lP ((["helper","answers","needs","gives","end","let","div","mod","put","row","at","if","else","while","holds","falls","call","claim","and","or","not"]:List Str).map V.str)):aN P w K mg base cG (k+1) f fd ["word"] (br K U9):=by
 obtain⟨LU,jg⟩:=J.jg;refine bD F Qc fun cdv B outer s H E hr=>?_;rw[show ao BU=[_,_] from rfl];refine⟨_,(qs (bT (qw (xM (xN (DP Np Np ah (aK cV (by rfl) J.cW PySem.boot_len (qa (af 0) aa)) (vG (jI (v:=.int 8) rfl jg ⟨_,rfl⟩)))) (um (aH (Z3 Cp) (af 0) (vG (jI (v:=.ref lP) rfl CA rfl)) (by rfl))))) (bM (az ZK)) bh) (bM (az (aK (AH rfl) (by rfl) J.AM boot_all (qa (dg (bf ["sign"] [] [] rfl (by decide +kernel) (by decide +kernel) (by with_unfolding_all rfl) (by exact trivial) (by rfl) rfl (by rfl)) rfl (TR (af 0)) (fun _ _ _ _=>(qx (i:=0) (show List.Nodup (["sign"]:List Str) by decide +kernel))) (fun _ _ _ _=>cI) (fun _ _ _ _=>(IG IW IW aq (af 0) aq))) aa))))),fun ds S kk hc hd h=>?_⟩;obtain⟨z,rfl,hz,h⟩:=h;refine⟨_,rfl,j4 (by omega),chI ⟨_,rfl,?_⟩⟩;dsimp only;by_cases e:1<=z.length/\z.length<=8
 ·rw[if_neg (by simp;omega)];refine⟨_,rfl,z,rfl,rfl,_,rfl,?_⟩;show if (xor false (decide (z∈pR)))=true then _ else _
  rw[Bool.false_xor];by_cases m:z∈pR
  ·rw[if_pos (decide_eq_true m)];refine cF hc ?_;have q:isNm z=false:=by unfold isNm;rw[decide_eq_true m];simp
   rw[q] at h;exact h
  ·rw[if_neg (by simp[m])];refine⟨_,rfl,z,rfl,Jx (fun c=>T.bl (oK c)) trivial (j4 (by omega)) (fun c _ k' hk=>?_) ?_⟩
   ·refine⟨_,rfl,chS ?_⟩;rw[a3A,a3z];exact⟨_,rfl,hk⟩
   ·refine⟨(cp z).map oK,?_,cF hc ?_⟩
    ·rw[List.map_map];rfl
    ·show kk (D.bl ((List.map oK (cp z)).all _root_.id)) S;rw[JL];have q:isNm z=(cp z).all oK:=by unfold isNm;rw[decide_eq_true e.1,decide_eq_true e.2,decide_eq_false m];rfl
     rw[q] at h;exact h
 ·rw[if_pos (by simp;omega)];refine cF hc ?_;have q:isNm z=false:=by
   unfold isNm;have:(decide (1<=z.length) && decide (z.length<=8))=false:=by simp;omega
   rw[this];rfl
  rw[q] at h;exact h
noncomputable abbrev BS:Stmt:=top 44
theorem Qa:au ["word"] ["word"] (ai BS):=dM
theorem Rz (F:cj K "is_thing" "is_thing" BS f fd)(J:Fx K mg A)(bW:eG P w K mg base k):aN P w K mg base cG (k+1) f fd ["word"] (br K Zd):=by
 refine bD F Qa fun cdv B outer s H E hr=>?_;rw[show ao BS=[_] from rfl];refine⟨_,(bM (az (VD (aj bW hr rfl (qa (af 0) aa)) (ki (iW (TU (af 0) (qa aq aa)) (ki (aj bW hr rfl (qa (eZ false (af 0) (aX ah) bq) aa)))))))),fun ds S kk hc hd h=>?_⟩;obtain⟨z,rfl,hz,h⟩:=h;refine⟨_,rfl,z,rfl,hz,_,rfl,?_⟩;by_cases e:isNm z=true
 ·rw[if_pos e];refine cF hc ?_;have q:jU z=true:=by unfold jU;rw[e];rfl
  rw[q] at h;exact h
 ·rw[if_neg e];have e':isNm z=false:=Bool.eq_false_iff.mpr e;refine⟨_,rfl,rfl,_,rfl,?_⟩;by_cases s':Txt.startswith z "#"=true
  ·rw[if_pos s'];refine⟨_,rfl,_,rfl,j4 (by omega),_,rfl,?_,cF hc ?_⟩
   ·exact Nat.le_trans (PyProof.Txt.length_slice_le _ _ _) hz
   ·have q:jU z=isNm (Txt.slice z (some 1) none):=by unfold jU;rw[e',s'];rfl
    rw[q] at h;exact h
  ·rw[if_neg s'];refine cF hc ?_;have q:jU z=false:=by unfold jU;rw[e',Bool.eq_false_iff.mpr s'];rfl
   rw[q] at h;exact h
noncomputable abbrev BX:Stmt:=top 45
theorem Qe:au ["word"] ["word"] (ai BX):=dM
theorem RC (F:cj K "is_figure_row" "is_figure_row" BX f fd)(J:Fx K mg A)(zW:vY P w K mg base k):aN P w K mg base cG (k+1) f fd ["word"] (br K MB):=by
 obtain⟨LV,jh⟩:=J.jh;refine bD F Qe fun cdv B outer s H E hr=>?_;rw[show ao BX=[_,_] from rfl];refine⟨_,(qs (bT (qw (xM (xN (DP Np Np ah (aK cV (by rfl) J.cW PySem.boot_len (qa (af 0) aa)) (vG (jI (v:=.int 9) rfl jh ⟨_,rfl⟩)))) (um (qw (qk (aH (cP 40 (uE hr)) (aS (af 0) ah) aq (aA _)) (lE (aH (su 40 (uE hr)) (af 0) aq (aA _)))))))) (bM (az ZK)) bh) (bM (az (aj zW hr rfl (qa (af 0) aa))))),fun ds S kk hc hd h=>?_⟩;obtain⟨z,rfl,hz,h⟩:=h;refine⟨_,rfl,j4 (by omega),chI ⟨_,rfl,?_⟩⟩;dsimp only;by_cases e:1<=z.length/\z.length<=9
 ·rw[if_neg (by simp;omega)];obtain⟨c,r,hcp⟩:∃ c r,cp z=c::r:=by
   cases q:cp z with
   | nil=>rw[bB,q] at e;simp at e
   | cons c r=>exact⟨c,r,rfl⟩
  refine⟨_,rfl,j4 (by omega),c,?_,?_⟩
  ·show oO (cp z) 0=some c;rw[hcp];exact aB (xs:=c::r) (j:=0) rfl
  have hd0:decide ((cp z).head?=some 48)=decide (c=48):=by rw[hcp];simp
  refine⟨rfl,_,rfl,?_⟩;dsimp only;have qf:vM z=(!(decide (c=48) && decide (z≠"0")) && GR z):=by unfold vM;rw[decide_eq_true e.1,decide_eq_true e.2,hd0];rfl
  by_cases c0:c=48
  ·subst c0;rw[if_pos (by decide +kernel)];refine⟨_,rfl,rfl,_,rfl,?_⟩;dsimp only;by_cases z0:z="0"
   ·rw[if_neg (by rw[z0];decide +kernel)];refine⟨_,rfl,z,rfl,hz,cF hc ?_⟩;have q:vM z=GR z:=by rw[qf,z0];rfl
    rw[q] at h;exact h
   ·have ne:¬ (V.str z=V.str "0"):=fun w'=>z0 (V.str.inj w');rw[if_pos (by rw[decide_eq_false ne];rfl)];refine cF hc ?_;have q:vM z=false:=by rw[qf];simp[z0]
    rw[q] at h;exact h
  ·have ne:¬ (V.str ⟨#[c]⟩=V.str "0"):=fun w'=>c0 (by have:=congrArg Str.cps (V.str.inj w');injection this with this;injection this);rw[if_neg (by rw[decide_eq_false ne];decide)];refine⟨_,rfl,z,rfl,hz,cF hc ?_⟩;have q:vM z=GR z:=by rw[qf,decide_eq_false c0];rfl
   rw[q] at h;exact h
 ·rw[if_pos (by simp;omega)];refine cF hc ?_;have q:vM z=false:=by
   unfold vM;have:(decide (1<=z.length) && decide (z.length<=9))=false:=by simp;omega
   rw[this];rfl
  rw[q] at h;exact h
noncomputable abbrev BA:Stmt:=top 63
theorem wu:au ["term","at","figures","star","thing"] ["term","at"] (ai BA):=dM
theorem Rg (F:cj K "term_of" "term_of" BA f fd)(J:Fx K mg A)(ak:aE P w K mg base k)(lK:tQ P w K mg base k)(vP:tR P w K mg base k):aN P w K mg base cG (k+1) f fd ["term","at"] (br K Zc):=by
 refine bD F wu fun cdv B outer s H E hr=>?_;rw[show ao BA=[_,_,_,_] from rfl];refine⟨_,(qs (bT (uo (aj lK hr rfl (qa (af 0) aa))) (bM (az (aP (qa (af 0) (qa ah aa))))) bh) (qs (BZ (VC (af 0) (qa aq aa)) (qm (n:=3) rfl (F6 (qg (i:=2) wu.nd) (F6 (qg (i:=3) wu.nd) (F6 (qg (i:=4) wu.nd) lF))))) (qs (cD (aj ak hr rfl (qa (iW (aj vP hr rfl (qa (af 2) aa)) (ki (VD (cE (cP 40 (uE hr)) (af 3) aq (aA _)) (ki (aj lK hr rfl (qa (af 4) aa)))))) (qa (af 1) aa)))) (bM (az (aP (qa (af 4) (qa (aU XD (by rfl) J.yP boot_int (qa (af 2) aa)) aa)))))))),fun ds S kk hc hd h=>?_⟩;obtain⟨x,t,w1,a,rfl,ht,hl,h⟩:=h;refine⟨_,rfl,x,rfl,by omega,_,rfl,?_⟩;cases ht with
 | nm h1 =>
  rw[if_pos h1];exact⟨_,rfl,_,rfl,sz 2,cF hc h⟩
 | num h1 hf hs hi =>
  rw[if_neg (by rw[h1];decide)];refine⟨_,rfl,rfl,rfl,j4 (by omega),?_⟩;rw[Ge hs];refine⟨_,rfl,rfl,_,_,rfl,_,_,rfl,_,_,rfl,rfl,?_⟩;refine⟨_,rfl,x,rfl,by omega,_,rfl,?_⟩;rw[if_pos hf];refine⟨_,rfl,rfl,_,rfl,?_⟩;rw[if_pos (show(false ^^ decide (V.str Str.empty=V.str (Str.ofString "")))=true by decide +kernel)];refine⟨_,rfl,a,rfl,?_⟩;exact⟨_,rfl,_,rfl,_,hi,(by show x.length<=640;omega),_,rfl,sz 2,cF hc h⟩
 | mul e h1 hf hs ht hi =>
  rename_i f;rw[if_neg (by rw[h1];decide)];have lf:=lO e;refine⟨_,rfl,rfl,rfl,j4 (by omega),?_⟩;rw[e,J6 hs];refine⟨_,rfl,rfl,_,_,rfl,_,_,rfl,_,_,rfl,rfl,?_⟩;refine⟨_,rfl,f,rfl,by omega,_,rfl,?_⟩;rw[if_pos hf];refine⟨_,rfl,rfl,_,rfl,?_⟩;rw[if_neg (show ¬ (false ^^ decide (V.str (Str.ofString "*")=V.str (Str.ofString "")))=true by decide +kernel)];refine⟨_,rfl,t,rfl,by omega,_,rfl,a,?_,?_⟩
  ·rw[ht]
  exact⟨_,rfl,_,rfl,_,hi,(by show f.length<=640;omega),_,rfl,sz 2,cF hc h⟩
noncomputable abbrev IA:Stmt:=top 62
theorem Bh:au ["words","at","first","found","place"] ["words","at"] (ai IA):=dM
theorem Wm (F:cj K "signed_terms" "signed_terms" IA f fd)(J:Fx K mg A)(ak:aE P w K mg base k):aN P w K mg base cG (k+1) f fd ["words","at"] (br K Tu):=by
 refine bD F Bh fun cdv B outer s H E hr=>?_;rw[show ao IA=[_,_,_,_,_] from rfl];refine⟨_,(qs (cD (aj ak hr rfl (qa (cE (cP 40 (uE hr)) (aJ mY (aK cV (by rfl) J.cW PySem.boot_len (qa (af 0) aa)) ah) ah (aA _)) (qa (af 1) aa)))) (qs (av (i:=2) Bh.nd (aS (af 0) ah)) (qs (av (i:=3) Bh.nd (ig (qa (MP (uo (TU (af 2) (qa aq aa))) (aP (qa aq (qa (eZ false (af 2) (aX ah) bq) aa))) (aP (qa aq (qa (af 2) aa)))) aa))) (qs (iV PassesOwn.never rfl (VA rfl J.lM (qa ah (qa (aK cV (by rfl) J.cW PySem.boot_len (qa (af 0) aa)) (qa ah aa)))) (qg (i:=4) Bh.nd) (qs (cD (aj ak hr rfl (qa (cE Gm (aS (af 0) (af 4)) (aP (qa aq (qa aq aa))) (by rfl)) (qa (af 1) aa)))) (bM (cD (kj (af 3) (qa (aP (qa (aS (af 0) (af 4)) (qa (aS (af 0) (aJ aG (af 4) ah)) aa))) aa)))))) (bM (az (af 3))))))),fun ds S kk hc hd h=>?_⟩;obtain⟨p,r,a,rfl,hr2,hp,hs,h⟩:=h;have hl:((gk p r).map T.str).length=2*r.length+1:=by rw[List.length_map,t9]
 have g0:oO ((gk p r).map T.str) 0=some (T.str (uB p)):=aB (j:=0) (by rfl);have gs:∀ {i:Nat} {q:Bool×Str},r[i]?=some q->oO ((gk p r).map T.str) (1+(i:Int)*2)=some (T.str (iB q.1))/\oO ((gk p r).map T.str) (1+(i:Int)*2+1)=some (T.str q.2):=fun {i q} hq=>by
  obtain⟨h1,h2⟩:=U0 (p:=p) hq;have a1:=aB (xs:=(gk p r).map T.str) (j:=1+i*2) (v:=T.str (iB q.1)) (by rw[List.getElem?_map,h1];rfl);have a2:=aB (xs:=(gk p r).map T.str) (j:=1+i*2+1) (v:=T.str q.2) (by rw[List.getElem?_map,h2];rfl);exact⟨by simpa using a1,by simpa using a2⟩
 generalize (gk p r).map T.str=W at hl g0 gs hd;refine⟨_,rfl,_,rfl,by decide,rfl,_,rfl,a,?_,?_⟩
 ·have:V.int (((W.length:Nat):Int) % 2)=V.int 1:=by rw[hl];congr 1;omega
  show [D.bl (xor false (decide (V.int (((W.length:Nat):Int) % 2)=V.int 1))),a]=[D.bl true,a];rw[decide_eq_true this];rfl
 refine⟨_,rfl,_,_,rfl,g0,PV (p:=p) rfl hp hs ⟨[FU p],rfl,sz 1,?_⟩⟩;dsimp only[dD];refine⟨_,rfl,_,rfl,1,(W.length:Int),rfl,by rw[hl];omega,?_⟩;have hn:(((W.length:Int) - 1+1) / 2).toNat=r.length:=by rw[hl];omega
 rw[hn];refine wN (fun i δ S'=>∃ y,δ=[some (D.lst W),some a,some (D.str (uB p)),some (D.ob (S.length+0)),y]/\S'=S++[O.lst ((p::r.take i).map FU)]) ⟨_,rfl,rfl⟩ ?_ ?_
 ·rintro i x δ S' N hx ⟨y,rfl,rfl⟩ hN;rw[List.getElem?_map] at hx;have hi:i < r.length:=by
   rcases Nat.lt_or_ge i r.length with l | l
   ·exact l
   ·rw[List.getElem?_eq_none (by simpa using l)] at hx;cases hx
  rw[List.getElem?_range hi] at hx;cases hx;have hq:=List.getElem?_eq_getElem hi;obtain⟨a1,a2⟩:=gs hq;refine⟨trivial,_,rfl,_,rfl,_,_,rfl,a1,_,rfl,sz 2,_,_,_,rfl,rfl,rfl,rfl,_,rfl,a,?_,?_⟩
  ·rw[Vf];rfl
  refine⟨_,rfl,⟨rfl,_,Cn rfl⟩,_,rfl,_,rfl,_,_,rfl,a1,_,rfl,_,rfl,_,_,rfl,a2,_,rfl,sz 2,_,oq,A4 (by simp;omega),?_⟩;rw[fH];refine hN _ _ ⟨_,rfl,?_⟩;show S++[O.lst ((p::r.take i).map FU++[FU r[i]])]=_;rw[List.take_add_one,hq,<- List.cons_append,List.map_append];rfl
 ·rintro δ S' ⟨y,rfl,rfl⟩;rw[List.length_map,List.length_range,List.take_length];exact⟨trivial,_,rfl,a1A hc rfl h⟩
noncomputable abbrev Iz:Stmt:=top 61
theorem uh:au ["words","at","weights","sign","term","thing","weight"] ["words","at"] (ai Iz):=dM
theorem Wl (F:cj K "sum_of_words" "sum_of_words" Iz f fd)(J:Fx K mg A)(OH:Ht P w K mg base k A)(ak:aE P w K mg base k)(yL:uP P w K mg base k)(Ld:E9 P w K mg base k):aN P w K mg base cG (k+1) f fd ["words","at"] (br K (DC A)):=by
 obtain⟨UO,qA⟩:=J.qA;refine bD F uh fun cdv B outer s H E hr=>?_;rw[show ao Iz=[_,_,_,_] from rfl];refine⟨_,(qs (av (i:=2) uh.nd a3l) (qs (iV PassesOwn.never rfl (qi (aj yL hr rfl (qa (af 0) (qa (af 1) aa)))) (qm (n:=2) rfl (F6 (qg (i:=3) uh.nd) (F6 (qg (i:=4) uh.nd) lF))) (qs (BZ (aj Ld hr rfl (qa (af 4) (qa (af 1) aa))) (qm (n:=2) rfl (F6 (qg (i:=5) uh.nd) (F6 (qg (i:=6) uh.nd) lF)))) (bM (BY (pU hr) (af 2) (af 5) (aJ aG (IF (pU hr) (af 2) (af 5) ah) (MP (aH (cP 40 (uE hr)) (af 3) aq (aA _)) (af 6) (An (af 6)))))))) (qs (cD (aj ak hr rfl (qa (aK (AH rfl) (by rfl) J.AM boot_all (qa (dg (bf ["weight"] [] [] rfl (by decide +kernel) (by decide +kernel) (by with_unfolding_all rfl) (by exact trivial) (by rfl) rfl (by rfl)) rfl (ZF (af 2)) (fun _ _ _ _=>(qx (i:=0) (show List.Nodup (["weight"]:List Str) by decide +kernel))) (fun _ _ _ _=>cI) (fun _ _ _ _=>(cE Np (aK EZ (by rfl) J.E2 boot_abs (qa (af 0) aa)) (vG (jI (v:=.int 999999999) rfl qA ⟨_,rfl⟩)) (aA _)))) aa)) (qa (af 1) aa)))) (bM (az (aj OH hr rfl (qa (dg (bf ["thing"] ["weights"] [2] rfl (by decide +kernel) (by decide +kernel) (by with_unfolding_all rfl) (by exact⟨rfl,trivial⟩) (by rfl) rfl (by rfl)) rfl (ZG (af 2)) (fun _ _ _ _=>(qx (i:=0) (show List.Nodup (["thing","weights"]:List Str) by decide +kernel))) (fun _ _ _ _=>(wF (aH (su 40 (uE hr)) (af 0) aq (aA _)))) (fun _ _ _ _=>(aP (qa (af 0) (qa (IE (pU hr) (af 1) (af 0)) aa))))) (qa (IE (pU hr) (af 2) aq) aa)))))))),fun ds S kk hc hd h=>?_⟩;obtain⟨p,r,ws,a,rfl,hr2,hp,hs,hw,hb,h⟩:=h;have hd0:yZ [(("":Str),(0:Int))] [((Sum.inr ("":Str):Key),T.int 0)]:=yZ.nil.snoc "" 0 rfl;have hlw:ws.length=r.length+1:=by have:=Paired.length hw;simpa using this.symm
 refine⟨_,rfl,_,rfl,p,r,a,rfl,hr2,hp,hs,nq (Ax FU (fun pre δ S'=>∃ x1 x2 x3 x4 dd qY,δ=[some (D.lst ((gk p r).map T.str)),some a,some (D.ob S.length),x1,x2,x3,x4]/\S'=S++[O.qC dd]/\yZ (z0 qY) dd/\Paired Pc pre qY/\qY=ws.take pre.length) ⟨_,_,_,_,_,[],rfl,rfl,hd0,.nil,rfl⟩ ?_ ?_)⟩
 ·rintro pre ⟨n,x⟩ post δ S' N e ⟨x1,x2,x3,x4,dd,qY,rfl,rfl,hz,hp1,hp2⟩ hN;rw[e] at hw;obtain⟨wa,⟨t,v⟩,wc,rfl,w1,⟨Ls,w2,tm,hv⟩,w3⟩:=vf hw;have hl1:pre.length=wa.length:=Paired.length w1;have e1:qY=wa:=by rw[hp2,hl1,List.take_left]
  subst e1;have hl:dd.length < sizeLine:=A4 (by have:=hz.len;simp[z0] at this hlw;omega);refine⟨trivial,_,rfl,rfl,_,_,rfl,_,_,rfl,rfl,?_⟩;refine⟨_,rfl,_,rfl,x,t,w2,a,rfl,tm,Ls,?_⟩;refine⟨_,rfl,rfl,_,_,rfl,_,_,rfl,rfl,?_⟩;have hsn:∀ i:Int,i=wt (z0 qY) t+v->yZ (z0 (qY++[(t,v)])) (dput dd (Sum.inr t) (.int i)):=fun i hi=>hz.snoc t v hi;have tk:qY++[(t,v)]=(qY++(t,v)::wc).take (pre++[(n,x)]).length:=by rw[List.length_append,hl1,show qY++(t,v)::wc=(qY++[(t,v)])++wc by simp,List.take_left' (by simp)]
  have fin:∀ (i:Int) (y1 y2 y3 y4:Option D),i=wt (z0 qY) t+v->N [some (D.lst ((gk p r).map T.str)),some a,some (D.ob S.length),y1,y2,y3,y4] (S++[O.qC (dput dd (Sum.inr t) (.int i))]):=fun i y1 y2 y3 y4 hi =>
   hN _ _ ⟨_,_,_,_,_,_,rfl,rfl,hsn i hi,iX hp1 (.cons ⟨Ls,w2,tm,hv⟩ .nil),tk⟩
  refine⟨_,rfl,_,_,rfl,aD,_,rfl,_,_,aD,rfl,_,rfl,rfl,_,rfl,?_⟩;dsimp only;rw[hz.val t];by_cases hx:t∈(z0 qY).map (·.1)
  ·rw[if_pos hx];cases n with
   | false =>
    have hv':v=w2:=hv;rw[if_pos TF];refine⟨_,rfl,_,rfl,_,rfl,_,_,_,_,rfl,aD,rfl,rfl,hl,?_⟩;rw[cC];exact fin _ _ _ _ _ (by rw[hv'])
   | true =>
    have hv':v=-w2:=hv;rw[if_neg TH];refine⟨_,rfl,_,rfl,_,rfl,_,_,_,_,rfl,aD,rfl,rfl,hl,?_⟩;rw[cC];exact fin _ _ _ _ _ (by rw[hv'])
  ·rw[if_neg hx];cases n with
   | false =>
    have hv':v=w2:=hv;rw[if_pos TF];refine⟨_,rfl,_,rfl,_,rfl,_,_,_,_,rfl,aD,rfl,rfl,hl,?_⟩;rw[cC];exact fin _ _ _ _ _ (by rw[hv',kN hx])
   | true =>
    have hv':v=-w2:=hv;rw[if_neg TH];refine⟨_,rfl,_,rfl,_,rfl,_,_,_,_,rfl,aD,rfl,rfl,hl,?_⟩;rw[cC];exact fin _ _ _ _ _ (by rw[hv',kN hx])
 ·rintro δ S' ⟨x1,x2,x3,x4,dd,qY,rfl,rfl,hz,hp1,hp2⟩;have e1:qY=ws:=by rw[hp2,Paired.length hw,List.take_length]
  subst e1;obtain⟨ss,nd,mem,rfl⟩:=a1q hz;have hsl:ss.length<=30:=by have:=hz.len;simp[z0] at this;omega
  refine⟨trivial,_,rfl,S.length,_,rfl,.inl aD,fun ob kvs=>?_⟩;rw[cC,List.map_map];have hG:(S++[O.yC ob kvs (ss.map fun x=>((Sum.inr x:Key),T.int (wt (z0 qY) x)))])[S.length]?=some (O.yC ob kvs (ss.map fun x=>((Sum.inr x:Key),T.int (wt (z0 qY) x)))):=aD;have c1:ss.map ((fun p:Key×T=>D.t p.2) ∘ fun x=>((Sum.inr x:Key),T.int (wt (z0 qY) x)))=(ss.map fun x=>T.int (wt (z0 qY) x)).map D.t:=by rw[List.map_map];rfl
  rw[c1];refine gi (fun x=>T.int (wt (z0 qY) x)) (fun x=>T.bl (decide (jq (wt (z0 qY) x)<=999999999))) hG (j4 (by omega)) (fun x _ k' hk=>?_) ?_
  ·exact⟨_,rfl,_,rfl,hk⟩
  refine⟨ss.map fun x=>decide (jq (wt (z0 qY) x)<=999999999),?_,_,rfl,a,?_,?_⟩
  ·rw[List.map_map];rfl
  ·have:(ss.map fun x=>decide (jq (wt (z0 qY) x)<=999999999)).all _root_.id=true:=by
    rw[List.all_map,List.all_eq_true];intro x _;obtain⟨b1,b2⟩:=hb x;exact decide_eq_true (by unfold jq;split <;> omega)
   show [D.bl ((ss.map fun x=>decide (jq (wt (z0 qY) x)<=999999999)).all _root_.id),a]=_;rw[this]
  refine⟨_,rfl,S.length,_,rfl,.inr ⟨ob,kvs,aD⟩,fun ob2 RT=>?_⟩;rw[cC,List.map_map];have hG2:(S++[O.yC ob2 RT (ss.map fun x=>((Sum.inr x:Key),T.int (wt (z0 qY) x)))])[S.length]?=some (O.yC ob2 RT (ss.map fun x=>((Sum.inr x:Key),T.int (wt (z0 qY) x)))):=aD;have c2:ss.map ((fun p:Key×T=>D.t (NQ p.1)) ∘ fun x=>((Sum.inr x:Key),T.int (wt (z0 qY) x)))=(ss.map T.str).map D.t:=by rw[List.map_map];rfl
  rw[c2];refine yH T.str (fun x=>if x=("":Str) then none else some (pT (x,wt (z0 qY) x))) hG2 (j4 (by omega)) (fun x hx k' hk=>?_) ?_
  ·refine⟨_,rfl,rfl,_,rfl,?_⟩;by_cases e:x=("":Str)
   ·rw[if_pos e] at hk;rw[if_neg (by rw[decide_eq_true (by rw[e])];decide)];exact hk
   ·rw[if_neg e] at hk;rw[if_pos (by rw[decide_eq_false (fun z=>e (V.str.inj z))];rfl)];exact⟨_,rfl,_,rfl,_,rfl,S.length,_,_,_,rfl,.inr ⟨ob2,RT,aD⟩,rfl,yy _ hx,_,rfl,sz 2,_,rfl,hk⟩
  have m0:("":Str)∈ss:=(mem _).mpr (List.mem_cons_self ..);have fm:ss.filterMap (fun x=>if x=("":Str) then none else some (pT (x,wt (z0 qY) x)))=((ss.filter fun x=>decide (x≠("":Str))).map fun x=>(x,wt (z0 qY) x)).map pT:=by
   clear nd mem hsl hG hG2 c1 c2 m0 hz hd
   induction ss with
   | nil=>rfl
   | cons y s ih =>
    by_cases e:y=("":Str)
    ·rw[List.filterMap_cons_none (by rw[if_pos e]),List.filter_cons_of_neg (by simp[e]),ih]
    ·rw[List.filterMap_cons_some (by rw[if_neg e]),List.filter_cons_of_pos (by simp[e]),ih];rfl
  rw[fm];refine⟨_,rfl,S.length,_,_,_,rfl,.inr ⟨ob2,RT,aD⟩,rfl,yy _ m0,_,_,_,rfl,rfl,?_,Ss hc (by rw[Vb nd mem];exact h)⟩;have:=List.length_filter_le (fun x=>decide (x≠("":Str))) ss;rw[List.length_map];omega
noncomputable abbrev IC:Stmt:=top 60
theorem Vl:au ["words","at"] ["words","at"] (ai IC):=dM
theorem Wo (F:cj K "given_of" "given_of" IC f fd)(J:Fx K mg A)(aV:dz P w K mg base k A):aN P w K mg base cG (k+1) f fd ["words","at"] (br K (Mz A)):=by
 refine bD F Vl fun cdv B outer s H E hr=>?_;rw[show ao IC=[_,_] from rfl];refine⟨_,(qs (bT (aH (cP 40 (uE hr)) (aK cV (by rfl) J.cW PySem.boot_len (qa (af 0) aa)) ah (aA _)) (bM (az (dG aa))) bh) (bM (az (dg (bf ["given"] ["at"] [1] rfl (by decide +kernel) (by decide +kernel) (by with_unfolding_all rfl) (by exact⟨rfl,trivial⟩) (by rfl) rfl (by rfl)) rfl (qi (wH false (xO aq (qa (af 0) aa)) (qa aq aa))) (fun _ _ _ _=>(qx (i:=0) (show List.Nodup (["given","at"]:List Str) by decide +kernel))) (fun _ _ _ _=>cI) (fun _ _ _ _=>(aj aV hr rfl (qa (wH false (af 0) (qa aq aa)) (qa (af 1) aa)))))))),fun ds S kk hc hd h=>?_⟩;obtain⟨W,l,a,rfl,hW,hl,h⟩:=h;refine⟨_,rfl,_,rfl,rfl,_,rfl,?_⟩;dsimp only;rcases hW with ⟨rfl,rfl⟩ | ⟨w0,l0,ok,e⟩
 ·rw[if_pos (by decide +kernel)];exact⟨[],rfl,sz 0,cF hc h⟩
 ·have ne:¬ (V.int ((W.map T.str).length:Nat)=V.int 0):=fun z=>w0 (by injection z with z;rw[List.length_map] at z;exact List.eq_nil_of_length_eq_zero (by omega));rw[if_neg (by rw[decide_eq_false ne];decide)];have h32:(W.map (·.length)).sum+W.length*(" ":Str).length<=100000:=by rw[show(" ":Str).length=1 by decide +kernel,Nat.mul_one];exact hl.2
  have hj:=Ct " " W;refine⟨rfl,_,rfl,W,rfl,by omega,rfl,rfl,?_,?_⟩
  ·rw[sizeLine_eq];omega
  rw[e,K5 l0 ok];refine Gq (nq ?_);rw[List.map_map (f:=Sw.txt)];refine gi (T.str ∘ Sw.txt) (fun s=>pM A (oM s.ws)) trivial (j4 (by omega)) (fun s hs k' hk=>?_) ?_
  ·have k1:=ok s hs;have k2:s.txt.length<=200000:=FQ hs (by rw[<- e];omega);refine⟨_,rfl,rfl,rfl,by rw[sizeLine_eq];omega,Gq ⟨_,rfl,s.p,s.r,s.ws,a,?_,k1.len,k1.fst,k1.pl,k1.pc,k1.bd,_,rfl,hk⟩⟩;rw[L7 k1]
  exact cF hc h
noncomputable abbrev k8:Stmt:=inClass (top 5) 0
theorem DJ:au ["self","terms","number"] ["self","terms","number"] (ai k8):=dM
theorem D6 (F:cj K "__init__" "Sum.__init__" k8 f fd)(J:Fx K mg A) :aN P w K mg base cG (k+1) f fd ["self","terms","number"] (br K (F0 A)):=by
 refine bD F DJ fun cdv B outer s H E hr=>?_;rw[show ao k8=[_,_] from rfl];refine⟨_,(qs (aZ (af 0) (aU cy (by rfl) J.b7 boot_tuple (qa (dg (bf ["pair"] [] [] rfl (by decide +kernel) (by decide +kernel) (by with_unfolding_all rfl) (by exact trivial) (by rfl) rfl (by rfl)) rfl (qi (af 1)) (fun _ _ _ _=>(qx (i:=0) (show List.Nodup (["pair"]:List Str) by decide +kernel))) (fun _ _ _ _=>cI) (fun _ _ _ _=>(aU cy (by rfl) J.b7 boot_tuple (qa (af 0) aa)))) aa)) rfl) (bM (aZ (af 0) (af 2) rfl))),fun ds S kk hc hd h=>?_⟩;obtain⟨i,d,l,m,rfl,h1,h2,h3,h4⟩:=h;refine⟨_,rfl,N2 h2 fun G hG=>gi pT pT (by simpa using hG []) (j4 (by omega)) (fun x _ k' hk=>⟨_,rfl,_,rfl,_,rfl,hk⟩) ?_⟩;refine⟨_,rfl,_,rfl,i,A.jW,[],[],rfl,h1,J.gS,by decide,_,rfl,_,rfl,i,_,_,_,rfl,List.getElem?_set_self (List.getElem?_eq_some_iff.mp h1).1,J.fX,by decide,?_⟩;rw[List.set_set];exact .inr (.inr (.inr h4))
noncomputable abbrev rW:Stmt:=top 6
theorem nY:au ["pairs","number","weights","thing","weight"] ["pairs","number"] (ai rW):=dM
theorem Kd (F:cj K "sum_of" "sum_of" rW f fd)(J:Fx K mg A)(NR:SR P w K mg base k A):aN P w K mg base cG (k+1) f fd ["pairs","number"] (br K (Ig A)):=by
 refine bD F nY fun cdv B outer s H E hr=>?_;rw[show ao rW=[_,_,_] from rfl];refine⟨_,(qs (av (i:=2) nY.nd MR) (qs (iV PassesOwn.never rfl (qi (af 0)) (qm (n:=2) rfl (F6 (qg (i:=3) nY.nd) (F6 (qg (i:=4) nY.nd) lF))) (bM (BY (pU hr) (af 2) (af 3) (aJ aG (IF (pU hr) (af 2) (af 3) ah) (af 4))))) (bM (az (r8 NR hr rfl (qa (dg (bf ["thing"] ["weights"] [2] rfl (by decide +kernel) (by decide +kernel) (by with_unfolding_all rfl) (by exact⟨rfl,trivial⟩) (by rfl) rfl (by rfl)) rfl (qi (aK (JH rfl) (by rfl) J.E1 boot_sorted (qa (af 2) aa))) (fun _ _ _ _=>(qx (i:=0) (show List.Nodup (["thing","weights"]:List Str) by decide +kernel))) (fun _ _ _ _=>(wF (aH (su 40 (uE hr)) (F7 (pU hr) (af 1) (af 0)) ah (aA _)))) (fun _ _ _ _=>(aP (qa (af 0) (qa (F7 (pU hr) (af 1) (af 0)) aa))))) (qa (af 1) aa))))))),fun ds S kk hc hd h=>?_⟩;obtain⟨d,l,m,rfl,h2,h3,h4⟩:=h;refine⟨_,rfl,Ub h2 fun G hG=>Ax pT (fun pre δ S'=>∃ x y dd,δ=[some d,some (.int m),some (.ob S.length),x,y]/\S'=S++[O.qC dd]/\yZ pre dd) ⟨_,_,_,rfl,rfl,.nil⟩ ?_ ?_⟩
 ·rintro pre ⟨x,v⟩ post δ S' N rfl ⟨x0,y0,dd,rfl,rfl,hz⟩ hN;refine⟨hG _,_,rfl,rfl,_,_,rfl,_,_,rfl,rfl,?_⟩;have hl:dd.length < sizeLine:=A4 (by have:=hz.len;simp at h3;omega);refine⟨_,rfl,_,_,rfl,aD,_,rfl,_,_,aD,rfl,_,rfl,?_⟩;rw[hz.val x];by_cases hx:x∈pre.map (·.1)
  ·rw[if_pos hx];refine⟨_,rfl,_,rfl,_,_,_,_,rfl,aD,rfl,rfl,hl,?_⟩;rw[cC];exact hN _ _ ⟨_,_,_,rfl,rfl,hz.snoc x v rfl⟩
  ·rw[if_neg hx];refine⟨_,rfl,_,rfl,_,_,_,_,rfl,aD,rfl,rfl,hl,?_⟩;rw[cC];exact hN _ _ ⟨_,_,_,rfl,rfl,hz.snoc x v (by rw[kN hx])⟩
 ·rintro δ S' ⟨x0,y0,dd,rfl,rfl,hz⟩;refine⟨hG _,?_⟩;obtain⟨ss,k1,k2,k3⟩:=hz.keys;refine⟨_,rfl,_,_,aD,k1,k2,by have:=hz.len;omega,?_⟩;rw[FW k3];have hsl:=rP (l.map (·.1));rw[List.length_map] at hsl;refine nq (yH T.str (fun x=>if wt l x≠0 then some (pT (x,wt l x)) else none) trivial (j4 (by omega)) ?_ ?_)
  ·intro x hx k' hk;have hv:iu dd (Sum.inr x)=some (.int (wt l x)):=by rw[hz.val x,if_pos (fO.mp hx)]
   refine⟨_,rfl,_,rfl,_,_,_,_,rfl,aD,rfl,hv,rfl,_,rfl,?_⟩;rw[jf,Bool.true_xor];by_cases hw:wt l x=0
   ·rw[decide_eq_true hw];rw[if_neg (by simpa using hw)] at hk;exact hk
   ·rw[decide_eq_false hw];rw[if_pos hw] at hk;exact⟨_,rfl,_,rfl,_,rfl,_,_,_,_,rfl,aD,rfl,hv,_,rfl,sz 2,_,rfl,hk⟩
  ·rw[RH];have hnl:=Nv l;exact⟨_,rfl,_,_,norm l,m,rfl,aD,rfl,by omega,made (Ss hc h4)⟩
noncomputable abbrev kZ:Stmt:=inClass (top 5) 7
theorem DI:au ["self"] ["self"] (ai kZ):=dM
theorem jJ (F:cj K "told" "Sum.told" kZ f fd)(J:Fx K mg A) :aN P w K mg base cG (k+1) f fd ["self"] (br K (wo A)):=by
 refine bD F DI fun cdv B outer s H E hr=>?_;rw[show ao kZ=[_] from rfl];refine⟨_,(bM (az (aP (qa (aO (af 0) rfl) (qa (aO (af 0) rfl) aa))))),fun ds S kk hc hd h=>?_⟩;obtain⟨a,rfl,h2⟩:=h;exact⟨_,rfl,_,_,_,_,rfl,rfl,_,rfl,_,_,_,_,rfl,rfl,_,rfl,sz 2,cF hc h2⟩
noncomputable abbrev fV:Stmt:=inClass (top 12) 0
theorem vF:au ["self","one","sign","other"] ["self","one","sign","other"] (ai fV):=dM
theorem vJ (F:cj K "__init__" "Compare.__init__" fV f fd)(J:Fx K mg A) :aN P w K mg base cG (k+1) f fd ["self","one","sign","other"] (br K (vc A.bF ["one","sign","other"])):=by
 refine CD F vF (fun ds S kk h=>by obtain⟨i,l,rfl,hl,h1,h4⟩:=h;simpa using hl) fun cdv B outer s H E hr=>?_;rw[show ao fV=[_,_,_] from rfl];refine⟨_,(qs (aZ (af 0) (af 1) rfl) (qs (aZ (af 0) (af 2) rfl) (bM (aZ (af 0) (af 3) rfl)))),fun ds S kk hc hd h=>?_⟩;obtain⟨i,l,rfl,hl,h1,h4⟩:=h;obtain⟨x0,x1,x2,rfl⟩:∃ x0 x1 x2,l=[x0,x1,x2]:=ln3 hl;have hz:=(List.getElem?_eq_some_iff.mp h1).1;refine⟨_,rfl,_,rfl,_,_,_,_,rfl,h1,J.fk,by decide,_,rfl,_,rfl,_,_,_,_,rfl,(List.getElem?_set_self (by first | exact hz | (simp only[List.length_set];exact hz))),J.eB,by decide,_,rfl,_,rfl,_,_,_,_,rfl,(List.getElem?_set_self (by first | exact hz | (simp only[List.length_set];exact hz))),J.dS,by decide,?_⟩;rw[List.set_set];rw[List.set_set];exact .inr (.inr (.inr h4))
noncomputable abbrev gH:Stmt:=inClass (top 13) 0
theorem xD:au ["self","condition"] ["self","condition"] (ai gH):=dM
theorem xZ (F:cj K "__init__" "Turned.__init__" gH f fd)(J:Fx K mg A) :aN P w K mg base cG (k+1) f fd ["self","condition"] (br K (vc A.cJ ["condition"])):=by
 refine CD F xD (fun ds S kk h=>by obtain⟨i,l,rfl,hl,h1,h4⟩:=h;simpa using hl) fun cdv B outer s H E hr=>?_;rw[show ao gH=[_] from rfl];refine⟨_,(bM (aZ (af 0) (af 1) rfl)),fun ds S kk hc hd h=>?_⟩;obtain⟨i,l,rfl,hl,h1,h4⟩:=h;obtain⟨x0,rfl⟩:∃ x0,l=[x0]:=ln1 hl;have hz:=(List.getElem?_eq_some_iff.mp h1).1;refine⟨_,rfl,_,rfl,_,_,_,_,rfl,h1,J.cM,by decide,?_⟩;exact .inr (.inr (.inr h4))
noncomputable abbrev lC:Stmt:=inClass (top 21) 0
theorem DN:au ["self","at","name","total"] ["self","at","name","total"] (ai lC):=dM
theorem D8 (F:cj K "__init__" "Let.__init__" lC f fd)(J:Fx K mg A)(bR:Cm P w K mg base k "Step" "__init__" ["self","at"] (rQ K)):aN P w K mg base cG (k+1) f fd ["self","at","name","total"] (br K (vc A.jm ["at","name","total"])):=by
 refine CD F DN (fun ds S kk h=>by obtain⟨i,l,rfl,hl,h1,h4⟩:=h;simpa using hl) fun cdv B outer s H E hr=>?_;rw[show ao lC=[_,_,_] from rfl];refine⟨_,(qs (cD (qp bR hr rfl (qa (af 0) (qa (af 1) aa)))) (qs (aZ (af 0) (af 2) rfl) (bM (aZ (af 0) (af 3) rfl)))),fun ds S kk hc hd h=>?_⟩;obtain⟨i,l,rfl,hl,h1,h4⟩:=h;obtain⟨x0,x1,x2,rfl⟩:∃ x0 x1 x2,l=[x0,x1,x2]:=ln3 hl;have hz:=(List.getElem?_eq_some_iff.mp h1).1;refine⟨_,rfl,_,rfl,_,_,_,rfl,h1,J.m6,_,rfl,_,rfl,_,_,_,_,rfl,(List.getElem?_set_self (by first | exact hz | (simp only[List.length_set];exact hz))),J.jb,by decide,_,rfl,_,rfl,_,_,_,_,rfl,(List.getElem?_set_self (by first | exact hz | (simp only[List.length_set];exact hz))),J.gY,by decide,?_⟩;rw[List.set_set];rw[List.set_set];exact .inr (.inr (.inr h4))
noncomputable abbrev gM:Stmt:=inClass (top 22) 0
theorem xH:au ["self","at","name","word","total","by"] ["self","at","name","word","total","by"] (ai gM):=dM
theorem x8 (F:cj K "__init__" "Divide.__init__" gM f fd)(J:Fx K mg A)(bR:Cm P w K mg base k "Step" "__init__" ["self","at"] (rQ K)):aN P w K mg base cG (k+1) f fd ["self","at","name","word","total","by"] (br K (vc A.bH ["at","name","word","total","by"])):=by
 refine CD F xH (fun ds S kk h=>by obtain⟨i,l,rfl,hl,h1,h4⟩:=h;simpa using hl) fun cdv B outer s H E hr=>?_;rw[show ao gM=[_,_,_,_,_] from rfl];refine⟨_,(qs (cD (qp bR hr rfl (qa (af 0) (qa (af 1) aa)))) (qs (aZ (af 0) (af 2) rfl) (qs (aZ (af 0) (af 3) rfl) (qs (aZ (af 0) (af 4) rfl) (bM (aZ (af 0) (af 5) rfl)))))),fun ds S kk hc hd h=>?_⟩;obtain⟨i,l,rfl,hl,h1,h4⟩:=h;obtain⟨x0,x1,x2,x3,x4,rfl⟩:∃ x0 x1 x2 x3 x4,l=[x0,x1,x2,x3,x4]:=ln5 hl;have hz:=(List.getElem?_eq_some_iff.mp h1).1;refine⟨_,rfl,_,rfl,_,_,_,rfl,h1,J.g9,_,rfl,_,rfl,_,_,_,_,rfl,(List.getElem?_set_self (by first | exact hz | (simp only[List.length_set];exact hz))),J.fj,by decide,_,rfl,_,rfl,_,_,_,_,rfl,(List.getElem?_set_self (by first | exact hz | (simp only[List.length_set];exact hz))),J.fh,by decide,_,rfl,_,rfl,_,_,_,_,rfl,(List.getElem?_set_self (by first | exact hz | (simp only[List.length_set];exact hz))),J.ez,by decide,_,rfl,_,rfl,_,_,_,_,rfl,(List.getElem?_set_self (by first | exact hz | (simp only[List.length_set];exact hz))),J.g8,by decide,?_⟩;rw[List.set_set];rw[List.set_set];rw[List.set_set];rw[List.set_set];exact .inr (.inr (.inr h4))
noncomputable abbrev iE:Stmt:=inClass (top 23) 0
theorem zG:au ["self","at","name","row","place"] ["self","at","name","row","place"] (ai iE):=dM
theorem zM (F:cj K "__init__" "Fetch.__init__" iE f fd)(J:Fx K mg A)(bR:Cm P w K mg base k "Step" "__init__" ["self","at"] (rQ K)):aN P w K mg base cG (k+1) f fd ["self","at","name","row","place"] (br K (vc A.cO ["at","name","row","place"])):=by
 refine CD F zG (fun ds S kk h=>by obtain⟨i,l,rfl,hl,h1,h4⟩:=h;simpa using hl) fun cdv B outer s H E hr=>?_;rw[show ao iE=[_,_,_,_] from rfl];refine⟨_,(qs (cD (qp bR hr rfl (qa (af 0) (qa (af 1) aa)))) (qs (aZ (af 0) (af 2) rfl) (qs (aZ (af 0) (af 3) rfl) (bM (aZ (af 0) (af 4) rfl))))),fun ds S kk hc hd h=>?_⟩;obtain⟨i,l,rfl,hl,h1,h4⟩:=h;obtain⟨x0,x1,x2,x3,rfl⟩:∃ x0 x1 x2 x3,l=[x0,x1,x2,x3]:=ln4 hl;have hz:=(List.getElem?_eq_some_iff.mp h1).1;refine⟨_,rfl,_,rfl,_,_,_,rfl,h1,J.jc,_,rfl,_,rfl,_,_,_,_,rfl,(List.getElem?_set_self (by first | exact hz | (simp only[List.length_set];exact hz))),J.fY,by decide,_,rfl,_,rfl,_,_,_,_,rfl,(List.getElem?_set_self (by first | exact hz | (simp only[List.length_set];exact hz))),J.g7,by decide,_,rfl,_,rfl,_,_,_,_,rfl,(List.getElem?_set_self (by first | exact hz | (simp only[List.length_set];exact hz))),J.ff,by decide,?_⟩;rw[List.set_set];rw[List.set_set];rw[List.set_set];exact .inr (.inr (.inr h4))
noncomputable abbrev lA:Stmt:=inClass (top 24) 0
theorem DL:au ["self","at","row","place","total"] ["self","at","row","place","total"] (ai lA):=dM
theorem D7 (F:cj K "__init__" "Put.__init__" lA f fd)(J:Fx K mg A)(bR:Cm P w K mg base k "Step" "__init__" ["self","at"] (rQ K)):aN P w K mg base cG (k+1) f fd ["self","at","row","place","total"] (br K (vc A.jk ["at","row","place","total"])):=by
 refine CD F DL (fun ds S kk h=>by obtain⟨i,l,rfl,hl,h1,h4⟩:=h;simpa using hl) fun cdv B outer s H E hr=>?_;rw[show ao lA=[_,_,_,_] from rfl];refine⟨_,(qs (cD (qp bR hr rfl (qa (af 0) (qa (af 1) aa)))) (qs (aZ (af 0) (af 2) rfl) (qs (aZ (af 0) (af 3) rfl) (bM (aZ (af 0) (af 4) rfl))))),fun ds S kk hc hd h=>?_⟩;obtain⟨i,l,rfl,hl,h1,h4⟩:=h;obtain⟨x0,x1,x2,x3,rfl⟩:∃ x0 x1 x2 x3,l=[x0,x1,x2,x3]:=ln4 hl;have hz:=(List.getElem?_eq_some_iff.mp h1).1;refine⟨_,rfl,_,rfl,_,_,_,rfl,h1,J.m5,_,rfl,_,rfl,_,_,_,_,rfl,(List.getElem?_set_self (by first | exact hz | (simp only[List.length_set];exact hz))),J.ku,by decide,_,rfl,_,rfl,_,_,_,_,rfl,(List.getElem?_set_self (by first | exact hz | (simp only[List.length_set];exact hz))),J.gW,by decide,_,rfl,_,rfl,_,_,_,_,rfl,(List.getElem?_set_self (by first | exact hz | (simp only[List.length_set];exact hz))),J.gU,by decide,?_⟩;rw[List.set_set];rw[List.set_set];rw[List.set_set];exact .inr (.inr (.inr h4))
noncomputable abbrev jF:Stmt:=inClass (top 25) 0
theorem Br:au ["self","at","row","size"] ["self","at","row","size"] (ai jF):=dM
theorem Cf (F:cj K "__init__" "Make.__init__" jF f fd)(J:Fx K mg A)(bR:Cm P w K mg base k "Step" "__init__" ["self","at"] (rQ K)):aN P w K mg base cG (k+1) f fd ["self","at","row","size"] (br K (vc A.fE ["at","row","size"])):=by
 refine CD F Br (fun ds S kk h=>by obtain⟨i,l,rfl,hl,h1,h4⟩:=h;simpa using hl) fun cdv B outer s H E hr=>?_;rw[show ao jF=[_,_,_] from rfl];refine⟨_,(qs (cD (qp bR hr rfl (qa (af 0) (qa (af 1) aa)))) (qs (aZ (af 0) (af 2) rfl) (bM (aZ (af 0) (af 3) rfl)))),fun ds S kk hc hd h=>?_⟩;obtain⟨i,l,rfl,hl,h1,h4⟩:=h;obtain⟨x0,x1,x2,rfl⟩:∃ x0 x1 x2,l=[x0,x1,x2]:=ln3 hl;have hz:=(List.getElem?_eq_some_iff.mp h1).1;refine⟨_,rfl,_,rfl,_,_,_,rfl,h1,J.kB,_,rfl,_,rfl,_,_,_,_,rfl,(List.getElem?_set_self (by first | exact hz | (simp only[List.length_set];exact hz))),J.ja,by decide,_,rfl,_,rfl,_,_,_,_,rfl,(List.getElem?_set_self (by first | exact hz | (simp only[List.length_set];exact hz))),J.gX,by decide,?_⟩;rw[List.set_set];rw[List.set_set];exact .inr (.inr (.inr h4))
noncomputable abbrev iI:Stmt:=inClass (top 26) 0
theorem zJ:au ["self","at","condition"] ["self","at","condition"] (ai iI):=dM
theorem zN (F:cj K "__init__" "Claim.__init__" iI f fd)(J:Fx K mg A)(bR:Cm P w K mg base k "Step" "__init__" ["self","at"] (rQ K)):aN P w K mg base cG (k+1) f fd ["self","at","condition"] (br K (vc A.dN ["at","condition"])):=by
 refine CD F zJ (fun ds S kk h=>by obtain⟨i,l,rfl,hl,h1,h4⟩:=h;simpa using hl) fun cdv B outer s H E hr=>?_;rw[show ao iI=[_,_] from rfl];refine⟨_,(qs (cD (qp bR hr rfl (qa (af 0) (qa (af 1) aa)))) (bM (aZ (af 0) (af 2) rfl))),fun ds S kk hc hd h=>?_⟩;obtain⟨i,l,rfl,hl,h1,h4⟩:=h;obtain⟨x0,x1,rfl⟩:∃ x0 x1,l=[x0,x1]:=ln2 hl;have hz:=(List.getElem?_eq_some_iff.mp h1).1;refine⟨_,rfl,_,rfl,_,_,_,rfl,h1,J.jd,_,rfl,_,rfl,_,_,_,_,rfl,(List.getElem?_set_self (by first | exact hz | (simp only[List.length_set];exact hz))),J.cT,by decide,?_⟩;rw[List.set_set];exact .inr (.inr (.inr h4))
noncomputable abbrev jC:Stmt:=inClass (top 20) 0
theorem Bo:au ["self","at"] ["self","at"] (ai jC):=dM
theorem Ce (F:cj K "__init__" "Step.__init__" jC f fd)(J:Fx K mg A) :aN P w K mg base cG (k+1) f fd ["self","at"] (br K (rQ K)):=by
 refine bD F Bo fun cdv B outer s H E hr=>?_;rw[show ao jC=[_] from rfl];refine⟨_,(bM (aZ (af 0) (af 1) rfl)),fun ds S kk hc hd h=>?_⟩;obtain⟨i,x,C,rfl,h1,h2,h4⟩:=h;refine⟨_,rfl,_,rfl,_,_,_,_,rfl,h1,h2,by decide,.inr (.inr (.inr h4))⟩
noncomputable abbrev fR:Stmt:=inClass (top 14) 0
theorem vB:au ["self","conditions"] ["self","conditions"] (ai fR):=dM
theorem lU {C:Addr}(hn:aM K C "conditions")(F:cj K "__init__" "Several.__init__" fR f fd)(J:Fx K mg A) :aN P w K mg base cG (k+1) f fd ["self","conditions"] (br K (xu C)):=by
 refine bD F vB fun cdv B outer s H E hr=>?_;rw[show ao fR=[_] from rfl];refine⟨_,(bM (aZ (af 0) (aU cy (by rfl) J.b7 boot_tuple (qa (af 1) aa)) rfl)),fun ds S kk hc hd h=>?_⟩;obtain⟨i,d,l,rfl,h1,h2,h4⟩:=h;refine⟨_,rfl,_,w4 h2,_,rfl,_,_,_,_,rfl,h1,hn,by decide,.inr (.inr (.inr h4))⟩
noncomputable abbrev jH:Stmt:=inClass (top 29) 0
theorem Bt:au ["self","at","names","helper","given"] ["self","at","names","helper","given"] (ai jH):=dM
theorem Cg (F:cj K "__init__" "Call.__init__" jH f fd)(J:Fx K mg A)(bR:Cm P w K mg base k "Step" "__init__" ["self","at"] (rQ K)):aN P w K mg base cG (k+1) f fd ["self","at","names","helper","given"] (br K (Io A)):=by
 refine bD F Bt fun cdv B outer s H E hr=>?_;rw[show ao jH=[_,_,_,_] from rfl];refine⟨_,(qs (cD (qp bR hr rfl (qa (af 0) (qa (af 1) aa)))) (qs (aZ (af 0) (aU cy (by rfl) J.b7 boot_tuple (qa (af 2) aa)) rfl) (qs (aZ (af 0) (af 3) rfl) (bM (aZ (af 0) (aU cy (by rfl) J.b7 boot_tuple (qa (af 4) aa)) rfl))))),fun ds S kk hc hd h=>?_⟩;obtain⟨i,a,d1,d2,ns,hp,g,rfl,h1,e1,e2,hk⟩:=h;have hz:=(List.getElem?_eq_some_iff.mp h1).1;refine⟨_,rfl,_,rfl,_,_,_,rfl,h1,J.kC,_,rfl,_,w4 (p8 h1 e1),_,rfl,_,_,_,_,rfl,ou hz,J.fZ,by decide,?_⟩;rw[List.set_set];refine⟨_,rfl,_,rfl,_,_,_,_,rfl,ou hz,J.fq,by decide,?_⟩;rw[List.set_set];refine⟨_,rfl,_,w4 (p8 h1 e2),_,rfl,_,_,_,_,rfl,ou hz,J.gb,by decide,?_⟩;rw[List.set_set];exact .inr (.inr (.inr hk))
noncomputable abbrev gJ:Stmt:=inClass (top 34) 0
theorem xF:au ["self","at","name","params","answers","needs","gives","steps"] ["self","at","name","params","answers","needs","gives","steps"] (ai gJ):=dM
theorem x6 (F:cj K "__init__" "Helper.__init__" gJ f fd)(J:Fx K mg A)(yO:C7 P w K mg base k A):aN P w K mg base cG (k+1) f fd ["self","at","name","params","answers","needs","gives","steps"] (br K (My A)):=by
 refine bD F xF fun cdv B outer s H E hr=>?_;rw[show ao gJ=[_,_,_,_,_,_,_] from rfl];refine⟨_,(qs (aZ (af 0) (af 1) rfl) (qs (aZ (af 0) (af 2) rfl) (qs (aZ (af 0) (aU cy (by rfl) J.b7 boot_tuple (qa (af 3) aa)) rfl) (qs (aZ (af 0) (aU cy (by rfl) J.b7 boot_tuple (qa (af 4) aa)) rfl) (qs (aZ (af 0) (aj yO hr rfl (qa (af 5) aa)) rfl) (qs (aZ (af 0) (aj yO hr rfl (qa (af 6) aa)) rfl) (bM (aZ (af 0) (aU cy (by rfl) J.b7 boot_tuple (qa (af 7) aa)) rfl)))))))),fun ds S kk hc hd h=>?_⟩;obtain⟨i,d1,d2,d3,d4,d5,h,rfl,h1,e1,e2,e3,e4,e5,l3,l4,hk⟩:=h;have hz:=(List.getElem?_eq_some_iff.mp h1).1;refine⟨_,rfl,_,rfl,_,_,_,_,rfl,h1,J.gZ,by decide,_,rfl,_,rfl,_,_,_,_,rfl,ou hz,J.e9,by decide,?_⟩;rw[List.set_set];refine⟨_,rfl,_,w4 (p8 h1 e1),_,rfl,_,_,_,_,rfl,ou hz,J.dR,by decide,?_⟩;rw[List.set_set];refine⟨_,rfl,_,w4 (p8 h1 e2),_,rfl,_,_,_,_,rfl,ou hz,J.di,by decide,?_⟩;rw[List.set_set];refine⟨_,rfl,_,_,rfl,p8 h1 e3,l3,_,rfl,_,_,_,_,rfl,ou hz,J.d9,by decide,?_⟩;rw[List.set_set];refine⟨_,rfl,_,_,rfl,p8 h1 e4,l4,_,rfl,_,_,_,_,rfl,ou hz,J.er,by decide,?_⟩;rw[List.set_set];refine⟨_,rfl,_,w4 (p8 h1 e5),_,rfl,_,_,_,_,rfl,ou hz,J.d8,by decide,?_⟩;rw[List.set_set];exact .inr (.inr (.inr hk))
noncomputable abbrev fT:Stmt:=inClass (top 35) 0
theorem vD:au ["self","helpers"] ["self","helpers"] (ai fT):=dM
theorem vI (F:cj K "__init__" "Program.__init__" fT f fd)(J:Fx K mg A) :aN P w K mg base cG (k+1) f fd ["self","helpers"] (br K (Mu A)):=by
 refine bD F vD fun cdv B outer s H E hr=>?_;rw[show ao fT=[_] from rfl];refine⟨_,(bM (aZ (af 0) (aU cy (by rfl) J.b7 boot_tuple (qa (af 1) aa)) rfl)),fun ds S kk hc hd h=>?_⟩;obtain⟨i,d,hs,rfl,h1,e1,hk⟩:=h;exact⟨_,rfl,_,w4 e1,_,rfl,_,_,_,_,rfl,h1,J.cS,by decide,.inr (.inr (.inr hk))⟩
noncomputable abbrev kY:Stmt:=top 30
theorem DH:au ["pairs"] ["pairs"] (ai kY):=dM
theorem D5 (F:cj K "as_pairs" "as_pairs" kY f fd)(J:Fx K mg A) :aN P w K mg base cG (k+1) f fd ["pairs"] (br K (Ij A)):=by
 refine bD F DH fun cdv B outer s H E hr=>?_;rw[show ao kY=[_] from rfl];refine⟨_,(bM (az (aU cy (by rfl) J.b7 boot_tuple (qa (dg (bf ["pair"] [] [] rfl (by decide +kernel) (by decide +kernel) (by with_unfolding_all rfl) (by exact trivial) (by rfl) rfl (by rfl)) rfl (qi (af 0)) (fun _ _ _ _=>(qx (i:=0) (show List.Nodup (["pair"]:List Str) by decide +kernel))) (fun _ _ _ _=>cI) (fun _ _ _ _=>(aU cy (by rfl) J.b7 boot_tuple (qa (af 0) aa)))) aa)))),fun ds S kk hc hd h=>?_⟩;obtain⟨d,l,rfl,h1,h2,h⟩:=h;exact⟨_,rfl,N2 h1 fun G hG=>gi (atT A) (atT A) (by simpa using hG []) (j4 (by omega)) (fun x _ k' hk=>⟨_,rfl,_,rfl,_,rfl,hk⟩) ⟨_,rfl,cF hc h⟩⟩
noncomputable abbrev iC:Stmt:=top 32
theorem zE:au ["pairs"] ["pairs"] (ai iC):=dM
theorem zL (F:cj K "told_pairs" "told_pairs" iC f fd)(J:Fx K mg A)(gc:Ms P w K mg base k 4 (Fw A) "told" ["self"] (fG A 3)):aN P w K mg base cG (k+1) f fd ["pairs"] (br K (Ie A)):=by
 refine bD F zE fun cdv B outer s H E hr=>?_;rw[show ao iC=[_] from rfl];refine⟨_,(bM (az (aU cy (by rfl) J.b7 boot_tuple (qa (dg (bf ["at","condition"] [] [] rfl (by decide +kernel) (by decide +kernel) (by with_unfolding_all rfl) (by exact trivial) (by rfl) rfl (by rfl)) rfl (qi (af 0)) (fun _ _ _ _=>(Vx (n:=2) rfl (qxs (qx (i:=0) (show List.Nodup (["at","condition"]:List Str) by decide +kernel)) (qxs (qx (i:=1) (show List.Nodup (["at","condition"]:List Str) by decide +kernel)) Qp)))) (fun _ _ _ _=>cI) (fun _ _ _ _=>(aP (qa (af 0) (qa (aR (af 1) gc hr) aa))))) aa)))),fun ds S kk hc hd h=>?_⟩;obtain⟨l,rfl,h1,h2,h⟩:=h;refine⟨_,rfl,sJ (gi (atT A) XF trivial (j4 (by omega)) (fun x hx k' hk=>?_) ⟨_,rfl,cF hc h⟩)⟩;obtain⟨ns,l,i1,i2,_⟩:=Em A S x.2;have hx:=h2 x hx;exact⟨_,rfl,rfl,_,_,rfl,_,_,rfl,rfl,_,rfl,_,rfl,Dh x.2,ns,l,qe x.2,i1,i2,x.2,rfl,rfl,hx.dep,by have:=hx.sz;omega,_,rfl,sz 2,_,rfl,hk⟩
noncomputable abbrev jz:Stmt:=top 31
theorem Bg:au ["parts"] ["parts"] (ai jz):=dM
theorem iJ (F:cj K "told_each" "told_each" jz f fd)(J:Fx K mg A)(NH:Hi P w K mg base k A n):aN P w K mg base cG (k+1) f fd ["parts"] (br K (xr A n)):=by
 refine bD F Bg fun cdv B outer s H E hr=>?_;rw[show ao jz=[_] from rfl];refine⟨_,(bM (az (aU cy (by rfl) J.b7 boot_tuple (qa (dg (bf ["part"] [] [] rfl (by decide +kernel) (by decide +kernel) (by with_unfolding_all rfl) (by exact trivial) (by rfl) rfl (by rfl)) rfl (qi (af 0)) (fun _ _ _ _=>(qx (i:=0) (show List.Nodup (["part"]:List Str) by decide +kernel))) (fun _ _ _ _=>cI) (fun _ _ _ _=>(aR (af 0) NH hr))) aa)))),fun ds S kk hc hd h=>?_⟩;obtain⟨l,rfl,h1,h2,h⟩:=h;refine⟨_,rfl,sJ (gi (fun p:T×T=>p.1) (fun p=>p.2) trivial (j4 (by omega)) (fun x hx k' hk=>?_) ⟨_,rfl,cF hc h⟩)⟩;obtain⟨j,tx⟩:=h2 x hx;obtain⟨ns,l,i1,i2,i3⟩:=W0 A S tx;exact⟨_,rfl,j,ns,l,i3,i1,i2,x.1,x.2,rfl,tx,_,rfl,hk⟩
noncomputable abbrev fU:Stmt:=inClass (top 12) 4
theorem vE:au ["self"] ["self"] (ai fU):=dM
theorem ir (F:cj K "told" "Compare.told" fU f fd)(J:Fx K mg A)(cU:gD P w K mg base k A):aN P w K mg base cG (k+1) f fd ["self"] (br K (fG A (n+1) 0)):=by
 refine bD F vE fun cdv B outer s H E hr=>?_;rw[show ao fU=[_] from rfl];refine⟨_,(bM (az (aP (qa aq (qa (aR (aO (af 0) rfl) cU hr) (qa (aO (af 0) rfl) (qa (aR (aO (af 0) rfl) cU hr) aa))))))),fun ds S kk hc hd h=>?_⟩;obtain⟨c,rfl,hj,hn,hs,h⟩:=h;cases c with
 | cmp a s b =>
  unfold jK;exact⟨_,rfl,_,_,_,_,rfl,rfl,0,_,_,by decide,rfl,by decide +kernel,a,rfl,_,rfl,_,_,_,_,rfl,rfl,_,rfl,_,_,_,_,rfl,rfl,0,_,_,by decide,rfl,by decide +kernel,b,rfl,_,rfl,sz 4,cF hc (by unfold mz at h;exact h)⟩
 | neg c=>cases hj
 | con q cs=>cases q <;> cases hj
noncomputable abbrev gG:Stmt:=inClass (top 13) 4
theorem xC:au ["self"] ["self"] (ai gG):=dM
theorem iZ (F:cj K "told" "Turned.told" gG f fd)(J:Fx K mg A)(gc:qP P w K mg base k A n):aN P w K mg base cG (k+1) f fd ["self"] (br K (fG A (n+1) 1)):=by
 refine bD F xC fun cdv B outer s H E hr=>?_;rw[show ao gG=[_] from rfl];refine⟨_,(bM (az (aP (qa aq (qa (aR (aO (af 0) rfl) gc hr) aa))))),fun ds S kk hc hd h=>?_⟩;obtain⟨c,rfl,hj,hn,hs,h⟩:=h;cases c with
 | cmp a s b=>cases hj
 | neg c =>
  unfold dF.dep at hn;unfold dF.sz at hs;obtain⟨ns,l,i1,i2,_⟩:=Em A S c;unfold jK;exact⟨_,rfl,_,_,_,_,rfl,rfl,Dh c,ns,l,qe c,i1,i2,c,rfl,rfl,by omega,by omega,_,rfl,sz 2,cF hc (by unfold mz at h;exact h)⟩
 | con q cs=>cases q <;> cases hj
noncomputable abbrev iG:Stmt:=inClass (top 15) 2
theorem zH:au ["self"] ["self"] (ai iG):=dM
theorem jR (F:cj K "told" "Every.told" iG f fd)(J:Fx K mg A)(gc:qP P w K mg base k A n):aN P w K mg base cG (k+1) f fd ["self"] (br K (fG A (n+1) 2)):=by
 refine bD F zH fun cdv B outer s H E hr=>?_;rw[show ao iG=[_] from rfl];refine⟨_,(bM (az (aJ aG (aP (qa aq aa)) (aU cy (by rfl) J.b7 boot_tuple (qa (dg (bf ["condition"] [] [] rfl (by decide +kernel) (by decide +kernel) (by with_unfolding_all rfl) (by exact trivial) (by rfl) rfl (by rfl)) rfl (qi (aO (af 0) rfl)) (fun _ _ _ _=>(qx (i:=0) (show List.Nodup (["condition"]:List Str) by decide +kernel))) (fun _ _ _ _=>cI) (fun _ _ _ _=>(aR (af 0) gc hr))) aa))))),fun ds S kk hc hd h=>?_⟩;obtain⟨c,rfl,hj,hn,hs,h⟩:=h;cases c with
 | cmp a s b=>cases hj
 | neg c=>cases hj
 | con q cs =>
  cases q with
  | false=>cases hj
  | true =>
   unfold dF.dep at hn;unfold dF.sz at hs;have hl:=A3 cs;unfold jK;rw[tD];refine⟨_,rfl,sz 1,_,rfl,_,_,_,_,rfl,rfl,sJ (gi (jK A) mz trivial (j4 (by omega)) (fun c Ue k' hk=>?_) ?_)⟩
   ·have h1:=s8 Ue;have h2:=FP Ue;obtain⟨ns,l,i1,i2,_⟩:=Em A S c;exact⟨_,rfl,Dh c,ns,l,qe c,i1,i2,c,rfl,rfl,by omega,by omega,_,rfl,hk⟩
   ·refine⟨_,rfl,j4 (by simp;omega),cF hc ?_⟩;unfold mz at h;rw[tE] at h;exact h
noncomputable abbrev jD:Stmt:=inClass (top 16) 2
theorem Bp:au ["self"] ["self"] (ai jD):=dM
theorem lG (F:cj K "told" "Some.told" jD f fd)(J:Fx K mg A)(gc:qP P w K mg base k A n):aN P w K mg base cG (k+1) f fd ["self"] (br K (fG A (n+1) 3)):=by
 refine bD F Bp fun cdv B outer s H E hr=>?_;rw[show ao jD=[_] from rfl];refine⟨_,(bM (az (aJ aG (aP (qa aq aa)) (aU cy (by rfl) J.b7 boot_tuple (qa (dg (bf ["condition"] [] [] rfl (by decide +kernel) (by decide +kernel) (by with_unfolding_all rfl) (by exact trivial) (by rfl) rfl (by rfl)) rfl (qi (aO (af 0) rfl)) (fun _ _ _ _=>(qx (i:=0) (show List.Nodup (["condition"]:List Str) by decide +kernel))) (fun _ _ _ _=>cI) (fun _ _ _ _=>(aR (af 0) gc hr))) aa))))),fun ds S kk hc hd h=>?_⟩;obtain⟨c,rfl,hj,hn,hs,h⟩:=h;cases c with
 | cmp a s b=>cases hj
 | neg c=>cases hj
 | con q cs =>
  cases q with
  | true=>cases hj
  | false =>
   unfold dF.dep at hn;unfold dF.sz at hs;have hl:=A3 cs;unfold jK;rw[tD];refine⟨_,rfl,sz 1,_,rfl,_,_,_,_,rfl,rfl,sJ (gi (jK A) mz trivial (j4 (by omega)) (fun c Ue k' hk=>?_) ?_)⟩
   ·have h1:=s8 Ue;have h2:=FP Ue;obtain⟨ns,l,i1,i2,_⟩:=Em A S c;exact⟨_,rfl,Dh c,ns,l,qe c,i1,i2,c,rfl,rfl,by omega,by omega,_,rfl,hk⟩
   ·refine⟨_,rfl,j4 (by simp;omega),cF hc ?_⟩;unfold mz at h;rw[tE] at h;exact h
noncomputable abbrev lB:Stmt:=inClass (top 21) 1
theorem DM:au ["self"] ["self"] (ai lB):=dM
theorem mV (F:cj K "told" "Let.told" lB f fd)(J:Fx K mg A)(cU:gD P w K mg base k A):aN P w K mg base cG (k+1) f fd ["self"] (br K (jy A n 0)):=by
 refine bD F DM fun cdv B outer s H E hr=>?_;rw[show ao lB=[_] from rfl];refine⟨_,(bM (az (aP (qa aq (qa (aO (af 0) rfl) (qa (aO (af 0) rfl) (qa (aR (aO (af 0) rfl) cU hr) aa))))))),fun ds S kk hc hd h=>?_⟩;obtain⟨s,rfl,hj,hg,hd2,h⟩:=h;cases s with
 | lt a x s =>
  unfold oJ at h;unfold ud;refine⟨_,rfl,_,_,_,_,rfl,rfl,_,rfl,_,_,_,_,rfl,rfl,_,rfl,_,_,_,_,rfl,rfl,0,_,_,by decide,rfl,by decide +kernel,s,rfl,_,rfl,sz 4,cF hc h⟩
 | dv a x wd s b=>cases hj
 | ft a x r p=>cases hj
 | pt a r p s=>cases hj
 | mq a r z=>cases hj
 | cm a c=>cases hj
 | cl a ns hp g=>cases hj
 | ch a c t e=>cases hj
 | rp a c hs f b=>cases hj
noncomputable abbrev gK:Stmt:=inClass (top 22) 1
theorem xG:au ["self"] ["self"] (ai gK):=dM
theorem i9 (F:cj K "told" "Divide.told" gK f fd)(J:Fx K mg A)(cU:gD P w K mg base k A):aN P w K mg base cG (k+1) f fd ["self"] (br K (jy A n 1)):=by
 refine bD F xG fun cdv B outer s H E hr=>?_;rw[show ao gK=[_] from rfl];refine⟨_,(bM (az (aP (qa aq (qa (aO (af 0) rfl) (qa (aO (af 0) rfl) (qa (aO (af 0) rfl) (qa (aR (aO (af 0) rfl) cU hr) (qa (aR (aO (af 0) rfl) cU hr) aa))))))))),fun ds S kk hc hd h=>?_⟩;obtain⟨s,rfl,hj,hg,hd2,h⟩:=h;cases s with
 | lt a x s=>cases hj
 | dv a x wd s b =>
  unfold oJ at h;unfold ud;refine⟨_,rfl,_,_,_,_,rfl,rfl,_,rfl,_,_,_,_,rfl,rfl,_,rfl,_,_,_,_,rfl,rfl,_,rfl,_,_,_,_,rfl,rfl,0,_,_,by decide,rfl,by decide +kernel,s,rfl,_,rfl,_,_,_,_,rfl,rfl,0,_,_,by decide,rfl,by decide +kernel,b,rfl,_,rfl,sz 6,cF hc h⟩
 | ft a x r p=>cases hj
 | pt a r p s=>cases hj
 | mq a r z=>cases hj
 | cm a c=>cases hj
 | cl a ns hp g=>cases hj
 | ch a c t e=>cases hj
 | rp a c hs f b=>cases hj
noncomputable abbrev iD:Stmt:=inClass (top 23) 1
theorem zF:au ["self"] ["self"] (ai iD):=dM
theorem jQ (F:cj K "told" "Fetch.told" iD f fd)(J:Fx K mg A)(cU:gD P w K mg base k A):aN P w K mg base cG (k+1) f fd ["self"] (br K (jy A n 2)):=by
 refine bD F zF fun cdv B outer s H E hr=>?_;rw[show ao iD=[_] from rfl];refine⟨_,(bM (az (aP (qa aq (qa (aO (af 0) rfl) (qa (aO (af 0) rfl) (qa (aO (af 0) rfl) (qa (aR (aO (af 0) rfl) cU hr) aa)))))))),fun ds S kk hc hd h=>?_⟩;obtain⟨s,rfl,hj,hg,hd2,h⟩:=h;cases s with
 | lt a x s=>cases hj
 | dv a x wd s b=>cases hj
 | ft a x r p =>
  unfold oJ at h;unfold ud;refine⟨_,rfl,_,_,_,_,rfl,rfl,_,rfl,_,_,_,_,rfl,rfl,_,rfl,_,_,_,_,rfl,rfl,_,rfl,_,_,_,_,rfl,rfl,0,_,_,by decide,rfl,by decide +kernel,p,rfl,_,rfl,sz 5,cF hc h⟩
 | pt a r p s=>cases hj
 | mq a r z=>cases hj
 | cm a c=>cases hj
 | cl a ns hp g=>cases hj
 | ch a c t e=>cases hj
 | rp a c hs f b=>cases hj
noncomputable abbrev k9:Stmt:=inClass (top 24) 1
theorem DK:au ["self"] ["self"] (ai k9):=dM
theorem mU (F:cj K "told" "Put.told" k9 f fd)(J:Fx K mg A)(cU:gD P w K mg base k A):aN P w K mg base cG (k+1) f fd ["self"] (br K (jy A n 3)):=by
 refine bD F DK fun cdv B outer s H E hr=>?_;rw[show ao k9=[_] from rfl];refine⟨_,(bM (az (aP (qa aq (qa (aO (af 0) rfl) (qa (aO (af 0) rfl) (qa (aR (aO (af 0) rfl) cU hr) (qa (aR (aO (af 0) rfl) cU hr) aa)))))))),fun ds S kk hc hd h=>?_⟩;obtain⟨s,rfl,hj,hg,hd2,h⟩:=h;cases s with
 | lt a x s=>cases hj
 | dv a x wd s b=>cases hj
 | ft a x r p=>cases hj
 | pt a r p s =>
  unfold oJ at h;unfold ud;refine⟨_,rfl,_,_,_,_,rfl,rfl,_,rfl,_,_,_,_,rfl,rfl,_,rfl,_,_,_,_,rfl,rfl,0,_,_,by decide,rfl,by decide +kernel,p,rfl,_,rfl,_,_,_,_,rfl,rfl,0,_,_,by decide,rfl,by decide +kernel,s,rfl,_,rfl,sz 5,cF hc h⟩
 | mq a r z=>cases hj
 | cm a c=>cases hj
 | cl a ns hp g=>cases hj
 | ch a c t e=>cases hj
 | rp a c hs f b=>cases hj
noncomputable abbrev jE:Stmt:=inClass (top 25) 1
theorem Bq:au ["self"] ["self"] (ai jE):=dM
theorem lH (F:cj K "told" "Make.told" jE f fd)(J:Fx K mg A)(cU:gD P w K mg base k A):aN P w K mg base cG (k+1) f fd ["self"] (br K (jy A n 4)):=by
 refine bD F Bq fun cdv B outer s H E hr=>?_;rw[show ao jE=[_] from rfl];refine⟨_,(bM (az (aP (qa aq (qa (aO (af 0) rfl) (qa (aO (af 0) rfl) (qa (aR (aO (af 0) rfl) cU hr) aa))))))),fun ds S kk hc hd h=>?_⟩;obtain⟨s,rfl,hj,hg,hd2,h⟩:=h;cases s with
 | lt a x s=>cases hj
 | dv a x wd s b=>cases hj
 | ft a x r p=>cases hj
 | pt a r p s=>cases hj
 | mq a r z =>
  unfold oJ at h;unfold ud;refine⟨_,rfl,_,_,_,_,rfl,rfl,_,rfl,_,_,_,_,rfl,rfl,_,rfl,_,_,_,_,rfl,rfl,0,_,_,by decide,rfl,by decide +kernel,z,rfl,_,rfl,sz 4,cF hc h⟩
 | cm a c=>cases hj
 | cl a ns hp g=>cases hj
 | ch a c t e=>cases hj
 | rp a c hs f b=>cases hj
noncomputable abbrev iH:Stmt:=inClass (top 26) 1
theorem zI:au ["self"] ["self"] (ai iH):=dM
theorem jS (F:cj K "told" "Claim.told" iH f fd)(J:Fx K mg A)(gc:Ms P w K mg base k 4 (Fw A) "told" ["self"] (fG A 3)):aN P w K mg base cG (k+1) f fd ["self"] (br K (jy A n 5)):=by
 refine bD F zI fun cdv B outer s H E hr=>?_;rw[show ao iH=[_] from rfl];refine⟨_,(bM (az (aP (qa aq (qa (aO (af 0) rfl) (qa (aR (aO (af 0) rfl) gc hr) aa)))))),fun ds S kk hc hd h=>?_⟩;obtain⟨s,rfl,hj,hg,hd2,h⟩:=h;cases s with
 | lt a x s=>cases hj
 | dv a x wd s b=>cases hj
 | ft a x r p=>cases hj
 | pt a r p s=>cases hj
 | mq a r z=>cases hj
 | cm a c =>
  obtain⟨ns,l,i1,i2,_⟩:=Em A S c;unfold zY at hg;unfold oJ at h;unfold ud;refine⟨_,rfl,_,_,_,_,rfl,rfl,_,rfl,_,_,_,_,rfl,rfl,Dh c,ns,l,qe c,i1,i2,c,rfl,rfl,hg.dep,by have:=hg.sz;omega,_,rfl,sz 3,cF hc h⟩
 | cl a ns hp g=>cases hj
 | ch a c t e=>cases hj
 | rp a c hs f b=>cases hj
noncomputable abbrev jG:Stmt:=inClass (top 29) 1
theorem Bs:au ["self"] ["self"] (ai jG):=dM
theorem lI (F:cj K "told" "Call.told" jG f fd)(J:Fx K mg A)(ic:pZ P w K mg base k A n):aN P w K mg base cG (k+1) f fd ["self"] (br K (jy A n 6)):=by
 refine bD F Bs fun cdv B outer s H E hr=>?_;rw[show ao jG=[_] from rfl];refine⟨_,(bM (az (aP (qa aq (qa (aO (af 0) rfl) (qa (aO (af 0) rfl) (qa (aO (af 0) rfl) (qa (aj ic hr rfl (qa (aO (af 0) rfl) aa)) aa)))))))),fun ds S kk hc hd h=>?_⟩;obtain⟨s,rfl,hj,hg,hd2,h⟩:=h;cases s with
 | lt a x s=>cases hj
 | dv a x wd s b=>cases hj
 | ft a x r p=>cases hj
 | pt a r p s=>cases hj
 | mq a r z=>cases hj
 | cm a c=>cases hj
 | cl a ns hp g =>
  unfold zY at hg;unfold oQ.dp at hd2;unfold oJ at h;unfold ud;refine⟨_,rfl,_,_,_,_,rfl,rfl,_,rfl,_,_,_,_,rfl,rfl,_,rfl,_,_,_,_,rfl,rfl,_,rfl,_,_,_,_,rfl,rfl,g.map (fun s=>(pM A s,iN s)),by rw[List.map_map];rfl,by rw[List.length_map];omega,fun p hp=>?_,_,rfl,sz 5,cF hc ?_⟩
  ·obtain⟨s,_,rfl⟩:=List.mem_map.mp hp;exact⟨8,.m s (by omega)⟩
  ·rw[List.map_map];exact h
 | ch a c t e=>cases hj
 | rp a c hs f b=>cases hj
noncomputable abbrev gI:Stmt:=inClass (top 34) 1
theorem xE:au ["self"] ["self"] (ai gI):=dM
theorem i8 (F:cj K "told" "Helper.told" gI f fd)(J:Fx K mg A)(ic:pZ P w K mg base k A n)(tG:yX P w K mg base k A):aN P w K mg base cG (k+1) f fd ["self"] (br K (Al A n)):=by
 refine bD F xE fun cdv B outer s H E hr=>?_;rw[show ao gI=[_] from rfl];refine⟨_,(bM (az (aP (qa aq (qa (aO (af 0) rfl) (qa (aO (af 0) rfl) (qa (aO (af 0) rfl) (qa (aO (af 0) rfl) (qa (aj tG hr rfl (qa (aO (af 0) rfl) aa)) (qa (aj tG hr rfl (qa (aO (af 0) rfl) aa)) (qa (aj ic hr rfl (qa (aO (af 0) rfl) aa)) aa))))))))))),fun ds S kk hc hd h=>?_⟩;obtain⟨x,rfl,hg,hd2,hk7,h⟩:=h;obtain⟨p1,p2,p3,p4,p5⟩:=hg.pl;refine⟨_,rfl,_,_,_,_,rfl,rfl,_,rfl,_,_,_,_,rfl,rfl,_,rfl,_,_,_,_,rfl,rfl,_,rfl,_,_,_,_,rfl,rfl,_,rfl,_,_,_,_,rfl,rfl,x.needs,rfl,by omega,hg.nd,_,rfl,_,_,_,_,rfl,rfl,x.gives,rfl,by omega,hg.gv,_,rfl,_,_,_,_,rfl,rfl,x.steps.map (fun s=>(ud A s,oJ s)),by rw[xm,List.map_map];rfl,by rw[List.length_map];omega,(fun p hp=>by obtain⟨s,hs,rfl⟩:=List.mem_map.mp hp;have:=Oo hs;exact⟨_,.s s (Ia hg.st hs) (by omega) (hk7 s hs)⟩),_,rfl,sz 8,cF hc ?_⟩;rw[List.map_map];unfold Sa at h;rw[xo] at h;exact h
noncomputable abbrev fS:Stmt:=inClass (top 35) 2
theorem vC:au ["self"] ["self"] (ai fS):=dM
theorem vH (F:cj K "told" "Program.told" fS f fd)(J:Fx K mg A)(ic:Dn P w K mg base k "told_each" ["parts"] (br K (xr A 3))):aN P w K mg base cG (k+1) f fd ["self"] (br K (uf A)):=by
 refine bD F vC fun cdv B outer s H E hr=>?_;rw[show ao fS=[_] from rfl];refine⟨_,(bM (az (aj ic hr rfl (qa (aO (af 0) rfl) aa)))),fun ds S kk hc hd h=>?_⟩;obtain⟨hs,rfl,hl,hg,h⟩:=h;refine⟨_,rfl,_,_,_,_,rfl,rfl,hs.map (fun x=>(Pf A x,Sa x)),by rw[List.map_map];rfl,by rw[List.length_map];exact hl,(fun p hp=>?_),cF hc ?_⟩
 ·obtain⟨x,hx,rfl⟩:=List.mem_map.mp hp;exact⟨7,.h x (hg x hx).1 (by have:=(hg x hx).2.1;omega) (hg x hx).2.2⟩
 ·rw[List.map_map];exact h
noncomputable abbrev BB:Stmt:=inClass (top 65) 1
theorem P4:au ["self"] ["self"] (ai BB):=dM
theorem Rh (F:cj K "coming" "Tokens.coming" BB f fd)(J:Fx K mg A) :aN P w K mg base cG (k+1) f fd ["self"] (br K (Ml A)):=by
 refine bD F P4 fun cdv B outer s H E hr=>?_;rw[show ao BB=[_] from rfl];refine⟨_,(bM (az (MP (aH uu (aO (af 0) rfl) (aK cV (by rfl) J.cW PySem.boot_len (qa (aO (af 0) rfl) aa)) (aA _)) (aS (aO (af 0) rfl) (aO (af 0) rfl)) aq))),fun ds S kk hc hd h=>?_⟩;obtain⟨n,ts,i,a,rfl,h1,h⟩:=h;refine⟨_,rfl,_,_,_,_,aT h1,rfl,_,rfl,_,_,_,_,aT h1,rfl,_,rfl,_,rfl,?_⟩;dsimp only;by_cases e:i < ts.length
 ·rw[if_pos (by simpa using e)];have q:ts.getD i ""=ts[i]:=by rw[List.getD_eq_getElem?_getD,List.getElem?_eq_getElem e];rfl
  exact⟨_,rfl,_,_,_,_,aT h1,rfl,_,rfl,_,_,_,_,aT h1,rfl,_,_,rfl,aB (j:=i) (by rw[List.getElem?_map,List.getElem?_eq_getElem e];rfl),iA (by rw[q] at h;exact h)⟩
 ·rw[if_neg (by simpa using e)];have q:ts.getD i ""="":=by rw[List.getD_eq_getElem?_getD,List.getElem?_eq_none (by omega)];rfl
  rw[q] at h;exact iA h
noncomputable abbrev Bv:Stmt:=inClass (top 65) 2
theorem Ir:au ["self","token"] ["self"] (ai Bv):=dM
theorem Ra (F:cj K "take" "Tokens.take" Bv f fd)(J:Fx K mg A)(cz:gj P w K mg base k A):aN P w K mg base cG (k+1) f fd ["self"] (br K (Mh A)):=by
 refine bD F Ir fun cdv B outer s H E hr=>?_;rw[show ao Bv=[_,_,_] from rfl];refine⟨_,(qs (av (i:=1) Ir.nd (aR (af 0) cz hr)) (qs (aZ (af 0) (aJ aG (aO (af 0) rfl) ah) rfl) (bM (az (af 1))))),fun ds S kk hc hd h=>?_⟩;obtain⟨n,ts,i,a,rfl,h1,h⟩:=h;exact⟨_,rfl,0,_,_,by decide,aT h1,by decide +kernel,n,ts,i,a,rfl,h1,_,rfl,_,_,_,_,aT h1,rfl,_,rfl,n,_,_,_,rfl,h1,J.dh,by decide,_,rfl,iA h⟩
noncomputable abbrev Bx:Stmt:=inClass (top 65) 3
theorem PY:au ["self","token"] ["self","token"] (ai Bx):=dM
theorem Rc (F:cj K "take_just" "Tokens.take_just" Bx f fd)(J:Fx K mg A)(ak:aE P w K mg base k)(m8:qQ P w K mg base k A):aN P w K mg base cG (k+1) f fd ["self","token"] (br K (Mi A)):=by
 refine bD F PY fun cdv B outer s H E hr=>?_;rw[show ao Bx=[_] from rfl];refine⟨_,(bM (cD (aj ak hr rfl (qa (cE (cP 40 (uE hr)) (aR (af 0) m8 hr) (af 1) (aA _)) (qa (aO (af 0) rfl) aa))))),fun ds S kk hc hd h=>?_⟩;obtain⟨n,ts,i,a,w,rfl,h1,hw,h⟩:=h;have lt:=IY h1;exact⟨_,rfl,0,_,_,by decide,aT h1,by decide +kernel,n,ts,i,a,rfl,h1,_,rfl,rfl,_,rfl,_,_,_,_,aT (ou lt),rfl,_,congrArg (fun b=>[D.bl b,D.int a]) (seq hw),iA h⟩
noncomputable abbrev Bu:Stmt:=inClass (top 65) 4
theorem Iq:au ["self","ends","taken"] ["self","ends"] (ai Bu):=dM
theorem Q9 (F:cj K "take_until" "Tokens.take_until" Bu f fd)(J:Fx K mg A)(cz:gj P w K mg base k A)(m8:qQ P w K mg base k A):aN P w K mg base cG (k+1) f fd ["self","ends"] (br K (Mg A K)):=by
 refine bD F Iq fun cdv B outer s H E hr=>?_;rw[show ao Bu=[_,_,_] from rfl];refine⟨_,(qs (av (i:=2) Iq.nd (ig aa)) (qs (j9 PassesOwn.never (qw (qk (aH (su 40 (uE hr)) (aR (af 0) cz hr) aq (aA _)) (lE (aH Nn (aR (af 0) cz hr) (af 1) (by rfl))))) (bM (cD (kj (af 2) (qa (aR (af 0) m8 hr) aa))))) (bM (az (af 2))))),fun ds S kk hc hd h=>?_⟩;obtain⟨n,e,xs,ts,i,a,l,r,rfl,hE,h1,hd1,hl,hs,hn,h⟩:=h;have lt:=IY h1;have e0:S=S.set n (tX A ts i a):=(set_same h1).symm;refine⟨[],rfl,sz 0,?_⟩;dsimp only[dD];refine⟨fun m δ S'=>∃ l1 l2,l=l1++l2/\m=l2.length/\δ=[some (D.ob n),some e,some (D.ob (S.length+0))]/\S'=S.set n (tX A ts (i+l1.length) a)++[O.lst (l1.map T.str)],⟨_,[],l,rfl,rfl,rfl,?_⟩,?_⟩
 ·show S++[O.lst []]=S.set n (tX A ts i a)++[O.lst []];rw[<- e0]
 rintro m δ S' ⟨l1,l2,rfl,rfl,rfl,rfl⟩;have hd2:ts.drop (i+l1.length)=l2++r:=Yg (l:=l1) (by rw[hd1,List.append_assoc]);show H8 _ _ _ _ _;generalize hv:ts.getD (i+l1.length) ""=v;refine Ux (true ^^ decide (V.str v=V.str (Str.ofString ""))) (true ^^ decide (v∈xs)) (fun k' hk=>⟨_,rfl,0,_,_,by decide,aT (gA lt),by decide +kernel,n,ts,_,a,rfl,gA lt,rfl,_,rfl,by rw[hv];exact hk⟩) (fun k' hk=>⟨_,rfl,0,_,_,by decide,aT (gA lt),by decide +kernel,n,ts,_,a,rfl,gA lt,_,rfl,_,xs,rfl,hE,_,rfl,by rw[hv];exact hk⟩) ?_;dsimp only;cases l2 with
 | nil =>
  have hE':closes S.length (.ob (S.length+0)) (S.set n (tX A ts (i+l1.length) a)++[O.lst (l1.map T.str)]) kk:=JD (JC hc) Ar rfl (by rw[List.append_nil] at h;exact h);have hb:((true ^^ decide (V.str v=V.str (Str.ofString ""))) && (true ^^ decide (v∈xs)))=false:=by
   have:v=""∨v∈xs:=by
    cases r with
    | nil=>exact .inl (by rw[<- hv];exact dr0 (by simpa using hd2))
    | cons x r =>
     have q:=(Ol (show ts.drop (i+l1.length)=x::r by simpa using hd2)).1;rw[<- hv,q];exact hs x r rfl
   rcases this with e | e
   ·rw[decide_eq_true (by rw[e]:V.str v=V.str (Str.ofString ""))];rfl
   ·rw[decide_eq_true e];exact Bool.and_false _
  rw[hb,if_neg (by decide)];exact⟨_,rfl,hE'⟩
 | cons x l2 =>
  have q:=(Ol (show ts.drop (i+l1.length)=x::(l2++r) from hd2)).1;obtain⟨ex,hx⟩:=hl x (by simp);rw[hv] at q;subst q;have hb:((true ^^ decide (V.str v=V.str (Str.ofString ""))) && (true ^^ decide (v∈xs)))=true:=by
   rw[decide_eq_false (fun z=>ex (V.str.inj z)),decide_eq_false hx];rfl
  rw[hb,if_pos rfl];refine⟨fun δ' S'=>δ'=[some (D.ob n),some e,some (D.ob (S.length+0))]/\S'=S.set n (tX A ts (i+(l1++[v]).length) a)++[O.lst ((l1++[v]).map T.str)],?_,?_⟩
  ·rintro δ' S' ⟨rfl,rfl⟩;exact⟨l2.length,by simp,l1++[v],l2,by simp,rfl,rfl,rfl⟩
  refine⟨_,rfl,⟨rfl,_,fu (cu (q:=0) Ar)⟩,_,rfl,0,_,_,by decide,aT (gA lt),by decide +kernel,n,ts,_,a,rfl,gA lt,?_⟩;rw[sA lt,hv];refine⟨_,cu (q:=0) Ar,A4 (by simp at hn ⊢;omega),rfl,?_⟩;rw[List.length_append,List.map_append,<- Ar (S:=S) (n:=n) (o:=tX A ts (i+l1.length+1) a),fH];rfl
noncomputable abbrev Bw:Stmt:=top 66
theorem rR:au ["words","at","found","word","behind","bare"] ["words","at"] (ai Bw):=dM
theorem Rb (F:cj K "tokens_of" "tokens_of" Bw f fd)(J:Fx K mg A)(ak:aE P w K mg base k):aN P w K mg base cG (k+1) f fd ["words","at"] (br K Tt):=by
 refine bD F rR fun cdv B outer s H E hr=>?_;rw[show ao Bw=[_,_,_] from rfl];refine⟨_,(qs (av (i:=2) rR.nd (ig aa)) (qs (iV PassesOwn.never rfl (qi (af 0)) (qg (i:=3) rR.nd) (qs (av (i:=4) rR.nd (MO (af 3) (qa aq aa))) (qs (av (i:=5) rR.nd (MN (af 4) (qa aq aa))) (qs (cD (aj ak hr rfl (qa (cE (su 40 (uE hr)) (af 5) aq (aA _)) (qa (af 1) aa)))) (qs (cD (TX (af 2) (qa (aJ pP (dG (qa aq aa)) (aJ mX (aK cV (by rfl) J.cW PySem.boot_len (qa (af 3) aa)) (aK cV (by rfl) J.cW PySem.boot_len (qa (af 4) aa)))) aa))) (qs (cD (kj (af 2) (qa (af 5) aa))) (bM (cD (TX (af 2) (qa (aJ pP (dG (qa aq aa)) (aJ mX (aK cV (by rfl) J.cW PySem.boot_len (qa (af 4) aa)) (aK cV (by rfl) J.cW PySem.boot_len (qa (af 5) aa)))) aa)))))))))) (bM (az (af 2))))),fun ds S kk hc hd h=>?_⟩;obtain⟨bs,a,rfl,hb,hl,h⟩:=h;refine⟨[],rfl,sz 0,?_⟩;dsimp only[dD];rw[List.map_map] at hd ⊢;refine⟨_,rfl,nq (Ax (T.str ∘ j6) (fun pre δ S'=>∃ y1 y2 y3,δ=[some (D.lst (bs.map (T.str ∘ j6))),some a,some (D.ob (S.length+0)),y1,y2,y3]/\S'=S++[O.lst ((w5 pre).map T.str)]) ⟨_,_,_,rfl,rfl⟩ ?_ ?_)⟩
 ·rintro pre b post δ S' N e ⟨y1,y2,y3,rfl,rfl⟩ hN;have ok:=hb b (by rw[e];simp);obtain⟨o,x,c⟩:=b;have lx:(j6 (o,x,c)).length=o+x.length+c:=by rw[bB,gu];simp[bB];omega
  have lb:(j6 (0,x,c)).length=x.length+c:=by rw[bB,gu];simp[bB]
  have k1:=ok.l1;have k2:=ok.l2;have k3:=ok.l3;simp only at k1 k2 k3;have s1:Txt.lstripChars (j6 (o,x,c)) "("=j6 (0,x,c):=by
   rw[show("(":Str)=⟨#[40]⟩ by decide +kernel];refine Gx (n:=o) (by rw[gu,gu];simp) ?_;rw[gu];have:=ok.ne;have:=ok.o;simp only at *;cases q:cp x with
   | nil=>exact absurd q ok.ne
   | cons d r=>intro z;simp at z;rw[q,z] at this;exact this (List.mem_cons_self ..)
  have s2:Txt.rstripChars (j6 (0,x,c)) ")"=x:=by
   rw[show(")":Str)=⟨#[41]⟩ by decide +kernel];refine F5 (n:=c) (by rw[gu];simp) fun z=>ok.c ?_;exact List.mem_of_getLast? z
  have hx:x≠"":=fun z=>ok.ne (by show cp x=[];rw[z];decide +kernel);have hpl:(w5 pre).length<=201*pre.length:=by
   have hb':∀ b∈pre,O8 b:=fun b hm=>hb b (by rw[e];exact List.mem_append_left _ hm);clear e hN lx lb s1 s2 hx
   induction pre with
   | nil=>exact Nat.zero_le _
   | cons d r ih =>
    have:=ih fun b hm=>hb' b (List.mem_cons_of_mem _ hm);have q:=hb' d (List.mem_cons_self ..);have q1:=q.l1;have q2:=q.l2;rw[dP,List.length_append,List.length_cons];simp;omega
  have hpre:pre.length < 1000:=by have:=congrArg List.length e;simp at this;omega
  refine⟨trivial,_,rfl,rfl,j4 (by show(j6 (o,x,c)).length<=1000;omega),?_⟩;dsimp only[dD];show uZ _ _ _ [some (D.lst (bs.map (T.str ∘ j6))),some a,some (D.ob (S.length+0)),some (D.str (j6 (o,x,c))),some (D.str (Txt.lstripChars (j6 (o,x,c)) "(")),y3] _;rw[s1];refine⟨_,rfl,rfl,j4 (by omega),?_⟩;dsimp only[dD];show uZ _ _ _ [some (D.lst (bs.map (T.str ∘ j6))),some a,some (D.ob (S.length+0)),some (D.str (j6 (o,x,c))),some (D.str (j6 (0,x,c))),some (D.str (Txt.rstripChars (j6 (0,x,c)) ")"))] _;rw[s2];refine⟨_,rfl,rfl,_,rfl,a,congrArg (fun b=>[D.bl b,a]) (by rw[decide_eq_false (fun z=>hx (V.str.inj z))];rfl),?_⟩;refine⟨_,rfl,⟨rfl,_,Cn rfl⟩,_,rfl,sz 1,_,rfl,j4 (by omega),_,rfl,j4 (by omega),_,rfl,by omega,by omega,?_,_,_,oq,rfl,?_,?_⟩
  ·have:(((j6 (o,x,c)).length:Int) - ((j6 (0,x,c)).length:Int)).toNat=o:=by omega
   rw[this];exact j4 (by simp;omega)
  ·have:(((j6 (o,x,c)).length:Int) - ((j6 (0,x,c)).length:Int)).toNat=o:=by omega
   rw[this];exact gp (by simp;omega)
  have t1:(((j6 (o,x,c)).length:Int) - ((j6 (0,x,c)).length:Int)).toNat=o:=by omega
  rw[fH,t1];refine⟨_,rfl,⟨rfl,_,Cn rfl⟩,_,rfl,_,oq,Nat.lt_of_le_of_lt (m:=300000) (by simp;omega) (by rw[sizeLine_eq];decide),?_⟩;rw[fH];refine⟨_,rfl,⟨rfl,_,Cn rfl⟩,_,rfl,sz 1,_,rfl,j4 (by omega),_,rfl,j4 (by omega),_,rfl,by omega,by omega,?_,_,_,oq,rfl,?_,?_⟩
  ·have:(((j6 (0,x,c)).length:Int) - (x.length:Int)).toNat=c:=by omega
   rw[this];exact j4 (by simp;omega)
  ·have:(((j6 (0,x,c)).length:Int) - (x.length:Int)).toNat=c:=by omega
   rw[this];exact gp (by simp;omega)
  have t2:(((j6 (0,x,c)).length:Int) - (x.length:Int)).toNat=c:=by omega
  rw[fH,t2];refine hN _ _ ⟨_,_,_,rfl,?_⟩;rw[HS,dP];simp[w5]
 ·rintro δ S' ⟨y1,y2,y3,rfl,rfl⟩;exact⟨trivial,_,rfl,a1A hc rfl h⟩
noncomputable abbrev By:Stmt:=inClass (top 65) 0
theorem PZ:au ["self","words","at"] ["self","words","at"] (ai By):=dM
theorem Rf (F:cj K "__init__" "Tokens.__init__" By f fd)(J:Fx K mg A)(EU:z4 P w K mg base k):aN P w K mg base cG (k+1) f fd ["self","words","at"] (br K (Mj A)):=by
 refine bD F PZ fun cdv B outer s H E hr=>?_;rw[show ao By=[_,_,_] from rfl];refine⟨_,(qs (aZ (af 0) (aj EU hr rfl (qa (af 1) (qa (af 2) aa))) rfl) (qs (aZ (af 0) ah rfl) (bM (aZ (af 0) (af 2) rfl)))),fun ds S kk hc hd h=>?_⟩;obtain⟨n,bs,a,rfl,h1,hb,hl,h⟩:=h;have hz:=IY h1;refine⟨_,rfl,_,rfl,bs,_,rfl,hb,hl,_,rfl,_,_,_,_,rfl,h1,J.dQ,by decide,?_⟩;refine⟨_,rfl,_,_,_,_,rfl,ou hz,J.dh,by decide,?_⟩;rw[List.set_set];refine⟨_,rfl,_,rfl,_,_,_,_,rfl,ou hz,J.gR,by decide,?_⟩;rw[List.set_set];exact iA h
noncomputable abbrev BP:Stmt:=top 70
theorem wz:au ["source","one","sign","other"] ["source"] (ai BP):=dM
theorem Rw (F:cj K "read_comparison" "read_comparison" BP f fd)(J:Fx K mg A)(uy:E8 P w K mg base k A)(aV:dz P w K mg base k A)(m7:uO P w K mg base k A)(m8:qQ P w K mg base k A){CT:Addr}(Se:mg "SIGNS"=some (.ref CT))(RV:∀ H:Hp,mC K H CT ((["<","<=","=","!=",">=",">"]:List Str).map V.str)):aN P w K mg base cG (k+1) f fd ["source"] (br K (Zf A)):=by
 refine bD F wz fun cdv B outer s H E hr=>?_;rw[show ao BP=[_,_,_,_] from rfl];refine⟨_,(qs (av (i:=1) wz.nd (qo (af 0) m7 hr (qa (vG (jI (v:=.ref CT) rfl Se rfl)) aa))) (qs (av (i:=2) wz.nd (aR (af 0) m8 hr)) (qs (av (i:=3) wz.nd (qo (af 0) m7 hr (qa (aP (qa aq (qa aq (qa aq aa)))) aa))) (bM (az (r8 uy hr rfl (qa (aj aV hr rfl (qa (af 1) (qa (aO (af 0) rfl) aa))) (qa (af 2) (qa (aj aV hr rfl (qa (af 3) (qa (aO (af 0) rfl) aa))) aa))))))))),fun ds S kk hc hd h=>?_⟩;obtain⟨n,ts,i,a,x,y,s,r,rfl,h1,hx,hy,hs,hd1,hr1,h⟩:=h;have lt:=IY h1;have d2:ts.drop (i+(gk x.p x.r).length)=s::(gk y.p y.r++r):=Yg (by rw[hd1,List.append_assoc];rfl);obtain⟨q1,d3⟩:=Ol d2;have lx:=FT hx;have ly:=FT hy;refine⟨_,rfl,0,_,_,by decide,aT h1,by decide +kernel,n,_,TJ,ts,i,a,gk x.p x.r,s::(gk y.p y.r++r),rfl,.inr ⟨_,rfl,RV⟩,h1,by rw[hd1,List.append_assoc];rfl,wd1 hx,(fun z r' e=>by injection e with e;rw[<- e];exact .inr hs),by omega,?_⟩;refine⟨_,rfl,0,_,_,by decide,aT (ou lt),by decide +kernel,n,ts,_,a,rfl,ou lt,?_⟩;rw[List.set_set,q1];dsimp only[dD];refine⟨_,rfl,0,_,_,by decide,aT (ou lt),by decide +kernel,_,rfl,sz 3,n,_,["and","or",")"],ts,_,a,gk y.p y.r,r,rfl,.inl rfl,ou lt,d3,wd2 hy,JV hr1,by omega,?_⟩;rw[List.set_set];have kx:=hx.ok;have ky:=hy.ok;refine⟨_,rfl,_,rfl,_,_,_,_,aT (ou lt),rfl,x.p,x.r,x.ws,_,rfl,kx.len,kx.fst,kx.pl,kx.pc,kx.bd,_,rfl,_,rfl,_,rfl,_,_,_,_,aT (ou lt),rfl,y.p,y.r,y.ws,_,rfl,ky.len,ky.fst,ky.pl,ky.pc,ky.bd,_,[pM A (oM x.ws),.str s,pM A (oM y.ws)],rfl,rfl,aD,made (iA ?_)⟩;rw[Sy] at h;rw[show i+(gk x.p x.r++s::gk y.p y.r).length=i+(gk x.p x.r).length+1+(gk y.p y.r).length by simp;omega] at h;exact h
noncomputable abbrev IB:Stmt:=top 69
theorem MH:au ["source","condition"] ["source"] (ai IB):=dM
theorem Nj (F:cj K "read_bracketed" "read_bracketed" IB f fd)(J:Fx K mg A)(dU:iw P w K mg base k A)(gx:qR P w K mg base k A n):aN P w K mg base cG (k+1) f fd ["source"] (br K (Zj A n)):=by
 refine bD F MH fun cdv B outer s H E hr=>?_;rw[show ao IB=[_,_,_,_] from rfl];refine⟨_,(qs (cD (qo (af 0) dU hr (qa aq aa))) (qs (av (i:=1) MH.nd (aj gx hr rfl (qa (af 0) aa))) (qs (cD (qo (af 0) dU hr (qa aq aa))) (bM (az (af 1)))))),fun ds S kk hc hd h=>?_⟩;obtain⟨m,ts,i,a,c,r,rfl,h1,ok,dp,hd1,h⟩:=h;have lt:=IY h1;obtain⟨q1,d2⟩:=Ol hd1;obtain⟨q3,d4⟩:=Ol (Yg d2);refine⟨_,rfl,0,_,_,by decide,aT h1,by decide +kernel,m,ts,i,a,_,rfl,h1,q1,_,rfl,m,ts,i+1,a,c,(")":Str)::r,rfl,ou lt,ok,dp,d2,.inr rfl,?_⟩;rw[List.set_set];dsimp only[dD];refine⟨_,rfl,0,_,_,by decide,aT (ou lt),by decide +kernel,m,ts,_,a,_,rfl,ou lt,q3,?_⟩;rw[List.set_set];refine⟨_,rfl,iA ?_⟩;rw[show i+(tZ c).length+2=i+1+(tZ c).length+1 by omega] at h;exact h
noncomputable abbrev wA:Stmt:=top 68
theorem DG:au ["source","inner"] ["source"] (ai wA):=dM
theorem xX (F:cj K "read_part" "read_part" wA f fd)(J:Fx K mg A)(tH:oR P w K mg base k A)(cz:gj P w K mg base k A)(ak:aE P w K mg base k)(kF:qS P w K mg base k A n)(yl:Ho P w K mg base k A)(dU:iw P w K mg base k A):aN P w K mg base cG (k+1) f fd ["source"] (br K (Zh A n)):=by
 refine bD F DG fun cdv B outer s H E hr=>?_;rw[show ao wA=[_,_,_] from rfl];refine⟨_,(qs (bT (aH (cP 40 (uE hr)) (aR (af 0) cz hr) aq (aA _)) (qs (cD (qo (af 0) dU hr (qa aq aa))) (bM (az (r8 yl hr rfl (qa (aj kF hr rfl (qa (af 0) aa)) aa))))) bh) (qs (bT (aH (cP 40 (uE hr)) (aR (af 0) cz hr) aq (aA _)) (qs (av (i:=1) DG.nd (aj kF hr rfl (qa (af 0) aa))) (qs (cD (aj ak hr rfl (qa (aK (JI (c:=.ref A.bU) trivial rfl) (by rfl) J.iL boot_isinstance (qa (af 1) (qa (vG (jI (v:=.ref A.bU) rfl J.iP rfl)) aa))) (qa (aO (af 0) rfl) aa)))) (bM (az (af 1))))) bh) (bM (az (aj tH hr rfl (qa (af 0) aa)))))),fun ds S kk hc hd h=>?_⟩;obtain⟨m,ts,i,a,c,r,rfl,h1,ok,dp,dc,hd1,hr1,h⟩:=h;have lt:=IY h1;cases c with
 | cmp x s y =>
  rw[LR rfl,tZ] at hd1 h;unfold CW.ok at ok;obtain⟨l,el⟩:=Y9 x;have q1:ts.getD i ""=uB x.p:=(Ol (r:=l++s::gk y.p y.r++r) (by rw[hd1,el];rfl)).1;have w:=ok.1.wd (uB x.p) (by rw[el];exact List.mem_cons_self ..);have n1:ts.getD i ""≠Str.ofString "not":=by rw[q1];exact w.kw "not"
  have n2:ts.getD i ""≠Str.ofString "(":=by rw[q1];exact w.nw "("
  exact⟨_,rfl,0,_,_,by decide,aT h1,by decide +kernel,m,ts,i,a,rfl,h1,rfl,false,congrArg D.bl (O9 n1),_,rfl,0,_,_,by decide,aT h1,by decide +kernel,m,ts,i,a,rfl,h1,rfl,false,congrArg D.bl (O9 n2),_,rfl,m,ts,i,a,x,y,s,r,rfl,h1,ok.1,ok.2.1,ok.2.2,hd1,hr1,iA (by unfold CW.cd at h;exact h)⟩
 | neg c =>
  rw[LR rfl,tZ] at hd1 h;unfold CW.ok at ok;unfold CW.dep at dp;obtain⟨p,rfl⟩:∃ p,n=p+1:=⟨n - 1,by omega⟩
  obtain⟨q1,d2⟩:=Ol (w:=Str.ofString "not") hd1;refine⟨_,rfl,0,_,_,by decide,aT h1,by decide +kernel,m,ts,i,a,rfl,h1,rfl,true,congrArg D.bl (seq q1),_,rfl,0,_,_,by decide,aT h1,by decide +kernel,m,ts,i,a,_,rfl,h1,q1,_,rfl,m,ts,i+1,a,c,r,rfl,ou lt,ok,by omega,by rw[d2];simp,?_⟩;rw[List.set_set];refine⟨_,[jK A c.cd],rfl,rfl,aD,made (iA ?_)⟩;unfold CW.cd at h;rw[Sv] at h;rw[show i+1+(tZ c).length+2=i+(Str.ofString "not"::Str.ofString "("::(tZ c++[Str.ofString ")"])).length by simp;omega];exact h
 | con q cs =>
  have dc:=dc rfl;rw[YB rfl] at hd1 h;obtain⟨p,rfl⟩:∃ p,n=p+1:=⟨n - 1,by omega⟩
  obtain⟨q1,d2⟩:=Ol (w:=Str.ofString "(") hd1;have n1:ts.getD i ""≠Str.ofString "not":=by rw[q1];decide +kernel
  refine⟨_,rfl,0,_,_,by decide,aT h1,by decide +kernel,m,ts,i,a,rfl,h1,rfl,false,congrArg D.bl (O9 n1),_,rfl,0,_,_,by decide,aT h1,by decide +kernel,m,ts,i,a,rfl,h1,rfl,true,congrArg D.bl (seq q1),_,rfl,m,ts,i,a,.con q cs,r,rfl,h1,ok,by omega,by rw[hd1];simp,?_⟩;refine⟨_,rfl,rfl,_,_,Tf A _ _,J.kS _ (qe _),_,rfl,_,_,_,_,aT (ou lt),rfl,_,congrArg (fun b=>[D.bl b,D.int a]) (decide_eq_true ((F1 (.con q cs)).mpr rfl)),_,rfl,iA ?_⟩;rw[show i+(tZ (.con q cs)).length+2=i+(Str.ofString "("::(tZ (.con q cs)++[Str.ofString ")"])).length by simp;omega];exact h
noncomputable abbrev wB:Stmt:=top 67
theorem xA:au ["source","parts","word"] ["source"] (ai wB):=dM
theorem xY (F:cj K "read_condition" "read_condition" wB f fd)(J:Fx K mg A)(Cr:Lm P w K mg base k A)(GA:OX P w K mg base k A)(cz:gj P w K mg base k A)(vp:z8 P w K mg base k A n)(dU:iw P w K mg base k A)(ak:aE P w K mg base k):aN P w K mg base cG (k+1) f fd ["source"] (br K (U7 A n)):=by
 refine bD F xA fun cdv B outer s H E hr=>?_;rw[show ao wB=[_,_,_,_,_] from rfl];refine⟨_,(qs (av (i:=1) xA.nd (ig (qa (aj vp hr rfl (qa (af 0) aa)) aa))) (qs (av (i:=2) xA.nd (aR (af 0) cz hr)) (qs (bT (aH IV (af 2) (aP (qa aq (qa aq aa))) (by rfl)) (qs (cD (aj ak hr rfl (qa (ZI (aK (JI (c:=.ref A.bU) trivial rfl) (by rfl) J.iL boot_isinstance (qa (aS (af 1) ah) (qa (vG (jI (v:=.ref A.bU) rfl J.iP rfl)) aa)))) (qa (aO (af 0) rfl) aa)))) (bM (az (aS (af 1) ah)))) bh) (qs (j9 PassesOwn.never (aH (cP 40 (uE hr)) (aR (af 0) cz hr) (af 2) (aA _)) (qs (cD (qo (af 0) dU hr (qa (af 2) aa))) (bM (cD (kj (af 1) (qa (aj vp hr rfl (qa (af 0) aa)) aa)))))) (bM (az (MP (aH (cP 40 (uE hr)) (af 2) aq (aA _)) (r8 Cr hr rfl (qa (af 1) aa)) (r8 GA hr rfl (qa (af 1) aa))))))))),fun ds S kk hc hd h=>?_⟩;obtain⟨m,ts,i,a,c,r,rfl,h1,ok,dp,hd1,hr1,h⟩:=h;have lt:=IY h1;cases hcc:gm c with
 | false =>
  rw[<- LR hcc] at hd1 h;refine⟨_,rfl,m,ts,i,a,c,r,rfl,h1,ok,dp,(fun z=>by rw[hcc] at z;cases z),hd1,Ds hr1,_,rfl,sz 1,?_⟩;dsimp only[dD];rw[Ar];refine⟨_,rfl,0,_,_,by decide,aT (gA lt),by decide +kernel,m,ts,_,a,rfl,gA lt,?_⟩;dsimp only[dD];have q:∀ k,ts.getD (i+(wk c).length) ""≠vm k:=fun k=>Du (Yg hd1) hr1;generalize ts.getD (i+(wk c).length) ""=v at q;have hb:(true ^^ K2 (V.str v) [V.str (Str.ofString "and"),V.str (Str.ofString "or")])=true:=by
   rw[show [V.str (Str.ofString "and"),V.str (Str.ofString "or")]=([("and":Str),"or"]).map V.str from rfl,ia,decide_eq_false (by simp;exact⟨q true,q false⟩)];rfl
  have gl:∀ o loc,lq (S.set m o++O.lst [jK A c.cd]::loc) (.ob (S.length+0))=some [jK A c.cd]:=fun o loc=>fu (cu (q:=0) Ar);refine⟨_,rfl,_,rfl,sz 2,_,_,_,rfl,rfl,rfl,rfl,true,congrArg D.bl hb,?_⟩;dsimp only;rw[if_pos rfl];refine⟨_,rfl,?_⟩;dsimp only[xg];refine N1 (gl _ []) mh ?_;refine⟨rfl,_,_,Tf A _ _,J.kS _ (qe _),_,rfl,_,rfl,_,_,_,_,aT (gA lt),rfl,_,congrArg (fun b=>[D.bl (!b),D.int a]) (decide_eq_false (fun z=>by rw[(F1 c).mp z] at hcc;cases hcc)),?_⟩;refine⟨_,rfl,?_⟩;dsimp only[xg];exact N1 (gl _ []) mh (OB hc h)
 | true =>
  cases c with
  | cmp _ _ _=>cases hcc
  | neg _=>cases hcc
  | con q cs =>
   cases cs with
   | nil=>unfold CW.ok at ok;have:=ok.2.1;simp at this
   | cons d cs =>
    rw[HU] at hd1 h;unfold CW.ok at ok;unfold CW.dep at dp;obtain⟨okl,l2,l3⟩:=ok;have dm:∀ e∈d::cs,e.ok/\e.dep < n:=fun e he=>⟨IU okl he,by have:=EI he;omega⟩
    obtain⟨e1,cs',rfl⟩:∃ e1 cs',cs=e1::cs':=by
     cases cs with
     | nil=>simp at l2
     | cons e1 cs'=>exact⟨_,_,rfl⟩
    have k0:=dm d (List.mem_cons_self ..);refine⟨_,rfl,m,ts,i,a,d,pK q (e1::cs')++r,rfl,h1,k0.1,by omega,(fun _=>k0.2),by rw[hd1,List.append_assoc],Tq hr1,_,rfl,sz 1,?_⟩;dsimp only[dD];rw[Ar];refine⟨_,rfl,0,_,_,by decide,aT (gA lt),by decide +kernel,m,ts,_,a,rfl,gA lt,?_⟩;have d2:=Yg (l:=wk d) (r:=pK q (e1::cs')++r) (by rw[hd1,List.append_assoc]);have q1:ts.getD (i+(wk d).length) ""=vm q:=(Ol (r:=wk e1++pK q cs'++r) (by rw[d2,gO];simp)).1;rw[q1];dsimp only[dD];have hb:(true ^^ K2 (V.str (vm q)) [V.str (Str.ofString "and"),V.str (Str.ofString "or")])=false:=by cases q <;> decide +kernel
    refine⟨_,rfl,_,rfl,sz 2,_,_,_,rfl,rfl,rfl,rfl,false,congrArg D.bl hb,?_⟩;dsimp only;rw[if_neg (by decide)];refine⟨fun j δ S'=>∃ l1 l2,e1::cs'=l1++l2/\j=l2.length/\δ=[some (D.ob m),some (D.ob (S.length+0)),some (D.str (vm q))]/\S'=S.set m (tX A ts (i+(wk d++pK q l1).length) a)++[O.lst ((d::l1).map fun c=>jK A c.cd)],⟨_,[],_,rfl,rfl,rfl,by rw[pK,List.append_nil];rfl⟩,?_⟩;rintro j δ S' ⟨l1,WK,el,rfl,rfl,rfl⟩;have d3:ts.drop (i+(wk d++pK q l1).length)=pK q WK++r:=Yg (by rw[hd1,el,AY];simp);cases WK with
    | nil =>
     rw[List.append_nil] at el;subst el;rw[pK] at d3;refine⟨_,rfl,0,_,_,by decide,aT (gA lt),by decide +kernel,m,ts,_,a,rfl,gA lt,_,rfl,rfl,false,congrArg D.bl (O9 (Du d3 hr1)),?_⟩;dsimp only;rw[if_neg (by decide)];have gl:∀ o loc,xq (S.set m o++O.lst ((d::e1::cs').map fun c=>jK A c.cd)::loc) (.ob (S.length+0))=some ((d::e1::cs').map fun c=>jK A c.cd):=fun o loc=>fu (cu (q:=0) Ar);unfold CW.cd at h;rw[Sx,CK,List.map_map] at h;cases q with
     | true=>exact⟨_,rfl,rfl,true,tT,_,rfl,_,_,_,rfl,aD,by rw[List.append_assoc];exact gl _ _,made (OB hc h)⟩
     | false=>exact⟨_,rfl,rfl,false,tF,_,rfl,_,_,_,rfl,aD,by rw[List.append_assoc];exact gl _ _,made (OB hc h)⟩
    | cons e WK =>
     have d4:ts.drop (i+(wk d++pK q l1).length)=vm q::(wk e++(pK q WK++r)):=by rw[d3,gO];simp
     obtain⟨q2,d5⟩:=Ol d4;have ke:=dm e (by rw[el];simp);refine⟨_,rfl,0,_,_,by decide,aT (gA lt),by decide +kernel,m,ts,_,a,rfl,gA lt,_,rfl,rfl,true,congrArg D.bl (seq q2),?_⟩;dsimp only;rw[if_pos rfl];refine⟨fun δ' S'=>δ'=[some (D.ob m),some (D.ob (S.length+0)),some (D.str (vm q))]/\S'=S.set m (tX A ts (i+(wk d++pK q (l1++[e])).length) a)++[O.lst ((d::(l1++[e])).map fun c=>jK A c.cd)],?_,?_⟩
     ·rintro δ' S' ⟨rfl,rfl⟩;exact⟨WK.length,by simp,l1++[e],WK,by rw[el];simp,rfl,rfl,rfl⟩
     refine⟨_,rfl,0,_,_,by decide,aT (gA lt),by decide +kernel,_,rfl,m,ts,_,a,_,rfl,gA lt,q2,?_⟩;rw[sA lt];refine⟨_,rfl,⟨rfl,_,fu (cu (q:=0) Ar)⟩,_,rfl,m,ts,_,a,e,pK q WK++r,rfl,gA lt,ke.1,by omega,(fun _=>ke.2),d5,Tq hr1,?_⟩;rw[sA lt];have ll:l1.length<=3:=by have:=congrArg List.length el;simp at this l3;omega
     refine⟨_,cu (q:=0) Ar,A4 (by simp;omega),rfl,?_⟩;have ix:i+(wk d++pK q (l1++[e])).length=i+(wk d++pK q l1).length+1+(wk e).length:=by rw[AY,gO,pK];simp;omega
     rw[ix,<- Ar (S:=S) (n:=m) (o:=tX A ts (i+(wk d++pK q l1).length+1+(wk e).length) a),fH];simp
noncomputable abbrev ID:Stmt:=top 64
theorem F4:au ["words","at","source","condition"] ["words","at"] (ai ID):=dM
theorem Wq (F:cj K "condition_of" "condition_of" ID f fd)(J:Fx K mg A)(ak:aE P w K mg base k)(cz:gj P w K mg base k A)(gx:Dn P w K mg base k "read_condition" ["source"] (br K (U7 A 2)))(ym:Hq P w K mg base k A):aN P w K mg base cG (k+1) f fd ["words","at"] (br K (Zm A)):=by
 refine bD F F4 fun cdv B outer s H E hr=>?_;rw[show ao ID=[_,_,_,_] from rfl];refine⟨_,(qs (av (i:=2) F4.nd (TV ym hr rfl (qa (af 0) (qa (af 1) aa)))) (qs (av (i:=3) F4.nd (aj gx hr rfl (qa (af 2) aa))) (qs (cD (aj ak hr rfl (qa (cE (cP 40 (uE hr)) (aR (af 2) cz hr) aq (aA _)) (qa (af 1) aa)))) (bM (az (af 3)))))),fun ds S kk hc hd h=>?_⟩;obtain⟨c,a,rfl,ok,dp,hb,hl,h⟩:=h;refine⟨_,rfl,_,rfl,_,kO c,a,rfl,aD,hb,hl,rfl,?_⟩;rw[cC];dsimp only[dD];have e:=HQ ok;refine⟨_,rfl,S.length,w5 (kO c),0,a,c,[],rfl,aD,ok,dp,by rw[e];simp,.inl rfl,?_⟩;rw[cC];dsimp only[dD];have q:(w5 (kO c)).getD (0+(tZ c).length) ""=Str.ofString "":=dr0 (by rw[e];simp);refine⟨_,rfl,0,_,_,by decide,aT aD,by decide +kernel,S.length,_,_,a,rfl,aD,rfl,_,rfl,_,congrArg (fun b=>[D.bl b,D.int a]) (seq q),_,rfl,Ss hc h⟩
noncomputable abbrev BK:Stmt:=inClass (top 48) 0
theorem P7:au ["self","rows"] ["self","rows"] (ai BK):=dM
theorem Rr (F:cj K "__init__" "Rows.__init__" BK f fd)(J:Fx K mg A) :aN P w K mg base cG (k+1) f fd ["self","rows"] (br K (Mp A)):=by
 refine bD F P7 fun cdv B outer s H E hr=>?_;rw[show ao BK=[_,_] from rfl];refine⟨_,(qs (aZ (af 0) (dg (bf ["row"] [] [] rfl (by decide +kernel) (by decide +kernel) (by with_unfolding_all rfl) (by exact trivial) (by rfl) rfl (by rfl)) rfl (qi (af 1)) (fun _ _ _ _=>(qx (i:=0) (show List.Nodup (["row"]:List Str) by decide +kernel))) (fun _ _ _ _=>cI) (fun _ _ _ _=>(wH false (af 0) (qa aq aa)))) rfl) (bM (aZ (af 0) ah rfl))),fun ds S kk hc hd h=>?_⟩;obtain⟨n,d,xs,rfl,h1,hx,hl,hb,h⟩:=h;have hz:=IY h1;refine⟨_,rfl,N2 hx fun G hG=>gi T.str (fun x=>T.lst ((Txt.split x " ").map T.str)) (by simpa using hG []) (j4 hl) (fun x hm k' hk=>?_) ?_⟩
 ·have:=hb x hm;exact⟨_,rfl,rfl,rfl,gp (by omega),Gq ⟨_,rfl,hk⟩⟩
 refine⟨_,rfl,_,_,_,_,rfl,h1,J.gT,by decide,?_⟩;refine⟨_,rfl,_,_,_,_,rfl,ou hz,J.iO,by decide,?_⟩;rw[List.set_set];refine iA ?_;have e:(xs.map fun x=>T.lst ((Txt.split x " ").map T.str))=(xs.map fun x=>Txt.split x " ").map fun ws=>T.lst (ws.map T.str):=by rw[List.map_map];rfl
 rw[e];exact h
noncomputable abbrev BO:Stmt:=inClass (top 48) 1
theorem P8:au ["self"] ["self"] (ai BO):=dM
theorem Rv (F:cj K "coming" "Rows.coming" BO f fd)(J:Fx K mg A) :aN P w K mg base cG (k+1) f fd ["self"] (br K (Mq A)):=by
 refine bD F P8 fun cdv B outer s H E hr=>?_;rw[show ao BO=[_] from rfl];refine⟨_,(bM (az (MP (aH uu (aO (af 0) rfl) (aK cV (by rfl) J.cW PySem.boot_len (qa (aO (af 0) rfl) aa)) (aA _)) (aS (aS (aO (af 0) rfl) (aO (af 0) rfl)) ah) aq))),fun ds S kk hc hd h=>?_⟩;obtain⟨n,R,i,rfl,h1,hne,h⟩:=h;refine⟨_,rfl,_,_,_,_,aT h1,rfl,_,rfl,_,_,_,_,aT h1,rfl,_,rfl,_,rfl,?_⟩;dsimp only;by_cases e:i < R.length
 ·rw[if_pos (by simpa using e)];have q:R.getD i []=R[i]:=by rw[List.getD_eq_getElem?_getD,List.getElem?_eq_getElem e];rfl
  have hne:=hne e;rw[q] at hne h;obtain⟨y,ys,ey⟩:∃ y ys,R[i]=y::ys:=by
   cases q2:R[i] with
   | nil=>exact absurd q2 hne
   | cons y ys=>exact⟨y,ys,rfl⟩
  rw[ey] at h;refine⟨_,rfl,_,_,_,_,aT h1,rfl,_,rfl,_,_,_,_,aT h1,rfl,_,T.lst ((y::ys).map T.str),rfl,aB (j:=i) (by rw[List.getElem?_map,List.getElem?_eq_getElem e,ey];rfl),_,_,rfl,mh,iA h⟩
 ·rw[if_neg (by simpa using e)];have q:R.getD i []=[]:=by rw[List.getD_eq_getElem?_getD,List.getElem?_eq_none (by omega)];rfl
  rw[q] at h;exact iA h
noncomputable abbrev BD:Stmt:=inClass (top 48) 2
theorem P5:au ["self"] ["self"] (ai BD):=dM
theorem Rj (F:cj K "take" "Rows.take" BD f fd)(J:Fx K mg A)(ak:aE P w K mg base k):aN P w K mg base cG (k+1) f fd ["self"] (br K (Mm A)):=by
 refine bD F P5 fun cdv B outer s H E hr=>?_;rw[show ao BD=[_,_,_] from rfl];refine⟨_,(qs (cD (aj ak hr rfl (qa (cE uu (aO (af 0) rfl) (aK cV (by rfl) J.cW PySem.boot_len (qa (aO (af 0) rfl) aa)) (aA _)) (qa (aO (af 0) rfl) aa)))) (qs (aZ (af 0) (aJ aG (aO (af 0) rfl) ah) rfl) (bM (az (aS (aO (af 0) rfl) (aJ mX (aO (af 0) rfl) ah)))))),fun ds S kk hc hd h=>?_⟩;obtain⟨n,R,i,ws,rfl,h1,hw,h⟩:=h;have lt:=IY h1;have li:i < R.length:=(List.getElem?_eq_some_iff.mp hw).1;refine⟨_,rfl,_,_,_,_,aT h1,rfl,_,rfl,_,_,_,_,aT h1,rfl,_,rfl,_,rfl,_,_,_,_,aT h1,rfl,_,congrArg (fun b=>[D.bl b,D.int i]) (decide_eq_true (by simpa using li)),?_⟩;refine⟨_,rfl,_,_,_,_,aT h1,rfl,_,rfl,n,_,_,_,rfl,h1,J.iO,by decide,?_⟩;refine⟨_,rfl,_,_,_,_,aT (ou lt),rfl,_,rfl,_,_,_,_,aT (ou lt),rfl,_,_,rfl,?_,iA h⟩;show oO (R.map fun ws=>T.lst (ws.map T.str)) ((i:Int)+1 - 1)=_;rw[Int.add_sub_cancel];exact aB (j:=i) (by rw[List.getElem?_map,hw];rfl)
noncomputable abbrev BJ:Stmt:=inClass (top 48) 3
theorem Iw:au ["self","word","at"] ["self","word"] (ai BJ):=dM
theorem Rq (F:cj K "take_just" "Rows.take_just" BJ f fd)(J:Fx K mg A)(ak:aE P w K mg base k)(gf:jr P w K mg base k A):aN P w K mg base cG (k+1) f fd ["self","word"] (br K (Mn A)):=by
 refine bD F Iw fun cdv B outer s H E hr=>?_;rw[show ao BJ=[_,_] from rfl];refine⟨_,(qs (av (i:=2) Iw.nd (aO (af 0) rfl)) (bM (cD (aj ak hr rfl (qa (cE (cP 40 (uE hr)) (aR (af 0) gf hr) (dG (qa (af 1) aa)) (aA _)) (qa (af 2) aa)))))),fun ds S kk hc hd h=>?_⟩;obtain⟨n,R,i,w,rfl,h1,hw,h⟩:=h;refine⟨_,rfl,_,_,_,_,aT h1,rfl,?_⟩;dsimp only[dD];refine⟨_,rfl,0,_,_,by decide,aT h1,by decide +kernel,n,R,i,[w],rfl,h1,hw,_,rfl,_,rfl,sz 1,a5d (by decide) ⟨_,rfl,_,rfl,iA h⟩⟩
noncomputable abbrev BR:Stmt:=top 50
theorem Bm:au ["source","at","answers"] ["source"] (ai BR):=dM
theorem Ry (F:cj K "read_answers" "read_answers" BR f fd)(J:Fx K mg A)(ak:aE P w K mg base k)(bW:eG P w K mg base k)(gf:jr P w K mg base k A)(je:lR P w K mg base k A):aN P w K mg base cG (k+1) f fd ["source"] (br K (Zk A)):=by
 refine bD F Bm fun cdv B outer s H E hr=>?_;rw[show ao BR=[_,_,_,_,_] from rfl];refine⟨_,(qs (bT (aH (su 40 (uE hr)) (aR (af 0) je hr) aq (aA _)) (bM (az (dG aa))) bh) (qs (av (i:=1) Bm.nd (aO (af 0) rfl)) (qs (av (i:=2) Bm.nd (eZ false (aR (af 0) gf hr) (aX ah) bq)) (qs (cD (aj ak hr rfl (qa (iW (cE D9 (aK cV (by rfl) J.cW PySem.boot_len (qa (af 2) aa)) ah (aA _)) (ki (aK (AH rfl) (by rfl) J.AM boot_all (qa (dg (bf ["word"] [] [] rfl (by decide +kernel) (by decide +kernel) (by with_unfolding_all rfl) (by exact trivial) (by rfl) rfl (by rfl)) rfl (qi (af 2)) (fun _ _ _ _=>(qx (i:=0) (show List.Nodup (["word"]:List Str) by decide +kernel))) (fun _ _ _ _=>cI) (fun _ _ _ _=>(aj bW hr rfl (qa (af 0) aa)))) aa)))) (qa (af 1) aa)))) (bM (az (af 2))))))),fun ds S kk hc hd h=>?_⟩;obtain⟨n,R,i,vQ,rfl,h1,hw,h0,hn,hl,h⟩:=h;have lt:=IY h1;have g:R.getD i []=Str.ofString "answers"::vQ:=by rw[List.getD_eq_getElem?_getD,hw];rfl
 refine⟨_,rfl,0,_,_,by decide,aT h1,by decide +kernel,n,R,i,rfl,h1,(fun _=>by rw[g];simp),rfl,false,congrArg D.bl (by rw[g];exact(by decide +kernel:(true ^^ decide (V.str (Str.ofString "answers")=V.str (Str.ofString "answers")))=false)),?_⟩;dsimp only;rw[if_neg (by decide)];refine⟨_,rfl,_,_,_,_,aT h1,rfl,?_⟩;dsimp only[dD];refine⟨_,rfl,0,_,_,by decide,aT h1,by decide +kernel,n,R,i,_,rfl,h1,hw,1,rfl,_,rfl,?_⟩;rw[if_neg (by decide),List.map_cons,ji];dsimp only[dD];have hl0:0 < vQ.length:=List.length_pos_iff.mpr h0;refine⟨_,rfl,_,rfl,true,congrArg D.bl (decide_eq_true (by simpa using hl0)),?_⟩;rw[if_pos rfl];refine⟨_,rfl,nq (gi T.str (fun x=>T.bl (isNm x)) trivial (j4 (by omega)) (fun x hx k' hk=>?_) ?_)⟩
 ·exact⟨_,rfl,x,rfl,by have:=bJ (hn x hx);omega,_,rfl,hk⟩
 refine⟨vQ.map isNm,by rw[List.map_map];rfl,_,rfl,_,congrArg (fun b=>[D.bl b,D.int i]) (by show(vQ.map isNm).all _root_.id=true;rw[List.all_map,List.all_eq_true];exact hn),_,rfl,iA h⟩
noncomputable abbrev BC:Stmt:=top 51
theorem Bj:au ["source","word","found","at"] ["source","word"] (ai BC):=dM
theorem Ri (F:cj K "read_writings" "read_writings" BC f fd)(J:Fx K mg A)(je:lR P w K mg base k A)(jj:kK P w K mg base k A)(gf:jr P w K mg base k A):aN P w K mg base cG (k+1) f fd ["source","word"] (br K (Zg A)):=by
 refine bD F Bj fun cdv B outer s H E hr=>?_;rw[show ao BC=[_,_,_] from rfl];refine⟨_,(qs (av (i:=2) Bj.nd (ig aa)) (qs (j9 PassesOwn.never (aH (cP 40 (uE hr)) (aR (af 0) je hr) (af 1) (aA _)) (qs (av (i:=3) Bj.nd (aO (af 0) rfl)) (bM (cD (kj (af 2) (qa (aP (qa (af 3) (qa (aj jj hr rfl (qa (eZ false (aR (af 0) gf hr) (aX ah) bq) (qa (af 3) aa))) aa))) aa)))))) (bM (az (af 2))))),fun ds S kk hc hd h=>?_⟩;obtain⟨n,R,i,w,l,y,ys,r,rfl,h1,hd1,hy,hok,hl,h⟩:=h;have lt:=IY h1;have e0:S=S.set n (oi A R i):=(set_same h1).symm;refine⟨[],rfl,sz 0,?_⟩;dsimp only[dD];refine⟨fun m δ S'=>∃ z l1 l2,l=l1++l2/\m=l2.length/\δ=[some (D.ob n),some (D.str w),some (D.ob (S.length+0)),z]/\S'=S.set n (oi A R (i+l1.length))++[O.lst ((Dg i l1).map (atT A))],⟨_,_,[],l,rfl,rfl,rfl,?_⟩,?_⟩
 ·show S++[O.lst []]=S.set n (oi A R i)++[O.lst []];rw[<- e0]
 rintro m δ S' ⟨z,l1,l2,rfl,rfl,rfl,rfl⟩;have d2:R.drop (i+l1.length)=l2.map (zx w)++(y::ys)::r:=by
  have:=Zu (l:=l1.map (zx w)) (r:=l2.map (zx w)++(y::ys)::r) (by rw[hd1];simp);rwa [List.length_map] at this
 cases l2 with
 | nil =>
  obtain⟨q1,q2,q3⟩:=Vr (show R.drop (i+l1.length)=(y::ys)::r from d2);refine⟨_,rfl,0,_,_,by decide,aT (gA lt),by decide +kernel,n,R,_,rfl,gA lt,(fun _=>by rw[q2];simp),_,rfl,rfl,false,congrArg D.bl (O9 (by rw[q2];exact hy)),?_⟩;dsimp only;rw[if_neg (by decide)];rw[List.append_nil] at h;exact⟨_,rfl,JD (JB hc) Ar rfl h⟩
 | cons c l2 =>
  obtain⟨q1,q2,q3⟩:=Vr (show R.drop (i+l1.length)=zx w c::(l2.map (zx w)++(y::ys)::r) from d2);have ok:=hok c (by simp);refine⟨_,rfl,0,_,_,by decide,aT (gA lt),by decide +kernel,n,R,_,rfl,gA lt,(fun _=>by rw[q2];unfold zx;simp),_,rfl,rfl,true,congrArg D.bl (seq (by rw[q2];rfl)),?_⟩;dsimp only;rw[if_pos rfl];refine⟨fun δ' S'=>∃ z,δ'=[some (D.ob n),some (D.str w),some (D.ob (S.length+0)),z]/\S'=S.set n (oi A R (i+(l1++[c]).length))++[O.lst ((Dg i (l1++[c])).map (atT A))],?_,?_⟩
  ·rintro δ' S' ⟨z,rfl,rfl⟩;exact⟨l2.length,by simp,z,l1++[c],l2,by simp,rfl,rfl,rfl⟩
  refine⟨_,rfl,_,_,_,_,aT (gA lt),rfl,?_⟩;dsimp only[dD];refine⟨_,rfl,⟨rfl,_,fu (cu (q:=0) Ar)⟩,_,rfl,_,rfl,0,_,_,by decide,aT (gA lt),by decide +kernel,n,R,_,_,rfl,gA lt,q1,1,rfl,_,rfl,?_⟩;rw[if_neg (by decide),sA lt];unfold zx;rw[List.map_cons,ji];have ll:l1.length<=100:=by simp at hl;omega
  refine⟨_,rfl,c,_,rfl,ok.1,ok.2,ok.b,by have:=ok.ln;omega,_,rfl,sz 2,_,cu (q:=0) Ar,A4 (by rw[List.length_map,nW];omega),?_⟩;rw[<- Ar (S:=S) (n:=n) (o:=oi A R (i+l1.length+1)),fH];refine⟨_,rfl,?_⟩;rw[HA,List.length_append,List.map_append];rfl
noncomputable abbrev BH:Stmt:=top 58
theorem P6:au ["words","at"] ["words","at"] (ai BH):=dM
theorem Rn (F:cj K "read_make" "read_make" BH f fd)(J:Fx K mg A)(GC:OZ P w K mg base k A)(aV:dz P w K mg base k A)(ak:aE P w K mg base k)(bW:eG P w K mg base k):aN P w K mg base cG (k+1) f fd ["words","at"] (br K (DE A a03)):=by
 refine bD F P6 fun cdv B outer s H E hr=>?_;rw[show ao BH=[_,_] from rfl];refine⟨_,(qs (cD (aj ak hr rfl (qa (iW (cE D9 (aK cV (by rfl) J.cW PySem.boot_len (qa (af 0) aa)) ah (aA _)) (iW (aj bW hr rfl (qa (aS (af 0) ah) aa)) (ki (cE (cP 40 (uE hr)) (aS (af 0) ah) aq (aA _))))) (qa (af 1) aa)))) (bM (az (r8 GC hr rfl (qa (af 1) (qa (aS (af 0) ah) (qa (aj aV hr rfl (qa (eZ false (af 0) (aX ah) bq) (qa (af 1) aa))) aa))))))),fun ds S kk hc hd h=>?_⟩;obtain⟨x,i,rfl,hk0,ok,h⟩:=h;cases x with
 | mq r z =>
  unfold SX.ok at ok;have kz:=ok.2.ok;have ln:3 < ((SX.mq r z).jZ.map T.str).length:=by rw[List.length_map];show 3 < (gk z.p z.r).length+3;rw[t9];omega
  unfold SX.jZ at ln hd ⊢;refine⟨_,rfl,_,rfl,true,congrArg D.bl (decide_eq_true (by exact_mod_cast ln)),_,rfl,_,_,rfl,aB (j:=1) rfl,r,rfl,by have:=bJ ok.1;omega,true,congrArg D.bl ok.1,_,rfl,_,_,rfl,aB (j:=2) rfl,rfl,_,rfl,_,congrArg (fun b=>[D.bl b,D.int i]) (seq rfl),?_⟩;refine⟨_,rfl,_,rfl,_,_,rfl,aB (j:=1) rfl,_,rfl,3,rfl,_,rfl,?_⟩;rw[if_neg (by decide),show(3:Int)=((3:Nat):Int) from rfl,pV];refine⟨_,rfl,z.p,z.r,z.ws,_,rfl,kz.len,kz.fst,kz.pl,kz.pc,kz.bd,_,[.int i,.str r,pM A (oM z.ws)],rfl,rfl,aD,made (iA ?_)⟩;unfold SX.st ud at h;exact h
 | _=>cases hk0
noncomputable abbrev BG:Stmt:=top 57
theorem Iv:au ["words","at","place"] ["words","at"] (ai BG):=dM
theorem Rm (F:cj K "read_put" "read_put" BG f fd)(J:Fx K mg A)(NS:SS P w K mg base k A)(aV:dz P w K mg base k A)(ak:aE P w K mg base k)(bW:eG P w K mg base k):aN P w K mg base cG (k+1) f fd ["words","at"] (br K (DE A Uc)):=by
 refine bD F Iv fun cdv B outer s H E hr=>?_;rw[show ao BG=[_,_,_] from rfl];refine⟨_,(qs (cD (aj ak hr rfl (qa (iW (cE D9 (aK cV (by rfl) J.cW PySem.boot_len (qa (af 0) aa)) ah (aA _)) (iW (aj bW hr rfl (qa (aS (af 0) ah) aa)) (iW (cE (cP 40 (uE hr)) (aS (af 0) ah) aq (aA _)) (ki (cE Gm aq (af 0) (by rfl)))))) (qa (af 1) aa)))) (qs (av (i:=2) Iv.nd (MQ (af 0) (qa aq aa))) (bM (az (r8 NS hr rfl (qa (af 1) (qa (aS (af 0) ah) (qa (aj aV hr rfl (qa (eZ false (af 0) (aX ah) (aX (af 2))) (qa (af 1) aa))) (qa (aj aV hr rfl (qa (eZ false (af 0) (aX (aJ aG (af 2) ah)) bq) (qa (af 1) aa))) aa))))))))),fun ds S kk hc hd h=>?_⟩;obtain⟨x,i,rfl,hk0,ok,h⟩:=h;cases x with
 | pt r p s =>
  unfold SX.ok at ok;have kp:=ok.2.1.ok;have ks:=ok.2.2.ok;have ln:3 < ((SX.pt r p s).jZ.map T.str).length:=by
   rw[List.length_map];show 3 < (gk p.p p.r++("=":Str)::gk s.p s.r).length+3;rw[List.length_append,t9];omega
  have nr:=iy ok.1;have ni:("=":Str) ∉ ("put":Str)::r::("at":Str)::p.w:=fun z=>by
   rcases List.mem_cons.mp z with z | z
   ·exact absurd z (by decide +kernel)
   rcases List.mem_cons.mp z with z | z
   ·exact nr.nw "=" (by decide +kernel) z.symm
   rcases List.mem_cons.mp z with z | z
   ·exact absurd z (by decide +kernel)
   exact(ok.2.1.wd _ z).nw "=" (by decide +kernel) rfl
  have ew:(SX.pt r p s).jZ=(("put":Str)::r::("at":Str)::p.w)++("=":Str)::s.w:=rfl;refine⟨_,rfl,_,rfl,true,congrArg D.bl (decide_eq_true (by exact_mod_cast ln)),_,rfl,_,_,rfl,aB (j:=1) rfl,r,rfl,by have:=bJ ok.1;omega,true,congrArg D.bl ok.1,_,rfl,_,_,rfl,aB (j:=2) rfl,rfl,true,tT,_,rfl,?_⟩;refine zQ (ws:=(SX.pt r p s).jZ) rfl ⟨_,rfl,_,congrArg (fun b=>[D.bl b,D.int i]) (show(false ^^ decide (("=":Str)∈(SX.pt r p s).jZ))=true by rw[ew];simp),?_⟩;refine⟨_,rfl,⟨rfl,_,rfl⟩,("put":Str)::r::("at":Str)::p.w,s.w,rfl,ni,?_⟩;dsimp only[dD];refine⟨_,rfl,_,rfl,_,_,rfl,aB (j:=1) rfl,_,rfl,3,rfl,_,rfl,_,rfl,_,rfl,?_⟩;have lp:(("put":Str)::r::("at":Str)::p.w).length=3+p.w.length:=by simp;omega
  rw[if_neg (by decide),show(3:Int)=((3:Nat):Int) from rfl,Xo _ (by omega) (by rw[List.length_map,ew,List.length_append];omega),ew,<- List.map_drop,<- List.map_take,List.drop_append_of_le_length (by omega)];have e1:((("put":Str)::r::("at":Str)::p.w).drop 3++("=":Str)::s.w).take ((("put":Str)::r::("at":Str)::p.w).length - 3)=p.w:=by
   rw[lp];show(p.w++("=":Str)::s.w).take (3+p.w.length - 3)=_;rw[Nat.add_sub_cancel_left,List.take_left]
  rw[e1];refine⟨_,rfl,p.p,p.r,p.ws,_,rfl,kp.len,kp.fst,kp.pl,kp.pc,kp.bd,_,rfl,_,rfl,_,rfl,_,rfl,?_⟩;rw[if_neg (by decide),show((("put":Str)::r::("at":Str)::p.w).length:Int)+1=(((("put":Str)::r::("at":Str)::p.w).length+1:Nat):Int) from rfl,pV,<- List.map_drop,<- List.drop_drop,List.drop_left];refine⟨_,rfl,s.p,s.r,s.ws,_,rfl,ks.len,ks.fst,ks.pl,ks.pc,ks.bd,_,[.int i,.str r,pM A (oM p.ws),pM A (oM s.ws)],rfl,rfl,aD,made (iA ?_)⟩;unfold SX.st ud at h;exact h
 | _=>cases hk0
noncomputable abbrev BI:Stmt:=top 56
theorem rS:au ["words","at","name","rest","word","place"] ["words","at"] (ai BI):=dM
theorem Ro (F:cj K "read_let" "read_let" BI f fd)(J:Fx K mg A)(NT:SV P w K mg base k A)(aV:dz P w K mg base k A)(Cq:Ll P w K mg base k A)(ak:aE P w K mg base k)(bW:eG P w K mg base k)(yp:Hs P w K mg base k A):aN P w K mg base cG (k+1) f fd ["words","at"] (br K (DE A isLet)):=by
 refine bD F rS fun cdv B outer s H E hr=>?_;rw[show ao BI=[_,_,_,_,_,_] from rfl];refine⟨_,(qs (cD (aj ak hr rfl (qa (iW (cE D9 (aK cV (by rfl) J.cW PySem.boot_len (qa (af 0) aa)) ah (aA _)) (iW (aj bW hr rfl (qa (aS (af 0) ah) aa)) (ki (cE (cP 40 (uE hr)) (aS (af 0) ah) aq (aA _))))) (qa (af 1) aa)))) (qs (av (i:=2) rS.nd (aS (af 0) ah)) (qs (av (i:=3) rS.nd (eZ false (af 0) (aX ah) bq)) (qs (iV PassesOwn.never rfl (qi (aP (qa aq (qa aq aa)))) (qg (i:=4) rS.nd) (bM (bT (aH Gm (af 4) (af 3) (by rfl)) (qs (av (i:=5) rS.nd (MQ (af 3) (qa (af 4) aa))) (bM (az (r8 yp hr rfl (qa (af 1) (qa (af 2) (qa (af 4) (qa (aj aV hr rfl (qa (eZ false (af 3) bq (aX (af 5))) (qa (af 1) aa))) (qa (aj aV hr rfl (qa (eZ false (af 3) (aX (aJ aG (af 5) ah)) bq) (qa (af 1) aa))) aa))))))))) bh))) (qs (bT (qw (qk (aH D9 (aK cV (by rfl) J.cW PySem.boot_len (qa (af 3) aa)) ah (aA _)) (lE (aH (cP 40 (uE hr)) (aS (af 3) ah) aq (aA _))))) (qs (cD (aj ak hr rfl (qa (aj bW hr rfl (qa (aS (af 3) ah) aa)) (qa (af 1) aa)))) (bM (az (r8 Cq hr rfl (qa (af 1) (qa (af 2) (qa (aS (af 3) ah) (qa (aj aV hr rfl (qa (eZ false (af 3) (aX ah) bq) (qa (af 1) aa))) aa)))))))) bh) (bM (az (r8 NT hr rfl (qa (af 1) (qa (af 2) (qa (aj aV hr rfl (qa (af 3) (qa (af 1) aa))) aa))))))))))),fun ds S kk hc hd h=>?_⟩;obtain⟨x,i,rfl,hk0,ok,h⟩:=h;cases x with
 | lt x a =>
  unfold SX.ok at ok;have ka:=ok.2.ok;have la:1<=a.w.length:=by show 1<=(gk a.p a.r).length;rw[t9];omega
  have ln:3 < ((SX.lt x a).jZ.map T.str).length:=by rw[List.length_map];show 3 < a.w.length+3;omega
  refine⟨_,rfl,_,rfl,true,congrArg D.bl (decide_eq_true (by exact_mod_cast ln)),_,rfl,_,_,rfl,aB (j:=1) rfl,x,rfl,by have:=bJ ok.1;omega,true,congrArg D.bl ok.1,_,rfl,_,_,rfl,aB (j:=2) rfl,rfl,_,rfl,_,congrArg (fun b=>[D.bl b,D.int i]) (seq rfl),?_⟩;refine⟨_,rfl,_,_,rfl,aB (j:=1) rfl,?_⟩;dsimp only[dD];refine⟨_,rfl,3,rfl,_,rfl,?_⟩;rw[if_neg (by decide),show(3:Int)=((3:Nat):Int) from rfl,pV,<- List.map_drop,show(SX.lt x a).jZ.drop 3=a.w from rfl];dsimp only[dD];refine⟨_,rfl,sz 2,sJ ⟨trivial,?_⟩⟩;refine⟨_,rfl,_,rfl,zQ (ws:=a.w) rfl ⟨false,congrArg D.bl (show(false ^^ decide (("div":Str)∈a.w))=false by rw[decide_eq_false (fun z=>(ok.2.wd _ z).kw "div" (by decide +kernel) rfl)];rfl),trivial,?_⟩⟩;refine⟨_,rfl,_,rfl,zQ (ws:=a.w) rfl ⟨false,congrArg D.bl (show(false ^^ decide (("mod":Str)∈a.w))=false by rw[decide_eq_false (fun z=>(ok.2.wd _ z).kw "mod" (by decide +kernel) rfl)];rfl),trivial,?_⟩⟩;have hr1:∀ z:Str,a.w[1]?=some z->z≠("at":Str):=fun z hz=>(ok.2.wd z (List.mem_of_getElem? hz)).kw "at";have done:∀ E δ,δ[1]?=some (some (D.int i))->δ[2]?=some (some (D.str x))->δ[3]?=some (some (D.lst (a.w.map T.str)))->E=endsF S kk->(HY (w9 A.jm (vc A.jm ["at","name","total"]) (bA (cQ 1) (bA (cQ 2) (bA (kU (DC A) (bA (cQ 3) (bA (cQ 1) eS))) eS))))) E δ S:=fun E δ e1 e2 e3 eE=>by
   subst eE;refine⟨_,e1,_,e2,_,e3,_,e1,a.p,a.r,a.ws,_,rfl,ka.len,ka.fst,ka.pl,ka.pc,ka.bd,_,[.int i,.str x,pM A (oM a.ws)],rfl,rfl,aD,made (iA ?_)⟩;unfold SX.st ud at h;exact h
  by_cases h2:1 < a.w.length
  ·obtain⟨z,hz⟩:∃ z,a.w[1]?=some z:=⟨a.w[1],List.getElem?_eq_getElem h2⟩
   refine⟨_,rfl,_,rfl,true,congrArg D.bl (decide_eq_true (by rw[List.length_map];exact_mod_cast h2)),?_⟩;dsimp only;rw[if_pos rfl];refine⟨_,rfl,_,T.str z,rfl,aB (j:=1) (by rw[List.getElem?_map,hz];rfl),rfl,false,congrArg D.bl (O9 (hr1 z hz)),?_⟩;exact done _ _ rfl rfl rfl rfl
  ·refine⟨_,rfl,_,rfl,false,congrArg D.bl (decide_eq_false (by rw[List.length_map];exact_mod_cast h2)),?_⟩;exact done _ _ rfl rfl rfl rfl
 | dv x wd a b =>
  unfold SX.ok at ok;obtain⟨hx,hwd,ha,hb⟩:=ok;have ka:=ha.ok;have kb:=hb.ok;have la:1<=a.w.length:=by show 1<=(gk a.p a.r).length;rw[t9];omega
  have ln:3 < ((SX.dv x wd a b).jZ.map T.str).length:=by rw[List.length_map];show 3 < (a.w++wd::b.w).length+3;rw[List.length_append];omega
  refine⟨_,rfl,_,rfl,true,congrArg D.bl (decide_eq_true (by exact_mod_cast ln)),_,rfl,_,_,rfl,aB (j:=1) rfl,x,rfl,by have:=bJ hx;omega,true,congrArg D.bl hx,_,rfl,_,_,rfl,aB (j:=2) rfl,rfl,_,rfl,_,congrArg (fun b=>[D.bl b,D.int i]) (seq rfl),?_⟩;refine⟨_,rfl,_,_,rfl,aB (j:=1) rfl,?_⟩;dsimp only[dD];refine⟨_,rfl,3,rfl,_,rfl,?_⟩;rw[if_neg (by decide),show(3:Int)=((3:Nat):Int) from rfl,pV,<- List.map_drop,show(SX.dv x wd a b).jZ.drop 3=a.w++wd::b.w from rfl];dsimp only[dD];refine⟨_,rfl,sz 2,sJ ⟨trivial,?_⟩⟩;have nwd:wd ∉ a.w:=fun z=>by
   rcases hwd with rfl | rfl
   ·exact(ha.wd _ z).kw "div" (by decide +kernel) rfl
   ·exact(ha.wd _ z).kw "mod" (by decide +kernel) rfl
  have done:∀ E δ,δ[1]?=some (some (D.int i))->δ[2]?=some (some (D.str x))->δ[3]?=some (some (D.lst ((a.w++wd::b.w).map T.str)))->δ[4]?=some (some (D.str wd))->δ[5]?=some (some (D.int a.w.length))->E.rt=(endsF S kk).rt ->
    HY (w9 A.bH (vc A.bH ["at","name","word","total","by"]) (bA (cQ 1) (bA (cQ 2) (bA (cQ 4) (bA (kU (DC A) (bA (LX false (cQ 3) LY (YF (cQ 5))) (bA (cQ 1) eS))) (bA (kU (DC A) (bA (LX false (cQ 3) (YF (qc OQ (cQ 5) (xg (D.int 1)))) LY) (bA (cQ 1) eS))) eS)))))) E δ S:=fun E δ e1 e2 e3 e4 e5 eE=>by
   refine⟨_,e1,_,e2,_,e4,_,e3,_,e5,_,rfl,_,rfl,?_⟩;rw[if_neg (by decide),Jt,<- List.map_take,List.take_left];refine⟨_,e1,a.p,a.r,a.ws,_,rfl,ka.len,ka.fst,ka.pl,ka.pc,ka.bd,_,e3,_,e5,_,rfl,_,rfl,?_⟩;rw[if_neg (by decide),show(a.w.length:Int)+1=((a.w.length+1:Nat):Int) from rfl,pV,<- List.map_drop,<- List.drop_drop,List.drop_left];refine⟨_,e1,b.p,b.r,b.ws,_,rfl,kb.len,kb.fst,kb.pl,kb.pc,kb.bd,_,[.int i,.str x,.str wd,pM A (oM a.ws),pM A (oM b.ws)],rfl,rfl,aD,made ?_⟩;rw[eE];refine iA ?_;unfold SX.st ud at h;exact h
  rcases hwd with rfl | rfl
  ·refine⟨_,rfl,_,rfl,zQ (ws:=a.w++("div":Str)::b.w) rfl ⟨true,congrArg D.bl (show(false ^^ decide (("div":Str)∈a.w++("div":Str)::b.w))=true by simp),?_⟩⟩;dsimp only;rw[if_pos rfl];exact⟨_,rfl,⟨rfl,_,rfl⟩,_,rfl,a.w,b.w,rfl,nwd,done _ _ rfl rfl rfl rfl rfl rfl⟩
  ·have nb:("div":Str) ∉ a.w++("mod":Str)::b.w:=fun z=>by
    rcases List.mem_append.mp z with z | z
    ·exact(ha.wd _ z).kw "div" (by decide +kernel) rfl
    rcases List.mem_cons.mp z with z | z
    ·exact absurd z (by decide +kernel)
    ·exact(hb.wd _ z).kw "div" (by decide +kernel) rfl
   refine⟨_,rfl,_,rfl,zQ (ws:=a.w++("mod":Str)::b.w) rfl ⟨false,congrArg D.bl (show(false ^^ decide (("div":Str)∈a.w++("mod":Str)::b.w))=false by rw[decide_eq_false nb];rfl),trivial,?_⟩⟩;refine⟨_,rfl,_,rfl,zQ (ws:=a.w++("mod":Str)::b.w) rfl ⟨true,congrArg D.bl (show(false ^^ decide (("mod":Str)∈a.w++("mod":Str)::b.w))=true by simp),?_⟩⟩;dsimp only;rw[if_pos rfl];exact⟨_,rfl,⟨rfl,_,rfl⟩,_,rfl,a.w,b.w,rfl,nwd,done _ _ rfl rfl rfl rfl rfl rfl⟩
 | ft x r p =>
  unfold SX.ok at ok;obtain⟨hx,hr1,hp⟩:=ok;have kp:=hp.ok;have ln:3 < ((SX.ft x r p).jZ.map T.str).length:=by rw[List.length_map];show 3 < p.w.length+5;omega
  refine⟨_,rfl,_,rfl,true,congrArg D.bl (decide_eq_true (by exact_mod_cast ln)),_,rfl,_,_,rfl,aB (j:=1) rfl,x,rfl,by have:=bJ hx;omega,true,congrArg D.bl hx,_,rfl,_,_,rfl,aB (j:=2) rfl,rfl,_,rfl,_,congrArg (fun b=>[D.bl b,D.int i]) (seq rfl),?_⟩;refine⟨_,rfl,_,_,rfl,aB (j:=1) rfl,?_⟩;dsimp only[dD];refine⟨_,rfl,3,rfl,_,rfl,?_⟩;rw[if_neg (by decide),show(3:Int)=((3:Nat):Int) from rfl,pV,<- List.map_drop,show(SX.ft x r p).jZ.drop 3=r::("at":Str)::p.w from rfl];dsimp only[dD];have no:∀ y:Str,y∈pR->y≠"at"->y ∉ r::("at":Str)::p.w:=fun y hy hy2 z=>by
   rcases List.mem_cons.mp z with z | z
   ·exact(iy hr1).nk (z ▸ hy)
   rcases List.mem_cons.mp z with z | z
   ·exact hy2 z
   ·exact(hp.wd _ z).nk hy
  refine⟨_,rfl,sz 2,sJ ⟨trivial,?_⟩⟩;refine⟨_,rfl,_,rfl,zQ (ws:=r::("at":Str)::p.w) rfl ⟨false,congrArg D.bl (show(false ^^ decide (("div":Str)∈r::("at":Str)::p.w))=false by rw[decide_eq_false (no "div" (by decide +kernel) (by decide +kernel))];rfl),trivial,?_⟩⟩;refine⟨_,rfl,_,rfl,zQ (ws:=r::("at":Str)::p.w) rfl ⟨false,congrArg D.bl (show(false ^^ decide (("mod":Str)∈r::("at":Str)::p.w))=false by rw[decide_eq_false (no "mod" (by decide +kernel) (by decide +kernel))];rfl),trivial,?_⟩⟩;refine⟨_,rfl,_,rfl,true,congrArg D.bl (decide_eq_true (by rw[List.length_map];show((1:Nat):Int) < ((p.w.length+2:Nat):Int);omega)),?_⟩;dsimp only;rw[if_pos rfl];refine⟨_,rfl,_,_,rfl,aB (j:=1) rfl,rfl,true,tT,?_⟩;dsimp only;rw[if_pos rfl];refine⟨_,rfl,_,_,rfl,mh,r,rfl,by have:=bJ hr1;omega,_,rfl,_,congrArg (fun b=>[D.bl b,D.int i]) hr1,?_⟩;refine⟨_,rfl,_,rfl,_,rfl,_,_,rfl,mh,_,rfl,2,rfl,_,rfl,?_⟩;rw[if_neg (by decide),show(2:Int)=((2:Nat):Int) from rfl,pV,<- List.map_drop];refine⟨_,rfl,p.p,p.r,p.ws,_,rfl,kp.len,kp.fst,kp.pl,kp.pc,kp.bd,_,[.int i,.str x,.str r,pM A (oM p.ws)],rfl,rfl,aD,made (iA ?_)⟩;unfold SX.st ud at h;exact h
 | _=>cases hk0
noncomputable abbrev BQ:Stmt:=top 59
theorem nZ:au ["words","at","names","rest","place"] ["words","at"] (ai BQ):=dM
theorem Rx (F:cj K "read_call" "read_call" BQ f fd)(J:Fx K mg A)(GD:O0 P w K mg base k A)(G7:C6 P w K mg base k A)(ak:aE P w K mg base k)(bW:eG P w K mg base k):aN P w K mg base cG (k+1) f fd ["words","at"] (br K (DE A a04)):=by
 refine bD F nZ fun cdv B outer s H E hr=>?_;rw[show ao BQ=[_,_,_,_,_] from rfl];refine⟨_,(qs (av (i:=2) nZ.nd (dG aa)) (qs (av (i:=3) nZ.nd (eZ false (af 0) (aX ah) bq)) (qs (bT (aH Gm aq (af 3) (by rfl)) (qs (av (i:=4) nZ.nd (MQ (af 3) (qa aq aa))) (qs (av (i:=2) nZ.nd (eZ false (af 3) bq (aX (af 4)))) (qs (av (i:=3) nZ.nd (eZ false (af 3) (aX (aJ aG (af 4) ah)) bq)) (bM (cD (aj ak hr rfl (qa (iW (cE D9 (aK cV (by rfl) J.cW PySem.boot_len (qa (af 2) aa)) ah (aA _)) (ki (aK (AH rfl) (by rfl) J.AM boot_all (qa (dg (bf ["word"] [] [] rfl (by decide +kernel) (by decide +kernel) (by with_unfolding_all rfl) (by exact trivial) (by rfl) rfl (by rfl)) rfl (qi (af 2)) (fun _ _ _ _=>(qx (i:=0) (show List.Nodup (["word"]:List Str) by decide +kernel))) (fun _ _ _ _=>cI) (fun _ _ _ _=>(aj bW hr rfl (qa (af 0) aa)))) aa)))) (qa (af 1) aa)))))))) bh) (qs (cD (aj ak hr rfl (qa (iW (cE D9 (aK cV (by rfl) J.cW PySem.boot_len (qa (af 3) aa)) ah (aA _)) (ki (aj bW hr rfl (qa (aS (af 3) ah) aa)))) (qa (af 1) aa)))) (bM (az (r8 GD hr rfl (qa (af 1) (qa (af 2) (qa (aS (af 3) ah) (qa (aj G7 hr rfl (qa (eZ false (af 3) (aX ah) bq) (qa (af 1) aa))) aa))))))))))),fun ds S kk hc hd h=>?_⟩;obtain⟨x,i,rfl,hk0,ok,h⟩:=h;cases x with
 | cl ns hp g =>
  unfold SX.ok at ok;obtain⟨hns,lns,hhp,lg,hg⟩:=ok;have gl:=Jh hg;have gw:=GH hg;have gs:=ua (l:=sM g) (M:=31) fun x hx=>(gw x hx).2.2.2;have done:∀ δ,δ[1]?=some (some (D.int i))->δ[2]?=some (some (D.lst (ns.map T.str)))->δ[3]?=some (some (D.lst ((hp::sM g).map T.str)))->(uZ (FJ (kU U6 (bA (L6 (qc (CI fun i j=>decide (j < i)) (L5 RO (bA (cQ 3) eS)) (xg (D.int 0))) (kU U9 (bA (qc WX (cQ 3) (xg (D.int 0))) eS))) (bA (cQ 1) eS)))) (HY (w9 A.eF (Io A) (bA (cQ 1) (bA (cQ 2) (bA (qc WX (cQ 3) (xg (D.int 0))) (bA (kU (Mz A) (bA (LX false (cQ 3) (YF (xg (D.int 1))) LY) (bA (cQ 1) eS))) eS))))))) (endsF S kk) δ S:=fun δ e1 e2 e3=>by
   refine⟨_,e3,_,rfl,true,congrArg D.bl (decide_eq_true (by simp)),?_⟩;rw[if_pos rfl];refine⟨_,e3,_,_,rfl,mh,hp,rfl,by have:=bJ hhp;omega,_,e1,_,congrArg (fun b=>[D.bl b,D.int i]) hhp,?_⟩;refine⟨_,e1,_,e2,_,e3,_,_,rfl,mh,_,e3,1,rfl,_,rfl,?_⟩;rw[if_neg (by decide),List.map_cons,ji];refine⟨_,e1,sM g,g,_,rfl,?_,⟨by omega,by omega⟩,_,_,_,_,ns,hp,g.map (fun s=>oM s.ws),rfl,aD,rfl,by rw[List.map_map];rfl,made (iA ?_)⟩
   ·cases g with
    | nil=>exact .inl ⟨rfl,rfl⟩
    | cons s r=>exact .inr ⟨GI (by simp),by simp,fun s hs=>(hg s hs).ok,dw (by rw[sI,GJ])⟩
   unfold SX.st ud at h;exact h
  refine⟨_,rfl,sz 0,?_⟩;dsimp only[dD];refine⟨_,rfl,1,rfl,_,rfl,?_⟩;rw[if_neg (by decide)];unfold SX.jZ;rw[List.map_cons,ji];dsimp only[dD];by_cases hn0:ns=[]
  ·subst hn0;have no:("=":Str) ∉ Pg []++hp::sM g:=fun z=>by
    rcases List.mem_cons.mp (show("=":Str)∈hp::sM g from z) with z | z
    ·exact(iy hhp).nw "=" (by decide +kernel) z.symm
    ·exact(gw _ z).1 rfl
   refine⟨_,rfl,zQ (ws:=Pg []++hp::sM g) rfl ⟨false,congrArg D.bl (show(false ^^ decide (("=":Str)∈Pg []++hp::sM g))=false by rw[decide_eq_false no];rfl),?_⟩⟩;exact done _ rfl rfl rfl
  ·have ec:Pg ns++hp::sM g=ns++("=":Str)::(hp::sM g):=by unfold Pg;rw[if_neg hn0];simp
   rw[ec];have nn:("=":Str) ∉ ns:=fun z=>(iy (hns _ z)).nw "=" (by decide +kernel) rfl;refine⟨_,rfl,zQ (ws:=ns++("=":Str)::(hp::sM g)) rfl ⟨true,congrArg D.bl (show(false ^^ decide (("=":Str)∈ns++("=":Str)::(hp::sM g)))=true by simp),?_⟩⟩;dsimp only;rw[if_pos rfl];refine⟨_,rfl,⟨rfl,_,rfl⟩,ns,hp::sM g,rfl,nn,?_⟩;dsimp only[dD];refine⟨_,rfl,_,rfl,_,rfl,_,rfl,?_⟩;rw[if_neg (by decide),Jt,<- List.map_take,List.take_left];dsimp only[dD];refine⟨_,rfl,_,rfl,_,rfl,_,rfl,?_⟩;rw[if_neg (by decide),show(ns.length:Int)+1=((ns.length+1:Nat):Int) from rfl,pV,<- List.map_drop,<- List.drop_drop,List.drop_left];dsimp only[dD];have l0:0 < ns.length:=List.length_pos_iff.mpr hn0;refine⟨_,rfl,_,rfl,true,congrArg D.bl (decide_eq_true (by simpa using l0)),?_⟩;rw[if_pos rfl];refine⟨_,rfl,nq (gi T.str (fun x=>T.bl (isNm x)) trivial (j4 (by omega)) (fun x hx k' hk=>?_) ?_)⟩
   ·exact⟨_,rfl,x,rfl,by have:=bJ (hns x hx);omega,_,rfl,hk⟩
   refine⟨ns.map isNm,by rw[List.map_map];rfl,_,rfl,_,congrArg (fun b=>[D.bl b,D.int i]) (by show(ns.map isNm).all _root_.id=true;rw[List.all_map,List.all_eq_true];exact hns),?_⟩;exact done _ rfl rfl rfl
 | _=>cases hk0
noncomputable abbrev BF:Stmt:=top 53
theorem Bl:au ["source","at","words"] ["source"] (ai BF):=dM
theorem Rl (F:cj K "read_step" "read_step" BF f fd)(J:Fx K mg A)(EX:Aa P w K mg base k A)(ak:aE P w K mg base k)(Cs:Ln P w K mg base k A)(jj:kK P w K mg base k A)(EW:z9 P w K mg base k A)(G4:C3 P w K mg base k A)(G5:C4 P w K mg base k A)(gf:jr P w K mg base k A):aN P w K mg base cG (k+1) f fd ["source"] (br K (Tw A)):=by
 refine bD F Bl fun cdv B outer s H E hr=>?_;rw[show ao BF=[_,_,_,_,_,_,_,_,_,_] from rfl];refine⟨_,(qs (av (i:=1) Bl.nd (aO (af 0) rfl)) (qs (av (i:=2) Bl.nd (aR (af 0) gf hr)) (qs (bT (aH (cP 40 (uE hr)) (aS (af 2) ah) aq (aA _)) (bM (az (aj G5 hr rfl (qa (af 2) (qa (af 1) aa))))) bh) (qs (bT (aH (cP 40 (uE hr)) (aS (af 2) ah) aq (aA _)) (bM (az (aj G4 hr rfl (qa (af 2) (qa (af 1) aa))))) bh) (qs (bT (aH (cP 40 (uE hr)) (aS (af 2) ah) aq (aA _)) (bM (az (aj EW hr rfl (qa (af 2) (qa (af 1) aa))))) bh) (qs (bT (aH (cP 40 (uE hr)) (aS (af 2) ah) aq (aA _)) (bM (az (r8 Cs hr rfl (qa (af 1) (qa (aj jj hr rfl (qa (eZ false (af 2) (aX ah) bq) (qa (af 1) aa))) aa))))) bh) (qs (bT (aH (cP 40 (uE hr)) (aS (af 2) ah) aq (aA _)) wG bh) (qs (bT (aH (cP 40 (uE hr)) (aS (af 2) ah) aq (aA _)) wG bh) (qs (cD (aj ak hr rfl (qa (cE (cP 40 (uE hr)) (aS (af 2) ah) aq (aA _)) (qa (af 1) aa)))) (bM (az (aj EX hr rfl (qa (af 2) (qa (af 1) aa)))))))))))))),fun ds S kk hc hd h=>?_⟩;obtain⟨n,R,i,x,rfl,h1,hw,ok,h⟩:=h;have lt:=IY h1;refine⟨_,rfl,_,_,_,_,aT h1,rfl,?_⟩;dsimp only[dD];refine⟨_,rfl,0,_,_,by decide,aT h1,by decide +kernel,n,R,i,_,rfl,h1,hw,?_⟩;dsimp only[dD];cases x with
 | lt x a =>
  exact⟨_,rfl,_,_,rfl,mh,rfl,true,tT,_,rfl,_,rfl,.lt x a,i,rfl,trivial,ok,iA h⟩
 | dv x wd a b =>
  exact⟨_,rfl,_,_,rfl,mh,rfl,true,tT,_,rfl,_,rfl,.dv x wd a b,i,rfl,trivial,ok,iA h⟩
 | ft x r p =>
  exact⟨_,rfl,_,_,rfl,mh,rfl,true,tT,_,rfl,_,rfl,.ft x r p,i,rfl,trivial,ok,iA h⟩
 | pt r p s =>
  exact⟨_,rfl,_,_,rfl,mh,rfl,false,tF,_,rfl,_,_,rfl,mh,rfl,true,tT,_,rfl,_,rfl,.pt r p s,i,rfl,trivial,ok,iA h⟩
 | mq r z =>
  exact⟨_,rfl,_,_,rfl,mh,rfl,false,tF,_,rfl,_,_,rfl,mh,rfl,false,tF,_,rfl,_,_,rfl,mh,rfl,true,tT,_,rfl,_,rfl,.mq r z,i,rfl,trivial,ok,iA h⟩
 | cm c =>
  refine⟨_,rfl,_,_,rfl,mh,rfl,false,tF,_,rfl,_,_,rfl,mh,rfl,false,tF,_,rfl,_,_,rfl,mh,rfl,false,tF,_,rfl,_,_,rfl,mh,rfl,true,tT,_,rfl,_,rfl,1,rfl,_,rfl,?_⟩;rw[if_neg (by decide)];unfold SX.jZ zx;rw[List.map_cons,ji];unfold SX.ok at ok;refine⟨_,rfl,c,_,rfl,ok.1,ok.2,ok.b,by have:=ok.ln;omega,_,[.int i,jK A c.cd],rfl,rfl,aD,made (iA ?_)⟩;unfold SX.st ud at h;exact h
 | cl ns hp g =>
  exact⟨_,rfl,_,_,rfl,mh,rfl,false,tF,_,rfl,_,_,rfl,mh,rfl,false,tF,_,rfl,_,_,rfl,mh,rfl,false,tF,_,rfl,_,_,rfl,mh,rfl,false,tF,_,rfl,_,_,rfl,mh,rfl,false,tF,_,rfl,_,_,rfl,mh,rfl,false,tF,_,rfl,_,_,rfl,mh,rfl,_,rfl,_,congrArg (fun b=>[D.bl b,D.int i]) (seq rfl),_,rfl,_,rfl,.cl ns hp g,i,rfl,trivial,ok,iA h⟩
noncomputable abbrev BE:Stmt:=top 52
theorem Iu:au ["source","steps"] ["source"] (ai BE):=dM
theorem Rk (F:cj K "read_steps" "read_steps" BE f fd)(J:Fx K mg A)(je:lR P w K mg base k A)(EV:z7 P w K mg base k A):aN P w K mg base cG (k+1) f fd ["source"] (br K (Tv A)):=by
 refine bD F Iu fun cdv B outer s H E hr=>?_;rw[show ao BE=[_,_,_] from rfl];refine⟨_,(qs (av (i:=1) Iu.nd (ig aa)) (qs (j9 PassesOwn.never (aH IV (aR (af 0) je hr) (aP (qa aq (qa aq aa))) (by rfl)) (bM (cD (kj (af 1) (qa (aj EV hr rfl (qa (af 0) aa)) aa))))) (bM (az (af 1))))),fun ds S kk hc hd h=>?_⟩;obtain⟨n,R,i,l,r,rfl,h1,hd1,hok,hl,h⟩:=h;have lt:=IY h1;have e0:S=S.set n (oi A R i):=(set_same h1).symm;refine⟨[],rfl,sz 0,?_⟩;dsimp only[dD];refine⟨fun m δ S'=>∃ l1 l2,l=l1++l2/\m=l2.length/\δ=[some (D.ob n),some (D.ob (S.length+0))]/\S'=S.set n (oi A R (i+l1.length))++[O.lst ((vA i l1).map (ud A))],⟨_,[],l,rfl,rfl,rfl,?_⟩,?_⟩
 ·show S++[O.lst []]=S.set n (oi A R i)++[O.lst []];rw[<- e0]
 rintro m δ S' ⟨l1,l2,rfl,rfl,rfl,rfl⟩;have d2:R.drop (i+l1.length)=l2.map SX.jZ++[("end":Str)]::r:=by
  have:=Zu (l:=l1.map SX.jZ) (r:=l2.map SX.jZ++[("end":Str)]::r) (by rw[hd1];simp);rwa [List.length_map] at this
 cases l2 with
 | nil =>
  obtain⟨q1,q2,q3⟩:=Vr (show R.drop (i+l1.length)=[("end":Str)]::r from d2);refine⟨_,rfl,0,_,_,by decide,aT (gA lt),by decide +kernel,n,R,_,rfl,gA lt,(fun _=>by rw[q2];simp),_,rfl,sz 2,_,_,_,rfl,rfl,rfl,rfl,false,congrArg D.bl (by rw[q2];exact(by decide +kernel:(true ^^ K2 (V.str (Str.ofString "end")) [V.str (Str.ofString "end"),V.str (Str.ofString "else")])=false)),?_⟩;dsimp only;rw[if_neg (by decide)];rw[List.append_nil] at h;exact⟨_,rfl,JD (JB hc) Ar rfl h⟩
 | cons c l2 =>
  obtain⟨q1,q2,q3⟩:=Vr (show R.drop (i+l1.length)=c.jZ::(l2.map SX.jZ++[("end":Str)]::r) from d2);have ok:=hok c (by simp);obtain⟨y,ys,ey,hy⟩:=LJ c;refine⟨_,rfl,0,_,_,by decide,aT (gA lt),by decide +kernel,n,R,_,rfl,gA lt,(fun _=>by rw[q2,ey];simp),_,rfl,sz 2,_,_,_,rfl,rfl,rfl,rfl,true,congrArg D.bl (by rw[q2,ey];show(true ^^ K2 (V.str y) ([("end":Str),"else"].map V.str))=true;rw[ia,decide_eq_false hy];rfl),?_⟩;dsimp only;rw[if_pos rfl];refine⟨fun δ' S'=>δ'=[some (D.ob n),some (D.ob (S.length+0))]/\S'=S.set n (oi A R (i+(l1++[c]).length))++[O.lst ((vA i (l1++[c])).map (ud A))],?_,?_⟩
  ·rintro δ' S' ⟨rfl,rfl⟩;exact⟨l2.length,by simp,l1++[c],l2,by simp,rfl,rfl,rfl⟩
  refine⟨_,rfl,⟨rfl,_,fu (cu (q:=0) Ar)⟩,_,rfl,n,R,_,c,rfl,gA lt,q1,ok,?_⟩;rw[sA lt];have ll:l1.length<=100:=by simp at hl;omega
  refine⟨_,cu (q:=0) Ar,A4 (by rw[List.length_map,wm];omega),?_⟩;rw[<- Ar (S:=S) (n:=n) (o:=oi A R (i+l1.length+1)),fH];refine⟨rfl,?_⟩;rw[A7,List.length_append,List.map_append];rfl
noncomputable abbrev BL:Stmt:=top 49
theorem kW:au ["source","at","words","answers","needs","gives","steps"] ["source"] (ai BL):=dM
theorem Rt (F:cj K "read_helper" "read_helper" BL f fd)(J:Fx K mg A)(yo:Hr P w K mg base k A)(zO:vV P w K mg base k A)(CP:yY P w K mg base k A)(lW:tO P w K mg base k A)(yM:uQ P w K mg base k A)(ak:aE P w K mg base k)(lK:tQ P w K mg base k)(bW:eG P w K mg base k)(gf:jr P w K mg base k A):aN P w K mg base cG (k+1) f fd ["source"] (br K (Zi A)):=by
 refine bD F kW fun cdv B outer s H E hr=>?_;rw[show ao BL=[_,_,_,_,_,_,_,_,_,_] from rfl];refine⟨_,(qs (av (i:=1) kW.nd (aO (af 0) rfl)) (qs (av (i:=2) kW.nd (aR (af 0) gf hr)) (qs (cD (aj ak hr rfl (qa (iW (cE (cP 40 (uE hr)) (aS (af 2) ah) aq (aA _)) (iW (cE D9 (aK cV (by rfl) J.cW PySem.boot_len (qa (af 2) aa)) ah (aA _)) (ki (aj bW hr rfl (qa (aS (af 2) ah) aa))))) (qa (af 1) aa)))) (qs (cD (aj ak hr rfl (qa (aK (AH rfl) (by rfl) J.AM boot_all (qa (dg (bf ["word"] [] [] rfl (by decide +kernel) (by decide +kernel) (by with_unfolding_all rfl) (by exact trivial) (by rfl) rfl (by rfl)) rfl (qi (eZ false (af 2) (aX ah) bq)) (fun _ _ _ _=>(qx (i:=0) (show List.Nodup (["word"]:List Str) by decide +kernel))) (fun _ _ _ _=>cI) (fun _ _ _ _=>(aj lK hr rfl (qa (af 0) aa)))) aa)) (qa (af 1) aa)))) (qs (av (i:=3) kW.nd (aj yM hr rfl (qa (af 0) aa))) (qs (av (i:=4) kW.nd (aj lW hr rfl (qa (af 0) (qa aq aa)))) (qs (av (i:=5) kW.nd (aj lW hr rfl (qa (af 0) (qa aq aa)))) (qs (av (i:=6) kW.nd (aj CP hr rfl (qa (af 0) aa))) (qs (cD (qo (af 0) zO hr (qa aq aa))) (bM (az (r8 yo hr rfl (qa (af 1) (qa (aS (af 2) ah) (qa (eZ false (af 2) (aX ah) bq) (qa (af 3) (qa (af 4) (qa (af 5) (qa (af 6) aa))))))))))))))))))),fun ds S kk hc hd h=>?_⟩;obtain⟨n,R,i,x,r,rfl,h1,hd1,ok,h⟩:=h;have lt:=IY h1;unfold HX.rows at hd1;rw[List.cons_append] at hd1;obtain⟨p1,_,d2⟩:=Vr hd1;rw[List.cons_append] at d2;obtain⟨p2,_,d3⟩:=Vr d2;refine⟨_,rfl,_,_,_,_,aT h1,rfl,?_⟩;dsimp only[dD];refine⟨_,rfl,0,_,_,by decide,aT h1,by decide +kernel,n,R,i,_,rfl,h1,p1,?_⟩;dsimp only[dD];refine⟨_,rfl,_,_,rfl,mh,rfl,true,tT,_,rfl,_,rfl,true,congrArg D.bl (decide_eq_true (by simp;omega)),_,rfl,_,_,rfl,aB (j:=1) rfl,x.name,rfl,by have:=bJ ok.nm;omega,_,rfl,_,congrArg (fun b=>[D.bl b,D.int i]) ok.nm,?_⟩;refine⟨_,rfl,2,rfl,_,rfl,?_⟩;have c2:tu ((("helper":Str)::x.name::x.ps).map T.str) (some 2) none=x.ps.map T.str:=by
  rw[show(2:Int)=((2:Nat):Int) from rfl,pV,<- List.map_drop];rfl
 have lp:=ok.lp;rw[if_neg (by decide),c2];refine nq (gi T.str (fun x=>T.bl (jU x)) trivial (j4 (by omega)) (fun z hz k' hk=>?_) ?_)
 ·exact⟨_,rfl,z,rfl,by have:=(ok.ps z hz).2;omega,_,rfl,hk⟩
 refine⟨x.ps.map jU,by rw[List.map_map];rfl,_,rfl,_,congrArg (fun b=>[D.bl b,D.int i]) (by show(x.ps.map jU).all _root_.id=true;rw[List.all_map,List.all_eq_true];exact fun z hz=>(ok.ps z hz).1),?_⟩;refine⟨_,rfl,n,R,i+1,x.an,rfl,ou lt,p2,ok.an0,ok.an,ok.la,?_⟩;rw[List.set_set];dsimp only[dD];have n1:∃ y ys r',x.gv.map (zx "gives")++(x.st.map SX.jZ++[[("end":Str)]])++r=(y::ys)::r'/\y≠"needs":=by
  cases x.gv with
  | nil =>
   cases x.st with
   | nil=>exact⟨_,_,_,rfl,by decide +kernel⟩
   | cons s l =>
    cases s <;> exact⟨_,_,_,rfl,by decide +kernel⟩
  | cons c l=>exact⟨_,_,_,rfl,by decide +kernel⟩
 obtain⟨y,ys,r',e1,hy⟩:=n1;have n2:∃ y ys r',(x.st.map SX.jZ++[[("end":Str)]])++r=(y::ys)::r'/\y≠"gives":=by
  cases x.st with
  | nil=>exact⟨_,_,_,rfl,by decide +kernel⟩
  | cons s l =>
   cases s <;> exact⟨_,_,_,rfl,by decide +kernel⟩
 obtain⟨y2,ys2,r2,e2,hy2⟩:=n2;refine⟨_,rfl,n,R,i+1+1,"needs",x.nd,y,ys,r',rfl,ou lt,by rw[d3,<- e1];simp,hy,ok.nd,ok.ln,?_⟩;rw[List.set_set];dsimp only[dD];have d4:=Zu (l:=x.nd.map (zx "needs")) (r:=x.gv.map (zx "gives")++(x.st.map SX.jZ++[[("end":Str)]])++r) (by rw[d3];simp);rw[List.length_map] at d4;refine⟨_,rfl,n,R,_,"gives",x.gv,y2,ys2,r2,rfl,ou lt,by rw[d4,<- e2];simp,hy2,ok.gv,ok.lg,?_⟩;rw[List.set_set];dsimp only[dD];have d5:=Zu (l:=x.gv.map (zx "gives")) (r:=(x.st.map SX.jZ++[[("end":Str)]])++r) (by rw[d4];simp);rw[List.length_map] at d5;refine⟨_,rfl,n,R,_,x.st,r,rfl,ou lt,by rw[d5];simp,ok.st,ok.ls,?_⟩;rw[List.set_set];dsimp only[dD];have d6:=Zu (l:=x.st.map SX.jZ) (r:=[("end":Str)]::r) (by rw[d5];simp);rw[List.length_map] at d6;refine⟨_,rfl,0,_,_,by decide,aT (ou lt),by decide +kernel,n,R,_,_,rfl,ou lt,(Vr d6).1,?_⟩;rw[List.set_set];refine⟨_,rfl,_,rfl,_,_,rfl,aB (j:=1) rfl,_,rfl,2,rfl,_,rfl,?_⟩;rw[if_neg (by decide),c2];have ln:=ok.ln;have lg:=ok.lg;refine⟨_,rfl,_,rfl,_,rfl,_,rfl,_,_,_,_,_,_,x.hl i,rfl,aD,rfl,rfl,rfl,rfl,by rw[xm];rfl,by show(Dg _ _).length<=100;rw[nW];omega,by show(Dg _ _).length<=100;rw[nW];omega,made (iA ?_)⟩;have e:i+x.rows.length=i+1+1+x.nd.length+x.gv.length+x.st.length+1:=by unfold HX.rows;simp;omega
 rw[e] at h;exact h
noncomputable abbrev BN:Stmt:=top 42
theorem rT:au ["text","rows","behind","source","helpers"] ["text"] (ai BN):=dM
theorem Ru (F:cj K "read" "read" BN f fd)(J:Fx K mg A)(ux:E7 P w K mg base k A)(ak:aE P w K mg base k)(pW:vW P w K mg base k A)(GB:OY P w K mg base k A):aN P w K mg base cG (k+1) f fd ["text"] (br K (Ze A)):=by
 refine bD F rT fun cdv B outer s H E hr=>?_;rw[show ao BN=[_,_,_,_,_,_,_] from rfl];refine⟨_,(qs (av (i:=1) rT.nd (wH true (af 0) (qa aq aa))) (qs (av (i:=2) rT.nd (ZH (af 1))) (qs (av (i:=3) rT.nd (TV GB hr rfl (qa (af 1) aa))) (qs (av (i:=4) rT.nd (ig (qa (aj pW hr rfl (qa (af 3) aa)) aa))) (qs (j9 PassesOwn.never (aH uu (aO (af 3) rfl) (aK cV (by rfl) J.cW PySem.boot_len (qa (af 1) aa)) (aA _)) (bM (cD (kj (af 4) (qa (aj pW hr rfl (qa (af 3) aa)) aa))))) (qs (cD (aj ak hr rfl (qa (cE (cP 40 (uE hr)) (af 2) aq (aA _)) (qa (aO (af 3) rfl) aa)))) (bM (az (r8 ux hr rfl (qa (af 4) aa)))))))))),fun ds S kk hc hd h=>?_⟩;obtain⟨t,xs,x,rfl,lt,Pe,hl,hb,hr1,ok,h⟩:=h;refine⟨_,rfl,rfl,rfl,by rw[sizeLine_eq];omega,?_⟩;unfold newL;rw[if_pos rfl,Pe];dsimp only[dD];refine⟨_,rfl,⟨rfl,_,fu aD⟩,xs.map T.str,T.str "",by rw[aD,List.map_append];rfl,?_⟩;rw[cC];dsimp only[dD];refine⟨_,rfl,_,_,xs,rfl,aD,Tc (show xq (S++[O.lst (xs.map T.str)]) (.ob S.length)=_ from fu aD),hl,hb,rfl,?_⟩;rw[cC,hr1];dsimp only[dD];refine⟨_,rfl,_,x.rows,0,x,[],rfl,aD,by simp,ok,_,rfl,sz 1,?_⟩;rw[cC];dsimp only[dD];refine⟨fun m δ S'=>m=0/\δ=[some (D.str t),some (D.ob S.length),some (D.str ""),some (D.ob (S++[O.lst (xs.map T.str)]).length),some (D.ob ((S++[O.lst (xs.map T.str)])++[oi A x.rows (0+x.rows.length)]).length)]/\S'=((S++[O.lst (xs.map T.str)])++[oi A x.rows (0+x.rows.length)])++[O.lst [Pf A (x.hl 0)]],⟨_,rfl,rfl,rfl⟩,?_⟩;rintro m δ S' ⟨rfl,rfl,rfl⟩;have g1:∀ loc:aY,(((S++[O.lst (xs.map T.str)])++[oi A x.rows (0+x.rows.length)])++loc)[(S++[O.lst (xs.map T.str)]).length]?=some (oi A x.rows (0+x.rows.length)):=fun loc=>by rw[List.getElem?_append_left (by simp)];exact aD
 have g0:∀ loc:aY,(((S++[O.lst (xs.map T.str)])++[oi A x.rows (0+x.rows.length)])++loc)[S.length]?=some (O.lst (xs.map T.str)):=fun loc=>by simp
 have lr:xs.length=x.rows.length:=by have:=congrArg List.length hr1;simpa using this
 refine⟨_,rfl,_,_,_,_,aT (g1 _),rfl,_,rfl,_,fu (g0 _),false,congrArg D.bl (decide_eq_false (by rw[List.length_map];omega)),?_⟩;dsimp only;rw[if_neg (by decide)];refine⟨_,rfl,rfl,_,rfl,_,_,_,_,aT (g1 _),rfl,_,congrArg (fun b=>[D.bl b,_]) (seq rfl),?_⟩;refine⟨_,rfl,_,_,[x.hl 0],rfl,aD,?_,made ?_⟩
 ·exact Tc (show xq (((S++[O.lst (xs.map T.str)])++[oi A x.rows (0+x.rows.length)])++[O.lst [Pf A (x.hl 0)]]) (.ob ((S++[O.lst (xs.map T.str)])++[oi A x.rows (0+x.rows.length)]).length)=_ from fu aD)
 ·rw[List.append_assoc,List.append_assoc];exact Ss hc h
noncomputable abbrev n8:Stmt:=top 73
theorem xB:au ["_law_cell","_law_k","_law_mix"] ["_law_cell","_law_k"] (ai n8):=dM
theorem Gi (F:cj K "_law_mixed" "_law_mixed" n8 f fd)(J:Fx K mg A) :aN P w K mg base cG (k+1) f fd ["_law_cell","_law_k"] (br K Tz):=by
 refine bD F xB fun cdv B outer s H E hr=>?_;rw[show ao n8=[_,_] from rfl];refine⟨_,(qs (av (i:=2) xB.nd (aJ mY (aJ pP (aJ aG (aJ aG (af 0) (aJ pP ah (af 1))) ah) ah) ah)) (bM (az (aJ mY (aJ aG (aJ pP (af 2) (af 2)) (aJ pP ah (af 2))) ah)))),fun ds S kk hc hd h=>?_⟩;obtain⟨c,j,rfl,h⟩:=h;refine⟨_,rfl,_,rfl,.inl ⟨by decide,by decide⟩,.inr ⟨by decide,by decide⟩,by decide,?_⟩;have h1:=Int.emod_nonneg ((c+7919*j+11)*48271) (b:=2147483647) (by decide);have h2:=Int.emod_lt_of_pos ((c+7919*j+11)*48271) (b:=2147483647) (by decide);exact⟨_,rfl,_,rfl,.inl ⟨by omega,by omega⟩,_,rfl,.inl ⟨by decide,by decide⟩,by decide,iA (h _ (Int.emod_nonneg _ (by decide)) (Int.emod_lt_of_pos _ (by decide)))⟩
noncomputable abbrev jA:Stmt:=top 72
theorem kX:au ["_law_script","_law_k","_law_cell"] ["_law_script","_law_k"] (ai jA):=dM
theorem Cb (F:cj K "_law_cell_at" "_law_cell_at" jA f fd)(J:Fx K mg A)(nD:p6 P w K mg base k):aN P w K mg base cG (k+1) f fd ["_law_script","_law_k"] (br K MC):=by
 refine bD F kX fun cdv B outer s H E hr=>?_;rw[show ao jA=[_,_,_] from rfl];refine⟨_,(qs (av (i:=2) kX.nd ah) (qs (bT (aH uu (af 1) (aK cV (by rfl) J.cW PySem.boot_len (qa (af 0) aa)) (aA _)) (bM (av (i:=2) kX.nd (aS (af 0) (af 1)))) bh) (bM (az (aj nD hr rfl (qa (af 2) (qa (aJ aG ah (af 1)) aa))))))),fun ds S kk hc hd h=>?_⟩;obtain⟨l,j,rfl,h⟩:=h;refine⟨_,rfl,_,rfl,_,rfl,?_⟩;by_cases hj:j < l.length
 ·exact⟨true,congrArg D.bl (decide_eq_true (by rw[List.length_map];omega)),_,rfl,_,rfl,_,_,rfl,aB (by rw[List.getElem?_map,List.getElem?_eq_getElem hj];rfl),_,rfl,_,rfl,_,_,rfl,fun r _ _=>iA (h r)⟩
 ·exact⟨false,congrArg D.bl (decide_eq_false (by rw[List.length_map];omega)),_,rfl,_,rfl,_,_,rfl,fun r _ _=>iA (h r)⟩
noncomputable abbrev rY:Stmt:=top 74
theorem JZ:au ["_law_draw","_law_size"] ["_law_draw","_law_size"] (ai rY):=dM
theorem Kf (F:cj K "_law_next" "_law_next" rY f fd)(J:Fx K mg A)(nD:p6 P w K mg base k):aN P w K mg base cG (k+1) f fd ["_law_draw","_law_size"] (br K Zl):=by
 refine bD F JZ fun cdv B outer s H E hr=>?_;rw[show ao rY=[_,_] from rfl];refine⟨_,(qs (Qt (af 0) ah ah N3) (bM (az (aJ mY (aJ Nq (aj nD hr rfl (qa (aS (af 0) ah) (qa (aS (af 0) ah) aa))) ah) (af 1))))),fun ds S kk hc hd h=>?_⟩;obtain⟨d,n,rfl,hd,hn,h⟩:=h;have hlt:=hd.lt;obtain⟨c,m,e0⟩:=hd;refine⟨_,rfl,d,1,_,_,rfl,rfl,e0,rfl,1,_,rfl,e0,by show 1 < 2;decide,_,rfl,_,_,Ic (ou hlt),rfl,_,rfl,_,_,Ic (ou hlt),rfl,_,_,rfl,fun r _ _=>⟨⟨by decide,by decide⟩,_,rfl,hn,?_⟩⟩;have e:((r / 7 % n).toNat:Int)=r / 7 % n:=Int.toNat_of_nonneg (Int.emod_nonneg _ (by omega));rw[<- e];exact iA (h _ _ _ (by rw[e];exact Int.emod_lt_of_pos _ hn))
noncomputable abbrev rZ:Stmt:=top 76
theorem Am:au ["_law_words"] [] (ai rZ):=dM
theorem Kg (F:cj K "_law_kept" "_law_kept" rZ f fd)(J:Fx K mg A) :aN P w K mg base cG (k+1) f fd [] (br K Mx):=by
 refine bD F Am fun cdv B outer s H E hr=>?_;rw[show ao rZ=[_,_] from rfl];refine⟨_,(qs (av (i:=0) Am.nd (B0 (xs:=["helper","answers","needs","gives","end","let","div","mod","put","row","at","if","else"]) rfl)) (bM (az (aJ aG (af 0) (B0 (xs:=["while","holds","falls","call","claim","and","or","not"]) rfl))))),fun ds S kk hc hd h=>?_⟩;obtain⟨rfl,h⟩:=h;refine⟨sz 13,_,rfl,sz 8,_,_,rfl,rfl,sz 21,iA ?_⟩;unfold Lr nh at h;rw[List.map_append] at h;exact h
noncomputable abbrev n6:Stmt:=top 75
theorem bO:au ["_law_draw","_law_many","_law_some","_law_size","_law_place","_law_base","_law_shift","_law_kept_here","_law_alike","_law_names_here","_law_k","_law_word","_law_turn"] ["_law_draw","_law_many"] (ai n6):=dM
theorem Gh (F:cj K "_law_names" "_law_names" n6 f fd)(J:Fx K mg A)(G6:C5 P w K mg base k)(aF:eO P w K mg base k):aN P w K mg base cG (k+1) f fd ["_law_draw","_law_many"] (br K Mv):=by
 refine bD F bO fun cdv B outer s H E hr=>?_;rw[show ao n6=[_,_,_,_,_,_,_,_,_,_] from rfl];refine⟨_,(qs (av (i:=2) bO.nd aq) (qs (av (i:=3) bO.nd (aJ aG ah (aj aF hr rfl (qa (af 0) (qa ah aa))))) (qs (av (i:=4) bO.nd (aj aF hr rfl (qa (af 0) (qa (af 3) aa)))) (qs (DR (i:=5) bO.nd (bf ["_law_k"] ["_law_some","_law_draw"] [2,0] rfl (by decide +kernel) (by decide +kernel) (by with_unfolding_all rfl) (by exact⟨rfl,rfl,trivial⟩) (by rfl) rfl (by rfl)) rfl (uq rfl J.lM (qa (af 3) aa)) (fun _ _ _ _=>(qx (i:=0) (show List.Nodup (["_law_k","_law_some","_law_draw"]:List Str) by decide +kernel))) (fun _ _ _ _=>cI) (fun _ _ _ _=>(aS (af 1) (aj aF hr rfl (qa (af 2) (qa ah aa)))))) (qs (av (i:=6) bO.nd (aj aF hr rfl (qa (af 0) (qa ah aa)))) (qs (av (i:=7) bO.nd (B0 (xs:=["lets","ifs","order","rows","att","notes","calls","ends","outlet","bend","motor","modes"]) rfl)) (qs (av (i:=8) bO.nd (cE (cP 40 (uE hr)) (aj aF hr rfl (qa (af 0) (qa ah aa))) ah (aA _))) (qs (av (i:=9) bO.nd (ig aa)) (qs (iV PassesOwn.never rfl (uq rfl J.lM (qa (af 1) aa)) (qg (i:=10) bO.nd) (qs (BZ (aS (af 2) (aJ mY (aJ aG (af 6) (aJ pP ah (af 10))) ah)) (VB (af 5) (af 4))) (qs (av (i:=11) bO.nd (xO aq (qa (af 5) aa))) (qs (bT (qw (qk (uo (af 8)) (lE (aH uu (af 10) ah (aA _))))) (bM (av (i:=11) bO.nd (aS (af 7) (aJ mY (aJ aG (af 10) (af 6)) ah)))) bh) (qs (av (i:=12) bO.nd ah) (qs (j9 PassesOwn.never (qw (xM (aH Gm (af 11) (af 9) (by rfl)) (um (aH Gm (af 11) (Qw G6 hr rfl) (by rfl))))) (qs (Vz (i:=12) bO.nd ah N3) (bM (av (i:=11) bO.nd (aJ aG (aJ aG aq (aS (af 2) (aJ mY (af 12) ah))) (aS (af 2) (aJ mY (aJ aG (af 10) (af 12)) ah))))))) (bM (cD (kj (af 9) (qa (af 11) aa)))))))))) (bM (az (af 9)))))))))))),fun ds S kk hc hd h=>?_⟩;obtain⟨d,m,rfl,hm8,hd,h⟩:=h;have hlt:=hd.lt;refine⟨_,rfl,d,8,rfl,hd,by first | decide | omega,fun r1 cr1 mr1 hr1=>?_⟩;refine⟨_,rfl,_,rfl,d,_,rfl,hd.bS,by omega,fun r2 Uo T7 hr2=>?_⟩;rw[gh];refine⟨_,rfl,(1+(r1:Int)),rfl,by omega,by omega,?_⟩;have e1:(1+(r1:Int)).toNat=r1+1:=by omega
 rw[e1];refine G0 (n:=r1+1) hd (fun y=>∃ x,y=T.str x/\E6 x) (by omega) (fun i c9 m9 k' hk=>?_) fun ys c9 m9 hl hp=>?_
 ·refine⟨_,rfl,_,rfl,d,26,rfl,hd.bS,by first | decide | omega,fun r cr mr hr=>?_⟩;rw[gh];have h26:r < 26:=by omega
  exact⟨oF,_,OS h26,_,rfl,hk _ _ _ ⟨_,rfl,I0 h26⟩⟩
 obtain⟨ss,rfl,hsl,hs1⟩:=ex_map hp;rw[List.length_map] at hl;rw[bG];refine⟨_,rfl,d,26,rfl,hd.bS.up,by first | decide | omega,fun r3 Yh XS N4=>?_⟩;rw[sY (by rw[bG];exact hlt),gh];refine⟨sz 12,_,rfl,d,3,rfl,hd.bS.up,by first | decide | omega,fun r4 cr4 mr4 hr4=>?_⟩;rw[sY (by rw[bG];exact hlt),gh];refine⟨rfl,?_⟩;generalize hal:xor false (decide (V.int (r4:Int)=V.int 1))=al;refine⟨_,rfl,sz 0,?_⟩;rw[List.length_append,bG,List.append_assoc];generalize cr4=c;generalize mr4=m0;refine⟨_,rfl,(m:Int),rfl,by omega,by omega,?_⟩;rw[Int.toNat_natCast];refine wN (fun i δ S'=>∃ y z w,∃ ss ns:List Str,δ=[some (D.ob d),some (D.int m),some (D.str XH),some (D.int (1+(r1:Int))),some (D.int r2),some (D.ob (S.length+0)),some (D.int r3),some (D.t (Lr pS)),some (D.bl al),some (D.ob (S.length+1)),y,z,w]/\S'=bS S d c m0++[O.lst (ss.map T.str),O.lst (ns.map T.str)]/\ss.length=r1+1/\(∀ x∈ss,E6 x)/\ns.length=i/\ns.Nodup/\∀ x∈ns,isNm x=true) ⟨_,_,_,ss,[],rfl,rfl,by omega,hs1,rfl,.nil,fun _ h=>absurd h List.not_mem_nil⟩ ?_ ?_
 ·rintro i x δ S' N hx ⟨y,z,w,ss,ns,rfl,rfl,hsl,hs1,hnl,hnd,hnm⟩ hN;have hi:i < m:=by
   have:=(List.getElem?_eq_some_iff.mp hx).1;simpa using this
  rw[List.getElem?_map,List.getElem?_range hi] at hx;cases hx;refine⟨trivial,_,rfl,_,rfl,_,rfl,.inl ⟨by decide,by decide⟩,(by show(0:Int) < 26;decide),oF,_,tL _,_,rfl,_,rfl,S.length+0,r2,_,_,rfl,rfl,rfl,cu (q:=0) bG,by rw[List.length_map];omega,?_⟩;obtain⟨ss',hss,a1d,R9⟩:∃ ss':List Str,(bS S d c m0++[O.lst (ss.map T.str),O.lst (ns.map T.str)]).set (S.length+0) (O.lst ((ss.map T.str).set r2 (T.str ⟨#[97+(((r3:Int)+5*(i:Int)) % 26).toNat]⟩)))=bS S d c m0++[O.lst (ss'.map T.str),O.lst (ns.map T.str)]/\ss'.length=r1+1/\∀ x∈ss',E6 x:=by
   refine⟨ss.set r2 ⟨#[97+(((r3:Int)+5*(i:Int)) % 26).toNat]⟩,?_,by rw[List.length_set];exact hsl,fun x hx=>?_⟩
   ·rw[<- bG (S:=S) (d:=d) (c:=c) (m:=m0),fH,List.map_set];rfl
   ·rcases List.mem_or_eq_of_mem_set hx with hx | rfl
    ·exact hs1 x hx
    ·exact yi _
  rw[hss];have hjo:=WT R9 (by omega) (by omega);refine⟨rfl,_,rfl,ss',fu (cu (q:=0) bG),?_,?_⟩
  ·rw[Dr ss' fun x hx=>(R9 x hx).len];show _+_*0<=_;omega
  dsimp only[dD];show H8 _ _ _ _ _;refine Ux al (decide ((i:Int) < 12)) (fun k' hk=>⟨_,rfl,_,rfl,hk⟩) (fun k' hk=>⟨_,rfl,_,rfl,hk⟩) ?_;cases hb:(al && decide ((i:Int) < 12)) with
  | true =>
   obtain⟨x0,hx0,ex0⟩:=RU ((i:Int)+(r3:Int));refine⟨_,rfl,_,rfl,_,rfl,(by show(0:Int) < 12;decide),_,_,rfl,ex0,?_⟩;refine⟨fun mm δ S'=>∃ (t:Nat) (w:Str),mm=30 - t/\δ=[some (D.ob d),some (D.int m),some (D.str XH),some (D.int (1+(r1:Int))),some (D.int r2),some (D.ob (S.length+0)),some (D.int r3),some (D.t (Lr pS)),some (D.bl al),some (D.ob (S.length+1)),some (D.int i),some (D.str w),some (D.int t)]/\S'=bS S d c m0++[O.lst (ss'.map T.str),O.lst (ns.map T.str)]/\Yr w/\t<=10/\(1<=t->w=zt i t)/\∀ s,s+1 < t->zt i (s+1)∈ns,⟨30,0,x0,rfl,rfl,rfl,hx0,by omega,fun h=>absurd h (by decide),fun s h=>absurd h (by omega)⟩,?_⟩;rintro mm δ S' ⟨t,w,rfl,rfl,rfl,hw,ht,hz,hm⟩;have ht8:t<=9:=by
    have:=LA (k:=(i:Int)) (xs:=ns) (n:=t - 1) (by omega) fun s hs=>hm s (by omega);omega
   refine Wa (decide (w∈ns)) (decide (w∈nh)) (fun k' hk=>⟨_,rfl,_,rfl,_,_,_,rfl,rfl,Ic (cu (q:=1) bG),oA ns,_,congrArg D.bl (by rw[Bool.false_xor,wL]),hk⟩) (fun k' hk=>⟨_,rfl,rfl,_,_,_,rfl,rfl,rfl,oA nh,_,congrArg D.bl (by rw[Bool.false_xor,wL]),hk⟩) ?_;cases hb:(decide (w∈ns) || decide (w∈nh)) with
   | true =>
    refine⟨fun δ' S'=>∃ m',m' < 30 - t/\_,fun δ' S' h=>h,?_⟩;refine⟨(t:Int),rfl,1,rfl,_,rfl,_,rfl,(by show(0:Int) < 26;decide),oF,_,tL _,sz 2,_,rfl,_,rfl,_,rfl,(by show(0:Int) < 26;decide),oF,_,tL _,sz 3,30 - (t+1),by omega,t+1,zt i (t+1),rfl,rfl,rfl,Yt _ _,by omega,fun _=>rfl,fun s hs=>?_⟩;by_cases e:s+1=t
    ·have R7:=hz (by omega);rw[e,<- R7];rcases Bool.or_eq_true_iff.mp hb with h | h
     ·exact of_decide_eq_true h
     ·exact absurd (of_decide_eq_true h) (by rw[R7];exact wY _ _)
    ·exact hm s (by omega)
   | false =>
    have hb:=Bool.or_eq_false_iff.mp hb;have hwn:w ∉ ns:=of_decide_eq_false hb.1;refine⟨_,rfl,⟨rfl,_,fu (cu (q:=1) bG)⟩,_,rfl,_,cu (q:=1) bG,A4 (by rw[List.length_map];omega),?_⟩;have es:(bS S d c m0++[O.lst (ss'.map T.str),O.lst (ns.map T.str)]).set (S.length+1) (O.lst (ns.map T.str++[T.str w]))=bS S d c m0++[O.lst (ss'.map T.str),O.lst ((ns++[w]).map T.str)]:=by
     rw[<- bG (S:=S) (d:=d) (c:=c) (m:=m0),fH,List.map_append];rfl
    rw[es];refine hN _ _ ⟨_,_,_,ss',ns++[w],rfl,rfl,a1d,R9,by rw[List.length_append,hnl];rfl,?_,fun x hx=>?_⟩
    ·rw[List.nodup_append];exact⟨hnd,by simp,fun a ha b hb=>by rw[List.mem_singleton.mp hb];exact fun z=>hwn (z ▸ ha)⟩
    ·rcases List.mem_append.mp hx with hx | hx
     ·exact hnm x hx
     ·rw[List.mem_singleton.mp hx];exact T6 hw (of_decide_eq_false hb.2)
  | false =>
   refine⟨fun mm δ S'=>∃ (t:Nat) (w:Str),mm=30 - t/\δ=[some (D.ob d),some (D.int m),some (D.str XH),some (D.int (1+(r1:Int))),some (D.int r2),some (D.ob (S.length+0)),some (D.int r3),some (D.t (Lr pS)),some (D.bl al),some (D.ob (S.length+1)),some (D.int i),some (D.str w),some (D.int t)]/\S'=bS S d c m0++[O.lst (ss'.map T.str),O.lst (ns.map T.str)]/\Yr w/\t<=10/\(1<=t->w=zt i t)/\∀ s,s+1 < t->zt i (s+1)∈ns,⟨30,0,_,rfl,rfl,rfl,hjo,by omega,fun h=>absurd h (by decide),fun s h=>absurd h (by omega)⟩,?_⟩;rintro mm δ S' ⟨t,w,rfl,rfl,rfl,hw,ht,hz,hm⟩;have ht8:t<=9:=by
    have:=LA (k:=(i:Int)) (xs:=ns) (n:=t - 1) (by omega) fun s hs=>hm s (by omega);omega
   refine Wa (decide (w∈ns)) (decide (w∈nh)) (fun k' hk=>⟨_,rfl,_,rfl,_,_,_,rfl,rfl,Ic (cu (q:=1) bG),oA ns,_,congrArg D.bl (by rw[Bool.false_xor,wL]),hk⟩) (fun k' hk=>⟨_,rfl,rfl,_,_,_,rfl,rfl,rfl,oA nh,_,congrArg D.bl (by rw[Bool.false_xor,wL]),hk⟩) ?_;cases hb:(decide (w∈ns) || decide (w∈nh)) with
   | true =>
    refine⟨fun δ' S'=>∃ m',m' < 30 - t/\_,fun δ' S' h=>h,?_⟩;refine⟨(t:Int),rfl,1,rfl,_,rfl,_,rfl,(by show(0:Int) < 26;decide),oF,_,tL _,sz 2,_,rfl,_,rfl,_,rfl,(by show(0:Int) < 26;decide),oF,_,tL _,sz 3,30 - (t+1),by omega,t+1,zt i (t+1),rfl,rfl,rfl,Yt _ _,by omega,fun _=>rfl,fun s hs=>?_⟩;by_cases e:s+1=t
    ·have R7:=hz (by omega);rw[e,<- R7];rcases Bool.or_eq_true_iff.mp hb with h | h
     ·exact of_decide_eq_true h
     ·exact absurd (of_decide_eq_true h) (by rw[R7];exact wY _ _)
    ·exact hm s (by omega)
   | false =>
    have hb:=Bool.or_eq_false_iff.mp hb;have hwn:w ∉ ns:=of_decide_eq_false hb.1;refine⟨_,rfl,⟨rfl,_,fu (cu (q:=1) bG)⟩,_,rfl,_,cu (q:=1) bG,A4 (by rw[List.length_map];omega),?_⟩;have es:(bS S d c m0++[O.lst (ss'.map T.str),O.lst (ns.map T.str)]).set (S.length+1) (O.lst (ns.map T.str++[T.str w]))=bS S d c m0++[O.lst (ss'.map T.str),O.lst ((ns++[w]).map T.str)]:=by
     rw[<- bG (S:=S) (d:=d) (c:=c) (m:=m0),fH,List.map_append];rfl
    rw[es];refine hN _ _ ⟨_,_,_,ss',ns++[w],rfl,rfl,a1d,R9,by rw[List.length_append,hnl];rfl,?_,fun x hx=>?_⟩
    ·rw[List.nodup_append];exact⟨hnd,by simp,fun a ha b hb=>by rw[List.mem_singleton.mp hb];exact fun z=>hwn (z ▸ ha)⟩
    ·rcases List.mem_append.mp hx with hx | hx
     ·exact hnm x hx
     ·rw[List.mem_singleton.mp hx];exact T6 hw (of_decide_eq_false hb.2)
 ·rintro δ S' ⟨y,z,w,ss,ns,rfl,rfl,hsl,hs1,hnl,hnd,hnm⟩;rw[List.length_map,List.length_range] at hnl;exact⟨trivial,_,rfl,JD (OC hc) bG rfl (h ns c m0 hnl hnd hnm)⟩
noncomputable abbrev wC:Stmt:=top 77
theorem rV:au ["_law_draw","_law_things","_law_found","_law_k","_law_number"] ["_law_draw","_law_things"] (ai wC):=dM
theorem Nk (F:cj K "_law_sum" "_law_sum" wC f fd)(J:Fx K mg A)(aF:eO P w K mg base k):aN P w K mg base cG (k+1) f fd ["_law_draw","_law_things"] (br K Im):=by
 refine bD F rV fun cdv B outer s H E hr=>?_;rw[show ao wC=[_,_,_,_] from rfl];refine⟨_,(qs (av (i:=2) rV.nd MR) (qs (iV PassesOwn.never rfl (uq rfl J.lM (qa (aJ pP (aS (dG (qa ah (qa ah (qa ah (qa ah (qa ah (qa ah (qa ah aa)))))))) (aj aF hr rfl (qa (af 0) (qa ah aa)))) (aU AG (by rfl) J.yP boot_int (qa (cE (su 40 (uE hr)) (af 1) (dG aa) (aA _)) aa))) aa)) (qg (i:=3) rV.nd) (bM (BY (pU hr) (af 2) (aS (af 1) (aj aF hr rfl (qa (af 0) (qa (aK cV (by rfl) J.cW PySem.boot_len (qa (af 1) aa)) aa)))) (aS (dG (qa ah (qa ah (qa ah (qa (An ah) (qa (An ah) (qa ah (qa (An ah) (qa ah aa))))))))) (aj aF hr rfl (qa (af 0) (qa ah aa))))))) (qs (av (i:=4) rV.nd (aS (dG (qa ah (qa ah (qa ah (qa (An ah) (qa (aJ mX (aj aF hr rfl (qa (af 0) (qa ah aa))) ah) (qa (aj aF hr rfl (qa (af 0) (qa ah aa))) aa))))))) (aJ mY (aj aF hr rfl (qa (af 0) (qa ah aa))) ah))) (bM (az (aP (qa (aU cy (by rfl) J.b7 boot_tuple (qa (dg (bf ["_law_thing"] ["_law_found"] [2] rfl (by decide +kernel) (by decide +kernel) (by with_unfolding_all rfl) (by exact⟨rfl,trivial⟩) (by rfl) rfl (by rfl)) rfl (qi (aK (JH rfl) (by rfl) J.E1 boot_sorted (qa (af 2) aa))) (fun _ _ _ _=>(qx (i:=0) (show List.Nodup (["_law_thing","_law_found"]:List Str) by decide +kernel))) (fun _ _ _ _=>cI) (fun _ _ _ _=>(aP (qa (af 0) (qa (F7 (pU hr) (af 1) (af 0)) aa))))) aa)) (qa (af 4) aa)))))))),fun ds S kk hc hd h=>?_⟩;obtain⟨d,x,N,rfl,hd,hx,hn,h⟩:=h;have hlt:=hd.lt;have AP:∀ {a b c m:Int} {loc:aY},bS (bS S d a b++loc) d c m=bS S d c m++loc:=fun {a b c m loc}=>by rw[sY (by rw[bG];exact hlt),gh]
 refine⟨_,rfl,sz 7,_,rfl,d,7,rfl,hd.up,by first | decide | omega,fun r1 cr1 mr1 hr1=>?_⟩;rw[sY hlt];obtain⟨v,ev,hv⟩:=Vi hr1;refine⟨_,_,rfl,ev,_,rfl,_,rfl,sz 0,Jm (IZ (qv hd hx)) ⟨.inr ?_,?_⟩⟩
 ·split <;> exact⟨by decide,by decide⟩
 have hb:∃ j:Nat,(v:Int)*(if (xor true (decide (N.map T.str=[])))=true then 1 else 0)=(j:Int)/\j<=3/\(0 < j->N≠[]):=by
  cases N with
  | nil=>exact⟨0,by simp,by decide,fun h=>absurd h (by decide)⟩
  | cons a r=>exact⟨v,by simp,by omega,fun _ h=>by cases h⟩
 obtain⟨j,ej,hj2,hjN⟩:=hb;refine⟨_,rfl,?_⟩;rw[ej];refine⟨by omega,by omega,?_⟩;rw[Int.toNat_natCast];refine wN (fun i δ S'=>∃ y c m dd ss w,δ=[some (D.ob d),some x,some (D.ob S.length),y,none]/\S'=bS S d c m++[O.qC dd]/\E4 N dd ss w/\dd.length<=i/\∀ x,-3<=w x/\w x<=17) ⟨_,_,_,[],[],_,rfl,rfl,.nil,Nat.le_refl _,fun _=>⟨by decide,by decide⟩⟩ ?_ ?_
 ·rintro i z δ S' Nx hz ⟨y,c,m,dd,ss,w,rfl,rfl,tb,hl,hwb⟩ hN;have hi:=(List.getElem?_eq_some_iff.mp hz).1;rw[List.length_map,List.length_range] at hi;have hN0:=hjN (by omega);have hNl:0 < N.length:=List.length_pos_iff.mpr hN0;refine⟨trivial,_,rfl,sz 8,_,rfl,d,8,rfl,hd.bS.up,by first | decide | omega,fun r2 Uo T7 hr2=>?_⟩;rw[AP];obtain⟨v2,ev2,hv2,hb1,hb2⟩:=Xh hr2;have hs2:Small v2:=⟨by omega,by omega⟩
  refine⟨_,_,rfl,ev2,_,rfl,_,rfl,_,rfl,_,rfl,WI (IZ (qv hd hx)) ⟨d,_,rfl,hd.bS.up,by rw[List.length_map];omega,fun r3 c3 m3 N4=>?_⟩⟩;rw[AP];rw[List.length_map] at N4;obtain⟨y2,hy2,ey2⟩:=OP N4;obtain⟨ss',tb',hl'⟩:=tb.put hy2 hv2 hs2;refine N1 (IZ (qv hd hx)) ey2 ⟨S.length,dd,Sum.inr y2,_,rfl,?_,rfl,rfl,A4 (by omega),?_⟩
  ·rw[<- bG (S:=S) (d:=d) (c:=c3) (m:=m3)];exact aD
  have es:(bS S d c3 m3++[O.qC dd]).set S.length (O.qC (dput dd (Sum.inr y2) (T.int v2)))=bS S d c3 m3++[O.qC (dput dd (Sum.inr y2) (T.int v2))]:=by
   rw[<- bG (S:=S) (d:=d) (c:=c3) (m:=m3),cC]
  rw[es];exact hN _ _ ⟨_,_,_,_,ss',_,rfl,rfl,tb',by omega,fun x=>by
   split
   ·exact⟨hb1,hb2⟩
   ·exact hwb x⟩
 ·rintro δ S' ⟨y,c,m,dd,ss,w,rfl,rfl,tb,hl,hwb⟩;rw[List.length_map,List.length_range] at hl;refine⟨trivial,_,rfl,d,19,rfl,hd.bS.up,by first | decide | omega,fun r2 Uo T7 hr2=>?_⟩;rw[AP];refine⟨_,rfl,d,999999999,rfl,hd.bS.up,by first | decide | omega,fun r3 Yh XS N4=>?_⟩;rw[AP];refine⟨_,rfl,sz 6,_,rfl,d,12,rfl,hd.bS.up,by first | decide | omega,fun r4 cr4 mr4 hr4=>?_⟩;rw[AP];obtain⟨nm,enm,a4n,a4m⟩:=a25 (a:=(r2:Int) - 9) (b:=(r3:Int)) (fun v=>-9<=v/\v<=999999998) ⟨by decide,by decide⟩ ⟨by decide,by decide⟩ ⟨by decide,by decide⟩ ⟨by omega,by omega⟩ ⟨by omega,by omega⟩ (r4:Int);have hgl:∀ c m,(bS S d c m++[O.qC dd])[S.length]?=some (O.qC dd):=fun c m=>by rw[<- bG (S:=S) (d:=d) (c:=c) (m:=m)];exact aD
  refine⟨(by show(0:Int) < 6;decide),_,_,rfl,enm,_,rfl,_,ss,hgl _ _,tb.keys,tb.nd,by omega,nq ?_⟩;have hsl:=rP ss;have hsn:ss.length<=3:=by have:=congrArg List.length tb.keys;rw[List.length_map,List.length_map] at this;omega
  refine gi T.str (fun x=>pT (x,w x)) trivial (j4 (by omega)) (fun t ht k' hk=>?_) ?_
  ·exact⟨_,rfl,_,rfl,_,rfl,S.length,dd,Sum.inr t,_,rfl,hgl _ _,rfl,(tb.val t (fO.mp ht)).1,_,rfl,sz 2,_,rfl,hk⟩
  refine⟨_,rfl,_,rfl,_,rfl,sz 2,EO hc ?_⟩;have:=h _ cr4 mr4 (tb.sl (by omega) hwb a4n a4m);unfold iN at this;rw[List.map_map] at this;exact this
noncomputable abbrev gF:Stmt:=top 78
theorem d7:au ["_law_draw","_law_things","_law_deep","_law_kind","_law_sign","_law_many","_law_parts"] ["_law_draw","_law_things","_law_deep"] (ai gF):=dM
theorem iY (F:cj K "_law_condition" "_law_condition" gF f fd)(J:Fx K mg A)(cB:Dn P w K mg base k "_law_condition" ["_law_draw","_law_things","_law_deep"] (br K (nX n)))(aF:eO P w K mg base k)(gy:nJ P w K mg base k):aN P w K mg base cG (k+1) f fd ["_law_draw","_law_things","_law_deep"] (br K (xw n)):=by
 refine bD F d7 fun cdv B outer s H E hr=>?_;rw[show ao gF=[_,_,_,_,_,_] from rfl];refine⟨_,(qs (av (i:=3) d7.nd (aj aF hr rfl (qa (af 0) (qa ah aa)))) (qs (bT (qw (xM (aH (cP 40 (uE hr)) (af 2) ah (aA _)) (um (aH uu (af 3) ah (aA _))))) (qs (av (i:=4) d7.nd (aS (B0 (xs:=["<","<=","=","!=",">=",">"]) rfl) (aj aF hr rfl (qa (af 0) (qa ah aa))))) (bM (az (aP (qa aq (qa (aj gy hr rfl (qa (af 0) (qa (af 1) aa))) (qa (af 4) (qa (aj gy hr rfl (qa (af 0) (qa (af 1) aa))) aa)))))))) bh) (qs (bT (aH (cP 40 (uE hr)) (af 3) ah (aA _)) (bM (az (aP (qa aq (qa (aj cB hr rfl (qa (af 0) (qa (af 1) (qa (aJ mX (af 2) ah) aa)))) aa))))) bh) (qs (av (i:=5) d7.nd (aJ aG ah (aJ pP (aJ Nq (aj aF hr rfl (qa (af 0) (qa ah aa))) ah) (aU AG (by rfl) J.yP boot_int (qa (cE (cP 40 (uE hr)) (af 2) ah (aA _)) aa))))) (qs (Qq (i:=6) d7.nd (bf ["_law_k"] ["_law_draw","_law_things","_law_deep"] [0,1,2] rfl (by decide +kernel) (by decide +kernel) (by with_unfolding_all rfl) (by exact⟨rfl,rfl,rfl,trivial⟩) (by rfl) rfl (by rfl)) rfl (uq rfl J.lM (qa (af 5) aa)) (fun _ _ _ _=>(qx (i:=0) (show List.Nodup (["_law_k","_law_draw","_law_things","_law_deep"]:List Str) by decide +kernel))) (fun _ _ _ _=>cI) (fun _ _ _ _=>(aj cB hr rfl (qa (af 1) (qa (af 2) (qa (aJ mX (af 3) ah) aa)))))) (bM (az (aJ aG (aP (qa (aS (dG (qa aq (qa aq aa))) (aJ mY (af 3) ah)) aa)) (aU cy (by rfl) J.b7 boot_tuple (qa (af 6) aa)))))))))),fun ds S kk hc hd h=>?_⟩;obtain⟨d,x,N,hn3,rfl,dq,hx,hn,h⟩:=h;refine⟨_,rfl,d,8,rfl,dq,by first | decide | omega,fun r1 cr1 mr1 hr1=>?_⟩;dsimp only[dD];show UQ _ _ _ _ _;refine Wa (decide (n=0)) (decide ((r1:Int) < 5)) (fun k' hk=>⟨_,rfl,rfl,_,congrArg D.bl (by rw[jf,Bool.false_xor];exact decide_eq_decide.mpr (by omega)),hk⟩) (fun k' hk=>⟨_,rfl,_,rfl,hk⟩) ?_;cases hb:(decide (n=0) || decide ((r1:Int) < 5)) with
 | true =>
  refine⟨sz 6,_,rfl,d,6,rfl,dq.bS,by first | decide | omega,fun r2 Uo T7 hr2=>?_⟩;rw[gh];obtain⟨sg,hsg,esg⟩:=OP (N:=["<","<=","=","!=",">=",">"]) (r:=r2) (by simpa using hr2);refine⟨_,_,rfl,esg,_,rfl,_,rfl,d,x,N,rfl,dq.bS,qv dq hx,hn,fun s1 c m hs1=>?_⟩;rw[gh];refine⟨_,rfl,_,rfl,_,rfl,d,x,N,rfl,dq.bS,qv dq hx,hn,fun s2 c m hs2=>?_⟩;rw[gh];refine⟨_,rfl,sz 4,iA ?_⟩;have:=h (.cmp s1 sg s2) c m (by unfold zl;exact⟨hs1,hs2,hsg⟩) (by unfold dF.dep;omega) (by unfold dF.sz;unfold Lv;split <;> omega);rw[wU] at this;exact this
 | false =>
  have hb:=Bool.or_eq_false_iff.mp hb;have hn0:n≠0:=of_decide_eq_false hb.1;have hr5:¬ (r1:Int) < 5:=of_decide_eq_false hb.2;obtain⟨p,rfl⟩:∃ p,n=p+1:=⟨n - 1,by omega⟩
  have ep:((p+1:Nat):Int) - 1=(p:Int):=by omega
  have hbz:Lv p+1<=Lv (p+1)/\1+2*Lv p<=Lv (p+1)/\(p=0->1+3*Lv p<=Lv (p+1)):=by
   match p,hn3 with
   | 0,_=>exact⟨by decide,by decide,fun _=>by decide⟩
   | 1,_=>exact⟨by decide,by decide,fun h=>absurd h (by decide)⟩
   | q+2,h=>omega
  by_cases h5:r1=5
  ·refine⟨_,rfl,rfl,true,iT,_,rfl,_,rfl,_,rfl,d,x,N,by omega,congrArg (fun z:Int=>[D.ob d,x,D.int z]) ep,dq.bS,qv dq hx,hn,fun e c m he hd2 hz=>?_⟩;rw[gh];refine⟨_,rfl,sz 2,iA ?_⟩;have:=h (.neg e) c m (by unfold zl;exact he) (by unfold dF.dep;omega) (by unfold dF.sz;omega);rw[wQ] at this;exact this
  ·refine⟨_,rfl,rfl,false,iF,_,rfl,d,4,rfl,dq.bS,by first | decide | omega,fun r2 Uo T7 hr2=>?_⟩;rw[gh];refine⟨⟨by decide,by decide⟩,_,rfl,rfl,.inr ?_,?_⟩
   ·split <;> exact⟨by decide,by decide⟩
   obtain⟨q,eq,hq⟩:∃ q:Nat,2+(r2:Int) / 3*(if (xor false (decide (V.int ((p+1:Nat):Int)=V.int 1)))=true then (1:Int) else 0)=(q:Int)/\(q=2∨(q=3/\p=0)):=by
    rw[jf,Bool.false_xor];by_cases h1:p=0
    ·rw[decide_eq_true (by omega)];by_cases h3:r2=3
     ·exact⟨3,by rw[h3];rfl,.inr ⟨rfl,h1⟩⟩
     ·exact⟨2,by rw[if_pos rfl];omega,.inl rfl⟩
    ·rw[decide_eq_false (by omega)];exact⟨2,by simp,.inl rfl⟩
   refine⟨_,rfl,(q:Int),congrArg (fun z:Int=>[D.int z]) eq,by omega,by omega,?_⟩;rw[Int.toNat_natCast];refine G0 (n:=q) dq (fun y=>∃ e,y=mz e/\zl N e/\e.dep<=p/\e.sz<=Lv p) (by omega) (fun i c m k' hk=>?_) fun ys c m hl hp=>?_
   ·refine⟨_,rfl,_,rfl,_,rfl,d,x,N,by omega,congrArg (fun z:Int=>[D.ob d,x,D.int z]) ep,dq.bS,qv dq hx,hn,fun e c m he hd2 hz=>?_⟩;rw[gh];exact⟨_,rfl,hk _ _ _ ⟨e,rfl,he,hd2,hz⟩⟩
   obtain⟨es,rfl,hl2,hes⟩:=ex_map hp;rw[List.length_map] at hl;have hdl:∀ l:List dF,(∀ e∈l,e.dep<=p)->uG l<=p:=by
    intro l
    induction l with
    | nil=>intro _;exact Nat.zero_le _
    | cons a r ih=>intro hh;unfold uG;exact Nat.max_le.mpr ⟨hh a List.mem_cons_self,ih fun e he=>hh e (List.mem_cons_of_mem _ he)⟩
   have hzl:∀ l:List dF,(∀ e∈l,e.sz<=Lv p)->PD l<=Lv p*l.length:=by
    intro l
    induction l with
    | nil=>intro _;exact Nat.zero_le _
    | cons a r ih =>
     intro hh;unfold PD;have h1:=hh a List.mem_cons_self;have h2:=ih fun e he=>hh e (List.mem_cons_of_mem _ he);rw[List.length_cons,Nat.mul_succ];omega
   have h1:=hdl es fun e he=>(hes e he).2.1;have h2:=hzl es fun e he=>(hes e he).2.2;rw[hl] at h2;have hz3:PD es+1<=Lv (p+1):=by
    rcases hq with rfl | ⟨rfl,h0⟩
    ·have:=hbz.2.1;omega
    ·have:=hbz.2.2 h0;omega
   have hk:∃ qb:Bool,oO [T.str (Str.ofString "and"),T.str (Str.ofString "or")] ((r1:Int) % 2)=some (T.str (if qb=true then "and" else "or")):=by
    have:(r1:Int) % 2=0∨(r1:Int) % 2=1:=by omega
    rcases this with e | e
    ·exact⟨true,by rw[e];rfl⟩
    ·exact⟨false,by rw[e];rfl⟩
   obtain⟨qb,eqb⟩:=hk;refine⟨_,rfl,sz 2,_,rfl,(by show(0:Int) < 2;decide),_,_,rfl,eqb,_,rfl,sz 1,_,rfl,_,rfl,j4 (by simp;omega),iA ?_⟩;have:=h (.con qb es) c m (by unfold zl;exact⟨OD fun e he=>(hes e he).1,by omega,by omega⟩) (by unfold dF.dep;omega) (by unfold dF.sz;exact hz3);rw[wR] at this;exact this
noncomputable abbrev oh:Stmt:=top 79
theorem bu:au ["_law_draw","_law_one","_law_pieces","_law_thing","_law_times","_law_more","_law_far","_law_shift","_law_text","_law_part","_law_word"] ["_law_draw","_law_one"] (ai oh):=dM
theorem Gj (F:cj K "_law_loose" "_law_loose" oh f fd)(J:Fx K mg A)(aF:eO P w K mg base k):aN P w K mg base cG (k+1) f fd ["_law_draw","_law_one"] (br K Ik):=by
 refine bD F bu fun cdv B outer s H E hr=>?_;rw[show ao oh=[_,_,_,_,_,_,_,_,_,_,_,_] from rfl];refine⟨_,(qs (av (i:=2) bu.nd (dG aa)) (qs (iV PassesOwn.never rfl (qi (aS (af 1) ah)) (qm (n:=2) rfl (F6 (qg (i:=3) bu.nd) (F6 (qg (i:=4) bu.nd) lF))) (qs (av (i:=5) bu.nd (aJ mX (aj aF hr rfl (qa (af 0) (qa ah aa))) ah)) (bM (av (i:=2) bu.nd (aJ aG (af 2) (dg (bf ["_law_part"] ["_law_thing"] [3] rfl (by decide +kernel) (by decide +kernel) (by with_unfolding_all rfl) (by exact⟨rfl,trivial⟩) (by rfl) rfl (by rfl)) rfl (qi (dG (qa (aJ mX (af 4) (af 5)) (qa (af 5) aa)))) (fun _ _ _ _=>(qx (i:=0) (show List.Nodup (["_law_part","_law_thing"]:List Str) by decide +kernel))) (fun _ _ _ _=>(wF (aH (su 40 (uE hr)) (af 0) ah (aA _)))) (fun _ _ _ _=>(aP (qa (af 1) (qa (af 0) aa)))))))))) (qs (av (i:=5) bu.nd (aJ pP (aJ mX (aj aF hr rfl (qa (af 0) (qa ah aa))) ah) (aU AG (by rfl) J.yP boot_int (qa (cE uu (aK EZ (by rfl) J.E2 boot_abs (qa (aS (af 1) ah) aa)) (aJ Z2 ah ah) (aA _)) aa)))) (qs (av (i:=2) bu.nd (aJ Gn (af 2) (dg (bf ["_law_part"] [] [] rfl (by decide +kernel) (by decide +kernel) (by with_unfolding_all rfl) (by exact trivial) (by rfl) rfl (by rfl)) rfl (qi (dG (qa (aJ mX (aS (af 1) ah) (af 5)) (qa (af 5) aa)))) (fun _ _ _ _=>(qx (i:=0) (show List.Nodup (["_law_part"]:List Str) by decide +kernel))) (fun _ _ _ _=>(wF (aH (su 40 (uE hr)) (af 0) ah (aA _)))) (fun _ _ _ _=>(aP (qa aq (qa (af 0) aa))))))) (qs (bT (qw (xM (aH (cP 40 (uE hr)) (af 2) (dG aa) (aA _)) (um (qw (qk (aH (cP 40 (uE hr)) (aj aF hr rfl (qa (af 0) (qa ah aa))) ah (aA _)) (lE (aH uu (aK cV (by rfl) J.cW PySem.boot_len (qa (af 2) aa)) ah (aA _)))))))) (bM (cD (kj (af 2) (qa (aP (qa aq (qa ah aa))) aa)))) bh) (qs (bT (qw (qk (aH uu (aK cV (by rfl) J.cW PySem.boot_len (qa (af 2) aa)) ah (aA _)) (lE (aH (cP 40 (uE hr)) (aj aF hr rfl (qa (af 0) (qa ah aa))) ah (aA _))))) (qs (av (i:=6) bu.nd (aS (dG (qa ah (qa ah (qa ah aa)))) (aj aF hr rfl (qa (af 0) (qa ah aa))))) (qs (av (i:=3) bu.nd (aS (dG (qa (aS (aS (af 2) ah) ah) (qa aq aa))) (aj aF hr rfl (qa (af 0) (qa ah aa))))) (bM (av (i:=2) bu.nd (aJ Gn (eZ false (af 2) (aX ah) bq) (dG (qa (aP (qa (af 3) (qa (af 6) aa))) (qa (aS (af 2) ah) (qa (aP (qa (af 3) (qa (An (af 6)) aa))) aa))))))))) bh) (qs (bT (qw (qk (aH uu (aK cV (by rfl) J.cW PySem.boot_len (qa (af 2) aa)) ah (aA _)) (lE (aH (cP 40 (uE hr)) (aj aF hr rfl (qa (af 0) (qa ah aa))) ah (aA _))))) (bM (cD (ZJ (af 2) (qa (aj aF hr rfl (qa (af 0) (qa (aK cV (by rfl) J.cW PySem.boot_len (qa (af 2) aa)) aa))) (qa (aP (qa aq (qa ah aa))) aa))))) bh) (qs (av (i:=7) bu.nd (aj aF hr rfl (qa (af 0) (qa (aK cV (by rfl) J.cW PySem.boot_len (qa (af 2) aa)) aa)))) (qs (av (i:=8) bu.nd aq) (qs (iV PassesOwn.never rfl (qi (aJ aG (eZ false (af 2) (aX (af 7)) bq) (eZ false (af 2) bq (aX (af 7))))) (qm (n:=2) rfl (F6 (qg (i:=3) bu.nd) (F6 (qg (i:=9) bu.nd) lF))) (qs (av (i:=10) bu.nd (aU Ut (by rfl) J.Uv boot_str (qa (aK EZ (by rfl) J.E2 boot_abs (qa (af 9) aa)) aa))) (qs (bT (aH (su 40 (uE hr)) (af 3) aq (aA _)) (bM (av (i:=10) bu.nd (aS (dG (qa (af 3) (qa (aJ aG (aJ aG (aU Ut (by rfl) J.Uv boot_str (qa (aK EZ (by rfl) J.E2 boot_abs (qa (af 9) aa)) aa)) aq) (af 3)) aa))) (aU AG (by rfl) J.yP boot_int (qa (VD (cE (su 40 (uE hr)) (aK EZ (by rfl) J.E2 boot_abs (qa (af 9) aa)) ah (aA _)) (ki (cE (cP 40 (uE hr)) (aj aF hr rfl (qa (af 0) (qa ah aa))) ah (aA _)))) aa))))) bh) (bM (av (i:=8) bu.nd (aJ aG (aJ aG (af 8) (aS (dG (qa aq (qa aq aa))) (aU AG (by rfl) J.yP boot_int (qa (cE uu (af 9) ah (aA _)) aa)))) (af 10))))))) (qs (bT (aH (cP 40 (uE hr)) (eZ false (af 8) bq (aX ah)) aq (aA _)) (bM (az (aJ aG aq (eZ false (af 8) (aX ah) bq)))) bh) (bM (az (eZ false (af 8) (aX ah) bq)))))))))))))),fun ds S kk hc hd h=>?_⟩;obtain⟨d,s,N,rfl,hd,hs,hN,h⟩:=h;have hlt:=hd.lt;obtain⟨c0,m0,e0⟩:=EF hd;have l3:=hs.len;have lo:=hs.lo;have hi:=hs.hi;refine⟨[],rfl,sz 0,?_⟩;dsimp only[dD];refine jx fun Ny Jf=>?_;refine⟨_,rfl,_,_,rfl,mh,sJ (Ax pT (fun pre δ S'=>∃ P y3 y4 y5 c m,δ=[some (D.ob d),some (D.t (iN s)),some (D.lst (P.map pT)),y3,y4,y5,none,none,none,none,none]/\S'=bS S d c m/\(∀ x,wt P x=wt pre x)/\(∀ p∈P,zu p.1/\-999<=p.2/\p.2<=999)/\P.length<=2*pre.length) ⟨[],_,_,_,c0,m0,rfl,e0,fun _=>rfl,fun _ h=>absurd h List.not_mem_nil,Nat.zero_le _⟩ ?_ ?_)⟩
 ·rintro pre ⟨t,v⟩ post δ S' Nx e ⟨P,y3,y4,y5,c,m,rfl,rfl,hw,hp,hl⟩ fB;have hm:=hs.mem (t,v) (by rw[e];simp);have hpl:pre.length<=3:=by rw[e,List.length_append] at l3;omega
  refine⟨trivial,_,rfl,rfl,_,_,rfl,_,_,rfl,rfl,_,rfl,d,7,rfl,hd.bS,by first | decide | omega,fun r cr mr hr=>?_⟩;rw[gh];dsimp only[dD];refine⟨_,rfl,_,rfl,_,rfl,_,rfl,_,rfl,sz 2,nq (yH (l:=[v - ((r:Int) - 3),(r:Int) - 3]) T.int (fun v=>if v≠0 then some (pT (t,v)) else none) trivial (sz 2) ?_ ?_)⟩
  ·intro v _ k' hk;refine⟨_,rfl,rfl,_,rfl,?_⟩;dsimp only;by_cases e:v=0
   ·try dsimp only
    rw[if_neg (by rw[jf,decide_eq_true e];decide)];rw[if_neg (by simpa using e)] at hk;exact hk
   ·try dsimp only
    rw[if_pos (by rw[jf,decide_eq_false e];rfl)];rw[if_pos (by simpa using e)] at hk;exact⟨_,rfl,_,rfl,_,rfl,sz 2,_,rfl,hk⟩
  rw[HP];have tl:=Dm t (v - ((r:Int) - 3)) ((r:Int) - 3);refine⟨_,_,rfl,rfl,j4 (by rw[List.length_map,List.length_map];omega),?_⟩;rw[<- List.map_append];refine fB _ _ ⟨_,_,_,_,_,_,rfl,rfl,fun x=>?_,fun p N5=>?_,?_⟩
  ·rw[jN,hw,HN,jN,ck,mE];dsimp only;split <;> omega
  ·rcases List.mem_append.mp N5 with N5 | N5
   ·exact hp p N5
   ·obtain⟨k1,k2⟩:=Dl N5;have m2:=hm.2.1;have m3:=hm.2.2.1;simp only at m2 m3;rw[k1];exact⟨hN _ hm.1,by omega,by omega⟩
  ·rw[List.length_append,List.length_append];simp;omega
 rintro δ S' ⟨P,y3,y4,y5,c,m,rfl,rfl,hw,hp,hl⟩;refine⟨trivial,Jf _ _ ?_⟩;clear Jf Ny;refine jx fun Ny Jf=>?_;refine⟨_,rfl,d,9,rfl,hd.bS,by first | decide | omega,fun r cr mr hr=>?_⟩;rw[gh];refine⟨_,rfl,_,_,rfl,aB (j:=1) rfl,⟨by decide,by decide,by decide⟩,.inr ?_,?_⟩
 ·split <;> exact⟨by decide,by decide⟩
 obtain⟨mo,hmo,k1,k2,k3,k4⟩:∃ mo:Int,((r:Int) - 4)*(if decide (jq s.2 < (10:Int) ^ (8:Int).toNat)=true then 1 else 0)=mo/\-9<=mo/\mo<=9/\-999999999<=s.2 - mo/\s.2 - mo<=999999999:=by
  refine⟨_,rfl,?_⟩;have e8:(10:Int) ^ (8:Int).toNat=100000000:=by decide
  rw[e8];by_cases q:jq s.2 < 100000000
  ·rw[decide_eq_true q,if_pos rfl,Int.mul_one];have:s.2 < 100000000:=by unfold jq at q;split at q <;> omega
   exact⟨by omega,by omega,by omega,by omega⟩
  ·rw[decide_eq_false q,if_neg (by decide),Int.mul_zero];exact⟨by decide,by decide,by omega,by omega⟩
 rw[hmo];refine Jf _ _ ?_;clear Jf Ny
 try dsimp only[dD]
 refine jx fun Ny Jf=>?_;refine⟨_,rfl,_,rfl,_,_,rfl,aB (j:=1) rfl,_,rfl,_,rfl,_,rfl,sz 2,nq (yH (l:=[s.2 - mo,mo]) T.int (fun v=>if v≠0 then some (pT ("",v)) else none) trivial (sz 2) ?_ ?_)⟩
 ·intro v _ k' hk;refine⟨_,rfl,rfl,_,rfl,?_⟩;dsimp only;by_cases e:v=0
  ·try dsimp only
   rw[if_neg (by rw[jf,decide_eq_true e];decide)];rw[if_neg (by simpa using e)] at hk;exact hk
  ·try dsimp only
   rw[if_pos (by rw[jf,decide_eq_false e];rfl)];rw[if_pos (by simpa using e)] at hk;exact⟨_,rfl,_,rfl,sz 2,_,rfl,hk⟩
 rw[HP];have tl:=Dm "" (s.2 - mo) mo;refine⟨_,_,rfl,rfl,j4 (by rw[List.length_map,List.length_map];omega),?_⟩;rw[bG,<- List.map_append];have P0:C0 (P++zA "" (s.2 - mo) mo) s 8:=by
  refine⟨fun x=>?_,fun p N5=>?_,by rw[List.length_append];omega⟩
  ·rw[jN,hw,HN];by_cases e:x=""
   ·subst e
    try dsimp only
    rw[if_pos rfl,if_pos rfl,kN fun q=>?_]
    ·omega
    ·obtain⟨p,hp,e⟩:=List.mem_map.mp q;exact(hN _ (hs.mem p hp).1).ne e
   ·try dsimp only
    rw[if_neg e,if_neg (fun z=>e z.symm)];omega
  ·rcases List.mem_append.mp N5 with N5 | N5
   ·obtain⟨a1,a2,a3⟩:=hp p N5;exact⟨.inr a1,by omega,by omega⟩
   ·obtain⟨a1,a2⟩:=Dl N5;exact⟨.inl a1,by omega,by omega⟩
 generalize P++zA "" (s.2 - mo) mo=P at P0;clear hp hw hl;refine Jf _ _ ?_;clear Jf Ny
 try dsimp only[dD]
 refine F3 (fun δ S'=>∃ P c m loc q y3 y4 y5 y6,δ=[some (D.ob d),some (D.t (iN s)),some (D.ob (S.length+q)),y3,y4,y5,y6,none,none,none,none]/\S'=bS S d c m++loc/\loc[q]?=some (O.lst (P.map pT))/\C0 P s 8/\P≠[]) (fun N fB=>?_) ?_
 ·have gl:∀ c m,lq (bS S d c m++[O.lst (P.map pT)]) (.ob S.length)=some (P.map pT):=fun c m=>fu (gL (q:=0));have keep:∀ c m y3 y4 y5,P≠[]->N [some (D.ob d),some (D.t (iN s)),some (D.ob S.length),y3,y4,y5,none,none,none,none,none] (bS S d c m++[O.lst (P.map pT)]):=fun c m y3 y4 y5 hne=>fB _ _ ⟨P,c,m,_,0,_,_,_,_,rfl,rfl,rfl,P0,hne⟩;have app:∀ c m y3 y4 y5,P.length < 8->∀ E,E.nx=N->(FJ (mH "list" SG (cQ 2) (bA (HW (bA (xg (D.str "")) (bA (xg (D.int 0)) eS))) eS))) E [some (D.ob d),some (D.t (iN s)),some (D.ob S.length),y3,y4,y5,none,none,none,none,none] (bS S d c m++[O.lst (P.map pT)]):=fun c m y3 y4 y5 hl E eE=>by
   refine⟨_,rfl,⟨rfl,_,gl c m⟩,_,rfl,sz 2,_,gL (q:=0),A4 (by rw[List.length_map];omega),?_⟩;rw[eE];have:=sL (S:=S) (d:=d) (c:=c) (m:=m) (q:=0) (loc:=[O.lst (P.map pT)]) (o:=O.lst (P.map pT++[T.tup [.str "",.int 0]]));rw[show(bS S d c m++[O.lst (P.map pT)]).set S.length (O.lst (P.map pT++[T.tup [.str "",.int 0]]))=bS S d c m++[O.lst ((P++[((Str.ofString ""),(0:Int))]).map pT)] by rw[List.map_append];exact this];exact fB _ _ ⟨P++[((Str.ofString ""),(0:Int))],c,m,_,0,_,_,_,_,rfl,rfl,rfl,P0.a5u UC (by omega),by simp⟩
  refine⟨_,rfl,_,rfl,sz 0,Jm (gl _ _) ⟨_,rfl,?_⟩⟩;by_cases hP:P=[]
  ·try dsimp only
   rw[if_pos (by rw[hP];rfl)];exact app _ _ _ _ _ (by rw[hP];decide) _ rfl
  ·try dsimp only
   rw[if_neg (by rw[decide_eq_false (by simpa using hP)];decide)];refine⟨_,rfl,d,5,rfl,hd.bS.up,by first | decide | omega,fun r2 Uo T7 hr2=>?_⟩;rw[aL hlt];refine⟨rfl,_,rfl,?_⟩;by_cases q:(r2:Int)=0
   ·try dsimp only
    rw[if_pos (XW q)];refine⟨_,rfl,_,gl _ _,_,rfl,?_⟩;dsimp only;by_cases ql:P.length < 8
    ·try dsimp only
     rw[if_pos (decide_eq_true (by rw[List.length_map];omega))];exact app _ _ _ _ _ ql _ rfl
    ·try dsimp only
     rw[if_neg (by rw[decide_eq_false (by rw[List.length_map];omega)];decide)];exact keep _ _ _ _ _ hP
   ·try dsimp only
    rw[if_neg (by rw[zp q];decide)];exact keep _ _ _ _ _ hP
 rintro δ S' ⟨P,c,m,loc,q,y3,y4,y5,y6,rfl,rfl,hq,P1,hP⟩;refine F3 (fun δ S'=>∃ P c m loc q y3 y4 y5 y6,δ=[some (D.ob d),some (D.t (iN s)),some (D.ob (S.length+q)),y3,y4,y5,y6,none,none,none,none]/\S'=bS S d c m++loc/\loc[q]?=some (O.lst (P.map pT))/\C0 P s 8/\P≠[]) (fun N fB=>?_) ?_
 ·have gl:∀ c m,lq (bS S d c m++loc) (.ob (S.length+q))=some (P.map pT):=fun c m=>fu (by rw[gL,hq]);have keep:∀ c m y3 y4 y5 y6,N [some (D.ob d),some (D.t (iN s)),some (D.ob (S.length+q)),y3,y4,y5,y6,none,none,none,none] (bS S d c m++loc):=fun c m y3 y4 y5 y6=>fB _ _ ⟨P,c,m,loc,q,_,_,_,_,rfl,rfl,hq,P1,hP⟩;refine⟨_,rfl,_,gl _ _,_,rfl,?_⟩;dsimp only;by_cases ql:P.length < 6
  ·try dsimp only
   rw[if_pos (decide_eq_true (by rw[List.length_map];omega))];refine⟨_,rfl,d,3,rfl,hd.bS.up,by first | decide | omega,fun r2 Uo T7 hr2=>?_⟩;rw[aL hlt];refine⟨rfl,_,rfl,?_⟩;by_cases q2:(r2:Int)=0
   ·dsimp only
    try dsimp only
    rw[if_pos (XW q2)];refine⟨_,rfl,sz 3,_,rfl,d,3,rfl,hd.bS.up,by first | decide | omega,fun r3 Yh XS N4=>?_⟩;rw[aL hlt];obtain⟨fv,efv,f1,f2⟩:=LS N4;refine⟨_,_,rfl,efv,?_⟩;dsimp only[dD];obtain⟨⟨t0,v0⟩,P',rfl⟩:∃ p P',P=p::P':=by
     cases P with
     | nil=>exact absurd rfl hP
     | cons p P'=>exact⟨p,P',rfl⟩
    have k0:=P1.b (t0,v0) (List.mem_cons_self ..);refine⟨_,rfl,_,_,gl _ _,mh,_,_,rfl,mh,_,rfl,sz 2,_,rfl,d,2,rfl,hd.bS.up,by first | decide | omega,fun r4 cr4 mr4 hr4=>?_⟩;rw[aL hlt];obtain⟨ty,hty,ety⟩:=UN (a:=t0) (b:="void") hr4;refine⟨_,_,rfl,ety,?_⟩;dsimp only[dD];have hb:∀ f,-999999999<=f->f<=999999999->SO (ty,f):=fun f a1 a2=>by
     rcases hty with rfl | rfl
     ·exact⟨k0.1,a1,a2⟩
     ·exact⟨.inr HC,a1,a2⟩
    refine⟨_,rfl,1,rfl,_,gl _ _,?_⟩
    try dsimp only
    rw[if_neg (by decide),List.map_cons,ji];refine⟨_,rfl,_,rfl,_,rfl,sz 2,_,rfl,_,_,gl _ _,mh,_,rfl,_,rfl,_,rfl,sz 2,_,rfl,sz 3,_,_,rfl,rfl,j4 (by simp at ql ⊢;omega),?_⟩;rw[List.append_assoc,List.length_append,bG];refine fB _ _ ⟨P'++[(ty,fv),(t0,v0),(ty,-fv)],_,_,_,loc.length,_,_,_,_,rfl,rfl,by rw[List.getElem?_append_right (Nat.le_refl _),Nat.sub_self,List.map_append];rfl,P1.far (hb fv (by omega) (by omega)) (hb (-fv) (by omega) (by omega)) (by simp at ql;omega),by simp⟩
   ·dsimp only
    try dsimp only
    rw[if_neg (by rw[zp q2];decide)];exact keep _ _ _ _ _ _
  ·try dsimp only
   rw[if_neg (by rw[decide_eq_false (by rw[List.length_map];omega)];decide)];exact keep _ _ _ _ _ _
 rintro δ S' ⟨P,c,m,loc,q,y3,y4,y5,y6,rfl,rfl,hq,P1,hP⟩;refine F3 (fun δ S'=>∃ P c m loc q y3 y4 y5 y6,δ=[some (D.ob d),some (D.t (iN s)),some (D.ob (S.length+q)),y3,y4,y5,y6,none,none,none,none]/\S'=bS S d c m++loc/\loc[q]?=some (O.lst (P.map pT))/\C0 P s 9/\P≠[]) (fun N fB=>?_) ?_
 ·have gl:∀ c m,lq (bS S d c m++loc) (.ob (S.length+q))=some (P.map pT):=fun c m=>fu (by rw[gL,hq]);have keep:∀ c m y3 y4 y5 y6,N [some (D.ob d),some (D.t (iN s)),some (D.ob (S.length+q)),y3,y4,y5,y6,none,none,none,none] (bS S d c m++loc):=fun c m y3 y4 y5 y6=>fB _ _ ⟨P,c,m,loc,q,_,_,_,_,rfl,rfl,hq,P1.up (by decide),hP⟩;have hPl:0 < P.length:=List.length_pos_iff.mpr hP;refine⟨_,rfl,_,gl _ _,_,rfl,?_⟩;dsimp only;by_cases ql:P.length < 8
  ·try dsimp only
   rw[if_pos (decide_eq_true (by rw[List.length_map];omega))];refine⟨_,rfl,d,6,rfl,hd.bS.up,by first | decide | omega,fun r2 Uo T7 hr2=>?_⟩;rw[aL hlt];refine⟨rfl,_,rfl,?_⟩;by_cases q2:(r2:Int)=0
   ·dsimp only
    try dsimp only
    rw[if_pos (XW q2)];refine⟨_,rfl,⟨rfl,_,gl _ _⟩,_,rfl,_,rfl,_,gl _ _,d,_,rfl,hd.bS.up,by rw[List.length_map];omega,fun r3 c3 m3 N4=>?_⟩;rw[aL hlt];rw[List.length_map] at N4;refine⟨_,rfl,sz 2,P.map pT,r3,by rw[gL,hq],rfl,by rw[List.length_map];omega,A4 (by rw[List.length_map];omega),?_⟩;rw[sL,<- List.map_take,<- List.map_drop];have hql:q < loc.length:=(List.getElem?_eq_some_iff.mp hq).1;refine fB _ _ ⟨P.take r3++[((Str.ofString "void"),(0:Int))]++P.drop r3,_,_,_,q,_,_,_,_,rfl,rfl,by rw[List.getElem?_set_self hql,List.map_append,List.map_append];rfl,(P1.up (by decide)).ins UI r3 (by omega),by simp⟩
   ·dsimp only
    try dsimp only
    rw[if_neg (by rw[zp q2];decide)];exact keep _ _ _ _ _ _
  ·try dsimp only
   rw[if_neg (by rw[decide_eq_false (by rw[List.length_map];omega)];decide)];exact keep _ _ _ _ _ _
 rintro δ S' ⟨P,c,m,loc,q,y3,y4,y5,y6,rfl,rfl,hq,P1,hP⟩;have gl:∀ c m,lq (bS S d c m++loc) (.ob (S.length+q))=some (P.map pT):=fun c m=>fu (by rw[gL,hq]);have hPl:0 < P.length:=List.length_pos_iff.mpr hP;refine jx fun Ny Jf=>?_;refine⟨_,rfl,_,rfl,_,gl _ _,d,_,rfl,hd.bS.up,by rw[List.length_map];omega,fun r3 c3 m3 N4=>?_⟩;rw[aL hlt];rw[List.length_map] at N4;refine Jf _ _ ?_;clear Jf Ny;refine Zq ?_
 try dsimp only[dD]
 refine jx fun Ny Jf=>?_;have PR:=P1.rot r3;refine⟨_,rfl,_,rfl,_,rfl,_,gl _ _,?_⟩
 try dsimp only
 rw[if_neg (by decide),pV];refine⟨_,rfl,_,rfl,_,rfl,_,gl _ _,?_⟩
 try dsimp only
 rw[if_neg (by decide),Jt];have P9:=P1.len;refine⟨_,_,rfl,rfl,j4 (by simp;omega),?_⟩;rw[<- List.map_drop,<- List.map_take,<- List.map_append];generalize hPR:P.drop r3++P.take r3=P2 at PR;have hP2:P2≠[]:=fun z=>by
  have:=congrArg List.length hPR;have k:=congrArg List.length (List.take_append_drop r3 P);rw[List.length_append] at this k;rw[z] at this;simp at this k;omega
 clear hPR;have P2l:=PR.len;refine nq (Ax pT (fun pre δ S'=>∃ x Q y3 y9 y10 c m,δ=[some (D.ob d),some (D.t (iN s)),some (D.ob (S.length+q)),y3,y4,y5,y6,some (D.int r3),some (D.str x),y9,y10]/\S'=bS S d c m++loc/\Paired PwQ pre Q/\cp x=fD Q) ⟨_,[],_,_,_,_,_,rfl,rfl,.nil,by decide +kernel⟩ ?_ ?_)
 ·rintro pre ⟨t,v⟩ post δ S' Nx e ⟨x,Q,y3,y9,y10,c,m,rfl,rfl,hQ,hx⟩ fB;have kb:=PR.b (t,v) (by rw[e];simp);have hpl:pre.length<=9:=by have:=congrArg List.length e;rw[List.length_append] at this;omega
  have hQl:Q.length=pre.length:=(Paired.length hQ).symm;have Ls:=Jj hx fun q hq=>by
   have:=mS (R:=fun q:Int×Str=>q.2.length<=166) (fun _ b z=>by have:=z.2.len;show b.2.length<=166;exact Nat.le_trans this (by decide)) hQ q hq;exact this
  have sv:Small v:=⟨by have:=kb.2.1;simp only at this;omega,by have:=kb.2.2;simp only at this;omega⟩
  have hsg:=DF v;have nl:(gQ v).length<=20:=(Gp kb.2.1 kb.2.2).len;have zs:(Str.ofString "*").length=1:=by decide +kernel
  refine⟨trivial,_,rfl,rfl,_,_,rfl,_,_,rfl,rfl,?_⟩;have done:∀ (w:Str) c m,Pw (t,v) (q8 (v,w))->∀ E,E.nx=Nx->(Aj (qc OQ (qc OQ (cQ 8) (qc WX (Tn (bA (xg (D.str " + ")) (bA (xg (D.str " - ")) eS))) (L5 W2 (bA (qc (CI fun i j=>decide (i < j)) (cQ 9) (xg (D.int 0))) eS)))) (cQ 10)) (dD 8)) E [some (D.ob d),some (D.t (iN s)),some (D.ob (S.length+q)),some (D.str t),y4,y5,y6,some (D.int r3),some (D.str x),some (D.int v),some (D.str w)] (bS S d c m++loc):=fun w c m pw E eE=>by
   have wl:=pw.len;have wl:w.length<=20:=wl;refine⟨_,rfl,_,rfl,sz 2,_,rfl,_,_,rfl,Zp v,gp (by rw[hsg];omega),_,rfl,gp (by rw[fN,hsg];omega),?_⟩;rw[eE];refine fB _ _ ⟨_,Q++[(v,w)],_,_,_,_,_,rfl,rfl,iX hQ (.cons ⟨rfl,pw⟩ .nil),?_⟩;rw[bg,bg,hx,GO,List.append_assoc]
  refine⟨_,rfl,sv.log,?_⟩;dsimp only[dD];refine F3 (fun δ S'=>∃ w c m,δ=[some (D.ob d),some (D.t (iN s)),some (D.ob (S.length+q)),some (D.str t),y4,y5,y6,some (D.int r3),some (D.str x),some (D.int v),some (D.str w)]/\S'=bS S d c m++loc/\Pw (t,v) (q8 (v,w))) (fun N W7=>?_) ?_
  ·refine⟨_,rfl,rfl,_,rfl,?_⟩;dsimp only;by_cases et:t=""
   ·subst et
    try dsimp only
    rw[if_neg (by rw[A5,decide_eq_true rfl];decide)];exact W7 _ _ ⟨_,_,_,rfl,rfl,VH kb⟩
   ·try dsimp only
    rw[if_pos (by rw[A5,decide_eq_false et];rfl)];have kt:zu t:=kb.1.resolve_left et;have tl:=kt.len;refine⟨_,rfl,_,rfl,sv.log,j4 (by show(gQ v).length+_<=1000;rw[zs];omega),_,rfl,j4 (by rw[fN,zs];show(gQ v).length+1+_<=1000;omega),_,rfl,sz 2,_,rfl,rfl,_,rfl,?_⟩;dsimp only;by_cases h1:jq v=1
    ·try dsimp only
     rw[if_neg (by rw[a3O h1];decide)];refine⟨_,rfl,d,3,rfl,hd.bS.up,by first | decide | omega,fun r5 cr5 mr5 hr5=>?_⟩;rw[aL hlt];refine⟨rfl,?_⟩;by_cases q5:(r5:Int)=0
     ·rw[XW q5];exact⟨_,_,rfl,aB (j:=1) rfl,W7 _ _ ⟨_,_,_,rfl,rfl,MS kt kb.2.1 kb.2.2⟩⟩
     ·rw[zp q5];exact⟨_,_,rfl,mh,W7 _ _ ⟨_,_,_,rfl,rfl,VG kt h1⟩⟩
    ·try dsimp only
     rw[if_pos (a3M h1)];exact⟨_,_,rfl,aB (j:=1) rfl,W7 _ _ ⟨_,_,_,rfl,rfl,MS kt kb.2.1 kb.2.2⟩⟩
  ·rintro δ S' ⟨w,c,m,rfl,rfl,pw⟩;exact done w c m pw _ rfl
 rintro δ S' ⟨x,Q,y3,y9,y10,c,m,rfl,rfl,hQ,hx⟩;refine⟨trivial,Jf _ _ ?_⟩;clear Jf Ny;obtain⟨qq,rr,rfl⟩:∃ qq rr,Q=qq::rr:=by
  cases Q with
  | nil=>cases hQ;exact absurd rfl hP2
  | cons qq rr=>exact⟨qq,rr,rfl⟩
 obtain⟨sw,sm⟩:=Y8 hQ PR.e hs hN (by omega);obtain⟨h3,e1,e2,e3⟩:=a1G P2 hx;have Ls:=Jj hx fun q hq=>by
  have:=mS (R:=fun q:Int×Str=>q.2.length<=166) (fun _ b z=>by have:=z.2.len;show b.2.length<=166;exact Nat.le_trans this (by decide)) hQ q hq;exact this
 have hQl:=Paired.length hQ;have Ls:x.length<=169*9:=by omega
 have h:=h _ c m sw sm;refine⟨_,rfl,3,rfl,gp (by omega),rfl,?_⟩;rw[e1];by_cases hv:qq.1 < 0
 ·refine⟨true,congrArg D.bl (seq (Ip.mpr hv)),_,rfl,3,rfl,gp (by omega),gp (by have:=Txt.slice_le x (some 3) none;have z:(Str.ofString "-").length=1:=(by decide +kernel);rw[z];omega),EO hc ?_⟩;rw[e2 hv];exact h
 ·refine⟨false,congrArg D.bl (O9 fun z=>hv (Ip.mp z)),_,rfl,3,rfl,gp (by omega),EO hc ?_⟩;rw[e3 hv];exact h
noncomputable abbrev n9:Stmt:=top 80
theorem qh:au ["_law_draw","_law_told","_law_texts","_law_one"] ["_law_draw","_law_told"] (ai n9):=dM
theorem qu (F:cj K "_law_loose_text" "_law_loose_text" n9 f fd)(J:Fx K mg A)(bQ:Dn P w K mg base k "_law_loose_text" ["_law_draw","_law_told"] (br K (j8 n)))(bX:jY P w K mg base k):aN P w K mg base cG (k+1) f fd ["_law_draw","_law_told"] (br K (j8 (n+1))):=by
 refine bD F qh fun cdv B outer s H E hr=>?_;rw[show ao n9=[_,_,_,_,_] from rfl];refine⟨_,(qs (bT (aH (cP 40 (uE hr)) (aS (af 1) ah) aq (aA _)) (bM (az (aJ aG (aJ aG (aJ aG (aJ aG (aj bX hr rfl (qa (af 0) (qa (aS (af 1) ah) aa))) aq) (aS (af 1) ah)) aq) (aj bX hr rfl (qa (af 0) (qa (aS (af 1) ah) aa)))))) bh) (qs (bT (aH (cP 40 (uE hr)) (aS (af 1) ah) aq (aA _)) (bM (az (aJ aG (aJ aG aq (aj bQ hr rfl (qa (af 0) (qa (aS (af 1) ah) aa)))) aq))) bh) (qs (av (i:=2) qh.nd (ig aa)) (qs (iV PassesOwn.never rfl (qi (eZ false (af 1) (aX ah) bq)) (qg (i:=3) qh.nd) (bM (cD (kj (af 2) (qa (aS (dG (qa (aj bQ hr rfl (qa (af 0) (qa (af 3) aa))) (qa (aJ aG (aJ aG aq (aj bQ hr rfl (qa (af 0) (qa (af 3) aa)))) aq) aa))) (aU AG (by rfl) J.yP boot_int (qa (cE Gm (aS (af 3) ah) (aP (qa aq (qa aq aa))) (by rfl)) aa))) aa))))) (bM (az (xO (aJ aG (aJ aG aq (aS (af 1) ah)) aq) (qa (af 2) aa)))))))),fun ds S kk hc hd h=>?_⟩;obtain⟨d,e,N,rfl,dq,hg,hN,hd2,hn3,h⟩:=h;have hlt:=dq.lt;have z1:(" ":Str).length=1:=by decide +kernel
 cases e with
 | cmp a s b =>
  unfold zl at hg;rw[wU];have ls:=MG s hg.2.2;refine⟨_,rfl,_,_,rfl,rfl,rfl,true,tT,_,rfl,_,rfl,_,_,rfl,rfl,d,a,N,rfl,dq,hg.1,hN,fun w c m hw1 R7=>?_⟩;have l1:=pL hw1;refine⟨gp (by rw[z1];omega),_,rfl,_,_,rfl,rfl,gp (by rw[fN,z1];omega),gp (by rw[fN,fN,z1];omega),_,rfl,_,rfl,_,_,rfl,rfl,d,b,N,rfl,dq.bS,hg.2.1,hN,fun w2 c m hw3 hw4=>?_⟩;rw[gh];have l2:=pL hw3;refine⟨gp (by rw[fN,fN,fN,z1];omega),iA ?_⟩;have:=h (.cmp w s w2) c m (by unfold CW.ok;exact⟨hw1,hw3,hg.2.2⟩) (by unfold CW.cd;rw[R7,hw4]);unfold zo at this;exact this
 | neg c =>
  unfold zl at hg;unfold dF.dep at hd2;have z5:("not (":Str).length=5:=by decide +kernel
  have z2:(")":Str).length=1:=by decide +kernel
  rw[wQ];refine⟨_,rfl,_,_,rfl,rfl,rfl,false,tF,_,rfl,_,_,rfl,rfl,rfl,true,tT,_,rfl,_,rfl,_,_,rfl,rfl,d,c,N,rfl,dq,hg,hN,by omega,by omega,fun w c' m ok ecd=>?_⟩;have lc:=HM ok ecd (n:=n) (by omega) (by omega);refine⟨gp (by rw[z5];omega),gp (by rw[fN,z5,z2];omega),iA ?_⟩;have:=h (.neg w) c' m (by unfold CW.ok;exact ok) (by unfold CW.cd;rw[ecd]);unfold zo at this;exact this
 | con q cs =>
  unfold zl at hg;unfold dF.dep at hd2;obtain⟨hg,lc2,lc3⟩:=hg;have z3:("(":Str).length=1:=by decide +kernel
  have z2:(")":Str).length=1:=by decide +kernel
  obtain⟨c0,m0,e0⟩:=EF dq;rw[wR];refine⟨_,rfl,_,_,rfl,mh,rfl,false,congrArg D.bl (O9 (by cases q <;> decide +kernel)),_,rfl,_,_,rfl,mh,rfl,false,congrArg D.bl (O9 (by cases q <;> decide +kernel)),_,rfl,sz 0,_,rfl,1,rfl,Xn (by simp),?_⟩;rw[ji];refine sJ (Ax mz (fun pre δ S'=>∃ y ws c m,δ=[some (D.ob d),some (D.tup (.str (if q=true then "and" else "or")::cs.map mz)),some (D.ob (S.length+0)),y]/\S'=bS S d c m++[O.lst ((ws.map Fp).map T.str)]/\ws.map CW.cd=pre/\∀ w∈ws,w.ok) ⟨_,[],c0,m0,rfl,by rw[<- e0];rfl,rfl,fun _ h=>absurd h List.not_mem_nil⟩ ?_ ?_)
  ·rintro pre e post δ S' Nx ee ⟨y,ws,c,m,rfl,rfl,hws,hok⟩ fB;have Ue:e∈cs:=by rw[ee];simp
   have h1:=s8 Ue;have h3:=JE hg Ue;have hpl:pre.length<=9:=by have:=congrArg List.length ee;rw[List.length_append] at this;omega
   have hwl:ws.length=pre.length:=by rw[<- hws,List.length_map]
   obtain⟨w,lw,ew,R7⟩:=W5 e;have gl:∀ c m,lq (bS S d c m++[O.lst ((ws.map Fp).map T.str)]) (.ob (S.length+0))=some ((ws.map Fp).map T.str):=fun c m=>fu gL;refine⟨trivial,_,rfl,⟨rfl,_,gl _ _⟩,_,rfl,_,rfl,d,e,N,rfl,dq.bS.up,h3,hN,by omega,by omega,fun w1 c1 m1 ok1 cd1=>?_⟩;rw[aL hlt];refine⟨_,rfl,_,rfl,d,e,N,rfl,dq.bS.up,h3,hN,by omega,by omega,fun w2 c2 m2 ok2 cd2=>?_⟩;rw[aL hlt];have l2:=HM ok2 cd2 (n:=n) (by omega) (by omega);refine⟨gp (by rw[z3];omega),gp (by rw[fN,z3,z2];omega),_,rfl,sz 2,_,rfl,?_⟩;rw[ew];refine⟨_,_,rfl,mh,_,rfl,sz 2,_,_,_,rfl,rfl,rfl,rfl,?_⟩;rw[show(false ^^ K2 (V.str w) [V.str (Str.ofString "and"),V.str (Str.ofString "or")])=decide (2<=Dh e) by
    rw[Bool.false_xor,show [V.str (Str.ofString "and"),V.str (Str.ofString "or")]=([Str.ofString "and",Str.ofString "or"]).map V.str from rfl,ia];exact R7]
   have fin:∀ (w':CW) c m,w'.ok->w'.cd=e->Nx [some (D.ob d),some (D.tup (.str (if q=true then "and" else "or")::cs.map mz)),some (D.ob (S.length+0)),some (D.t (mz e))] (bS S d c m++[O.lst (((ws++[w']).map Fp).map T.str)]):=fun w' c m ok' cd' =>
    fB _ _ ⟨_,ws++[w'],c,m,rfl,rfl,by rw[List.map_append,hws,List.map_cons,cd'];rfl,fun x hx=>by
     rcases List.mem_append.mp hx with hx | hx
     ·exact hok x hx
     ·rw[List.mem_singleton.mp hx];exact ok'⟩
   by_cases h2:2<=Dh e
   ·rw[decide_eq_true h2];refine⟨_,_,rfl,aB (j:=1) rfl,_,gL,A4 (by rw[List.length_map,List.length_map];omega),?_⟩;rw[sL];have:=fin w2 c2 m2 ok2 cd2;have et:Fp w2=(("(":Str)++zo w2)++(")":Str):=by unfold Fp;rw[if_pos (by rw[Aw cd2,decide_eq_true h2])]
    rw[List.map_append,List.map_append,List.map_cons,et] at this;rw[ew] at this;exact this
   ·rw[decide_eq_false h2];refine⟨_,_,rfl,mh,_,gL,A4 (by rw[List.length_map,List.length_map];omega),?_⟩;rw[sL];have:=fin w1 c2 m2 ok1 cd1;have et:Fp w1=zo w1:=by unfold Fp;rw[if_neg (by rw[Aw cd1,decide_eq_false h2];decide)]
    rw[List.map_append,List.map_append,List.map_cons,et] at this;rw[ew] at this;exact this
  ·rintro δ S' ⟨y,ws,c,m,rfl,rfl,hws,hok⟩;have hwl:ws.length=cs.length:=by rw[<- hws,List.length_map]
   have a5p:(CW.con q ws).ok:=by unfold CW.ok;exact⟨Nm hok,by omega,by omega⟩
   have a5q:(CW.con q ws).cd=.con q cs:=by unfold CW.cd;rw[CK,hws]
   have:=h (.con q ws) c m a5p a5q;have l:∀ x∈ws.map Fp,x.length<=30002:=fun x hx=>by
    obtain⟨w,hw,rfl⟩:=List.mem_map.mp hx;have k:=tY (c:=w) ⟨hok w hw,by
     have:w.cd∈cs:=by rw[<- hws];exact List.mem_map.mpr ⟨w,hw,rfl⟩
     have:=s8 this;rw[yD] at this;omega⟩
    unfold Fp;split
    ·rw[fN,fN,z3,z2];omega
    ·omega
   have sl:=ua l;rw[List.length_map] at sl;refine⟨trivial,_,rfl,_,_,rfl,mh,gp (by cases q <;> decide +kernel),gp (by cases q <;> decide +kernel),rfl,_,rfl,ws.map Fp,fu gL,?_,EO hc ?_⟩
   ·have zz:((Str.ofString " "++(if q=true then Str.ofString "and" else Str.ofString "or"))++Str.ofString " ").length<=5:=by cases q <;> decide +kernel
    rw[List.length_map];have:ws.length*((Str.ofString " "++(if q=true then Str.ofString "and" else Str.ofString "or"))++Str.ofString " ").length<=3*5:=Nat.mul_le_mul (by omega) zz;omega
   rw[RQ];unfold zo at this;rw[AV] at this;exact this
noncomputable abbrev wD:Stmt:=top 81
theorem fQ:au ["_law_draw","_law_at","_law_names_here","_law_a","_law_b","_law_c","_law_kind","_law_ahead","_law_word","_law_text"] ["_law_draw","_law_at","_law_names_here"] (ai wD):=dM
theorem Nl (F:cj K "_law_row" "_law_row" wD f fd)(J:Fx K mg A)(yN:uR P w K mg base k)(bQ:Dn P w K mg base k "_law_loose_text" ["_law_draw","_law_told"] (br K (j8 3)))(bX:jY P w K mg base k)(aF:eO P w K mg base k)(cB:jL P w K mg base k)(gy:nJ P w K mg base k):aN P w K mg base cG (k+1) f fd ["_law_draw","_law_at","_law_names_here"] (br K (Bb fun _=>True)):=by
 refine bD F fQ fun cdv B outer s H E hr=>?_;rw[show ao wD=[_,_,_,_,_,_,_,_,_,_,_,_] from rfl];refine⟨_,(qs (av (i:=3) fQ.nd (aj gy hr rfl (qa (af 0) (qa (aJ aG (eZ false (af 2) bq (aX ah)) (dG (qa (aJ aG aq (aS (af 2) ah)) aa))) aa)))) (qs (av (i:=4) fQ.nd (aj gy hr rfl (qa (af 0) (qa (eZ false (af 2) bq (aX ah)) aa)))) (qs (av (i:=5) fQ.nd (aj cB hr rfl (qa (af 0) (qa (eZ false (af 2) bq (aX ah)) (qa ah aa))))) (qs (av (i:=6) fQ.nd (aj aF hr rfl (qa (af 0) (qa ah aa)))) (qs (av (i:=7) fQ.nd (aJ aG (aJ aG aq (aS (af 2) ah)) aq)) (qs (bT (aH (cP 40 (uE hr)) (af 6) ah (aA _)) (bM (az (aP (qa (aJ aG (af 7) (aj bX hr rfl (qa (af 0) (qa (af 3) aa)))) (qa (aP (qa aq (qa (af 1) (qa (aS (af 2) ah) (qa (af 3) aa))))) aa))))) bh) (qs (bT (aH uu (af 6) ah (aA _)) (qs (av (i:=8) fQ.nd (aS (dG (qa aq (qa aq aa))) (aJ mX (af 6) ah))) (qs (av (i:=9) fQ.nd (aJ aG (aJ aG (aJ aG (aJ aG (aJ aG (af 7) (aj bX hr rfl (qa (af 0) (qa (af 3) aa)))) aq) (af 8)) aq) (aj bX hr rfl (qa (af 0) (qa (af 4) aa))))) (bM (az (aP (qa (af 9) (qa (aP (qa aq (qa (af 1) (qa (aS (af 2) ah) (qa (af 8) (qa (af 3) (qa (af 4) aa))))))) aa))))))) bh) (qs (bT (aH (cP 40 (uE hr)) (af 6) ah (aA _)) (bM (az (aP (qa (aJ aG (aJ aG (aJ aG (af 7) (aS (af 2) ah)) aq) (aj bX hr rfl (qa (af 0) (qa (af 3) aa)))) (qa (aP (qa aq (qa (af 1) (qa (aS (af 2) ah) (qa (aS (af 2) ah) (qa (af 3) aa)))))) aa))))) bh) (qs (bT (aH (cP 40 (uE hr)) (af 6) ah (aA _)) (qs (av (i:=9) fQ.nd (aJ aG (aJ aG (aJ aG (aJ aG (aJ aG aq (aS (af 2) ah)) aq) (aj bX hr rfl (qa (af 0) (qa (af 3) aa)))) aq) (aj bX hr rfl (qa (af 0) (qa (af 4) aa))))) (bM (az (aP (qa (af 9) (qa (aP (qa aq (qa (af 1) (qa (aS (af 2) ah) (qa (af 3) (qa (af 4) aa)))))) aa)))))) bh) (qs (bT (aH (cP 40 (uE hr)) (af 6) ah (aA _)) (bM (az (aP (qa (aJ aG (aJ aG (aJ aG aq (aS (af 2) ah)) aq) (aj bX hr rfl (qa (af 0) (qa (af 4) aa)))) (qa (aP (qa aq (qa (af 1) (qa (aS (af 2) ah) (qa (af 4) aa))))) aa))))) bh) (qs (bT (aH (cP 40 (uE hr)) (af 6) ah (aA _)) (bM (az (aP (qa (aJ aG aq (aj bQ hr rfl (qa (af 0) (qa (af 5) aa)))) (qa (aP (qa aq (qa (af 1) (qa (af 5) aa)))) aa))))) bh) (bM (az (aj yN hr rfl (qa (af 0) (qa (af 1) (qa (af 2) aa))))))))))))))))),fun ds S kk hc hd h=>?_⟩;obtain⟨d,i,a0,a1,a2,a3,a4,rfl,dq,hnm,h⟩:=h;have hlt:=dq.lt;have n0:=hnm a0 (by simp);have n1:=hnm a1 (by simp);have n2:=hnm a2 (by simp);have n4:=hnm a4 (by simp);have Ye:∀ x∈[a0,a1,a2],zu x:=fun x hx=>mZ (hnm x (by simp at hx ⊢;rcases hx with h | h | h <;> simp[h]));have Ug:∀ x∈[a0,a1,a2,("#":Str)++a4],zu x:=fun x hx=>by
  rcases List.mem_cons.mp hx with rfl | hx
  ·exact mZ n0
  rcases List.mem_cons.mp hx with rfl | hx
  ·exact mZ n1
  rcases List.mem_cons.mp hx with rfl | hx
  ·exact mZ n2
  rw[List.mem_singleton.mp hx];exact wM n4
 have q0:=bJ n0;have q4:=bJ n4;have zh:("#":Str).length=1:=by decide +kernel
 have Oj:("let ":Str).length<=10:=by decide +kernel
 have EB:(" = ":Str).length<=10:=by decide +kernel
 have qB:(" ":Str).length<=10:=by decide +kernel
 have EC:(" at ":Str).length<=10:=by decide +kernel
 have AA:("put ":Str).length<=10:=by decide +kernel
 have Jo:("row ":Str).length<=10:=by decide +kernel
 have a1p:("claim ":Str).length<=10:=by decide +kernel
 have x0:a0.length<=10:=Nat.le_trans q0 (by decide);have x4:a4.length<=10:=Nat.le_trans q4 (by decide);have A2:=le_app (le_app Oj x0) EB;refine jx fun Nx fB=>?_;refine⟨_,rfl,_,rfl,3,rfl,_,rfl,_,rfl,_,_,rfl,aB (j:=4) rfl,gp (by rw[zh];omega),_,rfl,sz 1,_,_,rfl,rfl,sz 4,d,_,[a0,a1,a2,("#":Str)++a4],rfl,dq,rfl,by simp,fun sa ca ma hsa=>?_⟩;refine fB _ _ ?_
 try dsimp only[dD]
 clear fB Nx;refine jx fun Nx fB=>?_;refine⟨_,rfl,_,rfl,3,rfl,_,rfl,d,_,[a0,a1,a2],rfl,dq.bS,rfl,by simp,fun sb cb mb R8=>?_⟩;rw[gh];refine fB _ _ ?_
 try dsimp only[dD]
 clear fB Nx;refine jx fun Nx fB=>?_;refine⟨_,rfl,_,rfl,3,rfl,_,rfl,d,_,[a0,a1,a2],by decide,rfl,dq.bS,rfl,by simp,fun ec cc mc hec hdc hzc=>?_⟩;rw[gh];refine fB _ _ ?_
 try dsimp only[dD]
 clear fB Nx;refine jx fun Nx fB=>?_;refine⟨_,rfl,d,9,rfl,dq.bS,by first | decide | omega,fun kd ckd mkd hkd=>?_⟩;rw[gh];refine fB _ _ ?_
 try dsimp only[dD]
 clear fB Nx;refine jx fun Nx fB=>?_;refine⟨_,rfl,_,_,rfl,aB (j:=0) rfl,pY Oj x0,pY (le_app Oj x0) EB,?_⟩;refine fB _ _ ?_
 try dsimp only[dD]
 clear fB Nx;have gsa:=hsa.g Ug;have gsb:=R8.g Ye;by_cases k0:kd=0
 ·refine⟨_,rfl,rfl,true,iT,_,rfl,_,rfl,_,rfl,d,sa,_,rfl,dq.bS,hsa,Ug,fun w c m zK ew=>?_⟩;rw[gh];have lw:=pL zK;refine⟨pY A2 lw,_,rfl,_,rfl,_,_,rfl,aB (j:=0) rfl,_,rfl,_,rfl,sz 4,_,rfl,sz 2,iA ?_⟩;have ok:(SX.lt a0 w).ok:=by unfold SX.ok;exact⟨n0,zK⟩
  have:=h (.lt a0 w) _ c m ok (qj ok (Yx a0 w) (Ys A2 lw)) (by unfold SX.st zY;rw[ew];exact⟨by omega,gsa⟩) (u9 _ _);simp only[SX.st,ew] at this;rw[oJ] at this;exact this
 have i0:(kd:Int)≠0:=by omega
 by_cases k3:kd < 3
 ·refine⟨_,rfl,rfl,false,congrArg D.bl (zp i0),_,rfl,true,congrArg D.bl (decide_eq_true (by omega)),?_⟩;obtain⟨wd,hwd,ewd⟩:∃ wd:Str,(wd="div"∨wd="mod")/\oO [T.str (Str.ofString "div"),T.str (Str.ofString "mod")] ((kd:Int) - 1)=some (T.str wd):=by
   have:kd=1∨kd=2:=by omega
   rcases this with rfl | rfl
   ·exact⟨_,.inl rfl,rfl⟩
   ·exact⟨_,.inr rfl,rfl⟩
  have lwd:wd.length<=3:=by rcases hwd with rfl | rfl <;> decide +kernel
  refine⟨_,rfl,sz 2,_,rfl,_,_,rfl,ewd,?_⟩;dsimp only[dD];refine⟨_,rfl,_,rfl,_,rfl,d,sa,_,rfl,dq.bS,hsa,Ug,fun w c m zK ew=>?_⟩;rw[gh];have lw:=pL zK;refine⟨pY A2 lw,pY (le_app A2 lw) qB,_,rfl,pY (le_app (le_app A2 lw) qB) lwd,pY (le_app (le_app (le_app A2 lw) qB) lwd) qB,_,rfl,_,rfl,d,sb,_,rfl,dq.bS,R8,Ye,fun v c m T4 ev=>?_⟩;rw[gh];have lv:=pL T4;refine⟨pY (le_app (le_app (le_app (le_app A2 lw) qB) lwd) qB) lv,?_⟩;dsimp only[dD];refine⟨_,rfl,_,rfl,_,rfl,_,_,rfl,aB (j:=0) rfl,_,rfl,_,rfl,_,rfl,_,rfl,sz 6,_,rfl,sz 2,iA ?_⟩;have ok:(SX.dv a0 wd w v).ok:=by unfold SX.ok;exact⟨n0,hwd,zK,T4⟩
  have:=h (.dv a0 wd w v) _ c m ok (qj ok (Yz a0 wd w v) (Ys (le_app (le_app (le_app (le_app A2 lw) qB) lwd) qB) lv)) (by unfold SX.st zY;rw[ew,ev];exact⟨by omega,lwd,gsa,gsb⟩) (u9 _ _);simp only[SX.st,ew,ev] at this;rw[oJ] at this;exact this
 have i3:¬ (kd:Int) < 3:=by omega
 by_cases k4:kd=3
 ·refine⟨_,rfl,rfl,false,congrArg D.bl (zp i0),_,rfl,false,congrArg D.bl (decide_eq_false i3),_,rfl,rfl,true,iT,_,rfl,_,rfl,_,_,rfl,aB (j:=4) rfl,pY A2 x4,pY (le_app A2 x4) EC,_,rfl,_,rfl,d,sa,_,rfl,dq.bS,hsa,Ug,fun w c m zK ew=>?_⟩;rw[gh];have lw:=pL zK;refine⟨pY (le_app (le_app A2 x4) EC) lw,_,rfl,_,rfl,_,_,rfl,aB (j:=0) rfl,_,rfl,_,_,rfl,aB (j:=4) rfl,_,rfl,_,rfl,sz 5,_,rfl,sz 2,iA ?_⟩;have ok:(SX.ft a0 a4 w).ok:=by unfold SX.ok;exact⟨n0,n4,zK⟩
  have:=h (.ft a0 a4 w) _ c m ok (qj ok (Yy a0 a4 w) (Ys (le_app (le_app A2 x4) EC) lw)) (by unfold SX.st zY;rw[ew];exact⟨by omega,by omega,gsa⟩) (u9 _ _);simp only[SX.st,ew] at this;rw[oJ] at this;exact this
 have i4:(kd:Int)≠3:=by omega
 by_cases k5:kd=4
 ·refine⟨_,rfl,rfl,false,congrArg D.bl (zp i0),_,rfl,false,congrArg D.bl (decide_eq_false i3),_,rfl,rfl,false,congrArg D.bl (zp i4),_,rfl,rfl,true,iT,_,rfl,_,_,rfl,aB (j:=4) rfl,pY AA x4,pY (le_app AA x4) EC,_,rfl,_,rfl,d,sa,_,rfl,dq.bS,hsa,Ug,fun w c m zK ew=>?_⟩;rw[gh];have lw:=pL zK;refine⟨pY (le_app (le_app AA x4) EC) lw,pY (le_app (le_app (le_app AA x4) EC) lw) EB,_,rfl,_,rfl,d,sb,_,rfl,dq.bS,R8,Ye,fun v c m T4 ev=>?_⟩;rw[gh];have lv:=pL T4;refine⟨pY (le_app (le_app (le_app (le_app AA x4) EC) lw) EB) lv,?_⟩;dsimp only[dD];refine⟨_,rfl,_,rfl,_,rfl,_,_,rfl,aB (j:=4) rfl,_,rfl,_,rfl,_,rfl,sz 5,_,rfl,sz 2,iA ?_⟩;have ok:(SX.pt a4 w v).ok:=by unfold SX.ok;exact⟨n4,zK,T4⟩
  have:=h (.pt a4 w v) _ c m ok (qj ok (Yv a4 w v) (Ys (le_app (le_app (le_app (le_app AA x4) EC) lw) EB) lv)) (by unfold SX.st zY;rw[ew,ev];exact⟨by omega,gsa,gsb⟩) (u9 _ _);simp only[SX.st,ew,ev] at this;rw[oJ] at this;exact this
 have i5:(kd:Int)≠4:=by omega
 by_cases k6:kd=5
 ·refine⟨_,rfl,rfl,false,congrArg D.bl (zp i0),_,rfl,false,congrArg D.bl (decide_eq_false i3),_,rfl,rfl,false,congrArg D.bl (zp i4),_,rfl,rfl,false,congrArg D.bl (zp i5),_,rfl,rfl,true,iT,_,rfl,_,_,rfl,aB (j:=4) rfl,pY Jo x4,pY (le_app Jo x4) EB,_,rfl,_,rfl,d,sb,_,rfl,dq.bS,R8,Ye,fun v c m T4 ev=>?_⟩;rw[gh];have lv:=pL T4;refine⟨pY (le_app (le_app Jo x4) EB) lv,_,rfl,_,rfl,_,_,rfl,aB (j:=4) rfl,_,rfl,_,rfl,sz 4,_,rfl,sz 2,iA ?_⟩;have ok:(SX.mq a4 v).ok:=by unfold SX.ok;exact⟨n4,T4⟩
  have:=h (.mq a4 v) _ c m ok (qj ok (Yw a4 v) (Ys (le_app (le_app Jo x4) EB) lv)) (by unfold SX.st zY;rw[ev];exact⟨by omega,gsb⟩) (u9 _ _);simp only[SX.st,ev] at this;rw[oJ] at this;exact this
 have i6:(kd:Int)≠5:=by omega
 by_cases k7:kd=6
 ·refine⟨_,rfl,rfl,false,congrArg D.bl (zp i0),_,rfl,false,congrArg D.bl (decide_eq_false i3),_,rfl,rfl,false,congrArg D.bl (zp i4),_,rfl,rfl,false,congrArg D.bl (zp i5),_,rfl,rfl,false,congrArg D.bl (zp i6),_,rfl,rfl,true,iT,_,rfl,_,rfl,d,ec,_,rfl,dq.bS,hec,Ye,by omega,by decide,fun w c m zK ew=>?_⟩;rw[gh];have cr:Fo w:=⟨zK,by rw[<- yD,ew];exact hdc⟩
  have lw:=tY cr;refine⟨pY a1p lw,_,rfl,_,rfl,_,rfl,sz 3,_,rfl,sz 2,iA ?_⟩;have ok:(SX.cm w).ok:=by unfold SX.ok;exact cr
  have:=h (.cm w) _ c m ok (qj ok (show cp (("claim ":Str)++zo w)=jn (zx "claim" w) from Tg (by decide +kernel) zK) (Ys a1p lw)) (by unfold SX.st zY;rw[ew];exact⟨zl.g Ye hec,by omega,hzc⟩) (u9 _ _);simp only[SX.st,ew] at this;rw[oJ] at this;exact this
 have i7:(kd:Int)≠6:=by omega
 refine⟨_,rfl,rfl,false,congrArg D.bl (zp i0),_,rfl,false,congrArg D.bl (decide_eq_false i3),_,rfl,rfl,false,congrArg D.bl (zp i4),_,rfl,rfl,false,congrArg D.bl (zp i5),_,rfl,rfl,false,congrArg D.bl (zp i6),_,rfl,rfl,false,congrArg D.bl (zp i7),_,rfl,_,rfl,_,rfl,d,i,a0,a1,a2,a3,a4,rfl,dq.bS,hnm,fun x t c m ok rt st dp=>?_⟩;rw[gh];exact iA (h x t c m ok rt st dp)
noncomputable abbrev jB:Stmt:=top 82
theorem dH:au ["_law_draw","_law_at","_law_names_here","_law_answers","_law_given","_law_text"] ["_law_draw","_law_at","_law_names_here"] (ai jB):=dM
theorem Cc (F:cj K "_law_call_row" "_law_call_row" jB f fd)(J:Fx K mg A)(bX:jY P w K mg base k)(aF:eO P w K mg base k)(gy:nJ P w K mg base k):aN P w K mg base cG (k+1) f fd ["_law_draw","_law_at","_law_names_here"] (br K (Bb fun _=>True)):=by
 refine bD F dH fun cdv B outer s H E hr=>?_;rw[show ao jB=[_,_,_,_,_,_,_,_] from rfl];refine⟨_,(qs (av (i:=3) dH.nd (aU cy (by rfl) J.b7 boot_tuple (qa (eZ false (af 2) bq (aX (aj aF hr rfl (qa (af 0) (qa ah aa))))) aa))) (qs (DR (i:=4) dH.nd (bf ["_law_k"] ["_law_draw","_law_names_here"] [0,2] rfl (by decide +kernel) (by decide +kernel) (by with_unfolding_all rfl) (by exact⟨rfl,rfl,trivial⟩) (by rfl) rfl (by rfl)) rfl (uq rfl J.lM (qa (aj aF hr rfl (qa (af 0) (qa ah aa))) aa)) (fun _ _ _ _=>(qx (i:=0) (show List.Nodup (["_law_k","_law_draw","_law_names_here"]:List Str) by decide +kernel))) (fun _ _ _ _=>cI) (fun _ _ _ _=>(aj gy hr rfl (qa (af 1) (qa (eZ false (af 2) bq (aX ah)) aa))))) (qs (bT (aH (cP 40 (uE hr)) (aj aF hr rfl (qa (af 0) (qa ah aa))) ah (aA _)) (bM (cD (kj (af 4) (qa (aP (qa (aP (qa (aP (qa (aJ aG aq (aS (af 2) ah)) (qa ah aa))) aa)) (qa ah aa))) aa)))) bh) (qs (av (i:=5) dH.nd aq) (qs (bT (aH (su 40 (uE hr)) (af 3) (aP aa) (aA _)) (bM (av (i:=5) dH.nd (aJ aG (aJ aG (af 5) (Qv aq (qa (af 3) aa))) aq))) bh) (qs (av (i:=5) dH.nd (aJ aG (af 5) (aS (af 2) ah))) (qs (bT (aH (su 40 (uE hr)) (af 4) (dG aa) (aA _)) (bM (av (i:=5) dH.nd (aJ aG (aJ aG (af 5) aq) (xO aq (qa (dg (bf ["_law_one"] ["_law_draw"] [0] rfl (by decide +kernel) (by decide +kernel) (by with_unfolding_all rfl) (by exact⟨rfl,trivial⟩) (by rfl) rfl (by rfl)) rfl (qi (af 4)) (fun _ _ _ _=>(qx (i:=0) (show List.Nodup (["_law_one","_law_draw"]:List Str) by decide +kernel))) (fun _ _ _ _=>cI) (fun _ _ _ _=>(aj bX hr rfl (qa (af 1) (qa (af 0) aa))))) aa))))) bh) (bM (az (aP (qa (af 5) (qa (aP (qa aq (qa (af 1) (qa (af 3) (qa (aS (af 2) ah) (qa (aU cy (by rfl) J.b7 boot_tuple (qa (af 4) aa)) aa)))))) aa)))))))))))),fun ds S kk hc hd h=>?_⟩;obtain⟨d,i,a0,a1,a2,a3,a4,rfl,dq,hnm,h⟩:=h;have hlt:=dq.lt;have n0:=hnm a0 (by simp);have n1:=hnm a1 (by simp);have n2:=hnm a2 (by simp);have n3:=hnm a3 (by simp);have n4:=hnm a4 (by simp);have Ug:∀ x∈[a0,a1,a2,("#":Str)++a4],zu x:=fun x hx=>by
  rcases List.mem_cons.mp hx with rfl | hx
  ·exact mZ n0
  rcases List.mem_cons.mp hx with rfl | hx
  ·exact mZ n1
  rcases List.mem_cons.mp hx with rfl | hx
  ·exact mZ n2
  rw[List.mem_singleton.mp hx];exact wM n4
 have q3:=bJ n3;have q4:=bJ n4;have zh:("#":Str).length=1:=by decide +kernel
 have zc:("call ":Str).length=5:=by decide +kernel
 have ze:(" = ":Str).length=3:=by decide +kernel
 have zs:(" ":Str).length=1:=by decide +kernel
 have zk:(", ":Str).length=2:=by decide +kernel
 refine⟨_,rfl,_,rfl,d,3,rfl,dq,by first | decide | omega,fun r1 cr1 mr1 hr1=>?_⟩;refine⟨_,rfl,_,rfl,?_⟩
 try dsimp only
 rw[if_neg (by decide),Jt,<- List.map_take];refine⟨_,rfl,?_⟩
 try dsimp only[dD]
 have han:∀ x∈[a0,a1,a2,a3,a4].take r1,isNm x=true:=fun x hx=>hnm x (List.mem_of_mem_take hx);have lan:([a0,a1,a2,a3,a4].take r1).length<=3:=by rw[List.length_take];omega
 generalize [a0,a1,a2,a3,a4].take r1=vQ at han lan;refine⟨_,rfl,d,4,rfl,dq.bS,by first | decide | omega,fun r2 Uo T7 hr2=>?_⟩;rw[gh];refine⟨(r2:Int),rfl,by omega,by omega,?_⟩;rw[Int.toNat_natCast];refine G0 (n:=r2) dq (fun y=>∃ s,y=iN s/\Fy [a0,a1,a2] s) (by omega) (fun j c m k' hk=>?_) fun ys c m hl hp=>?_
 ·refine⟨_,rfl,_,rfl,3,rfl,_,rfl,d,_,[a0,a1,a2],rfl,dq.bS,rfl,by simp,fun s c' m' hs=>?_⟩;rw[gh];exact⟨_,rfl,hk _ _ _ ⟨s,rfl,hs⟩⟩
 obtain⟨ss,rfl,hl2,hss⟩:=ex_map hp;rw[List.length_map] at hl;rw[bG]
 try dsimp only[dD]
 have up:∀ s∈ss,Fy [a0,a1,a2,("#":Str)++a4] s:=fun s hs=>(hss s hs).up fun x hx=>by
  simp at hx ⊢;rcases hx with h | h | h <;> simp[h]
 refine F3 (fun δ S'=>∃ (gs:List Sm) (c m:Int),δ=[some (D.ob d),some (D.int i),some (D.t (Lr [a0,a1,a2,a3,a4])),some (D.tup (vQ.map T.str)),some (D.ob (S.length+0)),none]/\S'=bS S d c m++[O.lst (gs.map iN)]/\(∀ s∈gs,Fy [a0,a1,a2,("#":Str)++a4] s)/\gs.length<=4) (fun N hN=>?_) ?_
 ·refine⟨_,rfl,d,2,rfl,dq.bS.up,by first | decide | omega,fun r3 Yh XS N4=>?_⟩;rw[aL hlt];refine⟨rfl,_,rfl,?_⟩;dsimp only;by_cases q:(r3:Int)=1
  ·try dsimp only
   rw[if_pos (XW q)];refine⟨_,rfl,⟨rfl,_,fu (gL (q:=0))⟩,_,rfl,_,_,rfl,aB (j:=4) rfl,pY (a:=1) (b:=8) (Nat.le_of_eq zh) q4,_,rfl,sz 2,_,rfl,sz 1,_,rfl,sz 2,_,gL (q:=0),A4 (by rw[List.length_map];omega),?_⟩;have es:=sL (S:=S) (d:=d) (c:=Yh) (m:=XS) (q:=0) (loc:=[O.lst (ss.map iN)]) (o:=O.lst (ss.map iN++[iN ([(("#":Str)++a4,1)],0)]));have es2:(bS S d Yh XS++[O.lst (ss.map iN)]).set S.length (O.lst (ss.map iN++[iN ([(("#":Str)++a4,1)],0)]))=bS S d Yh XS++[O.lst ((ss++[([(("#":Str)++a4,1)],0)]).map iN)]:=by rw[List.map_append];exact es
   refine hN _ _ ⟨ss++[([(("#":Str)++a4,1)],0)],_,_,rfl,es2,fun s hs=>?_,by rw[List.length_append];simp;omega⟩;rcases List.mem_append.mp hs with hs | hs
   ·exact up s hs
   ·rw[List.mem_singleton.mp hs];exact PL (by simp)
  ·try dsimp only
   rw[if_neg (by rw[zp q];decide)];exact hN _ _ ⟨ss,_,_,rfl,rfl,up,by omega⟩
 rintro δ S' ⟨gs,c,m,rfl,rfl,hgs,lgs⟩;have Uw:∀ x:Str,x++("":Str)=x:=fun x=>dw (by rw[bg,yG,List.append_nil]);refine Zq ?_;refine F3 (fun δ S'=>∃ t:Str,δ=[some (D.ob d),some (D.int i),some (D.t (Lr [a0,a1,a2,a3,a4])),some (D.tup (vQ.map T.str)),some (D.ob (S.length+0)),some (D.str t)]/\S'=bS S d c m++[O.lst (gs.map iN)]/\t=("call ":Str)++(if vQ=[] then ("":Str) else Txt.join " " vQ++(" = ":Str))/\t.length<=100) (fun N hN=>?_) ?_
 ·refine⟨_,rfl,_,rfl,sz 0,.inr ⟨rfl,_,rfl,?_⟩⟩;dsimp only;by_cases q:vQ=[]
  ·try dsimp only
   rw[if_neg (by rw[decide_eq_true (by rw[q];rfl)];decide)];exact hN _ _ ⟨_,rfl,rfl,by rw[if_pos q,Uw],by rw[zc];decide⟩
  ·try dsimp only
   rw[if_pos (by rw[decide_eq_false (by simpa using q)];rfl)];have ls:=ua (l:=vQ) (M:=8) fun x hx=>bJ (han x hx);have lj:=Ct " " vQ;rw[zs] at lj;refine⟨_,rfl,rfl,_,rfl,vQ,rfl,by rw[zs];omega,gp (by rw[zc];omega),gp (by rw[fN,zc,ze];omega),hN _ _ ⟨_,rfl,rfl,?_,by rw[fN,fN,zc,ze];omega⟩⟩
   try dsimp only
   rw[if_neg q];exact dw (by simp only[bg,List.append_assoc])
 rintro δ S' ⟨t,rfl,rfl,et,lt⟩;refine⟨_,rfl,_,rfl,_,_,rfl,aB (j:=3) rfl,gp (by omega),?_⟩
 try dsimp only[dD]
 show uZ (To _ _ _) _ _ [some (D.ob d),some (D.int i),some (D.t (Lr [a0,a1,a2,a3,a4])),some (D.tup (vQ.map T.str)),some (D.ob (S.length+0)),some (D.str (t++a3))] _;have gl:∀ c m,lq (bS S d c m++[O.lst (gs.map iN)]) (.ob (S.length+0))=some (gs.map iN):=fun c m=>fu gL;refine F3 (fun δ S'=>∃ (u:Str) (ws:List Sw) (c m:Int),δ=[some (D.ob d),some (D.int i),some (D.t (Lr [a0,a1,a2,a3,a4])),some (D.tup (vQ.map T.str)),some (D.ob (S.length+0)),some (D.str u)]/\S'=bS S d c m++[O.lst (gs.map iN)]/\ws.map (fun w=>oM w.ws)=gs/\(∀ w∈ws,wX w)/\u=clT vQ a3 ws/\u.length<=10000) (fun N hN=>?_) ?_
 ·refine⟨_,rfl,_,rfl,sz 0,_,_,gl _ _,rfl,.inr ⟨rfl,_,rfl,?_⟩⟩;dsimp only;by_cases q:gs=[]
  ·try dsimp only
   rw[if_neg (by rw[decide_eq_true (by rw[q];rfl)];decide)];refine hN _ _ ⟨_,[],_,_,rfl,rfl,by rw[q];rfl,fun _ h=>absurd h List.not_mem_nil,?_,by rw[fN];omega⟩;unfold clT
   try dsimp only
   rw[if_pos rfl,Uw,et]
  ·try dsimp only
   rw[if_pos (by rw[decide_eq_false (by simpa using q)];rfl)];refine⟨_,rfl,gp (by rw[fN,zs];omega),rfl,_,rfl,WY gL (Xw iN (fun pre ys S'=>∃ (ws:List Sw) (c m:Int),S'=bS S d c m++[O.lst (gs.map iN)]/\ys=(ws.map Sw.txt).map T.str/\ws.map (fun w=>oM w.ws)=pre/\(∀ w∈ws,wX w)/\pre.length<=4) ⟨[],c,m,rfl,rfl,rfl,fun _ h=>absurd h List.not_mem_nil,by decide⟩ ?_ ?_ ?_)⟩
   ·rintro pre ys S' ⟨ws,c,m,rfl,rfl,e,_,l4⟩;rw[List.length_map,List.length_map];have:=congrArg List.length e;rw[List.length_map] at this;exact A4 (by omega)
   ·rintro pre s post ys S' k' ee ⟨ws,c,m,rfl,rfl,e,zK,l4⟩ hk;have hs:=hgs s (by rw[ee];simp);have lp:(pre++[s]).length<=4:=by have:=congrArg List.length ee;simp at this ⊢;omega
    refine⟨gL,_,rfl,_,rfl,d,s,_,rfl,dq.bS.up,hs,Ug,fun w c m ok ew=>?_⟩;rw[aL hlt];refine⟨_,rfl,hk _ _ ⟨ws++[w],c,m,rfl,by simp,by rw[List.map_append,e,List.map_cons,ew];rfl,fun x hx=>?_,lp⟩⟩;rcases List.mem_append.mp hx with hx | hx
    ·exact zK x hx
    ·rw[List.mem_singleton.mp hx];exact ok
   ·rintro ys S' ⟨ws,c,m,rfl,rfl,e,zK,l4⟩;have lw:ws.length<=4:=by have:=congrArg List.length e;rw[List.length_map] at this;omega
    have ls:=Pq zK;have lj:=Ct ", " (ws.map Sw.txt);rw[List.length_map,zk] at lj;refine⟨gL,ws.map Sw.txt,rfl,by rw[List.length_map,zk];omega,gp (by rw[fN,fN,zs];omega),hN _ _ ⟨_,ws,c,m,rfl,rfl,e,zK,?_,by rw[fN,fN,fN,zs];omega⟩⟩;have nw:ws≠[]:=fun z=>q (by rw[<- e,z];rfl);unfold clT
    try dsimp only
    rw[if_neg nw,<- et];exact dw (by simp only[bg,List.append_assoc])
 rintro δ S' ⟨u,ws,c,m,rfl,rfl,e,zK,eu,lu⟩;refine⟨_,rfl,_,rfl,_,rfl,_,rfl,_,_,rfl,aB (j:=3) rfl,_,rfl,_,gl _ _,_,rfl,sz 5,_,rfl,sz 2,EO hc ?_⟩;have lw:ws.length<=4:=by have:=congrArg List.length e;rw[List.length_map] at this;omega
 have ok:(SX.cl vQ a3 ws).ok:=by unfold SX.ok;exact⟨han,by omega,n3,by omega,zK⟩
 have:=h (.cl vQ a3 ws) u c m ok (qj ok (by rw[eu];exact YA vQ a3 ws) (by omega)) (by
  unfold SX.st zY;rw[e];exact⟨by omega,fun x hx=>by have:=bJ (han x hx);omega,by omega,by omega,fun s hs=>(hgs s hs).g Ug⟩) (u9 _ _)
 simp only[SX.st,e] at this;rw[oJ] at this;exact this
noncomputable abbrev n5:Stmt:=top 83
theorem bN:au ["_law_script","_law_draw","_law_names_here","_law_needs","_law_gives","_law_rows","_law_steps","_law_k","_law_text","_law_told","_law_due","_law_program"] ["_law_script"] (ai n5):=dM
theorem Gg (F:cj K "_law_all_right" "_law_all_right" n5 f fd)(J:Fx K mg A)(sE:Hj P w K mg base k A)(OI:O1 P w K mg base k A)(jV:vX P w K mg base k)(Lf:Dn P w K mg base k "_law_row" ["_law_draw","_law_at","_law_names_here"] (br K (Bb fun _=>True)))(bQ:Dn P w K mg base k "_law_loose_text" ["_law_draw","_law_told"] (br K (j8 3)))(cB:jL P w K mg base k)(EY:Ab P w K mg base k):aN P w K mg base cG (k+1) f fd ["_law_script"] (br K Ih):=by
 refine bD F bN fun cdv B outer s H E hr=>?_;rw[show ao n5=[_,_,_,_,_,_,_,_,_,_,_,_,_,_] from rfl];refine⟨_,(qs (av (i:=1) bN.nd (ig (qa (aj jV hr rfl (qa (af 0) (qa ah aa))) (qa ah aa)))) (qs (av (i:=2) bN.nd (aj EY hr rfl (qa (af 1) (qa ah aa)))) (qs (av (i:=3) bN.nd (aj cB hr rfl (qa (af 1) (qa (eZ false (af 2) bq (aX ah)) (qa ah aa))))) (qs (av (i:=4) bN.nd (aj cB hr rfl (qa (af 1) (qa (eZ false (af 2) bq (aX ah)) (qa ah aa))))) (qs (av (i:=5) bN.nd (dG (qa (aJ aG (aJ aG (aJ aG (aJ aG (aJ aG aq (aS (af 2) ah)) aq) (aS (af 2) ah)) aq) (aS (af 2) ah)) (qa (aJ aG (aJ aG (aJ aG aq (aS (af 2) ah)) aq) (aS (af 2) ah)) aa)))) (qs (av (i:=5) bN.nd (aJ Gn (af 5) (dG (qa (aJ aG aq (aj bQ hr rfl (qa (af 1) (qa (af 3) aa)))) (qa (aJ aG aq (aj bQ hr rfl (qa (af 1) (qa (af 4) aa)))) aa))))) (qs (av (i:=6) bN.nd (ig aa)) (qs (iV PassesOwn.never rfl (uq rfl J.lM (qa (aJ mY (aj jV hr rfl (qa (af 0) (qa ah aa))) ah) aa)) (qg (i:=7) bN.nd) (qs (BZ (aj Lf hr rfl (qa (ig (qa (aj jV hr rfl (qa (af 0) (qa (aJ aG ah (af 7)) aa))) (qa (af 7) aa))) (qa (aK cV (by rfl) J.cW PySem.boot_len (qa (af 5) aa)) (qa (af 2) aa)))) (qm (n:=2) rfl (F6 (qg (i:=8) bN.nd) (F6 (qg (i:=9) bN.nd) lF)))) (qs (cD (kj (af 5) (qa (af 8) aa))) (bM (cD (kj (af 6) (qa (af 9) aa))))))) (qs (av (i:=10) bN.nd (aP (qa aq (qa ah (qa (aS (af 2) ah) (qa (aP (qa (aS (af 2) ah) (qa (aJ aG aq (aS (af 2) ah)) aa))) (qa (aP (qa (aS (af 2) ah) (qa (aS (af 2) ah) aa))) (qa (aP (qa (aP (qa ah (qa (af 3) aa))) aa)) (qa (aP (qa (aP (qa ah (qa (af 4) aa))) aa)) aa))))))))) (qs (av (i:=10) bN.nd (aP (qa (aJ aG (af 10) (aP (qa (aU cy (by rfl) J.b7 boot_tuple (qa (af 6) aa)) aa))) aa))) (qs (av (i:=8) bN.nd (aJ aG (xO aq (qa (af 5) aa)) aq)) (qs (av (i:=11) bN.nd (aj OI hr rfl (qa (af 8) aa))) (qs (bT (qw (xM (xN (uo (aK (JI (c:=.ref A.bE) trivial rfl) (by rfl) J.iL boot_isinstance (qa (af 11) (qa (vG (jI (v:=.ref A.bE) rfl J.iQ rfl)) aa))))) (xM (xN (uo (aK (JI (c:=.ty "tuple") trivial rfl) (by rfl) J.iL boot_isinstance (qa (aR (af 11) sE hr) (qa (vG (Q5 (v:=.ty "tuple") rfl J.b7 boot_tuple rfl)) aa))))) (um (aH (su 40 (uE hr)) (aR (af 11) sE hr) (af 10) (aA _)))))) wG bh) (bM (az (iW (cE (cP 40 (uE hr)) (aR (aj OI hr rfl (qa (af 8) aa)) sE hr) (af 10) (aA _)) (ki (cE (cP 40 (uE hr)) (aR (af 11) sE hr) (af 10) (aA _))))))))))))))))))),fun ds S kk hc hd h=>?_⟩;obtain⟨l,rfl,rfl,h⟩:=h;refine jx fun Nx fB=>?_;refine⟨_,rfl,l,0,rfl,fun c0=>?_⟩;refine⟨_,rfl,sz 2,?_⟩;refine fB _ _ ?_
 try dsimp only[dD]
 clear fB Nx;have DQ:∀ (x y:Int) (G:aY),Dq (O.lst [T.int x,T.int y]::G) 0:=fun x y G=>⟨x,y,rfl⟩
 have DW:∀ (x y c m:Int) (G:aY),bS (O.lst [T.int x,T.int y]::G) 0 c m=O.lst [T.int c,T.int m]::G:=fun _ _ _ _ _=>rfl;refine jx fun Nx fB=>?_;refine⟨_,rfl,0,5,rfl,by decide,DQ _ _ _,fun ns c m hl nd hnm=>?_⟩;obtain⟨a0,a1,a2,a3,a4,rfl⟩:=Si hl;rw[show bS ([]++[O.lst [T.int c0,T.int 0]]) 0 c m=[O.lst [T.int c,T.int m]] from rfl];refine fB _ _ ?_
 try dsimp only[dD]
 clear fB Nx;have n0:=hnm a0 (by simp);have n1:=hnm a1 (by simp);have n2:=hnm a2 (by simp);have n3:=hnm a3 (by simp);have n4:=hnm a4 (by simp);have W7:∀ x∈[a0,a1],zu x:=fun x hx=>mZ (hnm x (by simp at hx ⊢;rcases hx with h | h <;> simp[h]));have hN3:∀ x∈[a0,a1,a2],zu x:=fun x hx=>mZ (hnm x (by simp at hx ⊢;rcases hx with h | h | h <;> simp[h]));have q0:=bJ n0;have q1:=bJ n1;have q2:=bJ n2;have q3:=bJ n3;have q4:=bJ n4;refine jx fun Nx fB=>?_;refine⟨_,rfl,_,rfl,2,rfl,_,rfl,0,_,[a0,a1],by decide,rfl,DQ _ _ _,rfl,by simp,fun en c m hen hdn hzn=>?_⟩;rw[DW];refine fB _ _ ?_
 try dsimp only[dD]
 clear fB Nx;refine jx fun Nx fB=>?_;refine⟨_,rfl,_,rfl,3,rfl,_,rfl,0,_,[a0,a1,a2],by decide,rfl,DQ _ _ _,rfl,by simp,fun eg c m heg hdg hzg=>?_⟩;rw[DW];refine fB _ _ ?_
 try dsimp only[dD]
 clear fB Nx;have e_h:("helper ":Str).length<=10:=by decide +kernel
 have qB:(" ":Str).length<=10:=by decide +kernel
 have a1n:(" #":Str).length<=10:=by decide +kernel
 have Xi:("answers ":Str).length<=10:=by decide +kernel
 have a5g:("needs ":Str).length<=10:=by decide +kernel
 have a5i:("gives ":Str).length<=10:=by decide +kernel
 have a5h:("#":Str).length<=10:=by decide +kernel
 have x0:a0.length<=10:=Nat.le_trans q0 (by decide);have x1:a1.length<=10:=Nat.le_trans q1 (by decide);have x2:a2.length<=10:=Nat.le_trans q2 (by decide);have x3:a3.length<=10:=Nat.le_trans q3 (by decide);have x4:a4.length<=10:=Nat.le_trans q4 (by decide);have z5:("needs ":Str).length=6:=by decide +kernel
 have z6:("gives ":Str).length=6:=by decide +kernel
 have SZ:∀ n,n<=1000000->n<=sizeLine:=fun n h=>gp h;refine jx fun Nx fB=>?_;refine⟨_,rfl,_,_,rfl,aB (j:=3) rfl,pY e_h x3,pY (le_app e_h x3) qB,_,rfl,_,_,rfl,aB (j:=1) rfl,pY (le_app (le_app e_h x3) qB) x1,pY (le_app (le_app (le_app e_h x3) qB) x1) a1n,_,rfl,_,_,rfl,aB (j:=4) rfl,pY (le_app (le_app (le_app (le_app e_h x3) qB) x1) a1n) x4,_,rfl,_,_,rfl,aB (j:=0) rfl,pY Xi x0,pY (le_app Xi x0) qB,_,rfl,_,_,rfl,aB (j:=2) rfl,pY (le_app (le_app Xi x0) qB) x2,_,rfl,sz 2,?_⟩;refine fB _ _ ?_
 try dsimp only[dD]
 clear fB Nx;refine jx fun Nx fB=>?_;refine⟨_,rfl,_,rfl,_,rfl,0,en,_,rfl,DQ _ _ _,hen,W7,by omega,by decide,fun wn c m okn ecn=>?_⟩;rw[DW];have crn:Fo wn:=⟨okn,by rw[<- yD,ecn];exact hdn⟩
 have ln:=tY crn;refine⟨pY a5g ln,_,rfl,_,rfl,0,eg,_,rfl,DQ _ _ _,heg,hN3,by omega,by decide,fun wg c m okg ecg=>?_⟩;rw[DW];have crg:Fo wg:=⟨okg,by rw[<- yD,ecg];exact hdg⟩
 have lg:=tY crg;refine⟨pY a5i lg,_,rfl,sz 2,_,_,rfl,rfl,sz 4,?_⟩;refine fB _ _ ?_
 try dsimp only[dD]
 clear fB Nx;refine jx fun Nx fB=>?_;refine⟨_,rfl,sz 0,?_⟩;refine fB _ _ ?_
 try dsimp only[dD]
 clear fB Nx;have r0:=Sd n3 n1 n4;have r1:=SI n0 n2;have r2:=LI (w:="needs") (w':="needs ") (by decide +kernel) crn (by decide +kernel) (by rw[z5];decide);have r3:=LI (w:="gives") (w':="gives ") (by decide +kernel) crg (by decide +kernel) (by rw[z6];decide);generalize et0:((((("helper ":Str)++a3)++(" ":Str))++a1)++(" #":Str))++a4=t0 at r0;generalize et1:((("answers ":Str)++a0)++(" ":Str))++a2=t1 at r1;generalize et2:("needs ":Str)++zo wn=t2 at r2;generalize et3:("gives ":Str)++zo wg=t3 at r3;refine jx fun Nx fB=>?_;refine⟨_,rfl,l,1,rfl,fun rr=>⟨by show(0:Int) < 9;decide,_,rfl,by have:=Int.emod_nonneg rr (show(9:Int)≠0 by decide);omega,by have:=Int.emod_lt_of_pos rr (show(0:Int) < 9 by decide);omega,?_⟩⟩;have hn8:(rr % 9).toNat<=8:=by have:=Int.emod_lt_of_pos rr (show(0:Int) < 9 by decide);omega
 generalize (rr % 9).toNat=nn at hn8;refine wN (fun i δ S'=>∃ (ts:List Str) (xs:List SX) (y7 y8 y9:Option D) (G:aY),δ=[some (D.t (.Fq (l.map T.int))),some (D.ob 0),some (D.t (Lr [a0,a1,a2,a3,a4])),some (D.t (mz en)),some (D.t (mz eg)),some (D.ob 1),some (D.ob 2),y7,y8,y9,none,none]/\S'=O.lst [T.int c,T.int m]::O.lst (([t0,t1,t2,t3]++ts).map T.str)::O.lst ((vA 4 xs).map oJ)::G/\xs.length=i/\Paired XJ ts xs/\Yo 4 xs) ⟨[],[],_,_,_,[],rfl,rfl,rfl,.nil,trivial⟩ ?_ ?_
 ·rintro i x δ S' N hx ⟨ts,xs,y7,y8,y9,G,rfl,rfl,Ls,hp,hL⟩ hN;have hi:i < nn:=by
   have:=(List.getElem?_eq_some_iff.mp hx).1;simpa using this
  rw[List.getElem?_map,List.getElem?_range hi] at hx;cases hx;have htl:ts.length=i:=by rw[Paired.length hp,Ls]
  refine⟨trivial,_,rfl,_,rfl,l,2+i,rfl,fun rc=>?_⟩;refine⟨_,rfl,_,rfl,sz 2,_,rfl,_,rfl,_,rfl,_,4+i,a0,a1,a2,a3,a4,?_,⟨_,_,aD⟩,hnm,fun x t c' m' ok rt st dp=>?_⟩
  ·rw[List.length_map,List.length_append,htl];rfl
  rw[show ∀ (S:aY) (o:O) c m,bS (S++[o]) S.length c m=S++[O.lst [T.int c,T.int m]] from fun S o c m=>cC];refine⟨_,rfl,rfl,_,_,rfl,_,_,rfl,rfl,?_⟩;refine⟨_,rfl,⟨rfl,_,rfl⟩,_,rfl,_,rfl,A4 (by rw[List.length_map,List.length_append,htl];simp;omega),?_⟩;refine⟨_,rfl,⟨rfl,_,rfl⟩,_,rfl,_,rfl,A4 (by rw[List.length_map,wm];omega),?_⟩;refine hN _ _ ⟨ts++[t],xs++[x],_,_,_,G++[O.lst [T.int c',T.int m']],rfl,?_,by rw[List.length_append,Ls];rfl,iX hp (.cons ⟨rt,ok⟩ .nil),Ib hL (by rw[Ls];exact st)⟩;rw[A7,Ls,<- List.append_assoc,List.map_append (l₁:=[t0,t1,t2,t3]++ts),List.map_append (l₁:=vA 4 xs)];rfl
 rintro δ S' ⟨ts,xs,y7,y8,y9,G,rfl,rfl,Ls,hp,hL⟩;refine⟨trivial,fB _ _ ?_⟩;clear fB Nx;rw[List.length_map,List.length_range] at Ls;have htl:ts.length=xs.length:=Paired.length hp;have kn:Lq wn.cd:=by rw[ecn];exact⟨zl.g W7 hen,by omega,hzn⟩
 have kg:Lq wg.cd:=by rw[ecg];exact⟨zl.g hN3 heg,by omega,hzg⟩
 have hok:=a1a (wn:=wn) (wg:=wg) hnm crn crg (Vo (fun _ _ z=>z.ok) hp) (by omega);have hg:=a4g (wn:=wn) (wg:=wg) hnm kn kg hL (by omega);generalize hX:zR a0 a1 a2 a3 a4 wn wg xs=X at hok hg;have due:T.tup ([T.str "helper",T.int 0,T.str a3,T.tup [T.str a1,T.str (("#":Str)++a4)],T.tup [T.str a0,T.str a2],T.tup [T.tup [T.int 2,mz en]],T.tup [T.tup [T.int 3,mz eg]]]++[T.tup ((vA 4 xs).map oJ)])=Sa (X.hl 0):=by
  rw[<- hX,<- ecn,<- ecg];unfold Sa;rw[xo];rfl
 refine jx fun Nx fB=>?_;refine⟨_,rfl,_,_,rfl,aB (j:=3) rfl,_,rfl,_,_,rfl,aB (j:=1) rfl,_,rfl,_,_,rfl,aB (j:=4) rfl,pY a5h x4,_,rfl,sz 2,_,rfl,_,_,rfl,aB (j:=0) rfl,_,rfl,_,_,rfl,aB (j:=2) rfl,_,rfl,sz 2,_,rfl,_,rfl,sz 2,_,rfl,sz 1,_,rfl,_,rfl,sz 2,_,rfl,sz 1,_,rfl,sz 7,?_⟩;refine fB _ _ ?_
 try dsimp only[dD]
 clear fB Nx;refine jx fun Nx fB=>?_;refine⟨_,rfl,_,rfl,_,rfl,_,rfl,sz 1,sz 8,_,rfl,sz 1,?_⟩;rw[due];refine fB _ _ ?_
 try dsimp only[dD]
 clear fB Nx;have allR:∀ t∈[t0,t1,t2,t3]++ts,10 ∉ cp t/\t.length<=100000:=fun t ht=>by
  rcases List.mem_append.mp ht with ht | ht
  ·simp at ht;rcases ht with rfl | rfl | rfl | rfl
   ·exact⟨r0.nl,r0.len⟩
   ·exact⟨r1.nl,r1.len⟩
   ·exact⟨r2.nl,r2.len⟩
   ·exact⟨r3.nl,r3.len⟩
  ·exact Vp (R:=fun t=>10 ∉ cp t/\t.length<=100000) (fun _ _ z=>⟨z.r.nl,z.r.len⟩) hp t ht
 have rl:([t0,t1,t2,t3]++ts).length<=12:=by rw[List.length_append];simp;omega
 have sl:=ua (l:=[t0,t1,t2,t3]++ts) (M:=100000) fun x hx=>(allR x hx).2;have jl:=Ct "\n" ([t0,t1,t2,t3]++ts);have zn:("\n":Str).length=1:=by decide +kernel
 have ze:("\nend\n":Str).length=5:=by decide +kernel
 rw[zn] at jl;refine jx fun Nx fB=>?_;refine⟨rfl,_,rfl,[t0,t1,t2,t3]++ts,rfl,by rw[zn];omega,Nat.le_trans (m:=2000000) (by rw[ze];omega) (by rw[sizeLine_eq];decide),?_⟩;have tl:(Txt.join "\n" ([t0,t1,t2,t3]++ts)++("\nend\n":Str)).length<=5000000:=by rw[fN,ze];omega
 have sp:Txt.split (Txt.join "\n" ([t0,t1,t2,t3]++ts)++("\nend\n":Str)) "\n"=(([t0,t1,t2,t3]++ts)++[("end":Str)])++[("":Str)]:=Mf (x:=t0) (l:=t1::t2::t3::ts) fun t ht=>(allR t ht).1;have sr:((([t0,t1,t2,t3]++ts)++[("end":Str)]).map fun x=>Txt.split x " ")=X.rows:=by
  rw[<- hX,List.map_append,List.map_append,MI hp];show([Txt.split t0 " ",Txt.split t1 " ",Txt.split t2 " ",Txt.split t3 " "]++xs.map SX.jZ)++[Txt.split ("end":Str) " "]=_;rw[r0.sp,r1.sp,r2.sp,r3.sp,U5];unfold zR HX.rows;simp
 have xl:(([t0,t1,t2,t3]++ts)++[("end":Str)]).length<=1000:=by rw[List.length_append];simp at rl ⊢;omega
 have xb:∀ x∈([t0,t1,t2,t3]++ts)++[("end":Str)],x.length<=100000:=fun x hx=>by
  rcases List.mem_append.mp hx with hx | hx
  ·exact(allR x hx).2
  ·rw[List.mem_singleton.mp hx];decide +kernel
 generalize Txt.join "\n" ([t0,t1,t2,t3]++ts)++("\nend\n":Str)=tx at tl sp;refine fB _ _ ?_
 try dsimp only[dD]
 clear fB Nx;refine jx fun Nx fB=>?_;refine⟨_,rfl,tx,_,X,rfl,tl,sp,xl,xb,sr,hok,?_⟩;refine fB _ _ ?_
 try dsimp only[dD]
 clear fB Nx;have hs1:∀ h∈[X.hl 0],XO h/\yz h.steps<=1/\∀ s∈h.steps,kd s < 7:=fun h hh=>by rw[List.mem_singleton.mp hh];exact⟨hg.1,hg.2,Mb _ _⟩
 have FL:=Xe fun h hh=>⟨(hs1 h hh).1,Nat.le_trans (hs1 h hh).2.1 (by decide)⟩
 refine⟨_,rfl,rfl,_,_,rfl,J.kP,true,rfl,?_⟩;dsimp only;rw[if_neg (by decide)];refine⟨_,rfl,0,_,_,by decide,rfl,by decide +kernel,[X.hl 0],rfl,by simp,hs1,rfl,_,_,rfl,J.kT,true,rfl,?_⟩;dsimp only;rw[if_neg (by decide)];refine⟨_,rfl,0,_,_,by decide,rfl,by decide +kernel,[X.hl 0],rfl,by simp,hs1,_,rfl,.inl ⟨rfl,FL,_,rfl,?_⟩⟩;dsimp only;rw[if_neg (by decide)];refine⟨_,rfl,tx,_,X,rfl,tl,sp,xl,xb,sr,hok,0,_,_,by decide,rfl,by decide +kernel,[X.hl 0],rfl,by simp,hs1,_,rfl,.inl ⟨rfl,FL,_,rfl,?_⟩⟩
 try dsimp only
 rw[if_pos (by decide)];exact⟨_,rfl,0,_,_,by decide,rfl,by decide +kernel,[X.hl 0],rfl,by simp,hs1,_,rfl,.inl ⟨rfl,FL,iA (h _)⟩⟩
noncomputable abbrev pO:Stmt:=top 84
theorem Vk:au ["_law_script"] ["_law_script"] (ai pO):=dM
theorem Wn (F:cj K "law" "law" pO f fd)(J:Fx K mg A)(vO:tP P w K mg base k):aN P w K mg base cG (k+1) f fd ["_law_script"] (br K Mw):=by
 refine bD F Vk fun cdv B outer s H E hr=>?_;rw[show ao pO=[_] from rfl];refine⟨_,(bM (Vy (bM (az (aj vO hr rfl (qa (af 0) aa)))))),fun ds S kk hc hd h=>?_⟩;obtain⟨l,rfl,rfl,h⟩:=h;exact⟨_,rfl,l,rfl,rfl,fun S'=>iA (h S')⟩
end
structure mw (K:PySem.W.Frag)(C:Addr):Prop where
 pg:PySem.W.plainGet K C Str.empty=true
 hd:PySem.W.hasDictIn K C=true
 po:PySem.W.plainOver K C=true
 sa:PySem.W.findIn K (.ref C) "__setattr__"=some (some (.builtin "object.__setattr__"))
 mi:PySem.W.makesIn K C=true
 kc:PySem.W.keepIn K (.ref C)=true
 ca:PySem.W.findIn K (.ref C) "__class__"=some (some (.builtin "object.__class__"))
 cm:PySem.W.mroIn K C (.type "object")=some true
theorem mw.ok {K:PySem.W.Frag}{C:Addr}(q:mw K C)(cg:PySem.W.specialIn K (.builtin "object.__class__") "__get__"=some (some (.builtin "getset_descriptor.__get__")))(ct:PySem.W.takesIn K (.builtin "object.__class__")=some true):eV K C []:=⟨⟨q.pg,q.hd,q.po,q.sa⟩,fun _ h=>absurd h List.not_mem_nil,q.ca,cg,ct,q.cm⟩
noncomputable def FnAt (K:PySem.W.Frag)(f:Addr)(x qual:Str)(st:Stmt):Prop:=∃ fd,cj K x qual st f fd/\PySem.W.keepIn K (.ref f)=true
noncomputable def FnAt.fd {K:PySem.W.Frag}{f:Addr}{x qual:Str}{st:Stmt}(h:FnAt K f x qual st):FuncData:=Classical.choose h
theorem FnAt.F {K:PySem.W.Frag}{f:Addr}{x qual:Str}{st:Stmt}(h:FnAt K f x qual st):cj K x qual st f h.fd:=(Classical.choose_spec h).1
theorem FnAt.k {K:PySem.W.Frag}{f:Addr}{x qual:Str}{st:Stmt}(h:FnAt K f x qual st):PySem.W.keepIn K (.ref f)=true:=(Classical.choose_spec h).2
section
variable {P:Program}{w:World}{K:PySem.W.Frag}{mg:Str->Option Value}{base:Heap}{k:Nat}{f:Addr}{fd:FuncData}{ps:List Str}{sp Va:c6}{A:Ad}
theorem Xa {s s':Sp}(h:∀ vs H Q E,s' vs H Q E->s vs H Q E)(F:aN P w K mg base cG k f fd ps s):aN P w K mg base cG k f fd ps s' :=
 ⟨fun vs H Q E q=>F.len vs H Q E (h vs H Q E q),fun A outer s H args us vs Q E hr he hb hv q=>F.run A outer s H args us vs Q E hr he hb hv (h _ _ _ _ q)⟩
theorem c5 {s':Sp}(h:∀ vs H Q E,s' vs H Q E->br K sp vs H Q E)(F:aN P w K mg base cG k f fd ps (br K sp)):aN P w K mg base cG k f fd ps s':=Xa h F
theorem iz (h:∀ ds S k,¬ sp ds S k):aN P w K mg base cG k f fd ps (br K sp) :=
 ⟨(by rintro vs H Q E ⟨_,S,ds,kk,_,_,q,_⟩;exact (h ds S kk q).elim),(by rintro A outer s H args us vs Q E hr he hb hv ⟨_,S,ds,kk,_,_,q,_⟩;exact (h ds S kk q).elim)⟩
theorem Gy (h:∀ ds S k,Va ds S k->sp ds S k):∀ vs H Q E,br K Va vs H Q E->br K sp vs H Q E:=(by rintro vs H Q E ⟨ρ,S,ds,kk,R,r,q,hk⟩;exact ⟨ρ,S,ds,kk,R,r,h ds S kk q,hk⟩)
theorem _root_.Hw.Dn.u {x:Str}{j:Nat}{s:Sp}(h:Dn P w K mg base j x ps s)(l:j<=k:=by decide):Dn P w K mg base k x ps s:=Dn.up h l
theorem Ms.u {n j:Nat}{m:Str}{cl:Nat->Addr}{s:Nat->c6}(h:Ms P w K mg base j n cl m ps s)(l:j<=k:=by decide):Ms P w K mg base k n cl m ps s:=Ms.up h l
theorem kJ.u {x:Str}{C:Addr}{j:Nat}(h:kJ P w K mg base j C x ps sp)(l:j<=k:=by decide):kJ P w K mg base k C x ps sp:=kJ.up h l
theorem dA {x y qual:Str}{st:Stmt}{s:Sp}(l:FnAt K f y qual st)(a:mg x=some (.ref f))(b:Binds K l.fd ps [])(o:aN P w K mg base cG k f l.fd ps s):Dn P w K mg base k x ps s:=⟨f,l.fd,o,a,l.k,b⟩
theorem Cm.up {x m:Str}{j:Nat}(h:Cm P w K mg base j x m ps sp)(l:j<=k):Cm P w K mg base k x m ps sp:=let ⟨C,f,fd,F,a⟩:=h.ok;⟨⟨C,f,fd,F.mono l,a⟩⟩
theorem Cm.u {x m:Str}{j:Nat}(h:Cm P w K mg base j x m ps sp)(l:j<=k:=by decide):Cm P w K mg base k x m ps sp:=Cm.up h l
theorem T5:∀ ds S k,¬ U8 ds S k:=fun _ _ _ h=>h
theorem sD (j:Nat):∀ ds S k,¬ fG A 0 j ds S k:=(by rintro _ _ _ ⟨_,_,_,h,_⟩;exact absurd h (Nat.not_lt_zero _))
theorem Wt:∀ ds S k,¬ j8 0 ds S k:=(by rintro _ _ _ ⟨_,_,_,_,_,_,_,h,_⟩;exact absurd h (Nat.not_lt_zero _))
theorem sy {j:Nat}:∀ ds S k,¬ fP A 0 j ds S k:=(by
 rintro ds S k ⟨x,y,_,tx,_⟩;cases tx with
 | s s h d=>exact Nat.not_lt_zero _ d
 | h x h d=>exact Nat.not_lt_zero _ d
 | m s d=>exact Nat.not_lt_zero _ d)
theorem UL {n j:Nat}{x y:T}(h:SK A n x y j)(hj:j < 7):∃ s:oQ,x=ud A s/\y=oJ s/\kd s=j/\zY s/\s.dp < n:=by
 cases h with
 | s s h d=>exact⟨s,rfl,rfl,rfl,h,d⟩
 | h x hx hq=>omega
 | m s d=>omega
theorem jO {n j:Nat}(hj:j < 7):∀ vs H Q E,br K (fP A (n+1) j) vs H Q E->br K (jy A n j) vs H Q E:=Gy (by
 rintro ds S k ⟨x,y,e,tx,h⟩;obtain⟨s,rfl,rfl,h1,h2,h3⟩:=UL tx hj;exact⟨s,e,h1,h2,h3,h⟩)
theorem Pr {n j:Nat}{x y:T}(h:SK A n x y j)(hj:j=7):∃ a:Ly,x=Pf A a/\y=Sa a/\XO a/\yz a.steps+1 < n/\∀ s∈a.steps,kd s < 7:=by
 cases h with
 | s s h d k=>omega
 | h x hx hq k=>exact⟨x,rfl,rfl,hx,hq,k⟩
 | m s d=>cases hj
theorem UM {n:Nat}:∀ vs H Q E,br K (fP A (n+1) 7) vs H Q E->br K (Al A n) vs H Q E:=Gy (by
 rintro ds S k ⟨x,y,e,tx,h⟩;obtain⟨a,rfl,rfl,h1,h2,h3⟩:=Pr tx rfl;exact⟨a,e,h1,h2,h3,h⟩)
theorem LL {n j:Nat}{x y:T}(h:SK A n x y j)(hj:j=8):∃ a:Sm,x=pM A a/\y=iN a:=by
 cases h with
 | s s h d k=>omega
 | h x hx hq=>cases hj
 | m s d=>exact⟨s,rfl,rfl⟩
theorem UK {n:Nat}:∀ vs H Q E,br K (fP A (n+1) 8) vs H Q E->br K (wo A) vs H Q E:=Gy (by
 rintro ds S k ⟨x,y,e,tx,h⟩;obtain⟨a,rfl,rfl⟩:=LL tx rfl;exact⟨a,e,h⟩)
theorem Dp:∀ l:List (Str×Tok),Vals ((l.map (·.1)).map V.str) (l.map fun p=>Value.str p.1 p.2)
 | []=>.nil
 | p::l=>.cons ⟨p.2,rfl⟩ (Dp l)
theorem tupK {a:Addr}{od:Option Addr}{n:Nat}{sl:Array (Option Value)}{l:List (Str×Tok)}(h:K.lookup a=some ⟨.type "tuple",od,.seq (l.map fun p=>Value.str p.1 p.2).toArray n,sl⟩)(hl:decide (l.length<=100)=true):∀ H:Hp,mC K H a ((l.map (·.1)).map V.str):=fun H =>
 .inr ⟨_,_,n,h,rfl,rfl,j4 (by have:=of_decide_eq_true hl;simp;omega),by simpa using Dp l⟩
theorem bI.ofInts {G:Hp}:∀ ns:List Int,bI K G (ns.map T.int) (ns.map V.int)
 | []=>bI.nil
 | a::r=>bI.cons (by unfold Rp;rfl) (bI.ofInts r)
theorem WJ:∀ vs H Q E,Il K vs H Q E->br K Mw vs H Q E:=(by
 rintro vs H Q E ⟨a,ns,e,hs,_,h⟩;refine⟨[],[],[.t (.Fq (ns.map T.int))],fun d _=>d=.bl true,⟨rfl,.nil,fun n a o h=>by cases h⟩,?_,⟨ns,rfl,rfl,fun _=>rfl⟩,fun v H' u=>?_⟩
 ·rw[e];refine .cons ?_ .nil;show Rp _ _ _ _;unfold Rp;rw[Qg];exact⟨a,_,rfl,hs,bI.ofInts ns⟩
 ·obtain⟨ρ',S',d,_,_,r,rfl⟩:=u;rw[aI r];exact h H')
end
theorem kS4 {K:PySem.W.Frag}{A:Ad}(h0:PySem.W.kitOne K (.ref (Fw A 0)) (.ref A.bU)=some false)(h1:PySem.W.kitOne K (.ref (Fw A 1)) (.ref A.bU)=some false)(h2:PySem.W.kitOne K (.ref (Fw A 2)) (.ref A.bU)=some true)(h3:PySem.W.kitOne K (.ref (Fw A 3)) (.ref A.bU)=some true):∀ j,j < 4->PySem.W.kitOne K (.ref (Fw A j)) (.ref A.bU)=some (decide (2<=j)):=fun j hj=>by
 match j,hj with
 | 0,_=>exact h0
 | 1,_=>exact h1
 | 2,_=>exact h2
 | 3,_=>exact h3
end L3
namespace Hw
open PySem L2 PyProof.Rows
theorem rj {us:List Value}{k:Nat}(h:us.length=k+1):∃ a r,us=a::r/\r.length=k:=by
 cases us with
 | nil=>exact absurd h (Nat.succ_ne_zero k).symm
 | cons a r=>exact⟨a,r,rfl,Nat.succ.inj h⟩
theorem a2J {A:FuncData}{B:List Str}(us:List Value)(hl:us.length=0)(k:bindArgs A ⟨[],[]⟩=pure (B.zip [])):bindArgs A ⟨us,[]⟩=pure (B.zip us):=by
 obtain rfl:=List.eq_nil_of_length_eq_zero hl;exact k
theorem a2I {A:FuncData}{B:List Str}(us:List Value)(hl:us.length=1)(k:∀ a,bindArgs A ⟨[a],[]⟩=pure (B.zip [a])):bindArgs A ⟨us,[]⟩=pure (B.zip us):=by
 obtain⟨a,u1,rfl,h1⟩:=rj hl;obtain rfl:=List.eq_nil_of_length_eq_zero h1;exact k a
theorem a2H {A:FuncData}{B:List Str}(us:List Value)(hl:us.length=2)(k:∀ a b,bindArgs A ⟨[a,b],[]⟩=pure (B.zip [a,b])):bindArgs A ⟨us,[]⟩=pure (B.zip us):=by
 obtain⟨a,u1,rfl,h1⟩:=rj hl;obtain⟨b,u2,rfl,h2⟩:=rj h1;obtain rfl:=List.eq_nil_of_length_eq_zero h2;exact k a b
theorem a2G {A:FuncData}{B:List Str}(us:List Value)(hl:us.length=3)(k:∀ a b c,bindArgs A ⟨[a,b,c],[]⟩=pure (B.zip [a,b,c])):bindArgs A ⟨us,[]⟩=pure (B.zip us):=by
 obtain⟨a,u1,rfl,h1⟩:=rj hl;obtain⟨b,u2,rfl,h2⟩:=rj h1;obtain⟨c,u3,rfl,h3⟩:=rj h2;obtain rfl:=List.eq_nil_of_length_eq_zero h3;exact k a b c
theorem a2F {A:FuncData}{B:List Str}(us:List Value)(hl:us.length=4)(k:∀ a b c d,bindArgs A ⟨[a,b,c,d],[]⟩=pure (B.zip [a,b,c,d])):bindArgs A ⟨us,[]⟩=pure (B.zip us):=by
 obtain⟨a,u1,rfl,h1⟩:=rj hl;obtain⟨b,u2,rfl,h2⟩:=rj h1;obtain⟨c,u3,rfl,h3⟩:=rj h2;obtain⟨d,u4,rfl,h4⟩:=rj h3;obtain rfl:=List.eq_nil_of_length_eq_zero h4;exact k a b c d
theorem a2E {A:FuncData}{B:List Str}(us:List Value)(hl:us.length=5)(k:∀ a b c d e,bindArgs A ⟨[a,b,c,d,e],[]⟩=pure (B.zip [a,b,c,d,e])):bindArgs A ⟨us,[]⟩=pure (B.zip us):=by
 obtain⟨a,u1,rfl,h1⟩:=rj hl;obtain⟨b,u2,rfl,h2⟩:=rj h1;obtain⟨c,u3,rfl,h3⟩:=rj h2;obtain⟨d,u4,rfl,h4⟩:=rj h3;obtain⟨e,u5,rfl,h5⟩:=rj h4;obtain rfl:=List.eq_nil_of_length_eq_zero h5;exact k a b c d e
theorem a2D {A:FuncData}{B:List Str}(us:List Value)(hl:us.length=6)(k:∀ a b c d e f,bindArgs A ⟨[a,b,c,d,e,f],[]⟩=pure (B.zip [a,b,c,d,e,f])):bindArgs A ⟨us,[]⟩=pure (B.zip us):=by
 obtain⟨a,u1,rfl,h1⟩:=rj hl;obtain⟨b,u2,rfl,h2⟩:=rj h1;obtain⟨c,u3,rfl,h3⟩:=rj h2;obtain⟨d,u4,rfl,h4⟩:=rj h3;obtain⟨e,u5,rfl,h5⟩:=rj h4;obtain⟨f,u6,rfl,h6⟩:=rj h5;obtain rfl:=List.eq_nil_of_length_eq_zero h6;exact k a b c d e f
theorem a2C {A:FuncData}{B:List Str}(us:List Value)(hl:us.length=8)(k:∀ a b c d e f g h,bindArgs A ⟨[a,b,c,d,e,f,g,h],[]⟩=pure (B.zip [a,b,c,d,e,f,g,h])):bindArgs A ⟨us,[]⟩=pure (B.zip us):=by
 obtain⟨a,u1,rfl,h1⟩:=rj hl;obtain⟨b,u2,rfl,h2⟩:=rj h1;obtain⟨c,u3,rfl,h3⟩:=rj h2;obtain⟨d,u4,rfl,h4⟩:=rj h3;obtain⟨e,u5,rfl,h5⟩:=rj h4;obtain⟨f,u6,rfl,h6⟩:=rj h5;obtain⟨g,u7,rfl,h7⟩:=rj h6;obtain⟨h,u8,rfl,h8⟩:=rj h7;obtain rfl:=List.eq_nil_of_length_eq_zero h8;exact k a b c d e f g h
theorem _root_.L2.cj.b1 {K:PySem.W.Frag}{x qual:Str}{st:Stmt}{f:Addr}{fd:FuncData}{ps:List Str}(F:cj K x qual st f fd)(h:∀ (kV doc pm:Value) (an:Option Addr) (cdv ct a:Value),bindArgs (PySem.W.fnOf x qual (c8 st) (ao st) (ai st) .none kV doc pm an cdv ct) ⟨[a],[]⟩=pure (ps.zip [a]):=by intros;rfl)(hl:ps.length=1:=by rfl):Binds K fd ps []:=F.binds fun kV doc pm an cdv ct us e=>a2I us (e.trans hl) (h kV doc pm an cdv ct)
theorem _root_.L2.cj.b2 {K:PySem.W.Frag}{x qual:Str}{st:Stmt}{f:Addr}{fd:FuncData}{ps:List Str}(F:cj K x qual st f fd)(h:∀ (kV doc pm:Value) (an:Option Addr) (cdv ct a b:Value),bindArgs (PySem.W.fnOf x qual (c8 st) (ao st) (ai st) .none kV doc pm an cdv ct) ⟨[a,b],[]⟩=pure (ps.zip [a,b]):=by intros;rfl)(hl:ps.length=2:=by rfl):Binds K fd ps []:=F.binds fun kV doc pm an cdv ct us e=>a2H us (e.trans hl) (h kV doc pm an cdv ct)
theorem _root_.L2.cj.b3 {K:PySem.W.Frag}{x qual:Str}{st:Stmt}{f:Addr}{fd:FuncData}{ps:List Str}(F:cj K x qual st f fd)(h:∀ (kV doc pm:Value) (an:Option Addr) (cdv ct a b c:Value),bindArgs (PySem.W.fnOf x qual (c8 st) (ao st) (ai st) .none kV doc pm an cdv ct) ⟨[a,b,c],[]⟩=pure (ps.zip [a,b,c]):=by intros;rfl)(hl:ps.length=3:=by rfl):Binds K fd ps []:=F.binds fun kV doc pm an cdv ct us e=>a2G us (e.trans hl) (h kV doc pm an cdv ct)
theorem _root_.L2.cj.b4 {K:PySem.W.Frag}{x qual:Str}{st:Stmt}{f:Addr}{fd:FuncData}{ps:List Str}(F:cj K x qual st f fd)(h:∀ (kV doc pm:Value) (an:Option Addr) (cdv ct a b c d:Value),bindArgs (PySem.W.fnOf x qual (c8 st) (ao st) (ai st) .none kV doc pm an cdv ct) ⟨[a,b,c,d],[]⟩=pure (ps.zip [a,b,c,d]):=by intros;rfl)(hl:ps.length=4:=by rfl):Binds K fd ps []:=F.binds fun kV doc pm an cdv ct us e=>a2F us (e.trans hl) (h kV doc pm an cdv ct)
theorem _root_.L2.cj.b5 {K:PySem.W.Frag}{x qual:Str}{st:Stmt}{f:Addr}{fd:FuncData}{ps:List Str}(F:cj K x qual st f fd)(h:∀ (kV doc pm:Value) (an:Option Addr) (cdv ct a b c d e:Value),bindArgs (PySem.W.fnOf x qual (c8 st) (ao st) (ai st) .none kV doc pm an cdv ct) ⟨[a,b,c,d,e],[]⟩=pure (ps.zip [a,b,c,d,e]):=by intros;rfl)(hl:ps.length=5:=by rfl):Binds K fd ps []:=F.binds fun kV doc pm an cdv ct us e=>a2E us (e.trans hl) (h kV doc pm an cdv ct)
theorem _root_.L2.cj.b6 {K:PySem.W.Frag}{x qual:Str}{st:Stmt}{f:Addr}{fd:FuncData}{ps:List Str}(F:cj K x qual st f fd)(h:∀ (kV doc pm:Value) (an:Option Addr) (cdv ct a b c d e f:Value),bindArgs (PySem.W.fnOf x qual (c8 st) (ao st) (ai st) .none kV doc pm an cdv ct) ⟨[a,b,c,d,e,f],[]⟩=pure (ps.zip [a,b,c,d,e,f]):=by intros;rfl)(hl:ps.length=6:=by rfl):Binds K fd ps []:=F.binds fun kV doc pm an cdv ct us e=>a2D us (e.trans hl) (h kV doc pm an cdv ct)
theorem _root_.L2.cj.b8 {K:PySem.W.Frag}{x qual:Str}{st:Stmt}{f:Addr}{fd:FuncData}{ps:List Str}(F:cj K x qual st f fd)(h:∀ (kV doc pm:Value) (an:Option Addr) (cdv ct a b c d e f g h:Value),bindArgs (PySem.W.fnOf x qual (c8 st) (ao st) (ai st) .none kV doc pm an cdv ct) ⟨[a,b,c,d,e,f,g,h],[]⟩=pure (ps.zip [a,b,c,d,e,f,g,h]):=by intros;rfl)(hl:ps.length=8:=by rfl):Binds K fd ps []:=F.binds fun kV doc pm an cdv ct us e=>a2C us (e.trans hl) (h kV doc pm an cdv ct)
theorem Sf {K:PySem.W.Frag}{x qual:Str}{st:Stmt}{f:Addr}{oc:Value}{od an:Option Addr}{osl:Array (Option Value)}{kV doc pm cdv ct:Value}{A:Arguments}{B:List Stmt}{S:Scope}(l:K.lookup f=some ⟨oc,od,.func (PySem.W.fnOf x qual A B S .none kV doc pm an cdv ct),osl⟩)(e:(A,B,S)=(c8 st,ao st,ai st))(c:PySem.W.codeIn K cdv qual=true)(k:PySem.W.keepIn K (.ref f)=true):cj K x qual st f (PySem.W.fnOf x qual (c8 st) (ao st) (ai st) .none kV doc pm an cdv ct):=by
 obtain⟨e1,e2⟩:=Prod.mk.inj e;obtain⟨e2,e3⟩:=Prod.mk.inj e2;rw[e1,e2,e3] at l;exact W8 l c k
theorem a1j {K:PySem.W.Frag}{x qual:Str}{st:Stmt}{f:Addr}{oc:Value}{od an:Option Addr}{osl:Array (Option Value)}{kV doc pm cdv ct:Value}{A:Arguments}{B:List Stmt}{S:Scope}(l:K.lookup f=some ⟨oc,od,.func (PySem.W.fnOf x qual A B S .none kV doc pm an cdv ct),osl⟩)(e:(A,B,S)=(c8 st,ao st,ai st))(c:PySem.W.codeIn K cdv qual=true)(k:PySem.W.keepIn K (.ref f)=true):L3.FnAt K f x qual st:=⟨_,Sf l e c k,k⟩
theorem _root_.L2.cj.b0 {K:PySem.W.Frag}{x qual:Str}{st:Stmt}{f:Addr}{fd:FuncData}{ps:List Str}(F:cj K x qual st f fd)(h:∀ (kV doc pm:Value) (an:Option Addr) (cdv ct:Value),bindArgs (PySem.W.fnOf x qual (c8 st) (ao st) (ai st) .none kV doc pm an cdv ct) ⟨[],[]⟩=pure (ps.zip []):=by intros;rfl)(hl:ps.length=0:=by rfl):Binds K fd ps []:=F.binds fun kV doc pm an cdv ct us e=>a2J us (e.trans hl) (h kV doc pm an cdv ct)
open PySem.W (findIn keepIn fnOf codeIn kitOne nsIn mg_of isFn plainGet hasDictIn plainOver makesIn mg_none_of mroIn)
theorem all_mk {l:PySem.W.OpenLaw}{w:World}{K:PySem.W.Frag}{h:Heap}{mg:Str->Option Value}{fa jW bF cJ bU dW gn jm bH cO jk fE dN eF oE oB bC bE dZ bz Sp f1 f2 f3 f4 f5 f6 f7 f8 f9 f10 f11 f12 f13 f14 f15 f16 f17 f18 f19 f20 f21 f22 f23 f24 f25 f26 f27 f28 f29 f30 f31 f32 f33 f34 f35 f36 f37 f38 f39 f40 f41 f42 f43 f44 f45 f46 f47 f48 f49 f50 f51 f52 f53 f54 f55 f56 f57 f58 f59 f60 f61 f62 f63 f64 f65 f66 f67 f68 f69 f70 f71 f72 f73 f74 f75 f76 f77 f78 f79:Addr}{vq:Addr}{Ci:Option Addr}{Eg:Nat}{Be:Array (Option Value)}{rN rM rL rK rJ rH rG rF rE rD pJ pI pH pG pF pC pB pA pe o9 o8:Tok}{OV:Addr}{RE:Option Addr}{Ww:Nat}{PN:Array (Option Value)}{HK HJ HH HG HF HE:Tok}{tD1 tD2 tD3:Tok}(X:K.In h)(G:h.Ns mainGlobals mg)(hfa:mg "law"=some (.ref fa))
  {a3n a1H:Option Addr} {a23:Array (Option Value)} {a3o a0X a1t ZO XC a1v:Value} {A79:Arguments} {B79:List Stmt} {S79:Scope}
  (Ep:nsIn K mainGlobals "Sum"=some (some (.ref jW)))
  (DS:L3.mw K jW)
  (gS:findIn K (.ref jW) "terms"=some none)
  (fX:findIn K (.ref jW) "number"=some none)
  (kE:nsIn K mainGlobals "Compare"=some (some (.ref bF)))
  (kq:L3.mw K bF)
  (fk:findIn K (.ref bF) "one"=some none)
  (eB:findIn K (.ref bF) "sign"=some none)
  (dS:findIn K (.ref bF) "other"=some none)
  (nu:nsIn K mainGlobals "Turned"=some (some (.ref cJ)))
  (mL:L3.mw K cJ)
  (cM:findIn K (.ref cJ) "condition"=some none)
  (iP:nsIn K mainGlobals "Several"=some (some (.ref bU)))
  (sQ:nsIn K mainGlobals "Every"=some (some (.ref dW)))
  (se:L3.mw K dW)
  (cN:findIn K (.ref dW) "conditions"=some none)
  (yt:nsIn K mainGlobals "Some"=some (some (.ref gn)))
  (xQ:L3.mw K gn)
  (cR:findIn K (.ref gn) "conditions"=some none)
  (Es:nsIn K mainGlobals "Let"=some (some (.ref jm)))
  (DU:L3.mw K jm)
  (m6:findIn K (.ref jm) "at"=some none)
  (jb:findIn K (.ref jm) "name"=some none)
  (gY:findIn K (.ref jm) "total"=some none)
  (nB:nsIn K mainGlobals "Divide"=some (some (.ref bH)))
  (mQ:L3.mw K bH)
  (g9:findIn K (.ref bH) "at"=some none)
  (fj:findIn K (.ref bH) "name"=some none)
  (fh:findIn K (.ref bH) "word"=some none)
  (ez:findIn K (.ref bH) "total"=some none)
  (g8:findIn K (.ref bH) "by"=some none)
  (sP:nsIn K mainGlobals "Fetch"=some (some (.ref cO)))
  (r9:L3.mw K cO)
  (jc:findIn K (.ref cO) "at"=some none)
  (fY:findIn K (.ref cO) "name"=some none)
  (g7:findIn K (.ref cO) "row"=some none)
  (ff:findIn K (.ref cO) "place"=some none)
  (Er:nsIn K mainGlobals "Put"=some (some (.ref jk)))
  (DT:L3.mw K jk)
  (m5:findIn K (.ref jk) "at"=some none)
  (ku:findIn K (.ref jk) "row"=some none)
  (gW:findIn K (.ref jk) "place"=some none)
  (gU:findIn K (.ref jk) "total"=some none)
  (yv:nsIn K mainGlobals "Make"=some (some (.ref fE)))
  (xS:L3.mw K fE)
  (kB:findIn K (.ref fE) "at"=some none)
  (ja:findIn K (.ref fE) "row"=some none)
  (gX:findIn K (.ref fE) "size"=some none)
  (sR:nsIn K mainGlobals "Claim"=some (some (.ref dN)))
  (sf:L3.mw K dN)
  (jd:findIn K (.ref dN) "at"=some none)
  (cT:findIn K (.ref dN) "condition"=some none)
  (yw:nsIn K mainGlobals "Call"=some (some (.ref eF)))
  (xT:L3.mw K eF)
  (kC:findIn K (.ref eF) "at"=some none)
  (fZ:findIn K (.ref eF) "names"=some none)
  (fq:findIn K (.ref eF) "helper"=some none)
  (gb:findIn K (.ref eF) "given"=some none)
  (sS:nsIn K mainGlobals "Choose"=some (some (.ref oE)))
  (sO:nsIn K mainGlobals "Repeat"=some (some (.ref oB)))
  (nA:nsIn K mainGlobals "Helper"=some (some (.ref bC)))
  (mP:L3.mw K bC)
  (gZ:findIn K (.ref bC) "at"=some none)
  (e9:findIn K (.ref bC) "name"=some none)
  (dR:findIn K (.ref bC) "params"=some none)
  (di:findIn K (.ref bC) "answers"=some none)
  (d9:findIn K (.ref bC) "needs"=some none)
  (er:findIn K (.ref bC) "gives"=some none)
  (d8:findIn K (.ref bC) "steps"=some none)
  (iQ:nsIn K mainGlobals "Program"=some (some (.ref bE)))
  (ko:L3.mw K bE)
  (cS:findIn K (.ref bE) "helpers"=some none)
  (yu:nsIn K mainGlobals "Rows"=some (some (.ref dZ)))
  (xR:L3.mw K dZ)
  (gT:findIn K (.ref dZ) "rows"=some none)
  (iO:findIn K (.ref dZ) "at"=some none)
  (nv:nsIn K mainGlobals "Tokens"=some (some (.ref bz)))
  (mO:L3.mw K bz)
  (dQ:findIn K (.ref bz) "tokens"=some none)
  (dh:findIn K (.ref bz) "place"=some none)
  (gR:findIn K (.ref bz) "at"=some none)
  (GL:nsIn K mainGlobals "Step"=some (some (.ref Sp)))
  (UG:PySem.W.findCls K (.ref Sp) (.type "type") "__init__"=some (.val (.ref f21)))
  (lY:PySem.W.specialIn K (.builtin "object.__class__") "__get__"=some (some (.builtin "getset_descriptor.__get__")))
  (lX:PySem.W.takesIn K (.builtin "object.__class__")=some true)
  (UE:PySem.W.specialIn K (.ref Sp) "__getattribute__"=some (some (.builtin "type.__getattribute__")))
  (UD:PySem.W.readsIn K Sp (.type "type")=true)
  (a1:nsIn K mainGlobals "refuse_unless"=some (some (.ref f1)))
  (l1:L3.FnAt K f1 "refuse_unless" "refuse_unless" L3.rX)
  (a2:nsIn K mainGlobals "are_figures"=some (some (.ref f2)))
  (l2:L3.FnAt K f2 "are_figures" "are_figures" L3.BV)
  (a3:nsIn K mainGlobals "is_name"=some (some (.ref f3)))
  (l3:L3.FnAt K f3 "is_name" "is_name" L3.BU)
  (a4:nsIn K mainGlobals "is_thing"=some (some (.ref f4)))
  (l4:L3.FnAt K f4 "is_thing" "is_thing" L3.BS)
  (a5:nsIn K mainGlobals "is_figure_row"=some (some (.ref f5)))
  (l5:L3.FnAt K f5 "is_figure_row" "is_figure_row" L3.BX)
  (a6:nsIn K mainGlobals "term_of"=some (some (.ref f6)))
  (l6:L3.FnAt K f6 "term_of" "term_of" L3.BA)
  (a7:nsIn K mainGlobals "signed_terms"=some (some (.ref f7)))
  (l7:L3.FnAt K f7 "signed_terms" "signed_terms" L3.IA)
  (a8:nsIn K mainGlobals "sum_of_words"=some (some (.ref f8)))
  (l8:L3.FnAt K f8 "sum_of_words" "sum_of_words" L3.Iz)
  (a9:nsIn K mainGlobals "given_of"=some (some (.ref f9)))
  (l9:L3.FnAt K f9 "given_of" "given_of" L3.IC)
  (CY:findIn K (.ref jW) "__init__"=some (some (.ref f10)))
  (i10:isFn K (.ref f10)=true)
  (l10:L3.FnAt K f10 "__init__" "Sum.__init__" L3.k8)
  (a11:nsIn K mainGlobals "sum_of"=some (some (.ref f11)))
  (l11:L3.FnAt K f11 "sum_of" "sum_of" L3.rW)
  (lQ:findIn K (.ref jW) "told"=some (some (.ref f12)))
  (i12:isFn K (.ref f12)=true)
  (Fv:L3.FnAt K f12 "told" "Sum.told" L3.kZ)
  (nH:findIn K (.ref bF) "__init__"=some (some (.ref f13)))
  (i13:isFn K (.ref f13)=true)
  (l13:L3.FnAt K f13 "__init__" "Compare.__init__" L3.fV)
  (qM:findIn K (.ref cJ) "__init__"=some (some (.ref f14)))
  (i14:isFn K (.ref f14)=true)
  (l14:L3.FnAt K f14 "__init__" "Turned.__init__" L3.gH)
  (CV:findIn K (.ref jm) "__init__"=some (some (.ref f15)))
  (i15:isFn K (.ref f15)=true)
  (l15:L3.FnAt K f15 "__init__" "Let.__init__" L3.lC)
  (qL:findIn K (.ref bH) "__init__"=some (some (.ref f16)))
  (i16:isFn K (.ref f16)=true)
  (l16:L3.FnAt K f16 "__init__" "Divide.__init__" L3.gM)
  (uK:findIn K (.ref cO) "__init__"=some (some (.ref f17)))
  (i17:isFn K (.ref f17)=true)
  (l17:L3.FnAt K f17 "__init__" "Fetch.__init__" L3.iE)
  (CU:findIn K (.ref jk) "__init__"=some (some (.ref f18)))
  (i18:isFn K (.ref f18)=true)
  (l18:L3.FnAt K f18 "__init__" "Put.__init__" L3.lA)
  (yW:findIn K (.ref fE) "__init__"=some (some (.ref f19)))
  (i19:isFn K (.ref f19)=true)
  (l19:L3.FnAt K f19 "__init__" "Make.__init__" L3.jF)
  (uJ:findIn K (.ref dN) "__init__"=some (some (.ref f20)))
  (i20:isFn K (.ref f20)=true)
  (l20:L3.FnAt K f20 "__init__" "Claim.__init__" L3.iI)
  (l21:L3.FnAt K f21 "__init__" "Step.__init__" L3.jC)
  (uI:findIn K (.ref dW) "__init__"=some (some (.ref f22)))
  (yV:findIn K (.ref gn) "__init__"=some (some (.ref f22)))
  (i22:isFn K (.ref f22)=true)
  (XT:L3.FnAt K f22 "__init__" "Several.__init__" L3.fR)
  (yU:findIn K (.ref eF) "__init__"=some (some (.ref f23)))
  (i23:isFn K (.ref f23)=true)
  (l23:L3.FnAt K f23 "__init__" "Call.__init__" L3.jH)
  (qK:findIn K (.ref bC) "__init__"=some (some (.ref f24)))
  (i24:isFn K (.ref f24)=true)
  (l24:L3.FnAt K f24 "__init__" "Helper.__init__" L3.gJ)
  (nG:findIn K (.ref bE) "__init__"=some (some (.ref f25)))
  (i25:isFn K (.ref f25)=true)
  (l25:L3.FnAt K f25 "__init__" "Program.__init__" L3.fT)
  (a26:nsIn K mainGlobals "as_pairs"=some (some (.ref f26)))
  (l26:L3.FnAt K f26 "as_pairs" "as_pairs" L3.kY)
  (a27:nsIn K mainGlobals "told_pairs"=some (some (.ref f27)))
  (l27:L3.FnAt K f27 "told_pairs" "told_pairs" L3.iC)
  (Yl:nsIn K mainGlobals "told_each"=some (some (.ref f28)))
  (I8:L3.FnAt K f28 "told_each" "told_each" L3.jz)
  (fL:findIn K (.ref bF) "told"=some (some (.ref f29)))
  (Yc:isFn K (.ref f29)=true)
  (KO:L3.FnAt K f29 "told" "Compare.told" L3.fU)
  (gC:findIn K (.ref cJ) "told"=some (some (.ref f30)))
  (Yb:isFn K (.ref f30)=true)
  (KN:L3.FnAt K f30 "told" "Turned.told" L3.gG)
  (iU:findIn K (.ref dW) "told"=some (some (.ref f31)))
  (X8:isFn K (.ref f31)=true)
  (KL:L3.FnAt K f31 "told" "Every.told" L3.iG)
  (kI:findIn K (.ref gn) "told"=some (some (.ref f32)))
  (X7:isFn K (.ref f32)=true)
  (KJ:L3.FnAt K f32 "told" "Some.told" L3.jD)
  (oH:findIn K (.ref jm) "told"=some (some (.ref f33)))
  (X6:isFn K (.ref f33)=true)
  (KI:L3.FnAt K f33 "told" "Let.told" L3.lB)
  (gB:findIn K (.ref bH) "told"=some (some (.ref f34)))
  (X5:isFn K (.ref f34)=true)
  (KH:L3.FnAt K f34 "told" "Divide.told" L3.gK)
  (iS:findIn K (.ref cO) "told"=some (some (.ref f35)))
  (X4:isFn K (.ref f35)=true)
  (KG:L3.FnAt K f35 "told" "Fetch.told" L3.iD)
  (oG:findIn K (.ref jk) "told"=some (some (.ref f36)))
  (X3:isFn K (.ref f36)=true)
  (KC:L3.FnAt K f36 "told" "Put.told" L3.k9)
  (kH:findIn K (.ref fE) "told"=some (some (.ref f37)))
  (X0:isFn K (.ref f37)=true)
  (KA:L3.FnAt K f37 "told" "Make.told" L3.jE)
  (iR:findIn K (.ref dN) "told"=some (some (.ref f38)))
  (XZ:isFn K (.ref f38)=true)
  (Kz:L3.FnAt K f38 "told" "Claim.told" L3.iH)
  (kG:findIn K (.ref eF) "told"=some (some (.ref f39)))
  (XY:isFn K (.ref f39)=true)
  (Ky:L3.FnAt K f39 "told" "Call.told" L3.jG)
  (gz:findIn K (.ref bC) "told"=some (some (.ref f40)))
  (XX:isFn K (.ref f40)=true)
  (Kw:L3.FnAt K f40 "told" "Helper.told" L3.gI)
  (nF:findIn K (.ref bE) "told"=some (some (.ref f41)))
  (i41:isFn K (.ref f41)=true)
  (l41:L3.FnAt K f41 "told" "Program.told" L3.fS)
  (qJ:findIn K (.ref bz) "coming"=some (some (.ref f42)))
  (i42:isFn K (.ref f42)=true)
  (l42:L3.FnAt K f42 "coming" "Tokens.coming" L3.BB)
  (qI:findIn K (.ref bz) "take"=some (some (.ref f43)))
  (i43:isFn K (.ref f43)=true)
  (l43:L3.FnAt K f43 "take" "Tokens.take" L3.Bv)
  (qH:findIn K (.ref bz) "take_just"=some (some (.ref f44)))
  (i44:isFn K (.ref f44)=true)
  (l44:L3.FnAt K f44 "take_just" "Tokens.take_just" L3.Bx)
  (qG:findIn K (.ref bz) "take_until"=some (some (.ref f45)))
  (i45:isFn K (.ref f45)=true)
  (l45:L3.FnAt K f45 "take_until" "Tokens.take_until" L3.Bu)
  (a46:nsIn K mainGlobals "tokens_of"=some (some (.ref f46)))
  (l46:L3.FnAt K f46 "tokens_of" "tokens_of" L3.Bw)
  (qF:findIn K (.ref bz) "__init__"=some (some (.ref f47)))
  (i47:isFn K (.ref f47)=true)
  (l47:L3.FnAt K f47 "__init__" "Tokens.__init__" L3.By)
  (a48:nsIn K mainGlobals "read_comparison"=some (some (.ref f48)))
  (l48:L3.FnAt K f48 "read_comparison" "read_comparison" L3.BP)
  (a49:nsIn K mainGlobals "read_bracketed"=some (some (.ref f49)))
  (Pb:L3.FnAt K f49 "read_bracketed" "read_bracketed" L3.IB)
  (a50:nsIn K mainGlobals "read_part"=some (some (.ref f50)))
  (NO:L3.FnAt K f50 "read_part" "read_part" L3.wA)
  (a51:nsIn K mainGlobals "read_condition"=some (some (.ref f51)))
  (NN:L3.FnAt K f51 "read_condition" "read_condition" L3.wB)
  (a52:nsIn K mainGlobals "condition_of"=some (some (.ref f52)))
  (l52:L3.FnAt K f52 "condition_of" "condition_of" L3.ID)
  (yT:findIn K (.ref dZ) "__init__"=some (some (.ref f53)))
  (i53:isFn K (.ref f53)=true)
  (l53:L3.FnAt K f53 "__init__" "Rows.__init__" L3.BK)
  (yS:findIn K (.ref dZ) "coming"=some (some (.ref f54)))
  (i54:isFn K (.ref f54)=true)
  (l54:L3.FnAt K f54 "coming" "Rows.coming" L3.BO)
  (yR:findIn K (.ref dZ) "take"=some (some (.ref f55)))
  (i55:isFn K (.ref f55)=true)
  (l55:L3.FnAt K f55 "take" "Rows.take" L3.BD)
  (yQ:findIn K (.ref dZ) "take_just"=some (some (.ref f56)))
  (i56:isFn K (.ref f56)=true)
  (l56:L3.FnAt K f56 "take_just" "Rows.take_just" L3.BJ)
  (a57:nsIn K mainGlobals "read_answers"=some (some (.ref f57)))
  (l57:L3.FnAt K f57 "read_answers" "read_answers" L3.BR)
  (a58:nsIn K mainGlobals "read_writings"=some (some (.ref f58)))
  (l58:L3.FnAt K f58 "read_writings" "read_writings" L3.BC)
  (a59:nsIn K mainGlobals "read_make"=some (some (.ref f59)))
  (l59:L3.FnAt K f59 "read_make" "read_make" L3.BH)
  (a60:nsIn K mainGlobals "read_put"=some (some (.ref f60)))
  (l60:L3.FnAt K f60 "read_put" "read_put" L3.BG)
  (a61:nsIn K mainGlobals "read_let"=some (some (.ref f61)))
  (l61:L3.FnAt K f61 "read_let" "read_let" L3.BI)
  (a62:nsIn K mainGlobals "read_call"=some (some (.ref f62)))
  (l62:L3.FnAt K f62 "read_call" "read_call" L3.BQ)
  (a63:nsIn K mainGlobals "read_step"=some (some (.ref f63)))
  (l63:L3.FnAt K f63 "read_step" "read_step" L3.BF)
  (a64:nsIn K mainGlobals "read_steps"=some (some (.ref f64)))
  (l64:L3.FnAt K f64 "read_steps" "read_steps" L3.BE)
  (a65:nsIn K mainGlobals "read_helper"=some (some (.ref f65)))
  (l65:L3.FnAt K f65 "read_helper" "read_helper" L3.BL)
  (a66:nsIn K mainGlobals "read"=some (some (.ref f66)))
  (l66:L3.FnAt K f66 "read" "read" L3.BN)
  (a67:nsIn K mainGlobals "_law_mixed"=some (some (.ref f67)))
  (l67:L3.FnAt K f67 "_law_mixed" "_law_mixed" L3.n8)
  (a68:nsIn K mainGlobals "_law_cell_at"=some (some (.ref f68)))
  (l68:L3.FnAt K f68 "_law_cell_at" "_law_cell_at" L3.jA)
  (a69:nsIn K mainGlobals "_law_next"=some (some (.ref f69)))
  (l69:L3.FnAt K f69 "_law_next" "_law_next" L3.rY)
  (a70:nsIn K mainGlobals "_law_kept"=some (some (.ref f70)))
  (l70:L3.FnAt K f70 "_law_kept" "_law_kept" L3.rZ)
  (a71:nsIn K mainGlobals "_law_names"=some (some (.ref f71)))
  (l71:L3.FnAt K f71 "_law_names" "_law_names" L3.n6)
  (a72:nsIn K mainGlobals "_law_sum"=some (some (.ref f72)))
  (l72:L3.FnAt K f72 "_law_sum" "_law_sum" L3.wC)
  (Yk:nsIn K mainGlobals "_law_condition"=some (some (.ref f73)))
  (Kv:L3.FnAt K f73 "_law_condition" "_law_condition" L3.gF)
  (a74:nsIn K mainGlobals "_law_loose"=some (some (.ref f74)))
  (l74:L3.FnAt K f74 "_law_loose" "_law_loose" L3.oh)
  (Yj:nsIn K mainGlobals "_law_loose_text"=some (some (.ref f75)))
  (Ku:L3.FnAt K f75 "_law_loose_text" "_law_loose_text" L3.n9)
  (a76:nsIn K mainGlobals "_law_row"=some (some (.ref f76)))
  (l76:L3.FnAt K f76 "_law_row" "_law_row" L3.wD)
  (a77:nsIn K mainGlobals "_law_call_row"=some (some (.ref f77)))
  (l77:L3.FnAt K f77 "_law_call_row" "_law_call_row" L3.jB)
  (a78:nsIn K mainGlobals "_law_all_right"=some (some (.ref f78)))
  (l78:L3.FnAt K f78 "_law_all_right" "_law_all_right" L3.n5)
  (a79:nsIn K mainGlobals "law"=some (some (.ref f79)))
  (l79:K.lookup f79=some ⟨a3o,a3n,.func (fnOf "law" "law" A79 B79 S79 .none a0X a1t ZO a1H XC a1v),a23⟩)
  (UB:(A79,B79,S79)=(c8 L3.pO,ao L3.pO,ai L3.pO))
  (c79:codeIn K XC "law"=true)
  (k79:keepIn K (.ref f79)=true)
  (LC:nsIn K mainGlobals "len"=some none)
  (AO:nsIn K mainGlobals "tuple"=some none)
  (FD:nsIn K mainGlobals "list"=some none)
  (wZ:nsIn K mainGlobals "sorted"=some none)
  (LD:nsIn K mainGlobals "int"=some none)
  (LB:nsIn K mainGlobals "str"=some none)
  (kM:nsIn K mainGlobals "isinstance"=some none)
  (AQ:nsIn K mainGlobals "range"=some none)
  (LG:nsIn K mainGlobals "abs"=some none)
  (LF:nsIn K mainGlobals "all"=some none)
  (d1:nsIn K mainGlobals "MOST_LETTERS"=some (some (.int 8 tD1)))
  (d2:nsIn K mainGlobals "MOST_FIGURES"=some (some (.int 9 tD2)))
  (d3:nsIn K mainGlobals "GREATEST"=some (some (.int 999999999 tD3)))
  (kS0:kitOne K (.ref bF) (.ref bU)=some false)
  (kS1:kitOne K (.ref cJ) (.ref bU)=some false)
  (kS2:kitOne K (.ref dW) (.ref bU)=some true)
  (kS3:kitOne K (.ref gn) (.ref bU)=some true)
  (kP:kitOne K (.ref bE) (.ref bE)=some true)
  (kT:kitOne K (.type "tuple") (.type "tuple")=some true)
  (kR:nsIn K mainGlobals "KEPT_WORDS"=some (some (.ref vq)))
  (kQ:K.lookup vq=some ⟨.type "tuple",Ci,.seq #[.str "helper" rN,.str "answers" rM,.str "needs" rL,.str "gives" rK,.str "end" rJ,.str "let" rH,.str "div" rG,.str "mod" rF,.str "put" rE,.str "row" rD,.str "at" pJ,.str "if" pI,.str "else" pH,.str "while" pG,.str "holds" pF,.str "falls" pC,.str "call" pB,.str "claim" pA,.str "and" pe,.str "or" o9,.str "not" o8] Eg,Be⟩)
  (A0:nsIn K mainGlobals "SIGNS"=some (some (.ref OV)))
  (AU:K.lookup OV=some ⟨.type "tuple",RE,.seq #[.str "<" HK,.str "<=" HJ,.str "=" HH,.str "!=" HG,.str ">=" HF,.str ">" HE] Ww,PN⟩)
 :∃ fd:FuncData,(∀ (s:Shared) (v:Value),BindsTo s fd ⟨[v],[]⟩ [("_law_script",v)])/\∀ base:Heap,K.In base->base.Ns mainGlobals mg->aN l.prog w K mg base cG 60 fa fd ["_law_script"] (Il K):=by
 have e:=hfa.symm.trans (mg_of X G a79);cases e
 let A:L3.Ad:=⟨jW,bF,cJ,bU,dW,gn,jm,bH,cO,jk,fE,dN,eF,oE,oB,bC,bE,dZ,bz⟩
 have kS:∀ j,j < 4->kitOne K (.ref (L3.Fw A j)) (.ref A.bU)=some (decide (2<=j)):=L3.kS4 kS0 kS1 kS2 kS3;have J:L3.Fx K mg A:=⟨mg_none_of X G LC,mg_none_of X G AO,mg_none_of X G FD,mg_none_of X G wZ,mg_none_of X G LD,mg_none_of X G LB,mg_none_of X G kM,mg_none_of X G AQ,mg_none_of X G LG,mg_none_of X G LF,mg_of X G Ep,DS.ok lY lX,gS,fX,mg_of X G kE,kq.ok lY lX,fk,eB,dS,mg_of X G nu,mL.ok lY lX,cM,mg_of X G iP,mg_of X G sQ,se.ok lY lX,cN,mg_of X G yt,xQ.ok lY lX,cR,mg_of X G Es,DU.ok lY lX,m6,jb,gY,mg_of X G nB,mQ.ok lY lX,g9,fj,fh,ez,g8,mg_of X G sP,r9.ok lY lX,jc,fY,g7,ff,mg_of X G Er,DT.ok lY lX,m5,ku,gW,gU,mg_of X G yv,xS.ok lY lX,kB,ja,gX,mg_of X G sR,sf.ok lY lX,jd,cT,mg_of X G yw,xT.ok lY lX,kC,fZ,fq,gb,mg_of X G sS,mg_of X G sO,mg_of X G nA,mP.ok lY lX,gZ,e9,dR,di,d9,er,d8,mg_of X G iQ,ko.ok lY lX,cS,mg_of X G yu,xR.ok lY lX,gT,iO,mg_of X G nv,mO.ok lY lX,dQ,dh,gR,⟨_,mg_of X G d1⟩,⟨_,mg_of X G d2⟩,⟨_,mg_of X G d3⟩,kS,kP,kT⟩
 have F79:=Sf (st:=L3.pO) l79 UB c79 k79;refine⟨fnOf "law" "law" (c8 L3.pO) (ao L3.pO) (ai L3.pO) .none a0X a1t ZO a1H XC a1v,fun s v=>.of_eq rfl,fun base _ _=>?_⟩;have SW:L3.kJ l.prog w K mg base 2 jW "Sum" ["self","terms","number"] ((L3.F0 A)):=⟨1,by decide,Ft (L3.D6 (P:=l.prog) (w:=w) (base:=base) (k:=0) l10.F J ) DS.mi CY i10 DS.kc l10.F.b3,J.NR,J.Ep⟩
 have Hz:=L3.dA l11 (mg_of X G a11) l11.F.b2 (L3.Kd (k:=2) l11.F J SW.u);have bx:L3.Ms l.prog w K mg base 1 1 ((fun _=>A.jW)) "told" ["self"] ((fun _=>L3.wo A)):=fun j hj=>fM (L3.jJ (P:=l.prog) (w:=w) (base:=base) (k:=0) Fv.F J ) lQ i12 Fv.k Fv.F.b1;have bV:L3.Cm l.prog w K mg base 1 "Step" "__init__" ["self","at"] (L3.rQ K):=⟨⟨Sp,f21,_,L3.Ce (P:=l.prog) (w:=w) (base:=base) (k:=0) l21.F J ,mg_of X G GL,UE,UD,UG,l21.k,l21.F.b2⟩⟩
 have De:=L3.dA l26 (mg_of X G a26) l26.F.b1 (L3.D5 (P:=l.prog) (w:=w) (base:=base) (k:=0) l26.F J );have Fg:L3.kJ l.prog w K mg base 2 bF "Compare" ["self","one","sign","other"] ((L3.vc A.bF ["one","sign","other"])):=⟨1,by decide,Ft (L3.vJ (P:=l.prog) (w:=w) (base:=base) (k:=0) l13.F J ) kq.mi nH i13 kq.kc l13.F.b4,J.uy,J.kE⟩
 have qU:L3.kJ l.prog w K mg base 2 cJ "Turned" ["self","condition"] ((L3.vc A.cJ ["condition"])):=⟨1,by decide,Ft (L3.xZ (P:=l.prog) (w:=w) (base:=base) (k:=0) l14.F J ) mL.mi qM i14 mL.kc l14.F.b2,J.yl,J.nu⟩
 have S6:L3.kJ l.prog w K mg base 3 jm "Let" ["self","at","name","total"] ((L3.vc A.jm ["at","name","total"])):=⟨2,by decide,Ft (L3.D8 (k:=1) l15.F J bV.u) DU.mi CV i15 DU.kc l15.F.b4,J.NT,J.Es⟩
 have Hy:L3.kJ l.prog w K mg base 3 bH "Divide" ["self","at","name","word","total","by"] ((L3.vc A.bH ["at","name","word","total","by"])):=⟨2,by decide,Ft (L3.x8 (k:=1) l16.F J bV.u) mQ.mi qL i16 mQ.kc l16.F.b6,J.yp,J.nB⟩
 have Lo:L3.kJ l.prog w K mg base 3 cO "Fetch" ["self","at","name","row","place"] ((L3.vc A.cO ["at","name","row","place"])):=⟨2,by decide,Ft (L3.zM (k:=1) l17.F J bV.u) r9.mi uK i17 r9.kc l17.F.b5,J.Cq,J.sP⟩
 have SY:L3.kJ l.prog w K mg base 3 jk "Put" ["self","at","row","place","total"] ((L3.vc A.jk ["at","row","place","total"])):=⟨2,by decide,Ft (L3.D7 (k:=1) l18.F J bV.u) DT.mi CU i18 DT.kc l18.F.b5,J.NS,J.Er⟩
 have O3:L3.kJ l.prog w K mg base 3 fE "Make" ["self","at","row","size"] ((L3.vc A.fE ["at","row","size"])):=⟨2,by decide,Ft (L3.Cf (k:=1) l19.F J bV.u) xS.mi yW i19 xS.kc l19.F.b4,J.GC,J.yv⟩
 have Lp:L3.kJ l.prog w K mg base 3 dN "Claim" ["self","at","condition"] ((L3.vc A.dN ["at","condition"])):=⟨2,by decide,Ft (L3.zN (k:=1) l20.F J bV.u) sf.mi uJ i20 sf.kc l20.F.b3,J.Cs,J.sR⟩
 have O4:L3.kJ l.prog w K mg base 3 eF "Call" ["self","at","names","helper","given"] ((L3.Io A)):=⟨2,by decide,Ft (L3.Cg (k:=1) l23.F J bV.u) xT.mi yU i23 xT.kc l23.F.b5,J.GD,J.yw⟩
 have Hx:L3.kJ l.prog w K mg base 3 bC "Helper" ["self","at","name","params","answers","needs","gives","steps"] ((L3.My A)):=⟨2,by decide,Ft (L3.x6 (k:=1) l24.F J De.u) mP.mi qK i24 mP.kc l24.F.b8,J.yo,J.nA⟩
 have Ff:L3.kJ l.prog w K mg base 2 bE "Program" ["self","helpers"] ((L3.Mu A)):=⟨1,by decide,Ft (L3.vI (P:=l.prog) (w:=w) (base:=base) (k:=0) l25.F J ) ko.mi nG i25 ko.kc l25.F.b2,J.ux,J.iQ⟩
 have uT:L3.kJ l.prog w K mg base 2 dW "Every" ["self","conditions"] ((L3.xu A.dW)):=⟨1,by decide,Ft (L3.lU (P:=l.prog) (w:=w) (base:=base) (k:=0) J.cN XT.F J ) se.mi uI i22 se.kc XT.F.b2,J.Cr,J.sQ⟩
 have za:L3.kJ l.prog w K mg base 2 gn "Some" ["self","conditions"] ((L3.xu A.gn)):=⟨1,by decide,Ft (L3.lU (P:=l.prog) (w:=w) (base:=base) (k:=0) J.cR XT.F J ) xQ.mi yV i22 xQ.kc XT.F.b2,J.GA,J.yt⟩
 have nM:L3.Ms l.prog w K mg base 1 4 ((L3.Fw A)) "told" ["self"] ((L3.fG A 0)):=fun j hj=>match j,hj with | 0,_=>fM (L3.iz (L3.sD _)) fL Yc KO.k KO.F.b1 | 1,_=>fM (L3.iz (L3.sD _)) gC Yb KN.k KN.F.b1 | 2,_=>fM (L3.iz (L3.sD _)) iU X8 KL.k KL.F.b1 | 3,_=>fM (L3.iz (L3.sD _)) kI X7 KJ.k KJ.F.b1
 have nL:L3.Ms l.prog w K mg base 2 4 ((L3.Fw A)) "told" ["self"] ((L3.fG A 1)):=fun j hj=>match j,hj with | 0,_=>fM (L3.ir (k:=1) KO.F J bx.u) fL Yc KO.k KO.F.b1 | 1,_=>fM (L3.iZ (k:=1) KN.F J nM.u) gC Yb KN.k KN.F.b1 | 2,_=>fM (L3.jR (k:=1) KL.F J nM.u) iU X8 KL.k KL.F.b1 | 3,_=>fM (L3.lG (k:=1) KJ.F J nM.u) kI X7 KJ.k KJ.F.b1
 have nK:L3.Ms l.prog w K mg base 3 4 ((L3.Fw A)) "told" ["self"] ((L3.fG A 2)):=fun j hj=>match j,hj with | 0,_=>fM ((L3.ir (k:=1) KO.F J bx.u).mono (by decide:2<=3)) fL Yc KO.k KO.F.b1 | 1,_=>fM (L3.iZ (k:=2) KN.F J nL.u) gC Yb KN.k KN.F.b1 | 2,_=>fM (L3.jR (k:=2) KL.F J nL.u) iU X8 KL.k KL.F.b1 | 3,_=>fM (L3.lG (k:=2) KJ.F J nL.u) kI X7 KJ.k KJ.F.b1
 have lS:L3.Ms l.prog w K mg base 4 4 ((L3.Fw A)) "told" ["self"] ((L3.fG A 3)):=fun j hj=>match j,hj with | 0,_=>fM ((L3.ir (k:=1) KO.F J bx.u).mono (by decide:2<=4)) fL Yc KO.k KO.F.b1 | 1,_=>fM (L3.iZ (k:=3) KN.F J nK.u) gC Yb KN.k KN.F.b1 | 2,_=>fM (L3.jR (k:=3) KL.F J nK.u) iU X8 KL.k KL.F.b1 | 3,_=>fM (L3.lG (k:=3) KJ.F J nK.u) kI X7 KJ.k KJ.F.b1
 have ju:=L3.dA l27 (mg_of X G a27) l27.F.b1 (L3.zL (k:=4) l27.F J lS.u);have Fe:L3.Ms l.prog w K mg base 1 9 ((L3.ER A)) "told" ["self"] ((L3.fP A 0)):=fun j hj=>match j,hj with | 0,_=>fM (L3.iz L3.sy) oH X6 KI.k KI.F.b1 | 1,_=>fM (L3.iz L3.sy) gB X5 KH.k KH.F.b1 | 2,_=>fM (L3.iz L3.sy) iS X4 KG.k KG.F.b1 | 3,_=>fM (L3.iz L3.sy) oG X3 KC.k KC.F.b1 | 4,_=>fM (L3.iz L3.sy) kH X0 KA.k KA.F.b1 | 5,_=>fM (L3.iz L3.sy) iR XZ Kz.k Kz.F.b1 | 6,_=>fM (L3.iz L3.sy) kG XY Ky.k Ky.F.b1 | 7,_=>fM (L3.iz L3.sy) gz XX Kw.k Kw.F.b1 | 8,_=>fM (L3.iz L3.sy) lQ i12 Fv.k Fv.F.b1
 have nQ:=L3.dA I8 (mg_of X G Yl) I8.F.b1 (L3.iJ (k:=1) (n:=0) I8.F J Fe.u);have Fd:L3.Ms l.prog w K mg base 6 9 ((L3.ER A)) "told" ["self"] ((L3.fP A 1)):=fun j hj=>match j,hj with | 0,_=>fM (L3.c5 (L3.jO (by decide)) ((L3.mV (k:=1) KI.F J bx.u).mono (by decide:2<=6))) oH X6 KI.k KI.F.b1 | 1,_=>fM (L3.c5 (L3.jO (by decide)) ((L3.i9 (k:=1) KH.F J bx.u).mono (by decide:2<=6))) gB X5 KH.k KH.F.b1 | 2,_=>fM (L3.c5 (L3.jO (by decide)) ((L3.jQ (k:=1) KG.F J bx.u).mono (by decide:2<=6))) iS X4 KG.k KG.F.b1 | 3,_=>fM (L3.c5 (L3.jO (by decide)) ((L3.mU (k:=1) KC.F J bx.u).mono (by decide:2<=6))) oG X3 KC.k KC.F.b1 | 4,_=>fM (L3.c5 (L3.jO (by decide)) ((L3.lH (k:=1) KA.F J bx.u).mono (by decide:2<=6))) kH X0 KA.k KA.F.b1 | 5,_=>fM (L3.c5 (L3.jO (by decide)) ((L3.jS (k:=4) Kz.F J lS.u).mono (by decide:5<=6))) iR XZ Kz.k Kz.F.b1 | 6,_=>fM (L3.c5 (L3.jO (by decide)) ((L3.lI (k:=2) Ky.F J nQ.u).mono (by decide:3<=6))) kG XY Ky.k Ky.F.b1 | 7,_=>fM (L3.c5 L3.UM (L3.i8 (k:=5) Kw.F J nQ.u ju.u)) gz XX Kw.k Kw.F.b1 | 8,_=>fM (L3.c5 L3.UK ((L3.jJ (P:=l.prog) (w:=w) (base:=base) (k:=0) Fv.F J ).mono (by decide:1<=6))) lQ i12 Fv.k Fv.F.b1
 have nO:=L3.dA I8 (mg_of X G Yl) I8.F.b1 (L3.iJ (k:=6) (n:=1) I8.F J Fd.u);have Fc:L3.Ms l.prog w K mg base 8 9 ((L3.ER A)) "told" ["self"] ((L3.fP A 2)):=fun j hj=>match j,hj with | 0,_=>fM (L3.c5 (L3.jO (by decide)) ((L3.mV (k:=1) KI.F J bx.u).mono (by decide:2<=8))) oH X6 KI.k KI.F.b1 | 1,_=>fM (L3.c5 (L3.jO (by decide)) ((L3.i9 (k:=1) KH.F J bx.u).mono (by decide:2<=8))) gB X5 KH.k KH.F.b1 | 2,_=>fM (L3.c5 (L3.jO (by decide)) ((L3.jQ (k:=1) KG.F J bx.u).mono (by decide:2<=8))) iS X4 KG.k KG.F.b1 | 3,_=>fM (L3.c5 (L3.jO (by decide)) ((L3.mU (k:=1) KC.F J bx.u).mono (by decide:2<=8))) oG X3 KC.k KC.F.b1 | 4,_=>fM (L3.c5 (L3.jO (by decide)) ((L3.lH (k:=1) KA.F J bx.u).mono (by decide:2<=8))) kH X0 KA.k KA.F.b1 | 5,_=>fM (L3.c5 (L3.jO (by decide)) ((L3.jS (k:=4) Kz.F J lS.u).mono (by decide:5<=8))) iR XZ Kz.k Kz.F.b1 | 6,_=>fM (L3.c5 (L3.jO (by decide)) (L3.lI (k:=7) Ky.F J nO.u)) kG XY Ky.k Ky.F.b1 | 7,_=>fM (L3.c5 L3.UM (L3.i8 (k:=7) Kw.F J nO.u ju.u)) gz XX Kw.k Kw.F.b1 | 8,_=>fM (L3.c5 L3.UK ((L3.jJ (P:=l.prog) (w:=w) (base:=base) (k:=0) Fv.F J ).mono (by decide:1<=8))) lQ i12 Fv.k Fv.F.b1
 have nN:=L3.dA I8 (mg_of X G Yl) I8.F.b1 (L3.iJ (k:=8) (n:=2) I8.F J Fc.u);have Fb:L3.Ms l.prog w K mg base 10 9 ((L3.ER A)) "told" ["self"] ((L3.fP A 3)):=fun j hj=>match j,hj with | 0,_=>fM (L3.c5 (L3.jO (by decide)) ((L3.mV (k:=1) KI.F J bx.u).mono (by decide:2<=10))) oH X6 KI.k KI.F.b1 | 1,_=>fM (L3.c5 (L3.jO (by decide)) ((L3.i9 (k:=1) KH.F J bx.u).mono (by decide:2<=10))) gB X5 KH.k KH.F.b1 | 2,_=>fM (L3.c5 (L3.jO (by decide)) ((L3.jQ (k:=1) KG.F J bx.u).mono (by decide:2<=10))) iS X4 KG.k KG.F.b1 | 3,_=>fM (L3.c5 (L3.jO (by decide)) ((L3.mU (k:=1) KC.F J bx.u).mono (by decide:2<=10))) oG X3 KC.k KC.F.b1 | 4,_=>fM (L3.c5 (L3.jO (by decide)) ((L3.lH (k:=1) KA.F J bx.u).mono (by decide:2<=10))) kH X0 KA.k KA.F.b1 | 5,_=>fM (L3.c5 (L3.jO (by decide)) ((L3.jS (k:=4) Kz.F J lS.u).mono (by decide:5<=10))) iR XZ Kz.k Kz.F.b1 | 6,_=>fM (L3.c5 (L3.jO (by decide)) (L3.lI (k:=9) Ky.F J nN.u)) kG XY Ky.k Ky.F.b1 | 7,_=>fM (L3.c5 L3.UM (L3.i8 (k:=9) Kw.F J nN.u ju.u)) gz XX Kw.k Kw.F.b1 | 8,_=>fM (L3.c5 L3.UK ((L3.jJ (P:=l.prog) (w:=w) (base:=base) (k:=0) Fv.F J ).mono (by decide:1<=10))) lQ i12 Fv.k Fv.F.b1
 have zb:=L3.dA I8 (mg_of X G Yl) I8.F.b1 (L3.iJ (k:=10) (n:=3) I8.F J Fb.u);have Hu:L3.Ms l.prog w K mg base 12 1 ((fun _=>A.bE)) "told" ["self"] ((fun _=>L3.uf A)):=fun j hj=>fM (L3.vH (k:=11) l41.F J zb.u) nF i41 l41.k l41.F.b1;have ay:=L3.dA l1 (mg_of X G a1) l1.F.b2 (L3.Ke (P:=l.prog) (w:=w) (base:=base) (k:=0) l1.F J );have v9:=L3.dA l2 (mg_of X G a2) l2.F.b1 (L3.RB (P:=l.prog) (w:=w) (base:=base) (k:=0) l2.F J );have eK:=L3.dA l3 (mg_of X G a3) l3.F.b1 (L3.RA (P:=l.prog) (w:=w) (base:=base) (k:=0) l3.F J (mg_of X G kR) (L3.tupK (l:=[("helper",rN),("answers",rM),("needs",rL),("gives",rK),("end",rJ),("let",rH),("div",rG),("mod",rF),("put",rE),("row",rD),("at",pJ),("if",pI),("else",pH),("while",pG),("holds",pF),("falls",pC),("call",pB),("claim",pA),("and",pe),("or",o9),("not",o8)]) kQ (by rfl)));have tV:=L3.dA l4 (mg_of X G a4) l4.F.b1 (L3.Rz (k:=1) l4.F J eK.u);have tW:=L3.dA l5 (mg_of X G a5) l5.F.b1 (L3.RC (k:=1) l5.F J v9.u);have Fi:=L3.dA l6 (mg_of X G a6) l6.F.b2 (L3.Rg (k:=2) l6.F J ay.u tV.u tW.u);have uU:=L3.dA l7 (mg_of X G a7) l7.F.b2 (L3.Wm (k:=1) l7.F J ay.u);have dB:=L3.dA l8 (mg_of X G a8) l8.F.b2 (L3.Wl (k:=3) l8.F J Hz.u ay.u uU.u Fi.u);have Dd:=L3.dA l9 (mg_of X G a9) l9.F.b2 (L3.Wo (k:=4) l9.F J dB.u);have Ac:=L3.dA l46 (mg_of X G a46) l46.F.b2 (L3.Rb (k:=1) l46.F J ay.u);have Hv:L3.kJ l.prog w K mg base 4 bz "Tokens" ["self","words","at"] ((L3.Mj A)):=⟨3,by decide,Ft (L3.Rf (k:=2) l47.F J Ac.u) mO.mi qF i47 mO.kc l47.F.b3,J.ym,J.nv⟩
 have cK:L3.Ms l.prog w K mg base 1 1 ((fun _=>A.bz)) "coming" ["self"] ((fun _=>L3.Ml A)):=fun j hj=>fM (L3.Rh (P:=l.prog) (w:=w) (base:=base) (k:=0) l42.F J ) qJ i42 l42.k l42.F.b1;have qT:L3.Ms l.prog w K mg base 2 1 ((fun _=>A.bz)) "take" ["self"] ((fun _=>L3.Mh A)):=fun j hj=>fM (L3.Ra (k:=1) l43.F J cK.u) qI i43 l43.k l43.F.b1;have bY:L3.Ms l.prog w K mg base 3 1 ((fun _=>A.bz)) "take_just" ["self","token"] ((fun _=>L3.Mi A)):=fun j hj=>fM (L3.Rc (k:=2) l44.F J ay.u qT.u) qH i44 l44.k l44.F.b2;have uS:L3.Ms l.prog w K mg base 3 1 ((fun _=>A.bz)) "take_until" ["self","ends"] ((fun _=>L3.Mg A K)):=fun j hj=>fM (L3.Q9 (k:=2) l45.F J cK.u qT.u) qG i45 l45.k l45.F.b2;have eX:=L3.dA l48 (mg_of X G a48) l48.F.b1 (L3.Rw (k:=4) l48.F J Fg.u dB.u uS.u qT.u (mg_of X G A0) (L3.tupK (l:=[("<",HK),("<=",HJ),("=",HH),("!=",HG),(">=",HF),(">",HE)]) AU (by rfl)));have nU:Dn l.prog w K mg base 1 "read_bracketed" ["source"] (L3.br K ((L3.Ii A 0):L3.c6)):=L3.dA Pb (mg_of X G a49) Pb.F.b1 (L3.iz L3.T5);have zj:=L3.dA NO (mg_of X G a50) NO.F.b1 (L3.xX (k:=5) (n:=0) NO.F J eX.u cK.u ay.u nU.u qU.u bY.u);have oV:=L3.dA NN (mg_of X G a51) NN.F.b1 (L3.xY (k:=6) (n:=0) NN.F J uT.u za.u cK.u zj.u bY.u ay.u);have oX:=L3.dA Pb (mg_of X G a49) Pb.F.b1 (L3.Nj (k:=7) (n:=0) Pb.F J bY.u oV.u);have nT:Dn l.prog w K mg base 8 "read_bracketed" ["source"] (L3.br K (L3.Ii A 1)):=oX;have zg:=L3.dA NO (mg_of X G a50) NO.F.b1 (L3.xX (k:=8) (n:=1) NO.F J eX.u cK.u ay.u nT.u qU.u bY.u);have oU:=L3.dA NN (mg_of X G a51) NN.F.b1 (L3.xY (k:=9) (n:=1) NN.F J uT.u za.u cK.u zg.u bY.u ay.u);have oW:=L3.dA Pb (mg_of X G a49) Pb.F.b1 (L3.Nj (k:=10) (n:=1) Pb.F J bY.u oU.u);have nS:Dn l.prog w K mg base 11 "read_bracketed" ["source"] (L3.br K (L3.Ii A 2)):=oW;have zf:=L3.dA NO (mg_of X G a50) NO.F.b1 (L3.xX (k:=11) (n:=2) NO.F J eX.u cK.u ay.u nS.u qU.u bY.u);have oS:=L3.dA NN (mg_of X G a51) NN.F.b1 (L3.xY (k:=12) (n:=2) NN.F J uT.u za.u cK.u zf.u bY.u ay.u);have kL:=L3.dA l52 (mg_of X G a52) l52.F.b2 (L3.Wq (k:=13) l52.F J ay.u cK.u oS.u Hv.u);have O2:L3.kJ l.prog w K mg base 2 dZ "Rows" ["self","rows"] ((L3.Mp A)):=⟨1,by decide,Ft (L3.Rr (P:=l.prog) (w:=w) (base:=base) (k:=0) l53.F J ) xR.mi yT i53 xR.kc l53.F.b2,J.GB,J.yu⟩
 have lT:L3.Ms l.prog w K mg base 1 1 ((fun _=>A.dZ)) "coming" ["self"] ((fun _=>L3.Mq A)):=fun j hj=>fM (L3.Rv (P:=l.prog) (w:=w) (base:=base) (k:=0) l54.F J ) yS i54 l54.k l54.F.b1;have jt:L3.Ms l.prog w K mg base 2 1 ((fun _=>A.dZ)) "take" ["self"] ((fun _=>L3.Mm A)):=fun j hj=>fM (L3.Rj (k:=1) l55.F J ay.u) yR i55 l55.k l55.F.b1;have vZ:L3.Ms l.prog w K mg base 3 1 ((fun _=>A.dZ)) "take_just" ["self","word"] ((fun _=>L3.Mn A)):=fun j hj=>fM (L3.Rq (k:=2) l56.F J ay.u jt.u) yQ i56 l56.k l56.F.b2;have uV:=L3.dA l57 (mg_of X G a57) l57.F.b1 (L3.Ry (k:=2) l57.F J ay.u eK.u jt.u lT.u);have tS:=L3.dA l58 (mg_of X G a58) l58.F.b2 (L3.Ri (k:=14) l58.F J lT.u kL.u jt.u);have C9:=L3.dA l61 (mg_of X G a61) l61.F.b2 (L3.Ro (k:=4) l61.F J S6.u dB.u Lo.u ay.u eK.u Hy.u);have C8:=L3.dA l60 (mg_of X G a60) l60.F.b2 (L3.Rm (k:=4) l60.F J SY.u dB.u ay.u eK.u);have Af:=L3.dA l59 (mg_of X G a59) l59.F.b2 (L3.Rn (k:=4) l59.F J O3.u dB.u ay.u eK.u);have Ag:=L3.dA l62 (mg_of X G a62) l62.F.b2 (L3.Rx (k:=5) l62.F J O4.u Dd.u ay.u eK.u);have Ae:=L3.dA l63 (mg_of X G a63) l63.F.b1 (L3.Rl (k:=14) l63.F J Ag.u ay.u Lp.u kL.u Af.u C8.u C9.u jt.u);have zd:=L3.dA l64 (mg_of X G a64) l64.F.b1 (L3.Rk (k:=15) l64.F J lT.u Ae.u);have v5:=L3.dA l65 (mg_of X G a65) l65.F.b1 (L3.Rt (k:=16) l65.F J Hx.u vZ.u zd.u tS.u uV.u ay.u tV.u eK.u jt.u);have O5:=L3.dA l66 (mg_of X G a66) l66.F.b1 (L3.Ru (k:=17) l66.F J Ff.u ay.u v5.u O2.u);have p7:=L3.dA l67 (mg_of X G a67) l67.F.b2 (L3.Gi (P:=l.prog) (w:=w) (base:=base) (k:=0) l67.F J );have v8:=L3.dA l68 (mg_of X G a68) l68.F.b2 (L3.Cb (k:=1) l68.F J p7.u);have cZ:=L3.dA l69 (mg_of X G a69) l69.F.b2 (L3.Kf (k:=1) l69.F J p7.u);have Dc:=L3.dA l70 (mg_of X G a70) l70.F.b0 (L3.Kg (P:=l.prog) (w:=w) (base:=base) (k:=0) l70.F J );have Ah:=L3.dA l71 (mg_of X G a71) l71.F.b2 (L3.Gh (k:=2) l71.F J Dc.u cZ.u);have ie:=L3.dA l72 (mg_of X G a72) l72.F.b2 (L3.Nk (k:=2) l72.F J cZ.u);have o7:Dn l.prog w K mg base 1 "_law_condition" ["_law_draw","_law_things","_law_deep"] (L3.br K ((L3.nX 0):L3.c6)):=L3.dA Kv (mg_of X G Yk) Kv.F.b3 (L3.iz L3.T5);have qX:=L3.dA Kv (mg_of X G Yk) Kv.F.b3 (L3.iY (k:=3) (n:=0) Kv.F J o7.u cZ.u ie.u);have o6:Dn l.prog w K mg base 4 "_law_condition" ["_law_draw","_law_things","_law_deep"] (L3.br K (L3.nX 1)):=qX;have qW:=L3.dA Kv (mg_of X G Yk) Kv.F.b3 (L3.iY (k:=4) (n:=1) Kv.F J o6.u cZ.u ie.u);have o5:Dn l.prog w K mg base 5 "_law_condition" ["_law_draw","_law_things","_law_deep"] (L3.br K (L3.nX 2)):=qW;have qV:=L3.dA Kv (mg_of X G Yk) Kv.F.b3 (L3.iY (k:=5) (n:=2) Kv.F J o5.u cZ.u ie.u);have jM:=qV;have fF:=L3.dA l74 (mg_of X G a74) l74.F.b2 (L3.Gj (k:=2) l74.F J cZ.u);have o4:Dn l.prog w K mg base 1 "_law_loose_text" ["_law_draw","_law_told"] (L3.br K ((L3.j8 0):L3.c6)):=L3.dA Ku (mg_of X G Yj) Ku.F.b2 (L3.iz L3.Wt);have oZ:=L3.dA Ku (mg_of X G Yj) Ku.F.b2 (L3.qu (k:=3) (n:=0) Ku.F J o4.u fF.u);have oY:=L3.dA Ku (mg_of X G Yj) Ku.F.b2 (L3.qu (k:=4) (n:=1) Ku.F J oZ.u fF.u);have jv:=L3.dA Ku (mg_of X G Yj) Ku.F.b2 (L3.qu (k:=5) (n:=2) Ku.F J oY.u fF.u);have uW:=L3.dA l77 (mg_of X G a77) l77.F.b3 (L3.Cc (k:=3) l77.F J fF.u cZ.u ie.u);have Fj:=L3.dA l76 (mg_of X G a76) l76.F.b3 (L3.Nl (k:=6) l76.F J uW.u jv.u fF.u cZ.u jM.u ie.u);have tU:=L3.dA l78 (mg_of X G a78) l78.F.b1 (L3.Gg (k:=18) l78.F J Hu.u O5.u v8.u Fj.u jv.u jM.u Ah.u);exact L3.c5 L3.WJ ((L3.Wn (k:=19) F79 J tU.u).mono (by decide:20<=60))
theorem walk {l:PySem.W.OpenLaw}{q:Program}{loose:List Str}{XP:(Str->Option Value)->Heap->Prop}{YP:World->Heap->Prop}{d:DefRec}{K:Params->PySem.W.Frag}(hn:l.most=some 63)(hdf:d.params.defaults=[])
  (hY:∀ (w:World) (h:Heap),YP w h->(K w.params).In h)
  (F:∀ (w:World) (mg:Str->Option Value) (fa:Addr) (h:Heap),(K w.params).In h->h.Ns mainGlobals mg->mg d.name=some (.ref fa) ->
   ∃ fd:FuncData,(∀ (s:Shared) (u:Value),BindsTo s fd ⟨[u],[]⟩ [("_law_script",u)])/\∀ base:Heap,(K w.params).In base->base.Ns mainGlobals mg->aN l.prog w (K w.params) mg base cG 60 fa fd ["_law_script"] (Il (K w.params))) :
  PySem.W.WalkO q loose XP YP l.row.toRowW d [] (fun f vs=>PySem.call f vs) :=
 L2.Pn (n:=63) (k:=60) (x:="_law_script") (CX:=fun _=>cG) (sp:=fun w=>Il (K w.params)) hn (by decide) hdf ⟨rfl,by decide,by decide⟩ hY F (fun _ _ a ns hl _ hS=>⟨a,ns,rfl,hS,hl,fun _=>rfl⟩) fun _ _ _ _ _ z=>z
end Hw
open PySem PySem.W PyProof.Rows
set_option maxRecDepth 100000 in
set_option maxHeartbeats 0 in
theorem PySem.Challenge.cw_holdwright_k12_rows_read_holds : PySem.Challenge.rw_holdwright_k12_rows_read.Holds := by
 refine Hd ?_
 k_fill
 refine Hw.walk (l:=PySem.Challenge.rw_holdwright_k12_rows_read) rfl rfl (fun w h Y=>Y) ?F
 case F =>
  intro w mg fa h KX G hmg;refine' Hw.all_mk KX G hmg ?Ep ?DS ?gS ?fX ?kE ?kq ?fk ?eB ?dS ?nu ?mL ?cM ?iP ?sQ ?se ?cN ?yt ?xQ ?cR ?Es ?DU ?m6 ?jb ?gY ?nB ?mQ ?g9 ?fj ?fh ?ez ?g8 ?sP ?r9 ?jc ?fY ?g7 ?ff ?Er ?DT ?m5 ?ku ?gW ?gU ?yv ?xS ?kB ?ja ?gX ?sR ?sf ?jd ?cT ?yw ?xT ?kC ?fZ ?fq ?gb ?sS ?sO ?nA ?mP ?gZ ?e9 ?dR ?di ?d9 ?er ?d8 ?iQ ?ko ?cS ?yu ?xR ?gT ?iO ?nv ?mO ?dQ ?dh ?gR ?GL ?UG ?lY ?lX ?UE ?UD ?a1 ?l1 ?a2 ?l2 ?a3 ?l3 ?a4 ?l4 ?a5 ?l5 ?a6 ?l6 ?a7 ?l7 ?a8 ?l8 ?a9 ?l9 ?CY ?i10 ?l10 ?a11 ?l11 ?lQ ?i12 ?Fv ?nH ?i13 ?l13 ?qM ?i14 ?l14 ?CV ?i15 ?l15 ?qL ?i16 ?l16 ?uK ?i17 ?l17 ?CU ?i18 ?l18 ?yW ?i19 ?l19 ?uJ ?i20 ?l20 ?l21 ?uI ?yV ?i22 ?XT ?yU ?i23 ?l23 ?qK ?i24 ?l24 ?nG ?i25 ?l25 ?a26 ?l26 ?a27 ?l27 ?Yl ?I8 ?fL ?Yc ?KO ?gC ?Yb ?KN ?iU ?X8 ?KL ?kI ?X7 ?KJ ?oH ?X6 ?KI ?gB ?X5 ?KH ?iS ?X4 ?KG ?oG ?X3 ?KC ?kH ?X0 ?KA ?iR ?XZ ?Kz ?kG ?XY ?Ky ?gz ?XX ?Kw ?nF ?i41 ?l41 ?qJ ?i42 ?l42 ?qI ?i43 ?l43 ?qH ?i44 ?l44 ?qG ?i45 ?l45 ?a46 ?l46 ?qF ?i47 ?l47 ?a48 ?l48 ?a49 ?Pb ?a50 ?NO ?a51 ?NN ?a52 ?l52 ?yT ?i53 ?l53 ?yS ?i54 ?l54 ?yR ?i55 ?l55 ?yQ ?i56 ?l56 ?a57 ?l57 ?a58 ?l58 ?a59 ?l59 ?a60 ?l60 ?a61 ?l61 ?a62 ?l62 ?a63 ?l63 ?a64 ?l64 ?a65 ?l65 ?a66 ?l66 ?a67 ?l67 ?a68 ?l68 ?a69 ?l69 ?a70 ?l70 ?a71 ?l71 ?a72 ?l72 ?Yk ?Kv ?a74 ?l74 ?Yj ?Ku ?a76 ?l76 ?a77 ?l77 ?a78 ?l78 ?a79 ?l79 ?UB ?c79 ?k79 ?LC ?AO ?FD ?wZ ?LD ?LB ?kM ?AQ ?LG ?LF ?d1 ?d2 ?d3 ?kS0 ?kS1 ?kS2 ?kS3 ?kP ?kT ?kR ?kQ ?A0 ?AU
  (case Ep|kE|nu|iP|sQ|yt|Es|nB|sP|Er|yv|sR|yw|sS|sO|nA|iQ|yu|nv|GL|UG|gS|fX|fk|eB|dS|cM|cN|cR|m6|jb|gY|g9|fj|fh|ez|g8|jc|fY|g7|ff|m5|ku|gW|gU|kB|ja|gX|jd|cT|kC|fZ|fq|gb|gZ|e9|dR|di|d9|er=>k_is)
  (case d8|cS|gT|iO|dQ|dh|gR|lY|lX|UE|UD|a1|a2|a3|a4|a5|a6|a7|a8|a9|CY|i10|a11|lQ|i12|nH|i13|qM|i14|CV|i15|qL|i16|uK|i17|CU|i18|yW|i19|uJ|i20|uI|yV|i22|yU|i23|qK|i24|nG|i25|a26|a27|Yl|fL|Yc|gC|Yb|iU|X8|kI=>k_is)
  (case X7|oH|X6|gB|X5|iS|X4|oG|X3|kH|X0|iR|XZ|kG|XY|gz|XX|nF|i41|qJ|i42|qI|i43|qH|i44|qG|i45|a46|qF|i47|a48|a49|a50|a51|a52|yT|i53|yS|i54|yR|i55|yQ|i56|a57|a58|a59|a60|a61|a62|a63|a64|a65|a66|a67|a68|a69|a70|a71|a72|Yk=>k_is)
  (case a74|Yj|a76|a77|a78|a79|l79|c79|k79|LC|AO|FD|wZ|LD|LB|kM|AQ|LG|LF|d1|d2|d3|kR|kQ|A0|AU=>k_is)
  (case DS|kq|mL|se|xQ|DU|mQ|r9|DT|xS|sf|xT|mP|ko|xR|mO=>(refine⟨?_,?_,?_,?_,?_,?_,?_,?_⟩ <;> k_is))
  (case l1|l2|l3|l4|l5|l6|l7|l8|l9|l10|l11|Fv|l13|l14|l15|l16|l17|l18|l19|l20|l21|XT|l23|l24|l25|l26|l27|I8|KO|KN|KL|KJ|KI|KH|KG|KC|KA|Kz|Ky|Kw|l41|l42|l43|l44|l45|l46|l47|l48|Pb|NO|NN|l52|l53|l54|l55|l56|l57|l58|l59|l60=>(refine' Hw.a1j ?ya ?yb ?yc ?yd;(case ya=>k_is);(case yb=>kernel_rfl);(case yc|yd=>k_is)))
  (case l61|l62|l63|l64|l65|l66|l67|l68|l69|l70|l71|l72|Kv|l74|Ku|l76|l77|l78=>(refine' Hw.a1j ?ya ?yb ?yc ?yd;(case ya=>k_is);(case yb=>kernel_rfl);(case yc|yd=>k_is)))
  (case kS0|kS1|kS2|kS3|kP|kT=>kit_is)
  (case UB=>kernel_rfl)
#print axioms PySem.Challenge.cw_holdwright_k12_rows_read_holds
