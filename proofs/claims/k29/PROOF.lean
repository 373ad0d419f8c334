import PyProof.Rows.All
import Wide.All
import OpenK.KLine
import OpenK.KWalk
import KE.KNestM
import KE.RegKIsAll
import KE.KxBytes
import KE.KItem
import KE.KDictOf
import KE.KDictSum
import KE.LcSums
import KE.KxText
import Wide.FinOn
import Lean
import PyProof.EqAt
import PyProof.EqKinds
import PyProof.TupleCall
import PySem.Spec
import PyProof.NeKinds
import KE.KDictList
import KE.KPairComp
import PyProof.DictWalks
import PyProof.ExcClass3
import PyProof.ExcInit
import PyProof.ExcBaseAll.ValueError
import OpenK.KMore
import PyProof.RaisesMany
import PyProof.FString5
import PyProof.StrLawsIn
import PyProof.Rows.SetFrom
import PyProof.ExcAttrAll.ValueError
import KE.KIsAll
import PyProof.RulesAs
import PySem.Challenge.RW_holdwright_k29_debts_in_a_row
set_option Elab.async false
set_option linter.all false
set_option maxRecDepth 100000
namespace Hq
open PySem PySem.W
noncomputable def d1 (l:List Obj):List Obj:=@List.rec Obj (fun _=>List Obj) [] (fun _ t _=>t) l
noncomputable def d4 (l:List Obj):List Obj:=d1 (d1 (d1 (d1 l)))
noncomputable def d32 (l:List Obj):List Obj:=d4 (d4 (d4 (d4 (d4 (d4 (d4 (d4 l)))))))
noncomputable def gB (l:List Obj) (k:Nat):List Obj:=@Nat.rec (fun _=>List Obj) l (fun _ r=>d32 r) k
noncomputable def gA (i:Nat):List Obj→Option Obj:=@Nat.rec (fun _=>List Obj→Option Obj) (fun l=>@List.rec Obj (fun _=>Option Obj) none (fun x _ _=>some x) l) (fun _ ih l=>ih (d1 l)) i
def nF (o:Option Obj):Option Obj:=match o with|some ⟨_,_,.freed,_⟩=>none|o=>o
noncomputable def gQ (h:Heap) (a:Addr):Option Obj:=nF (gA (Nat.mod a 32) (gB h.objs.toList (Nat.div a 32)))
theorem d1_eq (l:List Obj):d1 l=l.drop 1:=by cases l<;>rfl
theorem d32_eq (l:List Obj):d32 l=l.drop 32:=by
 unfold d32 d4
 simp only [d1_eq,List.drop_drop]
theorem gB_eq (l:List Obj):∀ k,gB l k=l.drop (32*k)
 |0=>rfl
 |k+1=>by
  show d32 (gB l k)=_
  rw [gB_eq l k,d32_eq,List.drop_drop,Nat.mul_succ]
theorem gA_eq:∀ (i:Nat) (l:List Obj),gA i l=l[i]?
 |0,l=>by cases l<;>rfl
 |i+1,l=>by
  show gA i (d1 l)=_
  rw [gA_eq i,d1_eq,List.getElem?_drop,Nat.add_comm]
theorem gQ_eq:gQ=Heap.get?:=by
 funext h a
 show nF (gA (a%32) (gB h.objs.toList (a/32)))=nF h.objs[a]?
 rw [gA_eq,gB_eq,List.getElem?_drop,Nat.div_add_mod,Array.getElem?_toList]
noncomputable def hk (K:Params→Frag) (as:List Addr) (e:∀ P,as=(K P).map (·.1)):Hook:=⟨List (Option Obj),fun s=>as.map (gQ s.heap),fun w=>(K w.params).map fun p=>some p.2,InK K,fun w s x=>InK.of e w s (by rw [gQ_eq] at x; exact x),InK.keeps⟩
end Hq
local macro_rules|`(tactic|o_head (kHook $k $a $e))=>`(tactic|o_head (Hq.hk $k $a $e))
namespace PySem.W.Fast
noncomputable def te13052408679150730464:=0
noncomputable def te4110290226886642065:=0
noncomputable def te5369427470323729400:=0
noncomputable def te12305933238918452080:=0
noncomputable def te16555476440528808052:=0
noncomputable def te4868988410673395695:=0
noncomputable def te5452508617037859911:=0
noncomputable def te11152381544001756331:=0
end PySem.W.Fast
set_option maxHeartbeats 0 in
open_top Hd for PySem.Challenge.rw_holdwright_k29_debts_in_a_row
namespace L2
open PySem PySem.Spec PyProof.Rows
noncomputable abbrev Key:=Sum Int Str
noncomputable def x8:Key->Value->Bool
 | .inl k,v=>Value.isInt k v
 | .inr x,v=>Value.isStrOf x v
noncomputable def a1n (w:World):Key->Int
 | .inl k=>hashInt k
 | .inr x=>hashStr w x
theorem cB:∀ {k:Key} {v:Value},x8 k v=true->(∃ i t,k=Sum.inl i/\v=Value.int i t)∨(∃ x t,k=Sum.inr x/\v=Value.str x t)
 | .inl i,v,h=>by
  obtain⟨t,e⟩:=Value.isInt_shape (k:=i) (v:=v) h
  exact .inl ⟨i,t,rfl,e⟩
 | .inr x,v,h=>by
  obtain⟨t,e⟩:=Value.isStrOf_shape (x:=x) (v:=v) h
  exact .inr ⟨x,t,rfl,e⟩
theorem Jz (i:Int)(t:Tok):x8 (.inl i) (.int i t)=true:=by simp[x8,Value.isInt]
theorem Jy (x:Str)(t:Tok):x8 (.inr x) (.str x t)=true:=by simp[x8,Value.isStrOf]
theorem UI (a b:Int):decide ((Sum.inl a:Key)=Sum.inl b)=(a == b):=by
 by_cases e:a=b
 ·subst e;simp
 ·have h:¬ (Sum.inl a:Key)=Sum.inl b:=fun q=>e (Sum.inl.inj q)
  rw[decide_eq_false h]
  exact(beq_eq_false_iff_ne.mpr e).symm
theorem UE (a b:Str):decide ((Sum.inr a:Key)=Sum.inr b)=decide (a=b):=by
 by_cases e:a=b
 ·subst e;simp
 ·have h:¬ (Sum.inr a:Key)=Sum.inr b:=fun q=>e (Sum.inr.inj q)
  rw[decide_eq_false h,decide_eq_false e]
theorem UH (a:Int)(b:Str):decide ((Sum.inl a:Key)=Sum.inr b)=false:=decide_eq_false (fun q=>nomatch q)
theorem UG (a:Str)(b:Int):decide ((Sum.inr a:Key)=Sum.inl b)=false:=decide_eq_false (fun q=>nomatch q)
noncomputable def aG (prog:Program)(w:World):PySem.KeyKind prog w Key where
 is:=x8
 hash:=a1n w
 inj:=fun v a b ha hb=>by
  rcases cB ha with ⟨i,t,rfl,rfl⟩ | ⟨x,t,rfl,rfl⟩
  ·rcases cB hb with ⟨j,u,rfl,e⟩ | ⟨y,u,rfl,e⟩
   ·injection e with e1 _;rw[e1]
   ·exact nomatch e
  ·rcases cB hb with ⟨j,u,rfl,e⟩ | ⟨y,u,rfl,e⟩
   ·exact nomatch e
   ·injection e with e1 _;rw[e1]
 byValue:=fun k v h=>by
  rcases cB h with ⟨i,t,rfl,rfl⟩ | ⟨x,t,rfl,rfl⟩ <;> rfl
 pyHash:=fun hv h=>by
  rcases cB hv with ⟨i,t,rfl,rfl⟩ | ⟨x,t,rfl,rfl⟩
  ·exact wpAny_pyHash_int h
  ·exact wpAny_pyHash_str h
 eqBool:=fun hu hv h=>by
  rcases cB hu with ⟨i,t,rfl,rfl⟩ | ⟨x,t,rfl,rfl⟩
  ·rcases cB hv with ⟨j,u,rfl,rfl⟩ | ⟨y,u,rfl,rfl⟩
   ·rw[UI] at h;exact wpAny_eqBool_int h
   ·rw[UH] at h;exact SeqAt.EqAt.int_str i t y u _ _ _ _ h
  ·rcases cB hv with ⟨j,u,rfl,rfl⟩ | ⟨y,u,rfl,rfl⟩
   ·rw[UG] at h;exact SeqAt.EqAt.str_int x t j u _ _ _ _ h
   ·rw[UE] at h;exact wpAny_eqBool_str h
 «strs»:=fun k x t v h=>by
  rcases cB h with ⟨i,u,rfl,e⟩ | ⟨y,u,rfl,e⟩
  ·exact nomatch e
  ·injection e with e1 _
   subst e1
   cases v <;> rfl
theorem Eo (prog:Program)(w:World)(i:Int)(t:Tok):(aG prog w).is (.inl i) (.int i t)=true:=Jz i t
theorem cM (prog:Program)(w:World)(x:Str)(t:Tok):(aG prog w).is (.inr x) (.str x t)=true:=Jy x t
end L2
namespace L2
open PySem PySem.Spec PyProof.Rows
inductive V where
 | dR | bl (b:Bool) | int (i:Int) | str (x:Str) | Ka (b:Array UInt8) | U5 (b:UInt64) | ref (a:Addr) | ty (n:String)
 deriving DecidableEq
noncomputable def RelV:V->Value->Prop
 | .dR,u=>u=Value.none
 | .bl b,u=>u=Value.bool b
 | .int i,u=>∃ t,u=Value.int i t
 | .str x,u=>∃ t,u=Value.str x t
 | .Ka b,u=>∃ t,u=Value.bytes b t
 | .U5 b,u=>∃ t,u=Value.float b t
 | .ref a,u=>u=Value.ref a
 | .ty n,u=>u=Value.type n
noncomputable abbrev Vals:List V->List Value->Prop:=Paired RelV
theorem Vals.length {xs:List V}{us:List Value}(r:Vals xs us):xs.length=us.length:=Paired.length r
theorem Vals.get:∀ {xs:List V} {us:List Value} {i:Nat} {x:V},Vals xs us->xs[i]?=some x->∃ u,us[i]?=some u/\RelV x u
 | _,_,_,_,.nil,e=>by simp at e
 | _,_,0,_,.cons r _,e=>by simp at e;subst e;exact⟨_,rfl,r⟩
 | _,_,i+1,x,.cons _ t,e=>by
  obtain⟨u,h1,h2⟩:=Vals.get (i:=i) (x:=x) t (by simpa using e)
  exact⟨u,by simpa using h1,h2⟩
theorem Vals.set {x:V}{u:Value}(r:RelV x u):∀ {xs:List V} {us:List Value} (i:Nat),Vals xs us->Vals (xs.set i x) (us.set i u)
 | _,_,_,.nil=>.nil
 | _,_,0,.cons _ t=>.cons r t
 | _,_,i+1,.cons q t=>.cons q (Vals.set r i t)
theorem Vals.append:∀ {xs ys:List V} {us ws:List Value},Vals xs us->Vals ys ws->Vals (xs++ys) (us++ws)
 | _,_,_,_,.nil,s=>s
 | _,_,_,_,.cons r t,s=>.cons r (Vals.append t s)
theorem Vals.take:∀ {xs:List V} {us:List Value} (n:Nat),Vals xs us->Vals (xs.take n) (us.take n)
 | _,_,0,_=>.nil
 | _,_,_+1,.nil=>.nil
 | _,_,n+1,.cons r t=>.cons r (Vals.take n t)
theorem Vals.drop:∀ {xs:List V} {us:List Value} (n:Nat),Vals xs us->Vals (xs.drop n) (us.drop n)
 | _,_,0,r=>r
 | _,_,_+1,.nil=>.nil
 | _,_,n+1,.cons _ t=>Vals.drop n t
noncomputable def nI:Option V->Option Value->Prop
 | some v,some u=>RelV v u
 | none,none=>True
 | _,_=>False
noncomputable def KV {κ:Type}:List (κ×V)->List (κ×Value)->Prop:=Paired fun(p:κ×V) (q:κ×Value)=>p.1=q.1/\RelV p.2 q.2
noncomputable def kV:Key->V
 | .inl i=>.int i
 | .inr x=>.str x
inductive HO where
 | lst (xs:List V)
 | tup (xs:List V)
 | dK (kvs:List (Key×V)) | dT (kvs:List (List Key×V))
 | set (S:Int->Bool) (n:Nat)
 | ins (C dx:Addr) (fs:List (Str×V))
 | own (x:Addr)
 | xd (fs:List (Str×V))
 | met (f x:Addr)
 | ZH (lo hi:Int)
 | Gu (o:Obj) (u:HO)
 | P5 (ps:Array Value)
 | ext (φ:Heap->Prop)
noncomputable abbrev Hp:=Addr->Option HO
noncomputable def upd (H:Hp)(a:Addr)(o:HO):Hp:=fun b=>if b=a then some o else H b
theorem eZ {H:Hp}{a:Addr}{o:HO}:upd H a o a=some o:=by unfold upd;rw[if_pos rfl]
theorem bf {H:Hp}{a b:Addr}{o:HO}(h:b≠a):upd H a o b=H b:=by unfold upd;rw[if_neg h]
theorem W8 {H:Hp}{a b:Addr}{o u:HO}(h:H a=some o)(h':H b=some u)(d:o≠u):a≠b:=by
 intro e;subst e;rw[h] at h';exact d (Option.some.inj h')
theorem bG {H:Hp}{a b:Addr}{o:HO}(h:H a=some o)(h':H b=none):a≠b:=by
 intro e;subst e;rw[h] at h';cases h'
section
variable (P:Program)(w:World)
noncomputable def cG (H:Hp)(h:Heap)(a:Addr):HO->Prop
 | .lst xs=>xs.length<=sizeLine/\∃ (its:List Value) (n:Nat),Vals xs its/\h.get? a=some { cls:=.type "list",data:=.seq its.toArray n }
 | .tup xs=>xs.length<=sizeLine/\∃ its:List Value,Vals xs its/\IsTup h a its.toArray
 | .dK kvs=>kvs.length<=sizeLine/\(a == sysModules)=false/\∃ vs,KV kvs vs/\h.DictOf (aG P w) a vs
 | .dT kvs=>kvs.length<=sizeLine/\(a == sysModules)=false/\∃ xs:List (List Key×Addr×Value),
   Paired (fun(p:List Key×V) (q:List Key×Addr×Value)=>p.1=q.1/\H q.2.1=some (.tup (p.1.map kV))/\RelV p.2 q.2.2) kvs xs /\
   ∃ o es ep,h.get? a=some o/\o.ExactDict/\o.data=.dict es ep/\es.toList=xs.map (entryOfKey (tupleKind (aG P w)))/\(xs.map (·.1)).Nodup
 | .set S n=>h.SetOf (intKind P w) a S n
 | .ins C dx fs=>H dx=some (.own a)/\fs.length<=1000/\dx≠a/\h.get? a=some (PySem.W.instObj C dx) /\
   ∃ mA,h.Ns1 dx mA/\(∀ f,nI (fs.lookup f) (mA f))/\PySem.Within mA (fs.map (·.1))
 | .own _=>∃ o,h.get? a=some o
 | .xd fs=>∃ mA,h.Ns1 a mA/\∀ f,nI (fs.lookup f) (mA f)
 | .ZH lo hi=>∃ t u v,h.get? a=some { cls:=.type "range",data:=.fields #[.int lo t,.int hi u,.int 1 v] }
 | .Gu o u=>h.get? a=some o/\cG H h a u
 | .P5 ps=>h.get? a=some { cls:=.none,data:=.fields ps }
 | .met f x=>h.get? a=some (PySem.W.methodObj (.ref f) (.ref x))
 | .ext φ=>φ h/\(∃ o,h.get? a=some o)/\∀ h1 h2:Heap,φ h1->(∀ o,h1.get? a=some o->h2.get? a=some o)->φ h2
noncomputable def rK (H:Hp)(h:Heap):Prop:=∀ a o,H a=some o->cG P w H h a o
end
section
variable {P:Program}{w:World}{H H':Hp}{h h':Heap}{a:Addr}{o:HO}
theorem cG.lt (x:cG P w H h a o):a < h.objs.size:=by
 cases o with
 | lst xs=>obtain⟨_,_,_,_,e⟩:=x;exact Heap.lt_size e
 | tup xs=>obtain⟨_,_,_,p⟩:=x;exact p.lt
 | dK kvs=>obtain⟨_,_,_,_,o,_,_,e,_⟩:=x;exact Heap.lt_size e
 | dT kvs=>obtain⟨_,_,_,_,o,_,_,e,_⟩:=x;exact Heap.lt_size e
 | set S n=>obtain⟨o,_,_,_,e,_⟩:=x;exact Heap.lt_size e
 | ins C dx fs=>obtain⟨_,_,_,e,_⟩:=x;exact Heap.lt_size e
 | own y=>obtain⟨_,e⟩:=x;exact Heap.lt_size e
 | xd fs=>obtain⟨_,⟨_,_,_,e,_⟩,_⟩:=x;exact Heap.lt_size e
 | ZH lo hi=>obtain⟨_,_,_,e⟩:=x;exact Heap.lt_size e
 | Gu ob u=>obtain⟨e,_⟩:=x;exact Heap.lt_size e
 | P5 ps=>exact Heap.lt_size (show h.get? a=some _ from x)
 | met f y=>exact Heap.lt_size (show h.get? a=some _ from x)
 | ext φ=>obtain⟨_,⟨_,e⟩,_⟩:=x;exact Heap.lt_size e
theorem Paired.Tc {α β:Type}{F G:α->β->Prop}:∀ {l₁:List α} {l₂:List β},Paired F l₁ l₂->(∀ a b,F a b->G a b)->Paired G l₁ l₂
 | _,_,.nil,_=>.nil
 | _,_,.cons r t,f=>.cons (f _ _ r) (Paired.Tc t f)
theorem cG.stay (x:cG P w H h a o)(k:∀ b u,(b=a∨H b=some (.own a))->h.get? b=some u->h'.get? b=some u)
  (ho:∀ b,H b=some (.own a)->H' b=some (.own a)) (ht:∀ b xs,H b=some (.tup xs)->H' b=some (.tup xs)):cG P w H' h' a o:=by
 induction o with
 | lst xs=>obtain⟨z,its,n,r,e⟩:=x;exact⟨z,its,n,r,k _ _ (.inl rfl) e⟩
 | tup xs=>obtain⟨z,its,r,ob,e,c⟩:=x;exact⟨z,its,r,ob,k _ _ (.inl rfl) e,c⟩
 | dK kvs=>obtain⟨z,y,vs,r,ob,es,ep,e,c⟩:=x;exact⟨z,y,vs,r,ob,es,ep,k _ _ (.inl rfl) e,c⟩
 | dT kvs =>
  obtain⟨z,y,xs,r,ob,es,ep,e,c⟩:=x
  exact⟨z,y,xs,Paired.Tc r fun p q z=>⟨z.1,ht _ _ z.2.1,z.2.2⟩,ob,es,ep,k _ _ (.inl rfl) e,c⟩
 | set S n=>obtain⟨ob,es,ep,t,e,c⟩:=x;exact⟨ob,es,ep,t,k _ _ (.inl rfl) e,c⟩
 | ins C dx fs =>
  obtain⟨d,z,ne,e,mA,⟨od,es,ep,e2,c⟩,r⟩:=x
  exact⟨ho _ d,z,ne,k _ _ (.inl rfl) e,mA,⟨od,es,ep,k _ _ (.inr d) e2,c⟩,r⟩
 | own y=>obtain⟨ob,e⟩:=x;exact⟨ob,k _ _ (.inl rfl) e⟩
 | xd fs=>obtain⟨mA,⟨od,es,ep,e,c⟩,r⟩:=x;exact⟨mA,⟨od,es,ep,k _ _ (.inl rfl) e,c⟩,r⟩
 | ZH lo hi=>obtain⟨t,u,v,e⟩:=x;exact⟨t,u,v,k _ _ (.inl rfl) e⟩
 | Gu ob u ih=>obtain⟨e,q⟩:=x;exact⟨k _ _ (.inl rfl) e,ih q⟩
 | P5 ps =>
  have e:h.get? a=some { cls:=.none,data:=.fields ps }:=x
  show h'.get? a=some { cls:=.none,data:=.fields ps }
  exact k a _ (.inl rfl) e
 | met f y =>
  have e:h.get? a=some (PySem.W.methodObj (.ref f) (.ref y)):=x
  show h'.get? a=some (PySem.W.methodObj (.ref f) (.ref y))
  exact k a _ (.inl rfl) e
 | ext φ=>obtain⟨p,⟨o,e⟩,st⟩:=x;exact⟨st _ _ p fun o q=>k _ _ (.inl rfl) q,⟨o,k _ _ (.inl rfl) e⟩,st⟩
theorem rK.lt (x:rK P w H h)(e:H a=some o):a < h.objs.size:=(x a o e).lt
theorem rK.fresh (x:rK P w H h)(e:h.objs.size<=a):H a=none:=by
 cases q:H a with
 | none=>rfl
 | some u=>exact absurd (Nat.lt_of_lt_of_le (x.lt q) e) (Nat.lt_irrefl _)
theorem rK.kept (x:rK P w H h)(k:∀ b u,h.get? b=some u->h'.get? b=some u):rK P w H h':=fun a o e =>
 (x a o e).stay (fun b u _ q=>k b u q) (fun _ q=>q) fun _ _ q=>q
theorem rK.laid (x:rK P w H h)(k:∀ b u,h.get? b=some u->h'.get? b=some u)(hp:h.objs.size<=a)(new:cG P w (upd H a o) h' a o):rK P w (upd H a o) h':=fun b u e=>by
 have hn:=x.fresh hp
 by_cases hb:b=a
 ·subst hb;rw[eZ] at e;cases e;exact new
 ·rw[bf hb] at e
  exact(x b u e).stay (fun c v _ q=>k c v q) (fun c q=>by rw[bf (bG q hn)];exact q) fun c xs q=>by rw[bf (bG q hn)];exact q
end
noncomputable def Rd (H:Hp)(a:Addr)(u:HO):Prop:=H a=some u∨∃ o,H a=some (.Gu o u)
theorem Rd.ok {P:Program}{w:World}{H:Hp}{h:Heap}{a:Addr}{u:HO}(r:Rd H a u)(x:rK P w H h):cG P w H h a u:=by
 rcases r with r | ⟨o,r⟩
 ·exact x a u r
 ·obtain⟨_,q⟩:=x a _ r
  exact q
noncomputable def Zu:Option HO->Prop
 | some (.lst _)=>True
 | some (.dK _)=>True
 | some (.dT _)=>True
 | some (.set _ _)=>True
 | some (.ins _ _ _)=>True
 | some (.ext _)=>True
 | _=>False
section
variable {P:Program}{w:World}{H:Hp}{h h':Heap}{x e:Addr}{o':HO}
theorem rK.write (ok:rK P w H h)(mu:Zu (H x))(he:e=x∨H e=some (.own x))(k:∀ b u,b≠e->h.get? b=some u->h'.get? b=some u)(VH:∃ u,h'.get? e=some u)
  (new:cG P w (upd H x o') h' x o'):rK P w (upd H x o') h':=fun b u q=>by
 have W5:∀ c y,H c=some (.own y)->c≠x:=fun c y r z=>by subst z;rw[r] at mu;exact mu
 have a08:∀ c xs,H c=some (.tup xs)->c≠x:=fun c xs r z=>by subst z;rw[r] at mu;exact mu
 by_cases hb:b=x
 ·subst hb;rw[eZ] at q;cases q;exact new
 ·rw[bf hb] at q
  by_cases UX:b=e
  ·have q':H b=some (.own x):=by
    rcases he with z | z
    ·exact absurd (UX.trans z) hb
    ·rw[UX];exact z
   rw[q] at q';cases q'
   obtain⟨v,hv⟩:=VH
   exact⟨v,by rw[UX];exact hv⟩
  ·refine(ok b u q).stay (fun c v hc r=>k c v ?_ r) (fun c r=>by rw[bf (W5 c b r)];exact r) fun c xs r=>by rw[bf (a08 c xs r)];exact r
   rcases hc with rfl | hc
   ·exact UX
   ·rintro rfl
    rcases he with z | z
    ·exact W5 c b hc z
    ·rw[hc] at z;cases z;exact hb rfl
end
structure Un (fs ex:List Addr)(H H':Hp)(h h':Heap):Prop where
 keep:∀ b o,h.get? b=some o->H b=none->b ∉ fs->b ∉ ex->h'.get? b=some o
 slot:∀ b o,h.get? b=some o->H b=none->b∈fs->b ∉ ex->∃ sl,h'.get? b=some { o with slots:=sl }
 free:∀ b o,h.get? b=some o->H b=none->b ∉ ex->H' b=none
 there:∀ b o,h.get? b=some o->b ∉ ex->∃ o',h'.get? b=some o'
 tups:∀ b xs,H b=some (.tup xs)->H' b=some (.tup xs)
 zz:∀ b o u,H b=some (.Gu o u)->H' b=some (.Gu o u)
 A3:∀ b ps,H b=some (.P5 ps)->∃ more,H' b=some (.P5 (ps++more))
section
variable {fs fs' ex ex':List Addr}{H H1 H2:Hp}{h h1 h2 h':Heap}{a x e:Addr}{o:HO}
theorem Un.any (u:Un fs ex H H1 h h1){b:Addr}{ob:Obj}(q:h.get? b=some ob)(n:H b=none)(hx:b ∉ ex):∃ sl,h1.get? b=some { ob with slots:=sl }:=by
 by_cases hb:b∈fs
 ·exact u.slot b ob q n hb hx
 ·exact⟨ob.slots,u.keep b ob q n hb hx⟩
theorem Un.kept (k:∀ b u,h.get? b=some u->h'.get? b=some u):Un fs ex H H h h' :=
 ⟨fun b ob q _ _ _=>k b ob q,fun b ob q _ _ _=>⟨ob.slots,k b ob q⟩,fun _ _ _ n _=>n,fun b ob q _=>⟨ob,k b ob q⟩,fun _ _ q=>q,fun _ _ _ q=>q,fun _ ps q=>⟨#[],by rw[q];simp⟩⟩
theorem Un.refl:Un fs ex H H h h:=Un.kept fun _ _ q=>q
theorem Un.laid (k:∀ b u,h.get? b=some u->h'.get? b=some u)(hp:h.objs.size<=a)(hn:H a=none):Un fs ex H (upd H a o) h h' where
 keep:=fun b u q _ _ _=>k b u q
 slot:=fun b u q _ _ _=>⟨u.slots,k b u q⟩
 free:=fun b u q n _=>by rw[bf (Nat.ne_of_lt (Nat.lt_of_lt_of_le (Heap.lt_size q) hp))];exact n
 there:=fun b u q _=>⟨u,k b u q⟩
 tups:=fun b xs q=>by rw[bf (bG q hn)];exact q
 zz:=fun b u xs q=>by rw[bf (bG q hn)];exact q
 A3:=fun b ps q=>⟨#[],by rw[bf (bG q hn),q];simp⟩
theorem Un.write (mu:Zu (H x))(he:e=x∨H e=some (.own x))(k:∀ b u,b≠e->h.get? b=some u->h'.get? b=some u)(VH:∃ u,h'.get? e=some u):Un fs ex H (upd H x o) h h':=by
 have hx:∀ b,H b=none->b≠x:=fun b n z=>by subst z;rw[n] at mu;exact mu
 have hb:∀ b,H b=none->b≠e:=fun b n z=>by
  subst z
  rcases he with r | r
  ·exact hx b n r
  ·rw[n] at r;cases r
 have hm:∀ b u,H b=some u->¬ Zu (some u)->b≠x:=fun b u q nm z=>by subst z;rw[q] at mu;exact nm mu
 refine⟨fun b u q n _ _=>k b u (hb b n) q,fun b u q n _ _=>⟨u.slots,k b u (hb b n) q⟩,fun b u q n _=>by rw[bf (hx b n)];exact n,fun b u q _=>?_,
  fun b xs q=>by rw[bf (hm b _ q fun z=>z)];exact q,fun b u xs q=>by rw[bf (hm b _ q fun z=>z)];exact q,fun b ps q=>⟨#[],by rw[bf (hm b _ q fun z=>z),q];simp⟩⟩
 by_cases UX:b=e
 ·subst UX;exact VH
 ·exact⟨u,k b u UX q⟩
end
noncomputable def ZE (h:Heap)(H:Hp):List Addr:=(List.range h.objs.size).filter fun a=>(H a).isSome
noncomputable def Co (h:Heap)(H:Hp):Heap:=PySem.W.hideAll h (ZE h H)
theorem JF (h:Heap)(H:Hp):(Co h H).objs.size=h.objs.size:=PySem.W.hideAll_size _ _
theorem My {h:Heap}{H:Hp}{b:Addr}{o:Obj}(e:h.get? b=some o)(n:H b=none):(Co h H).get? b=some o :=
 PySem.W.hideAll_get _ e fun hm=>by
  have q:(H b).isSome=true:=(List.mem_filter.mp hm).2
  rw[n] at q;simp at q
theorem OR {h:Heap}{H:Hp}{b:Addr}{o:Obj}(e:(Co h H).get? b=some o):h.get? b=some o/\H b=none:=by
 have e':h.get? b=some o:=PySem.W.of_hideAll (ZE h H) e
 refine⟨e',?_⟩
 cases q:H b with
 | none=>rfl
 | some x =>
  have hm:b∈ZE h H:=List.mem_filter.mpr ⟨List.mem_range.mpr (Heap.lt_size e'),by simp[q]⟩
  have z:(Co h H).get? b=none:=PySem.W.hideAll_none (ZE h H) hm
  rw[z] at e;cases e
end L2
namespace L2
open PySem PySem.Spec PyProof.Rows
structure Mod (K:PySem.W.Frag)(mg:Str->Option Value)(base:Heap):Prop where
 Vz:K.In base
 glob:base.Ns mainGlobals mg
 blt:∃ mb,base.Ns builtinsNs mb/\∀ x:Str,x≠"__name__"->mb x=bootBuiltins x
 nolimit:base.NoLimit
structure Cx where
 prog:Program
 w:World
 K:PySem.W.Frag
 mg:Str->Option Value
 base:Heap
 A:Around
 N:List Str
 s₀:Shared
 H₀:Hp
 env:Env
 outer:List Env
 stack:List Env
 ex:List Addr
 fn:Str->Bool
 calm:Bool
 pn:List (Addr×Obj)
 xe:Value->Shared->Prop
noncomputable def frs (l:List Env):List Addr:=l.filterMap (·.frame)
noncomputable abbrev Cx.fs (X:Cx):List Addr:=frs X.outer
noncomputable def Vis (sc:Scope)(x:Str):Prop:=sc.names.lookup x=some .local∨sc.names.lookup x=some .cell∨sc.names.lookup x=some .free
noncomputable def Loc (sc:Scope)(x:Str):Prop:=sc.names.lookup x=some .local∨sc.names.lookup x=some .cell
noncomputable def Look (env:Env)(h:Heap)(m:Str->Option Value)(x:Str)(u:Value):Prop :=
 (env.kindOf x=some .local/\m x=some u)∨((env.kindOf x=some .cell∨env.kindOf x=some .free)/\∃ c,env.cells.lookup x=some c/\h.IsCell c (some u))
structure Cx.Ok (X:Cx):Prop where
 mod:Mod X.K X.mg X.base
 kind:X.env.scope.kind=.function
 glob:X.env.globals=mainGlobals
 blt:X.env.builtins=builtinsNs
 above:X.s₀.heap.objs.size<=X.env.locals
 inj:∀ x y c,X.env.cells.lookup x=some c->X.env.cells.lookup y=some c->x=y
 has:∀ x,(X.env.kindOf x=some .cell∨X.env.kindOf x=some .free)->∃ c,X.env.cells.lookup x=some c
 Zi:∀ x c,X.fn x=true->X.env.cells.lookup x=some c->X.s₀.heap.objs.size<=c
 hd:X.calm=true->X.A.handled=none
 frames:X.A.frames=some X.stack
 stk:X.stack=X.outer∨(X.stack=X.env::X.outer/\X.env.frame=some X.env.locals)
 exf:∀ b∈X.ex,b≠X.env.locals/\∀ x c,X.env.cells.lookup x=some c->c≠b
 bs:∀ b o,X.base.get? b=some o->X.s₀.heap.get? b=some o/\X.H₀ b=none
 Py:X.base.objs.size<=X.s₀.heap.objs.size
 LV:∀ b o,X.base.get? b=some o->b ∉ X.ex
 MK:∀ b∈X.ex,b ∉ X.fs
 vI:X.s₀.heap.FunFrames X.base X.outer
 U1:∀ b∈X.fs,X.H₀ b=none
structure Inv (X:Cx)(pins:List (Addr×Obj))(σ:List (Option V))(H:Hp)(s:Shared):Prop where
 ok:X.Ok
 os:s.os=X.s₀.os
 bare:AllBare s.gens
 base:Un X.fs X.ex X.H₀ H X.s₀.heap s.heap
 loc:∃ m,s.heap.Ns X.env.locals m/\∀ (i:Nat) (x:Str) (v:V),X.N[i]?=some x->σ[i]?=some (some v)->Vis X.env.scope x->∃ u,RelV v u/\Look X.env s.heap m x u
 cell:∀ x c,X.env.cells.lookup x=some c->∃ v,s.heap.IsCell c v
 free:H X.env.locals=none
 nC:∀ x c,X.env.cells.lookup x=some c->H c=none
 pin:∀ p∈X.pn++pins,s.heap.get? p.1=some p.2/\H p.1=none/\p.1≠X.env.locals/\p.1 ∉ X.fs/\∀ v,p.2.data≠.cell v
 hok:rK X.prog X.w H s.heap
 len:σ.length=X.N.length
section
variable {X:Cx}{pins:List (Addr×Obj)}{σ:List (Option V)}{H H':Hp}{s:Shared}{h':Heap}
theorem Cx.Ok.a1a (ok:X.Ok){b:Addr}{o:Obj}(e:X.base.get? b=some o):b ∉ X.fs:=fun hb=>by
 have:=(ok.vI.mem hb).1
 rw[e] at this;cases this
theorem Inv.bs (I:Inv X pins σ H s):∀ b o,X.base.get? b=some o->s.heap.get? b=some o/\H b=none:=fun b o e =>
 ⟨I.base.keep b o (I.ok.bs b o e).1 (I.ok.bs b o e).2 (I.ok.a1a e) (I.ok.LV b o e),I.base.free b o (I.ok.bs b o e).1 (I.ok.bs b o e).2 (I.ok.LV b o e)⟩
theorem Inv.bk (I:Inv X pins σ H s):∀ b o,X.base.get? b=some o->s.heap.get? b=some o:=fun b o e=>(I.bs b o e).1
theorem Inv.mod (I:Inv X pins σ H s):Mod X.K X.mg X.base:=I.ok.mod
theorem Inv.tO (I:Inv X pins σ H s):X.K.In s.heap:=I.ok.mod.Vz.keeps I.bk
theorem Inv.lt (I:Inv X pins σ H s):X.env.locals < s.heap.objs.size:=let ⟨_,hn,_⟩:=I.loc;hn.lt
theorem Inv.sz (I:Inv X pins σ H s):X.s₀.heap.objs.size<=s.heap.objs.size:=Nat.le_trans I.ok.above (Nat.le_of_lt I.lt)
theorem Inv.W6 (I:Inv X pins σ H s){a:Addr}(h:s.heap.objs.size<=a):a ∉ X.fs:=fun hb=>by
 obtain⟨_,o,ho,_⟩:=I.ok.vI.mem hb
 exact absurd (Nat.lt_of_lt_of_le (Heap.lt_size ho) (Nat.le_trans I.sz h)) (Nat.lt_irrefl _)
theorem Inv.Vf (I:Inv X pins σ H s):∀ x c,X.env.cells.lookup x=some c->c≠X.env.locals:=fun x c e z=>by
 obtain⟨v,o,ho,hd⟩:=I.cell x c e
 obtain⟨m,⟨o',es,ep,ho',hd',_⟩,_⟩:=I.loc
 rw[z,ho'] at ho;cases ho;rw[hd'] at hd;cases hd
theorem Inv.vI (I:Inv X pins σ H s):s.heap.FunFrames X.base X.outer:=by
 have all:∀ (l:List Env),(∀ b∈frs l,b∈X.fs)->X.s₀.heap.FunFrames X.base l->s.heap.FunFrames X.base l:=by
  intro l
  induction l with
  | nil=>intro _ _;trivial
  | cons env r ih =>
   intro hs hl
   obtain⟨hk,⟨L,o,hf,hn,ho,hd⟩,hr⟩:=hl
   have hL:L∈X.fs:=hs L (by unfold frs;rw[List.filterMap_cons,hf];exact List.mem_cons_self)
   obtain⟨sl,e⟩:=I.base.slot L o ho (I.ok.U1 L hL) hL fun z=>I.ok.MK L z hL
   exact⟨hk,⟨L,_,hf,hn,e,hd⟩,ih (fun b hb=>hs b (by unfold frs;rw[List.filterMap_cons,hf];exact List.mem_cons_of_mem _ hb)) hr⟩
 exact all X.outer (fun _ hb=>hb) I.ok.vI
theorem Inv.stack (I:Inv X pins σ H s):s.heap.FunFrames X.base X.stack:=by
 rcases I.ok.stk with e | ⟨e,hf⟩
 ·rw[e];exact I.vI
 ·rw[e]
  obtain⟨m,hn,_⟩:=I.loc
  refine .cons (by rw[I.ok.kind];decide) hf hn ?_ I.vI
  exact Heap.get?_none_of_le (Nat.le_trans I.ok.Py I.ok.above)
theorem Inv.A8 (I:Inv X pins σ H s):∀ b∈frs X.stack,b∈X.env.locals::X.fs:=fun b hb=>by
 rcases I.ok.stk with e | ⟨e,hf⟩
 ·rw[e] at hb;exact List.mem_cons_of_mem _ hb
 ·rw[e] at hb
  unfold frs at hb
  rw[List.filterMap_cons,hf] at hb
  exact hb
theorem Inv.Ho (I:Inv X pins σ H s):∀ b∈frs X.stack,H b=none:=fun b hb=>by
 rcases List.mem_cons.mp (I.A8 b hb) with e | hb
 ·rw[e];exact I.free
 ·obtain⟨_,o,ho,_⟩:=I.ok.vI.mem hb
  exact I.base.free b o ho (I.ok.U1 b hb) fun z=>I.ok.MK b z hb
theorem Inv.step {g':Array GenState}{t':Nat}{d':Drawn}{ch:List Addr}(I:Inv X pins σ H s)
  (hch:∀ b∈ch,(b∈X.ex∨X.s₀.heap.objs.size<=b)/\b≠X.env.locals/\(∀ x c,X.env.cells.lookup x=some c->c≠b)/\∀ p∈X.pn++pins,p.1≠b)
  (keep:∀ b o,b≠X.env.locals->b ∉ X.fs->b ∉ ch->s.heap.get? b=some o->H b=none->h'.get? b=some o)
  (slot:∀ b o,b≠X.env.locals->b∈X.fs->b ∉ ch->s.heap.get? b=some o->H b=none->∃ sl,h'.get? b=some { o with slots:=sl }) (free:∀ b o,b ∉ ch->s.heap.get? b=some o->H b=none->H' b=none)
  (there:∀ b o,b ∉ ch->s.heap.get? b=some o->∃ o',h'.get? b=some o')
  (tups:∀ b xs,H b=some (.tup xs)->H' b=some (.tup xs)) (zz:∀ b o u,H b=some (.Gu o u)->H' b=some (.Gu o u)) (A3:∀ b ps,H b=some (.P5 ps)->∃ more,H' b=some (.P5 (ps++more)))
  (ns:∀ m,s.heap.Ns X.env.locals m->h'.Ns X.env.locals m) (hok:rK X.prog X.w H' h') (hg:AllBare g') :
  Inv X pins σ H' { s with heap:=h',gens:=g',drawn:=d',toks:=t' }:=by
 have neL:∀ b o,X.s₀.heap.get? b=some o->b≠X.env.locals:=fun b o e=>Nat.ne_of_lt (Nat.lt_of_lt_of_le (Heap.lt_size e) I.ok.above)
 have ZJ:∀ b o,X.s₀.heap.get? b=some o->b ∉ X.ex->b ∉ ch:=fun b o e hx hb=>by
  rcases(hch b hb).1 with z | z
  ·exact hx z
  ·exact absurd (Nat.lt_of_lt_of_le (Heap.lt_size e) z) (Nat.lt_irrefl _)
 have cellK:∀ x c,X.env.cells.lookup x=some c->∀ v,s.heap.IsCell c v->h'.IsCell c v:=(by
  rintro x c e v ⟨o,ho,hd⟩
  have W9:c ∉ ch:=fun z=>(hch c z).2.2.1 x c e rfl
  by_cases hc:c∈X.fs
  ·obtain⟨sl,q⟩:=slot c o (I.Vf x c e) hc W9 ho (I.nC x c e)
   exact⟨_,q,hd⟩
  ·exact⟨o,keep c o (I.Vf x c e) hc W9 ho (I.nC x c e),hd⟩)
 refine⟨I.ok,I.os,hg,⟨fun b o e n hb hx=>?_,fun b o e n hb hx=>?_,fun b o e n hx=>?_,fun b o e hx=>?_,fun b xs e=>tups b xs (I.base.tups b xs e),fun b o xs e=>zz b o xs (I.base.zz b o xs e),fun b ps e=>?_⟩,?_,fun x c e=>?_,?_,fun x c e=>?_,fun p hp=>?_,hok,I.len⟩
 ·exact keep b o (neL b o e) hb (ZJ b o e hx) (I.base.keep b o e n hb hx) (I.base.free b o e n hx)
 ·obtain⟨sl,e1⟩:=I.base.slot b o e n hb hx
  obtain⟨sl',e2⟩:=slot b _ (neL b o e) hb (ZJ b o e hx) e1 (I.base.free b o e n hx)
  exact⟨sl',e2⟩
 ·obtain⟨o',e1⟩:=I.base.there b o e hx
  exact free b o' (ZJ b o e hx) e1 (I.base.free b o e n hx)
 ·obtain⟨o',e1⟩:=I.base.there b o e hx
  exact there b o' (ZJ b o e hx) e1
 ·obtain⟨m1,e1⟩:=I.base.A3 b ps e
  obtain⟨m2,e2⟩:=A3 b _ e1
  exact⟨m1++m2,by rw[e2,Array.append_assoc]⟩
 ·obtain⟨m,hn,hl⟩:=I.loc
  refine⟨m,ns m hn,fun i x v e1 e2 e3=>?_⟩
  obtain⟨u,r,l⟩:=hl i x v e1 e2 e3
  refine⟨u,r,?_⟩
  rcases l with l | ⟨k,c,e,z⟩
  ·exact .inl l
  ·exact .inr ⟨k,c,e,cellK x c e _ z⟩
 ·obtain⟨v,z⟩:=I.cell x c e
  exact⟨v,cellK x c e v z⟩
 ·obtain⟨m,⟨o,_,_,ho,_⟩,_⟩:=I.loc
  exact free _ o (fun z=>(hch _ z).2.1 rfl) ho I.free
 ·obtain⟨v,o,ho,hd⟩:=I.cell x c e
  exact free c o (fun z=>(hch c z).2.2.1 x c e rfl) ho (I.nC x c e)
 ·obtain⟨e,n,ne,nf,d⟩:=I.pin p hp
  have W9:p.1 ∉ ch:=fun z=>(hch p.1 z).2.2.2 p hp rfl
  exact⟨keep p.1 p.2 ne nf W9 e n,free p.1 p.2 W9 e n,ne,nf,d⟩
theorem Inv.un {t':Nat}(I:Inv X pins σ H s)(u:Un X.fs [] H H' s.heap h')(hok:rK X.prog X.w H' h'):Inv X pins σ H' { s with heap:=h',toks:=t' }:=by
 obtain⟨m,⟨o,es,ep,ho,r⟩,_⟩:=id I.loc
 obtain⟨sl,hL⟩:=u.any ho I.free (by simp)
 exact I.step (g':=s.gens) (d':=s.drawn) (ch:=[]) (fun _ z=>nomatch z) (fun b o _ hb _ e n=>u.keep b o e n hb (by simp)) (fun b o _ hb _ e n=>u.slot b o e n hb (by simp)) (fun b o _ e n=>u.free b o e n (by simp)) (fun b o _ e=>u.there b o e (by simp)) u.tups u.zz u.A3 (fun m' hm=>by
  obtain⟨o',es',ep',ho',r'⟩:=hm
  rw[ho] at ho';cases ho'
  exact⟨_,es',ep',hL,r'⟩) hok I.bare
theorem Inv.call {g':Array GenState}{t':Nat}{d':Drawn}{ch:List Addr}(I:Inv X pins σ H s)(u:Un (frs X.stack) ch H H' s.heap h')(hok:rK X.prog X.w H' h')(hg:AllBare g')
  (hch:∀ b∈ch,(b∈X.ex∨X.s₀.heap.objs.size<=b)/\b≠X.env.locals/\(∀ x c,X.env.cells.lookup x=some c->c≠b)/\∀ p∈X.pn++pins,p.1≠b) :
  Inv X pins σ H' { s with heap:=h',gens:=g',drawn:=d',toks:=t' }:=by
 obtain⟨m,⟨o,es,ep,ho,r⟩,_⟩:=id I.loc
 obtain⟨sl,hL⟩:=u.any ho I.free fun z=>(hch _ z).2.1 rfl
 exact I.step (ch:=ch) hch (fun b o hL hb hc e n=>u.keep b o e n (fun z=>(List.mem_cons.mp (I.A8 b z)).elim hL hb) hc) (fun b o _ _ hc e n=>u.any e n hc) (fun b o hc e n=>u.free b o e n hc) (fun b o hc e=>u.there b o e hc) u.tups u.zz u.A3 (fun m' hm=>by
  obtain⟨o',es',ep',ho',r'⟩:=hm
  rw[ho] at ho';cases ho'
  exact⟨_,es',ep',hL,r'⟩) hok hg
theorem Inv.turned {t':Nat}{it:Addr}(I:Inv X pins σ H s)(k:∀ b o,b≠it->s.heap.get? b=some o->h'.get? b=some o)(hn:H it=none)(hL:it≠X.env.locals)
  (h1:it∈X.ex∨X.s₀.heap.objs.size<=it) (h2:∀ x c,X.env.cells.lookup x=some c->c≠it) (h3:∀ p∈X.pn++pins,p.1≠it):Inv X pins σ H { s with heap:=h',toks:=t' }:=by
 have nit:∀ b u,H b=some u->b≠it:=fun b u e z=>by rw[z,hn] at e;cases e
 refine I.step (g':=s.gens) (d':=s.drawn) (ch:=[it]) (fun b hb=>?_) (fun b o _ _ hc e _=>k b o (fun z=>hc (by simp[z])) e) (fun b o _ _ hc e _=>⟨o.slots,k b o (fun z=>hc (by simp[z])) e⟩) (fun _ _ _ _ n=>n)
  (fun b o hc e=>⟨o,k b o (fun z=>hc (by simp[z])) e⟩) (fun _ _ e=>e) (fun _ _ _ e=>e) (fun b ps e=>⟨#[],by rw[e];simp⟩) (fun m hm=>?_) (fun b u e=>?_) I.bare
 ·have e:b=it:=by simpa using hb
  subst e
  exact⟨h1,hL,h2,h3⟩
 ·obtain⟨o,es,ep,ho,r⟩:=hm
  exact⟨o,es,ep,k _ o (Ne.symm hL) ho,r⟩
 ·refine(I.hok b u e).stay (fun c v hc q=>k c v ?_ q) (fun _ q=>q) fun _ _ q=>q
  rcases hc with z | z
  ·rw[z];exact nit b u e
  ·exact nit c _ z
theorem Inv.tok (I:Inv X pins σ H s)(t:Nat):Inv X pins σ H { s with toks:=t }:=I.un (h':=s.heap) (t':=t) Un.refl I.hok
theorem Inv.kept {t':Nat}(I:Inv X pins σ H s)(k:∀ b u,s.heap.get? b=some u->h'.get? b=some u):Inv X pins σ H { s with heap:=h',toks:=t' }:=I.un (Un.kept k) (I.hok.kept k)
theorem Inv.laid {a:Addr}{o:HO}{t':Nat}(I:Inv X pins σ H s)(k:∀ b u,s.heap.get? b=some u->h'.get? b=some u)(hp:s.heap.objs.size<=a)(new:cG X.prog X.w (upd H a o) h' a o) :
  Inv X pins σ (upd H a o) { s with heap:=h',toks:=t' }:=I.un (Un.laid k hp (I.hok.fresh hp)) (I.hok.laid k hp new)
theorem Inv.write {x e:Addr}{o:HO}{t':Nat}(I:Inv X pins σ H s)(mu:Zu (H x))(he:e=x∨H e=some (.own x))(k:∀ b u,b≠e->s.heap.get? b=some u->h'.get? b=some u)(VH:∃ u,h'.get? e=some u)
  (new:cG X.prog X.w (upd H x o) h' x o):Inv X pins σ (upd H x o) { s with heap:=h',toks:=t' }:=I.un (Un.write mu he k VH) (I.hok.write mu he k VH new)
theorem Inv.weak {σ':List (Option V)}(I:Inv X pins σ H s)(hl:σ'.length=σ.length)(w:∀ (i:Nat) v,σ'[i]?=some (some v)->σ[i]?=some (some v)):Inv X pins σ' H s :=
 ⟨I.ok,I.os,I.bare,I.base,let ⟨m,hn,hl'⟩:=I.loc;⟨m,hn,fun i x v e1 e2 e3=>hl' i x v e1 (w i v e2) e3⟩,I.cell,I.free,I.nC,I.pin,I.hok,hl.trans I.len⟩
theorem Inv.wo {xG:List (Addr×Obj)}(I:Inv X pins σ H s)(h:∀ p∈xG,s.heap.get? p.1=some p.2/\H p.1=none/\p.1≠X.env.locals/\p.1 ∉ X.fs/\∀ v,p.2.data≠.cell v):Inv X xG σ H s :=
 ⟨I.ok,I.os,I.bare,I.base,I.loc,I.cell,I.free,I.nC,fun p hp=>(List.mem_append.mp hp).elim (fun z=>I.pin p (List.mem_append_left _ z)) (h p),I.hok,I.len⟩
theorem En {N:List Str}(hN:N.Nodup){i j:Nat}{x:Str}(a:N[i]?=some x)(b:N[j]?=some x):i=j:=by
 obtain⟨h1,e1⟩:=List.getElem?_eq_some_iff.mp a
 obtain⟨h2,e2⟩:=List.getElem?_eq_some_iff.mp b
 exact(List.getElem_inj hN).mp (e1.trans e2.symm)
theorem Ac {M:Model}{A:Around}{E:Value->Shared->Prop}{i:Nat}{x:Str}{v:V}{u:Value}{Q:Unit->Shared->Prop}(I:Inv X pins σ H s)(hN:X.N.Nodup)(hi:X.N[i]?=some x)(hx:Loc X.env.scope x)(r:RelV v u)
  (h:∀ s',Inv X pins (σ.set i (some v)) H s'->(∃ a,Heap.SameBut a s.heap s'.heap/\(a=X.env.locals∨X.env.cells.lookup x=some a))->Q () s') (hf:X.fn x=true∨X.env.scope.names.lookup x=some .local:=by first | exact .inl rfl | exact .inr rfl | assumption):wpAny M A (storeName X.env x u) Q E s:=by
 obtain⟨m,hn,hl⟩:=id I.loc
 have hcls:(X.env.scope.kind == .class || (X.env.scope.kind == .module && X.env.locals != X.env.globals))=false:=by rw[I.ok.kind];rfl
 have hiσ:i < σ.length:=by rw[I.len];exact(List.getElem?_eq_some_iff.mp hi).1
 have Vf:=I.Vf
 have tracked:∀ {a:Addr} {h':Heap},(∃ o,s.heap.get? a=some o/\H a=none)->Heap.SameBut a s.heap h'->rK X.prog X.w H h':=fun {a h'} ha hs b ob e=>by
  obtain⟨_,_,hfree⟩:=ha
  refine(I.hok b ob e).stay (fun c w' hc q=>(hs.2 c ?_).trans q) (fun _ q=>q) fun _ _ q=>q
  rintro rfl
  rcases hc with rfl | hc
  ·rw[hfree] at e;cases e
  ·rw[hfree] at hc;cases hc
 rcases hx with hk | hk
 ·refine wpAny_storeName_local hk hn (fun h' hn' hs=>?_) hcls
  obtain⟨oL,_,_,hoL,_⟩:=id hn
  refine h _ ⟨I.ok,I.os,I.bare,⟨fun b o e n hb hx=>?_,fun b o e n hb hx=>?_,I.base.free,fun b o e hx=>?_,I.base.tups,I.base.zz,I.base.A3⟩,⟨_,hn',fun j y v' e1 e2 e3=>?_⟩,fun y c e=>?_,I.free,I.nC,fun p hp=>?_,tracked ⟨oL,hoL,I.free⟩ hs,by simpa using I.len⟩ ⟨_,hs,.inl rfl⟩
  ·exact(hs.2 b (Nat.ne_of_lt (Nat.lt_of_lt_of_le (Heap.lt_size e) I.ok.above))).trans (I.base.keep b o e n hb hx)
  ·obtain⟨sl,e1⟩:=I.base.slot b o e n hb hx
   exact⟨sl,(hs.2 b (Nat.ne_of_lt (Nat.lt_of_lt_of_le (Heap.lt_size e) I.ok.above))).trans e1⟩
  ·obtain⟨o',e1⟩:=I.base.there b o e hx
   exact⟨o',(hs.2 b (Nat.ne_of_lt (Nat.lt_of_lt_of_le (Heap.lt_size e) I.ok.above))).trans e1⟩
  ·by_cases hj:j=i
   ·subst hj
    rw[hi] at e1;cases e1
    rw[List.getElem?_set_self hiσ] at e2
    cases e2
    exact⟨u,r,.inl ⟨hk,by simp⟩⟩
   ·rw[List.getElem?_set_ne (Ne.symm hj)] at e2
    obtain⟨u',r',q⟩:=hl j y v' e1 e2 e3
    refine⟨u',r',?_⟩
    rcases q with ⟨k,e⟩ | ⟨k,c,e,z⟩
    ·refine .inl ⟨k,?_⟩
     have:y≠x:=fun e=>hj (En hN e1 (e ▸ hi))
     simp[this,e]
    ·exact .inr ⟨k,c,e,z.sameBut hs (Vf y c e)⟩
  ·obtain⟨w',z⟩:=I.cell y c e
   exact⟨w',z.sameBut hs (Vf y c e)⟩
  ·obtain⟨e,n,ne,nf,d⟩:=I.pin p hp
   exact⟨(hs.2 p.1 ne).trans e,n,ne,nf,d⟩
 ·have hfn:X.fn x=true:=by
   rcases hf with z | z
   ·exact z
   ·rw[z] at hk;cases hk
  obtain⟨c,hc⟩:=I.ok.has x (.inl hk)
  obtain⟨w',z⟩:=I.cell x c hc
  refine wpAny_storeName_cell I.ok.kind hk hc z (fun h' hc' hs=>?_)
  obtain⟨oc,hoc,a13⟩:=id z
  refine h { s with heap:=h' } ⟨I.ok,I.os,I.bare,⟨fun b o e n hb hx=>?_,fun b o e n hb hx=>?_,I.base.free,fun b o e hx=>?_,I.base.tups,I.base.zz,I.base.A3⟩,⟨m,hn.sameBut hs (Ne.symm (Vf x c hc)),fun j y v' e1 e2 e3=>?_⟩,fun y c' e=>?_,I.free,I.nC,fun p hp=>?_,tracked ⟨oc,hoc,I.nC x c hc⟩ hs,by simpa using I.len⟩ ⟨c,hs,.inr hc⟩
  ·exact(hs.2 b (Nat.ne_of_lt (Nat.lt_of_lt_of_le (Heap.lt_size e) (I.ok.Zi x c hfn hc)))).trans (I.base.keep b o e n hb hx)
  ·obtain⟨sl,e1⟩:=I.base.slot b o e n hb hx
   exact⟨sl,(hs.2 b (Nat.ne_of_lt (Nat.lt_of_lt_of_le (Heap.lt_size e) (I.ok.Zi x c hfn hc)))).trans e1⟩
  ·obtain⟨o',e1⟩:=I.base.there b o e hx
   exact⟨o',(hs.2 b (Nat.ne_of_lt (Nat.lt_of_lt_of_le (Heap.lt_size e) (I.ok.Zi x c hfn hc)))).trans e1⟩
  ·by_cases hj:j=i
   ·subst hj
    rw[hi] at e1;cases e1
    rw[List.getElem?_set_self hiσ] at e2
    cases e2
    exact⟨u,r,.inr ⟨.inl hk,c,hc,hc'⟩⟩
   ·rw[List.getElem?_set_ne (Ne.symm hj)] at e2
    obtain⟨u',r',q⟩:=hl j y v' e1 e2 e3
    refine⟨u',r',?_⟩
    rcases q with q | ⟨k,c',e,z'⟩
    ·exact .inl q
    ·refine .inr ⟨k,c',e,z'.sameBut hs ?_⟩
     rintro rfl
     exact hj (En hN e1 (I.ok.inj _ _ _ e hc ▸ hi))
  ·by_cases hcc:c'=c
   ·subst hcc;exact⟨_,hc'⟩
   ·obtain⟨w2,z2⟩:=I.cell y c' e
    exact⟨w2,z2.sameBut hs hcc⟩
  ·obtain⟨e,n,ne,nf,d⟩:=I.pin p hp
   refine⟨(hs.2 p.1 ?_).trans e,n,ne,nf,d⟩
   intro q
   rw[q,hoc] at e
   have q':oc=p.2:=Option.some.inj e
   exact d w' (by rw[<- q'];exact a13)
theorem Dr {M:Model}{A:Around}{E:Value->Shared->Prop}{i:Nat}{x:Str}{v:V}{u:Value}{Q:Unit->Shared->Prop}(I:Inv X pins σ H s)(hN:X.N.Nodup)(hi:X.N[i]?=some x)(hx:Loc X.env.scope x)(r:RelV v u)
  (h:∀ s',Inv X pins (σ.set i (some v)) H s'->Q () s') (hf:X.fn x=true∨X.env.scope.names.lookup x=some .local:=by first | exact .inl rfl | exact .inr rfl | assumption):wpAny M A (storeName X.env x u) Q E s :=
 Ac I hN hi hx r (fun s' I' _=>h s' I') hf
theorem Inv.Zh {s':Shared}{ch:List Addr}(I:Inv X pins σ H s)(ho:s'.os=s.os)(u:Un (frs X.stack) ch H H' s.heap s'.heap)(hok:rK X.prog X.w H' s'.heap)(hg:AllBare s'.gens)
  (hch:∀ b∈ch,(b∈X.ex∨X.s₀.heap.objs.size<=b)/\b≠X.env.locals/\(∀ x c,X.env.cells.lookup x=some c->c≠b)/\∀ p∈X.pn++pins,p.1≠b):Inv X pins σ H' s':=by
 obtain⟨h',g',d',t',o'⟩:=s'
 have e:o'=s.os:=ho
 subst e
 exact I.call (g':=g') (t':=t') (d':=d') u hok hg hch
end
noncomputable abbrev XK:=Value->Option Addr->Hp->Prop
noncomputable abbrev St:=List (Option V)
noncomputable abbrev VK:=V->Hp->Prop
noncomputable abbrev TE:=St->Hp->VK->Prop
noncomputable abbrev TT:=St->Hp->(Bool->Hp->Prop)->Prop
noncomputable abbrev TA:=St->Hp->(List V->Hp->Prop)->Prop
structure Ends where
 nx:St->Hp->Prop
 rt:VK
 bk:St->Hp->Prop:=fun _ _=>False
 ct:St->Hp->Prop:=fun _ _=>False
noncomputable abbrev TS:=Ends->St->Hp->Prop
noncomputable def EP (X:Cx)(pins:List (Addr×Obj))(σ:St)(Q:VK)(u:Value)(s':Shared):Prop:=∃ v H',Inv X pins σ H' s'/\RelV v u/\Q v H'
noncomputable def TP (X:Cx)(pins:List (Addr×Obj))(σ:St)(Q:Bool->Hp->Prop)(b:Bool)(s':Shared):Prop:=∃ H',Inv X pins σ H' s'/\Q b H'
noncomputable def AP (X:Cx)(pins:List (Addr×Obj))(σ:St)(Q:List V->Hp->Prop)(us:List Value)(s':Shared):Prop:=∃ vs H',Inv X pins σ H' s'/\Vals vs us/\Q vs H'
noncomputable def SP (X:Cx)(pins:List (Addr×Obj))(D:Ends)(f:Flow)(s':Shared):Prop :=
 match f with
 | .next=>∃ σ' H',Inv X pins σ' H' s'/\D.nx σ' H'
 | .brk=>∃ σ' H',Inv X pins σ' H' s'/\D.bk σ' H'
 | .cont=>∃ σ' H',Inv X pins σ' H' s'/\D.ct σ' H'
 | .ret u=>∃ v σ' H',Inv X pins σ' H' s'/\RelV v u/\D.rt v H'
noncomputable def PE (X:Cx)(e:Expr)(t:TE):Prop :=
 ∀ (pins:List (Addr×Obj)) (s:Shared) (σ:St) (H:Hp) (Q:VK),Inv X pins σ H s->t σ H Q->wpAny (model X.prog X.w) X.A (eval e X.env) (EP X pins σ Q) X.xe s
noncomputable def PT (X:Cx)(e:Expr)(t:TT):Prop :=
 ∀ (pins:List (Addr×Obj)) (s:Shared) (σ:St) (H:Hp) (Q:Bool->Hp->Prop),Inv X pins σ H s->t σ H Q->wpAny (model X.prog X.w) X.A (isTrue e X.env (eval e X.env)) (TP X pins σ Q) X.xe s
noncomputable def PW (X:Cx)(e:Expr)(t:TT):Prop :=
 ∀ (whole:Sem Value) (pins:List (Addr×Obj)) (s:Shared) (σ:St) (H:Hp) (Q:Bool->Hp->Prop),Inv X pins σ H s->t σ H Q->wpAny (model X.prog X.w) X.A (isTrue e X.env whole) (TP X pins σ Q) X.xe s
theorem PW.pt {X:Cx}{e:Expr}{t:TT}(h:PW X e t):PT X e t:=h _
noncomputable def PA (X:Cx)(es:List Expr)(t:TA):Prop :=
 ∀ (pos:Pos) (pins:List (Addr×Obj)) (s:Shared) (σ:St) (H:Hp) (Q:List V->Hp->Prop),Inv X pins σ H s->t σ H Q->wpAny (model X.prog X.w) X.A (spliced (backTo pos (starEach es X.env))) (AP X pins σ Q) X.xe s
noncomputable def PS (X:Cx)(st:Stmt)(t:TS):Prop :=
 ∀ (pins:List (Addr×Obj)) (s:Shared) (σ:St) (H:Hp) (D:Ends),Inv X pins σ H s->t D σ H->wpAny (model X.prog X.w) X.A (exec st X.env) (SP X pins D) X.xe s
noncomputable def Dh (X:Cx)(st:List Stmt)(t:TS):Prop :=
 ∀ (pins:List (Addr×Obj)) (s:Shared) (σ:St) (H:Hp) (D:Ends),Inv X pins σ H s->t D σ H->wpAny (model X.prog X.w) X.A (execs st X.env) (SP X pins D) X.xe s
theorem eK {α:Type}{t:Sem α}{Q Q':α->Shared->Prop}{M:Model}{A:Around}{E:Value->Shared->Prop}{s:Shared}(h:wpAny M A t Q E s)(hQ:∀ a s,Q a s->Q' a s):wpAny M A t Q' E s:=wpAny_mono h hQ fun _ _ x=>x
end L2
namespace L2
open PySem PySem.Spec PyProof.Rows
section
variable {X:Cx}
noncomputable def a0z (i:Nat):TE:=fun σ H Q=>∃ v,σ[i]?=some (some v)/\Q v H
noncomputable def tC (v:V):TE:=fun _ H Q=>Q v H
theorem Ss {i:Nat}{x:Str}{pos:Pos}(hN:X.N[i]?=some x)(hv:Vis X.env.scope x)(hd:(x == ("__debug__":Str))=false:=by decide)(hcd:(x == ("__classdict__":Str))=false:=by decide):PE X (.Name x pos) (a0z i):=by
 intro pins s σ H Q I h
 obtain⟨v,e,h⟩:=h
 obtain⟨m,hn,hl⟩:=I.loc
 obtain⟨u,r,l⟩:=hl i x v hN e hv
 have fin:EP X pins σ Q u s:=⟨v,H,I,r,h⟩
 rcases l with ⟨hk,hm⟩ | ⟨hk,c,hc,hcell⟩
 ·exact wpAny_Name (wpAny_loadName_local I.ok.kind hk hn hm fin) hd
 ·rcases hk with hk | hk
  ·exact wpAny_Name (wpAny_loadName_cell I.ok.kind hk hc hcell fin) hd
  ·exact wpAny_Name (wpAny_loadName_free I.ok.kind hk hc hcell fin hcd) hd
theorem Sw {i j pos}:PE X (.Constant (.int i) j pos) (tC (.int i)):=fun _ _ _ H _ I h=>wpAny_Constant_int ⟨.int i,H,I.tok _,⟨_,rfl⟩,h⟩
theorem WT {b j pos}:PE X (.Constant (.bool b) j pos) (tC (.bl b)):=fun _ _ _ H _ I h=>Constant_bool ⟨.bl b,H,I,rfl,h⟩
theorem Sv {j pos}:PE X (.Constant .none j pos) (tC .dR):=fun _ _ _ H _ I h=>Constant_none ⟨.dR,H,I,rfl,h⟩
theorem Ly {x j pos}:PE X (.Constant (.str x) j pos) (tC (.str x)):=fun _ _ _ H _ I h=>Calls.Constant_str ⟨.str x,H,I.tok _,⟨_,rfl⟩,h⟩
noncomputable def Gl (X:Cx)(x:Str):Prop:=X.env.kindOf x=some .globalImplicit
theorem wA {E:Value->Shared->Prop}{pins:List (Addr×Obj)}{s:Shared}{σ:St}{H:Hp}{x:Str}{u:Value}{pos:Pos}{Q:Value->Shared->Prop}(I:Inv X pins σ H s)(hg:Gl X x)(hm:X.mg x=some u)(h:Q u s)
  (hd:(x == ("__debug__":Str))=false:=by decide):wpAny (model X.prog X.w) X.A (eval (.Name x pos) X.env) Q E s :=
 Calls.Name_function_global I.ok.kind hg (Calls.loadGlobal_global (by rw[I.ok.glob];exact I.mod.glob.keeps I.bk) hm h) hd
theorem Cf {E:Value->Shared->Prop}{pins:List (Addr×Obj)}{s:Shared}{σ:St}{H:Hp}{x:Str}{u:Value}{pos:Pos}{Q:Value->Shared->Prop}(I:Inv X pins σ H s)(hg:Gl X x)(hm:X.mg x=none)(hv:bootBuiltins x=some u)(h:Q u s)
  (hn:x≠"__name__":=by decide) (hd:(x == ("__debug__":Str))=false:=by decide):wpAny (model X.prog X.w) X.A (eval (.Name x pos) X.env) Q E s:=by
 obtain⟨mb,h1,h2⟩:=I.mod.blt
 exact Calls.Name_function_global I.ok.kind hg (Calls.loadGlobal_builtin (by rw[I.ok.glob];exact I.mod.glob.keeps I.bk) hm (by rw[I.ok.blt];exact h1.keeps I.bk) ((h2 x hn).trans hv) h) hd
theorem bW {x:Str}{v:V}{u:Value}{pos:Pos}(hg:Gl X x)(hm:X.mg x=some u)(r:RelV v u)(hd:(x == ("__debug__":Str))=false:=by decide):PE X (.Name x pos) (tC v) :=
 fun _ _ _ H _ I h=>wA I hg hm ⟨v,H,I,r,h⟩ hd
theorem BG {x:Str}{v:V}{u:Value}{pos:Pos}(hg:Gl X x)(hm:X.mg x=none)(hv:bootBuiltins x=some u)(r:RelV v u)(hn:x≠"__name__":=by decide)(hd:(x == ("__debug__":Str))=false:=by decide):PE X (.Name x pos) (tC v) :=
 fun _ _ _ H _ I h=>Cf I hg hm hv ⟨v,H,I,r,h⟩ hn hd
variable {a b:Expr}{ta tb:TE}{pos:Pos}
noncomputable def tB (t:TE):TT:=fun σ H Q=>t σ H fun x H1=>∃ c,x=.bl c/\Q c H1
theorem Se {e:Expr}{t:TE}(h:PE X e t)(he:∀ whole,isTrue e X.env whole=(do let v <- whole;standAt e.pos;holding [v] (truthy v)):=by intro _;rfl):PT X e (tB t):=by
 intro pins s σ H Q I hw
 refine isTrue_plain (eK (h pins s σ H _ I hw) fun v s1 ⟨x,H1,I1,r1,q1⟩=>?_) (he _)
 obtain⟨d,rfl,q⟩:=q1
 cases r1
 exact wpAny_truthy_bool ⟨H1,I1,q⟩
variable {tA ZG:TT}{rest:List Expr}
noncomputable def a0M (t u:TT):TT:=fun σ H Q=>t σ H fun c H1=>if c=true then u σ H1 Q else Q false H1
noncomputable def tOr (t u:TT):TT:=fun σ H Q=>t σ H fun c H1=>if c=true then Q true H1 else u σ H1 Q
noncomputable def a0F (t:TT):TT:=fun σ H Q=>t σ H fun c H1=>Q (!c) H1
theorem Oj (ha:PT X a tA):PW X (.BoolOp .And [a] pos) tA:=by
 intro wh pins s σ H Q I h
 refine isTrue_and (eK (ha pins s σ H Q I h) fun c s1 e=>?_)
 cases c with
 | true=>exact isTrue_and_nil e
 | false=>exact e
theorem Sa (ha:PT X a tA):PW X (.BoolOp .Or [a] pos) tA:=by
 intro wh pins s σ H Q I h
 refine isTrue_or (eK (ha pins s σ H Q I h) fun c s1 e=>?_)
 cases c with
 | false=>exact isTrue_or_nil e
 | true=>exact e
theorem Sd (ha:PT X a tA)(hb:PW X (.BoolOp .And (b::rest) pos) ZG):PW X (.BoolOp .And (a::b::rest) pos) (a0M tA ZG):=by
 intro wh pins s σ H Q I h
 refine isTrue_and (eK (ha pins s σ H _ I h) fun c s1 ⟨H1,I1,q1⟩=>?_)
 cases c with
 | true=>exact hb wh pins s1 σ H1 Q I1 q1
 | false=>exact⟨H1,I1,q1⟩
theorem WL (ha:PT X a tA)(hb:PW X (.BoolOp .Or (b::rest) pos) ZG):PW X (.BoolOp .Or (a::b::rest) pos) (tOr tA ZG):=by
 intro wh pins s σ H Q I h
 refine isTrue_or (eK (ha pins s σ H _ I h) fun c s1 ⟨H1,I1,q1⟩=>?_)
 cases c with
 | true=>exact⟨H1,I1,q1⟩
 | false=>exact hb wh pins s1 σ H1 Q I1 q1
theorem Sf (ha:PT X a tA):PT X (.UnaryOp .Not a pos) (a0F tA):=by
 intro pins s σ H Q I h
 exact isTrue_not (ha pins s σ H (fun c H1=>Q (!c) H1) I h)
end
end L2
namespace L2
open PySem PySem.Spec PyProof.Rows
noncomputable def nH (K:PySem.W.Frag)(H:Hp)(a:Addr)(xs:List V):Prop :=
 Rd H a (.lst xs) ∨
  ∃ (o:Obj) (its:Array Value) (n:Nat),K.lookup a=some o/\o.cls=.type "list"/\o.dict=none/\o.data=.seq its n/\its.size<=sizeLine/\Vals xs its.toList
noncomputable def qh (K:PySem.W.Frag)(H:Hp)(a:Addr)(xs:List V):Prop :=
 Rd H a (.tup xs) ∨
  ∃ (o:Obj) (its:Array Value) (n:Nat),K.lookup a=some o/\o.cls=.type "tuple"/\o.data=.seq its n/\its.size<=sizeLine/\Vals xs its.toList
noncomputable def a27:Value->Option V
 | .none=>some .dR
 | .bool b=>some (.bl b)
 | .int i _=>some (.int i)
 | .str x _=>some (.str x)
 | .bytes b _=>some (.Ka b)
 | .float b _=>some (.U5 b)
 | .ref a=>some (.ref a)
 | .type n=>some (.ty n)
 | _=>none
theorem RelV.abs {x:V}{u:Value}(r:RelV x u):a27 u=some x:=by
 cases x with
 | dR=>cases r;rfl
 | bl _=>cases r;rfl
 | int _=>obtain⟨t,rfl⟩:=r;rfl
 | str _=>obtain⟨t,rfl⟩:=r;rfl
 | Ka _=>obtain⟨t,rfl⟩:=r;rfl
 | U5 _=>obtain⟨t,rfl⟩:=r;rfl
 | ref _=>cases r;rfl
 | ty _=>cases r;rfl
theorem RelV.inj {x y:V}{u:Value}(r:RelV x u)(q:RelV y u):x=y:=Option.some.inj (r.abs.symm.trans q.abs)
theorem Vals.inj:∀ {xs ys:List V} {us:List Value},Vals xs us->Vals ys us->xs=ys
 | _,_,_,.nil,.nil=>rfl
 | _,_,_,.cons r t,.cons r' t'=>by rw[r.inj r',Vals.inj t t']
section
variable {X:Cx}{pins:List (Addr×Obj)}{σ:St}{H:Hp}{s:Shared}{a:Addr}{xs ys:List V}
theorem nH.of {K:PySem.W.Frag}(h:H a=some (.lst xs)):nH K H a xs:=.inl (.inl h)
theorem qh.of {K:PySem.W.Frag}(h:H a=some (.tup xs)):qh K H a xs:=.inl (.inl h)
theorem Inv.list (I:Inv X pins σ H s)(h:nH X.K H a xs):∃ its:List Value,Vals xs its/\PlainL s.heap a its.toArray/\xs.length<=sizeLine:=by
 rcases h with h | ⟨o,its,n,hk,hc,hd,hs,hz,r⟩
 ·obtain⟨z,its,n,r,e⟩:=h.ok I.hok
  exact⟨its,r,⟨_,n,e,rfl,rfl,rfl⟩,z⟩
 ·refine⟨its.toList,r,⟨o,n,I.tO a o hk,hc,hd,by simpa using hs⟩,?_⟩
  have e:=r.length
  simp only[Array.length_toList] at e
  omega
theorem Inv.tuple (I:Inv X pins σ H s)(h:qh X.K H a xs):∃ its:List Value,Vals xs its/\IsTup s.heap a its.toArray/\xs.length<=sizeLine:=by
 rcases h with h | ⟨o,its,n,hk,hc,hs,hz,r⟩
 ·obtain⟨z,its,r,p⟩:=h.ok I.hok
  exact⟨its,r,p,z⟩
 ·refine⟨its.toList,r,⟨o,I.tO a o hk,hc,n,by simpa using hs⟩,?_⟩
  have e:=r.length
  simp only[Array.length_toList] at e
  omega
theorem Inv.L8 (I:Inv X pins σ H s)(h:nH X.K H a xs)(h':nH X.K H a ys):xs=ys:=by
 obtain⟨its,r,⟨o,n,e,_,_,d⟩,_⟩:=I.list h
 obtain⟨its',r',⟨o',n',e',_,_,d'⟩,_⟩:=I.list h'
 rw[e] at e';cases e'
 rw[d] at d'
 injection d' with d1 _
 have:its=its':=by simpa using congrArg Array.toList d1
 subst this
 exact r.inj r'
theorem Inv.IX (I:Inv X pins σ H s)(h:qh X.K H a xs)(h':qh X.K H a ys):xs=ys:=by
 obtain⟨its,r,⟨o,e,_,n,d⟩,_⟩:=I.tuple h
 obtain⟨its',r',⟨o',e',_,n',d'⟩,_⟩:=I.tuple h'
 rw[e] at e';cases e'
 rw[d] at d'
 injection d' with d1 _
 have:its=its':=by simpa using congrArg Array.toList d1
 subst this
 exact r.inj r'
end
noncomputable abbrev Cx.zb (X:Cx)(E:Value->Shared->Prop):Cx:={ X with xe:=E }
noncomputable abbrev Cx.Vx (X:Cx):Cx:=X.zb fun _ _=>False
theorem Cx.Ok.zb {X:Cx}(ok:X.Ok)(E:Value->Shared->Prop):(X.zb E).Ok :=
 ⟨ok.mod,ok.kind,ok.glob,ok.blt,ok.above,ok.inj,ok.has,ok.Zi,ok.hd,ok.frames,ok.stk,ok.exf,ok.bs,ok.Py,ok.LV,ok.MK,ok.vI,ok.U1⟩
theorem Cx.Ok.nO {X:Cx}{E:Value->Shared->Prop}(ok:(X.zb E).Ok):X.Ok :=
 ⟨ok.mod,ok.kind,ok.glob,ok.blt,ok.above,ok.inj,ok.has,ok.Zi,ok.hd,ok.frames,ok.stk,ok.exf,ok.bs,ok.Py,ok.LV,ok.MK,ok.vI,ok.U1⟩
section
variable {X:Cx}{pins:List (Addr×Obj)}{σ:St}{H:Hp}{s:Shared}{E:Value->Shared->Prop}
theorem Inv.zb (I:Inv X pins σ H s)(E:Value->Shared->Prop):Inv (X.zb E) pins σ H s:=⟨I.ok.zb E,I.os,I.bare,I.base,I.loc,I.cell,I.free,I.nC,I.pin,I.hok,I.len⟩
theorem Inv.nO (I:Inv (X.zb E) pins σ H s):Inv X pins σ H s:=⟨I.ok.nO,I.os,I.bare,I.base,I.loc,I.cell,I.free,I.nC,I.pin,I.hok,I.len⟩
theorem SP.nO {D:Ends}{f:Flow}{s':Shared}(h:SP (X.zb E) pins D f s'):SP X pins D f s':=by
 cases f with
 | next=>obtain⟨σ',H',I,q⟩:=h;exact⟨σ',H',I.nO,q⟩
 | brk=>obtain⟨σ',H',I,q⟩:=h;exact⟨σ',H',I.nO,q⟩
 | cont=>obtain⟨σ',H',I,q⟩:=h;exact⟨σ',H',I.nO,q⟩
 | ret u=>obtain⟨v,σ',H',I,r,q⟩:=h;exact⟨v,σ',H',I.nO,r,q⟩
theorem Dh.Vx {st:List Stmt}{t:TS}(h:Dh X.Vx st t):Dh X st t:=fun pins s σ H D I hw =>
 wpAny_mono (h pins s σ H D (I.zb _) hw) (fun _ _ q=>q.nO) fun _ _ z=>False.elim z
end
section
variable {X:Cx}{st:Stmt}{rest:List Stmt}{t u:TS}{e:Expr}{te:TE}{pos:Pos}
noncomputable def V1:TS:=fun D σ H=>D.nx σ H
noncomputable def a0C (t u:TS):TS:=fun D σ H=>t { D with nx:=u D } σ H
theorem Ot:Dh X [] V1:=fun _ _ σ H _ I h=>wpAny_execs_nil ⟨σ,H,I,h⟩
theorem Ls (h1:PS X st t)(h2:Dh X rest u):Dh X (st::rest) (a0C t u):=by
 intro pins s σ H D I h
 refine wpAny_execs_cons (eK (h1 pins s σ H { D with nx:=u D } I h) fun f s1 q=>?_)
 cases f with
 | next =>
  obtain⟨σ',H',I',q⟩:=q
  exact h2 pins s1 σ' H' D I' q
 | ret v=>exact q
 | brk=>exact q
 | cont=>exact q
theorem Oq (h1:PS X st t):Dh X [st] t:=by
 intro pins s σ H D I h
 refine wpAny_execs_cons (eK (h1 pins s σ H D I h) fun f s1 q=>?_)
 cases f with
 | next=>exact wpAny_execs_nil q
 | ret v=>exact q
 | brk=>exact q
 | cont=>exact q
theorem Inv.quiet {pins:List (Addr×Obj)}{σ:St}{H:Hp}{s:Shared}(I:Inv X pins σ H s):interactive X.env=false:=by simp[interactive,I.ok.kind]
noncomputable def Wa (te:TE):TS:=fun D σ H=>te σ H fun _ H1=>D.nx σ H1
theorem Ov (he:PE X e te)(hs:swapsWith e none pos.line X.env=pure false:=by rfl):PS X (.Expr e pos) (Wa te):=by
 intro pins s σ H D I h
 exact wpAny_Expr_any (eK (he pins s σ H _ I h) (by rintro v s1 ⟨x,H1,I1,r1,q1⟩;exact ⟨σ,H1,I1,q1⟩)) I.quiet hs
noncomputable def a0D (te:TE):TS:=fun D σ H=>te σ H D.rt
theorem Si (he:PE X e te):PS X (.Return (some e) pos) (a0D te):=by
 intro pins s σ H D I h
 exact wpAny_Return_some (eK (he pins s σ H _ I h) (by rintro v s1 ⟨x,H1,I1,r1,q1⟩;exact ⟨x,σ,H1,I1,r1,q1⟩))
noncomputable def a0I (c:TT)(t u:TS):TS:=fun D σ H=>c σ H fun b H1=>if b=true then t D σ H1 else u D σ H1
theorem WM {c:Expr}{a b:List Stmt}{tc:TT}(hc:PT X c tc)(ha:Dh X a t)(hb:Dh X b u):PS X (.If c a b pos) (a0I tc t u):=by
 intro pins s σ H D I h
 refine wpAny_If (eK (hc pins s σ H _ I h) fun d s1 ⟨H1,I1,q1⟩=>?_)
 cases d with
 | true=>exact ha pins s1 σ H1 D I1 q1
 | false=>exact hb pins s1 σ H1 D I1 q1
noncomputable def Rv:TS:=fun _ _ _=>False
theorem Jd {sts:List Stmt}:Dh X sts Rv:=fun _ _ _ _ _ _ h=>h.elim
end
noncomputable abbrev TG:=V->St->Hp->(St->Hp->Prop)->Prop
noncomputable abbrev NH:=List V->St->Hp->(St->Hp->Prop)->Prop
noncomputable def PG (X:Cx)(target:Expr)(t:TG):Prop :=
 ∀ (pins:List (Addr×Obj)) (s:Shared) (σ:St) (H:Hp) (v:V) (u:Value) (Q:St->Hp->Prop),Inv X pins σ H s->RelV v u->t v σ H Q ->
  wpAny (model X.prog X.w) X.A (assign target X.env u) (fun _ s'=>∃ σ' H',Inv X pins σ' H' s'/\Q σ' H') X.xe s
noncomputable def Rh (X:Cx)(ts:List Expr)(t:NH):Prop :=
 ∀ (pins:List (Addr×Obj)) (s:Shared) (σ:St) (H:Hp) (vs:List V) (us:List Value) (Q:St->Hp->Prop),Inv X pins σ H s->Vals vs us->t vs σ H Q ->
  wpAny (model X.prog X.w) X.A (assignInOrder ((assignEach ts X.env).map (·.2)) us) (fun _ s'=>∃ σ' H',Inv X pins σ' H' s'/\Q σ' H') X.xe s
noncomputable abbrev Vr:=V->V->V->Hp->(Hp->Prop)->Prop
noncomputable def Zs (X:Cx)(t:Vr):Prop :=
 ∀ (pins:List (Addr×Obj)) (s:Shared) (σ:St) (H:Hp) (o i v:V) (ov iv u:Value) (Q:Hp->Prop),Inv X pins σ H s->RelV o ov->RelV i iv->RelV v u->t o i v H Q ->
  wpAny (model X.prog X.w) X.A (setItem ov iv u) (fun _ s'=>∃ H',Inv X pins σ H' s'/\Q H') X.xe s
noncomputable abbrev TIp:=V->V->Hp->VK->Prop
noncomputable def PIp (X:Cx)(op:Operator)(t:TIp):Prop :=
 ∀ (pins:List (Addr×Obj)) (s:Shared) (σ:St) (H:Hp) (x y:V) (v u:Value) (Q:VK),Inv X pins σ H s->RelV x v->RelV y u->t x y H Q ->
  wpAny (model X.prog X.w) X.A (inplaceOp op v u) (EP X pins σ Q) X.xe s
section
variable {X:Cx}{pos:Pos}
noncomputable def MH (i:Nat):TG:=fun v σ H Q=>Q (σ.set i (some v)) H
theorem HQ {i:Nat}{x:Str}(hN:X.N.Nodup)(hi:X.N[i]?=some x)(hx:Loc X.env.scope x)(hf:X.fn x=true∨X.env.scope.names.lookup x=some .local:=by first | exact .inl rfl | exact .inr rfl | assumption):PG X (.Name x pos) (MH i):=by
 intro pins s σ H v u Q I r h
 exact wpAny_assign_Name (Dr I hN hi hx r (fun s' I'=>⟨_,H,I',h⟩) hf)
noncomputable def a2p:NH:=fun vs σ H Q=>vs=[]/\Q σ H
noncomputable def YW (t:TG)(u:NH):NH:=fun vs σ H Q=>∃ v r,vs=v::r/\t v σ H fun σ' H'=>u r σ' H' Q
theorem HP:Rh X [] a2p:=by
 intro pins s σ H vs us Q I r h
 obtain⟨e,h⟩:=h
 subst e
 cases r
 exact assignInOrder_nil ⟨σ,H,I,h⟩
theorem D3 {e:Expr}{es:List Expr}{t:TG}{u:NH}(h1:PG X e t)(h2:Rh X es u)
  (hs:(assignEach (e::es) X.env).map (·.2)=assign e X.env::(assignEach es X.env).map (·.2):=by rfl):Rh X (e::es) (YW t u):=by
 intro pins s σ H vs us Q I r h
 obtain⟨v,vr,e1,h⟩:=h
 subst e1
 cases r with
 | cons r rr =>
  rw[hs]
  refine assignInOrder_cons (eK (h1 pins s σ H _ _ _ I r h) fun _ s1 ⟨σ1,H1,I1,q1⟩=>?_)
  exact h2 pins s1 σ1 H1 _ _ Q I1 rr q1
noncomputable def a2o (K:PySem.W.Frag)(n:Nat)(t:NH):TG:=fun v σ H Q=>∃ a xs,v=.ref a/\qh K H a xs/\xs.length=n/\t xs σ H Q
theorem Lx {es:List Expr}{k:Nat}{t:NH}{n:Nat}(hc:X.calm=true)(h:Rh X es t)
  (hn:(assignEach es X.env).length=n:=by rfl) (hst:(assignEach es X.env).findIdx? (·.1)=none:=by rfl):PG X (.Tuple es k pos) (a2o X.K n t):=by
 intro pins s σ H v u Q I r hw
 obtain⟨a,xs,e1,hq,hl,hw⟩:=hw
 subst e1
 cases r
 obtain⟨its,rv,ht,hz⟩:=I.tuple hq
 refine assign_Tuple_tuple (I.ok.hd hc) ht (by simp[hn,<- hl,rv.length]) hst fun h' hx=>?_
 have I1:Inv X pins σ H { s with heap:=h' }:=I.kept (t':=s.toks) fun b o e=>hx b o (Nat.ne_of_lt (Heap.lt_size e)) e
 exact h pins _ σ H xs _ Q I1 (by simpa using rv) hw
noncomputable def RC (te:TE)(g:TG):TS:=fun D σ H=>te σ H fun x H1=>g x σ H1 D.nx
theorem So {tg e:Expr}{te:TE}{g:TG}(he:PE X e te)(hg:PG X tg g)(hs:swapsWithSole [tg] e pos.line X.env=pure false:=by rfl)(hw:swappedStores [tg] e X.env=pure none:=by rfl)
  (h1:(assignEach [tg] X.env).map (·.2)=[assign tg X.env]:=by rfl):PS X (.Assign [tg] e pos) (RC te g):=by
 intro pins s σ H D I h
 refine wpAny_Assign_stores (eK (he pins s σ H _ I h) fun v s1 ⟨x,H1,I1,r1,q1⟩=>?_) hs hw
 rw[h1]
 exact eK (hg pins s1 σ H1 x v _ I1 r1 q1) fun _ s2 q=>q
theorem Sh {i:Nat}{x:Str}{e:Expr}{te:TE}{pos':Pos}(hN:X.N.Nodup)(hi:X.N[i]?=some x)(hx:Loc X.env.scope x)(he:PE X e te)(hs:swapsWith e (some (.Name x pos')) pos.line X.env=pure false:=by rfl)(hf:X.fn x=true∨X.env.scope.names.lookup x=some .local:=by first | exact .inl rfl | exact .inr rfl | assumption) :
  PS X (.Assign [.Name x pos'] e pos) (RC te (MH i)):=by
 intro pins s σ H D I h
 refine wpAny_Assign_Name (eK (he pins s σ H _ I h) fun v s1 ⟨y,H1,I1,r1,q1⟩=>?_) hs
 exact Dr I1 hN hi hx r1 (fun s2 I2=>⟨_,H1,I2,q1⟩) hf
noncomputable def Wg (to ti te:TE)(NQ:V->V->Hp->VK->Prop)(ZF:TIp)(NP:Vr):TS:=fun D σ H=>to σ H fun o H1=>ti σ H1 fun i H2=>NQ o i H2 fun x H3=>te σ H3 fun y H4=>ZF x y H4 fun z H5=>NP o i z H5 fun H6=>D.nx σ H6
noncomputable def Zt (X:Cx)(t:V->V->Hp->VK->Prop):Prop :=
 ∀ (pins:List (Addr×Obj)) (s:Shared) (σ:St) (H:Hp) (o i:V) (ov iv:Value) (Q:VK),Inv X pins σ H s->RelV o ov->RelV i iv->t o i H Q ->
  wpAny (model X.prog X.w) X.A (getItem ov iv) (EP X pins σ Q) X.xe s
theorem Ox {o i e:Expr}{to ti te:TE}{NQ:V->V->Hp->VK->Prop}{ZF:TIp}{NP:Vr}{op:Operator}{tpos:Pos}(ho:PE X o to)(hi:PE X i ti)(hg:Zt X NQ)(he:PE X e te)(hp:PIp X op ZF)(hs:Zs X NP)
  (ha:∀ ov iv new,augStore i ov iv new=(do holding [new,ov,iv] (setItem ov iv new);release [new,ov,iv] [];pure .next):=by intros;rfl):PS X (.AugAssign (.Subscript o i tpos) op e pos) (Wg to ti te NQ ZF NP):=by
 intro pins s σ H D I h
 refine wpAny_AugAssign_SubscriptAny (eK (ho pins s σ H _ I h) fun ov s1 ⟨x1,H1,I1,r1,q1⟩=>?_) ha
 refine eK (hi pins s1 σ H1 _ I1 q1) ?_
 rintro iv s2 ⟨x2,H2,I2,r2,q2⟩
 refine eK (hg pins s2 σ H2 x1 x2 ov iv _ I2 r1 r2 q2) ?_
 rintro old s3 ⟨x3,H3,I3,r3,q3⟩
 refine eK (he pins s3 σ H3 _ I3 q3) ?_
 rintro v s4 ⟨x4,H4,I4,r4,q4⟩
 refine eK (hp pins s4 σ H4 x3 x4 old v _ I4 r3 r4 q4) ?_
 rintro new s5 ⟨x5,H5,I5,r5,q5⟩
 exact eK (hs pins s5 σ H5 x1 x2 x5 ov iv new _ I5 r1 r2 r5 q5) (by rintro _ s6 ⟨H6,I6,q6⟩;exact ⟨σ,H6,I6,q6⟩)
noncomputable def ipI (f:Int->Int->Int):TIp:=fun x y H Q=>∃ i j,x=.int i/\y=.int j/\Q (.int (f i j)) H
theorem UQ:PIp X .Add (ipI fun i j=>i+j):=by
 intro pins s σ H x y v u Q I r1 r2 h
 obtain⟨i,j,e1,e2,q⟩:=h
 subst e1;subst e2
 obtain⟨t,rfl⟩:=r1
 obtain⟨t',rfl⟩:=r2
 exact iadd_int ⟨.int _,H,I.tok _,⟨_,rfl⟩,q⟩
end
section
variable {X:Cx}{pos:Pos}
end
structure It where
 go:Nat->Hp->Prop
 Kn:Nat->Hp->V->Hp->Prop
 stop:Nat->Hp->Prop
noncomputable def vP (X:Cx)(pins:List (Addr×Obj))(H:Hp)(b:Addr):Prop :=
 H b=none/\b≠X.env.locals/\b ∉ X.fs/\(b∈X.ex∨X.s₀.heap.objs.size<=b)/\(∀ x c,X.env.cells.lookup x=some c->c≠b)/\∀ p∈X.pn++pins,p.1≠b
theorem Inv.U3 {X:Cx}{pins:List (Addr×Obj)}{σ:St}{H H':Hp}{s:Shared}{b:Addr}(I:Inv X pins σ H s)(hb:s.heap.objs.size<=b)(hn:H' b=none):vP X pins H' b:=by
 refine⟨hn,Nat.ne_of_gt (Nat.lt_of_lt_of_le I.lt hb),I.W6 hb,.inr (Nat.le_trans I.sz hb),fun x c e z=>?_,fun p hp z=>?_⟩
 ·obtain⟨v,q⟩:=I.cell x c e
  exact absurd (Nat.lt_of_lt_of_le q.lt (by rw[z];exact hb)) (Nat.lt_irrefl _)
 ·exact absurd (Nat.lt_of_lt_of_le (Heap.lt_size (I.pin p hp).1) (by rw[z];exact hb)) (Nat.lt_irrefl _)
structure Turn (P:Program)(w:World)(K:PySem.W.Frag)(tg:Expr)(J:It)(fp:List Addr)(it:Addr)(tn:Nat->Heap->Prop):Prop where
 mem:it∈fp
 obj:∀ i h,tn i h->∀ b∈fp,∃ o,h.get? b=some o/\∀ v,o.data≠.cell v
 keep:∀ i h h',tn i h->(∀ b∈fp,∀ o,h.get? b=some o->h'.get? b=some o)->tn i h'
 item:∀ (X:Cx),X.prog=P->X.w=w->X.K=K->X.calm=true->∀ (i:Nat) (pins:List (Addr×Obj)) (s:Shared) (σ:St) (H:Hp) (E:Value->Shared->Prop),Inv X pins σ H s->(∀ b∈fp,vP X pins H b)->tn i s.heap->J.go i H ->
  wpAny (model P w) X.A (pyNext (.ref it)) (fun r s1=>∃ u,r=some u /\
   wpAny (model P w) X.A (letOwnedTupleGo tg (.ref it) u) (fun _ s2=>∃ x H',Inv X pins σ H' s2/\RelV x u/\J.Kn i H x H'/\tn (i+1) s2.heap/\∀ b∈fp,H' b=none) E s1) E s
 done:∀ (X:Cx),X.prog=P->X.w=w->X.K=K->X.calm=true->∀ (i:Nat) (pins:List (Addr×Obj)) (s:Shared) (σ:St) (H:Hp) (E:Value->Shared->Prop),Inv X pins σ H s->(∀ b∈fp,vP X pins H b)->tn i s.heap->J.stop i H ->
  wpAny (model P w) X.A (pyNext (.ref it)) (fun r s1=>r=none/\Inv X pins σ H s1) E s
 self:∀ (A:Around) (i:Nat) (s:Shared) (Q:Value->Shared->Prop) (E:Value->Shared->Prop),tn i s.heap->Q (.ref it) s->wpAny (model P w) A (pyIter (.ref it)) Q E s
noncomputable abbrev TI:=St->Hp->(It->Hp->Prop)->Prop
noncomputable def PIE (X:Cx)(pins:List (Addr×Obj))(σ:St)(tg:Expr)(R:It->Hp->Prop)(itv:Value)(s2:Shared):Prop :=
 ∃ (it:Addr) (fp:List Addr) (tn:Nat->Heap->Prop) (J:It) (H':Hp),itv=.ref it/\Inv X pins σ H' s2/\Turn X.prog X.w X.K tg J fp it tn/\tn 0 s2.heap/\(∀ b∈fp,vP X pins H' b)/\R J H'
noncomputable def PI (X:Cx)(tg iter:Expr)(wi:TI):Prop :=
 ∀ (pins:List (Addr×Obj)) (s:Shared) (σ:St) (H:Hp) (R:It->Hp->Prop),Inv X pins σ H s->wi σ H R ->
  wpAny (model X.prog X.w) X.A (eval iter X.env) (fun v s1=>wpAny (model X.prog X.w) X.A (pyIter v) (PIE X pins σ tg R) X.xe s1) X.xe s
theorem MB {M:Model}{A:Around}{E:Value->Shared->Prop}{s:Shared}{tg:Expr}{it:Addr}{u:Value}{o:Obj}{n:String}{vs:Array Value}{Q:Unit->Shared->Prop}(ho:s.heap.get? it=some o)(hc:o.cls=.type n)(hd:o.data=.fields vs)
  (hn:["enumerate","zip","dict_itemiterator","dict_reverseitemiterator","odict_iterator","itertools.zip_longest","itertools.pairwise"].contains n=false) (hQ:Q () s):wpAny M A (letOwnedTupleGo tg (.ref it) u) Q E s:=by
 unfold letOwnedTupleGo
 cases tg <;> first
  | exact wpAny_pure hQ
  | (cases u <;> first
    | exact wpAny_pure hQ
    | (
      refine wpAny_bind (wpAny_load ho ?_)
      rw[hc,hd]
      show wpAny M A (if (["enumerate","zip","dict_itemiterator","dict_reverseitemiterator","odict_iterator","itertools.zip_longest","itertools.pairwise"].contains n && vs[0]? == some (rawInt _))=true then _ else _) Q E s
      rw[if_neg (by intro h;rw[hn,Bool.false_and] at h;cases h)]
      exact wpAny_pure hQ))
noncomputable def Itl (K:PySem.W.Frag)(a:Addr):It :=
 ⟨fun i H=>∃ xs x,nH K H a xs/\xs[i]?=some x,fun i H x H'=>H'=H/\∀ xs,nH K H a xs->xs[i]?=some x,fun i H=>∃ xs,nH K H a xs/\xs.length<=i⟩
noncomputable def Itt (K:PySem.W.Frag)(a:Addr):It :=
 ⟨fun i H=>∃ xs x,qh K H a xs/\xs[i]?=some x,fun i H x H'=>H'=H/\∀ xs,qh K H a xs->xs[i]?=some x,fun i H=>∃ xs,qh K H a xs/\xs.length<=i⟩
noncomputable def Itr (lo:Int)(n:Nat):It:=⟨fun i _=>i < n,fun i H x H'=>H'=H/\x=.int (lo+i),fun i _=>n<=i⟩
theorem IW {P:Program}{w:World}{K:PySem.W.Frag}{tg:Expr}(a it:Addr):Turn P w K tg (Itl K a) [it] it (fun i h=>h.IsListIter it a i) where
 mem:=by simp
 obj:=fun i h st b hb=>by
  have e:b=it:=by simpa using hb
  subst e
  obtain⟨o,e,c,d⟩:=st
  exact⟨o,e,fun v z=>by rw[d] at z;cases z⟩
 keep:=fun i h h' st k=>st.at fun o e=>k it (by simp) o e
 item:=by
  intro X hP hw hK hc i pins s σ H E I hf st hg
  subst hP hw hK
  obtain⟨xs,x,hq,hx⟩:=hg
  obtain⟨its,rv,p,hz⟩:=I.list hq
  obtain⟨u,hu,ru⟩:=rv.get hx
  obtain⟨f0,f1,f2,f3,f4,f5⟩:=hf it (by simp)
  refine wpAny_pyNext_list_item st p.isList (x:=u) (by simpa using hu) fun h' st' sb=>?_
  have I1:Inv X pins σ H { s with heap:=h' }:=I.turned (t':=s.toks) (fun b o hb e=>(sb.2 b hb).trans e) f0 f1 f3 f4 f5
  obtain⟨o,e,c,d⟩:=id st'
  exact⟨u,rfl,MB (s:={ s with heap:=h' }) e c d (by decide) ⟨x,H,I1,ru,⟨rfl,fun ys hy=>by rw[I.L8 hy hq];exact hx⟩,st',fun b hb=>(hf b hb).1⟩⟩
 done:=by
  intro X hP hw hK hc i pins s σ H E I hf st hg
  subst hP hw hK
  obtain⟨xs,hq,hx⟩:=hg
  obtain⟨its,rv,p,hz⟩:=I.list hq
  obtain⟨f0,f1,f2,f3,f4,f5⟩:=hf it (by simp)
  have hl:=rv.length
  exact wpAny_pyNext_list_end (I.ok.hd hc) st p.isList (by simp;omega) fun h' eb=>⟨rfl,I.turned (t':=s.toks) (fun b o hb e=>eb b o hb e) f0 f1 f3 f4 f5⟩
 self:=fun _ _ _ _ _ st h=>wpAny_pyIter_listiter st h
theorem Fg {P:Program}{w:World}{K:PySem.W.Frag}{tg:Expr}(a it:Addr):Turn P w K tg (Itt K a) [it] it (fun i h=>h.IsTupleIter it a i) where
 mem:=by simp
 obj:=fun i h st b hb=>by
  have e:b=it:=by simpa using hb
  subst e
  obtain⟨o,e,c,d⟩:=st
  exact⟨o,e,fun v z=>by rw[d] at z;cases z⟩
 keep:=fun i h h' st k=>st.at fun o e=>k it (by simp) o e
 item:=by
  intro X hP hw hK hc i pins s σ H E I hf st hg
  subst hP hw hK
  obtain⟨xs,x,hq,hx⟩:=hg
  obtain⟨its,rv,p,hz⟩:=I.tuple hq
  obtain⟨u,hu,ru⟩:=rv.get hx
  obtain⟨f0,f1,f2,f3,f4,f5⟩:=hf it (by simp)
  refine wpAny_pyNext_tuple_item st (show s.heap.IsTuple a its.toArray from p) (x:=u) (by simpa using hu) fun h' st' sb=>?_
  have I1:Inv X pins σ H { s with heap:=h' }:=I.turned (t':=s.toks) (fun b o hb e=>(sb.2 b hb).trans e) f0 f1 f3 f4 f5
  obtain⟨o,e,c,d⟩:=id st'
  exact⟨u,rfl,MB (s:={ s with heap:=h' }) e c d (by decide) ⟨x,H,I1,ru,⟨rfl,fun ys hy=>by rw[I.IX hy hq];exact hx⟩,st',fun b hb=>(hf b hb).1⟩⟩
 done:=by
  intro X hP hw hK hc i pins s σ H E I hf st hg
  subst hP hw hK
  obtain⟨xs,hq,hx⟩:=hg
  obtain⟨its,rv,p,hz⟩:=I.tuple hq
  obtain⟨f0,f1,f2,f3,f4,f5⟩:=hf it (by simp)
  have hl:=rv.length
  exact wpAny_pyNext_tuple_end (I.ok.hd hc) st (show s.heap.IsTuple a its.toArray from p) (by simp;omega) fun h' eb=>⟨rfl,I.turned (t':=s.toks) (fun b o hb e=>eb b o hb e) f0 f1 f3 f4 f5⟩
 self:=fun _ _ _ _ _ st h=>wpAny_pyIter_tupleiter st h
theorem Fi {P:Program}{w:World}{K:PySem.W.Frag}{tg:Expr}(it:Addr)(lo:Int)(n:Nat):Turn P w K tg (Itr lo n) [it] it (fun i h=>IsRangeIter h it (lo+(i:Nat)*1) ((n:Int) - (i:Nat)) 1) where
 mem:=by simp
 obj:=fun i h st b hb=>by
  have e:b=it:=by simpa using hb
  subst e
  exact⟨_,st,fun v z=>by
   have z':Data.fields _=Data.cell v:=z
   cases z'⟩
 keep:=fun i h h' st k=>k it (by simp) _ st
 item:=by
  intro X hP hw hK hc i pins s σ H E I hf st hg
  subst hP hw hK
  obtain⟨f0,f1,f2,f3,f4,f5⟩:=hf it (by simp)
  have W:=Walks.range (prog:=X.prog) (w:=X.w) (I.ok.hd hc) it lo 1 n
  refine W.item i s _ _ hg st fun v h' tk hv st' kk=>?_
  obtain⟨t,rfl⟩:=hv
  have I1:Inv X pins σ H { s with heap:=h',toks:=tk }:=I.turned (fun b o hb e=>kk b o (by simpa using hb) e) f0 f1 f3 f4 f5
  refine⟨_,rfl,MB (s:={ s with heap:=h',toks:=tk }) (n:="range_iterator") st' rfl rfl (by decide) ⟨.int (lo+i),H,I1,⟨t,?_⟩,⟨rfl,rfl⟩,st',fun b hb=>(hf b hb).1⟩⟩
  rw[Int.mul_one]
 done:=by
  intro X hP hw hK hc i pins s σ H E I hf st hg
  subst hP hw hK
  obtain⟨f0,f1,f2,f3,f4,f5⟩:=hf it (by simp)
  exact wpAny_pyNext_range_end (I.ok.hd hc) st (by have:n<=i:=hg;omega) fun h' eb=>⟨rfl,I.turned (t':=s.toks) (fun b o hb e=>eb b o hb e) f0 f1 f3 f4 f5⟩
 self:=fun _ _ _ _ _ st h=>wpAny_pyIter_rangeiter st h
end L2
namespace L2
open PySem PySem.Spec PyProof.Rows
section
variable {X:Cx}{tg:Expr}
theorem Lm {pins:List (Addr×Obj)}{σ:St}{H:Hp}{s:Shared}{R:It->Hp->Prop}{E:Value->Shared->Prop}{lo hi:Int}{t u v:Tok}{tk:Nat}(I:Inv X pins σ H s)(h1:-(2 ^ 62)<=lo)(h2:lo < 2 ^ 62)(h3:-(2 ^ 62)<=hi)(h4:hi < 2 ^ 62)
  (q:R (Itr lo (hi - lo).toNat) H):wpAny (model X.prog X.w) X.A (pyIter (.ref s.heap.objs.size)) (PIE X pins σ tg R) E { s with heap:=s.heap.push { cls:=.type "range",data:=.fields #[.int lo t,.int hi u,.int 1 v] },toks:=tk }:=by
 refine wpAny_pyIter_range (IsRange.new ..) (small_one h1 h2 h3 h4) ?_
 have I1:Inv X pins σ H { s with heap:=s.heap.push { cls:=.type "range",data:=.fields #[.int lo t,.int hi u,.int 1 v] },toks:=tk }:=I.kept fun b o e=>Heap.get?_push_of_some _ e
 refine⟨(s.heap.push { cls:=.type "range",data:=.fields #[.int lo t,.int hi u,.int 1 v] }).objs.size,[(s.heap.push { cls:=.type "range",data:=.fields #[.int lo t,.int hi u,.int 1 v] }).objs.size],_,_,H,rfl,
  I1.kept (t':=tk) fun b o e=>Heap.get?_push_of_some _ e,Fi _ lo (hi - lo).toNat,?_,fun b hb=>?_,q⟩
 ·have e1:lo+((0:Nat):Int)*1=lo:=by simp
  have e2:(((hi - lo).toNat:Nat):Int) - ((0:Nat):Int)=Builtin.Range.rangeSize lo hi 1:=by rw[rangeSize_one];split <;> omega
  show IsRangeIter _ _ (lo+((0:Nat):Int)*1) ((((hi - lo).toNat:Nat):Int) - ((0:Nat):Int)) 1
  rw[e1,e2]
  exact Heap.get?_push_size _ rfl
 ·have e:b=(s.heap.push { cls:=.type "range",data:=.fields #[.int lo t,.int hi u,.int 1 v] }).objs.size:=by simpa using hb
  subst e
  exact I1.U3 (Nat.le_refl _) (I1.hok.fresh (Nat.le_refl _))
noncomputable def Yw (ta:TA):TI:=fun σ H R=>ta σ H fun vs H1=>∃ j:Int,vs=[.int j]/\-(2 ^ 62)<=j/\j < 2 ^ 62/\R (Itr 0 j.toNat) H1
theorem Jf {a:Expr}{ta:TA}{p pos:Pos}(hg:Gl X "range")(hm:X.mg "range"=none)(ha:PA X [a] ta)(hs:starEach [a] X.env=[(false,eval a X.env)]:=by rfl):PI X tg (.Call (.Name "range" p) [a] [] pos) (Yw ta):=by
 intro pins s σ H R I h
 refine Call_ (Cf I hg hm boot_range (PyProof.Rows.callWith_type1 (eK (ha pos pins s σ H _ I h) fun us s1 ⟨vs,H1,I1,r1,q1⟩=>?_) hs rfl))
 obtain⟨j,e,q1,q2,q⟩:=q1
 subst e
 cases r1 with
 | cons r rr =>
  cases rr
  obtain⟨t,rfl⟩:=r
  exact call_range_1 (Lm I1 (by omega) (by omega) q1 q2 (by simpa using q))
noncomputable def a0J (wi:TI)(g:TG)(tb:TS):TS:=fun D σ H=>wi σ H fun J H1=>∃ W:Nat->Nat->St->Hp->Prop,(∃ m,W 0 m σ H1)/\∀ i m σ H,W i m σ H ->
 (J.stop i H/\D.nx σ H)∨(J.go i H/\∃ N:St->Hp->Prop,(∀ σ' H',N σ' H'->∃ m',m' < m/\W (i+1) m' σ' H')/\∀ x H',J.Kn i H x H'->g x σ H' fun σ2 H2=>tb { D with nx:=N,ct:=N,bk:=D.nx } σ2 H2)
noncomputable def xF (fp:List Addr)(h:Heap):List (Addr×Obj):=fp.filterMap fun b=>(h.get? b).map fun o=>(b,o)
theorem m6 {fp:List Addr}{h:Heap}{b:Addr}{o:Obj}(hb:b∈fp)(e:h.get? b=some o):(b,o)∈xF fp h:=List.mem_filterMap.mpr ⟨b,hb,by rw[e];rfl⟩
theorem Jq {fp:List Addr}{h:Heap}{p:Addr×Obj}(hp:p∈xF fp h):p.1∈fp/\h.get? p.1=some p.2:=by
 obtain⟨b,hb,e⟩:=List.mem_filterMap.mp hp
 cases q:h.get? b with
 | none=>rw[q] at e;cases e
 | some o =>
  rw[q] at e
  have e':(b,o)=p:=Option.some.inj e
  subst e'
  exact⟨hb,q⟩
theorem Inv.pinned {pins:List (Addr×Obj)}{σ:St}{H:Hp}{s:Shared}{fp:List Addr}(I:Inv X pins σ H s)(hf:∀ b∈fp,vP X pins H b)(ho:∀ b∈fp,∃ o,s.heap.get? b=some o/\∀ v,o.data≠.cell v):Inv X (pins++xF fp s.heap) σ H s :=
 I.wo fun p hp=>(List.mem_append.mp hp).elim (fun z=>I.pin p (List.mem_append_right _ z)) fun z=>by
  obtain⟨hb,e⟩:=Jq z
  obtain⟨f0,f1,f2,_⟩:=hf p.1 hb
  obtain⟨o,e',d⟩:=ho p.1 hb
  rw[e] at e';cases e'
  exact⟨e,f0,f1,f2,d⟩
theorem Inv.rP {pins pl:List (Addr×Obj)}{σ:St}{H:Hp}{s:Shared}(I:Inv X (pins++pl) σ H s):Inv X pins σ H s:=I.wo fun p hp=>I.pin p (List.mem_append_right _ (List.mem_append_left _ hp))
theorem Sk {iter:Expr}{body:List Stmt}{wi:TI}{g:TG}{tb:TS}{pos:Pos}(hp:PassesOwn (model X.prog X.w) X.A X.env X.xe)(hc:X.calm=true)(hi:PI X tg iter wi)(hg:PG X tg g)(hb:Dh X body tb)
  (hs:∀ x,foldedSetIterable iter X.env x=pure x:=by intro _;rfl):PS X (.For tg iter body [] pos) (a0J wi g tb):=by
 intro pins s σ H D I h
 refine wpAny_For (eK (hi pins s σ H _ I h) fun v s1 h1=>eK h1 fun itv s2 h2=>?_) hs
 obtain⟨it,fp,tn,J,H2,e,I2,T,st2,f2,W,⟨m0,w0⟩,turn⟩:=h2
 subst e
 have RG:∀ {H':Hp},(∀ b∈fp,H' b=none)->∀ b∈fp,vP X pins H' b:=fun hn b hb=>⟨hn b hb,(f2 b hb).2⟩
 refine codeAny_forLoop_any (fun n s'=>∃ i σ' H',Inv X pins σ' H' s'/\tn i s'.heap/\(∀ b∈fp,H' b=none)/\W i n σ' H') ?_ m0 ⟨0,σ,H2,I2,st2,fun b hb=>(f2 b hb).1,w0⟩
 rintro n s3 ⟨i,σ3,H3,I3,st3,fr3,w3⟩
 rcases turn i n σ3 H3 w3 with ⟨stop,qn⟩ | ⟨go,N,hN,step⟩
 ·refine wpAny_passesOwn hp (eK (T.done X rfl rfl rfl hc i pins s3 σ3 H3 X.xe I3 (RG fr3) st3 stop) fun r s4 ⟨hr,I4⟩=>?_)
  subst hr
  exact wpAny_execs_nil ⟨σ3,H3,I4,qn⟩
 ·refine wpAny_passesOwn hp (eK (T.item X rfl rfl rfl hc i pins s3 σ3 H3 X.xe I3 (RG fr3) st3 go) fun r s4 ⟨u,hr,h4⟩=>?_)
  subst hr
  refine wpAny_passesOwn hp (eK h4 fun _ s5 ⟨x,H5,I5,r5,y5,st5,fr5⟩=>?_)
  have I5':=I5.pinned (RG fr5) (T.obj _ _ st5)
  refine wpAny_passesOwn hp (eK (hg _ s5 σ3 H5 x u _ I5' r5 (step x H5 y5)) fun _ s6 ⟨σ6,H6,I6,q6⟩=>?_)
  refine wpAny_passesOwn hp (eK (hb _ s6 σ6 H6 _ I6 q6) fun f s7 q7=>?_)
  have again:∀ {σ7:St} {H7:Hp},Inv X (pins++xF fp s5.heap) σ7 H7 s7->N σ7 H7->∃ m,m < n/\∃ i σ' H',Inv X pins σ' H' s7/\tn i s7.heap/\(∀ b∈fp,H' b=none)/\W i m σ' H':=fun {σ7 H7} I7 n7=>by
   obtain⟨m',hm,w7⟩:=hN σ7 H7 n7
   refine⟨m',hm,i+1,σ7,H7,I7.rP,T.keep _ _ _ st5 fun b hb o e=>(I7.pin (b,o) (List.mem_append_right _ (List.mem_append_right _ (m6 hb e)))).1,fun b hb=>?_,w7⟩
   obtain⟨o,e,d⟩:=T.obj _ _ st5 b hb
   exact(I7.pin (b,o) (List.mem_append_right _ (List.mem_append_right _ (m6 hb e)))).2.1
  cases f with
  | next=>obtain⟨σ7,H7,I7,n7⟩:=q7;exact again I7 n7
  | cont=>obtain⟨σ7,H7,I7,n7⟩:=q7;exact again I7 n7
  | brk=>obtain⟨σ7,H7,I7,q7⟩:=q7;exact⟨σ7,H7,I7.rP,q7⟩
  | ret v=>obtain⟨x7,σ7,H7,I7,r7,q7⟩:=q7;exact⟨x7,σ7,H7,I7.rP,r7,q7⟩
end
end L2
namespace L2
open PySem PySem.Spec PyProof.Rows
noncomputable abbrev R2:=V->V->Hp->VK->Prop
noncomputable def nh (X:Cx)(f:Value->Value->Sem Value)(r:R2):Prop :=
 ∀ (pins:List (Addr×Obj)) (s:Shared) (σ:St) (H:Hp) (x y:V) (v u:Value) (Q:VK),Inv X pins σ H s->RelV x v->RelV y u->r x y H Q ->
  wpAny (model X.prog X.w) X.A (f v u) (EP X pins σ Q) X.xe s
noncomputable def UnR (X:Cx)(f:Value->Sem Value)(r:V->Hp->VK->Prop):Prop :=
 ∀ (pins:List (Addr×Obj)) (s:Shared) (σ:St) (H:Hp) (x:V) (v:Value) (Q:VK),Inv X pins σ H s->RelV x v->r x H Q ->
  wpAny (model X.prog X.w) X.A (f v) (EP X pins σ Q) X.xe s
noncomputable def fE (X:Cx)(f:Value)(r:List V->Hp->VK->Prop):Prop :=
 ∀ (pins:List (Addr×Obj)) (s:Shared) (σ:St) (H:Hp) (xs:List V) (us:List Value) (Q:VK),Inv X pins σ H s->Vals xs us->r xs H Q ->
  wpAny (model X.prog X.w) X.A (call f us) (EP X pins σ Q) X.xe s
noncomputable def VZ (r:R2)(ta tb:TE):TE:=fun σ H Q=>ta σ H fun x H1=>tb σ H1 fun y H2=>r x y H2 Q
noncomputable def tUn (r:V->Hp->VK->Prop)(ta:TE):TE:=fun σ H Q=>ta σ H fun x H1=>r x H1 Q
noncomputable def rI (C:Int->Int->Prop)(g:Int->Int->V):R2:=fun x y H Q=>∃ i j,x=.int i/\y=.int j/\C i j/\Q (g i j) H
noncomputable def RV (g:Int->Int->V):R2:=fun x y H Q=>∃ i j,x=.int i/\y=.int j/\Q (g i j) H
noncomputable def rU (g:Int->V):V->Hp->VK->Prop:=fun x H Q=>∃ i,x=.int i/\Q (g i) H
section
variable {X:Cx}{a b c:Expr}{ta tb tc:TE}{pos:Pos}
theorem Vl (ha:PE X a ta)(hb:PE X b tb){pins:List (Addr×Obj)}{s:Shared}{σ:St}{H:Hp}{R:V->V->Hp->Prop}(I:Inv X pins σ H s)
  (h:ta σ H fun x H1=>tb σ H1 fun y H2=>R x y H2) {Q:Value->Shared->Prop} {f:Value->Value->Sem Value}
  (hf:∀ v u s2 x y H2,Inv X pins σ H2 s2->RelV x v->RelV y u->R x y H2->wpAny (model X.prog X.w) X.A (f v u) Q X.xe s2) :
  wpAny (model X.prog X.w) X.A (eval a X.env) (fun v s₁=>wpAny (model X.prog X.w) X.A (eval b X.env) (fun u s₂=>wpAny (model X.prog X.w) X.A (f v u) Q X.xe s₂) X.xe s₁) X.xe s:=by
 refine eK (ha pins s σ H _ I h) ?_
 rintro v s1 ⟨x,H1,I1,r1,q1⟩
 refine eK (hb pins s1 σ H1 _ I1 q1) ?_
 rintro u s2 ⟨y,H2,I2,r2,q2⟩
 exact hf v u s2 x y H2 I2 r1 r2 q2
theorem Qt {op:Operator}{r:R2}(ho:nh X (binaryOp op) r)(ha:PE X a ta)(hb:PE X b tb):PE X (.BinOp a op b pos) (VZ r ta tb):=by
 intro pins s σ H Q I h
 exact wpAny_BinOp (Vl ha hb I h fun v u s2 x y H2 I2 rx ry q=>ho pins s2 σ H2 x y v u Q I2 rx ry q)
theorem WQ {op:UnaryOp}{r:V->Hp->VK->Prop}(ho:UnR X (unaryOp op) r)(ha:PE X a ta):PE X (.UnaryOp op a pos) (tUn r ta):=by
 intro pins s σ H Q I h
 exact UnaryOp_ (eK (ha pins s σ H _ I h) (by rintro v s1 ⟨x,H1,I1,r1,q1⟩;exact ho pins s1 σ H1 x v Q I1 r1 q1))
theorem opI {f:Value->Value->Sem Value}{C:Int->Int->Prop}{g:Int->Int->Int}
  (rule:∀ (i j:Int) (t u:Tok) (s:Shared) (Q:Value->Shared->Prop) (E:Value->Shared->Prop),C i j->Q (.int (g i j) s.toks) { s with toks:=s.toks+1 }->wpAny (model X.prog X.w) X.A (f (.int i t) (.int j u)) Q E s) :
  nh X f (rI C fun i j=>.int (g i j)):=by
 intro pins s σ H x y v u Q I rx ry h
 obtain⟨i,j,rfl,rfl,hc,q⟩:=h
 obtain⟨t,rfl⟩:=rx
 obtain⟨t',rfl⟩:=ry
 exact rule i j t t' s _ _ hc ⟨.int (g i j),H,I.tok _,⟨_,rfl⟩,q⟩
theorem WZ {f:Value->Value->Sem Value}{g:Int->Int->Int}
  (rule:∀ (i j:Int) (t u:Tok) (s:Shared) (Q:Value->Shared->Prop) (E:Value->Shared->Prop),Q (.int (g i j) s.toks) { s with toks:=s.toks+1 }->wpAny (model X.prog X.w) X.A (f (.int i t) (.int j u)) Q E s) :
  nh X f (RV fun i j=>.int (g i j)):=by
 intro pins s σ H x y v u Q I rx ry h
 obtain⟨i,j,rfl,rfl,q⟩:=h
 obtain⟨t,rfl⟩:=rx
 obtain⟨t',rfl⟩:=ry
 exact rule i j t t' s _ _ ⟨.int (g i j),H,I.tok _,⟨_,rfl⟩,q⟩
theorem W0 {f:Value->Value->Sem Value}{g:Int->Int->Bool}
  (rule:∀ (i j:Int) (t u:Tok) (s:Shared) (Q:Value->Shared->Prop) (E:Value->Shared->Prop),Q (.bool (g i j)) s->wpAny (model X.prog X.w) X.A (f (.int i t) (.int j u)) Q E s) :
  nh X f (RV fun i j=>.bl (g i j)):=by
 intro pins s σ H x y v u Q I rx ry h
 obtain⟨i,j,rfl,rfl,q⟩:=h
 obtain⟨t,rfl⟩:=rx
 obtain⟨t',rfl⟩:=ry
 exact rule i j t t' s _ _ ⟨.bl (g i j),H,I,rfl,q⟩
noncomputable def Zz (i j:Int):Prop:=0 < j/\j < 1073741824
noncomputable def PZ (i j:Int):Prop:=(-(2 ^ 64) < i/\i < 2 ^ 64)∨(-(2 ^ 64) < j/\j < 2 ^ 64)
theorem PZ.ok {i j:Int}(h:PZ i j):IntMulOk i j:=by
 rcases h with ⟨h1,h2⟩ | ⟨h1,h2⟩
 ·exact .of_left (intBits_le_64 h1 h2)
 ·exact .of_right (intBits_le_64 h1 h2)
theorem SO:nh X (binaryOp .Add) (RV fun i j=>.int (i+j)):=WZ fun _ _ _ _ _ _ _ q=>add_int q
theorem SE:nh X (binaryOp .Sub) (RV fun i j=>.int (i - j)):=WZ fun _ _ _ _ _ _ _ q=>sub_int q
theorem SI:nh X (binaryOp .Mult) (rI PZ fun i j=>.int (i*j)):=opI fun _ _ _ _ _ _ _ hc q=>mul_int q hc.ok
theorem OL:nh X (binaryOp .FloorDiv) (rI Zz fun i j=>.int (i / j)):=opI fun i j _ _ _ _ _ hc q=>by
 have h1:(0:Int) < j:=hc.1
 have h2:j < 1073741824:=hc.2
 exact floordiv_int (by omega) (by rw[Int.fdiv_eq_ediv_of_nonneg i (by omega)];exact q) (.inl (PyProof.noPylong_small (by omega)))
theorem SJ:nh X (binaryOp .Mod) (rI (fun _ j=>0 < j) fun i j=>.int (i % j)):=opI fun i j _ _ _ _ _ hc q=>by
 have h1:(0:Int) < j:=hc
 exact mod_int' (by omega) (by rw[Int.fmod_eq_emod_of_nonneg i (by omega)];exact q)
theorem unI {f:Value->Sem Value}{g:Int->Int}
  (rule:∀ (i:Int) (t:Tok) (s:Shared) (Q:Value->Shared->Prop) (E:Value->Shared->Prop),Q (.int (g i) s.toks) { s with toks:=s.toks+1 }->wpAny (model X.prog X.w) X.A (f (.int i t)) Q E s) :
  UnR X f (rU fun i=>.int (g i)):=by
 intro pins s σ H x v Q I rx h
 obtain⟨i,rfl,q⟩:=h
 obtain⟨t,rfl⟩:=rx
 exact rule i t s _ _ ⟨.int (g i),H,I.tok _,⟨_,rfl⟩,q⟩
theorem Rq:UnR X (unaryOp .USub) (rU fun i=>.int (-i)):=unI fun _ _ _ _ _ q=>neg_int q
end
noncomputable def RN:V->V->Bool
 | .dR,.dR=>true | .dR,.int _=>true | .int _,.dR=>true | .dR,.bl _=>true | .bl _,.dR=>true | .dR,.str _=>true | .str _,.dR=>true
 | .int _,.int _=>true | .bl _,.bl _=>true | .str _,.str _=>true | .Ka _,.Ka _=>true
 | .int _,.str _=>true | .str _,.int _=>true | .bl _,.str _=>true | .str _,.bl _=>true
 | _,_=>false
noncomputable def rEq:R2:=fun x y H Q=>RN x y=true/\Q (.bl (decide (x=y))) H
noncomputable def rNe:R2:=fun x y H Q=>RN x y=true/\Q (.bl (!decide (x=y))) H
theorem Iu {i j:Int}:decide (V.int i=V.int j)=(i == j):=by
 rw[Bool.eq_iff_iff]
 simp
theorem MS {i j:Bool}:decide (V.bl i=V.bl j)=(i == j):=by
 rw[Bool.eq_iff_iff]
 simp
theorem Ir {i j:Str}:decide (V.str i=V.str j)=(i == j):=by
 rw[Bool.eq_iff_iff]
 simp
theorem Iv {i j:Array UInt8}:decide (V.Ka i=V.Ka j)=(i.toList == j.toList):=by
 rw[Bool.eq_iff_iff]
 cases i
 cases j
 simp
section
variable {X:Cx}{a b c:Expr}{ta tb tc:TE}{pos:Pos}
theorem bL {pins:List (Addr×Obj)}{σ:St}{H:Hp}{s:Shared}{Q:VK}{k k':Bool}(I:Inv X pins σ H s)(q:Q (.bl k) H)(e:k=k'):EP X pins σ Q (.bool k') s:=by
 subst e
 exact⟨.bl k,H,I,rfl,q⟩
theorem WY:nh X (compareOp .Eq) rEq:=by
 intro pins s σ H x y v u Q I rx ry h
 obtain⟨hs,q⟩:=h
 cases x with
 | dR =>
  cases rx
  cases y with
  | dR=>cases ry;exact PySem.EqNone.eq_none_none (bL I q (by simp))
  | bl j=>cases ry;exact PySem.EqNone.eq_none_bool (bL I q (by simp))
  | int j=>obtain⟨t',rfl⟩:=ry;exact PySem.EqNone.eq_none_int (bL I q (by simp))
  | str j=>obtain⟨t',rfl⟩:=ry;exact PySem.EqNone.eq_none_str (bL I q (by simp))
  | _=>exact absurd (show false=true from hs) Bool.false_ne_true
 | bl i =>
  cases rx
  cases y with
  | dR=>cases ry;exact PySem.EqNone.eq_bool_none (bL I q (by simp))
  | bl j=>cases ry;exact eq_bool (bL I q MS)
  | str j=>obtain⟨t',rfl⟩:=ry;exact PySem.EqMixed.eq_bool_str (bL I q (by simp))
  | _=>exact absurd (show false=true from hs) Bool.false_ne_true
 | int i =>
  obtain⟨t,rfl⟩:=rx
  cases y with
  | dR=>cases ry;exact PySem.EqNone.eq_int_none (bL I q (by simp))
  | int j=>obtain⟨t',rfl⟩:=ry;exact eq_int (bL I q Iu)
  | str j=>obtain⟨t',rfl⟩:=ry;exact PySem.EqMixed.eq_int_str (bL I q (by simp))
  | _=>exact absurd (show false=true from hs) Bool.false_ne_true
 | str i =>
  obtain⟨t,rfl⟩:=rx
  cases y with
  | dR=>cases ry;exact PySem.EqNone.eq_str_none (bL I q (by simp))
  | bl j=>cases ry;exact PySem.EqMixed.eq_str_bool (bL I q (by simp))
  | int j=>obtain⟨t',rfl⟩:=ry;exact PySem.EqMixed.eq_str_int (bL I q (by simp))
  | str j=>obtain⟨t',rfl⟩:=ry;exact eq_str (bL I q Ir)
  | _=>exact absurd (show false=true from hs) Bool.false_ne_true
 | Ka i =>
  obtain⟨t,rfl⟩:=rx
  cases y with
  | Ka j=>obtain⟨t',rfl⟩:=ry;exact PySem.W.eq_bytes (bL I q Iv)
  | _=>exact absurd (show false=true from hs) Bool.false_ne_true
 | _=>cases y <;> exact absurd (show false=true from hs) Bool.false_ne_true
theorem WV:nh X (compareOp .NotEq) rNe:=by
 intro pins s σ H x y v u Q I rx ry h
 obtain⟨hs,q⟩:=h
 cases x with
 | dR =>
  cases rx
  cases y with
  | dR=>cases ry;exact PySem.EqNone.ne_none_none (bL I q (by simp))
  | bl j=>cases ry;exact PySem.EqNone.ne_none_bool (bL I q (by simp))
  | int j=>obtain⟨t',rfl⟩:=ry;exact PySem.EqNone.ne_none_int (bL I q (by simp))
  | str j=>obtain⟨t',rfl⟩:=ry;exact PySem.EqNone.ne_none_str (bL I q (by simp))
  | _=>exact absurd (show false=true from hs) Bool.false_ne_true
 | bl i =>
  cases rx
  cases y with
  | dR=>cases ry;exact PySem.EqNone.ne_bool_none (bL I q (by simp))
  | bl j=>cases ry;exact ne_bool (bL I q (congrArg not MS))
  | str j=>obtain⟨t',rfl⟩:=ry;exact PySem.EqMixed.ne_bool_str (bL I q (by simp))
  | _=>exact absurd (show false=true from hs) Bool.false_ne_true
 | int i =>
  obtain⟨t,rfl⟩:=rx
  cases y with
  | dR=>cases ry;exact PySem.EqNone.ne_int_none (bL I q (by simp))
  | int j=>obtain⟨t',rfl⟩:=ry;exact ne_int (bL I q (congrArg not Iu))
  | str j=>obtain⟨t',rfl⟩:=ry;exact PySem.EqMixed.ne_int_str (bL I q (by simp))
  | _=>exact absurd (show false=true from hs) Bool.false_ne_true
 | str i =>
  obtain⟨t,rfl⟩:=rx
  cases y with
  | dR=>cases ry;exact PySem.EqNone.ne_str_none (bL I q (by simp))
  | bl j=>cases ry;exact PySem.EqMixed.ne_str_bool (bL I q (by simp))
  | int j=>obtain⟨t',rfl⟩:=ry;exact PySem.EqMixed.ne_str_int (bL I q (by simp))
  | str j=>obtain⟨t',rfl⟩:=ry;exact ne_str (bL I q (congrArg not Ir))
  | _=>exact absurd (show false=true from hs) Bool.false_ne_true
 | Ka i =>
  obtain⟨t,rfl⟩:=rx
  cases y with
  | Ka j=>obtain⟨t',rfl⟩:=ry;exact PySem.W.ne_bytes (bL I q (congrArg not Iv))
  | _=>exact absurd (show false=true from hs) Bool.false_ne_true
 | _=>cases y <;> exact absurd (show false=true from hs) Bool.false_ne_true
theorem WW:nh X (compareOp .Lt) (RV fun i j=>.bl (decide (i < j))):=W0 fun _ _ _ _ _ _ _ q=>lt_int q
theorem WX:nh X (compareOp .Gt) (RV fun i j=>.bl (decide (j < i))):=W0 fun _ _ _ _ _ _ _ q=>gt_int q
theorem nh.or {f:Value->Value->Sem Value}{r r':R2}(h:nh X f r)(h':nh X f r'):nh X f (fun x y H Q=>r x y H Q∨r' x y H Q):=by
 intro pins s σ H x y v u Q I rx ry q
 rcases q with q | q
 ·exact h pins s σ H x y v u Q I rx ry q
 ·exact h' pins s σ H x y v u Q I rx ry q
theorem aN (b:Expr){op:CmpOp}(h:op≠.In:=by decide)(h2:op≠.NotIn:=by decide):behindInMarks op b=false:=by
 have e1:(op == CmpOp.In)=false:=by cases op <;> first | rfl | exact absurd rfl h
 have e2:(op == CmpOp.NotIn)=false:=by cases op <;> first | rfl | exact absurd rfl h2
 cases b <;> simp[behindInMarks,e1,e2]
theorem OF {op:CmpOp}{r:R2}(ho:nh X (compareOp op) r)(ha:PE X a ta)(hb:PE X b tb)(hm:behindInMarks op b=false):PE X (.Compare a [op] [b] pos) (VZ r ta tb):=by
 intro pins s σ H Q I h
 exact wpAny_Compare1 (Vl ha hb I h fun v u s2 x y H2 I2 rx ry q=>ho pins s2 σ H2 x y v u Q I2 rx ry q) hm
noncomputable def P6 (t:TE):TT:=fun σ H Q=>t σ H fun x H'=>∃ k,x=.bl k/\Q k H'
theorem Oo {op:CmpOp}{r:R2}(ho:nh X (compareOp op) r)(ha:PE X a ta)(hb:PE X b tb)(hm:behindInMarks op b=false):PT X (.Compare a [op] [b] pos) (P6 (VZ r ta tb)):=by
 intro pins s σ H Q I h
 refine wpAny_isTrue_Compare1 (eK (ha pins s σ H _ I h) fun v s1 ⟨x,H1,I1,r1,q1⟩=>eK (hb pins s1 σ H1 _ I1 q1) fun u s2 ⟨y,H2,I2,r2,q2⟩ =>
  eK (ho pins s2 σ H2 x y v u _ I2 r1 r2 q2) fun c s3 ⟨z,H3,I3,r3,k,e,q3⟩=>?_) hm
 subst e
 cases r3
 exact wpAny_truthy_bool ⟨H3,I3,q3⟩
theorem oF:(sizeLine:Nat) < 2 ^ 63:=by rw[sizeLine_eq];decide
theorem FW:nh X (binaryOp .Add) (fun x y H Q=>∃ i j,x=.str i/\y=.str j/\i.length+j.length<=sizeLine/\Q (.str (i++j)) H):=by
 intro pins s σ H x y v u Q I rx ry h
 obtain⟨i,j,rfl,rfl,hz,q⟩:=h
 obtain⟨t,rfl⟩:=rx
 obtain⟨t',rfl⟩:=ry
 exact add_str (fun t' tk=>⟨.str (i++j),H,I.tok _,⟨_,rfl⟩,q⟩) hz
theorem vals1 {x:V}{us:List Value}(r:Vals [x] us):∃ u,us=[u]/\RelV x u:=by
 cases r with
 | cons r1 r2=>cases r2;exact⟨_,rfl,r1⟩
theorem vals2 {x y:V}{us:List Value}(r:Vals [x,y] us):∃ u w',us=[u,w']/\RelV x u/\RelV y w':=by
 cases r with
 | cons r1 r2 =>
  cases r2 with
  | cons r3 r4=>cases r4;exact⟨_,_,rfl,r1,r3⟩
theorem JV:fE X (.type "int") (fun xs H Q=>(∃ i,xs=[.int i]/\Q (.int i) H)∨∃ k,xs=[.bl k]/\Q (.int (if k then 1 else 0)) H):=by
 intro pins s σ H xs us Q I r h
 rcases h with ⟨i,rfl,q⟩ | ⟨k,rfl,q⟩
 ·obtain⟨u,rfl,t,rfl⟩:=vals1 r
  exact call_int_int ⟨.int i,H,I,⟨_,rfl⟩,q⟩
 ·obtain⟨u,rfl,r1⟩:=vals1 r
  cases r1
  exact call_int_bool ⟨.int (if k then 1 else 0),H,I.tok _,⟨_,rfl⟩,q⟩
end
end L2
namespace L2
open PySem PySem.Spec PyProof.Rows
structure GX (h:Heap)(x dx C:Addr)(mA:Str->Option Value):Prop where
 obj:h.get? x=some (PySem.W.instObj C dx)
 ns:h.Ns1 dx mA
 ne:dx≠x
theorem Jx {h:Heap}{dx:Addr}{mA:Str->Option Value}(n:h.Ns1 dx mA):∃ od,h.get? dx=some od/\∀ name,PySem.W.lookIn name od=some (mA name):=by
 obtain⟨o,es,ep,ho,hd,hk,_,hm⟩:=n
 refine⟨o,ho,fun name=>?_⟩
 have e:=hm name
 unfold nsFind findBy at e
 rw[<- Array.find?_toList] at e
 unfold PySem.W.lookIn
 rw[hd]
 dsimp only
 split
 ·rename_i y q
  rw[q] at e
  exact congrArg some e
 ·rename_i q
  rw[q] at e
  have a:es.toList.any (·.refKey)=false:=by
   rw[List.any_eq_false]
   intro y hy
   obtain⟨z,t,hkey⟩:=hk y (Array.mem_toList_iff.mp hy)
   simp[DictEntry.refKey,hkey]
  have a':¬ es.toList.any (·.refKey)=true:=by rw[a];exact Bool.false_ne_true
  rw[if_neg a']
  exact congrArg some e
theorem GX.look {h:Heap}{x dx C:Addr}{mA:Str->Option Value}(I:GX h x dx C mA):∃ od,PySem.W.InstAt h x (PySem.W.instObj C dx) C (some od)/\∀ name,PySem.W.lookIn name od=some (mA name) :=
 let ⟨od,ho,hl⟩:=Jx I.ns
 ⟨od,⟨I.obj,rfl,rfl,ho⟩,hl⟩
section
variable {prog:Program}{w:World}{A:Around}{E:Value->Shared->Prop}{s:Shared}{K:PySem.W.Frag}{x dx C f:Addr}{mA:Str->Option Value}{name:Str}{v:Value}
theorem get_map {expr:Bool}{Q:Value->Shared->Prop}(X:K.In s.heap)(I:GX s.heap x dx C mA)(hg:PySem.W.plainGet K C name=true)(hh:PySem.W.hasDictIn K C=true)
  (ha:PySem.W.findIn K (.ref C) name=some none) (hv:mA name=some v) (hv':PySem.W.handedIn v=true) (h:Q v { s with toks:=s.toks+1 }) :
  wpAny (model prog w) A (getAttr (.ref x) name expr) Q E s:=by
 obtain⟨od,J,hl⟩:=I.look
 exact PySem.W.get_value X J (PySem.W.plainGet_of hg).1 (PySem.W.findObj_own hh ha rfl (by rw[hl,hv])) hv' h
theorem ME {pl:Sem Bool}{Q:Value×List Value->Shared->Prop}(X:K.In s.heap)(I:GX s.heap x dx C mA)(hg:PySem.W.plainGet K C name=true)
  (hf:PySem.W.findIn K (.ref C) name=some (some (.ref f))) (ht:PySem.W.isFn K (.ref f)=true) (hv:mA name=none) (h:Q (.ref f,[.ref x]) s) :
  wpAny (model prog w) A (getMethod (.ref x) name pl) Q E s:=by
 obtain⟨od,J,hl⟩:=I.look
 exact PySem.W.method_fn X J (PySem.W.plainGet_of hg).1 (PySem.W.plainGet_of hg).2 hf (beq_iff_eq.mp ht) (by show(PySem.W.lookIn name od).map (·.isSome)=some false;rw[hl,hv];rfl) h
theorem N3 {ns:List Str}{Q:Unit->Shared->Prop}(X:K.In s.heap)(I:GX s.heap x dx C mA)
  (hs:PySem.W.findIn K (.ref C) "__setattr__"=some (some (.builtin "object.__setattr__"))) (hp:PySem.W.plainOver K C=true) (ht:PySem.W.takerIn K C name=some none) (hh:PySem.W.hasDictIn K C=true)
  (hw:PySem.Within mA ns) (hsz:ns.length<=sizeLine)
  (h:∀ h',GX h' x dx C (fun y=>if y=name then some v else mA y)->Heap.SameBut dx s.heap h'->Q () { s with heap:=h',toks:=s.toks+2 }) :
  wpAny (model prog w) A (setAttr (.ref x) name v) Q E s:=by
 obtain⟨od,J,hl⟩:=I.look
 refine PySem.W.set_plain X J hs (PySem.W.osa_open (s:={ s with toks:=s.toks+1 }) (r:=none) X J hp ht fun b=>?_)
 obtain⟨cd,hc,hd'⟩:=PySem.W.any_some hh
 have hx:s.heap.get? x=some ⟨.ref C,some dx,.plain,#[]⟩:=I.obj
 refine wpAny_bind (wpAny_pure (wpAny_bind (wpAny_bind (wpAny_loadPart hx (wpAny_bind (PySem.W.Looks.here (s:={ s with toks:=s.toks+1 }) (PySem.W.looks_clsIn X hc) ?_))))))
 rw[hd']
 refine wpAny_pure (a:=some dx) (wpAny_bind (wpAny_pure (wpAny_bind ?_)))
 refine wpAny_nsSet1 (s:={ s with toks:=s.toks+1 }) I.ns fun h' hn2 hs2=>?_
 obtain⟨oD,esD,epD,hoD,hdD,hcD⟩:=hn2.count (PySem.Within.cons name v hw)
 refine wpAny_bind (wpAny_lookBehind hoD (by rw[hdD];exact pastItsLine_dict (Nat.le_trans hcD (by rw[List.length_cons];omega))) ?_)
 exact wpAny_pure (h _ ⟨(hs2.2 _ (Ne.symm I.ne)).trans I.obj,hn2,I.ne⟩ hs2)
theorem L0 {R:Result->Shared->Prop}{vs:List Value}{kw:List (Str×Value)}(X:K.In s.heap)(hm:PySem.W.makesIn K C=true)
  (hi:PySem.W.findIn K (.ref C) "__init__"=some (some (.ref f))) (hf:PySem.W.typeIn K (.ref f)=some (.type "function"))
  (h:codeAny (model prog w) (A.under (.builtin "type.__call__" ⟨.ref C::vs,kw⟩)) (.call (.ref f) ⟨.ref (s.heap.objs.size+1)::vs,kw⟩) (PySem.W.InitBack (s.heap.objs.size+1) R)
   { s with heap:=(s.heap.push PySem.W.emptyDict).push (PySem.W.instObj C s.heap.objs.size) }) :
  codeAny (model prog w) A (.call (.ref C) ⟨vs,kw⟩) R s:=by
 obtain⟨hh,g,d,t,os⟩:=s
 exact PySem.W.make_core (PySem.W.makes_of X hm) (PySem.W.looks_findIn X hi) (fun self=>PySem.W.bind_fn X self hf) (.inl rfl) h
end
noncomputable def nF (f:Str)(v:V):List (Str×V)->List (Str×V)
 | []=>[(f,v)]
 | (g,x)::r=>if g=f then (g,v)::r else (g,x)::nF f v r
theorem vc (f g:Str)(v:V):∀ fs:List (Str×V),(nF f v fs).lookup g=if g=f then some v else fs.lookup g
 | []=>by
  show List.lookup g [(f,v)]=_
  by_cases h:g=f
  ·have hb:(g == f)=true:=beq_iff_eq.mpr h
   simp only[List.lookup,hb,if_pos h]
  ·have hb:(g == f)=false:=beq_eq_false_iff_ne.mpr h
   simp only[List.lookup,hb,if_neg h]
 | (k,x)::r=>by
  have ih:=vc f g v r
  rw[show nF f v ((k,x)::r)=(if k=f then (k,v)::r else (k,x)::nF f v r) from rfl]
  by_cases hk:k=f
  ·rw[if_pos hk]
   by_cases h:g=k
   ·have hb:(g == k)=true:=beq_iff_eq.mpr h
    simp only[List.lookup,hb,if_pos (h.trans hk)]
   ·have hb:(g == k)=false:=beq_eq_false_iff_ne.mpr h
    simp only[List.lookup,hb,if_neg (fun e:g=f=>h (e.trans hk.symm))]
  ·rw[if_neg hk]
   by_cases h:g=k
   ·have hb:(g == k)=true:=beq_iff_eq.mpr h
    simp only[List.lookup,hb,if_neg (fun e:g=f=>hk (h.symm.trans e))]
   ·have hb:(g == k)=false:=beq_eq_false_iff_ne.mpr h
    simp only[List.lookup,hb]
    exact ih
theorem ug (f:Str)(v:V):∀ fs:List (Str×V),f∈(nF f v fs).map (·.1)/\∀ g,g∈fs.map (·.1)->g∈(nF f v fs).map (·.1)
 | []=>⟨by simp[nF],fun g h=>by simp at h⟩
 | (k,x)::r=>by
  obtain⟨i1,i2⟩:=ug f v r
  rw[show nF f v ((k,x)::r)=(if k=f then (k,v)::r else (k,x)::nF f v r) from rfl]
  by_cases hk:k=f
  ·rw[if_pos hk]
   subst hk
   exact⟨by simp,fun g h=>by simpa using h⟩
  ·rw[if_neg hk]
   refine⟨?_,fun g h=>?_⟩
   ·rw[List.map_cons]
    exact List.mem_cons_of_mem _ i1
   ·rw[List.map_cons] at h ⊢
    rcases List.mem_cons.mp h with e | e
    ·exact List.mem_cons.mpr (.inl e)
    ·exact List.mem_cons_of_mem _ (i2 g e)
theorem ve (f:Str)(v:V):∀ fs:List (Str×V),(nF f v fs).length<=fs.length+1
 | []=>by simp[nF]
 | (k,x)::r=>by
  have ih:=ve f v r
  rw[show nF f v ((k,x)::r)=(if k=f then (k,v)::r else (k,x)::nF f v r) from rfl]
  by_cases hk:k=f
  ·rw[if_pos hk,List.length_cons,List.length_cons];omega
  ·rw[if_neg hk,List.length_cons,List.length_cons];omega
theorem nI.some_of {v:V}{o:Option Value}(r:nI (some v) o):∃ u,o=some u/\RelV v u:=by
 cases o with
 | none=>exact(show False from r).elim
 | some u=>exact⟨u,rfl,r⟩
theorem nI.none_of {o:Option Value}(r:nI none o):o=none:=by
 cases o with
 | none=>rfl
 | some u=>exact(show False from r).elim
theorem JG {v:V}{u:Value}(r:RelV v u):PySem.W.handedIn u=true:=by
 cases v with
 | dR=>cases (show u=Value.none from r);rfl
 | bl b=>cases (show u=Value.bool b from r);rfl
 | int i=>obtain⟨t,e⟩:=(show ∃ t,u=Value.int i t from r);cases e;rfl
 | str x=>obtain⟨t,e⟩:=(show ∃ t,u=Value.str x t from r);cases e;rfl
 | Ka b=>obtain⟨t,e⟩:=(show ∃ t,u=Value.bytes b t from r);cases e;rfl
 | U5 b=>obtain⟨t,e⟩:=(show ∃ t,u=Value.float b t from r);cases e;rfl
 | ref a=>cases (show u=Value.ref a from r);rfl
 | ty n=>cases (show u=Value.type n from r);rfl
section
variable {P:Program}{w:World}{H H':Hp}{h h':Heap}{a C dx:Addr}{fs fs':List (Str×V)}
theorem wB (hok:rK P w H h)(e:H a=some (.ins C dx fs)):∃ mA,GX h a dx C mA/\(∀ f,nI (fs.lookup f) (mA f))/\PySem.Within mA (fs.map (·.1))/\fs.length<=1000/\H dx=some (.own a):=by
 obtain⟨d,z,ne,ob,mA,n,r,q⟩:=(show cG P w H h a (.ins C dx fs) from hok a _ e)
 exact⟨mA,⟨ob,n,ne⟩,r,q,z,d⟩
end
structure PY (K:PySem.W.Frag)(C:Addr):Prop where
 pg:PySem.W.plainGet K C Str.empty=true
 hd:PySem.W.hasDictIn K C=true
 po:PySem.W.plainOver K C=true
 sa:PySem.W.findIn K (.ref C) "__setattr__"=some (some (.builtin "object.__setattr__"))
theorem PY.get {K:PySem.W.Frag}{C:Addr}(c:PY K C)(f:Str):PySem.W.plainGet K C f=true:=c.pg
noncomputable def aK (K:PySem.W.Frag)(C:Addr)(f:Str):Prop:=PySem.W.findIn K (.ref C) f=some none
theorem aK.VT {K:PySem.W.Frag}{C:Addr}{f:Str}(n:aK K C f):PySem.W.takerIn K C f=some none:=by
 unfold PySem.W.takerIn
 rw[show PySem.W.findIn K (.ref C) f=some none from n]
 rfl
structure Meth (K:PySem.W.Frag)(C:Addr)(m:Str)(f:Addr):Prop where
 at_:PySem.W.findIn K (.ref C) m=some (some (.ref f))
 fn:PySem.W.isFn K (.ref f)=true
 kp:PySem.W.keepIn K (.ref f)=true
section
variable {X:Cx}{pins:List (Addr×Obj)}{σ:St}{H:Hp}{s:Shared}{a C dx:Addr}{fs:List (Str×V)}{f:Str}{v:V}{A:Around}{E:Value->Shared->Prop}
theorem Gq {b:Bool}{Q:Value->Shared->Prop}(I:Inv X pins σ H s)(e:H a=some (.ins C dx fs))(c:PY X.K C)(n:aK X.K C f)(l:fs.lookup f=some v)
  (h:∀ u s',Inv X pins σ H s'->RelV v u->Q u s'):wpAny (model X.prog X.w) A (getAttr (.ref a) f b) Q E s:=by
 obtain⟨mA,O,r,_,_,_⟩:=wB I.hok e
 obtain⟨u,hu,ru⟩:=nI.some_of (v:=v) (o:=mA f) (by rw[<- l];exact r f)
 exact get_map I.tO O (c.get f) c.hd n hu (JG ru) (h u _ (I.tok _) ru)
theorem yk {m:Str}{g:Addr}{pl:Sem Bool}{Q:Value×List Value->Shared->Prop}(I:Inv X pins σ H s)(e:H a=some (.ins C dx fs))(c:PY X.K C)(k:Meth X.K C m g)(l:fs.lookup m=none)
  (h:Q (.ref g,[.ref a]) s):wpAny (model X.prog X.w) A (getMethod (.ref a) m pl) Q E s:=by
 obtain⟨mA,O,r,_,_,_⟩:=wB I.hok e
 have hn:mA m=none:=nI.none_of (by rw[<- l];exact r m)
 exact ME I.tO O (c.get m) k.at_ k.fn hn h
theorem FD {y:V}{u:Value}{Q:Unit->Shared->Prop}(I:Inv X pins σ H s)(e:H a=some (.ins C dx fs))(c:PY X.K C)(n:aK X.K C f)(hl:fs.length < 1000)(ry:RelV y u)
  (h:∀ s',Inv X pins σ (upd H a (.ins C dx (nF f y fs))) s'->Q () s'):wpAny (model X.prog X.w) A (setAttr (.ref a) f u) Q E s:=by
 obtain⟨mA,O,r,wi,_,ho⟩:=wB I.hok e
 have hz:(fs.map (·.1)).length<=sizeLine:=by rw[List.length_map,sizeLine_eq];omega
 refine N3 I.tO O c.sa c.po n.VT c.hd wi hz fun h' O' sb=>h _ ?_
 have hd:∃ o,h'.get? dx=some o:=let ⟨o,_,_,e',_⟩:=O'.ns;⟨o,e'⟩
 refine I.write (x:=a) (e:=dx) (by rw[e];exact True.intro) (.inr ho) (fun b q hb z=>(sb.2 b hb).trans z) hd ?_
 refine⟨by rw[bf O.ne];exact ho,?_,O.ne,O'.obj,_,O'.ns,fun g=>?_,fun g hg=>?_⟩
 ·have:=ve f y fs;omega
 ·show nI ((nF f y fs).lookup g) (if g=f then some u else mA g)
  rw[vc]
  by_cases q:g=f
  ·rw[if_pos q,if_pos q];exact ry
  ·rw[if_neg q,if_neg q];exact r g
 ·by_cases q:g=f
  ·rw[q];exact(ug f y fs).1
  ·refine(ug f y fs).2 g (wi g fun z=>hg ?_)
   show(if g=f then some u else mA g)=none
   rw[if_neg q];exact z
theorem Inv.made (I:Inv X pins σ H s):Inv X pins σ (upd (upd H s.heap.objs.size (.own (s.heap.objs.size+1))) (s.heap.objs.size+1) (.ins C s.heap.objs.size []))
  { s with heap:=(s.heap.push PySem.W.emptyDict).push (PySem.W.instObj C s.heap.objs.size) }:=by
 have e1:(s.heap.push PySem.W.emptyDict).get? s.heap.objs.size=some PySem.W.emptyDict:=Heap.get?_push_size s.heap rfl
 have e2:((s.heap.push PySem.W.emptyDict).push (PySem.W.instObj C s.heap.objs.size)).get? (s.heap.objs.size+1)=some (PySem.W.instObj C s.heap.objs.size):=by
  have:=Heap.get?_push_size (s.heap.push PySem.W.emptyDict) (o:=PySem.W.instObj C s.heap.objs.size) rfl
  rwa [Heap.size_push] at this
 have e3:(s.heap.push PySem.W.emptyDict).Ns s.heap.objs.size (fun _=>none):=⟨PySem.W.emptyDict,#[],_,e1,rfl,(fun e he=>absurd he (by simp)),fun _=>rfl⟩
 have I1:=I.laid (a:=s.heap.objs.size) (o:=.own (s.heap.objs.size+1)) (h':=s.heap.push PySem.W.emptyDict) (t':=s.toks) (fun b u q=>Heap.get?_push_of_some _ q) (Nat.le_refl _) ⟨_,e1⟩
 refine I1.laid (a:=s.heap.objs.size+1) (o:=.ins C s.heap.objs.size []) (t':=s.toks) (fun b u q=>Heap.get?_push_of_some _ q) (Nat.le_of_eq (Heap.size_push _ _)) ?_
 have ne:s.heap.objs.size≠s.heap.objs.size+1:=Nat.ne_of_lt (Nat.lt_succ_self _)
 refine⟨by rw[bf ne,eZ],Nat.zero_le _,ne,e2,fun _=>none,(Heap.Ns1.of_empty e3).at fun o q=>Heap.get?_push_of_some _ q,fun _=>True.intro,fun y hy=>absurd rfl hy⟩
theorem Pz {prog:Program}{w:World}{env:Env}{e:Expr}{f:Str}{pos:Pos}{s:Shared}{Q:Value->Shared->Prop}(hb:attributeBase e f env (eval e env)=eval e env)
  (h:wpAny (model prog w) A (eval e env) (fun o s₁=>wpAny (model prog w) A (getAttr o f true) Q E s₁) E s):wpAny (model prog w) A (eval (.Attribute e f pos) env) Q E s :=
 Attribute_any_ h (by rw[arm_eval_Attribute,hb])
end
noncomputable def a0K (K:PySem.W.Frag)(ta:TE)(f:Str):TE:=fun σ H Q=>ta σ H fun x H1=>∃ a C dx fs v,x=.ref a/\H1 a=some (.ins C dx fs)/\PY K C/\aK K C f/\fs.lookup f=some v/\Q v H1
noncomputable def a0R (K:PySem.W.Frag)(ta tv:TE)(f:Str):TS:=fun D σ H=>tv σ H fun y H1=>ta σ H1 fun x H2=>∃ a C dx fs,x=.ref a/\H2 a=some (.ins C dx fs)/\PY K C/\aK K C f/\fs.length < 1000 /\
 D.nx σ (upd H2 a (.ins C dx (nF f y fs)))
section
variable {X:Cx}{o e value:Expr}{f:Str}{pos pos' tpos:Pos}{ta tv:TE}
theorem Sx (he:PE X e ta)(hb:attributeBase e f X.env (eval e X.env)=eval e X.env):PE X (.Attribute e f pos) (a0K X.K ta f):=by
 intro pins s σ H Q I h
 refine Pz hb (eK (he pins s σ H _ I h) fun u s1 ⟨x,H1,I1,rx,a,C,dx,fs,v,ex,ea,c,n,l,q⟩=>?_)
 subst ex
 obtain rfl:u=Value.ref a:=rx
 exact Gq I1 ea c n l fun u' s2 I2 ru=>⟨v,H1,I2,ru,q⟩
theorem Sn (ha:PE X o ta)(hv:PE X value tv)(hs:swapsWith value (some (.Attribute o f pos')) pos.line X.env=pure false):PS X (.Assign [.Attribute o f pos'] value pos) (a0R X.K ta tv f):=by
 intro pins s σ H D I h
 refine plainObj_wpAny_Assign_Attribute (eK (hv pins s σ H _ I h) fun u s1 ⟨y,H1,I1,ry,q⟩=>eK (ha pins s1 σ H1 _ I1 q) fun ov s2 ⟨x,H2,I2,rx,a,C,dx,fs,ex,ea,c,n,l,q2⟩=>?_) hs
 subst ex
 obtain rfl:ov=Value.ref a:=rx
 exact FD I2 ea c n l ry fun s3 I3=>⟨σ,_,I3,q2⟩
end
section
variable {X:Cx}{pins:List (Addr×Obj)}{σ:St}{H:Hp}{s:Shared}{A:Around}{E:Value->Shared->Prop}{Q:Value->Shared->Prop}{c:Value}{b:Bool}
inductive sY (K:PySem.W.Frag) (H:Hp):V->Value->Prop where
 | dR:sY K H .dR (.type "NoneType")
 | bl (x:Bool):sY K H (.bl x) (.type "bool")
 | int (i:Int):sY K H (.int i) (.type "int")
 | str (x:Str):sY K H (.str x) (.type "str")
 | U5 (x:UInt64):sY K H (.U5 x) (.type "float")
 | lst {a:Addr} {xs:List V} (e:H a=some (.lst xs)):sY K H (.ref a) (.type "list")
 | Gu {a:Addr} {o:Obj} {xs:List V} (e:H a=some (.Gu o (.lst xs))):sY K H (.ref a) (.type "list")
 | tup {a:Addr} {xs:List V} (e:H a=some (.tup xs)):sY K H (.ref a) (.type "tuple")
 | dK {a:Addr} {kvs:List (Key×V)} (e:H a=some (.dK kvs)):sY K H (.ref a) (.type "dict")
 | dT {a:Addr} {kvs:List (List Key×V)} (e:H a=some (.dT kvs)):sY K H (.ref a) (.type "dict")
 | ins {a C dx:Addr} {fs:List (Str×V)} (e:H a=some (.ins C dx fs)) (cl:PY K C) (ha:PySem.W.findIn K (.ref C) "__class__"=some (some (.builtin "object.__class__")))
   (hn:PySem.W.specialIn K (.builtin "object.__class__") "__get__"=some (some (.builtin "getset_descriptor.__get__"))) (htk:PySem.W.takesIn K (.builtin "object.__class__")=some true)
   (hm:PySem.W.mroIn K C (.type "object")=some true):sY K H (.ref a) (.ref C)
theorem JB {x:V}{u t:Value}(I:Inv X pins σ H s)(rx:RelV x u)(ty:sY X.K H x t)(e:PySem.W.kitOne X.K t c=some b)(h:∀ tk,Q (.bool b) { s with toks:=tk }) :
  wpAny (model X.prog X.w) A (call (.builtin "isinstance") [u,c]) Q E s:=by
 cases ty with
 | dR=>cases (show u=Value.none from rx);exact PySem.W.kia_one PySem.W.kitx_none I.tO True.intro e (fun z=>nomatch z) h
 | bl y=>cases (show u=Value.bool y from rx);exact PySem.W.kia_one PySem.W.kitx_bool I.tO True.intro e (fun z=>nomatch z) h
 | int i=>obtain⟨t,q⟩:=(show ∃ t,u=Value.int i t from rx);cases q;exact PySem.W.kia_one PySem.W.kitx_int I.tO True.intro e (fun z=>nomatch z) h
 | str y=>obtain⟨t,q⟩:=(show ∃ t,u=Value.str y t from rx);cases q;exact PySem.W.kia_one PySem.W.kitx_str I.tO True.intro e (fun z=>nomatch z) h
 | U5 y=>obtain⟨t,q⟩:=(show ∃ t,u=Value.float y t from rx);cases q;exact PySem.W.kia_one PySem.W.kitx_float I.tO True.intro e (fun z=>nomatch z) h
 | @lst a xs ea =>
  cases (show u=Value.ref a from rx)
  obtain⟨_,_,n,_,h1⟩:=(show cG X.prog X.w H s.heap a (.lst xs) from I.hok a _ ea)
  exact PySem.W.kia_one PySem.W.kitx_list I.tO ⟨_,h1,rfl⟩ e (fun z=>nomatch z) h
 | @Gu a ob xs ea =>
  cases (show u=Value.ref a from rx)
  obtain⟨_,_,_,n,_,h1⟩:=(show cG X.prog X.w H s.heap a (.Gu ob (.lst xs)) from I.hok a _ ea)
  exact PySem.W.kia_one PySem.W.kitx_list I.tO ⟨_,h1,rfl⟩ e (fun z=>nomatch z) h
 | @tup a xs ea =>
  cases (show u=Value.ref a from rx)
  obtain⟨_,_,_,p⟩:=(show cG X.prog X.w H s.heap a (.tup xs) from I.hok a _ ea)
  obtain⟨o,h1,h2,_⟩:=p
  exact PySem.W.kia_one PySem.W.kitx_tuple I.tO ⟨o,h1,h2⟩ e (fun z=>nomatch z) h
 | @dK a kvs ea =>
  cases (show u=Value.ref a from rx)
  obtain⟨_,_,vs,_,p⟩:=(show cG X.prog X.w H s.heap a (.dK kvs) from I.hok a _ ea)
  obtain⟨o,es,ep,h1,h2,_⟩:=p
  exact PySem.W.kia_one PySem.W.kitx_dict I.tO ⟨o,h1,h2.1⟩ e (fun z=>nomatch z) h
 | @dT a kvs ea =>
  cases (show u=Value.ref a from rx)
  obtain⟨_,_,xs,_,o,es,ep,h1,h2,_⟩:=(show cG X.prog X.w H s.heap a (.dT kvs) from I.hok a _ ea)
  exact PySem.W.kia_one PySem.W.kitx_dict I.tO ⟨o,h1,h2.1⟩ e (fun z=>nomatch z) h
 | @ins a C dx fs ea cl ha hn htk hm =>
  cases (show u=Value.ref a from rx)
  obtain⟨mA,O,_⟩:=wB I.hok ea
  obtain⟨od,J,_⟩:=O.look
  exact PySem.W.kia_one (PySem.W.kitx_own (cl.get _) cl.hd ha hn htk hm) I.tO J e (fun z=>nomatch z) h
end
end L2
namespace L2
open PySem PySem.Spec PyProof.Rows
structure dg (k:Nat)(A:Around):Prop where
 hd:A.handled=none
 dp:A.depth+3*k+5 < recursionLimit
 un:A.units+16*k+200 < cLine
theorem dg.mono {j k:Nat}{A:Around}(r:dg k A)(h:j<=k):dg j A:=⟨r.hd,by have:=r.dp;omega,by have:=r.un;omega⟩
theorem dg.m {j k:Nat}{A:Around}(r:dg k A)(h:j<=k:=by first | decide | omega):dg j A:=r.mono h
theorem dg.deeper {k:Nat}{A:Around}(r:dg (k+1) A)(env:Env):dg k (A.deeper env) :=
 ⟨r.hd,by have:=r.dp;show A.depth+1+3*k+5 < _;omega,by have:=r.un;show A.units+3+16*k+200 < _;omega⟩
theorem Gd {A:Around}{C:Addr}{us:List Value}{kw:List (Str×Value)}:(A.under (.builtin "type.__call__" ⟨.ref C::us,kw⟩)).depth=A.depth+1:=by
 first | rfl | simp[Around.under,Code.weight,Code.isCreation,Code.isGuard,Code.isCaller,Code.frames,Code.isFrame,guardIds]
theorem Gb {A:Around}{C:Addr}{us:List Value}{kw:List (Str×Value)}:(A.under (.builtin "type.__call__" ⟨.ref C::us,kw⟩)).units=A.units+1:=by
 first | rfl | simp[Around.under,Code.cUnits,Code.frames,Code.isFrame]
theorem dg.make {k:Nat}{A:Around}(r:dg (k+1) A)(C:Addr)(us:List Value)(kw:List (Str×Value)):dg k (A.under (.builtin "type.__call__" ⟨.ref C::us,kw⟩)) :=
 ⟨r.hd,by have:=r.dp;rw[Gd];omega,by have:=r.un;rw[Gb];omega⟩
theorem dg.depth {k:Nat}{A:Around}(r:dg k A):A.depth < recursionLimit:=by have:=r.dp;omega
theorem dg.units {k:Nat}{A:Around}(r:dg k A):A.units+64 < cLine:=by have:=r.un;omega
noncomputable def a0H:TA:=fun _ H Q=>Q [] H
noncomputable def P9 (ta:TE)(tr:TA):TA:=fun σ H Q=>ta σ H fun x H1=>tr σ H1 fun xs H2=>Q (x::xs) H2
section
variable {X:Cx}{e:Expr}{es:List Expr}{te:TE}{t:TA}{pos:Pos}
theorem qO:PA X [] a0H:=fun _ _ _ _ H Q I h=>Calls.spliced_nil ⟨[],H,I,.nil,h⟩
theorem HV (ha:PE X e te)(hr:PA X es t)(hs:starEach (e::es) X.env=(false,eval e X.env)::starEach es X.env:=by rfl):PA X (e::es) (P9 te t):=by
 intro pos pins s σ H Q I h
 rw[hs]
 show wpAny _ _ (spliced ((false,eval e X.env)::backTo pos (starEach es X.env))) _ _ s
 refine Calls.spliced_cons (eK (ha pins s σ H _ I h) fun u s1 ⟨x,H1,I1,r1,q1⟩=>?_)
 exact eK (hr pos pins s1 σ H1 _ I1 q1) (by rintro us s2 ⟨xs,H2,I2,r2,q2⟩;exact ⟨x::xs,H2,I2,.cons r1 r2,q2⟩)
noncomputable def a0A (t:TA):TE:=fun σ H Q=>t σ H fun xs H1=>xs.length<=sizeLine/\∀ p,H1 p=none->Q (.ref p) (upd H1 p (.tup xs))
noncomputable def V6 (t:TA):TE:=fun σ H Q=>t σ H fun xs H1=>xs.length<=sizeLine/\∀ p,H1 p=none->Q (.ref p) (upd H1 p (.lst xs))
theorem Su {x1}(h:PA X es t):PE X (.Tuple es x1 pos) (a0A t):=by
 intro pins s σ H Q I hq
 refine wpAny_Tuple_spliced (eK (h pos pins s σ H _ I hq) fun us s1 ⟨xs,H1,I1,r,z,q⟩=>⟨by rw[<- r.length];exact z,?_⟩)
 have hf:H1 s1.heap.objs.size=none:=I1.hok.fresh (Nat.le_refl _)
 refine⟨.ref s1.heap.objs.size,upd H1 s1.heap.objs.size (.tup xs),I1.laid (t':=s1.toks) (fun b u e=>Heap.get?_push_of_some _ e) (Nat.le_refl _) ?_,rfl,q _ hf⟩
 exact⟨z,us,r,⟨_,Heap.get?_push_size _ rfl,rfl,_,rfl⟩⟩
theorem FT (h:PA X es t):PE X (.List es pos) (V6 t):=by
 intro pins s σ H Q I hq
 refine wpAny_List_spliced (eK (h pos pins s σ H _ I hq) fun us s1 ⟨xs,H1,I1,r,z,q⟩=>⟨by rw[<- r.length];exact z,?_⟩)
 have hf:H1 s1.heap.objs.size=none:=I1.hok.fresh (Nat.le_refl _)
 refine⟨.ref s1.heap.objs.size,upd H1 s1.heap.objs.size (.lst xs),I1.laid (t':=s1.toks) (fun b u e=>Heap.get?_push_of_some _ e) (Nat.le_refl _) ?_,rfl,q _ hf⟩
 exact⟨z,us,0,r,Heap.get?_push_size _ rfl⟩
end
noncomputable abbrev Sp:=List V->Hp->VK->XK->Prop
noncomputable abbrev IV:=List Env->Hp->Shared->XK->Value->Shared->Prop
structure GZ (P:Program)(w:World)(K:PySem.W.Frag)(mg:Str->Option Value)(base:Heap)(A:Around)(outer:List Env)(s:Shared)(H:Hp):Prop where
 frames:A.frames=some outer
 mod:Mod K mg base
 bs:∀ b o,base.get? b=some o->s.heap.get? b=some o/\H b=none
 Py:base.objs.size<=s.heap.objs.size
 vI:s.heap.FunFrames base outer
 U1:∀ b∈frs outer,H b=none
 hok:rK P w H s.heap
 bare:AllBare s.gens
noncomputable def CE (outer:List Env)(P:Program)(w:World)(H:Hp)(s:Shared)(Q:VK)(u:Value)(s':Shared):Prop :=
 ∃ v H',s'.os=s.os/\AllBare s'.gens/\Un (frs outer) [] H H' s.heap s'.heap/\rK P w H' s'.heap/\RelV v u/\Q v H'
noncomputable def CR (CX:IV)(outer:List Env)(P:Program)(w:World)(H:Hp)(s:Shared)(Q:VK)(E:XK)(r:Result)(s':Shared):Prop :=
 match r with
 | .ok (.ret u)=>CE outer P w H s Q u s'
 | .ok _=>False
 | .error e=>CX outer H s E e s'
structure aE (P:Program)(w:World)(K:PySem.W.Frag)(mg:Str->Option Value)(base:Heap)(CX:IV)(k:Nat)(f:Addr)(fd:FuncData)(ps:List Str)(sp:Sp):Prop where
 len:∀ vs H Q E,sp vs H Q E->vs.length=ps.length
 run:∀ (A:Around) (outer:List Env) (s:Shared) (H:Hp) (args:Args) (us:List Value) (vs:List V) (Q:VK) (E:XK),dg k A->GZ P w K mg base A outer s H->BindsTo s fd args (ps.zip us)->Vals vs us->sp vs H Q E ->
  codeAny (model P w) A (.call (.ref f) args) (CR CX outer P w H s Q E) s
theorem aE.mono {P:Program}{w:World}{K:PySem.W.Frag}{mg:Str->Option Value}{base:Heap}{CX:IV}{j k:Nat}{f:Addr}{fd:FuncData}{ps:List Str}{sp:Sp}(F:aE P w K mg base CX j f fd ps sp)(h:j<=k) :
  aE P w K mg base CX k f fd ps sp:=⟨F.len,fun A outer s H args us vs Q E hr=>F.run A outer s H args us vs Q E (hr.mono h)⟩
theorem GZ.make {P:Program}{w:World}{K:PySem.W.Frag}{mg:Str->Option Value}{base:Heap}{A:Around}{outer:List Env}{s:Shared}{H:Hp}(e:GZ P w K mg base A outer s H)(C:Addr)(us:List Value)(kw:List (Str×Value)) :
  GZ P w K mg base (A.under (.builtin "type.__call__" ⟨.ref C::us,kw⟩)) outer s H:=⟨by first | exact e.frames | (simpa [Around.under,Code.envs,Code.isFrame,pushEnvs] using e.frames),e.mod,e.bs,e.Py,e.vI,e.U1,e.hok,e.bare⟩
section
variable {X:Cx}{pins:List (Addr×Obj)}{σ:St}{H:Hp}{s s':Shared}
theorem Inv.Y4 (I:Inv X pins σ H s):GZ X.prog X.w X.K X.mg X.base X.A X.stack s H :=
 ⟨I.ok.frames,I.ok.mod,I.bs,Nat.le_trans I.ok.Py I.sz,I.stack,I.Ho,I.hok,I.bare⟩
theorem Inv.after {Q:VK}{u:Value}(I:Inv X pins σ H s)(h:CE X.stack X.prog X.w H s Q u s'):EP X pins σ Q u s':=by
 obtain⟨v,H',os,bare,un,hok,r,q⟩:=h
 obtain⟨hh,g,d,t,os'⟩:=s'
 obtain rfl:os'=s.os:=os
 exact⟨v,H',I.call (h':=hh) (g':=g) (d':=d) (t':=t) (ch:=[]) un hok bare (fun b z=>absurd z (by simp)),r,q⟩
end
noncomputable def Qa (sp:Sp)(AG:List V)(E:XK)(t:TA):TE:=fun σ H Q=>t σ H fun vs H1=>sp (vs++AG) H1 Q E
noncomputable def P8 (C:Addr)(sp:Sp)(AG:List V)(E:XK)(t:TA):TE:=fun σ H Q=>t σ H fun vs H1=>∀ x dx,H1 x=none->H1 dx=none->dx≠x ->
 sp (.ref x::(vs++AG)) (upd (upd H1 dx (.own x)) x (.ins C dx [])) (fun v H2=>v=.dR/\Q (.ref x) H2) E
noncomputable def Binds (K:PySem.W.Frag)(fd:FuncData)(ps:List Str)(ds:List Value):Prop :=
 ∀ (s:Shared) (us:List Value),K.In s.heap->(us++ds).length=ps.length->BindsTo s fd ⟨us,[]⟩ (ps.zip (us++ds))
theorem Binds.all {K:PySem.W.Frag}{fd:FuncData}{ps:List Str}(h:∀ us:List Value,us.length=ps.length->bindArgs fd ⟨us,[]⟩=pure (ps.zip us)):Binds K fd ps []:=fun s us _ hl=>by
 rw[List.append_nil] at hl ⊢
 exact .of_eq (h us hl)
noncomputable def Passes (CX:IV)(X:Cx)(E:XK):Prop:=∀ (pins:List (Addr×Obj)) (σ:St) (H:Hp) (s:Shared) (e:Value) (s':Shared),Inv X pins σ H s->CX X.stack H s E e s'->X.xe e s'
section
variable {X:Cx}{CX:IV}{k:Nat}{f C:Addr}{fd:FuncData}{ps:List Str}{sp:Sp}{AG:List V}{ds:List Value}{E:XK}{x m:Str}{p pos apos:Pos}{e o:Expr}{es:List Expr}{ta:TE}{t:TA}
theorem BB {pins:List (Addr×Obj)}{σ:St}{H:Hp}{s:Shared}{Q:VK}{us:List Value}{vs:List V}(F:aE X.prog X.w X.K X.mg X.base CX k f fd ps sp)(hr:dg k X.A)(hb:Binds X.K fd ps ds)(hd:Vals AG ds)(hx:Passes CX X E)
  (I:Inv X pins σ H s) (r:Vals vs us) (h:sp (vs++AG) H Q E):wpAny (model X.prog X.w) X.A (call (.ref f) us) (EP X pins σ Q) X.xe s:=by
 have r2:Vals (vs++AG) (us++ds):=r.append hd
 have hl:(us++ds).length=ps.length:=by rw[<- r2.length];exact F.len _ _ _ _ h
 refine wpAny_call (codeAny_mono (F.run X.A X.stack s H ⟨us,[]⟩ (us++ds) (vs++AG) Q E hr I.Y4 (hb s us I.tO hl) r2 h) fun r s' hq=>?_)
 cases r with
 | error e=>exact hx pins σ H s e s' I hq
 | ok fl =>
  cases fl with
  | ret u=>exact I.after hq
  | next=>exact False.elim hq
  | brk=>exact False.elim hq
  | cont=>exact False.elim hq
theorem OH (F:aE X.prog X.w X.K X.mg X.base CX k f fd ps sp)(hr:dg k X.A)(hg:Gl X x)(hm:X.mg x=some (.ref f))(hk:PySem.W.keepIn X.K (.ref f)=true)(hb:Binds X.K fd ps ds)(hd:Vals AG ds)(hx:Passes CX X E)
  (ha:PA X (e::es) t) (hdb:(x == ("__debug__":Str))=false:=by decide) (he:starEach (e::es) X.env=(false,eval e X.env)::starEach es X.env:=by rfl) (hpl:(backTo pos (starEach es X.env)).any (·.1)=false:=by rfl) :
  PE X (.Call (.Name x p) (e::es) [] pos) (Qa sp AG E t):=by
 intro pins s σ H Q I h
 refine wpAny_Call_Name_kw (wA I hg hm ?_ hdb)
 refine PySem.W.callWith_K (h₀:=X.base) I.ok.mod.Vz hk (eK (ha pos pins s σ H _ I h) fun us s1 ⟨vs,H1,I1,r,q⟩=>⟨I1.tO,?_⟩) he hpl
 exact BB F hr hb hd hx I1 r q
structure Mk (K:PySem.W.Frag)(C f:Addr):Prop where
 makes:PySem.W.makesIn K C=true
 init:PySem.W.findIn K (.ref C) "__init__"=some (some (.ref f))
 fn:PySem.W.isFn K (.ref f)=true
 kp:PySem.W.keepIn K (.ref C)=true
theorem Lk {pins:List (Addr×Obj)}{σ:St}{H:Hp}{s:Shared}{Q:VK}{us:List Value}{vs:List V}(M:Mk X.K C f)(F:aE X.prog X.w X.K X.mg X.base CX k f fd ps sp)(hr:dg (k+1) X.A)(hb:Binds X.K fd ps ds)(hd:Vals AG ds)
  (hx:Passes CX X E) (I:Inv X pins σ H s) (r:Vals vs us)
  (h:∀ x dx,H x=none->H dx=none->dx≠x->sp (.ref x::(vs++AG)) (upd (upd H dx (.own x)) x (.ins C dx [])) (fun v H2=>v=.dR/\Q (.ref x) H2) E) :
  wpAny (model X.prog X.w) X.A (call (.ref C) us) (EP X pins σ Q) X.xe s:=by
 have hq:=h (s.heap.objs.size+1) s.heap.objs.size (I.hok.fresh (Nat.le_succ _)) (I.hok.fresh (Nat.le_refl _)) (Nat.ne_of_lt (Nat.lt_succ_self _))
 have I2:=Inv.made (C:=C) I
 have r2:Vals (V.ref (s.heap.objs.size+1)::(vs++AG)) (Value.ref (s.heap.objs.size+1)::(us++ds)):=.cons rfl (r.append hd)
 have hl:(Value.ref (s.heap.objs.size+1)::us++ds).length=ps.length:=by
  have e:=r2.length
  rw[F.len _ _ _ _ hq] at e
  exact e.symm
 refine wpAny_call (L0 (f:=f) I.tO M.makes M.init (beq_iff_eq.mp M.fn) (codeAny_mono (F.run _ X.stack _ _ ⟨Value.ref (s.heap.objs.size+1)::us,[]⟩ (Value.ref (s.heap.objs.size+1)::(us++ds)) _ _ E (hr.make C us [])
  (I2.Y4.make C us []) (hb _ (Value.ref (s.heap.objs.size+1)::us) I2.tO hl) r2 hq) fun r s' hq'=>?_))
 cases r with
 | error e=>exact hx pins σ _ _ e s' I2 hq'
 | ok fl =>
  cases fl with
  | ret u =>
   obtain⟨v,H',I3,rv,ev,q3⟩:=I2.after hq'
   subst ev
   exact⟨rv,⟨V.ref (s.heap.objs.size+1),H',I3,rfl,q3⟩⟩
  | next=>exact False.elim hq'
  | brk=>exact False.elim hq'
  | cont=>exact False.elim hq'
theorem OD (M:Mk X.K C f)(F:aE X.prog X.w X.K X.mg X.base CX k f fd ps sp)(hr:dg (k+1) X.A)(hg:Gl X x)(hm:X.mg x=some (.ref C))(hb:Binds X.K fd ps ds)(hd:Vals AG ds)(hx:Passes CX X E)
  (ha:PA X (e::es) t) (hdb:(x == ("__debug__":Str))=false:=by decide) (he:starEach (e::es) X.env=(false,eval e X.env)::starEach es X.env:=by rfl) (hpl:(backTo pos (starEach es X.env)).any (·.1)=false:=by rfl) :
  PE X (.Call (.Name x p) (e::es) [] pos) (P8 C sp AG E t):=by
 intro pins s σ H Q I h
 refine wpAny_Call_Name_kw (wA I hg hm ?_ hdb)
 refine PySem.W.callWith_K (h₀:=X.base) I.ok.mod.Vz M.kp (eK (ha pos pins s σ H _ I h) fun us s1 ⟨vs,H1,I1,r,q⟩=>⟨I1.tO,?_⟩) he hpl
 exact Lk M F hr hb hd hx I1 r q
end
section
variable {X:Cx}{CX:IV}{k:Nat}{f C:Addr}{fd:FuncData}{ps ks:List Str}{sp:Sp}{E:XK}{x m:Str}{p pos apos kpos:Pos}{e o:Expr}{es:List Expr}{kws:List Keyword}{te ta:TE}{t tk:TA}{nm:Option Str}
variable {g:List Value->List Value->List Value}{gV:List V->List V->List V}
end
structure ao (N P:List Str)(sc:Scope):Prop where
 kind:sc.kind=.function
 co:sc.isCoroutine=false
 gen:sc.isGenerator=false
 nd:N.Nodup
 pre:N.take P.length=P
 par:∀ x∈P,sc.names.lookup x=some .local∨sc.names.lookup x=some .cell
 SX:∀ y∈sc.names,y.2≠.free
theorem ck {N P:List Str}{sc:Scope}(a:sc.kind=.function:=by rfl)(b:sc.isCoroutine=false:=by rfl)(c:sc.isGenerator=false:=by rfl)(d:N.Nodup:=by decide +kernel)(e:N.take P.length=P:=by rfl)(f:∀ x∈P,sc.names.lookup x=some .local∨sc.names.lookup x=some .cell:=by decide +kernel)(g:∀ y∈sc.names,y.2≠.free:=by decide +kernel):ao N P sc:=⟨a,b,c,d,e,f,g⟩
theorem AM {kindOf:Str->Option NameKind}{x:Str}:∀ {binds:List (Str×Value)} {m:Str->Option Value},(∀ v,(x,v) ∉ binds)->bindL kindOf binds m x=m x
 | [],_,_=>rfl
 | (n,v)::r,m,h=>by
  unfold bindL
  rw[AM fun w hw=>h w (List.mem_cons_of_mem _ hw)]
  split
  ·have:x≠n:=by rintro rfl;exact h v List.mem_cons_self
   simp[this]
  ·rfl
theorem AO {kindOf:Str->Option NameKind}{x:Str}:∀ {binds:List (Str×Value)} {m:Str->Option Value},(∀ v,(x,v) ∉ binds)->bindC kindOf binds m x=m x
 | [],_,_=>rfl
 | (n,v)::r,m,h=>by
  unfold bindC
  rw[AO fun w hw=>h w (List.mem_cons_of_mem _ hw)]
  split
  ·rfl
  ·have:x≠n:=by rintro rfl;exact h v List.mem_cons_self
   simp[this]
theorem AN {kindOf:Str->Option NameKind}{x:Str}{v:Value}:∀ {P:List Str} {vs:List Value} {i:Nat} {m:Str->Option Value},P.Nodup->P[i]?=some x->vs[i]?=some v->kindOf x=some .local ->
  bindL kindOf (P.zip vs) m x=some v
 | [],_,_,_,_,h,_,_=>by simp at h
 | _::_,[],_,_,_,_,h,_=>by simp at h
 | p::P,w::vs,0,m,nd,h1,h2,hk=>by
  simp at h1 h2;subst h1;subst h2
  show bindL kindOf ((p,w)::P.zip vs) m p=_
  unfold bindL
  rw[AM fun v hv=>(List.nodup_cons.mp nd).1 (List.of_mem_zip hv).1,if_pos hk]
  simp
 | p::P,w::vs,i+1,m,nd,h1,h2,hk=>by
  show bindL kindOf ((p,w)::P.zip vs) m x=_
  unfold bindL
  exact AN (i:=i) (List.nodup_cons.mp nd).2 (by simpa using h1) (by simpa using h2) hk
theorem AQ {kindOf:Str->Option NameKind}{x:Str}{v:Value}:∀ {P:List Str} {vs:List Value} {i:Nat} {m:Str->Option Value},P.Nodup->P[i]?=some x->vs[i]?=some v->kindOf x≠some .local ->
  bindC kindOf (P.zip vs) m x=some v
 | [],_,_,_,_,h,_,_=>by simp at h
 | _::_,[],_,_,_,_,h,_=>by simp at h
 | p::P,w::vs,0,m,nd,h1,h2,hk=>by
  simp at h1 h2;subst h1;subst h2
  show bindC kindOf ((p,w)::P.zip vs) m p=_
  unfold bindC
  rw[AO fun v hv=>(List.nodup_cons.mp nd).1 (List.of_mem_zip hv).1,if_neg hk]
  simp
 | p::P,w::vs,i+1,m,nd,h1,h2,hk=>by
  show bindC kindOf ((p,w)::P.zip vs) m x=_
  unfold bindC
  exact AQ (i:=i) (List.nodup_cons.mp nd).2 (by simpa using h1) (by simpa using h2) hk
noncomputable def start (N:List Str)(vs:List V):St:=vs.map some++List.replicate (N.length - vs.length) none
noncomputable def EC (CX:IV)(P:Program)(w:World)(K:PySem.W.Frag)(mg:Str->Option Value)(base:Heap)(N:List Str)(qual:Str)(scope:Scope)(f:Addr)(cd:Value)(A:Around)(outer:List Env)(s:Shared)(H:Hp)(E:XK):Cx where
 prog:=P
 w:=w
 K:=K
 mg:=mg
 base:=base
 A:=A.deeper (envOfC qual scope s.heap.objs.size f cd)
 N:=N
 s₀:=s
 H₀:=H
 env:=envOfC qual scope s.heap.objs.size f cd
 outer:=outer
 stack:=envOfC qual scope s.heap.objs.size f cd::outer
 ex:=[]
 calm:=true
 fn:=fun _=>true
 pn:=[]
 xe:=fun e s'=>wpAny (model P w) (A.deeper (envOfC qual scope s.heap.objs.size f cd)) (leaving (envOfC qual scope s.heap.objs.size f cd) e) (fun _ s''=>CX outer H s E e s'') (fun e' s''=>CX outer H s E e' s'') s'
theorem EI {sc:Scope}{n:Nat}{x:Str}(h:sc.names.lookup x=some .cell):∃ c,(cellsFrom n sc.names []).lookup x=some c:=by
 have q:=PySem.W.cellsFrom_some sc.names n [] (.inl h)
 exact Option.isSome_iff_exists.mp q
theorem JD {CX:IV}{P:Program}{w:World}{K:PySem.W.Frag}{mg:Str->Option Value}{base:Heap}{N ps:List Str}{qual:Str}{scope:Scope}{f:Addr}{cd:Value}{A:Around}{outer:List Env}{s s1:Shared}{H:Hp}{E:XK}{us:List Value}{vs:List V}
  (S:ao N ps scope) (hd:A.handled=none) (e0:GZ P w K mg base A outer s H) (hl:vs.length=ps.length) (r:Vals vs us)
  (x:InCallC s s.heap.objs.size (bindL (envOfC qual scope s.heap.objs.size f cd).kindOf (ps.zip us) fun _=>none) (cellsFrom (s.heap.objs.size+1) scope.names []) (bindC (envOfC qual scope s.heap.objs.size f cd).kindOf (ps.zip us) fun _=>none) s1) :
  Inv (EC CX P w K mg base N qual scope f cd A outer s H E) [] (start N vs) H s1:=by
 have hpl:ps.length<=N.length:=by have:=congrArg List.length S.pre;rw[List.length_take] at this;omega
 obtain⟨h1,tk,rfl,hk⟩:=x.done
 have W7:∀ b:Addr,b ∉ (EC CX P w K mg base N qual scope f cd A outer s H E).ex:=fun b z=>absurd (show b∈([]:List Addr) from z) (by simp)
 refine⟨⟨e0.mod,S.kind,rfl,rfl,Nat.le_refl _,fun y z c h1 h2=>?_,fun y hy=>?_,fun y c _ h=>?_,fun _=>hd,Around.frames_deeper e0.frames,.inr ⟨rfl,rfl⟩,fun b z=>absurd z (W7 b),e0.bs,e0.Py,fun b _ _=>W7 b,fun b z=>absurd z (W7 b),e0.vI,e0.U1⟩,
  rfl,e0.bare,Un.kept hk,⟨_,x.toInCall.ns,fun i y v h1 h2 h3=>?_⟩,fun y c h=>⟨_,x.cell y c h⟩,e0.hok.fresh (Nat.le_refl _),fun y c h=>?_,fun p hp=>absurd (show p∈([]:List (Addr×Obj)) from hp) (by simp),e0.hok.kept hk,?_⟩
 ·exact name_of_addr x.apart (PySem.mem_of_lookup h1) (PySem.mem_of_lookup h2)
 ·have hy:scope.names.lookup y=some .cell∨scope.names.lookup y=some .free:=hy
  rcases hy with hy | hy
  ·exact EI hy
  ·exact absurd rfl (S.SX _ (PySem.mem_of_lookup hy))
 ·exact Nat.le_of_lt (x.above y c (PySem.mem_of_lookup h))
 ·have hi:i < vs.length:=by
   unfold start at h2
   by_cases hi:i < vs.length
   ·exact hi
   ·rw[List.getElem?_append_right (by simpa using hi)] at h2
    rw[List.getElem?_replicate] at h2
    split at h2 <;> cases h2
  have ha:vs[i]?=some v:=by
   unfold start at h2
   rw[List.getElem?_append_left (by simpa using hi),List.getElem?_map] at h2
   cases e:vs[i]? with
   | none=>rw[e] at h2;cases h2
   | some a=>rw[e] at h2;cases h2;rfl
  obtain⟨u,hu,rv⟩:=r.get ha
  have hp:ps[i]?=some y:=by
   rw[<- S.pre,List.getElem?_take_of_lt (by omega)];exact h1
  have ndP:ps.Nodup:=by rw[<- S.pre];exact S.nd.sublist (List.take_sublist _ _)
  refine⟨u,rv,?_⟩
  rcases S.par y (List.mem_of_getElem? hp) with k | k
  ·exact .inl ⟨k,AN ndP hp hu k⟩
  ·obtain⟨c,e⟩:=EI (n:=s.heap.objs.size+1) k
   refine .inr ⟨.inl k,c,e,?_⟩
   have q:=x.cell y c e
   rw[AQ ndP hp hu (by show scope.names.lookup y≠_;rw[k];decide)] at q
   exact q
 ·exact e0.hok.fresh (Nat.le_of_lt (x.above y c (PySem.mem_of_lookup h)))
 ·unfold start
  show _=N.length
  rw[List.length_append,List.length_map,List.length_replicate]
  omega
theorem YX {CX:IV}{P:Program}{w:World}{K:PySem.W.Frag}{mg:Str->Option Value}{base:Heap}{k:Nat}{f:Addr}{name qual:Str}{params:Arguments}{body:List Stmt}{scope:Scope}{dV kV doc pm cdv ct oc:Value}{an od:Option Addr}
  {osl:Array (Option Value)} {N ps:List Str} {sp:Sp} (lk:K.lookup f=some ⟨oc,od,.func (PySem.W.fnOf name qual params body scope dV kV doc pm an cdv ct),osl⟩) (hcd:PySem.W.codeIn K cdv qual=true) (S:ao N ps scope)
  (len:∀ vs H Q E,sp vs H Q E->vs.length=ps.length)
  (hbody:∀ (A:Around) (outer:List Env) (s:Shared) (H:Hp) (vs:List V) (Q:VK) (E:XK),dg k (A.deeper (envOfC qual scope s.heap.objs.size f cdv))->sp vs H Q E ->
   ∃ t,Dh (EC CX P w K mg base N qual scope f cdv A outer s H E) body t/\t { nx:=fun _ H'=>Q .dR H',rt:=Q } (start N vs) H) :
  aE P w K mg base CX (k+1) f (PySem.W.fnOf name qual params body scope dV kV doc pm an cdv ct) ps sp:=by
 refine⟨len,fun A outer s H args us vs Q E hr e0 hb r Q0=>?_⟩
 have hl:=len _ _ _ _ Q0
 have KX:K.In s.heap:=e0.mod.Vz.keeps fun b o e=>(e0.bs b o e).1
 have lim:s.heap.NoLimit:=e0.mod.nolimit.keeps fun b o e=>(e0.bs b o e).1
 have hkind:∀ y∈ps.zip us,scope.names.lookup y.1=some .local∨(scope.names.lookup y.1=some .cell/\((cellsFrom (s.heap.objs.size+1) scope.names []).lookup y.1).isSome=true):=fun⟨n,v⟩ hy=>by
  rcases S.par n (List.of_mem_zip hy).1 with q | q
  ·exact .inl q
  ·exact .inr ⟨q,PySem.W.cellsFrom_some _ _ _ (.inl q)⟩
 refine codeAny_call_function hr.depth (KX _ _ lk) rfl S.co S.gen rfl (PySem.W.codeRec_of KX hcd) (hb _ _ _ _ ?_)
 refine wpAny_newFunctionEnv_cells S.kind hkind fun env he s1 x=>?_
 subst he
 refine⟨lim.keeps x.toInCall.keep,codeAny_func ?_⟩
 obtain⟨t,ht,hq⟩:=hbody A outer s H vs Q E (hr.deeper _) Q0
 have I:Inv (EC CX P w K mg base N qual scope f cdv A outer s H E) [] (start N vs) H s1:=JD S hr.hd e0 hl r x
 refine wpAny_mono (ht [] s1 (start N vs) H _ I hq) (fun fl s' hs=>?_) fun e s' hs=>hs
 have fin:∀ {σ':St} {H':Hp} {v:V} {u:Value},Inv (EC CX P w K mg base N qual scope f cdv A outer s H E) [] σ' H' s'->RelV v u->Q v H'->CE outer P w H s Q u s' :=
  fun {σ' H' v u} J rv q=>⟨v,H',J.os,J.bare,J.base,J.hok,rv,q⟩
 cases fl with
 | ret u =>
  obtain⟨v,σ',H',J,rv,q⟩:=hs
  exact fin J rv q
 | next =>
  obtain⟨σ',H',J,q⟩:=hs
  exact fin (v:=V.dR) (u:=Value.none) J rfl q
 | brk =>
  obtain⟨_,_,_,q⟩:=hs
  exact False.elim q
 | cont =>
  obtain⟨_,_,_,q⟩:=hs
  exact False.elim q
end L2
namespace L2
open PySem PySem.Spec PyProof.Rows
section
variable {X:Cx}{x:Str}{p pos:Pos}{e:Expr}{es:List Expr}{t:TA}{id T:String}{r:List V->Hp->VK->Prop}
noncomputable def Wd (r:List V->Hp->VK->Prop)(t:TA):TE:=fun σ H Q=>t σ H fun vs H1=>r vs H1 Q
theorem LD (hc:fE X (.builtin id) r)(hg:Gl X x)(hm:X.mg x=none)(hv:bootBuiltins x=some (.builtin id))(ha:PA X (e::es) t)(hn:x≠"__name__":=by decide)(hdb:(x == ("__debug__":Str))=false:=by decide)
  (he:starEach (e::es) X.env=(false,eval e X.env)::starEach es X.env:=by rfl) (hpl:(backTo pos (starEach es X.env)).any (·.1)=false:=by rfl):PE X (.Call (.Name x p) (e::es) [] pos) (Wd r t):=by
 intro pins s σ H Q I h
 refine wpAny_Call_Name_kw (Cf I hg hm hv ?_ hn hdb)
 exact PyProof.Rows.callWith_builtin1 (eK (ha pos pins s σ H _ I h) (by rintro us s1 ⟨vs,H1,I1,r1,q1⟩;exact hc pins s1 σ H1 vs us Q I1 r1 q1)) he hpl
theorem Jg (hc:fE X (.type T) r)(hg:Gl X x)(hm:X.mg x=none)(hv:bootBuiltins x=some (.type T))(ha:PA X (e::es) t)(hn:x≠"__name__":=by decide)(hdb:(x == ("__debug__":Str))=false:=by decide)
  (he:starEach (e::es) X.env=(false,eval e X.env)::starEach es X.env:=by rfl) (hpl:(backTo pos (starEach es X.env)).any (·.1)=false:=by rfl):PE X (.Call (.Name x p) (e::es) [] pos) (Wd r t):=by
 intro pins s σ H Q I h
 refine wpAny_Call_Name_kw (Cf I hg hm hv ?_ hn hdb)
 exact PyProof.Rows.callWith_type1 (eK (ha pos pins s σ H _ I h) (by rintro us s1 ⟨vs,H1,I1,r1,q1⟩;exact hc pins s1 σ H1 vs us Q I1 r1 q1)) he hpl
end
end L2
namespace HT
open PySem PyProof.Rows
section
open PySem.SeqAt
open PySem.AutoSeq1 (wpAny_loadPart')
open PySem.MeetsSeq PySem.MeetsSeq2 PySem.MeetsSeq3
end
section
variable {prog:Program}{w:World}{A:Around}{E:Value->Shared->Prop}{s:Shared}
theorem Pw {t b:Addr}{vs ws:List Value}{Q:Value->Shared->Prop}(ht:IsTup s.heap t vs.toArray)(hb:IsTup s.heap b ws.toArray)(hv:vs≠[])
  (h1:ws=[]->Q (.ref t) s) (h2:ws≠[]->Q (.ref s.heap.objs.size) { s with heap:=s.heap.push { cls:=.type "tuple",data:=.seq (vs++ws).toArray } })
  (hsz:vs.length+ws.length<=sizeLine):wpAny (model prog w) A (binaryOp .Add (.ref t) (.ref b)) Q E s:=by
 obtain⟨⟨cls,dd,data,sl⟩,ho,hc,n,hd⟩:=id ht
 obtain⟨⟨a24,dd2,data2,sl2⟩,ho2,hc2,n2,hd2⟩:=id hb
 simp only at hc hd hc2 hd2
 subst hc hd hc2 hd2
 have e:vs.toArray++ws.toArray=(vs++ws).toArray:=by simp
 by_cases hw:ws=[]
 ·exact concat_meets ⟨_,ho,rfl⟩ ⟨_,ho2,rfl⟩ noFill_tuple_add seq_tuple_add PySem.F.slot_tuple_add PySem.F.entry_tuple_add (PySem.F.args_tuple_add_2 _ _)
   (tuple_addW1 t b vs.toArray ws.toArray n n2 dd dd2 sl sl2 (by simpa using hv) (by simp[hw])) ⟨ho,ho2,h1 hw⟩
 ·refine concat_meets ⟨_,ho,rfl⟩ ⟨_,ho2,rfl⟩ noFill_tuple_add seq_tuple_add PySem.F.slot_tuple_add PySem.F.entry_tuple_add (PySem.F.args_tuple_add_2 _ _)
   (tuple_addW2 t b vs.toArray ws.toArray n n2 dd dd2 sl sl2 (by simpa using hv) (by simpa using hw) (by rw[List.size_toArray,List.size_toArray];exact hsz)) ⟨ho,ho2,?_⟩
  rw[e]
  exact h2 hw
noncomputable def eO (n d:Nat):Option Int->Nat
 | none=>d
 | some v=>if v < 0 then (v+(n:Int)).toNat else min v.toNat n
theorem Lj (n d:Nat):eO n d none=d:=rfl
theorem N6 (n d k:Nat):eO n d (some (k:Int))=min k n:=by
 show(if (k:Int) < 0 then ((k:Int)+(n:Int)).toNat else min (k:Int).toNat n)=min k n
 rw[if_neg (by omega),Int.toNat_natCast]
theorem RQ (n d:Nat)(hd:d<=n)(o:Option Int):eO n d o<=n:=by
 cases o with
 | none=>exact hd
 | some v =>
  show(if v < 0 then (v+(n:Int)).toNat else min v.toNat n)<=n
  by_cases hv:v < 0
  ·rw[if_pos hv];omega
  ·rw[if_neg hv];exact Nat.min_le_right _ _
theorem IB (v:Int)(n d:Nat):(if v < 0 then max (v+(n:Int)) 0 else min v (n:Int))=((eO n d (some v):Nat):Int):=by
 show(if v < 0 then max (v+(n:Int)) 0 else min v (n:Int))=(((if v < 0 then (v+(n:Int)).toNat else min v.toNat n):Nat):Int)
 by_cases hv:v < 0
 ·simp only[if_pos hv];omega
 ·simp only[if_neg hv];omega
theorem GO (lo hi:Option Int)(n:Nat):Builtin.Slice.sliceAdjust lo hi 1 (n:Int)=(((eO n 0 lo:Nat):Int),((eO n n hi:Nat):Int)):=by
 have h1:¬ ((1:Int) < 0):=by omega
 unfold Builtin.Slice.sliceAdjust
 simp only[h1,if_false]
 refine Prod.ext ?_ ?_
 ·cases lo with
  | none=>rfl
  | some v=>exact IB v n 0
 ·cases hi with
  | none=>rfl
  | some v=>exact IB v n n
theorem FQ (i j:Nat):Builtin.Slice.slicePlaces (i:Int) (j:Int) 1=j - i:=by
 unfold Builtin.Slice.slicePlaces
 have h1:(1:Int) > 0:=by omega
 simp only[h1,if_true,Int.ediv_one]
 split <;> omega
theorem wV {v:Value}{o:Option Int}{Q:Option Int->Shared->Prop}(p:IsPart v o)(h:Q o s):wpAny (model prog w) A (Builtin.Slice.slicePartIndex v) Q E s:=by
 cases p with
 | none=>exact slicePart_none h
 | int i t=>exact slicePart_int h
theorem tW {sl:Addr}{vl vu:Value}{lo hi:Option Int}{n:Nat}{Q:Int×Int×Nat->Shared->Prop}(hs:s.heap.IsSliceOf sl vl vu .none)(pl:IsPart vl lo)(pu:IsPart vu hi)
  (h:Q (((eO n 0 lo:Nat):Int),1,eO n n hi - eO n 0 lo) s):wpAny (model prog w) A (Builtin.Slice.sliceApplied (.ref sl) (pure (n:Int))) Q E s:=by
 obtain⟨os,hos,hcs,hds⟩:=id hs
 unfold Builtin.Slice.sliceApplied Builtin.Slice.sliceFields
 refine wpAny_bind (wpAny_bind (wpAny_field hos hds (x:=vl) rfl (wpAny_bind (wpAny_field hos hds (x:=vu) rfl (wpAny_bind (wpAny_field hos hds (x:=.none) rfl (wpAny_pure ?_)))))))
 refine wpAny_bind (slicePart_none ?_)
 show wpAny _ _ (if ((1:Int) == 0)=true then _ else _) _ _ s
 rw[if_neg (by decide)]
 refine wpAny_bind (wV pl (wpAny_bind (wV pu (wpAny_bind (wpAny_pure ?_)))))
 show wpAny _ _ (match Builtin.Slice.sliceAdjust lo hi 1 (n:Int) with | (lo,hi)=>pure (lo,(1:Int),Builtin.Slice.slicePlaces lo hi 1)) _ _ s
 rw[GO lo hi n]
 show wpAny _ _ (pure (((eO n 0 lo:Nat):Int),(1:Int),Builtin.Slice.slicePlaces ((eO n 0 lo:Nat):Int) ((eO n n hi:Nat):Int) 1)) _ _ s
 rw[FQ]
 exact wpAny_pure h
theorem Lw (xs:Array Value)(i k:Nat):((List.range k).filterMap fun(m:Nat)=>xs[((i:Int)+(m:Int)*1).toNat]?).toArray=((xs.toList.drop i).take k).toArray:=by
 have e:(fun(m:Nat)=>xs[((i:Int)+(m:Int)*1).toNat]?)=fun m=>xs[i+m]?:=by
  funext m
  have:((i:Int)+(m:Int)*1).toNat=i+m:=by omega
  rw[this]
 rw[e]
 have:=pick_run xs i k
 rw[List.filterMap_map] at this
 have e2:((fun x=>xs[x]?) ∘ fun x=>i+x)=fun m=>xs[i+m]?:=rfl
 rw[e2] at this
 rw[this]
theorem sJ {t sl:Addr}{items:Array Value}{vl vu:Value}{lo hi:Option Int}{Q:Value->Shared->Prop}(ht:IsTup s.heap t items)(hs:s.heap.IsSliceOf sl vl vu .none)(pl:IsPart vl lo)(pu:IsPart vu hi)
  (hw:¬ (eO items.size 0 lo=0/\eO items.size items.size hi=items.size))
  (h:Q (.ref s.heap.objs.size) { s with heap:=s.heap.push { cls:=.type "tuple",data:=.seq ((items.toList.drop (eO items.size 0 lo)).take (eO items.size items.size hi - eO items.size 0 lo)).toArray } })
  (hsz:items.size<=sizeLine):wpAny (model prog w) A (getItem (.ref t) (.ref sl)) Q E s:=by
 have Ih:sizeOk (.seq ((items.toList.drop (eO items.size 0 lo)).take (eO items.size items.size hi - eO items.size 0 lo)).toArray):=by
  show((items.toList.drop (eO items.size 0 lo)).take (eO items.size items.size hi - eO items.size 0 lo)).toArray.size<=sizeLine
  rw[List.size_toArray,List.length_take,List.length_drop,Array.length_toList]
  omega
 have hj:eO items.size items.size hi<=items.size:=RQ _ _ (Nat.le_refl _) hi
 obtain⟨os,hos,hcs,hds⟩:=id hs
 have hTs:s.TypeIs (.ref sl) "slice":=⟨os,hos,hcs⟩
 unfold getItem
 try with_reducible refine wpAny_holding ?_
 first | refine wpAny_bind (wpAny_pure ?_) | skip
 refine wpAny_bind (wpAny_sequenceKey ht.typeIs (by decide) ?_)
 refine wpAny_bind (wpAny_callSpecial?_slot (name:=Str.ofString "__getitem__") ht.typeIs PyProof.Rows.slot_tuple_getitem
  (wpAny_call_entry PyProof.Rows.slot_tuple_getitem ht.typeIs entry_tuple_getitem ?_ (args_tuple_getitem _ _)))
 show wpAny _ _ (Builtin.Tuple.tupleItemsOf (.ref t) >>= _) _ _ s
 refine wpAny_bind (tupleItemsOf_ ht ?_)
 refine wpAny_bind (wpAny_typeOf hTs ?_)
 rw[if_pos (by decide)]
 refine wpAny_bind (tW hs pl pu ?_)
 have hno:¬ ((((eO items.size 0 lo:Nat):Int) == 0 && (1:Int) == 1 && (eO items.size items.size hi - eO items.size 0 lo) == items.size)=true):=by
  intro q
  rw[Bool.and_eq_true,Bool.and_eq_true] at q
  have q1:((eO items.size 0 lo:Nat):Int)=0:=eq_of_beq q.1.1
  have q2:eO items.size items.size hi - eO items.size 0 lo=items.size:=eq_of_beq q.2
  exact hw ⟨by omega,by omega⟩
 show wpAny _ _ (if (((eO items.size 0 lo:Nat):Int) == 0 && (1:Int) == 1 && (eO items.size items.size hi - eO items.size 0 lo) == items.size)=true then _ else _) _ _ s
 rw[if_neg hno,Lw]
 first
  | exact wpAny_bind (m:=Builtin.Tuple.tupleExact _) (wpAny_newObj_type (wpAny_pure ⟨_,rfl,wpAny_pure h⟩) Ih)
  | exact wpAny_bind (m:=Builtin.Tuple.tupleExact _) (wpAny_newObj_type (wpAny_bind (wpAny_pure (wpAny_pure ⟨_,rfl,wpAny_pure h⟩))) Ih)
  | exact wpAny_bind (wpAny_bind (m:=Builtin.Tuple.tupleExact _) (wpAny_newObj_type (wpAny_pure (wpAny_pure ⟨_,rfl,wpAny_pure h⟩)) Ih))
  | exact wpAny_bind (wpAny_bind (m:=Builtin.Tuple.tupleExact _) (wpAny_newObj_type (wpAny_pure ⟨_,rfl,wpAny_pure h⟩) Ih))
end
end HT
namespace L2
open PySem PySem.Spec PyProof.Rows
noncomputable abbrev TO:=St->Hp->(Option Int->Hp->Prop)->Prop
noncomputable def PO (X:Cx)(e:Option Expr)(t:TO):Prop :=
 ∀ (pins:List (Addr×Obj)) (s:Shared) (σ:St) (H:Hp) (Q:Option Int->Hp->Prop),Inv X pins σ H s->t σ H Q ->
  wpAny (model X.prog X.w) X.A (evalPart e X.env) (fun u s'=>∃ o H',Inv X pins σ H' s'/\IsPart u o/\Q o H') X.xe s
noncomputable def NV:TO:=fun _ H Q=>Q none H
noncomputable def VY (t:TE):TO:=fun σ H Q=>t σ H fun x H1=>∃ i,x=.int i/\Q (some i) H1
section
variable {X:Cx}{e:Expr}{te:TE}{lo hi:Option Expr}{tl th:TO}{pos p2:Pos}
theorem OA:PO X none NV:=by
 intro pins s σ H Q I h
 rw[evalPart_none]
 exact wpAny_pure ⟨none,H,I,.none,h⟩
theorem Oz (h:PE X e te):PO X (some e) (VY te):=by
 intro pins s σ H Q I hw
 rw[evalPart_some]
 refine eK (h pins s σ H _ I hw) ?_
 rintro u s1 ⟨x,H1,I1,r1,q1⟩
 obtain⟨i,rfl,q⟩:=q1
 obtain⟨t,rfl⟩:=r1
 exact⟨some i,H1,I1,.int i t,q⟩
noncomputable def PL (X:Cx)(r:V->Option Int->Option Int->Hp->VK->Prop):Prop :=
 ∀ (pins:List (Addr×Obj)) (s:Shared) (σ:St) (H:Hp) (x:V) (v vl vu:Value) (lo hi:Option Int) (sl:Addr) (Q:VK),Inv X pins σ H s->RelV x v->s.heap.IsSliceOf sl vl vu .none->IsPart vl lo->IsPart vu hi->r x lo hi H Q ->
  ∃ T id,typeLookup (.type T) "__getitem__"=pure (some (.builtin id))/\s.TypeIs v T/\wpAny (model X.prog X.w) X.A (getItem v (.ref sl)) (EP X pins σ Q) X.xe s
theorem PL.or {r r':V->Option Int->Option Int->Hp->VK->Prop}(h:PL X r)(h':PL X r'):PL X (fun x lo hi H Q=>r x lo hi H Q∨r' x lo hi H Q):=by
 intro pins s σ H x v vl vu lo hi sl Q I rx hs pl pu q
 rcases q with q | q
 ·exact h pins s σ H x v vl vu lo hi sl Q I rx hs pl pu q
 ·exact h' pins s σ H x v vl vu lo hi sl Q I rx hs pl pu q
noncomputable def tSl (r:V->Option Int->Option Int->Hp->VK->Prop)(te:TE)(tl th:TO):TE:=fun σ H Q=>te σ H fun x H1=>tl σ H1 fun l H2=>th σ H2 fun u H3=>r x l u H3 Q
theorem Lz {r:V->Option Int->Option Int->Hp->VK->Prop}(hr:PL X r)(he:PE X e te)(hl:PO X lo tl)(hu:PO X hi th):PE X (.Subscript e (.Slice lo hi none p2) pos) (tSl r te tl th):=by
 intro pins s σ H Q I h
 refine Subscript_ (eK (he pins s σ H _ I h) fun v s1 ⟨x,H1,I1,r1,q1⟩=>?_)
 refine wpAny_Slice (eK (hl pins s1 σ H1 _ I1 q1) fun vl s2 ⟨l,H2,I2,pl,q2⟩=>eK (hu pins s2 σ H2 _ I2 q2) fun vu s3 ⟨u,H3,I3,pu,q3⟩=>?_)
 rw[evalPart_none]
 refine wpAny_pure ?_
 have I4:Inv X pins σ H3 { s3 with heap:=s3.heap.push { cls:=.type "slice",data:=.fields #[vl,vu,.none] } }:=I3.kept (t':=s3.toks) fun b ob q=>Heap.get?_push_of_some _ q
 obtain⟨T,id,hT,ht,hg⟩:=hr pins { s3 with heap:=s3.heap.push { cls:=.type "slice",data:=.fields #[vl,vu,.none] } } σ H3 x v vl vu l u s3.heap.objs.size Q I4 r1 (Heap.IsSliceOf.new ..) pl pu q3
 show wpAny (model X.prog X.w) X.A (subscriptTail e (.Slice lo hi none p2) v (.ref s3.heap.objs.size)) (EP X pins σ Q) X.xe { s3 with heap:=s3.heap.push { cls:=.type "slice",data:=.fields #[vl,vu,.none] } }
 exact tail_any (ops:=[.ref s3.heap.objs.size,v]) ht hT hg (by with_unfolding_all rfl)
noncomputable def EE (xs:List V)(lo hi:Option Int):List V:=(xs.drop (HT.eO xs.length 0 lo)).take (HT.eO xs.length xs.length hi - HT.eO xs.length 0 lo)
theorem vf (xs:List V)(lo hi:Option Int):(EE xs lo hi).length<=xs.length:=by
 unfold EE
 rw[List.length_take,List.length_drop]
 omega
noncomputable def a0S (K:PySem.W.Frag):V->Option Int->Option Int->Hp->VK->Prop:=fun x lo hi H Q=>∃ a xs,x=.ref a/\qh K H a xs /\
 ¬ (HT.eO xs.length 0 lo=0/\HT.eO xs.length xs.length hi=xs.length)/\∀ p,H p=none->Q (.ref p) (upd H p (.tup (EE xs lo hi)))
theorem RK:PL X (a0S X.K):=by
 intro pins s σ H x v vl vu lo hi sl Q I rx hs pl pu h
 obtain⟨a,xs,rfl,hx,hw,q⟩:=h
 cases rx
 obtain⟨its,r,ht,hz⟩:=I.tuple hx
 have hlen:its.toArray.size=xs.length:=by rw[List.size_toArray];exact r.length.symm
 refine⟨"tuple",_,PyProof.Rows.slot_tuple_getitem.lookup,ht.typeIs,?_⟩
 refine HT.sJ ht hs pl pu (by rw[hlen];exact hw) ?_ (by rw[hlen];exact hz)
 rw[hlen]
 refine⟨.ref s.heap.objs.size,_,I.laid (t':=s.toks) (o:=.tup (EE xs lo hi)) (fun b ob q=>Heap.get?_push_of_some _ q) (Nat.le_refl _) ?_,rfl,q _ (I.hok.fresh (Nat.le_refl _))⟩
 exact⟨Nat.le_trans (vf xs lo hi) hz,_,(r.drop (HT.eO xs.length 0 lo)).take (HT.eO xs.length xs.length hi - HT.eO xs.length 0 lo),IsTup.new _ _⟩
noncomputable def WE (K:PySem.W.Frag):R2:=fun x y H Q=>∃ a b xs ys,x=.ref a/\y=.ref b/\qh K H a xs/\qh K H b ys/\xs≠[]/\xs.length+ys.length<=sizeLine /\
 (ys=[]->Q (.ref a) H)/\(ys≠[]->∀ p,H p=none->Q (.ref p) (upd H p (.tup (xs++ys))))
theorem Vals.dw {xs:List V}{us:List Value}(r:Vals xs us):us=[]↔xs=[]:=by
 cases r with
 | nil=>simp
 | cons _ _=>simp
theorem ON:nh X (binaryOp .Add) (WE X.K):=by
 intro pins s σ H x y v u Q I rx ry h
 obtain⟨a,b,xs,ys,rfl,rfl,ha,hb,hx,hz,q1,q2⟩:=h
 cases rx
 cases ry
 obtain⟨its,r1,p1,_⟩:=I.tuple ha
 obtain⟨its2,r2,p2,_⟩:=I.tuple hb
 refine HT.Pw p1 p2 (fun z=>hx (r1.dw.mp z)) (fun z=>⟨.ref a,H,I,rfl,q1 (r2.dw.mp z)⟩) (fun z=>?_) (by rw[<- r1.length,<- r2.length];exact hz)
 refine⟨.ref s.heap.objs.size,_,I.laid (t':=s.toks) (o:=.tup (xs++ys)) (fun b ob q=>Heap.get?_push_of_some _ q) (Nat.le_refl _) ?_,rfl,q2 (fun w=>z (r2.dw.mpr w)) _ (I.hok.fresh (Nat.le_refl _))⟩
 exact⟨by rw[List.length_append];exact hz,_,r1.append r2,IsTup.new _ _⟩
end
end L2
namespace L2
open PySem PySem.Spec PyProof.Rows
noncomputable def Pa (n:Nat)(i:Int):Option Nat:=if 0<=i then (if i < n then some i.toNat else none) else if -(n:Int)<=i then some (i+n).toNat else none
noncomputable def wF {α:Type}(xs:List α)(i:Int):Option α:=(Pa xs.length i).bind fun j=>xs[j]?
theorem Ia {n:Nat}{i:Int}{j:Nat}(h:Pa n i=some j):seqIndex? i n=some j/\j < n/\-(n:Int)<=i/\i < n:=by
 unfold Pa at h
 by_cases h0:0<=i
 ·rw[if_pos h0] at h
  by_cases h1:i < n
  ·rw[if_pos h1] at h
   have e:i.toNat=j:=Option.some.inj h
   exact⟨by rw[seqIndex_of h0 h1,e],by omega,by omega,h1⟩
  ·rw[if_neg h1] at h;cases h
 ·rw[if_neg h0] at h
  by_cases h1:-(n:Int)<=i
  ·rw[if_pos h1] at h
   have e:(i+n).toNat=j:=Option.some.inj h
   exact⟨by rw[seqIndex_neg (by omega) h1,e],by omega,h1,by omega⟩
  ·rw[if_neg h1] at h;cases h
theorem CH {α:Type}{xs:List α}{i:Int}{v:α}(h:wF xs i=some v):∃ j,seqIndex? i xs.length=some j/\xs[j]?=some v/\j < xs.length/\-(xs.length:Int)<=i/\i < xs.length:=by
 unfold wF at h
 cases e:Pa xs.length i with
 | none=>rw[e] at h;cases h
 | some j =>
  rw[e] at h
  obtain⟨h1,h2,h3,h4⟩:=Ia e
  exact⟨j,h1,h,h2,h3,h4⟩
theorem wD {α:Type}{xs:List α}{j:Nat}{v:α}(h:xs[j]?=some v):wF xs (j:Int)=some v:=by
 have hj:j < xs.length:=(List.getElem?_eq_some_iff.mp h).1
 have e:Pa xs.length (j:Int)=some j:=by
  unfold Pa
  rw[if_pos (by omega),if_pos (by omega)];simp
 unfold wF;rw[e];exact h
noncomputable def IU (b:Expr):Prop:=∀ o i,subscripted b false o i=operate [o,i] (getItem o i)
noncomputable def NI (X:Cx)(r:R2):Prop :=
 ∀ (value slice:Expr) (pins:List (Addr×Obj)) (s:Shared) (σ:St) (H:Hp) (x y:V) (v u:Value) (Q:VK),Inv X pins σ H s->RelV x v->RelV y u->r x y H Q ->
  subscripted slice false v u=operate [v,u] (getItem v u)->wpAny (model X.prog X.w) X.A (subscriptTail value slice v u) (EP X pins σ Q) X.xe s
noncomputable def CO (X:Cx)(id:String)(r:V->List V->Hp->VK->Prop):Prop :=
 ∀ (pins:List (Addr×Obj)) (s:Shared) (σ:St) (H:Hp) (x:V) (xs:List V) (v:Value) (us:List Value) (Q:VK),Inv X pins σ H s->RelV x v->Vals xs us->r x xs H Q ->
  wpAny (model X.prog X.w) X.A (call (.builtin id) (v::us)) (EP X pins σ Q) X.xe s
section
variable {X:Cx}{a b:Expr}{ta tb:TE}{pos:Pos}
theorem NI.or {r r':R2}(h:NI X r)(h':NI X r'):NI X (fun x y H Q=>r x y H Q∨r' x y H Q):=by
 intro value slice pins s σ H x y v u Q I rx ry q hs
 rcases q with q | q
 ·exact h value slice pins s σ H x y v u Q I rx ry q hs
 ·exact h' value slice pins s σ H x y v u Q I rx ry q hs
theorem CO.or {id:String}{r r':V->List V->Hp->VK->Prop}(h:CO X id r)(h':CO X id r'):CO X id (fun x xs H Q=>r x xs H Q∨r' x xs H Q):=by
 intro pins s σ H x xs v us Q I rx rs q
 rcases q with q | q
 ·exact h pins s σ H x xs v us Q I rx rs q
 ·exact h' pins s σ H x xs v us Q I rx rs q
theorem WR {r:R2}(hr:NI X r)(ha:PE X a ta)(hb:PE X b tb)(hs:IU b):PE X (.Subscript a b pos) (VZ r ta tb):=by
 intro pins s σ H Q I h
 exact Subscript_ (Vl ha hb I h fun v u s2 x y H2 I2 rx ry q=>hr a b pins s2 σ H2 x y v u Q I2 rx ry q (hs _ _))
noncomputable def WC (K:PySem.W.Frag):R2:=fun x y H Q=>∃ p xs i v,x=.ref p/\y=.int i/\nH K H p xs/\wF xs i=some v/\Q v H
noncomputable def WA (K:PySem.W.Frag):R2:=fun x y H Q=>∃ p xs i v,x=.ref p/\y=.int i/\qh K H p xs/\wF xs i=some v/\Q v H
noncomputable def WB:R2:=fun x y H Q=>∃ z i c,x=.str z/\y=.int i/\z.length<=sizeLine/\wF z.cps.toList i=some c/\Q (.str ⟨#[c]⟩) H
theorem O9:NI X (WC X.K):=by
 intro value slice pins s σ H x y v u Q I rx ry h hs
 obtain⟨p,xs,i,z,rfl,rfl,hq,he,q⟩:=h
 cases rx
 obtain⟨t,rfl⟩:=ry
 obtain⟨its,r,pl,hz⟩:=I.list hq
 obtain⟨j,h1,h2,h3,h4,h5⟩:=CH he
 obtain⟨w,ew,rw'⟩:=r.get h2
 have hl:=r.length
 have hn:=oF
 have fin:EP X pins σ Q w s:=⟨z,H,I,rw',q⟩
 by_cases h0:0<=i
 ·have hj:i.toNat=j:=by
   rw[seqIndex_of h0 h5] at h1
   exact Option.some.inj h1
  exact item_listR pl.isList h0 (by omega) (by rw[hj];simpa using ew) fin hs
 ·have hj:(i+(its.toArray.size:Int)).toNat=j:=by
   rw[seqIndex_neg (by omega) h4] at h1
   rw[List.size_toArray,<- hl]
   exact Option.some.inj h1
  exact subscriptTail_builtinR (x:=w) pl.isList.typeIs slot_list_getitem.lookup
   (wpAny_getItem_list_neg (Q:=fun r s'=>r=w/\EP X pins σ Q r s') pl.isList (by omega) (by rw[List.size_toArray] <;> omega) (by omega) (by rw[hj];simpa using ew) ⟨rfl,fin⟩) hs
theorem UL:NI X (WA X.K):=by
 intro value slice pins s σ H x y v u Q I rx ry h hs
 obtain⟨p,xs,i,z,rfl,rfl,hq,he,q⟩:=h
 cases rx
 obtain⟨t,rfl⟩:=ry
 obtain⟨its,r,pl,hz⟩:=I.tuple hq
 obtain⟨j,h1,h2,h3,h4,h5⟩:=CH he
 obtain⟨w,ew,rw'⟩:=r.get h2
 have hl:=r.length
 have hn:=oF
 have fin:EP X pins σ Q w s:=⟨z,H,I,rw',q⟩
 exact subscriptTail_builtinR (x:=w) pl.typeIs slot_tuple_getitem.lookup
  (getItem_tuple (j:=j) (Q:=fun r s'=>r=w/\EP X pins σ Q r s') pl (by omega) (by omega) (by rw[List.size_toArray,<- hl];exact h1) (by simpa using ew) ⟨rfl,fin⟩) hs
theorem UM:NI X WB:=by
 intro value slice pins s σ H x y v u Q I rx ry h hs
 obtain⟨z,i,c,rfl,rfl,hz,he,q⟩:=h
 obtain⟨t,rfl⟩:=rx
 obtain⟨t',rfl⟩:=ry
 obtain⟨j,h1,h2,h3,h4,h5⟩:=CH he
 have hl:z.cps.toList.length=z.length:=by simp[Str.length]
 rw[hl] at h1 h4 h5
 have hn:=oF
 exact tail_any (typeIs_str s z t) slot_str_getitem.lookup (getItem_str (c:=c) (by
  have e1:decide (i < -(2 ^ 63:Int))=false:=decide_eq_false (by omega)
  have e2:decide (i ≥ 2 ^ 63)=false:=decide_eq_false (by omega)
  rw[e1,e2,Bool.or_false]) (by rw[h1];simpa using h2) ⟨.str ⟨#[c]⟩,H,I.tok _,⟨_,rfl⟩,q⟩) hs
noncomputable def rIx (K:PySem.W.Frag):R2:=fun x y H Q=>WC K x y H Q∨WA K x y H Q∨WB x y H Q
theorem UN:NI X (rIx X.K):=O9.or (UL.or UM)
theorem Ga (its:List Value)(n j:Nat)(u:Value):Obj.mapSeq (·.setIfInBounds j u) { cls:=.type "list",data:=.seq its.toArray n }={ cls:=.type "list",data:=.seq (its.set j u).toArray n }:=by
 simp[Obj.mapSeq]
theorem Inv.lst {pins:List (Addr×Obj)}{σ:St}{H:Hp}{s:Shared}{p:Addr}{xs:List V}(I:Inv X pins σ H s)(h:H p=some (.lst xs)) :
  ∃ (its:List Value) (n:Nat),Vals xs its/\s.heap.get? p=some { cls:=.type "list",data:=.seq its.toArray n }/\xs.length<=sizeLine:=by
 obtain⟨z,its,n,r,e⟩:=I.hok p _ h
 exact⟨its,n,r,e,z⟩
theorem Inv.Tf {pins:List (Addr×Obj)}{σ:St}{H:Hp}{s:Shared}{p:Addr}{xs ys:List V}{its its':List Value}{n n':Nat}{f:Obj->Obj}(I:Inv X pins σ H s)(h:H p=some (.lst xs))
  (ho:s.heap.get? p=some { cls:=.type "list",data:=.seq its.toArray n }) (hf:f { cls:=.type "list",data:=.seq its.toArray n }={ cls:=.type "list",data:=.seq its'.toArray n' }) (r:Vals ys its') (hz:ys.length<=sizeLine) (t:Nat) :
  Inv X pins σ (upd H p (.lst ys)) { s with heap:=s.heap.update p f,toks:=t }:=by
 have e:(s.heap.update p f).get? p=some { cls:=.type "list",data:=.seq its'.toArray n' }:=by
  rw[Heap.get?_update_self f ho (by rw[hf] <;> rfl),hf]
 refine I.write (x:=p) (e:=p) (by rw[h];trivial) (.inl rfl) (fun b u hb q=>(Heap.get?_update_other _ _ (Ne.symm hb)).trans q) ⟨_,e⟩ ?_
 exact⟨hz,its',n',r,e⟩
noncomputable def Wz:V->V->V->Hp->(Hp->Prop)->Prop:=fun o i v H Q=>∃ p xs k j,o=.ref p/\i=.int k/\H p=some (.lst xs)/\Pa xs.length k=some j/\Q (upd H p (.lst (xs.set j v)))
theorem set_list:Zs X Wz:=by
 intro pins s σ H o i v ov iv u Q I ro ri rv h
 obtain⟨p,xs,k,j,rfl,rfl,hp,hj,q⟩:=h
 cases ro
 obtain⟨t,rfl⟩:=ri
 obtain⟨its,n,r,ho,hz⟩:=I.lst hp
 obtain⟨h1,h2,h3,h4⟩:=Ia hj
 have hl:=r.length
 have hn:=oF
 have I':Inv X pins σ (upd H p (.lst (xs.set j v))) { s with heap:=s.heap.update p (Obj.mapSeq (·.setIfInBounds j u)) } :=
  I.Tf hp ho (Ga its n j u) (r.set rv j) (by rw[List.length_set];exact hz) s.toks
 by_cases h0:0<=k
 ·have hk:k.toNat=j:=by
   rw[seqIndex_of h0 h4] at h1
   exact Option.some.inj h1
  exact PySem.W.ki_setAt ho h0 (by omega) (by rw[List.size_toArray,<- hl];exact h4) (by rw[hk];exact⟨_,I',q⟩)
 ·have hk:(k+(its.toArray.size:Int)).toNat=j:=by
   rw[seqIndex_neg (by omega) h3] at h1
   rw[List.size_toArray,<- hl]
   exact Option.some.inj h1
  exact PySem.W.ki_setBack ho (by omega) (by rw[List.size_toArray,<- hl];exact h3) (by omega) (by rw[hk];exact⟨_,I',q⟩)
theorem Bh (lo hi:Option Int)(n:Nat):(sliceBounds lo hi none n).1=((HT.eO n 0 lo:Nat):Int)/\(sliceBounds lo hi none n).2.1=((HT.eO n n hi:Nat):Int)/\(sliceBounds lo hi none n).2.2=1:=by
 refine⟨?_,?_,rfl⟩
 ·cases lo with
  | none=>simp[sliceBounds,HT.eO]
  | some i =>
   simp only[sliceBounds,HT.eO,Option.getD_none,show(1:Int) > 0 by decide,if_true]
   by_cases h:i < 0
   ·simp only[h,if_true] <;> omega
   ·simp only[h,if_false] <;> omega
 ·cases hi with
  | none=>simp[sliceBounds,HT.eO]
  | some i =>
   simp only[sliceBounds,HT.eO,Option.getD_none,show(1:Int) > 0 by decide,if_true]
   by_cases h:i < 0
   ·simp only[h,if_true] <;> omega
   ·simp only[h,if_false] <;> omega
theorem zc (its:List Value)(lo hi:Option Int):slicePick its.toArray lo hi none=((its.drop (HT.eO its.length 0 lo)).take (HT.eO its.length its.length hi - HT.eO its.length 0 lo)).toArray:=by
 obtain⟨h1,h2,h3⟩:=Bh lo hi its.toArray.size
 unfold slicePick
 rw[h1,h2,h3]
 simp only[sliceRange_one,pick_run,List.size_toArray] <;> rfl
noncomputable def a0U (K:PySem.W.Frag):V->Option Int->Option Int->Hp->VK->Prop:=fun x lo hi H Q=>∃ a xs,x=.ref a/\nH K H a xs/\∀ p,H p=none->Q (.ref p) (upd H p (.lst (EE xs lo hi)))
theorem N2:PL X (a0U X.K):=by
 intro pins s σ H x v vl vu lo hi sl Q I rx hs pl pu h
 obtain⟨a,xs,rfl,hx,q⟩:=h
 cases rx
 obtain⟨its,r,ht,hz⟩:=I.list hx
 have hlen:=r.length
 refine⟨"list",_,slot_list_getitem.lookup,ht.isList.typeIs,?_⟩
 refine wpAny_getItem_list_slice ht.isList hs pl pu .none (by simp) ?_ (by rw[List.size_toArray] <;> omega)
 rw[zc,<- hlen]
 refine⟨.ref s.heap.objs.size,_,I.laid (t':=s.toks) (o:=.lst (EE xs lo hi)) (fun b ob q=>Heap.get?_push_of_some _ q) (Nat.le_refl _) ?_,rfl,q _ (I.hok.fresh (Nat.le_refl _))⟩
 exact⟨Nat.le_trans (vf xs lo hi) hz,_,0,(r.drop (HT.eO xs.length 0 lo)).take (HT.eO xs.length xs.length hi - HT.eO xs.length 0 lo),Heap.get?_push_size _ rfl⟩
noncomputable def gD:V->Bool
 | .dR=>true
 | .bl _=>true
 | .int _=>true
 | .str _=>true
 | _=>false
noncomputable def Gx:V->V->Bool
 | .dR,.dR=>true
 | .bl a,.bl b=>a == b
 | .bl a,.int b=>(if a then 1 else 0) == b
 | .int a,.bl b=>a == (if b then 1 else 0)
 | .int a,.int b=>a == b
 | .str a,.str b=>a == b
 | _,_=>false
theorem Gz {A:Around}{s:Shared}{y x:V}{u v:Value}(ry:RelV y u)(rx:RelV x v)(fy:gD y=true)(fx:gD x=true):SeqAt.EqAt A s u v (Gx y x):=by
 cases y with
 | dR =>
  cases ry
  cases x with
  | dR=>cases rx;exact SeqAt.EqAt.same _
  | bl b=>cases rx;exact SeqAt.EqAt.none_bool b
  | int b=>obtain⟨t,rfl⟩:=rx;exact SeqAt.EqAt.none_int b t
  | str b=>obtain⟨t,rfl⟩:=rx;exact SeqAt.EqAt.none_str b t
  | _=>exact absurd (show false=true from fx) Bool.false_ne_true
 | bl a =>
  cases ry
  cases x with
  | dR=>cases rx;exact SeqAt.EqAt.bool_none a
  | bl b=>cases rx;exact SeqAt.EqAt.bool_bool a b
  | int b=>obtain⟨t,rfl⟩:=rx;exact SeqAt.EqAt.bool_int a b t
  | str b=>obtain⟨t,rfl⟩:=rx;exact SeqAt.EqAt.bool_str a b t
  | _=>exact absurd (show false=true from fx) Bool.false_ne_true
 | int a =>
  obtain⟨t',rfl⟩:=ry
  cases x with
  | dR=>cases rx;exact SeqAt.EqAt.int_none a t'
  | bl b=>cases rx;exact SeqAt.EqAt.int_bool a t' b
  | int b=>obtain⟨t,rfl⟩:=rx;exact SeqAt.EqAt.int_int a t' b t
  | str b=>obtain⟨t,rfl⟩:=rx;exact SeqAt.EqAt.int_str a t' b t
  | _=>exact absurd (show false=true from fx) Bool.false_ne_true
 | str a =>
  obtain⟨t',rfl⟩:=ry
  cases x with
  | dR=>cases rx;exact SeqAt.EqAt.str_none a t'
  | bl b=>cases rx;exact SeqAt.EqAt.str_bool a t' b
  | int b=>obtain⟨t,rfl⟩:=rx;exact SeqAt.EqAt.str_int a t' b t
  | str b=>obtain⟨t,rfl⟩:=rx;exact SeqAt.EqAt.str_str a t' b t
  | _=>exact absurd (show false=true from fx) Bool.false_ne_true
 | _=>exact absurd (show false=true from fy) Bool.false_ne_true
noncomputable def Gy (x:V)(u:Value):Bool:=match u with
 | .none=>Gx .dR x
 | .bool b=>Gx (.bl b) x
 | .int i _=>Gx (.int i) x
 | .str z _=>Gx (.str z) x
 | _=>false
theorem MM {x y:V}{u:Value}(r:RelV y u)(f:gD y=true):Gy x u=Gx y x:=by
 cases y with
 | dR=>cases r;rfl
 | bl b=>cases r;rfl
 | int i=>obtain⟨t,rfl⟩:=r;rfl
 | str z=>obtain⟨t,rfl⟩:=r;rfl
 | _=>exact absurd (show false=true from f) Bool.false_ne_true
theorem sW {x:V}:∀ {xs:List V} {us:List Value},Vals xs us->xs.all gD=true->us.any (Gy x)=xs.any fun y=>Gx y x
 | _,_,.nil,_=>rfl
 | y::xs,u::us,.cons r t,f=>by
  rw[List.all_cons,Bool.and_eq_true] at f
  rw[List.any_cons,List.any_cons,MM r f.1,sW t f.2]
theorem oE {A:Around}{s:Shared}{x:V}{v:Value}(rx:RelV x v)(fx:gD x=true):∀ {xs:List V} {us:List Value},Vals xs us->xs.all gD=true->∀ u∈us,SeqAt.EqAt A s u v (Gy x u)
 | _,_,.nil,_=>fun u hu=>by cases hu
 | y::xs,u::us,.cons r t,f=>fun u' hu=>by
  rw[List.all_cons,Bool.and_eq_true] at f
  rcases List.mem_cons.mp hu with rfl | hu
  ·rw[MM r f.1];exact Gz r rx f.1 fx
  ·exact oE rx fx t f.2 u' hu
noncomputable def QV (x:V)(xs:List V):Bool:=xs.any fun y=>Gx y x
noncomputable def rIn (K:PySem.W.Frag)(neg:Bool):R2:=fun x y H Q=>∃ p xs,y=.ref p/\(nH K H p xs∨qh K H p xs)/\gD x=true/\xs.all gD=true/\Q (.bl (if neg then !QV x xs else QV x xs)) H
theorem Ji:nh X (compareOp .In) (rIn X.K false):=by
 intro pins s σ H x y v u Q I rx ry h
 obtain⟨p,xs,rfl,hq,fx,fs,q⟩:=h
 cases ry
 rcases hq with hq | hq
 ·obtain⟨its,r,pl,hz⟩:=I.list hq
  refine SeqAt.in_listAt (Gy x) pl.isList (fun w hw=>oE rx fx r fs w (by simpa using hw)) ⟨.bl _,H,I,rfl,?_⟩
  rw[show its.toArray.any (Gy x)=its.any (Gy x) by simp,sW r fs]
  exact q
 ·obtain⟨its,r,pl,hz⟩:=I.tuple hq
  refine SeqAt.in_tupleAt (Gy x) pl (fun w hw=>oE rx fx r fs w (by simpa using hw)) ⟨.bl _,H,I,rfl,?_⟩
  rw[show its.toArray.any (Gy x)=its.any (Gy x) by simp,sW r fs]
  exact q
theorem BI:nh X (compareOp .NotIn) (rIn X.K true):=by
 intro pins s σ H x y v u Q I rx ry h
 obtain⟨p,xs,rfl,hq,fx,fs,q⟩:=h
 cases ry
 rcases hq with hq | hq
 ·obtain⟨its,r,pl,hz⟩:=I.list hq
  refine SeqAt.notIn_listAt (Gy x) pl.isList (fun w hw=>oE rx fx r fs w (by simpa using hw)) ⟨.bl _,H,I,rfl,?_⟩
  rw[show its.toArray.any (Gy x)=its.any (Gy x) by simp,sW r fs]
  exact q
 ·obtain⟨its,r,pl,hz⟩:=I.tuple hq
  refine SeqAt.notIn_tupleAt (Gy x) pl (fun w hw=>oE rx fx r fs w (by simpa using hw)) ⟨.bl _,H,I,rfl,?_⟩
  rw[show its.toArray.any (Gy x)=its.any (Gy x) by simp,sW r fs]
  exact q
theorem CC:fE X (.builtin "len") (fun xs H Q=>∃ p ys,xs=[.ref p]/\(nH X.K H p ys∨qh X.K H p ys)/\Q (.int ys.length) H):=by
 intro pins s σ H xs us Q I r h
 obtain⟨p,ys,rfl,hq,q⟩:=h
 obtain⟨u,rfl,rx⟩:=vals1 r
 cases rx
 have hn:=oF
 rcases hq with hq | hq
 ·obtain⟨its,r',pl,hz⟩:=I.list hq
  have hlen:=r'.length
  exact Calls.call_len_list pl.isList (by simp only[List.size_toArray] <;> omega) ⟨.int ys.length,H,I.tok _,⟨s.toks+1,by rw[List.size_toArray,hlen]⟩,q⟩
 ·obtain⟨its,r',pl,hz⟩:=I.tuple hq
  have hlen:=r'.length
  exact len_tuple pl (by simp only[List.size_toArray] <;> omega) ⟨.int ys.length,H,I.tok _,⟨s.toks+1,by rw[List.size_toArray,hlen]⟩,q⟩
theorem CB:fE X (.builtin "len") (fun xs H Q=>∃ z,xs=[.str z]/\z.length<=sizeLine/\Q (.int z.length) H):=by
 intro pins s σ H xs us Q I r h
 obtain⟨z,rfl,hz,q⟩:=h
 obtain⟨u,rfl,t,rfl⟩:=vals1 r
 have hn:=oF
 exact len_str (by omega) ⟨.int z.length,H,I.tok _,⟨_,rfl⟩,q⟩
theorem fE.or {f:Value}{r r':List V->Hp->VK->Prop}(h:fE X f r)(h':fE X f r'):fE X f (fun xs H Q=>r xs H Q∨r' xs H Q):=by
 intro pins s σ H xs us Q I rs q
 rcases q with q | q
 ·exact h pins s σ H xs us Q I rs q
 ·exact h' pins s σ H xs us Q I rs q
theorem sR:fE X (.type "list") (fun xs H Q=>∃ p ys,xs=[.ref p]/\(nH X.K H p ys∨qh X.K H p ys)/\∀ l,H l=none->Q (.ref l) (upd H l (.lst ys))):=by
 intro pins s σ H xs us Q I r h
 obtain⟨p,ys,rfl,hq,q⟩:=h
 obtain⟨u,rfl,rx⟩:=vals1 r
 cases rx
 have fin:∀ (its:List Value),Vals ys its->ys.length<=sizeLine->∀ (h':Heap) (c':Nat),(∀ b o',s.heap.get? b=some o'->h'.get? b=some o') ->
   h'.get? s.heap.objs.size=some { cls:=.type "list",dict:=none,data:=.seq its.toArray c',slots:=#[] }->EP X pins σ Q (.ref s.heap.objs.size) { s with heap:=h' }:=fun its r' hz h' c' kp e =>
  ⟨.ref s.heap.objs.size,_,I.laid (t':=s.toks) kp (Nat.le_refl _) (show cG X.prog X.w _ h' _ (.lst ys) from⟨hz,its,c',r',e⟩),rfl,q _ (I.hok.fresh (Nat.le_refl _))⟩
 rcases hq with hq | hq
 ·obtain⟨its,r',pl,hz⟩:=I.list hq
  have hlen:=r'.length
  obtain⟨o,ho,hc,n,hd⟩:=pl.isList
  exact call_list_seq p (.inl rfl) ho hc hd (fun h' c' kp e=>fin its r' hz h' c' kp e) (by simp only[List.size_toArray] <;> omega)
 ·obtain⟨its,r',pl,hz⟩:=I.tuple hq
  have hlen:=r'.length
  obtain⟨o,ho,hc,n,hd⟩:=pl
  exact call_list_seq p (.inr rfl) ho hc hd (fun h' c' kp e=>fin its r' hz h' c' kp e) (by simp only[List.size_toArray] <;> omega)
theorem zE:fE X (.type "tuple") (fun xs H Q=>∃ p ys,xs=[.ref p]/\((nH X.K H p ys/\∀ l,H l=none->Q (.ref l) (upd H l (.tup ys)))∨(qh X.K H p ys/\Q (.ref p) H))):=by
 intro pins s σ H xs us Q I r h
 obtain⟨p,ys,rfl,h⟩:=h
 obtain⟨u,rfl,rx⟩:=vals1 r
 cases rx
 rcases h with ⟨hq,q⟩ | ⟨hq,q⟩
 ·obtain⟨its,r',pl,hz⟩:=I.list hq
  have hlen:=r'.length
  refine call_tuple_list pl.isList (fun h' kp=>?_) (by simp only[List.size_toArray] <;> omega)
  have I1:Inv X pins σ H { s with heap:=h' }:=I.kept (t':=s.toks) kp
  have I2:Inv X pins σ (upd H h'.objs.size (.tup ys)) { s with heap:=h'.push { cls:=.type "tuple",data:=.seq its.toArray } } :=
   I1.laid (t':=s.toks) (fun b o e=>Heap.get?_push_of_some _ e) (Nat.le_refl _) (show cG X.prog X.w _ _ _ (.tup ys) from⟨hz,its,r',IsTup.new _ _⟩)
  exact⟨.ref h'.objs.size,_,I2,rfl,q _ (I1.hok.fresh (Nat.le_refl _))⟩
 ·obtain⟨its,r',pl,hz⟩:=I.tuple hq
  exact call_tuple_same pl ⟨.ref p,H,I,rfl,q⟩
noncomputable def ZD (K:PySem.W.Frag)(T:String)(x:V)(H:Hp):Prop:=match x with
 | .str _=>T="str"
 | .int _=>T="int"
 | .ref p=>(T="list"/\∃ xs,nH K H p xs)∨(T="tuple"/\∃ o,K.lookup p=some o/\o.cls=.type "tuple"/\o.dict=none) ∨
   (T="dict"/\((∃ kvs,H p=some (.dK kvs))∨∃ kvs,H p=some (.dT kvs)))∨(T="set"/\∃ S n,H p=some (.set S n))
 | _=>False
theorem Kr {pins:List (Addr×Obj)}{σ:St}{H:Hp}{s:Shared}{T:String}{x:V}{v:Value}(I:Inv X pins σ H s)(r:RelV x v)(ty:ZD X.K T x H) :
  s.TypeIs v T/\∀ a,v=.ref a->∃ ob,s.heap.get? a=some ob/\ob.dict=none:=by
 cases x with
 | str z =>
  obtain⟨t,rfl⟩:=r
  cases (show T="str" from ty)
  exact⟨typeIs_str s z t,fun _ e=>nomatch e⟩
 | int i =>
  obtain⟨t,rfl⟩:=r
  cases (show T="int" from ty)
  exact⟨typeIs_int s i t,fun _ e=>nomatch e⟩
 | ref p =>
  cases r
  rcases ty with ⟨rfl,xs,hq⟩ | ⟨rfl,o,hk,hc,hd⟩ | ⟨rfl,hk⟩ | ⟨rfl,S,n,hk⟩
  ·obtain⟨its,_,pl,_⟩:=I.list hq
   refine⟨pl.isList.typeIs,fun a e=>?_⟩
   cases e
   obtain⟨o,n,e,c,hd,_⟩:=pl
   exact⟨o,e,hd⟩
  ·refine⟨⟨o,I.tO p o hk,hc⟩,fun a e=>?_⟩
   cases e
   exact⟨o,I.tO _ o hk,hd⟩
  ·have z:∃ o,s.heap.get? p=some o/\o.ExactDict:=by
    rcases hk with ⟨kvs,hk⟩ | ⟨kvs,hk⟩
    ·obtain⟨_,_,_,_,o,_,_,e,ex,_⟩:=I.hok p _ hk
     exact⟨o,e,ex⟩
    ·obtain⟨_,_,_,_,o,_,_,e,ex,_⟩:=I.hok p _ hk
     exact⟨o,e,ex⟩
   obtain⟨o,e,ex⟩:=z
   refine⟨⟨o,e,ex.1⟩,fun a e2=>?_⟩
   cases e2
   exact⟨o,e,ex.2.1⟩
  ·obtain⟨o,_,_,_,e,ex,_⟩:=I.hok p _ hk
   refine⟨⟨o,e,ex.1⟩,fun a e2=>?_⟩
   cases e2
   exact⟨o,e,ex.2.1⟩
 | _=>exact False.elim ty
noncomputable def Wf (K:PySem.W.Frag)(T:String)(r:V->List V->Hp->VK->Prop)(to:TE):TE:=fun σ H Q=>to σ H fun x H1=>ZD K T x H1/\r x [] H1 Q
noncomputable def tBM (K:PySem.W.Frag)(T:String)(r:V->List V->Hp->VK->Prop)(to:TE)(t:TA):TE:=fun σ H Q=>to σ H fun x H1=>ZD K T x H1/\t σ H1 fun xs H2=>r x xs H2 Q
variable {o e:Expr}{es:List Expr}{to:TE}{t:TA}{name:Str}{apos cpos:Pos}{T id:String}{r:V->List V->Hp->VK->Prop}
theorem Sz (pa:PlainAttrs T)(slot:Slot T name id)(hty:typeOf (.builtin id)=pure (.type "method_descriptor"))(hm:CO X id r)(ho:PE X o to)
  (hbase:attributeBase o name X.env (eval o X.env)=eval o X.env:=by rfl) (hline:(apos.endLine == cpos.line)=true:=by rfl):PE X (.Call (.Attribute o name apos) [] [] cpos) (Wf X.K T r to):=by
 intro pins s σ H Q I h
 refine wpAny_Call_method0_late hbase hline (eK (ho pins s σ H _ I h) fun v s1 ⟨x,H1,I1,r1,ty,q1⟩=>?_)
 obtain⟨h1,h2⟩:=Kr I1 r1 ty
 exact⟨T,id,pa,slot,hty,h1,h2,Calls.callWith_builtin rfl (PySem.evalArgs_none (hm pins s1 σ H1 x [] v [] Q I1 r1 .nil q1))⟩
theorem WS (pa:PlainAttrs T)(slot:Slot T name id)(hty:typeOf (.builtin id)=pure (.type "method_descriptor"))(hm:CO X id r)(ho:PE X o to)(ha:PA X (e::es) t)
  (hbase:attributeBase o name X.env (eval o X.env)=eval o X.env:=by rfl)
  (hfew:((backTo cpos (starEach (e::es) X.env)).all (fun x=>!x.1) && (backToKw cpos (keywordEach [] X.env)).all (fun x=>x.1.isSome)
   && decide ((e::es).length+([]:List Keyword).length+(if ([]:List Keyword).isEmpty then 0 else 1) < 30))=true:=by rfl)
  (hline:(apos.endLine == cpos.line)=true:=by rfl) (hs:starEach (e::es) X.env=(false,eval e X.env)::starEach es X.env:=by rfl) (hplain:(backTo cpos (starEach es X.env)).any (·.1)=false:=by rfl) :
  PE X (.Call (.Attribute o name apos) (e::es) [] cpos) (tBM X.K T r to t):=by
 intro pins s σ H Q I h
 refine wpAny_Call_method_late hbase hfew hline rfl (eK (ho pins s σ H _ I h) fun v s1 ⟨x,H1,I1,r1,ty,q1⟩=>?_)
 obtain⟨h1,h2⟩:=Kr I1 r1 ty
 refine⟨T,id,pa,slot,hty,h1,h2,?_⟩
 have hA:=ha cpos pins s1 σ H1 _ I1 q1
 rw[hs] at hA ⊢
 refine Calls.callWith_builtin (by show(false || (backTo cpos (starEach es X.env)).any (·.1))=false;rw[hplain] <;> rfl) (Calls.evalArgs_plain ?_)
 exact eK hA (by rintro us s2 ⟨vs,H2,I2,r2,q2⟩;exact hm pins s2 σ H2 x vs v us Q I2 r1 r2 q2)
end
end L2
namespace L2
open PySem PySem.Spec PyProof.Rows
noncomputable def Zv (X:Cx)(id:String)(r:V->List V->Hp->VK->Prop):Prop :=
 ∀ (pins:List (Addr×Obj)) (s:Shared) (σ:St) (H:Hp) (x:V) (xs:List V) (v:Value) (us:List Value) (Q:VK),Inv X pins σ H s->RelV x v->Vals xs us->r x xs H Q ->
  wpAny (model X.prog X.w) X.A (call (.builtin id) (v::us)) (EP X pins σ Q) X.xe s
theorem Vals.one:∀ {x:V} {us:List Value},Vals [x] us->∃ u,us=[u]/\RelV x u
 | _,_,.cons r .nil=>⟨_,rfl,r⟩
theorem Vals.two:∀ {x y:V} {us:List Value},Vals [x,y] us->∃ u v,us=[u,v]/\RelV x u/\RelV y v
 | _,_,_,.cons r (.cons q .nil)=>⟨_,_,rfl,r,q⟩
theorem Vals.zero:∀ {us:List Value},Vals [] us->us=[]
 | _,.nil=>rfl
theorem Vals.rep {xs:List V}{us:List Value}(h:Vals xs us):∀ k:Nat,Vals (List.replicate k xs).flatten (List.replicate k us).flatten
 | 0=>.nil
 | k+1=>by
  rw[List.replicate_succ,List.replicate_succ,List.flatten_cons,List.flatten_cons]
  exact Vals.append h (Vals.rep h k)
theorem foldl_rep (its:List Value):∀ (k:Nat) (acc:List Value),
  List.foldl (fun x1 x2=>x1++x2) acc.toArray (List.replicate k its.toArray)=(acc++(List.replicate k its).flatten).toArray
 | 0,acc=>by simp
 | k+1,acc=>by
  have e:acc.toArray++its.toArray=(acc++its).toArray:=by simp
  have e2:(acc++its)++(List.replicate k its).flatten=acc++(List.replicate (k+1) its).flatten:=by
   rw[List.replicate_succ,List.flatten_cons,List.append_assoc]
  rw[<- e2,<- foldl_rep its k (acc++its),<- e,List.replicate_succ,List.foldl_cons]
section
variable {X:Cx}{pins:List (Addr×Obj)}{σ:St}{H:Hp}{s:Shared}{l b:Addr}{xs ys zs:List V}
theorem Inv.L6 {its its':List Value}{n:Nat}{f:Array Value->Array Value}{t':Nat}(I:Inv X pins σ H s)(hH:H l=some (.lst xs))
  (e:s.heap.get? l=some { cls:=.type "list",data:=.seq its.toArray n }) (hf:f its.toArray=its'.toArray) (hv:Vals ys its') (hz:ys.length<=sizeLine) :
  Inv X pins σ (upd H l (.lst ys)) { s with heap:=s.heap.update l (Obj.mapSeq f),toks:=t' }:=by
 have q:=PySem.IsL.update e f
 rw[hf] at q
 refine I.write (x:=l) (e:=l) (by rw[hH];exact trivial) (.inl rfl) (fun b' u hb hu=>(Heap.get?_update_other s.heap (Obj.mapSeq f) (Ne.symm hb)).trans hu) ⟨_,q⟩ ?_
 exact⟨hz,its',_,hv,q⟩
theorem Inv.Xj {its:List Value}{t':Nat}(I:Inv X pins σ H s)(hv:Vals ys its)(hz:ys.length<=sizeLine) :
  Inv X pins σ (upd H s.heap.objs.size (.lst ys)) { s with heap:=s.heap.push { cls:=.type "list",data:=.seq its.toArray },toks:=t' } :=
 I.laid (fun _ _ q=>Heap.get?_push_of_some _ q) (Nat.le_refl _) ⟨hz,its,0,hv,Heap.get?_push_size _ rfl⟩
theorem Inv.fresh (I:Inv X pins σ H s):H s.heap.objs.size=none:=I.hok.fresh (Nat.le_refl _)
theorem Inv.Cc (I:Inv X pins σ H s)(hH:H l=some (.lst xs)):xs.length<=sizeLine/\∃ (its:List Value) (n:Nat),Vals xs its/\xs.length=its.length/\s.heap.get? l=some { cls:=.type "list",data:=.seq its.toArray n }:=by
 obtain⟨z,its,n,r,e⟩:=I.hok l _ hH
 exact⟨z,its,n,r,r.length,e⟩
theorem xV {n:Nat}(h:n<=sizeLine):Builtin.List.listTooLong n=false:=by
 unfold Builtin.List.listTooLong
 exact decide_eq_false (by omega)
end
section
variable {X:Cx}
noncomputable def Od:V->List V->Hp->VK->Prop:=fun x vs H Q=>∃ l xs y,x=.ref l/\vs=[y]/\H l=some (.lst xs)/\xs.length < sizeLine/\Q .dR (upd H l (.lst (xs++[y])))
theorem Jv:Zv X "list.append" Od:=by
 intro pins s σ H x vs v us Q I rx rv h
 obtain⟨l,xs,y,rfl,rfl,hH,hz,q⟩:=h
 cases rx
 obtain⟨u,rfl,ru⟩:=rv.one
 obtain⟨z,its,n,r,hl,e⟩:=I.Cc hH
 refine call_meets F.slot_list_append ⟨_,e,rfl⟩ F.entry_list_append (F.args_list_append_2 _ _) (PySem.list_append l its.toArray n u (by rw[List.size_toArray];omega)) ⟨e,?_⟩
 refine⟨.dR,_,I.L6 (its':=its++[u]) hH e (by simp) (r.append (.cons ru .nil)) ?_,rfl,q⟩
 rw[List.length_append,List.length_singleton]
 omega
noncomputable def Ob:V->List V->Hp->VK->Prop:=fun x vs H Q=>∃ l b xs zs,x=.ref l/\vs=[.ref b]/\H l=some (.lst xs)/\H b=some (.lst zs)/\xs.length+zs.length<=sizeLine/\Q .dR (upd H l (.lst (xs++zs)))
theorem Ju:Zv X "list.extend" Ob:=by
 intro pins s σ H x vs v us Q I rx rv h
 obtain⟨l,b,xs,zs,rfl,rfl,hH,hB,hz,q⟩:=h
 cases rx
 obtain⟨u,rfl,ru⟩:=rv.one
 cases ru
 obtain⟨z,its,n,r,hl,e⟩:=I.Cc hH
 obtain⟨z2,its2,n2,r2,hl2,e2⟩:=I.Cc hB
 have hsz:its.toArray.size+its2.toArray.size<=sizeLine:=by rw[List.size_toArray,List.size_toArray];omega
 have Eu:¬ (!its.toArray.isEmpty && Builtin.List.listTooLong (its.toArray.size+its2.toArray.size))=true:=by
  rw[xV hsz,Bool.and_false]
  exact Bool.false_ne_true
 refine call_meets F.slot_list_extend ⟨_,e,rfl⟩ F.entry_list_extend (F.args_list_extend_2 _ _)
  (AutoSeq1.list_extend_list_list_0 l its.toArray n b its2.toArray n2 Eu (by rw[List.size_toArray];omega) (by omega)) ⟨e,e2,?_⟩
 refine⟨.dR,_,I.L6 (its':=its++its2) hH e (by simp) (r.append r2) ?_,rfl,q⟩
 rw[List.length_append]
 omega
noncomputable def RX:V->List V->Hp->VK->Prop:=fun x vs H Q=>∃ l xs,x=.ref l/\vs=[]/\H l=some (.lst xs)/\Q .dR (upd H l (.lst []))
theorem LZ:Zv X "list.clear" RX:=by
 intro pins s σ H x vs v us Q I rx rv h
 obtain⟨l,xs,rfl,rfl,hH,q⟩:=h
 cases rx
 have hus:=rv.zero
 subst hus
 obtain⟨z,its,n,r,hl,e⟩:=I.Cc hH
 refine call_meets F.slot_list_clear ⟨_,e,rfl⟩ F.entry_list_clear (F.args_list_clear_1 _) (AutoSeq1.list_clear_list_0 l its.toArray n (by rw[List.size_toArray];omega)) ⟨e,?_⟩
 exact⟨.dR,_,I.L6 (its':=[]) (ys:=[]) hH e rfl .nil (Nat.zero_le _),rfl,q⟩
noncomputable def a0Z:R2:=fun x y H Q=>∃ l b xs zs,x=.ref l/\y=.ref b/\H l=some (.lst xs)/\H b=some (.lst zs)/\xs.length+zs.length<=sizeLine/\∀ p,H p=none->Q (.ref p) (upd H p (.lst (xs++zs)))
theorem SN:nh X (binaryOp .Add) a0Z:=by
 intro pins s σ H x y v u Q I rx ry h
 obtain⟨l,b,xs,zs,rfl,rfl,hH,hB,hz,q⟩:=h
 cases rx
 cases ry
 obtain⟨z,its,n,r,hl,e⟩:=I.Cc hH
 obtain⟨z2,its2,n2,r2,hl2,e2⟩:=I.Cc hB
 refine PySem.P.add_list e e2 ?_ (by rw[List.size_toArray,List.size_toArray];omega)
 have ea:its.toArray++its2.toArray=(its++its2).toArray:=by simp
 rw[ea]
 exact⟨.ref _,_,I.Xj (t':=s.toks) (r.append r2) (by rw[List.length_append];omega),rfl,q _ I.fresh⟩
noncomputable def a0V:R2:=fun x y H Q=>∃ l k xs,x=.ref l/\y=.int k/\H l=some (.lst xs)/\-(2 ^ 63)<=k/\k < 2 ^ 63/\xs.length*k.toNat<=sizeLine /\
 ∀ p,H p=none->Q (.ref p) (upd H p (.lst (List.replicate k.toNat xs).flatten))
theorem len_rep {α:Type}(xs:List α)(k:Nat):(List.replicate k xs).flatten.length=k*xs.length:=by
 induction k with
 | zero=>simp
 | succ k ih=>rw[List.replicate_succ,List.flatten_cons,List.length_append,ih,Nat.succ_mul,Nat.add_comm]
theorem SG:nh X (binaryOp .Mult) a0V:=by
 intro pins s σ H x y v u Q I rx ry h
 obtain⟨l,k,xs,rfl,rfl,hH,h1,h2,hz,q⟩:=h
 cases rx
 obtain⟨t,rfl⟩:=ry
 obtain⟨z,its,n,r,hl,e⟩:=I.Cc hH
 have hlen:its.toArray.size*k.toNat<=sizeLine:=by rw[List.size_toArray,<- hl];exact hz
 have hcap:¬ its.toArray.size*k.toNat > (2 ^ 63 - 1) / 8:=by
  have:(sizeLine:Nat)<=(2 ^ 63 - 1) / 8:=by decide
  omega
 have hfit:¬ (!Builtin.List.listFitsIndex k)=true:=by
  rw[fitsIndex_both h1 h2]
  exact Bool.false_ne_true
 have Eu:¬ Builtin.List.listTooLong (its.toArray.size*k.toNat)=true:=by
  rw[xV hlen]
  exact Bool.false_ne_true
 have hnew:List.foldl (fun x1 x2=>x1++x2) #[] (List.replicate (if its.toArray.isEmpty=true then 0 else k.toNat) its.toArray)=(List.replicate k.toNat its).flatten.toArray:=by
  have f0:∀ m:Nat,List.foldl (fun x1 x2=>x1++x2) #[] (List.replicate m its.toArray)=(List.replicate m its).flatten.toArray:=fun m=>by
   have:=foldl_rep its m []
   rw[List.nil_append] at this
   exact this
  rw[f0]
  cases its with
  | nil=>simp
  | cons a r'=>rw[if_neg (by simp)]
 refine wpAny_binaryOp_repeat_ref (T:="list") (U:="int") (by decide) ⟨_,e,rfl⟩ (fun s'=>typeIs_int s' k t) noFill_list_mul F.fills_int_mul F.slot_int_rmul repeat_list F.slot_int_index.lookup
  (call_meets F.slot_int_rmul (typeIs_int s k t) F.entry_int_rmul (F.args_int_rmul_2 _ _) (int___rmul___int_list k t l its.toArray n)
   ⟨e,rfl,⟨_,e,rfl⟩,call_meets F.slot_list_mul ⟨_,e,rfl⟩ F.entry_list_mul (F.args_list_mul_2 _ _) (AutoListH.list___mul___list_int_3 l its.toArray n k t hfit hcap Eu) ⟨e,?_⟩⟩)
 rw[hnew]
 exact⟨.ref _,_,I.Xj (t':=s.toks) (r.rep k.toNat) (by rw[len_rep,Nat.mul_comm];exact hz),rfl,q _ I.fresh⟩
end
section
variable {prog:Program}{w:World}{A:Around}{E:Value->Shared->Prop}{s:Shared}
end
section
variable {X:Cx}
end
end L2
namespace Att
open PySem PySem.W PySem.Calls PyProof.Rows
theorem vH {P:Params}{h:Heap}:∀ (ns:List Int) (vs:List Value),WellAll P h vs (ns.map WData.int)->IntsAre vs ns:=by
 intro ns
 induction ns with
 | nil =>
  intro vs w
  rw[List.map_nil] at w
  cases w
  exact .nil
 | cons n ns ih =>
  intro vs w
  rw[List.map_cons] at w
  cases w with
  | cons a b =>
   cases a
   exact .cons _ _ (ih _ b)
theorem Ja {l:OpenLaw}{n:Nat}(hn:l.most=some n){P:Params}{h:Heap}{args:List WData}{vals:List Value}
  (hpre:l.row.toRowW.claim.pre args=true) (hwl:WellAll P h vals args) :
  ∃ a vs ns,vals=[Value.ref a]/\args=[WData.list (ns.map WData.int)]/\h.get? a=some { cls:=.type "list",data:=.seq vs.toArray }/\IntsAre vs ns/\ns.length<=n:=by
 have hsh:WShape.hasAll [] args [.list .int]=true:=(pre_splitW hpre).1
 have hc:l.pre.holds [] { args:=args }=true:=(pre_splitW hpre).2
 obtain⟨d,r,rfl,h1,h2⟩:=hasAllW_cons hsh
 obtain rfl:=hasAllW_nil h2
 obtain⟨xs,rfl,h3⟩:=hasW_list h1
 obtain⟨ns,rfl⟩:=items_int h3
 have hlen:ns.length<=n:=by
  unfold OpenLaw.pre at hc
  have h4:(WTm.not (.lt (.lit (.int (n:Int))) (.len (.arg 0)))).holds [] { args:=[.list (ns.map .int)] }=true:=by
   have h4:=(holds_andW hc).1
   rw[hn] at h4
   exact h4
  have h5:=condW_of h4 (w_not (w_lt w_lit (w_len_list (w_arg rfl))))
  rw[List.length_map] at h5
  refine Nat.le_of_not_lt fun q=>?_
  have q':(n:Int) < ((ns.length:Nat):Int):=by omega
  first
   | (rw[decide_eq_true q'] at h5;exact absurd h5 (by decide))
   | (simp at h5;omega)
 cases hwl with
 | cons w1 w2 =>
  cases w2
  cases w1 with
  | list ho hall=>exact⟨_,_,ns,rfl,rfl,ho,vH ns _ hall,hlen⟩
theorem Je (l:OpenLaw)(args:List WData):l.row.toRowW.claim.post args (.bool true) args=true :=
 postW_of (r:=l.row.toRowW) (X:=(true == true))
  (show WShape.has [] (.bool true) .bool=true by first | rfl | decide | simp[WShape.has,WShape.arms,WShape.armsAll])
  (show(WTm.eq .res (.lit (.bool true))).value [] { args:=args,res:=some (.bool true),after:=args }=some (.bool (true == true)) from w_eq_bool (w_res rfl) w_lit) rfl
theorem ES {l:OpenLaw}{n:Nat}{q:Program}{loose:List Str}{XP:(Str->Option Value)->Heap->Prop}{YP:World->Heap->Prop}{d:DefRec}
  (hn:l.most=some n) (hdf:d.params.defaults=[])
  (call:∀ (w:World) (s₀ s₁:Shared) (mg mb:Str->Option Value) (fa:Addr) (o:Obj) (pm cd doc:Value) (a:Addr) (vs:List Value) (ns:List Int),
   Ground q loose [] XP w s₀ mg mb s₁.heap->YP w s₁.heap ->
   s₁.heap.get? fa=some o->o.data=.func (docDef d.name d.params d.body d.scope pm cd doc)->s₁.heap.CodeRec cd d.name->mg d.name=some (.ref fa) ->
   s₁.heap.get? a=some { cls:=.type "list",data:=.seq vs.toArray }->IntsAre vs ns->ns.length<=n->s₁.gens=#[] ->
   codeAny (model l.prog w) callerA (.call (.ref fa) ⟨[.ref a],[]⟩) (fun r s'=>r=.ok (.ret (.bool true))/\OldK s₁.heap s'.heap/\s'.os=s₁.os/\AllBare s'.gens) s₁) :
  WalkO q loose XP YP l.row.toRowW d [] (fun f vs=>PySem.call f vs):=by
 intro w s₀ s₁ mg mb G Y fa o pm cd doc dV kV ho hd hcd hD hmg hg args vals as hpre hlay hrd hwl hlo
 obtain rfl:dV=.none:=Dflts.none hD hdf
 obtain rfl:kV=.none:=Dflts.noKw hD
 obtain⟨a,vs,ns,rfl,rfl,hobj,hints,hlen⟩:=Ja hn hpre hwl
 refine enter_call (codeAny_mono (call w s₀ s₁ mg mb fa o pm cd doc a vs ns G Y ho (fd_plain hd) hcd hmg hobj hints hlen hg) fun r s' hq=>?_)
 obtain⟨rfl,h2,h3,h4⟩:=hq
 exact⟨.inl ⟨.bool true,.bool true,[],rfl,fun _=>rfl,.bool true,Je l _,fun _=>⟨List.Pairwise.nil,fun _ hm=>(nomatch hm)⟩⟩,h2,h3,h4⟩
section
variable {prog:Program}{w:World}{A:Around}{E:Value->Shared->Prop}{s:Shared}{K:Frag}
end
end Att
namespace L2
open PySem PySem.Spec PyProof.Rows
theorem z8:∀ {vs:List Value} {ns:List Int},IntsAre vs ns->Vals (ns.map V.int) vs
 | _,_,.nil=>.nil
 | _,_,.cons n t h=>.cons ⟨t,rfl⟩ (z8 h)
noncomputable def Vt (H:Hp):Prop:=∀ b,H b=none∨∃ o xs,H b=some (.Gu o (.lst xs))
theorem Me {P:Program}{w:World}{K:PySem.W.Frag}{mg mb:Str->Option Value}{CX:IV}{k:Nat}{fa a:Addr}{fd:FuncData}{x:Str}{sp:Sp}{s₁:Shared}{vs:List Value}{ns:List Int}
  (KX:K.In s₁.heap) (hns:s₁.heap.Ns mainGlobals mg) (hb:s₁.heap.Ns builtinsNs mb) (hbb:∀ x:Str,x≠"__name__"->mb x=bootBuiltins x) (hlim:s₁.heap.NoLimit) (hg:s₁.gens=#[])
  (ha:s₁.heap.get? a=some { cls:=.type "list",data:=.seq vs.toArray }) (hi:IntsAre vs ns) (hl:ns.length<=sizeLine) (hr:dg k callerA)
  (F:∀ base:Heap,K.In base->base.Ns mainGlobals mg->aE P w K mg base CX k fa fd [x] sp) (hbind:∀ (s:Shared) (u:Value),BindsTo s fd ⟨[u],[]⟩ [(x,u)])
  (Q0:∀ H:Hp,Vt H->nH K H a (ns.map V.int)->sp [.ref a] H (fun v _=>v=.bl true) fun _ _ _=>False)
  (hCX:∀ H e s',CX [] H s₁ (fun _ _ _=>False) e s'->False) :
  codeAny (model P w) callerA (.call (.ref fa) ⟨[.ref a],[]⟩) (fun r s'=>r=.ok (.ret (.bool true))/\OldK s₁.heap s'.heap/\s'.os=s₁.os/\AllBare s'.gens) s₁:=by
 have rv:=z8 hi
 have a1k:=hi.length
 have core:∀ H:Hp,Vt H->nH K H a (ns.map V.int)->rK P w H s₁.heap->(∀ b,H b≠none->b=a)->(H a≠none->K.lookup a=none) ->
   codeAny (model P w) callerA (.call (.ref fa) ⟨[.ref a],[]⟩) (fun r s'=>r=.ok (.ret (.bool true))/\OldK s₁.heap s'.heap/\s'.os=s₁.os/\AllBare s'.gens) s₁:=by
  intro H hO hS hok hA hK
  have IP:∀ {b:Addr} {o:Obj},s₁.heap.get? b=some o->H b=none->(Co s₁.heap H).get? b=some o:=fun e n=>My e n
  have W7:∀ {b:Addr} {o:Obj} {es:Array DictEntry} {ep:Nat},s₁.heap.get? b=some o->o.data=.dict es ep->H b=none:=fun {b o es ep} e d=>by
   cases q:H b with
   | none=>rfl
   | some u =>
    have e':b=a:=hA b (by rw[q];simp)
    subst e'
    rw[ha] at e;cases e
    have d':Data.seq vs.toArray _=Data.dict es ep:=d
    cases d'
  have ZI:∀ {b:Addr} {m:Str->Option Value},s₁.heap.Ns b m->(Co s₁.heap H).Ns b m:=fun {b m} ⟨o,es,ep,e,d,r⟩=>⟨o,es,ep,IP e (W7 e d),d,r⟩
  have hKb:K.In (Co s₁.heap H):=fun b o e=>IP (KX b o e) (by
   cases q:H b with
   | none=>rfl
   | some u =>
    have e':b=a:=hA b (by rw[q];simp)
    subst e'
    rw[hK (by rw[q];simp)] at e;cases e)
  have hM:Mod K mg (Co s₁.heap H):=⟨hKb,ZI hns,⟨mb,ZI hb,hbb⟩,let ⟨mc,h1,h2⟩:=hlim;⟨mc,ZI h1,h2⟩⟩
  have e0:GZ P w K mg (Co s₁.heap H) callerA [] s₁ H:=⟨rfl,hM,fun b o e=>OR e,Nat.le_of_eq (JF _ _),trivial,fun b hb=>absurd (show b∈([]:List Addr) from hb) (by simp),hok,.of_eq hg⟩
  refine codeAny_mono ((F _ hKb (ZI hns)).run callerA [] s₁ H ⟨[.ref a],[]⟩ [.ref a] [.ref a] _ _ hr e0 (hbind s₁ (.ref a)) (.cons rfl .nil) (Q0 H hO hS)) fun r s' h=>?_
  cases r with
  | error e=>exact(hCX H e s' h).elim
  | ok fl =>
   cases fl with
   | next=>exact False.elim h
   | brk=>exact False.elim h
   | cont=>exact False.elim h
   | ret u =>
    obtain⟨v,H',os,bare,un,a12,r',q⟩:=h
    have q':v=.bl true:=q
    subst q'
    obtain rfl:u=Value.bool true:=r'
    refine⟨rfl,OldK.of_keep fun b o e=>?_,os,bare⟩
    cases q:H b with
    | none=>exact un.keep b o e q (by intro z;exact absurd (show b∈([]:List Addr) from z) (by simp)) (by simp)
    | some u =>
     rcases hO b with z | ⟨ob,xs,z⟩
     ·rw[q] at z;cases z
     ·have z2:=un.zz b ob _ z
      obtain⟨e1,_⟩:=hok b _ z
      obtain⟨e2,_⟩:=a12 b _ z2
      rw[e] at e1;cases e1
      exact e2
 cases hk:K.lookup a with
 | some o =>
  have e:=KX a o hk
  rw[ha] at e
  cases e
  refine core (fun _=>none) (fun _=>.inl rfl) (.inr ⟨_,vs.toArray,_,hk,rfl,rfl,rfl,by rw[List.size_toArray,a1k];exact hl,by simpa using rv⟩) (fun b u z=>by have z':(none:Option HO)=some u:=z;cases z') (fun b z=>absurd rfl z) fun z=>absurd rfl z
 | none =>
  refine core (fun b=>if b=a then some (.Gu { cls:=.type "list",data:=.seq vs.toArray } (.lst (ns.map V.int))) else none) (fun b=>?_) (.inl (.inr ⟨{ cls:=.type "list",data:=.seq vs.toArray },if_pos rfl⟩)) (fun b u z=>?_) (fun b z=>?_) fun _=>hk
  ·by_cases hb:b=a
   ·exact .inr ⟨_,_,if_pos hb⟩
   ·exact .inl (if_neg hb)
  ·by_cases hb:b=a
   ·have z':=(if_pos hb).symm.trans z
    cases z'
    subst hb
    exact⟨ha,by rw[List.length_map];exact hl,vs,_,rv,ha⟩
   ·have z':=(if_neg hb).symm.trans z
    cases z'
  ·by_cases hb:b=a
   ·exact hb
   ·exact absurd (if_neg hb) z
end L2
namespace L2
open PySem PySem.Spec PyProof.Rows
theorem NN {l:PySem.W.OpenLaw}{n k:Nat}{q:Program}{loose:List Str}{XP:(Str->Option Value)->Heap->Prop}{YP:World->Heap->Prop}{d:DefRec}{K:Params->PySem.W.Frag}{CX:World->IV}{sp:World->Sp}{x:Str}
  (hn:l.most=some n) (hn2:n<=sizeLine) (hdf:d.params.defaults=[]) (hr:dg k callerA)
  (hY:∀ (w:World) (h:Heap),YP w h->(K w.params).In h)
  (F:∀ (w:World) (mg:Str->Option Value) (fa:Addr) (h:Heap),(K w.params).In h->h.Ns mainGlobals mg->mg d.name=some (.ref fa) ->
   ∃ fd:FuncData,(∀ (s:Shared) (u:Value),BindsTo s fd ⟨[u],[]⟩ [(x,u)]) /\
    ∀ base:Heap,(K w.params).In base->base.Ns mainGlobals mg->aE l.prog w (K w.params) mg base (CX w) k fa fd [x] (sp w))
  (Q0:∀ (w:World) (H:Hp) (a:Addr) (ns:List Int),ns.length<=n->Vt H->nH (K w.params) H a (ns.map V.int)->sp w [.ref a] H (fun v _=>v=.bl true) fun _ _ _=>False)
  (hCX:∀ (w:World) (H:Hp) (s:Shared) (e:Value) (s':Shared),CX w [] H s (fun _ _ _=>False) e s'->False) :
  PySem.W.WalkO q loose XP YP l.row.toRowW d [] (fun f vs=>PySem.call f vs):=by
 refine Att.ES hn hdf fun w s₀ s₁ mg mb fa o pm cd doc a vs ns G Y ho hd hcd hmg hobj hints hlen hg=>?_
 have KX:=hY w _ Y
 obtain⟨fd,hb,hF⟩:=F w mg fa _ KX G.T.g hmg
 exact Me KX G.T.g G.T.b G.T.builtins G.T.nolimit hg hobj hints (Nat.le_trans hlen hn2) hr hF hb (fun H hO hS=>Q0 w H a ns hlen hO hS) fun H e s'=>hCX w H s₁ e s'
end L2
namespace L2
open PySem PySem.Spec PyProof.Rows
noncomputable def inClass (s:Stmt)(j:Nat):Stmt:=match s with
 | .ClassDef _ _ _ body _ _ _ _ _ _ _=>body.getD j (.Pass ⟨0,0,0,0⟩)
 | _=>.Pass ⟨0,0,0,0⟩
noncomputable def dD (s:Stmt):Arguments:=match s with
 | .FunctionDef _ a _ _ _ _ _ _ _ _=>a
 | _=>{ posonlyargs:=[],args:=[],vararg:=none,kwonlyargs:=[],kw_defaults:=[],kwarg:=none,defaults:=[] }
noncomputable def ak (s:Stmt):List Stmt:=match s with
 | .FunctionDef _ _ b _ _ _ _ _ _ _=>b
 | _=>[]
noncomputable def af (s:Stmt):Scope:=match s with
 | .FunctionDef _ _ _ _ _ _ sc _ _ _=>sc
 | _=>{ kind:=.function,names:=[],isGenerator:=false,isCoroutine:=false }
noncomputable abbrev bO:IV:=fun _ _ _ _ _ _=>False
noncomputable abbrev E0:XK:=fun _ _ _=>False
theorem An {X:Cx}:Passes bO X E0:=fun _ _ _ _ _ _ _ h=>h.elim
structure bM (K:PySem.W.Frag)(x qual:Str)(st:Stmt)(f:Addr)(fd:FuncData):Prop where
 ex:∃ (oc:Value) (od:Option Addr) (kV doc pm:Value) (an:Option Addr) (cdv ct:Value) (osl:Array (Option Value)),
  fd=PySem.W.fnOf x qual (dD st) (ak st) (af st) .none kV doc pm an cdv ct/\K.lookup f=some ⟨oc,od,.func fd,osl⟩/\PySem.W.codeIn K cdv qual=true
 kp:PySem.W.keepIn K (.ref f)=true
section
variable {P:Program}{w:World}{K:PySem.W.Frag}{mg:Str->Option Value}{base:Heap}
theorem bM.ok {x qual:Str}{st:Stmt}{f:Addr}{fd:FuncData}{N ps:List Str}{k:Nat}{sp:Sp}(F:bM K x qual st f fd)(S:ao N ps (af st))(len:∀ vs H Q E,sp vs H Q E->vs.length=ps.length)
  (hbody:∀ (cdv:Value) (A:Around) (outer:List Env) (s:Shared) (H:Hp) (vs:List V) (Q:VK) (E:XK),dg k (A.deeper (envOfC qual (af st) s.heap.objs.size f cdv))->sp vs H Q E ->
   ∃ t,Dh (EC bO P w K mg base N qual (af st) f cdv A outer s H E).Vx (ak st) t/\t { nx:=fun _ H'=>Q .dR H',rt:=Q } (start N vs) H):aE P w K mg base bO (k+1) f fd ps sp:=by
 obtain⟨oc,od,kV,doc,pm,an,cdv,ct,osl,rfl,lk,hcd⟩:=F.ex
 refine YX lk hcd S len fun A outer s H vs Q E hr Q0=>?_
 obtain⟨t,h,q⟩:=hbody cdv A outer s H vs Q E hr Q0
 exact⟨t,h.Vx,q⟩
theorem bM.binds {x qual:Str}{st:Stmt}{f:Addr}{fd:FuncData}{ps:List Str}(F:bM K x qual st f fd)
  (h:∀ (kV doc pm:Value) (an:Option Addr) (cdv ct:Value) (us:List Value),us.length=ps.length->bindArgs (PySem.W.fnOf x qual (dD st) (ak st) (af st) .none kV doc pm an cdv ct) ⟨us,[]⟩=pure (ps.zip us)):Binds K fd ps []:=by
 obtain⟨oc,od,kV,doc,pm,an,cdv,ct,osl,rfl,lk,hcd⟩:=F.ex
 exact .all (h kV doc pm an cdv ct)
theorem U0 {x qual:Str}{st:Stmt}{f:Addr}{oc:Value}{od an:Option Addr}{osl:Array (Option Value)}{kV doc pm cdv ct:Value}(l:K.lookup f=some ⟨oc,od,.func (PySem.W.fnOf x qual (dD st) (ak st) (af st) .none kV doc pm an cdv ct),osl⟩)
  (c:PySem.W.codeIn K cdv qual=true) (k:PySem.W.keepIn K (.ref f)=true):bM K x qual st f (PySem.W.fnOf x qual (dD st) (ak st) (af st) .none kV doc pm an cdv ct):=⟨⟨oc,od,kV,doc,pm,an,cdv,ct,osl,rfl,l,c⟩,k⟩
end
theorem qE {A:Around}{k:Nat}(hr:dg k A):A.units+1 < cLine:=Nat.lt_of_le_of_lt (Nat.add_le_add_left (by decide:1<=64) _) hr.units
theorem I9 {n:Nat}(h:n<=1000):n < sizeLine:=Nat.lt_of_le_of_lt h (by decide)
section
variable {X:Cx}
end
end L2
namespace L2
open PySem PySem.Spec PyProof.Rows
section
variable {κ:Type} [DecidableEq κ]
noncomputable def rO (kvs:List (κ×V))(k:κ):Option V:=(kvs.find? fun kv=>decide (kv.1=k)).map (·.2)
noncomputable def putK (kvs:List (κ×V))(k:κ)(v:V):List (κ×V) :=
 if (kvs.any fun kv=>decide (kv.1=k))=true then kvs.map (fun kv=>if kv.1=k then (kv.1,v) else kv) else kvs++[(k,v)]
theorem rM {p:κ×V}{r:List (κ×V)}{k:κ}(e:p.1=k):rO (p::r) k=some p.2:=by simp[rO,List.find?_cons,e]
theorem rN {p:κ×V}{r:List (κ×V)}{k:κ}(e:¬ p.1=k):rO (p::r) k=rO r k:=by simp[rO,List.find?_cons,e]
theorem Dl (k:κ):∀ kvs:List (κ×V),(kvs.any fun kv=>decide (kv.1=k))=(rO kvs k).isSome
 | []=>rfl
 | p::r=>by
  rw[List.any_cons]
  by_cases e:p.1=k
  ·simp only[rM e,decide_eq_true e,Bool.true_or,Option.isSome_some]
  ·rw[rN e,decide_eq_false e,Bool.false_or];exact Dl k r
theorem vd (kvs:List (κ×V))(k:κ)(v:V):(putK kvs k v).length<=kvs.length+1:=by
 unfold putK
 split
 ·rw[List.length_map];omega
 ·rw[List.length_append,List.length_cons,List.length_nil];omega
theorem nI.JC {o:Option V}{u:Option Value}(r:nI o u):o.isSome=u.isSome:=by
 cases o with
 | none=>cases u with
  | none=>rfl
  | some _=>exact(show False from r).elim
 | some _=>cases u with
  | none=>exact(show False from r).elim
  | some _=>rfl
theorem nI.getD {o:Option V}{u:Option Value}{d:V}{d':Value}(r:nI o u)(rd:RelV d d'):RelV (o.getD d) (u.getD d'):=by
 cases o with
 | none=>cases u with
  | none=>exact rd
  | some _=>exact(show False from r).elim
 | some _=>cases u with
  | none=>exact(show False from r).elim
  | some _=>exact r
theorem KV.val {kvs:List (κ×V)}{vs:List (κ×Value)}(r:KV kvs vs)(k:κ):nI (rO kvs k) (valueAt vs k):=by
 unfold KV at r
 induction r with
 | nil=>exact True.intro
 | @cons p q ps qs h t ih =>
  obtain⟨h1,h2⟩:=h
  by_cases e:p.1=k
  ·have e':q.1=k:=h1.symm.trans e
   have b:valueAt (q::qs) k=some q.2:=by simp[valueAt,List.find?_cons,e']
   rw[rM e,b];exact h2
  ·have e':¬ q.1=k:=fun z=>e (h1.trans z)
   have b:valueAt (q::qs) k=valueAt qs k:=by simp[valueAt,List.find?_cons,e']
   rw[rN e,b];exact ih
theorem KV.any {kvs:List (κ×V)}{vs:List (κ×Value)}(r:KV kvs vs)(k:κ):(kvs.any fun kv=>decide (kv.1=k))=vs.any fun kv=>decide (kv.1=k):=by
 unfold KV at r
 induction r with
 | nil=>rfl
 | cons h t ih=>rw[List.any_cons,List.any_cons,ih,h.1]
theorem KV.repl {kvs:List (κ×V)}{vs:List (κ×Value)}(r:KV kvs vs)(k:κ){y:V}{u:Value}(ry:RelV y u) :
  KV (kvs.map fun kv=>if kv.1=k then (kv.1,y) else kv) (vs.map fun kv=>if kv.1=k then (kv.1,u) else kv):=by
 unfold KV at r ⊢
 induction r with
 | nil=>exact .nil
 | @cons p q ps qs h t ih =>
  rw[List.map_cons,List.map_cons]
  refine .cons ?_ ih
  obtain⟨h1,h2⟩:=h
  by_cases e:p.1=k
  ·rw[if_pos e,if_pos (h1.symm.trans e)];exact⟨h1,ry⟩
  ·rw[if_neg e,if_neg (fun z=>e (h1.trans z))];exact⟨h1,h2⟩
theorem KV.put {kvs:List (κ×V)}{vs:List (κ×Value)}(r:KV kvs vs)(k:κ){y:V}{u:Value}(ry:RelV y u):KV (putK kvs k y) (stored vs k u):=by
 unfold putK stored
 rw[r.any k]
 by_cases e:(vs.any fun kv=>decide (kv.1=k))=true
 ·rw[if_pos e,if_pos e];exact r.repl k ry
 ·rw[if_neg e,if_neg e];exact Paired.snoc r ⟨rfl,ry⟩
theorem KV.keys {kvs:List (κ×V)}{vs:List (κ×Value)}(r:KV kvs vs):kvs.map (·.1)=vs.map (·.1):=by
 unfold KV at r
 induction r with
 | nil=>rfl
 | cons h t ih=>rw[List.map_cons,List.map_cons,ih,h.1]
theorem KV.length {kvs:List (κ×V)}{vs:List (κ×Value)}(r:KV kvs vs):kvs.length=vs.length:=Paired.length r
end
theorem H9 {P:Program}{w:World}{k:Key}{u:Value}(r:RelV (kV k) u):(aG P w).is k u=true:=by
 cases k with
 | inl i=>obtain⟨t,e⟩:=(show ∃ t,u=Value.int i t from r);subst e;exact Eo P w i t
 | inr x=>obtain⟨t,e⟩:=(show ∃ t,u=Value.str x t from r);subst e;exact cM P w x t
theorem Ax {P:Program}{w:World}:∀ {ks:List Key} {us:List Value},Vals (ks.map kV) us->ItemsAre (aG P w) ks us
 | [],_,r=>by rw[List.map_nil] at r;cases r;exact .nil
 | k::ks,_,r=>by
  rw[List.map_cons] at r
  cases r with
  | cons h t=>exact .cons (H9 h) (Ax t)
noncomputable abbrev KT (H:Hp):List (List Key×V)->List (List Key×Addr×Value)->Prop:=Paired fun p q=>p.1=q.1/\H q.2.1=some (.tup (p.1.map kV))/\RelV p.2 q.2.2
theorem KT.val {H:Hp}{kvs:List (List Key×V)}{xs:List (List Key×Addr×Value)}(r:KT H kvs xs)(k:List Key):nI (rO kvs k) ((atKey xs k).map (·.2)):=by
 induction r with
 | nil=>exact True.intro
 | @cons p q ps qs h t ih =>
  obtain⟨h1,_,h2⟩:=h
  by_cases e:p.1=k
  ·have e':q.1=k:=h1.symm.trans e
   have b:atKey (q::qs) k=some q.2:=by simp[atKey,List.find?_cons,e']
   rw[rM e,b];exact h2
  ·have e':¬ q.1=k:=fun z=>e (h1.trans z)
   have b:atKey (q::qs) k=atKey qs k:=by simp[atKey,List.find?_cons,e']
   rw[rN e,b];exact ih
theorem KT.repl {H:Hp}{kvs:List (List Key×V)}{xs:List (List Key×Addr×Value)}(r:KT H kvs xs)(k:List Key){y:V}{u:Value}(ry:RelV y u) :
  KT H (kvs.map fun kv=>if kv.1=k then (kv.1,y) else kv) (xs.map (putAt k u)):=by
 induction r with
 | nil=>exact .nil
 | @cons p q ps qs h t ih =>
  rw[List.map_cons,List.map_cons]
  refine .cons ?_ ih
  obtain⟨h1,h2,h3⟩:=h
  unfold putAt
  by_cases e:p.1=k
  ·rw[if_pos e,if_pos (h1.symm.trans e)];exact⟨h1,h2,ry⟩
  ·rw[if_neg e,if_neg (fun z=>e (h1.trans z))];exact⟨h1,h2,h3⟩
theorem KT.put {H:Hp}{kvs:List (List Key×V)}{xs:List (List Key×Addr×Value)}(r:KT H kvs xs)(k:List Key){b:Addr}{y:V}{u:Value}(hb:H b=some (.tup (k.map kV)))(ry:RelV y u) :
  KT H (putK kvs k y) (storedH xs k b u):=by
 have e:(kvs.any fun kv=>decide (kv.1=k))=(atKey xs k).isSome:=by
  rw[Dl,(r.val k).JC,Option.isSome_map]
 unfold putK storedH
 rw[e]
 by_cases q:(atKey xs k).isSome=true
 ·rw[if_pos q,if_pos q];exact r.repl k ry
 ·rw[if_neg q,if_neg q];exact Paired.snoc r ⟨rfl,hb,ry⟩
theorem KT.keeps {H H':Hp}{kvs:List (List Key×V)}{xs:List (List Key×Addr×Value)}(r:KT H kvs xs)(ht:∀ b ys,H b=some (.tup ys)->H' b=some (.tup ys)):KT H' kvs xs :=
 Paired.Tc r fun _ _ z=>⟨z.1,ht _ _ z.2.1,z.2.2⟩
section
variable {P:Program}{w:World}{H:Hp}{h:Heap}{a:Addr}
theorem Qn {u:HO}(ok:rK P w H h)(e:Rd H a u):cG P w H h a u:=e.ok ok
theorem AH {kvs:List (Key×V)}(ok:rK P w H h)(e:Rd H a (.dK kvs)):kvs.length<=sizeLine/\(a == sysModules)=false/\∃ vs,KV kvs vs/\h.DictOf (aG P w) a vs :=
 show cG P w H h a (.dK kvs) from Qn ok e
theorem Y7 {kvs:List (Key×V)}(ok:rK P w H h)(e:H a=some (.dK kvs)):kvs.length<=sizeLine/\(a == sysModules)=false/\∃ vs,KV kvs vs/\h.DictOf (aG P w) a vs:=AH ok (.inl e)
theorem Cg {ks:List Key}(ok:rK P w H h)(e:H a=some (.tup (ks.map kV))):(tupleKind (aG P w)).is h ks a:=by
 obtain⟨_,its,r,o,h1,h2,n,h3⟩:=(show cG P w H h a (.tup (ks.map kV)) from ok a _ e)
 exact⟨o,its.toArray,n,h1,h2,h3,by simpa using Ax r⟩
theorem EA {kvs:List (List Key×V)}(ok:rK P w H h)(e:Rd H a (.dT kvs)):kvs.length<=sizeLine/\(a == sysModules)=false /\
  ∃ xs,KT H kvs xs/\h.DictOfH (tupleKind (aG P w)) a xs:=by
 obtain⟨z,y,xs,r,o,es,ep,h1,h2,h3,h4,h5⟩:=(show cG P w H h a (.dT kvs) from Qn ok e)
 refine⟨z,y,xs,r,o,es,ep,h1,h2,h3,h4,fun x hx=>?_,h5⟩
 have all:∀ {l:List (List Key×V)} {m:List (List Key×Addr×Value)},KT H l m->∀ x∈m,(tupleKind (aG P w)).is h x.1 x.2.1:=by
  intro l m q
  induction q with
  | nil=>intro x hx;exact nomatch hx
  | @cons p q ps qs hq t ih =>
   intro x hx
   rcases List.mem_cons.mp hx with e | hx
   ·subst e
    exact Cg ok (by rw[<- hq.1];exact hq.2.1)
   ·exact ih x hx
 exact all r x hx
theorem Y6 {kvs:List (List Key×V)}(ok:rK P w H h)(e:H a=some (.dT kvs)):kvs.length<=sizeLine/\(a == sysModules)=false /\
  ∃ xs,KT H kvs xs/\h.DictOfH (tupleKind (aG P w)) a xs:=EA ok (.inl e)
end
noncomputable def De (H:Hp)(a:Addr)(y:V)(r:Option V):Prop :=
 (∃ kvs k,Rd H a (.dK kvs)/\y=kV k/\r=rO kvs k)∨∃ kvs k b,Rd H a (.dT kvs)/\y=.ref b/\H b=some (.tup (k.map kV))/\r=rO kvs k
noncomputable def Nm (H:Hp)(a:Addr)(y v:V)(H':Hp):Prop :=
 (∃ kvs k,H a=some (.dK kvs)/\y=kV k/\kvs.length < sizeLine/\H'=upd H a (.dK (putK kvs k v))) ∨
 ∃ kvs k b,H a=some (.dT kvs)/\y=.ref b/\H b=some (.tup (k.map kV))/\kvs.length < sizeLine/\H'=upd H a (.dT (putK kvs k v))
theorem De.k {H:Hp}{a:Addr}{kvs:List (Key×V)}{k:Key}(e:H a=some (.dK kvs)):De H a (kV k) (rO kvs k):=.inl ⟨kvs,k,.inl e,rfl,rfl⟩
theorem Nm.k {H:Hp}{a:Addr}{kvs:List (Key×V)}{k:Key}{v:V}(e:H a=some (.dK kvs))(hl:kvs.length < sizeLine):Nm H a (kV k) v (upd H a (.dK (putK kvs k v))):=.inl ⟨kvs,k,e,rfl,hl,rfl⟩
section
variable {X:Cx}{pins:List (Addr×Obj)}{σ:St}{H:Hp}{s:Shared}{a:Addr}{y v:V}{u r:Value}{o:Option V}{A:Around}{E:Value->Shared->Prop}
theorem Inv.big (I:Inv X pins σ H s):sysModules < s.heap.objs.size:=by
 have h:mainGlobals < s.heap.objs.size:=(I.mod.glob.keeps I.bk).lt
 exact Nat.lt_trans (by decide) h
theorem JP {Q:Value->Shared->Prop}(hu:A.units+1 < cLine)(I:Inv X pins σ H s)(g:De H a y (some v))(ry:RelV y u)(h:∀ w' s',Inv X pins σ H s'->RelV v w'->Q w' s') :
  wpAny (model X.prog X.w) A (getItem (.ref a) u) Q E s:=by
 rcases g with ⟨kvs,k,e,ey,l⟩ | ⟨kvs,k,b,e,ey,eb,l⟩
 ·subst ey
  obtain⟨z,hd,vs,rel,dd⟩:=AH I.hok e
  obtain⟨w',hw,rw'⟩:=nI.some_of (v:=v) (o:=valueAt vs k) (by rw[l];exact rel.val k)
  exact wpAny_getItem_of (H9 ry) dd.mapOf hw (h w' _ (I.tok _) rw')
 ·subst ey
  cases (show u=Value.ref b from ry)
  obtain⟨z,hd,xs,rel,dd⟩:=EA I.hok e
  obtain⟨w',hw,rw'⟩:=nI.some_of (v:=v) (o:=(atKey xs k).map (·.2)) (by rw[l];exact rel.val k)
  obtain⟨p,hp,hp2⟩:=Option.map_eq_some_iff.mp hw
  refine wpAny_getItem_heap (tupleKind_room_in1 hu) (Cg I.hok eb) dd hp ?_
  rw[hp2]
  exact h w' _ (I.tok _) rw'
theorem Iz {h':Heap}{t':Nat}{ob:HO}(I:Inv X pins σ H s)(mu:Zu (H a))(hs:Heap.SameBut a s.heap h')(he:∃ q,h'.get? a=some q)(new:cG X.prog X.w (upd H a ob) h' a ob) :
  Inv X pins σ (upd H a ob) { s with heap:=h',toks:=t' } :=
 I.write (x:=a) (e:=a) mu (.inl rfl) (fun b q hb z=>(hs.2 b hb).trans z) he new
theorem U7 {P:Program}{w:World}{H':Hp}{h':Heap}{kvs:List (Key×V)}{vs:List (Key×Value)}(z:kvs.length<=sizeLine)(hd:(a == sysModules)=false)(rel:KV kvs vs)(dd:h'.DictOf (aG P w) a vs) :
  cG P w H' h' a (.dK kvs):=⟨z,hd,vs,rel,dd⟩
theorem JO {H':Hp}{Q:Unit->Shared->Prop}(hu:A.units+1 < cLine)(I:Inv X pins σ H s)(g:Nm H a y v H')(ry:RelV y u)(rv:RelV v r)(h:∀ s',Inv X pins σ H' s'->Q () s') :
  wpAny (model X.prog X.w) A (setItem (.ref a) u r) Q E s:=by
 rcases g with ⟨kvs,k,e,ey,l,eH⟩ | ⟨kvs,k,b,e,ey,eb,l,eH⟩
 ·subst ey eH
  obtain⟨z,hd,vs,rel,dd⟩:=Y7 I.hok e
  have hz:vs.length<=sizeLine:=by rw[<- rel.length];exact z
  have hl:(putK kvs k v).length<=sizeLine:=by have:=vd kvs k v;omega
  refine wpAny_setItem_pairs (hsz:=hz) (H9 ry) dd fun h' Y9 hs=>h _ ?_
  have he:∃ q,h'.get? a=some q:=let ⟨q,_,_,hq,_⟩:=Y9;⟨q,hq⟩
  exact Iz I (by rw[e];exact True.intro) hs he (U7 hl hd (rel.put k rv) Y9)
 ·subst ey eH
  cases (show u=Value.ref b from ry)
  obtain⟨z,hd,xs,rel,dd⟩:=Y6 I.hok e
  have hz:xs.length<=sizeLine:=by rw[<- Paired.length rel];exact z
  have hl:(putK kvs k v).length<=sizeLine:=by have:=vd kvs k v;omega
  refine wpAny_setItem_heap (hsz:=hz) (tupleKind_room_in1 hu) (Cg I.hok eb) dd fun h' Y9 hs=>h _ ?_
  obtain⟨q,es,ep,hq,h2,h3,h4,_,h5⟩:=Y9
  refine Iz I (by rw[e];exact True.intro) hs ⟨q,hq⟩ ⟨hl,hd,_,(rel.put k eb rv).keeps fun c ys ec=>?_,q,es,ep,hq,h2,h3,h4,h5⟩
  rw[bf (W8 ec e (fun z=>nomatch z))]
  exact ec
end
section
variable {X:Cx}{pins:List (Addr×Obj)}{σ:St}{H:Hp}{s:Shared}{a:Addr}{kvs:List (Key×V)}{k:Key}{u:Value}{A:Around}{E:Value->Shared->Prop}
end
noncomputable def Vu (i:Expr):Prop:=∀ ov iv,subscripted i false ov iv=operate [ov,iv] (getItem ov iv)
theorem NZ {prog:Program}{w:World}{A:Around}{E:Value->Shared->Prop}{s:Shared}{env:Env}{value slice:Expr}{pos:Pos}{T id:String}{Q:Value->Shared->Prop}
  (hl:typeLookup (.type T) "__getitem__"=pure (some (.builtin id))) (hs:Vu slice)
  (h:wpAny (model prog w) A (eval value env) (fun o s₁=>wpAny (model prog w) A (eval slice env) (fun i s₂=>s₂.TypeIs o T/\wpAny (model prog w) A (getItem o i) Q E s₂) E s₁) E s) :
  wpAny (model prog w) A (eval (.Subscript value slice pos) env) Q E s:=by
 refine Subscript_ (wpAny_mono h (fun o s₁ h₁=>wpAny_mono h₁ (fun i s₂ h₂=>?_) fun _ _ x=>x) fun _ _ x=>x)
 obtain⟨hT,h₂⟩:=h₂
 unfold subscriptTail
 refine wpAny_bind ?_
 rw[getitemInPython_of_ne hT.not_modules]
 refine wpAny_bind (wpAny_specialOf hT hl ?_)
 have fin:wpAny (model prog w) A (subscripted slice false o i) (fun r s₃=>wpAny (model prog w) A (letTemporaryGo value o r >>= fun _=>pure r) Q E s₃) E s₂:=by
  rw[hs o i]
  exact wpAny_operating (wpAny_mono h₂ (fun r s₃ h₃=>wpAny_bind (wpAny_letTemporaryGo (wpAny_pure h₃))) fun _ _ x=>x)
 first
  | exact wpAny_pure (wpAny_bind fin)
  | exact wpAny_bind (wpAny_pure (wpAny_bind fin))
  | exact wpAny_bind fin
theorem EB {X:Cx}{pins:List (Addr×Obj)}{σ:St}{H:Hp}{s:Shared}{a:Addr}{y:V}{o:Option V}(I:Inv X pins σ H s)(g:De H a y o):s.TypeIs (.ref a) "dict":=by
 rcases g with ⟨kvs,k,e,_,_⟩ | ⟨kvs,k,b,e,_,_,_⟩
 ·obtain⟨_,_,vs,_,dd⟩:=AH I.hok e
  exact dd.typeIs
 ·obtain⟨_,_,xs,_,dd⟩:=EA I.hok e
  exact dd.typeIs
noncomputable def Wb (td ty:TE):TE:=fun σ H Q=>td σ H fun x H1=>ty σ H1 fun y H2=>∃ a v,x=.ref a/\De H2 a y (some v)/\Q v H2
noncomputable def Wv (td ty tv:TE):TS:=fun D σ H=>tv σ H fun v H1=>td σ H1 fun x H2=>ty σ H2 fun y H3=>∃ a H4,x=.ref a/\Nm H3 a y v H4/\D.nx σ H4
section
variable {X:Cx}{o i e value:Expr}{pos pos' tpos:Pos}{td ty tv:TE}
theorem OE (hu:X.A.units+1 < cLine)(ho:PE X o td)(hi:PE X i ty)(hs:Vu i):PE X (.Subscript o i pos) (Wb td ty):=by
 intro pins s σ H Q I h
 refine NZ PySem.F.slot_dict_getitem.lookup hs (eK (ho pins s σ H _ I h) fun u s1 ⟨x,H1,I1,rx,q1⟩=>eK (hi pins s1 σ H1 _ I1 q1) fun iv s2 ⟨y,H2,I2,ry,a,v,ex,g,q2⟩=>?_)
 subst ex
 obtain rfl:u=Value.ref a:=rx
 exact⟨EB I2 g,JP hu I2 g ry fun w' s3 I3 rw'=>⟨v,H2,I3,rw',q2⟩⟩
theorem Ow (hu:X.A.units+1 < cLine)(ho:PE X o td)(hi:PE X i ty)(hv:PE X value tv)(hs:swapsWith value (some (.Subscript o i pos')) pos.line X.env=pure false) :
  PS X (.Assign [.Subscript o i pos'] value pos) (Wv td ty tv):=by
 intro pins s σ H D I h
 refine wpAny_Assign_Subscript (eK (hv pins s σ H _ I h) fun r s1 ⟨v,H1,I1,rv,q1⟩=>eK (ho pins s1 σ H1 _ I1 q1) fun u s2 ⟨x,H2,I2,rx,q2⟩=>eK (hi pins s2 σ H2 _ I2 q2) fun iv s3 ⟨y,H3,I3,ry,a,H4,ex,g,q3⟩=>?_) hs
 subst ex
 obtain rfl:u=Value.ref a:=rx
 exact JO hu I3 g ry rv fun s4 I4=>⟨σ,H4,I4,q3⟩
end
theorem MQ {P:Program}{w:World}{H:Hp}(h:Heap)(hb:sysModules < h.objs.size):cG P w H (h.push { cls:=.type "dict",data:=.dict #[] }) h.objs.size (.dK []) :=
 ⟨Nat.zero_le _,beq_eq_false_iff_ne.mpr (Ne.symm (Nat.ne_of_lt hb)),[],.nil,Heap.DictOf.new h⟩
noncomputable def Rx:TE:=fun _ H Q=>∀ p,H p=none->Q (.ref p) (upd H p (.dK []))
section
variable {X:Cx}{pos:Pos}
theorem LA:PE X (.Dict [] [] pos) Rx:=fun pins s σ H Q I h =>
 wpAny_Dict_empty ⟨.ref s.heap.objs.size,_,I.laid (a:=s.heap.objs.size) (o:=.dK []) (t':=s.toks) (fun _ _ q=>Heap.get?_push_of_some _ q) (Nat.le_refl _) (MQ s.heap I.big),rfl,h _ (I.hok.fresh (Nat.le_refl _))⟩
end
structure M2 (X:Cx)(o:Expr)(m:Str)(apos:Pos)(e f:Expr)(cpos:Pos):Prop where
 base:attributeBase o m X.env (eval o X.env)=eval o X.env
 few:((backTo cpos (starEach [e,f] X.env)).all (fun x=>!x.1) && (backToKw cpos (keywordEach [] X.env)).all (fun x=>x.1.isSome)
  && decide (([e,f]:List Expr).length+([]:List Keyword).length+(if ([]:List Keyword).isEmpty then 0 else 1) < 30))=true
 line:(apos.endLine == cpos.line)=true
 trees:backTo cpos (starEach [e,f] X.env)=[(false,eval e X.env),(false,eval f X.env)]
noncomputable def IsD (H:Hp)(a:Addr):Prop:=(∃ kvs,Rd H a (.dK kvs))∨∃ kvs,Rd H a (.dT kvs)
theorem UP {X:Cx}{pins:List (Addr×Obj)}{σ:St}{H:Hp}{s:Shared}{a:Addr}(I:Inv X pins σ H s)(d:IsD H a) :
  s.TypeIs (.ref a) "dict"/\(∀ b,Value.ref a=.ref b->∃ ob,s.heap.get? b=some ob/\ob.dict=none)/\(a == sysModules)=false:=by
 rcases d with ⟨kvs,e⟩ | ⟨kvs,e⟩
 ·obtain⟨_,hd,vs,_,dd⟩:=AH I.hok e
  refine⟨dd.typeIs,fun b q=>?_,hd⟩
  cases q
  obtain⟨ob,_,_,h1,h2,_⟩:=dd
  exact⟨ob,h1,h2.2.1⟩
 ·obtain⟨_,hd,xs,_,dd⟩:=EA I.hok e
  refine⟨dd.typeIs,fun b q=>?_,hd⟩
  cases q
  obtain⟨ob,_,_,h1,h2,_⟩:=dd
  exact⟨ob,h1,h2.2.1⟩
section
variable {X:Cx}{pins:List (Addr×Obj)}{σ:St}{H:Hp}{s:Shared}{a:Addr}{y d:V}{u r:Value}{o:Option V}{A:Around}{E:Value->Shared->Prop}
theorem U8 {Q:Value->Shared->Prop}(hu:A.units+1 < cLine)(I:Inv X pins σ H s)(g:De H a y o)(ry:RelV y u)(rd:RelV d r)(h:∀ w' s',Inv X pins σ H s'->RelV (o.getD d) w'->Q w' s') :
  wpAny (model X.prog X.w) A (call (.builtin "dict.get") [.ref a,u,r]) Q E s:=by
 rcases g with ⟨kvs,k,e,ey,l⟩ | ⟨kvs,k,b,e,ey,eb,l⟩
 ·subst ey
  obtain⟨z,hd,vs,rel,dd⟩:=AH I.hok e
  refine call_meetsIn PySem.F.slot_dict_get dd.typeIs PySem.F.entry_dict_get (PySem.F.args_dict_get_3 _ _ _) (meets_dict_get_default (aG X.prog X.w) a (H9 ry) hd r) ⟨_,dd.mapOf,h _ _ (I.tok _) ?_⟩
  rw[l]
  exact(rel.val k).getD rd
 ·subst ey
  cases (show u=Value.ref b from ry)
  obtain⟨z,hd,xs,rel,dd⟩:=EA I.hok e
  refine call_meetsIn PySem.F.slot_dict_get dd.typeIs PySem.F.entry_dict_get (PySem.F.args_dict_get_3 _ _ _) (meetsH_dict_get_default (tupleKind (aG X.prog X.w)) a b hd r) ⟨tupleKind_room_in1 hu,k,xs,Cg I.hok eb,dd,h _ _ (I.tok _) ?_⟩
  rw[l]
  exact(rel.val k).getD rd
end
noncomputable def Rz (td ty tx:TE):TE:=fun σ H Q=>td σ H fun x H1=>∃ a,x=.ref a/\IsD H1 a/\ty σ H1 fun y H2=>tx σ H2 fun z H3=>∃ o,De H3 a y o/\Q (o.getD z) H3
section
variable {X:Cx}{o e f:Expr}{apos cpos:Pos}{td ty tx:TE}
theorem LB (hu:X.A.units+1 < cLine)(ho:PE X o td)(he:PE X e ty)(hf:PE X f tx)(m:M2 X o "get" apos e f cpos):PE X (.Call (.Attribute o "get" apos) [e,f] [] cpos) (Rz td ty tx):=by
 intro pins s σ H Q I h
 refine wpAny_Call_method m.base m.few m.line PySem.F.plainAttrs_dict PySem.F.slot_dict_get PySem.F.type_dict_get (eK (ho pins s σ H _ I h) fun u s1 ⟨x,H1,I1,rx,a,ex,d,q1⟩=>?_)
 subst ex
 obtain rfl:u=Value.ref a:=rx
 obtain⟨t1,t2,_⟩:=UP I1 d
 refine⟨t1,t2,?_⟩
 rw[m.trees]
 refine Calls.callWith_builtin rfl (Calls.evalArgs_plain (Calls.spliced_cons (eK (he pins s1 σ H1 _ I1 q1) fun iv s2 ⟨y,H2,I2,ry,q2⟩ =>
  Calls.spliced_cons (eK (hf pins s2 σ H2 _ I2 q2) fun fv s3 ⟨z,H3,I3,rz,ov,g,q3⟩=>Calls.spliced_nil ?_))))
 exact U8 hu I3 g ry rz fun w' s4 I4 rw'=>⟨_,H3,I4,rw',q3⟩
end
section
variable {X:Cx}{pins:List (Addr×Obj)}{σ:St}{H:Hp}{s:Shared}{a:Addr}{kvs:List (Key×V)}{A:Around}{E:Value->Shared->Prop}
end
section
variable {X:Cx}{pins:List (Addr×Obj)}{σ:St}{H:Hp}{s:Shared}{a:Addr}{y:V}{u:Value}{A:Around}{E:Value->Shared->Prop}
end
end L2
namespace L2
open PySem PySem.Spec PyProof.Rows
section
variable {X:Cx}
end
section
variable {κ:Type} [DecidableEq κ]
end
end L2
set_option maxHeartbeats 4000000
namespace L2
open PySem PySem.Spec PyProof.Rows
noncomputable abbrev kY:Value->Shared->Prop:=fun _ _=>False
noncomputable abbrev sN (X:Cx)(sc:Scope)(N:List Str)(cl:List (Str×Addr))(C:Addr)(s:Shared)(H:Hp)(fp:List Addr):Cx :=
 { X with N:=N,s₀:=s,H₀:=H,env:=compEnvC sc cl C X.env,outer:=X.stack,ex:=fp,fn:=fun _=>false,pn:=[],xe:=kY }
noncomputable def Ext (σ σ':St):Prop:=σ'.length=σ.length/\∀ (i:Nat) v,σ[i]?=some (some v)->σ'[i]?=some (some v)
noncomputable def Hh (cs:List Expr)(env:Env):Sem Bool:=forIn cs true fun c r=>if r=true then do let ok <- isTrue c env (eval c env);pure (ForInStep.yield ok) else pure (ForInStep.yield r)
noncomputable def VO (X:Cx)(cs:List Expr)(t:TT):Prop :=
 ∀ (pins:List (Addr×Obj)) (s:Shared) (σ:St) (H:Hp) (Q:Bool->Hp->Prop),Inv X pins σ H s->t σ H Q->wpAny (model X.prog X.w) X.A (Hh cs X.env) (TP X pins σ Q) X.xe s
noncomputable def NX:TT:=fun _ H Q=>Q true H
theorem Om {X:Cx}:VO X [] NX:=fun pins s σ H Q I h=>wpAny_tests_nil ⟨H,I,h⟩
theorem Ol {X:Cx}{c:Expr}{t:TT}(hc:PT X c t):VO X [c] t:=fun pins s σ H Q I h=>wpAny_tests_one (hc pins s σ H Q I h)
section
variable {prog:Program}{w:World}{A:Around}{R:Result->Shared->Prop}{s:Shared}
theorem JR {elt target iter:Expr}{cs:List Expr}{scope:Scope}{pos:Pos}{it acc:Value}{env:Env}(J:Nat->Shared->Prop)
  (turn:∀ n s,J n s->wpAny (model prog w) A (pyNext it) (fun r s1=>match r with
   | none=>R (.ok .next) s1
   | some v=>wpAny (model prog w) A (letOwnedTupleGo target it v) (fun _ s2=>wpAny (model prog w) A (assign target env v) (fun _ s3 =>
     wpAny (model prog w) A (Hh cs env) (fun ok s4=>if ok=true then wpAny (model prog w) A (eval elt env) (fun x s5 =>
       wpAny (model prog w) A (call (.builtin "list.append") [acc,x]) (fun _ s6=>∃ m,m < n/\J m s6) kY s5) kY s4
      else ∃ m,m < n/\J m s4) kY s3) kY s2) kY s1) kY s) (n:Nat) (h:J n s) :
  codeAny (model prog w) A (.compLoop (.ListComp elt [⟨target,iter,cs,0⟩] scope pos) 0 it acc env) R s:=by
 refine codeAny_loop rfl J (fun k s' hk=>?_) n h
 show wpAny (model prog w) A ((compTurn (.ListComp elt [⟨target,iter,cs,0⟩] scope pos) 0 it acc env).onRaise (fun x=>do noteFrame x env;theTreesLotGoes x)) _ _ s'
 refine wpAny_noted ?_
 have no:∀ (e:Value) (s2:Shared),kY e s2->notedBy (model prog w) A env (fun e s'=>R (.error e) s') e s2:=fun _ _ f=>f.elim
 rw[compTurn_list]
 refine wpAny_bind (wpAny_standAt (wpAny_bind (wpAny_mono (turn k s' hk) (fun r s1 g1=>?_) no)))
 cases r with
 | none=>exact wpAny_pure g1
 | some v =>
  refine wpAny_bind (wpAny_mono g1 (fun _ s2 g2=>?_) no)
  refine wpAny_bind (wpAny_mono g2 (fun _ s3 g3=>?_) no)
  refine wpAny_bind (wpAny_mono g3 (fun ok s4 g4=>?_) no)
  cases ok with
  | false=>exact wpAny_pure ⟨rfl,g4⟩
  | true=>exact wpAny_bind (wpAny_bind (wpAny_mono g4 (fun x s5 g5=>wpAny_bind (wpAny_mono g5 (fun _ s6 g6=>wpAny_pure (wpAny_pure ⟨rfl,g6⟩)) no)) no))
end
noncomputable def M7 (J:It)(g:TG)(tt:TT)(te:TE)(σ0:St)(W:Nat->Nat->List V->Hp->Prop)(R:List V->Hp->Prop):Prop :=
 ∀ i m ys H,W i m ys H->(J.stop i H/\R ys H)∨(J.go i H/\∃ F:List V->Hp->Prop,(∀ ys' H',F ys' H'->∃ m',m' < m/\W (i+1) m' ys' H')/\∀ x H',J.Kn i H x H'->g x σ0 H' fun σ2 H2=>Ext σ0 σ2/\tt σ2 H2 fun b H3 =>
  if b=true then te σ2 H3 fun v H4=>ys.length < sizeLine/\F (ys++[v]) H4 else F ys H3)
structure pI (X:Cx)(sc:Scope)(cl:List (Str×Addr))(own:Nat)(N:List Str)(fr:List Nat):Prop where
 kind:sc.kind=.function
 names:∀ x∈sc.names,x.2=.local->sc.names.lookup x.1=some .local
 BZ:∀ x∈sc.names,x.2≠.cell
 clos:closureFor sc X.env=pure cl
 cells:∀ x c,cl.lookup x=some c->X.env.cells.lookup x=some c
 has:∀ x,((relabel sc X.env).names.lookup x=some .cell∨(relabel sc X.env).names.lookup x=some .free)->∃ c,cl.lookup x=some c
 len:N.length=own+fr.length
 Z7:∀ (i:Nat) j,fr[i]?=some j->∃ x,N[own+i]?=some x/\X.N[j]?=some x/\(X.env.kindOf x=some .cell∨X.env.kindOf x=some .free)/\((relabel sc X.env).names.lookup x=some .cell∨(relabel sc X.env).names.lookup x=some .free)
noncomputable def P0 (env:Env):List (Str×Addr)->Prop
 | []=>True
 | p::r=>env.cells.lookup p.1=some p.2/\P0 env r
theorem P0.mem {env:Env}:∀ {cl:List (Str×Addr)},P0 env cl->∀ p∈cl,env.cells.lookup p.1=some p.2
 | [],_,_,h=>nomatch h
 | _::_,h,p,hp=>by
  rcases List.mem_cons.mp hp with rfl | hp
  ·exact h.1
  ·exact h.2.mem p hp
noncomputable def Cj (k:Option NameKind):Bool:=match k with
 | some .cell=>true
 | some .free=>true
 | _=>false
theorem Ic {k:Option NameKind}(h:Cj k=true):k=some .cell∨k=some .free:=by
 cases k with
 | none=>cases h
 | some k=>cases k <;> first | exact .inl rfl | exact .inr rfl | cases h
noncomputable def Im (X:Cx)(sc:Scope):List Str->List Nat->Bool
 | [],[]=>true
 | x::ns,j::fr=>decide (X.N[j]?=some x) && Cj (X.env.kindOf x) && Cj ((relabel sc X.env).names.lookup x) && Im X sc ns fr
 | _,_=>false
theorem Ez {X:Cx}{sc:Scope}:∀ {ns:List Str} {fr:List Nat},Im X sc ns fr=true->ns.length=fr.length/\∀ (i:Nat) j,fr[i]?=some j->∃ x,ns[i]?=some x/\X.N[j]?=some x/\Cj (X.env.kindOf x)=true/\Cj ((relabel sc X.env).names.lookup x)=true
 | [],[],_=>⟨rfl,fun i j h=>by simp at h⟩
 | [],_::_,h=>by cases h
 | _::_,[],h=>by cases h
 | x::ns,j::fr,h=>by
  have h:(decide (X.N[j]?=some x) && Cj (X.env.kindOf x) && Cj ((relabel sc X.env).names.lookup x) && Im X sc ns fr)=true:=h
  rw[Bool.and_eq_true,Bool.and_eq_true,Bool.and_eq_true] at h
  obtain⟨⟨⟨h1,h2⟩,h3⟩,h4⟩:=h
  obtain⟨l,g⟩:=Ez h4
  refine⟨by simp[l],fun i k e=>?_⟩
  cases i with
  | zero=>cases e;exact⟨x,rfl,of_decide_eq_true h1,h2,h3⟩
  | succ i=>exact g i k e
theorem aY {X:Cx}{sc:Scope}{cl:List (Str×Addr)}(WU Io:List Str)(fr:List Nat)(kind:sc.kind=.function)(names:(sc.names.all fun x=>x.2 != .local || sc.names.lookup x.1 == some .local)=true)
  (BZ:(sc.names.all fun x=>x.2 != .cell)=true) (clos:closureFor sc X.env=pure cl) (cells:P0 X.env cl) (has:((relabel sc X.env).names.all fun y=>!Cj (some y.2) || (cl.lookup y.1).isSome)=true)
  (len:Io.length=fr.length) (Z7:Im X sc Io fr=true):pI X sc cl WU.length (WU++Io) fr where
 kind:=kind
 names:=fun x hx hl=>by
  have:=List.all_eq_true.mp names x hx
  rw[hl] at this
  simpa using this
 BZ:=fun x hx=>by simpa using List.all_eq_true.mp BZ x hx
 clos:=clos
 cells:=fun x c h=>cells.mem (x,c) (PySem.mem_of_lookup h)
 has:=fun x h=>by
  obtain⟨k,hk,e⟩:∃ k,(relabel sc X.env).names.lookup x=some k/\Cj (some k)=true:=by
   rcases h with h | h
   ·exact⟨_,h,rfl⟩
   ·exact⟨_,h,rfl⟩
  have:=List.all_eq_true.mp has (x,k) (PySem.mem_of_lookup hk)
  rw[e] at this
  exact Option.isSome_iff_exists.mp (by simpa using this)
 len:=by rw[List.length_append,len]
 Z7:=fun i j e=>by
  obtain⟨_,g⟩:=Ez Z7
  obtain⟨x,e1,e2,e3,e4⟩:=g i j e
  refine⟨x,?_,e2,Ic e3,Ic e4⟩
  rw[List.getElem?_append_right (Nat.le_add_right _ _),Nat.add_sub_cancel_left]
  exact e1
noncomputable def A9 (own:Nat)(fr:List Nat)(σ:St):St:=List.replicate own none++fr.map fun j=>(σ[j]?).join
section
variable {X:Cx}{sc:Scope}{cl:List (Str×Addr)}{own:Nat}{N:List Str}{fr:List Nat}
theorem RH {σ:St}{i:Nat}{v:V}(h:(A9 own fr σ)[i]?=some (some v)):∃ k j,i=own+k/\fr[k]?=some j/\σ[j]?=some (some v):=by
 unfold A9 at h
 by_cases hi:i < own
 ·rw[List.getElem?_append_left (by simpa using hi),List.getElem?_replicate,if_pos hi] at h
  cases h
 ·rw[List.getElem?_append_right (by simpa using hi),List.length_replicate,List.getElem?_map] at h
  cases e:fr[i - own]? with
  | none=>rw[e] at h;cases h
  | some j =>
   rw[e] at h
   have h:(σ[j]?).join=some v:=Option.some.inj h
   refine⟨i - own,j,by omega,e,?_⟩
   cases q:σ[j]? with
   | none=>rw[q] at h;cases h
   | some o=>rw[q] at h;exact congrArg some h
theorem JY {pins:List (Addr×Obj)}{σ:St}{H:Hp}{s:Shared}{fp:List Addr}{h1:Heap}{m1:Str->Option Value}{t:Nat}{C D:Addr}{od:Obj}(S:pI X sc cl own N fr)(I:Inv X pins σ H s)(hfp:∀ b∈fp,vP X pins H b)
  (hob:∀ b∈fp,∃ o,s.heap.get? b=some o) (kp:∀ b o,s.heap.get? b=some o->h1.get? b=some o) (hC:s.heap.objs.size<=C) (hns:h1.Ns C m1) (hD:s.heap.objs.size<=D) (hDC:D≠C) (ho:h1.get? D=some od) (hod:∀ v,od.data≠.cell v) :
  Inv (sN X sc N cl C s H fp) [(D,od)] (A9 own fr σ) H { s with heap:=h1,toks:=t }:=by
 have NY:∀ b∈fp,b < s.heap.objs.size:=fun b hb=>let ⟨o,e⟩:=hob b hb;Heap.lt_size e
 refine⟨⟨I.ok.mod,S.kind,I.ok.glob,I.ok.blt,hC,fun x y c a b=>I.ok.inj x y c (S.cells x c a) (S.cells y c b),S.has,(fun x c z=>nomatch z),I.ok.hd,I.ok.frames,.inl rfl,fun b hb=>?_,I.bs,Nat.le_trans I.ok.Py I.sz,fun b o e hb=>?_,fun b hb hf=>?_,I.stack,I.Ho⟩,
  rfl,I.bare,Un.kept kp,⟨m1,hns,fun i x v e1 e2 e3=>?_⟩,fun x c e=>?_,I.hok.fresh hC,fun x c e=>I.nC x c (S.cells x c e),fun p hp=>?_,I.hok.kept kp,?_⟩
 ·exact⟨Nat.ne_of_lt (Nat.lt_of_lt_of_le (NY b hb) hC),fun x c e=>(hfp b hb).2.2.2.2.1 x c (S.cells x c e)⟩
 ·rcases(hfp b hb).2.2.2.1 with z | z
  ·exact I.ok.LV b o e z
  ·exact absurd (Nat.lt_of_lt_of_le (Heap.lt_size e) (Nat.le_trans I.ok.Py z)) (Nat.lt_irrefl _)
 ·rcases List.mem_cons.mp (I.A8 b hf) with z | z
  ·exact(hfp b hb).2.1 z
  ·exact(hfp b hb).2.2.1 z
 ·obtain⟨k,j,rfl,ej,eσ⟩:=RH e2
  obtain⟨y,n1,n2,k1,k2⟩:=S.Z7 k j ej
  have e1:N[own+k]?=some x:=e1
  rw[n1] at e1
  cases e1
  obtain⟨m,hn,hl⟩:=I.loc
  obtain⟨u,ru,l⟩:=hl j x v n2 eσ (by rcases k1 with z | z;exact .inr (.inl z);exact .inr (.inr z))
  refine⟨u,ru,.inr ⟨k2,?_⟩⟩
  obtain⟨c,hc⟩:=S.has x k2
  refine⟨c,hc,?_⟩
  rcases l with ⟨q,_⟩ | ⟨_,c',e',z⟩
  ·rcases k1 with k1 | k1 <;> (rw[k1] at q;cases q)
  ·have:=S.cells x c hc
   rw[e'] at this;cases this
   obtain⟨o,Q5,h2'⟩:=z
   exact⟨o,kp _ _ Q5,h2'⟩
 ·obtain⟨v,o,Q5,h2'⟩:=I.cell x c (S.cells x c e)
  exact⟨v,o,kp _ _ Q5,h2'⟩
 ·have hp:p=(D,od):=by simpa using hp
  subst hp
  refine⟨ho,I.hok.fresh hD,hDC,fun hf=>?_,hod⟩
  have:D∈X.env.locals::X.fs:=I.A8 D hf
  rcases List.mem_cons.mp this with z | z
  ·exact absurd (Nat.lt_of_lt_of_le I.lt hD) (by rw[z];exact Nat.lt_irrefl _)
  ·exact I.W6 hD z
 ·unfold A9
  rw[List.length_append,List.length_replicate,List.length_map]
  exact S.len.symm
theorem JZ {pins pl:List (Addr×Obj)}{σ τ:St}{H H':Hp}{s s':Shared}{fp:List Addr}{C D:Addr}{ys:List V}{its:List Value}{n:Nat}(I:Inv X pins σ H s)(hfp:∀ b∈fp,vP X pins H b)(hC:s.heap.objs.size<=C)(hD:s.heap.objs.size<=D)
  (B:Inv (sN X sc N cl C s H fp) pl τ H' s') (hn:H' D=none) (ho:s'.heap.get? D=some { cls:=.type "list",data:=.seq its.toArray n }) (r:Vals ys its) (hz:ys.length<=sizeLine) :
  Inv X pins σ (upd H' D (.lst ys)) s':=by
 have ne:∀ b o,s.heap.get? b=some o->b≠D:=fun b o e=>Nat.ne_of_lt (Nat.lt_of_lt_of_le (Heap.lt_size e) hD)
 have nt:∀ b u,H' b=some u->b≠D:=fun b u e=>bG e hn
 refine I.Zh (ch:=fp) B.os ⟨B.base.keep,B.base.slot,fun b o e q hx=>?_,B.base.there,fun b xs e=>?_,fun b o u e=>?_,fun b ps e=>?_⟩ (fun b u e=>?_) B.bare fun b hb=>?_
 ·rw[bf (ne b o e)];exact B.base.free b o e q hx
 ·have:=B.base.tups b xs e;rw[bf (nt _ _ this)];exact this
 ·have:=B.base.zz b o u e;rw[bf (nt _ _ this)];exact this
 ·obtain⟨mo,this⟩:=B.base.A3 b ps e;exact⟨mo,by rw[bf (nt _ _ this)];exact this⟩
 ·by_cases hb:b=D
  ·subst hb
   rw[eZ] at e
   cases e
   exact⟨hz,its,n,r,ho⟩
  ·rw[bf hb] at e
   exact(B.hok b u e).stay (fun _ _ _ q=>q) (fun c q=>by rw[bf (nt _ _ q)];exact q) fun c xs q=>by rw[bf (nt _ _ q)];exact q
 ·obtain⟨_,f1,_,f3,f4,f5⟩:=hfp b hb
  exact⟨f3,f1,f4,f5⟩
end
end L2
namespace L2
open PySem PySem.Spec PyProof.Rows
section
variable {X:Cx}{sc:Scope}{cl:List (Str×Addr)}{own:Nat}{N:List Str}{fr:List Nat}
theorem Inv.Lv {pins xG:List (Addr×Obj)}{σ:St}{H:Hp}{s:Shared}(I:Inv X pins σ H s)(h:∀ p∈xG,p∈pins):Inv X xG σ H s:=I.wo fun p hp=>I.pin p (List.mem_append_right _ (h p hp))
theorem AK {elt tg iter:Expr}{cs:List Expr}{pos:Pos}{g:TG}{tt:TT}{te:TE}{pins:List (Addr×Obj)}{σ:St}{H:Hp}{s:Shared}{it:Addr}{fp:List Addr}{tn:Nat->Heap->Prop}{J:It}{RR:Value->Addr->Result->Shared->Prop}
  (S:pI X sc cl own N fr) (hc:X.calm=true) (I:Inv X pins σ H s) (T:Turn X.prog X.w X.K tg J fp it tn) (st:tn 0 s.heap) (hfp:∀ b∈fp,vP X pins H b)
  (hg:∀ C s H,PG (sN X sc N cl C s H fp) tg g) (ht:∀ C s H,VO (sN X sc N cl C s H fp) cs tt) (he:∀ C s H,PE (sN X sc N cl C s H fp) elt te)
  {W:Nat->Nat->List V->Hp->Prop} {R:List V->Hp->Prop} (w0:∃ m,W 0 m [] H) (walk:M7 J g tt te (A9 own fr σ) W R)
  (fin:∀ D C H' ys s' m,s'.heap.Ns C m->H' D=none->vP X pins (upd H' D (.lst ys)) C->Inv X pins σ (upd H' D (.lst ys)) s'->R ys H'->RR (.ref D) C (.ok .next) s') :
  wpAny (model X.prog X.w) X.A (newList []) (fun acc s3=>wpAny (model X.prog X.w) X.A (newFunctionEnv sc X.env.globals cl [] X.env.qual none .none (some X.env)) (fun cenv s4 =>
   codeAny (model X.prog X.w) X.A (.compStart (.ListComp elt [⟨tg,iter,cs,0⟩] sc pos) 0 (.ref it) acc { cenv with scope:=relabel sc X.env }) (RR acc cenv.locals) s4) X.xe s3) X.xe s:=by
 refine wpAny_newObj_type (wpAny_newFunctionEnv S.BZ (by intro y hy;simp at hy) (fun h1 hns Pf=>?_) S.kind)
 dsimp only at hns Pf ⊢
 generalize hH:s.heap.push { cls:=.type "list",dict:=none,data:=.seq ([]:List Value).toArray }=hp at hns Pf ⊢
 have sC:hp.objs.size=s.heap.objs.size+1:=by rw[<- hH,Heap.size_push]
 have hDC:s.heap.objs.size≠hp.objs.size:=by omega
 have kp:∀ b o,s.heap.get? b=some o->h1.get? b=some o:=fun b o e=>by
  have l:=Heap.lt_size e
  exact Pf.extBut b o (Nat.ne_of_lt (by rw[sC];exact Nat.lt_succ_of_lt l)) (Heap.get?_push_of_some _ (hH ▸ Heap.get?_push_of_some _ e))
 have hD1:h1.get? s.heap.objs.size=some { cls:=.type "list",data:=.seq ([]:List Value).toArray }:=Pf.extBut _ _ hDC (Heap.get?_push_of_some _ (hH ▸ Heap.get?_push_size _ rfl))
 have NY:∀ b∈fp,b < s.heap.objs.size:=fun b hb=>let ⟨o,e,_⟩:=T.obj 0 _ st b hb;Heap.lt_size e
 generalize hCC:hp.objs.size=C at *
 generalize hDD:s.heap.objs.size=D at *
 have I1:∀ t,Inv (sN X sc N cl C s H fp) [(D,{ cls:=.type "list",data:=.seq ([]:List Value).toArray })] (A9 own fr σ) H { s with heap:=h1,toks:=t }:=fun t =>
  JY S I hfp (fun b hb=>let ⟨o,e,_⟩:=T.obj 0 _ st b hb;⟨o,e⟩) kp (by omega) hns (by omega) hDC hD1 (by intro v z;cases z)
 have st1:tn 0 h1:=T.keep 0 _ _ st fun b hb o e=>kp b o e
 have fpo:∀ {H':Hp} {s':Shared} {τ:St} {pl:List (Addr×Obj)} {od:Obj},Inv (sN X sc N cl C s H fp) pl τ H' s'->(∀ p∈pl,p.1=D)->(∀ b∈fp,H' b=none)->∀ b∈fp,vP (sN X sc N cl C s H fp) pl H' b:=fun {H' s' τ pl od} B hpl hn b hb=>by
  have q:=NY b hb
  refine⟨hn b hb,(B.ok.exf b hb).1,B.ok.MK b hb,.inl hb,(B.ok.exf b hb).2,fun p hp=>?_⟩
  have hp:p∈pl:=by simpa using hp
  rw[hpl p hp];exact(Nat.ne_of_lt q).symm
 have loop:∀ t,codeAny (model X.prog X.w) X.A (.compLoop (.ListComp elt [⟨tg,iter,cs,0⟩] sc pos) 0 (.ref it) (.ref D) (compEnvC sc cl C X.env)) (RR (.ref D) C) { s with heap:=h1,toks:=t }:=by
  intro t
  obtain⟨m0,w0⟩:=w0
  refine JR (fun n s'=>∃ i ys its k H',Inv (sN X sc N cl C s H fp) [(D,{ cls:=.type "list",data:=.seq (List.toArray its) k })] (A9 own fr σ) H' s'/\tn i s'.heap/\(∀ b∈fp,H' b=none)/\Vals ys its/\ys.length<=sizeLine/\W i n ys H') ?_ m0
   ⟨0,[],[],_,H,I1 t,st1,fun b hb=>(hfp b hb).1,.nil,Nat.zero_le _,w0⟩
  rintro n s2 ⟨i,ys,its,k,H2,B2,st2,fr2,rv,hz,w2⟩
  have pD:=B2.pin (D,{ cls:=.type "list",data:=.seq (List.toArray its) k }) (List.mem_append_right _ (List.mem_singleton.mpr rfl))
  rcases walk i n ys H2 w2 with ⟨stop,rr⟩ | ⟨go,nx,hnx,tk⟩
  ·refine wpAny_mono (T.done (sN X sc N cl C s H fp) rfl rfl rfl hc i _ s2 _ H2 kY B2 (fpo (od:=default) B2 (by simp) fr2) st2 stop) (fun r s3 ⟨hr,B3⟩=>?_) fun _ _ z=>z
   subst hr
   obtain⟨m3,n3,_⟩:=B3.loc
   have pD3:=B3.pin (D,{ cls:=.type "list",data:=.seq (List.toArray its) k }) (List.mem_append_right _ (List.mem_singleton.mpr rfl))
   refine fin D C H2 ys s3 m3 n3 pD3.2.1 ?_ (JZ I hfp (by omega) (by omega) B3 pD3.2.1 pD3.1 rv hz) rr
   exact I.U3 (by omega) (by rw[bf (Ne.symm hDC)];exact B3.free)
  ·refine wpAny_mono (T.item (sN X sc N cl C s H fp) rfl rfl rfl hc i _ s2 _ H2 kY B2 (fpo (od:=default) B2 (by simp) fr2) st2 go) (fun r s3 ⟨u,hr,g3⟩=>?_) fun _ _ z=>z
   subst hr
   refine wpAny_mono g3 (fun _ s4 ⟨x,H4,B4,rx,y4,st4,fr4⟩=>?_) fun _ _ z=>z
   have B5:=B4.pinned (fpo (od:=default) B4 (by simp) fr4) (T.obj _ _ st4)
   refine wpAny_mono (hg C s H _ s4 _ H4 x u _ B5 rx (tk x H4 y4)) (fun _ s5 ⟨σ5,H5,B6,ex,q5⟩=>?_) fun _ _ z=>z
   refine wpAny_mono (ht C s H _ s5 σ5 H5 _ B6 q5) (fun b s6 ⟨H6,B7,q6⟩=>?_) fun _ _ z=>z
   have back:∀ {H':Hp} {s':Shared},Inv (sN X sc N cl C s H fp) ([(D,{ cls:=.type "list",data:=.seq (List.toArray its) k })]++xF fp s4.heap) σ5 H' s'->tn (i+1) s'.heap/\∀ b∈fp,H' b=none:=fun {H' s'} B=>by
    refine⟨T.keep _ _ _ st4 fun b hb o e=>(B.pin (b,o) (List.mem_append_right _ (List.mem_append_right _ (m6 hb e)))).1,fun b hb=>?_⟩
    obtain⟨o,e,_⟩:=T.obj _ _ st4 b hb
    exact(B.pin (b,o) (List.mem_append_right _ (List.mem_append_right _ (m6 hb e)))).2.1
   cases b with
   | false =>
    obtain⟨m',hm,w'⟩:=hnx _ _ q6
    obtain⟨t7,f7⟩:=back B7
    exact⟨m',hm,i+1,ys,its,k,H6,(B7.rP).weak ex.1.symm ex.2,t7,f7,rv,hz,w'⟩
   | true =>
    refine wpAny_mono (he C s H _ s6 σ5 H6 _ B7 q6) (fun x7 s7 ⟨v7,H7,B8,r7,hz7,q7⟩=>?_) fun _ _ z=>z
    obtain⟨m',hm,w'⟩:=hnx _ _ q7
    obtain⟨t8,f8⟩:=back B8
    have SA:=B8.pin (D,{ cls:=.type "list",data:=.seq (List.toArray its) k }) (List.mem_append_right _ (List.mem_append_left _ (List.mem_singleton.mpr rfl)))
    have lz:its.length=ys.length:=rv.length.symm
    refine call_meets F.slot_list_append ⟨_,SA.1,rfl⟩ F.entry_list_append (F.args_list_append_2 _ _) (PySem.list_append D its.toArray k x7 (by rw[List.size_toArray];omega)) ⟨SA.1,?_⟩
    have q:=PySem.IsL.update SA.1 (·.push x7)
    have eo:its.toArray.push x7=(its++[x7]).toArray:=by simp
    have B9:Inv (sN X sc N cl C s H fp) [] (A9 own fr σ) H7 { s7 with heap:=s7.heap.update D (Obj.mapSeq (·.push x7)) } :=
     Inv.turned (t':=s7.toks) (((B8.Lv (xG:=[]) (by intro p hp;simp at hp)).weak ex.1.symm ex.2)) (fun b o hb e=>(Heap.get?_update_other _ _ (Ne.symm hb)).trans e) SA.2.1 hDC (.inr (by show s.heap.objs.size<=D;omega)) (fun y c e z=>by
      have:=B8.cell y c e
      obtain⟨v,o,Q5,h2'⟩:=this
      have Q5:s7.heap.get? c=some o:=Q5
      rw[z,SA.1] at Q5
      cases Q5
      cases h2') (by intro p hp;simp at hp)
    have B10:∀ o',(s7.heap.update D (Obj.mapSeq (·.push x7))).get? D=some o'->(∀ v,o'.data≠.cell v)->Inv (sN X sc N cl C s H fp) [(D,o')] (A9 own fr σ) H7 { s7 with heap:=s7.heap.update D (Obj.mapSeq (·.push x7)) }:=fun o' e1 e2 =>
     Inv.wo B9 fun p hp=>by
      have hp:p=(D,o'):=by simpa using hp
      subst hp
      exact⟨e1,SA.2.1,hDC,SA.2.2.2.1,e2⟩
    rw[eo] at q
    refine⟨m',hm,i+1,ys++[v7],its++[x7],_,H7,B10 _ q (by intro v z;cases z),T.keep _ _ _ t8 fun b hb o e=>(Heap.get?_update_other _ _ (Nat.ne_of_gt (NY b hb))).trans e,f8,rv.append (.cons r7 .nil),by rw[List.length_append,List.length_singleton];omega,w'⟩
 exact codeAny_compStart_list (loop _) (T.self _ 0 _ _ _ st1 (loop _))
noncomputable def Hj (own:Nat)(fr:List Nat)(wi:TI)(g:TG)(tt:TT)(te:TE):TE:=fun σ H Q=>wi σ H fun J H1=>∃ W:Nat->Nat->List V->Hp->Prop,(∃ m,W 0 m [] H1) /\
 M7 J g tt te (A9 own fr σ) W fun ys H2=>∀ p,H2 p=none->Q (.ref p) (upd H2 p (.lst ys))
theorem HS {elt tg iter:Expr}{cs:List Expr}{pos:Pos}{wi:TI}{g:TG}{tt:TT}{te:TE}(S:pI X sc cl own N fr)(hc:X.calm=true)(hi:PI X tg iter wi)(hg:∀ C s H fp,PG (sN X sc N cl C s H fp) tg g)
  (ht:∀ C s H fp,VO (sN X sc N cl C s H fp) cs tt) (he:∀ C s H fp,PE (sN X sc N cl C s H fp) elt te) (hs:∀ x,foldedSetIterable iter X.env x=pure x:=by intro _;rfl) :
  PE X (.ListComp elt [⟨tg,iter,cs,0⟩] sc pos) (Hj own fr wi g tt te):=by
 intro pins s σ H Q I h
 rw[eval_ListComp]
 refine wpAny_comprehension_free (use:=none) rfl hs S.clos S.kind S.names (eK (hi pins s σ H _ I h) fun v s1 h1=>eK h1 fun itv s2 h2=>?_)
 obtain⟨it,fp,tn,J,H2,e,I2,T,st2,f2,W,w0,walk⟩:=h2
 subst e
 refine AK (RR:=fun acc C=>compPost (model X.prog X.w) X.A X.xe none (EP X pins σ Q) acc C) S hc I2 T st2 f2 (fun C s H=>hg C s H fp) (fun C s H=>ht C s H fp) (fun C s H=>he C s H fp) w0 walk ?_
 intro D C H' ys s' m hn hD fC I' rr
 obtain⟨f0,f1,f2',f3,f4,f5⟩:=fC
 exact⟨m,hn,fun h' hs'=>⟨.ref D,_,Inv.turned (t':=s'.toks) I' (fun b o hb e=>hs'.extBut b o hb e) f0 f1 f3 f4 f5,rfl,rr D hD⟩⟩
theorem Ou {elt tg iter:Expr}{cs:List Expr}{pos spos py:Pos}{wi:TI}{g:TG}{tt:TT}{te:TE}{i:Nat}{y:Str}(hN:X.N.Nodup)(hiy:X.N[i]?=some y)(hy:Loc X.env.scope y)(S:pI X sc cl own N fr)(hc:X.calm=true)(hi:PI X tg iter wi)
  (hg:∀ C s H fp,PG (sN X sc N cl C s H fp) tg g) (ht:∀ C s H fp,VO (sN X sc N cl C s H fp) cs tt) (he:∀ C s H fp,PE (sN X sc N cl C s H fp) elt te)
  (hsw:swapsWith (.ListComp elt [⟨tg,iter,cs,0⟩] sc pos) (some (.Name y py)) spos.line X.env=pure true:=by rfl) (hs:∀ x,foldedSetIterable iter X.env x=pure x:=by intro _;rfl)
  (hf:X.fn y=true∨X.env.scope.names.lookup y=some .local:=by first | exact .inl rfl | exact .inr rfl | assumption) :
  PS X (.Assign [.Name y py] (.ListComp elt [⟨tg,iter,cs,0⟩] sc pos) spos) (RC (Hj own fr wi g tt te) (MH i)):=by
 intro pins s σ H D0 I h
 rw[exec_Assign_Name_used _ _ _ _ hsw]
 refine wpAny_bind (wpAny_standAt (wpAny_bind ?_))
 show wpAny _ X.A (do let _ <- comprehension (.ListComp elt [⟨tg,iter,cs,0⟩] sc pos) sc X.env _ (newList []) false (eval iter X.env) (some (assign (.Name y py) X.env))) _ _ s
 refine wpAny_bind (eK (wpAny_comprehension_free (use:=some (assign (.Name y py) X.env)) (Q:=fun _ s'=>SP X pins D0 .next s') rfl hs S.clos S.kind S.names
  (eK (hi pins s σ H _ I h) fun v s1 h1=>eK h1 fun itv s2 h2=>?_)) fun _ s' hq=>wpAny_pure (wpAny_pure hq))
 obtain⟨it,fp,tn,J,H2,e,I2,T,st2,f2,W,w0,walk⟩:=h2
 subst e
 refine AK (RR:=fun acc C=>compPost (model X.prog X.w) X.A X.xe (some (assign (.Name y py) X.env)) (fun _ s'=>SP X pins D0 .next s') acc C) S hc I2 T st2 f2 (fun C s H=>hg C s H fp) (fun C s H=>ht C s H fp) (fun C s H=>he C s H fp) w0 walk ?_
 intro D C H' ys s' m hn hD fC I' rr
 obtain⟨f0,f1,f2',f3,f4,f5⟩:=fC
 show wpAny _ X.A (assign (.Name y py) X.env (.ref D)) _ _ _
 refine wpAny_assign_Name (Ac I' hN hiy hy (v:=.ref D) rfl (fun s2 I2 ⟨a,sb,ha⟩=>?_) hf)
 have aC:C≠a:=by
  rcases ha with z | z
  ·rw[z];exact f1
  ·exact fun q=>f4 y a z q.symm
 exact⟨m,hn.sameBut sb aC,fun h' hs'=>⟨_,_,Inv.turned (t':=s2.toks) I2 (fun b o hb e=>hs'.extBut b o hb e) f0 f1 f3 f4 f5,rr D hD⟩⟩
end
noncomputable def a1v (K:PySem.W.Frag)(tl:TE):TI:=fun σ H R=>tl σ H fun x H1=>∃ a,x=.ref a/\(((∃ xs,nH K H1 a xs)/\R (Itl K a) H1)∨((∃ xs,qh K H1 a xs)/\R (Itt K a) H1))
theorem Sq {X:Cx}{tg l:Expr}{tl:TE}(hl:PE X l tl):PI X tg l (a1v X.K tl):=by
 intro pins s σ H R I h
 refine eK (hl pins s σ H _ I h) ?_
 rintro v s1 ⟨x,H1,I1,r1,q1⟩
 obtain⟨a,e,q⟩:=q1
 subst e
 cases r1
 have fo:∀ b∈[s1.heap.objs.size],vP X pins H1 b:=fun b hb=>by
  have e:b=s1.heap.objs.size:=by simpa using hb
  subst e
  exact I1.U3 (Nat.le_refl _) (I1.hok.fresh (Nat.le_refl _))
 rcases q with ⟨⟨xs,hq⟩,q⟩ | ⟨⟨xs,hq⟩,q⟩
 ·obtain⟨its,rv,p,hz⟩:=I1.list hq
  refine wpAny_pyIter_list p.isList ?_
  exact⟨s1.heap.objs.size,[s1.heap.objs.size],_,_,H1,rfl,I1.kept (t':=s1.toks) fun b o e=>Heap.get?_push_of_some _ e,IW a _,⟨_,Heap.get?_push_size _ rfl,rfl,rfl⟩,fo,q⟩
 ·obtain⟨its,rv,p,hz⟩:=I1.tuple hq
  refine wpAny_pyIter_tuple (show s1.heap.IsTuple a its.toArray from p) ?_
  exact⟨s1.heap.objs.size,[s1.heap.objs.size],_,_,H1,rfl,I1.kept (t':=s1.toks) fun b o e=>Heap.get?_push_of_some _ e,Fg a _,⟨_,Heap.get?_push_size _ rfl,rfl,rfl⟩,fo,q⟩
end L2
namespace Hw
open PySem PySem.Spec
noncomputable def lt (a b:Str):Bool:=ltCps a.cps.toList b.cps.toList
theorem Rf:∀ a:List Nat,ltCps a a=false
 | []=>rfl
 | x::r=>by simp[ltCps,Rf r]
theorem IJ:∀ a b c:List Nat,ltCps a b=true->ltCps b c=true->ltCps a c=true
 | [],[],_,h,_=>by simp[ltCps] at h
 | [],_::_,[],_,h=>by simp[ltCps] at h
 | [],_::_,_::_,_,_=>rfl
 | _::_,[],_,h,_=>by simp[ltCps] at h
 | _::_,_::_,[],_,h=>by simp[ltCps] at h
 | x::a,y::b,z::c,h,g=>by
  simp only[ltCps,Bool.or_eq_true,Bool.and_eq_true,decide_eq_true_eq,beq_iff_eq] at h g ⊢
  rcases h with h | ⟨h,h'⟩ <;> rcases g with g | ⟨g,g'⟩
  ·left;omega
  ·left;omega
  ·left;omega
  ·right;exact⟨by omega,IJ a b c h' g'⟩
theorem Rc:∀ a b:List Nat,ltCps a b=true∨a=b∨ltCps b a=true
 | [],[]=>.inr (.inl rfl)
 | [],_::_=>.inl rfl
 | _::_,[]=>.inr (.inr rfl)
 | x::a,y::b=>by
  simp only[ltCps,Bool.or_eq_true,Bool.and_eq_true,decide_eq_true_eq,beq_iff_eq,List.cons.injEq]
  rcases Nat.lt_trichotomy x y with h | h | h
  ·exact .inl (.inl h)
  ·rcases Rc a b with g | g | g
   ·exact .inl (.inr ⟨h,g⟩)
   ·exact .inr (.inl ⟨h,g⟩)
   ·exact .inr (.inr (.inr ⟨h.symm,g⟩))
  ·exact .inr (.inr (.inl h))
theorem uf (a:Str):lt a a=false:=Rf _
theorem lt_trans {a b c:Str}:lt a b=true->lt b c=true->lt a c=true:=IJ _ _ _
theorem Cb (a b:Str):lt a b=true∨a=b∨lt b a=true:=by
 rcases Rc a.cps.toList b.cps.toList with h | h | h
 ·exact .inl h
 ·refine .inr (.inl ?_)
  obtain⟨⟨x⟩⟩:=a;obtain⟨⟨y⟩⟩:=b
  have h:x=y:=h
  rw[h]
 ·exact .inr (.inr h)
theorem Qx {a b:Str}(h:lt a b=true):a≠b:=fun e=>by rw[e,uf] at h;cases h
theorem not_lt_trans {a b c:Str}(h:lt b a=false)(g:lt c b=false):lt c a=false:=by
 rcases Cb c a with e | e | e
 ·rcases Cb b a with k | k | k
  ·rw[h] at k;cases k
  ·rw[k] at g;rw[g] at e;cases e
  ·rw[lt_trans e k] at g;cases g
 ·rw[e];exact uf a
 ·cases q:lt c a with
  | false=>rfl
  | true=>have:=lt_trans e q;rw[uf] at this;cases this
end Hw
namespace L2
open PySem PySem.Spec PyProof.Rows
section
variable {X:Cx}
theorem uW:∀ (p:Str) (l:List Str),risingS p l=true->(p::l).Pairwise fun a b=>Hw.lt b a=false
 | p,[],_=>by simp
 | p,x::r,h=>by
  have h:(!ltCps x.cps.toList p.cps.toList && risingS x r)=true:=h
  rw[Bool.and_eq_true,Bool.not_eq_true'] at h
  have ih:=uW x r h.2
  refine List.pairwise_cons.mpr ⟨fun y hy=>?_,ih⟩
  rcases List.mem_cons.mp hy with rfl | hy
  ·exact h.1
  ·exact Hw.not_lt_trans h.1 ((List.pairwise_cons.mp ih).1 y hy)
theorem rS:∀ (l:List Str),sortedS l=true->l.Pairwise fun a b=>Hw.lt b a=false
 | [],_=>.nil
 | x::r,h=>uW x r h
theorem qM:∀ {ss:List Str} {us:List Value},StrsAre us ss->Vals (ss.map V.str) us
 | _,_,.nil=>.nil
 | _,_,.cons x t h=>.cons ⟨t,rfl⟩ (qM h)
theorem kM:∀ {ss:List Str} {us:List Value},Vals (ss.map V.str) us->StrsAre us ss:=by
 intro ss
 induction ss with
 | nil=>intro us r;rw[List.map_nil] at r;cases r;exact .nil
 | cons x ss ih =>
  intro us r
  rw[List.map_cons] at r
  cases r with
  | cons r1 r2 =>
   obtain⟨t,e⟩:=r1
   subst e
   exact .cons x t (ih r2)
theorem uT:∀ {xs:List V} {us:List Value},xs.length=us.length->(∀ (i:Nat) x,xs[i]?=some x->∃ u,us[i]?=some u/\RelV x u)->Vals xs us
 | [],[],_,_=>.nil
 | [],_::_,h,_=>by simp at h
 | _::_,[],h,_=>by simp at h
 | x::xs,u::us,h,g=>by
  obtain⟨v,e,r⟩:=g 0 x rfl
  cases e
  exact .cons r (uT (by simpa using h) fun i y hy=>g (i+1) y hy)
theorem cG.here {P:Program}{w:World}{H:Hp}{h:Heap}{a:Addr}{o:HO}(x:cG P w H h a o):∃ u,h.get? a=some u:=by
 cases o with
 | lst xs=>obtain⟨_,_,_,_,e⟩:=x;exact⟨_,e⟩
 | tup xs=>obtain⟨_,_,_,o,e,_⟩:=x;exact⟨_,e⟩
 | dK kvs=>obtain⟨_,_,_,_,o,_,_,e,_⟩:=x;exact⟨_,e⟩
 | dT kvs=>obtain⟨_,_,_,_,o,_,_,e,_⟩:=x;exact⟨_,e⟩
 | set S n=>obtain⟨o,_,_,_,e,_⟩:=x;exact⟨_,e⟩
 | ins C dx fs=>obtain⟨_,_,_,e,_⟩:=x;exact⟨_,e⟩
 | own y=>obtain⟨_,e⟩:=x;exact⟨_,e⟩
 | xd fs=>obtain⟨_,⟨_,_,_,e,_⟩,_⟩:=x;exact⟨_,e⟩
 | ZH lo hi=>obtain⟨_,_,_,e⟩:=x;exact⟨_,e⟩
 | Gu ob u=>obtain⟨e,_⟩:=x;exact⟨_,e⟩
 | P5 ps=>exact⟨_,(show h.get? a=some _ from x)⟩
 | met f y=>exact⟨_,(show h.get? a=some _ from x)⟩
 | ext φ=>obtain⟨_,⟨_,e⟩,_⟩:=x;exact⟨_,e⟩
theorem Inv.Av {pins:List (Addr×Obj)}{σ:St}{H:Hp}{s:Shared}{h':Heap}{a:Addr}{o:HO}{t':Nat}(I:Inv X pins σ H s)(k:∀ b u,s.heap.get? b=some u->h'.get? b=some u)(hp:∀ b u,s.heap.get? b=some u->b≠a)(new:cG X.prog X.w (upd H a o) h' a o) :
  H a=none/\Inv X pins σ (upd H a o) { s with heap:=h',toks:=t' }:=by
 have hn:H a=none:=by
  cases q:H a with
  | none=>rfl
  | some u=>obtain⟨v,e⟩:=(I.hok a u q).here;exact absurd rfl (hp a v e)
 refine⟨hn,I.un ⟨fun b u e _ _ _=>k b u e,fun b u e _ _ _=>⟨u.slots,k b u e⟩,fun b u e n _=>by rw[bf (hp b u e)];exact n,fun b u e _=>⟨u,k b u e⟩,fun b xs e=>by rw[bf (bG e hn)];exact e,fun b u xs e=>by rw[bf (bG e hn)];exact e,fun b ps e=>⟨#[],by rw[bf (bG e hn),e];simp⟩⟩ fun b u e=>?_⟩
 by_cases hb:b=a
 ·subst hb;rw[eZ] at e;cases e;exact new
 ·rw[bf hb] at e
  exact(I.hok b u e).stay (fun c v _ q=>k c v q) (fun c q=>by rw[bf (bG q hn)];exact q) fun c xs q=>by rw[bf (bG q hn)];exact q
theorem CA (hc:X.calm=true):fE X (.builtin "sorted") (fun xs H Q=>∃ p kvs ss,xs=[.ref p]/\H p=some (.dK kvs)/\kvs.map (·.1)=List.map (Sum.inr:Str->Key) ss/\kvs.length < 64 /\
  ∀ l ys,H l=none->List.Perm ys ss->ys.Pairwise (fun a b=>Hw.lt b a=false)->Q (.ref l) (upd H l (.lst (ys.map V.str)))):=by
 intro pins s σ H xs us Q I r h
 obtain⟨p,kvs,ss,rfl,hp,hk,h64,q⟩:=h
 obtain⟨u,rfl,ru⟩:=vals1 r
 cases ru
 obtain⟨hz,lo,vs,rel,dd⟩:=AH I.hok (.inl hp)
 obtain⟨ep,hat⟩:=dd.dictAt
 have hlv:=rel.length
 refine Calls.call_function_entry kind_sorted plain_sorted entry_sorted (args_sorted1 _) ?_
 unfold Builtin.«sorted»
 refine wpAny_bind (m:=checkCount "sorted" 1 1 _) (wpAny_pure (wpAny_bind (PySem.W.kdu_collect (A:=X.A.in1) (PySem.W.kdl_dict (knd:=aG X.prog X.w) (kvs:=vs) (ep:=ep) lo) (I.ok.hd hc) hat (by rw[<- hlv];exact hz) fun h' tk acc kp hacc=>?_)))
 have hS:StrsAre acc.toList ss:=by
  refine kM (uT ?_ fun i x hx=>?_)
  ·have:(kvs.map (·.1)).length=(List.map (Sum.inr:Str->Key) ss).length:=by rw[hk]
   rw[List.length_map,List.length_map] at this
   have el:acc.toList.length=kvs.length:=by rw[Array.length_toList,hacc.1,<- hlv]
   rw[List.length_map,el,this]
  ·rw[List.getElem?_map] at hx
   cases e:ss[i]? with
   | none=>rw[e] at hx;cases hx
   | some y =>
    rw[e] at hx
    cases hx
    have hi:i < acc.size:=by
     have h1:i < ss.length:=(List.getElem?_eq_some_iff.mp e).1
     have:(kvs.map (·.1)).length=(List.map (Sum.inr:Str->Key) ss).length:=by rw[hk]
     rw[List.length_map,List.length_map] at this
     rw[hacc.1];omega
    obtain⟨k,x,hv,hkk⟩:=hacc.2 i acc[i] (by simp)
    have ek:(vs.map (·.1))[i]?=some (Sum.inr y):=by rw[<- rel.keys,hk,List.getElem?_map,e];rfl
    rw[List.getElem?_map,hv] at ek
    have ek:k=Sum.inr y:=Option.some.inj ek
    subst ek
    rcases cB (show x8 (Sum.inr y) acc[i]=true from hkk) with ⟨_,_,z,_⟩ | ⟨z,t,z1,z2⟩
    ·cases z
    ·cases z1
     exact⟨acc[i],by simp,t,z2⟩
 have hla:acc.toList.length < 64:=by rw[Array.length_toList,hacc.1,<- hlv];exact h64
 refine wpAny_bind (wpAny_newList ?_ (by
   have:64<=sizeLine:=by rw[sizeLine_eq];decide
   omega))
 have ho:(h'.push (seqObj "list" acc.toList.toArray 0)).get? h'.objs.size=some (seqObj "list" acc.toList.toArray 0):=Heap.get?_push_size _ rfl
 refine wpAny_bind (wpAny_holding (wpAny_call_entry slot_list_sort ⟨_,ho,rfl⟩ entry_list_sort (list_sort_treeK (s:={ s with heap:=h'.push (seqObj "list" acc.toList.toArray 0),toks:=tk }) strKind_oneLt ho hS.keysOf (fun v1 v2 rest e=>keyKind_strs (by rw[<- e];exact hS)) hla fun st' a1 a2=>⟨_,rfl,?_⟩) (args_list_sort _)))
 obtain⟨ss',b1,b2,b3⟩:=sorted_out_str hS a1 a2
 obtain⟨e,he⟩:=sortedHeap_at (out:=(arrOf st').map (·.2)) ho
 have hss:(ss'.map V.str).length<=sizeLine:=by
  have h1:64<=sizeLine:=by rw[sizeLine_eq];decide
  have h2:(ss'.map V.str).length=acc.toList.length:=by rw[List.length_map,b2.length_eq,<- StrsAre.length hS]
  rw[h2]
  exact Nat.le_trans (Nat.le_of_lt hla) h1
 have L:=I.Av (h':=sortedHeap (h'.push (seqObj "list" acc.toList.toArray 0)) h'.objs.size acc.toList ((arrOf st').map (·.2))) (a:=h'.objs.size) (o:=.lst (ss'.map V.str)) (t':=tk)
  (fun b u q=>by
   have l:=Heap.lt_size (kp b u q)
   rw[sortedHeap_old (Nat.ne_of_lt l) (by rw[Heap.size_push];exact Nat.lt_succ_of_lt l)]
   exact Heap.get?_push_of_some _ (kp b u q))
  (fun b u q=>Nat.ne_of_lt (Heap.lt_size (kp b u q)))
  ⟨hss,((arrOf st').map (·.2)).toList,e,qM b1,by rw[Array.toArray_toList];exact he⟩
 exact wpAny_pure ⟨_,rfl,.ref h'.objs.size,_,L.2,rfl,q _ ss' L.1 b2 (rS _ b3)⟩
noncomputable def GY (K:PySem.W.Frag)(H:Hp):Nat->V->V->Prop
 | 0,x,y=>gD x=true/\x=y
 | n+1,x,y=>(gD x=true/\x=y)∨∃ a b xs ys,x=.ref a/\y=.ref b/\((nH K H a xs/\nH K H b ys)∨(qh K H a xs/\qh K H b ys))/\Paired (GY K H n) xs ys
theorem ML {x:V}(h:gD x=true):Gx x x=true:=by
 cases x with
 | dR=>rfl
 | bl b=>simp[Gx]
 | int i=>simp[Gx]
 | str z=>simp[Gx]
 | _=>cases h
theorem D5 {F:V->V->Prop}:∀ {xs ys:List V},Paired F xs ys->∀ {i:Nat} {x y:V},xs[i]?=some x->ys[i]?=some y->F x y
 | _,_,.nil,_,_,_,e,_=>by simp at e
 | _,_,.cons r t,0,_,_,e,e'=>by simp at e e';rw[<- e,<- e'];exact r
 | _,_,.cons r t,i+1,_,_,e,e'=>D5 t (by simpa using e) (by simpa using e')
theorem gH {K:PySem.W.Frag}{n:Nat}{H:Hp}{A:Around}{s:Shared}{xs ys:List V}{us vs:List Value}(p:Paired (GY K H n) xs ys)(r:Vals xs us)(r':Vals ys vs)
  (ih:∀ x y u v,RelV x u->RelV y v->GY K H n x y->SeqAt.EqAt A s u v true):∀ (j:Nat) (h1:j < us.toArray.size) (h2:j < vs.toArray.size),SeqAt.EqAt A s us.toArray[j] vs.toArray[j] true:=by
 intro j h1 h2
 have l1:=r.length
 have l2:=r'.length
 simp only[List.size_toArray] at h1 h2
 have e1:xs[j]?=some xs[j]:=List.getElem?_eq_getElem (by omega)
 have e2:ys[j]?=some ys[j]:=List.getElem?_eq_getElem (by omega)
 obtain⟨u,hu,ru⟩:=r.get e1
 obtain⟨v,hv,rv⟩:=r'.get e2
 have hu':us.toArray[j]=u:=by
  rw[List.getElem?_eq_getElem h1] at hu;simpa using hu
 have hv':vs.toArray[j]=v:=by
  rw[List.getElem?_eq_getElem h2] at hv;simpa using hv
 rw[hu',hv']
 exact ih _ _ u v ru rv (D5 p e1 e2)
theorem oU (n:Nat):((List.range n).all fun _=>true)=true:=by rw[List.all_eq_true];intro _ _;rfl
theorem like_eq {pins:List (Addr×Obj)}{σ:St}{H:Hp}{s:Shared}(I:Inv X pins σ H s):∀ (n:Nat) (A:Around),A.units+n < cLine->∀ x y u v,RelV x u->RelV y v->GY X.K H n x y->SeqAt.EqAt A s u v true:=by
 intro n
 have flat:∀ (A:Around) (x y:V) (u v:Value),RelV x u->RelV y v->gD x=true/\x=y->SeqAt.EqAt A s u v true:=by
  rintro A x y u v ru rv ⟨f,rfl⟩
  have:=Gz (A:=A) (s:=s) ru rv f f
  rw[ML f] at this
  exact this
 induction n with
 | zero=>intro A hu x y u v ru rv h;exact flat A x y u v ru rv h
 | succ n ih =>
  intro A hu x y u v ru rv h
  rcases h with h | ⟨a,b,xs,ys,rfl,rfl,h,p⟩
  ·exact flat A x y u v ru rv h
  ·cases ru
   cases rv
   have ih':=ih A.in1 (by show A.units+1+n < cLine;omega)
   by_cases hab:a=b
   ·subst hab;exact SeqAt.EqAt.same _
   ·refine .of_refs hab ?_
    have lp:xs.length=ys.length:=Paired.length p
    rcases h with ⟨ha,hb⟩ | ⟨ha,hb⟩
    ·obtain⟨us,r1,p1,_⟩:=I.list ha
     obtain⟨vs,r2,p2,_⟩:=I.list hb
     have l1:=r1.length
     have l2:=r2.length
     have:=SeqAt.RcAt.lists (A:=A) (e:=fun _=>true) p1.isList p2.isList (by simp only[List.size_toArray];omega) (by omega) (gH p r1 r2 ih')
     rw[oU] at this
     exact this
    ·obtain⟨us,r1,p1,_⟩:=I.tuple ha
     obtain⟨vs,r2,p2,_⟩:=I.tuple hb
     have l1:=r1.length
     have l2:=r2.length
     have:=SeqAt.RcAt.tuples (A:=A) (e:=fun _=>true) (show s.heap.IsTuple a us.toArray from p1) (show s.heap.IsTuple b vs.toArray from p2) (by omega) (gH p r1 r2 ih')
     have e:(us.toArray.size == vs.toArray.size)=true:=by simp only[List.size_toArray,beq_iff_eq];omega
     rw[oU,e] at this
     exact this
noncomputable def Qo (K:PySem.W.Frag)(n:Nat)(k:Bool):R2:=fun x y H Q=>∃ a b xs ys,x=.ref a/\y=.ref b/\((nH K H a xs/\nH K H b ys)∨(qh K H a xs/\qh K H b ys))/\Paired (GY K H n) xs ys/\Q (.bl k) H
theorem SM (n:Nat)(hu:X.A.units+1+n < cLine):nh X (compareOp .Eq) (Qo X.K n true):=by
 intro pins s σ H x y v u Q I rx ry h
 obtain⟨a,b,xs,ys,rfl,rfl,h,p,q⟩:=h
 cases rx
 cases ry
 have ih':=like_eq I n X.A.in1 (by show X.A.units+1+n < cLine;omega)
 have lp:xs.length=ys.length:=Paired.length p
 have fin:EP X pins σ Q (.bool true) s:=⟨.bl true,H,I,rfl,q⟩
 rcases h with ⟨ha,hb⟩ | ⟨ha,hb⟩
 ·obtain⟨us,r1,p1,_⟩:=I.list ha
  obtain⟨vs,r2,p2,_⟩:=I.list hb
  have l1:=r1.length
  have l2:=r2.length
  exact SeqAt.eq_listAt (e:=fun _=>true) p1.isList p2.isList (by simp only[List.size_toArray];omega) (by omega) (gH p r1 r2 ih') (by rw[oU];exact fin)
 ·obtain⟨us,r1,p1,_⟩:=I.tuple ha
  obtain⟨vs,r2,p2,_⟩:=I.tuple hb
  have l1:=r1.length
  have l2:=r2.length
  have e:(us.toArray.size == vs.toArray.size)=true:=by simp only[List.size_toArray,beq_iff_eq];omega
  exact SeqAt.eq_tupleAt (e:=fun _=>true) (show s.heap.IsTuple a us.toArray from p1) (show s.heap.IsTuple b vs.toArray from p2) (by omega) (gH p r1 r2 ih') (by rw[oU,e];exact fin)
theorem SH (n:Nat)(hu:X.A.units+1+n < cLine):nh X (compareOp .NotEq) (Qo X.K n false):=by
 intro pins s σ H x y v u Q I rx ry h
 obtain⟨a,b,xs,ys,rfl,rfl,h,p,q⟩:=h
 cases rx
 cases ry
 have ih':=like_eq I n X.A.in1 (by show X.A.units+1+n < cLine;omega)
 have lp:xs.length=ys.length:=Paired.length p
 have fin:EP X pins σ Q (.bool false) s:=⟨.bl false,H,I,rfl,q⟩
 rcases h with ⟨ha,hb⟩ | ⟨ha,hb⟩
 ·obtain⟨us,r1,p1,_⟩:=I.list ha
  obtain⟨vs,r2,p2,_⟩:=I.list hb
  have l1:=r1.length
  have l2:=r2.length
  exact SeqAt.RcNeAt.lists (A:=X.A) (e:=fun _=>true) p1.isList p2.isList (by simp only[List.size_toArray];omega) (by omega) (gH p r1 r2 ih') _ _ _ _ (by rw[oU];exact fin)
 ·obtain⟨us,r1,p1,_⟩:=I.tuple ha
  obtain⟨vs,r2,p2,_⟩:=I.tuple hb
  have l1:=r1.length
  have l2:=r2.length
  have e:(us.toArray.size == vs.toArray.size)=true:=by simp only[List.size_toArray,beq_iff_eq];omega
  exact SeqAt.RcNeAt.tuples (A:=X.A) (e:=fun _=>true) (show s.heap.IsTuple a us.toArray from p1) (show s.heap.IsTuple b vs.toArray from p2) (by omega) (gH p r1 r2 ih') _ _ _ _ (by rw[oU,e];exact fin)
noncomputable def rJoin:V->List V->Hp->VK->Prop:=fun x vs H Q=>∃ sep p ss,x=.str sep/\vs=[.ref p]/\H p=some (.lst (List.map V.str ss))/\(ss.map (·.length)).sum+ss.length*sep.length<=16777216/\Q (.str (Txt.join sep ss)) H
theorem OV:CO X "str.join" rJoin:=by
 intro pins s σ H x vs v us Q I rx rv h
 obtain⟨sep,p,ss,rfl,rfl,hp,hz,q⟩:=h
 obtain⟨t,rfl⟩:=rx
 obtain⟨u,rfl,ru⟩:=rv.one
 cases ru
 obtain⟨its,r,pl,_⟩:=I.list (nH.of hp)
 exact join_list pl.isList (by simpa using kM r) hz fun t' k=>⟨.str _,H,I.tok _,⟨_,rfl⟩,q⟩
noncomputable def a1q (xs:List V)(k:Nat)(y:V):List V:=xs.take k++[y]++xs.drop k
noncomputable def Oa:V->List V->Hp->VK->Prop:=fun x vs H Q=>∃ (l:Addr) (xs:List V) (i:Int) (k:Nat) (y:V),x=.ref l/\vs=[.int i,y]/\i=k/\H l=some (.lst xs)/\k<=xs.length/\xs.length < sizeLine/\Q .dR (upd H l (.lst (a1q xs k y)))
theorem Jt:Zv X "list.insert" Oa:=by
 intro pins s σ H x vs v us Q I rx rv h
 obtain⟨l,xs,i,k,y,rfl,rfl,hik,hH,hk,hz,q⟩:=h
 cases rx
 obtain⟨u,w',rfl,⟨t,rfl⟩,ru⟩:=rv.two
 obtain⟨z,its,n,r,hl,e⟩:=I.Cc hH
 have hn:=oF
 have fit:¬ (!Builtin.List.listFitsIndex i)=true:=by
  rw[fitsIndex_of (by omega) (by omega)]
  decide
 have hsz:its.toArray.size<=sizeLine:=by rw[List.size_toArray];omega
 refine call_meets F.slot_list_insert ⟨_,e,rfl⟩ F.entry_list_insert (F.args_list_insert_3 _ _ _) (PySem.AutoSeq1.list_insert_list_int_val_1 l its.toArray n i t w' fit hsz) ⟨e,?_⟩
 refine⟨.dR,_,I.L6 (its':=its.take k++[w']++its.drop k) hH e ?_ (((r.take k).append (.cons ru .nil)).append (r.drop k)) ?_,rfl,q⟩
 ·have e1:¬ i < 0:=by omega
  have e2:min i.toNat its.length=k:=by omega
  simp only[List.size_toArray,e1,if_false,e2]
  apply Array.ext'
  simp only[Array.toList_append,Array.toList_push,Array.toList_extract,List.extract_eq_take_drop]
  rw[List.take_of_length_le (l:=List.drop k its) (by rw[List.length_drop];simp)]
  simp
 ·simp only[List.length_append,List.length_take,List.length_drop,List.length_singleton]
  omega
noncomputable def a0X (K:PySem.W.Frag)(c:V):List V->Hp->VK->Prop:=fun vs H Q=>∃ x t u b,vs=[x,c]/\sY K H x t/\RelV c u/\PySem.W.kitOne K t u=some b/\Q (.bl b) H
theorem RelV.a1r {c:V}{u u':Value}(hc:match c with | .ref _=>True | .ty _=>True | _=>False)(r:RelV c u)(r':RelV c u'):u=u':=by
 cases c with
 | ref a=>cases r;cases r';rfl
 | ty n=>cases r;cases r';rfl
 | _=>exact hc.elim
theorem M4 {c:V}(hc:match c with | .ref _=>True | .ty _=>True | _=>False):fE X (.builtin "isinstance") (a0X X.K c):=by
 intro pins s σ H xs us Q I r h
 obtain⟨x,t,u,b,rfl,ty,rc,hb,q⟩:=h
 obtain⟨w1,w2,rfl,rx,r2⟩:=vals2 r
 rw[RelV.a1r hc r2 rc]
 exact JB I rx ty hb fun tk=>⟨.bl b,H,I.tok _,rfl,q⟩
noncomputable def WD (K:PySem.W.Frag):R2:=fun x y H Q=>∃ a b xs ys,x=.ref a/\y=.ref b/\qh K H a xs/\qh K H b ys/\xs.length+ys.length<=sizeLine /\
 (xs=[]->Q (.ref b) H)/\(xs≠[]->ys=[]->Q (.ref a) H)/\(xs≠[]->ys≠[]->∀ p,H p=none->Q (.ref p) (upd H p (.tup (xs++ys))))
theorem OM:nh X (binaryOp .Add) (WD X.K):=by
 intro pins s σ H x y v u Q I rx ry h
 obtain⟨a,b,xs,ys,rfl,rfl,ha,hb,hz,q0,q1,q2⟩:=h
 by_cases hx:xs=[]
 ·cases rx
  cases ry
  obtain⟨its,r1,p1,_⟩:=I.tuple ha
  obtain⟨its2,r2,p2,_⟩:=I.tuple hb
  obtain⟨⟨cls,dd,data,sl⟩,ho,hc,n,hd⟩:=id p1
  obtain⟨⟨a24,dd2,data2,sl2⟩,ho2,hc2,n2,hd2⟩:=id p2
  simp only at hc hd hc2 hd2
  subst hc hd hc2 hd2
  have hi:its=[]:=r1.dw.mpr hx
  refine concat_meets ⟨_,ho,rfl⟩ ⟨_,ho2,rfl⟩ noFill_tuple_add seq_tuple_add PySem.F.slot_tuple_add PySem.F.entry_tuple_add (PySem.F.args_tuple_add_2 _ _)
   (tuple_addW0 a b its.toArray its2.toArray n n2 dd dd2 sl sl2 (by simp[hi])) ⟨ho,ho2,?_⟩
  exact⟨.ref b,H,I,rfl,q0 hx⟩
 ·exact ON pins s σ H _ _ v u Q I rx ry ⟨a,b,xs,ys,rfl,rfl,ha,hb,hx,hz,q1 hx,fun hy=>q2 hx hy⟩
noncomputable def a0W (K:PySem.W.Frag):R2:=fun x y H Q=>∃ p xs k v,x=.ref p/\y=.int (k:Nat)/\nH K H p xs/\xs[k]?=some v/\Q v H
theorem MF:Zt X (a0W X.K):=by
 intro pins s σ H o i ov iv Q I ro ri h
 obtain⟨p,xs,k,v,rfl,rfl,hq,he,q⟩:=h
 cases ro
 obtain⟨t,rfl⟩:=ri
 obtain⟨its,r,pl,hz⟩:=I.list hq
 obtain⟨w,ew,rw'⟩:=r.get he
 have hk:k < xs.length:=(List.getElem?_eq_some_iff.mp he).1
 have hn:=oF
 exact wpAny_getItem_list pl.isList (by omega) (by omega) (by simpa using ew) ⟨v,H,I,rw',q⟩
end
end L2
namespace Hw
open PySem L2
end Hw
namespace Hw
open PySem L2
noncomputable def Dn (P:Program)(w:World)(K:PySem.W.Frag)(mg:Str->Option Value)(base:Heap)(k:Nat)(x:Str)(ps:List Str)(sp:Sp):Prop :=
 ∃ (f:Addr) (fd:FuncData),aE P w K mg base bO k f fd ps sp/\mg x=some (.ref f)/\PySem.W.keepIn K (.ref f)=true/\Binds K fd ps []
noncomputable def Mt (P:Program)(w:World)(K:PySem.W.Frag)(mg:Str->Option Value)(base:Heap)(k:Nat)(C:Addr)(m:Str)(ps:List Str)(sp:Sp):Prop :=
 ∃ (f:Addr) (fd:FuncData),aE P w K mg base bO k f fd ps sp/\Meth K C m f/\Binds K fd ps []
noncomputable def Mr (P:Program)(w:World)(K:PySem.W.Frag)(mg:Str->Option Value)(base:Heap)(k:Nat)(C:Addr)(ps:List Str)(sp:Sp):Prop :=
 ∃ (f:Addr) (fd:FuncData),aE P w K mg base bO k f fd ps sp/\Mk K C f/\Binds K fd ps []
end Hw
namespace Hw
open PySem L2
theorem line (n:Nat)(h:n<=100000):n < sizeLine:=by rw[sizeLine_eq];omega
theorem szl (n:Nat)(h:n<=100000:=by decide):n<=sizeLine:=Nat.le_of_lt (line n h)
end Hw
namespace L2
open PySem PySem.Spec PyProof.Rows
section
variable {X:Cx}{K:PySem.W.Frag}
noncomputable def strsOf:List Expr->Option (List Str)
 | []=>some []
 | .Constant (.str x) _ _::r=>(strsOf r).map (x::·)
 | _=>none
noncomputable def P7 (xs:List Str):TA:=fun _ H Q=>Q (xs.map V.str) H
theorem HU:∀ {es:List Expr} {xs:List Str},strsOf es=some xs->PA X es (P7 xs)
 | [],xs,h=>by
  cases h
  exact qO
 | e::r,xs,h=>by
  unfold strsOf at h
  split at h
  ·rename_i he;cases he
  ·rename_i x j pos r' he
   cases he
   cases q:strsOf r with
   | none=>rw[q] at h;cases h
   | some ys =>
    rw[q] at h
    cases h
    have ih:=HU q
    exact HV Ly ih rfl
  ·cases h
noncomputable def Qy:Expr->Option (List Str)
 | .List es _=>strsOf es
 | _=>none
theorem OC {xs:List Str}:∀ {e:Expr},Qy e=some xs->PE X e (V6 (P7 xs)):=by
 intro e h
 cases e<;>first|exact FT (HU h)|exact (Option.some_ne_none _ h.symm).elim
end
end L2
namespace Hw
open PySem L2
noncomputable def Hx (K:PySem.W.Frag):Sp:=fun vs H Q _=>∃ (a:Addr) (ns:List Int),vs=[.ref a]/\nH K H a (ns.map V.int)/\ns.length<=63/\∀ H',Q (.bl true) H'
end Hw
namespace Hw
open PySem L2
theorem O5 (K:PySem.W.Frag)(C:Addr):PySem.W.kitOne K (.ref C) (.ref C)=some true:=by
 unfold PySem.W.kitOne
 rw[if_pos (by simp)]
theorem O4 (K:PySem.W.Frag):PySem.W.kitOne K (.type "tuple") (.type "tuple")=some true:=by
 unfold PySem.W.kitOne
 rw[if_pos (by simp)]
end Hw
namespace L2
open PySem PySem.Spec PyProof.Rows
section
variable {X:Cx}{K:PySem.W.Frag}
noncomputable def a0T:V->Option Int->Option Int->Hp->VK->Prop:=fun x lo hi H Q=>∃ z,x=.str z/\z.length<=sizeLine/\Q (.str (Txt.slice z lo hi)) H
theorem RL:PL X a0T:=by
 intro pins s σ H x v vl vu lo hi sl Q I rx hs pl pu h
 obtain⟨z,rfl,hz,q⟩:=h
 obtain⟨t,rfl⟩:=rx
 have fin:(Txt.slice z lo hi).length<=sizeLine/\∀ t' k,EP X pins σ Q (.str (Txt.slice z lo hi) t') { s with toks:=k }:=⟨Nat.le_trans (Txt.slice_le z _ _) hz,fun t' k=>⟨.str _,H,I.tok _,⟨_,rfl⟩,q⟩⟩
 refine⟨"str",_,PySem.F.slot_str_getitem.lookup,typeIs_str _ _ _,?_⟩
 cases pl with
 | none=>cases pu with
  | none=>exact wpAny_getItem_str_slice (l:=none) (u:=none) (st:=none) hs rfl (post_val_or_str fin)
  | int j t'=>exact wpAny_getItem_str_slice (l:=none) (u:=some (j,t')) (st:=none) hs rfl (post_val_or_str fin)
 | int i ti=>cases pu with
  | none=>exact wpAny_getItem_str_slice (l:=some (i,ti)) (u:=none) (st:=none) hs rfl (post_val_or_str fin)
  | int j t'=>exact wpAny_getItem_str_slice (l:=some (i,ti)) (u:=some (j,t')) (st:=none) hs rfl (post_val_or_str fin)
noncomputable def RW (K:PySem.W.Frag):R2:=fun x y H Q=>∃ a b xs,x=.ref a/\y=.ref b/\qh K H a xs/\qh K H b []/\Q (.bl (decide (xs=[]))) H
theorem LJ (hu:X.A.units < cLine):nh X (compareOp .Eq) (RW X.K):=by
 intro pins s σ H x y v u Q I rx ry h
 obtain⟨a,b,xs,rfl,rfl,ha,hb,q⟩:=h
 cases rx
 cases ry
 obtain⟨us,r1,p1,_⟩:=I.tuple ha
 obtain⟨vs,r2,p2,_⟩:=I.tuple hb
 cases r2
 refine SeqAt.eq_tupleAt (e:=fun _=>true) (show s.heap.IsTuple a us.toArray from p1) (show s.heap.IsTuple b ([]:List Value).toArray from p2) hu (fun j h1 h2=>absurd h2 (by simp)) ?_
 have e:((List.range (min us.toArray.size ([]:List Value).toArray.size)).all (fun _=>true) && us.toArray.size == ([]:List Value).toArray.size)=decide (xs=[]):=by
  have l:=r1.length
  rw[oU,Bool.true_and]
  by_cases hx:xs=[]
  ·subst hx
   cases r1
   simp
  ·rw[decide_eq_false hx]
   have:us≠[]:=fun z=>hx (by rw[z] at l;exact List.length_eq_zero_iff.mp l)
   cases us with
   | nil=>exact absurd rfl this
   | cons _ _=>simp
 rw[e]
 exact⟨.bl _,H,I,rfl,q⟩
end
end L2
namespace HT
open PySem PySem.Spec PyProof.Rows
section
variable {prog:Program}{w:World}{A:Around}{E:Value->Shared->Prop}{s:Shared}
end
end HT
namespace L2
open PySem PySem.Spec PyProof.Rows
section
variable {X:Cx}{K:PySem.W.Frag}
end
end L2
namespace L2
open PySem PySem.Spec PyProof.Rows
section
variable {X:Cx}{K:PySem.W.Frag}
variable {o e:Expr}{to:TE}{apos cpos:Pos}
theorem Gw (l b:Addr)(xs ys:Array Value)(n m:Nat)(dd:Option Addr)(sl:Array (Option Value))(h0:¬ (!xs.isEmpty && Builtin.List.listTooLong (xs.size+ys.size))=true)(h1:xs.size<=sizeLine)(h2:xs.size+ys.size<=sizeLine+1) :
  Meets (Builtin.«list.extend» ⟨[.ref l,.ref b],[]⟩) (fun _ R s=>s.heap.get? l=some ⟨.type "list",none,.seq xs n,#[]⟩/\s.heap.get? b=some ⟨.type "tuple",dd,.seq ys m,sl⟩ /\
   R (.ok (.ret Value.none)) { s with heap:=s.heap.update l (Obj.mapSeq fun x=>x++ys),toks:=s.toks }) :=
 .of_wp fun prog w A R s h=>by
  obtain⟨hp,g,d,tk,os⟩:=s
  obtain⟨hl,hb,h⟩:=h
  have q1:=PySem.AutoSeq1.idx_int
  have q2:=PySem.AutoSeq1.sub_tuple_tuple
  have q3:=PySem.AutoSeq1.sub_list_list
  have q4:=PySem.AutoSeq1.sub_tuple_list
  have q5:=PySem.AutoSeq1.sub_list_tuple
  have z:(xs++ys).size<=sizeLine+1:=by
   rw[Array.size_append]
   exact h2
  wp_walk using(wpAny_updateSeq hl rfl (hz:=h1) (_hz':=z)),PySem.AutoSeq1.wpAny_loadPart' hl,PySem.AutoSeq1.wpAny_loadPart' hb
  exact⟨_,rfl,h⟩
noncomputable def Ln (K:PySem.W.Frag):V->List V->Hp->VK->Prop:=fun x vs H Q=>∃ l b xs zs,x=.ref l/\vs=[.ref b]/\H l=some (.lst xs)/\qh K H b zs/\xs.length+zs.length<=sizeLine/\Q .dR (upd H l (.lst (xs++zs)))
theorem F8:Zv X "list.extend" (Ln X.K):=by
 intro pins s σ H x vs v us Q I rx rv h
 obtain⟨l,b,xs,zs,rfl,rfl,hH,hB,hz,q⟩:=h
 cases rx
 obtain⟨u,rfl,ru⟩:=rv.one
 cases ru
 obtain⟨z,its,n,r,hl,e⟩:=I.Cc hH
 obtain⟨its2,r2,p2,z2⟩:=I.tuple hB
 have hl2:=r2.length
 have hsz:its.toArray.size+its2.toArray.size<=sizeLine:=by rw[List.size_toArray,List.size_toArray];omega
 have Eu:¬ (!its.toArray.isEmpty && Builtin.List.listTooLong (its.toArray.size+its2.toArray.size))=true:=by
  rw[xV hsz,Bool.and_false]
  exact Bool.false_ne_true
 have go:∀ n2 dd sl,s.heap.get? b=some { cls:=.type "tuple",dict:=dd,data:=.seq its2.toArray n2,slots:=sl }->wpAny (model X.prog X.w) X.A (call (.builtin "list.extend") [.ref l,.ref b]) (EP X pins σ Q) X.xe s:=fun n2 dd sl e2=>by
  refine call_meets F.slot_list_extend ⟨_,e,rfl⟩ F.entry_list_extend (F.args_list_extend_2 _ _)
   (Gw l b its.toArray its2.toArray n n2 dd sl Eu (by rw[List.size_toArray];omega) (by omega)) ⟨e,e2,?_⟩
  refine⟨.dR,_,I.L6 (its':=its++its2) hH e (by simp) (r.append r2) ?_,rfl,q⟩
  rw[List.length_append]
  omega
 obtain⟨⟨cls,dd,data,sl⟩,ho,hc,n2,hd⟩:=id p2
 simp only at hc hd
 subst hc hd
 exact go n2 dd sl ho
noncomputable def RU (K:PySem.W.Frag):R2:=fun x y H Q=>∃ a b xs,x=.ref a/\y=.ref b/\nH K H a xs/\nH K H b []/\Q (.bl (!decide (xs=[]))) H
theorem LI (hu:X.A.units < cLine):nh X (compareOp .NotEq) (RU X.K):=by
 intro pins s σ H x y v u Q I rx ry h
 obtain⟨a,b,xs,rfl,rfl,ha,hb,q⟩:=h
 cases rx
 cases ry
 obtain⟨us,r1,p1,_⟩:=I.list ha
 obtain⟨vs,r2,p2,_⟩:=I.list hb
 cases r2
 have l1:=r1.length
 by_cases hx:xs=[]
 ·rw[decide_eq_true hx] at q
  subst hx
  cases r1
  exact SeqAt.RcNeAt.lists (A:=X.A) (e:=fun _=>true) p1.isList p2.isList rfl hu (fun j h1 h2=>absurd h2 (by simp)) _ _ _ _ ⟨.bl false,H,I,rfl,q⟩
 ·rw[decide_eq_false hx] at q
  have:us≠[]:=fun z=>hx (by rw[z] at l1;exact List.length_eq_zero_iff.mp l1)
  refine SeqAt.RcNeAt.lists_lengths (A:=X.A) p1.isList p2.isList ?_ hu _ _ _ _ ⟨.bl true,H,I,rfl,q⟩
  cases us with
  | nil=>exact absurd rfl this
  | cons _ _=>simp
end
end L2
namespace L2
open PySem PySem.Spec PyProof.Rows
section
variable {X:Cx}{e:Expr}{te:TE}
end
end L2
namespace Hw
open PySem L2
noncomputable def abc:Str:="abcdefghijklmnopqrstuvwxyz"
theorem PJ:abc.cps.toList=(List.range 26).map (97+·):=by decide +kernel
theorem IT:abc.length<=sizeLine:=Nat.le_of_lt (line _ (by decide +kernel))
theorem M9 {r:Nat}(h:r < 26):wF abc.cps.toList (r:Int)=some (97+r):=wD (by rw[PJ,List.getElem?_map,List.getElem?_range h];rfl)
theorem PF (i:Int):wF abc.cps.toList (i % 26)=some (97+(i % 26).toNat):=by
 have h0:=Int.emod_nonneg i (show(26:Int)≠0 by decide)
 have h1:=Int.emod_lt_of_pos i (show(0:Int) < 26 by decide)
 have e:i % 26=((i % 26).toNat:Int):=(Int.toNat_of_nonneg h0).symm
 have:=M9 (r:=(i % 26).toNat) (by omega)
 rw[<- e] at this
 exact this
noncomputable abbrev Vh (c:Nat):Str:=⟨#[c]⟩
theorem sO (c:Nat):(Vh c).length=1:=rfl
theorem sV (a b:Str):(a++b).cps.toList=a.cps.toList++b.cps.toList:=PySem.W.KT.app_list a b
theorem kQ (a b:Str):(a++b).length=a.length+b.length:=by
 have h:∀ x:Str,x.length=x.cps.toList.length:=fun x=>by simp[Str.length]
 rw[h,h,h,sV,List.length_append]
theorem Cn (w:Str)(xs:List Str):QV (.str w) (xs.map V.str)=decide (w∈xs):=by
 unfold QV
 rw[List.any_map]
 by_cases h:w∈xs
 ·rw[decide_eq_true h,List.any_eq_true]
  exact⟨w,h,by simp[Gx]⟩
 ·rw[decide_eq_false h,List.any_eq_false]
  intro y hy
  simp only[Function.comp,Gx,beq_iff_eq]
  intro e
  exact h (e ▸ hy)
theorem Mm (ss:List Str)(h:∀ a∈ss,a.length=1):(Txt.join (Str.ofString "") ss).length=ss.length:=PySem.W.KT.join_ones ss h
theorem Dp:∀ ss:List Str,(∀ a∈ss,a.length=1)->(ss.map (·.length)).sum=ss.length
 | [],_=>rfl
 | a::r,h=>by
  rw[List.map_cons,List.sum_cons,Dp r fun b hb=>h b (List.mem_cons_of_mem _ hb),List.length_cons,h a (List.mem_cons_self ..)]
  omega
end Hw
namespace Hw
open PySem L2
end Hw
namespace Hw
open PySem L2
noncomputable abbrev cp (x:Str):List Nat:=x.cps.toList
theorem GD (x:Str):x.length=(cp x).length:=by simp[Str.length]
theorem IA:∀ ss:List Str,cp (Str.join (Str.ofString "") ss)=(ss.map cp).flatten
 | []=>rfl
 | [x]=>by simp[Str.join]
 | x::y::r=>by
  show cp (x++Str.ofString ""++Str.join (Str.ofString "") (y::r))=_
  rw[cp,sV,sV]
  have ih:=IA (y::r)
  rw[show(Str.join (Str.ofString "") (y::r)).cps.toList=cp (Str.join (Str.ofString "") (y::r)) from rfl,ih]
  have z:(Str.ofString "").cps.toList=[]:=by decide
  rw[z,List.append_nil]
  rfl
theorem GC (ss:List Str):cp (Txt.join (Str.ofString "") ss)=(ss.map cp).flatten:=by
 show cp (Builtin.Str.glued (Str.ofString "") ss)=_
 rw[StrLaws.glued_eq_join]
 exact IA ss
end Hw
namespace Hw
open PySem L2
section
variable {C:Addr}{H H':Hp}{tl pq q0 q1 hq du u0 u1 sl sa sb:Addr}{xs:List Str}{ps0 t0 t1:Ps}{h0 h1:Int}
end
end Hw
namespace Hw
open PySem L2
end Hw
namespace Hw
open PySem L2
end Hw
namespace Hw
open PySem L2
section
variable {H H':Hp}{z:Addr}{o:HO}
end
section
variable {H0 H H':Hp}{d tl ro:Addr}{xs:List Str}{t0:Ps}{n0:Int}
end
end Hw
namespace Hw
open PySem L2
end Hw
namespace Hw
open PySem L2
end Hw
namespace L2
open PySem PySem.Spec PyProof.Rows Hw
section
variable {X:Cx}{k:Nat}{m:Str}{pos apos:Pos}{o e:Expr}{es:List Expr}{ta:TE}{t:TA}{Z:Cz}{ps:List Str}{sp:Nat->Sp}
end
end L2
namespace Hw
open PySem L2
end Hw
namespace Hw
open PySem L2
end Hw
namespace L2
open PySem PySem.Spec PyProof.Rows Hw
section
variable {X:Cx}{K:PySem.W.Frag}
end
end L2
namespace Hw
open PySem L2
end Hw
namespace Hw
open PySem L2
end Hw
namespace Hw
open PySem L2
end Hw
namespace Hw
open PySem L2
end Hw
namespace Hw
open PySem L2
end Hw
namespace L2
open PySem PySem.Spec PyProof.Rows Hw
section
variable {X:Cx}{x:Str}{D:Addr}{kvs:List (Key×V)}{i:Expr}{ty:TE}{p pos:Pos}
end
end L2
namespace Hw
open PySem L2
end Hw
namespace Hw
open PySem L2
end Hw
namespace L2
open PySem PySem.Spec PyProof.Rows Hw
section
variable {X:Cx}
theorem Sg {body:List Stmt}{h₀:ExceptHandler}{hs:List ExceptHandler}{pos:Pos}{t:TS}(hx:∀ e s,¬ X.xe e s)(hb:Dh X body t):PS X (.Try body (h₀::hs) [] [] pos) t:=by
 intro pins s σ H D I h
 refine wpAny_Try_except (wpAny_mono (hb pins s σ H D I h) (fun f s1 q=>?_) fun e s1 z=>(hx e s1 z).elim)
 cases f with
 | next=>exact wpAny_pure q
 | brk=>exact q
 | cont=>exact q
 | ret u=>exact q
end
end L2
namespace Hw
open PySem L2
end Hw
namespace Hw
open PySem L2
end Hw
namespace Hw
open PySem L2
end Hw
namespace Hw
open PySem L2
end Hw
namespace Hw
open PySem L2
end Hw
namespace L2
open PySem PySem.Spec PyProof.Rows Hw
section
variable {X:Cx}
noncomputable def Oc (K:PySem.W.Frag):R2:=fun x y H Q=>∃ a b xs,x=.ref a/\y=.ref b/\nH K H a xs/\nH K H b []/\Q (.bl (decide (xs=[]))) H
theorem Jj (hu:X.A.units < cLine):nh X (compareOp .Eq) (Oc X.K):=by
 intro pins s σ H x y v u Q I rx ry h
 obtain⟨a,b,xs,rfl,rfl,ha,hb,q⟩:=h
 cases rx
 cases ry
 obtain⟨us,r1,p1,_⟩:=I.list ha
 obtain⟨vs,r2,p2,_⟩:=I.list hb
 cases r2
 have l1:=r1.length
 by_cases hx:xs=[]
 ·rw[decide_eq_true hx] at q
  subst hx
  cases r1
  exact SeqAt.RcAt.lists (A:=X.A) (e:=fun _=>true) p1.isList p2.isList rfl hu (fun j h1 h2=>absurd h2 (by simp)) _ _ _ _ ⟨.bl true,H,I,rfl,q⟩
 ·rw[decide_eq_false hx] at q
  have:us≠[]:=fun z=>hx (by rw[z] at l1;exact List.length_eq_zero_iff.mp l1)
  refine SeqAt.RcAt.lists_lengths (A:=X.A) p1.isList p2.isList ?_ hu _ _ _ _ ⟨.bl false,H,I,rfl,q⟩
  cases us with
  | nil=>exact absurd rfl this
  | cons _ _=>simp
end
end L2
namespace Hw
open PySem L2
end Hw
namespace Hw
open PySem L2
theorem sA {α:Type} [DecidableEq α]:∀ {l m:List α},l.Nodup->(∀ x∈l,x∈m)->l.length<=m.length
 | [],m,_,_=>Nat.zero_le _
 | a::r,m,h,hs=>by
  have ha:a∈m:=hs a (List.mem_cons_self ..)
  have hn:=List.nodup_cons.mp h
  have ih:=sA (m:=m.erase a) hn.2 fun x hx=>by
   have hne:x≠a:=fun e=>hn.1 (e ▸ hx)
   exact(List.mem_erase_of_ne hne).mpr (hs x (List.mem_cons_of_mem _ hx))
  rw[List.length_erase_of_mem ha] at ih
  have:0 < m.length:=List.length_pos_of_mem ha
  show r.length+1<=m.length
  omega
end Hw
namespace Hw
open PySem L2
end Hw
namespace Hw
open PySem L2
section
variable {Z:Cz}{H0 H H':Hp}{d tl sd hd p pf:Addr}{xs:List Str}{vt:V}{c c':Cd}{kvs kh:List (Key×V)}{S:Sb}
end
end Hw
namespace PySem
section
variable {prog:Program}{w:World}{A:Around}{E:Value->Shared->Prop}{h:Heap}{g:Array GenState}{d:Drawn}{t:Nat}{os:OsState}
variable {nm q:Str}{C N:Addr}{bs bm:List Value}{hdct:Bool}{sn:List Str}{sub:List Value}{ab:Bool}{col:Option Bool}{dd:Option Addr}{k0 k1 k2 k3 k5:Option Value}
end
end PySem
namespace PySem
section
variable {M:Model}{A:Around}{E:Value->Shared->Prop}{s:Shared}{base:Heap}{env:Env}{outer:List Env}{L a C:Addr}{oe:Obj}{vs:Array Value}
end
end PySem
namespace L2
open PySem PySem.Spec PyProof.Rows
section
variable {P:Program}{w:World}{K:PySem.W.Frag}{mg:Str->Option Value}{base:Heap}{N:List Str}{qual:Str}{scope:Scope}{f C:Addr}{cd:Value}{A:Around}{outer:List Env}{s:Shared}{H:Hp}{E:XK}
end
end L2
namespace L2
open PySem PySem.Spec PyProof.Rows
section
variable {X:Cx}{CX:IV}{k:Nat}{f C D fI:Addr}{fd:FuncData}{ps:List Str}{sp:Sp}{E:XK}{x m:Str}{p pos apos:Pos}{e o:Expr}{es:List Expr}{t:TA}{bm:List Value}
noncomputable def Wc (sp:Sp)(E:XK)(to:TE)(t:TA):TE:=fun σ H Q=>to σ H fun _ H1=>t σ H1 fun vs H2=>sp (vs++[]) H2 Q E
theorem OG {pl:Sem Bool}(hg:Gl X x)(hm:X.mg x=some (.ref D))(h1:PySem.W.specialIn X.K (.ref D) "__getattribute__"=some (some (.builtin "type.__getattribute__")))(h2:PySem.W.readsIn X.K D (.type "type")=true)
  (h3:PySem.W.findCls X.K (.ref D) (.type "type") m=some (.val (.ref f))) (h4:PySem.W.handedIn (.ref f)=true) (hk:PySem.W.keepIn X.K (.ref f)=true) (F:aE X.prog X.w X.K X.mg X.base CX k f fd ps sp) (hr:dg k X.A) (hb:Binds X.K fd ps [])
  (hx:Passes CX X E) (ha:PA X (e::es) t) (hst:starEach (e::es) X.env=(false,eval e X.env)::starEach es X.env:=by rfl) (hpl:(backTo pos (starEach es X.env)).any (·.1)=false:=by rfl) (hdb:(x == ("__debug__":Str))=false:=by decide)
  (ht:eval (.Call (.Attribute (.Name x p) m apos) (e::es) [] pos) X.env=(do
   let ov <- eval (.Name x p) X.env
   standAt apos.atName
   let (f,first) <- holding [ov] (getMethod ov m pl)
   callWith pos f first (backTo pos (starEach (e::es) X.env)) (backToKw pos (keywordEach [] X.env))):=by rfl) :
  PE X (.Call (.Attribute (.Name x p) m apos) (e::es) [] pos) (Wc sp E (tC (.ref D)) t):=by
 intro pins s σ H Q I h
 refine PySem.W.methodCall_KW (pl:=pl) (wA I hg hm ?_ hdb) ht
 refine PySem.W.method_cls I.tO h1 (PySem.W.cls_value I.tO h2 h3 h4 ?_)
 have I1:=I.tok (s.toks+1)
 refine PySem.W.callWith_K (first:=[]) (h₀:=X.base) I.ok.mod.Vz hk (eK (ha pos pins _ σ H _ I1 h) fun us s2 ⟨vs,H2,I2,r,q2⟩=>⟨I2.tO,?_⟩) hst hpl
 exact BB F hr hb .nil hx I2 r q2
end
end L2
namespace L2
open PySem PySem.Spec PyProof.Rows
section
variable {X:Cx}{tg:Expr}
end
end L2
namespace PySem
open L2
theorem O2 (t:SetTable)(es:Array (Int×Value))(h:Int)(x:Value):(layNew t es h x).2.1.led=t.led:=by
 unfold layNew
 split
 ·dsimp only
  rename_i slot wd _
  have e:((t.put slot).1).led=t.led:=rfl
  have o:∀ (u:SetTable) (n:Nat),(u.orStandIn n).led=u.led:=fun u n=>by
   unfold SetTable.orStandIn
   split <;> rfl
  exact(o _ _).trans e
 ·rfl
theorem Jc (t:SetTable)(es:Array (Int×Value))(k:Nat):(relayAll t es k).2.1.led=t.led/\(t.plain=false->(relayAll t es k).2.1.plain=false):=by
 unfold relayAll
 split
 ·rename_i t' order hr
  dsimp only
  have e:t'.led=t.led/\t'.plain=t.plain:=by
   unfold SetTable.relaid SetTable.laid at hr
   simp only[Option.bind_eq_bind,Option.bind_eq_some_iff,Option.pure_def,Option.some.injEq,Prod.mk.injEq] at hr
   obtain⟨owner,_,rfl,_⟩:=hr
   exact⟨rfl,rfl⟩
  split
  ·exact⟨e.1,fun z=>e.2.trans z⟩
  ·exact⟨rfl,fun _=>rfl⟩
 ·exact⟨rfl,fun _=>rfl⟩
noncomputable def strOf:Value->Str
 | .str z _=>z
 | _=>Str.empty
noncomputable def bF (prog:Program)(w:World)(h:Heap)(a:Addr)(zs:List Str):Prop :=
 ∃ o es ep t,h.get? a=some o/\o.ExactSet/\o.data=.set es ep t/\ElemsOf (aG prog w) es.toList/\(∀ e∈es.toList,∃ z k,e.2=Value.str z k)/\es.toList.map (fun e=>strOf e.2)=zs/\zs.Nodup /\
  es.size < scanBound/\t.fits es.size=true/\t.led=!w.params.followText "set-order"/\(t.plain=false∨es.size=0)
section
variable {prog:Program}{w:World}{A:Around}{E:Value->Shared->Prop}{s:Shared}
theorem bF.store {h:Heap}{a:Addr}{o:Obj}{es:Array (Int×Value)}{ep:Nat}{t:SetTable}(ho:h.get? a=some o)(hex:o.ExactSet)(hd:o.data=.set es ep t){es':Array (Int×Value)}{t':SetTable}
  (h1:ElemsOf (aG prog w) es'.toList) (h2:∀ e∈es'.toList,∃ z k,e.2=Value.str z k) (h3:(es'.toList.map fun e=>strOf e.2).Nodup) (h4:es'.size < scanBound) (h5:t'.fits es'.size=true) (h6:t'.led=!w.params.followText "set-order") (h7:t'.plain=false) :
  (h.update a (Obj.putSet es' t')).get? a=some { o with data:=.set es' (ep+1) t' }/\bF prog w (h.update a (Obj.putSet es' t')) a (es'.toList.map fun e=>strOf e.2):=by
 have hg:(h.update a (Obj.putSet es' t')).get? a=some { o with data:=.set es' (ep+1) t' }:=by
  have:=Heap.get?_update_self (Obj.putSet es' t') ho (by rw[putSet_of es' t' hd];rfl)
  rw[putSet_of es' t' hd] at this;exact this
 exact⟨hg,_,es',ep+1,t',hg,hex,rfl,h1,h2,rfl,h3,h4,h5,h6,.inl h7⟩
theorem yh {x z:Str}{k:Tok}:(aG prog w).is (Sum.inr x) (.str z k)=decide (z=x):=by
 by_cases e:z=x
 ·subst e
  rw[cM,decide_eq_true rfl]
 ·rw[decide_eq_false e]
  cases q:(aG prog w).is (Sum.inr x) (.str z k) with
  | false=>rfl
  | true=>exact absurd (Sum.inr.inj ((aG prog w).inj _ _ _ q (cM prog w z k))) fun z=>e z.symm
theorem HE {a:Addr}{zs:List Str}{x:Str}{k:Tok}{Q:Bool->Shared->Prop}(hS:bF prog w s.heap a zs)(hroom:zs.length+1 < scanBound)
  (h:∀ h' zs',Heap.SameBut a s.heap h'->bF prog w h' a zs'->(x∈zs->zs'=zs)->(x ∉ zs->List.Perm zs' (zs++[x]))->Q (!decide (x∈zs)) { s with heap:=h' }) :
  wpAny (model prog w) A (setAddHashed a (.str x k) ((aG prog w).hash (Sum.inr x))) Q E s:=by
 obtain⟨o,es,ep,t,ho,hex,hd,hel,hst,hzs,hnd,hb,hf,fO,hpl⟩:=id hS
 have hn:es.size=zs.length:=by rw[<- hzs,List.length_map,Array.length_toList]
 have hsc:(Value.str x k).scannable=true:=rfl
 have hkey:=cM prog w x k
 unfold setAddHashed setAddHashedIn
 refine wpAny_holding (wpAny_bind (wpAny_setState_of ho hd hf ?_))
 dsimp only
 rw[byScan_of hsc hb hel]
 simp only[↓reduceIte]
 unfold setAddByScan
 refine wpAny_bind ?_
 refine wpAny_bind (wpAny_rule ?_)
 refine wpAny_bind (wpAny_setScan_of hkey ho hd hf hel ?_)
 have mem:x∈zs↔∃ e∈es.toList,(aG prog w).is (Sum.inr x) e.2=true:=by
  rw[<- hzs,List.mem_map]
  constructor
  ·rintro⟨e,he,q⟩
   obtain⟨z,k',e2⟩:=hst e he
   refine⟨e,he,?_⟩
   rw[e2] at q ⊢
   rw[yh]
   exact decide_eq_true q
  ·rintro⟨e,he,q⟩
   obtain⟨z,k',e2⟩:=hst e he
   refine⟨e,he,?_⟩
   rw[e2] at q ⊢
   rw[yh] at q
   exact of_decide_eq_true q
 cases hr:List.findIdx? (fun e=>(aG prog w).is (Sum.inr x) e.2) es.toList with
 | some j =>
  dsimp only
  obtain⟨hj,VE,_⟩:=List.findIdx?_eq_some_iff_getElem.mp hr
  have hm:x∈zs:=mem.mpr ⟨es.toList[j],List.getElem_mem hj,VE⟩
  refine wpAny_pure (wpAny_pure ?_)
  have e:s={ s with heap:=s.heap }:=by cases s;rfl
  have:=h s.heap zs (Heap.SameBut.refl a s.heap) hS (fun _=>rfl) (fun z=>absurd hm z)
  rw[decide_eq_true hm] at this
  rw[e];exact this
 | none =>
  dsimp only
  have hm:x ∉ zs:=fun z=>by
   obtain⟨e,he,q⟩:=mem.mp z
   have:=List.findIdx?_eq_none_iff.mp hr e he
   rw[q] at this;exact Bool.noConfusion this
  have hgw:∀ (b:Bool) {s₁:Shared} {Q':Unit->Shared->Prop},Q' () s₁->wpAny (model prog w) A (match b with | true=>rule "set.scan.the-table-gave-way" | false=>pure ()) Q' E s₁ :=
   fun b s₁ Q' hq=>by cases b <;> first | exact wpAny_pure hq | exact wpAny_rule hq
  have yj:=layNew_perm t es ((aG prog w).hash (Sum.inr x)) (.str x k)
  have Ik:=layNew_fits t es ((aG prog w).hash (Sum.inr x)) (.str x k)
  have hl:=O2 t es ((aG prog w).hash (Sum.inr x)) (.str x k)
  generalize hL:layNew t es ((aG prog w).hash (Sum.inr x)) (.str x k)=L at yj Ik hl ⊢
  obtain⟨es1,t1,wasDummy,a7m⟩:=L
  dsimp only at yj Ik hl ⊢
  rw[Array.toList_push] at yj
  have hel1:ElemsOf (aG prog w) es1.toList:=(hel.push hkey hsc).perm yj
  have YG:∀ e∈es1.toList,∃ z k,e.2=Value.str z k:=fun e he=>by
   rcases List.mem_append.mp (yj.mem_iff.mp he) with q | q
   ·exact hst e q
   ·rw[List.mem_singleton.mp q];exact⟨_,_,rfl⟩
  have hz1:List.Perm (es1.toList.map fun e=>strOf e.2) (zs++[x]):=by
   have:=yj.map fun e=>strOf e.2
   rw[List.map_append,hzs] at this
   exact this
  have YM:(es1.toList.map fun e=>strOf e.2).Nodup:=hz1.nodup_iff.mpr (by
   rw[List.nodup_append]
   refine⟨hnd,by simp,fun u hu v hv e=>?_⟩
   rw[List.mem_singleton.mp hv] at e
   exact hm (e ▸ hu))
  have hb1:es1.size < scanBound:=by
   rw[<- Array.length_toList,yj.length_eq,List.length_append,Array.length_toList]
   simpa [hn] using hroom
  refine wpAny_bind (hgw _ ?_)
  have hend:∀ h' zs',Heap.SameBut a s.heap h'->bF prog w h' a zs'->List.Perm zs' (zs++[x])->Q true { s with heap:=h' }:=by
   intro h' zs' Pf hS' hp
   have:=h h' zs' Pf hS' (fun z=>absurd z hm) (fun _=>hp)
   rw[decide_eq_false hm] at this
   exact this
  have tail:∀ t2:SetTable,t2.fits es1.size=true->t2.led=t.led->t2.plain=false->wpAny (model prog w) A (do
    storeSet a es1 t2
    if (!wasDummy && t2.tooFull)=true then do
      (match (relayAll t2 es1 (SetTable.grown es1.size)).2.2 with | true=>rule "set.scan.the-table-gave-way" | false=>pure ())
      storeSet a (relayAll t2 es1 (SetTable.grown es1.size)).1 (relayAll t2 es1 (SetTable.grown es1.size)).2.1
      pure (some true)
     else pure (some true)) (fun r s'=>wpAny (model prog w) A (match r with | some added=>pure added | none=>setAddHashedIn a (.str x k) ((aG prog w).hash (Sum.inr x)) 99999) Q E s') E s:=by
   intro t2 hf2 hl2 hp2
   refine wpAny_bind (wpAny_storeSet_of ho hd ?_ (fits_of_scanBound hb1))
   obtain⟨UT,MA⟩:=bF.store (prog:=prog) (w:=w) ho hex hd hel1 YG YM hb1 hf2 (hl2.trans fO) hp2
   have YH:=Heap.SameBut.update s.heap a (Obj.putSet es1 t2)
   split
   ·have hp:=relayAll_perm t2 es1 (SetTable.grown es1.size)
    have hfr:=relayAll_fits t2 es1 (SetTable.grown es1.size)
    have hlr:=Jc t2 es1 (SetTable.grown es1.size)
    generalize hRl:relayAll t2 es1 (SetTable.grown es1.size)=Rl at hp hfr hlr ⊢
    obtain⟨es2,t3,a4t⟩:=Rl
    dsimp only at hp hfr hlr ⊢
    have hsz:es2.size=es1.size:=by rw[<- Array.length_toList,hp.length_eq,Array.length_toList]
    refine wpAny_bind (hgw _ ?_)
    refine wpAny_bind (wpAny_storeSet_of UT rfl ?_ (fits_of_scanBound (by rw[hsz];exact hb1)))
    obtain⟨_,hS2⟩:=bF.store (prog:=prog) (w:=w) UT hex rfl (hel1.perm hp) (fun e he=>YG e (hp.mem_iff.mp he)) ((hp.map _).nodup_iff.mpr YM) (by rw[hsz];exact hb1) hfr (hlr.1.trans (hl2.trans fO)) (hlr.2 hp2)
    exact wpAny_pure (wpAny_pure (hend _ _ (YH.trans (Heap.SameBut.update _ a _)) hS2 ((hp.map _).trans hz1)))
   ·exact wpAny_pure (wpAny_pure (hend _ _ YH MA hz1))
  split
  ·refine wpAny_bind ?_
   rw[hashByValue_scannable 8 hsc]
   refine wpAny_pure ?_
   exact tail { t1 with plain:=false } (SetTable.fits_plain_off Ik) hl rfl
  ·rename_i hpp
   refine wpAny_bind (wpAny_pure ?_)
   simp only[↓reduceIte]
   exact tail t1 Ik hl (by simpa using hpp)
end
end PySem
namespace PySem
open L2 PyProof.Rows
section
variable {prog:Program}{w:World}{A:Around}{R:Result->Shared->Prop}{I:Addr}{fp wr:List Addr}{G:Array GenState->Array GenState->Prop}{n:Nat}{P:Nat->Value->Prop}{St:Nat->Shared->Prop}
theorem bF.at {h h':Heap}{a:Addr}{zs:List Str}(x:bF prog w h a zs)(k:∀ o,h.get? a=some o->h'.get? a=some o):bF prog w h' a zs:=by
 obtain⟨o,es,ep,t,ho,r⟩:=x
 exact⟨o,es,ep,t,k o ho,r⟩
theorem DF (W:WalksS prog w A.in1 I fp wr G n P St)(S:Addr)(hSf:S ∉ fp)(ss:List Str)(hlen:ss.length=n)(hval:∀ i v,i < n->P i v->∃ t,v=.str (ss.getD i Str.empty) t)(hb:n+1 < scanBound) :
  ∀ (k i:Nat) (s:Shared) (zs:List Str),n - i=k->i<=n->St i s->bF prog w s.heap S zs->zs.length<=i->(∀ x,x∈zs↔x∈ss.take i) ->
   (∀ s' zs',Moved (S::wr) G s s'->bF prog w s'.heap S zs'->zs'.length<=n->(∀ x,x∈zs'↔x∈ss)->R (.ok (.ret .none)) s') ->
   codeAny (model prog w) A (.builtin "set.update.loop" ⟨[.ref S,.ref I],[]⟩) R s:=by
 have hSw:S ∉ wr:=fun h=>hSf (W.sub _ h)
 have hsub:∀ b∈wr,b∈S::wr:=fun b hb=>List.mem_cons_of_mem _ hb
 intro k
 induction k with
 | zero =>
  intro i s zs hk hi hst hS hl hm hR
  have hin:i=n:=by omega
  subst hin
  refine codeAny_builtin F.entry_set_update_loop ?_
  rw[Around.under_plainId F.plain_set_update_loop _]
  show wpAny _ A.in1 (pyNext (.ref I) >>= _) _ _ s
  refine wpAny_bind (W.done s _ _ hst fun s' YN=>?_)
  show wpAny _ A.in1 (ret Value.none) _ _ s'
  refine wpAny_pure (hR s' zs (YN.mono hsub) (hS.at fun o ho=>YN.heap S _ hSw ho) hl fun x=>?_)
  rw[hm x,<- hlen,List.take_length]
 | succ k ih =>
  intro i s zs hk hi hst hS hl hm hR
  have hlt:i < n:=by omega
  refine codeAny_builtin F.entry_set_update_loop ?_
  rw[Around.under_plainId F.plain_set_update_loop _]
  show wpAny _ A.in1 (pyNext (.ref I) >>= _) _ _ s
  refine wpAny_bind (W.item i s _ _ hlt hst fun v s' hP a1W YN=>?_)
  obtain⟨t,rfl⟩:=hval i v hlt hP
  have hS':bF prog w s'.heap S zs:=hS.at fun o ho=>YN.heap S _ hSw ho
  show wpAny _ A.in1 (holding [Value.str (ss.getD i Str.empty) t] (setAdd S (.str (ss.getD i Str.empty) t)) >>= _) _ _ s'
  refine wpAny_bind (wpAny_holding ?_)
  unfold setAdd
  refine wpAny_holding ?_
  refine wpAny_bind ((aG prog w).pyHash (k:=Sum.inr (ss.getD i Str.empty)) (cM _ _ _ _) ?_)
  refine HE (s:={ s' with toks:=s'.toks+1 }) hS' (by omega) fun h' zs' Pf hS2 hin hout=>?_
  have hx:ss[i]?=some (ss.getD i Str.empty):=by
   rw[List.getD_eq_getElem?_getD,List.getElem?_eq_getElem (by omega)]
   rfl
  have hmem:∀ x,x∈zs'↔x∈ss.take (i+1):=fun x=>by
   rw[List.take_add_one,hx,List.mem_append]
   by_cases q:ss.getD i Str.empty∈zs
   ·rw[hin q,hm x]
    constructor
    ·exact .inl
    ·rintro(z | z)
     ·exact z
     ·have:x=ss.getD i Str.empty:=by simpa using z
      rw[this];exact(hm _).mp q
   ·rw[(hout q).mem_iff,List.mem_append,hm x]
    simp
  have hl':zs'.length<=i+1:=by
   by_cases q:ss.getD i Str.empty∈zs
   ·rw[hin q];omega
   ·rw[(hout q).length_eq,List.length_append,List.length_singleton];omega
  refine wpAny_pure ⟨plainId_quiet F.plain_set_update_loop _,ih (i+1) _ zs' (by omega) hlt (W.frame _ s' _ _ a1W (Nat.le_succ _) fun b hb o e=>?_) hS2 hl' hmem fun s'' a0v a16 a2i a18 hm2=>?_⟩
  ·rw[Pf.2 b (fun h:b=S=>hSf (by rw[<- h];exact hb))];exact e
  ·refine hR s'' a0v (Moved.trans W.gtrans ((YN.mono hsub).then_heap (Nat.le_succ _) fun b o hb e=>?_) a16) a2i a18 hm2
   rw[Pf.2 b (fun h:b=S=>hb (by rw[h];exact List.mem_cons_self))];exact e
end
section
variable {prog:Program}{w:World}{A:Around}{E:Value->Shared->Prop}{s:Shared}
theorem oN (a:Value){Q₁:Value->Shared->Prop}
  (h:Q₁ (.ref s.heap.objs.size) { s with heap:=s.heap.push { cls:=.type "set",dict:=none,data:=.set #[] 0 (.fresh 0 0 (!w.params.followText "set-order")) } }) :
  codeAny (model prog w) A (.call (.builtin "set.__new__") ⟨[.type "set",a],[]⟩) (wants Q₁ E) s:=by
 refine codeAny_of_tree ?_
 show wpAny _ A.in1 (do checkBuiltinCall "set.__new__" ⟨[.type "set",a],[]⟩;again (.builtin "set.__new__" ⟨[.type "set",a],[]⟩)) _ _ s
 refine wpAny_bind (wpAny_of_eq (F.newCall_set_1 a) (wpAny_pure ⟨plainId_quiet F.plain_set_new _,codeAny_builtin F.entry_set_new ?_⟩))
 rw[Around.under_plainId F.plain_set_new _]
 unfold Builtin.«set.__new__» Builtin.Frozenset.newClass
 have hsub:=sub_set_self
 obtain⟨hp,g,d,tk,os⟩:=s
 dsimp only
 wp_walk
 refine wpAny_askSetting (wpAny_pure ?_)
 dsimp only
 simp only[newObj]
 refine wpAny_bind (wpAny_alloc (wpAny_pure ?_))
 exact wpAny_pure h
theorem StrsAre.KI:∀ {vs:List Value} {ss:List Str},StrsAre vs ss->∀ (i:Nat) (v:Value),vs[i]?=some v->∃ t,v=.str (ss.getD i Str.empty) t:=by
 intro vs ss h
 induction h with
 | nil=>intro i v e;simp at e
 | cons x t hr ih =>
  intro i v e
  cases i with
  | zero=>simp at e;exact⟨t,e.symm⟩
  | succ i =>
   simp only[List.getElem?_cons_succ] at e
   obtain⟨t',e'⟩:=ih i v e
   exact⟨t',by rw[e'];rfl⟩
set_option maxHeartbeats 3200000 in
theorem zF {l:Addr}{items:Array Value}{ss:List Str}{Q:Value->Shared->Prop}(hh:A.handled=none)(hl:s.heap.IsList l items)(hi:StrsAre items.toList ss)(hb:items.size+1 < scanBound)
  (h:∀ (h':Heap) (tk:Nat) (zs:List Str),bF prog w h' s.heap.objs.size zs->(∀ x,x∈zs↔x∈ss)->zs.length<=items.size ->
   (∀ b o,b < s.heap.objs.size->s.heap.get? b=some o->h'.get? b=some o)->Q (.ref s.heap.objs.size) { s with heap:=h',toks:=tk }) :
  wpAny (model prog w) A (call (.type "set") [.ref l]) Q E s:=by
 have hlen:ss.length=items.size:=by rw[<- StrsAre.length hi,Array.length_toList]
 obtain⟨c,tl,a15⟩:=F.called_set.mro
 have hmade:=F.called_set.made
 have hsub:=F.called_set.sub
 refine wpAny_call (codeAny_of_tree ?_)
 show wpAny _ _ (callAny (.type "set") _) _ _ _
 refine wpAny_pure ⟨Code.quiet_builtin _ (by decide +kernel),codeAny_builtin F.entry_type_call ?_⟩
 rw[Around.under_plain (weight_type_call_type "set" [.ref l] []) rfl]
 have h1:=F.called_set.notType
 have h2:=F.called_set.canCreate
 have hct:=F.typeCall_set_1 (.ref l)
 repeat (any_goals (first | assumption | wp_step))
 refine codeAny_mono (oN (.ref l) (E:=E) (Q₁:=fun obj s₁=>obj=.ref s.heap.objs.size/\s₁={ s with heap:=s.heap.push { cls:=.type "set",dict:=none,data:=.set #[] 0 (.fresh 0 0 (!w.params.followText "set-order")) } }) ⟨rfl,rfl⟩) fun r s₁ hr=>?_
 cases r with
 | error e=>exact hr
 | ok fl =>
  cases fl with
  | ret obj =>
   obtain⟨rfl,rfl⟩:=hr
   have hS:(s.heap.push { cls:=.type "set",dict:=none,data:=.set #[] 0 (.fresh 0 0 (!w.params.followText "set-order")) }).get? s.heap.objs.size=some { cls:=.type "set",dict:=none,data:=.set #[] 0 (.fresh 0 0 (!w.params.followText "set-order")) }:=Heap.get?_push_size _ rfl
   have hT:Shared.TypeIs { s with heap:=s.heap.push { cls:=.type "set",dict:=none,data:=.set #[] 0 (.fresh 0 0 (!w.params.followText "set-order")) } } (.ref s.heap.objs.size) "set":=⟨_,hS,rfl⟩
   have hli:=F.called_set.init.lookup
   have hbi:=F.called_set.init.bind (.ref s.heap.objs.size)
   repeat (any_goals (first | assumption | wp_step))
   refine codeAny_mono (codeAny_call_builtin (R:=wants (fun r s₂=>r=.none/\∃ h' tk zs,s₂={ s with heap:=h',toks:=tk }/\bF prog w h' s.heap.objs.size zs/\(∀ x,x∈zs↔x∈ss)/\zs.length<=items.size /\
     (∀ b o,b < s.heap.objs.size->s.heap.get? b=some o->h'.get? b=some o)) E) F.called_set.init.plain F.entry_set_init (check_set_init_1 hT ?_)) fun r₂ s₂ hr₂=>?_
   ·obtain⟨ol,YL,hcl,nl,hdl⟩:=hl
    obtain⟨a05,LR,W2,FU⟩:=ol
    simp only at hcl hdl
    subst hcl;subst hdl
    have US:(s.heap.push { cls:=.type "set",dict:=none,data:=.set #[] 0 (.fresh 0 0 (!w.params.followText "set-order")) }).get? l=some { cls:=.type "list",dict:=LR,data:=.seq items nl,slots:=FU }:=Heap.get?_push_of_some _ YL
    have a1X:=F.sub_list_set
    have a1Y:=F.sub_list_frozenset
    have hne:(Value.type "list" == Value.type "dict")=false:=by decide
    have hl1:(s.heap.push { cls:=.type "set",dict:=none,data:=.set #[] 0 (.fresh 0 0 (!w.params.followText "set-order")) }).IsList l items:=⟨_,US,rfl,nl,rfl⟩
    unfold Builtin.«set.__init__» noKeywords Builtin.Frozenset.updateFrom
    generalize hPI:pyIter=PI
    wp_walk
    subst hPI
    refine wpAny_pyIter_list hl1 ?_
    refine wpAny_bind (wpAny_runValue ?_)
    have hlS:l < s.heap.objs.size:=Heap.lt_size YL
    have hh3:A.in1.in1.in1.handled=none:=by simp[hh]
    have UW:l≠(s.heap.push { cls:=.type "set",dict:=none,data:=.set #[] 0 (.fresh 0 0 (!w.params.followText "set-order")) }).objs.size:=by rw[Heap.size_push];exact Nat.ne_of_lt (Nat.lt_succ_of_lt hlS)
    have hSf:s.heap.objs.size ∉ [(s.heap.push { cls:=.type "set",dict:=none,data:=.set #[] 0 (.fresh 0 0 (!w.params.followText "set-order")) }).objs.size,l]:=by
     rw[Heap.size_push];simp only[List.mem_cons,List.mem_singleton,List.not_mem_nil,or_false,not_or]
     exact⟨Nat.ne_of_lt (Nat.lt_succ_self _),Nat.ne_of_gt hlS⟩
    refine DF ((Walks.list hh3 _ l UW items).toS) s.heap.objs.size hSf ss hlen (fun i v _ hv=>StrsAre.KI hi i v (by rw[Array.getElem?_toList];exact hv)) hb (items.size - 0) 0 _ [] (by omega) (Nat.zero_le _)
     ⟨⟨_,Heap.get?_push_size _ rfl,rfl,rfl⟩,(hl1.push _)⟩ ?hS0 (Nat.le_refl _) (fun x=>by simp) ?hR
    case hS0 =>
     have hget:((s.heap.push { cls:=.type "set",dict:=none,data:=.set #[] 0 (.fresh 0 0 (!w.params.followText "set-order")) }).push { cls:=.type "list_iterator",data:=.fields #[.ref l,.int 0 0] }).get? s.heap.objs.size=some { cls:=.type "set",dict:=none,data:=.set #[] 0 (.fresh 0 0 (!w.params.followText "set-order")) }:=Heap.get?_push_of_some _ hS
     exact⟨_,#[],0,_,hget,⟨rfl,rfl,rfl⟩,rfl,(fun e he=>by simp at he),(fun e he=>by simp at he),rfl,.nil,by decide,by rfl,rfl,.inr rfl⟩
    case hR =>
     intro s' zs hm hS' ND hmem
     obtain⟨h',g',d',tk',os'⟩:=s'
     have eg:g'=s.gens:=hm.gens
     have ed:d'=s.drawn:=hm.drawn
     have eo:os'=s.os:=hm.os
     subst eg;subst ed;subst eo
     show wpAny _ _ _ _ _ _
     refine wpAny_pure ?_
     show wpAny _ _ (ret Value.none) _ _ _
     refine wpAny_pure ⟨rfl,h',tk',zs,rfl,hS',hmem,ND,fun b o hb e=>?_⟩
     have hb1:b≠s.heap.objs.size:=Nat.ne_of_lt hb
     have hb2:b≠(s.heap.push { cls:=.type "set",dict:=none,data:=.set #[] 0 (.fresh 0 0 (!w.params.followText "set-order")) }).objs.size:=by rw[Heap.size_push];exact Nat.ne_of_lt (Nat.lt_succ_of_lt hb)
     exact hm.heap b o (by simp only[List.mem_cons,List.mem_singleton,List.not_mem_nil,or_false,not_or];exact⟨hb1,hb2⟩) (Heap.get?_push_of_some _ (Heap.get?_push_of_some _ e))
   ·cases r₂ with
    | error e=>exact hr₂
    | ok fl₂ =>
     cases fl₂ with
     | ret r =>
      obtain⟨rfl,h',tk,zs,rfl,hS',hmem,ND,hk'⟩:=hr₂
      repeat (any_goals (first | assumption | wp_step))
      exact h _ _ zs hS' hmem ND hk'
     | _=>exact hr₂.elim
  | _=>exact hr.elim
end
end PySem
namespace PySem
open L2 PyProof.Rows
namespace F
theorem vJ:entryFor table "set.__iter__"=some Builtin.«frozenset.__iter__»:=entryFor_alias (id':="frozenset.__iter__") (by kernel_rfl) rfl (by decide +kernel) (by kernel_rfl)
theorem qP:Manifest.owners.lookup (String.ofList ['r','o','t','a','r','e','t','i','_','t','e','s'].reverse)=some Manifest.sig_set_iterator:=by kernel_rfl
theorem aI:Slot "set_iterator" "__next__" "set_iterator.__next__" :=
 .of (owner:="set_iterator") (n:="__next__") (by rw[typeLookup_type,builtinLookup_eq_fast];kernel_rfl) (by decide +kernel) (by decide +kernel) (by decide +kernel)
  (by first | exact .inl (by decide +kernel) | exact .inr (by decide +kernel)) (by rw[isSubtype_type];kernel_rfl)
theorem c6:entryFor table "set_iterator.__next__"=some Builtin.«set_iterator.__next__»:=entryFor_of_tree (by kernel_rfl)
theorem cT (a:Value):argsOk "set_iterator.__next__" ⟨[a],[]⟩:=by
 unfold argsOk;rw[signature?_of (id:="set_iterator.__next__") (n:=['_','_','t','x','e','n','_','_']) (o:=['r','o','t','a','r','e','t','i','_','t','e','s']) (by kernel_rfl) qP];kernel_rfl
theorem fR:Slot "set_iterator" "__iter__" "set_iterator.__iter__" :=
 .of (owner:="set_iterator") (n:="__iter__") (by rw[typeLookup_type,builtinLookup_eq_fast];kernel_rfl) (by decide +kernel) (by decide +kernel) (by decide +kernel)
  (by first | exact .inl (by decide +kernel) | exact .inr (by decide +kernel)) (by rw[isSubtype_type];kernel_rfl)
theorem lT:entryFor table "set_iterator.__iter__"=some Builtin.«dict_keyiterator.__iter__» :=
 entryFor_alias (id':="dict_keyiterator.__iter__") (by kernel_rfl) rfl (by decide +kernel) (by kernel_rfl)
theorem lg (a:Value):argsOk "set_iterator.__iter__" ⟨[a],[]⟩:=by unfold argsOk;kernel_rfl
end F
noncomputable def sZ (h:Heap)(I:Addr)(first:Value)(i:Nat)(a:Addr)(n ep:Nat):Prop :=
 ∃ o,h.get? I=some o/\o.cls=.type "set_iterator"/\o.data=.fields #[first,.int i 0,.ref a,.int n 0,.int ep 0]
noncomputable def jX (h:Heap)(a:Addr)(es:Array (Int×Value))(ep:Nat)(t:SetTable):Prop:=∃ o,h.get? a=some o/\o.data=.set es ep t/\t.fits es.size=true
theorem sZ.typeIs {s:Shared}{I a:Addr}{first:Value}{i n ep:Nat}(x:sZ s.heap I first i a n ep):s.TypeIs (.ref I) "set_iterator":=let ⟨o,ho,hc,_⟩:=x;⟨o,ho,hc⟩
section
variable {prog:Program}{w:World}{A:Around}{E:Value->Shared->Prop}{s:Shared}{I a tp:Addr}{i n ep:Nat}{es:Array (Int×Value)}{t:SetTable}
theorem ua {first:Value}{Q:Value->Shared->Prop}(hit:sZ s.heap I first i a n ep)(h:Q (.ref I) s):wpAny (model prog w) A (pyIter (.ref I)) Q E s:=by
 refine wpAny_pyIter_slot hit.typeIs F.fR (wpAny_call_entry F.fR hit.typeIs F.lT ?_ (F.lg _))
 show wpAny _ _ (ret (.ref I)) _ _ s
 exact wpAny_pure ⟨_,rfl,"set_iterator",_,hit.typeIs,F.aI.lookup,h⟩
end
end PySem
namespace PySem
open L2 PyProof.Rows
section
variable {prog:Program}{w:World}{A:Around}{E:Value->Shared->Prop}{s:Shared}{I a tp:Addr}{i n ep:Nat}{es:Array (Int×Value)}{t:SetTable}
theorem tX {es:Array (Int×Value)}{n:Nat}(hn:es.size=n):(((es.size:Nat):Int) != ((n:Nat):Int))=false:=by rw[hn];simp
theorem S8 {Q:Option Value->Shared->Prop}{ps:List Value}{k p:Nat}{tk:Tok}{ot:Obj}{e:Int×Value}(hit:sZ s.heap I (.ref tp) i a n ep)(hs:jX s.heap a es ep t)(hn:es.size=n)(ht:s.heap.get? tp=some ot)(hd:ot.data=.seq ps.toArray k)
  (hp:ps[i]?=some (.int p tk)) (he:es[p]?=some e) (hQ:∀ h',sZ h' I (.ref tp) (i+1) a n ep->Heap.SameBut I s.heap h'->Q (some e.2) { s with heap:=h' }):wpAny (model prog w) A (pyNext (.ref I)) Q E s:=by
 obtain⟨o,ho,hc,hdo⟩:=id hit
 obtain⟨os,hos,hds,hf⟩:=hs
 unfold pyNext
 refine wpAny_bind (wpAny_attempt (wpAny_callSpecial?_slot (name:=Str.ofString "__next__") hit.typeIs F.aI
  (wpAny_call_entry F.aI hit.typeIs F.c6 ?_ (F.cT _))))
 show wpAny _ _ (fieldsOf (.ref I) >>= _) _ _ s
 refine wpAny_bind (wpAny_fieldsOf ho hdo ?_)
 dsimp only
 refine wpAny_bind (wpAny_setEntries_of hos hds hf ?_)
 rw[tX hn]
 simp only[Bool.false_eq_true,if_false]
 refine wpAny_bind (wpAny_seqItems ht hd ?_)
 dsimp only
 have YK:ps.toArray[(i:Int).toNat]?=some (.int p tk):=by rw[Int.toNat_natCast];simpa using hp
 rw[YK]
 dsimp only
 unfold setNextDrawn
 refine wpAny_bind (wpAny_bind (wpAny_setState_of hos hds hf ?_))
 dsimp only
 simp only[Int.toNat_natCast,bne_self_eq_false,Bool.false_eq_true,if_false,he]
 refine wpAny_pure ?_
 refine wpAny_bind (wpAny_setField ho hdo (by simp) (wpAny_pure ⟨_,rfl,wpAny_pure (hQ _ ?_ (Heap.SameBut.update ..))⟩))
 exact⟨_,Heap.get?_update_self _ ho (Obj.isFreed_of_fields (Obj.data_mapFields hdo _)),(Obj.cls_mapFields ..).trans hc,by rw[Obj.data_mapFields hdo];simp[rawInt]⟩
theorem Y5 {Q:Option Value->Shared->Prop}{ps:List Value}{k:Nat}{ot:Obj}(hh:A.handled=none)(hit:sZ s.heap I (.ref tp) i a n ep)(hs:jX s.heap a es ep t)(hn:es.size=n)(ht:s.heap.get? tp=some ot)(hd:ot.data=.seq ps.toArray k)
  (hp:ps[i]?=none) (hQ:∀ h',(∀ b o,b≠I->s.heap.get? b=some o->h'.get? b=some o)->Q none { s with heap:=h' }):wpAny (model prog w) A (pyNext (.ref I)) Q E s:=by
 obtain⟨o,ho,hc,hdo⟩:=id hit
 obtain⟨os,hos,hds,hf⟩:=hs
 unfold pyNext
 refine wpAny_bind (wpAny_attempt (wpAny_callSpecial?_slot (name:=Str.ofString "__next__") hit.typeIs F.aI
  (wpAny_call_entry F.aI hit.typeIs F.c6 ?_ (F.cT _))))
 show wpAny _ _ (fieldsOf (.ref I) >>= _) _ _ s
 refine wpAny_bind (wpAny_fieldsOf ho hdo ?_)
 dsimp only
 refine wpAny_bind (wpAny_setEntries_of hos hds hf ?_)
 rw[tX hn]
 simp only[Bool.false_eq_true,if_false]
 refine wpAny_bind (wpAny_seqItems ht hd ?_)
 dsimp only
 have YK:ps.toArray[(i:Int).toNat]?=none:=by rw[Int.toNat_natCast];simpa using hp
 rw[YK]
 dsimp only
 refine wpAny_bind (wpAny_setField ho hdo (by simp) ?_)
 have UT:=Heap.get?_update_self (Obj.mapFields (·.setIfInBounds 0 (rawInt 0))) ho (Obj.isFreed_of_fields (Obj.data_mapFields hdo _))
 refine wpAny_bind (wpAny_setField UT (Obj.data_mapFields hdo _) (by simp) ?_)
 show wpAny _ _ (newExc (.type "StopIteration") [] >>= _) _ _ _
 refine wpAny_bind ?_
 simp only[newExc,newTuple]
 refine wpAny_bind (wpAny_newObj_type ?_ (by size_fits))
 refine wpAny_bind (m:=firstArgMember _ _) (wpAny_of_eq (a:=Value.none) (by first | rfl | (simp only[firstArgMember];rfl)) ?_)
 refine wpAny_newObj_type ?_ (by size_fits)
 simp only[raiseNew]
 refine wpAny_bind (wpAny_handled ?_)
 rw[show A.in1.handled=none from hh]
 refine wpAny_bind (wpAny_pure (wpAny_throw ?_))
 refine wpAny_bind (wpAny_isInstance (T:="StopIteration") (b:=true) ⟨_,Heap.get?_push_size _ rfl,rfl⟩ isSubtype_stop ?_)
 refine wpAny_pure (hQ _ fun b o' hb e=>?_)
 exact Heap.get?_push_of_some _ (Heap.get?_push_of_some _ ((Heap.get?_update_other _ _ (Ne.symm hb)).trans ((Heap.get?_update_other _ _ (Ne.symm hb)).trans e)))
theorem B0 {Q:Option Value->Shared->Prop}{sl:Nat}{r:Option (Value×Nat)}(hh:A.handled=none)(hit:sZ s.heap I (.int sl 0) i a n ep)(hs:jX s.heap a es ep t)(hn:es.size=n)
  (hr:∀ (A':Around) (E':Value->Shared->Prop) (Q':Option (Value×Nat)->Shared->Prop),Q' r s->wpAny (model prog w) A' (setNext a sl i ep) Q' E' s)
  (hQ:∀ x nx h',r=some (x,nx)->sZ h' I (.int nx 0) (i+1) a n ep->Heap.SameBut I s.heap h'->Q (some x) { s with heap:=h' })
  (hE:r=none->∀ h',(∀ b o,b≠I->s.heap.get? b=some o->h'.get? b=some o)->Q none { s with heap:=h' }):wpAny (model prog w) A (pyNext (.ref I)) Q E s:=by
 obtain⟨o,ho,hc,hdo⟩:=id hit
 obtain⟨os,hos,hds,hf⟩:=hs
 unfold pyNext
 refine wpAny_bind (wpAny_attempt (wpAny_callSpecial?_slot (name:=Str.ofString "__next__") hit.typeIs F.aI
  (wpAny_call_entry F.aI hit.typeIs F.c6 ?_ (F.cT _))))
 show wpAny _ _ (fieldsOf (.ref I) >>= _) _ _ s
 refine wpAny_bind (wpAny_fieldsOf ho hdo ?_)
 dsimp only
 refine wpAny_bind (wpAny_setEntries_of hos hds hf ?_)
 rw[tX hn]
 simp only[Bool.false_eq_true,if_false,Int.toNat_natCast]
 refine wpAny_bind (hr _ _ _ ?_)
 cases r with
 | some q =>
  obtain⟨x,nx⟩:=q
  dsimp only
  refine wpAny_bind (wpAny_setField ho hdo (by simp) ?_)
  have UT:=Heap.get?_update_self (Obj.mapFields (·.setIfInBounds 0 (rawInt nx))) ho (Obj.isFreed_of_fields (Obj.data_mapFields hdo _))
  refine wpAny_bind (wpAny_setField UT (Obj.data_mapFields hdo _) (by simp) (wpAny_pure ⟨_,rfl,wpAny_pure (hQ x nx _ rfl ?_ ((Heap.SameBut.update ..).trans (Heap.SameBut.update ..)))⟩))
  exact⟨_,Heap.get?_update_self _ UT (Obj.isFreed_of_fields (Obj.data_mapFields (Obj.data_mapFields hdo _) _)),((Obj.cls_mapFields ..).trans (Obj.cls_mapFields ..)).trans hc,by rw[Obj.data_mapFields (Obj.data_mapFields hdo _)];simp[rawInt]⟩
 | none =>
  dsimp only
  refine wpAny_bind (wpAny_setField ho hdo (by simp) ?_)
  show wpAny _ _ (newExc (.type "StopIteration") [] >>= _) _ _ _
  refine wpAny_bind ?_
  simp only[newExc,newTuple]
  refine wpAny_bind (wpAny_newObj_type ?_ (by size_fits))
  refine wpAny_bind (m:=firstArgMember _ _) (wpAny_of_eq (a:=Value.none) (by first | rfl | (simp only[firstArgMember];rfl)) ?_)
  refine wpAny_newObj_type ?_ (by size_fits)
  simp only[raiseNew]
  refine wpAny_bind (wpAny_handled ?_)
  rw[show A.in1.handled=none from hh]
  refine wpAny_bind (wpAny_pure (wpAny_throw ?_))
  refine wpAny_bind (wpAny_isInstance (T:="StopIteration") (b:=true) ⟨_,Heap.get?_push_size _ rfl,rfl⟩ isSubtype_stop ?_)
  refine wpAny_pure (hE rfl _ fun b o' hb e=>?_)
  exact Heap.get?_push_of_some _ (Heap.get?_push_of_some _ ((Heap.get?_update_other _ _ (Ne.symm hb)).trans e))
end
end PySem
namespace PySem
open L2 PyProof.Rows
theorem qV {α:Type}:∀ {l:List α} {i:Nat} (h:i < l.length),List.Perm (l[i]::l.eraseIdx i) l
 | x::r,0,_=>.refl _
 | x::r,i+1,h=>by
  have hi:i < r.length:=by simpa using h
  show List.Perm (r[i]::x::r.eraseIdx i) (x::r)
  exact(List.Perm.swap ..).trans (.cons _ (qV hi))
theorem Am {α:Type}(next:Nat->Nat):∀ (n k:Nat) (l:List α) (out:Array α),l.length=n->List.Perm (pickOrder.go next n k l out).toList (out.toList++l)
 | 0,k,l,out,h=>by
  have:l=[]:=List.length_eq_zero_iff.mp h
  subst this
  unfold pickOrder.go
  simp
 | n+1,k,l,out,h=>by
  unfold pickOrder.go
  have hi:next k % l.length < l.length:=Nat.mod_lt _ (by omega)
  rw[List.getElem?_eq_getElem hi]
  dsimp only
  refine(Am next n (k+1) (l.eraseIdx (next k % l.length)) (out.push l[next k % l.length]) (by rw[List.length_eraseIdx_of_lt hi];omega)).trans ?_
  rw[Array.toList_push,List.append_assoc]
  refine List.Perm.append_left _ ?_
  show List.Perm (l[next k % l.length]::l.eraseIdx (next k % l.length)) l
  exact qV hi
theorem dZ {α:Type}(next:Nat->Nat)(xs:Array α):List.Perm (pickOrder next xs).toList xs.toList:=by
 unfold pickOrder
 have:=Am next xs.size 0 xs.toList #[] (by simp)
 simpa using this
section
variable {M:Model}{A:Around}{E:Value->Shared->Prop}{s:Shared}
theorem y9 {src:Source}{n:Nat}{Q:Nat->Shared->Prop}(hn:n≠0)(h:∀ i d,i < n->Q i { s with drawn:=d }):wpAny M A (choose src n) Q E s:=by
 intro Γ p hΓ
 unfold choose
 rw[Sem.wp_choose]
 refine⟨hn,?_⟩
 simp only[Sem.wp_pure]
 exact h _ _ (Nat.mod_lt _ (Nat.pos_of_ne_zero hn))
theorem ux {α:Type}:∀ (n:Nat) (xs:List α) (s:Shared) (Q:List α->Shared->Prop),xs.length=n->(∀ ys d,List.Perm ys xs->Q ys { s with drawn:=d })->wpAny M A (drawOrder n xs) Q E s
 | 0,xs,s,Q,hl,h=>by
  have:xs=[]:=List.length_eq_zero_iff.mp hl
  subst this
  unfold drawOrder
  have e:s={ s with drawn:=s.drawn }:=by cases s;rfl
  rw[e]
  exact wpAny_pure (h [] _ .nil)
 | n+1,xs,s,Q,hl,h=>by
  cases xs with
  | nil=>cases hl
  | cons x0 r0 =>
   unfold drawOrder
   refine wpAny_bind (y9 (by rw[hl];omega) fun i d hi=>?_)
   rw[List.getElem?_eq_getElem hi]
   dsimp only
   refine wpAny_bind (ux n _ _ _ (by rw[List.length_eraseIdx_of_lt hi,hl];omega) fun ys d' hp=>wpAny_pure ?_)
   exact h _ d' ((List.Perm.cons _ hp).trans (qV hi))
end
section
variable {prog:Program}{w:World}{A:Around}{E:Value->Shared->Prop}{s:Shared}{I a tp:Addr}{i n ep:Nat}{es:Array (Int×Value)}{t:SetTable}
theorem Ah {Q:Option (Value×Nat)->Shared->Prop}{sl:Nat}(hT:w.params.followText "set-order"=true)(hs:jX s.heap a es ep t)
  (h:Q (((pickOrder (w.params.setOrder a ep) es)[i]?).map fun e=>(e.2,sl)) s):wpAny (model prog w) A (setNext a sl i ep) Q E s:=by
 obtain⟨o,ho,hd,hf⟩:=hs
 unfold setNext
 refine wpAny_bind (wpAny_setState_of ho hd hf ?_)
 dsimp only
 unfold setsByText
 refine wpAny_bind (wpAny_bind (wpAny_askSetting (wpAny_pure ?_)))
 show wpAny _ _ (if (w.params.followText "set-order")=true then _ else _) _ _ _
 rw[hT]
 simp only[if_true,bne_self_eq_false,Bool.false_eq_true,if_false]
 unfold setWalk
 refine wpAny_bind (wpAny_bind (wpAny_setState_of ho hd hf ?_))
 dsimp only
 unfold setsByText
 refine wpAny_bind (wpAny_bind (wpAny_askSetting (wpAny_pure ?_)))
 show wpAny _ _ (if (w.params.followText "set-order")=true then _ else _) _ _ _
 rw[hT]
 simp only[if_true]
 refine wpAny_bind (wpAny_askSetting (wpAny_pure (wpAny_pure ?_)))
 exact h
theorem Ai {Q:Option (Value×Nat)->Shared->Prop}{sl:Nat}(hT:w.params.followText "set-order"=false)(hs:jX s.heap a es ep t)(hl:t.led=true)(hn:es.size<=1)
  (h:Q (match es[SetTable.below t.place sl]?,t.place[SetTable.below t.place sl]? with | some (_,x),some j=>some (x,j+1) | _,_=>none) s):wpAny (model prog w) A (setNext a sl i ep) Q E s:=by
 obtain⟨o,ho,hd,hf⟩:=hs
 unfold setNext
 refine wpAny_bind (wpAny_setState_of ho hd hf ?_)
 dsimp only
 unfold setsByText
 refine wpAny_bind (wpAny_bind (wpAny_askSetting (wpAny_pure ?_)))
 show wpAny _ _ (if (w.params.followText "set-order")=true then _ else _) _ _ _
 rw[hT]
 simp only[Bool.false_eq_true,if_false]
 show wpAny _ _ (if ((!t.plain && decide (es.size > 1))=true) then _ else _) _ _ _
 rw[show decide (es.size > 1)=false from decide_eq_false (by omega),Bool.and_false]
 simp only[Bool.false_eq_true,if_false]
 refine wpAny_bind ?_
 show wpAny _ _ (if ((!t.led && !es.isEmpty)=true) then _ else _) _ _ _
 rw[hl]
 simp only[Bool.not_true,Bool.false_and,Bool.false_eq_true,if_false]
 exact wpAny_pure (wpAny_pure h)
end
end PySem
namespace PySem
open L2 PyProof.Rows
section
variable {prog:Program}{w:World}{A:Around}{E:Value->Shared->Prop}{s:Shared}{I a tp:Addr}{i n ep:Nat}{es:Array (Int×Value)}{t:SetTable}
theorem jX.at {h h':Heap}(x:jX h a es ep t)(k:∀ o,h.get? a=some o->h'.get? a=some o):jX h' a es ep t:=let ⟨o,ho,r⟩:=x;⟨o,k o ho,r⟩
theorem sZ.at {h h':Heap}{first:Value}(x:sZ h I first i a n ep)(k:∀ o,h.get? I=some o->h'.get? I=some o):sZ h' I first i a n ep:=let ⟨o,ho,r⟩:=x;⟨o,k o ho,r⟩
theorem NJ (hT:w.params.followText "set-order"=true)(hh:A.handled=none)(hne:a≠I)(hn:es.size=n) :
  Walks prog w A I [I,a] [I] n (fun i v=>((pickOrder (w.params.setOrder a ep) es).toList.map (·.2))[i]?=some v) (fun i h=>(∃ sl:Nat,sZ h I (.int sl 0) i a n ep)/\jX h a es ep t) where
 sub:=fun b hb=>by simp at hb;simp[hb]
 frame:=fun _ _ _ st hk=>⟨let ⟨sl,x⟩:=st.1;⟨sl,x.at fun o e=>hk I (by simp) o e⟩,st.2.at fun o e=>hk a (by simp) o e⟩
 item:=fun i s Q E hi st hQ=>by
  obtain⟨⟨sl,x⟩,tb⟩:=st
  have hp:(pickOrder (w.params.setOrder a ep) es).size=n:=by rw[<- Array.length_toList,(dZ _ es).length_eq,Array.length_toList,hn]
  have hg:(pickOrder (w.params.setOrder a ep) es)[i]?=some ((pickOrder (w.params.setOrder a ep) es)[i]'(by omega)):=by simp[hp,hi]
  refine B0 hh x tb hn (fun A' E' Q' q=>Ah hT tb q) (fun v nx h' e x' sb=>?_) (fun e=>?_)
  ·rw[hg] at e
   cases e
   refine hQ _ h' s.toks ?_ ⟨⟨_,x'⟩,tb.at fun o e=>(sb.2 a hne).trans e⟩ fun b o hb e=>(sb.2 b (fun h=>hb (by simp[h]))).trans e
   rw[List.getElem?_map,Array.getElem?_toList,hg]
   rfl
  ·rw[hg] at e
   cases e
 done:=fun s Q E st hQ=>by
  obtain⟨⟨sl,x⟩,tb⟩:=st
  have hp:(pickOrder (w.params.setOrder a ep) es).size=n:=by rw[<- Array.length_toList,(dZ _ es).length_eq,Array.length_toList,hn]
  have hg:(pickOrder (w.params.setOrder a ep) es)[n]?=none:=by simp[hp]
  refine B0 hh x tb hn (fun A' E' Q' q=>Ah hT tb q) (fun v nx h' e x' sb=>?_) (fun e h' kp=>?_)
  ·rw[hg] at e
   cases e
  ·exact hQ h' s.toks fun b o hb e=>kp b o (fun h=>hb (by simp[h])) e
 self:=fun _ _ _ _ st hQ=>let ⟨⟨_,x⟩,_⟩:=st;ua x hQ
theorem Zk {α:Type}{l:Array α}(h:l.size=1):∃ j,l=#[j]:=by
 obtain⟨l⟩:=l
 match l,h with
 | [j],_=>exact⟨j,rfl⟩
theorem IM (j:Nat):SetTable.below #[j] 0=0:=by simp[SetTable.below,SetTable.below.go]
theorem below_1 (j:Nat):SetTable.below #[j] (j+1)=1:=by simp[SetTable.below,SetTable.below.go]
noncomputable def Vw (t:SetTable):Nat->Nat
 | 0=>0
 | _+1=>t.place.getD 0 0+1
theorem NK (hT:w.params.followText "set-order"=false)(hh:A.handled=none)(hne:a≠I)(hn:es.size=n)(h1:n<=1)(hl:t.led=true)(hf:t.fits es.size=true) :
  Walks prog w A I [I,a] [I] n (fun i v=>(es.toList.map (·.2))[i]?=some v) (fun i h=>sZ h I (.int (Vw t i) 0) i a n ep/\jX h a es ep t) where
 sub:=fun b hb=>by simp at hb;simp[hb]
 frame:=fun _ _ _ st hk=>⟨st.1.at fun o e=>hk I (by simp) o e,st.2.at fun o e=>hk a (by simp) o e⟩
 item:=fun i s Q E hi st hQ=>by
  obtain⟨x,tb⟩:=st
  have i0:i=0:=by omega
  have n1:n=1:=by omega
  subst i0;subst n1
  have hp:t.place.size=1:=by simp only[SetTable.fits,Bool.and_eq_true,beq_iff_eq] at hf;omega
  obtain⟨j,hj⟩:=Zk hp
  refine B0 hh x tb hn (fun A' E' Q' q=>Ai hT tb hl (by omega) q) (fun v nx h' e x' sb=>?_) (fun e=>?_)
  ·have hz:Vw t 0=0:=rfl
   rw[hz,hj,IM] at e
   have h0:es[0]?=some (es[0]'(by omega)):=by simp[hn]
   rw[h0] at e
   simp at e
   obtain⟨e1,e2⟩:=e
   refine hQ _ h' s.toks ?_ ⟨?_,tb.at fun o e=>(sb.2 a hne).trans e⟩ fun b o hb e=>(sb.2 b (fun h=>hb (by simp[h]))).trans e
   ·rw[List.getElem?_map,Array.getElem?_toList,h0,<- e1]
    rfl
   ·have:Vw t 1=nx:=by show t.place.getD 0 0+1=nx;rw[hj,<- e2];rfl
    rw[this]
    exact x'
  ·have hz:Vw t 0=0:=rfl
   rw[hz,hj,IM] at e
   have h0:es[0]?=some (es[0]'(by omega)):=by simp[hn]
   rw[h0] at e
   simp at e
 done:=fun s Q E st hQ=>by
  obtain⟨x,tb⟩:=st
  have hp:t.place.size=n:=by simp only[SetTable.fits,Bool.and_eq_true,beq_iff_eq] at hf;omega
  refine B0 hh x tb hn (fun A' E' Q' q=>Ai hT tb hl (by omega) q) (fun v nx h' e x' sb=>?_) (fun e h' kp=>?_)
  ·exfalso
   have:n=0∨n=1:=by omega
   rcases this with z | z
   ·subst z
    have h0:es=#[]:=by simpa using hn
    rw[h0] at e
    simp at e
   ·subst z
    obtain⟨j,hj⟩:=Zk hp
    have hz:Vw t 1=j+1:=by show t.place.getD 0 0+1=j+1;rw[hj];rfl
    rw[hz,hj,below_1] at e
    have h0:es[1]?=none:=by simp[hn]
    rw[h0] at e
    simp at e
  ·exact hQ h' s.toks fun b o hb e=>kp b o (fun h=>hb (by simp[h])) e
 self:=fun _ _ _ _ st hQ=>ua st.1 hQ
theorem NL {ps:List Nat}(hh:A.handled=none)(hne:a≠I)(htp:tp≠I)(hn:es.size=n)(hps:List.Perm ps (List.range n)) :
  Walks prog w A I [I,tp,a] [I] n (fun i v=>((ps.filterMap fun p=>es[p]?).map (·.2))[i]?=some v) (fun i h=>sZ h I (.ref tp) i a n ep/\(∃ ot k,h.get? tp=some ot/\ot.data=.seq (ps.map fun p:Nat=>rawInt p).toArray k)/\jX h a es ep t) where
 sub:=fun b hb=>by simp at hb;simp[hb]
 frame:=fun _ _ _ st hk=>⟨st.1.at fun o e=>hk I (by simp) o e,let ⟨ot,k,e,d⟩:=st.2.1;⟨ot,k,hk tp (by simp) _ e,d⟩,st.2.2.at fun o e=>hk a (by simp) o e⟩
 item:=fun i s Q E hi st hQ=>by
  obtain⟨x,⟨ot,k,et,dt⟩,tb⟩:=st
  have hpl:ps.length=n:=by rw[hps.length_eq,List.length_range]
  have hpi:ps[i]?=some (ps[i]'(by omega)):=List.getElem?_eq_getElem _
  have hlt:ps[i]'(by omega) < n:=List.mem_range.mp (hps.mem_iff.mp (List.getElem_mem _))
  have he:es[ps[i]'(by omega)]?=some (es[ps[i]'(by omega)]'(by omega)):=by simp[hn,hlt]
  have hall:∀ q:List Nat,(∀ p∈q,p < n)->(q.filterMap fun p=>es[p]?)=q.map fun p=>es.getD p (0,.none):=by
   intro q
   induction q with
   | nil=>intro _;rfl
   | cons p r ih =>
    intro hq
    have h1:=hq p (List.mem_cons_self ..)
    rw[List.filterMap_cons_some (b:=es.getD p (0,.none)) (by simp[hn,h1]),ih fun p hp=>hq p (List.mem_cons_of_mem _ hp)]
    rfl
  refine S8 x tb hn et dt (p:=ps[i]'(by omega)) (tk:=0) (by rw[List.getElem?_map,hpi];rfl) he fun h' x' sb=>?_
  refine hQ _ h' s.toks ?_ ⟨x',⟨ot,k,(sb.2 tp htp).trans et,dt⟩,tb.at fun o e=>(sb.2 a hne).trans e⟩ fun b o hb e=>(sb.2 b (fun h=>hb (by simp[h]))).trans e
  rw[hall ps (fun p hp=>List.mem_range.mp (hps.mem_iff.mp hp)),List.map_map,List.getElem?_map,hpi]
  simp[hn,hlt]
 done:=fun s Q E st hQ=>by
  obtain⟨x,⟨ot,k,et,dt⟩,tb⟩:=st
  have hpl:ps.length=n:=by rw[hps.length_eq,List.length_range]
  exact Y5 hh x tb hn et dt (by rw[List.getElem?_map,List.getElem?_eq_none (by omega)];rfl) fun h' kp=>hQ h' s.toks fun b o hb e=>kp b o (fun h=>hb (by simp[h])) e
 self:=fun _ _ _ _ st hQ=>ua st.1 hQ
end
end PySem
namespace PySem
open L2 PyProof.Rows
theorem strs_map:∀ {L:List (Int×Value)},(∀ e∈L,∃ z k,e.2=Value.str z k)->StrsAre (L.map (·.2)) (L.map fun e=>strOf e.2)
 | [],_=>.nil
 | e::r,h=>by
  obtain⟨z,k,q⟩:=h e (List.mem_cons_self ..)
  show StrsAre (e.2::r.map (·.2)) (strOf e.2::r.map fun e=>strOf e.2)
  rw[q]
  exact .cons z k (strs_map fun e he=>h e (List.mem_cons_of_mem _ he))
section
variable {prog:Program}{w:World}{A:Around}{E:Value->Shared->Prop}{s:Shared}{a:Addr}
theorem Mp {zs:List Str}{Q:Value->Shared->Prop}(hS:bF prog w s.heap a zs)
  (hQ:∀ (I:Addr) (fp:List Addr) (St:Nat->Heap->Prop) (vs:List Value) (zs':List Str) (h':Heap) (d:Drawn),(∀ A':Around,A'.handled=none->Walks prog w A' I fp [I] zs.length (fun i v=>vs[i]?=some v) St)->St 0 h'->StrsAre vs zs'->List.Perm zs' zs ->
   (∀ b o,s.heap.get? b=some o->h'.get? b=some o)->s.heap.objs.size<=I->(∀ b∈fp,b=a∨s.heap.objs.size<=b)->Q (.ref I) { s with heap:=h',drawn:=d }):wpAny (model prog w) A (pyIter (.ref a)) Q E s:=by
 obtain⟨o,es,ep,t,ho,hex,hd,hel,hst,hzs,hnd,hb,hf,fO,hpl⟩:=hS
 have hn:es.size=zs.length:=by rw[<- hzs,List.length_map,Array.length_toList]
 have hTy:s.TypeIs (.ref a) "set":=⟨o,ho,hex.1⟩
 have hlt:a < s.heap.objs.size:=Heap.lt_size ho
 refine wpAny_pyIter_slot hTy F.slot_set_iter (wpAny_call_entry F.slot_set_iter hTy F.vJ ?_ (F.args_set_iter_1 _))
 show wpAny _ _ (Builtin.Frozenset.sizeOf a >>= _) _ _ s
 unfold Builtin.Frozenset.sizeOf
 refine wpAny_bind (wpAny_bind (wpAny_setEntries_of ho hd hf (wpAny_pure ?_)))
 unfold setDrawn
 refine wpAny_bind ?_
 refine wpAny_bind (wpAny_setState_of ho hd hf ?_)
 dsimp only
 unfold setsByText
 refine wpAny_bind (wpAny_bind (wpAny_askSetting (wpAny_pure (wpAny_pure ?_))))
 show wpAny _ _ (if (!(w.params.followText "set-order") && (!t.plain && decide (es.size > 1)))=true then _ else _) _ _ _
 cases hT:w.params.followText "set-order" with
 | true =>
  simp only[Bool.not_true,Bool.false_and,Bool.false_eq_true,if_false]
  refine wpAny_bind (wpAny_pure ?_)
  unfold setEpoch
  refine wpAny_bind (wpAny_bind (wpAny_setState_of ho hd hf (wpAny_pure ?_)))
  refine wpAny_bind (wpAny_newObj_type (wpAny_pure ⟨_,rfl,"set_iterator",_,⟨_,Heap.get?_push_size _ rfl,rfl⟩,F.aI.lookup,?_⟩))
  have e:∀ h':Heap,({ s with heap:=h' }:Shared)={ s with heap:=h',drawn:=s.drawn }:=fun _=>by cases s;rfl
  rw[e]
  refine hQ _ [s.heap.objs.size,a] _ _ _ _ _ (fun A' hA=>NJ (ep:=ep) (t:=t) hT hA (Nat.ne_of_lt hlt) hn) ⟨⟨0,_,Heap.get?_push_size _ rfl,rfl,by simp[rawInt,hn]⟩,o,Heap.get?_push_of_some _ ho,hd,hf⟩ (strs_map fun e he=>hst e ((dZ _ es).mem_iff.mp he)) ?_ (fun b o e=>Heap.get?_push_of_some _ e) (Nat.le_refl _) (fun b hb=>?_)
  ·rw[<- hzs]
   exact(dZ _ es).map _
  ·rcases List.mem_cons.mp hb with z | z
   ·exact .inr (by rw[z];exact Nat.le_refl _)
   ·exact .inl (List.mem_singleton.mp z)
 | false =>
  simp only[Bool.not_false,Bool.true_and]
  by_cases h1:es.size<=1
  ·rw[show decide (es.size > 1)=false from decide_eq_false (by omega),Bool.and_false]
   simp only[Bool.false_eq_true,if_false]
   refine wpAny_bind (wpAny_pure ?_)
   unfold setEpoch
   refine wpAny_bind (wpAny_bind (wpAny_setState_of ho hd hf (wpAny_pure ?_)))
   refine wpAny_bind (wpAny_newObj_type (wpAny_pure ⟨_,rfl,"set_iterator",_,⟨_,Heap.get?_push_size _ rfl,rfl⟩,F.aI.lookup,?_⟩))
   have e:∀ h':Heap,({ s with heap:=h' }:Shared)={ s with heap:=h',drawn:=s.drawn }:=fun _=>by cases s;rfl
   rw[e]
   rw[hT] at fO
   refine hQ _ [s.heap.objs.size,a] _ _ _ _ _ (fun A' hA=>NK (ep:=ep) (t:=t) hT hA (Nat.ne_of_lt hlt) hn (by omega) fO hf) ⟨⟨_,Heap.get?_push_size _ rfl,rfl,by simp[rawInt,hn,Vw]⟩,o,Heap.get?_push_of_some _ ho,hd,hf⟩ (strs_map hst) (by rw[hzs]) (fun b o e=>Heap.get?_push_of_some _ e) (Nat.le_refl _) (fun b hb=>?_)
   rcases List.mem_cons.mp hb with z | z
   ·exact .inr (by rw[z];exact Nat.le_refl _)
   ·exact .inl (List.mem_singleton.mp z)
  ·have hp:t.plain=false:=hpl.resolve_right (by omega)
   rw[show decide (es.size > 1)=true from decide_eq_true (by omega),hp]
   simp only[Bool.not_false,Bool.and_self,if_true]
   refine wpAny_bind (ux _ _ _ _ (List.length_range ..) fun ps d hps=>?_)
   have Gp:ps.length=es.size:=by rw[hps.length_eq,List.length_range]
   refine wpAny_bind (wpAny_newTuple ?_ (by rw[List.length_map,Gp];exact fits_of_scanBound hb))
   unfold setEpoch
   refine wpAny_bind (wpAny_bind (wpAny_setState_of (Heap.get?_push_of_some _ ho) hd hf (wpAny_pure ?_)))
   refine wpAny_bind (wpAny_newObj_type (wpAny_pure ⟨_,rfl,"set_iterator",_,⟨_,Heap.get?_push_size _ rfl,rfl⟩,F.aI.lookup,?_⟩))
   dsimp only
   rw[Heap.size_push]
   have hall:∀ q:List Nat,(∀ p∈q,p < es.size)->∀ e∈(q.filterMap fun p=>es[p]?),e∈es.toList:=fun q _ e he=>by
    obtain⟨p,_,z⟩:=List.mem_filterMap.mp he
    exact Array.mem_toList_iff.mpr (Array.mem_of_getElem? z)
   have hpe:List.Perm (ps.filterMap fun p=>es[p]?) es.toList:=by
    refine(hps.filterMap _).trans ?_
    have:=List.filterMap_getElem?_range_length es.toList
    rw[Array.length_toList] at this
    have e2:(fun p:Nat=>es[p]?)=fun p:Nat=>es.toList[p]?:=by funext p;rw[Array.getElem?_toList]
    rw[e2,this]
   refine hQ (s.heap.objs.size+1) [s.heap.objs.size+1,s.heap.objs.size,a] _ _ _ _ d (fun A' hA=>NL (ep:=ep) (t:=t) (tp:=s.heap.objs.size) hA (Nat.ne_of_lt (Nat.lt_succ_of_lt hlt)) (Nat.ne_of_lt (Nat.lt_succ_self _)) hn (by rw[<- hn];exact hps)) ⟨⟨_,Heap.get?_push_at (by rw[Heap.size_push]) rfl,rfl,by simp[rawInt,hn]⟩,⟨_,_,Heap.get?_push_of_some _ (Heap.get?_push_size _ rfl),rfl⟩,o,Heap.get?_push_of_some _ (Heap.get?_push_of_some _ ho),hd,hf⟩ (strs_map fun e he=>hst e (hpe.mem_iff.mp he)) ?_ (fun b o e=>Heap.get?_push_of_some _ (Heap.get?_push_of_some _ e)) (Nat.le_succ _) (fun b hb=>?_)
   ·rw[<- hzs]
    exact hpe.map _
   ·rcases List.mem_cons.mp hb with z | z
    ·exact .inr (by rw[z];exact Nat.le_succ _)
    ·rcases List.mem_cons.mp z with z | z
     ·exact .inr (by rw[z];exact Nat.le_refl _)
     ·exact .inl (List.mem_singleton.mp z)
end
end PySem
namespace PySem
open L2 PyProof.Rows
section
variable {prog:Program}{w:World}{A:Around}{E:Value->Shared->Prop}{s:Shared}{a:Addr}{zs:List Str}
theorem Mx {Q:Bool->Shared->Prop}(hT:s.TypeIs (.ref a) "set")(h:Q false s):wpAny (model prog w) A (Builtin.List.listLengthHint (.ref a)) Q E s:=by
 unfold Builtin.List.listLengthHint
 refine wpAny_bind (wpAny_specialOf hT PySem.F.slot_set_len.lookup ?_)
 generalize hid:("set.__len__":String)=id0
 wp_delta
 rw[show splitId id0=some ("set","__len__") from by subst hid;decide +kernel]
 subst hid
 refine wpAny_bind (wpAny_isInstance (T:="set") (b:=true) hT (by rw[isSubtype_type];kernel_rfl) ?_)
 refine wpAny_ite_split (fun hab=>absurd hab (by decide)) (fun _=>?_)
 refine wpAny_ite_split (fun _=>?_) (fun hab=>absurd (by decide +kernel) hab)
 refine wpAny_bind (wpAny_typeOf hT ?_)
 exact wpAny_pure h
theorem Mq {vs:List Value}{acc:Array Value}(h:ItemsOf (fun i v=>vs[i]?=some v) acc vs.length):acc.toList=vs:=by
 apply List.ext_getElem?
 intro i
 rw[Array.getElem?_toList]
 by_cases hi:i < acc.size
 ·rw[Array.getElem?_eq_getElem hi,h.2 i acc[i] (by simp[hi])]
 ·have h1:=h.1
  rw[Array.getElem?_eq_none (by omega),List.getElem?_eq_none (by omega)]
theorem Po {R:Result->Shared->Prop}(hh:A.handled=none)(hS:bF prog w s.heap a zs)(S:Addr)(hSa:S≠a)(res:Value)(c₀:Nat)(hL:s.heap.get? S=some { cls:=.type "list",data:=.seq #[] c₀ })
  (hR:∀ h' tk d acc' c' zs',(∀ b o,b≠S->s.heap.get? b=some o->h'.get? b=some o)->h'.get? S=some { cls:=.type "list",dict:=none,data:=.seq acc' c',slots:=#[] }->StrsAre acc'.toList zs'->List.Perm zs' zs ->
   R (.ok (.ret res)) { s with heap:=h',toks:=tk,drawn:=d }) (hn:zs.length<=sizeLine) :
  wpAny (model prog w) A.in1 (Builtin.List.listExtendWith (.ref S) (.ref a) res)
   (fun fin s'=>match fin with | .done f=>R (.ok f) s' | .again c'=>c'.quiet=true/\codeAny (model prog w) A c' R s') (fun e s'=>R (.error e) s') s:=by
 have hTy:s.TypeIs (.ref a) "set":=let ⟨o,_,_,_,ho,hex,_⟩:=hS;⟨o,ho,hex.1⟩
 have hSl:S < s.heap.objs.size:=Heap.lt_size hL
 unfold Builtin.List.listExtendWith
 refine wpAny_bind (wpAny_typeOf (T:="set") hTy ?_)
 have h1:Builtin.List.listSameRef (.ref S) (.ref a)=false:=by simp[Builtin.List.listSameRef,hSa]
 have nl:(Value.type "set" == Value.type "list")=false:=by decide
 have nt:(Value.type "set" == Value.type "tuple")=false:=by decide
 simp only[h1,nl,nt,Bool.or_false,Bool.false_eq_true,if_false]
 refine wpAny_bind (Mp hS fun I fp St vs zs' hI d W st hvs hp kp hIl hfp=>?_)
 have hvl:vs.length=zs.length:=by rw[StrsAre.length hvs,hp.length_eq]
 have hSf:S ∉ fp:=fun hm=>(hfp S hm).elim hSa fun z=>absurd hSl (Nat.not_lt.mpr z)
 have key:∀ (h:Heap) (c₁ tk:Nat),St 0 h->(∀ b o,b≠S->s.heap.get? b=some o->h.get? b=some o) ->
   h.get? S=some { cls:=.type "list",data:=.seq #[] c₁ }->codeAny (model prog w) A (.builtin "list.extend.loop" ⟨[.ref S,.ref I,res],[]⟩) R { s with heap:=h,toks:=tk,drawn:=d }:=by
  intro h c₁ tk hst hk hS₁
  refine codeAny_extend_loopS (W A.in1 hh).toS hn S hSf res zs.length 0 _ #[] c₁ rfl (Nat.zero_le _) hst hS₁ (ItemsOf.nil _) fun s' acc' c' hm hS' hacc=>?_
  rw[Moved.eq_with hm]
  refine hR s'.heap s'.toks d acc' c' zs' (fun b o hb e=>hm.heap b o (fun hmem=>?_) (hk b o hb e)) hS' ?_ hp
  ·rcases List.mem_cons.mp hmem with e' | hmem
   ·exact hb e'
   ·exact absurd (Heap.lt_size e) (by rw[List.mem_singleton.mp hmem];exact Nat.not_lt.mpr hIl)
  ·rw[Mq (by rw[hvl];exact hacc)]
   exact hvs
 have hS₁:=kp S _ hL
 refine wpAny_bind (wpAny_holding (Mx (let ⟨o,ho,hc⟩:=hTy;⟨o,kp _ _ ho,hc⟩) ?_))
 refine wpAny_ite_split (fun _=>?_) (fun _=>wpAny_pure ⟨plainId_quiet PySem.F.plain_extend_loop _,key _ c₀ _ st (fun b o _ e=>kp b o e) hS₁⟩)
 refine wpAny_bind (wpAny_rule ?_)
 refine wpAny_bind ?_
 show wpAny _ _ (updateSeq S (·.push .none) >>= fun _=>updateSeq S (·.pop)) _ _ _
 refine wpAny_bind (wpAny_updateSeq hS₁ rfl ?_)
 have hS₂:=Heap.get?_update_self (Obj.mapSeq (·.push Value.none)) hS₁ rfl
 refine wpAny_updateSeq (hz:=by seq_fits) hS₂ rfl ?_
 have hS₃:=Heap.get?_update_self (Obj.mapSeq (·.pop)) hS₂ rfl
 refine wpAny_pure ⟨plainId_quiet PySem.F.plain_extend_loop _,key _ _ _ ?_ (fun b o hb e=>?_) hS₃⟩
 ·refine(W A.in1 hh).frame 0 _ _ st fun b hb o e=>?_
  have hbS:b≠S:=fun h=>hSf (h ▸ hb)
  exact(Heap.get?_update_other _ _ (Ne.symm hbS)).trans ((Heap.get?_update_other _ _ (Ne.symm hbS)).trans e)
 ·exact(Heap.get?_update_other _ _ (Ne.symm hb)).trans ((Heap.get?_update_other _ _ (Ne.symm hb)).trans (kp b o e))
theorem MX {R:List Value->Shared->Prop}(hh:A.handled=none)(hS:bF prog w s.heap a zs)(hn:zs.length<=sizeLine)
  (h:∀ (h':Heap) (tk:Nat) (d:Drawn) (acc:Array Value) (zs':List Str),(∀ b o,s.heap.get? b=some o->h'.get? b=some o)->StrsAre acc.toList zs'->List.Perm zs' zs->R acc.toList { s with heap:=h',toks:=tk,drawn:=d }) :
  wpAny (model prog w) A (collect (.ref a)) R E s:=by
 have hlt:a < s.heap.objs.size:=let ⟨o,_,_,_,ho,_⟩:=hS;Heap.lt_size ho
 unfold collect
 refine wpAny_bind (wpAny_runValue (codeAny_builtin entry_proto_collect' ?_))
 rw[Around.under_plainId PySem.F.plain_proto_collect _]
 show wpAny _ A.in1 (newList [] >>= fun l=>again (.builtin "list.__iadd__" ⟨[l,.ref a],[]⟩)) _ _ s
 refine wpAny_bind (wpAny_newObj_type ?_)
 refine wpAny_pure ⟨plainId_quiet PySem.F.plain_list_iadd _,codeAny_builtin entry_list_iadd' ?_⟩
 rw[Around.under_plainId PySem.F.plain_list_iadd _]
 have hS₁:(s.heap.push { cls:=.type "list",data:=.seq ([]:List Value).toArray }).get? s.heap.objs.size=some { cls:=.type "list",data:=.seq #[] }:=Heap.get?_push_size _ rfl
 show wpAny _ A.in1 (Builtin.List.listExtendWith (.ref s.heap.objs.size) (.ref a) (.ref s.heap.objs.size)) _ _ _
 have key:=Po (A:=A) (s:={ s with heap:=s.heap.push { cls:=.type "list",data:=.seq ([]:List Value).toArray } })
  (R:=fun(q:Result) (s':Shared)=>∃ (h':Heap) (tk:Nat) (d:Drawn) (acc':Array Value) (c':Nat) (zs':List Str),q=.ok (.ret (.ref s.heap.objs.size))/\s'={ s with heap:=h',toks:=tk,drawn:=d } /\
   (∀ b o,s.heap.get? b=some o->h'.get? b=some o)/\h'.get? s.heap.objs.size=some { cls:=.type "list",dict:=none,data:=.seq acc' c',slots:=#[] }/\StrsAre acc'.toList zs'/\List.Perm zs' zs)
  hh (hS.at fun o e=>Heap.get?_push_of_some _ e) s.heap.objs.size (Nat.ne_of_gt hlt) (.ref s.heap.objs.size) 0 hS₁
  (fun h' tk d acc' c' zs' hk hS' hacc hp=>⟨h',tk,d,acc',c',zs',rfl,rfl,fun b o e=>hk b o (Nat.ne_of_lt (Heap.lt_size e)) (Heap.get?_push_of_some _ e),hS',hacc,hp⟩) hn
 refine wpAny_mono key (fun fin s' x=>?_) fun e s' x=>?_
 ·cases fin with
  | done f =>
   obtain⟨h',tk,d,acc',c',zs',e,rfl,hk,hS',hacc,hp⟩:=x
   cases e
   show wpAny _ A (load s.heap.objs.size >>= _) _ _ _
   refine wpAny_bind (wpAny_load hS' ?_)
   exact wpAny_pure (h h' tk d acc' zs' hk hacc hp)
  | again c₁ =>
   refine⟨x.1,codeAny_mono x.2 fun q s₂ y=>?_⟩
   obtain⟨h',tk,d,acc',c',zs',rfl,rfl,hk,hS',hacc,hp⟩:=y
   show wpAny _ A (load s.heap.objs.size >>= _) _ _ _
   refine wpAny_bind (wpAny_load hS' ?_)
   exact wpAny_pure (h h' tk d acc' zs' hk hacc hp)
 ·obtain⟨_,_,_,_,_,_,e',_⟩:=x
  cases e'
end
end PySem
namespace L2
open PySem PySem.Spec PyProof.Rows Hw
noncomputable def nV (P:Program)(w:World)(a:Addr)(ss:List Str):HO:=.ext fun h=>∃ zs,bF P w h a zs/\(∀ x,x∈zs↔x∈ss)/\zs.length < 64
section
variable {X:Cx}
theorem Inv.drew {pins:List (Addr×Obj)}{σ:St}{H:Hp}{s:Shared}(I:Inv X pins σ H s)(d:Drawn):Inv X pins σ H { s with drawn:=d }:=⟨I.ok,I.os,I.bare,I.base,I.loc,I.cell,I.free,I.nC,I.pin,I.hok,I.len⟩
theorem sQ (hc:X.calm=true):fE X (.builtin "sorted") (fun xs H Q=>∃ (p:Addr) (ss:List Str),xs=[.ref p]/\H p=some (nV X.prog X.w p ss) /\
  ∀ (l:Addr) (ys:List Str),H l=none->(∀ x,x∈ys↔x∈ss)->ys.Nodup->ys.length < 64->ys.Pairwise (fun a b=>Hw.lt b a=false)->Q (.ref l) (upd H l (.lst (ys.map V.str)))):=by
 intro pins s σ H xs us Q I r h
 obtain⟨p,ss,rfl,hp,q⟩:=h
 obtain⟨u,rfl,ru⟩:=vals1 r
 cases ru
 obtain⟨⟨zs,hS,hm,h64⟩,_,_⟩:=I.hok p _ hp
 have hnd:zs.Nodup:=let ⟨_,_,_,_,_,_,_,_,_,_,n,_⟩:=hS;n
 have s64:64<=sizeLine:=by rw[sizeLine_eq];decide
 refine Calls.call_function_entry kind_sorted plain_sorted entry_sorted (args_sorted1 _) ?_
 unfold Builtin.«sorted»
 refine wpAny_bind (m:=checkCount "sorted" 1 1 _) (wpAny_pure (wpAny_bind (MX (A:=X.A.in1) (I.ok.hd hc) hS (by omega) fun h' tk d acc zs' kp hS' hpm=>?_)))
 have hla:acc.toList.length < 64:=by rw[StrsAre.length hS',hpm.length_eq];exact h64
 refine wpAny_bind (wpAny_newList ?_ (by omega))
 have ho:(h'.push (seqObj "list" acc.toList.toArray 0)).get? h'.objs.size=some (seqObj "list" acc.toList.toArray 0):=Heap.get?_push_size _ rfl
 refine wpAny_bind (wpAny_holding (wpAny_call_entry slot_list_sort ⟨_,ho,rfl⟩ entry_list_sort (list_sort_treeK (s:={ s with heap:=h'.push (seqObj "list" acc.toList.toArray 0),toks:=tk,drawn:=d }) strKind_oneLt ho hS'.keysOf (fun v1 v2 rest e=>keyKind_strs (by rw[<- e];exact hS')) hla fun st' a1 a2=>⟨_,rfl,?_⟩) (args_list_sort _)))
 obtain⟨ss',b1,b2,b3⟩:=sorted_out_str hS' a1 a2
 obtain⟨e,he⟩:=sortedHeap_at (out:=(arrOf st').map (·.2)) ho
 have hss:(ss'.map V.str).length<=sizeLine:=by
  have h2:(ss'.map V.str).length=acc.toList.length:=by rw[List.length_map,b2.length_eq,<- StrsAre.length hS']
  omega
 have L:=I.Av (h':=sortedHeap (h'.push (seqObj "list" acc.toList.toArray 0)) h'.objs.size acc.toList ((arrOf st').map (·.2))) (a:=h'.objs.size) (o:=.lst (ss'.map V.str)) (t':=tk)
  (fun b u q=>by
   have l:=Heap.lt_size (kp b u q)
   rw[sortedHeap_old (Nat.ne_of_lt l) (by rw[Heap.size_push];exact Nat.lt_succ_of_lt l)]
   exact Heap.get?_push_of_some _ (kp b u q))
  (fun b u q=>Nat.ne_of_lt (Heap.lt_size (kp b u q)))
  ⟨hss,((arrOf st').map (·.2)).toList,e,qM b1,by rw[Array.toArray_toList];exact he⟩
 have hall:=b2.trans hpm
 exact wpAny_pure ⟨_,rfl,.ref h'.objs.size,_,L.2.drew d,rfl,q _ ss' L.1 (fun x=>(hall.mem_iff).trans (hm x)) (hall.nodup_iff.mpr hnd) (by rw[hall.length_eq];exact h64) (rS _ b3)⟩
end
end L2
namespace Hw
open PySem L2
theorem Lf (z:Str)(lo hi:Option Int):(Txt.slice z lo hi).length<=z.length:=Txt.slice_le z _ _
end Hw
namespace L2
open PySem PySem.Spec PyProof.Rows Hw
section
variable {X:Cx}
end
end L2
namespace Hw
open PySem L2
theorem DT {ys:List Str}(h:ys.Pairwise (fun a b=>lt b a=false))(n:ys.Nodup):ys.Pairwise (fun a b=>lt a b=true):=by
 unfold List.Nodup at n
 exact(h.and n).imp fun {a b} ⟨h1,h2⟩=>by
  rcases Cb a b with z | z | z
  ·exact z
  ·exact absurd z h2
  ·rw[h1] at z;cases z
theorem p6:∀ {xs ys:List Str},xs.Pairwise (fun a b=>lt a b=true)->ys.Pairwise (fun a b=>lt a b=true)->(∀ x,x∈xs↔x∈ys)->xs=ys
 | [],[],_,_,_=>rfl
 | [],y::_,_,_,h=>absurd ((h y).mpr (List.mem_cons_self ..)) (fun z=>nomatch z)
 | x::_,[],_,_,h=>absurd ((h x).mp (List.mem_cons_self ..)) (fun z=>nomatch z)
 | x::xs,y::ys,p,q,h=>by
  obtain⟨px,p'⟩:=List.pairwise_cons.mp p
  obtain⟨qy,q'⟩:=List.pairwise_cons.mp q
  have e:x=y:=by
   rcases List.mem_cons.mp ((h x).mp (List.mem_cons_self ..)) with z | z
   ·exact z
   ·rcases List.mem_cons.mp ((h y).mpr (List.mem_cons_self ..)) with u | u
    ·exact u.symm
    ·have:=lt_trans (px y u) (qy x z)
     rw[uf] at this;cases this
  subst e
  have t:xs=ys:=p6 p' q' fun z=>by
   constructor
   ·intro hz
    rcases List.mem_cons.mp ((h z).mp (List.mem_cons_of_mem _ hz)) with u | u
    ·subst u
     have:=px z hz
     rw[uf] at this;cases this
    ·exact u
   ·intro hz
    rcases List.mem_cons.mp ((h z).mpr (List.mem_cons_of_mem _ hz)) with u | u
    ·subst u
     have:=qy z hz
     rw[uf] at this;cases this
    ·exact u
  rw[t]
end Hw
namespace Hw
open PySem L2
end Hw
namespace Hw
open PySem L2
end Hw
namespace L2
open PySem PySem.Spec PyProof.Rows Hw
section
variable {X:Cx}
end
end L2
namespace Hw
open PySem L2
end Hw
namespace PySem.W
open PySem PySem.Spec PySem.Calls PyProof.Rows
section
variable {prog:Program}{w:World}{A:Around}{E:Value->Shared->Prop}{K:Frag}{x D:Addr}{ox:Obj}
end
end PySem.W
namespace L2
open PySem PySem.Spec PyProof.Rows
section
variable {X:Cx}{a C:Addr}{oe:Obj}
end
end L2
namespace PySem
section
variable {M:Model}{A:Around}{E:Value->Shared->Prop}
variable {nm q nm' q':Str}{C N W N':Addr}{bs bm bs' bm':List Value}{hdct a4l:Bool}{sn sn':List Str}{sub sub':List Value}{ab ab':Bool}{col col':Option Bool}{dd Y9:Option Addr}{k0 k1 k2 k3 k5 j0 j1 j2 j3 j5:Option Value}{newId newId':String}
end
section
variable {M:Model}{A:Around}{E:Value->Shared->Prop}{s:Shared}{base:Heap}{env:Env}{outer:List Env}{L a C:Addr}{oe:Obj}{vs:Array Value}
end
end PySem
namespace L2
open PySem PySem.Spec PyProof.Rows
section
variable {X:Cx}{pn:List (Addr×Obj)}{xe:Value->Shared->Prop}{pins xG:List (Addr×Obj)}{σ:St}{H:Hp}{s:Shared}{a:Addr}
end
section
variable {X:Cx}{C W fI fW:Addr}{bm bmW:List Value}{xc n:Str}{i:Nat}{np hpos pos:Pos}{body:List Stmt}{b₀:Stmt}{suite:List Stmt}{tb:XK->TS}{ts:Addr->TS}
end
end L2
namespace Hw
open PySem L2
end Hw
namespace L2
open PySem PySem.Spec PyProof.Rows Hw
section
variable {X:Cx}{C:Addr}{k:Nat}{m:Str}{pos apos:Pos}{o:Expr}{ta:TE}{Z:Cz}{ps:List Str}{sp:Nat->Sp}{E:XK}
end
end L2
namespace Hw
open PySem L2
end Hw
namespace Hw
open PySem L2
section
variable {xs:List Str}{H H' H'':Hp}{d l P:Addr}{us:List V}{cs:List Cd}
end
theorem Mf (K:PySem.W.Frag):PySem.W.kitOne K (.type "list") (.type "list")=some true:=by unfold PySem.W.kitOne;rw[if_pos (beq_self_eq_true _)]
end Hw
namespace L2
open PySem PySem.Spec PyProof.Rows
end L2
namespace Hw
open PySem L2
end Hw
namespace L2
open PySem PySem.Spec PyProof.Rows Hw
section
variable {X:Cx}{k:Nat}{m:Str}{pos apos:Pos}{o:Expr}{ta:TE}{Y:Cy}{ps:List Str}{sp:Nat->Sp}
end
end L2
namespace Hw
open PySem L2
end Hw
namespace Hw
open PySem L2
noncomputable def Chr (x:Str):Prop:=∃ c,x=Vh c/\97<=c
theorem Chr.len {x:Str}(h:Chr x):x.length=1:=by obtain⟨c,rfl,_⟩:=h;rfl
end Hw
namespace L2
open PySem PySem.Spec PyProof.Rows
noncomputable def notStar:Expr->Bool
 | .Starred ..=>false
 | _=>true
theorem gM {e:Expr}{es:List Expr}{env:Env}(h:notStar e=true):starEach (e::es) env=(false,eval e env)::starEach es env:=by
 cases e <;> first | rfl | cases h
theorem iB {pos:Pos}{env:Env}:∀ {es:List Expr},es.all notStar=true->(backTo pos (starEach es env)).any (·.1)=false
 | [],_=>rfl
 | e::es,h=>by
  have h:(notStar e && es.all notStar)=true:=h
  rw[Bool.and_eq_true] at h
  rw[gM h.1]
  show(false || (backTo pos (starEach es env)).any (·.1))=false
  rw[iB h.2]
  rfl
theorem Ds {pos:Pos}{env:Env}:∀ {es:List Expr},es.all notStar=true->(backTo pos (starEach es env)).all (fun x=>!x.1)=true
 | [],_=>rfl
 | e::es,h=>by
  have h:(notStar e && es.all notStar)=true:=h
  rw[Bool.and_eq_true] at h
  rw[gM h.1]
  show(true && (backTo pos (starEach es env)).all (fun x=>!x.1))=true
  rw[Ds h.2]
  rfl
section
variable {X:Cx}{CX:IV}{k:Nat}{f C:Addr}{fd:FuncData}{ps:List Str}{sp:Sp}{AG:List V}{ds:List Value}{E:XK}{x:Str}{p pos:Pos}{e:Expr}{es:List Expr}{te:TE}{t:TA}
theorem lH (ha:PE X e te)(hr:PA X es t)(h:notStar e=true:=by rfl):PA X (e::es) (P9 te t):=HV ha hr (gM h)
theorem LC (F:aE X.prog X.w X.K X.mg X.base CX k f fd ps sp)(hr:dg k X.A)(hg:Gl X x)(hm:X.mg x=some (.ref f))(hk:PySem.W.keepIn X.K (.ref f)=true)(hb:Binds X.K fd ps ds)(hd:Vals AG ds)(hx:Passes CX X E)
  (ha:PA X (e::es) t) (h1:notStar e=true:=by rfl) (h2:es.all notStar=true:=by rfl) (hdb:(x == ("__debug__":Str))=false:=by decide):PE X (.Call (.Name x p) (e::es) [] pos) (Qa sp AG E t) :=
 OH F hr hg hm hk hb hd hx ha hdb (gM h1) (iB h2)
theorem D4 (M:Mk X.K C f)(F:aE X.prog X.w X.K X.mg X.base CX k f fd ps sp)(hr:dg (k+1) X.A)(hg:Gl X x)(hm:X.mg x=some (.ref C))(hb:Binds X.K fd ps ds)(hd:Vals AG ds)(hx:Passes CX X E)
  (ha:PA X (e::es) t) (h1:notStar e=true:=by rfl) (h2:es.all notStar=true:=by rfl) (hdb:(x == ("__debug__":Str))=false:=by decide):PE X (.Call (.Name x p) (e::es) [] pos) (P8 C sp AG E t) :=
 OD M F hr hg hm hb hd hx ha hdb (gM h1) (iB h2)
theorem uc {id:String}{r:List V->Hp->VK->Prop}(hc:fE X (.builtin id) r)(hg:Gl X x)(hm:X.mg x=none)(hv:bootBuiltins x=some (.builtin id))(ha:PA X (e::es) t)(h1:notStar e=true:=by rfl)(h2:es.all notStar=true:=by rfl)(hn:x≠"__name__":=by decide)(hdb:(x == ("__debug__":Str))=false:=by decide) :
  PE X (.Call (.Name x p) (e::es) [] pos) (Wd r t):=LD hc hg hm hv ha hn hdb (gM h1) (iB h2)
theorem m5 {T:String}{r:List V->Hp->VK->Prop}(hc:fE X (.type T) r)(hg:Gl X x)(hm:X.mg x=none)(hv:bootBuiltins x=some (.type T))(ha:PA X (e::es) t)(h1:notStar e=true:=by rfl)(h2:es.all notStar=true:=by rfl)(hn:x≠"__name__":=by decide)(hdb:(x == ("__debug__":Str))=false:=by decide) :
  PE X (.Call (.Name x p) (e::es) [] pos) (Wd r t):=Jg hc hg hm hv ha hn hdb (gM h1) (iB h2)
theorem Sy {T id:String}{name:Str}{r:V->List V->Hp->VK->Prop}{o:Expr}{to:TE}{apos cpos:Pos}(pa:PlainAttrs T)(slot:Slot T name id)(hty:typeOf (.builtin id)=pure (.type "method_descriptor"))(hm:CO X id r)(ho:PE X o to)(ha:PA X (e::es) t)
  (h1:notStar e=true:=by rfl) (h2:es.all notStar=true:=by rfl) (h3:es.length < 20:=by decide) (hbase:attributeBase o name X.env (eval o X.env)=eval o X.env:=by rfl) (hline:(apos.endLine == cpos.line)=true:=by rfl) :
  PE X (.Call (.Attribute o name apos) (e::es) [] cpos) (tBM X.K T r to t) :=
 WS pa slot hty hm ho ha hbase (by
  rw[Ds (show(e::es).all notStar=true by show(notStar e && es.all notStar)=true;rw[h1,h2];rfl)]
  show(true && true && decide (es.length+1+0+0 < 30))=true
  rw[decide_eq_true (by omega)]
  rfl) hline (gM h1) (iB h2)
end
end L2
namespace Hw
open PySem L2
section
variable {H0 H H':Hp}{d p q a1 a2 a3 a4:Addr}{o:Own}{us:List V}{hs:List Hl}
end
end Hw
namespace L2
open PySem PySem.Spec PyProof.Rows
end L2
namespace Hw
open PySem L2
end Hw
namespace Hw
open PySem L2
end Hw
namespace PySem
open Sem (wp)
open Builtin
section
variable {prog:Program}{w:World}{A:Around}{E:Value->Shared->Prop}{h:Heap}{g:Array GenState}{d:Drawn}{t:Nat}{os:OsState}{K:W.Frag}{C x:Addr}{o:Obj}
end
end PySem
namespace L2
open PySem PySem.Spec PyProof.Rows
end L2
namespace Hw
open PySem L2
section
variable {Y:Cy}{G G':Hp}{tt pg pc pb pl:Addr}{us ws:List V}{hs:List Hl}{c:Cd}{h0:Hl}{u0:V}
end
end Hw
namespace PySem
open L2
section
variable {prog:Program}{w:World}{A:Around}{E:Value->Shared->Prop}{s:Shared}
theorem Lg {a:Addr}{zs:List Str}{x:Str}{k:Tok}{Q:Option Nat->Shared->Prop}(hS:bF prog w s.heap a zs)
  (h:∀ r,r.isSome=decide (x∈zs)->Q r s):wpAny (model prog w) A (setFind a (.str x k) ((aG prog w).hash (Sum.inr x))) Q E s:=by
 obtain⟨o,es,ep,t,ho,hex,hd,hel,hst,hzs,hnd,hb,hf,fO,hpl⟩:=id hS
 have hsc:(Value.str x k).scannable=true:=rfl
 have hkey:=cM prog w x k
 unfold setFind setFindIn
 refine wpAny_bind (wpAny_setState_of ho hd hf ?_)
 dsimp only
 rw[byScan_of hsc hb hel]
 simp only[↓reduceIte]
 refine wpAny_bind (wpAny_rule ?_)
 refine wpAny_bind (wpAny_setScan_of hkey ho hd hf hel ?_)
 have mem:x∈zs↔∃ e∈es.toList,(aG prog w).is (Sum.inr x) e.2=true:=by
  rw[<- hzs,List.mem_map]
  constructor
  ·rintro⟨e,he,q⟩
   obtain⟨z,k',e2⟩:=hst e he
   refine⟨e,he,?_⟩
   rw[e2] at q ⊢
   rw[yh]
   exact decide_eq_true q
  ·rintro⟨e,he,q⟩
   obtain⟨z,k',e2⟩:=hst e he
   refine⟨e,he,?_⟩
   rw[e2] at q ⊢
   rw[yh] at q
   exact of_decide_eq_true q
 cases hr:List.findIdx? (fun e=>(aG prog w).is (Sum.inr x) e.2) es.toList with
 | some j =>
  dsimp only
  obtain⟨hj,VE,_⟩:=List.findIdx?_eq_some_iff_getElem.mp hr
  have hm:x∈zs:=mem.mpr ⟨es.toList[j],List.getElem_mem hj,VE⟩
  exact wpAny_pure (h _ (by rw[decide_eq_true hm];rfl))
 | none =>
  dsimp only
  have hm:x ∉ zs:=fun z=>by
   obtain⟨e,he,q⟩:=mem.mp z
   have:=List.findIdx?_eq_none_iff.mp hr e he
   rw[q] at this;exact Bool.noConfusion this
  exact wpAny_pure (h _ (by rw[decide_eq_false hm];rfl))
noncomputable def o6 (prog:Program)(w:World)(l:List (Int×Value))(zs:List Str):Prop:=List.Perm (l.map fun e=>strOf e.2) zs/\∀ e∈l,∃ z k,e=((aG prog w).hash (Sum.inr z),Value.str z k)
theorem k6 {h:Heap}{a:Addr}{zs:List Str}(hS:bF prog w h a zs):∃ o es ep t,h.get? a=some o/\o.ExactSet/\o.data=.set es ep t/\t.fits es.size=true/\t.led=(!w.params.followText "set-order")/\(t.plain=false∨es.size=0)/\es.size=zs.length/\o6 prog w es.toList zs/\∀ e∈es.toList,∃ z k,e.2=Value.str z k:=by
 obtain⟨o,es,ep,t,ho,hex,hd,hel,hst,hzs,hnd,hb,hf,fO,hpl⟩:=hS
 refine⟨o,es,ep,t,ho,hex,hd,hf,fO,hpl,by rw[<- hzs,List.length_map,Array.length_toList],⟨by rw[hzs],fun e he=>?_⟩,hst⟩
 obtain⟨⟨k,hk,e1⟩,_⟩:=hel e he
 obtain⟨z,tk,e2⟩:=hst e he
 refine⟨z,tk,?_⟩
 rw[e2] at hk
 have:=(aG prog w).inj _ _ _ hk (cM prog w z tk)
 rw[this] at e1
 rw[<- e1,<- e2]
theorem FN:∀ {l:List Addr},(∀ a∈l,∃ zs,bF prog w s.heap a zs)->∀ {Q:Bool->Shared->Prop},Q true s->wpAny (model prog w) A (setsQuiet l) Q E s:=by
 intro l hl Q h
 unfold setsQuiet
 refine wpAny_bind (wpAny_forIn_list _ (fun l' b s'=>s'=s/\b=⟨none,()⟩/\∀ a∈l',∃ zs,bF prog w s.heap a zs) _ ?_ ?_ _ _ ⟨rfl,rfl,hl⟩)
 ·rintro a rest b s' ⟨rfl,rfl,ha⟩
  obtain⟨zs,hS⟩:=ha a (List.mem_cons_self ..)
  obtain⟨o,es,ep,t,ho,hex,hd,hf,fO,hpl,_,_,hst⟩:=k6 hS
  unfold setEntries
  refine wpAny_bind (wpAny_bind (wpAny_setState_of ho hd hf (wpAny_pure ?_)))
  refine wpAny_bind (wpAny_forIn_array' _ (fun l' b s2=>s2=s'/\b=⟨none,()⟩/\∀ e∈l',∃ z k,e.2=Value.str z k) _ ?_ ?_ _ _ ⟨rfl,rfl,hst⟩)
  ·rintro e a34 b s2 ⟨rfl,rfl,he⟩
   obtain⟨z,k,q⟩:=he e (List.mem_cons_self ..)
   obtain⟨e1,e2⟩:=e
   simp only at q
   subst q
   exact wpAny_pure ⟨rfl,rfl,fun e he'=>he e (List.mem_cons_of_mem _ he')⟩
  ·rintro b s2 ⟨rfl,rfl,_⟩
   exact wpAny_pure ⟨rfl,rfl,fun a ha'=>ha a (List.mem_cons_of_mem _ ha')⟩
 ·rintro b s' ⟨rfl,rfl,_⟩
  exact wpAny_pure h
theorem o6.perm {l l':List (Int×Value)}{zs:List Str}(h:o6 prog w l zs)(p:List.Perm l' l):o6 prog w l' zs:=⟨(p.map _).trans h.1,fun e he=>h.2 e (p.mem_iff.mp he)⟩
theorem wN {a:Addr}{zs:List Str}{Q:Array (Int×Value)->Shared->Prop}(hS:bF prog w s.heap a zs)(h:∀ es' d,o6 prog w es'.toList zs->Q es' { s with drawn:=d }):wpAny (model prog w) A (setWalk a) Q E s:=by
 obtain⟨o,es,ep,t,ho,hex,hd,hf,fO,hpl,hn,hent,hst⟩:=k6 hS
 have h0:∀ es',o6 prog w es'.toList zs->Q es' s:=fun es' q=>by
  have:=h es' s.drawn q
  exact this
 unfold setWalk
 refine wpAny_bind (wpAny_setState_of ho hd hf ?_)
 dsimp only
 unfold setsByText
 refine wpAny_bind (wpAny_bind (wpAny_askSetting (wpAny_pure ?_)))
 show wpAny _ _ (if (w.params.followText "set-order")=true then _ else _) _ _ _
 cases hT:w.params.followText "set-order" with
 | true =>
  simp only[if_true]
  refine wpAny_bind (wpAny_askSetting (wpAny_pure ?_))
  exact h0 _ (hent.perm (dZ _ _))
 | false =>
  simp only[Bool.false_eq_true,if_false]
  show wpAny _ _ (if (!t.plain && decide (es.size > 1))=true then _ else _) _ _ _
  split
  ·refine wpAny_bind (ux _ _ _ _ (by simp) fun ys d hp=>wpAny_pure ?_)
   exact h _ d (by simpa using hent.perm hp)
  ·show wpAny _ _ ((if (!t.led && decide (es.size > 1))=true then unsupported "set:maker-not-led" else pure ()) >>= fun _=>pure es) _ _ _
   rw[fO,hT]
   simp only[Bool.not_false,Bool.not_true,Bool.false_and,Bool.false_eq_true,if_false]
   exact wpAny_bind (wpAny_pure (wpAny_pure (h0 _ hent)))
theorem Dj {a o r:Addr}{zs zo:List Str}{Q:Array (Int×Value)->Shared->Prop}(hS:bF prog w s.heap a zs)(hO:bF prog w s.heap o zo)(hR:bF prog w s.heap r [])
  (h:∀ es' d h',Heap.SameBut r s.heap h'->bF prog w h' r []->o6 prog w es'.toList zs->Q es' { s with heap:=h',drawn:=d }):wpAny (model prog w) A (setWalkUnseen a [o,r] (some r)) Q E s:=by
 obtain⟨oa,es,ep,t,ho,hex,hd,hf,fO,hpl,hn,hent,hst⟩:=k6 hS
 have hw:wpAny (model prog w) A (setWalk a) Q E s:=wN hS fun es' d q=>by
  have:=h es' d s.heap (Heap.SameBut.refl _ _) hR q
  exact this
 unfold setWalkUnseen
 refine wpAny_bind (wpAny_setState_of ho hd hf ?_)
 dsimp only
 unfold setsByText
 refine wpAny_bind (wpAny_bind (wpAny_askSetting (wpAny_pure ?_)))
 split
 ·exact hw
 ·rename_i hno
  refine wpAny_bind (FN (fun b hb=>?_) ?_)
  ·simp only[List.mem_cons,List.not_mem_nil,or_false] at hb
   rcases hb with rfl | rfl | rfl
   ·exact⟨_,hS⟩
   ·exact⟨_,hO⟩
   ·exact⟨_,hR⟩
  ·simp only[Bool.not_true,Bool.false_eq_true,if_false]
   refine wpAny_bind (wpAny_rule ?_)
   obtain⟨orr,er,epr,tr,hor,a2b,hdr,a2d,hstr,hzr,a14,hbr,hfr,YO,a6e⟩:=id hR
   have er0:er.size=0:=by
    have:=congrArg List.length hzr
    rw[List.length_map,Array.length_toList] at this
    exact this
   refine wpAny_bind (wpAny_setState_of hor hdr hfr ?_)
   dsimp only
   split
   ·refine wpAny_bind (wpAny_storeSet_of hor hdr ?_ (fits_of_scanBound hbr))
    have hg:(s.heap.update r (Obj.putSet er { tr with led:=tr.led && t.led,plain:=tr.plain && t.plain })).get? r=some { orr with data:=.set er (epr+1) { tr with led:=tr.led && t.led,plain:=tr.plain && t.plain } }:=by
     have:=Heap.get?_update_self (Obj.putSet er { tr with led:=tr.led && t.led,plain:=tr.plain && t.plain }) hor (by rw[putSet_of er _ hdr];rfl)
     rw[putSet_of er _ hdr] at this;exact this
    refine wpAny_pure (h es s.drawn _ (Heap.SameBut.update _ _ _) ⟨_,er,epr+1,_,hg,a2b,rfl,a2d,hstr,hzr,a14,hbr,hfr,?_,.inr er0⟩ hent)
    show(tr.led && t.led)=_
    rw[YO,fO,Bool.and_self]
   ·exact wpAny_pure (h es s.drawn s.heap (Heap.SameBut.refl _ _) hR hent)
theorem bF.typeIs {a:Addr}{zs:List Str}(hS:bF prog w s.heap a zs):s.TypeIs (.ref a) "set":=by
 obtain⟨o,es,ep,t,ho,hex,_⟩:=hS
 exact⟨o,ho,hex.1⟩
theorem jv {a:Addr}{zs:List Str}{Q:Bool->Shared->Prop}(hS:bF prog w s.heap a zs)(h:Q true s):wpAny (model prog w) A (Builtin.Frozenset.isAnySet (.ref a)) Q E s:=by
 unfold Builtin.Frozenset.isAnySet
 refine wpAny_bind (wpAny_isInstance hS.typeIs sub_set_self ?_)
 exact wpAny_pure h
theorem size_set {a:Addr}{zs:List Str}{Q:Nat->Shared->Prop}(hS:bF prog w s.heap a zs)(h:Q zs.length s):wpAny (model prog w) A (Builtin.Frozenset.sizeOf a) Q E s:=by
 obtain⟨o,es,ep,t,ho,hex,hd,hf,fO,hpl,hn,hent,hst⟩:=k6 hS
 unfold Builtin.Frozenset.sizeOf setEntries
 refine wpAny_bind (wpAny_bind (wpAny_setState_of ho hd hf (wpAny_pure (wpAny_pure ?_))))
 rw[hn];exact h
theorem AI {id:String}{a o:Addr}{zs zo:List Str}{Q:Value->Shared->Prop}(hS:bF prog w s.heap a zs)(hO:bF prog w s.heap o zo)(hz:zs.length / 4<=zo.length)(h64:zs.length < 64)
  (h:∀ h' d ys,(∀ b ob,s.heap.get? b=some ob->h'.get? b=some ob)->bF prog w h' s.heap.objs.size ys->(∀ x,x∈ys↔x∈zs/\x ∉ zo)->ys.length < 64->Q (.ref s.heap.objs.size) { s with heap:=h',drawn:=d }) :
  wpAny (model prog w) A (Builtin.Frozenset.difference id a (.ref o)) Q E s:=by
 unfold Builtin.Frozenset.difference
 refine wpAny_bind (jv hO ?_)
 simp only[Bool.not_true,Bool.false_eq_true,if_false,Bool.false_and]
 refine wpAny_bind (wpAny_pure ?_)
 refine wpAny_bind (size_set hO ?_)
 refine wpAny_bind (size_set hS ?_)
 rw[if_neg (by omega)]
 unfold Builtin.Frozenset.baseOf
 refine wpAny_bind (wpAny_bind (wpAny_isInstance hS.typeIs sub_set_self (wpAny_pure ?_)))
 simp only[if_true]
 unfold newSet setsByText
 refine wpAny_bind (wpAny_bind (wpAny_bind (wpAny_askSetting (wpAny_pure ?_))))
 dsimp only
 simp only[newObj]
 refine wpAny_bind (wpAny_alloc (wpAny_pure ?_))
 refine wpAny_bind (wpAny_pure ?_)
 show wpAny (model prog w) A _ _ _ { s with heap:=s.heap.push { cls:=.type "set",dict:=none,data:=.set #[] 0 (.fresh 0 0 (!w.params.followText "set-order")) } }
 generalize Mz:s.heap.push { cls:=.type "set",dict:=none,data:=.set #[] 0 (.fresh 0 0 (!w.params.followText "set-order")) }=h1
 have J9:∀ b ob,s.heap.get? b=some ob->h1.get? b=some ob:=fun b ob e=>Mz ▸ Heap.get?_push_of_some _ e
 have hr1:h1.get? s.heap.objs.size=some { cls:=.type "set",dict:=none,data:=.set #[] 0 (.fresh 0 0 (!w.params.followText "set-order")) }:=Mz ▸ Heap.get?_push_size _ rfl
 have hR1:bF prog w h1 s.heap.objs.size []:=⟨_,_,_,_,hr1,⟨rfl,rfl,rfl⟩,rfl,(fun e he=>absurd he (by simp)),(fun e he=>absurd he (by simp)),rfl,.nil,by decide,by rfl,rfl,.inr rfl⟩
 have MA:bF prog w h1 a zs:=hS.at (J9 a)
 have hO1:bF prog w h1 o zo:=hO.at (J9 o)
 have la:a < s.heap.objs.size:=let ⟨_,_,_,_,e,_⟩:=hS;Heap.lt_size e
 have lo:o < s.heap.objs.size:=let ⟨_,_,_,_,e,_⟩:=hO;Heap.lt_size e
 obtain⟨oa,es,ep,t,ho,hex,hd,hf,fO,hpl,hn,hent,hst⟩:=k6 MA
 unfold setEpoch
 refine wpAny_bind (wpAny_bind (wpAny_setState_of (s:={ s with heap:=h1 }) ho hd hf (wpAny_pure ?_)))
 refine wpAny_bind (wpAny_holding (wpAny_bind ?_))
 refine Dj (s:={ s with heap:=h1 }) MA hO1 hR1 fun es' d h2 J8 VI qF=>?_
 have s2a:bF prog w h2 a zs:=MA.at fun ob e=>(J8.2 a (Nat.ne_of_lt la)).trans e
 have s2o:bF prog w h2 o zo:=hO1.at fun ob e=>(J8.2 o (Nat.ne_of_lt lo)).trans e
 have ho2:h2.get? a=some oa:=(J8.2 a (Nat.ne_of_lt la)).trans ho
 refine wpAny_bind (wpAny_forIn_array' _ (fun l _ s'=>∃ h' ys dn,s'={ s with heap:=h',drawn:=d }/\Heap.SameBut s.heap.objs.size h2 h'/\bF prog w h' s.heap.objs.size ys/\es'.toList=dn++l/\(∀ x,x∈ys↔x∈dn.map (fun e=>strOf e.2)/\x ∉ zo)/\ys.length<=dn.length) _ ?_ ?_ _ _
  ⟨h2,[],[],rfl,Heap.SameBut.refl _ _,VI,rfl,by simp,Nat.le_refl _⟩)
 ·rintro e rest b s' ⟨h',ys,dn,rfl,sb,hR,el,hm,hl⟩
  obtain⟨z,k,rfl⟩:=qF.2 e (by rw[el];exact List.mem_append_right _ (List.mem_cons_self ..))
  have Q2:bF prog w h' o zo:=s2o.at fun ob e=>(sb.2 o (Nat.ne_of_lt lo)).trans e
  have a7y:dn.length < 64:=by
   have:=qF.1.length_eq
   rw[List.length_map,el,List.length_append,List.length_cons] at this
   omega
  have nx:es'.toList=(dn++[((aG prog w).hash (Sum.inr z),Value.str z k)])++rest:=by rw[el,List.append_assoc];rfl
  have same:∀ h'':Heap,Heap.SameBut s.heap.objs.size h' h''->∀ ys',bF prog w h'' s.heap.objs.size ys'->(∀ x,x∈ys'↔x∈(dn++[((aG prog w).hash (Sum.inr z),Value.str z k)]).map (fun e=>strOf e.2)/\x ∉ zo)->ys'.length<=dn.length+1 ->
    wpAny (model prog w) A (Builtin.Frozenset.unchanged id a ep) (fun _ s''=>∃ h' ys dn,s''={ s with heap:=h',drawn:=d }/\Heap.SameBut s.heap.objs.size h2 h'/\bF prog w h' s.heap.objs.size ys/\es'.toList=dn++rest/\(∀ x,x∈ys↔x∈dn.map (fun e=>strOf e.2)/\x ∉ zo)/\ys.length<=dn.length) E { s with heap:=h'',drawn:=d }:=by
   intro h'' sb' ys' hR' hm' hl'
   unfold Builtin.Frozenset.unchanged setEpoch
   refine wpAny_bind (wpAny_bind (wpAny_setState_of (s:={ s with heap:=h'',drawn:=d }) (((sb.trans sb').2 a (Nat.ne_of_lt la)).trans ho2) hd hf (wpAny_pure ?_)))
   rw[if_neg (by simp)]
   exact wpAny_pure ⟨h'',ys',_,rfl,sb.trans sb',hR',nx,hm',by simpa using hl'⟩
  refine wpAny_bind (wpAny_holding (wpAny_bind ?_))
  refine Lg (s:={ s with heap:=h',drawn:=d }) Q2 fun r hr=>?_
  refine wpAny_bind (wpAny_pure ?_)
  by_cases VC:z∈zo
  ·rw[decide_eq_true VC] at hr
   rw[hr]
   simp only[Bool.not_true,Bool.false_eq_true,if_false]
   refine wpAny_pure (wpAny_bind (wpAny_mono (same h' (Heap.SameBut.refl _ _) ys hR (fun x=>?_) (by omega)) (fun _ _ q=>wpAny_pure q) fun _ _ q=>q))
   rw[hm x,List.map_append,List.mem_append]
   constructor
   ·rintro⟨q1,q2⟩;exact⟨.inl q1,q2⟩
   ·rintro⟨q1 | q1,q2⟩
    ·exact⟨q1,q2⟩
    ·exact absurd (by rw[List.mem_singleton.mp q1];exact VC) q2
  ·rw[decide_eq_false VC] at hr
   rw[hr]
   simp only[Bool.not_false,if_true]
   refine wpAny_bind (HE (s:={ s with heap:=h',drawn:=d }) hR (by unfold scanBound;omega) fun h'' ys' sb' hR' q1 q2=>?_)
   have hin:∀ x,x∈ys'↔x∈ys∨x=z:=fun x=>by
    by_cases hy:z∈ys
    ·rw[q1 hy]
     exact⟨.inl,fun q=>q.elim (fun q=>q) fun q=>q ▸ hy⟩
    ·rw[(q2 hy).mem_iff,List.mem_append,List.mem_singleton]
   have hlen:ys'.length<=ys.length+1:=by
    by_cases hy:z∈ys
    ·rw[q1 hy];omega
    ·rw[(q2 hy).length_eq,List.length_append];exact Nat.le_refl _
   refine wpAny_pure (wpAny_bind (wpAny_mono (same h'' sb' ys' hR' (fun x=>?_) (by omega)) (fun _ _ q=>wpAny_pure q) fun _ _ q=>q))
   rw[hin x,hm x,List.map_append,List.mem_append]
   constructor
   ·rintro(⟨q1,q2⟩ | q1)
    ·exact⟨.inl q1,q2⟩
    ·subst q1;exact⟨.inr (List.mem_singleton.mpr rfl),VC⟩
   ·rintro⟨q1 | q1,q2⟩
    ·exact .inl ⟨q1,q2⟩
    ·exact .inr (List.mem_singleton.mp q1)
 ·rintro b s' ⟨h',ys,dn,rfl,sb,hR,el,hm,hl⟩
  rw[List.append_nil] at el
  refine wpAny_pure (wpAny_pure (h h' d ys (fun b ob e=>?_) hR (fun x=>?_) ?_))
  ·have l:=Nat.ne_of_lt (Heap.lt_size e)
   exact(sb.2 b l).trans ((J8.2 b l).trans (J9 b ob e))
  ·rw[hm x,<- el,(qF.1.mem_iff)]
  ·have:=qF.1.length_eq
   rw[List.length_map,el] at this
   omega
end
end PySem
namespace L2
open PySem PySem.Spec PyProof.Rows Hw
theorem oM:entryFor table "set.__sub__"=some Builtin.«frozenset.__sub__»:=entryFor_alias (id':="frozenset.__sub__") (by kernel_rfl) rfl (by decide +kernel) (by kernel_rfl)
section
variable {X:Cx}
theorem AL (hc:X.calm=true):fE X (.type "set") (fun xs H Q=>∃ (p:Addr) (ss ds:List Str),xs=[.ref p]/\nH X.K H p (ss.map V.str)/\ss.length < 4000/\ds.length < 64/\(∀ x∈ss,x∈ds)/\∀ q,H q=none->Q (.ref q) (upd H q (nV X.prog X.w q ss))):=by
 intro pins s σ H xs us Q I r h
 obtain⟨p,ss,ds,rfl,hq,hl,hd,hin,q⟩:=h
 obtain⟨u,rfl,rx⟩:=vals1 r
 cases rx
 obtain⟨its,r',pl,hz⟩:=I.list hq
 have hlen:=r'.length
 rw[List.length_map] at hlen
 refine zF (I.ok.hd hc) pl.isList (ss:=ss) (by simpa using kM r') (by simp only[List.size_toArray];unfold scanBound;omega) fun h' tk zs hS hm ND kp=>?_
 have hnd:zs.Nodup:=let ⟨_,_,_,_,_,_,_,_,_,_,n,_⟩:=hS;n
 have a53:=sA hnd fun x hx=>hin x ((hm x).mp hx)
 have L:=I.Av (h':=h') (a:=s.heap.objs.size) (o:=nV X.prog X.w s.heap.objs.size ss) (t':=tk) (fun b u e=>kp b u (Heap.lt_size e) e) (fun b u e=>Nat.ne_of_lt (Heap.lt_size e))
  ⟨⟨zs,hS,hm,by omega⟩,let ⟨o,_,_,_,ho,_⟩:=hS;⟨o,ho⟩,fun h1 h2 ⟨zs,x,y⟩ k=>⟨zs,x.at k,y⟩⟩
 exact⟨.ref s.heap.objs.size,_,L.2,rfl,q _ L.1⟩
end
end L2
namespace PySem
open L2 PyProof.Rows
section
variable {prog:Program}{w:World}{A:Around}{E:Value->Shared->Prop}{s:Shared}
set_option maxHeartbeats 3200000 in
theorem yu {l:Addr}{items:Array Value}{ss:List Str}{Q:Value->Shared->Prop}(hh:A.handled=none)(hl:s.heap.IsTuple l items)(hi:StrsAre items.toList ss)(hb:items.size+1 < scanBound)
  (h:∀ (h':Heap) (tk:Nat) (zs:List Str),bF prog w h' s.heap.objs.size zs->(∀ x,x∈zs↔x∈ss)->zs.length<=items.size ->
   (∀ b o,b < s.heap.objs.size->s.heap.get? b=some o->h'.get? b=some o)->Q (.ref s.heap.objs.size) { s with heap:=h',toks:=tk }) :
  wpAny (model prog w) A (call (.type "set") [.ref l]) Q E s:=by
 have hlen:ss.length=items.size:=by rw[<- StrsAre.length hi,Array.length_toList]
 obtain⟨c,tl,a15⟩:=F.called_set.mro
 have hmade:=F.called_set.made
 have hsub:=F.called_set.sub
 refine wpAny_call (codeAny_of_tree ?_)
 show wpAny _ _ (callAny (.type "set") _) _ _ _
 refine wpAny_pure ⟨Code.quiet_builtin _ (by decide +kernel),codeAny_builtin F.entry_type_call ?_⟩
 rw[Around.under_plain (weight_type_call_type "set" [.ref l] []) rfl]
 have h1:=F.called_set.notType
 have h2:=F.called_set.canCreate
 have hct:=F.typeCall_set_1 (.ref l)
 repeat (any_goals (first | assumption | wp_step))
 refine codeAny_mono (oN (.ref l) (E:=E) (Q₁:=fun obj s₁=>obj=.ref s.heap.objs.size/\s₁={ s with heap:=s.heap.push { cls:=.type "set",dict:=none,data:=.set #[] 0 (.fresh 0 0 (!w.params.followText "set-order")) } }) ⟨rfl,rfl⟩) fun r s₁ hr=>?_
 cases r with
 | error e=>exact hr
 | ok fl =>
  cases fl with
  | ret obj =>
   obtain⟨rfl,rfl⟩:=hr
   have hS:(s.heap.push { cls:=.type "set",dict:=none,data:=.set #[] 0 (.fresh 0 0 (!w.params.followText "set-order")) }).get? s.heap.objs.size=some { cls:=.type "set",dict:=none,data:=.set #[] 0 (.fresh 0 0 (!w.params.followText "set-order")) }:=Heap.get?_push_size _ rfl
   have hT:Shared.TypeIs { s with heap:=s.heap.push { cls:=.type "set",dict:=none,data:=.set #[] 0 (.fresh 0 0 (!w.params.followText "set-order")) } } (.ref s.heap.objs.size) "set":=⟨_,hS,rfl⟩
   have hli:=F.called_set.init.lookup
   have hbi:=F.called_set.init.bind (.ref s.heap.objs.size)
   repeat (any_goals (first | assumption | wp_step))
   refine codeAny_mono (codeAny_call_builtin (R:=wants (fun r s₂=>r=.none/\∃ h' tk zs,s₂={ s with heap:=h',toks:=tk }/\bF prog w h' s.heap.objs.size zs/\(∀ x,x∈zs↔x∈ss)/\zs.length<=items.size /\
     (∀ b o,b < s.heap.objs.size->s.heap.get? b=some o->h'.get? b=some o)) E) F.called_set.init.plain F.entry_set_init (check_set_init_1 hT ?_)) fun r₂ s₂ hr₂=>?_
   ·obtain⟨ol,YL,hcl,nl,hdl⟩:=hl
    obtain⟨a05,LR,W2,FU⟩:=ol
    simp only at hcl hdl
    subst hcl;subst hdl
    have US:(s.heap.push { cls:=.type "set",dict:=none,data:=.set #[] 0 (.fresh 0 0 (!w.params.followText "set-order")) }).get? l=some { cls:=.type "tuple",dict:=LR,data:=.seq items nl,slots:=FU }:=Heap.get?_push_of_some _ YL
    have a1X:=F.sub_tuple_set
    have a1Y:=F.sub_tuple_frozenset
    have hne:(Value.type "tuple" == Value.type "dict")=false:=by decide
    have hl1:(s.heap.push { cls:=.type "set",dict:=none,data:=.set #[] 0 (.fresh 0 0 (!w.params.followText "set-order")) }).IsTuple l items:=⟨_,US,rfl,nl,rfl⟩
    unfold Builtin.«set.__init__» noKeywords Builtin.Frozenset.updateFrom
    generalize hPI:pyIter=PI
    wp_walk
    subst hPI
    refine wpAny_pyIter_tuple hl1 ?_
    refine wpAny_bind (wpAny_runValue ?_)
    have hlS:l < s.heap.objs.size:=Heap.lt_size YL
    have hh3:A.in1.in1.in1.handled=none:=by simp[hh]
    have UW:l≠(s.heap.push { cls:=.type "set",dict:=none,data:=.set #[] 0 (.fresh 0 0 (!w.params.followText "set-order")) }).objs.size:=by rw[Heap.size_push];exact Nat.ne_of_lt (Nat.lt_succ_of_lt hlS)
    have hSf:s.heap.objs.size ∉ [(s.heap.push { cls:=.type "set",dict:=none,data:=.set #[] 0 (.fresh 0 0 (!w.params.followText "set-order")) }).objs.size,l]:=by
     rw[Heap.size_push];simp only[List.mem_cons,List.mem_singleton,List.not_mem_nil,or_false,not_or]
     exact⟨Nat.ne_of_lt (Nat.lt_succ_self _),Nat.ne_of_gt hlS⟩
    refine DF ((Walks.tuple hh3 _ l UW items).toS) s.heap.objs.size hSf ss hlen (fun i v _ hv=>StrsAre.KI hi i v (by rw[Array.getElem?_toList];exact hv)) hb (items.size - 0) 0 _ [] (by omega) (Nat.zero_le _)
     ⟨⟨_,Heap.get?_push_size _ rfl,rfl,rfl⟩,(hl1.push _)⟩ ?hS0 (Nat.le_refl _) (fun x=>by simp) ?hR
    case hS0 =>
     have hget:((s.heap.push { cls:=.type "set",dict:=none,data:=.set #[] 0 (.fresh 0 0 (!w.params.followText "set-order")) }).push { cls:=.type "tuple_iterator",data:=.fields #[.ref l,.int 0 0] }).get? s.heap.objs.size=some { cls:=.type "set",dict:=none,data:=.set #[] 0 (.fresh 0 0 (!w.params.followText "set-order")) }:=Heap.get?_push_of_some _ hS
     exact⟨_,#[],0,_,hget,⟨rfl,rfl,rfl⟩,rfl,(fun e he=>by simp at he),(fun e he=>by simp at he),rfl,.nil,by decide,by rfl,rfl,.inr rfl⟩
    case hR =>
     intro s' zs hm hS' ND hmem
     obtain⟨h',g',d',tk',os'⟩:=s'
     have eg:g'=s.gens:=hm.gens
     have ed:d'=s.drawn:=hm.drawn
     have eo:os'=s.os:=hm.os
     subst eg;subst ed;subst eo
     show wpAny _ _ _ _ _ _
     refine wpAny_pure ?_
     show wpAny _ _ (ret Value.none) _ _ _
     refine wpAny_pure ⟨rfl,h',tk',zs,rfl,hS',hmem,ND,fun b o hb e=>?_⟩
     have hb1:b≠s.heap.objs.size:=Nat.ne_of_lt hb
     have hb2:b≠(s.heap.push { cls:=.type "set",dict:=none,data:=.set #[] 0 (.fresh 0 0 (!w.params.followText "set-order")) }).objs.size:=by rw[Heap.size_push];exact Nat.ne_of_lt (Nat.lt_succ_of_lt hb)
     exact hm.heap b o (by simp only[List.mem_cons,List.mem_singleton,List.not_mem_nil,or_false,not_or];exact⟨hb1,hb2⟩) (Heap.get?_push_of_some _ (Heap.get?_push_of_some _ e))
   ·cases r₂ with
    | error e=>exact hr₂
    | ok fl₂ =>
     cases fl₂ with
     | ret r =>
      obtain⟨rfl,h',tk,zs,rfl,hS',hmem,ND,hk'⟩:=hr₂
      repeat (any_goals (first | assumption | wp_step))
      exact h _ _ zs hS' hmem ND hk'
     | _=>exact hr₂.elim
  | _=>exact hr.elim
end
end PySem
namespace L2
open PySem PySem.Spec PyProof.Rows Hw
section
variable {X:Cx}
theorem JU (hc:X.calm=true):fE X (.type "set") (fun xs H Q=>∃ (p:Addr) (ss:List Str),xs=[.ref p]/\qh X.K H p (ss.map V.str)/\ss.length < 64/\∀ q,H q=none->Q (.ref q) (upd H q (nV X.prog X.w q ss))):=by
 intro pins s σ H xs us Q I r h
 obtain⟨p,ss,rfl,hq,hl,q⟩:=h
 obtain⟨u,rfl,rx⟩:=vals1 r
 cases rx
 obtain⟨its,r',pl,hz⟩:=I.tuple hq
 have hlen:=r'.length
 rw[List.length_map] at hlen
 refine yu (I.ok.hd hc) (show s.heap.IsTuple p its.toArray from pl) (ss:=ss) (by simpa using kM r') (by simp only[List.size_toArray];unfold scanBound;omega) fun h' tk zs hS hm ND kp=>?_
 simp only[List.size_toArray] at ND
 have L:=I.Av (h':=h') (a:=s.heap.objs.size) (o:=nV X.prog X.w s.heap.objs.size ss) (t':=tk) (fun b u e=>kp b u (Heap.lt_size e) e) (fun b u e=>Nat.ne_of_lt (Heap.lt_size e))
  ⟨⟨zs,hS,hm,by omega⟩,let ⟨o,_,_,_,ho,_⟩:=hS;⟨o,ho⟩,fun h1 h2 ⟨zs,x,y⟩ k=>⟨zs,x.at k,y⟩⟩
 exact⟨.ref s.heap.objs.size,_,L.2,rfl,q _ L.1⟩
end
end L2
namespace PySem
section
variable {M:Model}{A:Around}{E:Value->Shared->Prop}{s:Shared}{base:Heap}{env:Env}{outer:List Env}{L a C T:Addr}{z:Value}
end
end PySem
namespace L2
open PySem PySem.Spec PyProof.Rows
section
variable {prog:Program}{w:World}{A:Around}{R:Result->Shared->Prop}{s:Shared}
end
section
variable {X:Cx}{sc:Scope}{cl:List (Str×Addr)}{own:Nat}{N:List Str}{fr:List Nat}
end
end L2
namespace L2
open PySem PySem.Spec PyProof.Rows
section
variable {P:Program}{w:World}{K:PySem.W.Frag}{mg:Str->Option Value}{base:Heap}{N:List Str}{qual:Str}{scope:Scope}{f TM:Addr}{cd:Value}{A:Around}{outer:List Env}{s:Shared}{H:Hp}{E:XK}
end
section
variable {P:Program}{w:World}{K:PySem.W.Frag}{mg:Str->Option Value}{base:Heap}{N0:List Str}{qual:Str}{scope:Scope}{f00 TM:Addr}{cd:Value}{A:Around}{outer:List Env}{s0:Shared}{H00:Hp}{E:XK}{sc:Scope}{cl:List (Str×Addr)}{own:Nat}{N:List Str}{fr:List Nat}
end
end L2
namespace Hw
open PySem L2
end Hw
namespace Hw
open PySem L2
end Hw
namespace L2
open PySem PySem.Spec PyProof.Rows Hw
section
variable {X:Cx}{k:Nat}{m:Str}{pos apos:Pos}{o:Expr}{ta:TE}{Y:Cy}{ps:List Str}{sp:Nat->Sp}
noncomputable def N8:V->List V->Hp->VK->Prop:=fun x vs H Q=>∃ a b,x=.str a/\vs=[.str b]/\Q (.bl (Txt.startswith a b)) H
theorem Js:CO X "str.startswith" N8:=by
 intro pins s σ H x vs v us Q I rx rv h
 obtain⟨a,b,rfl,rfl,q⟩:=h
 obtain⟨t,rfl⟩:=rx
 obtain⟨u,rfl,ru⟩:=rv.one
 obtain⟨t2,rfl⟩:=ru
 exact PySem.SC.startswith ⟨.bl _,H,I,rfl,q⟩
end
end L2
namespace Hw
open PySem L2
section
variable {Y:Cy}{H:Hp}{s:Stp}{p:Addr}
end
section
variable {Y:Cy}{H H':Hp}
end
end Hw
namespace Hw
open PySem L2
section
variable {Z:Cz}{Bk Db:Addr}{H H':Hp}{b F:Addr}{pg:V}{ds:List V}{dd:List Dt}
end
end Hw
namespace Hw
open PySem L2
section
variable {N:List Str}{Y:Cy}{H:Hp}{s:Stp}{p:Addr}
end
end Hw
namespace PySem
open L2
noncomputable def Mw:Nat->Nat->Bool
 | 0,i=>decide (i<=22)
 | n+1,i=>decide (i<=22) || Mw n ((i*5+1) % 32)
theorem Mv:∀ i,i < 32->Mw 9 i=true:=by decide +kernel
theorem oK {α β:Type}{f g:α->Option β}:∀ {l:List α},(∀ x∈l,f x=g x)->l.filterMap f=l.filterMap g
 | [],_=>rfl
 | a::r,h=>by
  have e:=oK (l:=r) fun x hx=>h x (List.mem_cons_of_mem _ hx)
  have ha:=h a (List.mem_cons_self ..)
  simp only[List.filterMap_cons,ha,e]
theorem iz {α β:Type}(f:α->Option β){a:α}{b:β}{l:List α}(h:f a=some b):(a::l).filterMap f=b::l.filterMap f:=by simp only[List.filterMap_cons,h]
theorem qc {α β:Type}(f:α->Option β){a:α}{l:List α}(h:f a=none):(a::l).filterMap f=l.filterMap f:=by simp only[List.filterMap_cons,h]
noncomputable def fP (ow:Array (Option Nat)):List Nat:=(List.range 32).filterMap fun j=>ow.getD j none
theorem Ll {ow:Array (Option Nat)}(hs:ow.size=32)(hc:(fP ow).length<=9){i:Nat}(hi:i<=22):∃ k,(List.range (SetTable.runEnd 31 i+1 - i)).find? (fun k=>(ow.getD (i+k) (some 0)).isNone)=some k/\i+k < 32/\ow.getD (i+k) none=none:=by
 have e:SetTable.runEnd 31 i+1 - i=10:=by unfold SetTable.runEnd;rw[if_pos (by omega)];omega
 rw[e]
 cases h:(List.range 10).find? (fun k=>(ow.getD (i+k) (some 0)).isNone) with
 | some k =>
  have h1:=List.find?_some h
  have h2:=List.mem_range.mp (List.mem_of_find?_eq_some h)
  refine⟨k,rfl,by omega,?_⟩
  simp only[Array.getD_eq_getD_getElem?] at h1 ⊢
  have hk:i+k < ow.size:=by omega
  rw[Array.getElem?_eq_getElem hk] at h1 ⊢
  simp only[Option.getD_some,Option.isNone_iff_eq_none] at h1 ⊢
  exact h1
 | none =>
  exfalso
  have h1:=List.find?_eq_none.mp h
  have sub:List.Sublist (List.range' i 10) (List.range 32):=by
   rw[List.range_eq_range']
   have:List.range' 0 32=List.range' 0 i++(List.range' i 10++List.range' (i+10) (22 - i)):=by
    rw[List.range'_append_1]
    have e2:=List.range'_append_1 (s:=0) (m:=i) (n:=10+(22 - i))
    rw[Nat.zero_add] at e2
    rw[e2]
    congr 1
    omega
   rw[this]
   exact(List.sublist_append_left _ _).trans (List.sublist_append_right _ _)
  have l1:=(sub.filterMap (fun j=>ow.getD j none)).length_le
  have l2:((List.range' i 10).filterMap (fun j=>ow.getD j none)).length=10:=by
   have:∀ l:List Nat,(∀ j∈l,(ow.getD j none).isSome=true)->(l.filterMap (fun j=>ow.getD j none)).length=l.length:=fun l=>by
    induction l with
    | nil=>intro _;rfl
    | cons a r ih =>
     intro hl
     obtain⟨v,hv⟩:=Option.isSome_iff_exists.mp (hl a (List.mem_cons_self ..))
     rw[iz (fun j=>ow.getD j none) hv,List.length_cons,List.length_cons,ih fun j hj=>hl j (List.mem_cons_of_mem _ hj)]
   rw[this _ fun j hj=>?_,List.length_range']
   have hj':=List.mem_range'_1.mp hj
   have:=h1 (j - i) (List.mem_range.mpr (by omega))
   rw[show i+(j - i)=j by omega] at this
   simp only[Array.getD_eq_getD_getElem?] at this ⊢
   have hk:j < ow.size:=by omega
   rw[Array.getElem?_eq_getElem hk] at this ⊢
   simp only[Option.getD_some] at this ⊢
   cases z:ow[j] with
   | none=>rw[z] at this;exact absurd rfl this
   | some v=>rfl
  unfold fP at hc
  omega
theorem Cp {ow:Array (Option Nat)}(hs:ow.size=32)(hc:(fP ow).length<=9){fuel i p:Nat}(hi:i<=22):∃ j,SetTable.layClean.free 31 ow (fuel+1) i p=some j/\j < 32/\ow.getD j none=none:=by
 obtain⟨k,e,l,n⟩:=Ll hs hc hi
 refine⟨i+k,?_,l,n⟩
 unfold SetTable.layClean.free
 rw[e]
theorem AB {ow:Array (Option Nat)}(hs:ow.size=32)(hc:(fP ow).length<=9){fuel i p:Nat}(hi:i < 32)(h:∃ j,SetTable.layClean.free 31 ow fuel ((i*5+1+p / 32) % 32) (p / 32)=some j/\j < 32/\ow.getD j none=none):∃ j,SetTable.layClean.free 31 ow (fuel+1) i p=some j/\j < 32/\ow.getD j none=none:=by
 by_cases h22:i<=22
 ·exact Cp hs hc h22
 ·obtain⟨j,e,l,n⟩:=h
  unfold SetTable.layClean.free
  have er:SetTable.runEnd 31 i+1 - i=1:=by unfold SetTable.runEnd;rw[if_neg (by omega)];omega
  rw[er]
  cases z:(List.range 1).find? (fun k=>(ow.getD (i+k) (some 0)).isNone) with
  | some k =>
   have h1:=List.find?_some z
   have h2:=List.mem_range.mp (List.mem_of_find?_eq_some z)
   refine⟨i+k,rfl,by omega,?_⟩
   simp only[Array.getD_eq_getD_getElem?] at h1 ⊢
   have hk:i+k < ow.size:=by omega
   rw[Array.getElem?_eq_getElem hk] at h1 ⊢
   simp only[Option.getD_some,Option.isNone_iff_eq_none] at h1 ⊢
   exact h1
  | none=>exact⟨j,e,l,n⟩
theorem AA {ow:Array (Option Nat)}(hs:ow.size=32)(hc:(fP ow).length<=9):∀ (n fuel i:Nat),i < 32->Mw n i=true->n < fuel->∃ j,SetTable.layClean.free 31 ow fuel i 0=some j/\j < 32/\ow.getD j none=none
 | 0,fuel+1,i,hi,h,_=>Cp hs hc (of_decide_eq_true h)
 | n+1,fuel+1,i,hi,h,hl=>by
  rcases(Bool.or_eq_true _ _).mp h with q | q
  ·exact Cp hs hc (of_decide_eq_true q)
  ·refine AB hs hc hi ?_
   rw[Nat.zero_div,Nat.add_zero]
   exact AA hs hc n fuel _ (Nat.mod_lt _ (by decide)) q (by omega)
theorem AD {ow:Array (Option Nat)}(hs:ow.size=32)(hc:(fP ow).length<=9):∀ (k fuel i p:Nat),i < 32->p < 32 ^ k->k+10<=fuel->∃ j,SetTable.layClean.free 31 ow fuel i p=some j/\j < 32/\ow.getD j none=none
 | 0,fuel,i,p,hi,hp,hf=>by
  have:p=0:=by omega
  rw[this]
  exact AA hs hc 9 fuel i hi (Mv i hi) (by omega)
 | k+1,fuel+1,i,p,hi,hp,hf=>by
  refine AB hs hc hi (AD hs hc k fuel _ _ (Nat.mod_lt _ (by decide)) ?_ (by omega))
  rw[Nat.div_lt_iff_lt_mul (by decide)]
  rw[Nat.pow_succ] at hp
  exact hp
theorem take_set {ow:Array (Option Nat)}(hs:ow.size=32){j k:Nat}(hj:j < 32)(hn:ow.getD j none=none):List.Perm (fP (ow.setIfInBounds j (some k))) (k::fP ow):=by
 unfold fP
 have sp:List.range 32=List.range j++(j::List.range' (j+1) (31 - j)):=by
  rw[List.range_eq_range',List.range_eq_range']
  have e2:=List.range'_append_1 (s:=0) (m:=j) (n:=1+(31 - j))
  rw[Nat.zero_add] at e2
  have e3:List.range' j (1+(31 - j))=j::List.range' (j+1) (31 - j):=by rw[Nat.add_comm,List.range'_succ]
  rw[<- e3,e2]
  congr 1
  omega
 have f1:∀ m,m≠j->(ow.setIfInBounds j (some k)).getD m none=ow.getD m none:=fun m hm=>by
  simp only[Array.getD_eq_getD_getElem?]
  rw[Array.getElem?_setIfInBounds_ne (Ne.symm hm)]
 have f2:(ow.setIfInBounds j (some k)).getD j none=some k:=by
  simp only[Array.getD_eq_getD_getElem?]
  rw[Array.getElem?_setIfInBounds_self_of_lt (by omega)]
  rfl
 have g:∀ l:List Nat,j ∉ l->l.filterMap (fun m=>(ow.setIfInBounds j (some k)).getD m none)=l.filterMap (fun m=>ow.getD m none):=fun l hl=>by
  refine oK fun m hm=>?_
  exact f1 m fun z=>hl (z ▸ hm)
 rw[sp,List.filterMap_append,List.filterMap_append,iz (fun m=>(ow.setIfInBounds j (some k)).getD m none) f2,qc (fun m=>ow.getD m none) hn,g _ (fun z=>by have:=List.mem_range.mp z;omega),g _ (fun z=>by have:=(List.mem_range'_1.mp z).1;omega)]
 exact List.perm_middle
theorem IL (h:Int):SetTable.bits h < 32 ^ 13:=by
 unfold SetTable.bits
 have h1:=Int.emod_nonneg h (show(2 ^ 64:Int)≠0 by decide)
 have h2:=Int.emod_lt_of_pos h (show(0:Int) < 2 ^ 64 by decide)
 omega
theorem Es:∀ (hs:List Int) (ow:Array (Option Nat)) (k:Nat),ow.size=32->List.Perm (fP ow) (List.range k)->k+hs.length<=9->∃ LH,(hs.foldl (fun acc h=>do
  let (owner,k) <- acc
  let j <- SetTable.layClean.free 31 owner (SetTable.turns 31) (SetTable.bits h % (31+1)) (SetTable.bits h)
  pure (owner.setIfInBounds j (some k),k+1)) (some (ow,k)))=some (LH,k+hs.length)/\LH.size=32/\List.Perm (fP LH) (List.range (k+hs.length))
 | [],ow,k,hs,hp,hl=>⟨ow,rfl,hs,hp⟩
 | h::r,ow,k,hs,hp,hl=>by
  rw[List.length_cons] at hl ⊢
  have lt:=hp.length_eq
  rw[List.length_range] at lt
  obtain⟨j,e,lj,nj⟩:=AD hs (by omega) 13 (SetTable.turns 31) (SetTable.bits h % (31+1)) (SetTable.bits h) (Nat.mod_lt _ (by decide)) (IL h) (by decide)
  have p2:List.Perm (fP (ow.setIfInBounds j (some k))) (List.range (k+1)):=(take_set hs lj nj).trans (by
   rw[List.range_succ]
   exact(hp.cons k).trans (List.perm_append_singleton k (List.range k)).symm)
  obtain⟨LH,e',s',q'⟩:=Es r (ow.setIfInBounds j (some k)) (k+1) (by rw[Array.size_setIfInBounds];exact hs) p2 (by omega)
  refine⟨LH,?_,s',by rw[show k+(r.length+1)=k+1+r.length by omega];exact q'⟩
  rw[List.foldl_cons]
  have:(do
    let (owner,k) <- some (ow,k)
    let j <- SetTable.layClean.free 31 owner (SetTable.turns 31) (SetTable.bits h % (31+1)) (SetTable.bits h)
    pure (owner.setIfInBounds j (some k),k+1))=some (ow.setIfInBounds j (some k),k+1):=by
   show(do
    let j <- SetTable.layClean.free 31 ow (SetTable.turns 31) (SetTable.bits h % (31+1)) (SetTable.bits h)
    pure (ow.setIfInBounds j (some k),k+1))=some (ow.setIfInBounds j (some k),k+1)
   rw[e];rfl
  rw[this,e',show k+(r.length+1)=k+1+r.length by omega]
theorem Gi {fi mo:Nat}{led plain:Bool}{hs:Array Int}(h:hs.size<=9):∃ t order,SetTable.laid 31 fi mo led plain hs=some (t,order)/\List.Perm order.toList (List.range hs.size)/\t.place.size=hs.size/\t.mask=31/\t.dummies=#[]/\t.led=led/\t.plain=plain:=by
 obtain⟨ow,e,so,po⟩:=Es hs.toList (Array.replicate 32 none) 0 (by simp) (by decide +kernel) (by rw[Array.length_toList];omega)
 unfold SetTable.laid SetTable.layClean
 rw[<- Array.foldl_toList]
 rw[e]
 refine⟨_,_,rfl,?_,?_,rfl,rfl,rfl,rfl⟩
 ·rw[Nat.zero_add,Array.length_toList] at po
  refine List.Perm.trans (l₂:=fP ow) ?_ po
  unfold fP
  simp only[List.map_filterMap]
  refine .of_eq (oK fun j _=>?_)
  cases ow.getD j none <;> rfl
 ·have len:=po.length_eq
  rw[List.length_range,Nat.zero_add,Array.length_toList] at len
  have key:∀ l:List Nat,(l.filterMap fun j=>(ow.getD j none).map (j,·)).length=(l.filterMap fun j=>ow.getD j none).length:=fun l=>by
   induction l with
   | nil=>rfl
   | cons a r ih =>
    cases z:ow.getD a none with
    | none=>rw[qc (fun j=>(ow.getD j none).map (j,·)) (by show(ow.getD a none).map _=none;rw[z];rfl),qc (fun j=>ow.getD j none) z];exact ih
    | some v=>rw[iz (fun j=>(ow.getD j none).map (j,·)) (b:=(a,v)) (by show(ow.getD a none).map _=_;rw[z];rfl),iz (fun j=>ow.getD j none) z,List.length_cons,List.length_cons,ih]
  refine Eq.trans ?_ len
  rw[List.size_toArray,List.length_map]
  exact key _
end PySem
namespace PySem
open L2
noncomputable def FL (es:Array (Int×Value))(laid:Option (SetTable×Array Nat)):Sem (Array (Int×Value)×SetTable):=do
 let some (t,order):=laid | unsupported "internal:set-table-without-room"
 let es':=order.filterMap (es[·]?)
 if es'.size != es.size then unsupported "internal:set-table-lost-an-element"
 pure (es',t)
section
variable {prog:Program}{w:World}{A:Around}{E:Value->Shared->Prop}{s:Shared}
theorem xy {es:Array (Int×Value)}{l:Option (SetTable×Array Nat)}{t:SetTable}{order:Array Nat}{Q:Array (Int×Value)×SetTable->Shared->Prop}(e:l=some (t,order))(hp:List.Perm order.toList (List.range es.size))
  (h:∀ es',List.Perm es'.toList es.toList->Q (es',t) s):wpAny (model prog w) A (FL es l) Q E s:=by
 subst e
 have p:List.Perm (order.filterMap (es[·]?)).toList es.toList:=by
  rw[Array.toList_filterMap]
  exact(hp.filterMap _).trans (by rw[filterMap_getElem?_range])
 have sz:(order.filterMap (es[·]?)).size=es.size:=by have:=p.length_eq;rw[Array.length_toList,Array.length_toList] at this;exact this
 unfold FL
 dsimp only
 rw[if_neg (by simp[sz])]
 exact wpAny_bind (wpAny_pure (wpAny_pure (h _ p)))
theorem pL {h:Heap}{r:Addr}{o:Obj}{es es':Array (Int×Value)}{ep:Nat}{t t':SetTable}(ho:h.get? r=some o)(hd:o.data=.set es ep t):(h.update r (Obj.putSet es' t')).get? r=some { o with data:=.set es' (ep+1) t' }:=by
 have:=Heap.get?_update_self (Obj.putSet es' t') ho (by rw[putSet_of es' t' hd];rfl)
 rw[putSet_of es' t' hd] at this;exact this
theorem Gh (led:Bool):(SetTable.fresh 0 0 led).relaid #[] 16=some ({ mask:=31,place:=#[],dummies:=#[],finger:=0,led:=led,moves:=1,plain:=true },#[]):=by
 cases led <;> decide +kernel
structure VQ (prog:Program)(w:World)(h:Heap)(r:Addr)(zs:List Str):Prop where
 e:∃ o es ep t,h.get? r=some o/\o.ExactSet/\o.data=.set es ep t/\o6 prog w es.toList zs/\(∀ e∈es.toList,∃ z k,e.2=Value.str z k)/\t.place.size=es.size/\t.mask=31/\t.dummies=#[]/\t.led=(!w.params.followText "set-order")/\t.plain=false
theorem EF {a:Addr}{zs:List Str}{Q:Value->Shared->Prop}(hS:bF prog w s.heap a zs)(h8:zs.length=8)
  (h:∀ h',(∀ b ob,s.heap.get? b=some ob->h'.get? b=some ob)->VQ prog w h' s.heap.objs.size zs->Q (.ref s.heap.objs.size) { s with heap:=h' }):wpAny (model prog w) A (Builtin.Frozenset.copyOf a) Q E s:=by
 unfold Builtin.Frozenset.copyOf Builtin.Frozenset.baseOf
 refine wpAny_bind (wpAny_bind (wpAny_isInstance hS.typeIs sub_set_self (wpAny_pure ?_)))
 simp only[if_true]
 unfold newSet setsByText
 refine wpAny_bind (wpAny_bind (wpAny_bind (wpAny_askSetting (wpAny_pure ?_))))
 dsimp only
 simp only[newObj]
 refine wpAny_bind (wpAny_alloc (wpAny_pure ?_))
 refine wpAny_bind (wpAny_pure ?_)
 show wpAny (model prog w) A _ _ _ { s with heap:=s.heap.push { cls:=.type "set",dict:=none,data:=.set #[] 0 (.fresh 0 0 (!w.params.followText "set-order")) } }
 generalize Mz:s.heap.push { cls:=.type "set",dict:=none,data:=.set #[] 0 (.fresh 0 0 (!w.params.followText "set-order")) }=h1
 have J9:∀ b ob,s.heap.get? b=some ob->h1.get? b=some ob:=fun b ob e=>Mz ▸ Heap.get?_push_of_some _ e
 have hr1:h1.get? s.heap.objs.size=some { cls:=.type "set",dict:=none,data:=.set #[] 0 (.fresh 0 0 (!w.params.followText "set-order")) }:=Mz ▸ Heap.get?_push_size _ rfl
 have la:a < s.heap.objs.size:=let ⟨_,_,_,_,e,_⟩:=hS;Heap.lt_size e
 have W4:(s.heap.objs.size == a)=false:=beq_eq_false_iff_ne.mpr (Nat.ne_of_gt la)
 have MA:bF prog w h1 a zs:=hS.at (J9 a)
 obtain⟨oa,es,ep,t,ho,hex,hd,hf,fO,hpl,hn,hent,hst⟩:=k6 MA
 have VF:es.size=8:=by omega
 have Gp:t.plain=false:=hpl.resolve_right (by omega)
 refine wpAny_bind ?_
 unfold setMerge
 rw[W4]
 simp only[Bool.false_eq_true,if_false]
 refine wpAny_bind (wpAny_setState_of (s:={ s with heap:=h1 }) ho hd hf ?_)
 dsimp only
 rw[if_neg (by simp[Array.isEmpty,VF])]
 unfold setRoomFor
 refine wpAny_bind (wpAny_bind (wpAny_setState_of (s:={ s with heap:=h1 }) hr1 rfl rfl ?_))
 dsimp only
 have er:(SetTable.fresh 0 0 (!w.params.followText "set-order")).roomFor es.size=some 16:=by rw[VF];rfl
 rw[er]
 dsimp only
 unfold setRelay
 refine wpAny_bind (wpAny_setState_of (s:={ s with heap:=h1 }) hr1 rfl rfl ?_)
 dsimp only
 rw[if_neg (by rw[sizeLine_eq];decide)]
 refine wpAny_bind ?_
 show wpAny _ _ (FL #[] ((SetTable.fresh 0 0 (!w.params.followText "set-order")).relaid (Array.map (fun x:Int×Value=>x.1) #[]) 16)) _ _ _
 have em:(Array.map (fun x:Int×Value=>x.1) #[])=#[]:=by simp
 refine xy (by rw[em];exact Gh _) (by simp) fun es0 p0=>?_
 obtain rfl:es0=#[]:=by have:=p0.length_eq;simp at this;exact this
 dsimp only
 refine wpAny_storeSet_of (s:={ s with heap:=h1 }) hr1 rfl ?_
 have hr2:=pL (es':=#[]) (t':={ mask:=31,place:=#[],dummies:=#[],finger:=0,led:=!w.params.followText "set-order",moves:=1,plain:=true }) hr1 rfl
 have J8:Heap.SameBut s.heap.objs.size h1 (h1.update s.heap.objs.size (Obj.putSet #[] { mask:=31,place:=#[],dummies:=#[],finger:=0,led:=!w.params.followText "set-order",moves:=1,plain:=true })):=Heap.SameBut.update _ _ _
 dsimp only at hr2
 generalize h1.update s.heap.objs.size (Obj.putSet #[] { mask:=31,place:=#[],dummies:=#[],finger:=0,led:=!w.params.followText "set-order",moves:=1,plain:=true })=h2 at hr2 J8 ⊢
 refine wpAny_bind (wpAny_setState_of (s:={ s with heap:=h2 }) hr2 rfl rfl ?_)
 dsimp only
 have Mc:((!w.params.followText "set-order") && t.led)=(!w.params.followText "set-order"):=by rw[fO,Bool.and_self]
 have WO:(true && t.plain)=false:=by rw[Gp];rfl
 rw[Mc,WO]
 have fin:∀ es' t',List.Perm es'.toList es.toList->t'.place.size=es'.size->t'.mask=31->t'.dummies=#[]->t'.led=(!w.params.followText "set-order")->t'.plain=false->wpAny (model prog w) A (storeSet s.heap.objs.size es' t') (fun _ s'=>wpAny (model prog w) A (pure (Value.ref s.heap.objs.size)) Q E s') E { s with heap:=h2 }:=by
  intro es' t' p e1 e2 e3 e4 e5
  have sz:es'.size=8:=by have:=p.length_eq;rw[Array.length_toList,Array.length_toList] at this;omega
  refine wpAny_storeSet_of (s:={ s with heap:=h2 }) hr2 rfl (wpAny_pure ?_) (by rw[sz,sizeLine_eq];decide)
  have sI:=pL (es':=es') (t':=t') hr2 rfl
  refine h _ (fun b ob e=>?_) ⟨_,es',_,t',sI,⟨rfl,rfl,rfl⟩,rfl,hent.perm p,fun e he=>hst e (p.mem_iff.mp he),e1,e2,e3,e4,e5⟩
  have l:=Nat.ne_of_lt (Heap.lt_size e)
  exact((Heap.SameBut.update _ _ _).2 b l).trans ((J8.2 b l).trans (J9 b ob e))
 unfold SetTable.road
 rw[if_neg (by simp[SetTable.fill])]
 dsimp only
 have YI:t.place.size=es.size:=by
  unfold SetTable.fits at hf
  simp only[Bool.and_eq_true,beq_iff_eq] at hf
  exact hf.1
 by_cases hm:(31 == t.mask && t.dummies.isEmpty)=true
 ·rw[if_pos hm]
  dsimp only
  simp only[Bool.and_eq_true,beq_iff_eq,Array.isEmpty_iff] at hm
  exact fin es _ .rfl YI hm.1.symm hm.2 rfl rfl
 ·rw[if_neg hm]
  dsimp only
  refine wpAny_bind ?_
  obtain⟨t',order,el,po,p1,p2,p3,p4,p5⟩:=Gi (fi:=0) (mo:=1) (led:=!w.params.followText "set-order") (plain:=false) (hs:=es.map (·.1)) (by rw[Array.size_map];omega)
  show wpAny _ _ (FL es (SetTable.laid 31 0 1 (!w.params.followText "set-order") false (es.map (·.1)))) _ _ _
  rw[Array.size_map] at po p1
  refine xy el po fun es' p=>?_
  have sz:es'.size=es.size:=by have:=p.length_eq;rw[Array.length_toList,Array.length_toList] at this;exact this
  exact fin es' t' p (by omega) p2 p3 p4 p5
end
end PySem
namespace PySem
open L2
section
variable {prog:Program}{w:World}{A:Around}{E:Value->Shared->Prop}{s:Shared}
theorem MJ {a:Addr}{o:Obj}{es:Array (Int×Value)}{ep:Nat}{t:SetTable}{x:Str}{k:Tok}{Q:Option Nat->Shared->Prop}(ho:s.heap.get? a=some o)(hd:o.data=.set es ep t)(hf:t.fits es.size=true)(hel:ElemsOf (aG prog w) es.toList)(hb:es.size < scanBound)
  (h:Q (List.findIdx? (fun e=>(aG prog w).is (Sum.inr x) e.2) es.toList) s):wpAny (model prog w) A (setFind a (.str x k) ((aG prog w).hash (Sum.inr x))) Q E s:=by
 have hsc:(Value.str x k).scannable=true:=rfl
 have hkey:=cM prog w x k
 unfold setFind setFindIn
 refine wpAny_bind (wpAny_setState_of ho hd hf ?_)
 dsimp only
 rw[byScan_of hsc hb hel]
 simp only[↓reduceIte]
 refine wpAny_bind (wpAny_rule ?_)
 refine wpAny_bind (wpAny_setScan_of hkey ho hd hf hel ?_)
 cases hr:List.findIdx? (fun e=>(aG prog w).is (Sum.inr x) e.2) es.toList with
 | some j =>
  dsimp only
  rw[hr] at h
  exact wpAny_pure (by rw[Nat.zero_add];exact h)
 | none =>
  dsimp only
  rw[hr] at h
  exact wpAny_pure h
theorem uu {l:List (Int×Value)}{zs:List Str}(h:o6 prog w l zs):ElemsOf (aG prog w) l:=fun e he=>by
 obtain⟨z,k,rfl⟩:=h.2 e he
 exact⟨⟨_,cM prog w z k,rfl⟩,rfl⟩
structure Zx (prog:Program)(w:World)(h:Heap)(r:Addr)(zs:List Str):Prop where
 e:∃ o es ep t,h.get? r=some o/\o.ExactSet/\o.data=.set es ep t/\o6 prog w es.toList zs/\t.fits es.size=true/\t.mask=31/\t.dummies.size<=1/\t.led=(!w.params.followText "set-order")/\t.plain=false
theorem Zx.RM {h:Heap}{r:Addr}{zs:List Str}(H:Zx prog w h r zs)(hn:zs.Nodup)(hl:zs.length < 64):∃ ys,bF prog w h r ys/\List.Perm ys zs:=by
 obtain⟨o,es,ep,t,ho,hex,hd,he,hf,_,_,fO,hpl⟩:=H.e
 refine⟨es.toList.map (fun e=>strOf e.2),⟨o,es,ep,t,ho,hex,hd,uu he,fun e hm=>?_,rfl,(he.1.nodup_iff).mpr hn,?_,hf,fO,.inl hpl⟩,he.1⟩
 ·obtain⟨z,k,rfl⟩:=he.2 e hm
  exact⟨z,k,rfl⟩
 ·have:=he.1.length_eq
  rw[List.length_map,Array.length_toList] at this
  unfold scanBound
  omega
theorem VQ.enW {h:Heap}{r:Addr}{zs:List Str}(H:VQ prog w h r zs)(h8:zs.length<=8):Zx prog w h r zs:=by
 obtain⟨o,es,ep,t,ho,hex,hd,he,hst,hp,hm,NF,fO,hpl⟩:=H.e
 refine⟨o,es,ep,t,ho,hex,hd,he,?_,hm,by rw[NF];decide,fO,hpl⟩
 have:=he.1.length_eq
 rw[List.length_map,Array.length_toList] at this
 unfold SetTable.fits SetTable.fill
 rw[NF,hp,hm]
 simp
 omega
theorem nP {α:Type}(xs:Array α)(p:Nat):(SetTable.eraseAt xs p).toList=xs.toList.take p++xs.toList.drop (p+1):=by
 simp[SetTable.eraseAt,List.extract_eq_take_drop,List.take_of_length_le]
theorem JI {t:SetTable}{n i:Nat}(hp:t.place.size=n)(hm:t.mask=31)(hd:t.dummies=#[])(hi:i < n)(hn:n<=8):(t.drop i).fits (n - 1)=true/\(t.drop i).mask=31/\(t.drop i).dummies.size<=1/\(t.drop i).led=t.led/\(t.drop i).plain=t.plain:=by
 obtain⟨j,hj⟩:∃ j,t.place[i]?=some j:=⟨t.place[i]'(by omega),Array.getElem?_eq_getElem _⟩
 have e:t.drop i={ t with place:=SetTable.eraseAt t.place i,dummies:=SetTable.insertAt t.dummies (SetTable.below t.dummies j) j }:=by
  unfold SetTable.drop
  rw[hj]
 rw[e]
 have l1:(SetTable.eraseAt t.place i).size=n - 1:=by
  rw[<- Array.length_toList,nP,List.length_append,List.length_take,List.length_drop,Array.length_toList,hp]
  omega
 have l2:(SetTable.insertAt t.dummies (SetTable.below t.dummies j) j).size=1:=by
  rw[<- Array.length_toList,(SetTable.insertAt_perm _ _ _).length_eq,hd]
  rfl
 refine⟨?_,hm,by show(SetTable.insertAt t.dummies (SetTable.below t.dummies j) j).size<=1;omega,rfl,rfl⟩
 show((SetTable.eraseAt t.place i).size == n - 1 && decide ((SetTable.eraseAt t.place i).size+(SetTable.insertAt t.dummies (SetTable.below t.dummies j) j).size<=t.mask))=true
 rw[l1,l2,hm]
 simp
 omega
theorem MR {r:Addr}{zs:List Str}{z:Str}{k:Tok}{Q:Bool->Shared->Prop}(hC:VQ prog w s.heap r zs)(hnd:zs.Nodup)(h8:zs.length<=8)
  (h:∀ b h' ys,Heap.SameBut r s.heap h'->Zx prog w h' r ys->ys.Nodup->(∀ x,x∈ys↔x∈zs/\x≠z)->ys.length<=8->Q b { s with heap:=h' }) :
  wpAny (model prog w) A (setDiscardHashed r (.str z k) ((aG prog w).hash (Sum.inr z))) Q E s:=by
 have hE:=hC.enW h8
 obtain⟨o,es,ep,t,ho,hex,hd,he,hst,hp,hm,NF,fO,hpl⟩:=hC.e
 have hf:t.fits es.size=true:=by
  have:=he.1.length_eq
  rw[List.length_map,Array.length_toList] at this
  unfold SetTable.fits SetTable.fill
  rw[NF,hp,hm]
  simp
  omega
 have hl:=he.1.length_eq
 rw[List.length_map,Array.length_toList] at hl
 unfold setDiscardHashed
 refine wpAny_bind (MJ ho hd hf (uu he) (by unfold scanBound;omega) ?_)
 have QU:∀ e∈es.toList,(aG prog w).is (Sum.inr z) e.2=decide (strOf e.2=z):=fun e hm'=>by
  obtain⟨z',k',e2⟩:=hst e hm'
  rw[e2,yh]
  rfl
 cases hr:List.findIdx? (fun e=>(aG prog w).is (Sum.inr z) e.2) es.toList with
 | none =>
  dsimp only
  refine wpAny_pure (h false s.heap zs (Heap.SameBut.refl _ _) hE hnd (fun x=>⟨fun q=>⟨q,fun e=>?_⟩,fun q=>q.1⟩) h8)
  subst e
  obtain⟨e,hm',es'⟩:=List.mem_map.mp (he.1.mem_iff.mpr q)
  have:=List.findIdx?_eq_none_iff.mp hr e hm'
  rw[QU e hm',decide_eq_true es'] at this
  cases this
 | some i =>
  dsimp only
  obtain⟨hj,VE,_⟩:=List.findIdx?_eq_some_iff_getElem.mp hr
  rw[QU _ (List.getElem_mem hj)] at VE
  have hz:=of_decide_eq_true VE
  refine wpAny_bind (wpAny_setState_of ho hd hf ?_)
  dsimp only
  have hi8:i < es.size:=by rw[Array.length_toList] at hj;exact hj
  obtain⟨f1,f2,f3,f4,f5⟩:=JI hp hm NF hi8 (by omega)
  have le:=nP es i
  have sz:(SetTable.eraseAt es i).size=es.size - 1:=by
   rw[<- Array.length_toList,le,List.length_append,List.length_take,List.length_drop,Array.length_toList]
   omega
  refine wpAny_bind (wpAny_storeSet_of ho hd (wpAny_bind (wpAny_point (wpAny_pure ?_))) (by rw[sz,sizeLine_eq];omega))
  have sI:=pL (es':=SetTable.eraseAt es i) (t':=t.drop i) ho hd
  have sub:List.Sublist (SetTable.eraseAt es i).toList es.toList:=by
   rw[le]
   conv=>rhs;rw[<- List.take_append_drop i es.toList]
   exact(List.Sublist.refl _).append (List.drop_sublist_drop_left _ (by omega))
  have cut:es.toList=es.toList.take i++es.toList[i]::es.toList.drop (i+1):=by
   rw[<- List.drop_eq_getElem_cons,List.take_append_drop]
  have nd0:(es.toList.map fun e=>strOf e.2).Nodup:=he.1.nodup_iff.mpr hnd
  refine h true _ ((SetTable.eraseAt es i).toList.map fun e=>strOf e.2) (Heap.SameBut.update _ _ _) ⟨_,_,_,_,sI,hex,rfl,⟨.rfl,fun e hm'=>he.2 e (sub.mem hm')⟩,by rw[sz];exact f1,f2,f3,f4.trans fO,f5.trans hpl⟩ (nd0.sublist (sub.map _)) (fun x=>?_) (by rw[List.length_map,Array.length_toList];omega)
  rw[<- he.1.mem_iff,le]
  rw[cut,List.map_append,List.map_cons,hz] at nd0
  conv=>rhs;rw[cut]
  rw[List.map_append,List.map_append,List.map_cons,hz]
  have n1:=List.perm_middle.nodup_iff.mp nd0
  obtain⟨nz,_⟩:=List.nodup_cons.mp n1
  constructor
  ·intro q
   refine⟨?_,fun e=>nz (e ▸ q)⟩
   rcases List.mem_append.mp q with q | q
   ·exact List.mem_append_left _ q
   ·exact List.mem_append_right _ (List.mem_cons_of_mem _ q)
  ·rintro⟨q,ne⟩
   rcases List.mem_append.mp q with q | q
   ·exact List.mem_append_left _ q
   ·rcases List.mem_cons.mp q with q | q
    ·exact absurd q ne
    ·exact List.mem_append_right _ q
theorem JM {id:String}{a o:Addr}{zs zo:List Str}{Q:Value->Shared->Prop}(hS:bF prog w s.heap a zs)(hO:bF prog w s.heap o zo)(h8:zs.length=8)(h1:zo.length=1)
  (h:∀ h' d ys,(∀ b ob,s.heap.get? b=some ob->h'.get? b=some ob)->bF prog w h' s.heap.objs.size ys->(∀ x,x∈ys↔x∈zs/\x ∉ zo)->ys.length < 64->Q (.ref s.heap.objs.size) { s with heap:=h',drawn:=d }) :
  wpAny (model prog w) A (Builtin.Frozenset.difference id a (.ref o)) Q E s:=by
 have hnd:zs.Nodup:=let ⟨_,_,_,_,_,_,_,_,_,_,n,_⟩:=hS;n
 obtain⟨z,rfl⟩:∃ z,zo=[z]:=by match zo,h1 with | [z],_=>exact⟨z,rfl⟩
 have lo:o < s.heap.objs.size:=let ⟨_,_,_,_,e,_⟩:=hO;Heap.lt_size e
 unfold Builtin.Frozenset.difference
 refine wpAny_bind (jv hO ?_)
 simp only[Bool.not_true,Bool.false_eq_true,if_false,Bool.false_and]
 refine wpAny_bind (wpAny_pure ?_)
 refine wpAny_bind (size_set hO ?_)
 refine wpAny_bind (size_set hS ?_)
 rw[if_pos (by rw[h8];show 8 / 4 > 1;decide)]
 refine wpAny_bind (wpAny_rule ?_)
 refine wpAny_bind (EF hS h8 fun h2 Yp hC=>?_)
 refine wpAny_bind (wpAny_pure ?_)
 refine wpAny_bind (wpAny_holding ?_)
 unfold Builtin.Frozenset.differenceUpdate
 have Pg:bF prog w h2 o [z]:=hO.at (Yp o)
 have nro:((Value.ref o) == .ref s.heap.objs.size)=false:=by
  refine beq_eq_false_iff_ne.mpr fun e=>?_
  injection e with e
  exact absurd e (Nat.ne_of_lt lo)
 rw[nro]
 simp only[Bool.false_eq_true,if_false]
 refine wpAny_bind (jv (s:={ s with heap:=h2 }) Pg ?_)
 simp only[if_true]
 have hEn:=hC.enW (by omega)
 obtain⟨ZA,VI,p0⟩:=hEn.RM hnd (by omega)
 refine wpAny_bind (wpAny_pure ?_)
 refine wpAny_bind (size_set (s:={ s with heap:=h2 }) Pg ?_)
 refine wpAny_bind (size_set (s:={ s with heap:=h2 }) VI ?_)
 rw[if_neg (by show ¬ 1 / 8 > ZA.length;simp)]
 obtain⟨oo,eo,epo,to,Q2,a2c,hdo,hfo,YQ,a10,hno,YS,a1U⟩:=k6 Pg
 have UU:eo.size=1:=hno
 unfold setEpoch
 refine wpAny_bind (wpAny_bind (wpAny_setState_of (s:={ s with heap:=h2 }) Q2 hdo hfo (wpAny_pure ?_)))
 refine wpAny_bind (wpAny_holding (wpAny_bind ?_))
 unfold setWalkUnseen
 refine wpAny_bind (wpAny_setState_of (s:={ s with heap:=h2 }) Q2 hdo hfo ?_)
 dsimp only
 unfold setsByText
 refine wpAny_bind (wpAny_bind (wpAny_askSetting (wpAny_pure ?_)))
 rw[if_pos (by simp[UU])]
 refine wN (s:={ s with heap:=h2 }) Pg fun es' d qF=>?_
 have l1:es'.toList.length=1:=by have:=qF.1.length_eq;rw[List.length_map] at this;exact this
 refine wpAny_bind (wpAny_forIn_array' _ (fun l _ s'=>(l=es'.toList/\s'={ s with heap:=h2,drawn:=d })∨(l=[]/\∃ h3 ys,s'={ s with heap:=h3,drawn:=d }/\Heap.SameBut s.heap.objs.size h2 h3/\Zx prog w h3 s.heap.objs.size ys/\ys.Nodup/\(∀ x,x∈ys↔x∈zs/\x≠z)/\ys.length<=8)) _ ?_ ?_ _ _ (.inl ⟨rfl,rfl⟩))
 ·rintro e rest b s' (⟨el,rfl⟩ | ⟨el,_⟩)
  ·rw[<- el,List.length_cons] at l1
   obtain rfl:rest=[]:=List.eq_nil_of_length_eq_zero (by omega)
   obtain⟨z',k,rfl⟩:=qF.2 e (by rw[<- el];exact List.mem_cons_self ..)
   obtain rfl:z'=z:=by
    have:=qF.1.mem_iff (a:=z')
    rw[<- el] at this
    exact List.mem_singleton.mp (this.mp (List.mem_cons_self ..))
   refine wpAny_bind (wpAny_holding (MR (s:={ s with heap:=h2,drawn:=d }) hC hnd (by omega) fun bb h3 ys sb hE hn hm hl=>?_))
   refine wpAny_bind ?_
   unfold Builtin.Frozenset.unchanged setEpoch
   refine wpAny_bind (wpAny_bind (wpAny_setState_of (s:={ s with heap:=h3,drawn:=d }) ((sb.2 o (Nat.ne_of_lt lo)).trans Q2) hdo hfo (wpAny_pure ?_)))
   rw[if_neg (by simp)]
   exact wpAny_pure (wpAny_pure (.inr ⟨rfl,h3,ys,rfl,sb,hE,hn,hm,hl⟩))
  ·cases el
 ·rintro b s' (⟨el,_⟩ | ⟨_,h3,ys,rfl,sb,hE,hn,hm,hl⟩)
  ·rw[<- el] at l1;cases l1
  ·refine wpAny_pure ?_
   unfold setTidy
   obtain⟨o4,e4,ep4,t4,g1,g2,g3,g4,g5,g6,g7,g8,g9⟩:=hE.e
   refine wpAny_bind (wpAny_setState_of (s:={ s with heap:=h3,drawn:=d }) g1 g3 g5 ?_)
   dsimp only
   rw[if_neg (by unfold SetTable.tooManyDummies;rw[g6];simp;omega)]
   refine wpAny_pure (wpAny_pure ?_)
   obtain⟨ys',hY,py⟩:=hE.RM hn (by omega)
   refine h h3 d ys' (fun b ob e=>(sb.2 b (Nat.ne_of_lt (Heap.lt_size e))).trans (Yp b ob e)) hY (fun x=>?_) (by rw[py.length_eq];omega)
   rw[py.mem_iff,hm x,List.mem_singleton]
end
end PySem
namespace L2
open PySem PySem.Spec PyProof.Rows Hw
section
variable {X:Cx}
noncomputable def Wy (P:Program)(w:World):R2:=fun x y H Q=>∃ (p o:Addr) (ss so ds:List Str),x=.ref p/\y=.ref o/\H p=some (nV P w p ss)/\H o=some (nV P w o so)/\ds.length<=8/\(∀ x∈ss,x∈ds)/\so≠[] /\
 ∀ (q:Addr) (ws:List Str),H q=none->(∀ x,x∈ws↔x∈ss/\x ∉ so)->Q (.ref q) (upd H q (nV P w q ws))
theorem OJ:nh X (binaryOp .Sub) (Wy X.prog X.w):=by
 intro pins s σ H x y v u Q I rx ry h
 obtain⟨p,o,ss,so,ds,rfl,rfl,hp,ho,hd,hin,hne,q⟩:=h
 cases rx
 cases ry
 obtain⟨⟨zs,hS,hm,h64⟩,_,_⟩:=I.hok p _ hp
 obtain⟨⟨zo,hO,hmo,a2m⟩,_,_⟩:=I.hok o _ ho
 have hnd:zs.Nodup:=let ⟨_,_,_,_,_,_,_,_,_,_,n,_⟩:=hS;n
 have hz8:=sA hnd fun x hx=>hin x ((hm x).mp hx)
 have hz1:1<=zo.length:=by
  cases so with
  | nil=>exact absurd rfl hne
  | cons a r=>exact List.length_pos_of_mem ((hmo a).mpr (List.mem_cons_self ..))
 refine wpAny_binaryOp_same (op:=.Sub) (T:="set") hS.typeIs hO.typeIs F.fills_set_sub F.slot_set_sub (wpAny_call_entry F.slot_set_sub hS.typeIs oM ?_ (F.args_set_sub_2 _ _))
 show wpAny _ _ (Builtin.Frozenset.slot1 "__sub__" ⟨[.ref p,.ref o],[]⟩ >>= _) _ _ _
 refine wpAny_bind (wpAny_pure ?_)
 dsimp only
 simp only[Bool.false_eq_true,if_false]
 refine wpAny_bind (wpAny_bind (jv hS ?_))
 refine jv hO ?_
 simp only[Bool.not_true,Bool.false_eq_true,if_false]
 refine wpAny_bind (wpAny_pure (wpAny_bind ?_))
 have go:∀ (h':Heap) d (ys:List Str),(∀ b ob,s.heap.get? b=some ob->h'.get? b=some ob)->bF X.prog X.w h' s.heap.objs.size ys->(∀ x,x∈ys↔x∈zs/\x ∉ zo)->ys.length < 64->_:=fun h' d ys kp hY Mu hl=>by
  have L:=I.Av (h':=h') (a:=s.heap.objs.size) (o:=nV X.prog X.w s.heap.objs.size ys) (t':=s.toks) (fun b u e=>kp b u e) (fun b u e=>Nat.ne_of_lt (Heap.lt_size e))
   ⟨⟨ys,hY,fun _=>Iff.rfl,hl⟩,let ⟨o,_,_,_,ho,_⟩:=hY;⟨o,ho⟩,fun h1 h2 ⟨zs,x,y⟩ k=>⟨zs,x.at k,y⟩⟩
  exact(⟨_,L.2.drew d,q _ ys L.1 fun x=>by rw[Mu x,hm x,hmo x]⟩:∃ H',Inv X pins σ H' { s with heap:=h',drawn:=d }/\Q (.ref s.heap.objs.size) H')
 by_cases h4:zs.length / 4<=zo.length
 ·refine AI hS hO h4 h64 fun h' d ys kp hY Mu hl=>?_
  obtain⟨H',I',q'⟩:=go h' d ys kp hY Mu hl
  exact wpAny_pure ⟨_,rfl,(fun z=>by cases z),.ref s.heap.objs.size,_,I',rfl,q'⟩
 ·refine JM hS hO (by omega) (by omega) fun h' d ys kp hY Mu hl=>?_
  obtain⟨H',I',q'⟩:=go h' d ys kp hY Mu hl
  exact wpAny_pure ⟨_,rfl,(fun z=>by cases z),.ref s.heap.objs.size,_,I',rfl,q'⟩
end
end L2
namespace PySem
open Sem (wp)
section
variable {prog:Program}{w:World}{A:Around}{E:Value->Shared->Prop}{s:Shared}
end
end PySem
namespace L2
open PySem PySem.Spec PyProof.Rows Hw
section
variable {X:Cx}
end
section
variable {X:Cx}{l:Expr}{tl:TE}{p pos:Pos}
end
end L2
namespace PySem
open Sem (wp)
section
variable {prog:Program}{w:World}{A:Around}{E:Value->Shared->Prop}{s:Shared}{z ti tw i1 i2:Addr}{f1 f2:List Addr}{n1 n2 k:Nat}{P1 P2:Nat->Value->Prop}{S1 S2:Nat->Heap->Prop}{a b:Value}
end
end PySem
namespace PySem
section
variable {prog:Program}{w:World}{A:Around}{E:Value->Shared->Prop}{s:Shared}
end
end PySem
namespace L2
open PySem PySem.Spec PyProof.Rows Hw
section
variable {X:Cx}
end
section
variable {X:Cx}{l m:Expr}{p pos:Pos}
end
end L2
namespace L2
open PySem PySem.Spec PyProof.Rows Hw
end L2
namespace Hw
open PySem L2
end Hw
namespace Hw
open PySem L2
end Hw
namespace Hw
open PySem L2
end Hw
namespace L2
open PySem PySem.Spec PyProof.Rows Hw
end L2
namespace Hw
open PySem L2
end Hw
namespace Hw
open PySem L2
noncomputable def qo (x:Str):Prop:=(∃ c r,x.cps.toList=c::r/\97<=c)/\x.length<=20
theorem lZ {x:Str}{c:Nat}{r:List Nat}(e:x.cps.toList=c::r):Txt.startswith x "#"=decide (c=35):=by
 have hc:x.cps=(c::r).toArray:=by rw[<- e]
 have hl:("#":Str).length=1:=by decide +kernel
 have hp:("#":Str).cps=#[35]:=by decide +kernel
 unfold PySem.Txt.startswith Builtin.Str.subAt
 rw[hl,hp]
 unfold Str.length
 rw[hc]
 simp
 by_cases h:c=35 <;> simp[h]
end Hw
namespace Hw
open PySem L2
noncomputable def z7 (x:Str):Prop:=∀ c∈cp x,97<=c
theorem yy {x y:Str}(h:z7 x)(g:z7 y):z7 (x++y):=fun c hc=>by
 unfold cp at hc
 rw[sV] at hc
 rcases List.mem_append.mp hc with q | q
 ·exact h c q
 ·exact g c q
theorem ET {c:Nat}(h:97<=c):z7 (Vh c):=fun d hd=>by
 have:d∈[c]:=hd
 rw[List.mem_singleton.mp this];exact h
theorem J0 {ss:List Str}(h:∀ x∈ss,Chr x):z7 (Txt.join (Str.ofString "") ss):=fun c hc=>by
 rw[GC] at hc
 obtain⟨l,hl,hc⟩:=List.mem_flatten.mp hc
 obtain⟨x,hx,rfl⟩:=List.mem_map.mp hl
 obtain⟨d,rfl,hd⟩:=h x hx
 exact ET hd c hc
theorem PC {x:Str}{j:Nat}(h:j<=x.length)(a:z7 x):z7 (Txt.slice x none (some (j:Int))):=fun c hc=>by
 have:=StrLaws.sliceText_to (x:=x) (j:=(j:Int)) ⟨by omega,by rw[GD] at h;have h:j<=x.cps.toList.length:=h;omega⟩
 have e:Txt.slice x none (some (j:Int))=StrLaws.sliceText x none (some (j:Int)):=rfl
 rw[e,this] at hc
 refine a c ?_
 unfold cp at hc ⊢
 simp only[] at hc
 exact List.mem_of_mem_drop (List.mem_of_mem_take hc)
theorem J1 {x:Str}{j:Nat}(h:j<=x.length)(a:z7 x):z7 (Txt.slice x (some (j:Int)) none):=fun c hc=>by
 have:=StrLaws.sliceText_from (x:=x) (i:=(j:Int)) ⟨by omega,by rw[GD] at h;have h:j<=x.cps.toList.length:=h;omega⟩
 have e:Txt.slice x (some (j:Int)) none=StrLaws.sliceText x (some (j:Int)) none:=rfl
 rw[e,this] at hc
 refine a c ?_
 unfold cp at hc ⊢
 simp only[] at hc
 exact List.mem_of_mem_drop (List.mem_of_mem_take hc)
theorem O0 {x:Str}(a:z7 x)(h1:1<=x.length)(h2:x.length<=20):qo x:=by
 refine⟨?_,h2⟩
 rw[GD] at h1
 cases e:cp x with
 | nil=>rw[e] at h1;exact absurd h1 (by decide)
 | cons c r=>exact⟨c,r,e,a c (by rw[e];exact List.mem_cons_self ..)⟩
end Hw
namespace Hw
open PySem L2
end Hw
namespace Hw
open PySem L2
end Hw
namespace L2
open PySem PySem.Spec PyProof.Rows Hw
theorem fJ {P:Program}{w:World}{K:PySem.W.Frag}{mg:Str->Option Value}{base:Heap}{k:Nat}{m:Str}{C f:Addr}{fd:FuncData}{ps:List Str}{sp:Sp}(a:aE P w K mg base bO k f fd ps sp)(b:PySem.W.findIn K (.ref C) m=some (some (.ref f)))(e:PySem.W.isFn K (.ref f)=true)(c:PySem.W.keepIn K (.ref f)=true)(d:Binds K fd ps []):Mt P w K mg base k C m ps sp:=⟨f,fd,a,⟨b,e,c⟩,d⟩
theorem F9 {P:Program}{w:World}{K:PySem.W.Frag}{mg:Str->Option Value}{base:Heap}{k:Nat}{C f:Addr}{fd:FuncData}{ps:List Str}{sp:Sp}(a:aE P w K mg base bO k f fd ps sp)(m:PySem.W.makesIn K C=true)(b:PySem.W.findIn K (.ref C) "__init__"=some (some (.ref f)))(e:PySem.W.isFn K (.ref f)=true)(c:PySem.W.keepIn K (.ref C)=true)(d:Binds K fd ps []):Mr P w K mg base k C ps sp:=⟨f,fd,a,⟨m,b,e,c⟩,d⟩
end L2
namespace Hw
open PySem L2
end Hw
namespace Hw
open PySem L2
end Hw
namespace Hw
open PySem L2
end Hw
namespace Hw
open PySem L2
end Hw
namespace Hw
open PySem L2
end Hw
namespace Hw
open PySem L2
end Hw
namespace Hw
open PySem L2
end Hw
namespace L2
open PySem PySem.Spec PyProof.Rows Hw
end L2
namespace Hw
open PySem L2
end Hw
namespace L3
open PySem L2
inductive T where
 | v (x:V) | tup (l:List T) | lst (l:List T) | HF (l:List T) | ins (C:Addr) (ns:List Str) (l:List T)
inductive D where
 | t (x:T) | ob (n:Nat)
inductive O where
 | lst (l:List T) | yX (l:List (Key×T)) | ins (C:Addr) (ns:List Str) (l:List D)
noncomputable abbrev bB:=List O
noncomputable abbrev Sl:=List (Option D)
noncomputable abbrev T.int (i:Int):T:=.v (.int i)
noncomputable abbrev T.str (x:Str):T:=.v (.str x)
noncomputable abbrev D.int (i:Int):D:=.t (.v (.int i))
noncomputable abbrev D.str (x:Str):D:=.t (.v (.str x))
noncomputable abbrev D.bl (b:Bool):D:=.t (.v (.bl b))
noncomputable abbrev D.dR:D:=.t (.v .dR)
noncomputable abbrev D.tup (l:List T):D:=.t (.tup l)
noncomputable abbrev D.lst (l:List T):D:=.t (.lst l)
noncomputable def Le (G G':Hp):Prop:=∀ a o,G a=some o->G' a=some o
theorem Le.refl (G:Hp):Le G G:=fun _ _ h=>h
theorem Le.trans {A B C:Hp}(h:Le A B)(k:Le B C):Le A C:=fun a o e=>k a o (h a o e)
theorem Ww {G G':Hp}(h:Le G G'){a:Addr}{u:HO}:Rd G a u->Rd G' a u
 | .inl e=>.inl (h _ _ e)
 | .inr ⟨o,e⟩=>.inr ⟨o,h _ _ e⟩
theorem Fv {K:PySem.W.Frag}{G G':Hp}(h:Le G G'){a:Addr}{xs:List V}:nH K G a xs->nH K G' a xs
 | .inl e=>.inl (Ww h e)
 | .inr e=>.inr e
structure fD (K:PySem.W.Frag)(C:Addr)(ns:List Str):Prop where
 cls:PY K C
 no:∀ f∈ns,aK K C f
 ca:PySem.W.findIn K (.ref C) "__class__"=some (some (.builtin "object.__class__"))
 cg:PySem.W.specialIn K (.builtin "object.__class__") "__get__"=some (some (.builtin "getset_descriptor.__get__"))
 ct:PySem.W.takesIn K (.builtin "object.__class__")=some true
 cm:PySem.W.mroIn K C (.type "object")=some true
mutual
noncomputable def Rp (K:PySem.W.Frag)(G:Hp):T->V->Prop
 | .v x,w=>w=x
 | .tup l,w=>∃ a vs,w=.ref a/\G a=some (.tup vs)/\bI K G l vs
 | .lst l,w=>∃ a vs,w=.ref a/\G a=some (.lst vs)/\bI K G l vs
 | .HF l,w=>∃ a vs,w=.ref a/\nH K G a vs/\bI K G l vs
 | .ins C ns l,w=>∃ a dx vs,w=.ref a/\G a=some (.ins C dx (ns.zip vs))/\ns.length=vs.length/\fD K C ns/\bI K G l vs
noncomputable def bI (K:PySem.W.Frag)(G:Hp):List T->List V->Prop
 | [],vs=>vs=[]
 | x::r,vs=>∃ v vr,vs=v::vr/\Rp K G x v/\bI K G r vr
end
mutual
theorem Rp.le {K:PySem.W.Frag}{G G':Hp}(h:Le G G'):∀ {x:T} {w:V},Rp K G x w->Rp K G' x w
 | .v x,w,e=>by unfold Rp at *;exact e
 | .tup l,w,e=>by
  unfold Rp at *
  obtain⟨a,vs,e1,e2,e3⟩:=e
  exact⟨a,vs,e1,h _ _ e2,bI.le h e3⟩
 | .lst l,w,e=>by
  unfold Rp at *
  obtain⟨a,vs,e1,e2,e3⟩:=e
  exact⟨a,vs,e1,h _ _ e2,bI.le h e3⟩
 | .HF l,w,e=>by
  unfold Rp at *
  obtain⟨a,vs,e1,e2,e3⟩:=e
  exact⟨a,vs,e1,Fv h e2,bI.le h e3⟩
 | .ins C ns l,w,e=>by
  unfold Rp at *
  obtain⟨a,dx,vs,e1,e2,e3,e4,e5⟩:=e
  exact⟨a,dx,vs,e1,h _ _ e2,e3,e4,bI.le h e5⟩
theorem bI.le {K:PySem.W.Frag}{G G':Hp}(h:Le G G'):∀ {l:List T} {vs:List V},bI K G l vs->bI K G' l vs
 | [],vs,e=>by unfold bI at *;exact e
 | x::r,vs,e=>by
  unfold bI at *
  obtain⟨v,vr,e1,e2,e3⟩:=e
  exact⟨v,vr,e1,Rp.le h e2,bI.le h e3⟩
end
section
variable {K:PySem.W.Frag}{G:Hp}
theorem bI.nil:bI K G [] []:=by unfold bI;rfl
theorem bI.cons {x:T}{v:V}{l:List T}{vs:List V}(h:Rp K G x v)(r:bI K G l vs):bI K G (x::l) (v::vs):=by
 unfold bI;exact⟨v,vs,rfl,h,r⟩
theorem bI.len:∀ {l:List T} {vs:List V},bI K G l vs->l.length=vs.length
 | [],vs,e=>by unfold bI at e;rw[e];rfl
 | x::r,vs,e=>by
  unfold bI at e
  obtain⟨v,vr,e1,_,e3⟩:=e
  rw[e1,List.length_cons,List.length_cons,e3.len]
theorem bI.app:∀ {l m:List T} {vs ws:List V},bI K G l vs->bI K G m ws->bI K G (l++m) (vs++ws)
 | [],m,vs,ws,e,k=>by unfold bI at e;rw[e];exact k
 | x::r,m,vs,ws,e,k=>by
  unfold bI at e
  obtain⟨v,vr,e1,e2,e3⟩:=e
  rw[e1];exact .cons e2 (e3.app k)
theorem bI.get:∀ {l:List T} {vs:List V} {i:Nat} {x:T},bI K G l vs->l[i]?=some x->∃ v,vs[i]?=some v/\Rp K G x v
 | [],vs,i,x,e,k=>by simp at k
 | y::r,vs,0,x,e,k=>by
  unfold bI at e
  obtain⟨v,vr,e1,e2,e3⟩:=e
  simp at k;subst k
  exact⟨v,by rw[e1];rfl,e2⟩
 | y::r,vs,i+1,x,e,k=>by
  unfold bI at e
  obtain⟨v,vr,e1,e2,e3⟩:=e
  obtain⟨u,h1,h2⟩:=e3.get (i:=i) (x:=x) (by simpa using k)
  exact⟨u,by rw[e1];simpa using h1,h2⟩
theorem bI.tk:∀ {l:List T} {vs:List V} (n:Nat),bI K G l vs->bI K G (l.take n) (vs.take n)
 | _,_,0,_=>by simp;exact .nil
 | [],vs,n+1,e=>by unfold bI at e;rw[e];simp;exact .nil
 | y::r,vs,n+1,e=>by
  unfold bI at e
  obtain⟨v,vr,e1,e2,e3⟩:=e
  rw[e1,List.take_succ_cons,List.take_succ_cons];exact .cons e2 (e3.tk n)
theorem bI.dp:∀ {l:List T} {vs:List V} (n:Nat),bI K G l vs->bI K G (l.drop n) (vs.drop n)
 | _,_,0,e=>by simpa using e
 | [],vs,n+1,e=>by unfold bI at e;rw[e];simp;exact .nil
 | y::r,vs,n+1,e=>by
  unfold bI at e
  obtain⟨v,vr,e1,e2,e3⟩:=e
  rw[e1,List.drop_succ_cons,List.drop_succ_cons];exact e3.dp n
theorem bI.xW:∀ {ns:List Str} {vs:List V} {f:Str},f ∉ ns->(ns.zip vs).lookup f=none
 | [],vs,f,_=>by simp
 | n::ns,[],f,_=>by simp
 | n::ns,v::vs,f,h=>by
  rw[List.zip_cons_cons,List.lookup_cons]
  have q:(f == n)=false:=by
   cases q:(f == n) with
   | false=>rfl
   | true=>exact absurd (List.mem_cons.mpr (.inl (eq_of_beq q))) h
  rw[q];exact bI.xW fun z=>h (List.mem_cons_of_mem _ z)
end
theorem p7:∀ {l:List Addr} {i j:Nat} {a:Addr},l.Nodup->l[i]?=some a->l[j]?=some a->i=j
 | [],_,_,_,_,h,_=>by simp at h
 | x::r,0,0,_,_,_,_=>rfl
 | x::r,0,j+1,a,nd,h,k=>by
  simp at h k;subst h
  exact absurd (List.mem_of_getElem? k) (List.nodup_cons.mp nd).1
 | x::r,i+1,0,a,nd,h,k=>by
  simp at h k;subst k
  exact absurd (List.mem_of_getElem? h) (List.nodup_cons.mp nd).1
 | x::r,i+1,j+1,a,nd,h,k=>congrArg (·+1) (p7 (l:=r) (List.nodup_cons.mp nd).2 (by simpa using h) (by simpa using k))
noncomputable def res (ρ:List Addr)(H:Hp):Hp:=fun a=>if a∈ρ then none else H a
noncomputable def j8 (K:PySem.W.Frag)(ρ:List Addr)(G:Hp):D->V->Prop
 | .t x,w=>Rp K G x w
 | .ob n,w=>∃ a,ρ[n]?=some a/\w=.ref a
noncomputable def eU (K:PySem.W.Frag)(ρ:List Addr)(G:Hp):List D->List V->Prop:=Paired (j8 K ρ G)
noncomputable def GW (K:PySem.W.Frag)(ρ:List Addr)(G:Hp)(h:Option HO):O->Prop
 | .lst l=>∃ vs,h=some (.lst vs)/\bI K G l vs
 | .yX l=>∃ kvs,h=some (.dK kvs)/\Paired (fun(p:Key×T) (q:Key×V)=>p.1=q.1/\Rp K G p.2 q.2) l kvs
 | .ins C ns l=>∃ dx vs,h=some (.ins C dx (ns.zip vs))/\ns.length=vs.length/\fD K C ns/\eU K ρ G l vs
structure R3 (K:PySem.W.Frag)(ρ:List Addr)(S:bB)(H:Hp):Prop where
 len:ρ.length=S.length
 nd:ρ.Nodup
 ok:∀ (n:Nat) (a:Addr) (o:O),ρ[n]?=some a->S[n]?=some o->GW K ρ (res ρ H) (H a) o
structure Gr (ρ:List Addr)(H:Hp)(ρ':List Addr)(H':Hp):Prop where
 ext:∃ e,ρ'=ρ++e
 le:Le (res ρ H) (res ρ' H')
theorem Gr.refl {ρ:List Addr}{H:Hp}:Gr ρ H ρ H:=⟨⟨[],by simp⟩,Le.refl _⟩
theorem Gr.trans {ρ ρ' ρ'':List Addr}{H H' H'':Hp}(a:Gr ρ H ρ' H')(b:Gr ρ' H' ρ'' H''):Gr ρ H ρ'' H'':=by
 obtain⟨e,rfl⟩:=a.ext
 obtain⟨f,rfl⟩:=b.ext
 exact⟨⟨e++f,by simp⟩,a.le.trans b.le⟩
theorem Gr.at {ρ ρ':List Addr}{H H':Hp}(a:Gr ρ H ρ' H'){n:Nat}{x:Addr}(h:ρ[n]?=some x):ρ'[n]?=some x:=by
 obtain⟨e,rfl⟩:=a.ext
 have hl:n < ρ.length:=(List.getElem?_eq_some_iff.mp h).1
 rw[List.getElem?_append_left hl];exact h
section
variable {K:PySem.W.Frag}{ρ ρ':List Addr}{G G' H H':Hp}
theorem j8.le' (he:∀ (n:Nat) (a:Addr),ρ[n]?=some a->ρ'[n]?=some a)(h:Le G G'):∀ {d:D} {w:V},j8 K ρ G d w->j8 K ρ' G' d w
 | .t x,w,e=>Rp.le h e
 | .ob n,w,⟨a,e1,e2⟩=>⟨a,he n a e1,e2⟩
theorem j8.gr (g:Gr ρ H ρ' H'){d:D}{w:V}(e:j8 K ρ (res ρ H) d w):j8 K ρ' (res ρ' H') d w:=j8.le' (fun _ _=>g.at) g.le e
theorem jH {α β:Type}{F F':α->β->Prop}(h:∀ a b,F a b->F' a b):∀ {l:List α} {m:List β},Paired F l m->Paired F' l m
 | _,_,.nil=>.nil
 | _,_,.cons r t=>.cons (h _ _ r) (jH h t)
theorem eU.gr (g:Gr ρ H ρ' H'){l:List D}{w:List V}(e:eU K ρ (res ρ H) l w):eU K ρ' (res ρ' H') l w:=jH (fun _ _=>j8.gr g) e
theorem eU.t:∀ {l:List T} {vs:List V},eU K ρ G (l.map .t) vs->bI K G l vs
 | [],_,.nil=>.nil
 | _::_,_,.cons r t=>.cons r (eU.t t)
theorem eU.of:∀ {l:List T} {vs:List V},bI K G l vs->eU K ρ G (l.map .t) vs
 | [],vs,e=>by unfold bI at e;subst e;exact .nil
 | x::r,vs,e=>by
  unfold bI at e
  obtain⟨v,vr,e1,e2,e3⟩:=e
  subst e1
  exact .cons e2 (eU.of e3)
theorem GW.le' (he:∀ (n:Nat) (a:Addr),ρ[n]?=some a->ρ'[n]?=some a)(h:Le G G'){x:Option HO}:∀ {o:O},GW K ρ G x o->GW K ρ' G' x o
 | .lst l,⟨vs,e1,e2⟩=>⟨vs,e1,e2.le h⟩
 | .yX l,⟨vs,e1,e2⟩=>⟨vs,e1,jH (fun _ _ z=>⟨z.1,z.2.le h⟩) e2⟩
 | .ins C ns l,⟨dx,vs,e1,e2,e3,e4⟩=>⟨dx,vs,e1,e2,e3,jH (fun _ _=>j8.le' he h) e4⟩
theorem GW.some {x:Option HO}:∀ {o:O},GW K ρ G x o->∃ u,x=some u
 | .lst l,⟨vs,e1,e2⟩=>⟨_,e1⟩
 | .yX l,⟨vs,e1,e2⟩=>⟨_,e1⟩
 | .ins C ns l,⟨dx,vs,e1,e2,e3,e4⟩=>⟨_,e1⟩
theorem res_some {a:Addr}{o:HO}(h:res ρ H a=some o):a ∉ ρ/\H a=some o:=by
 unfold res at h
 split at h
 ·cases h
 ·exact⟨by assumption,h⟩
theorem nY {a:Addr}{o:HO}(n:a ∉ ρ)(h:H a=some o):res ρ H a=some o:=by unfold res;rw[if_neg n];exact h
theorem N7:res [] H=H:=by funext a;unfold res;rw[if_neg (by simp)]
end
section
variable {K:PySem.W.Frag}{ρ:List Addr}{S:bB}{H:Hp}
theorem R3.tracked (r:R3 K ρ S H){a:Addr}(h:a∈ρ):∃ u,H a=some u:=by
 obtain⟨n,hn⟩:=List.mem_iff_getElem?.mp h
 have hl:n < S.length:=by rw[<- r.len];exact(List.getElem?_eq_some_iff.mp hn).1
 exact(r.ok n a S[n] hn (List.getElem?_eq_getElem hl)).some
theorem R3.fresh (r:R3 K ρ S H){p:Addr}(h:H p=none):p ∉ ρ:=fun z=>by
 obtain⟨u,e⟩:=r.tracked z
 rw[h] at e;cases e
theorem R3.new (r:R3 K ρ S H){p:Addr}{o:HO}(h:H p=none):R3 K ρ S (upd H p o)/\Gr ρ H ρ (upd H p o)/\res ρ (upd H p o) p=some o:=by
 have np:=r.fresh h
 have le:Le (res ρ H) (res ρ (upd H p o)):=fun a u e=>by
  obtain⟨e1,e2⟩:=res_some e
  refine nY e1 ?_
  rw[bf (bG e2 h)];exact e2
 refine⟨⟨r.len,r.nd,fun n a u e1 e2=>?_⟩,⟨⟨[],by simp⟩,le⟩,nY np eZ⟩
 have q:=r.ok n a u e1 e2
 obtain⟨x,ex⟩:=q.some
 rw[bf (bG ex h)]
 exact q.le' (fun _ _ z=>z) le
theorem R3.push (r:R3 K ρ S H){p:Addr}{o:HO}{u:O}(h:H p=none)(hu:GW K (ρ++[p]) (res ρ H) (some o) u):R3 K (ρ++[p]) (S++[u]) (upd H p o)/\Gr ρ H (ρ++[p]) (upd H p o):=by
 have np:=r.fresh h
 have le:Le (res ρ H) (res (ρ++[p]) (upd H p o)):=fun a u e=>by
  obtain⟨e1,e2⟩:=res_some e
  have ne:=bG e2 h
  refine nY (fun z=>?_) ?_
  ·rcases List.mem_append.mp z with z | z
   ·exact e1 z
   ·exact ne (List.mem_singleton.mp z)
  ·rw[bf ne];exact e2
 have he:∀ (n:Nat) (a:Addr),ρ[n]?=some a->(ρ++[p])[n]?=some a:=fun n a e=>by
  rw[List.getElem?_append_left (List.getElem?_eq_some_iff.mp e).1];exact e
 refine⟨⟨by simp[r.len],?_,fun n a x e1 e2=>?_⟩,⟨⟨[p],rfl⟩,le⟩⟩
 ·rw[List.nodup_append]
  refine⟨r.nd,by simp,fun a ha b hb=>?_⟩
  rw[List.mem_singleton.mp hb]
  exact fun z=>np (z ▸ ha)
 ·by_cases hn:n < ρ.length
  ·rw[List.getElem?_append_left hn] at e1
   rw[List.getElem?_append_left (by rw[<- r.len];exact hn)] at e2
   have q:=r.ok n a x e1 e2
   obtain⟨y,ey⟩:=q.some
   rw[bf (bG ey h)]
   exact q.le' he le
  ·have hn':n=ρ.length:=by
    have:=(List.getElem?_eq_some_iff.mp e1).1
    rw[List.length_append,List.length_singleton] at this
    omega
   subst hn'
   rw[List.getElem?_append_right (Nat.le_refl _),Nat.sub_self] at e1
   rw[List.getElem?_append_right (by rw[r.len];exact Nat.le_refl _),r.len,Nat.sub_self] at e2
   cases e1;cases e2
   rw[eZ]
   exact hu.le' (fun _ _ z=>z) le
theorem R3.put (r:R3 K ρ S H){n:Nat}{a:Addr}{o:HO}{u:O}(ha:ρ[n]?=some a)(hu:GW K ρ (res ρ H) (some o) u):R3 K ρ (S.set n u) (upd H a o)/\Gr ρ H ρ (upd H a o):=by
 have hm:a∈ρ:=List.mem_of_getElem? ha
 have le:Le (res ρ H) (res ρ (upd H a o)):=fun b u e=>by
  obtain⟨e1,e2⟩:=res_some e
  refine nY e1 ?_
  rw[bf (fun z=>e1 (by rw[z];exact hm))];exact e2
 refine⟨⟨by rw[List.length_set];exact r.len,r.nd,fun m b x e1 e2=>?_⟩,⟨⟨[],by simp⟩,le⟩⟩
 by_cases hmn:n=m
 ·subst hmn
  rw[ha] at e1;cases e1
  have hl:n < S.length:=by rw[<- r.len];exact(List.getElem?_eq_some_iff.mp ha).1
  rw[List.getElem?_set_self hl] at e2
  cases e2
  rw[eZ]
  exact hu.le' (fun _ _ z=>z) le
 ·rw[List.getElem?_set_ne hmn] at e2
  have nb:b≠a:=fun z=>by
   subst z
   exact hmn (p7 r.nd ha e1)
  rw[bf nb]
  exact(r.ok m b x e1 e2).le' (fun _ _ z=>z) le
end
noncomputable abbrev KD:=D->bB->Prop
noncomputable abbrev KS:=Sl->bB->Prop
noncomputable abbrev eY:=Sl->bB->KD->Prop
noncomputable abbrev vN:=Sl->bB->(Bool->bB->Prop)->Prop
noncomputable abbrev yL:=Sl->bB->(List D->bB->Prop)->Prop
structure AR where
 nx:KS
 rt:KD
 bk:KS:=fun _ _=>False
 ct:KS:=fun _ _=>False
noncomputable abbrev wI:=AR->Sl->bB->Prop
section
variable (K:PySem.W.Frag)(ρ:List Addr)(H:Hp)
noncomputable def up (k:KD):VK:=fun v H'=>∃ ρ' S' d,Gr ρ H ρ' H'/\R3 K ρ' S' H'/\j8 K ρ' (res ρ' H') d v/\k d S'
noncomputable def ZC (k:Bool->bB->Prop):Bool->Hp->Prop:=fun b H'=>∃ ρ' S',Gr ρ H ρ' H'/\R3 K ρ' S' H'/\k b S'
noncomputable def upA (k:List D->bB->Prop):List V->Hp->Prop:=fun v H'=>∃ ρ' S' d,Gr ρ H ρ' H'/\R3 K ρ' S' H'/\eU K ρ' (res ρ' H') d v/\k d S'
noncomputable def vj (G:Hp)(δ:Sl)(σ:St):Prop:=δ.length=σ.length/\∀ (i:Nat) d,δ[i]?=some (some d)->∃ v,σ[i]?=some (some v)/\j8 K ρ G d v
noncomputable def Kq (k:KS):St->Hp->Prop:=fun σ H'=>∃ ρ' S' δ,Gr ρ H ρ' H'/\R3 K ρ' S' H'/\vj K ρ' (res ρ' H') δ σ/\k δ S'
structure CP (E:AR)(D:Ends):Prop where
 nx:∀ σ H',Kq K ρ H E.nx σ H'->D.nx σ H'
 rt:∀ v H',up K ρ H E.rt v H'->D.rt v H'
 bk:∀ σ H',Kq K ρ H E.bk σ H'->D.bk σ H'
 ct:∀ σ H',Kq K ρ H E.ct σ H'->D.ct σ H'
end
section
variable (K:PySem.W.Frag)
noncomputable def li (t:eY):TE:=fun σ H Q=>∃ ρ S δ k,R3 K ρ S H/\vj K ρ (res ρ H) δ σ/\t δ S k/\∀ v H',up K ρ H k v H'->Q v H'
noncomputable def Np (t:vN):TT:=fun σ H Q=>∃ ρ S δ k,R3 K ρ S H/\vj K ρ (res ρ H) δ σ/\t δ S k/\∀ v H',ZC K ρ H k v H'->Q v H'
noncomputable def liA (t:yL):TA:=fun σ H Q=>∃ ρ S δ k,R3 K ρ S H/\vj K ρ (res ρ H) δ σ/\t δ S k/\∀ v H',upA K ρ H k v H'->Q v H'
noncomputable def liS (t:wI):TS:=fun D σ H=>∃ ρ S δ E,R3 K ρ S H/\vj K ρ (res ρ H) δ σ/\t E δ S/\CP K ρ H E D
end
section
variable {K:PySem.W.Frag}{ρ ρ':List Addr}{H H':Hp}
theorem vj.gr (g:Gr ρ H ρ' H'){δ:Sl}{σ:St}(r:vj K ρ (res ρ H) δ σ):vj K ρ' (res ρ' H') δ σ :=
 ⟨r.1,fun i d e=>let ⟨v,e1,e2⟩:=r.2 i d e;⟨v,e1,e2.gr g⟩⟩
theorem vj.set {G:Hp}{δ:Sl}{σ:St}(r:vj K ρ G δ σ){d:D}{v:V}(h:j8 K ρ G d v)(i:Nat):vj K ρ G (δ.set i (some d)) (σ.set i (some v)):=by
 refine⟨by simp[r.1],fun j e q=>?_⟩
 by_cases hij:i=j
 ·subst hij
  have hl:i < δ.length:=by
   have:=(List.getElem?_eq_some_iff.mp q).1
   simpa using this
  rw[List.getElem?_set_self hl] at q
  cases q
  exact⟨v,by rw[List.getElem?_set_self (by rw[<- r.1];exact hl)],h⟩
 ·rw[List.getElem?_set_ne hij] at q
  rw[List.getElem?_set_ne hij]
  exact r.2 j e q
theorem up.gr (g:Gr ρ H ρ' H'){k:KD}{v:V}{H2:Hp}:up K ρ' H' k v H2->up K ρ H k v H2:=fun⟨r,s,d,g2,x⟩=>⟨r,s,d,g.trans g2,x⟩
theorem ZC.gr (g:Gr ρ H ρ' H'){k:Bool->bB->Prop}{v:Bool}{H2:Hp}:ZC K ρ' H' k v H2->ZC K ρ H k v H2:=fun⟨r,s,g2,x⟩=>⟨r,s,g.trans g2,x⟩
theorem Kq.gr (g:Gr ρ H ρ' H'){k:KS}{v:St}{H2:Hp}:Kq K ρ' H' k v H2->Kq K ρ H k v H2:=fun⟨r,s,d,g2,x⟩=>⟨r,s,d,g.trans g2,x⟩
theorem CP.gr (g:Gr ρ H ρ' H'){E:AR}{D:Ends}(u:CP K ρ H E D):CP K ρ' H' E D :=
 ⟨fun σ H2 h=>u.nx σ H2 (h.gr g),fun σ H2 h=>u.rt σ H2 (h.gr g),fun σ H2 h=>u.bk σ H2 (h.gr g),fun σ H2 h=>u.ct σ H2 (h.gr g)⟩
end
noncomputable def QE (X:Cx)(e:Expr)(t:eY):Prop:=PE X e (li X.K t)
noncomputable def QT (X:Cx)(e:Expr)(t:vN):Prop:=PT X e (Np X.K t)
noncomputable def QW (X:Cx)(e:Expr)(t:vN):Prop:=PW X e (Np X.K t)
noncomputable def QA (X:Cx)(e:List Expr)(t:yL):Prop:=PA X e (liA X.K t)
noncomputable def QS (X:Cx)(e:Stmt)(t:wI):Prop:=PS X e (liS X.K t)
noncomputable def Kc (X:Cx)(e:List Stmt)(t:wI):Prop:=Dh X e (liS X.K t)
section
variable {X:Cx}{e:Expr}
theorem cW {t t':TE}(h:PE X e t)(m:∀ σ H Q,t' σ H Q->t σ H Q):PE X e t':=fun pins s σ H Q I q=>h pins s σ H Q I (m _ _ _ q)
theorem Lr {t t':TT}(h:PT X e t)(m:∀ σ H Q,t' σ H Q->t σ H Q):PT X e t':=fun pins s σ H Q I q=>h pins s σ H Q I (m _ _ _ q)
theorem Qp {t t':TT}(h:PW X e t)(m:∀ σ H Q,t' σ H Q->t σ H Q):PW X e t':=fun w pins s σ H Q I q=>h w pins s σ H Q I (m _ _ _ q)
theorem Qu {es:List Expr}{t t':TA}(h:PA X es t)(m:∀ σ H Q,t' σ H Q->t σ H Q):PA X es t':=fun p pins s σ H Q I q=>h p pins s σ H Q I (m _ _ _ q)
theorem qv {st:Stmt}{t t':TS}(h:PS X st t)(m:∀ D σ H,t' D σ H->t D σ H):PS X st t':=fun pins s σ H D I q=>h pins s σ H D I (m _ _ _ q)
theorem FP {st:List Stmt}{t t':TS}(h:Dh X st t)(m:∀ D σ H,t' D σ H->t D σ H):Dh X st t':=fun pins s σ H D I q=>h pins s σ H D I (m _ _ _ q)
end
end L3
namespace L3
open PySem L2
theorem bI.put {K:PySem.W.Frag}{G:Hp}{x:T}{v:V}(h:Rp K G x v):∀ {l:List T} {vs:List V} {j:Nat},bI K G l vs->bI K G (l.set j x) (vs.set j v)
 | [],vs,j,e=>by unfold bI at e;subst e;exact .nil
 | y::r,vs,0,e=>by
  unfold bI at e
  obtain⟨w,wr,e1,e2,e3⟩:=e
  subst e1
  exact .cons h e3
 | y::r,vs,j+1,e=>by
  unfold bI at e
  obtain⟨w,wr,e1,e2,e3⟩:=e
  subst e1
  exact .cons e2 (bI.put h e3)
end L3
namespace L3
open PySem L2
section
variable {K:PySem.W.Frag}{ρ:List Addr}{S:bB}{H:Hp}{k:KD}{Q:VK}
theorem kX:Le (res ρ H) H:=fun a o e=>(res_some e).2
theorem fin {d:D}{v:V}(R:R3 K ρ S H)(hk:∀ v H',up K ρ H k v H'->Q v H')(r:j8 K ρ (res ρ H) d v)(q:k d S):Q v H:=hk _ _ ⟨ρ,S,d,.refl,R,r,q⟩
theorem Pk {l:List T}{vs:List V}(R:R3 K ρ S H)(hk:∀ v H',up K ρ H k v H'->Q v H')(r:bI K (res ρ H) l vs)(q:k (.tup l) S)(p:Addr)(hp:H p=none):Q (.ref p) (upd H p (.tup vs)):=by
 obtain⟨R',g,e⟩:=R.new (o:=.tup vs) hp
 refine hk _ _ ⟨ρ,S,.tup l,g,R',?_,q⟩
 show Rp _ _ _ _
 unfold Rp
 exact⟨p,vs,rfl,e,r.le g.le⟩
theorem zC {l:List T}{vs:List V}(R:R3 K ρ S H)(hk:∀ v H',up K ρ H k v H'->Q v H')(r:bI K (res ρ H) l vs)(q:k (.lst l) S)(p:Addr)(hp:H p=none):Q (.ref p) (upd H p (.lst vs)):=by
 obtain⟨R',g,e⟩:=R.new (o:=.lst vs) hp
 refine hk _ _ ⟨ρ,S,.lst l,g,R',?_,q⟩
 show Rp _ _ _ _
 unfold Rp
 exact⟨p,vs,rfl,e,r.le g.le⟩
theorem Y3 {o:O}{h:HO}(R:R3 K ρ S H)(hk:∀ v H',up K ρ H k v H'->Q v H')(p:Addr)(hp:H p=none)(r:GW K (ρ++[p]) (res ρ H) (some h) o)(q:k (.ob S.length) (S++[o])):Q (.ref p) (upd H p h):=by
 obtain⟨R',g⟩:=R.push hp r
 exact hk _ _ ⟨_,_,.ob S.length,g,R',⟨p,by rw[<- R.len];simp,rfl⟩,q⟩
theorem Pn {l:List T}{vs:List V}(R:R3 K ρ S H)(hk:∀ v H',up K ρ H k v H'->Q v H')(r:bI K (res ρ H) l vs)(q:k (.ob S.length) (S++[.lst l]))(p:Addr)(hp:H p=none):Q (.ref p) (upd H p (.lst vs)) :=
 Y3 (o:=.lst l) R hk p hp ⟨vs,rfl,r⟩ q
theorem JH {n:Nat}{a:Addr}{o:O}{h:HO}{d:D}{v:V}(R:R3 K ρ S H)(hk:∀ v H',up K ρ H k v H'->Q v H')(ha:ρ[n]?=some a)(r:GW K ρ (res ρ H) (some h) o)(rv:j8 K ρ (res ρ H) d v)(q:k d (S.set n o)):Q v (upd H a h):=by
 obtain⟨R',g⟩:=R.put ha r
 exact hk _ _ ⟨_,_,d,g,R',rv.gr g,q⟩
end
noncomputable def lq (S:bB):D->Option (List T)
 | .t (.lst l)=>some l
 | .ob n=>match S[n]? with
  | some (.lst l)=>some l
  | _=>none
 | _=>none
noncomputable def sq (S:bB):D->Option (List T)
 | .t (.tup l)=>some l
 | .t (.HF l)=>some l
 | d=>lq S d
section
variable {K:PySem.W.Frag}{ρ:List Addr}{S:bB}{H:Hp}
theorem dz (R:R3 K ρ S H):∀ {d:D} {v:V} {l:List T},j8 K ρ (res ρ H) d v->lq S d=some l->∃ a vs,v=.ref a/\H a=some (.lst vs)/\bI K (res ρ H) l vs
 | .t (.lst l'),v,l,r,e=>by
  have e:some l'=some l:=e
  cases e
  have r:Rp _ _ _ _:=r
  unfold Rp at r
  obtain⟨a,vs,e1,e2,e3⟩:=r
  exact⟨a,vs,e1,kX _ _ e2,e3⟩
 | .t (.HF _),_,_,_,e=>nomatch e
 | .t (.v _),_,_,_,e=>nomatch e
 | .t (.tup _),_,_,_,e=>nomatch e
 | .t (.ins _ _ _),_,_,_,e=>nomatch e
 | .ob n,v,l,⟨a,ha,r⟩,e=>by
  have e:(match S[n]? with | some (.lst l)=>some l | _=>none)=some l:=e
  cases q:S[n]? with
  | none=>rw[q] at e;cases e
  | some o =>
   rw[q] at e
   cases o with
   | lst m =>
    have e:some m=some l:=e
    cases e
    obtain⟨vs,h1,h2⟩:=R.ok n a _ ha q
    exact⟨a,vs,r,h1,h2⟩
   | yX m=>cases e
   | ins C ns m=>cases e
theorem tS (R:R3 K ρ S H){d:D}{v:V}{l:List T}(r:j8 K ρ (res ρ H) d v)(e:sq S d=some l):∃ a vs,v=.ref a/\(nH K H a vs∨qh K H a vs)/\bI K (res ρ H) l vs:=by
 unfold sq at e
 split at e
 ·cases e
  have r:Rp _ _ _ _:=r
  unfold Rp at r
  obtain⟨a,vs,e1,e2,e3⟩:=r
  exact⟨a,vs,e1,.inr (.of (kX _ _ e2)),e3⟩
 ·cases e
  have r:Rp _ _ _ _:=r
  unfold Rp at r
  obtain⟨a,vs,e1,e2,e3⟩:=r
  exact⟨a,vs,e1,.inl (Fv kX e2),e3⟩
 ·obtain⟨a,vs,h1,h2,h3⟩:=dz R r e
  exact⟨a,vs,h1,.inl (.of h2),h3⟩
theorem di {v:V}{l:List T}(r:j8 K ρ (res ρ H) (.tup l) v):∃ a vs,v=.ref a/\H a=some (.tup vs)/\bI K (res ρ H) l vs:=by
 have r:Rp _ _ _ _:=r
 unfold Rp at r
 obtain⟨a,vs,e1,e2,e3⟩:=r
 exact⟨a,vs,e1,kX _ _ e2,e3⟩
theorem bx {G:Hp}{x w:V}(r:j8 K ρ G (.t (.v x)) w):w=x:=by
 have r:Rp _ _ _ _:=r
 unfold Rp at r
 exact r
theorem bQ {G:Hp}{x:V}:j8 K ρ G (.t (.v x)) x:=by show Rp _ _ _ _;unfold Rp;rfl
end
section
variable {X:Cx}{a b e:Expr}{ta tb:eY}{pos:Pos}
noncomputable def VU (i:Nat):eY:=fun δ S k=>∃ d,δ[i]?=some (some d)/\k d S
noncomputable def We (d:D):eY:=fun _ S k=>k d S
theorem ah (i:Nat){x:Str}{pos:Pos}(hN:X.N[i]?=some x:=by rfl)(hv:Vis X.env.scope x:=by first | exact Or.inl rfl | exact Or.inr (Or.inl rfl) | exact Or.inr (Or.inr rfl))(hd:(x == ("__debug__":Str))=false:=by decide)
  (hcd:(x == ("__classdict__":Str))=false:=by decide):QE X (.Name x pos) (VU i) :=
 cW (Ss hN hv hd hcd) (by
  rintro σ H Q ⟨ρ,S,δ,k,R,D,⟨d,e,q⟩,hk⟩
  obtain⟨v,e1,e2⟩:=D.2 i d e
  exact⟨v,e1,fin R hk e2 q⟩)
theorem gF {v:V}(h:PE X e (tC v)):QE X e (We (.t (.v v))):=cW h (by rintro σ H Q ⟨ρ,S,δ,k,R,D,q,hk⟩;exact fin R hk bQ q)
theorem aj {i j pos}:QE X (.Constant (.int i) j pos) (We (.int i)):=gF Sw
theorem a01 {b j pos}:QE X (.Constant (.bool b) j pos) (We (.bl b)):=gF WT
theorem WH {j pos}:QE X (.Constant .none j pos) (We .dR):=gF Sv
theorem aA {x j pos}:QE X (.Constant (.str x) j pos) (We (.str x)):=gF Ly
noncomputable abbrev Dg:=D->D->bB->KD->Prop
noncomputable def liR (K:PySem.W.Frag)(r:Dg):R2:=fun x y H Q=>∃ ρ S a b k,R3 K ρ S H/\j8 K ρ (res ρ H) a x/\j8 K ρ (res ρ H) b y/\r a b S k/\∀ v H',up K ρ H k v H'->Q v H'
noncomputable def Fd (X:Cx)(f:Value->Value->Sem Value)(r:Dg):Prop:=nh X f (liR X.K r)
theorem jI {f:Value->Value->Sem Value}{r r':R2}(h:nh X f r)(m:∀ x y H Q,r' x y H Q->r x y H Q):nh X f r':=fun pins s σ H x y v u Q I rx ry q=>h pins s σ H x y v u Q I rx ry (m _ _ _ _ q)
noncomputable def IZ (r:Dg)(ta tb:eY):eY:=fun δ S k=>ta δ S fun x S1=>tb δ S1 fun y S2=>r x y S2 k
theorem wu {r:Dg}:∀ σ H Q,li X.K (IZ r ta tb) σ H Q->VZ (liR X.K r) (li X.K ta) (li X.K tb) σ H Q:=(by rintro σ H Q ⟨ρ,S,δ,k,R,D,q,hk⟩;exact  ⟨ρ,S,δ,_,R,D,q,(by rintro v H1 ⟨ρ1,S1,d1,g1,R1,r1,q1⟩;exact ⟨ρ1,S1,δ,_,R1,D.gr g1,q1,(by rintro w H2 ⟨ρ2,S2,d2,g2,R2,r2,q2⟩;exact   ⟨ρ2,S2,d1,d2,k,R2,r1.gr g2,r2,q2,fun z H3 u=>hk z H3 (u.gr (g1.trans g2))⟩)⟩)⟩)
theorem aM {op:Operator}{r:Dg}(ho:Fd X (binaryOp op) r)(ha:QE X a ta)(hb:QE X b tb):QE X (.BinOp a op b pos) (IZ r ta tb):=cW (Qt ho ha hb) wu
theorem HN {op:CmpOp}{r:Dg}(ho:Fd X (compareOp op) r)(ha:QE X a ta)(hb:QE X b tb)(hm:behindInMarks op b=false):QE X (.Compare a [op] [b] pos) (IZ r ta tb):=cW (OF ho ha hb hm) wu
noncomputable def Fo (t:eY):vN:=fun δ S k=>t δ S fun d S1=>∃ b,d=.bl b/\k b S1
theorem Aa {t:eY}{t':TE}(m:∀ σ H Q,li X.K t σ H Q->t' σ H Q):∀ σ H Q,Np X.K (Fo t) σ H Q->P6 t' σ H Q:=(by rintro σ H Q ⟨ρ,S,δ,k,R,D,q,hk⟩;exact  m _ _ _ ⟨ρ,S,δ,_,R,D,q,(by
  rintro v H1 ⟨ρ1,S1,d1,g1,R1,r1,b,e,q1⟩
  subst e
  exact⟨b,bx r1,hk _ _ ⟨ρ1,S1,g1,R1,q1⟩⟩)⟩)
theorem aL {op:CmpOp}{r:Dg}(ho:Fd X (compareOp op) r)(ha:QE X a ta)(hb:QE X b tb)(hm:behindInMarks op b=false):QT X (.Compare a [op] [b] pos) (Fo (IZ r ta tb)):=Lr (Oo ho ha hb hm) (Aa wu)
end
end L3
namespace L3
open PySem L2
noncomputable def Zn:Dg
 | .t (.v (.int i)),.t (.v (.int j)),S,k=>k (.int (i+j)) S
 | .t (.v (.str a)),.t (.v (.str b)),S,k=>a.length+b.length<=sizeLine/\k (.str (a++b)) S
 | .t (.tup a),.t (.tup b),S,k=>a.length+b.length<=sizeLine/\k (.tup (a++b)) S
 | a,b,S,k=>∃ l m,lq S a=some l/\lq S b=some m/\l.length+m.length<=sizeLine/\k (.lst (l++m)) S
noncomputable def Wk:Dg
 | .t (.v (.int i)),.t (.v (.int j)),S,k=>k (.int (i - j)) S
 | _,_,_,_=>False
noncomputable def Xa:Dg
 | .t (.v (.int i)),.t (.v (.int j)),S,k=>PZ i j/\k (.int (i*j)) S
 | a,.t (.v (.int j)),S,k=>∃ l,lq S a=some l/\-(2 ^ 63)<=j/\j < 2 ^ 63/\l.length*j.toNat<=sizeLine/\k (.lst (List.replicate j.toNat l).flatten) S
 | _,_,_,_=>False
noncomputable def Ra:Dg
 | .t (.v (.int i)),.t (.v (.int j)),S,k=>Zz i j/\k (.int (i / j)) S
 | _,_,_,_=>False
noncomputable def Xd:Dg
 | .t (.v (.int i)),.t (.v (.int j)),S,k=>0 < j/\k (.int (i % j)) S
 | _,_,_,_=>False
noncomputable def Pp (f:Int->Int->Bool):Dg
 | .t (.v (.int i)),.t (.v (.int j)),S,k=>k (.bl (f i j)) S
 | _,_,_,_=>False
mutual
noncomputable def Fl:Nat->T->Prop
 | _,.v x=>gD x=true
 | 0,_=>False
 | n+1,.tup l=>Nb n l
 | n+1,.lst l=>Nb n l
 | _+1,_=>False
noncomputable def Nb:Nat->List T->Prop
 | _,[]=>True
 | n,x::r=>Fl n x/\Nb n r
end
noncomputable def eq3 (n:Nat)(neg:Bool):Dg
 | .t (.v x),.t (.v y),S,k=>RN x y=true/\k (.bl (xor neg (decide (x=y)))) S
 | .t (.tup l),.t (.tup m),S,k=>(l=m/\Nb n l/\k (.bl (!neg)) S)∨(m=[]/\k (.bl (xor neg (decide (l=[])))) S)
 | a,b,S,k=>∃ l m,lq S a=some l/\lq S b=some m/\((l=m/\Nb n l/\k (.bl (!neg)) S)∨(m=[]/\k (.bl (xor neg (decide (l=[])))) S))
noncomputable def Z8:T->Option V
 | .v x=>if gD x=true then some x else none
 | _=>none
noncomputable def zB:List T->Option (List V)
 | []=>some []
 | x::r=>match Z8 x,zB r with
  | some v,some vs=>some (v::vs)
  | _,_=>none
noncomputable def in3 (neg:Bool):Dg:=fun a b S k=>∃ x l vs,a=.t (.v x)/\gD x=true/\sq S b=some l/\zB l=some vs/\k (.bl (xor neg (QV x vs))) S
section
variable {X:Cx}
theorem bI.rep {K:PySem.W.Frag}{G:Hp}{l:List T}{vs:List V}(r:bI K G l vs):∀ n:Nat,bI K G (List.replicate n l).flatten (List.replicate n vs).flatten
 | 0=>.nil
 | n+1=>by
  rw[List.replicate_succ,List.replicate_succ,List.flatten_cons,List.flatten_cons]
  exact r.app (bI.rep r n)
theorem bI.dw {K:PySem.W.Frag}{G:Hp}{l:List T}{vs:List V}(r:bI K G l vs):vs=[]↔l=[]:=by
 have:=r.len
 constructor
 ·intro e;subst e;exact List.length_eq_zero_iff.mp this
 ·intro e;subst e;exact List.length_eq_zero_iff.mp this.symm
theorem yp {K:PySem.W.Frag}{G:Hp}:∀ {l:List T} {us vs:List V},zB l=some vs->bI K G l us->us=vs/\vs.all gD=true
 | [],us,vs,e,r=>by
  unfold bI at r
  have e:some []=some vs:=e
  cases e
  exact⟨r,rfl⟩
 | x::l,us,vs,e,r=>by
  unfold bI at r
  obtain⟨v,vr,e1,e2,e3⟩:=r
  cases x with
  | v y =>
   by_cases hf:gD y=true
   ·have q1:Z8 (.v y)=some y:=if_pos hf
    cases q2:zB l with
    | none=>unfold zB at e;rw[q1,q2] at e;cases e
    | some vs' =>
     unfold zB at e;rw[q1,q2] at e
     have e:some (y::vs')=some vs:=e
     cases e
     obtain⟨h1,h2⟩:=yp q2 e3
     subst h1
     unfold Rp at e2
     subst e2
     exact⟨e1,by rw[List.all_cons,hf,h2];rfl⟩
   ·have q1:Z8 (.v y)=none:=if_neg hf
    unfold zB at e;rw[q1] at e;cases e
  | _=>unfold zB at e;cases e
end
section
variable {K:PySem.W.Frag}{H:Hp}{G:Hp}
mutual
theorem Tg (le:Le G H):∀ (n:Nat) {x:T} {v w:V},Fl n x->Rp K G x v->Rp K G x w->GY K H n v w
 | n,.v y,v,w,f,r1,r2=>by
  unfold Rp at r1 r2
  unfold Fl at f
  subst r1;subst r2
  cases n with
  | zero=>exact⟨f,rfl⟩
  | succ n=>exact .inl ⟨f,rfl⟩
 | n+1,.tup l,v,w,f,r1,r2=>by
  unfold Rp at r1 r2
  unfold Fl at f
  obtain⟨a,vs,e1,e2,e3⟩:=r1
  obtain⟨b,ws,e4,e5,e6⟩:=r2
  exact .inr ⟨a,b,vs,ws,e1,e4,.inr ⟨.of (le _ _ e2),.of (le _ _ e5)⟩,qQ le n f e3 e6⟩
 | n+1,.lst l,v,w,f,r1,r2=>by
  unfold Rp at r1 r2
  unfold Fl at f
  obtain⟨a,vs,e1,e2,e3⟩:=r1
  obtain⟨b,ws,e4,e5,e6⟩:=r2
  exact .inr ⟨a,b,vs,ws,e1,e4,.inl ⟨.of (le _ _ e2),.of (le _ _ e5)⟩,qQ le n f e3 e6⟩
 | n+1,.HF l,v,w,f,r1,r2=>by unfold Fl at f;exact f.elim
 | n+1,.ins C ns l,v,w,f,r1,r2=>by unfold Fl at f;exact f.elim
 | 0,.tup l,v,w,f,r1,r2=>by unfold Fl at f;exact f.elim
 | 0,.lst l,v,w,f,r1,r2=>by unfold Fl at f;exact f.elim
 | 0,.HF l,v,w,f,r1,r2=>by unfold Fl at f;exact f.elim
 | 0,.ins C ns l,v,w,f,r1,r2=>by unfold Fl at f;exact f.elim
theorem qQ (le:Le G H):∀ (n:Nat) {l:List T} {vs ws:List V},Nb n l->bI K G l vs->bI K G l ws->Paired (GY K H n) vs ws
 | n,[],vs,ws,f,r1,r2=>by
  unfold bI at r1 r2
  subst r1;subst r2
  exact .nil
 | n,x::l,vs,ws,f,r1,r2=>by
  unfold bI at r1 r2
  unfold Nb at f
  obtain⟨v,vr,e1,e2,e3⟩:=r1
  obtain⟨w,wr,e4,e5,e6⟩:=r2
  subst e1;subst e4
  exact .cons (Tg le n f.1 e2 e5) (qQ le n f.2 e3 e6)
end
end
section
variable {X:Cx}
theorem aF:Fd X (binaryOp .Add) Zn:=by
 refine jI ((SO.or (FW.or (OM.or SN)))) ?_
 rintro x y H Q ⟨ρ,S,a,b,k,R,ra,rb,q,hk⟩
 unfold Zn at q
 split at q
 ·exact .inl ⟨_,_,bx ra,bx rb,fin R hk bQ q⟩
 ·exact .inr (.inl ⟨_,_,bx ra,bx rb,q.1,fin R hk bQ q.2⟩)
 ·obtain⟨p1,vs,e1,e2,e3⟩:=di ra
  obtain⟨p2,ws,f1,f2,f3⟩:=di rb
  refine .inr (.inr (.inl ⟨p1,p2,vs,ws,e1,f1,.of e2,.of f2,by rw[<- e3.len,<- f3.len];exact q.1,fun z=>?_,fun _ z=>?_,fun _ _ p hp=>Pk R hk (e3.app f3) q.2 p hp⟩))
  ·have z:=e3.dw.mp z
   subst z
   rw[<- f1]
   exact fin R hk rb q.2
  ·have z:=f3.dw.mp z
   subst z
   rw[<- e1]
   refine fin R hk ra ?_
   have:=q.2
   rwa [List.append_nil] at this
 ·obtain⟨l,m,h1,h2,h3,h4⟩:=q
  obtain⟨p1,vs,e1,e2,e3⟩:=dz R ra h1
  obtain⟨p2,ws,f1,f2,f3⟩:=dz R rb h2
  exact .inr (.inr (.inr ⟨p1,p2,vs,ws,e1,f1,e2,f2,by rw[<- e3.len,<- f3.len];exact h3,fun p hp=>zC R hk (e3.app f3) h4 p hp⟩))
theorem xU:Fd X (binaryOp .Sub) Wk:=by
 refine jI SE ?_
 rintro x y H Q ⟨ρ,S,a,b,k,R,ra,rb,q,hk⟩
 unfold Wk at q
 split at q
 ·exact⟨_,_,bx ra,bx rb,fin R hk bQ q⟩
 ·exact q.elim
theorem ou:Fd X (binaryOp .Mult) Xa:=by
 refine jI (SI.or SG) ?_
 rintro x y H Q ⟨ρ,S,a,b,k,R,ra,rb,q,hk⟩
 unfold Xa at q
 split at q
 ·exact .inl ⟨_,_,bx ra,bx rb,q.1,fin R hk bQ q.2⟩
 ·obtain⟨l,h1,h2,h3,h4,h5⟩:=q
  obtain⟨p1,vs,e1,e2,e3⟩:=dz R ra h1
  exact .inr ⟨p1,_,vs,e1,bx rb,e2,h2,h3,by rw[<- e3.len];exact h4,fun p hp=>zC R hk (e3.rep _) h5 p hp⟩
 ·exact q.elim
theorem SW:Fd X (binaryOp .FloorDiv) Ra:=by
 refine jI OL ?_
 rintro x y H Q ⟨ρ,S,a,b,k,R,ra,rb,q,hk⟩
 unfold Ra at q
 split at q
 ·exact⟨_,_,bx ra,bx rb,q.1,fin R hk bQ q.2⟩
 ·exact q.elim
theorem HX:Fd X (binaryOp .Mod) Xd:=by
 refine jI SJ ?_
 rintro x y H Q ⟨ρ,S,a,b,k,R,ra,rb,q,hk⟩
 unfold Xd at q
 split at q
 ·exact⟨_,_,bx ra,bx rb,q.1,fin R hk bQ q.2⟩
 ·exact q.elim
theorem Qv {op:CmpOp}{f:Int->Int->Bool}(h:nh X (compareOp op) (RV fun i j=>.bl (f i j))):Fd X (compareOp op) (Pp f):=by
 refine jI h ?_
 rintro x y H Q ⟨ρ,S,a,b,k,R,ra,rb,q,hk⟩
 unfold Pp at q
 split at q
 ·exact⟨_,_,bx ra,bx rb,fin R hk bQ q⟩
 ·exact q.elim
theorem SV:Fd X (compareOp .Lt) (Pp fun i j=>decide (i < j)):=Qv WW
theorem LS:Fd X (compareOp .Gt) (Pp fun i j=>decide (j < i)):=Qv WX
noncomputable def N9 (K:PySem.W.Frag):R2:=fun x y H Q=>∃ a b xs,x=.ref a/\y=.ref b/\qh K H a xs/\qh K H b []/\Q (.bl (!decide (xs=[]))) H
theorem Jh (hu:X.A.units < cLine):nh X (compareOp .NotEq) (N9 X.K):=by
 intro pins s σ H x y v u Q I rx ry h
 obtain⟨a,b,xs,rfl,rfl,ha,hb,q⟩:=h
 cases rx
 cases ry
 obtain⟨us,r1,p1,_⟩:=I.tuple ha
 obtain⟨vs,r2,p2,_⟩:=I.tuple hb
 cases r2
 refine SeqAt.RcNeAt.tuples (A:=X.A) (e:=fun _=>true) (show s.heap.IsTuple a us.toArray from p1) (show s.heap.IsTuple b ([]:List Value).toArray from p2) hu (fun j h1 h2=>absurd h2 (by simp)) _ _ _ _ ?_
 have e:(!((List.range (min us.toArray.size ([]:List Value).toArray.size)).all (fun _=>true) && us.toArray.size == ([]:List Value).toArray.size))=!decide (xs=[]):=by
  have l:=r1.length
  rw[oU,Bool.true_and]
  by_cases hx:xs=[]
  ·subst hx
   cases r1
   simp
  ·rw[decide_eq_false hx]
   have:us≠[]:=fun z=>hx (by rw[z] at l;exact List.length_eq_zero_iff.mp l)
   cases us with
   | nil=>exact absurd rfl this
   | cons _ _=>simp
 rw[e]
 exact⟨.bl _,H,I,rfl,q⟩
theorem dW (n:Nat)(hu:X.A.units+1+n < cLine):Fd X (compareOp .Eq) (eq3 n false):=by
 have YF:X.A.units < cLine:=by omega
 refine jI (WY.or ((SM n hu).or ((LJ YF).or (Jj YF)))) ?_
 rintro x y H Q ⟨ρ,S,a,b,k,R,ra,rb,q,hk⟩
 unfold eq3 at q
 split at q
 ·rw[bx ra,bx rb]
  refine .inl ⟨q.1,fin R hk bQ ?_⟩
  have:=q.2
  rwa [Bool.false_xor] at this
 ·obtain⟨p1,vs,e1,e2,e3⟩:=di ra
  obtain⟨p2,ws,f1,f2,f3⟩:=di rb
  rcases q with ⟨z,h1,h2⟩ | ⟨z,h2⟩
  ·subst z
   exact .inr (.inl ⟨p1,p2,vs,ws,e1,f1,.inr ⟨.of e2,.of f2⟩,qQ kX n h1 e3 f3,fin R hk bQ h2⟩)
  ·subst z
   have w:=f3.dw.mpr rfl
   subst w
   refine .inr (.inr (.inl ⟨p1,p2,vs,e1,f1,.of e2,.of f2,?_⟩))
   rw[Bool.false_xor] at h2
   rw[decide_eq_decide.mpr e3.dw]
   exact fin R hk bQ h2
 ·obtain⟨l,m,h1,h2,q⟩:=q
  obtain⟨p1,vs,e1,e2,e3⟩:=dz R ra h1
  obtain⟨p2,ws,f1,f2,f3⟩:=dz R rb h2
  rcases q with ⟨z,g1,g2⟩ | ⟨z,g2⟩
  ·subst z
   exact .inr (.inl ⟨p1,p2,vs,ws,e1,f1,.inl ⟨.of e2,.of f2⟩,qQ kX n g1 e3 f3,fin R hk bQ g2⟩)
  ·subst z
   have w:=f3.dw.mpr rfl
   subst w
   refine .inr (.inr (.inr ⟨p1,p2,vs,e1,f1,.of e2,.of f2,?_⟩))
   rw[Bool.false_xor] at g2
   rw[decide_eq_decide.mpr e3.dw]
   exact fin R hk bQ g2
theorem Jr (n:Nat)(hu:X.A.units+1+n < cLine):Fd X (compareOp .NotEq) (eq3 n true):=by
 have YF:X.A.units < cLine:=by omega
 refine jI (WV.or ((SH n hu).or ((Jh YF).or (LI YF)))) ?_
 rintro x y H Q ⟨ρ,S,a,b,k,R,ra,rb,q,hk⟩
 unfold eq3 at q
 split at q
 ·rw[bx ra,bx rb]
  refine .inl ⟨q.1,fin R hk bQ ?_⟩
  have:=q.2
  rwa [Bool.true_xor] at this
 ·obtain⟨p1,vs,e1,e2,e3⟩:=di ra
  obtain⟨p2,ws,f1,f2,f3⟩:=di rb
  rcases q with ⟨z,h1,h2⟩ | ⟨z,h2⟩
  ·subst z
   exact .inr (.inl ⟨p1,p2,vs,ws,e1,f1,.inr ⟨.of e2,.of f2⟩,qQ kX n h1 e3 f3,fin R hk bQ h2⟩)
  ·subst z
   have w:=f3.dw.mpr rfl
   subst w
   refine .inr (.inr (.inl ⟨p1,p2,vs,e1,f1,.of e2,.of f2,?_⟩))
   rw[Bool.true_xor] at h2
   rw[decide_eq_decide.mpr e3.dw]
   exact fin R hk bQ h2
 ·obtain⟨l,m,h1,h2,q⟩:=q
  obtain⟨p1,vs,e1,e2,e3⟩:=dz R ra h1
  obtain⟨p2,ws,f1,f2,f3⟩:=dz R rb h2
  rcases q with ⟨z,g1,g2⟩ | ⟨z,g2⟩
  ·subst z
   exact .inr (.inl ⟨p1,p2,vs,ws,e1,f1,.inl ⟨.of e2,.of f2⟩,qQ kX n g1 e3 f3,fin R hk bQ g2⟩)
  ·subst z
   have w:=f3.dw.mpr rfl
   subst w
   refine .inr (.inr (.inr ⟨p1,p2,vs,e1,f1,.of e2,.of f2,?_⟩))
   rw[Bool.true_xor] at g2
   rw[decide_eq_decide.mpr e3.dw]
   exact fin R hk bQ g2
theorem a07:Fd X (compareOp .In) (in3 false):=by
 refine jI Ji ?_
 rintro x y H Q ⟨ρ,S,a,b,k,R,ra,rb,⟨z,l,vs,h1,h2,h3,h4,q⟩,hk⟩
 subst h1
 obtain⟨p,us,e1,e2,e3⟩:=tS R rb h3
 obtain⟨f1,f2⟩:=yp h4 e3
 subst f1
 rw[bx ra]
 rw[Bool.false_xor] at q
 exact⟨p,us,e1,e2,h2,f2,fin R hk bQ q⟩
theorem HW:Fd X (compareOp .NotIn) (in3 true):=by
 refine jI BI ?_
 rintro x y H Q ⟨ρ,S,a,b,k,R,ra,rb,⟨z,l,vs,h1,h2,h3,h4,q⟩,hk⟩
 subst h1
 obtain⟨p,us,e1,e2,e3⟩:=tS R rb h3
 obtain⟨f1,f2⟩:=yp h4 e3
 subst f1
 rw[bx ra]
 rw[Bool.true_xor] at q
 exact⟨p,us,e1,e2,h2,f2,fin R hk bQ q⟩
end
section
variable {X:Cx}{a b c e:Expr}{ta tb:eY}{tA tB:vN}{rest:List Expr}{pos:Pos}
noncomputable def Wi (t u:vN):vN:=fun δ S k=>t δ S fun c S1=>if c=true then u δ S1 k else k false S1
noncomputable def a0E (t u:vN):vN:=fun δ S k=>t δ S fun c S1=>if c=true then k true S1 else u δ S1 k
noncomputable def V0 (t:vN):vN:=fun δ S k=>t δ S fun c S1=>k (!c) S1
theorem RY (ha:QT X a tA)(hb:QW X (.BoolOp .And (b::rest) pos) tB):QW X (.BoolOp .And (a::b::rest) pos) (Wi tA tB) :=
 Qp (Sd ha hb) (by rintro σ H Q ⟨ρ,S,δ,k,R,D,q,hk⟩;exact ⟨ρ,S,δ,_,R,D,q,(by
  rintro c H1 ⟨ρ1,S1,g1,R1,q1⟩
  cases c with
  | true=>exact⟨ρ1,S1,δ,k,R1,D.gr g1,q1,fun z H2 u=>hk z H2 (u.gr g1)⟩
  | false=>exact hk _ _ ⟨ρ1,S1,g1,R1,q1⟩)⟩)
theorem Aj (ha:QT X a tA)(hb:QW X (.BoolOp .Or (b::rest) pos) tB):QW X (.BoolOp .Or (a::b::rest) pos) (a0E tA tB) :=
 Qp (WL ha hb) (by rintro σ H Q ⟨ρ,S,δ,k,R,D,q,hk⟩;exact ⟨ρ,S,δ,_,R,D,q,(by
  rintro c H1 ⟨ρ1,S1,g1,R1,q1⟩
  cases c with
  | false=>exact⟨ρ1,S1,δ,k,R1,D.gr g1,q1,fun z H2 u=>hk z H2 (u.gr g1)⟩
  | true=>exact hk _ _ ⟨ρ1,S1,g1,R1,q1⟩)⟩)
theorem Oe (ha:QT X a tA):QW X (.BoolOp .And [a] pos) tA:=Oj ha
theorem tZ (ha:QT X a tA):QW X (.BoolOp .Or [a] pos) tA:=Sa ha
theorem qw (h:QW X e tA):QT X e tA:=h.pt
theorem FO (ha:QT X a tA):QT X (.UnaryOp .Not a pos) (V0 tA) :=
 Lr (Sf ha) (by rintro σ H Q ⟨ρ,S,δ,k,R,D,q,hk⟩;exact ⟨ρ,S,δ,_,R,D,q,(by rintro c H1 ⟨ρ1,S1,g1,R1,q1⟩;exact hk _ _ ⟨ρ1,S1,g1,R1,q1⟩)⟩)
theorem fK {t:eY}(h:QE X e t)(he:∀ whole,isTrue e X.env whole=(do let v <- whole;standAt e.pos;holding [v] (truthy v)):=by intro _;rfl):QT X e (Fo t):=Lr (Se h he) (Aa fun _ _ _ z=>z)
noncomputable def Hi:yL:=fun _ S k=>k [] S
noncomputable def RA (ta:eY)(tr:yL):yL:=fun δ S k=>ta δ S fun x S1=>tr δ S1 fun xs S2=>k (x::xs) S2
variable {es:List Expr}{te:eY}{t:yL}
theorem aa:QA X [] Hi:=Qu qO (by rintro σ H Q ⟨ρ,S,δ,k,R,D,q,hk⟩;exact hk _ _ ⟨ρ,S,[],.refl,R,.nil,q⟩)
theorem qa (ha:QE X e te)(hr:QA X es t)(h:notStar e=true:=by rfl):QA X (e::es) (RA te t) :=
 Qu (lH ha hr h) (by rintro σ H Q ⟨ρ,S,δ,k,R,D,q,hk⟩;exact ⟨ρ,S,δ,_,R,D,q,(by rintro v H1 ⟨ρ1,S1,d,g1,R1,r1,q1⟩;exact   ⟨ρ1,S1,δ,_,R1,D.gr g1,q1,(by rintro w H2 ⟨ρ2,S2,ds,g2,R2,r2,q2⟩;exact hk _ _ ⟨ρ2,S2,d::ds,g1.trans g2,R2,.cons (r1.gr g2) r2,q2⟩)⟩)⟩)
noncomputable def ts?:List D->Option (List T)
 | []=>some []
 | .t x::r=>match ts? r with
  | some l=>some (x::l)
  | none=>none
 | .ob _::_=>none
theorem AZ {K:PySem.W.Frag}{ρ:List Addr}{G:Hp}:∀ {ds:List D} {l:List T} {vs:List V},ts? ds=some l->eU K ρ G ds vs->bI K G l vs
 | [],l,_,e,.nil=>by
  have e:some []=some l:=e
  cases e
  exact .nil
 | .t x::r,l,_,e,.cons h t=>by
  cases q:ts? r with
  | none=>unfold ts? at e;rw[q] at e;cases e
  | some m =>
   unfold ts? at e;rw[q] at e
   have e:some (x::m)=some l:=e
   cases e
   exact .cons h (AZ q t)
 | .ob n::r,l,_,e,.cons h t=>by cases (show none=some l from e)
noncomputable def VV (t:yL):eY:=fun δ S k=>t δ S fun ds S1=>∃ l,ts? ds=some l/\l.length<=sizeLine/\k (.tup l) S1
noncomputable def V5 (t:yL):eY:=fun δ S k=>t δ S fun ds S1=>∃ l,ts? ds=some l/\l.length<=sizeLine/\k (.lst l) S1
noncomputable def V4 (t:yL):eY:=fun δ S k=>t δ S fun ds S1=>∃ l,ts? ds=some l/\l.length<=sizeLine/\k (.ob S1.length) (S1++[.lst l])
theorem ay {x1}(h:QA X es t):QE X (.Tuple es x1 pos) (VV t) :=
 cW (Su h) (by rintro σ H Q ⟨ρ,S,δ,k,R,D,q,hk⟩;exact ⟨ρ,S,δ,_,R,D,q,(by
  rintro vs H1 ⟨ρ1,S1,ds,g1,R1,r1,l,e,z,q1⟩
  have r2:=AZ e r1
  exact⟨by rw[<- r2.len];exact z,Pk R1 (fun v H' u=>hk v H' (u.gr g1)) r2 q1⟩)⟩)
theorem cA (h:QA X es t):QE X (.List es pos) (V5 t) :=
 cW (FT h) (by rintro σ H Q ⟨ρ,S,δ,k,R,D,q,hk⟩;exact ⟨ρ,S,δ,_,R,D,q,(by
  rintro vs H1 ⟨ρ1,S1,ds,g1,R1,r1,l,e,z,q1⟩
  have r2:=AZ e r1
  exact⟨by rw[<- r2.len];exact z,zC R1 (fun v H' u=>hk v H' (u.gr g1)) r2 q1⟩)⟩)
theorem jG (h:QA X es t):QE X (.List es pos) (V4 t) :=
 cW (FT h) (by rintro σ H Q ⟨ρ,S,δ,k,R,D,q,hk⟩;exact ⟨ρ,S,δ,_,R,D,q,(by
  rintro vs H1 ⟨ρ1,S1,ds,g1,R1,r1,l,e,z,q1⟩
  have r2:=AZ e r1
  exact⟨by rw[<- r2.len];exact z,Pn R1 (fun v H' u=>hk v H' (u.gr g1)) r2 q1⟩)⟩)
end
open Hw
noncomputable def iq (S:bB):D->Option (Addr×List Str×List D)
 | .t (.ins C ns l)=>some (C,ns,l.map .t)
 | .ob n=>match S[n]? with
  | some (.ins C ns l)=>some (C,ns,l)
  | _=>none
 | _=>none
theorem eU.len {K:PySem.W.Frag}{ρ:List Addr}{G:Hp}{l:List D}{vs:List V}(r:eU K ρ G l vs):l.length=vs.length:=Paired.length r
theorem eU.look {K:PySem.W.Frag}{ρ:List Addr}{G:Hp}:∀ {ns:List Str} {l:List D} {vs:List V} {f:Str} {x:D},eU K ρ G l vs->(ns.zip l).lookup f=some x->∃ v,(ns.zip vs).lookup f=some v/\j8 K ρ G x v
 | [],l,vs,f,x,_,k=>by simp at k
 | n::ns,[],vs,f,x,_,k=>by simp at k
 | n::ns,y::l,_,f,x,.cons (b:=v) (l₂:=vr) e2 e3,k=>by
  rw[List.zip_cons_cons,List.lookup_cons] at k
  rw[List.zip_cons_cons,List.lookup_cons]
  cases q:(f == n) with
  | true=>rw[q] at k;cases k;exact⟨v,rfl,e2⟩
  | false=>rw[q] at k;exact eU.look e3 k
section
variable {K:PySem.W.Frag}{ρ:List Addr}{S:bB}{H:Hp}
theorem Ck (R:R3 K ρ S H):∀ {d:D} {v:V} {C:Addr} {ns:List Str} {l:List D},j8 K ρ (res ρ H) d v->iq S d=some (C,ns,l) ->
  ∃ a dx vs,v=.ref a/\H a=some (.ins C dx (ns.zip vs))/\ns.length=vs.length/\fD K C ns/\eU K ρ (res ρ H) l vs
 | .t (.ins C' ns' l'),v,C,ns,l,r,e=>by
  have e:some (C',ns',l'.map D.t)=some (C,ns,l):=e
  cases e
  have r:Rp _ _ _ _:=r
  unfold Rp at r
  obtain⟨a,dx,vs,e1,e2,e3,e4,e5⟩:=r
  exact⟨a,dx,vs,e1,kX _ _ e2,e3,e4,eU.of e5⟩
 | .t (.v _),_,_,_,_,_,e=>nomatch e
 | .t (.tup _),_,_,_,_,_,e=>nomatch e
 | .t (.lst _),_,_,_,_,_,e=>nomatch e
 | .t (.HF _),_,_,_,_,_,e=>nomatch e
 | .ob n,v,C,ns,l,⟨a,ha,r⟩,e=>by
  have e:(match S[n]? with | some (.ins C ns l)=>some (C,ns,l) | _=>none)=some (C,ns,l):=e
  cases q:S[n]? with
  | none=>rw[q] at e;cases e
  | some o =>
   rw[q] at e
   cases o with
   | ins C' ns' m =>
    have e:some (C',ns',m)=some (C,ns,l):=e
    cases e
    obtain⟨dx,vs,h1,h2,h3,h4⟩:=R.ok n a _ ha q
    exact⟨a,dx,vs,r,h1,h2,h3,h4⟩
   | yX m=>cases e
   | lst m=>cases e
end
section
variable {X:Cx}{o e:Expr}{es:List Expr}{ta tv:eY}{t:yL}{f m:Str}{pos apos pos':Pos}
noncomputable def V9 (ta:eY)(f:Str):eY:=fun δ S k=>ta δ S fun d S1=>∃ C ns l x,iq S1 d=some (C,ns,l)/\(ns.zip l).lookup f=some x/\k x S1
theorem Ep {α:Type}:∀ {ns:List Str} {l:List α} {f:Str} {x:α},(ns.zip l).lookup f=some x->f∈ns
 | [],l,f,x,h=>by simp at h
 | n::ns,[],f,x,h=>by simp at h
 | n::ns,y::l,f,x,h=>by
  rw[List.zip_cons_cons,List.lookup_cons] at h
  cases q:(f == n) with
  | true=>exact List.mem_cons.mpr (.inl (eq_of_beq q))
  | false=>rw[q] at h;exact List.mem_cons_of_mem _ (Ep h)
theorem az (he:QE X e ta)(hb:attributeBase e f X.env (eval e X.env)=eval e X.env):QE X (.Attribute e f pos) (V9 ta f) :=
 cW (Sx he hb) (by rintro σ H Q ⟨ρ,S,δ,k,R,D,q,hk⟩;exact ⟨ρ,S,δ,_,R,D,q,(by
  rintro v H1 ⟨ρ1,S1,d,g1,R1,r1,C,ns,l,x,h1,h2,q1⟩
  obtain⟨a,dx,vs,e1,e2,e3,e4,e5⟩:=Ck R1 r1 h1
  obtain⟨w,e6,e7⟩:=eU.look e5 h2
  exact⟨a,C,dx,_,w,e1,e2,e4.cls,e4.no f (Ep h2),e6,hk _ _ ⟨ρ1,S1,x,g1,R1,e7,q1⟩⟩)⟩)
noncomputable abbrev cu:=List D->bB->KD->Prop
noncomputable def aQ (K:PySem.W.Frag)(sp:cu):Sp:=fun vs H Q _=>∃ ρ S ds k,R3 K ρ S H/\eU K ρ (res ρ H) ds vs/\sp ds S k/\∀ v H',up K ρ H k v H'->Q v H'
noncomputable def KC (sp:cu)(t:yL):eY:=fun δ S k=>t δ S fun ds S1=>sp ds S1 k
variable {k:Nat}{x:Str}{ps:List Str}{sp:cu}{p:Pos}{C:Addr}
theorem Mb {K:PySem.W.Frag}{ρ ρ1:List Addr}{S1:bB}{H H1:Hp}{kk:KD}{Q:VK}{E:XK}{ds:List D}{vs:List V}(g1:Gr ρ H ρ1 H1)(R1:R3 K ρ1 S1 H1)(r1:eU K ρ1 (res ρ1 H1) ds vs)(q1:sp ds S1 kk)(hk:∀ v H',up K ρ H kk v H'->Q v H'):aQ K sp vs H1 Q E :=
 ⟨ρ1,S1,ds,kk,R1,r1,q1,fun v H' u=>hk v H' (u.gr g1)⟩
theorem ai (F:Dn X.prog X.w X.K X.mg X.base k x ps (aQ X.K sp))(hr:dg k X.A)(hg:Gl X x)(ha:QA X (e::es) t)(h1:notStar e=true:=by rfl)(h2:es.all notStar=true:=by rfl)(hdb:(x == ("__debug__":Str))=false:=by decide) :
  QE X (.Call (.Name x p) (e::es) [] pos) (KC sp t):=by
 obtain⟨f,fd,F,hm,hk,hb⟩:=F
 refine cW (LC F hr hg hm hk hb .nil An ha h1 h2 hdb) fun σ H Q ⟨ρ,S,δ,k,R,D,q,hk⟩=>⟨ρ,S,δ,_,R,D,q,fun v H1 ⟨ρ1,S1,d,g1,R1,r1,q1⟩=>?_⟩
 show aQ X.K sp (v++[]) H1 Q E0
 rw[List.append_nil]
 exact Mb g1 R1 r1 q1 hk
noncomputable def Ms (P:Program)(w:World)(K:PySem.W.Frag)(mg:Str->Option Value)(base:Heap)(k:Nat)(n:Nat)(cl:Nat->Addr)(m:Str)(ps:List Str)(sp:Nat->cu):Prop :=
 ∀ j,j < n->Mt P w K mg base k (cl j) m ps (aQ K (sp j))
noncomputable def Kw (n:Nat)(cl:Nat->Addr)(m:Str)(sp:Nat->cu)(ta:eY)(t:yL):eY:=fun δ S k=>ta δ S fun d S1=>∃ j ns l,j < n/\iq S1 d=some (cl j,ns,l)/\ns.contains m=false/\t δ S1 fun ds S2=>sp j (d::ds) S2 k
variable {n:Nat}{cl:Nat->Addr}{RI:Nat->cu}
theorem xW {ns:List Str}{vs:List V}(h:ns.contains m=false):(ns.zip vs).lookup m=none:=bI.xW (by
 intro z
 rw[List.contains_iff_mem.mpr z] at h
 cases h)
theorem fL {pl:Sem Bool}(he:QE X o ta)(M:Ms X.prog X.w X.K X.mg X.base k n cl m ps RI)(hr:dg k X.A)(ha:QA X (e::es) t)(h1:notStar e=true:=by rfl)(h2:es.all notStar=true:=by rfl)
  (ht:eval (.Call (.Attribute o m apos) (e::es) [] pos) X.env=(do
   let ov <- eval o X.env
   standAt apos.atName
   let (f,first) <- holding [ov] (getMethod ov m pl)
   callWith pos f first (backTo pos (starEach (e::es) X.env)) (backToKw pos (keywordEach [] X.env))):=by rfl) :
  QE X (.Call (.Attribute o m apos) (e::es) [] pos) (Kw n cl m RI ta t):=by
 rintro pins s σ H Q I ⟨ρ,S,δ,k,R,D,q,hk⟩
 refine PySem.W.methodCall_KW (pl:=pl) (eK (he pins s σ H _ I ⟨ρ,S,δ,_,R,D,q,fun v H' z=>z⟩) ?_) ht
 rintro u s1 ⟨x,H1,I1,rx,ρ1,S1,d,g1,R1,r1,j,ns,l,hj,i1,hm0,q1⟩
 obtain⟨a,dx,vs,e1,e2,e3,e4,e5⟩:=Ck R1 r1 i1
 subst e1
 obtain rfl:u=Value.ref a:=rx
 obtain⟨f,fd,F,hm,hb⟩:=M j hj
 refine yk I1 e2 e4.cls hm (xW hm0) ?_
 refine PySem.W.callWith_K (first:=[.ref a]) (h₀:=X.base) I.ok.mod.Vz hm.kp (eK (ha pos pins s1 σ H1 _ I1 ⟨ρ1,S1,δ,_,R1,D.gr g1,q1,fun v H' z=>z⟩) ?_) (gM h1) (iB h2)
 rintro us s2 ⟨ws,H2,I2,r,ρ2,S2,ds,g2,R2,r2,q2⟩
 refine⟨I2.tO,BB (us:=.ref a::us) (vs:=.ref a::ws) F hr hb .nil An I2 (.cons rfl r) ?_⟩
 rw[List.append_nil]
 exact⟨ρ2,S2,d::ds,k,R2,.cons (r1.gr g2) r2,q2,fun v H' u=>hk v H' (u.gr (g1.trans g2))⟩
theorem aT {pl:Sem Bool}(he:QE X o ta)(M:Ms X.prog X.w X.K X.mg X.base k n cl m ps RI)(hr:dg k X.A)
  (ht:eval (.Call (.Attribute o m apos) [] [] pos) X.env=(do
   let ov <- eval o X.env
   standAt apos.atName
   let (f,first) <- holding [ov] (getMethod ov m pl)
   callWith pos f first (backTo pos (starEach [] X.env)) (backToKw pos (keywordEach [] X.env))):=by rfl) :
  QE X (.Call (.Attribute o m apos) [] [] pos) (Kw n cl m RI ta Hi):=by
 rintro pins s σ H Q I ⟨ρ,S,δ,k,R,D,q,hk⟩
 refine PySem.W.methodCall_KW (pl:=pl) (eK (he pins s σ H _ I ⟨ρ,S,δ,_,R,D,q,fun v H' z=>z⟩) ?_) ht
 rintro u s1 ⟨x,H1,I1,rx,ρ1,S1,d,g1,R1,r1,j,ns,l,hj,i1,hm0,q1⟩
 obtain⟨a,dx,vs,e1,e2,e3,e4,e5⟩:=Ck R1 r1 i1
 subst e1
 obtain rfl:u=Value.ref a:=rx
 obtain⟨f,fd,F,hm,hb⟩:=M j hj
 refine yk I1 e2 e4.cls hm (xW hm0) ?_
 refine PySem.W.callWith_K0 (first:=[.ref a]) I1.tO hm.kp (BB (us:=[.ref a]) (vs:=[.ref a]) F hr hb .nil An I1 (.cons rfl .nil) ?_)
 exact⟨ρ1,S1,[d],k,R1,.cons r1 .nil,q1,fun v H' u=>hk v H' (u.gr g1)⟩
end
noncomputable def VM (n:Nat):D->Prop
 | .t _=>True
 | .ob m=>m < n
noncomputable def Cw (n:Nat):O->Prop
 | .ins _ _ l=>∀ d∈l,VM n d
 | _=>True
section
variable {K:PySem.W.Frag}{ρ e:List Addr}{S:bB}{H:Hp}{G G':Hp}
theorem n8 {α β:Type}{F:α->β->Prop}:∀ {l:List α} {m:List β},Paired F l m->∀ a∈l,∃ b,F a b
 | _,_,.nil,a,h=>nomatch h
 | _,_,.cons r t,a,h=>by
  rcases List.mem_cons.mp h with rfl | h
  ·exact⟨_,r⟩
  ·exact n8 t a h
theorem j8.cl {d:D}{w:V}(r:j8 K ρ G d w):VM ρ.length d:=by
 cases d with
 | t x=>trivial
 | ob n=>obtain⟨a,h,_⟩:=r;exact(List.getElem?_eq_some_iff.mp h).1
theorem GW.cl {h:Option HO}:∀ {o:O},GW K ρ G h o->Cw ρ.length o
 | .lst l,_=>trivial
 | .yX l,_=>trivial
 | .ins C ns l,⟨dx,vs,_,_,_,r⟩=>fun d hd=>let ⟨_,q⟩:=n8 r d hd;q.cl
theorem R3.cl (r:R3 K ρ S H):∀ o∈S,Cw S.length o:=fun o ho=>by
 obtain⟨n,hn⟩:=List.mem_iff_getElem?.mp ho
 have hl:n < ρ.length:=by rw[r.len];exact(List.getElem?_eq_some_iff.mp hn).1
 rw[<- r.len]
 exact(r.ok n ρ[n] o (List.getElem?_eq_getElem hl) hn).cl
theorem j8.pop (le:Le G G'){d:D}{w:V}(r:j8 K (ρ++e) G d w)(c:VM ρ.length d):j8 K ρ G' d w:=by
 cases d with
 | t x=>exact Rp.le le r
 | ob n =>
  obtain⟨a,h,q⟩:=r
  refine⟨a,?_,q⟩
  rw[List.getElem?_append_left (show n < ρ.length from c)] at h
  exact h
theorem uY {α β:Type}{F F':α->β->Prop}:∀ {l:List α} {m:List β},(∀ a∈l,∀ b,F a b->F' a b)->Paired F l m->Paired F' l m
 | _,_,_,.nil=>.nil
 | _,_,h,.cons r t=>.cons (h _ List.mem_cons_self _ r) (uY (fun a ha b=>h a (List.mem_cons_of_mem _ ha) b) t)
theorem GW.pop (le:Le G G'){h:Option HO}:∀ {o:O},GW K (ρ++e) G h o->Cw ρ.length o->GW K ρ G' h o
 | .lst l,⟨vs,e1,e2⟩,_=>⟨vs,e1,e2.le le⟩
 | .yX l,⟨vs,e1,e2⟩,_=>⟨vs,e1,jH (fun _ _ z=>⟨z.1,z.2.le le⟩) e2⟩
 | .ins C ns l,⟨dx,vs,e1,e2,e3,e4⟩,c=>⟨dx,vs,e1,e2,e3,uY (fun a ha b z=>z.pop le (c a ha)) e4⟩
theorem mX:Le (res (ρ++e) H) (res ρ H):=fun a o h=>by
 obtain⟨h1,h2⟩:=res_some h
 exact nY (fun z=>h1 (List.mem_append_left _ z)) h2
theorem R3.pop {S':bB}(r:R3 K (ρ++e) (S++S') H)(hl:ρ.length=S.length)(c:∀ o∈S,Cw S.length o):R3 K ρ S H:=by
 refine⟨hl,(List.nodup_append.mp r.nd).1,fun n a o h1 h2=>?_⟩
 have l1:=(List.getElem?_eq_some_iff.mp h1).1
 have l2:=(List.getElem?_eq_some_iff.mp h2).1
 have q:=r.ok n a o (by rw[List.getElem?_append_left l1];exact h1) (by rw[List.getElem?_append_left l2];exact h2)
 exact q.pop mX (by rw[hl];exact c o (List.mem_of_getElem? h2))
end
section
variable {X:Cx}{o e:Expr}{es:List Expr}{ta tv:eY}{t:yL}{f m x:Str}{pos apos pos' p:Pos}{k:Nat}{ps:List Str}{sp:cu}{C:Addr}
structure Mkr (P:Program)(w:World)(K:PySem.W.Frag)(mg:Str->Option Value)(base:Heap)(k:Nat)(C:Addr)(x:Str)(ps:List Str)(sp:cu):Prop where
 mr:Mr P w K mg base k C ps (aQ K sp)
 ok:fD K C []
 mg:mg x=some (.ref C)
noncomputable def Qw (C:Addr)(S1:bB)(k:KD)(d:D)(S2:bB):Prop:=d=.dR/\∃ ns l,S2=S1++[.ins C ns (l.map .t)]/\k (.t (.ins C ns l)) S1
noncomputable def Kz (C:Addr)(sp:cu)(t:yL):eY:=fun δ S k=>t δ S fun ds S1=>sp (.ob S1.length::ds) (S1++[.ins C [] []]) (Qw C S1 k)
noncomputable def Ky (C:Addr)(sp:cu)(t:yL):eY:=fun δ S k=>t δ S fun ds S1=>sp (.ob S1.length::ds) (S1++[.ins C [] []]) fun d S2=>d=.dR/\k (.ob S1.length) S2
theorem xX {K:PySem.W.Frag}{ρ:List Addr}{S:bB}{H:Hp}(R:R3 K ρ S H)(ok:fD K C []){x dx:Addr}(hx:H x=none)(hd:H dx=none)(ne:dx≠x) :
  R3 K (ρ++[x]) (S++[.ins C [] []]) (upd (upd H dx (.own x)) x (.ins C dx []))/\Gr ρ H (ρ++[x]) (upd (upd H dx (.own x)) x (.ins C dx [])):=by
 obtain⟨R1,g1,_⟩:=R.new (o:=.own x) hd
 have hx1:upd H dx (.own x) x=none:=by rw[bf (Ne.symm ne)];exact hx
 obtain⟨R2,g2⟩:=R1.push (o:=.ins C dx []) (u:=.ins C [] []) hx1 ⟨dx,[],rfl,rfl,ok,.nil⟩
 exact⟨R2,g1.trans g2⟩
theorem R8 (F:Mkr X.prog X.w X.K X.mg X.base k C x ps sp)(hr:dg (k+1) X.A)(hg:Gl X x)(ha:QA X (e::es) t)(h1:notStar e=true:=by rfl)(h2:es.all notStar=true:=by rfl)(hdb:(x == ("__debug__":Str))=false:=by decide) :
  QE X (.Call (.Name x p) (e::es) [] pos) (Kz C sp t):=by
 obtain⟨f,fd,F',hM,hb⟩:=F.mr
 refine cW (D4 hM F' hr hg F.mg hb .nil An ha h1 h2 hdb) fun σ H Q ⟨ρ,S,δ,k,R,D,q,hk⟩=>⟨ρ,S,δ,_,R,D,q,fun vs H1 ⟨ρ1,S1,ds,g1,R1,r1,q1⟩ y dy hy hdy ne=>?_⟩
 obtain⟨R2,g2⟩:=xX R1 F.ok hy hdy ne
 refine⟨ρ1++[y],S1++[.ins C [] []],.ob S1.length::ds,_,R2,.cons ⟨y,by rw[<- R1.len];simp,rfl⟩ ?_,q1,?_⟩
 ·rw[List.append_nil];exact r1.gr g2
 ·rintro v H3 ⟨ρ3,S3,d,g3,yM,r3,rfl,ns,l,rfl,q3⟩
  refine⟨bx r3,?_⟩
  have hρ:ρ3=ρ1++[y]:=by
   obtain⟨ex,he⟩:=g3.ext
   have:=yM.len
   rw[he] at this
   simp only[List.length_append,List.length_singleton] at this
   have l0:=R1.len
   have:ex=[]:=List.length_eq_zero_iff.mp (by omega)
   rw[he,this,List.append_nil]
  subst hρ
  have R4:R3 X.K ρ1 S1 H3:=yM.pop R1.len R1.cl
  have g4:Gr ρ1 H1 ρ1 H3:=⟨⟨[],by simp⟩,(g2.le.trans g3.le).trans mX⟩
  refine hk _ _ ⟨ρ1,S1,.t (.ins C ns l),g1.trans g4,R4,?_,q3⟩
  obtain⟨dx,ws,h3,h4,h5,h6⟩:=yM.ok S1.length y (.ins C ns (l.map .t)) (by rw[<- R1.len];simp) (by simp)
  show Rp _ _ _ _
  unfold Rp
  have ny:y ∉ ρ1:=R1.fresh hy
  exact⟨y,dx,ws,rfl,nY ny h3,h4,h5,(eU.t h6).le mX⟩
theorem Oh (F:Mkr X.prog X.w X.K X.mg X.base k C x ps sp)(hr:dg (k+1) X.A)(hg:Gl X x)(ha:QA X (e::es) t)(h1:notStar e=true:=by rfl)(h2:es.all notStar=true:=by rfl)(hdb:(x == ("__debug__":Str))=false:=by decide) :
  QE X (.Call (.Name x p) (e::es) [] pos) (Ky C sp t):=by
 obtain⟨f,fd,F',hM,hb⟩:=F.mr
 refine cW (D4 hM F' hr hg F.mg hb .nil An ha h1 h2 hdb) fun σ H Q ⟨ρ,S,δ,k,R,D,q,hk⟩=>⟨ρ,S,δ,_,R,D,q,fun vs H1 ⟨ρ1,S1,ds,g1,R1,r1,q1⟩ y dy hy hdy ne=>?_⟩
 obtain⟨R2,g2⟩:=xX R1 F.ok hy hdy ne
 refine⟨ρ1++[y],S1++[.ins C [] []],.ob S1.length::ds,_,R2,.cons ⟨y,by rw[<- R1.len];simp,rfl⟩ ?_,q1,?_⟩
 ·rw[List.append_nil];exact r1.gr g2
 ·rintro v H3 ⟨ρ3,S3,d,g3,yM,r3,rfl,q3⟩
  refine⟨bx r3,hk _ _ ⟨ρ3,S3,.ob S1.length,(g1.trans g2).trans g3,yM,⟨y,?_,rfl⟩,q3⟩⟩
  exact g3.at (by rw[<- R1.len];simp)
noncomputable def pN (f:Str):List Str->List Str
 | []=>[f]
 | g::r=>if g=f then g::r else g::pN f r
noncomputable def pD {α:Type}(f:Str)(y:α):List Str->List α->List α
 | [],_=>[y]
 | _::_,[]=>[]
 | g::r,x::l=>if g=f then y::l else x::pD f y r l
theorem DY (f:Str)(y:V):∀ {ns:List Str} {vs:List V},ns.length=vs.length->nF f y (ns.zip vs)=(pN f ns).zip (pD f y ns vs)/\(pN f ns).length=(pD f y ns vs).length
 | [],[],_=>⟨rfl,rfl⟩
 | [],_::_,h=>by simp at h
 | _::_,[],h=>by simp at h
 | g::ns,v::vs,h=>by
  have h':ns.length=vs.length:=by simpa using h
  obtain⟨i1,i2⟩:=DY f y h'
  rw[List.zip_cons_cons]
  unfold nF pN pD
  by_cases e:g=f
  ·rw[if_pos e,if_pos e,if_pos e];exact⟨rfl,by simpa using h'⟩
  ·rw[if_neg e,if_neg e,if_neg e,i1];exact⟨rfl,by simpa using i2⟩
theorem LG {K:PySem.W.Frag}{ρ:List Addr}{G:Hp}{d:D}{v:V}(r:j8 K ρ G d v):∀ {ns:List Str} {l:List D} {vs:List V},eU K ρ G l vs->eU K ρ G (pD f d ns l) (pD f v ns vs)
 | [],_,_,_=>by unfold pD;exact .cons r .nil
 | _::_,[],_,.nil=>by unfold pD;exact .nil
 | g::ns,_::_,_,.cons h t=>by
  unfold pD
  by_cases e:g=f
  ·rw[if_pos e,if_pos e];exact .cons r t
  ·rw[if_neg e,if_neg e];exact .cons h (LG r t)
theorem LF {g:Str}:∀ {ns:List Str},g∈pN f ns->g=f∨g∈ns
 | [],h=>.inl (List.mem_singleton.mp h)
 | n::ns,h=>by
  unfold pN at h
  by_cases e:n=f
  ·rw[if_pos e] at h;exact .inr h
  ·rw[if_neg e] at h
   rcases List.mem_cons.mp h with h | h
   ·exact .inr (List.mem_cons.mpr (.inl h))
   ·rcases LF h with h | h
    ·exact .inl h
    ·exact .inr (List.mem_cons_of_mem _ h)
noncomputable def Wu (K:PySem.W.Frag)(ta tv:eY)(f:Str):wI:=fun E δ S=>tv δ S fun y S1=>ta δ S1 fun x S2=>∃ n C ns l,x=.ob n/\S2[n]?=some (.ins C ns l)/\aK K C f/\ns.length < 1000/\E.nx δ (S2.set n (.ins C (pN f ns) (pD f y ns l)))
theorem bu {value:Expr}(ha:QE X o ta)(hv:QE X value tv)(hs:swapsWith value (some (.Attribute o f pos')) pos.line X.env=pure false):QS X (.Assign [.Attribute o f pos'] value pos) (Wu X.K ta tv f) :=
 qv (Sn ha hv hs) fun D σ H ⟨ρ,S,δ,E,R,RS,q,eu⟩=>⟨ρ,S,δ,_,R,RS,q,fun v H1 ⟨ρ1,S1,d,g1,R1,r1,q1⟩=>⟨ρ1,S1,δ,_,R1,RS.gr g1,q1,(by
  rintro w H2 ⟨ρ2,S2,d2,g2,R2,r2,n,C,ns,l,h1,h2,h3,h4,q2⟩
  subst h1
  obtain⟨a,ha,e⟩:=r2
  obtain⟨dx,vs,e1,e2,e3,e4⟩:=R2.ok n a _ ha h2
  refine⟨a,C,dx,ns.zip vs,e,e1,e3.cls,h3,by rw[List.length_zip];omega,?_⟩
  obtain⟨i1,i2⟩:=DY f v e2
  rw[i1]
  obtain⟨R4,g4⟩:=R2.put (o:=.ins C dx ((pN f ns).zip (pD f v ns vs))) (u:=.ins C (pN f ns) (pD f d ns l)) ha
   ⟨dx,_,rfl,i2,⟨e3.cls,fun g hg=>by rcases LF hg with z | z;rw[z];exact h3;exact e3.no g z,e3.ca,e3.cg,e3.ct,e3.cm⟩,LG (r1.gr g2) e4⟩
  exact eu.nx _ _ ⟨ρ2,_,δ,(g1.trans g2).trans g4,R4,(RS.gr (g1.trans g2)).gr g4,q2⟩)⟩⟩
end
noncomputable abbrev Na:=List D->bB->KD->Prop
noncomputable def liC (K:PySem.W.Frag)(r:Na):List V->Hp->VK->Prop:=fun vs H Q=>∃ ρ S ds k,R3 K ρ S H/\eU K ρ (res ρ H) ds vs/\r ds S k/\∀ v H',up K ρ H k v H'->Q v H'
noncomputable def Call3 (X:Cx)(f:Value)(r:Na):Prop:=fE X f (liC X.K r)
theorem nc {X:Cx}{f:Value}{r r':List V->Hp->VK->Prop}(h:fE X f r)(m:∀ vs H Q,r' vs H Q->r vs H Q):fE X f r':=fun pins s σ H xs us Q I rx q=>h pins s σ H xs us Q I rx (m _ _ _ q)
theorem eU.one {K:PySem.W.Frag}{ρ:List Addr}{G:Hp}{d:D}{vs:List V}(r:eU K ρ G [d] vs):∃ v,vs=[v]/\j8 K ρ G d v:=by
 cases r with
 | cons h t=>cases t;exact⟨_,rfl,h⟩
theorem eU.two {K:PySem.W.Frag}{ρ:List Addr}{G:Hp}{d e:D}{vs:List V}(r:eU K ρ G [d,e] vs):∃ v w,vs=[v,w]/\j8 K ρ G d v/\j8 K ρ G e w:=by
 cases r with
 | cons h t =>
  cases t with
  | cons h2 t2=>cases t2;exact⟨_,_,rfl,h,h2⟩
noncomputable def Tj:Na
 | [.t (.v (.str z))],S,k=>z.length<=sizeLine/\k (.int z.length) S
 | [d],S,k=>∃ l,sq S d=some l/\k (.int l.length) S
 | _,_,_=>False
noncomputable def Ks:Na
 | [d],S,k=>∃ l,sq S d=some l/\k (.tup l) S
 | _,_,_=>False
noncomputable def QB:Na
 | [d],S,k=>∃ l,sq S d=some l/\k (.lst l) S
 | _,_,_=>False
noncomputable def Qz:Na
 | [d],S,k=>∃ l,sq S d=some l/\k (.ob S.length) (S++[.lst l])
 | _,_,_=>False
noncomputable def Yv:Na
 | [.t (.v (.int i))],S,k=>k (.int i) S
 | [.t (.v (.bl b))],S,k=>k (.int (if b then 1 else 0)) S
 | _,_,_=>False
section
variable {X:Cx}{x:Str}{p pos apos cpos:Pos}{e o:Expr}{es:List Expr}{t:yL}{to:eY}{id ty:String}{r:Na}
theorem bI.strs {K:PySem.W.Frag}{G:Hp}:∀ {ns:List Str} {vs:List V},bI K G (ns.map T.str) vs->vs=ns.map V.str
 | [],vs,r=>by unfold bI at r;exact r
 | n::ns,vs,r=>by
  rw[List.map_cons] at r
  unfold bI at r
  obtain⟨v,vr,e1,e2,e3⟩:=r
  unfold Rp at e2
  rw[e1,e2,bI.strs e3];rfl
theorem bI.ofStrs {K:PySem.W.Frag}{G:Hp}:∀ (ns:List Str),bI K G (ns.map T.str) (ns.map V.str)
 | []=>.nil
 | n::ns=>.cons (by unfold Rp;rfl) (bI.ofStrs ns)
noncomputable def RB (r:Na)(t:yL):eY:=fun δ S k=>t δ S fun ds S1=>r ds S1 k
theorem II:∀ σ H Q,li X.K (RB r t) σ H Q->Wd (liC X.K r) (liA X.K t) σ H Q:=(by rintro σ H Q ⟨ρ,S,δ,k,R,D,q,hk⟩;exact  ⟨ρ,S,δ,_,R,D,q,(by rintro v H1 ⟨ρ1,S1,d,g1,R1,r1,q1⟩;exact ⟨ρ1,S1,d,k,R1,r1,q1,fun w H2 u=>hk w H2 (u.gr g1)⟩)⟩)
theorem bz (hc:Call3 X (.builtin id) r)(hg:Gl X x)(hm:X.mg x=none)(hv:bootBuiltins x=some (.builtin id))(ha:QA X (e::es) t)(h1:notStar e=true:=by rfl)(h2:es.all notStar=true:=by rfl)(hn:x≠"__name__":=by decide)(hdb:(x == ("__debug__":Str))=false:=by decide) :
  QE X (.Call (.Name x p) (e::es) [] pos) (RB r t):=cW (uc hc hg hm hv ha h1 h2 hn hdb) II
theorem bh (hc:Call3 X (.type ty) r)(hg:Gl X x)(hm:X.mg x=none)(hv:bootBuiltins x=some (.type ty))(ha:QA X (e::es) t)(h1:notStar e=true:=by rfl)(h2:es.all notStar=true:=by rfl)(hn:x≠"__name__":=by decide)(hdb:(x == ("__debug__":Str))=false:=by decide) :
  QE X (.Call (.Name x p) (e::es) [] pos) (RB r t):=cW (m5 hc hg hm hv ha h1 h2 hn hdb) II
theorem nD:Call3 X (.builtin "len") Tj:=by
 refine nc (CB.or CC) ?_
 rintro vs H Q ⟨ρ,S,ds,k,R,rd,q,hk⟩
 unfold Tj at q
 split at q
 ·obtain⟨v,rfl,rv⟩:=rd.one
  rw[bx rv]
  exact .inl ⟨_,rfl,q.1,fin R hk bQ q.2⟩
 ·obtain⟨v,rfl,rv⟩:=rd.one
  obtain⟨l,h1,h2⟩:=q
  obtain⟨a,us,e1,e2,e3⟩:=tS R rv h1
  refine .inr ⟨a,us,by rw[e1],e2,?_⟩
  rw[<- e3.len]
  exact fin R hk bQ h2
 ·exact q.elim
theorem Ku {K:PySem.W.Frag}{ρ:List Addr}{S:bB}{H:Hp}(R:R3 K ρ S H):∀ {d:D} {v:V} {l:List T},j8 K ρ (res ρ H) d v->sq S d=some l ->
  (∃ a vs,v=.ref a/\nH K H a vs/\bI K (res ρ H) l vs)∨(d=.tup l/\∃ a vs,v=.ref a/\qh K H a vs)
 | .t (.tup m),v,l,r,e=>by
  have e:some m=some l:=e
  cases e
  obtain⟨a,vs,e1,e2,e3⟩:=di r
  exact .inr ⟨rfl,a,vs,e1,.of e2⟩
 | .t (.HF m),v,l,r,e=>by
  have e:some m=some l:=e
  cases e
  have r:Rp _ _ _ _:=r
  unfold Rp at r
  obtain⟨a,vs,e1,e2,e3⟩:=r
  exact .inl ⟨a,vs,e1,Fv kX e2,e3⟩
 | .t (.lst m),v,l,r,e=>by
  obtain⟨a,vs,e1,e2,e3⟩:=dz R r (show lq S (.t (.lst m))=some l from e)
  exact .inl ⟨a,vs,e1,.of e2,e3⟩
 | .t (.v _),_,_,_,e=>nomatch e
 | .t (.ins _ _ _),_,_,_,e=>nomatch e
 | .ob n,v,l,r,e=>by
  obtain⟨a,vs,e1,e2,e3⟩:=dz R r (show lq S (.ob n)=some l from e)
  exact .inl ⟨a,vs,e1,.of e2,e3⟩
theorem bX:Call3 X (.type "tuple") Ks:=by
 refine nc zE ?_
 rintro vs H Q ⟨ρ,S,ds,k,R,rd,q,hk⟩
 unfold Ks at q
 split at q
 ·obtain⟨v,rfl,rv⟩:=rd.one
  obtain⟨l,h1,h2⟩:=q
  rcases Ku R rv h1 with ⟨a,us,e1,e2,e3⟩ | ⟨hd,a,us,e1,e2⟩
  ·exact⟨a,us,by rw[e1],.inl ⟨e2,Pk R hk e3 h2⟩⟩
  ·subst hd
   refine⟨a,us,by rw[e1],.inr ⟨e2,?_⟩⟩
   rw[<- e1]
   exact fin R hk rv h2
 ·exact q.elim
theorem Vk:Call3 X (.type "list") QB:=by
 refine nc sR ?_
 rintro vs H Q ⟨ρ,S,ds,k,R,rd,q,hk⟩
 unfold QB at q
 split at q
 ·obtain⟨v,rfl,rv⟩:=rd.one
  obtain⟨l,h1,h2⟩:=q
  obtain⟨a,us,e1,e2,e3⟩:=tS R rv h1
  exact⟨a,us,by rw[e1],e2,zC R hk e3 h2⟩
 ·exact q.elim
theorem Px:Call3 X (.type "list") Qz:=by
 refine nc sR ?_
 rintro vs H Q ⟨ρ,S,ds,k,R,rd,q,hk⟩
 unfold Qz at q
 split at q
 ·obtain⟨v,rfl,rv⟩:=rd.one
  obtain⟨l,h1,h2⟩:=q
  obtain⟨a,us,e1,e2,e3⟩:=tS R rv h1
  exact⟨a,us,by rw[e1],e2,Pn R hk e3 h2⟩
 ·exact q.elim
theorem M6:Call3 X (.type "int") Yv:=by
 refine nc JV ?_
 rintro vs H Q ⟨ρ,S,ds,k,R,rd,q,hk⟩
 unfold Yv at q
 split at q
 ·obtain⟨v,rfl,rv⟩:=rd.one
  rw[bx rv]
  exact .inl ⟨_,rfl,fin R hk bQ q⟩
 ·obtain⟨v,rfl,rv⟩:=rd.one
  rw[bx rv]
  exact .inr ⟨_,rfl,fin R hk bQ q⟩
 ·exact q.elim
noncomputable def tyT:T->Option Value
 | .v .dR=>some (.type "NoneType")
 | .v (.bl _)=>some (.type "bool")
 | .v (.int _)=>some (.type "int")
 | .v (.str _)=>some (.type "str")
 | .tup _=>some (.type "tuple")
 | .lst _=>some (.type "list")
 | .ins C _ _=>some (.ref C)
 | _=>none
noncomputable def VR (S:bB):D->Option Value
 | .t x=>tyT x
 | .ob n=>match S[n]? with
  | some (.lst _)=>some (.type "list")
  | some (.ins C _ _)=>some (.ref C)
  | some (.yX _)=>some (.type "dict")
  | none=>none
theorem NO {K:PySem.W.Frag}{ρ:List Addr}{S:bB}{H:Hp}(R:R3 K ρ S H){d:D}{v:V}{u:Value}(r:j8 K ρ (res ρ H) d v)(e:VR S d=some u):sY K H v u:=by
 cases d with
 | t x =>
  have e:tyT x=some u:=e
  cases x with
  | v y =>
   rw[bx r]
   cases y with
   | dR=>cases e;exact .dR
   | bl b=>cases e;exact .bl b
   | int i=>cases e;exact .int i
   | str z=>cases e;exact .str z
   | _=>cases e
  | tup l=>obtain⟨a,vs,e1,e2,e3⟩:=di r;cases e;rw[e1];exact .tup e2
  | lst l=>obtain⟨a,vs,e1,e2,e3⟩:=dz R r rfl;cases e;rw[e1];exact .lst e2
  | HF l=>cases e
  | ins C ns l=>obtain⟨a,dx,vs,e1,e2,e3,e4,e5⟩:=Ck R r rfl;cases e;rw[e1];exact .ins e2 e4.cls e4.ca e4.cg e4.ct e4.cm
 | ob n =>
  have e:(match S[n]? with | some (.lst _)=>some (Value.type "list") | some (.ins C _ _)=>some (.ref C) | some (.yX _)=>some (.type "dict") | none=>none)=some u:=e
  obtain⟨a,ha,rfl⟩:=r
  cases q:S[n]? with
  | none=>rw[q] at e;cases e
  | some o =>
   rw[q] at e
   have z:=R.ok n a o ha q
   cases o with
   | lst l=>obtain⟨vs,h1,h2⟩:=z;cases e;exact .lst h1
   | yX l=>obtain⟨vs,h1,h2⟩:=z;cases e;exact .dK h1
   | ins C ns l=>obtain⟨dx,vs,h1,h2,h3,h4⟩:=z;cases e;exact .ins h1 h3.cls h3.ca h3.cg h3.ct h3.cm
noncomputable def Yt (K:PySem.W.Frag)(c:V)(u:Value):Na
 | [d,.t (.v c')],S,k=>c'=c/\∃ t b,VR S d=some t/\PySem.W.kitOne K t u=some b/\k (.bl b) S
 | _,_,_=>False
theorem kP {c:V}{u:Value}(hc:match c with | .ref _=>True | .ty _=>True | _=>False)(ru:RelV c u):Call3 X (.builtin "isinstance") (Yt X.K c u):=by
 refine nc (M4 hc) ?_
 rintro vs H Q ⟨ρ,S,ds,k,R,rd,q,hk⟩
 unfold Yt at q
 split at q
 ·obtain⟨v,w,rfl,rv,rw'⟩:=rd.two
  obtain⟨rfl,t,b,h1,h2,h3⟩:=q
  rw[bx rw']
  exact⟨v,t,u,b,rfl,NO R rv h1,ru,h2,fin R hk bQ h3⟩
 ·exact q.elim
end
noncomputable abbrev PM:=D->List D->bB->KD->Prop
noncomputable def OZ (K:PySem.W.Frag)(r:PM):V->List V->Hp->VK->Prop:=fun v vs H Q=>∃ ρ S d ds k,R3 K ρ S H/\j8 K ρ (res ρ H) d v/\eU K ρ (res ρ H) ds vs/\r d ds S k/\∀ v H',up K ρ H k v H'->Q v H'
noncomputable def xq (S:bB):D->Option (List T)
 | .t (.tup l)=>some l
 | d=>lq S d
noncomputable def Vp:PM
 | .ob n,[.t x],S,k=>∃ l,S[n]?=some (.lst l)/\l.length < sizeLine/\k .dR (S.set n (.lst (l++[x])))
 | _,_,_,_=>False
noncomputable def ext3:PM
 | .ob n,[d],S,k=>∃ l m,S[n]?=some (.lst l)/\xq S d=some m/\l.length+m.length<=sizeLine/\k .dR (S.set n (.lst (l++m)))
 | _,_,_,_=>False
noncomputable def UR:PM
 | .ob n,[.t (.v (.int i)),.t x],S,k=>∃ (l:List T) (j:Nat),S[n]?=some (.lst l)/\i=j/\j<=l.length/\l.length < sizeLine/\k .dR (S.set n (.lst (l.take j++[x]++l.drop j)))
 | _,_,_,_=>False
noncomputable def Vg:PM
 | .ob n,[],S,k=>∃ l,S[n]?=some (.lst l)/\k .dR (S.set n (.lst []))
 | _,_,_,_=>False
noncomputable def RE:PM
 | .t (.v (.str a)),[.t (.v (.str b))],S,k=>k (.bl (Txt.startswith a b)) S
 | _,_,_,_=>False
noncomputable def Mn:PM
 | .t (.v (.str sep)),[d],S,k=>∃ ss:List Str,lq S d=some (ss.map T.str)/\(ss.map (·.length)).sum+ss.length*sep.length<=16777216/\k (.str (Txt.join sep ss)) S
 | _,_,_,_=>False
section
variable {X:Cx}{x:Str}{p pos apos cpos:Pos}{e o i value:Expr}{es:List Expr}{t:yL}{to ti tv:eY}{id ty:String}{r:PM}
theorem Aq {r r':V->List V->Hp->VK->Prop}(h:CO X id r)(m:∀ v vs H Q,r' v vs H Q->r v vs H Q):CO X id r':=fun pins s σ H x xs u us Q I rx rv q=>h pins s σ H x xs u us Q I rx rv (m _ _ _ _ q)
noncomputable def tyM (S:bB)(ty:String):D->Prop
 | .t (.v (.str _))=>ty="str"
 | d=>ty="list"/\∃ l,lq S d=some l
noncomputable def A4 (ty:String)(r:PM)(to:eY)(t:yL):eY:=fun δ S k=>to δ S fun d S1=>tyM S1 ty d/\t δ S1 fun ds S2=>r d ds S2 k
theorem Hf {K:PySem.W.Frag}{ρ:List Addr}{S:bB}{H:Hp}(R:R3 K ρ S H){d:D}{v:V}(r:j8 K ρ (res ρ H) d v)(e:tyM S ty d):ZD K ty v H:=by
 unfold tyM at e
 split at e
 ·rw[bx r];exact e
 ·obtain⟨e1,l,e2⟩:=e
  obtain⟨a,vs,h1,h2,h3⟩:=dz R r e2
  rw[h1]
  exact .inl ⟨e1,vs,.of h2⟩
theorem OU:∀ σ H Q,li X.K (A4 ty r to t) σ H Q->tBM X.K ty (OZ X.K r) (li X.K to) (liA X.K t) σ H Q:=(by rintro σ H Q ⟨ρ,S,δ,k,R,D,q,hk⟩;exact  ⟨ρ,S,δ,_,R,D,q,(by rintro v H1 ⟨ρ1,S1,d,g1,R1,r1,h1,q1⟩;exact ⟨Hf R1 r1 h1,ρ1,S1,δ,_,R1,D.gr g1,q1,(by rintro vs H2 ⟨ρ2,S2,ds,g2,R2,r2,q2⟩;exact   ⟨ρ2,S2,d,ds,k,R2,r1.gr g2,r2,q2,fun w H3 u=>hk w H3 (u.gr (g1.trans g2))⟩)⟩)⟩)
theorem LY:∀ σ H Q,li X.K (A4 ty r to Hi) σ H Q->Wf X.K ty (OZ X.K r) (li X.K to) σ H Q:=(by rintro σ H Q ⟨ρ,S,δ,k,R,D,q,hk⟩;exact  ⟨ρ,S,δ,_,R,D,q,(by rintro v H1 ⟨ρ1,S1,d,g1,R1,r1,h1,q1⟩;exact ⟨Hf R1 r1 h1,ρ1,S1,d,[],k,R1,r1,.nil,q1,fun w H3 u=>hk w H3 (u.gr g1)⟩)⟩)
theorem Lq {name:Str}(pa:PlainAttrs ty)(slot:Slot ty name id)(hty:typeOf (.builtin id)=pure (.type "method_descriptor"))(hm:CO X id (OZ X.K r))(ho:QE X o to)(ha:QA X (e::es) t)
  (h1:notStar e=true:=by rfl) (h2:es.all notStar=true:=by rfl) (h3:es.length < 20:=by decide) (hbase:attributeBase o name X.env (eval o X.env)=eval o X.env:=by rfl) (hline:(apos.endLine == cpos.line)=true:=by rfl) :
  QE X (.Call (.Attribute o name apos) (e::es) [] cpos) (A4 ty r to t):=cW (Sy pa slot hty hm ho ha h1 h2 h3 hbase hline) OU
theorem Xi:CO X "list.append" (OZ X.K Vp):=by
 refine Aq Jv ?_
 rintro v vs H Q ⟨ρ,S,d,ds,k,R,rd,rs,q,hk⟩
 unfold Vp at q
 split at q
 ·obtain⟨l,h1,h2,h3⟩:=q
  obtain⟨a,ha,rfl⟩:=rd
  obtain⟨w,rfl,rw'⟩:=rs.one
  obtain⟨us,e1,e2⟩:=R.ok _ a _ ha h1
  exact⟨a,us,w,rfl,rfl,e1,by rw[<- e2.len];exact h2,JH R hk ha (o:=.lst (l++[_])) ⟨_,rfl,e2.app (.cons rw' .nil)⟩ bQ h3⟩
 ·exact q.elim
theorem Xg:CO X "list.extend" (OZ X.K ext3):=by
 refine Aq (CO.or Ju F8) fun v vs H Q ⟨ρ,S,d,ds,k,R,rd,rs,q,hk⟩=>?_
 unfold ext3 at q
 split at q
 ·obtain⟨l,m,h1,h2,h3,h4⟩:=q
  obtain⟨a,ha,rfl⟩:=rd
  obtain⟨w,rfl,rw'⟩:=rs.one
  obtain⟨us,e1,e2⟩:=R.ok _ a _ ha h1
  rename_i d2 _
  cases d2 with
  | ob m' =>
   obtain⟨b,ws,f1,f2,f3⟩:=dz R rw' (show lq S (.ob m')=some m from h2)
   exact .inl ⟨a,b,us,ws,rfl,by rw[f1],e1,f2,by rw[<- e2.len,<- f3.len];exact h3,JH R hk ha (o:=.lst (l++m)) ⟨_,rfl,e2.app f3⟩ bQ h4⟩
  | t y =>
   cases y with
   | lst m' =>
    obtain⟨b,ws,f1,f2,f3⟩:=dz R rw' (show lq S (.t (.lst m'))=some m from h2)
    exact .inl ⟨a,b,us,ws,rfl,by rw[f1],e1,f2,by rw[<- e2.len,<- f3.len];exact h3,JH R hk ha (o:=.lst (l++m)) ⟨_,rfl,e2.app f3⟩ bQ h4⟩
   | tup m' =>
    have h2:some m'=some m:=h2
    injection h2 with h2
    subst h2
    obtain⟨b,ws,f1,f2,f3⟩:=di rw'
    exact .inr ⟨a,b,us,ws,rfl,by rw[f1],e1,.of f2,by rw[<- e2.len,<- f3.len];exact h3,JH R hk ha (o:=.lst (l++m')) ⟨_,rfl,e2.app f3⟩ bQ h4⟩
   | HF m'=>cases h2
   | v _=>cases h2
   | ins _ _ _=>cases h2
 ·exact q.elim
theorem Xf:CO X "list.insert" (OZ X.K UR):=by
 refine Aq Jt ?_
 rintro v vs H Q ⟨ρ,S,d,ds,k,R,rd,rs,q,hk⟩
 unfold UR at q
 split at q
 ·obtain⟨l,j,h1,h2,h3,h4,h5⟩:=q
  obtain⟨a,ha,rfl⟩:=rd
  obtain⟨w,w2,rfl,rw',r2⟩:=rs.two
  obtain⟨us,e1,e2⟩:=R.ok _ a _ ha h1
  rw[bx rw']
  exact⟨a,us,_,j,w2,rfl,rfl,h2,e1,by rw[<- e2.len];exact h3,by rw[<- e2.len];exact h4,JH R hk ha (o:=.lst (l.take j++[_]++l.drop j)) ⟨_,rfl,((e2.tk j).app (.cons r2 .nil)).app (e2.dp j)⟩ bQ h5⟩
 ·exact q.elim
theorem Xh:CO X "list.clear" (OZ X.K Vg):=by
 refine Aq LZ ?_
 rintro v vs H Q ⟨ρ,S,d,ds,k,R,rd,rs,q,hk⟩
 unfold Vg at q
 split at q
 ·obtain⟨l,h1,h5⟩:=q
  obtain⟨a,ha,rfl⟩:=rd
  cases rs
  obtain⟨us,e1,e2⟩:=R.ok _ a _ ha h1
  exact⟨a,us,rfl,rfl,e1,JH R hk ha (o:=.lst []) ⟨_,rfl,.nil⟩ bQ h5⟩
 ·exact q.elim
theorem Xe:CO X "str.startswith" (OZ X.K RE):=by
 refine Aq Js ?_
 rintro v vs H Q ⟨ρ,S,d,ds,k,R,rd,rs,q,hk⟩
 unfold RE at q
 split at q
 ·obtain⟨w,rfl,rw'⟩:=rs.one
  rw[bx rd,bx rw']
  exact⟨_,_,rfl,rfl,fin R hk bQ q⟩
 ·exact q.elim
theorem Te:CO X "str.join" (OZ X.K Mn):=by
 refine Aq OV ?_
 rintro v vs H Q ⟨ρ,S,d,ds,k,R,rd,rs,q,hk⟩
 unfold Mn at q
 split at q
 ·obtain⟨ss,h1,h2,h3⟩:=q
  obtain⟨w,rfl,rw'⟩:=rs.one
  obtain⟨a,us,e1,e2,e3⟩:=dz R rw' h1
  rw[bx rd]
  rw[e3.strs] at e2
  exact⟨_,a,ss,rfl,by rw[e1],e2,h2,fin R hk bQ h3⟩
 ·exact q.elim
theorem uX (ho:QE X o to)(ha:QA X [e] t)(h1:notStar e=true:=by rfl)(hbase:attributeBase o "append" X.env (eval o X.env)=eval o X.env:=by rfl)(hline:(apos.endLine == cpos.line)=true:=by rfl) :
  QE X (.Call (.Attribute o "append" apos) [e] [] cpos) (A4 "list" Vp to t):=Lq PySem.F.plainAttrs_list PySem.F.slot_list_append PySem.F.type_list_append Xi ho ha h1 rfl (by decide) hbase hline
theorem DU (ho:QE X o to)(ha:QA X [e] t)(h1:notStar e=true:=by rfl)(hbase:attributeBase o "extend" X.env (eval o X.env)=eval o X.env:=by rfl)(hline:(apos.endLine == cpos.line)=true:=by rfl) :
  QE X (.Call (.Attribute o "extend" apos) [e] [] cpos) (A4 "list" ext3 to t):=Lq PySem.F.plainAttrs_list PySem.F.slot_list_extend PySem.F.type_list_extend Xg ho ha h1 rfl (by decide) hbase hline
theorem WJ {e2:Expr}(ho:QE X o to)(ha:QA X [e,e2] t)(h1:notStar e=true:=by rfl)(h2:[e2].all notStar=true:=by rfl)(hbase:attributeBase o "insert" X.env (eval o X.env)=eval o X.env:=by rfl)(hline:(apos.endLine == cpos.line)=true:=by rfl) :
  QE X (.Call (.Attribute o "insert" apos) [e,e2] [] cpos) (A4 "list" UR to t):=Lq PySem.F.plainAttrs_list PySem.F.slot_list_insert PySem.F.type_list_insert Xf ho ha h1 h2 (by show 1 < 20;decide) hbase hline
theorem WK (ho:QE X o to)(hbase:attributeBase o "clear" X.env (eval o X.env)=eval o X.env:=by rfl)(hline:(apos.endLine == cpos.line)=true:=by rfl) :
  QE X (.Call (.Attribute o "clear" apos) [] [] cpos) (A4 "list" Vg to Hi):=cW (Sz PySem.F.plainAttrs_list PySem.F.slot_list_clear PySem.F.type_list_clear Xh ho hbase hline) LY
theorem WG (ho:QE X o to)(ha:QA X [e] t)(h1:notStar e=true:=by rfl)(hbase:attributeBase o "startswith" X.env (eval o X.env)=eval o X.env:=by rfl)(hline:(apos.endLine == cpos.line)=true:=by rfl) :
  QE X (.Call (.Attribute o "startswith" apos) [e] [] cpos) (A4 "str" RE to t):=Lq PySem.F.plainAttrs_str PySem.F.slot_str_startswith PySem.F.type_str_startswith Xe ho ha h1 rfl (by decide) hbase hline
theorem R9 (ho:QE X o to)(ha:QA X [e] t)(h1:notStar e=true:=by rfl)(hbase:attributeBase o "join" X.env (eval o X.env)=eval o X.env:=by rfl)(hline:(apos.endLine == cpos.line)=true:=by rfl) :
  QE X (.Call (.Attribute o "join" apos) [e] [] cpos) (A4 "str" Mn to t):=Lq PySem.F.plainAttrs_str PySem.F.slot_str_join PySem.F.type_str_join Te ho ha h1 rfl (by decide) hbase hline
end
noncomputable def ZW:Dg
 | .t (.v (.str z)),.t (.v (.int i)),S,k=>z.length<=sizeLine/\∃ c,wF z.cps.toList i=some c/\k (.str ⟨#[c]⟩) S
 | a,.t (.v (.int i)),S,k=>∃ l x,sq S a=some l/\wF l i=some x/\k (.t x) S
 | _,_,_,_=>False
section
variable {X:Cx}{a b e:Expr}{ta tb te:eY}{pos p2:Pos}
theorem bI.wF {K:PySem.W.Frag}{G:Hp}{l:List T}{vs:List V}{i:Int}{x:T}(r:bI K G l vs)(h:L2.wF l i=some x):∃ v,L2.wF vs i=some v/\Rp K G x v:=by
 unfold L2.wF at h ⊢
 rw[<- r.len]
 cases q:Pa l.length i with
 | none=>rw[q] at h;cases h
 | some j=>rw[q] at h;exact r.get h
theorem Yr:NI X (liR X.K ZW):=by
 intro value slice pins s σ H x y v u Q I rx ry ⟨ρ,S,a,b,k,R,ra,rb,q,hk⟩ hs
 refine UN value slice pins s σ H x y v u Q I rx ry ?_ hs
 unfold ZW at q
 split at q
 ·obtain⟨h1,c,h2,h3⟩:=q
  exact .inr (.inr ⟨_,_,c,bx ra,bx rb,h1,h2,fin R hk bQ h3⟩)
 ·obtain⟨l,x',h1,h2,h3⟩:=q
  obtain⟨p,us,e1,e2,e3⟩:=tS R ra h1
  obtain⟨w,f1,f2⟩:=e3.wF h2
  rcases e2 with e2 | e2
  ·exact .inl ⟨p,us,_,w,e1,bx rb,e2,f1,fin R hk (d:=.t x') f2 h3⟩
  ·exact .inr (.inl ⟨p,us,_,w,e1,bx rb,e2,f1,fin R hk (d:=.t x') f2 h3⟩)
 ·exact q.elim
theorem aU (ha:QE X a ta)(hb:QE X b tb)(hs:IU b:=by intro _ _;rfl):QE X (.Subscript a b pos) (IZ ZW ta tb):=cW (WR Yr ha hb hs) wu
noncomputable def uy (l:List T)(lo hi:Option Int):List T:=(l.drop (HT.eO l.length 0 lo)).take (HT.eO l.length l.length hi - HT.eO l.length 0 lo)
theorem bI.cut {K:PySem.W.Frag}{G:Hp}{l:List T}{vs:List V}(r:bI K G l vs)(lo hi:Option Int):bI K G (uy l lo hi) (EE vs lo hi):=by
 unfold uy EE
 rw[<- r.len]
 exact(r.dp _).tk _
noncomputable abbrev VN:=Sl->bB->(Option Int->bB->Prop)->Prop
noncomputable def liO (K:PySem.W.Frag)(t:VN):TO:=fun σ H Q=>∃ ρ S δ k,R3 K ρ S H/\vj K ρ (res ρ H) δ σ/\t δ S k/\∀ o H',(∃ ρ' S',Gr ρ H ρ' H'/\R3 K ρ' S' H'/\k o S')->Q o H'
noncomputable def QO (X:Cx)(e:Option Expr)(t:VN):Prop:=PO X e (liO X.K t)
noncomputable def a0G:VN:=fun _ S k=>k none S
noncomputable def tPt (t:eY):VN:=fun δ S k=>t δ S fun d S1=>∃ i,d=.int i/\k (some i) S1
theorem Qq {o:Option Expr}{t t':TO}(h:PO X o t)(m:∀ σ H Q,t' σ H Q->t σ H Q):PO X o t':=fun pins s σ H Q I q=>h pins s σ H Q I (m _ _ _ q)
theorem r9:QO X none a0G:=Qq OA (by rintro σ H Q ⟨ρ,S,δ,k,R,D,q,hk⟩;exact hk _ _ ⟨ρ,S,.refl,R,q⟩)
theorem bS (h:QE X e te):QO X (some e) (tPt te):=Qq (Oz h) (by rintro σ H Q ⟨ρ,S,δ,k,R,D,q,hk⟩;exact ⟨ρ,S,δ,_,R,D,q,(by
 rintro v H1 ⟨ρ1,S1,d,g1,R1,r1,i,e,q1⟩
 subst e
 exact⟨i,bx r1,hk _ _ ⟨ρ1,S1,g1,R1,q1⟩⟩)⟩)
noncomputable def sl3 (mu:Bool):D->Option Int->Option Int->bB->KD->Prop
 | .t (.v (.str z)),lo,hi,S,k=>z.length<=sizeLine/\k (.str (Txt.slice z lo hi)) S
 | .t (.tup l),lo,hi,S,k=>¬ (HT.eO l.length 0 lo=0/\HT.eO l.length l.length hi=l.length)/\k (.tup (uy l lo hi)) S
 | d,lo,hi,S,k=>∃ l,lq S d=some l/\(if mu then k (.ob S.length) (S++[.lst (uy l lo hi)]) else k (.lst (uy l lo hi)) S)
noncomputable def a1f (K:PySem.W.Frag)(r:D->Option Int->Option Int->bB->KD->Prop):V->Option Int->Option Int->Hp->VK->Prop:=fun v lo hi H Q=>∃ ρ S d k,R3 K ρ S H/\j8 K ρ (res ρ H) d v/\r d lo hi S k/\∀ v H',up K ρ H k v H'->Q v H'
theorem Wr (mu:Bool):PL X (a1f X.K (sl3 mu)):=by
 intro pins s σ H x v vl vu lo hi sl Q I rx hs pl pu ⟨ρ,S,d,k,R,rd,q,hk⟩
 refine(RL.or (RK.or N2)) pins s σ H x v vl vu lo hi sl Q I rx hs pl pu ?_
 unfold sl3 at q
 split at q
 ·exact .inl ⟨_,bx rd,q.1,fin R hk bQ q.2⟩
 ·obtain⟨a,vs,e1,e2,e3⟩:=di rd
  refine .inr (.inl ⟨a,vs,e1,.of e2,by rw[<- e3.len];exact q.1,Pk R hk (e3.cut lo hi) q.2⟩)
 ·obtain⟨l,h1,h2⟩:=q
  obtain⟨a,vs,e1,e2,e3⟩:=dz R rd h1
  refine .inr (.inr ⟨a,vs,e1,.of e2,?_⟩)
  cases mu with
  | true=>exact Pn R hk (e3.cut lo hi) h2
  | false=>exact zC R hk (e3.cut lo hi) h2
noncomputable def a0B (mu:Bool)(te:eY)(tl th:VN):eY:=fun δ S k=>te δ S fun x S1=>tl δ S1 fun l S2=>th δ S2 fun u S3=>sl3 mu x l u S3 k
theorem t6 (mu:Bool){lo hi:Option Expr}{tl th:VN}(he:QE X e te)(hl:QO X lo tl)(hu:QO X hi th):QE X (.Subscript e (.Slice lo hi none p2) pos) (a0B mu te tl th) :=
 cW (Lz (Wr mu) he hl hu) (by rintro σ H Q ⟨ρ,S,δ,k,R,D,q,hk⟩;exact ⟨ρ,S,δ,_,R,D,q,(by rintro v H1 ⟨ρ1,S1,d,g1,R1,r1,q1⟩;exact ⟨ρ1,S1,δ,_,R1,D.gr g1,q1,(by rintro o H2 ⟨ρ2,S2,g2,R2,q2⟩;exact   ⟨ρ2,S2,δ,_,R2,D.gr (g1.trans g2),q2,(by rintro o2 H3 ⟨ρ3,S3,g3,yM,q3⟩;exact ⟨ρ3,S3,d,k,yM,r1.gr (g2.trans g3),q3,fun w H4 u=>hk w H4 (u.gr ((g1.trans g2).trans g3))⟩)⟩)⟩)⟩)
end
noncomputable abbrev yK:=D->Sl->bB->KS->Prop
noncomputable abbrev zK:=List T->Sl->bB->KS->Prop
noncomputable def liG (K:PySem.W.Frag)(g:yK):TG:=fun v σ H Q=>∃ ρ S δ d k,R3 K ρ S H/\vj K ρ (res ρ H) δ σ/\j8 K ρ (res ρ H) d v/\g d δ S k/\∀ σ' H',Kq K ρ H k σ' H'->Q σ' H'
noncomputable def a1i (K:PySem.W.Frag)(g:zK):NH:=fun vs σ H Q=>∃ ρ S δ l k,R3 K ρ S H/\vj K ρ (res ρ H) δ σ/\bI K (res ρ H) l vs/\g l δ S k/\∀ σ' H',Kq K ρ H k σ' H'->Q σ' H'
noncomputable def QG (X:Cx)(tg:Expr)(g:yK):Prop:=PG X tg (liG X.K g)
noncomputable def QGs (X:Cx)(tg:List Expr)(g:zK):Prop:=Rh X tg (a1i X.K g)
noncomputable def Z6 (i:Nat):yK:=fun d δ S k=>k (δ.set i (some d)) S
noncomputable def Q7:zK:=fun l δ S k=>l=[]/\k δ S
noncomputable def MG (g:yK)(gs:zK):zK:=fun l δ S k=>∃ x r,l=x::r/\g (.t x) δ S fun δ1 S1=>gs r δ1 S1 k
noncomputable def Q6 (n:Nat)(gs:zK):yK:=fun d δ S k=>∃ l,d=.tup l/\l.length=n/\gs l δ S k
section
variable {X:Cx}{pos:Pos}{tg e c:Expr}{es:List Expr}{te:eY}{g:yK}{gs:zK}
theorem HR {t t':TG}(h:PG X tg t)(m:∀ v σ H Q,t' v σ H Q->t v σ H Q):PG X tg t':=fun pins s σ H v u Q I r q=>h pins s σ H v u Q I r (m _ _ _ _ q)
theorem BF {t t':NH}(h:Rh X es t)(m:∀ v σ H Q,t' v σ H Q->t v σ H Q):Rh X es t':=fun pins s σ H v u Q I r q=>h pins s σ H v u Q I r (m _ _ _ _ q)
theorem qg {i:Nat}{x:Str}(hN:X.N.Nodup)(hi:X.N[i]?=some x:=by rfl)(hx:Loc X.env.scope x:=by first | exact Or.inl rfl | exact Or.inr rfl)(hf:X.fn x=true∨X.env.scope.names.lookup x=some .local:=by first | exact .inl rfl | exact .inr rfl | assumption):QG X (.Name x pos) (Z6 i) :=
 HR (HQ hN hi hx hf) (by rintro v σ H Q ⟨ρ,S,δ,d,k,R,RS,rd,q,hk⟩;exact hk _ _ ⟨ρ,S,δ.set i (some d),.refl,R,RS.set rd i,q⟩)
theorem ju:QGs X [] Q7:=BF HP (by
 rintro v σ H Q ⟨ρ,S,δ,l,k,R,RS,rl,⟨e,q⟩,hk⟩
 subst e
 unfold bI at rl
 exact⟨rl,hk _ _ ⟨ρ,S,δ,.refl,R,RS,q⟩⟩)
theorem Ak (h1:QG X e g)(h2:QGs X es gs)(hs:(assignEach (e::es) X.env).map (·.2)=assign e X.env::(assignEach es X.env).map (·.2):=by rfl):QGs X (e::es) (MG g gs) :=
 BF (D3 h1 h2 hs) (by
  rintro v σ H Q ⟨ρ,S,δ,l,k,R,RS,rl,⟨x,r,e,q⟩,hk⟩
  subst e
  unfold bI at rl
  obtain⟨w,wr,e1,e2,e3⟩:=rl
  refine⟨w,wr,e1,ρ,S,δ,.t x,_,R,RS,e2,q,(by rintro σ1 H1 ⟨ρ1,S1,δ1,g1,R1,Zq,q1⟩;exact ⟨ρ1,S1,δ1,r,k,R1,Zq,e3.le g1.le,q1,fun σ2 H2 u=>hk σ2 H2 (u.gr g1)⟩)⟩)
theorem mZ {k0 n:Nat}(hc:X.calm=true)(h:QGs X es gs)(hn:(assignEach es X.env).length=n:=by rfl)(hst:(assignEach es X.env).findIdx? (·.1)=none:=by rfl):QG X (.Tuple es k0 pos) (Q6 n gs) :=
 HR (Lx hc h hn hst) (by
  rintro v σ H Q ⟨ρ,S,δ,d,k,R,RS,rd,⟨l,e,hl,q⟩,hk⟩
  subst e
  obtain⟨a,vs,e1,e2,e3⟩:=di rd
  exact⟨a,vs,e1,.of e2,by rw[<- e3.len];exact hl,ρ,S,δ,l,k,R,RS,e3,q,hk⟩)
noncomputable def Ru:wI:=fun E δ S=>E.nx δ S
noncomputable def VW (t u:wI):wI:=fun E δ S=>t { E with nx:=fun δ1 S1=>u E δ1 S1 } δ S
noncomputable def KG (te:eY)(g:yK):wI:=fun E δ S=>te δ S fun d S1=>g d δ S1 E.nx
noncomputable def Rw (te:eY):wI:=fun E δ S=>te δ S fun _ S1=>E.nx δ S1
noncomputable def VX (te:eY):wI:=fun E δ S=>te δ S E.rt
noncomputable def V7 (c:vN)(t u:wI):wI:=fun E δ S=>c δ S fun b S1=>if b=true then t E δ S1 else u E δ S1
noncomputable def V2:wI:=fun _ _ _=>False
variable {st:Stmt}{rest a b:List Stmt}{t u:wI}{tc:vN}
theorem aJ:Kc X [] Ru:=FP Ot (by rintro D σ H ⟨ρ,S,δ,E,R,RS,q,eu⟩;exact eu.nx _ _ ⟨ρ,S,δ,.refl,R,RS,q⟩)
theorem qs (h1:QS X st t)(h2:Kc X rest u):Kc X (st::rest) (VW t u):=FP (Ls h1 h2) (by rintro D σ H ⟨ρ,S,δ,E,R,RS,q,eu⟩;exact  ⟨ρ,S,δ,_,R,RS,q,⟨(by rintro σ1 H1 ⟨ρ1,S1,δ1,g1,R1,Zq,q1⟩;exact ⟨ρ1,S1,δ1,E,R1,Zq,q1,eu.gr g1⟩),eu.rt,eu.bk,eu.ct⟩⟩)
theorem aS (h1:QS X st t):Kc X [st] t:=Oq h1
theorem iy {sts:List Stmt}:Kc X sts V2:=FP Jd (by rintro D σ H ⟨ρ,S,δ,E,R,RS,q,eu⟩;exact q)
theorem jF (he:QE X e te)(hs:swapsWith e none pos.line X.env=pure false:=by rfl):QS X (.Expr e pos) (Rw te):=qv (Ov he hs) (by rintro D σ H ⟨ρ,S,δ,E,R,RS,q,eu⟩;exact  ⟨ρ,S,δ,_,R,RS,q,(by rintro v H1 ⟨ρ1,S1,d,g1,R1,r1,q1⟩;exact eu.nx _ _ ⟨ρ1,S1,δ,g1,R1,RS.gr g1,q1⟩)⟩)
theorem aq (he:QE X e te):QS X (.Return (some e) pos) (VX te):=qv (Si he) (by rintro D σ H ⟨ρ,S,δ,E,R,RS,q,eu⟩;exact ⟨ρ,S,δ,_,R,RS,q,eu.rt⟩)
theorem aZ (hc:QT X c tc)(ha:Kc X a t)(hb:Kc X b u):QS X (.If c a b pos) (V7 tc t u):=qv (WM hc ha hb) (by rintro D σ H ⟨ρ,S,δ,E,R,RS,q,eu⟩;exact  ⟨ρ,S,δ,_,R,RS,q,(by
  rintro v H1 ⟨ρ1,S1,g1,R1,q1⟩
  cases v with
  | true=>exact⟨ρ1,S1,δ,E,R1,RS.gr g1,q1,eu.gr g1⟩
  | false=>exact⟨ρ1,S1,δ,E,R1,RS.gr g1,q1,eu.gr g1⟩)⟩)
theorem au {i:Nat}{x:Str}{pos':Pos}(hN:X.N.Nodup)(he:QE X e te)(hi:X.N[i]?=some x:=by rfl)(hx:Loc X.env.scope x:=by first | exact Or.inl rfl | exact Or.inr rfl)(hs:swapsWith e (some (.Name x pos')) pos.line X.env=pure false:=by rfl)(hf:X.fn x=true∨X.env.scope.names.lookup x=some .local:=by first | exact .inl rfl | exact .inr rfl | assumption) :
  QS X (.Assign [.Name x pos'] e pos) (KG te (Z6 i)):=qv (Sh hN hi hx he hs hf) (by rintro D σ H ⟨ρ,S,δ,E,R,RS,q,eu⟩;exact  ⟨ρ,S,δ,_,R,RS,q,(by rintro v H1 ⟨ρ1,S1,d,g1,R1,r1,q1⟩;exact eu.nx _ _ ⟨ρ1,S1,δ.set i (some d),g1,R1,(RS.gr g1).set r1 i,q1⟩)⟩)
theorem Lo (he:QE X e te)(hg:QG X tg g)(hs:swapsWithSole [tg] e pos.line X.env=pure false:=by rfl)(hw:swappedStores [tg] e X.env=pure none:=by rfl)(h1:(assignEach [tg] X.env).map (·.2)=[assign tg X.env]:=by rfl) :
  QS X (.Assign [tg] e pos) (KG te g):=qv (So he hg hs hw h1) (by rintro D σ H ⟨ρ,S,δ,E,R,RS,q,eu⟩;exact  ⟨ρ,S,δ,_,R,RS,q,(by rintro v H1 ⟨ρ1,S1,d,g1,R1,r1,q1⟩;exact ⟨ρ1,S1,δ,d,E.nx,R1,RS.gr g1,r1,q1,fun σ2 H2 u=>eu.nx _ _ (u.gr g1)⟩)⟩)
noncomputable def Wh (to ti te:eY)(f:Int->Int->Int):wI:=fun E δ S=>to δ S fun o S1=>ti δ S1 fun i S2=>∃ (n j:Nat) (l:List T) (a:Int),o=.ob n/\i=.int (j:Nat)/\S2[n]?=some (.lst l)/\l[j]?=some (.int a) /\
 te δ S2 fun d S3=>∃ b l',d=.int b/\S3[n]?=some (.lst l')/\j < l'.length/\E.nx δ (S3.set n (.lst (l'.set j (.int (f a b)))))
theorem Og {o i:Expr}{to ti:eY}{op:Operator}{f:Int->Int->Int}{tpos:Pos}(ho:QE X o to)(hi:QE X i ti)(he:QE X e te)(hp:PIp X op (ipI f))
  (ha:∀ ov iv new,augStore i ov iv new=(do holding [new,ov,iv] (setItem ov iv new);release [new,ov,iv] [];pure .next):=by intros;rfl):QS X (.AugAssign (.Subscript o i tpos) op e pos) (Wh to ti te f) :=
 qv (Ox ho hi MF he hp set_list ha) fun D σ H ⟨ρ,S,δ,E,R,RS,q,eu⟩=>⟨ρ,S,δ,_,R,RS,q,fun v1 H1 ⟨ρ1,S1,d1,g1,R1,r1,q1⟩=>⟨ρ1,S1,δ,_,R1,RS.gr g1,q1,(by
  rintro v2 H2 ⟨ρ2,S2,d2,g2,R2,r2,n,j,l,a,h1,h2,h3,h4,q2⟩
  subst h1 h2
  obtain⟨p,hp,e1⟩:=r1.gr g2
  obtain⟨vs,e2,e3⟩:=R2.ok n p _ hp h3
  obtain⟨w,e4,e5⟩:=e3.get h4
  refine⟨p,vs,j,w,e1,bx r2,.of e2,e4,ρ2,S2,δ,_,R2,RS.gr (g1.trans g2),q2,fun v3 H3 ⟨ρ3,S3,d3,g3,yM,r3,b,l',h5,h6,h7,q3⟩=>?_⟩
  subst h5
  have ew:w=V.int a:=by unfold Rp at e5;exact e5
  refine⟨a,b,ew,bx r3,?_⟩
  have hp3:=g3.at hp
  obtain⟨us,f1,f2⟩:=yM.ok n p _ hp3 h6
  refine⟨p,us,j,j,e1,bx r2,f1,?_,?_⟩
  ·unfold Pa
   rw[if_pos (by omega),if_pos (by rw[<- f2.len];omega)]
   simp
  ·have key:bI X.K (res ρ3 H3) (l'.set j (.int (f a b))) (us.set j (.int (f a b))):=bI.put (by unfold Rp;rfl) f2
   obtain⟨R4,g4⟩:=yM.put (o:=.lst (us.set j (.int (f a b)))) (u:=.lst (l'.set j (.int (f a b)))) hp3 ⟨_,rfl,key⟩
   exact eu.nx _ _ ⟨ρ3,_,δ,((g1.trans g2).trans g3).trans g4,R4,(RS.gr ((g1.trans g2).trans g3)).gr g4,q3⟩)⟩⟩
end
noncomputable abbrev PK:=Sl->bB->(List D->(bB->Prop)->bB->Prop)->Prop
structure VP (K:PySem.W.Frag)(J:It)(its:List D)(G:bB->Prop)(ρ0:List Addr)(H0:Hp):Prop where
 go:∀ i ρ S H,Gr ρ0 H0 ρ H->R3 K ρ S H->G S->i < its.length->J.go i H
 Kn:∀ i x ρ S H H' d,Gr ρ0 H0 ρ H->R3 K ρ S H->G S->its[i]?=some d->J.Kn i H x H'->∃ ρ',Gr ρ H ρ' H'/\R3 K ρ' S H'/\j8 K ρ' (res ρ' H') d x
 stop:∀ i ρ S H,Gr ρ0 H0 ρ H->R3 K ρ S H->G S->its.length<=i->J.stop i H
noncomputable def liI (K:PySem.W.Frag)(w:PK):TI:=fun σ H R=>∃ ρ S δ k,R3 K ρ S H/\vj K ρ (res ρ H) δ σ/\w δ S k/\∀ J H',(∃ ρ' S' its G,Gr ρ H ρ' H'/\R3 K ρ' S' H'/\VP K J its G ρ' H'/\k its G S')->R J H'
noncomputable def QI (X:Cx)(tg iter:Expr)(w:PK):Prop:=PI X tg iter (liI X.K w)
noncomputable def JA (d:D)(S1:bB)(k:List D->(bB->Prop)->bB->Prop):Prop:=(∃ l,(d=.tup l∨d=.lst l)/\k (l.map .t) (fun _=>True) S1)∨(∃ n l,d=.ob n/\S1[n]?=some (.lst l)/\k (l.map .t) (fun S=>S[n]?=some (.lst l)) S1)
noncomputable def iSq (te:eY):PK:=fun δ S k=>te δ S fun d S1=>JA d S1 k
noncomputable def a1w (t:yL):PK:=fun δ S k=>t δ S fun ds S1=>∃ j:Int,ds=[.int j]/\-(2 ^ 62)<=j/\j < 2 ^ 62/\k ((List.range j.toNat).map fun(i:Nat)=>D.int i) (fun _=>True) S1
section
variable {X:Cx}{tg iter e:Expr}{te:eY}{pos p:Pos}
theorem Qs {t t':TI}(h:PI X tg iter t)(m:∀ σ H R,t' σ H R->t σ H R):PI X tg iter t':=fun pins s σ H R I q=>h pins s σ H R I (m _ _ _ q)
theorem Ml {K:PySem.W.Frag}{ρ:List Addr}{H:Hp}{a:Addr}{l:List T}{vs:List V}(h:res ρ H a=some (.lst vs))(r:bI K (res ρ H) l vs):VP K (Itl K a) (l.map .t) (fun _=>True) ρ H where
 go:=fun i ρ1 S1 H1 g R _ hi=>by
  have e:=(res_some (g.le _ _ h)).2
  have hl:i < vs.length:=by rw[<- r.len];simpa using hi
  exact⟨vs,vs[i],.of e,List.getElem?_eq_getElem hl⟩
 Kn:=fun i x ρ1 S1 H1 H' d g R _ hd y=>by
  obtain⟨rfl,y⟩:=y
  have e:=(res_some (g.le _ _ h)).2
  rw[List.getElem?_map] at hd
  cases q:l[i]? with
  | none=>rw[q] at hd;cases hd
  | some z =>
   rw[q] at hd
   cases hd
   obtain⟨v,e1,e2⟩:=r.get q
   have:=y vs (.of e)
   rw[e1] at this
   cases this
   exact⟨ρ1,.refl,R,e2.le g.le⟩
 stop:=fun i ρ1 S1 H1 g R _ hi=>by
  have e:=(res_some (g.le _ _ h)).2
  exact⟨vs,.of e,by rw[<- r.len];simpa using hi⟩
theorem O7 {K:PySem.W.Frag}{ρ:List Addr}{H:Hp}{a:Addr}{l:List T}{vs:List V}(h:res ρ H a=some (.tup vs))(r:bI K (res ρ H) l vs):VP K (Itt K a) (l.map .t) (fun _=>True) ρ H where
 go:=fun i ρ1 S1 H1 g R _ hi=>by
  have e:=(res_some (g.le _ _ h)).2
  have hl:i < vs.length:=by rw[<- r.len];simpa using hi
  exact⟨vs,vs[i],.of e,List.getElem?_eq_getElem hl⟩
 Kn:=fun i x ρ1 S1 H1 H' d g R _ hd y=>by
  obtain⟨rfl,y⟩:=y
  have e:=(res_some (g.le _ _ h)).2
  rw[List.getElem?_map] at hd
  cases q:l[i]? with
  | none=>rw[q] at hd;cases hd
  | some z =>
   rw[q] at hd
   cases hd
   obtain⟨v,e1,e2⟩:=r.get q
   have:=y vs (.of e)
   rw[e1] at this
   cases this
   exact⟨ρ1,.refl,R,e2.le g.le⟩
 stop:=fun i ρ1 S1 H1 g R _ hi=>by
  have e:=(res_some (g.le _ _ h)).2
  exact⟨vs,.of e,by rw[<- r.len];simpa using hi⟩
theorem UK {K:PySem.W.Frag}{ρ:List Addr}{H:Hp}{n:Nat}{a:Addr}{l:List T}(ha:ρ[n]?=some a):VP K (Itl K a) (l.map .t) (fun S=>S[n]?=some (.lst l)) ρ H where
 go:=fun i ρ1 S1 H1 g R hS hi=>by
  obtain⟨vs,e,r⟩:=R.ok n a _ (g.at ha) hS
  have hl:i < vs.length:=by rw[<- r.len];simpa using hi
  exact⟨vs,vs[i],.of e,List.getElem?_eq_getElem hl⟩
 Kn:=fun i x ρ1 S1 H1 H' d g R hS hd y=>by
  obtain⟨rfl,y⟩:=y
  obtain⟨vs,e,r⟩:=R.ok n a _ (g.at ha) hS
  rw[List.getElem?_map] at hd
  cases q:l[i]? with
  | none=>rw[q] at hd;cases hd
  | some z =>
   rw[q] at hd
   cases hd
   obtain⟨v,e1,e2⟩:=r.get q
   have:=y vs (.of e)
   rw[e1] at this
   cases this
   exact⟨ρ1,.refl,R,e2⟩
 stop:=fun i ρ1 S1 H1 g R hS hi=>by
  obtain⟨vs,e,r⟩:=R.ok n a _ (g.at ha) hS
  exact⟨vs,.of e,by rw[<- r.len];simpa using hi⟩
theorem qi (he:QE X iter te):QI X tg iter (iSq te):=Qs (Sq he) (by rintro σ H Q ⟨ρ,S,δ,k,R,D,q,hk⟩;exact ⟨ρ,S,δ,_,R,D,q,(by
 rintro v H1 ⟨ρ1,S1,d,g1,R1,r1,q1⟩
 rcases q1 with ⟨l,rfl | rfl,q1⟩ | ⟨n,l,rfl,h,q1⟩
 ·have r1:Rp _ _ _ _:=r1
  unfold Rp at r1
  obtain⟨a,vs,e1,e2,e3⟩:=r1
  exact⟨a,e1,.inr ⟨⟨vs,.of (res_some e2).2⟩,hk _ _ ⟨ρ1,S1,_,_,g1,R1,O7 e2 e3,q1⟩⟩⟩
 ·have r1:Rp _ _ _ _:=r1
  unfold Rp at r1
  obtain⟨a,vs,e1,e2,e3⟩:=r1
  exact⟨a,e1,.inl ⟨⟨vs,.of (res_some e2).2⟩,hk _ _ ⟨ρ1,S1,_,_,g1,R1,Ml e2 e3,q1⟩⟩⟩
 ·obtain⟨a,ha,e⟩:=r1
  obtain⟨vs,e2,e3⟩:=R1.ok n a _ ha h
  exact⟨a,e,.inl ⟨⟨vs,.of e2⟩,hk _ _ ⟨ρ1,S1,_,_,g1,R1,UK ha,q1⟩⟩⟩)⟩)
theorem O8 {K:PySem.W.Frag}{ρ:List Addr}{H:Hp}{n:Nat}:VP K (Itr 0 n) ((List.range n).map fun(i:Nat)=>D.int i) (fun _=>True) ρ H where
 go:=fun i ρ1 S1 H1 g R _ hi=>by show i < n;simpa using hi
 Kn:=fun i x ρ1 S1 H1 H' d g R _ hd y=>by
  obtain⟨rfl,y⟩:=y
  rw[List.getElem?_map] at hd
  cases q:(List.range n)[i]? with
  | none=>rw[q] at hd;cases hd
  | some z =>
   rw[q] at hd
   cases hd
   have:=List.getElem?_range (n:=n) (i:=i) (by have:=(List.getElem?_eq_some_iff.mp q).1;simpa using this)
   rw[this] at q
   cases q
   subst y
   refine⟨ρ1,.refl,R,?_⟩
   show Rp _ _ _ _
   unfold Rp
   rw[Int.zero_add]
 stop:=fun i ρ1 S1 H1 g R _ hi=>by show n<=i;simpa using hi
theorem xA {a:Expr}{t:yL}(hg:Gl X "range")(hm:X.mg "range"=none)(ha:QA X [a] t)(hs:starEach [a] X.env=[(false,eval a X.env)]:=by rfl):QI X tg (.Call (.Name "range" p) [a] [] pos) (a1w t) :=
 Qs (Jf hg hm ha hs) (by rintro σ H Q ⟨ρ,S,δ,k,R,D,q,hk⟩;exact ⟨ρ,S,δ,_,R,D,q,(by
  rintro v H1 ⟨ρ1,S1,d,g1,R1,r1,j,e,h1,h2,q1⟩
  subst e
  obtain⟨w,rfl,rw'⟩:=r1.one
  rw[bx rw']
  exact⟨j,rfl,h1,h2,hk _ _ ⟨ρ1,S1,_,_,g1,R1,O8,q1⟩⟩)⟩)
noncomputable def zA (G:bB->Prop)(g:yK)(tb:wI):List D->wI
 | []=>fun E δ S=>G S/\E.nx δ S
 | x::r=>fun E δ S=>G S/\g x δ S fun δ1 S1=>tb { E with nx:=zA G g tb r E,ct:=zA G g tb r E,bk:=E.nx } δ1 S1
noncomputable def V8 (w:PK)(g:yK)(tb:wI):wI:=fun E δ S=>w δ S fun its G S1=>zA G g tb its E δ S1
variable {g:yK}{tb:wI}{body:List Stmt}
theorem bK {w:PK}(hp:PassesOwn (model X.prog X.w) X.A X.env X.xe)(hc:X.calm=true)(hi:QI X tg iter w)(hg:QG X tg g)(hb:Kc X body tb)(hs:∀ x,foldedSetIterable iter X.env x=pure x:=by intro _;rfl) :
  QS X (.For tg iter body [] pos) (V8 w g tb):=qv (Sk hp hc hi hg hb hs) fun D σ H ⟨ρ,S,δ,E,R,RS,q,eu⟩=>⟨ρ,S,δ,_,R,RS,q,fun J H1 ⟨ρ1,S1,its,G,g1,R1,jo,q1⟩=>by
 refine⟨fun i m σ' H'=>m=its.length - i/\i<=its.length/\∃ ρ' S' δ',Gr ρ1 H1 ρ' H'/\R3 X.K ρ' S' H'/\vj X.K ρ' (res ρ' H') δ' σ'/\zA G g tb (its.drop i) E δ' S',⟨its.length,by simp,Nat.zero_le _,ρ1,S1,δ,.refl,R1,RS.gr g1,q1⟩,?_⟩
 rintro i m σ' H' ⟨rfl,hi,ρ',S',δ',g',R',RS',q'⟩
 by_cases hlt:i < its.length
 ·rw[List.drop_eq_getElem_cons hlt] at q'
  obtain⟨hG,q'⟩:=q'
  refine .inr ⟨jo.go i ρ' S' H' g' R' hG hlt,_,fun σ2 H2 z=>z,fun x H2 y=>?_⟩
  obtain⟨ρ2,g2,R2,r2⟩:=jo.Kn i x ρ' S' H' H2 its[i] g' R' hG (List.getElem?_eq_getElem hlt) y
  refine⟨ρ2,S',δ',its[i],_,R2,RS'.gr g2,r2,q',fun σ3 H3 ⟨ρ3,S3,δ3,g3,yM,RS3,q3⟩=>⟨ρ3,S3,δ3,_,yM,RS3,q3,?_⟩⟩
  have gg:=((g1.trans g').trans g2).trans g3
  have fwd:∀ σ4 H4,Kq X.K ρ3 H3 (zA G g tb (its.drop (i+1)) E) σ4 H4->∃ m',m' < its.length - i/\(m'=its.length - (i+1)/\i+1<=its.length/\∃ ρ' S' δ',Gr ρ1 H1 ρ' H4/\R3 X.K ρ' S' H4/\vj X.K ρ' (res ρ' H4) δ' σ4/\zA G g tb (its.drop (i+1)) E δ' S') :=
   (by rintro σ4 H4 ⟨ρ4,S4,δ4,g4,R4,RS4,q4⟩;exact ⟨its.length - (i+1),by omega,rfl,hlt,ρ4,S4,δ4,((g'.trans g2).trans g3).trans g4,R4,RS4,q4⟩)
  exact⟨fwd,fun v H4 u=>eu.rt v H4 (u.gr gg),fun σ4 H4 u=>eu.nx σ4 H4 (u.gr gg),fwd⟩
 ·have e:its.drop i=[]:=List.drop_eq_nil_of_le (by omega)
  rw[e] at q'
  exact .inl ⟨jo.stop i ρ' S' H' g' R' q'.1 (by omega),eu.nx _ _ ⟨ρ',S',δ',g1.trans g',R',RS',q'.2⟩⟩⟩
end
noncomputable def SmS (own:Nat)(σ σ':St):Prop:=σ'.length=σ.length/\∀ i:Nat,own<=i->σ'[i]?=σ[i]?
noncomputable def Th (K:PySem.W.Frag)(own:Nat)(g:yK):TG:=fun v σ H Q=>∃ ρ S δ d k,R3 K ρ S H/\vj K ρ (res ρ H) δ σ/\j8 K ρ (res ρ H) d v/\g d δ S k/\∀ σ' H',Kq K ρ H k σ' H'->SmS own σ σ'->Q σ' H'
noncomputable def a1e (K:PySem.W.Frag)(own:Nat)(g:zK):NH:=fun vs σ H Q=>∃ ρ S δ l k,R3 K ρ S H/\vj K ρ (res ρ H) δ σ/\bI K (res ρ H) l vs/\g l δ S k/\∀ σ' H',Kq K ρ H k σ' H'->SmS own σ σ'->Q σ' H'
noncomputable def QX (X:Cx)(own:Nat)(tg:Expr)(g:yK):Prop:=PG X tg (Th X.K own g)
noncomputable def QXs (X:Cx)(own:Nat)(tg:List Expr)(g:zK):Prop:=Rh X tg (a1e X.K own g)
section
variable {X:Cx}{pos:Pos}{tg e:Expr}{es:List Expr}{g:yK}{gs:zK}{own:Nat}
theorem qx {i:Nat}{x:Str}(hN:X.N.Nodup)(hi:X.N[i]?=some x:=by rfl)(ho:i < own:=by decide)(hx:Loc X.env.scope x:=by first | exact Or.inl rfl | exact Or.inr rfl)(hf:X.fn x=true∨X.env.scope.names.lookup x=some .local:=by first | exact .inl rfl | exact .inr rfl | assumption):QX X own (.Name x pos) (Z6 i) :=
 HR (HQ hN hi hx hf) fun v σ H Q ⟨ρ,S,δ,d,k,R,RS,rd,q,hk⟩=>hk _ _ ⟨ρ,S,δ.set i (some d),.refl,R,RS.set rd i,q⟩ ⟨by simp,fun j hj=>List.getElem?_set_ne (by omega)⟩
theorem mY:QXs X own [] Q7:=BF HP (by
 rintro v σ H Q ⟨ρ,S,δ,l,k,R,RS,rl,⟨e,q⟩,hk⟩
 subst e
 unfold bI at rl
 exact⟨rl,hk _ _ ⟨ρ,S,δ,.refl,R,RS,q⟩ ⟨rfl,fun _ _=>rfl⟩⟩)
theorem HK (h1:QX X own e g)(h2:QXs X own es gs)(hs:(assignEach (e::es) X.env).map (·.2)=assign e X.env::(assignEach es X.env).map (·.2):=by rfl):QXs X own (e::es) (MG g gs) :=
 BF (D3 h1 h2 hs) (by
  rintro v σ H Q ⟨ρ,S,δ,l,k,R,RS,rl,⟨x,r,e,q⟩,hk⟩
  subst e
  unfold bI at rl
  obtain⟨w,wr,e1,e2,e3⟩:=rl
  refine⟨w,wr,e1,ρ,S,δ,.t x,_,R,RS,e2,q,fun σ1 H1 ⟨ρ1,S1,δ1,g1,R1,Zq,q1⟩ m1=>⟨ρ1,S1,δ1,r,k,R1,Zq,e3.le g1.le,q1,fun σ2 H2 u m2=>hk σ2 H2 (u.gr g1) ⟨m2.1.trans m1.1,fun i hi=>(m2.2 i hi).trans (m1.2 i hi)⟩⟩⟩)
theorem qN {k0 n:Nat}(hc:X.calm=true)(h:QXs X own es gs)(hn:(assignEach es X.env).length=n:=by rfl)(hst:(assignEach es X.env).findIdx? (·.1)=none:=by rfl):QX X own (.Tuple es k0 pos) (Q6 n gs) :=
 HR (Lx hc h hn hst) (by
  rintro v σ H Q ⟨ρ,S,δ,d,k,R,RS,rd,⟨l,e,hl,q⟩,hk⟩
  subst e
  obtain⟨a,vs,e1,e2,e3⟩:=di rd
  exact⟨a,vs,e1,.of e2,by rw[<- e3.len];exact hl,ρ,S,δ,l,k,R,RS,e3,q,hk⟩)
end
noncomputable def st3 (own:Nat)(fr:List Nat)(δ:Sl):Sl:=List.replicate own none++fr.map fun j=>(δ[j]?).join
noncomputable def iO (G:bB->Prop)(g:yK)(tt:vN)(te:eY)(δ0:Sl):List D->bB->List T->(List T->bB->Prop)->Prop
 | [],S,ys,k=>G S/\k ys S
 | x::r,S,ys,k=>G S/\g x δ0 S fun δ1 S1=>tt δ1 S1 fun b S2=>if b=true then te δ1 S2 fun d S3=>∃ y,d=.t y/\ys.length < sizeLine/\iO G g tt te δ0 r S3 (ys++[y]) k else iO G g tt te δ0 r S2 ys k
noncomputable def Fp (own:Nat)(fr:List Nat)(w:PK)(g:yK)(tt:vN)(te:eY):eY:=fun δ S k=>w δ S fun its G S1=>iO G g tt te (st3 own fr δ) its S1 [] fun ys S2=>k (.lst ys) S2
noncomputable def KA (own:Nat)(fr:List Nat)(w:PK)(g:yK)(tt:vN)(te:eY):eY:=fun δ S k=>w δ S fun its G S1=>iO G g tt te (st3 own fr δ) its S1 [] fun ys S2=>k (.ob S2.length) (S2++[.lst ys])
noncomputable def Zr (X:Cx)(cs:List Expr)(t:vN):Prop:=VO X cs (Np X.K t)
noncomputable def Wj:vN:=fun _ S k=>k true S
theorem vj.A9 {K:PySem.W.Frag}{ρ:List Addr}{G:Hp}{δ:Sl}{σ:St}(r:vj K ρ G δ σ)(own:Nat)(fr:List Nat):vj K ρ G (st3 own fr δ) (A9 own fr σ):=by
 refine⟨by unfold st3 L2.A9;simp,fun i d h=>?_⟩
 unfold st3 at h
 unfold L2.A9
 by_cases hi:i < own
 ·rw[List.getElem?_append_left (by simpa using hi),List.getElem?_replicate,if_pos hi] at h
  cases h
 ·rw[List.getElem?_append_right (by simpa using hi),List.length_replicate,List.getElem?_map] at h ⊢
  cases e:fr[i - own]? with
  | none=>rw[e] at h;cases h
  | some j =>
   rw[e] at h
   have h:(δ[j]?).join=some d:=Option.some.inj h
   have h2:δ[j]?=some (some d):=by
    cases q:δ[j]? with
    | none=>rw[q] at h;cases h
    | some o=>rw[q] at h;exact congrArg some h
   obtain⟨v,e1,e2⟩:=r.2 j d h2
   exact⟨v,by show some ((σ[j]?).join)=some (some v);rw[e1];rfl,e2⟩
theorem KJ {own:Nat}{fr:List Nat}{σ σ':St}(h:SmS own (A9 own fr σ) σ'):Ext (A9 own fr σ) σ':=by
 refine⟨h.1,fun i v e=>?_⟩
 by_cases hi:i < own
 ·unfold L2.A9 at e
  rw[List.getElem?_append_left (by simpa using hi),List.getElem?_replicate,if_pos hi] at e
  cases e
 ·rw[h.2 i (by omega)];exact e
section
variable {X:Cx}{sc:Scope}{cl:List (Str×Addr)}{own:Nat}{N:List Str}{fr:List Nat}{elt tg iter:Expr}{cs:List Expr}{pos spos py:Pos}{w:PK}{g:yK}{tt:vN}{te:eY}
theorem b9:Zr X [] Wj:=(by rintro pins s σ H Q I ⟨ρ,S,δ,k,R,D,q,hk⟩;exact Om pins s σ H Q I (hk _ _ ⟨ρ,S,.refl,R,q⟩))
theorem wm {c:Expr}{t:vN}(hc:QT X c t):Zr X [c] t:=Ol hc
theorem P4 {σ:St}{H1:Hp}{ρ1:List Addr}{S1:bB}{δ:Sl}{J:It}{its:List D}{G:bB->Prop}{k:List T->bB->Prop}{R:List V->Hp->Prop}(RS:vj X.K ρ1 (res ρ1 H1) δ σ)(R1:R3 X.K ρ1 S1 H1)(jo:VP X.K J its G ρ1 H1)
  (q:iO G g tt te (st3 own fr δ) its S1 [] k) (hR:∀ ρ2 S2 H2 ys l,Gr ρ1 H1 ρ2 H2->R3 X.K ρ2 S2 H2->bI X.K (res ρ2 H2) l ys->k l S2->R ys H2) :
  ∃ W:Nat->Nat->List V->Hp->Prop,(∃ m,W 0 m [] H1)/\M7 J (Th X.K own g) (Np X.K tt) (li X.K te) (A9 own fr σ) W R:=by
 refine⟨fun i m ys H'=>m=its.length - i/\i<=its.length/\∃ ρ' S' l,Gr ρ1 H1 ρ' H'/\R3 X.K ρ' S' H'/\bI X.K (res ρ' H') l ys/\iO G g tt te (st3 own fr δ) (its.drop i) S' l k,⟨its.length,by simp,Nat.zero_le _,ρ1,S1,[],.refl,R1,.nil,q⟩,?_⟩
 rintro i m ys H' ⟨rfl,hi,ρ',S',l,g',R',rl,q'⟩
 by_cases hlt:i < its.length
 ·rw[List.drop_eq_getElem_cons hlt] at q'
  obtain⟨hG,q'⟩:=q'
  refine .inr ⟨jo.go i ρ' S' H' g' R' hG hlt,fun ys' H2=>∃ ρ2 S2 l2,Gr ρ1 H1 ρ2 H2/\R3 X.K ρ2 S2 H2/\bI X.K (res ρ2 H2) l2 ys'/\iO G g tt te (st3 own fr δ) (its.drop (i+1)) S2 l2 k,fun ys' H2 z=>⟨its.length - (i+1),by omega,rfl,hlt,z⟩,fun x H2 y=>?_⟩
  obtain⟨ρ2,g2,R2,r2⟩:=jo.Kn i x ρ' S' H' H2 its[i] g' R' hG (List.getElem?_eq_getElem hlt) y
  refine⟨ρ2,S',st3 own fr δ,its[i],_,R2,(RS.gr (g'.trans g2)).A9 own fr,r2,q',fun σ3 H3 ⟨ρ3,S3,δ3,g3,yM,RS3,q3⟩ sm=>⟨KJ sm,ρ3,S3,δ3,_,yM,RS3,q3,fun b H4 ⟨ρ4,S4,g4,R4,q4⟩=>?_⟩⟩
  cases b with
  | false=>exact⟨ρ4,S4,l,(((g'.trans g2).trans g3).trans g4),R4,rl.le ((g2.trans g3).trans g4).le,q4⟩
  | true =>
   refine⟨ρ4,S4,δ3,_,R4,RS3.gr g4,q4,fun v H5 ⟨ρ5,S5,d,g5,R5,r5,z,hz,hl,q5⟩=>?_⟩
   subst hz
   have gg:=((g2.trans g3).trans g4).trans g5
   exact⟨by rw[<- rl.len];exact hl,ρ5,S5,l++[z],g'.trans gg,R5,(rl.le gg.le).app (.cons r5 .nil),q5⟩
 ·have e:its.drop i=[]:=List.drop_eq_nil_of_le (by omega)
  rw[e] at q'
  exact .inl ⟨jo.stop i ρ' S' H' g' R' q'.1 (by omega),hR ρ' S' H' ys l g' R' rl q'.2⟩
theorem AJ:∀ σ H Q,li X.K (Fp own fr w g tt te) σ H Q->Hj own fr (liI X.K w) (Th X.K own g) (Np X.K tt) (li X.K te) σ H Q:=(by rintro σ H Q ⟨ρ,S,δ,k,R,D,q,hk⟩;exact  ⟨ρ,S,δ,_,R,D,q,(by rintro J H1 ⟨ρ1,S1,its,G,g1,R1,jo,q1⟩;exact P4 (D.gr g1) R1 jo q1 fun ρ2 S2 H2 ys l g2 R2 rl q2=>zC R2 (fun v H' u=>hk v H' (u.gr (g1.trans g2))) rl q2)⟩)
theorem GF:∀ σ H Q,li X.K (KA own fr w g tt te) σ H Q->Hj own fr (liI X.K w) (Th X.K own g) (Np X.K tt) (li X.K te) σ H Q:=(by rintro σ H Q ⟨ρ,S,δ,k,R,D,q,hk⟩;exact  ⟨ρ,S,δ,_,R,D,q,(by rintro J H1 ⟨ρ1,S1,its,G,g1,R1,jo,q1⟩;exact P4 (D.gr g1) R1 jo q1 fun ρ2 S2 H2 ys l g2 R2 rl q2=>Pn R2 (fun v H' u=>hk v H' (u.gr (g1.trans g2))) rl q2)⟩)
theorem cV (S:pI X sc cl own N fr)(hc:X.calm=true)(hi:QI X tg iter w)(hg:∀ C s H fp,QX (sN X sc N cl C s H fp) own tg g)
  (ht:∀ C s H fp,Zr (sN X sc N cl C s H fp) cs tt) (he:∀ C s H fp,QE (sN X sc N cl C s H fp) elt te) (hs:∀ x,foldedSetIterable iter X.env x=pure x:=by intro _;rfl) :
  QE X (.ListComp elt [⟨tg,iter,cs,0⟩] sc pos) (Fp own fr w g tt te):=cW (HS (g:=Th X.K own g) (tt:=Np X.K tt) (te:=li X.K te) S hc hi hg ht he hs) AJ
theorem Oi (S:pI X sc cl own N fr)(hc:X.calm=true)(hi:QI X tg iter w)(hg:∀ C s H fp,QX (sN X sc N cl C s H fp) own tg g)
  (ht:∀ C s H fp,Zr (sN X sc N cl C s H fp) cs tt) (he:∀ C s H fp,QE (sN X sc N cl C s H fp) elt te) (hs:∀ x,foldedSetIterable iter X.env x=pure x:=by intro _;rfl) :
  QE X (.ListComp elt [⟨tg,iter,cs,0⟩] sc pos) (KA own fr w g tt te):=cW (HS (g:=Th X.K own g) (tt:=Np X.K tt) (te:=li X.K te) S hc hi hg ht he hs) GF
theorem HL {i:Nat}{y:Str}(hN:X.N.Nodup)(S:pI X sc cl own N fr)(hc:X.calm=true)(hi:QI X tg iter w)(hg:∀ C s H fp,QX (sN X sc N cl C s H fp) own tg g)
  (ht:∀ C s H fp,Zr (sN X sc N cl C s H fp) cs tt) (he:∀ C s H fp,QE (sN X sc N cl C s H fp) elt te) (hiy:X.N[i]?=some y:=by rfl) (hy:Loc X.env.scope y:=by first | exact Or.inl rfl | exact Or.inr rfl)
  (hsw:swapsWith (.ListComp elt [⟨tg,iter,cs,0⟩] sc pos) (some (.Name y py)) spos.line X.env=pure true:=by rfl) (hs:∀ x,foldedSetIterable iter X.env x=pure x:=by intro _;rfl)
  (hf:X.fn y=true∨X.env.scope.names.lookup y=some .local:=by first | exact .inl rfl | exact .inr rfl | assumption) :
  QS X (.Assign [.Name y py] (.ListComp elt [⟨tg,iter,cs,0⟩] sc pos) spos) (KG (Fp own fr w g tt te) (Z6 i)) :=
 qv (Ou (g:=Th X.K own g) (tt:=Np X.K tt) (te:=li X.K te) hN hiy hy S hc hi hg ht he hsw hs hf) (by rintro D σ H ⟨ρ,S,δ,E,R,RS,q,eu⟩;exact AJ _ _ _ ⟨ρ,S,δ,_,R,RS,q,(by rintro v H1 ⟨ρ1,S1,d,g1,R1,r1,q1⟩;exact eu.nx _ _ ⟨ρ1,S1,δ.set i (some d),g1,R1,(RS.gr g1).set r1 i,q1⟩)⟩)
end
noncomputable def closes (L:Nat)(d:D)(S':bB)(k:KD):Prop :=
 (∃ S0 S1,S'=S0++S1/\S0.length=L/\(∀ o∈S0,Cw L o)/\VM L d/\k d S0) ∨
 (∃ m o S0 S1,d=.ob m/\L<=m/\S'=S0++S1/\S0.length=L/\(∀ o∈S0,Cw L o)/\S'[m]?=some o/\Cw L o/\k (.ob L) (S0++[o])) ∨
 (∃ m l S0 S1,d=.ob m/\L<=m/\S'=S0++S1/\S0.length=L/\(∀ o∈S0,Cw L o)/\S'[m]?=some (.lst l)/\k (.lst l) S0)∨k d S'
noncomputable def tQ (N:List Str)(ds:List D):Sl:=ds.map some++List.replicate (N.length - ds.length) none
theorem vj.start {K:PySem.W.Frag}{ρ:List Addr}{G:Hp}{ds:List D}{vs:List V}(r:eU K ρ G ds vs)(N:List Str):vj K ρ G (tQ N ds) (start N vs):=by
 have hl:ds.length=vs.length:=eU.len r
 refine⟨by unfold tQ L2.start;simp[hl],fun i d h=>?_⟩
 unfold tQ at h
 unfold L2.start
 by_cases hi:i < ds.length
 ·rw[List.getElem?_append_left (by simpa using hi),List.getElem?_map] at h
  rw[List.getElem?_append_left (by simpa [<- hl] using hi),List.getElem?_map]
  cases e:ds[i]? with
  | none=>rw[e] at h;cases h
  | some x =>
   rw[e] at h
   cases h
   have gt:∀ {l:List D} {m:List V} {i:Nat} {x:D},Paired (j8 K ρ G) l m->l[i]?=some x->∃ v,m[i]?=some v/\j8 K ρ G x v:=by
    intro l m i x r
    induction r generalizing i with
    | nil=>intro e;simp at e
    | cons a t ih =>
     intro e
     cases i with
     | zero=>simp at e;subst e;exact⟨_,rfl,a⟩
     | succ i=>obtain⟨v,h1,h2⟩:=ih (i:=i) (by simpa using e);exact⟨v,by simpa using h1,h2⟩
   obtain⟨v,h1,h2⟩:=gt r e
   exact⟨v,by rw[h1];rfl,h2⟩
 ·rw[List.getElem?_append_right (by simpa using hi),List.getElem?_replicate] at h
  split at h <;> cases h
theorem EG {K:PySem.W.Frag}{ρ:List Addr}{S:bB}{H:Hp}{k:KD}{v:V}{H':Hp}(R:R3 K ρ S H)(h:up K ρ H (fun d S'=>closes S.length d S' k) v H'):up K ρ H k v H':=by
 obtain⟨ρ',S',d,g,R',r,c⟩:=h
 obtain⟨ex,hex⟩:=g.ext
 subst hex
 rcases c with ⟨S0,S1,rfl,hl,hc,hd,q⟩ | ⟨m,o,S0,S1,rfl,hm,rfl,hl,hc,ho,hco,q⟩ | ⟨m,l,S0,S1,rfl,hm,rfl,hl,hc,ho,q⟩ | q
 ·refine⟨ρ,S0,d,⟨⟨[],by simp⟩,g.le.trans mX⟩,R'.pop (by rw[R.len,hl]) (by rw[hl];exact hc),r.pop mX (by rw[R.len];exact hd),q⟩
 ·obtain⟨a,ha,rfl⟩:=r
  have hρ:ρ.length=S0.length:=by rw[R.len,hl]
  have R0:R3 K ρ S0 H':=R'.pop hρ (by rw[hl];exact hc)
  have na:a ∉ ρ:=fun z=>by
   obtain⟨n,hn⟩:=List.mem_iff_getElem?.mp z
   have l1:=(List.getElem?_eq_some_iff.mp hn).1
   have:=p7 R'.nd (by rw[List.getElem?_append_left l1];exact hn) ha
   have:=R.len
   omega
  have le:Le (res (ρ++ex) H') (res (ρ++[a]) H'):=fun b o h=>by
   obtain⟨h1,h2⟩:=res_some h
   refine nY (fun z=>h1 ?_) h2
   rcases List.mem_append.mp z with z | z
   ·exact List.mem_append_left _ z
   ·rw[List.mem_singleton.mp z];exact List.mem_of_getElem? ha
  have pre:∀ (n:Nat) (b:Addr),ρ[n]?=some b->(ρ++[a])[n]?=some b:=fun n b e=>by
   rw[List.getElem?_append_left (List.getElem?_eq_some_iff.mp e).1];exact e
  refine⟨ρ++[a],S0++[o],.ob S.length,⟨⟨[a],rfl⟩,g.le.trans le⟩,⟨by simp[hρ],?_,fun n b u e1 e2=>?_⟩,⟨a,by rw[<- R.len];simp,rfl⟩,q⟩
  ·rw[List.nodup_append]
   refine⟨R0.nd,by simp,fun x hx y hy=>?_⟩
   rw[List.mem_singleton.mp hy]
   exact fun z=>na (z ▸ hx)
  ·by_cases hn:n < ρ.length
   ·rw[List.getElem?_append_left hn] at e1
    have hn2:n < S0.length:=by omega
    rw[List.getElem?_append_left hn2] at e2
    have q0:=R'.ok n b u (by rw[List.getElem?_append_left hn];exact e1) (by rw[List.getElem?_append_left hn2];exact e2)
    exact(q0.pop le (by rw[R.len];exact hc u (List.mem_of_getElem? e2))).le' pre (Le.refl _)
   ·have l1:=(List.getElem?_eq_some_iff.mp e1).1
    rw[List.length_append,List.length_singleton] at l1
    have hn':n=ρ.length:=by omega
    subst hn'
    rw[List.getElem?_append_right (Nat.le_refl _),Nat.sub_self] at e1
    rw[List.getElem?_append_right (by omega),hρ,Nat.sub_self] at e2
    cases e1
    cases e2
    exact((R'.ok m a o ha ho).pop le (by rw[R.len];exact hco)).le' pre (Le.refl _)
 ·obtain⟨a,ha,rfl⟩:=r
  have hρ:ρ.length=S0.length:=by rw[R.len,hl]
  have na:a ∉ ρ:=fun z=>by
   obtain⟨n,hn⟩:=List.mem_iff_getElem?.mp z
   have l1:=(List.getElem?_eq_some_iff.mp hn).1
   have:=p7 R'.nd (by rw[List.getElem?_append_left l1];exact hn) ha
   have:=R.len
   omega
  obtain⟨vs,h1,h2⟩:=R'.ok m a _ ha ho
  refine⟨ρ,S0,.lst l,⟨⟨[],by simp⟩,g.le.trans mX⟩,R'.pop hρ (by rw[hl];exact hc),?_,q⟩
  show Rp _ _ _ _
  unfold Rp
  exact⟨a,vs,rfl,nY na h1,h2.le mX⟩
 ·exact⟨_,S',d,g,R',r,q⟩
noncomputable def endsF (S:bB)(k:KD):AR:={ nx:=fun _ S'=>closes S.length .dR S' k,rt:=fun d S'=>closes S.length d S' k }
theorem JS {S S1:bB}{x:T}{k:KD}(c:∀ o∈S,Cw S.length o)(h:k (.t x) S):closes S.length (.t x) (S++S1) k:=.inl ⟨S,S1,rfl,rfl,c,trivial,h⟩
theorem aP {S:bB}{x:T}{k:KD}(c:∀ o∈S,Cw S.length o)(h:k (.t x) S):closes S.length (.t x) S k:=.inr (.inr (.inr h))
theorem M0 {S S1:bB}{j:Nat}{l:List T}{k:KD}(c:∀ o∈S,Cw S.length o)(e:S1[j]?=some (.lst l))(h:k (.lst l) S):closes S.length (.ob (S.length+j)) (S++S1) k :=
 .inr (.inr (.inl ⟨_,l,S,S1,rfl,by omega,rfl,rfl,c,by rw[List.getElem?_append_right (by omega),Nat.add_sub_cancel_left];exact e,h⟩))
theorem a25 {S S1:bB}{j:Nat}{o:O}{k:KD}(c:∀ o∈S,Cw S.length o)(e:S1[j]?=some o)(co:Cw S.length o)(h:k (.ob S.length) (S++[o])):closes S.length (.ob (S.length+j)) (S++S1) k :=
 .inr (.inl ⟨_,o,S,S1,rfl,by omega,rfl,rfl,c,by rw[List.getElem?_append_right (by omega),Nat.add_sub_cancel_left];exact e,co,h⟩)
theorem eS {S S1:bB}{j:Nat}:(S++S1)[S.length+j]?=S1[j]?:=by rw[List.getElem?_append_right (by omega),Nat.add_sub_cancel_left]
theorem dU {S S1:bB}{j:Nat}{o:O}:(S++S1).set (S.length+j) o=S++S1.set j o:=by rw[List.set_append_right _ _ (by omega),Nat.add_sub_cancel_left]
noncomputable def Cl (S:bB):Prop:=∀ o∈S,Cw S.length o
section
variable {P:Program}{w:World}{K:PySem.W.Frag}{mg:Str->Option Value}{base:Heap}
theorem zD {x qual:Str}{st:Stmt}{f:Addr}{fd:FuncData}{N ps:List Str}{k:Nat}{sp:cu}(F:bM K x qual st f fd)(S:ao N ps (af st))(len:∀ ds S k,sp ds S k->ds.length=ps.length)
  (hb:∀ (cdv:Value) (A:Around) (outer:List Env) (s:Shared) (H:Hp) (E:XK),dg k (A.deeper (PyProof.Rows.envOfC qual (af st) s.heap.objs.size f cdv)) ->
   ∃ t,Kc (EC bO P w K mg base N qual (af st) f cdv A outer s H E).Vx (ak st) t/\∀ ds S kk,Cl S->(∀ d∈ds,VM S.length d)->sp ds S kk->t (endsF S kk) (tQ N ds) S):aE P w K mg base bO (k+1) f fd ps (aQ K sp):=by
 refine F.ok S (fun vs H Q E ⟨ρ,S,ds,kk,R,rd,q,_⟩=>by rw[<- eU.len rd];exact len ds S kk q) ?_
 rintro cdv A outer s H vs Q E hr ⟨ρ,S,ds,kk,R,rd,q,hk⟩
 obtain⟨t,h1,h2⟩:=hb cdv A outer s H E hr
 refine⟨_,h1,ρ,S,tQ N ds,endsF S kk,R,vj.start rd N,h2 ds S kk R.cl (fun d hd=>?_) q,?_⟩
 ·obtain⟨v,z⟩:=n8 rd d hd
  rw[<- R.len]
  exact z.cl
 ·refine⟨(by rintro σ H' ⟨ρ',S',δ',g',R',RS',q'⟩;exact hk _ _ (EG R ⟨ρ',S',.dR,g',R',bQ,q'⟩)),fun v H' u=>hk _ _ (EG R u),(by rintro σ H' ⟨_,_,_,_,_,_,z⟩;exact z),(by rintro σ H' ⟨_,_,_,_,_,_,z⟩;exact z)⟩
end
end L3
namespace PySem
open L2
noncomputable def itW (m:Nat):Nat->Nat->Nat
 | 0,i=>i
 | n+1,i=>itW m n ((i*5+1) % (m+1))
noncomputable def yN (m:Nat):Prop:=∀ i,i < m+1->∀ j,j < m+1->∃ n,n < m+1/\itW m n i=j
theorem YU:yN 7:=by unfold yN;decide +kernel
theorem UY:yN 15:=by unfold yN;decide +kernel
section
variable {m:Nat}{ow:Array (Option Nat)}
theorem YV {i:Nat}(hi:i < ow.size):(ow.getD i (some 0)).isNone=true↔ow.getD i none=none:=by
 simp only[Array.getD_eq_getD_getElem?]
 rw[Array.getElem?_eq_getElem hi]
 simp only[Option.getD_some,Option.isNone_iff_eq_none]
theorem MI (hs:ow.size=m+1){fuel i p:Nat}(hi:i < m+1)(h:ow.getD i none=none∨∃ j,SetTable.layClean.free m ow fuel ((i*5+1+p / 32) % (m+1)) (p / 32)=some j/\j < m+1/\ow.getD j none=none):∃ j,SetTable.layClean.free m ow (fuel+1) i p=some j/\j < m+1/\ow.getD j none=none:=by
 have hr:i<=SetTable.runEnd m i/\SetTable.runEnd m i<=m:=by unfold SetTable.runEnd;split <;> omega
 unfold SetTable.layClean.free
 cases z:(List.range (SetTable.runEnd m i+1 - i)).find? (fun k=>(ow.getD (i+k) (some 0)).isNone) with
 | some k =>
  have h1:=List.find?_some z
  have h2:=List.mem_range.mp (List.mem_of_find?_eq_some z)
  exact⟨i+k,rfl,by omega,(YV (by omega)).mp h1⟩
 | none =>
  rcases h with h | ⟨j,e,l,n⟩
  ·have:=List.find?_eq_none.mp z 0 (List.mem_range.mpr (by omega))
   rw[Nat.add_zero] at this
   exact absurd ((YV (by omega)).mpr h) this
  ·exact⟨j,e,l,n⟩
theorem Q8 (hs:ow.size=m+1){j:Nat}(hj:ow.getD j none=none):∀ (n fuel i:Nat),i < m+1->itW m n i=j->n < fuel->∃ j,SetTable.layClean.free m ow fuel i 0=some j/\j < m+1/\ow.getD j none=none
 | 0,fuel+1,i,hi,h,_=>MI hs hi (.inl (by have h:i=j:=h;rw[h];exact hj))
 | n+1,fuel+1,i,hi,h,hl=>by
  refine MI hs hi (.inr ?_)
  rw[Nat.zero_div,Nat.add_zero]
  exact Q8 hs hj n fuel _ (Nat.mod_lt _ (by omega)) h (by omega)
theorem Q9 (g:yN m)(hs:ow.size=m+1){j:Nat}(hl:j < m+1)(hj:ow.getD j none=none):∀ (k fuel i p:Nat),i < m+1->p < 32 ^ k->k+(m+1)<=fuel->∃ j,SetTable.layClean.free m ow fuel i p=some j/\j < m+1/\ow.getD j none=none
 | 0,fuel,i,p,hi,hp,hf=>by
  have:p=0:=by omega
  rw[this]
  obtain⟨n,hn,e⟩:=g i hi j hl
  exact Q8 hs hj n fuel i hi e (by omega)
 | k+1,fuel+1,i,p,hi,hp,hf=>by
  refine MI hs hi (.inr (Q9 g hs hl hj k fuel _ _ (Nat.mod_lt _ (by omega)) ?_ (by omega)))
  rw[Nat.div_lt_iff_lt_mul (by decide)]
  rw[Nat.pow_succ] at hp
  exact hp
noncomputable def tP (m:Nat)(ow:Array (Option Nat)):List Nat:=(List.range (m+1)).filterMap fun j=>ow.getD j none
theorem Kv (hc:(tP m ow).length < m+1):∃ j,j < m+1/\ow.getD j none=none:=by
 rcases Classical.em (∃ j,j < m+1/\ow.getD j none=none) with h | h
 ·exact h
 ·exfalso
  have key:∀ l:List Nat,(∀ j∈l,j < m+1)->(l.filterMap fun j=>ow.getD j none).length=l.length:=by
   intro l
   induction l with
   | nil=>intro _;rfl
   | cons a r ih =>
    intro hl
    cases z:ow.getD a none with
    | none=>exact absurd ⟨a,hl a List.mem_cons_self,z⟩ h
    | some v=>rw[iz (fun j=>ow.getD j none) z,List.length_cons,List.length_cons,ih fun j hj=>hl j (List.mem_cons_of_mem _ hj)]
  have:=key (List.range (m+1)) fun j hj=>List.mem_range.mp hj
  unfold tP at hc
  rw[this,List.length_range] at hc
  omega
theorem NR (hs:ow.size=m+1){j k:Nat}(hj:j < m+1)(hn:ow.getD j none=none):List.Perm (tP m (ow.setIfInBounds j (some k))) (k::tP m ow):=by
 unfold tP
 have sp:List.range (m+1)=List.range j++(j::List.range' (j+1) (m - j)):=by
  rw[List.range_eq_range',List.range_eq_range']
  have e2:=List.range'_append_1 (s:=0) (m:=j) (n:=1+(m - j))
  rw[Nat.zero_add] at e2
  have e3:List.range' j (1+(m - j))=j::List.range' (j+1) (m - j):=by rw[Nat.add_comm,List.range'_succ]
  rw[<- e3,e2]
  congr 1
  omega
 have f1:∀ m,m≠j->(ow.setIfInBounds j (some k)).getD m none=ow.getD m none:=fun m hm=>by
  simp only[Array.getD_eq_getD_getElem?]
  rw[Array.getElem?_setIfInBounds_ne (Ne.symm hm)]
 have f2:(ow.setIfInBounds j (some k)).getD j none=some k:=by
  simp only[Array.getD_eq_getD_getElem?]
  rw[Array.getElem?_setIfInBounds_self_of_lt (by omega)]
  rfl
 have g:∀ l:List Nat,j ∉ l->l.filterMap (fun m=>(ow.setIfInBounds j (some k)).getD m none)=l.filterMap (fun m=>ow.getD m none):=fun l hl=>by
  refine oK fun m hm=>?_
  exact f1 m fun z=>hl (z ▸ hm)
 rw[sp,List.filterMap_append,List.filterMap_append,iz (fun m=>(ow.setIfInBounds j (some k)).getD m none) f2,qc (fun m=>ow.getD m none) hn,g _ (fun z=>by have:=List.mem_range.mp z;omega),g _ (fun z=>by have:=(List.mem_range'_1.mp z).1;omega)]
 exact List.perm_middle
end
theorem Au {m:Nat}(g:yN m):∀ (hs:List Int) (ow:Array (Option Nat)) (k:Nat),ow.size=m+1->List.Perm (tP m ow) (List.range k)->k+hs.length<=m->∃ LH,(hs.foldl (fun acc h=>do
  let (owner,k) <- acc
  let j <- SetTable.layClean.free m owner (SetTable.turns m) (SetTable.bits h % (m+1)) (SetTable.bits h)
  pure (owner.setIfInBounds j (some k),k+1)) (some (ow,k)))=some (LH,k+hs.length)/\LH.size=m+1/\List.Perm (tP m LH) (List.range (k+hs.length))
 | [],ow,k,hs,hp,hl=>⟨ow,rfl,hs,hp⟩
 | h::r,ow,k,hs,hp,hl=>by
  rw[List.length_cons] at hl ⊢
  have lt:=hp.length_eq
  rw[List.length_range] at lt
  obtain⟨j0,l0,n0⟩:=Kv (m:=m) (ow:=ow) (by omega)
  obtain⟨j,e,lj,nj⟩:=Q9 g hs l0 n0 13 (SetTable.turns m) (SetTable.bits h % (m+1)) (SetTable.bits h) (Nat.mod_lt _ (by omega)) (IL h) (by unfold SetTable.turns;omega)
  have p2:List.Perm (tP m (ow.setIfInBounds j (some k))) (List.range (k+1)):=(NR hs lj nj).trans (by
   rw[List.range_succ]
   exact(hp.cons k).trans (List.perm_append_singleton k (List.range k)).symm)
  obtain⟨LH,e',s',q'⟩:=Au g r (ow.setIfInBounds j (some k)) (k+1) (by rw[Array.size_setIfInBounds];exact hs) p2 (by omega)
  refine⟨LH,?_,s',by rw[show k+(r.length+1)=k+1+r.length by omega];exact q'⟩
  rw[List.foldl_cons]
  have:(do
    let (owner,k) <- some (ow,k)
    let j <- SetTable.layClean.free m owner (SetTable.turns m) (SetTable.bits h % (m+1)) (SetTable.bits h)
    pure (owner.setIfInBounds j (some k),k+1))=some (ow.setIfInBounds j (some k),k+1):=by
   show(do
    let j <- SetTable.layClean.free m ow (SetTable.turns m) (SetTable.bits h % (m+1)) (SetTable.bits h)
    pure (ow.setIfInBounds j (some k),k+1))=some (ow.setIfInBounds j (some k),k+1)
   rw[e];rfl
  rw[this,e',show k+(r.length+1)=k+1+r.length by omega]
theorem NS (m:Nat):List.Perm (tP m (Array.replicate (m+1) none)) (List.range 0):=by
 have:tP m (Array.replicate (m+1) none)=[]:=by
  unfold tP
  rw[List.filterMap_eq_nil_iff]
  intro j hj
  simp only[Array.getD_eq_getD_getElem?,Array.getElem?_replicate]
  split <;> rfl
 rw[this]
 exact .refl _
theorem QC {m:Nat}(g:yN m){fi mo:Nat}{led plain:Bool}{hs:Array Int}(h:hs.size<=m):∃ t order,SetTable.laid m fi mo led plain hs=some (t,order)/\List.Perm order.toList (List.range hs.size)/\t.place.size=hs.size/\t.mask=m/\t.dummies=#[]/\t.led=led/\t.plain=plain:=by
 obtain⟨ow,e,so,po⟩:=Au g hs.toList (Array.replicate (m+1) none) 0 (by simp) (NS m) (by rw[Array.length_toList];omega)
 unfold SetTable.laid SetTable.layClean
 rw[<- Array.foldl_toList]
 rw[e]
 refine⟨_,_,rfl,?_,?_,rfl,rfl,rfl,rfl⟩
 ·rw[Nat.zero_add,Array.length_toList] at po
  refine List.Perm.trans (l₂:=tP m ow) ?_ po
  unfold tP
  simp only[List.map_filterMap]
  refine .of_eq (oK fun j _=>?_)
  cases ow.getD j none <;> rfl
 ·have len:=po.length_eq
  rw[List.length_range,Nat.zero_add,Array.length_toList] at len
  have key:∀ l:List Nat,(l.filterMap fun j=>(ow.getD j none).map (j,·)).length=(l.filterMap fun j=>ow.getD j none).length:=fun l=>by
   induction l with
   | nil=>rfl
   | cons a r ih =>
    cases z:ow.getD a none with
    | none=>rw[qc (fun j=>(ow.getD j none).map (j,·)) (by show(ow.getD a none).map _=none;rw[z];rfl),qc (fun j=>ow.getD j none) z];exact ih
    | some v=>rw[iz (fun j=>(ow.getD j none).map (j,·)) (b:=(a,v)) (by show(ow.getD a none).map _=_;rw[z];rfl),iz (fun j=>ow.getD j none) z,List.length_cons,List.length_cons,ih]
  refine Eq.trans ?_ len
  rw[List.size_toArray,List.length_map]
  exact key _
end PySem
namespace PySem
open L2
section
variable {prog:Program}{w:World}{A:Around}{E:Value->Shared->Prop}{s:Shared}
theorem Ce (led:Bool){n:Nat}(h1:10<=n)(h2:n < 16):(SetTable.fresh 0 0 led).relaid #[] n=some ({ mask:=15,place:=#[],dummies:=#[],finger:=0,led:=led,moves:=1,plain:=true },#[]):=by
 have:n=10∨n=11∨n=12∨n=13∨n=14∨n=15:=by omega
 rcases this with rfl | rfl | rfl | rfl | rfl | rfl <;> cases led <;> decide +kernel
theorem PD {n:Nat}(h1:10<=n)(h2:n < 16):SetTable.sizeAbove n=16:=by
 have:n=10∨n=11∨n=12∨n=13∨n=14∨n=15:=by omega
 rcases this with rfl | rfl | rfl | rfl | rfl | rfl <;> decide +kernel
noncomputable def Zy (prog:Program)(w:World)(h:Heap)(r:Addr)(zs:List Str):Prop:=(∃ ys,bF prog w h r ys/\List.Perm ys zs)/\∃ o es ep t,h.get? r=some o/\o.data=.set es ep t/\t.fits es.size=true/\t.dummies=#[]
theorem enN {h:Heap}{r:Addr}{zs:List Str}{o:Obj}{es:Array (Int×Value)}{ep:Nat}{t:SetTable}(ho:h.get? r=some o)(hex:o.ExactSet)(hd:o.data=.set es ep t)(he:o6 prog w es.toList zs)(hn:zs.Nodup)(hl:zs.length < 64)(hf:t.fits es.size=true)(fO:t.led=(!w.params.followText "set-order"))(hpl:t.plain=false)(NF:t.dummies=#[]):Zy prog w h r zs:=by
 refine⟨⟨es.toList.map (fun e=>strOf e.2),⟨o,es,ep,t,ho,hex,hd,uu he,fun e hm=>?_,rfl,(he.1.nodup_iff).mpr hn,?_,hf,fO,.inl hpl⟩,he.1⟩,o,es,ep,t,ho,hd,hf,NF⟩
 ·obtain⟨z,k,rfl⟩:=he.2 e hm
  exact⟨z,k,rfl⟩
 ·have:=he.1.length_eq
  rw[List.length_map,Array.length_toList] at this
  unfold scanBound
  omega
theorem Ve {a:Addr}{zs:List Str}{Q:Value->Shared->Prop}(hS:bF prog w s.heap a zs)(h5:5<=zs.length)(h7:zs.length<=7)
  (h:∀ h',(∀ b ob,s.heap.get? b=some ob->h'.get? b=some ob)->Zy prog w h' s.heap.objs.size zs->Q (.ref s.heap.objs.size) { s with heap:=h' }):wpAny (model prog w) A (Builtin.Frozenset.copyOf a) Q E s:=by
 unfold Builtin.Frozenset.copyOf Builtin.Frozenset.baseOf
 refine wpAny_bind (wpAny_bind (wpAny_isInstance hS.typeIs sub_set_self (wpAny_pure ?_)))
 simp only[if_true]
 unfold newSet setsByText
 refine wpAny_bind (wpAny_bind (wpAny_bind (wpAny_askSetting (wpAny_pure ?_))))
 dsimp only
 simp only[newObj]
 refine wpAny_bind (wpAny_alloc (wpAny_pure ?_))
 refine wpAny_bind (wpAny_pure ?_)
 show wpAny (model prog w) A _ _ _ { s with heap:=s.heap.push { cls:=.type "set",dict:=none,data:=.set #[] 0 (.fresh 0 0 (!w.params.followText "set-order")) } }
 generalize Mz:s.heap.push { cls:=.type "set",dict:=none,data:=.set #[] 0 (.fresh 0 0 (!w.params.followText "set-order")) }=h1
 have J9:∀ b ob,s.heap.get? b=some ob->h1.get? b=some ob:=fun b ob e=>Mz ▸ Heap.get?_push_of_some _ e
 have hr1:h1.get? s.heap.objs.size=some { cls:=.type "set",dict:=none,data:=.set #[] 0 (.fresh 0 0 (!w.params.followText "set-order")) }:=Mz ▸ Heap.get?_push_size _ rfl
 have la:a < s.heap.objs.size:=let ⟨_,_,_,_,e,_⟩:=hS;Heap.lt_size e
 have W4:(s.heap.objs.size == a)=false:=beq_eq_false_iff_ne.mpr (Nat.ne_of_gt la)
 have hnd:zs.Nodup:=let ⟨_,_,_,_,_,_,_,_,_,_,n,_⟩:=hS;n
 have MA:bF prog w h1 a zs:=hS.at (J9 a)
 obtain⟨oa,es,ep,t,ho,hex,hd,hf,fO,hpl,hn,hent,hst⟩:=k6 MA
 have VF:es.size=zs.length:=by omega
 have Gp:t.plain=false:=hpl.resolve_right (by omega)
 refine wpAny_bind ?_
 unfold setMerge
 rw[W4]
 simp only[Bool.false_eq_true,if_false]
 refine wpAny_bind (wpAny_setState_of (s:={ s with heap:=h1 }) ho hd hf ?_)
 dsimp only
 rw[if_neg (by simp only[Array.isEmpty,decide_eq_true_eq];omega)]
 unfold setRoomFor
 refine wpAny_bind (wpAny_bind (wpAny_setState_of (s:={ s with heap:=h1 }) hr1 rfl rfl ?_))
 dsimp only
 have er:(SetTable.fresh 0 0 (!w.params.followText "set-order")).roomFor es.size=some (es.size*2):=by unfold SetTable.roomFor SetTable.fill SetTable.fresh;simp;omega
 rw[er]
 dsimp only
 unfold setRelay
 refine wpAny_bind (wpAny_setState_of (s:={ s with heap:=h1 }) hr1 rfl rfl ?_)
 dsimp only
 rw[if_neg (by rw[sizeLine_eq,PD (by omega) (by omega)];decide)]
 refine wpAny_bind ?_
 show wpAny _ _ (FL #[] ((SetTable.fresh 0 0 (!w.params.followText "set-order")).relaid (Array.map (fun x:Int×Value=>x.1) #[]) (es.size*2))) _ _ _
 have em:(Array.map (fun x:Int×Value=>x.1) #[])=#[]:=by simp
 refine xy (by rw[em];exact Ce _ (by omega) (by omega)) (by simp) fun es0 p0=>?_
 obtain rfl:es0=#[]:=by have:=p0.length_eq;simp at this;exact this
 dsimp only
 refine wpAny_storeSet_of (s:={ s with heap:=h1 }) hr1 rfl ?_
 have hr2:=pL (es':=#[]) (t':={ mask:=15,place:=#[],dummies:=#[],finger:=0,led:=!w.params.followText "set-order",moves:=1,plain:=true }) hr1 rfl
 have J8:Heap.SameBut s.heap.objs.size h1 (h1.update s.heap.objs.size (Obj.putSet #[] { mask:=15,place:=#[],dummies:=#[],finger:=0,led:=!w.params.followText "set-order",moves:=1,plain:=true })):=Heap.SameBut.update _ _ _
 dsimp only at hr2
 generalize h1.update s.heap.objs.size (Obj.putSet #[] { mask:=15,place:=#[],dummies:=#[],finger:=0,led:=!w.params.followText "set-order",moves:=1,plain:=true })=h2 at hr2 J8 ⊢
 refine wpAny_bind (wpAny_setState_of (s:={ s with heap:=h2 }) hr2 rfl rfl ?_)
 dsimp only
 have Mc:((!w.params.followText "set-order") && t.led)=(!w.params.followText "set-order"):=by rw[fO,Bool.and_self]
 have WO:(true && t.plain)=false:=by rw[Gp];rfl
 rw[Mc,WO]
 have fin:∀ es' t',List.Perm es'.toList es.toList->t'.place.size=es'.size->t'.mask=15->t'.dummies=#[]->t'.led=(!w.params.followText "set-order")->t'.plain=false->wpAny (model prog w) A (storeSet s.heap.objs.size es' t') (fun _ s'=>wpAny (model prog w) A (pure (Value.ref s.heap.objs.size)) Q E s') E { s with heap:=h2 }:=by
  intro es' t' p e1 e2 e3 e4 e5
  have sz:es'.size=zs.length:=by have:=p.length_eq;rw[Array.length_toList,Array.length_toList] at this;omega
  refine wpAny_storeSet_of (s:={ s with heap:=h2 }) hr2 rfl (wpAny_pure ?_) (by rw[sz,sizeLine_eq];omega)
  have sI:=pL (es':=es') (t':=t') hr2 rfl
  refine h _ (fun b ob e=>?_) (enN sI ⟨rfl,rfl,rfl⟩ rfl (hent.perm p) hnd (by omega) ?_ e4 e5 e3)
  ·have l:=Nat.ne_of_lt (Heap.lt_size e)
   exact((Heap.SameBut.update _ _ _).2 b l).trans ((J8.2 b l).trans (J9 b ob e))
  ·unfold SetTable.fits SetTable.fill
   rw[e3,e1,e2]
   simp
   omega
 unfold SetTable.road
 rw[if_neg (by simp[SetTable.fill])]
 dsimp only
 have YI:t.place.size=es.size:=by
  unfold SetTable.fits at hf
  simp only[Bool.and_eq_true,beq_iff_eq] at hf
  exact hf.1
 by_cases hm:(15 == t.mask && t.dummies.isEmpty)=true
 ·rw[if_pos hm]
  dsimp only
  simp only[Bool.and_eq_true,beq_iff_eq,Array.isEmpty_iff] at hm
  exact fin es _ .rfl YI hm.1.symm hm.2 rfl rfl
 ·rw[if_neg hm]
  dsimp only
  refine wpAny_bind ?_
  obtain⟨t',order,el,po,p1,p2,p3,p4,p5⟩:=QC UY (fi:=0) (mo:=1) (led:=!w.params.followText "set-order") (plain:=false) (hs:=es.map (·.1)) (by rw[Array.size_map];omega)
  show wpAny _ _ (FL es (SetTable.laid 15 0 1 (!w.params.followText "set-order") false (es.map (·.1)))) _ _ _
  rw[Array.size_map] at po p1
  refine xy el po fun es' p=>?_
  have sz:es'.size=es.size:=by have:=p.length_eq;rw[Array.length_toList,Array.length_toList] at this;exact this
  exact fin es' t' p (by omega) p2 p3 p4 p5
theorem Zd {a:Addr}{zs:List Str}{Q:Value->Shared->Prop}(hS:bF prog w s.heap a zs)(h4:zs.length=4)
  (h:∀ h',(∀ b ob,s.heap.get? b=some ob->h'.get? b=some ob)->Zy prog w h' s.heap.objs.size zs->Q (.ref s.heap.objs.size) { s with heap:=h' }):wpAny (model prog w) A (Builtin.Frozenset.copyOf a) Q E s:=by
 unfold Builtin.Frozenset.copyOf Builtin.Frozenset.baseOf
 refine wpAny_bind (wpAny_bind (wpAny_isInstance hS.typeIs sub_set_self (wpAny_pure ?_)))
 simp only[if_true]
 unfold newSet setsByText
 refine wpAny_bind (wpAny_bind (wpAny_bind (wpAny_askSetting (wpAny_pure ?_))))
 dsimp only
 simp only[newObj]
 refine wpAny_bind (wpAny_alloc (wpAny_pure ?_))
 refine wpAny_bind (wpAny_pure ?_)
 show wpAny (model prog w) A _ _ _ { s with heap:=s.heap.push { cls:=.type "set",dict:=none,data:=.set #[] 0 (.fresh 0 0 (!w.params.followText "set-order")) } }
 generalize Mz:s.heap.push { cls:=.type "set",dict:=none,data:=.set #[] 0 (.fresh 0 0 (!w.params.followText "set-order")) }=h1
 have J9:∀ b ob,s.heap.get? b=some ob->h1.get? b=some ob:=fun b ob e=>Mz ▸ Heap.get?_push_of_some _ e
 have hr1:h1.get? s.heap.objs.size=some { cls:=.type "set",dict:=none,data:=.set #[] 0 (.fresh 0 0 (!w.params.followText "set-order")) }:=Mz ▸ Heap.get?_push_size _ rfl
 have la:a < s.heap.objs.size:=let ⟨_,_,_,_,e,_⟩:=hS;Heap.lt_size e
 have W4:(s.heap.objs.size == a)=false:=beq_eq_false_iff_ne.mpr (Nat.ne_of_gt la)
 have hnd:zs.Nodup:=let ⟨_,_,_,_,_,_,_,_,_,_,n,_⟩:=hS;n
 have MA:bF prog w h1 a zs:=hS.at (J9 a)
 obtain⟨oa,es,ep,t,ho,hex,hd,hf,fO,hpl,hn,hent,hst⟩:=k6 MA
 have VF:es.size=zs.length:=by omega
 have Gp:t.plain=false:=hpl.resolve_right (by omega)
 refine wpAny_bind ?_
 unfold setMerge
 rw[W4]
 simp only[Bool.false_eq_true,if_false]
 refine wpAny_bind (wpAny_setState_of (s:={ s with heap:=h1 }) ho hd hf ?_)
 dsimp only
 rw[if_neg (by simp only[Array.isEmpty,decide_eq_true_eq];omega)]
 unfold setRoomFor
 refine wpAny_bind (wpAny_bind (wpAny_setState_of (s:={ s with heap:=h1 }) hr1 rfl rfl ?_))
 dsimp only
 have er:(SetTable.fresh 0 0 (!w.params.followText "set-order")).roomFor es.size=none:=by unfold SetTable.roomFor SetTable.fill SetTable.fresh;simp;omega
 rw[er]
 dsimp only
 refine wpAny_pure ?_
 have hr2:=hr1
 have J8:Heap.SameBut s.heap.objs.size h1 h1:=⟨rfl,fun _ _=>rfl⟩
 refine wpAny_bind (wpAny_setState_of (s:={ s with heap:=h1 }) hr2 rfl rfl ?_)
 dsimp only
 have ef:SetTable.fresh 0 0 (!w.params.followText "set-order")={ mask:=7,place:=#[],dummies:=#[],finger:=0,led:=!w.params.followText "set-order",moves:=0,plain:=true }:=rfl
 rw[ef]
 dsimp only
 have Mc:((!w.params.followText "set-order") && t.led)=(!w.params.followText "set-order"):=by rw[fO,Bool.and_self]
 have WO:(true && t.plain)=false:=by rw[Gp];rfl
 rw[Mc,WO]
 have fin:∀ es' t',List.Perm es'.toList es.toList->t'.place.size=es'.size->t'.mask=7->t'.dummies=#[]->t'.led=(!w.params.followText "set-order")->t'.plain=false->wpAny (model prog w) A (storeSet s.heap.objs.size es' t') (fun _ s'=>wpAny (model prog w) A (pure (Value.ref s.heap.objs.size)) Q E s') E { s with heap:=h1 }:=by
  intro es' t' p e1 e2 e3 e4 e5
  have sz:es'.size=zs.length:=by have:=p.length_eq;rw[Array.length_toList,Array.length_toList] at this;omega
  refine wpAny_storeSet_of (s:={ s with heap:=h1 }) hr2 rfl (wpAny_pure ?_) (by rw[sz,sizeLine_eq];omega)
  have sI:=pL (es':=es') (t':=t') hr2 rfl
  refine h _ (fun b ob e=>?_) (enN sI ⟨rfl,rfl,rfl⟩ rfl (hent.perm p) hnd (by omega) ?_ e4 e5 e3)
  ·have l:=Nat.ne_of_lt (Heap.lt_size e)
   exact((Heap.SameBut.update _ _ _).2 b l).trans ((J8.2 b l).trans (J9 b ob e))
  ·unfold SetTable.fits SetTable.fill
   rw[e3,e1,e2]
   simp
   omega
 unfold SetTable.road
 rw[if_neg (by simp[SetTable.fill])]
 dsimp only
 have YI:t.place.size=es.size:=by
  unfold SetTable.fits at hf
  simp only[Bool.and_eq_true,beq_iff_eq] at hf
  exact hf.1
 by_cases hm:(7 == t.mask && t.dummies.isEmpty)=true
 ·rw[if_pos hm]
  dsimp only
  simp only[Bool.and_eq_true,beq_iff_eq,Array.isEmpty_iff] at hm
  exact fin es _ .rfl YI hm.1.symm hm.2 rfl rfl
 ·rw[if_neg hm]
  dsimp only
  refine wpAny_bind ?_
  obtain⟨t',order,el,po,p1,p2,p3,p4,p5⟩:=QC YU (fi:=0) (mo:=0) (led:=!w.params.followText "set-order") (plain:=false) (hs:=es.map (·.1)) (by rw[Array.size_map];omega)
  show wpAny _ _ (FL es (SetTable.laid 7 0 0 (!w.params.followText "set-order") false (es.map (·.1)))) _ _ _
  rw[Array.size_map] at po p1
  refine xy el po fun es' p=>?_
  have sz:es'.size=es.size:=by have:=p.length_eq;rw[Array.length_toList,Array.length_toList] at this;exact this
  exact fin es' t' p (by omega) p2 p3 p4 p5
theorem VQ.cpN {h:Heap}{r:Addr}{zs:List Str}(H:VQ prog w h r zs)(hn:zs.Nodup)(h8:zs.length<=8):Zy prog w h r zs:=by
 refine⟨(H.enW h8).RM hn (by omega),?_⟩
 obtain⟨o,es,ep,t,ho,hex,hd,he,hst,hp,hm,NF,fO,hpl⟩:=H.e
 have:=he.1.length_eq
 rw[List.length_map,Array.length_toList] at this
 refine⟨o,es,ep,t,ho,hd,?_,NF⟩
 unfold SetTable.fits SetTable.fill
 rw[NF,hp,hm]
 simp
 omega
theorem GA {id:String}{a o:Addr}{zs:List Str}{Q:Value->Shared->Prop}(hS:bF prog w s.heap a zs)(hO:bF prog w s.heap o [])(h4:4<=zs.length)(h8:zs.length<=8)
  (h:∀ h' d ys,(∀ b ob,s.heap.get? b=some ob->h'.get? b=some ob)->bF prog w h' s.heap.objs.size ys->(∀ x,x∈ys↔x∈zs)->ys.length < 64->Q (.ref s.heap.objs.size) { s with heap:=h',drawn:=d }) :
  wpAny (model prog w) A (Builtin.Frozenset.difference id a (.ref o)) Q E s:=by
 have hnd:zs.Nodup:=let ⟨_,_,_,_,_,_,_,_,_,_,n,_⟩:=hS;n
 have cp:∀ {Q':Value->Shared->Prop},(∀ h',(∀ b ob,s.heap.get? b=some ob->h'.get? b=some ob)->Zy prog w h' s.heap.objs.size zs->Q' (.ref s.heap.objs.size) { s with heap:=h' })->wpAny (model prog w) A (Builtin.Frozenset.copyOf a) Q' E s:=fun k=>by
  rcases(by omega:zs.length=4∨(5<=zs.length/\zs.length<=7)∨zs.length=8) with e | ⟨e1,e2⟩ | e
  ·exact Zd hS e k
  ·exact Ve hS e1 e2 k
  ·exact EF hS e fun h' kp hC=>k h' kp (hC.cpN hnd (by omega))
 have lo:o < s.heap.objs.size:=let ⟨_,_,_,_,e,_⟩:=hO;Heap.lt_size e
 unfold Builtin.Frozenset.difference
 refine wpAny_bind (jv hO ?_)
 simp only[Bool.not_true,Bool.false_eq_true,if_false,Bool.false_and]
 refine wpAny_bind (wpAny_pure ?_)
 refine wpAny_bind (size_set hO ?_)
 refine wpAny_bind (size_set hS ?_)
 rw[if_pos (by show zs.length / 4 > 0;omega)]
 refine wpAny_bind (wpAny_rule ?_)
 refine wpAny_bind (cp fun h2 Yp hC=>?_)
 obtain⟨⟨ZA,VI,p0⟩,o4,e4,ep4,t4,g1,g3,g5,g7⟩:=hC
 refine wpAny_bind (wpAny_pure ?_)
 refine wpAny_bind (wpAny_holding ?_)
 unfold Builtin.Frozenset.differenceUpdate
 have Pg:bF prog w h2 o []:=hO.at (Yp o)
 have nro:((Value.ref o) == .ref s.heap.objs.size)=false:=by
  refine beq_eq_false_iff_ne.mpr fun e=>?_
  injection e with e
  exact absurd e (Nat.ne_of_lt lo)
 rw[nro]
 simp only[Bool.false_eq_true,if_false]
 refine wpAny_bind (jv (s:={ s with heap:=h2 }) Pg ?_)
 simp only[if_true]
 refine wpAny_bind (wpAny_pure ?_)
 refine wpAny_bind (size_set (s:={ s with heap:=h2 }) Pg ?_)
 refine wpAny_bind (size_set (s:={ s with heap:=h2 }) VI ?_)
 rw[if_neg (by show ¬ 0 / 8 > ZA.length;simp)]
 obtain⟨oo,eo,epo,to,Q2,a2c,hdo,hfo,YQ,a10,hno,YS,a1U⟩:=k6 Pg
 have UU:eo.size=0:=hno
 unfold setEpoch
 refine wpAny_bind (wpAny_bind (wpAny_setState_of (s:={ s with heap:=h2 }) Q2 hdo hfo (wpAny_pure ?_)))
 refine wpAny_bind (wpAny_holding (wpAny_bind ?_))
 unfold setWalkUnseen
 refine wpAny_bind (wpAny_setState_of (s:={ s with heap:=h2 }) Q2 hdo hfo ?_)
 dsimp only
 unfold setsByText
 refine wpAny_bind (wpAny_bind (wpAny_askSetting (wpAny_pure ?_)))
 rw[if_pos (by simp[UU])]
 refine wN (s:={ s with heap:=h2 }) Pg fun es' d qF=>?_
 have l1:es'.toList.length=0:=by have:=qF.1.length_eq;rw[List.length_map] at this;exact this
 refine wpAny_bind (wpAny_forIn_array' _ (fun l _ s'=>l=[]/\s'={ s with heap:=h2,drawn:=d }) _ ?_ ?_ _ _ ⟨List.eq_nil_of_length_eq_zero l1,rfl⟩)
 ·rintro e rest b s' ⟨el,_⟩
  cases el
 ·rintro b s' ⟨_,rfl⟩
  refine wpAny_pure ?_
  unfold setTidy
  refine wpAny_bind (wpAny_setState_of (s:={ s with heap:=h2,drawn:=d }) g1 g3 g5 ?_)
  dsimp only
  rw[if_neg (by unfold SetTable.tooManyDummies;rw[g7];simp)]
  refine wpAny_pure (wpAny_pure ?_)
  exact h h2 d ZA Yp VI (fun x=>p0.mem_iff) (by rw[p0.length_eq];omega)
end
end PySem
namespace L2
open PySem PySem.Spec PyProof.Rows Hw
section
variable {X:Cx}
noncomputable def Wx (P:Program)(w:World):R2:=fun x y H Q=>∃ (p o:Addr) (ss so ds:List Str),x=.ref p/\y=.ref o/\H p=some (nV P w p ss)/\H o=some (nV P w o so)/\ds.length<=8/\(∀ x∈ss,x∈ds) /\
 ∀ (q:Addr) (ws:List Str),H q=none->(∀ x,x∈ws↔x∈ss/\x ∉ so)->Q (.ref q) (upd H q (nV P w q ws))
theorem OI:nh X (binaryOp .Sub) (Wx X.prog X.w):=by
 intro pins s σ H x y v u Q I rx ry h
 obtain⟨p,o,ss,so,ds,rfl,rfl,hp,ho,hd,hin,q⟩:=h
 by_cases hne:so=[]
 ·subst hne
  cases rx
  cases ry
  obtain⟨⟨zs,hS,hm,h64⟩,_,_⟩:=I.hok p _ hp
  obtain⟨⟨zo,hO,hmo,a2m⟩,_,_⟩:=I.hok o _ ho
  have VC:zo=[]:=by
   cases zo with
   | nil=>rfl
   | cons a r=>exact absurd ((hmo a).mp (List.mem_cons_self ..)) List.not_mem_nil
  subst VC
  have hnd:zs.Nodup:=let ⟨_,_,_,_,_,_,_,_,_,_,n,_⟩:=hS;n
  have hz8:=sA hnd fun x hx=>hin x ((hm x).mp hx)
  refine wpAny_binaryOp_same (op:=.Sub) (T:="set") hS.typeIs hO.typeIs F.fills_set_sub F.slot_set_sub (wpAny_call_entry F.slot_set_sub hS.typeIs oM ?_ (F.args_set_sub_2 _ _))
  show wpAny _ _ (Builtin.Frozenset.slot1 "__sub__" ⟨[.ref p,.ref o],[]⟩ >>= _) _ _ _
  refine wpAny_bind (wpAny_pure ?_)
  dsimp only
  simp only[Bool.false_eq_true,if_false]
  refine wpAny_bind (wpAny_bind (jv hS ?_))
  refine jv hO ?_
  simp only[Bool.not_true,Bool.false_eq_true,if_false]
  refine wpAny_bind (wpAny_pure (wpAny_bind ?_))
  have go:∀ (h':Heap) d (ys:List Str),(∀ b ob,s.heap.get? b=some ob->h'.get? b=some ob)->bF X.prog X.w h' s.heap.objs.size ys->(∀ x,x∈ys↔x∈zs)->ys.length < 64->_:=fun h' d ys kp hY Mu hl=>by
   have L:=I.Av (h':=h') (a:=s.heap.objs.size) (o:=nV X.prog X.w s.heap.objs.size ys) (t':=s.toks) (fun b u e=>kp b u e) (fun b u e=>Nat.ne_of_lt (Heap.lt_size e))
    ⟨⟨ys,hY,fun _=>Iff.rfl,hl⟩,let ⟨o,_,_,_,ho,_⟩:=hY;⟨o,ho⟩,fun h1 h2 ⟨zs,x,y⟩ k=>⟨zs,x.at k,y⟩⟩
   exact(⟨_,L.2.drew d,q _ ys L.1 fun x=>by rw[Mu x,hm x];simp⟩:∃ H',Inv X pins σ H' { s with heap:=h',drawn:=d }/\Q (.ref s.heap.objs.size) H')
  by_cases h4:zs.length / 4<=([]:List Str).length
  ·refine AI hS hO h4 h64 fun h' d ys kp hY Mu hl=>?_
   obtain⟨H',I',q'⟩:=go h' d ys kp hY (fun x=>by rw[Mu x];simp) hl
   exact wpAny_pure ⟨_,rfl,(fun z=>by cases z),.ref s.heap.objs.size,_,I',rfl,q'⟩
  ·rw[List.length_nil] at h4
   refine GA hS hO (by omega) (by omega) fun h' d ys kp hY Mu hl=>?_
   obtain⟨H',I',q'⟩:=go h' d ys kp hY Mu hl
   exact wpAny_pure ⟨_,rfl,(fun z=>by cases z),.ref s.heap.objs.size,_,I',rfl,q'⟩
 ·exact OJ pins s σ H _ _ v u Q I rx ry ⟨p,o,ss,so,ds,rfl,rfl,hp,ho,hd,hin,hne,q⟩
end
end L2
namespace L3
open PySem L2 Hw
noncomputable def Mh:D->Option Key
 | .t (.v (.str x))=>some (Sum.inr x)
 | .t (.v (.int i))=>some (Sum.inl i)
 | _=>none
noncomputable def nG (l:List (Key×T))(k:Key):Option T:=(l.find? fun p=>decide (p.1=k)).map (·.2)
noncomputable def dput (l:List (Key×T))(k:Key)(v:T):List (Key×T):=if (l.any fun p=>decide (p.1=k))=true then l.map (fun p=>if p.1=k then (p.1,v) else p) else l++[(k,v)]
noncomputable abbrev Vs (K:PySem.W.Frag)(G:Hp):List (Key×T)->List (Key×V)->Prop:=Paired fun p q=>p.1=q.1/\Rp K G p.2 q.2
section
variable {K:PySem.W.Frag}{G:Hp}
theorem x9 {ρ:List Addr}{d:D}{v:V}{k:Key}(r:j8 K ρ G d v)(h:Mh d=some k):v=kV k:=by
 unfold Mh at h
 split at h
 ·cases h;exact bx r
 ·cases h;exact bx r
 ·cases h
theorem yq {l:List (Key×T)}{kvs:List (Key×V)}(r:Vs K G l kvs)(k:Key):(∀ x,nG l k=some x->∃ v,rO kvs k=some v/\Rp K G x v)/\(nG l k=none->rO kvs k=none):=by
 induction r with
 | nil=>exact⟨(fun x h=>nomatch h),fun _=>rfl⟩
 | @cons p q ps qs h t ih =>
  by_cases e:p.1=k
  ·have e':q.1=k:=h.1 ▸ e
   have a:nG (p::ps) k=some p.2:=by unfold nG;simp[List.find?_cons,e]
   rw[a,rM e']
   exact⟨fun x z=>by cases z;exact⟨_,rfl,h.2⟩,fun z=>nomatch z⟩
  ·have e':¬ q.1=k:=fun z=>e (h.1.trans z)
   have a:nG (p::ps) k=nG ps k:=by unfold nG;simp[List.find?_cons,e]
   rw[a,rN e']
   exact ih
theorem PB {l:List (Key×T)}{kvs:List (Key×V)}(r:Vs K G l kvs)(k:Key):(l.any fun p=>decide (p.1=k))=(kvs.any fun p=>decide (p.1=k)):=by
 induction r with
 | nil=>rfl
 | @cons p q ps qs h t ih=>rw[List.any_cons,List.any_cons,ih,h.1]
theorem OW {l:List (Key×T)}{kvs:List (Key×V)}(r:Vs K G l kvs)(k:Key){x:T}{v:V}(h:Rp K G x v):Vs K G (l.map fun p=>if p.1=k then (p.1,x) else p) (kvs.map fun p=>if p.1=k then (p.1,v) else p):=by
 induction r with
 | nil=>exact .nil
 | @cons p q ps qs h' t ih =>
  rw[List.map_cons,List.map_cons]
  refine .cons ?_ ih
  by_cases e:p.1=k
  ·rw[if_pos e,if_pos (h'.1 ▸ e)];exact⟨h'.1,h⟩
  ·rw[if_neg e,if_neg (fun z=>e (h'.1.trans z))];exact h'
theorem xH {α β:Type}{F:α->β->Prop}:∀ {l l':List α} {m m':List β},Paired F l m->Paired F l' m'->Paired F (l++l') (m++m')
 | _,_,_,_,.nil,h=>h
 | _,_,_,_,.cons r t,h=>.cons r (xH t h)
theorem MP {l:List (Key×T)}{kvs:List (Key×V)}(r:Vs K G l kvs)(k:Key){x:T}{v:V}(h:Rp K G x v):Vs K G (dput l k x) (putK kvs k v):=by
 unfold dput putK
 rw[PB r k]
 by_cases e:(kvs.any fun p=>decide (p.1=k))=true
 ·rw[if_pos e,if_pos e];exact OW r k h
 ·rw[if_neg e,if_neg e];exact xH r (.cons ⟨rfl,h⟩ .nil)
end
noncomputable def Y8:Dg:=fun a b S k=>∃ n l key x,a=.ob n/\S[n]?=some (.yX l)/\Mh b=some key/\nG l key=some x/\k (.t x) S
section
variable {X:Cx}{o i e f value:Expr}{to ti te tx tv:eY}{pos pos' apos cpos:Pos}{t:yL}
theorem BE (hu:X.A.units+1 < cLine)(ho:QE X o to)(hi:QE X i ti)(hs:Vu i:=by intro _ _;rfl):QE X (.Subscript o i pos) (IZ Y8 to ti) :=
 cW (OE hu ho hi hs) (by rintro σ H Q ⟨ρ,S,δ,k,R,D,q,hk⟩;exact ⟨ρ,S,δ,_,R,D,q,(by rintro v H1 ⟨ρ1,S1,d1,g1,R1,r1,q1⟩;exact ⟨ρ1,S1,δ,_,R1,D.gr g1,q1,(by
  rintro w H2 ⟨ρ2,S2,d2,g2,R2,r2,n,l,key,x,h1,h2,h3,h4,q2⟩
  subst h1
  obtain⟨a,ha,e1⟩:=r1.gr g2
  obtain⟨kvs,e2,e3⟩:=R2.ok n a _ ha h2
  obtain⟨u,e4,e5⟩:=(yq e3 key).1 x h4
  exact⟨a,u,e1,by rw[x9 r2 h3,<- e4];exact De.k e2,hk _ _ ⟨ρ2,S2,.t x,g1.trans g2,R2,e5,q2⟩⟩)⟩)⟩)
noncomputable def Ry:eY:=fun _ S k=>k (.ob S.length) (S++[.yX []])
theorem Lp:QE X (.Dict [] [] pos) Ry:=cW LA fun σ H Q ⟨ρ,S,δ,k,R,D,q,hk⟩ p hp=>Y3 R hk p hp (o:=.yX []) ⟨[],rfl,.nil⟩ q
noncomputable def RT (to ti tv:eY):wI:=fun E δ S=>tv δ S fun y S1=>to δ S1 fun o S2=>ti δ S2 fun i S3=>∃ n l key x,o=.ob n/\S3[n]?=some (.yX l)/\Mh i=some key/\y=.t x/\l.length < sizeLine/\E.nx δ (S3.set n (.yX (dput l key x)))
theorem BD (hu:X.A.units+1 < cLine)(ho:QE X o to)(hi:QE X i ti)(hv:QE X value tv)(hs:swapsWith value (some (.Subscript o i pos')) pos.line X.env=pure false:=by rfl):QS X (.Assign [.Subscript o i pos'] value pos) (RT to ti tv) :=
 qv (Ow hu ho hi hv hs) (by rintro D σ H ⟨ρ,S,δ,E,R,RS,q,eu⟩;exact ⟨ρ,S,δ,_,R,RS,q,(by rintro v H1 ⟨ρ1,S1,d1,g1,R1,r1,q1⟩;exact ⟨ρ1,S1,δ,_,R1,RS.gr g1,q1,(by rintro w H2 ⟨ρ2,S2,d2,g2,R2,r2,q2⟩;exact   ⟨ρ2,S2,δ,_,R2,RS.gr (g1.trans g2),q2,(by
   rintro z H3 ⟨ρ3,S3,d3,g3,yM,r3,n,l,key,x,h1,h2,h3,h4,h5,q3⟩
   subst h1 h4
   obtain⟨a,ha,e1⟩:=r2.gr g3
   obtain⟨kvs,e2,e3⟩:=yM.ok n a _ ha h2
   have hl:kvs.length < sizeLine:=by rw[<- Paired.length e3];exact h5
   obtain⟨R4,g4⟩:=yM.put (o:=.dK (putK kvs key v)) (u:=.yX (dput l key x)) ha ⟨_,rfl,MP e3 key (r1.gr (g2.trans g3))⟩
   refine⟨a,_,e1,by rw[x9 r3 h3];exact Nm.k e2 hl,eu.nx _ _ ⟨ρ3,_,δ,((g1.trans g2).trans g3).trans g4,R4,(RS.gr ((g1.trans g2).trans g3)).gr g4,q3⟩⟩)⟩)⟩)⟩)
noncomputable def NW (to ti tx:eY):eY:=fun δ S k=>to δ S fun o S1=>∃ n l0,o=.ob n/\S1[n]?=some (.yX l0)/\ti δ S1 fun i S2=>tx δ S2 fun z S3=>∃ l key,S3[n]?=some (.yX l)/\Mh i=some key/\k (match nG l key with | some x=>.t x | none=>z) S3
theorem HM (hu:X.A.units+1 < cLine)(ho:QE X o to)(he:QE X e te)(hf:QE X f tx)(m:M2 X o "get" apos e f cpos:=by exact⟨rfl,rfl,rfl,rfl⟩):QE X (.Call (.Attribute o "get" apos) [e,f] [] cpos) (NW to te tx) :=
 cW (LB hu ho he hf m) fun σ H Q ⟨ρ,S,δ,k,R,D,q,hk⟩=>⟨ρ,S,δ,_,R,D,q,(by
  rintro v H1 ⟨ρ1,S1,d1,g1,R1,r1,n,l0,h1,h2,q1⟩
  subst h1
  obtain⟨a,ha,e1⟩:=r1
  obtain⟨kvs,e2,e3⟩:=R1.ok n a _ ha h2
  refine⟨a,e1,.inl ⟨kvs,.inl e2⟩,ρ1,S1,δ,_,R1,D.gr g1,q1,fun w H2 ⟨ρ2,S2,d2,g2,R2,r2,q2⟩=>⟨ρ2,S2,δ,_,R2,D.gr (g1.trans g2),q2,fun z H3 ⟨ρ3,S3,d3,g3,yM,r3,l,key,h3,h4,q3⟩=>?_⟩⟩
  obtain⟨kvs',f1,f2⟩:=yM.ok n a _ ((g2.trans g3).at ha) h3
  refine⟨rO kvs' key,by rw[x9 (r2.gr g3) h4];exact De.k f1,?_⟩
  have gg:=(g1.trans g2).trans g3
  cases c:nG l key with
  | none=>rw[c] at q3;rw[(yq f2 key).2 c];exact hk _ _ ⟨ρ3,S3,d3,gg,yM,r3,q3⟩
  | some x =>
   rw[c] at q3
   obtain⟨u,i1,i2⟩:=(yq f2 key).1 x c
   rw[i1]
   exact hk _ _ ⟨ρ3,S3,.t x,gg,yM,i2,q3⟩)⟩
end
noncomputable def sH (x:Str):List Str->List Str
 | []=>[x]
 | y::r=>if lt x y=true then x::y::r else if x=y then y::r else y::sH x r
noncomputable def uU:List Str->List Str:=List.foldr sH []
theorem yi {x z:Str}:∀ {l:List Str},z∈sH x l↔z=x∨z∈l
 | []=>by simp[sH]
 | y::r=>by
  unfold sH
  by_cases h:lt x y=true
  ·rw[if_pos h,List.mem_cons]
  ·rw[if_neg h]
   by_cases e:x=y
   ·subst e
    rw[if_pos rfl,List.mem_cons]
    constructor
    ·intro q;exact .inr q
    ·rintro(q | q)
     ·exact .inl q
     ·exact q
   ·rw[if_neg e,List.mem_cons,yi,List.mem_cons]
    constructor
    ·rintro(q | q | q)
     ·exact .inr (.inl q)
     ·exact .inl q
     ·exact .inr (.inr q)
    ·rintro(q | q | q)
     ·exact .inr (.inl q)
     ·exact .inl q
     ·exact .inr (.inr q)
theorem dS {z:Str}:∀ {l:List Str},z∈uU l↔z∈l
 | []=>Iff.rfl
 | x::r=>by
  show z∈sH x (uU r)↔_
  rw[yi,dS,List.mem_cons]
theorem Ig {x:Str}:∀ {l:List Str},l.Pairwise (fun a b=>lt a b=true)->(sH x l).Pairwise fun a b=>lt a b=true
 | [],_=>by unfold sH;simp
 | y::r,h=>by
  unfold sH
  by_cases e:lt x y=true
  ·rw[if_pos e]
   refine List.pairwise_cons.mpr ⟨fun z hz=>?_,h⟩
   rcases List.mem_cons.mp hz with rfl | hz
   ·exact e
   ·exact lt_trans e ((List.pairwise_cons.mp h).1 z hz)
  ·rw[if_neg e]
   by_cases q:x=y
   ·rw[if_pos q];exact h
   ·rw[if_neg q]
    refine List.pairwise_cons.mpr ⟨fun z hz=>?_,Ig (List.pairwise_cons.mp h).2⟩
    rcases yi.mp hz with rfl | hz
    ·rcases Cb z y with a | a | a
     ·exact absurd a e
     ·exact absurd a q
     ·exact a
    ·exact(List.pairwise_cons.mp h).1 z hz
theorem nR:∀ (l:List Str),(uU l).Pairwise fun a b=>lt a b=true
 | []=>.nil
 | x::r=>Ig (nR r)
theorem Ft {l ys:List Str}(h:ys.Pairwise (fun a b=>lt b a=false))(n:ys.Nodup)(m:∀ x,x∈ys↔x∈l):ys=uU l:=p6 (DT h n) (nR l) fun x=>(m x).trans dS.symm
theorem KL {l m:List Str}(h:∀ x,x∈l↔x∈m):uU l=uU m:=p6 (nR l) (nR m) fun x=>(dS.trans (h x)).trans dS.symm
noncomputable def Lb:Na
 | [.ob n],S,k=>∃ l ss,S[n]?=some (.yX l)/\l.map (·.1)=List.map (Sum.inr:Str->Key) ss/\ss.Nodup/\l.length < 64/\k (.lst ((uU ss).map T.str)) S
 | _,_,_=>False
section
variable {X:Cx}{e f:Expr}{te tf:eY}{p1 p2 p3 p4 p5 pos pos':Pos}
theorem Mg {K:PySem.W.Frag}{G:Hp}{l:List (Key×T)}{kvs:List (Key×V)}(r:Vs K G l kvs):kvs.map (·.1)=l.map (·.1):=by
 induction r with
 | nil=>rfl
 | cons h t ih=>rw[List.map_cons,List.map_cons,ih,h.1]
theorem IK (hc:X.calm=true):Call3 X (.builtin "sorted") Lb:=by
 refine nc (CA hc) ?_
 rintro vs H Q ⟨ρ,S,ds,k,R,rd,q,hk⟩
 unfold Lb at q
 split at q
 ·obtain⟨l,ss,h1,h2,h3,h4,h5⟩:=q
  obtain⟨v,rfl,a,ha,rfl⟩:=rd.one
  obtain⟨kvs,e1,e2⟩:=R.ok _ a _ ha h1
  refine⟨a,kvs,ss,rfl,e1,by rw[Mg e2];exact h2,by rw[<- Paired.length e2];exact h4,fun l' ys hl hp hs=>?_⟩
  rw[Ft hs (hp.nodup_iff.mpr h3) (fun x=>hp.mem_iff)]
  exact zC R hk (bI.ofStrs _) h5 l' hl
 ·exact q.elim
noncomputable def tSS (te:eY):eY:=fun δ S k=>te δ S fun d S1=>∃ ss ds:List Str,lq S1 d=some (ss.map T.str)/\ss.length < 4000/\ds.length < 64/\(∀ x∈ss,x∈ds)/\k (.lst ((uU ss).map T.str)) S1
theorem R7 (YR:Gl X "sorted")(hm1:X.mg "sorted"=none)(VG:Gl X "set")(hm2:X.mg "set"=none)(hc:X.calm=true)(he:QE X e te)(h0:notStar e=true:=by rfl) :
  QE X (.Call (.Name "sorted" p1) [.Call (.Name "set" p2) [e] [] p3] [] p4) (tSS te) :=
 cW (uc (sQ hc) YR hm1 PyProof.Rows.boot_sorted (lH (m5 (AL hc) VG hm2 PyProof.Rows.boot_set (lH he qO h0) h0 rfl) qO rfl) rfl rfl) fun σ H Q ⟨ρ,S,δ,k,R,D,q,hk⟩ =>
  ⟨ρ,S,δ,_,R,D,q,(by
   rintro v H1 ⟨ρ1,S1,d,g1,R1,r1,ss,ds,h1,h2,h3,h4,q1⟩
   obtain⟨a,vs,e1,e2,e3⟩:=dz R1 r1 h1
   rw[e3.strs] at e2
   refine⟨a,ss,ds,by rw[e1],.of e2,h2,h3,h4,fun q hq=>⟨q,ss,rfl,eZ,fun l ys hl hm hn hz hs=>?_⟩⟩
   obtain⟨R2,g2,_⟩:=R1.new (o:=nV X.prog X.w q ss) hq
   rw[Ft hs hn hm]
   exact zC R2 (fun v H' u=>hk v H' (u.gr (g1.trans g2))) (bI.ofStrs _) q1 l hl)⟩
noncomputable def tSD (te tf:eY):eY:=fun δ S k=>te δ S fun d S1=>∃ ss ds:List Str,lq S1 d=some (ss.map T.str)/\ss.length < 4000/\ds.length<=8/\(∀ x∈ss,x∈ds)/\tf δ S1 fun d' S2=>∃ so:List Str,d'=.tup (so.map T.str)/\so.length < 64/\k (.lst ((uU (ss.filter fun x=>!so.contains x)).map T.str)) S2
theorem a00 (YR:Gl X "sorted")(hm1:X.mg "sorted"=none)(VG:Gl X "set")(hm2:X.mg "set"=none)(hc:X.calm=true)(he:QE X e te)(hf:QE X f tf)(h0:notStar e=true:=by rfl)(h0':notStar f=true:=by rfl) :
  QE X (.Call (.Name "sorted" p1) [.BinOp (.Call (.Name "set" p2) [e] [] p3) .Sub (.Call (.Name "set" p4) [f] [] p5) pos] [] pos') (tSD te tf) :=
 cW (uc (sQ hc) YR hm1 PyProof.Rows.boot_sorted (lH (Qt OI (m5 (AL hc) VG hm2 PyProof.Rows.boot_set (lH he qO h0) h0 rfl) (m5 (JU hc) VG hm2 PyProof.Rows.boot_set (lH hf qO h0') h0' rfl)) qO rfl) rfl rfl) fun σ H Q ⟨ρ,S,δ,k,R,D,q,hk⟩ =>
  ⟨ρ,S,δ,_,R,D,q,(by
   rintro v H1 ⟨ρ1,S1,d,g1,R1,r1,ss,ds,h1,h2,h3,h4,q1⟩
   obtain⟨a,vs,e1,e2,e3⟩:=dz R1 r1 h1
   rw[e3.strs] at e2
   refine⟨a,ss,ds,by rw[e1],.of e2,h2,by omega,h4,fun p hp=>?_⟩
   obtain⟨R2,g2,f1⟩:=R1.new (o:=nV X.prog X.w p ss) hp
   refine⟨ρ1,S1,δ,_,R2,D.gr (g1.trans g2),q1,fun w H2 ⟨ρ2,S2,d2,g3,yM,r2,so,i1,i2,q2⟩=>?_⟩
   subst i1
   obtain⟨b,ws,f2,f3,f4⟩:=di r2
   rw[f4.strs] at f3
   refine⟨b,so,by rw[f2],.of f3,i2,fun o ho=>?_⟩
   obtain⟨R4,g4,f5⟩:=yM.new (o:=nV X.prog X.w o so) ho
   have f6:=(res_some (g4.le _ _ (g3.le _ _ f1))).2
   refine⟨p,o,ss,so,ds,rfl,rfl,f6,(res_some f5).2,h3,h4,fun r ws' hr hws=>⟨r,ws',rfl,eZ,fun l ys hl hm hn hz hs=>?_⟩⟩
   obtain⟨R5,g5,_⟩:=R4.new (o:=nV X.prog X.w r ws') hr
   rw[Ft (l:=ss.filter fun x=>!so.contains x) hs hn (fun x=>(hm x).trans ((hws x).trans (by simp[List.mem_filter])))]
   exact zC R5 (fun v H' u=>hk v H' (u.gr ((((g1.trans g2).trans g3).trans g4).trans g5))) (bI.ofStrs _) q2 l hl)⟩
end
theorem Et (x:Str):∀ l:List Str,(sH x l).length<=l.length+1
 | []=>by simp[sH]
 | y::r=>by
  unfold sH
  split
  ·simp
  ·split
   ·simp
   ·have:=Et x r
    simp only[List.length_cons];omega
theorem mh:∀ l:List Str,(uU l).length<=l.length
 | []=>Nat.le_refl _
 | x::r=>by
  have h1:=Et x (uU r)
  have h2:=mh r
  show(sH x (uU r)).length<=r.length+1
  omega
theorem uE {k:Nat}{A:Around}(hr:dg k A):A.units+1+40 < cLine:=by have:=hr.un;omega
section
variable {P:Program}{w:World}{K:PySem.W.Frag}{mg:Str->Option Value}{base:Heap}{j k:Nat}{x m:Str}{C:Addr}{ps:List Str}
theorem Dn.up {sp:Sp}(h:Dn P w K mg base j x ps sp)(l:j<=k):Dn P w K mg base k x ps sp:=let ⟨f,fd,F,a⟩:=h;⟨f,fd,F.mono l,a⟩
theorem Mt.up {sp:Sp}(h:Mt P w K mg base j C m ps sp)(l:j<=k):Mt P w K mg base k C m ps sp:=let ⟨f,fd,F,a⟩:=h;⟨f,fd,F.mono l,a⟩
theorem Ms.up {n:Nat}{cl:Nat->Addr}{sp:Nat->cu}(h:Ms P w K mg base j n cl m ps sp)(l:j<=k):Ms P w K mg base k n cl m ps sp:=fun i hi=>Mt.up (h i hi) l
noncomputable def ni (P:Program)(w:World)(K:PySem.W.Frag)(mg:Str->Option Value)(base:Heap)(k:Nat)(C:Addr)(x:Str)(ps:List Str)(sp:cu):Prop:=∃ j,j < k/\Mkr P w K mg base j C x ps sp
theorem ni.up {sp:cu}(h:ni P w K mg base j C x ps sp)(l:j<=k):ni P w K mg base k C x ps sp:=let ⟨i,a,b⟩:=h;⟨i,Nat.lt_of_lt_of_le a l,b⟩
end
section
variable {X:Cx}{o e i:Expr}{es:List Expr}{ta te:eY}{t:yL}{f m x:Str}{pos apos p:Pos}{k:Nat}{ps:List Str}{sp:cu}{C:Addr}
theorem gG (F:ni X.prog X.w X.K X.mg X.base k C x ps sp)(hr:dg k X.A)(hg:Gl X x)(ha:QA X (e::es) t)(h1:notStar e=true:=by rfl)(h2:es.all notStar=true:=by rfl)(hdb:(x == ("__debug__":Str))=false:=by decide) :
  QE X (.Call (.Name x p) (e::es) [] pos) (Kz C sp t):=let ⟨_,hj,F⟩:=F;R8 F (hr.mono hj) hg ha h1 h2 hdb
theorem WI (F:ni X.prog X.w X.K X.mg X.base k C x ps sp)(hr:dg k X.A)(hg:Gl X x)(ha:QA X (e::es) t)(h1:notStar e=true:=by rfl)(h2:es.all notStar=true:=by rfl)(hdb:(x == ("__debug__":Str))=false:=by decide) :
  QE X (.Call (.Name x p) (e::es) [] pos) (Ky C sp t):=let ⟨_,hj,F⟩:=F;Oh F (hr.mono hj) hg ha h1 h2 hdb
structure Cm (P:Program)(w:World)(K:PySem.W.Frag)(mg:Str->Option Value)(base:Heap)(k:Nat)(x m:Str)(ps:List Str)(sp:cu):Prop where
 ok:∃ (C f:Addr) (fd:FuncData),aE P w K mg base bO k f fd ps (aQ K sp)/\mg x=some (.ref C)/\PySem.W.specialIn K (.ref C) "__getattribute__"=some (some (.builtin "type.__getattribute__"))/\PySem.W.readsIn K C (.type "type")=true /\
  PySem.W.findCls K (.ref C) (.type "type") m=some (.val (.ref f))/\PySem.W.keepIn K (.ref f)=true/\Binds K fd ps []
theorem t9 {pl:Sem Bool}(F:Cm X.prog X.w X.K X.mg X.base k x m ps sp)(hr:dg k X.A)(hg:Gl X x)(ha:QA X (e::es) t)(h1:notStar e=true:=by rfl)(h2:es.all notStar=true:=by rfl)(hdb:(x == ("__debug__":Str))=false:=by decide)
  (ht:eval (.Call (.Attribute (.Name x p) m apos) (e::es) [] pos) X.env=(do
   let ov <- eval (.Name x p) X.env
   standAt apos.atName
   let (f,first) <- holding [ov] (getMethod ov m pl)
   callWith pos f first (backTo pos (starEach (e::es) X.env)) (backToKw pos (keywordEach [] X.env))):=by rfl) :
  QE X (.Call (.Attribute (.Name x p) m apos) (e::es) [] pos) (KC sp t):=by
 obtain⟨C,f,fd,F,hm,s1,s2,s3,hk,hb⟩:=F.ok
 refine cW (OG hg hm s1 s2 s3 rfl hk F hr hb An ha (gM h1) (iB h2) hdb ht) fun σ H Q ⟨ρ,S,δ,k,R,D,q,hk⟩=>⟨ρ,S,δ,_,R,D,q,fun v H1 ⟨ρ1,S1,d,g1,R1,r1,q1⟩=>?_⟩
 show aQ X.K sp (v++[]) H1 Q E0
 rw[List.append_nil]
 exact Mb g1 R1 r1 q1 hk
noncomputable def S9:D->bB->KD->Prop
 | .t (.v (.int i)),S,k=>k (.int (-i)) S
 | _,_,_=>False
noncomputable def V3 (t:eY):eY:=fun δ S k=>t δ S fun d S1=>S9 d S1 k
theorem Al (h:QE X e te):QE X (.UnaryOp .USub e pos) (V3 te):=cW (WQ Rq h) (by rintro σ H Q ⟨ρ,S,δ,k,R,D,q,hk⟩;exact ⟨ρ,S,δ,_,R,D,q,(by
 rintro v H1 ⟨ρ1,S1,d,g1,R1,r1,q1⟩
 replace q1:S9 d S1 k:=q1
 unfold S9 at q1
 split at q1
 ·exact⟨_,bx r1,hk _ _ ⟨ρ1,S1,_,g1,R1,bQ,q1⟩⟩
 ·exact q1.elim)⟩)
theorem R6 {xs:List Str}(h:Qy e=some xs):QE X e (fun _ S k=>xs.length<=sizeLine/\k (.lst (xs.map T.str)) S):=cW (OC h) (by rintro σ H Q ⟨ρ,S,δ,k,R,D,q,hk⟩;exact ⟨by rw[List.length_map];exact q.1,zC R hk (bI.ofStrs xs) q.2⟩)
theorem RZ {body:List Stmt}{h₀:ExceptHandler}{hs:List ExceptHandler}{t:wI}(hb:Kc X body t)(hx:∀ e s,¬ X.xe e s:=by intro _ _ h;exact h):QS X (.Try body (h₀::hs) [] [] pos) t:=Sg hx hb
end
section
variable {G:bB->Prop}{g:yK}{tb:wI}{tt:vN}{te:eY}{δ0:Sl}
theorem Pj {E:AR}{δ:Sl}{S:bB}{its:List D}(I:Nat->Sl->bB->Prop)(h0:I 0 δ S)
  (hs:∀ i x δ S (N:KS),its[i]?=some x->I i δ S->(∀ δ' S',I (i+1) δ' S'->N δ' S')->G S/\g x δ S fun δ1 S1=>tb { E with nx:=N,ct:=N,bk:=E.nx } δ1 S1)
  (hd:∀ δ S,I its.length δ S->G S/\E.nx δ S):zA G g tb its E δ S:=by
 have go:∀ (n i:Nat) (δ:Sl) (S:bB),its.length - i=n->i<=its.length->I i δ S->zA G g tb (its.drop i) E δ S:=by
  intro n
  induction n with
  | zero =>
   intro i δ S e hi h
   have:i=its.length:=by omega
   subst this
   rw[List.drop_length]
   exact hd δ S h
  | succ n ih =>
   intro i δ S e hi h
   have hlt:i < its.length:=by omega
   rw[List.drop_eq_getElem_cons hlt]
   exact hs i its[i] δ S _ (List.getElem?_eq_getElem hlt) h fun δ' S' h'=>ih (i+1) δ' S' (by omega) hlt h'
 have:=go _ 0 δ S rfl (Nat.zero_le _) h0
 rwa [List.drop_zero] at this
noncomputable def elem (g:yK)(tt:vN)(te:eY)(δ0:Sl)(x:D)(S:bB)(k:Option T->bB->Prop):Prop :=
 g x δ0 S fun δ1 S1=>tt δ1 S1 fun b S2=>if b=true then te δ1 S2 fun d S3=>∃ y,d=.t y/\k (some y) S3 else k none S2
noncomputable def Zm (ys:List T):Option T->List T
 | some y=>ys++[y]
 | none=>ys
theorem MW {k:List T->bB->Prop}{ys:List T}{S:bB}{its:List D}(I:Nat->List T->bB->Prop)(h0:I 0 ys S)
  (hs:∀ i x ys S (k':Option T->bB->Prop),its[i]?=some x->I i ys S->(∀ o S',I (i+1) (Zm ys o) S'->k' o S')->G S/\ys.length < sizeLine/\elem g tt te δ0 x S k')
  (hd:∀ ys S,I its.length ys S->G S/\k ys S):iO G g tt te δ0 its S ys k:=by
 have go:∀ (n i:Nat) (ys:List T) (S:bB),its.length - i=n->i<=its.length->I i ys S->iO G g tt te δ0 (its.drop i) S ys k:=by
  intro n
  induction n with
  | zero =>
   intro i ys S e hi h
   have:i=its.length:=by omega
   subst this
   rw[List.drop_length]
   exact hd ys S h
  | succ n ih =>
   intro i ys S e hi h
   have hlt:i < its.length:=by omega
   rw[List.drop_eq_getElem_cons hlt]
   obtain⟨h1,h2,h3⟩:=hs i its[i] ys S (fun o S'=>match o with | some y=>ys.length < sizeLine/\iO G g tt te δ0 (its.drop (i+1)) S' (ys++[y]) k | none=>iO G g tt te δ0 (its.drop (i+1)) S' ys k) (List.getElem?_eq_getElem hlt) h fun o S' h'=>by
    cases o with
    | none=>exact ih (i+1) ys S' (by omega) hlt h'
    | some y=>exact⟨(hs i its[i] ys S (fun _ _=>True) (List.getElem?_eq_getElem hlt) h fun _ _ _=>trivial).2.1,ih (i+1) (ys++[y]) S' (by omega) hlt h'⟩
   exact⟨h1,h3⟩
 have:=go _ 0 ys S rfl (Nat.zero_le _) h0
 rwa [List.drop_zero] at this
end
noncomputable abbrev Sm:=List (Str×Int)×Int
noncomputable def wt (l:List (Str×Int))(x:Str):Int:=((l.filter fun p=>decide (p.1=x)).map (·.2)).sum
noncomputable def norm (l:List (Str×Int)):List (Str×Int):=((uU (l.map (·.1))).map fun x=>(x,wt l x)).filter fun p=>decide (p.2≠0)
noncomputable def sumOf (l:List (Str×Int))(n:Int):Sm:=(norm l,n)
noncomputable def Sm.plus (a b:Sm):Sm:=sumOf (a.1++b.1) (a.2+b.2)
noncomputable def Sm.times (a:Sm)(k:Int):Sm:=sumOf (a.1.map fun p=>(p.1,p.2*k)) (a.2*k)
noncomputable def Sm.less (a b:Sm):Sm:=a.plus (b.times (-1))
noncomputable def pT (p:Str×Int):T:=.tup [.str p.1,.int p.2]
theorem Ff (x:Str):wt [] x=0:=rfl
theorem v8 (p:Str×Int)(l:List (Str×Int))(x:Str):wt (p::l) x=(if p.1=x then p.2 else 0)+wt l x:=by
 unfold wt
 by_cases h:p.1=x
 ·rw[List.filter_cons_of_pos (by simpa using h),List.map_cons,List.sum_cons,if_pos h]
 ·rw[List.filter_cons_of_neg (by simpa using h),if_neg h];omega
theorem Rn (l m:List (Str×Int))(x:Str):wt (l++m) x=wt l x+wt m x:=by
 induction l with
 | nil=>rw[Ff];simp
 | cons p r ih=>rw[List.cons_append,v8,v8,ih];omega
theorem Ko {l:List (Str×Int)}{x:Str}(h:x ∉ l.map (·.1)):wt l x=0:=by
 induction l with
 | nil=>rfl
 | cons p r ih =>
  rw[List.map_cons,List.mem_cons,not_or] at h
  rw[v8,if_neg (fun e=>h.1 e.symm),ih h.2];rfl
structure EZ (l:List (Str×Int))(d:List (Key×T)):Prop where
 val:∀ x,nG d (.inr x)=if x∈l.map (·.1) then some (.int (wt l x)) else none
 keys:∃ ss:List Str,d.map (·.1)=ss.map Sum.inr/\ss.Nodup/\∀ x,x∈ss↔x∈l.map (·.1)
 len:d.length<=l.length
theorem MO (d:List (Key×T))(a b:Key)(v:T):nG (dput d a v) b=if a=b then some v else nG d b:=by
 unfold dput
 by_cases h:(d.any fun p=>decide (p.1=a))=true
 ·rw[if_pos h]
  induction d with
  | nil=>simp at h
  | cons p r ih =>
   rw[List.map_cons]
   unfold nG at ih ⊢
   by_cases e:p.1=a
   ·rw[if_pos e]
    by_cases q:a=b
    ·subst q;rw[if_pos rfl];simp[List.find?_cons,e]
    ·rw[if_neg q]
     have ne:¬ p.1=b:=fun z=>q (e ▸ z)
     rw[List.find?_cons_of_neg (by simpa using ne),List.find?_cons_of_neg (by simpa using ne)]
     by_cases h2:(r.any fun p=>decide (p.1=a))=true
     ·rw[ih h2,if_neg q]
     ·have:r.map (fun p=>if p.1=a then (p.1,v) else p)=r:=by
       have hn:∀ z∈r,¬ z.1=a:=fun z hz e=>h2 (List.any_eq_true.mpr ⟨z,hz,by simpa using e⟩)
       have:∀ (r:List (Key×T)),(∀ z∈r,¬ z.1=a)->r.map (fun p=>if p.1=a then (p.1,v) else p)=r:=by
        intro r
        induction r with
        | nil=>intro _;rfl
        | cons z s ih=>intro hz;rw[List.map_cons,if_neg (hz z List.mem_cons_self),ih fun y hy=>hz y (List.mem_cons_of_mem _ hy)]
       exact this r hn
      rw[this]
   ·rw[if_neg e]
    have h2:(r.any fun p=>decide (p.1=a))=true:=by
     rw[List.any_cons,decide_eq_false e,Bool.false_or] at h;exact h
    by_cases q:p.1=b
    ·have:¬ a=b:=fun z=>e (q.trans z.symm)
     rw[if_neg this,List.find?_cons_of_pos (by simpa using q),List.find?_cons_of_pos (by simpa using q)]
    ·rw[List.find?_cons_of_neg (by simpa using q),List.find?_cons_of_neg (by simpa using q)]
     exact ih h2
 ·rw[if_neg h]
  unfold nG
  have hn:∀ z∈d,¬ z.1=a:=fun z hz e=>h (List.any_eq_true.mpr ⟨z,hz,by simpa using e⟩)
  by_cases q:a=b
  ·subst q
   rw[if_pos rfl,List.find?_append]
   have:d.find? (fun p=>decide (p.1=a))=none:=List.find?_eq_none.mpr fun z hz=>by simpa using hn z hz
   rw[this];simp
  ·rw[if_neg q,List.find?_append]
   have:([(a,v)]:List (Key×T)).find? (fun p=>decide (p.1=b))=none:=by simp[List.find?_cons,q]
   rw[this];simp
theorem JJ (d:List (Key×T))(a:Key)(v:T):(a∈d.map (·.1)->(dput d a v).map (·.1)=d.map (·.1))/\(a ∉ d.map (·.1)->(dput d a v).map (·.1)=d.map (·.1)++[a]):=by
 unfold dput
 by_cases h:(d.any fun p=>decide (p.1=a))=true
 ·obtain⟨z,hz,e⟩:=List.any_eq_true.mp h
  have hm:a∈d.map (·.1):=List.mem_map.mpr ⟨z,hz,by simpa using e⟩
  refine⟨fun _=>?_,fun z=>absurd hm z⟩
  rw[if_pos h,List.map_map]
  refine List.map_congr_left fun p _=>?_
  show(if p.1=a then (p.1,v) else p).1=p.1
  split <;> rfl
 ·have hm:a ∉ d.map (·.1):=fun hm=>by
   obtain⟨z,hz,e⟩:=List.mem_map.mp hm
   exact h (List.any_eq_true.mpr ⟨z,hz,by simpa using e⟩)
  refine⟨fun z=>absurd z hm,fun _=>?_⟩
  rw[if_neg h,List.map_append];rfl
theorem EZ.nil:EZ [] []:=⟨fun x=>by simp[nG],⟨[],rfl,.nil,fun x=>by simp⟩,Nat.le_refl _⟩
theorem EZ.snoc {l:List (Str×Int)}{d:List (Key×T)}(h:EZ l d)(x:Str)(w:Int){i:Int}(hi:i=wt l x+w):EZ (l++[(x,w)]) (dput d (.inr x) (.int i)):=by
 obtain⟨ss,h1,h2,h3⟩:=h.keys
 refine⟨fun y=>?_,?_,?_⟩
 ·rw[MO,h.val y,List.map_append,Rn,v8,Ff]
  by_cases e:x=y
  ·subst e
   rw[if_pos rfl,if_pos (by simp),if_pos rfl,hi];congr 3;omega
  ·have:¬ (Sum.inr x:Key)=Sum.inr y:=fun z=>e (Sum.inr.inj z)
   rw[if_neg this,if_neg e]
   by_cases m:y∈l.map (·.1)
   ·rw[if_pos m,if_pos (List.mem_append_left _ m)];congr 3;omega
   ·rw[if_neg m,if_neg]
    intro z
    rcases List.mem_append.mp z with z | z
    ·exact m z
    ·simp at z;exact e z.symm
 ·obtain⟨k1,k2⟩:=JJ d (.inr x) (.int i)
  rw[h1] at k1 k2
  by_cases m:(Sum.inr x:Key)∈ss.map Sum.inr
  ·have mx:x∈ss:=by
    obtain⟨y,hy,e⟩:=List.mem_map.mp m
    rw[<- Sum.inr.inj e];exact hy
   refine⟨ss,k1 m,h2,fun y=>?_⟩
   rw[h3 y,List.map_append,List.mem_append]
   constructor
   ·exact .inl
   ·rintro(z | z)
    ·exact z
    ·simp at z;subst z;exact(h3 y).mp mx
  ·have mx:x ∉ ss:=fun z=>m (List.mem_map.mpr ⟨x,z,rfl⟩)
   refine⟨ss++[x],by rw[k2 m];simp,?_,fun y=>?_⟩
   ·rw[List.nodup_append]
    refine⟨h2,by simp,fun a ha b hb=>?_⟩
    rw[List.mem_singleton.mp hb]
    exact fun z=>mx (z ▸ ha)
   ·rw[List.map_append,List.mem_append,List.mem_append,h3 y];simp
 ·have:(dput d (.inr x) (.int i)).length<=d.length+1:=by
   unfold dput
   split
   ·simp
   ·simp
  have:=h.len
  simp;omega
theorem sz (n:Nat)(h:n<=1000:=by decide):n<=sizeLine:=Nat.le_trans h (by rw[sizeLine_eq];decide)
theorem cU {n:Nat}(h:n<=1000):n<=sizeLine:=sz n h
theorem Fq {n:Nat}(h:n<=1000):n < sizeLine:=I9 h
theorem av {S:bB}{o:O}:(S++[o])[S.length]?=some o:=by simp
theorem fS {S:bB}{o o':O}:(S++[o]).set S.length o'=S++[o']:=by simp
theorem made {S:bB}{C:Addr}{ns:List Str}{l:List T}{o:O}{k:KD}(h:k (.t (.ins C ns l)) S):Qw C S k .dR ((S++[o]).set S.length (.ins C ns (l.map .t))):=⟨rfl,ns,l,fS,h⟩
theorem HY (l:List (Str×Int)):(uU (l.map (·.1))).filterMap (fun x=>if wt l x≠0 then some (pT (x,wt l x)) else none)=(norm l).map pT:=by
 unfold norm
 generalize uU (l.map (·.1))=r
 induction r with
 | nil=>rfl
 | cons a r ih =>
  rw[List.map_cons]
  by_cases h:wt l a≠0
  ·rw[List.filterMap_cons_some (f:=fun x=>if wt l x≠0 then some (pT (x,wt l x)) else none) (if_pos h),ih,List.filter_cons_of_pos (by simpa using h)];rfl
  ·rw[List.filterMap_cons_none (f:=fun x=>if wt l x≠0 then some (pT (x,wt l x)) else none) (if_neg h),ih,List.filter_cons_of_neg (by simpa using h)]
theorem oz (l:List (Str×Int)):(norm l).length<=l.length:=by
 unfold norm
 have h1:=List.length_filter_le (fun p:Str×Int=>decide (p.2≠0)) ((uU (l.map (·.1))).map fun x=>(x,wt l x))
 have h2:=mh (l.map (·.1))
 rw[List.length_map] at h1 h2
 omega
theorem qS {a b:Int}:decide (V.int a=V.int b)=decide (a=b):=by
 rw[decide_eq_decide]
 exact⟨fun h=>V.int.inj h,fun h=>by rw[h]⟩
theorem KH {a b:Str}:decide (V.str a=V.str b)=decide (a=b):=by
 rw[decide_eq_decide]
 exact⟨fun h=>V.str.inj h,fun h=>by rw[h]⟩
structure Ad where
 (fq bq bT cS fu dc aH aV c9 bN bg dG dF lU br bH eF eG:Addr)
noncomputable def bD (A:Ad):Nat->Addr
 | 0=>A.dc | 1=>A.aH | 2=>A.aV | 3=>A.c9 | 4=>A.bN | 5=>A.bg | 6=>A.dG | 7=>A.dF | _=>A.lU
inductive bC where
 | cmp (a:Sm) (s:Str) (b:Sm) | neg (c:bC) | con (k:Bool) (cs:List bC)
inductive aX where
 | lt (a:Int) (x:Str) (s:Sm) | dv (a:Int) (x wd:Str) (s b:Sm) | ft (a:Int) (x r:Str) (p:Sm) | pt (a:Int) (r:Str) (p s:Sm) | mq (a:Int) (r:Str) (z:Sm) | cm (a:Int) (c:bC)
structure qp where
 (at_:Int) (name:Str) (params answers:List Str) (needs gives:List (Int×bC)) (steps:List aX)
inductive iA where
 | any (x:Str) | lt (x:Str) (s:Sm) | hd (c:bC)
structure zU where
 (kind:Str) (at_:Int) (ahead:List iA) (cond:bC)
noncomputable def ql (l:List Str):T:=.tup (l.map T.str)
noncomputable def tV (s:Sm):T:=.tup [.tup (s.1.map pT),.int s.2]
section
variable (A:Ad)
noncomputable def iC (s:Sm):T:=.ins A.fq ["terms","number"] [.tup (s.1.map pT),.int s.2]
mutual
noncomputable def eX:bC->T
 | .cmp a s b=>.ins A.bq ["one","sign","other"] [iC A a,.str s,iC A b]
 | .neg c=>.ins A.bT ["condition"] [eX c]
 | .con k cs=>.ins (if k=true then A.cS else A.fu) ["conditions"] [.tup (Pr cs)]
noncomputable def Pr:List bC->List T
 | []=>[]
 | c::r=>eX c::Pr r
end
noncomputable def atT (p:Int×bC):T:=.tup [.int p.1,eX A p.2]
noncomputable def nQ:aX->T
 | .lt a x s=>.ins A.dc ["at","name","total"] [.int a,.str x,iC A s]
 | .dv a x wd s b=>.ins A.aH ["at","name","word","total","by"] [.int a,.str x,.str wd,iC A s,iC A b]
 | .ft a x r p=>.ins A.aV ["at","name","row","place"] [.int a,.str x,.str r,iC A p]
 | .pt a r p s=>.ins A.c9 ["at","row","place","total"] [.int a,.str r,iC A p,iC A s]
 | .mq a r z=>.ins A.bN ["at","row","size"] [.int a,.str r,iC A z]
 | .cm a c=>.ins A.bg ["at","condition"] [.int a,eX A c]
noncomputable def Ij (h:qp):T:=.ins A.br ["at","name","params","answers","needs","gives","steps"] [.int h.at_,.str h.name,ql h.params,ql h.answers,.tup (h.needs.map (atT A)),.tup (h.gives.map (atT A)),.tup (h.steps.map (nQ A))]
noncomputable def OB (hs:List qp):T:=.ins A.bH ["helpers"] [.tup (hs.map (Ij A))]
noncomputable def qt:iA->T
 | .any x=>.tup [.str "any",.str x]
 | .lt x s=>.tup [.str "let",.str x,iC A s]
 | .hd c=>.tup [.str "hold",eX A c]
noncomputable def JN (d:zU):T:=.ins A.eF ["kind","at","ahead","condition"] [.str d.kind,.int d.at_,.tup (d.ahead.map (qt A)),eX A d.cond]
end
mutual
noncomputable def nK:bC->T
 | .cmp a s b=>.tup [.str "compare",tV a,.str s,tV b]
 | .neg c=>.tup [.str "not",nK c]
 | .con k cs=>.tup (.str (if k=true then "and" else "or")::GG cs)
noncomputable def GG:List bC->List T
 | []=>[]
 | c::r=>nK c::GG r
end
noncomputable def Vo (p:Int×bC):T:=.tup [.int p.1,nK p.2]
noncomputable def E9:aX->T
 | .lt a x s=>.tup [.str "let",.int a,.str x,tV s]
 | .dv a x wd s b=>.tup [.str "divide",.int a,.str x,.str wd,tV s,tV b]
 | .ft a x r p=>.tup [.str "fetch",.int a,.str x,.str r,tV p]
 | .pt a r p s=>.tup [.str "put",.int a,.str r,tV p,tV s]
 | .mq a r z=>.tup [.str "make",.int a,.str r,tV z]
 | .cm a c=>.tup [.str "claim",.int a,nK c]
noncomputable def Q3 (h:qp):T:=.tup [.str "helper",.int h.at_,.str h.name,ql h.params,ql h.answers,.tup (h.needs.map Vo),.tup (h.gives.map Vo),.tup (h.steps.map E9)]
noncomputable def qu:iA->T
 | .any x=>.tup [.str "any",.str x]
 | .lt x s=>.tup [.str "let",.str x,tV s]
 | .hd c=>.tup [.str "hold",nK c]
noncomputable def Iw (d:zU):T:=.tup [.str d.kind,.int d.at_,.tup (d.ahead.map qu),nK d.cond]
theorem iP (A:Ad):∀ l:List bC,Pr A l=l.map (eX A)
 | []=>rfl
 | c::r=>by rw[Pr,iP A r];rfl
theorem sP:∀ l:List bC,GG l=l.map nK
 | []=>rfl
 | c::r=>by rw[GG,sP r];rfl
mutual
noncomputable def bC.dep:bC->Nat
 | .cmp _ _ _=>0
 | .neg c=>c.dep+1
 | .con _ cs=>vK cs+1
noncomputable def vK:List bC->Nat
 | []=>0
 | c::r=>max c.dep (vK r)
end
noncomputable def Sm.bJ (s:Sm):List Str:=s.1.map (·.1)
mutual
noncomputable def bC.sums:bC->List Sm
 | .cmp a _ b=>[a,b]
 | .neg c=>c.sums
 | .con _ cs=>dX cs
noncomputable def dX:List bC->List Sm
 | []=>[]
 | c::r=>c.sums++dX r
end
noncomputable def bC.bJ (c:bC):List Str:=uU (c.sums.map Sm.bJ).flatten
theorem sM {c:bC}:∀ {l:List bC},c∈l->c.dep<=vK l
 | d::r,h=>by
  unfold vK
  rcases List.mem_cons.mp h with rfl | h
  ·exact Nat.le_max_left _ _
  ·exact Nat.le_trans (sM h) (Nat.le_max_right _ _)
section
variable (A:Ad)
noncomputable def Fw:cu:=fun ds S k=>∃ (n:Nat) (d:D) (l:List (Str×Int)) (m:Int),ds=[.ob n,d,.int m]/\S[n]?=some (.ins A.fq [] [])/\xq S d=some (l.map pT)/\l.length < 64/\k .dR (S.set n (.ins A.fq ["terms","number"] ([.tup (l.map pT),.int m].map .t)))
noncomputable def Hr:cu:=fun ds S k=>∃ (d:D) (l:List (Str×Int)) (m:Int),ds=[d,.int m]/\xq S d=some (l.map pT)/\l.length < 64/\k (.t (iC A (sumOf l m))) S
noncomputable def KU:cu:=fun ds S k=>∃ x:Str,ds=[.str x]/\k (.t (iC A ([(x,1)],0))) S
end
section
variable {S loc:bB}{d:D}{l:List T}
theorem x6 (h:lq S d=some l):lq (S++loc) d=some l:=by
 cases d with
 | t x=>cases x <;> exact h
 | ob n =>
  have h:(match S[n]? with | some (.lst l)=>some l | _=>none)=some l:=h
  show(match (S++loc)[n]? with | some (.lst l)=>some l | _=>none)=some l
  cases q:S[n]? with
  | none=>rw[q] at h;cases h
  | some o =>
   rw[List.getElem?_append_left (List.getElem?_eq_some_iff.mp q).1,q]
   rw[q] at h
   exact h
theorem wL (h:xq S d=some l):d=.tup l∨lq S d=some l:=by
 cases d with
 | ob n=>exact .inr h
 | t x =>
  cases x with
  | tup m=>left;have h:some m=some l:=h;injection h with h;rw[h]
  | _=>exact .inr h
theorem Di (h:xq S d=some l):sq S d=some l:=by
 rcases wL h with rfl | h
 ·rfl
 ·cases d with
  | ob n=>exact h
  | t x =>
   cases x with
   | tup m=>cases h
   | HF m=>cases h
   | _=>exact h
theorem qG {n:Nat}{o:O}(h:S[n]?=some o):(S++loc)[n]?=some o:=by rw[List.getElem?_append_left (List.getElem?_eq_some_iff.mp h).1];exact h
theorem Ib {k:List D->(bB->Prop)->bB->Prop}(h:xq S d=some l)(hk:∀ G:bB->Prop,(∀ loc,G (S++loc))->k (l.map .t) G (S++loc)):JA d (S++loc) k:=by
 rcases wL h with rfl | h
 ·exact .inl ⟨l,.inl rfl,hk _ fun _=>trivial⟩
 ·cases d with
  | t x =>
   cases x with
   | lst m =>
    have h:some m=some l:=h
    injection h with h
    subst h
    exact .inl ⟨m,.inr rfl,hk _ fun _=>trivial⟩
   | _=>cases h
  | ob n =>
   have h':(match S[n]? with | some (.lst l)=>some l | _=>none)=some l:=h
   cases q:S[n]? with
   | none=>rw[q] at h';cases h'
   | some o =>
    rw[q] at h'
    cases o with
    | lst m =>
     have h':some m=some l:=h'
     injection h' with h'
     subst h'
     exact .inr ⟨n,m,rfl,qG q,hk _ fun loc=>qG q⟩
    | _=>cases h'
theorem QN {k:List D->(bB->Prop)->bB->Prop}(h:xq S d=some l)(hk:∀ G:bB->Prop,(∀ loc,G (S++loc))->k (l.map .t) G S):JA d S k:=by
 have:=Ib (loc:=[]) (k:=k) h (by simpa using hk)
 simpa using this
theorem cO {k:List D->(bB->Prop)->bB->Prop}(hk:k (l.map .t) (fun _=>True) S):JA (.tup l) S k:=.inl ⟨l,.inl rfl,hk⟩
theorem jP {k:List D->(bB->Prop)->bB->Prop}(hk:k (l.map .t) (fun _=>True) S):JA (.lst l) S k:=.inl ⟨l,.inr rfl,hk⟩
end
theorem yt {α:Type}{G:bB->Prop}{g:yK}{tt:vN}{te:eY}{δ0:Sl}{k:List T->bB->Prop}{S:bB}{l:List α}(c:α->T)(f:α->Option T)(hG:G S)(hl:l.length<=sizeLine)(hs:∀ x∈l,∀ k':Option T->bB->Prop,k' (f x) S->elem g tt te δ0 (.t (c x)) S k')
  (hk:k (l.filterMap f) S):iO G g tt te δ0 ((l.map c).map .t) S [] k:=by
 have go:∀ (r:List α) (ys:List T),ys.length+r.length<=sizeLine->(∀ x∈r,∀ k':Option T->bB->Prop,k' (f x) S->elem g tt te δ0 (.t (c x)) S k')->k (ys++r.filterMap f) S->iO G g tt te δ0 ((r.map c).map .t) S ys k:=by
  intro r
  induction r with
  | nil=>intro ys _ _ q;rw[List.filterMap_nil,List.append_nil] at q;exact⟨hG,q⟩
  | cons a r ih =>
   intro ys hz hs q
   rw[List.length_cons] at hz
   refine⟨hG,hs a List.mem_cons_self (fun o S'=>match o with | some y=>ys.length < sizeLine/\iO G g tt te δ0 ((r.map c).map .t) S' (ys++[y]) k | none=>iO G g tt te δ0 ((r.map c).map .t) S' ys k) ?_⟩
   cases e:f a with
   | none=>exact ih ys (by omega) (fun x hx=>hs x (List.mem_cons_of_mem _ hx)) (by rw[List.filterMap_cons_none e] at q;exact q)
   | some y=>exact⟨by omega,ih (ys++[y]) (by simp;omega) (fun x hx=>hs x (List.mem_cons_of_mem _ hx)) (by rw[List.filterMap_cons_some e] at q;simpa using q)⟩
 exact go l [] (by simpa using hl) hs (by simpa using hk)
theorem iz {α β:Type}(f:α->β)(l:List α):l.filterMap (fun x=>some (f x))=l.map f:=by
 induction l with
 | nil=>rfl
 | cons a r ih=>rw[List.filterMap_cons_some (f:=fun x=>some (f x)) rfl,ih];rfl
theorem gy {α:Type}{G:bB->Prop}{g:yK}{tt:vN}{te:eY}{δ0:Sl}{k:List T->bB->Prop}{S:bB}{l:List α}(c f:α->T)(hG:G S)(hl:l.length<=sizeLine)(hs:∀ x∈l,∀ k':Option T->bB->Prop,k' (some (f x)) S->elem g tt te δ0 (.t (c x)) S k')
  (hk:k (l.map f) S):iO G g tt te δ0 ((l.map c).map .t) S [] k:=yt c (fun x=>some (f x)) hG hl hs (by rw[iz];exact hk)
theorem eW {α:Type}{G:bB->Prop}{g:yK}{tb:wI}{E:AR}{δ:Sl}{S:bB}{l:List α}(c:α->T)(I:List α->Sl->bB->Prop)(h0:I [] δ S)
  (hs:∀ pre x post δ S (N:KS),l=pre++x::post->I pre δ S->(∀ δ' S',I (pre++[x]) δ' S'->N δ' S')->G S/\g (.t (c x)) δ S fun δ1 S1=>tb { E with nx:=N,ct:=N,bk:=E.nx } δ1 S1)
  (hd:∀ δ S,I l δ S->G S/\E.nx δ S):zA G g tb ((l.map c).map .t) E δ S:=by
 have go:∀ (r pre:List α) (δ:Sl) (S:bB),l=pre++r->I pre δ S->zA G g tb ((r.map c).map .t) E δ S:=by
  intro r
  induction r with
  | nil=>intro pre δ S e h;rw[List.append_nil] at e;subst e;exact hd δ S h
  | cons a r ih=>intro pre δ S e h;exact hs pre a r δ S _ e h fun δ' S' h'=>ih (pre++[a]) δ' S' (by rw[e];simp) h'
 exact go l [] δ S rfl h0
noncomputable def Fb:bC->Nat
 | .cmp _ _ _=>0 | .neg _=>1 | .con true _=>2 | .con false _=>3
noncomputable def JT (A:Ad):Nat->Addr
 | 0=>A.bq | 1=>A.bT | 2=>A.cS | _=>A.fu
noncomputable def kd:aX->Nat
 | .lt ..=>0 | .dv ..=>1 | .ft ..=>2 | .pt ..=>3 | .mq ..=>4 | .cm ..=>5
noncomputable def aX.at_:aX->Int
 | .lt a ..=>a | .dv a ..=>a | .ft a ..=>a | .pt a ..=>a | .mq a ..=>a | .cm a _=>a
noncomputable def hsh (x:Str):Str:="#"++x
noncomputable def aX.us:aX->List Str
 | .lt _ x s=>x::s.bJ
 | .dv _ x _ s b=>x::(s.bJ++b.bJ)
 | .ft _ x r p=>x::hsh r::p.bJ
 | .pt _ r p s=>hsh r::(p.bJ++s.bJ)
 | .mq _ r z=>hsh r::z.bJ
 | .cm _ c=>c.bJ
mutual
noncomputable def bC.sz:bC->Nat
 | .cmp _ _ _=>1
 | .neg c=>c.sz+1
 | .con _ cs=>Ab cs+1
noncomputable def Ab:List bC->Nat
 | []=>0
 | c::r=>c.sz+Ab r
end
mutual
theorem je:∀ c:bC,c.sums.length<=2*c.sz
 | .cmp a s b=>by unfold bC.sums bC.sz;exact Nat.le_refl _
 | .neg c=>by unfold bC.sums bC.sz;have:=je c;omega
 | .con k cs=>by unfold bC.sums bC.sz;have:=rQ cs;omega
theorem rQ:∀ l:List bC,(dX l).length<=2*Ab l
 | []=>Nat.le_refl _
 | c::r=>by unfold dX Ab;rw[List.length_append];have:=je c;have:=rQ r;omega
end
theorem RD (c:bC):1<=c.sz:=by cases c <;> (unfold bC.sz;omega)
theorem A6:∀ l:List bC,l.length<=Ab l
 | []=>Nat.le_refl _
 | c::r=>by unfold Ab;rw[List.length_cons];have:=RD c;have:=A6 r;omega
theorem A5 {c:bC}:∀ {l:List bC},c∈l->c.sz<=Ab l
 | d::r,h=>by
  unfold Ab
  rcases List.mem_cons.mp h with rfl | h
  ·omega
  ·have:=A5 h;omega
theorem A7:∀ l m:List bC,Ab (l++m)=Ab l+Ab m
 | [],m=>by simp[Ab]
 | c::r,m=>by rw[List.cons_append,Ab,Ab,A7];omega
noncomputable def Sm.few (s:Sm):Prop:=s.1.length<=4
noncomputable def bC.few (c:bC):Prop:=c.sz<=7/\∀ s∈c.sums,s.few
noncomputable def aX.few:aX->Prop
 | .lt _ x s=>s.few/\x.length<=100
 | .dv _ x _ s b=>s.few/\b.few
 | .ft _ x r p=>p.few/\r.length<=100
 | .pt _ r p s=>p.few/\s.few/\r.length<=100
 | .mq _ r z=>z.few/\r.length<=100
 | .cm _ c=>c.few
section
variable (K:PySem.W.Frag)(A:Ad)
noncomputable def tU (C:Addr)(ns:List Str):cu:=fun ds S k=>∃ (n:Nat) (l:List T),ds=.ob n::l.map .t/\l.length=ns.length/\S[n]?=some (.ins C [] [])/\k .dR (S.set n (.ins C ns (l.map .t)))
noncomputable def wQ (C:Addr):cu:=fun ds S k=>∃ (n:Nat) (d:D) (l:List T),ds=[.ob n,d]/\S[n]?=some (.ins C [] [])/\xq S d=some l/\k .dR (S.set n (.ins C ["conditions"] ([.tup l].map .t)))
noncomputable def uV:cu:=fun ds S k=>∃ (n:Nat) (x:T) (C:Addr),ds=[.ob n,.t x]/\S[n]?=some (.ins C [] [])/\aK K C "at"/\k .dR (S.set n (.ins C ["at"] ([x].map .t)))
noncomputable def Fy:cu:=fun ds S k=>∃ a b:Sm,ds=[.t (iC A a),.t (iC A b)]/\a.1.length+b.1.length < 64/\k (.t (iC A (a.plus b))) S
noncomputable def Bc:cu:=fun ds S k=>∃ (a:Sm) (m:Int),ds=[.t (iC A a),.int m]/\a.1.length < 64/\(-(2 ^ 64) < m/\m < 2 ^ 64)/\k (.t (iC A (a.times m))) S
noncomputable def FA:cu:=fun ds S k=>∃ a b:Sm,ds=[.t (iC A a),.t (iC A b)]/\a.1.length+b.1.length < 64/\k (.t (iC A (a.less b))) S
noncomputable def KN:cu:=fun ds S k=>∃ a:Sm,ds=[.t (iC A a)]/\a.1.length < 64/\k (.t (ql a.bJ)) S
noncomputable def Ba:cu:=fun ds S k=>∃ a:Sm,ds=[.t (iC A a)]/\k (.t (tV a)) S
noncomputable def fQ (n j:Nat):cu:=fun ds S k=>∃ c:bC,ds=[.t (eX A c)]/\Fb c=j/\c.dep < n/\c.sz<=7/\k (.t (nK c)) S
noncomputable def nU (n j:Nat):cu:=fun ds S k=>∃ c:bC,ds=[.t (eX A c)]/\Fb c=j/\c.dep < n/\c.sz<=7/\k (.lst (c.sums.map (iC A))) S
noncomputable def KO (n:Nat)(j:Nat):cu:=fun ds S k=>∃ c:bC,ds=[.t (eX A c)]/\Fb c=j/\c.dep < n/\c.few/\k (.t (ql c.bJ)) S
noncomputable def jf (n j:Nat):cu:=fun ds S k=>∃ s:aX,ds=[.t (nQ A s)]/\kd s=j/\(∀ a c,s=.cm a c->c.dep < n/\c.sz<=7)/\k (.t (E9 s)) S
noncomputable def nT (n j:Nat):cu:=fun ds S k=>∃ s:aX,ds=[.t (nQ A s)]/\kd s=j/\s.few/\(∀ a c,s=.cm a c->c.dep < n)/\k (.t (ql s.us)) S
noncomputable def K9 (j:Nat):cu:=fun ds S k=>∃ s:aX,ds=[.t (nQ A s)]/\kd s=j/\k (.tup []) S
noncomputable def Hv:cu:=fun ds S k=>∃ x:Str,ds=[.str x]/\x.length<=1000/\k (.str (hsh x)) S
noncomputable def HB:cu:=fun ds S k=>∃ x:Str,ds=[.str x]/\k (.bl (Txt.startswith x "#")) S
end
theorem oG (A:Ad)(S:bB)(c:bC):∃ ns l,iq S (.t (eX A c))=some (JT A (Fb c),ns,l)/\ns.contains "told"=false/\ns.contains "things"=false/\ns.contains "all_sums"=false:=by
 cases c with
 | cmp a s b=>exact⟨_,_,by unfold eX;rfl,by decide +kernel,by decide +kernel,by decide +kernel⟩
 | neg c=>exact⟨_,_,by unfold eX;rfl,by decide +kernel,by decide +kernel,by decide +kernel⟩
 | con k cs =>
  cases k with
  | true=>exact⟨_,_,by unfold eX;rfl,by decide +kernel,by decide +kernel,by decide +kernel⟩
  | false=>exact⟨_,_,by unfold eX;rfl,by decide +kernel,by decide +kernel,by decide +kernel⟩
theorem Ie (A:Ad)(S:bB)(s:aX):∃ ns l,iq S (.t (nQ A s))=some (bD A (kd s),ns,l)/\ns.contains "told"=false/\ns.contains "uses"=false/\ns.contains "blocks"=false/\(ns.zip l).lookup ("at":Str)=some (D.int s.at_):=by
 cases s <;> exact⟨_,_,rfl,by decide +kernel,by decide +kernel,by decide +kernel,rfl⟩
theorem jA (c:bC):Fb c < 4:=by
 cases c with
 | cmp a s b=>show 0 < 4;decide
 | neg c=>show 1 < 4;decide
 | con k cs=>cases k <;> (first | (show 2 < 4;decide) | (show 3 < 4;decide))
theorem sF (s:aX):kd s < 6:=by cases s <;> simp[kd]
theorem ln1 {l:List T}(h:l.length=1):∃ a,l=[a]:=by
 match l,h with
 | [a],_=>exact⟨a,rfl⟩
theorem ln2 {l:List T}(h:l.length=2):∃ a b,l=[a,b]:=by
 match l,h with
 | [a,b],_=>exact⟨a,b,rfl⟩
theorem ln3 {l:List T}(h:l.length=3):∃ a b c,l=[a,b,c]:=by
 match l,h with
 | [a,b,c],_=>exact⟨a,b,c,rfl⟩
theorem ln4 {l:List T}(h:l.length=4):∃ a b c d,l=[a,b,c,d]:=by
 match l,h with
 | [a,b,c,d],_=>exact⟨a,b,c,d,rfl⟩
theorem ln5 {l:List T}(h:l.length=5):∃ a b c d e,l=[a,b,c,d,e]:=by
 match l,h with
 | [a,b,c,d,e],_=>exact⟨a,b,c,d,e,rfl⟩
theorem NG {S:bB}{i:Nat}{o:O}(h:i < S.length):(S.set i o)[i]?=some o:=List.getElem?_set_self h
theorem iS {S loc:bB}{j:Nat}{l:List T}(h:loc[j]?=some (.lst l)):lq (S++loc) (.ob (S.length+j))=some l:=by
 show(match (S++loc)[S.length+j]? with | some (.lst l)=>some l | _=>none)=some l
 rw[eS,h]
theorem lC:∀ l m:List bC,dX (l++m)=dX l++dX m
 | [],m=>rfl
 | c::r,m=>by rw[List.cons_append,dX,dX,lC,List.append_assoc]
noncomputable def on (x:Str):Sm:=([(x,1)],0)
noncomputable def yY (a b:Sm):bC:=.cmp a "<=" b
noncomputable def Io (s:Sm):bC:=yY ([],0) s
noncomputable def aW (x:Str):List iA:=if Txt.startswith x "#"=true then [.any x,.hd (Io (on x))] else [.any x]
noncomputable def others (h:qp):List Str:=uU ((h.answers++(h.steps.map aX.us).flatten).filter fun x=>!h.params.contains x)
noncomputable def dh (h:qp):List iA:=(h.params.map aW).flatten++(others h).map (fun x=>.lt x ([],0))++h.needs.map fun p=>.hd p.2
noncomputable def within (r:Str)(p:Sm):bC:=.con true [Io p,yY p ((on (hsh r)).less ([],1))]
noncomputable def quot (by_:Int):bC :=
 if 0 < by_ then .con true [yY ((on "^^").times by_) (on "^"),yY (on "^") (((on "^^").times by_).plus ([],by_ - 1))]
 else .con true [yY (on "^") ((on "^^").times by_),yY (((on "^^").times by_).plus ([],by_+1)) (on "^")]
noncomputable def xJ (k:Str)(a:Int)(p:List iA)(c:bC):zU:=⟨k,a,p,c⟩
noncomputable def JL (x wd:Str)(s b:Sm)(p:List iA):List iA :=
 if b.1≠[]∨b.2=0 then p++aW x else p++[.lt "^" s]++aW "^^"++[.hd (quot b.2)]++[.lt x (if wd="div" then on "^^" else (on "^").less ((on "^^").times b.2))]
noncomputable def p8 (p:List iA):aX->List zU×List iA
 | .lt _ x s=>([],p++[.lt x s])
 | .dv a x wd s b=>([xJ "nought" a p (.cmp b "!=" ([],0))],JL x wd s b (p++[.hd (.cmp b "!=" ([],0))]))
 | .ft a x r z=>([xJ "beyond" a p (within r z)],p++[.hd (within r z)]++aW x)
 | .pt a r z s=>([xJ "beyond" a p (within r z)],p++[.hd (within r z)])
 | .mq a r z=>([xJ "short" a p (Io z)],p++[.hd (Io z)]++[.lt (hsh r) z])
 | .cm a c=>([xJ "claim" a p c],p++[.hd c])
noncomputable def b7 (p:List iA):List aX->List zU×List iA
 | []=>([],p)
 | s::r=>((p8 p s).1++(b7 (p8 p s).2 r).1,(b7 (p8 p s).2 r).2)
noncomputable def bA (k:Str)(p:List iA):List (Int×bC)->List zU×List iA
 | []=>([],p)
 | q::r=>(xJ k q.1 p q.2::(bA k (p++[.hd q.2]) r).1,(bA k (p++[.hd q.2]) r).2)
noncomputable def gx (h:qp):List zU:=(b7 (dh h) h.steps).1++(bA "gives" (b7 (dh h) h.steps).2 h.gives).1
structure aX.Ok (n:Nat)(s:aX):Prop where
 few:s.few
 dep:∀ a c,s=.cm a c->c.dep < n
 by_:∀ a x wd t b,s=.dv a x wd t b->-(2 ^ 63) < b.2/\b.2 < 2 ^ 63
theorem aX.Ok.cd {n:Nat}{s:aX}(h:s.Ok n):∀ a c,s=.cm a c->c.dep < n/\c.sz<=7:=fun a c e=>⟨h.dep a c e,by have:=h.few;subst e;exact this.1⟩
noncomputable def Bk (A:Ad)(S:bB)(b f:Nat)(pg:T)(c7:List zU):Prop:=S[b]?=some (.ins A.eG ["program","found"] [.t pg,.ob f])/\S[f]?=some (.lst (c7.map (JN A)))
theorem Bk.ne {A:Ad}{S:bB}{b f:Nat}{pg:T}{c7:List zU}(h:Bk A S b f pg c7):b≠f:=fun e=>by
 have h1:=h.1
 rw[e,h.2] at h1
 cases h1
theorem Bk.put {A:Ad}{S:bB}{b f:Nat}{pg:T}{c7:List zU}(h:Bk A S b f pg c7)(ds:List zU):Bk A (S.set f (.lst (ds.map (JN A)))) b f pg ds :=
 ⟨by rw[List.getElem?_set_ne (Ne.symm h.ne)];exact h.1,List.getElem?_set_self (List.getElem?_eq_some_iff.mp h.2).1⟩
theorem Bk.up {A:Ad}{S loc:bB}{b f:Nat}{pg:T}{c7:List zU}(h:Bk A S b f pg c7):Bk A (S++loc) b f pg c7:=⟨qG h.1,qG h.2⟩
theorem set_same {S:bB}{f:Nat}{o:O}(h:S[f]?=some o):S.set f o=S:=by
 obtain⟨h1,h2⟩:=List.getElem?_eq_some_iff.mp h
 rw[<- h2];exact List.set_getElem_self h1
section
variable (K:PySem.W.Frag)(A:Ad)
noncomputable def Ht:cu:=fun ds S k=>∃ (d:D) (l:List (Int×bC)),ds=[d]/\xq S d=some (l.map (atT A))/\l.length<=100/\k (.tup (l.map (atT A))) S
noncomputable def Hq (n:Nat):cu:=fun ds S k=>∃ (l:List (Int×bC)),ds=[.tup (l.map (atT A))]/\l.length<=100/\(∀ p∈l,p.2.dep < n/\p.2.sz<=7)/\k (.tup (l.map Vo)) S
structure Zw (n:Nat)(x:qp):Prop where
 nd:∀ p∈x.needs,p.2.dep < n/\p.2.sz<=7
 gv:∀ p∈x.gives,p.2.dep < n/\p.2.sz<=7
 st:∀ s∈x.steps,∀ a c,s=aX.cm a c->c.dep < n/\c.sz<=7
 len:x.needs.length<=100/\x.gives.length<=100/\x.steps.length<=100
inductive Tx (n:Nat) (q:Bool):T->T->Nat->Prop
 | s (s:aX) (h:∀ a c,s=.cm a c->c.dep < n/\c.sz<=7):Tx n q (nQ A s) (E9 s) (kd s)
 | h (x:qp) (hx:Zw n x) (hq:q=true):Tx n q (Ij A x) (Q3 x) 6
noncomputable def Zg:Nat->Addr
 | 6=>A.br
 | j=>bD A j
noncomputable def j9 (n:Nat)(q:Bool)(j:Nat):cu:=fun ds S k=>∃ x y,ds=[.t x]/\Tx A n q x y j/\k (.t y) S
noncomputable def Bb (n:Nat)(q:Bool):cu:=fun ds S k=>∃ (l:List (T×T)),ds=[.tup (l.map (·.1))]/\l.length<=100/\(∀ p∈l,∃ j,Tx A n q p.1 p.2 j)/\k (.tup (l.map (·.2))) S
noncomputable def Du:cu:=fun ds S k=>∃ (d:D) (l:List aX),ds=[d]/\xq S d=some (l.map (nQ A))/\l.length<=100/\k (.lst (l.map (nQ A))) S
noncomputable def Dv (n:Nat):cu:=fun ds S k=>∃ s:aX,ds=[.t (nQ A s)]/\s.Ok n/\k (.lst [.tup [.int s.at_,ql s.us]]) S
noncomputable def K6:cu:=fun ds S k=>∃ (i:Nat) (a:Int) (x:Str) (d1 d2 d3 d4 d5:D) (h:qp),ds=[.ob i,.int h.at_,.str h.name,d1,d2,d3,d4,d5]/\S[i]?=some (.ins A.br [] [])/\xq S d1=some (h.params.map T.str)/\xq S d2=some (h.answers.map T.str)/\xq S d3=some (h.needs.map (atT A))/\xq S d4=some (h.gives.map (atT A))/\xq S d5=some (h.steps.map (nQ A)) /\
 h.needs.length<=100/\h.gives.length<=100/\k .dR (S.set i (.ins A.br ["at","name","params","answers","needs","gives","steps"] ([.int h.at_,.str h.name,ql h.params,ql h.answers,.tup (h.needs.map (atT A)),.tup (h.gives.map (atT A)),.tup (h.steps.map (nQ A))].map .t)))
noncomputable def KQ:cu:=fun ds S k=>∃ (i:Nat) (d:D) (hs:List qp),ds=[.ob i,d]/\S[i]?=some (.ins A.bH [] [])/\xq S d=some (hs.map (Ij A))/\k .dR (S.set i (.ins A.bH ["helpers"] ([.tup (hs.map (Ij A))].map .t)))
noncomputable def Bd:cu:=fun ds S k=>∃ (h:qp) (hs:List qp),ds=[.t (OB A (h::hs)),.str h.name]/\k (.t (Ij A h)) S
noncomputable def wR (n:Nat):cu:=fun ds S k=>∃ h:qp,ds=[.t (OB A [h])]/\Zw n h/\k (.tup [Q3 h]) S
noncomputable def rR (n:Nat):cu:=fun ds S k=>∃ h:qp,ds=[.t (Ij A h)]/\Zw n h/\k (.t (Q3 h)) S
structure J2 (n:Nat)(h:qp)(N:List Str):Prop where
 st:∀ s∈h.steps,s.Ok n
 us:∀ s∈h.steps,∀ x∈s.us,x∈N
 an:∀ x∈h.answers,x∈N
 nl:N.length<=8
 pl:h.params.length<=8/\h.answers.length<=8/\h.steps.length<=12/\h.needs.length<=8/\h.gives.length<=8
 sh:∀ x∈h.params,x.length<=100
noncomputable def Hu (n:Nat):cu:=fun ds S k=>∃ (h:qp) (N:List Str),ds=[.t (Ij A h)]/\J2 n h N/\k (.lst ((others h).map T.str)) S
noncomputable def Qm:cu:=fun ds S k=>∃ a b:Sm,ds=[.t (iC A a),.t (iC A b)]/\k (.t (eX A (yY a b))) S
noncomputable def Ql:cu:=fun ds S k=>∃ a:Sm,ds=[.t (iC A a)]/\k (.t (eX A (Io a))) S
noncomputable def Qi:cu:=fun ds S k=>∃ (x:Str) (s:Sm),ds=[.str x,.t (iC A s)]/\k (.t (qt A (.lt x s))) S
noncomputable def K5:cu:=fun ds S k=>∃ c:bC,ds=[.t (eX A c)]/\k (.t (qt A (.hd c))) S
noncomputable def HC:cu:=fun ds S k=>∃ l:List (Int×bC),ds=[.tup (l.map (atT A))]/\l.length<=100/\k (.tup ((l.map fun p=>iA.hd p.2).map (qt A))) S
noncomputable def Ae:cu:=fun ds S k=>∃ x:Str,ds=[.str x]/\k (.tup ((aW x).map (qt A))) S
noncomputable def Hs (n:Nat):cu:=fun ds S k=>∃ (h:qp) (N:List Str),ds=[.t (Ij A h)]/\J2 n h N/\k (.tup ((dh h).map (qt A))) S
noncomputable def La:cu:=fun ds S k=>∃ (i:Nat) (pg:T),ds=[.ob i,.t pg]/\S[i]?=some (.ins A.eG [] [])/\k .dR (S.set i (.ins A.eG ["program","found"] [.t pg,.ob S.length])++[.lst []])
noncomputable def KR (_:Nat):cu:=fun ds S k=>∃ (b f:Nat) (pg:T) (c7:List zU) (p:List iA) (kn:Str) (a:Int) (c:bC),ds=[.ob b,.tup (p.map (qt A)),.str kn,.int a,.t (eX A c)]/\Bk A S b f pg c7/\c7.length < 100/\p.length<=900 /\
 k (.tup ((p++[iA.hd c]).map (qt A))) (S.set f (.lst ((c7++[xJ kn a p c]).map (JN A))))
noncomputable def Fz (_:Nat):cu:=fun ds S k=>∃ (b f:Nat) (pg:T) (c7:List zU) (p:List iA) (kn:Str) (l:List (Int×bC)),ds=[.ob b,.tup (p.map (qt A)),.str kn,.tup (l.map (atT A))]/\Bk A S b f pg c7/\c7.length+l.length<=100/\p.length+l.length<=900 /\
 k (.tup ((bA kn p l).2.map (qt A))) (S.set f (.lst ((c7++(bA kn p l).1).map (JN A))))
noncomputable def Wn:cu:=fun ds S k=>∃ (s:aX) (r:Str) (p:Sm),ds=[.t (nQ A s)]/\((∃ a x,s=.ft a x r p)∨∃ a t,s=.pt a r p t)/\r.length<=100/\k (.t (eX A (within r p))) S
noncomputable def KP:cu:=fun ds S k=>∃ i:Int,ds=[.int i]/\(-(2 ^ 63) < i/\i < 2 ^ 63)/\k (.t (eX A (quot i))) S
noncomputable def I8 (n:Nat)(ok:aX->Prop)(mk:List iA->T):cu:=fun ds S k=>∃ (b f:Nat) (pg:T) (c7:List zU) (p:List iA) (s:aX),ds=[.ob b,.tup (p.map (qt A)),.t (nQ A s)]/\Bk A S b f pg c7/\c7.length < 99/\p.length<=800/\s.Ok n/\ok s /\
 k (.t (mk (p8 p s).2)) (S.set f (.lst ((c7++(p8 p s).1).map (JN A))))
noncomputable def K7 (n:Nat):cu:=fun ds S k=>∃ (b f:Nat) (pg:T) (c7:List zU) (p:List iA) (l:List aX),ds=[.ob b,.tup (p.map (qt A)),.tup (l.map (nQ A))]/\Bk A S b f pg c7/\c7.length+l.length < 99/\p.length+8*l.length<=700/\(∀ s∈l,s.Ok n) /\
 k (.lst [.tup ((b7 p l).2.map (qt A))]) (S.set f (.lst ((c7++(b7 p l).1).map (JN A))))
noncomputable def HD:cu:=fun ds S k=>∃ l:List aX,ds=[.tup (l.map (nQ A))]/\k (.int 1) S
noncomputable def Bg (n:Nat):cu:=fun ds S k=>∃ (h:qp) (N:List Str),ds=[.t (OB A [h]),.str h.name]/\J2 n h N/\k (.ob S.length) (S++[.lst ((gx h).map (JN A))])
end
theorem Yu (A:Ad)(S:bB){n j:Nat}{q:Bool}{x y:T}(h:Tx A n q x y j):∃ ns l,iq S (.t x)=some (Zg A j,ns,l)/\ns.contains "told"=false/\j < 7:=by
 cases h with
 | s s h =>
  obtain⟨ns,l,i1,i2,_⟩:=Ie A S s
  have hk:=sF s
  refine⟨ns,l,?_,i2,by omega⟩
  rw[i1]
  have:Zg A (kd s)=bD A (kd s):=by cases s <;> rfl
  rw[this]
 | h x hx hq=>exact⟨_,_,rfl,by decide +kernel,by decide⟩
theorem z9 (A:Ad)(S:bB)(s:aX):VR S (.t (nQ A s))=some (.ref (bD A (kd s))):=by cases s <;> rfl
section
variable {K:PySem.W.Frag}{A:Ad}{i j:Nat}
theorem qR (kk:∀ j i,j < 6->i < 9->PySem.W.kitOne K (.ref (bD A j)) (.ref (bD A i))=some (decide (j=i)))(hj:j < 6)(hi:i < 9)(ne:j≠i):PySem.W.kitOne K (.ref (bD A j)) (.ref (bD A i))=some false:=by rw[kk j i hj hi,decide_eq_false ne]
theorem O6 (kk:∀ j i,j < 6->i < 9->PySem.W.kitOne K (.ref (bD A j)) (.ref (bD A i))=some (decide (j=i)))(hj:j < 6):PySem.W.kitOne K (.ref (bD A j)) (.ref (bD A j))=some true:=by rw[kk j j hj (by omega),decide_eq_true rfl]
end
theorem Kp {n:Nat}{s:aX}(h:s.Ok n):s.us.length<=56:=by
 have hf:=h.few
 cases s with
 | lt a x s=>have:s.1.length<=4:=hf.1;simp[aX.us,Sm.bJ];omega
 | dv a x wd s b=>have:s.1.length<=4:=hf.1;have:b.1.length<=4:=hf.2;simp[aX.us,Sm.bJ];omega
 | ft a x r p=>have:p.1.length<=4:=hf.1;simp[aX.us,Sm.bJ];omega
 | pt a r p s=>have:p.1.length<=4:=hf.1;have:s.1.length<=4:=hf.2.1;simp[aX.us,Sm.bJ];omega
 | mq a r z=>have:z.1.length<=4:=hf.1;simp[aX.us,Sm.bJ];omega
 | cm a c =>
  obtain⟨h1,h2⟩:=hf
  have h3:=mh (c.sums.map Sm.bJ).flatten
  have h4:=je c
  have h5:∀ l:List Sm,(∀ s∈l,s.few)->(l.map Sm.bJ).flatten.length<=4*l.length:=by
   intro l
   induction l with
   | nil=>intro _;exact Nat.le_refl _
   | cons a r ih =>
    intro hm
    rw[List.map_cons,List.flatten_cons,List.length_append,List.length_cons]
    have h1:=ih fun s hs'=>hm s (List.mem_cons_of_mem _ hs')
    have h2:a.1.length<=4:=hm a List.mem_cons_self
    have h3:a.bJ.length=a.1.length:=by unfold Sm.bJ;rw[List.length_map]
    omega
  have h6:=h5 c.sums h2
  show(uU _).length<=56
  omega
theorem lE:∀ l:List Str,((l.map aW).flatten).length<=2*l.length
 | []=>Nat.le_refl _
 | a::r=>by
  rw[List.map_cons,List.flatten_cons,List.length_append,List.length_cons]
  have:=lE r
  have:(aW a).length<=2:=by unfold aW;split <;> simp
  omega
theorem gA (x:Str):(aW x).length<=2:=by unfold aW;split <;> simp
theorem lS {α β:Type}(f:α->List β)(g:β->T)(pre:List α)(s:α):((pre++[s]).map f).flatten.map g=(pre.map f).flatten.map g++(f s).map g:=by simp
theorem nJ {S S':bB}{d:D}{k:KD}(h:k d S'):closes S.length d S' k:=.inr (.inr (.inr h))
theorem qD {S:bB}{b:Nat}{C:Addr}{ns:List Str}{l:List D}(h:S[b]?=some (.ins C ns l)):iq S (.ob b)=some (C,ns,l):=by
 show(match S[b]? with | some (.ins C ns l)=>some (C,ns,l) | _=>none)=_
 rw[h]
theorem nS {S:bB}{b:Nat}{l:List T}(h:S[b]?=some (.lst l)):sq S (.ob b)=some l:=by
 unfold sq
 show(match S[b]? with | some (.lst l)=>some l | _=>none)=_
 rw[h]
theorem jc {S:bB}{b:Nat}{l:List T}(h:S[b]?=some (.lst l)):lq S (.ob b)=some l:=by
 show(match S[b]? with | some (.lst l)=>some l | _=>none)=_
 rw[h]
theorem wK {S:bB}{i:Nat}{C:Addr}{ns ns':List Str}{l l':List D}(h1:S[i]?=some (.ins C ns l)){d:D}{m:List T}(h:xq S d=some m):xq (S.set i (.ins C ns' l')) d=some m:=by
 rcases wL h with rfl | h
 ·rfl
 ·have key:lq (S.set i (.ins C ns' l')) d=some m:=by
   unfold lq at h ⊢
   split at h
   ·exact h
   ·rename_i n hq
    have hn:n≠i:=fun e=>by subst e;rw[h1] at h;cases h
    show(match (S.set i (O.ins C ns' l'))[n]? with | some (.lst l)=>some l | _=>none)=some m
    rw[List.getElem?_set_ne (Ne.symm hn)]
    exact h
   ·cases h
  unfold xq
  split
  ·unfold lq at key;cases key
  ·exact key
theorem Ao {l:List Str}:∀ {m:List Str},l.Nodup->(∀ x∈l,x∈m)->l.length<=m.length:=by
 induction l with
 | nil=>intro m _ _;exact Nat.zero_le _
 | cons a r ih =>
  intro m hn hm
  obtain⟨h1,h2⟩:=List.nodup_cons.mp hn
  have ha:=hm a List.mem_cons_self
  have:=ih (m:=m.erase a) h2 fun x hx=>(List.mem_erase_of_ne fun(e:x=a)=>h1 (e ▸ hx)).mpr (hm x (List.mem_cons_of_mem _ hx))
  rw[List.length_erase_of_mem ha] at this
  have:=List.length_pos_of_mem ha
  rw[List.length_cons]
  omega
theorem BH {n:Nat}{h:qp}{N:List Str}(ok:J2 n h N):(others h).length<=8:=by
 have hn:(others h).Nodup:=by
  unfold others
  exact(nR _).imp fun {a b} hab=>Qx hab
 refine Nat.le_trans (Ao hn fun x hx=>?_) ok.nl
 have:=dS.mp hx
 rw[List.mem_filter] at this
 rcases List.mem_append.mp this.1 with hu | hu
 ·exact ok.an x hu
 ·obtain⟨l,hl,hul⟩:=List.mem_flatten.mp hu
  obtain⟨s,hs,rfl⟩:=List.mem_map.mp hl
  exact ok.us s hs x hul
theorem qd (kn:Str):∀ (p:List iA) (l:List (Int×bC)),(bA kn p l).1.length=l.length
 | p,[]=>rfl
 | p,q::r=>by unfold bA;rw[List.length_cons,qd kn _ r];rfl
theorem uv (kn:Str):∀ (p:List iA) (l:List (Int×bC)),(bA kn p l).2.length=p.length+l.length
 | p,[]=>rfl
 | p,q::r=>by unfold bA;rw[uv kn _ r,List.length_append,List.length_cons,List.length_cons];simp;omega
theorem qX (kn:Str):∀ (p:List iA) (l:List (Int×bC)) (q:Int×bC),(bA kn p (l++[q])).1=(bA kn p l).1++[xJ kn q.1 (bA kn p l).2 q.2]
 | p,[],q=>rfl
 | p,a::r,q=>by rw[List.cons_append];unfold bA;rw[qX kn _ r q];rfl
theorem qW (kn:Str):∀ (p:List iA) (l:List (Int×bC)) (q:Int×bC),(bA kn p (l++[q])).2=(bA kn p l).2++[iA.hd q.2]
 | p,[],q=>rfl
 | p,a::r,q=>by rw[List.cons_append];unfold bA;rw[qW kn _ r q]
theorem VA {a b:Int}(h:a=b):xor false (decide (V.int a=V.int b))=true:=by rw[qS,decide_eq_true h];rfl
theorem Pb {a b:Int}(h:a≠b):xor false (decide (V.int a=V.int b))=false:=by rw[qS,decide_eq_false h];rfl
theorem seq {a b:Str}(h:a=b):xor false (decide (V.str a=V.str b))=true:=by rw[KH,decide_eq_true h];rfl
theorem Wq {a b:Str}(h:a≠b):xor false (decide (V.str a=V.str b))=false:=by rw[KH,decide_eq_false h];rfl
theorem tF {a b:Str}(h:a≠b:=by decide +kernel):D.bl (xor false (decide (V.str a=V.str b)))=D.bl false:=congrArg D.bl (Wq h)
theorem tT {a b:Str}(h:a=b:=by rfl):D.bl (xor false (decide (V.str a=V.str b)))=D.bl true:=congrArg D.bl (seq h)
theorem iF {a b:Int}(h:a≠b:=by omega):D.bl (xor false (decide (V.int a=V.int b)))=D.bl false:=congrArg D.bl (Pb h)
theorem iT {a b:Int}(h:a=b:=by omega):D.bl (xor false (decide (V.int a=V.int b)))=D.bl true:=congrArg D.bl (VA h)
theorem a1u {a b:Int}(h:a=b):xor true (decide (V.int a=V.int b))=false:=by rw[qS,decide_eq_true h];rfl
theorem a1s {a b:Int}(h:a≠b):xor true (decide (V.int a=V.int b))=true:=by rw[qS,decide_eq_false h];rfl
noncomputable def I0:cu:=fun _ _ _=>False
theorem IF (A:Ad)(a b:Sm)(s:Str):eX A (.cmp a s b)=.ins A.bq ["one","sign","other"] [iC A a,.str s,iC A b]:=by rw[eX]
noncomputable def Pd (L:Nat)(loc:bB)(pd:D)(m:List T):Prop:=pd=.lst m∨∃ q,pd=.ob (L+q)/\loc[q]?=some (.lst m)
theorem cj {S loc:bB}{L q:Nat}(h:S.length=L):(S++loc)[L+q]?=loc[q]?:=by subst h;exact eS
theorem L7 {S loc:bB}{L:Nat}{o:O}(h:S.length=L):(S++(loc++[o]))[L+loc.length]?=some o:=by rw[cj h];simp
theorem OY {S loc:bB}{L:Nat}{o o':O}(h:S.length=L):(S++(loc++[o])).set (L+loc.length) o'=S++(loc++[o']):=by subst h;rw[dU];simp
theorem O3 {loc:bB}{o:O}:(loc++[o])[loc.length]?=some o:=by simp
theorem UO {L:Nat}{loc more S0:bB}{pd:D}{m:List T}{k:List D->(bB->Prop)->bB->Prop}(h:Pd L loc pd m)(hS:S0.length=L)
  (hk:∀ G:bB->Prop,(∀ (S1 HZ:bB),S1.length=L->G (S1++(loc++HZ)))->k (m.map .t) G (S0++(loc++more))):JA pd (S0++(loc++more)) k:=by
 rcases h with rfl | ⟨q,rfl,hq⟩
 ·exact jP (hk _ fun _ _ _=>trivial)
 ·have hz:∀ S1 HZ:bB,S1.length=L->(S1++(loc++HZ))[L+q]?=some (.lst m):=fun S1 HZ h1=>by rw[cj h1];exact qG hq
  exact .inr ⟨_,m,rfl,hz _ _ hS,hk _ hz⟩
theorem MZ {S:bB}{j:Nat}{l:List T}(c:Cl S):∀ o∈S.set j (.lst l),Cw S.length o:=fun o ho=>by
 rcases List.mem_or_eq_of_mem_set ho with h | rfl
 ·exact c o h
 ·trivial
theorem Ze {L:Nat}{loc S0:bB}{pd:D}{m:List T}{k:KD}(h:Pd L loc pd m)(hS:S0.length=L)(c:∀ o∈S0,Cw L o)(q:k (.lst m) S0):closes L pd (S0++loc) k:=by
 rcases h with rfl | ⟨i,rfl,hq⟩
 ·exact .inl ⟨S0,loc,rfl,hS,c,trivial,q⟩
 ·exact .inr (.inr (.inl ⟨_,m,S0,loc,rfl,by omega,rfl,hS,c,by rw[cj hS];exact hq,q⟩))
theorem MC (p:List iA)(s:aX):(p8 p s).1.length<=1:=by cases s <;> simp[p8]
theorem Ew (p:List iA)(s:aX):(p8 p s).2.length<=p.length+8:=by
 cases s with
 | lt a x s=>simp[p8]
 | dv a x wd s b =>
  simp only[p8,JL]
  have:=gA x
  have:=gA "^^"
  split <;> simp only[List.length_append,List.length_cons,List.length_nil] <;> omega
 | ft a x r z=>have:=gA x;simp only[p8,List.length_append,List.length_cons,List.length_nil];omega
 | pt a r z s=>simp[p8]
 | mq a r z=>simp[p8]
 | cm a c=>simp[p8]
theorem jy:∀ (p:List iA) (l:List aX),(b7 p l).1.length<=l.length
 | p,[]=>Nat.le_refl _
 | p,s::r=>by unfold b7;have:=MC p s;have:=jy (p8 p s).2 r;rw[List.length_append,List.length_cons];omega
theorem jx:∀ (p:List iA) (l:List aX),(b7 p l).2.length<=p.length+8*l.length
 | p,[]=>Nat.le_refl _
 | p,s::r=>by unfold b7;have:=Ew p s;have:=jx (p8 p s).2 r;rw[List.length_cons];show(b7 (p8 p s).2 r).2.length<=_;omega
theorem qU:∀ (p:List iA) (l:List aX) (s:aX),(b7 p (l++[s])).1=(b7 p l).1++(p8 (b7 p l).2 s).1
 | p,[],s=>by simp[b7]
 | p,a::r,s=>by rw[List.cons_append];unfold b7;rw[qU _ r s,List.append_assoc]
theorem qT:∀ (p:List iA) (l:List aX) (s:aX),(b7 p (l++[s])).2=(p8 (b7 p l).2 s).2
 | p,[],s=>by simp[b7]
 | p,a::r,s=>by rw[List.cons_append];unfold b7;rw[qT _ r s]
theorem ud {n:Nat}{h:qp}{N:List Str}(ok:J2 n h N):(dh h).length<=32:=by
 obtain⟨p1,p2,p3,p4,p5⟩:=ok.pl
 have:=lE h.params
 have:=BH ok
 unfold dh
 simp only[List.length_append,List.length_map]
 omega
noncomputable def cP (S:bB)(d:Nat)(c m:Int):bB:=S.set d (.lst [.int c,.int m])
noncomputable def Dq (S:bB)(d:Nat):Prop:=∃ c m:Int,S[d]?=some (.lst [.int c,.int m])
section
variable {S loc:bB}{d:Nat}{a b c m:Int}
theorem Dq.lt (h:Dq S d):d < S.length:=by obtain⟨_,_,e⟩:=h;exact(List.getElem?_eq_some_iff.mp e).1
theorem yr (h:d < S.length):(cP S d c m)[d]?=some (.lst [.int c,.int m]):=List.getElem?_set_self h
theorem Dq.cP (h:Dq S d):Dq (cP S d c m) d:=⟨c,m,yr h.lt⟩
theorem cF:L3.cP (L3.cP S d a b) d c m=L3.cP S d c m:=List.set_set ..
theorem aO:(cP S d c m).length=S.length:=List.length_set
theorem dB (h:d < S.length):cP (S++loc) d c m=cP S d c m++loc:=List.set_append_left _ _ h
theorem Dq.up (h:Dq S d):Dq (S++loc) d:=let ⟨c,m,e⟩:=h;⟨c,m,qG e⟩
theorem Dq.self (h:Dq S d):∃ c m,S=L3.cP S d c m:=let ⟨c,m,e⟩:=h;⟨c,m,(set_same e).symm⟩
theorem kZ {x:D}{N:List Str}(hd:Dq S d)(h:lq S x=some (N.map T.str)):lq (cP S d c m) x=some (N.map T.str):=by
 cases x with
 | t x=>cases x <;> exact h
 | ob n =>
  obtain⟨c0,m0,e0⟩:=hd
  have h:(match S[n]? with | some (.lst l)=>some l | _=>none)=some (N.map T.str):=h
  have hn:n≠d:=fun e=>by
   subst e
   rw[e0] at h
   cases N with
   | nil=>cases h
   | cons y r=>have h:=Option.some.inj h;cases h
  show(match (L3.cP S d c m)[n]? with | some (.lst l)=>some l | _=>none)=some (N.map T.str)
  unfold cP
  rw[List.getElem?_set_ne (Ne.symm hn)]
  exact h
theorem M1 (hc:Cl S):∀ o∈cP S d c m,Cw S.length o:=MZ hc
theorem MY {x:T}{k:KD}(hc:Cl S)(h:k (.t x) (cP S d c m)):closes S.length (.t x) (cP S d c m++loc) k:=.inl ⟨_,_,rfl,aO,M1 hc,trivial,h⟩
theorem Cv {n:Nat}{g:yK}{tt:vN}{te:eY}{δ0:Sl}{k:List T->bB->Prop}(hd:Dq S d)(P:T->Prop)(hn:n<=1000)
  (hs:∀ (i:Nat) c m (k':Option T->bB->Prop),(∀ y c' m',P y->k' (some y) (cP S d c' m'))->elem g tt te δ0 (.int i) (cP S d c m) k')
  (hk:∀ ys c m,ys.length=n->(∀ y∈ys,P y)->k ys (cP S d c m)):iO (fun _=>True) g tt te δ0 ((List.range n).map fun(i:Nat)=>D.int i) (cP S d a b) [] k:=by
 refine MW (fun i ys S'=>ys.length=i/\(∀ y∈ys,P y)/\∃ c m,S'=L3.cP S d c m) ⟨rfl,fun _ h=>absurd h List.not_mem_nil,a,b,rfl⟩ ?_ ?_
 ·rintro i x ys S' k' hx ⟨hl,hp,c,m,rfl⟩ hk'
  rw[List.getElem?_map] at hx
  have hi:i < n:=by
   rcases Nat.lt_or_ge i n with h | h
   ·exact h
   ·rw[List.getElem?_eq_none (by rw[List.length_range];exact h)] at hx;cases hx
  rw[List.getElem?_range hi] at hx
  cases hx
  refine⟨trivial,Fq (by omega),hs i c m k' fun y c' m' hy=>hk' _ _ ⟨by simp[Zm,hl],fun z hz=>?_,c',m',rfl⟩⟩
  rcases List.mem_append.mp (show z∈ys++[y] from hz) with h | h
  ·exact hp z h
  ·rw[List.mem_singleton.mp h];exact hy
 ·rintro ys S' ⟨hl,hp,c,m,rfl⟩
  rw[List.length_map,List.length_range] at hl
  exact⟨trivial,hk ys c m hl hp⟩
end
structure qm (N:List Str)(s:Sm):Prop where
 few:s.1.length<=2
 mem:∀ x∈s.bJ,x∈N
 num:-(2 ^ 63) < s.2/\s.2 < 2 ^ 63
structure jb (N:List Str)(c:bC):Prop where
 dep:c.dep < 2
 sz:c.sz<=4
 mem:∀ s∈c.sums,qm N s
theorem jb.few {N:List Str}{c:bC}(h:jb N c):c.few:=⟨by have:=h.sz;omega,fun s hs=>by have:=(h.mem s hs).few;show s.1.length<=4;omega⟩
noncomputable def nmS:aX->Prop
 | .dv _ x wd _ _=>qo x/\(wd="div"∨wd="mod")
 | .ft _ x _ _=>qo x
 | _=>True
structure j7 (N:List Str)(s:aX):Prop where
 ok:s.Ok 2
 us:∀ x∈s.us,x∈N
 nm:nmS s
 cd:∀ a c,s=.cm a c->jb N c
structure iU (h:qp)(N:List Str):Prop where
 ok:J2 2 h N
 st:∀ s∈h.steps,j7 N s
 nd:∀ p∈h.needs,jb h.params p.2
 gv:∀ p∈h.gives,jb (h.params++h.answers) p.2
 ne:∀ x∈h.params,∃ c r,x.cps.toList=c::r
theorem iU.told {h:qp}{N:List Str}(g:iU h N):Zw 2 h:=by
 obtain⟨p1,p2,p3,p4,p5⟩:=g.ok.pl
 exact⟨fun p hp=>⟨(g.nd p hp).dep,by have:=(g.nd p hp).sz;omega⟩,fun p hp=>⟨(g.gv p hp).dep,by have:=(g.gv p hp).sz;omega⟩,fun s hs a c e=>(g.ok.st s hs).cd a c e,by omega,by omega,by omega⟩
structure Vv (ns N ms us:List Str):Prop where
 n:ns≠[]/\ns.length<=8
 nm:∀ x∈ns,qo x/\x∈N
 nN:N.length<=8/\N≠[]
 m:∀ r∈ms,r.length<=20/\hsh r∈N
 ml:ms.length<=8
 u:us≠[]/\us.length<=8
 um:∀ r∈us,r.length<=20/\hsh r∈N
noncomputable def Ar (l:List Str):T:=.lst (l.map T.str)
section
variable (K:PySem.W.Frag)(A:Ad)
noncomputable def Qh:cu:=fun ds S k=>∃ c j:Int,ds=[.int c,.int j]/\∀ r:Int,0<=r->r < 2147483399->k (.int r) S
noncomputable def K8:cu:=fun ds S k=>∃ (l:List Int) (j:Nat),ds=[.t (.HF (l.map T.int)),.int j]/\∀ r:Int,k (.int r) S
noncomputable def Wo:cu:=fun ds S k=>∃ (d:Nat) (n:Int),ds=[.ob d,.int n]/\Dq S d/\0 < n/\∀ (r:Nat) c m,(r:Int) < n->k (.int r) (cP S d c m)
noncomputable def Qg:cu:=fun ds S k=>∃ d:Nat,ds=[.ob d,.int 8]/\Dq S d/\∀ (ns:List Str) c m,ns.length=8->(∀ x∈ns,qo x)->k (.t (Ar ns)) (cP S d c m)
noncomputable def Be:cu:=fun ds S k=>∃ (d:Nat) (x:D) (N:List Str),ds=[.ob d,x]/\Dq S d/\lq S x=some (N.map T.str)/\N.length<=100/\∀ s c m,qm N s->k (.t (iC A s)) (cP S d c m)
noncomputable def Bf (n:Nat):cu:=fun ds S k=>∃ (d:Nat) (x:D) (N:List Str),n < 2/\ds=[.ob d,x,.int n]/\Dq S d/\lq S x=some (N.map T.str)/\N.length<=100/\∀ e c m,jb N e->(n=0->e.dep=0/\e.sz=1)->k (.t (eX A e)) (cP S d c m)
noncomputable def wU:Nat->cu
 | 0=>I0
 | n+1=>Bf A n
noncomputable def Hz:cu:=fun ds S k=>∃ (d:Nat) (ns N ms us:List Str),ds=[.ob d,.tup [Ar ns,Ar N,Ar ms,Ar us]]/\Dq S d/\Vv ns N ms us/\∀ s c m,j7 N s->k (.t (nQ A s)) (cP S d c m)
noncomputable def Dy:cu:=fun ds S k=>∃ (d:Nat) (ns N ms us:List Str) (j:Nat) (x y:D),ds=[.ob d,.tup [Ar ns,Ar N,Ar ms,Ar us],.int j,x,y]/\Dq S d/\Vv ns N ms us/\j<=100/\∀ (l:List aX) c m,l.length=j->(∀ s∈l,j7 N s)->k (.ob S.length) (cP S d c m++[.lst (l.map (nQ A))])
noncomputable def DB:cu:=fun ds S k=>∃ (d:Nat) (x:D) (N:List Str) (j:Nat),ds=[.ob d,x,.int j]/\Dq S d/\lq S x=some (N.map T.str)/\N.length<=100/\j<=100/\∀ (l:List (Int×bC)) c m,l.length=j->(∀ p∈l,jb N p.2)->k (.lst (l.map (atT A))) (cP S d c m)
noncomputable def Af:cu:=fun ds S k=>∃ (d:Nat) (ns:List Str) (j:Nat) (nm:Str),ds=[.ob d,.str nm,.int j,.int 0,.lst [],.t (Ar ns)]/\Dq S d/\j<=9/\ns.length=8/\(∀ x∈ns,qo x)/\∀ h N c m,iU h N->h.name=nm->k (.t (Ij A h)) (cP S d c m)
end
theorem ex_map {α β:Type}{f:α->β}{P:α->Prop}:∀ {ys:List β},(∀ y∈ys,∃ x,y=f x/\P x)->∃ xs:List α,ys=xs.map f/\xs.length=ys.length/\∀ x∈xs,P x
 | [],_=>⟨[],rfl,rfl,fun _ h=>absurd h List.not_mem_nil⟩
 | y::r,h=>by
  obtain⟨x,e,p⟩:=h y List.mem_cons_self
  obtain⟨xs,e1,e2,e3⟩:=ex_map (ys:=r) fun z hz=>h z (List.mem_cons_of_mem _ hz)
  exact⟨x::xs,by rw[e,e1];rfl,by rw[List.length_cons,List.length_cons,e2],fun z hz=>by
   rcases List.mem_cons.mp hz with rfl | hz
   ·exact p
   ·exact e3 z hz⟩
section
variable {S:bB}{x:D}{l:List T}{k:KD}
theorem Cu {n:Nat}{neg:Bool}(h:lq S x=some l)(hk:k (.bl (xor neg (decide (l=[])))) S):eq3 n neg x (.lst []) S k:=by
 cases x with
 | ob i=>exact⟨l,[],h,rfl,.inr ⟨rfl,hk⟩⟩
 | t x =>
  cases x with
  | lst m=>exact⟨l,[],h,rfl,.inr ⟨rfl,hk⟩⟩
  | _=>cases h
theorem Ti (h:lq S x=some l)(hk:k (.int l.length) S):Tj [x] S k:=by
 cases x with
 | ob i =>
  have h:(match S[i]? with | some (.lst l)=>some l | _=>none)=some l:=h
  exact⟨l,h,hk⟩
 | t x =>
  cases x with
  | lst m=>exact⟨l,h,hk⟩
  | _=>cases h
theorem Ys {i:Int}{y:T}(h:lq S x=some l)(e:wF l i=some y)(hk:k (.t y) S):ZW x (.int i) S k:=by
 cases x with
 | ob j =>
  have h:(match S[j]? with | some (.lst l)=>some l | _=>none)=some l:=h
  exact⟨l,y,h,e,hk⟩
 | t x =>
  cases x with
  | lst m=>exact⟨l,y,h,e,hk⟩
  | _=>cases h
end
theorem qZ {N:List Str}{r:Nat}(h:(r:Int) < N.length):∃ y,y∈N/\wF (N.map T.str) (r:Int)=some (T.str y):=by
 have h:r < N.length:=by omega
 exact⟨N[r],List.getElem_mem h,wD (by rw[List.getElem?_map,List.getElem?_eq_getElem h];rfl)⟩
theorem four {a b c e:Int}{r:Nat}(h:(r:Int) < 4){P:Int->Prop}(ha:P a)(hb:P b)(hc:P c)(he:P e):∃ v,wF [T.int a,.int b,.int c,.int e] (r:Int)=some (T.int v)/\P v:=by
 match r,h with
 | 0,_=>exact⟨a,rfl,ha⟩
 | 1,_=>exact⟨b,rfl,hb⟩
 | 2,_=>exact⟨c,rfl,hc⟩
 | 3,_=>exact⟨e,rfl,he⟩
 | n+4,h=>omega
theorem LU {N:List Str}{l:List (Str×Int)}(h:∀ p∈l,p.1∈N):∀ x∈(norm l).map (·.1),x∈N:=by
 intro x hx
 obtain⟨p,hp,rfl⟩:=List.mem_map.mp hx
 unfold norm at hp
 obtain⟨y,hy,rfl⟩:=List.mem_map.mp (List.mem_filter.mp hp).1
 obtain⟨q,hq,rfl⟩:=List.mem_map.mp (dS.mp hy)
 exact h q hq
theorem IE (A:Ad)(q:Bool)(cs:List bC):eX A (.con q cs)=.ins (if q=true then A.cS else A.fu) ["conditions"] [.tup (cs.map (eX A))]:=by rw[eX,iP]
theorem Pu (A:Ad)(c:bC):eX A (.neg c)=.ins A.bT ["condition"] [eX A c]:=by rw[eX]
theorem As {S:bB}{d:D}{l:List T}(h:lq S d=some l):xq S d=some l:=by
 cases d with
 | ob i=>exact h
 | t x =>
  cases x with
  | lst m=>exact h
  | _=>cases h
theorem Vi {N:List Str}{a e:bC}(ha:jb N a)(za:a.dep=0/\a.sz=1)(he:jb N e)(z2:e.dep=0)(z3:e.sz=1):jb N (.con true [a,e]):=by
 refine⟨?_,?_,fun s hs=>?_⟩
 ·simp[bC.dep,vK,za.1,z2]
 ·simp[bC.sz,Ab,za.2,z3]
 ·simp only[bC.sums,dX,List.append_nil] at hs
  rcases List.mem_append.mp hs with h | h
  ·exact ha.mem s h
  ·exact he.mem s h
theorem Pq {N:List Str}{a e:bC}(ha:jb N a)(za:a.dep=0/\a.sz=1)(he:jb N e)(z2:e.dep=0)(z3:e.sz=1):jb N (.con false [a,e,a]):=by
 refine⟨?_,?_,fun s hs=>?_⟩
 ·simp[bC.dep,vK,za.1,z2]
 ·simp[bC.sz,Ab,za.2,z3]
 ·simp only[bC.sums,dX,List.append_nil] at hs
  rcases List.mem_append.mp hs with h | h
  ·exact ha.mem s h
  ·rcases List.mem_append.mp h with h | h
   ·exact he.mem s h
   ·exact ha.mem s h
theorem two {r:Nat}(h:(r:Int) < 2):∃ wd:Str,wF [T.str "div",.str "mod"] (r:Int)=some (T.str wd)/\(wd="div"∨wd="mod"):=by
 match r,h with
 | 0,_=>exact⟨_,rfl,.inl rfl⟩
 | 1,_=>exact⟨_,rfl,.inr rfl⟩
 | n+2,h=>omega
theorem Wt {r:Nat}(h:(r:Int) < 7):∃ v:Int,wF [T.int 2,.int 3,.int (-2),.int 1,.int 7,.int 0,.int (-5)] (r:Int)=some (T.int v)/\(-20 < v/\v < 20):=by
 match r,h with
 | 0,_=>exact⟨_,rfl,by decide,by decide⟩
 | 1,_=>exact⟨_,rfl,by decide,by decide⟩
 | 2,_=>exact⟨_,rfl,by decide,by decide⟩
 | 3,_=>exact⟨_,rfl,by decide,by decide⟩
 | 4,_=>exact⟨_,rfl,by decide,by decide⟩
 | 5,_=>exact⟨_,rfl,by decide,by decide⟩
 | 6,_=>exact⟨_,rfl,by decide,by decide⟩
 | n+7,h=>omega
theorem RJ {N:List Str}{v:Int}(h:-20 < v/\v < 20):qm N (sumOf [] v):=⟨by show 0<=2;decide,fun _ h=>absurd h (by simp[sumOf,norm,Sm.bJ,uU]),by show -(2 ^ 63) < v;omega,by show v < 2 ^ 63;omega⟩
theorem S7 {ms:List Str}(h:ms=[]):xor true (decide (ms.map T.str=[]))=false:=by subst h;rfl
theorem OT {ms:List Str}(h:ms≠[]):xor true (decide (ms.map T.str=[]))=true:=by
 rw[decide_eq_false (fun e=>h (List.map_eq_nil_iff.mp e))];rfl
section
variable {N:List Str}{a:Int}{x r wd:Str}{s b p z:Sm}{c:bC}
theorem qm.four (h:qm N s):s.few:=by have:=h.few;show s.1.length<=4;omega
theorem Qc (hs:qm N s)(hx:x∈N)(hl:x.length<=100):j7 N (.lt a x s):=⟨⟨⟨hs.four,hl⟩,fun _ _ e=>(by cases e),fun _ _ _ _ _ e=>by cases e⟩,fun y hy=>(by
 rcases List.mem_cons.mp hy with rfl | hy
 ·exact hx
 ·exact hs.mem y hy),trivial,fun _ _ e=>(by cases e)⟩
theorem Qe (hs:qm N s)(hb:qm N b)(hl:qo x)(hx:x∈N)(hw:wd="div"∨wd="mod"):j7 N (.dv a x wd s b):=⟨⟨⟨hs.four,hb.four⟩,fun _ _ e=>(by cases e),fun _ _ _ _ _ e=>by cases e;exact hb.num⟩,fun y hy=>(by
 rcases List.mem_cons.mp hy with rfl | hy
 ·exact hx
 ·rcases List.mem_append.mp hy with hy | hy
  ·exact hs.mem y hy
  ·exact hb.mem y hy),⟨hl,hw⟩,fun _ _ e=>(by cases e)⟩
theorem Qd (hp:qm N p)(hl:qo x)(hx:x∈N)(hr:r.length<=20/\hsh r∈N):j7 N (.ft a x r p):=⟨⟨⟨hp.four,by omega⟩,fun _ _ e=>(by cases e),fun _ _ _ _ _ e=>by cases e⟩,fun y hy=>(by
 rcases List.mem_cons.mp hy with rfl | hy
 ·exact hx
 ·rcases List.mem_cons.mp hy with rfl | hy
  ·exact hr.2
  ·exact hp.mem y hy),hl,fun _ _ e=>(by cases e)⟩
theorem Wl (hp:qm N p)(hs:qm N s)(hr:r.length<=20/\hsh r∈N):j7 N (.pt a r p s):=⟨⟨⟨hp.four,hs.four,by omega⟩,fun _ _ e=>(by cases e),fun _ _ _ _ _ e=>by cases e⟩,fun y hy=>(by
 rcases List.mem_cons.mp hy with rfl | hy
 ·exact hr.2
 ·rcases List.mem_append.mp hy with hy | hy
  ·exact hp.mem y hy
  ·exact hs.mem y hy),trivial,fun _ _ e=>(by cases e)⟩
theorem Wm (hz:qm N z)(hr:r.length<=20/\hsh r∈N):j7 N (.mq a r z):=⟨⟨⟨hz.four,by omega⟩,fun _ _ e=>(by cases e),fun _ _ _ _ _ e=>by cases e⟩,fun y hy=>(by
 rcases List.mem_cons.mp hy with rfl | hy
 ·exact hr.2
 ·exact hz.mem y hy),trivial,fun _ _ e=>(by cases e)⟩
theorem M3 {c:bC}(hc:jb N c):∀ y∈(c.sums.map Sm.bJ).flatten,y∈N:=fun y hy=>by
 obtain⟨l,hl,hy⟩:=List.mem_flatten.mp hy
 obtain⟨s,hs,rfl⟩:=List.mem_map.mp hl
 exact(hc.mem s hs).mem y hy
theorem Qf (hc:jb N c):j7 N (.cm a c):=⟨⟨hc.few,fun _ _ e=>(by cases e;exact hc.dep),fun _ _ _ _ _ e=>by cases e⟩,fun y hy=>M3 hc y (dS.mp hy),trivial,fun _ _ e=>by cases e;exact hc⟩
end
theorem Zf {L j:Nat}{S0 S1:bB}{o:O}{k:KD}(c:∀ o∈S0,Cw L o)(hS:S0.length=L)(e:S1[j]?=some o)(co:Cw L o)(h:k (.ob L) (S0++[o])):closes L (.ob (L+j)) (S0++S1) k :=
 .inr (.inl ⟨_,o,S0,S1,rfl,by omega,rfl,hS,c,by rw[cj hS];exact e,co,h⟩)
noncomputable def PN (x:Str):Prop:=x.length<=100/\∃ c r,x.cps.toList=c::r
theorem Lu {x:Str}(h:qo x):PN x:=let ⟨⟨c,r,e,_⟩,l⟩:=h;⟨by omega,c,r,e⟩
theorem Pe (x:Str):(hsh x).cps.toList=35::x.cps.toList:=by
 unfold hsh
 rw[sV]
 have:("#":Str).cps.toList=[35]:=by decide +kernel
 rw[this];rfl
theorem Pc (x:Str):(hsh x).length=x.length+1:=by
 unfold hsh
 rw[kQ]
 have:("#":Str).length=1:=by decide +kernel
 omega
theorem Sj {x:Str}(h:qo x):PN (hsh x):=⟨by rw[Pc];have:=h.2;omega,_,_,Pe x⟩
theorem Ii {a:Int}{nm:Str}{ps Rg N:List Str}{nd gv:List (Int×bC)}{sts:List aX}(hp:ps.length<=8)(ha:Rg.length<=8)(hs:sts.length<=12)(hn:nd.length<=8)(hg:gv.length<=8)(hN:N.length<=8)(han:∀ x∈Rg,x∈N)(hst:∀ s∈sts,j7 N s)(hnd:∀ p∈nd,jb ps p.2)(Z5:∀ p∈gv,jb (ps++Rg) p.2)(YJ:∀ x∈ps,PN x):iU ⟨a,nm,ps,Rg,nd,gv,sts⟩ N :=
 ⟨⟨fun s hs=>(hst s hs).ok,fun s hs=>(hst s hs).us,han,hN,⟨hp,ha,hs,hn,hg⟩,fun x hx=>(YJ x hx).1⟩,hst,hnd,Z5,fun x hx=>(YJ x hx).2⟩
theorem MN {ns:List Str}(h:ns.length=8):∃ a0 a1 a2 a3 a4 a5 a6 a7,ns=[a0,a1,a2,a3,a4,a5,a6,a7]:=by
 match ns,h with
 | [a0,a1,a2,a3,a4,a5,a6,a7],_=>exact⟨_,_,_,_,_,_,_,_,rfl⟩
section
variable {a0 a1 a2 a3 a4 a5 a6 a7:Str}{r:Nat}
theorem Va (h:(r:Int) < 3):∃ ps:List Str,uy ([a0,a1,a2,a3,a4,a5,a6,a7].map T.str) none (some (r:Int))=ps.map T.str/\ps.length<=2/\∀ x∈ps,x∈[a0,a1]:=by
 match r,h with
 | 0,_=>exact⟨[],rfl,by decide,fun x h=>by cases h⟩
 | 1,_=>exact⟨[a0],rfl,by simp,fun x h=>by simp at h;simp[h]⟩
 | 2,_=>exact⟨[a0,a1],rfl,by simp,fun x h=>h⟩
 | n+3,h=>omega
theorem U9 (h:(r:Int) < 3):∃ ps:List Str,uy ([a0,a1,a2,a3,a4,a5,a6,a7].map T.str) (some 6) (some (6+(r:Int)))=ps.map T.str/\ps.length<=2/\∀ x∈ps,x∈[a6,a7]:=by
 match r,h with
 | 0,_=>exact⟨[],rfl,by decide,fun x h=>by cases h⟩
 | 1,_=>exact⟨[a6],rfl,by simp,fun x h=>by simp at h;simp[h]⟩
 | 2,_=>exact⟨[a6,a7],rfl,by simp,fun x h=>h⟩
 | n+3,h=>omega
theorem Vc (h:(r:Int) < 3):∃ ps:List Str,uy ([a0,a1,a2,a3,a4,a5,a6,a7].map T.str) (some 3) (some (3+(r:Int)))=ps.map T.str/\ps.length<=2/\∀ x∈ps,x∈[a3,a4]:=by
 match r,h with
 | 0,_=>exact⟨[],rfl,by decide,fun x h=>by cases h⟩
 | 1,_=>exact⟨[a3],rfl,by simp,fun x h=>by simp at h;simp[h]⟩
 | 2,_=>exact⟨[a3,a4],rfl,by simp,fun x h=>h⟩
 | n+3,h=>omega
theorem Vb:uy ([a0,a1,a2,a3,a4,a5,a6,a7].map T.str) none (some 6)=[a0,a1,a2,a3,a4,a5].map T.str:=rfl
theorem GB:uy ([a0,a1,a2,a3,a4,a5,a6,a7].map T.str) (some 6) (some 8)=[a6,a7].map T.str:=rfl
theorem Vd:uy ([a0,a1,a2,a3,a4,a5,a6,a7].map T.str) (some 2) (some 6)=[a2,a3,a4,a5].map T.str:=rfl
end
theorem Cq:∀ l:List Str,zB (l.map T.str)=some (l.map V.str)
 | []=>rfl
 | a::r=>by
  show(match Z8 (T.str a),zB (r.map T.str) with | some v,some vs=>some (v::vs) | _,_=>none)=_
  rw[Cq r]
  rfl
noncomputable def AY:aX->List Str
 | .lt _ x _=>[x] | .dv _ x _ _ _=>[x] | .ft _ x _ _=>[x] | .mq _ r _=>[hsh r] | _=>[]
noncomputable def qk:aX->List Str
 | .lt _ _ s=>s.bJ | .dv _ _ _ s b=>s.bJ++b.bJ | .ft _ _ r p=>p.bJ++[hsh r] | .pt _ r p s=>p.bJ++s.bJ++[hsh r] | .mq _ _ z=>z.bJ | .cm _ c=>(c.sums.map Sm.bJ).flatten
noncomputable def yZ (l:List aX):List Str:=uU (l.map AY).flatten
noncomputable def tR (l:List aX):List Str:=yZ l++(l.map qk).flatten
noncomputable def uw (x wd:Str)(s b:Sm):List iA :=
 if b.1≠[]∨b.2=0 then [.any x] else [.lt "^" s,.any "^^",.hd (quot b.2),.lt x (if wd="div" then on "^^" else (on "^").less ((on "^^").times b.2))]
theorem IS {x:Str}(h:qo x):aW x=[.any x]:=by
 obtain⟨⟨c,r,e,hc⟩,_⟩:=h
 unfold aW
 rw[if_neg]
 rw[lZ e,decide_eq_false (by omega)]
 decide
theorem Vq:aW "^^"=[.any "^^"]:=by
 unfold aW
 rw[if_neg]
 have e:("^^":Str).cps.toList=[94,94]:=by decide +kernel
 rw[lZ e]
 decide
theorem JK {x wd:Str}{s b:Sm}{p:List iA}(h:qo x):JL x wd s b p=p++uw x wd s b:=by
 unfold JL uw
 rw[IS h,Vq]
 split
 ·rfl
 ·simp
theorem Ro {N:List Str}{l:List aX}(h:∀ s∈l,j7 N s):∀ x∈(l.map AY).flatten,x∈N:=fun x hx=>by
 obtain⟨m,hm,hx⟩:=List.mem_flatten.mp hx
 obtain⟨s,hs,rfl⟩:=List.mem_map.mp hm
 have us:=(h s hs).us
 cases s <;> simp[AY] at hx <;> subst hx <;> exact us _ (by simp[aX.us])
theorem wO (s:aX)(x:Str):x∈s.us↔x∈AY s∨x∈qk s:=by
 cases s <;> simp[aX.us,AY,qk,bC.bJ,dS,or_assoc,or_comm,or_left_comm]
theorem wM:∀ l:List aX,(l.map AY).flatten.length<=l.length
 | []=>Nat.le_refl _
 | s::r=>by
  have:=wM r
  have:(AY s).length<=1:=by cases s <;> simp[AY]
  rw[List.map_cons,List.flatten_cons,List.length_append,List.length_cons]
  omega
theorem jQ:∀ {l:List Sm} {n:Nat},(∀ s∈l,s.1.length<=n)->(l.map Sm.bJ).flatten.length<=n*l.length
 | [],_,_=>Nat.zero_le _
 | a::r,n,h=>by
  have h1:=jQ (l:=r) (n:=n) fun s hs=>h s (List.mem_cons_of_mem _ hs)
  have h2:=h a List.mem_cons_self
  have h3:a.bJ.length=a.1.length:=by unfold Sm.bJ;rw[List.length_map]
  rw[List.map_cons,List.flatten_cons,List.length_append,List.length_cons,Nat.mul_succ]
  omega
theorem qL {N:List Str}{s:aX}(h:j7 N s):(qk s).length<=56:=by
 have hf:=h.ok.few
 cases s with
 | lt a x s=>have:s.1.length<=4:=hf.1;simp[qk,Sm.bJ];omega
 | dv a x wd s b=>have:s.1.length<=4:=hf.1;have:b.1.length<=4:=hf.2;simp[qk,Sm.bJ];omega
 | ft a x r p=>have:p.1.length<=4:=hf.1;simp[qk,Sm.bJ];omega
 | pt a r p s=>have:p.1.length<=4:=hf.1;have:s.1.length<=4:=hf.2.1;simp[qk,Sm.bJ];omega
 | mq a r z=>have:z.1.length<=4:=hf.1;simp[qk,Sm.bJ];omega
 | cm a c =>
  have h1:=jQ (n:=4) hf.2
  have h2:=je c
  have h3:=hf.1
  show(c.sums.map Sm.bJ).flatten.length<=56
  omega
noncomputable def jO (a b:Sm)(t:Int):Sm:=sumOf (a.1++b.1.map fun p=>(p.1,t*p.2)) (a.2+t*b.2)
structure J5 (d:zU):Prop where
 c:d.cond.dep < 2/\d.cond.sz<=7
 a:∀ r∈d.ahead,∀ c,r=.hd c->c.dep < 2/\c.sz<=7
 al:d.ahead.length<=900
section
variable (K:PySem.W.Frag)(A:Ad)
noncomputable def Hy:cu:=fun ds S k=>∃ (a b:Sm) (t:Int),ds=[.t (tV a),.t (tV b),.int t]/\a.1.length<=1/\b.1.length<=1/\(-(2 ^ 63) < t/\t < 2 ^ 63)/\k (.t (tV (jO a b t))) S
noncomputable def K1:cu:=fun ds S k=>∃ x:Str,ds=[.str x]/\k (.t (tV (on x))) S
noncomputable def K4:cu:=fun ds S k=>∃ a b:Sm,ds=[.t (tV a),.t (tV b)]/\k (.t (nK (yY a b))) S
noncomputable def Qj:cu:=fun ds S k=>∃ (l:List aX) (N:List Str),ds=[.tup (l.map E9)]/\(∀ s∈l,j7 N s)/\N.length<=8/\l.length<=12/\k (.t (Ar (yZ l))) S
noncomputable def Dw (n:Nat):cu:=fun ds S k=>∃ c:bC,ds=[.t (nK c)]/\c.dep < n/\c.few/\k (.t (Ar (c.sums.map Sm.bJ).flatten)) S
noncomputable def KY:cu:=fun ds S k=>∃ l:List Sm,ds=[.lst (l.map tV)]/\l.length<=2/\(∀ s∈l,s.few)/\k (.t (Ar (l.map Sm.bJ).flatten)) S
noncomputable def Dz:cu:=fun ds S k=>∃ (l:List aX) (N:List Str),ds=[.tup (l.map E9)]/\(∀ s∈l,j7 N s)/\N.length<=8/\l.length<=12/\k (.t (Ar (tR l))) S
noncomputable def K0:cu:=fun ds S k=>∃ (f:Nat) (c7:List zU) (p:List iA) (kn:Str) (a:Int) (c:bC),ds=[.ob f,.tup (p.map qu),.str kn,.int a,.t (nK c)]/\S[f]?=some (.lst (c7.map Iw))/\c7.length<=900/\p.length<=900 /\
 k (.tup ((p++[iA.hd c]).map qu)) (S.set f (.lst ((c7++[xJ kn a p c]).map Iw)))
noncomputable def HA:cu:=fun ds S k=>∃ l:List Str,ds=[.tup (l.map T.str)]/\l.length<=8/\(∀ x∈l,x.length<=100/\∃ c r,x.cps.toList=c::r)/\k (.tup (((l.map aW).flatten).map qu)) S
noncomputable def K3:cu:=fun ds S k=>∃ (a:Int) (x wd:Str) (s b:Sm),ds=[.t (E9 (.dv a x wd s b))]/\(wd="div"∨wd="mod")/\(-(2 ^ 63) < b.2/\b.2 < 2 ^ 63)/\k (.tup ((uw x wd s b).map qu)) S
noncomputable def Ag:cu:=fun ds S k=>∃ (f:Nat) (x:D) (c7:List zU) (p:List iA) (s:aX) (N:List Str),ds=[.ob f,x,.t (E9 s),.tup (p.map qu)]/\S[f]?=some (.lst (c7.map Iw))/\c7.length<=800/\p.length<=800/\j7 N s /\
 k (.lst [.tup ((p8 p s).2.map qu)]) (S.set f (.lst ((c7++(p8 p s).1).map Iw)))
noncomputable def Qk:cu:=fun ds S k=>∃ (f:Nat) (x:D) (c7:List zU) (p:List iA) (l:List aX) (N:List Str),ds=[.ob f,x,.tup (l.map E9),.tup (p.map qu)]/\S[f]?=some (.lst (c7.map Iw))/\c7.length+l.length<=700/\p.length+8*l.length<=700/\(∀ s∈l,j7 N s) /\
 k (.lst [.tup ((b7 p l).2.map qu)]) (S.set f (.lst ((c7++(b7 p l).1).map Iw)))
noncomputable def K2:cu:=fun ds S k=>∃ (x:D) (h:qp) (N:List Str),ds=[x,.t (Q3 h)]/\iU h N/\k (.lst ((gx h).map Iw)) S
noncomputable def KZ:cu:=fun ds S k=>∃ r:iA,ds=[.t (qt A r)]/\(∀ c,r=.hd c->c.dep < 2/\c.sz<=7)/\k (.t (qu r)) S
noncomputable def DA:cu:=fun ds S k=>∃ (f:Nat) (c7:List zU),ds=[.ob f]/\S[f]?=some (.lst (c7.map (JN A)))/\c7.length<=900/\(∀ d∈c7,J5 d)/\k (.lst (c7.map Iw)) S
noncomputable def DC:cu:=fun ds S k=>∃ (h:qp) (N:List Str),ds=[.t (OB A [h]),.str h.name]/\iU h N/\k (.lst ((gx h).map Iw)) S
noncomputable def KW:cu:=fun ds S k=>∃ l:List Int,ds=[.t (.HF (l.map T.int))]/\S=[]/\∀ S',k (.bl true) S'
end
theorem wC (a b:Sm)(s:Str):nK (.cmp a s b)=.tup [.str "compare",tV a,.str s,tV b]:=by rw[nK]
theorem IG (c:bC):nK (.neg c)=.tup [.str "not",nK c]:=by rw[nK]
theorem m9 (q:Bool)(cs:List bC):nK (.con q cs)=.tup (.str (if q=true then "and" else "or")::cs.map nK):=by rw[nK,sP]
noncomputable def a0Y (K:PySem.W.Frag):R2:=fun x y H Q=>∃ p q xs s0,x=.ref p/\y=.ref q/\qh K H p [.str s0]/\nH K H q xs/\(∀ v∈xs,∃ a zs z,v=.ref a/\qh K H a (.str z::zs)/\z≠s0)/\Q (.bl false) H
section
variable {X:Cx}
theorem Dk {P:V->Prop}:∀ {xs:List V} {us:List Value},Vals xs us->(∀ v∈xs,P v)->∀ u∈us,∃ v,P v/\RelV v u
 | _,_,.nil,_=>fun u hu=>by cases hu
 | y::xs,u::us,.cons r t,f=>fun u' hu=>by
  rcases List.mem_cons.mp hu with rfl | hu
  ·exact⟨y,f y List.mem_cons_self,r⟩
  ·exact Dk t (fun v hv=>f v (List.mem_cons_of_mem _ hv)) u' hu
theorem SK (hu:X.A.units+1 < cLine):nh X (compareOp .In) (a0Y X.K):=by
 intro pins s σ H x y v u Q I rx ry h
 obtain⟨p,q,xs,s0,rfl,rfl,hp,hq,hm,k⟩:=h
 cases rx
 cases ry
 obtain⟨its,r,pl,hz⟩:=I.list hq
 obtain⟨us,r1,p1,_⟩:=I.tuple hp
 have key:∀ w∈its.toArray,SeqAt.EqAt X.A.in1 s w (.ref p) ((fun _=>false) w):=by
  intro w hw
  obtain⟨v,⟨a,zs,z,rfl,ha,hz⟩,rv⟩:=Dk r hm w (by simpa using hw)
  cases rv
  obtain⟨vs,r2,p2,_⟩:=I.tuple ha
  cases r1 with
  | cons ra rt =>
   cases rt
   cases r2 with
   | cons rb rt2 =>
    rename_i u1 u2 us2
    have hab:a≠p:=by
     intro e
     subst e
     have e1:s.heap.IsTuple a [u1].toArray:=p1
     have e2:s.heap.IsTuple a (u2::us2).toArray:=p2
     obtain⟨o,g1,_,n,d1⟩:=e1
     obtain⟨o',g2,_,n',d2⟩:=e2
     rw[g1] at g2
     cases g2
     rw[d1] at d2
     cases d2
     obtain⟨t,e4⟩:=ra
     obtain⟨t',e5⟩:=rb
     rw[e4] at e5
     cases e5
     exact hz rfl
    refine .of_refs hab ?_
    have:=SeqAt.RcAt.tuples (A:=X.A.in1) (e:=fun _=>false) (show s.heap.IsTuple a (u2::us2).toArray from p2) (show s.heap.IsTuple p [u1].toArray from p1) (by show X.A.units+1 < cLine;omega) ?_
    ·have e:((List.range (min (u2::us2).toArray.size [u1].toArray.size)).all fun _=>false)=false:=by simp
     rw[e] at this
     exact this
    ·intro j h1 h2
     have:j=0:=by simp at h2;exact h2
     subst this
     have:=Gz (A:=X.A.in1.in1) (s:=s) rb ra rfl rfl
     have e:Gx (V.str z) (V.str s0)=false:=by show(z == s0)=false;simpa using hz
     rw[e] at this
     exact this
 refine SeqAt.in_listAt (fun _=>false) pl.isList key ⟨.bl false,H,I,?_,k⟩
 have e:its.toArray.any (fun _=>false)=false:=by simp
 rw[e]
 rfl
noncomputable def a1t:Dg:=fun a b S k=>∃ (x:Str) (l:List T),a=.tup [.str x]/\lq S b=some l/\(∀ y∈l,∃ z r,y=.tup (.str z::r)/\z≠x)/\k (.bl false) S
theorem bI.mem {K:PySem.W.Frag}{G:Hp}{P:T->Prop}:∀ {l:List T} {vs:List V},bI K G l vs->(∀ y∈l,P y)->∀ v∈vs,∃ y,P y/\Rp K G y v
 | [],vs,r,_=>fun v hv=>by unfold bI at r;subst r;cases hv
 | y::l,vs,r,f=>fun v hv=>by
  unfold bI at r
  obtain⟨w,ws,rfl,r1,r2⟩:=r
  rcases List.mem_cons.mp hv with rfl | hv
  ·exact⟨y,f y List.mem_cons_self,r1⟩
  ·exact bI.mem r2 (fun z hz=>f z (List.mem_cons_of_mem _ hz)) v hv
theorem W3 (hu:X.A.units+1 < cLine):Fd X (compareOp .In) a1t:=by
 refine jI (SK hu) ?_
 rintro x y H Q ⟨ρ,S,a,b,k,R,ra,rb,⟨z,l,ha,hb,hm,q⟩,hk⟩
 subst ha
 obtain⟨p,vs,e1,e2,e3⟩:=di ra
 obtain⟨p2,vs2,f1,f2,f3⟩:=dz R rb hb
 have e3:vs=[.str z]:=bI.strs (ns:=[z]) e3
 rw[e3] at e2
 refine⟨p,p2,vs2,z,e1,f1,.of e2,.of f2,fun v hv=>?_,fin R hk bQ q⟩
 obtain⟨y,⟨z',r,rfl,hne⟩,ry⟩:=f3.mem hm v hv
 have ry:j8 X.K ρ (res ρ H) (.tup (.str z'::r)) v:=ry
 obtain⟨p3,vs3,g1,g2,g3⟩:=di ry
 unfold bI at g3
 obtain⟨w,ws,rfl,h1,h2⟩:=g3
 unfold Rp at h1
 subst h1
 exact⟨p3,ws,z',g1,.of g2,hne⟩
end
theorem uo {w:Str}{xs:List Str}{b:Bool}(h:decide (w∈xs)=b):xor false (QV (V.str w) (xs.map V.str))=b:=by rw[Cn,h];cases b <;> rfl
theorem Ws {l:List T}(h:l≠[]):HT.eO l.length 0 (some 1)=1:=by
 have:=HT.N6 l.length 0 1
 have e:HT.eO l.length 0 (some 1)=min 1 l.length:=this
 rw[e]
 have:=List.length_pos_iff.mpr h
 omega
theorem MV {l:List T}(h:l≠[]):¬ (HT.eO l.length 0 (some 1)=0/\HT.eO l.length l.length none=l.length):=by rw[Ws h];rintro⟨h,_⟩;cases h
theorem ED {x:T}{l:List T}:uy (x::l) (some 1) none=l:=by
 unfold uy
 rw[Ws (by simp),HT.Lj]
 simp
theorem at0 {α:Type}{x:α}{l:List α}:wF (x::l) 0=some x:=wD (j:=0) rfl
theorem A0 {N:List Str}:∀ {l:List aX},(∀ s∈l,j7 N s)->(l.map qk).flatten.length<=56*l.length
 | [],_=>Nat.zero_le _
 | s::r,h=>by
  have h1:=A0 (l:=r) fun s hs=>h s (List.mem_cons_of_mem _ hs)
  have h2:=qL (h s List.mem_cons_self)
  rw[List.map_cons,List.flatten_cons,List.length_append,List.length_cons,Nat.mul_succ]
  omega
theorem EH {c:Nat}:(⟨#[c]⟩:Str)="#"↔c=35:=by
 have e:("#":Str)=⟨#[35]⟩:=by decide +kernel
 rw[e]
 constructor
 ·intro h;injection h with h;simpa using h
 ·rintro rfl;rfl
theorem OS {α:Type}{f:α->T}{l:List α}(h:l=[]):xor true (decide (l.map f=[]))=false:=by subst h;rfl
theorem LX {α:Type}{f:α->T}{l:List α}(h:l≠[]):xor true (decide (l.map f=[]))=true:=by
 rw[decide_eq_false (fun e=>h (List.map_eq_nil_iff.mp e))];rfl
theorem Em (x:Str){w:Int}(h:w≠0):norm [(x,w)]=[(x,w)]:=by
 have:wt [(x,w)] x=w:=by simp[wt]
 simp[norm,uU,sH,this,h]
theorem Dm (x:Str){i:Int}(h:i≠0):(on x).times i=([(x,i)],0):=by
 unfold Sm.times on sumOf
 simp only[List.map_cons,List.map_nil,Int.one_mul,Int.zero_mul]
 rw[Em x h]
theorem DZ {m:Sm}{i:Int}:m.plus ([],i)=jO m ([],i) 1:=by
 unfold Sm.plus jO
 simp only[List.map_nil,Int.one_mul]
theorem O1 {i:Int}(h:i≠0):(on "^").less ((on "^^").times i)=jO (on "^") ([("^^",i)],0) (-1):=by
 rw[Dm _ h]
 unfold Sm.less Sm.plus Sm.times jO sumOf
 simp only[List.map_cons,List.map_nil]
 rw[Em _ (by omega:i*-1≠0)]
 rw[Int.mul_comm i (-1)]
 simp
theorem Er {x:Str}:(on x).less ([],1)=jO (on x) ([],-1) 1:=by
 unfold Sm.less Sm.plus Sm.times jO sumOf
 rfl
theorem Of (i:Int):(quot i).dep < 2/\(quot i).sz<=7:=by
 unfold quot yY
 split <;> simp[bC.dep,vK,bC.sz,Ab]
theorem pK (r:Str)(z:Sm):(within r z).dep < 2/\(within r z).sz<=7:=by
 unfold within Io yY
 simp[bC.dep,vK,bC.sz,Ab]
theorem uz (a b:Sm)(s:Str):(bC.cmp a s b).dep < 2/\(bC.cmp a s b).sz<=7:=by simp[bC.dep,bC.sz]
noncomputable def Nn (c:bC):Prop:=c.dep < 2/\c.sz<=7
noncomputable def vO (p:List iA):Prop:=∀ r∈p,∀ c,r=iA.hd c->Nn c
theorem dY {p q:List iA}(hp:vO p)(hq:vO q):vO (p++q):=fun r hr=>(List.mem_append.mp hr).elim (hp r) (hq r)
theorem nX {c:bC}(h:Nn c):vO [iA.hd c]:=fun r hr c' e=>by rw[List.mem_singleton.mp hr] at e;cases e;exact h
theorem HJ {x:Str}{s:Sm}:vO [iA.lt x s]:=fun r hr c' e=>by rw[List.mem_singleton.mp hr] at e;cases e
theorem BC (x:Str):vO (aW x):=fun r hr c e=>by
 unfold aW at hr
 split at hr
 ·rcases List.mem_cons.mp hr with rfl | hr
  ·cases e
  ·rw[List.mem_singleton.mp hr] at e;cases e;exact uz ..
 ·rw[List.mem_singleton.mp hr] at e;cases e
theorem UZ {N:List Str}{s:aX}{p:List iA}(ok:j7 N s)(hp:vO p)(hl:p.length<=900):(∀ d∈(p8 p s).1,J5 d)/\vO (p8 p s).2:=by
 have one:∀ {k:Str} {a:Int} {c:bC},Nn c->∀ d∈[xJ k a p c],J5 d:=fun hc d hd=>by
  rw[List.mem_singleton.mp hd];exact⟨hc,hp,hl⟩
 cases s with
 | lt a x s=>exact⟨fun d hd=>(List.not_mem_nil hd).elim,dY hp HJ⟩
 | dv a x wd s b =>
  refine⟨one (uz ..),?_⟩
  simp only[p8,JL]
  split
  ·exact dY (dY hp (nX (uz ..))) (BC x)
  ·exact dY (dY (dY (dY (dY hp (nX (uz ..))) HJ) (BC _)) (nX (Of _))) HJ
 | ft a x r z=>exact⟨one (pK ..),dY (dY hp (nX (pK ..))) (BC x)⟩
 | pt a r z s=>exact⟨one (pK ..),dY hp (nX (pK ..))⟩
 | mq a r z=>exact⟨one (uz ..),dY (dY hp (nX (uz ..))) HJ⟩
 | cm a c=>have:=ok.cd a c rfl;exact⟨one ⟨this.dep,by have:=this.sz;omega⟩,dY hp (nX ⟨this.dep,by have:=this.sz;omega⟩)⟩
theorem Il {N:List Str}:∀ {l:List aX} {p:List iA},(∀ s∈l,j7 N s)->vO p->p.length+8*l.length<=900->(∀ d∈(b7 p l).1,J5 d)/\vO (b7 p l).2
 | [],p,_,hp,_=>⟨fun d hd=>(List.not_mem_nil hd).elim,hp⟩
 | s::r,p,ok,hp,hl=>by
  rw[List.length_cons] at hl
  obtain⟨h1,h2⟩:=UZ (ok s List.mem_cons_self) hp (by omega)
  have h3:=Ew p s
  obtain⟨h4,h5⟩:=Il (l:=r) (fun s hs=>ok s (List.mem_cons_of_mem _ hs)) h2 (by omega)
  unfold b7
  exact⟨fun d hd=>(List.mem_append.mp hd).elim (h1 d) (h4 d),h5⟩
theorem Iq {k:Str}:∀ {l:List (Int×bC)} {p:List iA},(∀ q∈l,Nn q.2)->vO p->p.length+l.length<=900->∀ d∈(bA k p l).1,J5 d
 | [],p,_,_,_=>fun d hd=>(List.not_mem_nil hd).elim
 | q::r,p,ok,hp,hl=>fun d hd=>by
  rw[List.length_cons] at hl
  unfold bA at hd
  rcases List.mem_cons.mp hd with rfl | hd
  ·exact⟨ok q List.mem_cons_self,hp,by show p.length<=900;omega⟩
  ·exact Iq (l:=r) (fun q hq=>ok q (List.mem_cons_of_mem _ hq)) (dY hp (nX (ok q List.mem_cons_self))) (by rw[List.length_append,List.length_singleton];omega) d hd
theorem iU.c7 {h:qp}{N:List Str}(g:iU h N):(gx h).length<=100/\∀ d∈gx h,J5 d:=by
 obtain⟨p1,p2,p3,p4,p5⟩:=g.ok.pl
 have hp0:=ud g.ok
 have t:=g.told
 have r0:vO (dh h):=by
  unfold dh
  refine dY (dY (fun r hr=>?_) fun r hr c e=>?_) fun r hr c e=>?_
  ·obtain⟨l,hl,hr⟩:=List.mem_flatten.mp hr
   obtain⟨x,_,rfl⟩:=List.mem_map.mp hl
   exact BC x r hr
  ·obtain⟨x,_,rfl⟩:=List.mem_map.mp hr
   cases e
  ·obtain⟨q,hq,rfl⟩:=List.mem_map.mp hr
   cases e
   exact t.nd q hq
 obtain⟨h1,h2⟩:=Il g.st r0 (by omega)
 have h3:=jy (dh h) h.steps
 have h4:=jx (dh h) h.steps
 unfold gx
 refine⟨?_,fun d hd=>(List.mem_append.mp hd).elim (h1 d) ?_⟩
 ·rw[List.length_append,qd];omega
 ·exact Iq t.gv h2 (by omega) d
theorem Vm {A B:T}{b:Bool}(h:b=true):wF [A,B] (if b=true then 1 else 0)=some B:=by subst h;rfl
theorem Vn {A B:T}{b:Bool}(h:b=false):wF [A,B] (if b=true then 1 else 0)=some A:=by subst h;rfl
theorem qm.up {M N:List Str}{s:Sm}(h:qm M s)(m:∀ x∈M,x∈N):qm N s:=⟨h.few,fun x hx=>m x (h.mem x hx),h.num⟩
theorem jb.up {M N:List Str}{c:bC}(h:jb M c)(m:∀ x∈M,x∈N):jb N c:=⟨h.dep,h.sz,fun s hs=>(h.mem s hs).up m⟩
theorem ID {N:List Str}{c:bC}(h:jb N c):(c.sums.map Sm.bJ).flatten.length<=16:=by
 have h1:=jQ (n:=2) (l:=c.sums) fun s hs=>(h.mem s hs).few
 have h2:=je c
 have h3:=h.sz
 omega
theorem AF {N:List Str}:∀ {l:List (Int×bC)},(∀ q∈l,jb N q.2)->((l.map fun q=>(q.2.sums.map Sm.bJ).flatten).flatten).length<=16*l.length
 | [],_=>Nat.zero_le _
 | q::r,h=>by
  have h1:=AF (l:=r) fun q hq=>h q (List.mem_cons_of_mem _ hq)
  have h2:=ID (h q List.mem_cons_self)
  rw[List.map_cons,List.flatten_cons,List.length_append,List.length_cons,Nat.mul_succ]
  omega
theorem DE {h:qp}{t:Str}:t∈(h.answers++(h.steps.map aX.us).flatten)↔t∈tR h.steps++h.answers:=by
 have key:t∈(h.steps.map aX.us).flatten↔t∈tR h.steps:=by
  unfold tR yZ
  rw[List.mem_append,dS]
  constructor
  ·intro ht
   obtain⟨l,hl,ht⟩:=List.mem_flatten.mp ht
   obtain⟨s,hs,rfl⟩:=List.mem_map.mp hl
   rcases(wO s t).mp ht with h | h
   ·exact .inl (List.mem_flatten.mpr ⟨_,List.mem_map.mpr ⟨s,hs,rfl⟩,h⟩)
   ·exact .inr (List.mem_flatten.mpr ⟨_,List.mem_map.mpr ⟨s,hs,rfl⟩,h⟩)
  ·rintro(ht | ht)
   ·obtain⟨l,hl,ht⟩:=List.mem_flatten.mp ht
    obtain⟨s,hs,rfl⟩:=List.mem_map.mp hl
    exact List.mem_flatten.mpr ⟨_,List.mem_map.mpr ⟨s,hs,rfl⟩,(wO s t).mpr (.inl ht)⟩
   ·obtain⟨l,hl,ht⟩:=List.mem_flatten.mp ht
    obtain⟨s,hs,rfl⟩:=List.mem_map.mp hl
    exact List.mem_flatten.mpr ⟨_,List.mem_map.mpr ⟨s,hs,rfl⟩,(wO s t).mpr (.inr ht)⟩
 rw[List.mem_append,List.mem_append,key]
 exact or_comm
theorem IC {h:qp}{N:List Str}(g:iU h N){t:Str}(ht:t∈((h.needs++h.gives).map fun q=>(q.2.sums.map Sm.bJ).flatten).flatten):t∈h.params++h.answers:=by
 obtain⟨l,hl,ht⟩:=List.mem_flatten.mp ht
 obtain⟨q,hq,rfl⟩:=List.mem_map.mp hl
 rcases List.mem_append.mp hq with hq | hq
 ·exact List.mem_append_left _ (M3 (g.nd q hq) t ht)
 ·exact M3 (g.gv q hq) t ht
theorem Lc {h:qp}{N:List Str}(g:iU h N):∀ t,t ∉ h.params->(t∈(tR h.steps++h.answers)++((h.needs++h.gives).map fun q=>(q.2.sums.map Sm.bJ).flatten).flatten↔t∈h.answers++(h.steps.map aX.us).flatten):=fun t hn=>by
 rw[List.mem_append,DE]
 constructor
 ·rintro(h | h)
  ·exact h
  ·rcases List.mem_append.mp (IC g h) with q | q
   ·exact absurd q hn
   ·exact List.mem_append_right _ q
 ·exact .inl
theorem Ld {h:qp}{N:List Str}(g:iU h N):∀ t∈(tR h.steps++h.answers)++((h.needs++h.gives).map fun q=>(q.2.sums.map Sm.bJ).flatten).flatten,t∈N++(h.params++h.answers):=fun t ht=>by
 rcases List.mem_append.mp ht with q | q
 ·rcases List.mem_append.mp (DE.mpr q) with q | q
  ·exact List.mem_append_left _ (g.ok.an t q)
  ·obtain⟨l,hl,q⟩:=List.mem_flatten.mp q
   obtain⟨s,hs,rfl⟩:=List.mem_map.mp hl
   exact List.mem_append_left _ (g.ok.us s hs t q)
 ·exact List.mem_append_right _ (IC g q)
theorem N1 {M ds:List Str}(h:∀ x∈M,x∈ds)(l:ds.length<=64):(uU M).length<=64 :=
 Nat.le_trans (Ao ((nR M).imp fun hab=>Qx hab) fun x hx=>h x (dS.mp hx)) l
theorem SD {h:qp}{M:List Str}{β:Type}{G:Str->β}(hm:∀ t,t ∉ h.params->(t∈M↔t∈h.answers++(h.steps.map aX.us).flatten)):(uU M).filterMap (fun t=>if h.params.contains t=true then none else some (G t))=(others h).map G:=by
 have e1:∀ l:List Str,l.filterMap (fun t=>if h.params.contains t=true then none else some (G t))=(l.filter fun t=>!h.params.contains t).map G:=by
  intro l
  induction l with
  | nil=>rfl
  | cons a r ih =>
   by_cases q:h.params.contains a=true
   ·rw[List.filterMap_cons_none (by rw[if_pos q]),List.filter_cons_of_neg (by rw[q];decide),ih]
   ·rw[List.filterMap_cons_some (b:=G a) (by rw[if_neg q]),List.filter_cons_of_pos (by simpa using q),ih];rfl
 rw[e1]
 congr 1
 unfold others
 refine p6 ((nR M).filter _) (nR _) fun t=>?_
 rw[List.mem_filter,dS,dS,List.mem_filter]
 constructor
 ·rintro⟨h1,h2⟩
  exact⟨(hm t (by simpa using h2)).mp h1,h2⟩
 ·rintro⟨h1,h2⟩
  exact⟨(hm t (by simpa using h2)).mpr h1,h2⟩
theorem MD {p:List iA}{s:aX}:∀ d∈(p8 p s).1,d.kind≠"many":=fun d hd=>by
 cases s with
 | lt a x s=>exact(List.not_mem_nil hd).elim
 | dv a x wd s b=>rw[List.mem_singleton.mp hd];show("nought":Str)≠"many";decide +kernel
 | ft a x r z=>rw[List.mem_singleton.mp hd];show("beyond":Str)≠"many";decide +kernel
 | pt a r z s=>rw[List.mem_singleton.mp hd];show("beyond":Str)≠"many";decide +kernel
 | mq a r z=>rw[List.mem_singleton.mp hd];show("short":Str)≠"many";decide +kernel
 | cm a c=>rw[List.mem_singleton.mp hd];show("claim":Str)≠"many";decide +kernel
theorem Ay:∀ {l:List aX} {p:List iA},∀ d∈(b7 p l).1,d.kind≠"many"
 | [],p=>fun d hd=>(List.not_mem_nil hd).elim
 | s::r,p=>fun d hd=>by
  unfold b7 at hd
  exact(List.mem_append.mp hd).elim (MD d) (Ay d)
theorem AE:∀ {l:List (Int×bC)} {p:List iA},∀ d∈(bA "gives" p l).1,d.kind≠"many"
 | [],p=>fun d hd=>(List.not_mem_nil hd).elim
 | q::r,p=>fun d hd=>by
  unfold bA at hd
  rcases List.mem_cons.mp hd with rfl | hd
  ·show("gives":Str)≠"many";decide +kernel
  ·exact AE d hd
theorem MT (h:qp):∀ d∈gx h,d.kind≠"many":=fun d hd=>(List.mem_append.mp hd).elim (Ay d) (AE d)
theorem Rr {S:bB}{n:Nat}{l:List T}(h:S[n]?=some (.lst l)):VR S (.ob n)=some (.type "list"):=by
 unfold VR
 simp only[h]
theorem Ct {n:Nat}:∀ {l:List T},(∀ x∈l,Fl n x)->Nb n l
 | [],_=>by simp[Nb]
 | x::r,h=>by
  unfold Nb
  exact⟨h x List.mem_cons_self,Ct fun y hy=>h y (List.mem_cons_of_mem _ hy)⟩
theorem YZ {n:Nat}{x:V}(h:gD x=true):Fl n (.v x):=by cases n <;> (unfold Fl;exact h)
theorem jR {n:Nat}{l:List T}(h:∀ x∈l,Fl n x):Fl (n+1) (.tup l):=by unfold Fl;exact Ct h
theorem gw {n:Nat}(x:Str):Fl n (.str x):=YZ rfl
theorem Cr {n:Nat}(x:Int):Fl n (.int x):=YZ rfl
theorem Y0 {n:Nat}(p:Str×Int):Fl (n+1) (pT p):=jR fun x hx=>by
 rcases List.mem_cons.mp hx with rfl | hx
 ·exact gw _
 ·rw[List.mem_singleton.mp hx];exact Cr _
theorem Gv {n:Nat}(s:Sm):Fl (n+3) (tV s):=jR fun x hx=>by
 rcases List.mem_cons.mp hx with rfl | hx
 ·exact jR fun y hy=>by obtain⟨p,_,rfl⟩:=List.mem_map.mp hy;exact Y0 p
 ·rw[List.mem_singleton.mp hx];exact Cr _
mutual
theorem Cs:∀ (c:bC) {n:Nat},c.dep+4<=n->Fl n (nK c)
 | .cmp a s b,n,h=>by
  obtain⟨m,rfl⟩:∃ m,n=m+4:=⟨n - 4,by omega⟩
  rw[wC]
  refine jR fun x hx=>?_
  rcases List.mem_cons.mp hx with rfl | hx
  ·exact gw _
  rcases List.mem_cons.mp hx with rfl | hx
  ·exact Gv _
  rcases List.mem_cons.mp hx with rfl | hx
  ·exact gw _
  ·rw[List.mem_singleton.mp hx];exact Gv _
 | .neg c,n,h=>by
  unfold bC.dep at h
  obtain⟨m,rfl⟩:∃ m,n=m+1:=⟨n - 1,by omega⟩
  rw[IG]
  refine jR fun x hx=>?_
  rcases List.mem_cons.mp hx with rfl | hx
  ·exact gw _
  ·rw[List.mem_singleton.mp hx];exact Cs c (by omega)
 | .con q cs,n,h=>by
  unfold bC.dep at h
  obtain⟨m,rfl⟩:∃ m,n=m+1:=⟨n - 1,by omega⟩
  rw[nK]
  refine jR fun x hx=>?_
  rcases List.mem_cons.mp hx with rfl | hx
  ·exact gw _
  ·exact Ip cs (by omega) x hx
theorem Ip:∀ (l:List bC) {n:Nat},vK l+4<=n->∀ x∈GG l,Fl n x
 | [],n,h=>fun x hx=>by rw[GG] at hx;exact(List.not_mem_nil hx).elim
 | c::r,n,h=>fun x hx=>by
  unfold vK at h
  rw[GG] at hx
  rcases List.mem_cons.mp hx with rfl | hx
  ·exact Cs c (by have:=Nat.le_max_left c.dep (vK r);omega)
  ·exact Ip r (by have:=Nat.le_max_right c.dep (vK r);omega) x hx
end
theorem U6 {n:Nat}{r:iA}(h:∀ c,r=.hd c->Nn c):Fl (n+7) (qu r):=by
 cases r with
 | any x =>
  exact jR fun y hy=>by
   rcases List.mem_cons.mp hy with rfl | hy
   ·exact gw _
   ·rw[List.mem_singleton.mp hy];exact gw _
 | lt x s =>
  exact jR fun y hy=>by
   rcases List.mem_cons.mp hy with rfl | hy
   ·exact gw _
   rcases List.mem_cons.mp hy with rfl | hy
   ·exact gw _
   ·rw[List.mem_singleton.mp hy];exact Gv (n:=n+3) _
 | hd c =>
  exact jR fun y hy=>by
   rcases List.mem_cons.mp hy with rfl | hy
   ·exact gw _
   ·rw[List.mem_singleton.mp hy];exact Cs c (by have:=(h c rfl).1;omega)
theorem MU {h:qp}{N:List Str}(g:iU h N):Nb 40 ((gx h).map Iw):=Ct fun x hx=>by
 obtain⟨d,hd,rfl⟩:=List.mem_map.mp hx
 have ok:=g.c7.2 d hd
 refine jR (n:=39) fun y hy=>?_
 rcases List.mem_cons.mp hy with rfl | hy
 ·exact gw _
 rcases List.mem_cons.mp hy with rfl | hy
 ·exact Cr _
 rcases List.mem_cons.mp hy with rfl | hy
 ·exact jR (n:=38) fun z hz=>by
   obtain⟨r,hr,rfl⟩:=List.mem_map.mp hz
   exact U6 (n:=31) (ok.a r hr)
 ·rw[List.mem_singleton.mp hy];exact Cs _ (by have:=ok.c.1;omega)
theorem aR {P:Program}{w:World}{K:PySem.W.Frag}{mg:Str->Option Value}{base:Heap}{x qual:Str}{st:Stmt}{f:Addr}{fd:FuncData}{N ps:List Str}{k:Nat}{sp:cu}(F:bM K x qual st f fd)(S:ao N ps (af st))
  (hb:∀ (cdv:Value) (A:Around) (outer:List Env) (s:Shared) (H:Hp) (E:XK),dg k (A.deeper (PyProof.Rows.envOfC qual (af st) s.heap.objs.size f cdv)) ->
   ∃ t,Kc (EC bO P w K mg base N qual (af st) f cdv A outer s H E).Vx (ak st) t/\∀ ds S kk,Cl S->(∀ d∈ds,VM S.length d)->sp ds S kk->t (endsF S kk) (tQ N ds) S)
  (len:∀ ds S k,sp ds S k->ds.length=ps.length:=by intro ds S k h;repeat (first | (obtain⟨rfl,_⟩:=h;rfl) | obtain⟨_,h⟩:=h)):aE P w K mg base bO (k+1) f fd ps (aQ K sp):=zD F S len hb
end L3
set_option maxHeartbeats 8000000
namespace L3
open PySem L2 Hw PyProof.Rows
noncomputable def top (i:Nat):Stmt:=PySem.Challenge.pw_holdwright_k29_debts_in_a_row.main.body.getD i (.Pass ⟨0,0,0,0⟩)
structure Fx (K:PySem.W.Frag)(mg:Str->Option Value)(A:Ad):Prop where
 nE:mg "len"=none
 bU:mg "tuple"=none
 GN:mg "list"=none
 lV:mg "sorted"=none
 IQ:mg "set"=none
 a5s:mg "sum"=none
 M8:mg "int"=none
 Zj:mg "str"=none
 bw:mg "isinstance"=none
 sU:mg "range"=none
 a5t:mg "any"=none
 a5u:mg "all"=none
 Ex:mg "Sum"=some (.ref A.fq)
 jd:fD K A.fq []
 iD:aK K A.fq "terms"
 gn:aK K A.fq "number"
 lP:mg "Compare"=some (.ref A.bq)
 gI:fD K A.bq []
 fk:aK K A.bq "one"
 ez:aK K A.bq "sign"
 dM:aK K A.bq "other"
 oH:mg "Turned"=some (.ref A.bT)
 ye:fD K A.bT []
 cD:aK K A.bT "condition"
 sL:mg "Every"=some (.ref A.cS)
 kN:fD K A.cS []
 cE:aK K A.cS "conditions"
 yl:mg "Some"=some (.ref A.fu)
 Gj:fD K A.fu []
 cJ:aK K A.fu "conditions"
 Az:mg "Let"=some (.ref A.dc)
 Mj:fD K A.dc []
 oB:aK K A.dc "at"
 jK:aK K A.dc "name"
 iI:aK K A.dc "total"
 lO:mg "Divide"=some (.ref A.aH)
 yg:fD K A.aH []
 iM:aK K A.aH "at"
 fj:aK K A.aH "name"
 fh:aK K A.aH "word"
 ee:aK K A.aH "total"
 iL:aK K A.aH "by"
 p9:mg "Fetch"=some (.ref A.aV)
 Ci:fD K A.aV []
 jL:aK K A.aV "at"
 gp:aK K A.aV "name"
 iK:aK K A.aV "row"
 ff:aK K A.aV "place"
 Ey:mg "Put"=some (.ref A.c9)
 Mi:fD K A.c9 []
 oA:aK K A.c9 "at"
 lI:aK K A.c9 "row"
 iG:aK K A.c9 "place"
 iE:aK K A.c9 "total"
 uq:mg "Make"=some (.ref A.bN)
 Gk:fD K A.bN []
 lJ:aK K A.bN "at"
 jJ:aK K A.bN "row"
 iH:aK K A.bN "size"
 qb:mg "Claim"=some (.ref A.bg)
 sG:fD K A.bg []
 jM:aK K A.bg "at"
 cL:aK K A.bg "condition"
 lQ:mg "Choose"=some (.ref A.dG)
 lM:mg "Repeat"=some (.ref A.dF)
 ym:mg "Call"=some (.ref A.lU)
 oJ:mg "Helper"=some (.ref A.br)
 yf:fD K A.br []
 iJ:aK K A.br "at"
 fc:aK K A.br "name"
 dJ:aK K A.br "params"
 cY:aK K A.br "answers"
 d8:aK K A.br "needs"
 d9:aK K A.br "gives"
 d7:aK K A.br "steps"
 lN:mg "Program"=some (.ref A.bH)
 uh:fD K A.bH []
 cK:aK K A.bH "helpers"
 ur:mg "Debt"=some (.ref A.eF)
 Gm:fD K A.eF []
 iN:aK K A.eF "kind"
 lK:aK K A.eF "at"
 gq:aK K A.eF "ahead"
 cZ:aK K A.eF "condition"
 yo:mg "Book"=some (.ref A.eG)
 Gn:fD K A.eG []
 eB:aK K A.eG "program"
 gu:aK K A.eG "found"
 m7:∃ t,mg "MOST_PATHS"=some (.int 16 t)
 m8:∃ t,mg "MOST_DEBTS"=some (.int 100 t)
 gJ:∃ t,mg "DIVIDED"=some (.str "^" t)
 eE:∃ t,mg "QUOTIENT"=some (.str "^^" t)
 kk:∀ j i,j < 6->i < 9->PySem.W.kitOne K (.ref (bD A j)) (.ref (bD A i))=some (decide (j=i))
 UJ:PySem.W.kitOne K (.type "tuple") (.type "str")=some false
section
variable (P:Program)(w:World)(K:PySem.W.Frag)(mg:Str->Option Value)(base:Heap)(k:Nat)(A:Ad)(n:Nat)(q:Bool)
noncomputable abbrev nq:=ni P w K mg base k A.fq "Sum" ["self","terms","number"] (Fw A)
noncomputable abbrev jZ:=Dn P w K mg base k "sum_of" ["pairs","number"] (aQ K (Hr A))
noncomputable abbrev EU:=Ms P w K mg base k 1 (fun _=>A.fq) "plus" ["self","other"] (fun _=>Fy A)
noncomputable abbrev uJ:=Ms P w K mg base k 1 (fun _=>A.fq) "times" ["self","number"] (fun _=>Bc A)
noncomputable abbrev gK:=Ms P w K mg base k 1 (fun _=>A.fq) "told" ["self"] (fun _=>Ba A)
noncomputable abbrev jY:=Ms P w K mg base k 4 (JT A) "told" ["self"] (fQ A n)
noncomputable abbrev nk:=Ms P w K mg base k 4 (JT A) "all_sums" ["self"] (nU A n)
noncomputable abbrev eV:=Ms P w K mg base k 1 (fun _=>A.fq) "things" ["self"] (fun _=>KN A)
noncomputable abbrev fz:=Dn P w K mg base k "length_of" ["row"] (aQ K Hv)
noncomputable abbrev CQ:=Ms P w K mg base k 4 (JT A) "things" ["self"] (KO A n)
noncomputable abbrev G0:=Ms P w K mg base k 7 (Zg A) "told" ["self"] (j9 A n q)
noncomputable abbrev yO:=Ms P w K mg base k 6 (bD A) "blocks" ["self"] (K9 A)
noncomputable abbrev Nc:=Ms P w K mg base k 6 (bD A) "uses" ["self"] (nT A n)
noncomputable abbrev uL:=Dn P w K mg base k "steps_within" ["steps"] (aQ K (Du A))
noncomputable abbrev uM:=Dn P w K mg base k "rows_of_step" ["step"] (aQ K (Dv A n))
noncomputable abbrev C1:=Dn P w K mg base k "as_pairs" ["pairs"] (aQ K (Ht A))
noncomputable abbrev yP:=Dn P w K mg base k "told_pairs" ["pairs"] (aQ K (Hq A n))
noncomputable abbrev o7:=ni P w K mg base k A.bq "Compare" ["self","one","sign","other"] (tU A.bq ["one","sign","other"])
noncomputable abbrev pe:=Dn P w K mg base k "at_most" ["one","other"] (aQ K (Qm A))
noncomputable abbrev tE:=Dn P w K mg base k "hold" ["condition"] (aQ K (K5 A))
noncomputable abbrev zS:=Dn P w K mg base k "is_length" ["thing"] (aQ K HB)
noncomputable abbrev iX:=Dn P w K mg base k "from_nought" ["total"] (aQ K (Ql A))
noncomputable abbrev s9:=Dn P w K mg base k "once" ["thing"] (aQ K (KU A))
noncomputable abbrev CY:=Dn P w K mg base k "holds_of" ["writings"] (aQ K (HC A))
noncomputable abbrev uN:=Dn P w K mg base k "other_things" ["helper"] (aQ K (Hu A n))
noncomputable abbrev CU:=Dn P w K mg base k "let" ["thing","total"] (aQ K (Qi A))
noncomputable abbrev iV:=Dn P w K mg base k "rows_of_any" ["thing"] (aQ K (Ae A))
noncomputable abbrev Ng:=ni P w K mg base k A.eF "Debt" ["self","kind","at","ahead","condition"] (tU A.eF ["kind","at","ahead","condition"])
noncomputable abbrev CT:=Ms P w K mg base k 1 (fun _=>A.eG) "owe" ["self","path","kind","at","condition"] (KR A)
noncomputable abbrev uK:=ni P w K mg base k A.cS "Every" ["self","conditions"] (wQ A.cS)
noncomputable abbrev EV:=Ms P w K mg base k 1 (fun _=>A.fq) "less" ["self","other"] (fun _=>FA A)
noncomputable abbrev vU:=Dn P w K mg base k "is_quotient" ["by"] (aQ K (KP A))
noncomputable abbrev zR:=Dn P w K mg base k "is_within" ["step"] (aQ K (Wn A))
noncomputable abbrev C0:=Dn P w K mg base k "go_plain" ["book","path","step"] (aQ K (I8 A n (fun s=>kd s≠1) (fun p=>.tup (p.map (qt A)))))
noncomputable abbrev zT:=Dn P w K mg base k "go_divide" ["book","path","step"] (aQ K (I8 A n (fun s=>kd s=1) (fun p=>.tup (p.map (qt A)))))
noncomputable abbrev EY:=Dn P w K mg base k "go_step" ["book","path","step"] (aQ K (I8 A n (fun _=>True) (fun p=>.lst [.tup (p.map (qt A))])))
noncomputable abbrev CZ:=Dn P w K mg base k "go_steps" ["book","path","steps"] (aQ K (K7 A n))
noncomputable abbrev s8:=Dn P w K mg base k "path_at_first" ["helper"] (aQ K (Hs A n))
noncomputable abbrev CS:=Ms P w K mg base k 1 (fun _=>A.eG) "owe_each" ["self","path","kind","writings"] (Fz A)
noncomputable abbrev Nh:=ni P w K mg base k A.eG "Book" ["self","program"] (La A)
noncomputable abbrev vV:=Dn P w K mg base k "count_paths" ["steps"] (aQ K (HD A))
noncomputable abbrev J3:=Ms P w K mg base k 1 (fun _=>A.bH) "named" ["self","name"] (fun _=>Bd A)
noncomputable abbrev qI:=Dn P w K mg base k "_law_mixed" ["_law_cell","_law_k"] (aQ K Qh)
noncomputable abbrev dH:=Dn P w K mg base k "_law_next" ["_law_draw","_law_size"] (aQ K Wo)
noncomputable abbrev Nd:=ni P w K mg base k A.fu "Some" ["self","conditions"] (wQ A.fu)
noncomputable abbrev G1:=ni P w K mg base k A.bT "Turned" ["self","condition"] (tU A.bT ["condition"])
noncomputable abbrev o8:=Dn P w K mg base k "_law_sum" ["_law_draw","_law_things"] (aQ K (Be A))
noncomputable abbrev PU:=ni P w K mg base k A.dc "Let" ["self","at","name","total"] (tU A.dc ["at","name","total"])
noncomputable abbrev AS:=ni P w K mg base k A.bg "Claim" ["self","at","condition"] (tU A.bg ["at","condition"])
noncomputable abbrev gB:=Dn P w K mg base k "_law_condition" ["_law_draw","_law_things","_law_deep"] (aQ K (Bf A 1))
noncomputable abbrev Nf:=ni P w K mg base k A.bN "Make" ["self","at","row","size"] (tU A.bN ["at","row","size"])
noncomputable abbrev zN:=Dn P w K mg base k "_law_place" ["_law_draw","_law_things"] (aQ K (Be A))
noncomputable abbrev PR:=ni P w K mg base k A.c9 "Put" ["self","at","row","place","total"] (tU A.c9 ["at","row","place","total"])
noncomputable abbrev J4:=ni P w K mg base k A.aV "Fetch" ["self","at","name","row","place"] (tU A.aV ["at","name","row","place"])
noncomputable abbrev G3:=ni P w K mg base k A.aH "Divide" ["self","at","name","word","total","by"] (tU A.aH ["at","name","word","total","by"])
noncomputable abbrev CV:=Dn P w K mg base k "_law_line" ["_law_draw","_law_own"] (aQ K (Hz A))
noncomputable abbrev G2:=ni P w K mg base k A.br "Helper" ["self","at","name","params","answers","needs","gives","steps"] (K6 A)
noncomputable abbrev zL:=Dn P w K mg base k "_law_steps" ["_law_draw","_law_own","_law_many","_law_deep","_law_helpers"] (aQ K (Dy A))
noncomputable abbrev zO:=Dn P w K mg base k "_law_pairs" ["_law_draw","_law_things","_law_many"] (aQ K (DB A))
noncomputable abbrev kR:=Dn P w K mg base k "_law_things_of" ["_law_told"] (aQ K (Dw 2))
noncomputable abbrev rC:=Dn P w K mg base k "_law_sum_things" ["_law_sums"] (aQ K KY)
noncomputable abbrev vQ:=Dn P w K mg base k "_law_written" ["_law_steps_here"] (aQ K Qj)
noncomputable abbrev iW:=Dn P w K mg base k "_law_at_most" ["_law_one_here","_law_other"] (aQ K K4)
noncomputable abbrev o9:=Dn P w K mg base k "_law_one" ["_law_thing"] (aQ K K1)
noncomputable abbrev tD:=Dn P w K mg base k "_law_plus" ["_law_one_here","_law_other","_law_times"] (aQ K Hy)
noncomputable abbrev vm:=Dn P w K mg base k "_law_owe" ["_law_found","_law_path","_law_kind","_law_at","_law_told"] (aQ K K0)
noncomputable abbrev vR:=Dn P w K mg base k "_law_divided" ["_law_step"] (aQ K K3)
noncomputable abbrev yR:=Dn P w K mg base k "_law_behind" ["_law_found","_law_helpers","_law_step","_law_path"] (aQ K Ag)
noncomputable abbrev tu:=Dn P w K mg base k "_law_row_shown" ["_law_row"] (aQ K (KZ A))
noncomputable abbrev qH:=Dn P w K mg base k "_law_shown" ["_law_found"] (aQ K (DA A))
noncomputable abbrev G4:=Dn P w K mg base k "_law_go" ["_law_found","_law_helpers","_law_steps_here","_law_path"] (aQ K Qk)
noncomputable abbrev CW:=Dn P w K mg base k "_law_anys" ["_law_things"] (aQ K HA)
noncomputable abbrev zM:=Dn P w K mg base k "_law_stand" ["_law_steps_here"] (aQ K Dz)
noncomputable abbrev zQ:=Dn P w K mg base k "_law_asked" ["_law_program","_law_name"] (aQ K (DC A))
noncomputable abbrev EX:=Dn P w K mg base k "_law_due" ["_law_helpers","_law_helper_here"] (aQ K K2)
noncomputable abbrev EW:=ni P w K mg base k A.bH "Program" ["self","helpers"] (KQ A)
noncomputable abbrev yQ:=Dn P w K mg base k "_law_helper" ["_law_draw","_law_name","_law_many","_law_deep","_law_helpers","_law_names_here"] (aQ K (Af A))
noncomputable abbrev zP:=Dn P w K mg base k "_law_names" ["_law_draw","_law_many"] (aQ K Qg)
noncomputable abbrev vS:=Dn P w K mg base k "_law_cell_at" ["_law_script","_law_k"] (aQ K K8)
end
end L3
namespace L3
open PySem L2 Hw PyProof.Rows
section
variable {P:Program}{w:World}{K:PySem.W.Frag}{mg:Str->Option Value}{base:Heap}{k:Nat}{f:Addr}{fd:FuncData}{A:Ad}{n:Nat}
seal L2.PE L2.PS L2.Dh L2.PA L2.PT QE QT QA QS Kc QW
noncomputable abbrev Bx:Stmt:=top 6
theorem N4:ao ["thing"] ["thing"] (af Bx):=ck
theorem OO (F:bM K "once" "once" Bx f fd)(J:Fx K mg A)(jd:nq P w K mg base k A):aE P w K mg base bO (k+1) f fd ["thing"] (aQ K (KU A)):=by
 refine aR F N4 fun cdv B outer s H E hr=>?_
 rw[show ak Bx=[_] from rfl]
 refine⟨_,(aS (aq (gG jd hr rfl (qa (ay (qa (ay (qa (ah 0) (qa aj aa))) aa)) (qa aj aa))))),fun ds S kk hc hd h=>?_⟩
 obtain⟨x,rfl,h⟩:=h
 refine⟨_,rfl,_,rfl,sz 2,_,rfl,sz 1,_,_,[(x,1)],0,rfl,av,rfl,by simp,made (aP hc h)⟩
noncomputable abbrev mQ:Stmt:=inClass (top 5) 0
theorem DM:ao ["self","terms","number"] ["self","terms","number"] (af mQ):=ck
theorem Eh (F:bM K "__init__" "Sum.__init__" mQ f fd)(J:Fx K mg A) :aE P w K mg base bO (k+1) f fd ["self","terms","number"] (aQ K (Fw A)):=by
 refine aR F DM fun cdv B outer s H E hr=>?_
 rw[show ak mQ=[_,_] from rfl]
 refine⟨_,(qs (bu (ah 0) (bh bX (by rfl) J.bU boot_tuple (qa (cV (aY ["pair"] [] [] rfl (by decide +kernel) (by decide +kernel) (by with_unfolding_all rfl) (by exact trivial) (by rfl) rfl (by rfl)) rfl (qi (ah 1)) (fun _ _ _ _=>(qx (i:=0) (show List.Nodup (["pair"]:List Str) by decide +kernel))) (fun _ _ _ _=>b9) (fun _ _ _ _=>(bh bX (by rfl) J.bU boot_tuple (qa (ah 0) aa)))) aa)) rfl) (aS (bu (ah 0) (ah 2) rfl))),fun ds S kk hc hd h=>?_⟩
 obtain⟨i,d,l,m,rfl,h1,h2,h3,h4⟩:=h
 refine⟨_,rfl,QN h2 fun G hG=>gy pT pT (by simpa using hG []) (cU (by omega)) (fun x _ k' hk=>⟨_,rfl,_,rfl,_,rfl,hk⟩) ?_⟩
 refine⟨_,rfl,_,rfl,i,A.fq,[],[],rfl,h1,J.iD,by decide,_,rfl,_,rfl,i,_,_,_,rfl,List.getElem?_set_self (List.getElem?_eq_some_iff.mp h1).1,J.gn,by decide,?_⟩
 rw[List.set_set]
 exact .inr (.inr (.inr h4))
noncomputable abbrev rW:Stmt:=top 7
theorem pO:ao ["pairs","number","weights","thing","weight"] ["pairs","number"] (af rW):=ck
theorem Jk (F:bM K "sum_of" "sum_of" rW f fd)(J:Fx K mg A)(jd:nq P w K mg base k A):aE P w K mg base bO (k+1) f fd ["pairs","number"] (aQ K (Hr A)):=by
 refine aR F pO fun cdv B outer s H E hr=>?_
 rw[show ak rW=[_,_,_] from rfl]
 refine⟨_,(qs (au (i:=2) pO.nd Lp) (qs (bK PassesOwn.never rfl (qi (ah 0)) (mZ (n:=2) rfl (Ak (qg (i:=3) pO.nd) (Ak (qg (i:=4) pO.nd) ju))) (aS (BD (qE hr) (ah 2) (ah 3) (aM aF (HM (qE hr) (ah 2) (ah 3) aj) (ah 4))))) (aS (aq (gG jd hr rfl (qa (cV (aY ["thing"] ["weights"] [2] rfl (by decide +kernel) (by decide +kernel) (by with_unfolding_all rfl) (by exact⟨rfl,trivial⟩) (by rfl) rfl (by rfl)) rfl (qi (bz (IK rfl) (by rfl) J.lV boot_sorted (qa (ah 2) aa))) (fun _ _ _ _=>(qx (i:=0) (show List.Nodup (["thing","weights"]:List Str) by decide +kernel))) (fun _ _ _ _=>(wm (aL (Jr 40 (uE hr)) (BE (qE hr) (ah 1) (ah 0)) aj (aN _)))) (fun _ _ _ _=>(ay (qa (ah 0) (qa (BE (qE hr) (ah 1) (ah 0)) aa))))) (qa (ah 1) aa))))))),fun ds S kk hc hd h=>?_⟩
 obtain⟨d,l,m,rfl,h2,h3,h4⟩:=h
 refine⟨_,rfl,Ib h2 fun G hG=>eW pT (fun pre δ S'=>∃ x y dd,δ=[some d,some (.int m),some (.ob S.length),x,y]/\S'=S++[O.yX dd]/\EZ pre dd) ⟨_,_,_,rfl,rfl,.nil⟩ ?_ ?_⟩
 ·rintro pre ⟨x,v⟩ post δ S' N rfl ⟨x0,y0,dd,rfl,rfl,hz⟩ hN
  refine⟨hG _,_,rfl,rfl,_,_,rfl,_,_,rfl,rfl,?_⟩
  have hl:dd.length < sizeLine:=Fq (by have:=hz.len;simp at h3;omega)
  refine⟨_,rfl,_,_,rfl,av,_,rfl,_,_,av,rfl,_,rfl,?_⟩
  rw[hz.val x]
  by_cases hx:x∈pre.map (·.1)
  ·rw[if_pos hx]
   refine⟨_,rfl,_,rfl,_,_,_,_,rfl,av,rfl,rfl,hl,?_⟩
   rw[fS]
   exact hN _ _ ⟨_,_,_,rfl,rfl,hz.snoc x v rfl⟩
  ·rw[if_neg hx]
   refine⟨_,rfl,_,rfl,_,_,_,_,rfl,av,rfl,rfl,hl,?_⟩
   rw[fS]
   exact hN _ _ ⟨_,_,_,rfl,rfl,hz.snoc x v (by rw[Ko hx])⟩
 ·rintro δ S' ⟨x0,y0,dd,rfl,rfl,hz⟩
  refine⟨hG _,?_⟩
  obtain⟨ss,k1,k2,k3⟩:=hz.keys
  refine⟨_,rfl,_,_,av,k1,k2,by have:=hz.len;omega,?_⟩
  rw[KL k3]
  have hsl:=mh (l.map (·.1))
  rw[List.length_map] at hsl
  refine jP (yt T.str (fun x=>if wt l x≠0 then some (pT (x,wt l x)) else none) trivial (cU (by omega)) ?_ ?_)
  ·intro x hx k' hk
   have hv:nG dd (Sum.inr x)=some (.int (wt l x)):=by rw[hz.val x,if_pos (dS.mp hx)]
   refine⟨_,rfl,_,rfl,_,_,_,_,rfl,av,rfl,hv,rfl,_,rfl,?_⟩
   rw[qS,Bool.true_xor]
   by_cases hw:wt l x=0
   ·rw[decide_eq_true hw]
    rw[if_neg (by simpa using hw)] at hk
    exact hk
   ·rw[decide_eq_false hw]
    rw[if_pos hw] at hk
    exact⟨_,rfl,_,rfl,_,rfl,_,_,_,_,rfl,av,rfl,hv,_,rfl,sz 2,_,rfl,hk⟩
  ·rw[HY]
   have hnl:=oz l
   exact⟨_,rfl,_,_,norm l,m,rfl,av,rfl,by omega,made (JS hc h4)⟩
noncomputable abbrev mO:Stmt:=inClass (top 5) 2
theorem DK:ao ["self","other"] ["self","other"] (af mO):=ck
theorem Ef (F:bM K "plus" "Sum.plus" mO f fd)(J:Fx K mg A)(gz:jZ P w K mg base k A):aE P w K mg base bO (k+1) f fd ["self","other"] (aQ K (Fy A)):=by
 refine aR F DK fun cdv B outer s H E hr=>?_
 rw[show ak mO=[_] from rfl]
 refine⟨_,(aS (aq (ai gz hr rfl (qa (aM aF (az (ah 0) rfl) (az (ah 1) rfl)) (qa (aM aF (az (ah 0) rfl) (az (ah 1) rfl)) aa))))),fun ds S kk hc hd h=>?_⟩
 obtain⟨a,b,rfl,h1,h2⟩:=h
 refine⟨_,rfl,_,_,_,_,rfl,rfl,_,rfl,_,_,_,_,rfl,rfl,?_⟩
 refine⟨cU (by simp;omega),_,rfl,_,_,_,_,rfl,rfl,_,rfl,_,_,_,_,rfl,rfl,_,a.1++b.1,_,rfl,?_,by simp;omega,aP hc h2⟩
 show some _=some _
 rw[List.map_append]
noncomputable abbrev kE:Stmt:=inClass (top 5) 4
theorem Bp:ao ["self","number"] ["self","number"] (af kE):=ck
theorem BS (F:bM K "times" "Sum.times" kE f fd)(J:Fx K mg A)(gz:jZ P w K mg base k A):aE P w K mg base bO (k+1) f fd ["self","number"] (aQ K (Bc A)):=by
 refine aR F Bp fun cdv B outer s H E hr=>?_
 rw[show ak kE=[_] from rfl]
 refine⟨_,(aS (aq (ai gz hr rfl (qa (cV (aY ["thing","weight"] ["number"] [1] rfl (by decide +kernel) (by decide +kernel) (by with_unfolding_all rfl) (by exact⟨rfl,trivial⟩) (by rfl) rfl (by rfl)) rfl (qi (az (ah 0) rfl)) (fun _ _ _ _=>(qN (n:=2) rfl (HK (qx (i:=0) (show List.Nodup (["thing","weight","number"]:List Str) by decide +kernel)) (HK (qx (i:=1) (show List.Nodup (["thing","weight","number"]:List Str) by decide +kernel)) mY)))) (fun _ _ _ _=>b9) (fun _ _ _ _=>(ay (qa (ah 0) (qa (aM ou (ah 1) (ah 2)) aa))))) (qa (aM ou (az (ah 0) rfl) (ah 1)) aa))))),fun ds S kk hc hd h=>?_⟩
 obtain⟨a,m,rfl,h1,h2,h3⟩:=h
 refine⟨_,rfl,_,_,_,_,rfl,rfl,cO (gy pT (fun p=>pT (p.1,p.2*m)) trivial (cU (by omega)) (fun x _ k' hk=>?_) ?_)⟩
 ·exact⟨_,rfl,rfl,_,_,rfl,_,_,rfl,rfl,_,rfl,_,rfl,_,rfl,.inr h2,_,rfl,sz 2,_,rfl,hk⟩
 ·refine⟨_,rfl,_,_,_,_,rfl,rfl,_,rfl,.inr h2,_,(a.1.map fun(p:Str×Int)=>(p.1,p.2*m)),_,rfl,?_,by simpa using h1,aP hc h3⟩
  show some _=some _
  rw[List.map_map]
  rfl
noncomputable abbrev mP:Stmt:=inClass (top 5) 3
theorem DL:ao ["self","other"] ["self","other"] (af mP):=ck
theorem Eg (F:bM K "less" "Sum.less" mP f fd)(J:Fx K mg A)(Ca:EU P w K mg base k A)(sE:uJ P w K mg base k A):aE P w K mg base bO (k+1) f fd ["self","other"] (aQ K (FA A)):=by
 refine aR F DL fun cdv B outer s H E hr=>?_
 rw[show ak mP=[_] from rfl]
 refine⟨_,(aS (aq (fL (ah 0) Ca hr (qa (fL (ah 1) sE hr (qa (Al aj) aa)) aa)))),fun ds S kk hc hd h=>?_⟩
 obtain⟨a,b,rfl,h1,h2⟩:=h
 have hl:=oz (b.1.map fun p=>(p.1,p.2*(-1)))
 rw[List.length_map] at hl
 refine⟨_,rfl,0,_,_,by decide,rfl,by decide +kernel,_,rfl,0,_,_,by decide,rfl,by decide +kernel,b,-1,rfl,by omega,⟨by decide,by decide⟩,a,b.times (-1),rfl,?_,aP hc h2⟩
 show a.1.length+(norm _).length < 64
 omega
noncomputable abbrev jj:Stmt:=inClass (top 5) 6
theorem zf:ao ["self"] ["self"] (af jj):=ck
theorem zu (F:bM K "things" "Sum.things" jj f fd)(J:Fx K mg A) :aE P w K mg base bO (k+1) f fd ["self"] (aQ K (KN A)):=by
 refine aR F zf fun cdv B outer s H E hr=>?_
 rw[show ak jj=[_] from rfl]
 refine⟨_,(aS (aq (bh bX (by rfl) J.bU boot_tuple (qa (cV (aY ["thing","weight"] [] [] rfl (by decide +kernel) (by decide +kernel) (by with_unfolding_all rfl) (by exact trivial) (by rfl) rfl (by rfl)) rfl (qi (az (ah 0) rfl)) (fun _ _ _ _=>(qN (n:=2) rfl (HK (qx (i:=0) (show List.Nodup (["thing","weight"]:List Str) by decide +kernel)) (HK (qx (i:=1) (show List.Nodup (["thing","weight"]:List Str) by decide +kernel)) mY)))) (fun _ _ _ _=>b9) (fun _ _ _ _=>(ah 0))) aa)))),fun ds S kk hc hd h=>?_⟩
 obtain⟨a,rfl,h1,h2⟩:=h
 refine⟨_,rfl,_,_,_,_,rfl,rfl,cO (gy pT (fun p=>T.str p.1) trivial (cU (by omega)) (fun x _ k' hk=>⟨_,rfl,rfl,_,_,rfl,_,_,rfl,rfl,_,rfl,_,rfl,hk⟩) ⟨_,rfl,aP hc ?_⟩)⟩
 have e:a.1.map (fun p=>T.str p.1)=a.bJ.map T.str:=by unfold Sm.bJ;rw[List.map_map];rfl
 rw[e]
 exact h2
noncomputable abbrev mL:Stmt:=inClass (top 5) 7
theorem DJ:ao ["self"] ["self"] (af mL):=ck
theorem Ed (F:bM K "told" "Sum.told" mL f fd)(J:Fx K mg A) :aE P w K mg base bO (k+1) f fd ["self"] (aQ K (Ba A)):=by
 refine aR F DJ fun cdv B outer s H E hr=>?_
 rw[show ak mL=[_] from rfl]
 refine⟨_,(aS (aq (ay (qa (az (ah 0) rfl) (qa (az (ah 0) rfl) aa))))),fun ds S kk hc hd h=>?_⟩
 obtain⟨a,rfl,h2⟩:=h
 exact⟨_,rfl,_,_,_,_,rfl,rfl,_,rfl,_,_,_,_,rfl,rfl,_,rfl,sz 2,aP hc h2⟩
noncomputable abbrev gj:Stmt:=inClass (top 11) 0
theorem vz:ao ["self","one","sign","other"] ["self","one","sign","other"] (af gj):=ck
theorem vG (F:bM K "__init__" "Compare.__init__" gj f fd)(J:Fx K mg A) :aE P w K mg base bO (k+1) f fd ["self","one","sign","other"] (aQ K (tU A.bq ["one","sign","other"])):=by
 refine zD F vz (fun ds S kk h=>by obtain⟨i,l,rfl,hl,h1,h4⟩:=h;simpa using hl) fun cdv B outer s H E hr=>?_
 rw[show ak gj=[_,_,_] from rfl]
 refine⟨_,(qs (bu (ah 0) (ah 1) rfl) (qs (bu (ah 0) (ah 2) rfl) (aS (bu (ah 0) (ah 3) rfl)))),fun ds S kk hc hd h=>?_⟩
 obtain⟨i,l,rfl,hl,h1,h4⟩:=h
 obtain⟨x0,x1,x2,rfl⟩:∃ x0 x1 x2,l=[x0,x1,x2]:=ln3 hl
 have hz:=(List.getElem?_eq_some_iff.mp h1).1
 refine⟨_,rfl,_,rfl,_,_,_,_,rfl,h1,J.fk,by decide,_,rfl,_,rfl,_,_,_,_,rfl,(List.getElem?_set_self (by first | exact hz | (simp only[List.length_set];exact hz))),J.ez,by decide,_,rfl,_,rfl,_,_,_,_,rfl,(List.getElem?_set_self (by first | exact hz | (simp only[List.length_set];exact hz))),J.dM,by decide,?_⟩
 rw[List.set_set]
 rw[List.set_set]
 exact .inr (.inr (.inr h4))
noncomputable abbrev gX:Stmt:=inClass (top 12) 0
theorem xh:ao ["self","condition"] ["self","condition"] (af gX):=ck
theorem xQ (F:bM K "__init__" "Turned.__init__" gX f fd)(J:Fx K mg A) :aE P w K mg base bO (k+1) f fd ["self","condition"] (aQ K (tU A.bT ["condition"])):=by
 refine zD F xh (fun ds S kk h=>by obtain⟨i,l,rfl,hl,h1,h4⟩:=h;simpa using hl) fun cdv B outer s H E hr=>?_
 rw[show ak gX=[_] from rfl]
 refine⟨_,(aS (bu (ah 0) (ah 1) rfl)),fun ds S kk hc hd h=>?_⟩
 obtain⟨i,l,rfl,hl,h1,h4⟩:=h
 obtain⟨x0,rfl⟩:∃ x0,l=[x0]:=ln1 hl
 have hz:=(List.getElem?_eq_some_iff.mp h1).1
 refine⟨_,rfl,_,rfl,_,_,_,_,rfl,h1,J.cD,by decide,?_⟩
 exact .inr (.inr (.inr h4))
noncomputable abbrev mW:Stmt:=inClass (top 18) 0
theorem DS:ao ["self","at","name","total"] ["self","at","name","total"] (af mW):=ck
theorem El (F:bM K "__init__" "Let.__init__" mW f fd)(J:Fx K mg A)(bV:Cm P w K mg base k "Step" "__init__" ["self","at"] (uV K)):aE P w K mg base bO (k+1) f fd ["self","at","name","total"] (aQ K (tU A.dc ["at","name","total"])):=by
 refine zD F DS (fun ds S kk h=>by obtain⟨i,l,rfl,hl,h1,h4⟩:=h;simpa using hl) fun cdv B outer s H E hr=>?_
 rw[show ak mW=[_,_,_] from rfl]
 refine⟨_,(qs (jF (t9 bV hr rfl (qa (ah 0) (qa (ah 1) aa)))) (qs (bu (ah 0) (ah 2) rfl) (aS (bu (ah 0) (ah 3) rfl)))),fun ds S kk hc hd h=>?_⟩
 obtain⟨i,l,rfl,hl,h1,h4⟩:=h
 obtain⟨x0,x1,x2,rfl⟩:∃ x0 x1 x2,l=[x0,x1,x2]:=ln3 hl
 have hz:=(List.getElem?_eq_some_iff.mp h1).1
 refine⟨_,rfl,_,rfl,_,_,_,rfl,h1,J.oB,_,rfl,_,rfl,_,_,_,_,rfl,(List.getElem?_set_self (by first | exact hz | (simp only[List.length_set];exact hz))),J.jK,by decide,_,rfl,_,rfl,_,_,_,_,rfl,(List.getElem?_set_self (by first | exact hz | (simp only[List.length_set];exact hz))),J.iI,by decide,?_⟩
 rw[List.set_set]
 rw[List.set_set]
 exact .inr (.inr (.inr h4))
noncomputable abbrev ir:Stmt:=inClass (top 19) 0
theorem xw:ao ["self","at","name","word","total","by"] ["self","at","name","word","total","by"] (af ir):=ck
theorem xT (F:bM K "__init__" "Divide.__init__" ir f fd)(J:Fx K mg A)(bV:Cm P w K mg base k "Step" "__init__" ["self","at"] (uV K)):aE P w K mg base bO (k+1) f fd ["self","at","name","word","total","by"] (aQ K (tU A.aH ["at","name","word","total","by"])):=by
 refine zD F xw (fun ds S kk h=>by obtain⟨i,l,rfl,hl,h1,h4⟩:=h;simpa using hl) fun cdv B outer s H E hr=>?_
 rw[show ak ir=[_,_,_,_,_] from rfl]
 refine⟨_,(qs (jF (t9 bV hr rfl (qa (ah 0) (qa (ah 1) aa)))) (qs (bu (ah 0) (ah 2) rfl) (qs (bu (ah 0) (ah 3) rfl) (qs (bu (ah 0) (ah 4) rfl) (aS (bu (ah 0) (ah 5) rfl)))))),fun ds S kk hc hd h=>?_⟩
 obtain⟨i,l,rfl,hl,h1,h4⟩:=h
 obtain⟨x0,x1,x2,x3,x4,rfl⟩:∃ x0 x1 x2 x3 x4,l=[x0,x1,x2,x3,x4]:=ln5 hl
 have hz:=(List.getElem?_eq_some_iff.mp h1).1
 refine⟨_,rfl,_,rfl,_,_,_,rfl,h1,J.iM,_,rfl,_,rfl,_,_,_,_,rfl,(List.getElem?_set_self (by first | exact hz | (simp only[List.length_set];exact hz))),J.fj,by decide,_,rfl,_,rfl,_,_,_,_,rfl,(List.getElem?_set_self (by first | exact hz | (simp only[List.length_set];exact hz))),J.fh,by decide,_,rfl,_,rfl,_,_,_,_,rfl,(List.getElem?_set_self (by first | exact hz | (simp only[List.length_set];exact hz))),J.ee,by decide,_,rfl,_,rfl,_,_,_,_,rfl,(List.getElem?_set_self (by first | exact hz | (simp only[List.length_set];exact hz))),J.iL,by decide,?_⟩
 rw[List.set_set]
 rw[List.set_set]
 rw[List.set_set]
 rw[List.set_set]
 exact .inr (.inr (.inr h4))
noncomputable abbrev jm:Stmt:=inClass (top 20) 0
theorem zj:ao ["self","at","name","row","place"] ["self","at","name","row","place"] (af jm):=ck
theorem zw (F:bM K "__init__" "Fetch.__init__" jm f fd)(J:Fx K mg A)(bV:Cm P w K mg base k "Step" "__init__" ["self","at"] (uV K)):aE P w K mg base bO (k+1) f fd ["self","at","name","row","place"] (aQ K (tU A.aV ["at","name","row","place"])):=by
 refine zD F zj (fun ds S kk h=>by obtain⟨i,l,rfl,hl,h1,h4⟩:=h;simpa using hl) fun cdv B outer s H E hr=>?_
 rw[show ak jm=[_,_,_,_] from rfl]
 refine⟨_,(qs (jF (t9 bV hr rfl (qa (ah 0) (qa (ah 1) aa)))) (qs (bu (ah 0) (ah 2) rfl) (qs (bu (ah 0) (ah 3) rfl) (aS (bu (ah 0) (ah 4) rfl))))),fun ds S kk hc hd h=>?_⟩
 obtain⟨i,l,rfl,hl,h1,h4⟩:=h
 obtain⟨x0,x1,x2,x3,rfl⟩:∃ x0 x1 x2 x3,l=[x0,x1,x2,x3]:=ln4 hl
 have hz:=(List.getElem?_eq_some_iff.mp h1).1
 refine⟨_,rfl,_,rfl,_,_,_,rfl,h1,J.jL,_,rfl,_,rfl,_,_,_,_,rfl,(List.getElem?_set_self (by first | exact hz | (simp only[List.length_set];exact hz))),J.gp,by decide,_,rfl,_,rfl,_,_,_,_,rfl,(List.getElem?_set_self (by first | exact hz | (simp only[List.length_set];exact hz))),J.iK,by decide,_,rfl,_,rfl,_,_,_,_,rfl,(List.getElem?_set_self (by first | exact hz | (simp only[List.length_set];exact hz))),J.ff,by decide,?_⟩
 rw[List.set_set]
 rw[List.set_set]
 rw[List.set_set]
 exact .inr (.inr (.inr h4))
noncomputable abbrev mT:Stmt:=inClass (top 21) 0
theorem DP:ao ["self","at","row","place","total"] ["self","at","row","place","total"] (af mT):=ck
theorem Ej (F:bM K "__init__" "Put.__init__" mT f fd)(J:Fx K mg A)(bV:Cm P w K mg base k "Step" "__init__" ["self","at"] (uV K)):aE P w K mg base bO (k+1) f fd ["self","at","row","place","total"] (aQ K (tU A.c9 ["at","row","place","total"])):=by
 refine zD F DP (fun ds S kk h=>by obtain⟨i,l,rfl,hl,h1,h4⟩:=h;simpa using hl) fun cdv B outer s H E hr=>?_
 rw[show ak mT=[_,_,_,_] from rfl]
 refine⟨_,(qs (jF (t9 bV hr rfl (qa (ah 0) (qa (ah 1) aa)))) (qs (bu (ah 0) (ah 2) rfl) (qs (bu (ah 0) (ah 3) rfl) (aS (bu (ah 0) (ah 4) rfl))))),fun ds S kk hc hd h=>?_⟩
 obtain⟨i,l,rfl,hl,h1,h4⟩:=h
 obtain⟨x0,x1,x2,x3,rfl⟩:∃ x0 x1 x2 x3,l=[x0,x1,x2,x3]:=ln4 hl
 have hz:=(List.getElem?_eq_some_iff.mp h1).1
 refine⟨_,rfl,_,rfl,_,_,_,rfl,h1,J.oA,_,rfl,_,rfl,_,_,_,_,rfl,(List.getElem?_set_self (by first | exact hz | (simp only[List.length_set];exact hz))),J.lI,by decide,_,rfl,_,rfl,_,_,_,_,rfl,(List.getElem?_set_self (by first | exact hz | (simp only[List.length_set];exact hz))),J.iG,by decide,_,rfl,_,rfl,_,_,_,_,rfl,(List.getElem?_set_self (by first | exact hz | (simp only[List.length_set];exact hz))),J.iE,by decide,?_⟩
 rw[List.set_set]
 rw[List.set_set]
 rw[List.set_set]
 exact .inr (.inr (.inr h4))
noncomputable abbrev kJ:Stmt:=inClass (top 22) 0
theorem Bu:ao ["self","at","row","size"] ["self","at","row","size"] (af kJ):=ck
theorem BW (F:bM K "__init__" "Make.__init__" kJ f fd)(J:Fx K mg A)(bV:Cm P w K mg base k "Step" "__init__" ["self","at"] (uV K)):aE P w K mg base bO (k+1) f fd ["self","at","row","size"] (aQ K (tU A.bN ["at","row","size"])):=by
 refine zD F Bu (fun ds S kk h=>by obtain⟨i,l,rfl,hl,h1,h4⟩:=h;simpa using hl) fun cdv B outer s H E hr=>?_
 rw[show ak kJ=[_,_,_] from rfl]
 refine⟨_,(qs (jF (t9 bV hr rfl (qa (ah 0) (qa (ah 1) aa)))) (qs (bu (ah 0) (ah 2) rfl) (aS (bu (ah 0) (ah 3) rfl)))),fun ds S kk hc hd h=>?_⟩
 obtain⟨i,l,rfl,hl,h1,h4⟩:=h
 obtain⟨x0,x1,x2,rfl⟩:∃ x0 x1 x2,l=[x0,x1,x2]:=ln3 hl
 have hz:=(List.getElem?_eq_some_iff.mp h1).1
 refine⟨_,rfl,_,rfl,_,_,_,rfl,h1,J.lJ,_,rfl,_,rfl,_,_,_,_,rfl,(List.getElem?_set_self (by first | exact hz | (simp only[List.length_set];exact hz))),J.jJ,by decide,_,rfl,_,rfl,_,_,_,_,rfl,(List.getElem?_set_self (by first | exact hz | (simp only[List.length_set];exact hz))),J.iH,by decide,?_⟩
 rw[List.set_set]
 rw[List.set_set]
 exact .inr (.inr (.inr h4))
noncomputable abbrev jt:Stmt:=inClass (top 23) 0
theorem zp:ao ["self","at","condition"] ["self","at","condition"] (af jt):=ck
theorem zy (F:bM K "__init__" "Claim.__init__" jt f fd)(J:Fx K mg A)(bV:Cm P w K mg base k "Step" "__init__" ["self","at"] (uV K)):aE P w K mg base bO (k+1) f fd ["self","at","condition"] (aQ K (tU A.bg ["at","condition"])):=by
 refine zD F zp (fun ds S kk h=>by obtain⟨i,l,rfl,hl,h1,h4⟩:=h;simpa using hl) fun cdv B outer s H E hr=>?_
 rw[show ak jt=[_,_] from rfl]
 refine⟨_,(qs (jF (t9 bV hr rfl (qa (ah 0) (qa (ah 1) aa)))) (aS (bu (ah 0) (ah 2) rfl))),fun ds S kk hc hd h=>?_⟩
 obtain⟨i,l,rfl,hl,h1,h4⟩:=h
 obtain⟨x0,x1,rfl⟩:∃ x0 x1,l=[x0,x1]:=ln2 hl
 have hz:=(List.getElem?_eq_some_iff.mp h1).1
 refine⟨_,rfl,_,rfl,_,_,_,rfl,h1,J.jM,_,rfl,_,rfl,_,_,_,_,rfl,(List.getElem?_set_self (by first | exact hz | (simp only[List.length_set];exact hz))),J.cL,by decide,?_⟩
 rw[List.set_set]
 exact .inr (.inr (.inr h4))
noncomputable abbrev kK:Stmt:=inClass (top 42) 0
theorem Bv:ao ["self","kind","at","ahead","condition"] ["self","kind","at","ahead","condition"] (af kK):=ck
theorem BX (F:bM K "__init__" "Debt.__init__" kK f fd)(J:Fx K mg A) :aE P w K mg base bO (k+1) f fd ["self","kind","at","ahead","condition"] (aQ K (tU A.eF ["kind","at","ahead","condition"])):=by
 refine zD F Bv (fun ds S kk h=>by obtain⟨i,l,rfl,hl,h1,h4⟩:=h;simpa using hl) fun cdv B outer s H E hr=>?_
 rw[show ak kK=[_,_,_,_] from rfl]
 refine⟨_,(qs (bu (ah 0) (ah 1) rfl) (qs (bu (ah 0) (ah 2) rfl) (qs (bu (ah 0) (ah 3) rfl) (aS (bu (ah 0) (ah 4) rfl))))),fun ds S kk hc hd h=>?_⟩
 obtain⟨i,l,rfl,hl,h1,h4⟩:=h
 obtain⟨x0,x1,x2,x3,rfl⟩:∃ x0 x1 x2 x3,l=[x0,x1,x2,x3]:=ln4 hl
 have hz:=(List.getElem?_eq_some_iff.mp h1).1
 refine⟨_,rfl,_,rfl,_,_,_,_,rfl,h1,J.iN,by decide,_,rfl,_,rfl,_,_,_,_,rfl,(List.getElem?_set_self (by first | exact hz | (simp only[List.length_set];exact hz))),J.lK,by decide,_,rfl,_,rfl,_,_,_,_,rfl,(List.getElem?_set_self (by first | exact hz | (simp only[List.length_set];exact hz))),J.gq,by decide,_,rfl,_,rfl,_,_,_,_,rfl,(List.getElem?_set_self (by first | exact hz | (simp only[List.length_set];exact hz))),J.cZ,by decide,?_⟩
 rw[List.set_set]
 rw[List.set_set]
 rw[List.set_set]
 exact .inr (.inr (.inr h4))
noncomputable abbrev kF:Stmt:=inClass (top 17) 0
theorem Bq:ao ["self","at"] ["self","at"] (af kF):=ck
theorem BU (F:bM K "__init__" "Step.__init__" kF f fd)(J:Fx K mg A) :aE P w K mg base bO (k+1) f fd ["self","at"] (aQ K (uV K)):=by
 refine aR F Bq fun cdv B outer s H E hr=>?_
 rw[show ak kF=[_] from rfl]
 refine⟨_,(aS (bu (ah 0) (ah 1) rfl)),fun ds S kk hc hd h=>?_⟩
 obtain⟨i,x,C,rfl,h1,h2,h4⟩:=h
 refine⟨_,rfl,_,rfl,_,_,_,_,rfl,h1,h2,by decide,.inr (.inr (.inr h4))⟩
noncomputable abbrev gc:Stmt:=inClass (top 13) 0
theorem vo:ao ["self","conditions"] ["self","conditions"] (af gc):=ck
theorem nA {C:Addr}(hn:aK K C "conditions")(F:bM K "__init__" "Several.__init__" gc f fd)(J:Fx K mg A) :aE P w K mg base bO (k+1) f fd ["self","conditions"] (aQ K (wQ C)):=by
 refine aR F vo fun cdv B outer s H E hr=>?_
 rw[show ak gc=[_] from rfl]
 refine⟨_,(aS (bu (ah 0) (bh bX (by rfl) J.bU boot_tuple (qa (ah 1) aa)) rfl)),fun ds S kk hc hd h=>?_⟩
 obtain⟨i,d,l,rfl,h1,h2,h4⟩:=h
 refine⟨_,rfl,_,Di h2,_,rfl,_,_,_,_,rfl,h1,hn,by decide,.inr (.inr (.inr h4))⟩
noncomputable abbrev gi:Stmt:=inClass (top 11) 4
theorem vv:ao ["self"] ["self"] (af gi):=ck
theorem nB (F:bM K "told" "Compare.told" gi f fd)(J:Fx K mg A)(cN:gK P w K mg base k A):aE P w K mg base bO (k+1) f fd ["self"] (aQ K (fQ A (n+1) 0)):=by
 refine aR F vv fun cdv B outer s H E hr=>?_
 rw[show ak gi=[_] from rfl]
 refine⟨_,(aS (aq (ay (qa aA (qa (aT (az (ah 0) rfl) cN hr) (qa (az (ah 0) rfl) (qa (aT (az (ah 0) rfl) cN hr) aa))))))),fun ds S kk hc hd h=>?_⟩
 obtain⟨c,rfl,hj,hn,hs,h⟩:=h
 cases c with
 | cmp a s b =>
  unfold eX
  exact⟨_,rfl,_,_,_,_,rfl,rfl,0,_,_,by decide,rfl,by decide +kernel,a,rfl,_,rfl,_,_,_,_,rfl,rfl,_,rfl,_,_,_,_,rfl,rfl,0,_,_,by decide,rfl,by decide +kernel,b,rfl,_,rfl,sz 4,aP hc (by unfold nK at h;exact h)⟩
 | neg c=>cases hj
 | con q cs=>cases q <;> cases hj
noncomputable abbrev gW:Stmt:=inClass (top 12) 4
theorem xg:ao ["self"] ["self"] (af gW):=ck
theorem oi (F:bM K "told" "Turned.told" gW f fd)(J:Fx K mg A)(c5:jY P w K mg base k A n):aE P w K mg base bO (k+1) f fd ["self"] (aQ K (fQ A (n+1) 1)):=by
 refine aR F xg fun cdv B outer s H E hr=>?_
 rw[show ak gW=[_] from rfl]
 refine⟨_,(aS (aq (ay (qa aA (qa (aT (az (ah 0) rfl) c5 hr) aa))))),fun ds S kk hc hd h=>?_⟩
 obtain⟨c,rfl,hj,hn,hs,h⟩:=h
 cases c with
 | cmp a s b=>cases hj
 | neg c =>
  unfold bC.dep at hn
  unfold bC.sz at hs
  obtain⟨ns,l,i1,i2,_⟩:=oG A S c
  unfold eX
  exact⟨_,rfl,_,_,_,_,rfl,rfl,Fb c,ns,l,jA c,i1,i2,c,rfl,rfl,by omega,by omega,_,rfl,sz 2,aP hc (by unfold nK at h;exact h)⟩
 | con q cs=>cases q <;> cases hj
noncomputable abbrev jn:Stmt:=inClass (top 14) 2
theorem zk:ao ["self"] ["self"] (af jn):=ck
theorem qB (F:bM K "told" "Every.told" jn f fd)(J:Fx K mg A)(c5:jY P w K mg base k A n):aE P w K mg base bO (k+1) f fd ["self"] (aQ K (fQ A (n+1) 2)):=by
 refine aR F zk fun cdv B outer s H E hr=>?_
 rw[show ak jn=[_] from rfl]
 refine⟨_,(aS (aq (aM aF (ay (qa aA aa)) (bh bX (by rfl) J.bU boot_tuple (qa (cV (aY ["condition"] [] [] rfl (by decide +kernel) (by decide +kernel) (by with_unfolding_all rfl) (by exact trivial) (by rfl) rfl (by rfl)) rfl (qi (az (ah 0) rfl)) (fun _ _ _ _=>(qx (i:=0) (show List.Nodup (["condition"]:List Str) by decide +kernel))) (fun _ _ _ _=>b9) (fun _ _ _ _=>(aT (ah 0) c5 hr))) aa))))),fun ds S kk hc hd h=>?_⟩
 obtain⟨c,rfl,hj,hn,hs,h⟩:=h
 cases c with
 | cmp a s b=>cases hj
 | neg c=>cases hj
 | con q cs =>
  cases q with
  | false=>cases hj
  | true =>
   unfold bC.dep at hn
   unfold bC.sz at hs
   have hl:=A6 cs
   unfold eX
   rw[iP]
   refine⟨_,rfl,sz 1,_,rfl,_,_,_,_,rfl,rfl,cO (gy (eX A) nK trivial (cU (by omega)) (fun c Q4 k' hk=>?_) ?_)⟩
   ·have h1:=sM Q4
    have h2:=A5 Q4
    obtain⟨ns,l,i1,i2,_⟩:=oG A S c
    exact⟨_,rfl,Fb c,ns,l,jA c,i1,i2,c,rfl,rfl,by omega,by omega,_,rfl,hk⟩
   ·refine⟨_,rfl,cU (by simp;omega),aP hc ?_⟩
    unfold nK at h
    rw[sP] at h
    exact h
noncomputable abbrev kG:Stmt:=inClass (top 15) 2
theorem Br:ao ["self"] ["self"] (af kG):=ck
theorem su (F:bM K "told" "Some.told" kG f fd)(J:Fx K mg A)(c5:jY P w K mg base k A n):aE P w K mg base bO (k+1) f fd ["self"] (aQ K (fQ A (n+1) 3)):=by
 refine aR F Br fun cdv B outer s H E hr=>?_
 rw[show ak kG=[_] from rfl]
 refine⟨_,(aS (aq (aM aF (ay (qa aA aa)) (bh bX (by rfl) J.bU boot_tuple (qa (cV (aY ["condition"] [] [] rfl (by decide +kernel) (by decide +kernel) (by with_unfolding_all rfl) (by exact trivial) (by rfl) rfl (by rfl)) rfl (qi (az (ah 0) rfl)) (fun _ _ _ _=>(qx (i:=0) (show List.Nodup (["condition"]:List Str) by decide +kernel))) (fun _ _ _ _=>b9) (fun _ _ _ _=>(aT (ah 0) c5 hr))) aa))))),fun ds S kk hc hd h=>?_⟩
 obtain⟨c,rfl,hj,hn,hs,h⟩:=h
 cases c with
 | cmp a s b=>cases hj
 | neg c=>cases hj
 | con q cs =>
  cases q with
  | true=>cases hj
  | false =>
   unfold bC.dep at hn
   unfold bC.sz at hs
   have hl:=A6 cs
   unfold eX
   rw[iP]
   refine⟨_,rfl,sz 1,_,rfl,_,_,_,_,rfl,rfl,cO (gy (eX A) nK trivial (cU (by omega)) (fun c Q4 k' hk=>?_) ?_)⟩
   ·have h1:=sM Q4
    have h2:=A5 Q4
    obtain⟨ns,l,i1,i2,_⟩:=oG A S c
    exact⟨_,rfl,Fb c,ns,l,jA c,i1,i2,c,rfl,rfl,by omega,by omega,_,rfl,hk⟩
   ·refine⟨_,rfl,cU (by simp;omega),aP hc ?_⟩
    unfold nK at h
    rw[sP] at h
    exact h
noncomputable abbrev iw:Stmt:=inClass (top 11) 1
theorem xx:ao ["self"] ["self"] (af iw):=ck
theorem oq (F:bM K "all_sums" "Compare.all_sums" iw f fd)(J:Fx K mg A) :aE P w K mg base bO (k+1) f fd ["self"] (aQ K (nU A (n+1) 0)):=by
 refine aR F xx fun cdv B outer s H E hr=>?_
 rw[show ak iw=[_] from rfl]
 refine⟨_,(aS (aq (cA (qa (az (ah 0) rfl) (qa (az (ah 0) rfl) aa))))),fun ds S kk hc hd h=>?_⟩
 obtain⟨c,rfl,hj,hn,hs,h⟩:=h
 cases c with
 | cmp a s b =>
  unfold eX
  exact⟨_,rfl,_,_,_,_,rfl,rfl,_,rfl,_,_,_,_,rfl,rfl,_,rfl,sz 2,aP hc (by unfold bC.sums at h;exact h)⟩
 | neg c=>cases hj
 | con q cs=>cases q <;> cases hj
noncomputable abbrev ji:Stmt:=inClass (top 12) 1
theorem ze:ao ["self"] ["self"] (af ji):=ck
theorem qz (F:bM K "all_sums" "Turned.all_sums" ji f fd)(J:Fx K mg A)(jN:nk P w K mg base k A n):aE P w K mg base bO (k+1) f fd ["self"] (aQ K (nU A (n+1) 1)):=by
 refine aR F ze fun cdv B outer s H E hr=>?_
 rw[show ak ji=[_] from rfl]
 refine⟨_,(aS (aq (aT (az (ah 0) rfl) jN hr))),fun ds S kk hc hd h=>?_⟩
 obtain⟨c,rfl,hj,hn,hs,h⟩:=h
 cases c with
 | cmp a s b=>cases hj
 | neg c =>
  unfold bC.dep at hn
  unfold bC.sz at hs
  unfold bC.sums at h
  obtain⟨ns,l,i1,_,_,i2⟩:=oG A S c
  unfold eX
  exact⟨_,rfl,_,_,_,_,rfl,rfl,Fb c,ns,l,jA c,i1,i2,c,rfl,rfl,by omega,by omega,aP hc h⟩
 | con q cs=>cases q <;> cases hj
noncomputable abbrev gZ:Stmt:=inClass (top 13) 1
theorem jD:ao ["self","found","condition"] ["self"] (af gZ):=ck
theorem gk {j:Nat}(hv:j=2∨j=3)(F:bM K "all_sums" "Several.all_sums" gZ f fd)(J:Fx K mg A)(jN:nk P w K mg base k A n):aE P w K mg base bO (k+1) f fd ["self"] (aQ K (nU A (n+1) j)):=by
 refine aR F jD fun cdv B outer s H E hr=>?_
 rw[show ak gZ=[_,_,_] from rfl]
 refine⟨_,(qs (au (i:=1) jD.nd (jG aa)) (qs (bK PassesOwn.never rfl (qi (az (ah 0) rfl)) (qg (i:=2) jD.nd) (aS (jF (DU (ah 1) (qa (aT (ah 2) jN hr) aa))))) (aS (aq (ah 1))))),fun ds S kk hc hd h=>?_⟩
 obtain⟨c,rfl,hj,hn,hs,h⟩:=h
 cases c with
 | cmp a s b=>subst hj;rcases hv with h | h <;> cases h
 | neg c=>subst hj;rcases hv with h | h <;> cases h
 | con q cs =>
  unfold bC.dep at hn
  unfold bC.sz at hs
  unfold bC.sums at h
  unfold eX
  rw[iP]
  refine⟨_,rfl,sz 0,_,rfl,_,_,_,_,rfl,rfl,cO (eW (eX A) (fun pre δ S'=>∃ x,δ=[some (D.t (.ins (if q=true then A.cS else A.fu) ["conditions"] [.tup (cs.map (eX A))])),some (D.ob (S.length+0)),x]/\S'=S++[O.lst ((dX pre).map (iC A))]) ⟨_,rfl,rfl⟩ ?_ ?_)⟩
  ·rintro pre c post δ S' N rfl ⟨x,rfl,rfl⟩ hN
   have h1:=sM (c:=c) (l:=pre++c::post) (by simp)
   rw[A7,Ab] at hs
   have hs2:=rQ pre
   have hs3:=je c
   obtain⟨ns,l,i1,_,_,i2⟩:=oG A (S++[O.lst ((dX pre).map (iC A))]) c
   refine⟨trivial,_,rfl,⟨rfl,_,iS rfl⟩,_,rfl,Fb c,ns,l,jA c,i1,i2,c,rfl,rfl,by omega,by omega,_,_,eS,rfl,cU (by simp;omega),?_⟩
   rw[dU]
   refine hN _ _ ⟨_,rfl,?_⟩
   rw[lC,dX,dX,List.append_nil,List.map_append]
   rfl
  ·rintro δ S' ⟨x,rfl,rfl⟩
   exact⟨trivial,_,rfl,M0 hc rfl h⟩
noncomputable abbrev iu:Stmt:=inClass (top 10) 0
theorem jE:ao ["self","found","total"] ["self"] (af iu):=ck
theorem gm {j:Nat}(F:bM K "things" "Condition.things" iu f fd)(J:Fx K mg A)(jN:nk P w K mg base k A n)(bR:eV P w K mg base k A):aE P w K mg base bO (k+1) f fd ["self"] (aQ K (KO A n j)):=by
 refine aR F jE fun cdv B outer s H E hr=>?_
 rw[show ak iu=[_,_,_] from rfl]
 refine⟨_,(qs (au (i:=1) jE.nd (jG aa)) (qs (bK PassesOwn.never rfl (qi (aT (ah 0) jN hr)) (qg (i:=2) jE.nd) (aS (jF (DU (ah 1) (qa (aT (ah 2) bR hr) aa))))) (aS (aq (bh bX (by rfl) J.bU boot_tuple (qa (R7 rfl J.lV rfl J.IQ rfl (ah 1)) aa)))))),fun ds S kk hc hd h=>?_⟩
 obtain⟨c,rfl,hj,hn,hf,h⟩:=h
 obtain⟨hs0,hf⟩:=hf
 have hs:c.sums.length<=14:=by have:=je c;omega
 obtain⟨ns,l,i1,_,_,i2⟩:=oG A (S++[O.lst []]) c
 have key:∀ pre post:List Sm,c.sums=pre++post->(pre.map Sm.bJ).flatten.length<=4*pre.length:=by
  intro pre post e
  have hm:∀ s∈pre,s.few:=fun s hs'=>hf s (by rw[e];exact List.mem_append_left _ hs')
  clear e
  induction pre with
  | nil=>exact Nat.le_refl _
  | cons a r ih =>
   rw[List.map_cons,List.flatten_cons,List.length_append,List.length_cons]
   have h1:=ih fun s hs'=>hm s (List.mem_cons_of_mem _ hs')
   have h2:a.1.length<=4:=hm a List.mem_cons_self
   have h3:a.bJ.length=a.1.length:=by unfold Sm.bJ;rw[List.length_map]
   omega
 refine⟨_,rfl,sz 0,_,rfl,Fb c,ns,l,jA c,i1,i2,c,rfl,rfl,hn,hs0,jP (eW (iC A) (fun pre δ S'=>∃ x,δ=[some (D.t (eX A c)),some (D.ob (S.length+0)),x]/\S'=S++[O.lst ((pre.map Sm.bJ).flatten.map T.str)]) ⟨_,rfl,rfl⟩ ?_ ?_)⟩
 ·rintro pre s post δ S' N e ⟨x,rfl,rfl⟩ hN
  have h1:=key pre (s::post) e
  have h2:s.1.length<=4:=hf s (by rw[e];simp)
  have h3:s.bJ.length=s.1.length:=by unfold Sm.bJ;rw[List.length_map]
  have h4:pre.length<=14:=by rw[e,List.length_append] at hs;omega
  refine⟨trivial,_,rfl,⟨rfl,_,iS rfl⟩,_,rfl,0,_,_,by decide,rfl,by decide +kernel,s,rfl,by omega,_,_,eS,rfl,cU (by rw[List.length_map,List.length_map];omega),?_⟩
  rw[dU]
  refine hN _ _ ⟨_,rfl,?_⟩
  rw[List.map_append,List.flatten_append,List.map_append]
  simp
 ·rintro δ S' ⟨x,rfl,rfl⟩
  have h1:=key c.sums [] (by simp)
  refine⟨trivial,_,rfl,_,(c.sums.map Sm.bJ).flatten,iS rfl,by omega,by omega,fun x hx=>hx,_,rfl,JS hc h⟩
noncomputable abbrev kj:Stmt:=top 27
theorem Bl:ao ["row"] ["row"] (af kj):=ck
theorem BJ (F:bM K "length_of" "length_of" kj f fd)(J:Fx K mg A) :aE P w K mg base bO (k+1) f fd ["row"] (aQ K Hv):=by
 refine aR F Bl fun cdv B outer s H E hr=>?_
 rw[show ak kj=[_] from rfl]
 refine⟨_,(aS (aq (aM aF aA (ah 0)))),fun ds S kk hc hd h=>?_⟩
 obtain⟨x,rfl,h1,h⟩:=h
 exact⟨_,rfl,Nat.le_trans (Nat.add_le_add (Nat.le_refl _) h1) (by rw[sizeLine_eq];decide +kernel),aP hc h⟩
noncomputable abbrev kC:Stmt:=top 36
theorem Bo:ao ["thing"] ["thing"] (af kC):=ck
theorem BQ (F:bM K "is_length" "is_length" kC f fd)(J:Fx K mg A) :aE P w K mg base bO (k+1) f fd ["thing"] (aQ K HB):=by
 refine aR F Bo fun cdv B outer s H E hr=>?_
 rw[show ak kC=[_] from rfl]
 refine⟨_,(aS (aq (WG (ah 0) (qa aA aa)))),fun ds S kk hc hd h=>?_⟩
 obtain⟨x,rfl,h⟩:=h
 exact⟨_,rfl,rfl,aP hc h⟩
noncomputable abbrev mV:Stmt:=inClass (top 18) 1
theorem DR:ao ["self"] ["self"] (af mV):=ck
theorem u9 (F:bM K "told" "Let.told" mV f fd)(J:Fx K mg A)(cN:gK P w K mg base k A):aE P w K mg base bO (k+1) f fd ["self"] (aQ K (jf A n 0)):=by
 refine aR F DR fun cdv B outer s H E hr=>?_
 rw[show ak mV=[_] from rfl]
 refine⟨_,(aS (aq (ay (qa aA (qa (az (ah 0) rfl) (qa (az (ah 0) rfl) (qa (aT (az (ah 0) rfl) cN hr) aa))))))),fun ds S kk hc hd h=>?_⟩
 obtain⟨s,rfl,hj,hd2,h⟩:=h
 cases s with
 | lt a x s =>
  refine⟨_,rfl,_,_,_,_,rfl,rfl,_,rfl,_,_,_,_,rfl,rfl,_,rfl,_,_,_,_,rfl,rfl,0,_,_,by decide,rfl,by decide +kernel,s,rfl,_,rfl,sz 4,aP hc h⟩
 | dv a x wd s b=>cases hj
 | ft a x r p=>cases hj
 | pt a r p s=>cases hj
 | mq a r z=>cases hj
 | cm a c=>cases hj
noncomputable abbrev ig:Stmt:=inClass (top 19) 1
theorem xu:ao ["self"] ["self"] (af ig):=ck
theorem om (F:bM K "told" "Divide.told" ig f fd)(J:Fx K mg A)(cN:gK P w K mg base k A):aE P w K mg base bO (k+1) f fd ["self"] (aQ K (jf A n 1)):=by
 refine aR F xu fun cdv B outer s H E hr=>?_
 rw[show ak ig=[_] from rfl]
 refine⟨_,(aS (aq (ay (qa aA (qa (az (ah 0) rfl) (qa (az (ah 0) rfl) (qa (az (ah 0) rfl) (qa (aT (az (ah 0) rfl) cN hr) (qa (aT (az (ah 0) rfl) cN hr) aa))))))))),fun ds S kk hc hd h=>?_⟩
 obtain⟨s,rfl,hj,hd2,h⟩:=h
 cases s with
 | lt a x s=>cases hj
 | dv a x wd s b =>
  refine⟨_,rfl,_,_,_,_,rfl,rfl,_,rfl,_,_,_,_,rfl,rfl,_,rfl,_,_,_,_,rfl,rfl,_,rfl,_,_,_,_,rfl,rfl,0,_,_,by decide,rfl,by decide +kernel,s,rfl,_,rfl,_,_,_,_,rfl,rfl,0,_,_,by decide,rfl,by decide +kernel,b,rfl,_,rfl,sz 6,aP hc h⟩
 | ft a x r p=>cases hj
 | pt a r p s=>cases hj
 | mq a r z=>cases hj
 | cm a c=>cases hj
noncomputable abbrev jl:Stmt:=inClass (top 20) 1
theorem zh:ao ["self"] ["self"] (af jl):=ck
theorem qA (F:bM K "told" "Fetch.told" jl f fd)(J:Fx K mg A)(cN:gK P w K mg base k A):aE P w K mg base bO (k+1) f fd ["self"] (aQ K (jf A n 2)):=by
 refine aR F zh fun cdv B outer s H E hr=>?_
 rw[show ak jl=[_] from rfl]
 refine⟨_,(aS (aq (ay (qa aA (qa (az (ah 0) rfl) (qa (az (ah 0) rfl) (qa (az (ah 0) rfl) (qa (aT (az (ah 0) rfl) cN hr) aa)))))))),fun ds S kk hc hd h=>?_⟩
 obtain⟨s,rfl,hj,hd2,h⟩:=h
 cases s with
 | lt a x s=>cases hj
 | dv a x wd s b=>cases hj
 | ft a x r p =>
  refine⟨_,rfl,_,_,_,_,rfl,rfl,_,rfl,_,_,_,_,rfl,rfl,_,rfl,_,_,_,_,rfl,rfl,_,rfl,_,_,_,_,rfl,rfl,0,_,_,by decide,rfl,by decide +kernel,p,rfl,_,rfl,sz 5,aP hc h⟩
 | pt a r p s=>cases hj
 | mq a r z=>cases hj
 | cm a c=>cases hj
noncomputable abbrev mS:Stmt:=inClass (top 21) 1
theorem DO:ao ["self"] ["self"] (af mS):=ck
theorem uZ (F:bM K "told" "Put.told" mS f fd)(J:Fx K mg A)(cN:gK P w K mg base k A):aE P w K mg base bO (k+1) f fd ["self"] (aQ K (jf A n 3)):=by
 refine aR F DO fun cdv B outer s H E hr=>?_
 rw[show ak mS=[_] from rfl]
 refine⟨_,(aS (aq (ay (qa aA (qa (az (ah 0) rfl) (qa (az (ah 0) rfl) (qa (aT (az (ah 0) rfl) cN hr) (qa (aT (az (ah 0) rfl) cN hr) aa)))))))),fun ds S kk hc hd h=>?_⟩
 obtain⟨s,rfl,hj,hd2,h⟩:=h
 cases s with
 | lt a x s=>cases hj
 | dv a x wd s b=>cases hj
 | ft a x r p=>cases hj
 | pt a r p s =>
  refine⟨_,rfl,_,_,_,_,rfl,rfl,_,rfl,_,_,_,_,rfl,rfl,_,rfl,_,_,_,_,rfl,rfl,0,_,_,by decide,rfl,by decide +kernel,p,rfl,_,rfl,_,_,_,_,rfl,rfl,0,_,_,by decide,rfl,by decide +kernel,s,rfl,_,rfl,sz 5,aP hc h⟩
 | mq a r z=>cases hj
 | cm a c=>cases hj
noncomputable abbrev kI:Stmt:=inClass (top 22) 1
theorem Bt:ao ["self"] ["self"] (af kI):=ck
theorem sy (F:bM K "told" "Make.told" kI f fd)(J:Fx K mg A)(cN:gK P w K mg base k A):aE P w K mg base bO (k+1) f fd ["self"] (aQ K (jf A n 4)):=by
 refine aR F Bt fun cdv B outer s H E hr=>?_
 rw[show ak kI=[_] from rfl]
 refine⟨_,(aS (aq (ay (qa aA (qa (az (ah 0) rfl) (qa (az (ah 0) rfl) (qa (aT (az (ah 0) rfl) cN hr) aa))))))),fun ds S kk hc hd h=>?_⟩
 obtain⟨s,rfl,hj,hd2,h⟩:=h
 cases s with
 | lt a x s=>cases hj
 | dv a x wd s b=>cases hj
 | ft a x r p=>cases hj
 | pt a r p s=>cases hj
 | mq a r z =>
  refine⟨_,rfl,_,_,_,_,rfl,rfl,_,rfl,_,_,_,_,rfl,rfl,_,rfl,_,_,_,_,rfl,rfl,0,_,_,by decide,rfl,by decide +kernel,z,rfl,_,rfl,sz 4,aP hc h⟩
 | cm a c=>cases hj
noncomputable abbrev jr:Stmt:=inClass (top 23) 1
theorem zm:ao ["self"] ["self"] (af jr):=ck
theorem qC (F:bM K "told" "Claim.told" jr f fd)(J:Fx K mg A)(c5:jY P w K mg base k A n):aE P w K mg base bO (k+1) f fd ["self"] (aQ K (jf A n 5)):=by
 refine aR F zm fun cdv B outer s H E hr=>?_
 rw[show ak jr=[_] from rfl]
 refine⟨_,(aS (aq (ay (qa aA (qa (az (ah 0) rfl) (qa (aT (az (ah 0) rfl) c5 hr) aa)))))),fun ds S kk hc hd h=>?_⟩
 obtain⟨s,rfl,hj,hd2,h⟩:=h
 cases s with
 | lt a x s=>cases hj
 | dv a x wd s b=>cases hj
 | ft a x r p=>cases hj
 | pt a r p s=>cases hj
 | mq a r z=>cases hj
 | cm a c =>
  obtain⟨ns,l,i1,i2,_⟩:=oG A S c
  refine⟨_,rfl,_,_,_,_,rfl,rfl,_,rfl,_,_,_,_,rfl,rfl,Fb c,ns,l,jA c,i1,i2,c,rfl,rfl,(hd2 _ _ rfl).1,(hd2 _ _ rfl).2,_,rfl,sz 3,aP hc h⟩
noncomputable abbrev mU:Stmt:=inClass (top 18) 2
theorem DQ:ao ["self"] ["self"] (af mU):=ck
theorem Ek (F:bM K "uses" "Let.uses" mU f fd)(J:Fx K mg A)(bR:eV P w K mg base k A):aE P w K mg base bO (k+1) f fd ["self"] (aQ K (nT A n 0)):=by
 refine aR F DQ fun cdv B outer s H E hr=>?_
 rw[show ak mU=[_] from rfl]
 refine⟨_,(aS (aq (aM aF (ay (qa (az (ah 0) rfl) aa)) (aT (az (ah 0) rfl) bR hr)))),fun ds S kk hc hd h=>?_⟩
 obtain⟨s,rfl,hj,hf,hd2,h⟩:=h
 cases s with
 | lt a x s =>
  have h1:s.1.length<=4:=hf.1
  refine⟨_,rfl,_,_,_,_,rfl,rfl,_,rfl,sz 1,_,rfl,_,_,_,_,rfl,rfl,0,_,_,by decide,rfl,by decide +kernel,s,rfl,by omega,cU ?_,aP hc h⟩
  simp[Sm.bJ];omega
 | dv a x wd s b=>cases hj
 | ft a x r p=>cases hj
 | pt a r p s=>cases hj
 | mq a r z=>cases hj
 | cm a c=>cases hj
noncomputable abbrev ie:Stmt:=inClass (top 19) 2
theorem xr:ao ["self"] ["self"] (af ie):=ck
theorem xS (F:bM K "uses" "Divide.uses" ie f fd)(J:Fx K mg A)(bR:eV P w K mg base k A):aE P w K mg base bO (k+1) f fd ["self"] (aQ K (nT A n 1)):=by
 refine aR F xr fun cdv B outer s H E hr=>?_
 rw[show ak ie=[_] from rfl]
 refine⟨_,(aS (aq (aM aF (aM aF (ay (qa (az (ah 0) rfl) aa)) (aT (az (ah 0) rfl) bR hr)) (aT (az (ah 0) rfl) bR hr)))),fun ds S kk hc hd h=>?_⟩
 obtain⟨s,rfl,hj,hf,hd2,h⟩:=h
 cases s with
 | lt a x s=>cases hj
 | dv a x wd s b =>
  have h1:s.1.length<=4:=hf.1
  have h2:b.1.length<=4:=hf.2
  refine⟨_,rfl,_,_,_,_,rfl,rfl,_,rfl,sz 1,_,rfl,_,_,_,_,rfl,rfl,0,_,_,by decide,rfl,by decide +kernel,s,rfl,by omega,cU ?_,_,rfl,_,_,_,_,rfl,rfl,0,_,_,by decide,rfl,by decide +kernel,b,rfl,by omega,cU ?_,aP hc ?_⟩
  ·simp[Sm.bJ];omega
  ·simp[Sm.bJ];omega
  ·have e:ql (aX.us (.dv a x wd s b))=.tup (([T.str x]++s.bJ.map T.str)++b.bJ.map T.str):=by unfold ql aX.us;simp
   rw[e] at h
   exact h
 | ft a x r p=>cases hj
 | pt a r p s=>cases hj
 | mq a r z=>cases hj
 | cm a c=>cases hj
noncomputable abbrev jk:Stmt:=inClass (top 20) 2
theorem zg:ao ["self"] ["self"] (af jk):=ck
theorem zv (F:bM K "uses" "Fetch.uses" jk f fd)(J:Fx K mg A)(cQ:fz P w K mg base k)(bR:eV P w K mg base k A):aE P w K mg base bO (k+1) f fd ["self"] (aQ K (nT A n 2)):=by
 refine aR F zg fun cdv B outer s H E hr=>?_
 rw[show ak jk=[_] from rfl]
 refine⟨_,(aS (aq (aM aF (ay (qa (az (ah 0) rfl) (qa (ai cQ hr rfl (qa (az (ah 0) rfl) aa)) aa))) (aT (az (ah 0) rfl) bR hr)))),fun ds S kk hc hd h=>?_⟩
 obtain⟨s,rfl,hj,hf,hd2,h⟩:=h
 cases s with
 | lt a x s=>cases hj
 | dv a x wd s b=>cases hj
 | ft a x r p =>
  have h1:p.1.length<=4:=hf.1
  refine⟨_,rfl,_,_,_,_,rfl,rfl,_,rfl,_,_,_,_,rfl,rfl,r,rfl,by have:=hf.2;omega,_,rfl,sz 2,_,rfl,_,_,_,_,rfl,rfl,0,_,_,by decide,rfl,by decide +kernel,p,rfl,by omega,cU ?_,aP hc h⟩
  simp[Sm.bJ];omega
 | pt a r p s=>cases hj
 | mq a r z=>cases hj
 | cm a c=>cases hj
noncomputable abbrev mR:Stmt:=inClass (top 21) 2
theorem DN:ao ["self"] ["self"] (af mR):=ck
theorem Ei (F:bM K "uses" "Put.uses" mR f fd)(J:Fx K mg A)(cQ:fz P w K mg base k)(bR:eV P w K mg base k A):aE P w K mg base bO (k+1) f fd ["self"] (aQ K (nT A n 3)):=by
 refine aR F DN fun cdv B outer s H E hr=>?_
 rw[show ak mR=[_] from rfl]
 refine⟨_,(aS (aq (aM aF (aM aF (ay (qa (ai cQ hr rfl (qa (az (ah 0) rfl) aa)) aa)) (aT (az (ah 0) rfl) bR hr)) (aT (az (ah 0) rfl) bR hr)))),fun ds S kk hc hd h=>?_⟩
 obtain⟨t,rfl,hj,hf,hd2,h⟩:=h
 cases t with
 | lt a x s=>cases hj
 | dv a x wd s b=>cases hj
 | ft a x r p=>cases hj
 | pt a r p s =>
  have h1:p.1.length<=4:=hf.1
  have h2:s.1.length<=4:=hf.2.1
  refine⟨_,rfl,_,_,_,_,rfl,rfl,r,rfl,by have:=hf.2.2;omega,_,rfl,sz 1,_,rfl,_,_,_,_,rfl,rfl,0,_,_,by decide,rfl,by decide +kernel,p,rfl,by omega,cU ?_,_,rfl,_,_,_,_,rfl,rfl,0,_,_,by decide,rfl,by decide +kernel,s,rfl,by omega,cU ?_,aP hc ?_⟩
  ·simp[Sm.bJ];omega
  ·simp[Sm.bJ];omega
  ·have e:ql (aX.us (.pt a r p s))=.tup (([T.str (hsh r)]++p.bJ.map T.str)++s.bJ.map T.str):=by unfold ql aX.us;simp
   rw[e] at h
   exact h
 | mq a r z=>cases hj
 | cm a c=>cases hj
noncomputable abbrev kH:Stmt:=inClass (top 22) 2
theorem Bs:ao ["self"] ["self"] (af kH):=ck
theorem BV (F:bM K "uses" "Make.uses" kH f fd)(J:Fx K mg A)(cQ:fz P w K mg base k)(bR:eV P w K mg base k A):aE P w K mg base bO (k+1) f fd ["self"] (aQ K (nT A n 4)):=by
 refine aR F Bs fun cdv B outer s H E hr=>?_
 rw[show ak kH=[_] from rfl]
 refine⟨_,(aS (aq (aM aF (ay (qa (ai cQ hr rfl (qa (az (ah 0) rfl) aa)) aa)) (aT (az (ah 0) rfl) bR hr)))),fun ds S kk hc hd h=>?_⟩
 obtain⟨s,rfl,hj,hf,hd2,h⟩:=h
 cases s with
 | lt a x s=>cases hj
 | dv a x wd s b=>cases hj
 | ft a x r p=>cases hj
 | pt a r p s=>cases hj
 | mq a r z =>
  have h1:z.1.length<=4:=hf.1
  refine⟨_,rfl,_,_,_,_,rfl,rfl,r,rfl,by have:=hf.2;omega,_,rfl,sz 1,_,rfl,_,_,_,_,rfl,rfl,0,_,_,by decide,rfl,by decide +kernel,z,rfl,by omega,cU ?_,aP hc h⟩
  simp[Sm.bJ];omega
 | cm a c=>cases hj
noncomputable abbrev jq:Stmt:=inClass (top 23) 2
theorem zl:ao ["self"] ["self"] (af jq):=ck
theorem zx (F:bM K "uses" "Claim.uses" jq f fd)(J:Fx K mg A)(Ge:CQ P w K mg base k A n):aE P w K mg base bO (k+1) f fd ["self"] (aQ K (nT A n 5)):=by
 refine aR F zl fun cdv B outer s H E hr=>?_
 rw[show ak jq=[_] from rfl]
 refine⟨_,(aS (aq (aT (az (ah 0) rfl) Ge hr))),fun ds S kk hc hd h=>?_⟩
 obtain⟨s,rfl,hj,hf,hd2,h⟩:=h
 cases s with
 | lt a x s=>cases hj
 | dv a x wd s b=>cases hj
 | ft a x r p=>cases hj
 | pt a r p s=>cases hj
 | mq a r z=>cases hj
 | cm a c =>
  obtain⟨ns,l,i1,_,i2,_⟩:=oG A S c
  exact⟨_,rfl,_,_,_,_,rfl,rfl,Fb c,ns,l,jA c,i1,i2,c,rfl,rfl,hd2 _ _ rfl,hf,aP hc h⟩
noncomputable abbrev gY:Stmt:=inClass (top 17) 2
theorem xj:ao ["self"] ["self"] (af gY):=ck
theorem cX {j:Nat}(F:bM K "blocks" "Step.blocks" gY f fd)(J:Fx K mg A) :aE P w K mg base bO (k+1) f fd ["self"] (aQ K (K9 A j)):=by
 refine aR F xj fun cdv B outer s H E hr=>?_
 rw[show ak gY=[_] from rfl]
 refine⟨_,(aS (aq (ay aa))),fun ds S kk hc hd h=>?_⟩
 obtain⟨s,rfl,hj,h⟩:=h
 exact⟨_,rfl,sz 0,aP hc h⟩
noncomputable abbrev mK:Stmt:=top 28
theorem DI:ao ["pairs"] ["pairs"] (af mK):=ck
theorem Ec (F:bM K "as_pairs" "as_pairs" mK f fd)(J:Fx K mg A) :aE P w K mg base bO (k+1) f fd ["pairs"] (aQ K (Ht A)):=by
 refine aR F DI fun cdv B outer s H E hr=>?_
 rw[show ak mK=[_] from rfl]
 refine⟨_,(aS (aq (bh bX (by rfl) J.bU boot_tuple (qa (cV (aY ["pair"] [] [] rfl (by decide +kernel) (by decide +kernel) (by with_unfolding_all rfl) (by exact trivial) (by rfl) rfl (by rfl)) rfl (qi (ah 0)) (fun _ _ _ _=>(qx (i:=0) (show List.Nodup (["pair"]:List Str) by decide +kernel))) (fun _ _ _ _=>b9) (fun _ _ _ _=>(bh bX (by rfl) J.bU boot_tuple (qa (ah 0) aa)))) aa)))),fun ds S kk hc hd h=>?_⟩
 obtain⟨d,l,rfl,h1,h2,h⟩:=h
 exact⟨_,rfl,QN h1 fun G hG=>gy (atT A) (atT A) (by simpa using hG []) (cU (by omega)) (fun x _ k' hk=>⟨_,rfl,_,rfl,_,rfl,hk⟩) ⟨_,rfl,aP hc h⟩⟩
noncomputable abbrev jh:Stmt:=top 30
theorem zd:ao ["pairs"] ["pairs"] (af jh):=ck
theorem zq (F:bM K "told_pairs" "told_pairs" jh f fd)(J:Fx K mg A)(c5:jY P w K mg base k A n):aE P w K mg base bO (k+1) f fd ["pairs"] (aQ K (Hq A n)):=by
 refine aR F zd fun cdv B outer s H E hr=>?_
 rw[show ak jh=[_] from rfl]
 refine⟨_,(aS (aq (bh bX (by rfl) J.bU boot_tuple (qa (cV (aY ["at","condition"] [] [] rfl (by decide +kernel) (by decide +kernel) (by with_unfolding_all rfl) (by exact trivial) (by rfl) rfl (by rfl)) rfl (qi (ah 0)) (fun _ _ _ _=>(qN (n:=2) rfl (HK (qx (i:=0) (show List.Nodup (["at","condition"]:List Str) by decide +kernel)) (HK (qx (i:=1) (show List.Nodup (["at","condition"]:List Str) by decide +kernel)) mY)))) (fun _ _ _ _=>b9) (fun _ _ _ _=>(ay (qa (ah 0) (qa (aT (ah 1) c5 hr) aa))))) aa)))),fun ds S kk hc hd h=>?_⟩
 obtain⟨l,rfl,h1,h2,h⟩:=h
 refine⟨_,rfl,cO (gy (atT A) Vo trivial (cU (by omega)) (fun x hx k' hk=>?_) ⟨_,rfl,aP hc h⟩)⟩
 obtain⟨ns,l,i1,i2,_⟩:=oG A S x.2
 exact⟨_,rfl,rfl,_,_,rfl,_,_,rfl,rfl,_,rfl,_,rfl,Fb x.2,ns,l,jA x.2,i1,i2,x.2,rfl,rfl,(h2 x hx).1,(h2 x hx).2,_,rfl,sz 2,_,rfl,hk⟩
noncomputable abbrev ki:Stmt:=top 29
theorem Bj:ao ["parts"] ["parts"] (af ki):=ck
theorem sr {q:Bool}(F:bM K "told_each" "told_each" ki f fd)(J:Fx K mg A)(L1:G0 P w K mg base k A n q):aE P w K mg base bO (k+1) f fd ["parts"] (aQ K (Bb A n q)):=by
 refine aR F Bj fun cdv B outer s H E hr=>?_
 rw[show ak ki=[_] from rfl]
 refine⟨_,(aS (aq (bh bX (by rfl) J.bU boot_tuple (qa (cV (aY ["part"] [] [] rfl (by decide +kernel) (by decide +kernel) (by with_unfolding_all rfl) (by exact trivial) (by rfl) rfl (by rfl)) rfl (qi (ah 0)) (fun _ _ _ _=>(qx (i:=0) (show List.Nodup (["part"]:List Str) by decide +kernel))) (fun _ _ _ _=>b9) (fun _ _ _ _=>(aT (ah 0) L1 hr))) aa)))),fun ds S kk hc hd h=>?_⟩
 obtain⟨l,rfl,h1,h2,h⟩:=h
 refine⟨_,rfl,cO (gy (fun p:T×T=>p.1) (fun p=>p.2) trivial (cU (by omega)) (fun x hx k' hk=>?_) ⟨_,rfl,aP hc h⟩)⟩
 obtain⟨j,tx⟩:=h2 x hx
 obtain⟨ns,l,i1,i2,i3⟩:=Yu A S tx
 exact⟨_,rfl,j,ns,l,i3,i1,i2,x.1,x.2,rfl,tx,_,rfl,hk⟩
noncomputable abbrev fX:Stmt:=top 32
theorem fF:ao ["steps","found","step","block"] ["steps"] (af fX):=ck
theorem vA (F:bM K "steps_within" "steps_within" fX f fd)(J:Fx K mg A)(xZ:yO P w K mg base k A)(jS:Dn P w K mg base k "steps_within" ["steps"] (aQ K I0)):aE P w K mg base bO (k+1) f fd ["steps"] (aQ K (Du A)):=by
 refine aR F fF fun cdv B outer s H E hr=>?_
 rw[show ak fX=[_,_,_] from rfl]
 refine⟨_,(qs (au (i:=1) fF.nd (jG aa)) (qs (bK PassesOwn.never rfl (qi (ah 0)) (qg (i:=2) fF.nd) (qs (jF (uX (ah 1) (qa (ah 2) aa))) (aS (bK PassesOwn.never rfl (qi (aT (ah 2) xZ hr)) (qg (i:=3) fF.nd) (aS (jF (DU (ah 1) (qa (ai jS hr rfl (qa (ah 3) aa)) aa)))))))) (aS (aq (ah 1))))),fun ds S kk hc hd h=>?_⟩
 obtain⟨d,l,rfl,h1,h2,h⟩:=h
 refine⟨_,rfl,sz 0,_,rfl,Ib h1 fun G hG=>eW (nQ A) (fun pre δ S'=>∃ x y,δ=[some d,some (D.ob (S.length+0)),x,y]/\S'=S++[O.lst (pre.map (nQ A))]) ⟨_,_,rfl,rfl⟩ ?_ ?_⟩
 ·rintro pre s post δ S' N rfl ⟨x,y,rfl,rfl⟩ hN
  obtain⟨ns,l,i1,_,_,i2,_⟩:=Ie A (S++[O.lst (pre.map (nQ A)++[nQ A s])]) s
  refine⟨hG _,_,rfl,⟨rfl,_,iS rfl⟩,_,rfl,_,eS,Fq (by simp at h2 ⊢;omega),?_⟩
  rw[dU]
  refine⟨_,rfl,kd s,ns,l,sF s,i1,i2,s,rfl,rfl,cO ⟨trivial,hN _ _ ⟨_,_,rfl,?_⟩⟩⟩
  rw[List.map_append]
  rfl
 ·rintro δ S' ⟨x,y,rfl,rfl⟩
  exact⟨hG _,_,rfl,M0 hc rfl h⟩
noncomputable abbrev fY:Stmt:=top 33
theorem nv:ao ["step","rows"] ["step"] (af fY):=ck
theorem vB (F:bM K "rows_of_step" "rows_of_step" fY f fd)(J:Fx K mg A)(Td:Nc P w K mg base k A n):aE P w K mg base bO (k+1) f fd ["step"] (aQ K (Dv A n)):=by
 refine aR F nv fun cdv B outer s H E hr=>?_
 rw[show ak fY=[_,_,_] from rfl]
 refine⟨_,(qs (au (i:=1) nv.nd (jG (qa (ay (qa (az (ah 0) rfl) (qa (aT (ah 0) Td hr) aa))) aa))) (qs (aZ (fK (bz (kP (c:=.ref A.dF) trivial rfl) (by rfl) J.bw boot_isinstance (qa (ah 0) (qa (gF (bW (v:=.ref A.dF) rfl J.lM rfl)) aa)))) iy aJ) (aS (aq (ah 1))))),fun ds S kk hc hd h=>?_⟩
 obtain⟨s,rfl,ok,h⟩:=h
 obtain⟨ns,l,i1,_,i2,_,i3⟩:=Ie A S s
 refine⟨_,rfl,_,_,_,_,i1,i3,_,rfl,kd s,ns,l,sF s,i1,i2,s,rfl,rfl,ok.few,ok.dep,_,rfl,sz 2,_,rfl,sz 1,_,rfl,rfl,_,false,z9 A _ s,qR (i:=7) J.kk (by have:=sF s;omega) (by decide) (by have:=sF s;omega),_,rfl,_,rfl,M0 (j:=0) hc rfl h⟩
noncomputable abbrev fZ:Stmt:=top 34
theorem dI:ao ["helper","found","step","at","things"] ["helper"] (af fZ):=ck
theorem vC (F:bM K "other_things" "other_things" fZ f fd)(J:Fx K mg A)(jS:uL P w K mg base k A)(yv:uM P w K mg base k A n):aE P w K mg base bO (k+1) f fd ["helper"] (aQ K (Hu A n)):=by
 refine aR F dI fun cdv B outer s H E hr=>?_
 rw[show ak fZ=[_,_,_] from rfl]
 refine⟨_,(qs (au (i:=1) dI.nd (bh Px (by rfl) J.GN boot_list (qa (az (ah 0) rfl) aa))) (qs (bK PassesOwn.never rfl (qi (ai jS hr rfl (qa (az (ah 0) rfl) aa))) (qg (i:=2) dI.nd) (aS (bK PassesOwn.never rfl (qi (ai yv hr rfl (qa (ah 2) aa))) (mZ (n:=2) rfl (Ak (qg (i:=3) dI.nd) (Ak (qg (i:=4) dI.nd) ju))) (aS (jF (DU (ah 1) (qa (ah 4) aa))))))) (aS (aq (a00 rfl J.lV rfl J.IQ rfl (ah 1) (az (ah 0) rfl)))))),fun ds S kk hc hd h=>?_⟩
 obtain⟨x,N,rfl,ok,h⟩:=h
 obtain⟨p1,p2,p3,_⟩:=ok.pl
 have hlen:∀ l:List aX,(∀ s∈l,s∈x.steps)->((l.map aX.us).flatten).length<=56*l.length:=by
  intro l
  induction l with
  | nil=>intro _;exact Nat.le_refl _
  | cons a r ih =>
   intro hm
   rw[List.map_cons,List.flatten_cons,List.length_append,List.length_cons]
   have:=ih fun s hs'=>hm s (List.mem_cons_of_mem _ hs')
   have:=Kp (ok.st a (hm a List.mem_cons_self))
   omega
 refine⟨_,rfl,_,_,_,_,rfl,rfl,_,rfl,_,rfl,_,_,_,_,rfl,rfl,_,_,rfl,rfl,by omega,jP ?_⟩
 refine eW (nQ A) (fun pre δ S'=>∃ y z w,δ=[some (D.t (Ij A x)),some (D.ob (S.length+0)),y,z,w]/\S'=S++[O.lst ((x.answers++(pre.map aX.us).flatten).map T.str)]) ⟨_,_,_,rfl,by simp⟩ ?_ ?_
 ·rintro pre s post δ S' Nx e ⟨y,z,w,rfl,rfl⟩ hN
  have hs:s∈x.steps:=by rw[e];simp
  have hu:=Kp (ok.st s hs)
  have h1:=hlen pre fun s hs'=>by rw[e];exact List.mem_append_left _ hs'
  have h2:pre.length<=12:=by rw[e,List.length_append] at p3;omega
  refine⟨trivial,_,rfl,s,rfl,ok.st s hs,jP ⟨trivial,_,rfl,rfl,_,_,rfl,_,_,rfl,rfl,?_⟩⟩
  refine⟨_,rfl,⟨rfl,_,iS rfl⟩,_,rfl,_,_,eS,rfl,cU (by rw[List.length_map,List.length_map,List.length_append];omega),?_⟩
  rw[dU]
  refine⟨trivial,hN _ _ ⟨_,_,_,rfl,?_⟩⟩
  rw[List.map_append (l₁:=pre),List.flatten_append]
  simp
 ·rintro δ S' ⟨y,z,w,rfl,rfl⟩
  have h1:=hlen x.steps fun _ h=>h
  refine⟨trivial,_,rfl,_,N,iS rfl,by rw[List.length_append];omega,ok.nl,?_,_,rfl,_,_,_,_,rfl,rfl,x.params,rfl,by omega,JS hc h⟩
  intro u hu
  rcases List.mem_append.mp hu with hu | hu
  ·exact ok.an u hu
  ·obtain⟨l,hl,hul⟩:=List.mem_flatten.mp hu
   obtain⟨s,hs,rfl⟩:=List.mem_map.mp hl
   exact ok.us s hs u hul
noncomputable abbrev ic:Stmt:=inClass (top 66) 0
theorem xo:ao ["self","at","name","params","answers","needs","gives","steps"] ["self","at","name","params","answers","needs","gives","steps"] (af ic):=ck
theorem xR (F:bM K "__init__" "Helper.__init__" ic f fd)(J:Fx K mg A)(yx:C1 P w K mg base k A):aE P w K mg base bO (k+1) f fd ["self","at","name","params","answers","needs","gives","steps"] (aQ K (K6 A)):=by
 refine aR F xo fun cdv B outer s H E hr=>?_
 rw[show ak ic=[_,_,_,_,_,_,_] from rfl]
 refine⟨_,(qs (bu (ah 0) (ah 1) rfl) (qs (bu (ah 0) (ah 2) rfl) (qs (bu (ah 0) (bh bX (by rfl) J.bU boot_tuple (qa (ah 3) aa)) rfl) (qs (bu (ah 0) (bh bX (by rfl) J.bU boot_tuple (qa (ah 4) aa)) rfl) (qs (bu (ah 0) (ai yx hr rfl (qa (ah 5) aa)) rfl) (qs (bu (ah 0) (ai yx hr rfl (qa (ah 6) aa)) rfl) (aS (bu (ah 0) (bh bX (by rfl) J.bU boot_tuple (qa (ah 7) aa)) rfl)))))))),fun ds S kk hc hd h=>?_⟩
 obtain⟨i,a,x,d1,d2,d3,d4,d5,h,rfl,h1,e1,e2,e3,e4,e5,l3,l4,hk⟩:=h
 have hz:=(List.getElem?_eq_some_iff.mp h1).1
 refine⟨_,rfl,_,rfl,_,_,_,_,rfl,h1,J.iJ,by decide,_,rfl,_,rfl,_,_,_,_,rfl,NG hz,J.fc,by decide,?_⟩
 rw[List.set_set]
 refine⟨_,rfl,_,Di (wK h1 e1),_,rfl,_,_,_,_,rfl,NG hz,J.dJ,by decide,?_⟩
 rw[List.set_set]
 refine⟨_,rfl,_,Di (wK h1 e2),_,rfl,_,_,_,_,rfl,NG hz,J.cY,by decide,?_⟩
 rw[List.set_set]
 refine⟨_,rfl,_,_,rfl,wK h1 e3,l3,_,rfl,_,_,_,_,rfl,NG hz,J.d8,by decide,?_⟩
 rw[List.set_set]
 refine⟨_,rfl,_,_,rfl,wK h1 e4,l4,_,rfl,_,_,_,_,rfl,NG hz,J.d9,by decide,?_⟩
 rw[List.set_set]
 refine⟨_,rfl,_,Di (wK h1 e5),_,rfl,_,_,_,_,rfl,NG hz,J.d7,by decide,?_⟩
 rw[List.set_set]
 exact .inr (.inr (.inr hk))
noncomputable abbrev gh:Stmt:=inClass (top 67) 0
theorem vq:ao ["self","helpers"] ["self","helpers"] (af gh):=ck
theorem vF (F:bM K "__init__" "Program.__init__" gh f fd)(J:Fx K mg A) :aE P w K mg base bO (k+1) f fd ["self","helpers"] (aQ K (KQ A)):=by
 refine aR F vq fun cdv B outer s H E hr=>?_
 rw[show ak gh=[_] from rfl]
 refine⟨_,(aS (bu (ah 0) (bh bX (by rfl) J.bU boot_tuple (qa (ah 1) aa)) rfl)),fun ds S kk hc hd h=>?_⟩
 obtain⟨i,d,hs,rfl,h1,e1,hk⟩:=h
 exact⟨_,rfl,_,Di e1,_,rfl,_,_,_,_,rfl,h1,J.cK,by decide,.inr (.inr (.inr hk))⟩
noncomputable abbrev v9:Stmt:=inClass (top 67) 1
theorem DG:ao ["self","name","helper"] ["self","name"] (af v9):=ck
theorem LK (F:bM K "named" "Program.named" v9 f fd)(J:Fx K mg A) :aE P w K mg base bO (k+1) f fd ["self","name"] (aQ K (Bd A)):=by
 refine aR F DG fun cdv B outer s H E hr=>?_
 rw[show ak v9=[_,_] from rfl]
 refine⟨_,(qs (bK PassesOwn.never rfl (qi (az (ah 0) rfl)) (qg (i:=2) DG.nd) (aS (aZ (aL (dW 40 (uE hr)) (az (ah 2) rfl) (ah 1) (aN _)) (aS (aq (ah 2))) aJ))) (aS (aq WH))),fun ds S kk hc hd h=>?_⟩
 obtain⟨x,xs,rfl,h⟩:=h
 refine⟨_,rfl,_,_,_,_,rfl,rfl,cO ⟨trivial,_,rfl,_,_,_,_,rfl,rfl,_,rfl,rfl,_,rfl,?_⟩⟩
 rw[decide_eq_true rfl]
 exact⟨_,rfl,aP hc h⟩
noncomputable abbrev gf:Stmt:=inClass (top 67) 2
theorem vp:ao ["self"] ["self"] (af gf):=ck
theorem vE (F:bM K "told" "Program.told" gf f fd)(J:Fx K mg A)(oO:Dn P w K mg base k "told_each" ["parts"] (aQ K (Bb A n true))):aE P w K mg base bO (k+1) f fd ["self"] (aQ K (wR A n)):=by
 refine aR F vp fun cdv B outer s H E hr=>?_
 rw[show ak gf=[_] from rfl]
 refine⟨_,(aS (aq (ai oO hr rfl (qa (az (ah 0) rfl) aa)))),fun ds S kk hc hd h=>?_⟩
 obtain⟨x,rfl,tx,h⟩:=h
 exact⟨_,rfl,_,_,_,_,rfl,rfl,[(Ij A x,Q3 x)],rfl,by simp,fun p hp=>⟨6,by rw[List.mem_singleton.mp hp];exact .h x tx rfl⟩,aP hc h⟩
noncomputable abbrev ia:Stmt:=inClass (top 66) 1
theorem xm:ao ["self"] ["self"] (af ia):=ck
theorem oj (F:bM K "told" "Helper.told" ia f fd)(J:Fx K mg A)(oO:Dn P w K mg base k "told_each" ["parts"] (aQ K (Bb A n false)))(sS:yP P w K mg base k A n):aE P w K mg base bO (k+1) f fd ["self"] (aQ K (rR A n)):=by
 refine aR F xm fun cdv B outer s H E hr=>?_
 rw[show ak ia=[_] from rfl]
 refine⟨_,(aS (aq (ay (qa aA (qa (az (ah 0) rfl) (qa (az (ah 0) rfl) (qa (az (ah 0) rfl) (qa (az (ah 0) rfl) (qa (ai sS hr rfl (qa (az (ah 0) rfl) aa)) (qa (ai sS hr rfl (qa (az (ah 0) rfl) aa)) (qa (ai oO hr rfl (qa (az (ah 0) rfl) aa)) aa))))))))))),fun ds S kk hc hd h=>?_⟩
 obtain⟨x,rfl,tx,h⟩:=h
 obtain⟨h1,h2,h3,hl⟩:=tx
 refine⟨_,rfl,_,_,_,_,rfl,rfl,_,rfl,_,_,_,_,rfl,rfl,_,rfl,_,_,_,_,rfl,rfl,_,rfl,_,_,_,_,rfl,rfl,_,rfl,_,_,_,_,rfl,rfl,x.needs,rfl,hl.1,h1,_,rfl,_,_,_,_,rfl,rfl,x.gives,rfl,hl.2.1,h2,_,rfl,_,_,_,_,rfl,rfl,x.steps.map (fun s=>(nQ A s,E9 s)),?_,by rw[List.length_map];exact hl.2.2,?_,_,rfl,sz 8,aP hc ?_⟩
 ·rw[List.map_map];rfl
 ·intro p hp
  obtain⟨s,hs,rfl⟩:=List.mem_map.mp hp
  exact⟨_,.s s (h3 s hs)⟩
 ·rw[List.map_map];exact h
noncomputable abbrev pZ:Stmt:=top 46
theorem FJ:ao ["one","other"] ["one","other"] (af pZ):=ck
theorem F7 (F:bM K "at_most" "at_most" pZ f fd)(J:Fx K mg A)(gI:o7 P w K mg base k A):aE P w K mg base bO (k+1) f fd ["one","other"] (aQ K (Qm A)):=by
 refine aR F FJ fun cdv B outer s H E hr=>?_
 rw[show ak pZ=[_] from rfl]
 refine⟨_,(aS (aq (gG gI hr rfl (qa (ah 0) (qa aA (qa (ah 1) aa)))))),fun ds S kk hc hd h=>?_⟩
 obtain⟨a,b,rfl,h⟩:=h
 exact⟨_,rfl,_,rfl,_,[iC A a,.str "<=",iC A b],rfl,rfl,av,made (aP hc (by unfold yY eX at h;exact h))⟩
noncomputable abbrev gT:Stmt:=top 47
theorem w9:ao ["total"] ["total"] (af gT):=ck
theorem xO (F:bM K "from_nought" "from_nought" gT f fd)(J:Fx K mg A)(fN:pe P w K mg base k A)(jd:nq P w K mg base k A):aE P w K mg base bO (k+1) f fd ["total"] (aQ K (Ql A)):=by
 refine aR F w9 fun cdv B outer s H E hr=>?_
 rw[show ak gT=[_] from rfl]
 refine⟨_,(aS (aq (ai fN hr rfl (qa (gG jd hr rfl (qa (ay aa) (qa aj aa))) (qa (ah 0) aa))))),fun ds S kk hc hd h=>?_⟩
 obtain⟨a,rfl,h⟩:=h
 exact⟨_,rfl,sz 0,_,_,[],0,rfl,av,rfl,by simp,made ⟨_,rfl,([],0),a,rfl,aP hc h⟩⟩
noncomputable abbrev HH:Stmt:=top 48
theorem RP:ao ["thing","total"] ["thing","total"] (af HH):=ck
theorem SR (F:bM K "let" "let" HH f fd)(J:Fx K mg A) :aE P w K mg base bO (k+1) f fd ["thing","total"] (aQ K (Qi A)):=by
 refine aR F RP fun cdv B outer s H E hr=>?_
 rw[show ak HH=[_] from rfl]
 refine⟨_,(aS (aq (ay (qa aA (qa (ah 0) (qa (ah 1) aa)))))),fun ds S kk hc hd h=>?_⟩
 obtain⟨x,s,rfl,h⟩:=h
 exact⟨_,rfl,_,rfl,_,rfl,sz 3,aP hc h⟩
noncomputable abbrev BA:Stmt:=top 49
theorem N5:ao ["condition"] ["condition"] (af BA):=ck
theorem OQ (F:bM K "hold" "hold" BA f fd)(J:Fx K mg A) :aE P w K mg base bO (k+1) f fd ["condition"] (aQ K (K5 A)):=by
 refine aR F N5 fun cdv B outer s H E hr=>?_
 rw[show ak BA=[_] from rfl]
 refine⟨_,(aS (aq (ay (qa aA (qa (ah 0) aa))))),fun ds S kk hc hd h=>?_⟩
 obtain⟨c,rfl,h⟩:=h
 exact⟨_,rfl,_,rfl,sz 2,aP hc h⟩
noncomputable abbrev mG:Stmt:=top 50
theorem DH:ao ["writings"] ["writings"] (af mG):=ck
theorem D9 (F:bM K "holds_of" "holds_of" mG f fd)(J:Fx K mg A)(qY:tE P w K mg base k A):aE P w K mg base bO (k+1) f fd ["writings"] (aQ K (HC A)):=by
 refine aR F DH fun cdv B outer s H E hr=>?_
 rw[show ak mG=[_] from rfl]
 refine⟨_,(aS (aq (bh bX (by rfl) J.bU boot_tuple (qa (cV (aY ["at","condition"] [] [] rfl (by decide +kernel) (by decide +kernel) (by with_unfolding_all rfl) (by exact trivial) (by rfl) rfl (by rfl)) rfl (qi (ah 0)) (fun _ _ _ _=>(qN (n:=2) rfl (HK (qx (i:=0) (show List.Nodup (["at","condition"]:List Str) by decide +kernel)) (HK (qx (i:=1) (show List.Nodup (["at","condition"]:List Str) by decide +kernel)) mY)))) (fun _ _ _ _=>b9) (fun _ _ _ _=>(ai qY hr rfl (qa (ah 1) aa)))) aa)))),fun ds S kk hc hd h=>?_⟩
 obtain⟨l,rfl,h1,h⟩:=h
 refine⟨_,rfl,cO (gy (atT A) (fun p=>qt A (.hd p.2)) trivial (cU (by omega)) (fun x hx k' hk=>⟨_,rfl,rfl,_,_,rfl,_,_,rfl,rfl,_,rfl,x.2,rfl,_,rfl,hk⟩) ⟨_,rfl,aP hc ?_⟩)⟩
 rw[List.map_map] at h
 exact h
noncomputable abbrev gO:Stmt:=top 51
theorem wW:ao ["thing"] ["thing"] (af gO):=ck
theorem xK (F:bM K "rows_of_any" "rows_of_any" gO f fd)(J:Fx K mg A)(EO:zS P w K mg base k)(qY:tE P w K mg base k A)(fm:iX P w K mg base k A)(k7:s9 P w K mg base k A):aE P w K mg base bO (k+1) f fd ["thing"] (aQ K (Ae A)):=by
 refine aR F wW fun cdv B outer s H E hr=>?_
 rw[show ak gO=[_,_] from rfl]
 refine⟨_,(qs (aZ (fK (ai EO hr rfl (qa (ah 0) aa))) (aS (aq (ay (qa (ay (qa aA (qa (ah 0) aa))) (qa (ai qY hr rfl (qa (ai fm hr rfl (qa (ai k7 hr rfl (qa (ah 0) aa)) aa)) aa)) aa))))) aJ) (aS (aq (ay (qa (ay (qa aA (qa (ah 0) aa))) aa))))),fun ds S kk hc hd h=>?_⟩
 obtain⟨x,rfl,h⟩:=h
 refine⟨_,rfl,x,rfl,_,rfl,?_⟩
 unfold aW at h
 cases e:Txt.startswith x "#" with
 | true =>
  rw[if_pos e] at h
  exact⟨_,rfl,_,rfl,sz 2,_,rfl,x,rfl,on x,rfl,_,rfl,_,rfl,sz 2,aP hc h⟩
 | false =>
  rw[if_neg (by rw[e];decide)] at h
  exact⟨_,rfl,_,rfl,sz 2,_,rfl,sz 1,aP hc h⟩
noncomputable abbrev fH:Stmt:=top 52
theorem cC:ao ["helper","path","param","thing"] ["helper"] (af fH):=ck
theorem ue (F:bM K "path_at_first" "path_at_first" fH f fd)(J:Fx K mg A)(GJ:CY P w K mg base k A)(yw:uN P w K mg base k A n)(vg:CU P w K mg base k A)(jd:nq P w K mg base k A)(dP:iV P w K mg base k A):aE P w K mg base bO (k+1) f fd ["helper"] (aQ K (Hs A n)):=by
 refine aR F cC fun cdv B outer s H E hr=>?_
 rw[show ak fH=[_,_,_,_] from rfl]
 refine⟨_,(qs (au (i:=1) cC.nd (ay aa)) (qs (bK PassesOwn.never rfl (qi (az (ah 0) rfl)) (qg (i:=2) cC.nd) (aS (au (i:=1) cC.nd (aM aF (ah 1) (ai dP hr rfl (qa (ah 2) aa)))))) (qs (bK PassesOwn.never rfl (qi (ai yw hr rfl (qa (ah 0) aa))) (qg (i:=3) cC.nd) (aS (au (i:=1) cC.nd (aM aF (ah 1) (ay (qa (ai vg hr rfl (qa (ah 3) (qa (gG jd hr rfl (qa (ay aa) (qa aj aa))) aa))) aa)))))) (aS (aq (aM aF (ah 1) (ai GJ hr rfl (qa (az (ah 0) rfl) aa)))))))),fun ds S kk hc hd h=>?_⟩
 obtain⟨x,N,rfl,ok,h⟩:=h
 obtain⟨p1,p2,p3,p4,p5⟩:=ok.pl
 refine⟨_,rfl,sz 0,_,rfl,_,_,_,_,rfl,rfl,cO ?_⟩
 refine eW T.str (fun pre δ S'=>∃ y z,δ=[some (D.t (Ij A x)),some (.tup (((pre.map aW).flatten).map (qt A))),y,z]/\S'=S) ⟨_,_,rfl,rfl⟩ ?_ ?_
 ·rintro pre s post δ S' Nx e ⟨y,z,rfl,rfl⟩ hN
  have h1:=lE pre
  have h2:=gA s
  have h3:pre.length<=8:=by rw[e,List.length_append] at p1;omega
  refine⟨trivial,_,rfl,_,rfl,s,rfl,cU (by rw[List.length_map,List.length_map];omega),?_⟩
  rw[<- lS]
  exact hN _ _ ⟨_,_,rfl,rfl⟩
 ·rintro δ S0 ⟨y,z,rfl,rfl⟩
  have h1:=lE x.params
  have h2:=BH ok
  refine⟨trivial,_,rfl,x,N,rfl,ok,jP ?_⟩
  refine eW T.str (fun pre δ S'=>∃ y z,δ=[some (D.t (Ij A x)),some (.tup ((((x.params.map aW).flatten)++pre.map fun x=>iA.lt x ([],0)).map (qt A))),y,z]/\S'=S0) ⟨y,z,by rw[List.map_nil,List.append_nil],rfl⟩ ?_ ?_
  ·rintro pre s post δ S' Nx e ⟨y,z,rfl,rfl⟩ hN
   have h3:pre.length<=8:=by rw[e,List.length_append] at h2;omega
   refine⟨trivial,_,rfl,_,rfl,_,rfl,sz 0,_,_,[],0,rfl,av,rfl,by simp,made ⟨s,([],0),rfl,_,rfl,sz 1,cU (by simp only[List.length_append,List.length_map,List.length_cons,List.length_nil];omega),?_⟩⟩
   have e2:(((x.params.map aW).flatten)++(pre++[s]).map fun x=>iA.lt x ([],0)).map (qt A)=(((x.params.map aW).flatten)++pre.map fun x=>iA.lt x ([],0)).map (qt A)++[qt A (.lt s ([],0))]:=by simp
   rw[<- e2]
   exact hN _ _ ⟨_,_,rfl,rfl⟩
  ·rintro δ S' ⟨y,z,rfl,rfl⟩
   refine⟨trivial,_,rfl,_,rfl,_,_,_,_,rfl,rfl,x.needs,rfl,by omega,cU (by simp only[List.length_append,List.length_map,List.length_cons,List.length_nil];omega),aP hc ?_⟩
   rw[<- List.map_append]
   exact h
noncomputable abbrev kL:Stmt:=inClass (top 43) 0
theorem Bw:ao ["self","program"] ["self","program"] (af kL):=ck
theorem BY (F:bM K "__init__" "Book.__init__" kL f fd)(J:Fx K mg A) :aE P w K mg base bO (k+1) f fd ["self","program"] (aQ K (La A)):=by
 refine aR F Bw fun cdv B outer s H E hr=>?_
 rw[show ak kL=[_,_] from rfl]
 refine⟨_,(qs (bu (ah 0) (ah 1) rfl) (aS (bu (ah 0) (jG aa) rfl))),fun ds S kk hc hd h=>?_⟩
 obtain⟨i,pg,rfl,h1,h⟩:=h
 have hz:=(List.getElem?_eq_some_iff.mp h1).1
 refine⟨_,rfl,_,rfl,_,_,_,_,rfl,h1,J.eB,by decide,_,rfl,sz 0,_,rfl,_,_,_,_,rfl,qG (NG hz),J.gu,by decide,?_⟩
 rw[List.set_append_left _ _ (by rw[List.length_set];exact hz),List.set_set,List.length_set]
 exact nJ h
noncomputable abbrev HG:Stmt:=inClass (top 43) 1
theorem RO:ao ["self","path","kind","at","condition"] ["self","path","kind","at","condition"] (af HG):=ck
theorem SQ {q:Nat}(F:bM K "owe" "Book.owe" HG f fd)(J:Fx K mg A)(qY:tE P w K mg base k A)(Gm:Ng P w K mg base k A):aE P w K mg base bO (k+1) f fd ["self","path","kind","at","condition"] (aQ K (KR A q)):=by
 obtain⟨NU,m8⟩:=J.m8
 refine aR F RO fun cdv B outer s H E hr=>?_
 rw[show ak HG=[_,_,_] from rfl]
 refine⟨_,(qs (aZ (aL (dW 40 (uE hr)) (bz nD (by rfl) J.nE PySem.boot_len (qa (az (ah 0) rfl) aa)) (gF (bW (v:=.int 100) rfl m8 ⟨_,rfl⟩)) (aN _)) iy aJ) (qs (jF (uX (az (ah 0) rfl) (qa (gG Gm hr rfl (qa (ah 2) (qa (ah 3) (qa (ah 1) (qa (ah 4) aa))))) aa))) (aS (aq (aM aF (ah 1) (ay (qa (ai qY hr rfl (qa (ah 4) aa)) aa))))))),fun ds S kk hc hd h=>?_⟩
 obtain⟨i,j,pg,c7,p,kn,a,c,rfl,hB,h1,h2,h⟩:=h
 refine⟨_,rfl,_,_,_,_,qD hB.1,rfl,_,nS hB.2,rfl,_,rfl,?_⟩
 rw[qS,Bool.false_xor,decide_eq_false (by rw[List.length_map];omega)]
 refine⟨_,rfl,_,_,_,_,qD hB.1,rfl,⟨rfl,_,jc hB.2⟩,_,rfl,_,rfl,_,rfl,_,rfl,_,[.str kn,.int a,.tup (p.map (qt A)),eX A c],rfl,rfl,av,made ⟨_,hB.2,Fq (by rw[List.length_map];omega),?_⟩⟩
 refine⟨_,rfl,_,rfl,c,rfl,_,rfl,sz 1,cU (by simp;omega),nJ ?_⟩
 rw[List.map_append,List.map_append] at h
 exact h
noncomputable abbrev mD:Stmt:=inClass (top 43) 2
theorem kg:ao ["self","path","kind","writings","at","condition"] ["self","path","kind","writings"] (af mD):=ck
theorem D6 {q:Nat}(F:bM K "owe_each" "Book.owe_each" mD f fd)(J:Fx K mg A)(xY:CT P w K mg base k A):aE P w K mg base bO (k+1) f fd ["self","path","kind","writings"] (aQ K (Fz A q)):=by
 refine aR F kg fun cdv B outer s H E hr=>?_
 rw[show ak mD=[_,_] from rfl]
 refine⟨_,(qs (bK PassesOwn.never rfl (qi (ah 3)) (mZ (n:=2) rfl (Ak (qg (i:=4) kg.nd) (Ak (qg (i:=5) kg.nd) ju))) (aS (au (i:=1) kg.nd (fL (ah 0) xY hr (qa (ah 1) (qa (ah 2) (qa (ah 4) (qa (ah 5) aa)))))))) (aS (aq (ah 1)))),fun ds S kk hc hd h=>?_⟩
 obtain⟨i,j,pg,c7,p,kn,l,rfl,hB,h1,h2,h⟩:=h
 refine⟨_,rfl,cO (eW (atT A) (fun pre δ S'=>∃ y z,δ=[some (D.ob i),some (.tup ((bA kn p pre).2.map (qt A))),some (.str kn),some (.tup (l.map (atT A))),y,z]/\S'=S.set j (.lst ((c7++(bA kn p pre).1).map (JN A)))) ⟨_,_,rfl,?_⟩ ?_ ?_)⟩
 ·have e:c7++(bA kn p []).1=c7:=by unfold bA;simp
  rw[e,set_same hB.2]
 ·rintro pre x post δ S' N e ⟨y,z,rfl,rfl⟩ hN
  have hl1:=qd kn p pre
  have hl2:=uv kn p pre
  have hp:pre.length < l.length:=by rw[e];simp
  refine⟨trivial,_,rfl,rfl,_,_,rfl,_,_,rfl,rfl,?_⟩
  refine⟨_,rfl,0,_,_,by decide,qD (hB.put _).1,by decide +kernel,_,rfl,_,rfl,_,rfl,_,rfl,i,j,pg,_,_,kn,x.1,x.2,rfl,hB.put _,by rw[List.length_append];omega,by omega,?_⟩
  rw[List.set_set,List.append_assoc,<- qX,<- qW]
  exact hN _ _ ⟨_,_,rfl,rfl⟩
 ·rintro δ S' ⟨y,z,rfl,rfl⟩
  exact⟨trivial,_,rfl,nJ h⟩
noncomputable abbrev kB:Stmt:=top 56
theorem rT:ao ["step","last"] ["step"] (af kB):=ck
theorem BP (F:bM K "is_within" "is_within" kB f fd)(J:Fx K mg A)(kN:uK P w K mg base k A)(fN:pe P w K mg base k A)(fm:iX P w K mg base k A)(k7:s9 P w K mg base k A)(cQ:fz P w K mg base k)(Gg:EV P w K mg base k A)(jd:nq P w K mg base k A):aE P w K mg base bO (k+1) f fd ["step"] (aQ K (Wn A)):=by
 refine aR F rT fun cdv B outer s H E hr=>?_
 rw[show ak kB=[_,_] from rfl]
 refine⟨_,(qs (au (i:=1) rT.nd (fL (ai k7 hr rfl (qa (ai cQ hr rfl (qa (az (ah 0) rfl) aa)) aa)) Gg hr (qa (gG jd hr rfl (qa (ay aa) (qa aj aa))) aa))) (aS (aq (gG kN hr rfl (qa (cA (qa (ai fm hr rfl (qa (az (ah 0) rfl) aa)) (qa (ai fN hr rfl (qa (az (ah 0) rfl) (qa (ah 1) aa))) aa))) aa))))),fun ds S kk hc hd h=>?_⟩
 obtain⟨s,r,p,rfl,hs,hr2,h⟩:=h
 have hi:∃ C ns l,iq S (.t (nQ A s))=some (C,ns,l)/\(ns.zip l).lookup ("row":Str)=some (D.str r)/\(ns.zip l).lookup ("place":Str)=some (D.t (iC A p)):=by
  rcases hs with ⟨a,x,rfl⟩ | ⟨a,t,rfl⟩ <;> exact⟨_,_,_,rfl,rfl,rfl⟩
 obtain⟨C,ns,l,i1,i2,i3⟩:=hi
 refine⟨_,rfl,_,_,_,_,i1,i2,r,rfl,by omega,hsh r,rfl,0,_,_,by decide,rfl,by decide +kernel,_,rfl,sz 0,_,_,[],1,rfl,av,rfl,by simp,made ⟨on (hsh r),([],1),rfl,by show 1+0 < 64;decide,?_⟩⟩
 refine⟨_,rfl,_,_,_,_,i1,i3,p,rfl,_,rfl,_,_,_,_,i1,i3,_,rfl,p,(on (hsh r)).less ([],1),rfl,_,rfl,sz 2,_,_,[eX A (Io p),eX A (yY p ((on (hsh r)).less ([],1)))],rfl,av,rfl,made (aP hc ?_)⟩
 unfold within at h
 rw[eX,iP] at h
 exact h
noncomputable abbrev gS:Stmt:=top 58
theorem jC:ao ["by","divided","product"] ["by"] (af gS):=ck
theorem xN (F:bM K "is_quotient" "is_quotient" gS f fd)(J:Fx K mg A)(kN:uK P w K mg base k A)(fN:pe P w K mg base k A)(Ca:EU P w K mg base k A)(jd:nq P w K mg base k A)(k7:s9 P w K mg base k A)(sE:uJ P w K mg base k A):aE P w K mg base bO (k+1) f fd ["by"] (aQ K (KP A)):=by
 obtain⟨Fj,eE⟩:=J.eE
 obtain⟨IY,gJ⟩:=J.gJ
 refine aR F jC fun cdv B outer s H E hr=>?_
 rw[show ak gS=[_,_,_,_] from rfl]
 refine⟨_,(qs (au (i:=1) jC.nd (ai k7 hr rfl (qa (gF (bW (v:=.str "^") rfl gJ ⟨_,rfl⟩)) aa))) (qs (au (i:=2) jC.nd (fL (ai k7 hr rfl (qa (gF (bW (v:=.str "^^") rfl eE ⟨_,rfl⟩)) aa)) sE hr (qa (ah 0) aa))) (qs (aZ (aL LS (ah 0) aj (aN _)) (aS (aq (gG kN hr rfl (qa (cA (qa (ai fN hr rfl (qa (ah 2) (qa (ah 1) aa))) (qa (ai fN hr rfl (qa (ah 1) (qa (fL (ah 2) Ca hr (qa (gG jd hr rfl (qa (ay aa) (qa (aM xU (ah 0) aj) aa))) aa)) aa))) aa))) aa)))) aJ) (aS (aq (gG kN hr rfl (qa (cA (qa (ai fN hr rfl (qa (ah 1) (qa (ah 2) aa))) (qa (ai fN hr rfl (qa (fL (ah 2) Ca hr (qa (gG jd hr rfl (qa (ay aa) (qa (aM aF (ah 0) aj) aa))) aa)) (qa (ah 1) aa))) aa))) aa))))))),fun ds S kk hc hd h=>?_⟩
 obtain⟨i,rfl,hi,h⟩:=h
 refine⟨"^",rfl,"^^",rfl,0,_,_,by decide,rfl,by decide +kernel,_,rfl,on "^^",i,rfl,by show 1 < 64;decide,⟨by omega,by omega⟩,_,rfl,?_⟩
 have hl:((on "^^").times i).1.length<=1:=oz _
 unfold quot at h
 by_cases hp:0 < i
 ·rw[if_pos hp] at h
  refine⟨true,congrArg D.bl (decide_eq_true hp),_,rfl,_,rfl,(on "^^").times i,on "^",rfl,_,rfl,_,rfl,0,_,_,by decide,rfl,by decide +kernel,_,rfl,sz 0,_,rfl,_,_,[],i - 1,rfl,av,rfl,by simp,made ⟨(on "^^").times i,([],i - 1),rfl,by show _+0 < 64;omega,on "^",((on "^^").times i).plus ([],i - 1),rfl,_,rfl,sz 2,_,_,[eX A _,eX A _],rfl,av,rfl,made (aP hc ?_)⟩⟩
  rw[eX,iP] at h
  exact h
 ·rw[if_neg hp] at h
  refine⟨false,congrArg D.bl (decide_eq_false hp),_,rfl,_,rfl,on "^",(on "^^").times i,rfl,_,rfl,0,_,_,by decide,rfl,by decide +kernel,_,rfl,sz 0,_,rfl,_,_,[],i+1,rfl,av,rfl,by simp,made ⟨(on "^^").times i,([],i+1),rfl,by show _+0 < 64;omega,_,rfl,((on "^^").times i).plus ([],i+1),on "^",rfl,_,rfl,sz 2,_,_,[eX A _,eX A _],rfl,av,rfl,made (aP hc ?_)⟩⟩
  rw[eX,iP] at h
  exact h
noncomputable abbrev kD:Stmt:=top 57
theorem jg:ao ["book","path","step","by"] ["book","path","step"] (af kD):=ck
theorem BR (F:bM K "go_divide" "go_divide" kD f fd)(J:Fx K mg A)(vg:CU P w K mg base k A)(k7:s9 P w K mg base k A)(Gg:EV P w K mg base k A)(sE:uJ P w K mg base k A)(dP:iV P w K mg base k A)(qY:tE P w K mg base k A)(zJ:vU P w K mg base k A)(xY:CT P w K mg base k A)(gI:o7 P w K mg base k A)(jd:nq P w K mg base k A):aE P w K mg base bO (k+1) f fd ["book","path","step"] (aQ K (I8 A n (fun s=>kd s=1) (fun p=>.tup (p.map (qt A))))):=by
 obtain⟨IY,gJ⟩:=J.gJ
 obtain⟨Fj,eE⟩:=J.eE
 refine aR F jg fun cdv B outer s H E hr=>?_
 rw[show ak kD=[_,_,_,_,_,_] from rfl]
 refine⟨_,(qs (au (i:=1) jg.nd (fL (ah 0) xY hr (qa (ah 1) (qa aA (qa (az (ah 2) rfl) (qa (gG gI hr rfl (qa (az (ah 2) rfl) (qa aA (qa (gG jd hr rfl (qa (ay aa) (qa aj aa))) aa)))) aa)))))) (qs (aZ (qw (Aj (aL LS (bz nD (by rfl) J.nE PySem.boot_len (qa (az (az (ah 2) rfl) rfl) aa)) aj (aN _)) (tZ (aL (dW 40 (uE hr)) (az (az (ah 2) rfl) rfl) aj (aN _))))) (aS (aq (aM aF (ah 1) (ai dP hr rfl (qa (az (ah 2) rfl) aa))))) aJ) (qs (au (i:=3) jg.nd (az (az (ah 2) rfl) rfl)) (qs (au (i:=1) jg.nd (aM aF (aM aF (aM aF (ah 1) (ay (qa (ai vg hr rfl (qa (gF (bW (v:=.str "^") rfl gJ ⟨_,rfl⟩)) (qa (az (ah 2) rfl) aa))) aa))) (ai dP hr rfl (qa (gF (bW (v:=.str "^^") rfl eE ⟨_,rfl⟩)) aa))) (ay (qa (ai qY hr rfl (qa (ai zJ hr rfl (qa (ah 3) aa)) aa)) aa)))) (qs (aZ (aL (dW 40 (uE hr)) (az (ah 2) rfl) aA (aN _)) (aS (aq (aM aF (ah 1) (ay (qa (ai vg hr rfl (qa (az (ah 2) rfl) (qa (ai k7 hr rfl (qa (gF (bW (v:=.str "^^") rfl eE ⟨_,rfl⟩)) aa)) aa))) aa))))) aJ) (aS (aq (aM aF (ah 1) (ay (qa (ai vg hr rfl (qa (az (ah 2) rfl) (qa (fL (ai k7 hr rfl (qa (gF (bW (v:=.str "^") rfl gJ ⟨_,rfl⟩)) aa)) Gg hr (qa (fL (ai k7 hr rfl (qa (gF (bW (v:=.str "^^") rfl eE ⟨_,rfl⟩)) aa)) sE hr (qa (ah 3) aa)) aa)) aa))) aa)))))))))),fun ds S kk hc hd h=>?_⟩
 obtain⟨i,j,pg,c7,p,s,rfl,hB,h1,h2,ok,hk,h⟩:=h
 cases s with
 | lt a x s=>cases hk
 | ft a x r p=>cases hk
 | pt a r p s=>cases hk
 | mq a r z=>cases hk
 | cm a c=>cases hk
 | dv a x wd s b =>
  have hbb:=ok.by_ _ _ _ _ _ rfl
  refine⟨_,rfl,0,_,_,by decide,qD hB.1,by decide +kernel,_,rfl,_,rfl,_,_,_,_,rfl,rfl,_,rfl,_,_,_,_,rfl,rfl,_,rfl,sz 0,_,_,[],0,rfl,av,rfl,by simp,made ⟨_,[iC A b,.str "!=",iC A ([],0)],rfl,rfl,av,made ⟨i,j,pg,c7,p,"nought",a,.cmp b "!=" ([],0),by rw[IF],hB,by omega,by omega,?_⟩⟩⟩
  refine⟨_,rfl,_,_,_,_,rfl,rfl,_,_,_,_,rfl,rfl,_,rfl,?_⟩
  have e1:decide ((0:Int) < ((b.1.map pT).length:Nat))=decide (b.1≠[]):=by
   rw[List.length_map]
   cases b.1 with
   | nil=>rfl
   | cons a r=>simp
  have a4n:=hB.put (c7++[xJ "nought" a p (.cmp b "!=" ([],0))])
  simp only[p8,JL] at h
  by_cases hb:b.1=[]
  ·refine⟨false,congrArg D.bl (e1.trans (decide_eq_false (by simpa using hb))),_,rfl,_,_,_,_,rfl,rfl,_,_,_,_,rfl,rfl,?_⟩
   by_cases hz:b.2=0
   ·rw[if_pos (.inr hz)] at h
    refine⟨rfl,true,congrArg D.bl (VA hz),_,rfl,_,rfl,_,_,_,_,rfl,rfl,x,rfl,cU ?_,nJ ?_⟩
    ·have:=gA x;simp;omega
    ·rw[<- List.map_append];exact h
   ·rw[if_neg (by rintro(h | h) <;> contradiction)] at h
    refine⟨rfl,false,congrArg D.bl (Pb hz),_,rfl,_,_,_,_,rfl,rfl,_,_,_,_,rfl,rfl,_,rfl,_,rfl,_,_,_,_,rfl,rfl,"^",s,rfl,_,rfl,sz 1,cU ?_,"^^",rfl,cU ?_,_,rfl,b.2,rfl,hbb,quot b.2,rfl,_,rfl,sz 1,cU ?_,_,rfl,_,_,_,_,rfl,rfl,?_⟩
    ·simp;omega
    ·have:=gA "^^";simp;omega
    ·have:=gA "^^";simp;omega
    by_cases hw:wd="div"
    ·rw[if_pos hw] at h
     refine⟨rfl,true,congrArg D.bl (seq hw),_,rfl,_,rfl,_,_,_,_,rfl,rfl,"^^",rfl,x,on "^^",rfl,_,rfl,sz 1,cU ?_,nJ ?_⟩
     ·have:=gA "^^";simp;omega
     ·simp only[List.map_append] at h ⊢;exact h
    ·rw[if_neg hw] at h
     have hl:((on "^^").times b.2).1.length<=1:=oz _
     refine⟨rfl,false,congrArg D.bl (Wq hw),_,rfl,_,rfl,_,_,_,_,rfl,rfl,"^",rfl,0,_,_,by decide,rfl,by decide +kernel,"^^",rfl,0,_,_,by decide,rfl,by decide +kernel,_,rfl,on "^^",b.2,rfl,by show 1 < 64;decide,⟨by omega,by omega⟩,on "^",(on "^^").times b.2,rfl,by show 1+_ < 64;omega,x,(on "^").less ((on "^^").times b.2),rfl,_,rfl,sz 1,cU ?_,nJ ?_⟩
     ·have:=gA "^^";simp;omega
     ·simp only[List.map_append] at h ⊢;exact h
  ·rw[if_pos (.inl hb)] at h
   refine⟨true,congrArg D.bl (e1.trans (decide_eq_true (by simpa using hb))),_,rfl,_,rfl,_,_,_,_,rfl,rfl,x,rfl,cU ?_,nJ ?_⟩
   ·have:=gA x;simp;omega
   ·rw[<- List.map_append];exact h
noncomputable abbrev mJ:Stmt:=top 55
theorem nW:ao ["book","path","step"] ["book","path","step"] (af mJ):=ck
theorem Eb (F:bM K "go_plain" "go_plain" mJ f fd)(J:Fx K mg A)(dP:iV P w K mg base k A)(xY:CT P w K mg base k A)(EN:zR P w K mg base k A)(vg:CU P w K mg base k A)(cQ:fz P w K mg base k)(fm:iX P w K mg base k A):aE P w K mg base bO (k+1) f fd ["book","path","step"] (aQ K (I8 A n (fun s=>kd s≠1) (fun p=>.tup (p.map (qt A))))):=by
 refine aR F nW fun cdv B outer s H E hr=>?_
 rw[show ak mJ=[_,_,_,_,_,_] from rfl]
 refine⟨_,(qs (aZ (fK (bz (kP (c:=.ref A.dc) trivial rfl) (by rfl) J.bw boot_isinstance (qa (ah 2) (qa (gF (bW (v:=.ref A.dc) rfl J.Az rfl)) aa)))) (aS (aq (aM aF (ah 1) (ay (qa (ai vg hr rfl (qa (az (ah 2) rfl) (qa (az (ah 2) rfl) aa))) aa))))) aJ) (qs (aZ (fK (bz (kP (c:=.ref A.bg) trivial rfl) (by rfl) J.bw boot_isinstance (qa (ah 2) (qa (gF (bW (v:=.ref A.bg) rfl J.qb rfl)) aa)))) (aS (aq (fL (ah 0) xY hr (qa (ah 1) (qa aA (qa (az (ah 2) rfl) (qa (az (ah 2) rfl) aa))))))) aJ) (qs (aZ (fK (bz (kP (c:=.ref A.bN) trivial rfl) (by rfl) J.bw boot_isinstance (qa (ah 2) (qa (gF (bW (v:=.ref A.bN) rfl J.uq rfl)) aa)))) (qs (au (i:=1) nW.nd (fL (ah 0) xY hr (qa (ah 1) (qa aA (qa (az (ah 2) rfl) (qa (ai fm hr rfl (qa (az (ah 2) rfl) aa)) aa)))))) (aS (aq (aM aF (ah 1) (ay (qa (ai vg hr rfl (qa (ai cQ hr rfl (qa (az (ah 2) rfl) aa)) (qa (az (ah 2) rfl) aa))) aa)))))) aJ) (qs (au (i:=1) nW.nd (fL (ah 0) xY hr (qa (ah 1) (qa aA (qa (az (ah 2) rfl) (qa (ai EN hr rfl (qa (ah 2) aa)) aa)))))) (qs (aZ (fK (bz (kP (c:=.ref A.aV) trivial rfl) (by rfl) J.bw boot_isinstance (qa (ah 2) (qa (gF (bW (v:=.ref A.aV) rfl J.p9 rfl)) aa)))) (aS (aq (aM aF (ah 1) (ai dP hr rfl (qa (az (ah 2) rfl) aa))))) aJ) (aS (aq (ah 1)))))))),fun ds S kk hc hd h=>?_⟩
 obtain⟨i,j,pg,c7,p,s,rfl,hB,h1,h2,ok,hk,h⟩:=h
 cases s with
 | dv a x wd s b=>exact absurd rfl hk
 | lt a x s =>
  refine⟨_,rfl,rfl,_,true,rfl,O6 (j:=0) J.kk (by decide),_,rfl,_,rfl,_,rfl,_,_,_,_,rfl,rfl,_,rfl,_,_,_,_,rfl,rfl,x,s,rfl,_,rfl,sz 1,cU ?_,nJ ?_⟩
  ·simp;omega
  ·simp only[p8] at h
   rw[List.append_nil,set_same hB.2,List.map_append] at h
   exact h
 | cm a c =>
  exact⟨_,rfl,rfl,_,false,rfl,qR (j:=5) (i:=0) J.kk (by decide) (by decide) (by decide),_,rfl,_,rfl,rfl,_,true,rfl,O6 (j:=5) J.kk (by decide),_,rfl,_,rfl,0,_,_,by decide,qD hB.1,by decide +kernel,_,rfl,_,rfl,_,_,_,_,rfl,rfl,_,rfl,_,_,_,_,rfl,rfl,i,j,pg,c7,p,"claim",a,c,rfl,hB,by omega,by omega,nJ h⟩
 | mq a r z =>
  refine⟨_,rfl,rfl,_,false,rfl,qR (j:=4) (i:=0) J.kk (by decide) (by decide) (by decide),_,rfl,_,rfl,rfl,_,false,rfl,qR (j:=4) (i:=5) J.kk (by decide) (by decide) (by decide),_,rfl,_,rfl,rfl,_,true,rfl,O6 (j:=4) J.kk (by decide),_,rfl,_,rfl,0,_,_,by decide,qD hB.1,by decide +kernel,_,rfl,_,rfl,_,_,_,_,rfl,rfl,_,rfl,_,_,_,_,rfl,rfl,z,rfl,i,j,pg,c7,p,"short",a,Io z,rfl,hB,by omega,by omega,_,rfl,_,rfl,_,_,_,_,rfl,rfl,r,rfl,by have:=ok.few.2;omega,_,rfl,_,_,_,_,rfl,rfl,hsh r,z,rfl,_,rfl,sz 1,cU ?_,nJ ?_⟩
  ·simp;omega
  ·simp only[p8] at h
   rw[List.map_append (l₁:=p++_)] at h
   exact h
 | ft a x r z =>
  refine⟨_,rfl,rfl,_,false,rfl,qR (j:=2) (i:=0) J.kk (by decide) (by decide) (by decide),_,rfl,_,rfl,rfl,_,false,rfl,qR (j:=2) (i:=5) J.kk (by decide) (by decide) (by decide),_,rfl,_,rfl,rfl,_,false,rfl,qR (j:=2) (i:=4) J.kk (by decide) (by decide) (by decide),_,rfl,_,rfl,0,_,_,by decide,qD hB.1,by decide +kernel,_,rfl,_,rfl,_,_,_,_,rfl,rfl,_,rfl,.ft a x r z,r,z,rfl,.inl ⟨_,_,rfl⟩,ok.few.2,i,j,pg,c7,p,"beyond",a,within r z,rfl,hB,by omega,by omega,_,rfl,rfl,_,true,rfl,O6 (j:=2) J.kk (by decide),_,rfl,_,rfl,_,rfl,_,_,_,_,rfl,rfl,x,rfl,cU ?_,nJ ?_⟩
  ·have:=gA x;simp;omega
  ·simp only[p8] at h
   rw[List.map_append (l₁:=p++_)] at h
   exact h
 | pt a r z t =>
  exact⟨_,rfl,rfl,_,false,rfl,qR (j:=3) (i:=0) J.kk (by decide) (by decide) (by decide),_,rfl,_,rfl,rfl,_,false,rfl,qR (j:=3) (i:=5) J.kk (by decide) (by decide) (by decide),_,rfl,_,rfl,rfl,_,false,rfl,qR (j:=3) (i:=4) J.kk (by decide) (by decide) (by decide),_,rfl,_,rfl,0,_,_,by decide,qD hB.1,by decide +kernel,_,rfl,_,rfl,_,_,_,_,rfl,rfl,_,rfl,.pt a r z t,r,z,rfl,.inr ⟨_,_,rfl⟩,ok.few.2.2,i,j,pg,c7,p,"beyond",a,within r z,rfl,hB,by omega,by omega,_,rfl,rfl,_,false,rfl,qR (j:=3) (i:=2) J.kk (by decide) (by decide) (by decide),_,rfl,_,rfl,nJ h⟩
noncomputable abbrev pY:Stmt:=top 54
theorem FI:ao ["book","path","step"] ["book","path","step"] (af pY):=ck
theorem F6 (F:bM K "go_step" "go_step" pY f fd)(J:Fx K mg A)(GL:C0 P w K mg base k A n)(ER:zT P w K mg base k A n):aE P w K mg base bO (k+1) f fd ["book","path","step"] (aQ K (I8 A n (fun _=>True) (fun p=>.lst [.tup (p.map (qt A))]))):=by
 refine aR F FI fun cdv B outer s H E hr=>?_
 rw[show ak pY=[_,_,_,_,_] from rfl]
 refine⟨_,(qs (aZ (fK (bz (kP (c:=.ref A.dG) trivial rfl) (by rfl) J.bw boot_isinstance (qa (ah 2) (qa (gF (bW (v:=.ref A.dG) rfl J.lQ rfl)) aa)))) iy aJ) (qs (aZ (fK (bz (kP (c:=.ref A.dF) trivial rfl) (by rfl) J.bw boot_isinstance (qa (ah 2) (qa (gF (bW (v:=.ref A.dF) rfl J.lM rfl)) aa)))) iy aJ) (qs (aZ (fK (bz (kP (c:=.ref A.lU) trivial rfl) (by rfl) J.bw boot_isinstance (qa (ah 2) (qa (gF (bW (v:=.ref A.lU) rfl J.ym rfl)) aa)))) iy aJ) (qs (aZ (fK (bz (kP (c:=.ref A.aH) trivial rfl) (by rfl) J.bw boot_isinstance (qa (ah 2) (qa (gF (bW (v:=.ref A.aH) rfl J.lO rfl)) aa)))) (aS (aq (cA (qa (ai ER hr rfl (qa (ah 0) (qa (ah 1) (qa (ah 2) aa)))) aa)))) aJ) (aS (aq (cA (qa (ai GL hr rfl (qa (ah 0) (qa (ah 1) (qa (ah 2) aa)))) aa)))))))),fun ds S kk hc hd h=>?_⟩
 obtain⟨i,j,pg,c7,p,s,rfl,hB,h1,h2,ok,hk,h⟩:=h
 have hkl:=sF s
 refine⟨_,rfl,rfl,_,false,z9 A _ s,qR (i:=6) J.kk (by omega) (by decide) (by omega),_,rfl,_,rfl,rfl,_,false,z9 A _ s,qR (i:=7) J.kk (by omega) (by decide) (by omega),_,rfl,_,rfl,rfl,_,false,z9 A _ s,qR (i:=8) J.kk (by omega) (by decide) (by omega),_,rfl,_,rfl,rfl,_,decide (kd s=1),z9 A _ s,J.kk _ 1 (by omega) (by decide),_,rfl,?_⟩
 by_cases hd:kd s=1
 ·rw[decide_eq_true hd]
  exact⟨_,rfl,_,rfl,_,rfl,i,j,pg,c7,p,s,rfl,hB,h1,h2,ok,hd,_,rfl,sz 1,nJ h⟩
 ·rw[decide_eq_false hd]
  exact⟨_,rfl,_,rfl,_,rfl,i,j,pg,c7,p,s,rfl,hB,h1,h2,ok,hd,_,rfl,sz 1,nJ h⟩
noncomputable abbrev gU:Stmt:=top 45
theorem fV:ao ["steps","count","step","within"] ["steps"] (af gU):=ck
theorem xP (F:bM K "count_paths" "count_paths" gU f fd)(J:Fx K mg A)(xZ:yO P w K mg base k A)(k9:Dn P w K mg base k "count_paths" ["steps"] (aQ K I0)):aE P w K mg base bO (k+1) f fd ["steps"] (aQ K (HD A)):=by
 obtain⟨NT,m7⟩:=J.m7
 refine aR F fV fun cdv B outer s H E hr=>?_
 rw[show ak gU=[_,_,_,_] from rfl]
 refine⟨_,(qs (au (i:=1) fV.nd aj) (qs (bK PassesOwn.never rfl (qi (ah 0)) (qg (i:=2) fV.nd) (qs (HL (i:=3) fV.nd (aY ["block"] [] [] rfl (by decide +kernel) (by decide +kernel) (by with_unfolding_all rfl) (by exact trivial) (by rfl) rfl (by rfl)) rfl (qi (aT (ah 2) xZ hr)) (fun _ _ _ _=>(qx (i:=0) (show List.Nodup (["block"]:List Str) by decide +kernel))) (fun _ _ _ _=>b9) (fun _ _ _ _=>(ai k9 hr rfl (qa (ah 0) aa)))) (aS (aZ (fK (bz (kP (c:=.ref A.dG) trivial rfl) (by rfl) J.bw boot_isinstance (qa (ah 2) (qa (gF (bW (v:=.ref A.dG) rfl J.lQ rfl)) aa)))) iy aJ)))) (qs (aZ (aL LS (ah 1) (gF (bW (v:=.int 16) rfl m7 ⟨_,rfl⟩)) (aN _)) iy aJ) (aS (aq (ah 1)))))),fun ds S kk hc hd h=>?_⟩
 obtain⟨l,rfl,h⟩:=h
 refine⟨_,rfl,cO (eW (nQ A) (fun pre δ S'=>∃ y z,δ=[some (.tup (l.map (nQ A))),some (.int 1),y,z]/\S'=S) ⟨_,_,rfl,rfl⟩ ?_ ?_)⟩
 ·rintro pre s post δ S' N e ⟨y,z,rfl,rfl⟩ hN
  have hkl:=sF s
  obtain⟨ns,l2,i1,_,_,i2,_⟩:=Ie A S' s
  exact⟨trivial,_,rfl,kd s,ns,l2,sF s,i1,i2,s,rfl,rfl,cO ⟨trivial,_,rfl,rfl,_,false,z9 A _ s,qR (i:=6) J.kk (by omega) (by decide) (by omega),_,rfl,hN _ _ ⟨_,_,rfl,rfl⟩⟩⟩
 ·rintro δ S' ⟨y,z,rfl,rfl⟩
  exact⟨trivial,_,rfl,_,rfl,_,rfl,aP hc h⟩
noncomputable abbrev mH:Stmt:=top 53
theorem fM:ao ["book","path","steps","paths","step","found","each"] ["book","path","steps"] (af mH):=ck
theorem Ea (F:bM K "go_steps" "go_steps" mH f fd)(J:Fx K mg A)(JX:EY P w K mg base k A n):aE P w K mg base bO (k+1) f fd ["book","path","steps"] (aQ K (K7 A n)):=by
 refine aR F fM fun cdv B outer s H E hr=>?_
 rw[show ak mH=[_,_,_] from rfl]
 refine⟨_,(qs (au (i:=3) fM.nd (cA (qa (ah 1) aa))) (qs (bK PassesOwn.never rfl (qi (ah 2)) (qg (i:=4) fM.nd) (qs (au (i:=5) fM.nd (jG aa)) (qs (bK PassesOwn.never rfl (qi (ah 3)) (qg (i:=6) fM.nd) (aS (jF (DU (ah 5) (qa (ai JX hr rfl (qa (ah 0) (qa (ah 6) (qa (ah 4) aa)))) aa))))) (aS (au (i:=3) fM.nd (ah 5)))))) (aS (aq (ah 3))))),fun ds S kk hc hd h=>?_⟩
 obtain⟨i,j,pg,c7,p,l,rfl,hB,h1,h2,ok,h⟩:=h
 refine⟨_,rfl,_,rfl,sz 1,_,rfl,cO (eW (nQ A) (fun pre δ S'=>∃ pd y z w loc,δ=[some (D.ob i),some (.tup (p.map (qt A))),some (.tup (l.map (nQ A))),some pd,y,z,w]/\S'=S.set j (.lst ((c7++(b7 p pre).1).map (JN A)))++loc/\Pd S.length loc pd [.tup ((b7 p pre).2.map (qt A))]) ⟨_,_,_,_,[],rfl,?_,.inl rfl⟩ ?_ ?_)⟩
 ·have e:c7++(b7 p []).1=c7:=by unfold b7;simp
  rw[e,set_same hB.2,List.append_nil]
 ·rintro pre s post δ S' N e ⟨pd,y,z,w,loc,rfl,rfl,hp⟩ hN
  have hl1:=jy p pre
  have hl2:=jx p pre
  have hp1:pre.length < l.length:=by rw[e];simp
  have hL:(S.set j (.lst ((c7++(b7 p pre).1).map (JN A)))).length=S.length:=List.length_set
  refine⟨trivial,_,rfl,sz 0,?_⟩
  rw[List.append_assoc,List.length_append,hL]
  refine⟨_,rfl,UO hp hL fun G hG=>⟨hG _ _ hL,_,rfl,⟨rfl,_,jc (L7 hL)⟩,_,rfl,_,rfl,_,rfl,i,j,pg,c7++(b7 p pre).1,(b7 p pre).2,s,rfl,(hB.put _).up,by rw[List.length_append];omega,by omega,ok s (by rw[e];simp),trivial,?_⟩⟩
  rw[List.set_append_left _ _ (by rw[hL];exact(List.getElem?_eq_some_iff.mp hB.2).1),List.set_set]
  refine⟨_,_,L7 List.length_set,rfl,sz 1,?_⟩
  rw[OY List.length_set]
  refine⟨hG _ _ List.length_set,_,rfl,hN _ _ ⟨_,_,_,_,loc++[O.lst ([]++[.tup ((p8 (b7 p pre).2 s).2.map (qt A))])],rfl,?_,.inr ⟨loc.length,rfl,?_⟩⟩⟩
  ·rw[qU,List.append_assoc]
  ·rw[qT]
   exact O3
 ·rintro δ S' ⟨pd,y,z,w,loc,rfl,rfl,hp⟩
  have hL:(S.set j (.lst ((c7++(b7 p l).1).map (JN A)))).length=S.length:=List.length_set
  exact⟨trivial,_,rfl,Ze hp hL (MZ hc) h⟩
noncomputable abbrev wk:Stmt:=top 44
theorem rV:ao ["program","name","helper","book","path"] ["program","name"] (af wk):=ck
theorem LQ (F:bM K "debts" "debts" wk f fd)(J:Fx K mg A)(GK:CZ P w K mg base k A n)(vL:s8 P w K mg base k A n)(Gf:CS P w K mg base k A)(Gn:Nh P w K mg base k A)(k9:vV P w K mg base k A)(OX:J3 P w K mg base k A):aE P w K mg base bO (k+1) f fd ["program","name"] (aQ K (Bg A n)):=by
 refine aR F rV fun cdv B outer s H E hr=>?_
 rw[show ak wk=[_,_,_,_,_] from rfl]
 refine⟨_,(qs (au (i:=2) rV.nd (fL (ah 0) OX hr (qa (ah 1) aa))) (qs (jF (ai k9 hr rfl (qa (az (ah 2) rfl) aa))) (qs (au (i:=3) rV.nd (WI Gn hr rfl (qa (ah 0) aa))) (qs (bK PassesOwn.never rfl (qi (ai GK hr rfl (qa (ah 3) (qa (ai vL hr rfl (qa (ah 2) aa)) (qa (az (ah 2) rfl) aa))))) (qg (i:=4) rV.nd) (aS (jF (fL (ah 3) Gf hr (qa (ah 4) (qa aA (qa (az (ah 2) rfl) aa))))))) (aS (aq (az (ah 3) rfl))))))),fun ds S kk hc hd h=>?_⟩
 obtain⟨x,N,rfl,ok,h⟩:=h
 obtain⟨p1,p2,p3,p4,p5⟩:=ok.pl
 have hp0:=ud ok
 have YR:=jy (dh x) x.steps
 have VG:=jx (dh x) x.steps
 refine⟨_,rfl,0,_,_,by decide,rfl,by decide +kernel,_,rfl,x,[],rfl,_,rfl,_,_,_,_,rfl,rfl,x.steps,rfl,_,rfl,S.length,OB A [x],rfl,av,rfl,?_⟩
 rw[fS,List.length_append,List.append_assoc]
 have hB:Bk A (S++[O.ins A.eG ["program","found"] [.t (OB A [x]),.ob (S.length+1)],O.lst []]) S.length (S.length+1) (OB A [x]) []:=⟨eS (j:=0),eS (j:=1)⟩
 refine⟨_,rfl,_,rfl,x,N,rfl,ok,_,rfl,_,_,_,_,rfl,rfl,S.length,S.length+1,OB A [x],[],dh x,x.steps,rfl,hB,by simp;omega,by omega,ok.st,jP ⟨trivial,?_⟩⟩
 have hB2:=hB.put ([]++(b7 (dh x) x.steps).1)
 refine⟨_,rfl,0,_,_,by decide,qD hB2.1,by decide +kernel,_,rfl,_,rfl,_,_,_,_,rfl,rfl,S.length,S.length+1,OB A [x],_,_,"gives",x.gives,rfl,hB2,by rw[List.nil_append];omega,by omega,trivial,?_⟩
 have hB3:=hB2.put ([]++(b7 (dh x) x.steps).1++(bA "gives" (b7 (dh x) x.steps).2 x.gives).1)
 refine⟨_,rfl,_,_,_,_,qD hB3.1,rfl,?_⟩
 rw[List.set_set,dU]
 refine a25 (j:=1) hc rfl trivial ?_
 exact h
noncomputable abbrev pW:Stmt:=top 70
theorem wZ:ao ["_law_cell","_law_k","_law_mix"] ["_law_cell","_law_k"] (af pW):=ck
theorem F4 (F:bM K "_law_mixed" "_law_mixed" pW f fd)(J:Fx K mg A) :aE P w K mg base bO (k+1) f fd ["_law_cell","_law_k"] (aQ K Qh):=by
 refine aR F wZ fun cdv B outer s H E hr=>?_
 rw[show ak pW=[_,_] from rfl]
 refine⟨_,(qs (au (i:=2) wZ.nd (aM HX (aM ou (aM aF (aM aF (ah 0) (aM ou aj (ah 1))) aj) aj) aj)) (aS (aq (aM HX (aM aF (aM ou (ah 2) (ah 2)) (aM ou aj (ah 2))) aj)))),fun ds S kk hc hd h=>?_⟩
 obtain⟨c,j,rfl,h⟩:=h
 refine⟨_,rfl,_,rfl,.inl ⟨by decide,by decide⟩,.inr ⟨by decide,by decide⟩,by decide,?_⟩
 have h1:=Int.emod_nonneg ((c+7919*j+11)*48271) (b:=2147483647) (by decide)
 have h2:=Int.emod_lt_of_pos ((c+7919*j+11)*48271) (b:=2147483647) (by decide)
 exact⟨_,rfl,_,rfl,.inl ⟨by omega,by omega⟩,_,rfl,.inl ⟨by decide,by decide⟩,by decide,nJ (h _ (Int.emod_nonneg _ (by decide)) (Int.emod_lt_of_pos _ (by decide)))⟩
noncomputable abbrev kr:Stmt:=top 69
theorem mC:ao ["_law_script","_law_k","_law_cell"] ["_law_script","_law_k"] (af kr):=ck
theorem BN (F:bM K "_law_cell_at" "_law_cell_at" kr f fd)(J:Fx K mg A)(oS:qI P w K mg base k):aE P w K mg base bO (k+1) f fd ["_law_script","_law_k"] (aQ K K8):=by
 refine aR F mC fun cdv B outer s H E hr=>?_
 rw[show ak kr=[_,_,_] from rfl]
 refine⟨_,(qs (au (i:=2) mC.nd aj) (qs (aZ (aL SV (ah 1) (bz nD (by rfl) J.nE PySem.boot_len (qa (ah 0) aa)) (aN _)) (aS (au (i:=2) mC.nd (aU (ah 0) (ah 1)))) aJ) (aS (aq (ai oS hr rfl (qa (ah 2) (qa (aM aF aj (ah 1)) aa))))))),fun ds S kk hc hd h=>?_⟩
 obtain⟨l,j,rfl,h⟩:=h
 refine⟨_,rfl,_,rfl,_,rfl,?_⟩
 by_cases hj:j < l.length
 ·exact⟨true,congrArg D.bl (decide_eq_true (by rw[List.length_map];omega)),_,rfl,_,rfl,_,_,rfl,wD (by rw[List.getElem?_map,List.getElem?_eq_getElem hj];rfl),_,rfl,_,rfl,_,_,rfl,fun r _ _=>nJ (h r)⟩
 ·exact⟨false,congrArg D.bl (decide_eq_false (by rw[List.length_map];omega)),_,rfl,_,rfl,_,_,rfl,fun r _ _=>nJ (h r)⟩
noncomputable abbrev rY:Stmt:=top 71
theorem Jb:ao ["_law_draw","_law_size"] ["_law_draw","_law_size"] (af rY):=ck
theorem Jm (F:bM K "_law_next" "_law_next" rY f fd)(J:Fx K mg A)(oS:qI P w K mg base k):aE P w K mg base bO (k+1) f fd ["_law_draw","_law_size"] (aQ K Wo):=by
 refine aR F Jb fun cdv B outer s H E hr=>?_
 rw[show ak rY=[_,_] from rfl]
 refine⟨_,(qs (Og (ah 0) aj aj UQ) (aS (aq (aM HX (aM SW (ai oS hr rfl (qa (aU (ah 0) aj) (qa (aU (ah 0) aj) aa))) aj) (ah 1))))),fun ds S kk hc hd h=>?_⟩
 obtain⟨d,n,rfl,hd,hn,h⟩:=h
 have hlt:=hd.lt
 obtain⟨c,m,e0⟩:=hd
 refine⟨_,rfl,d,1,_,_,rfl,rfl,e0,rfl,1,_,rfl,e0,by show 1 < 2;decide,_,rfl,_,_,nS (NG hlt),rfl,_,rfl,_,_,nS (NG hlt),rfl,_,_,rfl,fun r _ _=>⟨⟨by decide,by decide⟩,_,rfl,hn,?_⟩⟩
 have e:((r / 7 % n).toNat:Int)=r / 7 % n:=Int.toNat_of_nonneg (Int.emod_nonneg _ (by omega))
 rw[<- e]
 exact nJ (h _ _ _ (by rw[e];exact Int.emod_lt_of_pos _ hn))
noncomputable abbrev pV:Stmt:=top 72
theorem jB:ao ["_law_draw","_law_many","_law_some","_law_base","_law_at","_law_shift"] ["_law_draw","_law_many"] (af pV):=ck
theorem F3 (F:bM K "_law_names" "_law_names" pV f fd)(J:Fx K mg A)(aD:dH P w K mg base k):aE P w K mg base bO (k+1) f fd ["_law_draw","_law_many"] (aQ K Qg):=by
 refine aR F jB fun cdv B outer s H E hr=>?_
 rw[show ak pV=[_,_,_,_,_] from rfl]
 refine⟨_,(qs (au (i:=2) jB.nd aA) (qs (au (i:=3) jB.nd (R9 aA (qa (cV (aY ["_law_k"] ["_law_some","_law_draw"] [2,0] rfl (by decide +kernel) (by decide +kernel) (by with_unfolding_all rfl) (by exact⟨rfl,rfl,trivial⟩) (by rfl) rfl (by rfl)) rfl (xA rfl J.sU (qa (ai aD hr rfl (qa (ah 0) (qa aj aa))) aa)) (fun _ _ _ _=>(qx (i:=0) (show List.Nodup (["_law_k","_law_some","_law_draw"]:List Str) by decide +kernel))) (fun _ _ _ _=>b9) (fun _ _ _ _=>(aU (ah 1) (ai aD hr rfl (qa (ah 2) (qa aj aa)))))) aa))) (qs (au (i:=4) jB.nd (ai aD hr rfl (qa (ah 0) (qa (aM aF (bz nD (by rfl) J.nE PySem.boot_len (qa (ah 3) aa)) aj) aa)))) (qs (au (i:=5) jB.nd (ai aD hr rfl (qa (ah 0) (qa aj aa)))) (aS (aq (cV (aY ["_law_k"] ["_law_base","_law_some","_law_at","_law_shift"] [3,2,4,5] rfl (by decide +kernel) (by decide +kernel) (by with_unfolding_all rfl) (by exact⟨rfl,rfl,rfl,rfl,trivial⟩) (by rfl) rfl (by rfl)) rfl (xA rfl J.sU (qa (ah 1) aa)) (fun _ _ _ _=>(qx (i:=0) (show List.Nodup (["_law_k","_law_base","_law_some","_law_at","_law_shift"]:List Str) by decide +kernel))) (fun _ _ _ _=>b9) (fun _ _ _ _=>(aM aF (aM aF (aM aF (t6 false (ah 1) r9 (bS (ah 3))) (aU (ah 2) (aM HX (aM aF (ah 4) (aM ou aj (ah 0))) aj))) (t6 false (ah 1) (bS (ah 3)) r9)) aA))))))))),fun ds S kk hc hd h=>?_⟩
 obtain⟨d,rfl,hd,h⟩:=h
 refine⟨rfl,_,rfl,d,6,rfl,hd,by first | decide | omega,fun r1 Zc Xc hr1=>?_⟩
 refine⟨(r1:Int),rfl,by omega,by omega,Cv (n:=r1) hd (fun y=>∃ x,y=T.str x/\Chr x) (by omega) (fun i c m k' hk=>?_) fun ys c m hl hp=>?_⟩
 ·refine⟨_,rfl,_,rfl,d,26,rfl,hd.cP,by first | decide | omega,fun r2 cr2 ZK hr2=>?_⟩
  rw[cF]
  have h26:r2 < 26:=by omega
  exact⟨IT,_,M9 h26,_,rfl,hk _ _ _ ⟨_,rfl,_,rfl,by omega⟩⟩
 obtain⟨ss,rfl,hl2,hc2⟩:=ex_map hp
 rw[hl] at hl2
 refine⟨ss,rfl,?_,?_⟩
 ·rw[Dp ss (fun x hx=>(hc2 x hx).len)]
  show _+_*0<=_
  omega
 have aB:=J0 hc2
 have lB:=Mm ss fun x hx=>(hc2 x hx).len
 generalize Txt.join (Str.ofString "") ss=B at aB lB
 refine⟨_,rfl,_,rfl,cU (by omega),d,_,rfl,hd.cP,by omega,fun r2 c2 m2 hr2=>?_⟩
 rw[cF]
 have ha:r2<=B.length:=by omega
 refine⟨_,rfl,d,26,rfl,hd.cP,by first | decide | omega,fun r3 JQ Jw sI=>?_⟩
 rw[cF]
 refine⟨_,rfl,8,rfl,by omega,by omega,Cv (n:=8) hd (fun y=>∃ x,y=T.str x/\qo x) (by omega) (fun i c m k' hk=>?_) fun ys c m hl hp=>?_⟩
 ·have l1:=Lf B none (some (r2:Int))
  have l2:=Lf B (some (r2:Int)) none
  have A1:=PC ha aB
  have A2:=J1 ha aB
  have lz:("z":Str).length=1:=by decide +kernel
  refine⟨_,rfl,_,rfl,_,rfl,cU (by omega),_,rfl,_,rfl,_,rfl,.inl ⟨by decide,by decide⟩,(by show(0:Int) < 26;decide),IT,_,PF _,cU (by rw[sO];omega),_,rfl,_,rfl,_,rfl,cU (by omega),cU (by rw[kQ,sO];omega),cU (by rw[kQ,kQ,sO,lz];omega),_,rfl,hk _ _ _ ⟨_,rfl,?_⟩⟩
  refine O0 (yy (yy (yy A1 (ET (by omega))) A2) (fun c hc=>?_)) ?_ ?_
  ·have:c∈[122]:=hc
   rw[List.mem_singleton.mp this];decide
  ·rw[kQ,lz];omega
  ·rw[kQ,kQ,kQ,sO,lz];omega
 obtain⟨ns,rfl,hl2,hc2⟩:=ex_map hp
 exact nJ (h ns c m (by rw[hl2,hl]) hc2)
noncomputable abbrev wc:Stmt:=top 73
theorem wX:ao ["_law_draw","_law_things","_law_pairs_here","_law_k"] ["_law_draw","_law_things"] (af wc):=ck
theorem LL (F:bM K "_law_sum" "_law_sum" wc f fd)(J:Fx K mg A)(gz:jZ P w K mg base k A)(aD:dH P w K mg base k):aE P w K mg base bO (k+1) f fd ["_law_draw","_law_things"] (aQ K (Be A)):=by
 refine aR F wX fun cdv B outer s H E hr=>?_
 rw[show ak wc=[_,_,_] from rfl]
 refine⟨_,(qs (au (i:=2) wX.nd (jG aa)) (qs (bK PassesOwn.never rfl (xA rfl J.sU (qa (aM ou (ai aD hr rfl (qa (ah 0) (qa aj aa))) (bh M6 (by rfl) J.M8 boot_int (qa (HN (Jr 40 (uE hr)) (ah 1) (cA aa) (aN _)) aa))) aa)) (qg (i:=3) wX.nd) (aS (jF (uX (ah 2) (qa (ay (qa (aU (ah 1) (ai aD hr rfl (qa (ah 0) (qa (bz nD (by rfl) J.nE PySem.boot_len (qa (ah 1) aa)) aa)))) (qa (aM xU (ai aD hr rfl (qa (ah 0) (qa aj aa))) aj) aa))) aa))))) (aS (aq (ai gz hr rfl (qa (ah 2) (qa (aU (cA (qa aj (qa aj (qa (Al aj) (qa (aM xU (ai aD hr rfl (qa (ah 0) (qa aj aa))) aj) aa))))) (ai aD hr rfl (qa (ah 0) (qa aj aa)))) aa))))))),fun ds S kk hc hd h=>?_⟩
 obtain⟨d,x,N,rfl,hd,hx,hn,h⟩:=h
 have hlt:=hd.lt
 refine⟨_,rfl,sz 0,_,rfl,d,3,rfl,hd.up,by first | decide | omega,fun r1 Zc Xc hr1=>?_⟩
 rw[dB hlt]
 refine⟨_,rfl,_,rfl,sz 0,Cu (x6 (kZ hd hx)) ⟨.inr ?_,?_⟩⟩
 ·split <;> exact⟨by decide,by decide⟩
 have hb:∃ j:Nat,(r1:Int)*(if (xor true (decide (N.map T.str=[])))=true then 1 else 0)=(j:Int)/\j<=2/\(0 < j->N≠[]):=by
  cases N with
  | nil=>exact⟨0,by simp,by decide,fun h=>absurd h (by decide)⟩
  | cons a r=>exact⟨r1,by simp,by omega,fun _ h=>by cases h⟩
 obtain⟨j,ej,hj2,hjN⟩:=hb
 refine⟨_,rfl,?_⟩
 rw[ej]
 refine⟨by omega,by omega,Pj (fun i δ S'=>∃ y c m,∃ l:List (Str×Int),δ=[some (D.ob d),some x,some (D.ob (S.length+0)),y]/\S'=cP S d c m++[O.lst (l.map pT)]/\l.length=i/\∀ p∈l,p.1∈N) ⟨_,_,_,[],rfl,rfl,rfl,fun _ h=>absurd h List.not_mem_nil⟩ ?_ ?_⟩
 ·rintro i z δ S' Nx hz ⟨y,c,m,l,rfl,rfl,hl,hp⟩ hN
  have hi:=(List.getElem?_eq_some_iff.mp hz).1
  rw[List.length_map,List.length_range] at hi
  have hi:i < j:=by omega
  have hN0:=hjN (by omega)
  have hNl:0 < N.length:=List.length_pos_iff.mpr hN0
  refine⟨trivial,_,rfl,⟨rfl,_,jc (cj aO)⟩,_,rfl,_,rfl,_,rfl,Ti (x6 (kZ hd hx)) ⟨d,_,rfl,hd.cP.up,by rw[List.length_map];omega,fun r2 c2 m2 hr2=>?_⟩⟩
  rw[dB (by rw[aO];exact hlt),cF]
  rw[List.length_map] at hr2
  obtain⟨y2,hy2,ey2⟩:=qZ hr2
  refine Ys (x6 (kZ hd hx)) ey2 ⟨_,rfl,d,7,rfl,hd.cP.up,by first | decide | omega,fun r3 JQ Jw sI=>?_⟩
  rw[dB (by rw[aO];exact hlt),cF]
  refine⟨_,rfl,sz 2,_,cj aO,Fq (by rw[List.length_map];omega),?_⟩
  have e:(cP S d JQ Jw++[O.lst (l.map pT)]).set (S.length+0) (O.lst (l.map pT++[pT (y2,(r3:Int) - 3)]))=cP S d JQ Jw++[O.lst ((l++[(y2,(r3:Int) - 3)]).map pT)]:=by
   rw[<- aO (S:=S) (d:=d) (c:=JQ) (m:=Jw),dU,List.map_append]
   rfl
  have e':(cP S d JQ Jw++[O.lst (l.map pT)]).set (S.length+0) (O.lst (l.map pT++[.tup [.str y2,.int ((r3:Int) - 3)]]))=cP S d JQ Jw++[O.lst ((l++[(y2,(r3:Int) - 3)]).map pT)]:=e
  rw[e']
  refine hN _ _ ⟨_,_,_,_,rfl,rfl,by rw[List.length_append,hl];rfl,fun p YK=>?_⟩
  rcases List.mem_append.mp YK with q | q
  ·exact hp p q
  ·rw[List.mem_singleton.mp q];exact hy2
 ·rintro δ S' ⟨y,c,m,l,rfl,rfl,hl,hp⟩
  rw[List.length_map,List.length_range] at hl
  refine⟨trivial,_,rfl,_,rfl,d,19,rfl,hd.cP.up,by first | decide | omega,fun r2 cr2 ZK hr2=>?_⟩
  rw[dB (by rw[aO];exact hlt),cF]
  refine⟨_,rfl,sz 4,_,rfl,d,4,rfl,hd.cP.up,by first | decide | omega,fun r3 JQ Jw sI=>?_⟩
  rw[dB (by rw[aO];exact hlt),cF]
  obtain⟨v,ev,hv⟩:=four (a:=0) (b:=1) (c:=-1) (e:=(r2:Int) - 9) (P:=fun v=>-20 < v/\v < 20) sI ⟨by decide,by decide⟩ ⟨by decide,by decide⟩ ⟨by decide,by decide⟩ ⟨by omega,by omega⟩
  refine⟨_,_,rfl,ev,_,l,v,rfl,As (jc (cj aO)),by omega,MY hc (h _ _ _ ⟨?_,LU hp,by show -(2 ^ 63) < v;omega,by show v < 2 ^ 63;omega⟩)⟩
  have:=oz l
  show(norm l).length<=2
  omega
noncomputable abbrev gR:Stmt:=top 74
theorem fU:ao ["_law_draw","_law_things","_law_deep","_law_sign","_law_one_here","_law_kind"] ["_law_draw","_law_things","_law_deep"] (af gR):=ck
theorem oh (F:bM K "_law_condition" "_law_condition" gR f fd)(J:Fx K mg A)(Gj:Nd P w K mg base k A)(bE:Dn P w K mg base k "_law_condition" ["_law_draw","_law_things","_law_deep"] (aQ K (wU A n)))(kN:uK P w K mg base k A)(ye:G1 P w K mg base k A)(aD:dH P w K mg base k)(gI:o7 P w K mg base k A)(eT:o8 P w K mg base k A):aE P w K mg base bO (k+1) f fd ["_law_draw","_law_things","_law_deep"] (aQ K (Bf A n)):=by
 refine aR F fU fun cdv B outer s H E hr=>?_
 rw[show ak gR=[_,_,_,_,_,_,_] from rfl]
 refine⟨_,(qs (au (i:=3) fU.nd (aU (R6 (xs:=["<","<=","=","!=",">=",">"]) rfl) (ai aD hr rfl (qa (ah 0) (qa aj aa))))) (qs (au (i:=4) fU.nd (gG gI hr rfl (qa (ai eT hr rfl (qa (ah 0) (qa (ah 1) aa))) (qa (ah 3) (qa (ai eT hr rfl (qa (ah 0) (qa (ah 1) aa))) aa))))) (qs (au (i:=5) fU.nd (aM aF (ai aD hr rfl (qa (ah 0) (qa aj aa))) (aM ou aj (bh M6 (by rfl) J.M8 boot_int (qa (HN (dW 40 (uE hr)) (ah 2) aj (aN _)) aa))))) (qs (aZ (aL (dW 40 (uE hr)) (ah 5) aj (aN _)) (aS (aq (gG ye hr rfl (qa (ai bE hr rfl (qa (ah 0) (qa (ah 1) (qa (aM xU (ah 2) aj) aa)))) aa)))) aJ) (qs (aZ (aL (dW 40 (uE hr)) (ah 5) aj (aN _)) (aS (aq (gG kN hr rfl (qa (ay (qa (ah 4) (qa (ai bE hr rfl (qa (ah 0) (qa (ah 1) (qa (aM xU (ah 2) aj) aa)))) aa))) aa)))) aJ) (qs (aZ (aL (dW 40 (uE hr)) (ah 5) aj (aN _)) (aS (aq (gG Gj hr rfl (qa (ay (qa (ah 4) (qa (ai bE hr rfl (qa (ah 0) (qa (ah 1) (qa (aM xU (ah 2) aj) aa)))) (qa (ah 4) aa)))) aa)))) aJ) (aS (aq (ah 4))))))))),fun ds S kk hc hd h=>?_⟩
 obtain⟨d,x,N,hn2,rfl,dq,hx,hn,h⟩:=h
 refine⟨sz 6,_,rfl,d,6,rfl,dq,by first | decide | omega,fun r1 Zc Xc hr1=>?_⟩
 obtain⟨sg,_,esg⟩:=qZ (N:=["<","<=","=","!=",">=",">"]) (r:=r1) (by simpa using hr1)
 refine⟨_,_,rfl,esg,_,rfl,_,rfl,d,x,N,rfl,dq.cP,kZ dq hx,hn,fun s1 c m hs1=>?_⟩
 rw[cF]
 refine⟨_,rfl,_,rfl,_,rfl,d,x,N,rfl,dq.cP,kZ dq hx,hn,fun s2 c m hs2=>?_⟩
 rw[cF]
 refine⟨_,[iC A s1,.str sg,iC A s2],rfl,rfl,av,made ⟨_,rfl,d,8,rfl,dq.cP,by first | decide | omega,fun r2 cr2 ZK hr2=>?_⟩⟩
 rw[cF]
 have c1:jb N (.cmp s1 sg s2):=⟨by unfold bC.dep;decide,by unfold bC.sz;decide,fun s hs=>by
  unfold bC.sums at hs
  rcases List.mem_cons.mp hs with rfl | hs
  ·exact hs1
  ·rw[List.mem_singleton.mp hs];exact hs2⟩
 have z1:(bC.cmp s1 sg s2).dep=0/\(bC.cmp s1 sg s2).sz=1:=⟨by unfold bC.dep;rfl,by unfold bC.sz;rfl⟩
 have hT:T.ins A.bq ["one","sign","other"] [iC A s1,.str sg,iC A s2]=eX A (.cmp s1 sg s2):=(IF ..).symm
 refine⟨_,rfl,rfl,.inl ⟨by decide,by decide⟩,?_⟩
 obtain⟨q,eq,hq⟩:∃ q:Int,(if (xor false (decide (V.int (n:Int)=V.int 0)))=true then (1:Int) else 0)=q/\((n=0/\q=1)∨(n=1/\q=0)):=by
  rw[qS,Bool.false_xor]
  by_cases h0:n=0
  ·exact⟨1,by rw[decide_eq_true (by omega)];rfl,.inl ⟨h0,rfl⟩⟩
  ·exact⟨0,by rw[decide_eq_false (by omega)];rfl,.inr ⟨by omega,rfl⟩⟩
 rw[eq]
 clear eq
 by_cases h0:(r2:Int)+8*q=0
 ·have hn1:n=1:=by omega
  subst hn1
  refine⟨_,rfl,rfl,true,congrArg D.bl (VA h0),_,rfl,_,rfl,_,rfl,d,x,N,by decide,rfl,dq.cP,kZ dq hx,hn,fun e c m he hz=>?_⟩
  rw[cF]
  obtain⟨z2,z3⟩:=hz rfl
  refine⟨_,[eX A e],rfl,rfl,av,made (nJ ?_)⟩
  have:T.ins A.bT ["condition"] [eX A e]=eX A (.neg e):=(Pu ..).symm
  rw[this]
  exact h _ _ _ ⟨by unfold bC.dep;omega,by unfold bC.sz;omega,fun s hs=>he.mem s (by unfold bC.sums at hs;exact hs)⟩ fun h=>absurd h (by decide)
 by_cases h1:(r2:Int)+8*q=1
 ·have hn1:n=1:=by omega
  subst hn1
  refine⟨_,rfl,rfl,false,congrArg D.bl (Pb h0),_,rfl,rfl,true,congrArg D.bl (VA h1),_,rfl,_,rfl,_,rfl,_,rfl,d,x,N,by decide,rfl,dq.cP,kZ dq hx,hn,fun e c m he hz=>?_⟩
  rw[cF]
  obtain⟨z2,z3⟩:=hz rfl
  refine⟨_,rfl,sz 2,_,_,_,rfl,av,rfl,made (nJ ?_)⟩
  rw[hT]
  have:T.ins A.cS ["conditions"] [.tup [eX A (.cmp s1 sg s2),eX A e]]=eX A (.con true [.cmp s1 sg s2,e]):=by rw[IE];rfl
  rw[this]
  exact h _ _ _ (Vi c1 z1 he z2 z3) fun h=>absurd h (by decide)
 by_cases h2:(r2:Int)+8*q=2
 ·have hn1:n=1:=by omega
  subst hn1
  refine⟨_,rfl,rfl,false,congrArg D.bl (Pb h0),_,rfl,rfl,false,congrArg D.bl (Pb h1),_,rfl,rfl,true,congrArg D.bl (VA h2),_,rfl,_,rfl,_,rfl,_,rfl,d,x,N,by decide,rfl,dq.cP,kZ dq hx,hn,fun e c m he hz=>?_⟩
  rw[cF]
  obtain⟨z2,z3⟩:=hz rfl
  refine⟨_,rfl,_,rfl,sz 3,_,_,_,rfl,av,rfl,made (nJ ?_)⟩
  rw[hT]
  have:T.ins A.fu ["conditions"] [.tup [eX A (.cmp s1 sg s2),eX A e,eX A (.cmp s1 sg s2)]]=eX A (.con false [.cmp s1 sg s2,e,.cmp s1 sg s2]):=by rw[IE];rfl
  rw[this]
  exact h _ _ _ (Pq c1 z1 he z2 z3) fun h=>absurd h (by decide)
 refine⟨_,rfl,rfl,false,congrArg D.bl (Pb h0),_,rfl,rfl,false,congrArg D.bl (Pb h1),_,rfl,rfl,false,congrArg D.bl (Pb h2),_,rfl,nJ ?_⟩
 rw[hT]
 exact h _ _ _ c1 fun _=>z1
noncomputable abbrev pS:Stmt:=top 75
theorem FF:ao ["_law_draw","_law_things"] ["_law_draw","_law_things"] (af pS):=ck
theorem F1 (F:bM K "_law_place" "_law_place" pS f fd)(J:Fx K mg A)(gz:jZ P w K mg base k A)(aD:dH P w K mg base k)(eT:o8 P w K mg base k A):aE P w K mg base bO (k+1) f fd ["_law_draw","_law_things"] (aQ K (Be A)):=by
 refine aR F FF fun cdv B outer s H E hr=>?_
 rw[show ak pS=[_,_] from rfl]
 refine⟨_,(qs (aZ (aL (dW 40 (uE hr)) (ai aD hr rfl (qa (ah 0) (qa aj aa))) aj (aN _)) (aS (aq (ai eT hr rfl (qa (ah 0) (qa (ah 1) aa))))) aJ) (aS (aq (ai gz hr rfl (qa (ay aa) (qa (ai aD hr rfl (qa (ah 0) (qa aj aa))) aa)))))),fun ds S kk hc hd h=>?_⟩
 obtain⟨d,x,N,rfl,hd,hx,hn,h⟩:=h
 refine⟨_,rfl,d,2,rfl,hd,by first | decide | omega,fun r1 Zc Xc hr1=>?_⟩
 by_cases h0:r1=0
 ·refine⟨rfl,true,iT,_,rfl,_,rfl,d,x,N,rfl,hd.cP,kZ hd hx,hn,fun s c m hs=>?_⟩
  rw[cF]
  exact nJ (h s c m hs)
 ·refine⟨rfl,false,iF,_,rfl,sz 0,_,rfl,d,3,rfl,hd.cP,by first | decide | omega,fun r2 cr2 ZK hr2=>?_⟩
  rw[cF]
  refine⟨_,[],(r2:Int),rfl,rfl,by decide,nJ (h _ _ _ ⟨by show 0<=2;decide,fun _ h=>absurd h (by simp[sumOf,norm,Sm.bJ,uU]),by show -(2 ^ 63) < (r2:Int);omega,by show(r2:Int) < 2 ^ 63;omega⟩)⟩
noncomputable abbrev rZ:Stmt:=top 76
theorem dO:ao ["_law_draw","_law_own","_law_names_here","_law_things","_law_makes","_law_uses","_law_at","_law_kind","_law_name","_law_by"] ["_law_draw","_law_own"] (af rZ):=ck
theorem Jo (F:bM K "_law_line" "_law_line" rZ f fd)(J:Fx K mg A)(Mj:PU P w K mg base k A)(eT:o8 P w K mg base k A)(sG:AS P w K mg base k A)(bE:gB P w K mg base k A)(Gk:Nf P w K mg base k A)(oR:zN P w K mg base k A)(aD:dH P w K mg base k)(Mi:PR P w K mg base k A)(Ci:J4 P w K mg base k A)(yg:G3 P w K mg base k A)(gz:jZ P w K mg base k A):aE P w K mg base bO (k+1) f fd ["_law_draw","_law_own"] (aQ K (Hz A)):=by
 refine aR F dO fun cdv B outer s H E hr=>?_
 rw[show ak rZ=[_,_,_,_,_,_,_,_,_,_] from rfl]
 refine⟨_,(qs (Lo (ah 1) (mZ (n:=4) rfl (Ak (qg (i:=2) dO.nd) (Ak (qg (i:=3) dO.nd) (Ak (qg (i:=4) dO.nd) (Ak (qg (i:=5) dO.nd) ju)))))) (qs (au (i:=6) dO.nd (aU (ah 0) aj)) (qs (au (i:=7) dO.nd (ai aD hr rfl (qa (ah 0) (qa aj aa)))) (qs (au (i:=8) dO.nd (aU (ah 2) (ai aD hr rfl (qa (ah 0) (qa (bz nD (by rfl) J.nE PySem.boot_len (qa (ah 2) aa)) aa))))) (qs (aZ (aL SV (ah 7) aj (aN _)) (qs (au (i:=9) dO.nd (ai gz hr rfl (qa (ay aa) (qa (aU (cA (qa aj (qa aj (qa (Al aj) (qa aj (qa aj (qa aj (qa (Al aj) aa)))))))) (ai aD hr rfl (qa (ah 0) (qa aj aa)))) aa)))) (qs (aZ (aL (dW 40 (uE hr)) (ai aD hr rfl (qa (ah 0) (qa aj aa))) aj (aN _)) (aS (au (i:=9) dO.nd (ai eT hr rfl (qa (ah 0) (qa (ah 3) aa))))) aJ) (aS (aq (gG yg hr rfl (qa (ah 6) (qa (ah 8) (qa (aU (cA (qa aA (qa aA aa))) (ah 7)) (qa (ai eT hr rfl (qa (ah 0) (qa (ah 3) aa))) (qa (ah 9) aa)))))))))) aJ) (qs (aZ (qw (Aj (aL (dW 40 (uE hr)) (ah 7) aj (aN _)) (tZ (aL (dW 40 (uE hr)) (ah 7) aj (aN _))))) (aS (aq (gG Ci hr rfl (qa (ah 6) (qa (ah 8) (qa (aU (ah 5) (ai aD hr rfl (qa (ah 0) (qa (bz nD (by rfl) J.nE PySem.boot_len (qa (ah 5) aa)) aa)))) (qa (ai oR hr rfl (qa (ah 0) (qa (ah 3) aa))) aa))))))) aJ) (qs (aZ (aL (dW 40 (uE hr)) (ah 7) aj (aN _)) (aS (aq (gG Mi hr rfl (qa (ah 6) (qa (aU (ah 5) (ai aD hr rfl (qa (ah 0) (qa (bz nD (by rfl) J.nE PySem.boot_len (qa (ah 5) aa)) aa)))) (qa (ai oR hr rfl (qa (ah 0) (qa (ah 3) aa))) (qa (ai eT hr rfl (qa (ah 0) (qa (ah 3) aa))) aa))))))) aJ) (qs (aZ (qw (RY (aL (dW 40 (uE hr)) (ah 7) aj (aN _)) (Oe (aL (Jr 40 (uE hr)) (ah 4) (cA aa) (aN _))))) (aS (aq (gG Gk hr rfl (qa (ah 6) (qa (aU (ah 4) (ai aD hr rfl (qa (ah 0) (qa (bz nD (by rfl) J.nE PySem.boot_len (qa (ah 4) aa)) aa)))) (qa (ai oR hr rfl (qa (ah 0) (qa (ah 3) aa))) aa)))))) aJ) (qs (aZ (aL (dW 40 (uE hr)) (ah 7) aj (aN _)) (aS (aq (gG sG hr rfl (qa (ah 6) (qa (ai bE hr rfl (qa (ah 0) (qa (ah 3) (qa aj aa)))) aa))))) aJ) (aS (aq (gG Mj hr rfl (qa (ah 6) (qa (ah 8) (qa (ai eT hr rfl (qa (ah 0) (qa (ah 3) aa))) aa))))))))))))))),fun ds S kk hc hd h=>?_⟩
 obtain⟨d,ns,N,ms,us,rfl,dq,ok,h⟩:=h
 have Fc:N.length<=100:=by have:=ok.nN.1;omega
 have hnp:0 < ns.length:=List.length_pos_iff.mpr ok.n.1
 have hup:0 < us.length:=List.length_pos_iff.mpr ok.u.1
 obtain⟨c0,m0,e0⟩:=id dq
 refine⟨_,rfl,_,rfl,rfl,_,_,rfl,_,_,rfl,_,_,rfl,_,_,rfl,rfl,_,rfl,_,_,nS e0,rfl,?_⟩
 refine⟨_,rfl,d,9,rfl,dq,by first | decide | omega,fun r1 Zc Xc hr1=>?_⟩
 refine⟨_,rfl,_,rfl,_,rfl,_,rfl,d,_,rfl,dq.cP,by rw[List.length_map];omega,fun r2 c2 m2 hr2=>?_⟩
 rw[cF]
 rw[List.length_map] at hr2
 obtain⟨x,hx,ex⟩:=qZ hr2
 have YE:=(ok.nm x hx).1
 have VD:=(ok.nm x hx).2
 have hxs:x.length<=100:=by have:=YE.2;omega
 refine⟨_,_,rfl,ex,_,rfl,?_⟩
 have fin:∀ (s:aX) (c m:Int),j7 N s->closes S.length (.t (nQ A s)) (cP S d c m) kk:=fun s c m hs=>nJ (h s c m hs)
 by_cases hk2:(r1:Int) < 2
 ·obtain⟨wd,ewd,Z4⟩:=two (r:=r1) hk2
  refine⟨true,congrArg D.bl (decide_eq_true hk2),_,rfl,sz 0,_,rfl,sz 7,_,rfl,d,7,rfl,dq.cP,by first | decide | omega,fun r3 JQ Jw sI=>?_⟩
  rw[cF]
  obtain⟨v,ev,hv⟩:=Wt (r:=r3) sI
  refine⟨_,_,rfl,ev,_,[],v,rfl,rfl,by decide,_,rfl,d,4,rfl,dq.cP,by first | decide | omega,fun r4 cr4 mr4 hr4=>?_⟩
  rw[cF]
  by_cases h4:r4=0
  ·refine⟨rfl,true,iT,_,rfl,_,rfl,d,_,N,rfl,dq.cP,rfl,Fc,fun b c m hb=>?_⟩
   rw[cF]
   refine⟨_,rfl,_,rfl,_,rfl,sz 2,_,rfl,_,_,rfl,ewd,_,rfl,_,rfl,d,_,N,rfl,dq.cP,rfl,Fc,fun s c m hs=>?_⟩
   rw[cF]
   exact⟨_,rfl,_,[.int m0,.str x,.str wd,iC A s,iC A b],rfl,rfl,av,made (fin (.dv m0 x wd s b) _ _ (Qe hs hb YE VD Z4))⟩
  ·have hb:qm N (sumOf [] v):=RJ hv
   refine⟨rfl,false,iF,?_⟩
   refine⟨_,rfl,_,rfl,_,rfl,sz 2,_,rfl,_,_,rfl,ewd,_,rfl,_,rfl,d,_,N,rfl,dq.cP,rfl,Fc,fun s c m hs=>?_⟩
   rw[cF]
   exact⟨_,rfl,_,[.int m0,.str x,.str wd,iC A s,iC A (sumOf [] v)],rfl,rfl,av,made (fin (.dv m0 x wd s (sumOf [] v)) _ _ (Qe hs hb YE VD Z4))⟩
 by_cases k2:r1=2
 ·refine⟨false,congrArg D.bl (decide_eq_false hk2),_,rfl,rfl,true,iT,_,rfl,_,rfl,_,rfl,_,rfl,_,rfl,_,rfl,d,_,rfl,dq.cP,by rw[List.length_map];omega,fun r3 JQ Jw sI=>?_⟩
  rw[cF]
  rw[List.length_map] at sI
  obtain⟨r,hr,er⟩:=qZ sI
  refine⟨_,_,rfl,er,_,rfl,_,rfl,d,_,N,rfl,dq.cP,rfl,Fc,fun p c m hp=>?_⟩
  rw[cF]
  exact⟨_,[.int m0,.str x,.str r,iC A p],rfl,rfl,av,made (fin (.ft m0 x r p) _ _ (Qd hp YE VD (ok.um r hr)))⟩
 by_cases k8:r1=8
 ·refine⟨false,congrArg D.bl (decide_eq_false hk2),_,rfl,rfl,false,iF,_,rfl,rfl,true,iT,_,rfl,_,rfl,_,rfl,_,rfl,_,rfl,_,rfl,d,_,rfl,dq.cP,by rw[List.length_map];omega,fun r3 JQ Jw sI=>?_⟩
  rw[cF]
  rw[List.length_map] at sI
  obtain⟨r,hr,er⟩:=qZ sI
  refine⟨_,_,rfl,er,_,rfl,_,rfl,d,_,N,rfl,dq.cP,rfl,Fc,fun p c m hp=>?_⟩
  rw[cF]
  exact⟨_,[.int m0,.str x,.str r,iC A p],rfl,rfl,av,made (fin (.ft m0 x r p) _ _ (Qd hp YE VD (ok.um r hr)))⟩
 by_cases k3:r1=3
 ·refine⟨false,congrArg D.bl (decide_eq_false hk2),_,rfl,rfl,false,iF,_,rfl,rfl,false,iF,_,rfl,rfl,true,iT,_,rfl,_,rfl,_,rfl,_,rfl,_,rfl,d,_,rfl,dq.cP,by rw[List.length_map];omega,fun r3 JQ Jw sI=>?_⟩
  rw[cF]
  rw[List.length_map] at sI
  obtain⟨r,hr,er⟩:=qZ sI
  refine⟨_,_,rfl,er,_,rfl,_,rfl,d,_,N,rfl,dq.cP,rfl,Fc,fun p c m hp=>?_⟩
  rw[cF]
  refine⟨_,rfl,_,rfl,d,_,N,rfl,dq.cP,rfl,Fc,fun s c m hs=>?_⟩
  rw[cF]
  exact⟨_,[.int m0,.str r,iC A p,iC A s],rfl,rfl,av,made (fin (.pt m0 r p s) _ _ (Wl hp hs (ok.um r hr)))⟩
 by_cases k5:r1=5
 ·refine⟨false,congrArg D.bl (decide_eq_false hk2),_,rfl,rfl,false,iF,_,rfl,rfl,false,iF,_,rfl,rfl,false,iF,_,rfl,rfl,false,iF,_,rfl,rfl,true,iT,_,rfl,_,rfl,_,rfl,d,_,N,by decide,rfl,dq.cP,rfl,Fc,fun e c m he _=>?_⟩
  rw[cF]
  exact⟨_,[.int m0,eX A e],rfl,rfl,av,made (fin (.cm m0 e) _ _ (Qf he))⟩
 by_cases k4:r1=4
 ·by_cases hm:ms=[]
  ·refine⟨false,congrArg D.bl (decide_eq_false hk2),_,rfl,rfl,false,iF,_,rfl,rfl,false,iF,_,rfl,rfl,false,iF,_,rfl,rfl,true,iT,_,rfl,_,rfl,sz 0,Cu rfl ⟨false,congrArg D.bl (S7 hm),_,rfl,rfl,false,iF,_,rfl,_,rfl,_,rfl,_,rfl,d,_,N,rfl,dq.cP,rfl,Fc,fun s c m hs=>?_⟩⟩
   rw[cF]
   exact⟨_,[.int m0,.str x,iC A s],rfl,rfl,av,made (fin (.lt m0 x s) _ _ (Qc hs VD hxs))⟩
  ·have hmp:0 < ms.length:=List.length_pos_iff.mpr hm
   refine⟨false,congrArg D.bl (decide_eq_false hk2),_,rfl,rfl,false,iF,_,rfl,rfl,false,iF,_,rfl,rfl,false,iF,_,rfl,rfl,true,iT,_,rfl,_,rfl,sz 0,Cu rfl ⟨true,congrArg D.bl (OT hm),_,rfl,_,rfl,_,rfl,_,rfl,_,rfl,d,_,rfl,dq.cP,by rw[List.length_map];omega,fun r3 JQ Jw sI=>?_⟩⟩
   rw[cF]
   rw[List.length_map] at sI
   obtain⟨r,hr,er⟩:=qZ sI
   refine⟨_,_,rfl,er,_,rfl,_,rfl,d,_,N,rfl,dq.cP,rfl,Fc,fun z c m hz=>?_⟩
   rw[cF]
   exact⟨_,[.int m0,.str r,iC A z],rfl,rfl,av,made (fin (.mq m0 r z) _ _ (Wm hz (ok.m r hr)))⟩
 refine⟨false,congrArg D.bl (decide_eq_false hk2),_,rfl,rfl,false,iF,_,rfl,rfl,false,iF,_,rfl,rfl,false,iF,_,rfl,rfl,false,iF,_,rfl,rfl,false,iF,_,rfl,_,rfl,_,rfl,_,rfl,d,_,N,rfl,dq.cP,rfl,Fc,fun s c m hs=>?_⟩
 rw[cF]
 exact⟨_,[.int m0,.str x,iC A s],rfl,rfl,av,made (fin (.lt m0 x s) _ _ (Qc hs VD hxs))⟩
noncomputable abbrev pP:Stmt:=top 77
theorem FE:ao ["_law_draw","_law_own","_law_many","_law_deep","_law_helpers"] ["_law_draw","_law_own","_law_many","_law_deep","_law_helpers"] (af pP):=ck
theorem FY (F:bM K "_law_steps" "_law_steps" pP f fd)(J:Fx K mg A)(GH:CV P w K mg base k A):aE P w K mg base bO (k+1) f fd ["_law_draw","_law_own","_law_many","_law_deep","_law_helpers"] (aQ K (Dy A)):=by
 refine aR F FE fun cdv B outer s H E hr=>?_
 rw[show ak pP=[_] from rfl]
 refine⟨_,(aS (aq (Oi (aY ["_law_k"] ["_law_draw","_law_own"] [0,1] rfl (by decide +kernel) (by decide +kernel) (by with_unfolding_all rfl) (by exact⟨rfl,rfl,trivial⟩) (by rfl) rfl (by rfl)) rfl (xA rfl J.sU (qa (ah 2) aa)) (fun _ _ _ _=>(qx (i:=0) (show List.Nodup (["_law_k","_law_draw","_law_own"]:List Str) by decide +kernel))) (fun _ _ _ _=>b9) (fun _ _ _ _=>(ai GH hr rfl (qa (ah 1) (qa (ah 2) aa))))))),fun ds S kk hc hd h=>?_⟩
 obtain⟨d,ns,N,ms,us,j,x,y,rfl,dq,ok,hj,h⟩:=h
 obtain⟨c0,m0,e0⟩:=dq.self
 refine⟨_,rfl,(j:Int),rfl,by omega,by omega,?_⟩
 rw[e0]
 refine Cv (n:=j) dq (fun y=>∃ s,y=nQ A s/\j7 N s) (by omega) (fun i c m k' hk=>?_) fun ys c m hl hp=>?_
 ·refine⟨_,rfl,_,rfl,d,ns,N,ms,us,rfl,dq.cP,ok,fun s c m hs=>?_⟩
  rw[cF]
  exact⟨_,rfl,hk _ _ _ ⟨s,rfl,hs⟩⟩
 obtain⟨l,rfl,hl2,hp2⟩:=ex_map hp
 rw[<- e0]
 have e1:(cP S d c m).length=S.length+0:=aO
 rw[e1]
 refine Zf (M1 hc) aO rfl trivial (h l c m (by rw[hl2,hl]) hp2)
noncomputable abbrev pU:Stmt:=top 78
theorem FG:ao ["_law_draw","_law_things","_law_many"] ["_law_draw","_law_things","_law_many"] (af pU):=ck
theorem F2 (F:bM K "_law_pairs" "_law_pairs" pU f fd)(J:Fx K mg A)(bE:gB P w K mg base k A):aE P w K mg base bO (k+1) f fd ["_law_draw","_law_things","_law_many"] (aQ K (DB A)):=by
 refine aR F FG fun cdv B outer s H E hr=>?_
 rw[show ak pU=[_] from rfl]
 refine⟨_,(aS (aq (cV (aY ["_law_k"] ["_law_draw","_law_things"] [0,1] rfl (by decide +kernel) (by decide +kernel) (by with_unfolding_all rfl) (by exact⟨rfl,rfl,trivial⟩) (by rfl) rfl (by rfl)) rfl (xA rfl J.sU (qa (ah 2) aa)) (fun _ _ _ _=>(qx (i:=0) (show List.Nodup (["_law_k","_law_draw","_law_things"]:List Str) by decide +kernel))) (fun _ _ _ _=>b9) (fun _ _ _ _=>(ay (qa (aU (ah 1) aj) (qa (ai bE hr rfl (qa (ah 1) (qa (ah 2) (qa aj aa)))) aa))))))),fun ds S kk hc hd h=>?_⟩
 obtain⟨d,x,N,j,rfl,dq,hx,hn,hj,h⟩:=h
 obtain⟨c0,m0,e0⟩:=dq.self
 refine⟨_,rfl,(j:Int),rfl,by omega,by omega,?_⟩
 rw[e0]
 refine Cv (n:=j) dq (fun y=>∃ p,y=atT A p/\jb N p.2) (by omega) (fun i c m k' hk=>?_) fun ys c m hl hp=>?_
 ·refine⟨_,rfl,_,_,nS (yr dq.lt),rfl,_,rfl,_,rfl,d,x,N,by decide,rfl,dq.cP,kZ dq hx,hn,fun e c2 m2 he _=>?_⟩
  rw[cF]
  exact⟨_,rfl,sz 2,_,rfl,hk _ _ _ ⟨(m,e),rfl,he⟩⟩
 obtain⟨l,rfl,hl2,hp2⟩:=ex_map hp
 rw[<- e0]
 exact nJ (h l c m (by rw[hl2,hl]) hp2)
noncomputable abbrev mE:Stmt:=top 79
theorem cH:ao ["_law_draw","_law_name","_law_many","_law_deep","_law_helpers","_law_names_here","_law_params","_law_row","_law_answers","_law_needs","_law_gives","_law_makes","_law_own","_law_steps_here"] ["_law_draw","_law_name","_law_many","_law_deep","_law_helpers","_law_names_here"] (af mE):=ck
theorem D7 (F:bM K "_law_helper" "_law_helper" mE f fd)(J:Fx K mg A)(yf:G2 P w K mg base k A)(aD:dH P w K mg base k)(sG:AS P w K mg base k A)(bE:gB P w K mg base k A)(EJ:zL P w K mg base k A)(vh:zO P w K mg base k A):aE P w K mg base bO (k+1) f fd ["_law_draw","_law_name","_law_many","_law_deep","_law_helpers","_law_names_here"] (aQ K (Af A)):=by
 refine aR F cH fun cdv B outer s H E hr=>?_
 rw[show ak mE=[_,_,_,_,_,_,_,_,_,_] from rfl]
 refine⟨_,(qs (au (i:=6) cH.nd (t6 true (ah 5) r9 (bS (ai aD hr rfl (qa (ah 0) (qa aj aa)))))) (qs (bK PassesOwn.never rfl (qi (t6 false (ah 5) (bS aj) (bS (aM aF aj (ai aD hr rfl (qa (ah 0) (qa aj aa))))))) (qg (i:=7) cH.nd) (aS (jF (WJ (ah 6) (qa (ai aD hr rfl (qa (ah 0) (qa (aM aF (bz nD (by rfl) J.nE PySem.boot_len (qa (ah 6) aa)) aj) aa))) (qa (aM aF aA (ah 7)) aa)))))) (qs (au (i:=8) cH.nd (t6 false (ah 5) (bS aj) (bS (aM aF aj (ai aD hr rfl (qa (ah 0) (qa aj aa))))))) (qs (au (i:=9) cH.nd (ai vh hr rfl (qa (ah 0) (qa (ah 6) (qa (ai aD hr rfl (qa (ah 0) (qa aj aa))) aa))))) (qs (au (i:=10) cH.nd (ai vh hr rfl (qa (ah 0) (qa (aM aF (ah 6) (ah 8)) (qa (ai aD hr rfl (qa (ah 0) (qa aj aa))) aa))))) (qs (HL (i:=11) cH.nd (aY ["_law_row"] ["_law_params"] [6] rfl (by decide +kernel) (by decide +kernel) (by with_unfolding_all rfl) (by exact⟨rfl,trivial⟩) (by rfl) rfl (by rfl)) rfl (qi (t6 false (ah 5) (bS aj) (bS aj))) (fun _ _ _ _=>(qx (i:=0) (show List.Nodup (["_law_row","_law_params"]:List Str) by decide +kernel))) (fun _ _ _ _=>(wm (aL HW (aM aF aA (ah 0)) (ah 1) (by rfl)))) (fun _ _ _ _=>(ah 0))) (qs (au (i:=12) cH.nd (ay (qa (t6 false (ah 5) (bS aj) (bS aj)) (qa (aM aF (t6 false (ah 5) r9 (bS aj)) (cV (aY ["_law_row"] [] [] rfl (by decide +kernel) (by decide +kernel) (by with_unfolding_all rfl) (by exact trivial) (by rfl) rfl (by rfl)) rfl (qi (t6 false (ah 5) (bS aj) (bS aj))) (fun _ _ _ _=>(qx (i:=0) (show List.Nodup (["_law_row"]:List Str) by decide +kernel))) (fun _ _ _ _=>b9) (fun _ _ _ _=>(aM aF aA (ah 0))))) (qa (ah 11) (qa (t6 false (ah 5) (bS aj) (bS aj)) aa)))))) (qs (au (i:=13) cH.nd (ai EJ hr rfl (qa (ah 0) (qa (ah 12) (qa (ah 2) (qa (ah 3) (qa (ah 4) aa))))))) (qs (aZ (aL (dW 40 (uE hr)) (ai aD hr rfl (qa (ah 0) (qa aj aa))) aj (aN _)) (aS (jF (uX (ah 13) (qa (gG sG hr rfl (qa (aU (ah 0) aj) (qa (ai bE hr rfl (qa (ah 0) (qa (aU (ah 12) aj) (qa aj aa)))) aa))) aa)))) aJ) (aS (aq (gG yf hr rfl (qa (aU (ah 0) aj) (qa (ah 1) (qa (ah 6) (qa (ah 8) (qa (ah 9) (qa (ah 10) (qa (ah 13) aa))))))))))))))))))),fun ds S kk hc hd h=>?_⟩
 obtain⟨d,ns,j,nm,rfl,dq,hj,VF,hw,h⟩:=h
 have hlt:=dq.lt
 obtain⟨a0,a1,a2,a3,a4,a5,a6,a7,rfl⟩:=MN VF
 have w0:=hw a0 (by simp)
 have w1:=hw a1 (by simp)
 have w2:=hw a2 (by simp)
 have w3:=hw a3 (by simp)
 have w4:=hw a4 (by simp)
 have w5:=hw a5 (by simp)
 have w6:=hw a6 (by simp)
 have w7:=hw a7 (by simp)
 have Fc:[a0,a1,a2,a3,a4,a5,hsh a6,hsh a7].length<=100:=by simp
 refine⟨_,rfl,_,rfl,d,3,rfl,dq,by first | decide | omega,fun r1 Zc Xc hr1=>?_⟩
 obtain⟨p0,ep0,hp0,a11⟩:=Va (a0:=a0) (a1:=a1) (a2:=a2) (a3:=a3) (a4:=a4) (a5:=a5) (a6:=a6) (a7:=a7) hr1
 refine⟨_,rfl,_,rfl,?_⟩
 rw[ep0]
 refine⟨_,rfl,_,rfl,_,rfl,d,3,rfl,dq.cP.up,by first | decide | omega,fun r2 cr2 ZK hr2=>?_⟩
 rw[dB (by rw[aO];exact hlt),cF]
 obtain⟨rs,ers,hrs,a1Z⟩:=U9 (a0:=a0) (a1:=a1) (a2:=a2) (a3:=a3) (a4:=a4) (a5:=a5) (a6:=a6) (a7:=a7) hr2
 refine⟨_,rfl,_,rfl,?_⟩
 rw[ers,aO,if_neg Bool.false_ne_true]
 refine jP ?_
 refine eW T.str (fun pre δ S'=>∃ y c m,∃ ps:List Str,δ=[some (D.ob d),some (D.str nm),some (D.int j),some (D.int 0),some (D.lst []),some (D.t (Ar [a0,a1,a2,a3,a4,a5,a6,a7])),some (D.ob (S.length+0)),y,none,none,none,none,none,none]/\S'=cP S d c m++[O.lst (ps.map T.str)]/\ps.length<=2+pre.length/\∀ x∈ps,PN x) ⟨_,_,_,p0,rfl,rfl,by simpa using hp0,fun x hx=>?_⟩ ?_ ?_
 ·have:=a11 x hx
  simp at this
  rcases this with rfl | rfl
  ·exact Lu w0
  ·exact Lu w1
 ·rintro pre r post δ S' Nx e ⟨y,c,m,ps,rfl,rfl,hl,hp⟩ hN
  have hr:=a1Z r (by rw[e];simp)
  have hpre:pre.length<=2:=by rw[e,List.length_append] at hrs;omega
  have hrw:qo r:=by
   simp at hr
   rcases hr with rfl | rfl
   ·exact w6
   ·exact w7
  refine⟨trivial,_,rfl,⟨rfl,_,jc (cj aO)⟩,_,rfl,_,rfl,_,nS (cj aO),d,_,rfl,dq.cP.up,by omega,fun r3 c3 m3 sI=>?_⟩
  rw[dB (by rw[aO];exact hlt),cF]
  rw[List.length_map] at sI
  refine⟨_,rfl,by have:=hrw.2;exact cU (by show 1+_<=1000;omega),_,r3,cj aO,rfl,by rw[List.length_map];omega,Fq (by rw[List.length_map];omega),?_⟩
  have e2:(cP S d c3 m3++[O.lst (ps.map T.str)]).set (S.length+0) (O.lst ((ps.map T.str).take r3++[T.str ("#"++r)]++(ps.map T.str).drop r3))=cP S d c3 m3++[O.lst ((ps.take r3++[hsh r]++ps.drop r3).map T.str)]:=by
   rw[<- aO (S:=S) (d:=d) (c:=c3) (m:=m3),dU,List.map_append,List.map_append,List.map_take,List.map_drop]
   rfl
  rw[e2]
  refine hN _ _ ⟨_,_,_,_,rfl,rfl,?_,fun x hx=>?_⟩
  ·simp only[List.length_append,List.length_take,List.length_drop,List.length_cons,List.length_nil];omega
  ·rcases List.mem_append.mp hx with hx | hx
   ·rcases List.mem_append.mp hx with hx | hx
    ·exact hp x (List.mem_of_mem_take hx)
    ·rw[List.mem_singleton.mp hx];exact Sj hrw
   ·exact hp x (List.mem_of_mem_drop hx)
 rintro δ S' ⟨y,c,m,ps,rfl,rfl,hpl,YJ⟩
 have hps:ps.length<=4:=by omega
 refine⟨trivial,_,rfl,_,rfl,_,rfl,d,3,rfl,dq.cP.up,by first | decide | omega,fun r3 JQ Jw sI=>?_⟩
 rw[dB (by rw[aO];exact hlt),cF]
 obtain⟨Rg,ean,han,YT⟩:=Vc (a0:=a0) (a1:=a1) (a2:=a2) (a3:=a3) (a4:=a4) (a5:=a5) (a6:=a6) (a7:=a7) sI
 refine⟨_,rfl,_,rfl,?_⟩
 rw[ean]
 refine⟨_,rfl,_,rfl,_,rfl,d,3,rfl,dq.cP.up,by first | decide | omega,fun r4 cr4 mr4 hr4=>?_⟩
 rw[dB (by rw[aO];exact hlt),cF]
 refine⟨d,_,ps,r4,rfl,dq.cP.up,jc (cj aO),by omega,by omega,fun nd c m a6h hnd=>?_⟩
 rw[dB (by rw[aO];exact hlt),cF]
 refine⟨_,rfl,_,rfl,_,rfl,_,_,jc (cj aO),rfl,cU (by rw[List.length_map,List.length_map];omega),_,rfl,d,3,rfl,dq.cP.up,by first | decide | omega,fun r5 cr5 mr5 hr5=>?_⟩
 rw[dB (by rw[aO];exact hlt),cF]
 refine⟨d,_,ps++Rg,r5,rfl,dq.cP.up,by rw[List.map_append];rfl,by rw[List.length_append];omega,by omega,fun gv c m a6l Z5=>?_⟩
 rw[dB (by rw[aO];exact hlt),cF]
 refine⟨_,rfl,_,rfl,_,rfl,_,rfl,?_⟩
 rw[GB,if_neg Bool.false_ne_true]
 refine jP ?_
 refine yt T.str (fun x=>if ps.contains (hsh x)=true then none else some (T.str x)) trivial (sz 2) (fun x hx k' hk=>?_) ?_
 ·have hxw:qo x:=by
   simp at hx
   rcases hx with rfl | rfl
   ·exact w6
   ·exact w7
  refine⟨_,rfl,by have:=hxw.2;exact cU (by show 1+_<=1000;omega),_,rfl,_,_,_,rfl,rfl,nS (cj aO),Cq ps,?_⟩
  have e3:QV (V.str ("#"++x)) (ps.map V.str)=ps.contains (hsh x):=by rw[Cn,List.contains_eq_mem];rfl
  rw[e3]
  cases q:ps.contains (hsh x) with
  | true=>rw[if_pos q] at hk;exact⟨false,rfl,hk⟩
  | false=>rw[if_neg (by rw[q];decide)] at hk;exact⟨true,rfl,_,rfl,_,rfl,hk⟩
 obtain⟨ms,ems,hms⟩:∃ ms:List Str,[a6,a7].filterMap (fun x=>if ps.contains (hsh x)=true then none else some (T.str x))=ms.map T.str/\ms.length<=2/\∀ x∈ms,x∈[a6,a7]:=by
  by_cases q6:ps.contains (hsh a6)=true <;> by_cases q7:ps.contains (hsh a7)=true
  ·exact⟨[],by simp only[List.filterMap_cons,List.filterMap_nil,if_pos q6,if_pos q7];rfl,by decide,fun x h=>by cases h⟩
  ·exact⟨[a7],by simp only[List.filterMap_cons,List.filterMap_nil,if_pos q6,if_neg q7];rfl,by simp,fun x h=>by simp at h;simp[h]⟩
  ·exact⟨[a6],by simp only[List.filterMap_cons,List.filterMap_nil,if_neg q6,if_pos q7];rfl,by simp,fun x h=>by simp at h;simp[h]⟩
  ·exact⟨[a6,a7],by simp only[List.filterMap_cons,List.filterMap_nil,if_neg q6,if_neg q7];rfl,by simp,fun x h=>h⟩
 rw[ems]
 refine⟨_,rfl,_,rfl,_,rfl,_,rfl,?_⟩
 rw[Vd]
 refine⟨_,rfl,_,rfl,_,rfl,?_⟩
 rw[Vb]
 refine⟨_,rfl,_,rfl,_,rfl,_,rfl,?_⟩
 rw[GB,if_neg Bool.false_ne_true]
 refine jP ?_
 refine gy T.str (fun x=>T.str (hsh x)) trivial (sz 2) (fun x hx k' hk=>?_) ?_
 ·have hxw:qo x:=by
   simp at hx
   rcases hx with rfl | rfl
   ·exact w6
   ·exact w7
  exact⟨_,rfl,by have:=hxw.2;exact cU (by show 1+_<=1000;omega),_,rfl,hk⟩
 refine⟨_,_,rfl,rfl,sz 8,_,rfl,_,rfl,_,rfl,_,rfl,_,rfl,?_⟩
 rw[GB]
 have LN:Vv [a2,a3,a4,a5] [a0,a1,a2,a3,a4,a5,hsh a6,hsh a7] ms [a6,a7]:=by
  refine⟨⟨by simp,by simp⟩,fun x hx=>?_,⟨by simp,by simp⟩,fun x hx=>?_,by omega,⟨by simp,by simp⟩,fun x hx=>?_⟩
  ·simp at hx
   rcases hx with rfl | rfl | rfl | rfl
   ·exact⟨w2,by simp⟩
   ·exact⟨w3,by simp⟩
   ·exact⟨w4,by simp⟩
   ·exact⟨w5,by simp⟩
  ·have:=hms.2 x hx
   simp at this
   rcases this with rfl | rfl
   ·exact⟨w6.2,by simp⟩
   ·exact⟨w7.2,by simp⟩
  ·simp at hx
   rcases hx with rfl | rfl
   ·exact⟨w6.2,by simp⟩
   ·exact⟨w7.2,by simp⟩
 refine⟨_,rfl,sz 4,_,rfl,_,rfl,_,rfl,_,rfl,_,rfl,d,_,_,ms,_,j,_,_,rfl,dq.cP.up,LN,by omega,fun sts c m hsl hst=>?_⟩
 rw[dB (by rw[aO];exact hlt),cF]
 rw[List.append_assoc,List.length_append,aO]
 refine⟨_,rfl,d,2,rfl,dq.cP.up,by first | decide | omega,fun r6 cr6 Xb hr6=>?_⟩
 rw[dB (by rw[aO];exact hlt),cF]
 by_cases h6:r6=0
 ·refine⟨rfl,true,iT,_,rfl,⟨rfl,_,jc (cj (q:=1) aO)⟩,_,rfl,_,_,nS (qG (yr hlt)),rfl,_,rfl,_,rfl,_,_,rfl,rfl,d,_,[a0,a1,a2,a3,a4,a5,hsh a6,hsh a7],by decide,rfl,dq.cP.up,rfl,Fc,fun e c m he _=>?_⟩
  rw[dB (by rw[aO];exact hlt),cF]
  refine⟨_,[.int Xb,eX A e],rfl,rfl,av,made ⟨_,cj (q:=1) aO,Fq (by rw[List.length_map];omega),?_⟩⟩
  have e4:(cP S d c m++([O.lst (ps.map T.str)]++[O.lst (sts.map (nQ A))])).set (S.length+[O.lst (ps.map T.str)].length) (O.lst (sts.map (nQ A)++[T.ins A.bg ["at","condition"] [.int Xb,eX A e]]))=cP S d c m++([O.lst (ps.map T.str)]++[O.lst ((sts++[aX.cm Xb e]).map (nQ A))]):=by
   rw[<- aO (S:=S) (d:=d) (c:=c) (m:=m),dU,List.map_append]
   rfl
  rw[e4]
  have a1V:∀ s∈sts++[aX.cm Xb e],j7 [a0,a1,a2,a3,a4,a5,hsh a6,hsh a7] s:=fun s hs=>by
   rcases List.mem_append.mp hs with hs | hs
   ·exact hst s hs
   ·rw[List.mem_singleton.mp hs];exact Qf he
  refine⟨_,rfl,_,_,nS (qG (yr hlt)),rfl,_,rfl,_,rfl,_,rfl,_,rfl,_,rfl,_,rfl,_,0,"",_,_,_,_,_,⟨_,nm,ps,Rg,nd,gv,sts++[.cm Xb e]⟩,rfl,av,As (x6 (jc (cj (q:=0) aO))),rfl,rfl,rfl,As (x6 (jc (cj (q:=1) aO))),by show nd.length<=100;omega,by show gv.length<=100;omega,made (MY hc (h _ _ _ _ (Ii (N:=[a0,a1,a2,a3,a4,a5,hsh a6,hsh a7]) (by omega) (by omega) (by rw[List.length_append,List.length_singleton];omega) (by omega) (by omega) (by simp) (fun x hx=>by have:=YT x hx;simp at this;rcases this with rfl | rfl <;> simp) a1V hnd Z5 YJ) rfl))⟩
 ·refine⟨rfl,false,iF,?_⟩
  refine⟨_,rfl,_,_,nS (qG (yr hlt)),rfl,_,rfl,_,rfl,_,rfl,_,rfl,_,rfl,_,rfl,_,0,"",_,_,_,_,_,⟨_,nm,ps,Rg,nd,gv,sts⟩,rfl,av,As (x6 (jc (cj (q:=0) aO))),rfl,rfl,rfl,As (x6 (jc (cj (q:=1) aO))),by show nd.length<=100;omega,by show gv.length<=100;omega,made (MY hc (h _ _ _ _ (Ii (N:=[a0,a1,a2,a3,a4,a5,hsh a6,hsh a7]) (by omega) (by omega) (by omega) (by omega) (by omega) (by simp) (fun x hx=>by have:=YT x hx;simp at this;rcases this with rfl | rfl <;> simp) hst hnd Z5 YJ) rfl))⟩
noncomputable abbrev rX:Stmt:=top 80
theorem gE:ao ["_law_one_here","_law_other","_law_times","_law_found","_law_thing","_law_many","_law_terms"] ["_law_one_here","_law_other","_law_times"] (af rX):=ck
theorem Jl (F:bM K "_law_plus" "_law_plus" rX f fd)(J:Fx K mg A) :aE P w K mg base bO (k+1) f fd ["_law_one_here","_law_other","_law_times"] (aQ K Hy):=by
 refine aR F gE fun cdv B outer s H E hr=>?_
 rw[show ak rX=[_,_,_,_,_] from rfl]
 refine⟨_,(qs (au (i:=3) gE.nd Lp) (qs (bK PassesOwn.never rfl (qi (aU (ah 0) aj)) (mZ (n:=2) rfl (Ak (qg (i:=4) gE.nd) (Ak (qg (i:=5) gE.nd) ju))) (aS (BD (qE hr) (ah 3) (ah 4) (ah 5)))) (qs (bK PassesOwn.never rfl (qi (aU (ah 1) aj)) (mZ (n:=2) rfl (Ak (qg (i:=4) gE.nd) (Ak (qg (i:=5) gE.nd) ju))) (aS (BD (qE hr) (ah 3) (ah 4) (aM aF (HM (qE hr) (ah 3) (ah 4) aj) (aM ou (ah 2) (ah 5)))))) (qs (au (i:=6) gE.nd (bh bX (by rfl) J.bU boot_tuple (qa (cV (aY ["_law_thing"] ["_law_found"] [3] rfl (by decide +kernel) (by decide +kernel) (by with_unfolding_all rfl) (by exact⟨rfl,trivial⟩) (by rfl) rfl (by rfl)) rfl (qi (bz (IK rfl) (by rfl) J.lV boot_sorted (qa (ah 3) aa))) (fun _ _ _ _=>(qx (i:=0) (show List.Nodup (["_law_thing","_law_found"]:List Str) by decide +kernel))) (fun _ _ _ _=>(wm (aL (Jr 40 (uE hr)) (BE (qE hr) (ah 1) (ah 0)) aj (aN _)))) (fun _ _ _ _=>(ay (qa (ah 0) (qa (BE (qE hr) (ah 1) (ah 0)) aa))))) aa))) (aS (aq (ay (qa (ah 6) (qa (aM aF (aU (ah 0) aj) (aM ou (ah 2) (aU (ah 1) aj))) aa))))))))),fun ds S kk hc hd h=>?_⟩
 obtain⟨a,b,t,rfl,ha,hb,ht,h⟩:=h
 refine⟨_,rfl,_,_,rfl,rfl,cO (eW pT (fun pre δ S'=>∃ x y dd,δ=[some (D.t (tV a)),some (.t (tV b)),some (.int t),some (D.ob S.length),x,y,none]/\S'=S++[O.yX dd]/\EZ pre dd) ⟨_,_,_,rfl,rfl,.nil⟩ ?_ ?_)⟩
 ·rintro pre ⟨x,v⟩ post δ S' N e ⟨x0,y0,dd,rfl,rfl,hz⟩ hN
  have hp:pre=[]:=by
   rw[e,List.length_append,List.length_cons] at ha
   exact List.length_eq_zero_iff.mp (by omega)
  subst hp
  have hl:dd.length < sizeLine:=Fq (by have h0:dd.length<=0:=hz.len;omega)
  refine⟨trivial,_,rfl,rfl,_,_,rfl,_,_,rfl,rfl,_,rfl,_,rfl,_,rfl,_,_,_,_,rfl,av,rfl,rfl,hl,?_⟩
  rw[fS]
  exact hN _ _ ⟨_,_,_,rfl,rfl,hz.snoc x v (by rw[Ff];omega)⟩
 rintro δ S' ⟨x0,y0,dd,rfl,rfl,hz⟩
 refine⟨trivial,_,rfl,_,_,rfl,rfl,cO (eW pT (fun pre δ S'=>∃ x y dd,δ=[some (D.t (tV a)),some (.t (tV b)),some (.int t),some (D.ob S.length),x,y,none]/\S'=S++[O.yX dd]/\EZ (a.1++pre.map fun p=>(p.1,t*p.2)) dd) ⟨_,_,_,rfl,rfl,by simpa using hz⟩ ?_ ?_)⟩
 ·clear hz
  rintro pre ⟨x,v⟩ post δ S' N e ⟨x0,y0,dd,rfl,rfl,hz⟩ hN
  have hp:pre.length<=1:=by rw[e,List.length_append] at hb;omega
  have hl:dd.length < sizeLine:=Fq (by have h0:=hz.len;rw[List.length_append,List.length_map] at h0;omega)
  refine⟨trivial,_,rfl,rfl,_,_,rfl,_,_,rfl,rfl,?_⟩
  refine⟨_,rfl,_,_,rfl,av,_,rfl,_,_,av,rfl,_,rfl,_,rfl,.inl ⟨by omega,by omega⟩,?_⟩
  rw[hz.val x]
  by_cases hx:x∈(a.1++pre.map fun p=>(p.1,t*p.2)).map (·.1)
  ·rw[if_pos hx]
   refine⟨_,rfl,_,rfl,_,_,_,_,rfl,av,rfl,rfl,hl,?_⟩
   rw[fS]
   refine hN _ _ ⟨_,_,_,rfl,rfl,?_⟩
   have:=hz.snoc x (t*v) rfl
   rw[List.append_assoc] at this
   rw[List.map_append]
   exact this
  ·rw[if_neg hx]
   refine⟨_,rfl,_,rfl,_,_,_,_,rfl,av,rfl,rfl,hl,?_⟩
   rw[fS]
   refine hN _ _ ⟨_,_,_,rfl,rfl,?_⟩
   have:=hz.snoc x (t*v) (i:=0+t*v) (by rw[Ko hx])
   rw[List.append_assoc] at this
   rw[List.map_append]
   exact this
 clear hz
 rintro δ S' ⟨x0,y0,dd,rfl,rfl,hz⟩
 have hL:(a.1++b.1.map fun p=>(p.1,t*p.2)).length<=2:=by rw[List.length_append,List.length_map];omega
 obtain⟨ss,k1,k2,k3⟩:=hz.keys
 refine⟨trivial,_,rfl,_,_,av,k1,k2,by have:=hz.len;omega,?_⟩
 rw[KL k3]
 have hsl:=mh ((a.1++b.1.map fun p=>(p.1,t*p.2)).map (·.1))
 rw[List.length_map] at hsl
 refine jP ?_
 refine yt T.str (fun x=>if wt (a.1++b.1.map fun p=>(p.1,t*p.2)) x≠0 then some (pT (x,wt (a.1++b.1.map fun p=>(p.1,t*p.2)) x)) else none) trivial (cU (by omega)) ?_ ?_
 ·intro x hx k' hk
  have hv:nG dd (Sum.inr x)=some (.int (wt (a.1++b.1.map fun p=>(p.1,t*p.2)) x)):=by rw[hz.val x,if_pos (dS.mp hx)]
  refine⟨_,rfl,_,rfl,_,_,_,_,rfl,av,rfl,hv,rfl,?_⟩
  by_cases hw:wt (a.1++b.1.map fun p=>(p.1,t*p.2)) x=0
  ·rw[if_neg (by simpa using hw)] at hk
   exact⟨false,congrArg D.bl (a1u hw),hk⟩
  ·rw[if_pos hw] at hk
   exact⟨true,congrArg D.bl (a1s hw),_,rfl,_,rfl,_,rfl,_,_,_,_,rfl,av,rfl,hv,_,rfl,sz 2,_,rfl,hk⟩
 ·rw[HY]
  exact⟨_,rfl,_,rfl,_,rfl,_,_,rfl,rfl,_,rfl,_,rfl,_,_,rfl,rfl,.inl ⟨by omega,by omega⟩,_,rfl,sz 2,JS hc h⟩
noncomputable abbrev wg:Stmt:=top 81
theorem Li:ao ["_law_thing"] ["_law_thing"] (af wg):=ck
theorem LO (F:bM K "_law_one" "_law_one" wg f fd)(J:Fx K mg A) :aE P w K mg base bO (k+1) f fd ["_law_thing"] (aQ K K1):=by
 refine aR F Li fun cdv B outer s H E hr=>?_
 rw[show ak wg=[_] from rfl]
 refine⟨_,(aS (aq (ay (qa (ay (qa (ay (qa (ah 0) (qa aj aa))) aa)) (qa aj aa))))),fun ds S kk hc hd h=>?_⟩
 obtain⟨x,rfl,h⟩:=h
 exact⟨_,rfl,_,rfl,sz 2,_,rfl,sz 1,_,rfl,sz 2,aP hc h⟩
noncomputable abbrev ku:Stmt:=top 82
theorem Bm:ao ["_law_one_here","_law_other"] ["_law_one_here","_law_other"] (af ku):=ck
theorem BO (F:bM K "_law_at_most" "_law_at_most" ku f fd)(J:Fx K mg A) :aE P w K mg base bO (k+1) f fd ["_law_one_here","_law_other"] (aQ K K4):=by
 refine aR F Bm fun cdv B outer s H E hr=>?_
 rw[show ak ku=[_] from rfl]
 refine⟨_,(aS (aq (ay (qa aA (qa (ah 0) (qa aA (qa (ah 1) aa))))))),fun ds S kk hc hd h=>?_⟩
 obtain⟨a,b,rfl,h⟩:=h
 unfold yY at h
 rw[wC] at h
 exact⟨_,rfl,_,rfl,_,rfl,sz 4,aP hc h⟩
noncomputable abbrev ko:Stmt:=top 83
theorem mj:ao ["_law_steps_here","_law_found","_law_step"] ["_law_steps_here"] (af ko):=ck
theorem BK (F:bM K "_law_written" "_law_written" ko f fd)(J:Fx K mg A) :aE P w K mg base bO (k+1) f fd ["_law_steps_here"] (aQ K Qj):=by
 refine aR F mj fun cdv B outer s H E hr=>?_
 rw[show ak ko=[_,_,_] from rfl]
 refine⟨_,(qs (au (i:=1) mj.nd (jG aa)) (qs (bK PassesOwn.never rfl (qi (ah 0)) (qg (i:=2) mj.nd) (qs (aZ (aL a07 (aU (ah 2) aj) (ay (qa aA (qa aA (qa aA aa)))) (by rfl)) (aS (jF (uX (ah 1) (qa (aU (ah 2) aj) aa)))) aJ) (aS (aZ (aL (dW 40 (uE hr)) (aU (ah 2) aj) aA (aN _)) (aS (jF (uX (ah 1) (qa (aM aF aA (aU (ah 2) aj)) aa)))) aJ)))) (aS (aq (R7 rfl J.lV rfl J.IQ rfl (ah 1)))))),fun ds S kk hc hd h=>?_⟩
 obtain⟨l,N,rfl,ok,Fc,hl,h⟩:=h
 refine⟨_,rfl,sz 0,_,rfl,cO (eW E9 (fun pre δ S'=>∃ y,δ=[some (.tup (l.map E9)),some (D.ob (S.length+0)),y]/\S'=S++[O.lst (((pre.map AY).flatten).map T.str)]) ⟨_,rfl,rfl⟩ ?_ ?_)⟩
 ·rintro pre s post δ S' Nx e ⟨y,rfl,rfl⟩ hN
  have h1:=wM pre
  have h2:pre.length<=12:=by rw[e,List.length_append] at hl;omega
  have hb:(((pre.map AY).flatten).map T.str).length<=1000:=by rw[List.length_map];omega
  have eN:∀ (hw:AY s=[]),S++[O.lst (((pre.map AY).flatten).map T.str)]=S++[O.lst ((((pre++[s]).map AY).flatten).map T.str)]:=fun hw=>by rw[lS,hw];simp
  have es:∀ {x:Str} (hw:AY s=[x]),S++[O.lst ((((pre++[s]).map AY).flatten).map T.str)]=S++[O.lst (((pre.map AY).flatten).map T.str)].set 0 (O.lst (((pre.map AY).flatten).map T.str++[T.str x])):=fun hw=>by rw[lS,hw];rfl
  refine⟨trivial,?_⟩
  cases s with
  | lt a x s =>
   have es:=es (x:=x) rfl
   refine⟨_,rfl,_,_,rfl,rfl,_,rfl,sz 3,_,_,_,rfl,rfl,rfl,rfl,true,congrArg D.bl (uo (xs:=["let","divide","fetch"]) (by decide +kernel)),_,rfl,⟨rfl,_,iS rfl⟩,_,rfl,_,_,rfl,rfl,_,eS,Fq hb,?_⟩
   rw[dU]
   exact⟨_,rfl,_,_,rfl,rfl,rfl,false,tF,hN _ _ ⟨_,rfl,es.symm⟩⟩
  | dv a x wd s b =>
   have es:=es (x:=x) rfl
   refine⟨_,rfl,_,_,rfl,rfl,_,rfl,sz 3,_,_,_,rfl,rfl,rfl,rfl,true,congrArg D.bl (uo (xs:=["let","divide","fetch"]) (by decide +kernel)),_,rfl,⟨rfl,_,iS rfl⟩,_,rfl,_,_,rfl,rfl,_,eS,Fq hb,?_⟩
   rw[dU]
   exact⟨_,rfl,_,_,rfl,rfl,rfl,false,tF,hN _ _ ⟨_,rfl,es.symm⟩⟩
  | ft a x r p =>
   have es:=es (x:=x) rfl
   refine⟨_,rfl,_,_,rfl,rfl,_,rfl,sz 3,_,_,_,rfl,rfl,rfl,rfl,true,congrArg D.bl (uo (xs:=["let","divide","fetch"]) (by decide +kernel)),_,rfl,⟨rfl,_,iS rfl⟩,_,rfl,_,_,rfl,rfl,_,eS,Fq hb,?_⟩
   rw[dU]
   exact⟨_,rfl,_,_,rfl,rfl,rfl,false,tF,hN _ _ ⟨_,rfl,es.symm⟩⟩
  | pt a r p s =>
   have es:=eN rfl
   exact⟨_,rfl,_,_,rfl,rfl,_,rfl,sz 3,_,_,_,rfl,rfl,rfl,rfl,false,congrArg D.bl (uo (xs:=["let","divide","fetch"]) (by decide +kernel)),_,rfl,_,_,rfl,rfl,rfl,false,tF,hN _ _ ⟨_,rfl,es⟩⟩
  | mq a r z =>
   have es:=es (x:=hsh r) rfl
   refine⟨_,rfl,_,_,rfl,rfl,_,rfl,sz 3,_,_,_,rfl,rfl,rfl,rfl,false,congrArg D.bl (uo (xs:=["let","divide","fetch"]) (by decide +kernel)),_,rfl,_,_,rfl,rfl,rfl,true,tT,_,rfl,⟨rfl,_,iS rfl⟩,_,rfl,_,_,rfl,rfl,by have:=(ok (.mq a r z) (by rw[e];simp)).ok.few.2;exact cU (by show 1+_<=1000;omega),_,eS,Fq hb,?_⟩
   rw[dU]
   exact hN _ _ ⟨_,rfl,es.symm⟩
  | cm a c =>
   have es:=eN rfl
   exact⟨_,rfl,_,_,rfl,rfl,_,rfl,sz 3,_,_,_,rfl,rfl,rfl,rfl,false,congrArg D.bl (uo (xs:=["let","divide","fetch"]) (by decide +kernel)),_,rfl,_,_,rfl,rfl,rfl,false,tF,hN _ _ ⟨_,rfl,es⟩⟩
 ·rintro δ S' ⟨y,rfl,rfl⟩
  have h1:=wM l
  exact⟨trivial,_,rfl,_,N,iS rfl,by omega,by omega,Ro ok,JS hc h⟩
noncomputable abbrev gP:Stmt:=top 84
theorem fT:ao ["_law_told","_law_found","_law_one_here"] ["_law_told"] (af gP):=ck
theorem n9 (F:bM K "_law_things_of" "_law_things_of" gP f fd)(J:Fx K mg A)(dN:Dn P w K mg base k "_law_things_of" ["_law_told"] (aQ K (Dw n))):aE P w K mg base bO (k+1) f fd ["_law_told"] (aQ K (Dw (n+1))):=by
 refine aR F fT fun cdv B outer s H E hr=>?_
 rw[show ak gP=[_,_,_,_,_] from rfl]
 refine⟨_,(qs (aZ (fK (bz (kP (c:=.ty "str") trivial rfl) (by rfl) J.bw boot_isinstance (qa (ah 0) (qa (gF (BG (v:=.ty "str") rfl J.Zj boot_str rfl)) aa)))) (aS (aq (cA aa))) aJ) (qs (aZ (aL (dW 40 (uE hr)) (aU (ah 0) aj) aA (aN _)) (aS (aq (cV (aY ["_law_thing","_law_times"] [] [] rfl (by decide +kernel) (by decide +kernel) (by with_unfolding_all rfl) (by exact trivial) (by rfl) rfl (by rfl)) rfl (qi (aM aF (aU (aU (ah 0) aj) aj) (aU (aU (ah 0) aj) aj))) (fun _ _ _ _=>(qN (n:=2) rfl (HK (qx (i:=0) (show List.Nodup (["_law_thing","_law_times"]:List Str) by decide +kernel)) (HK (qx (i:=1) (show List.Nodup (["_law_thing","_law_times"]:List Str) by decide +kernel)) mY)))) (fun _ _ _ _=>b9) (fun _ _ _ _=>(ah 0))))) aJ) (qs (au (i:=1) fT.nd (cA aa)) (qs (bK PassesOwn.never rfl (qi (t6 false (ah 0) (bS aj) r9)) (qg (i:=2) fT.nd) (aS (au (i:=1) fT.nd (aM aF (ah 1) (ai dN hr rfl (qa (ah 2) aa)))))) (aS (aq (ah 1))))))),fun ds S kk hc hd h=>?_⟩
 obtain⟨c,rfl,hd2,hf,h⟩:=h
 obtain⟨hf1,hf2⟩:=hf
 cases c with
 | cmp a s b =>
  rw[wC]
  have ha:a.1.length<=4:=hf2 a (by unfold bC.sums;simp)
  have hb:b.1.length<=4:=hf2 b (by unfold bC.sums;simp)
  refine⟨_,rfl,rfl,_,false,rfl,J.UJ,_,rfl,_,rfl,_,_,rfl,rfl,rfl,true,tT,_,rfl,_,_,rfl,rfl,_,_,rfl,rfl,_,rfl,_,_,rfl,rfl,_,_,rfl,rfl,cU (by rw[List.length_map,List.length_map];omega),?_⟩
  rw[<- List.map_append]
  refine cO ?_
  refine gy pT (fun p=>T.str p.1) trivial (cU (by rw[List.length_append];omega)) (fun x _ k' hk=>⟨_,rfl,rfl,_,_,rfl,_,_,rfl,rfl,_,rfl,_,rfl,hk⟩) (aP hc ?_)
  have e:(a.1++b.1).map (fun p=>T.str p.1)=((bC.cmp a s b).sums.map Sm.bJ).flatten.map T.str:=by
   unfold bC.sums
   show _=(a.bJ++(b.bJ++[])).map T.str
   unfold Sm.bJ
   rw[List.append_nil,List.map_append,List.map_append,List.map_map,List.map_map]
   rfl
  rw[e]
  exact h
 | neg c =>
  rw[IG]
  unfold bC.dep at hd2
  unfold bC.sz at hf1
  unfold bC.sums at hf2 h
  refine⟨_,rfl,rfl,_,false,rfl,J.UJ,_,rfl,_,rfl,_,_,rfl,rfl,rfl,false,tF,_,rfl,sz 0,_,rfl,_,rfl,MV (by simp),?_⟩
  rw[ED]
  refine cO ⟨trivial,_,rfl,_,rfl,c,rfl,by omega,⟨by omega,hf2⟩,?_⟩
  have hl:=jQ (n:=4) hf2
  have hl2:=je c
  refine⟨_,_,rfl,rfl,cU (by show([]:List T).length+_<=1000;rw[List.length_nil,List.length_map];omega),trivial,_,rfl,aP hc h⟩
 | con q cs =>
  rw[m9]
  unfold bC.dep at hd2
  unfold bC.sz at hf1
  unfold bC.sums at hf2 h
  refine⟨_,rfl,rfl,_,false,rfl,J.UJ,_,rfl,_,rfl,_,_,rfl,at0,rfl,false,congrArg D.bl (Wq (by cases q <;> decide +kernel)),_,rfl,sz 0,_,rfl,_,rfl,MV (by simp),?_⟩
  rw[ED]
  refine cO ?_
  have hl:∀ pre post:List bC,cs=pre++post->((dX pre).map Sm.bJ).flatten.length<=56:=fun pre post e=>by
   have h1:=jQ (n:=4) (l:=dX pre) fun s hs=>hf2 s (by rw[e,lC];exact List.mem_append_left _ hs)
   have h2:=rQ pre
   have h3:Ab pre<=6:=by rw[e,A7] at hf1;omega
   omega
  refine eW nK (fun pre δ S'=>∃ y,δ=[some (.tup (.str (if q=true then "and" else "or")::cs.map nK)),some (D.t (Ar ((dX pre).map Sm.bJ).flatten)),y]/\S'=S) ⟨_,rfl,rfl⟩ ?_ ?_
  ·rintro pre c post δ S' N e ⟨y,rfl,rfl⟩ hN
   have Q4:c∈cs:=by rw[e];simp
   have h1:=sM Q4
   have h2:=A5 Q4
   have h3:∀ s∈c.sums,s.few:=fun s hs=>hf2 s (by rw[e,lC,dX];exact List.mem_append_right _ (List.mem_append_left _ hs))
   have h4:=hl pre (c::post) e
   have h5:=jQ (n:=4) h3
   have h6:=je c
   refine⟨trivial,_,rfl,_,rfl,c,rfl,by omega,⟨by omega,h3⟩,_,_,rfl,rfl,cU (by rw[List.length_map,List.length_map];omega),?_⟩
   have e2:(((dX pre).map Sm.bJ).flatten.map T.str)++((c.sums.map Sm.bJ).flatten.map T.str)=((dX (pre++[c])).map Sm.bJ).flatten.map T.str:=by
    rw[lC,dX,dX];simp
   rw[e2]
   exact hN _ _ ⟨_,rfl,rfl⟩
  ·rintro δ S' ⟨y,rfl,rfl⟩
   exact⟨trivial,_,rfl,aP hc h⟩
noncomputable abbrev gb:Stmt:=top 85
theorem fG:ao ["_law_sums","_law_found","_law_one_here"] ["_law_sums"] (af gb):=ck
theorem vD (F:bM K "_law_sum_things" "_law_sum_things" gb f fd)(J:Fx K mg A) :aE P w K mg base bO (k+1) f fd ["_law_sums"] (aQ K KY):=by
 refine aR F fG fun cdv B outer s H E hr=>?_
 rw[show ak gb=[_,_,_] from rfl]
 refine⟨_,(qs (au (i:=1) fG.nd (cA aa)) (qs (bK PassesOwn.never rfl (qi (ah 0)) (qg (i:=2) fG.nd) (aS (au (i:=1) fG.nd (aM aF (ah 1) (cV (aY ["_law_thing","_law_times"] [] [] rfl (by decide +kernel) (by decide +kernel) (by with_unfolding_all rfl) (by exact trivial) (by rfl) rfl (by rfl)) rfl (qi (aU (ah 2) aj)) (fun _ _ _ _=>(qN (n:=2) rfl (HK (qx (i:=0) (show List.Nodup (["_law_thing","_law_times"]:List Str) by decide +kernel)) (HK (qx (i:=1) (show List.Nodup (["_law_thing","_law_times"]:List Str) by decide +kernel)) mY)))) (fun _ _ _ _=>b9) (fun _ _ _ _=>(ah 0))))))) (aS (aq (ah 1))))),fun ds S kk hc hd h=>?_⟩
 obtain⟨l,rfl,hl,hf,h⟩:=h
 refine⟨_,rfl,sz 0,_,rfl,jP (eW tV (fun pre δ S'=>∃ y,δ=[some (.lst (l.map tV)),some (D.t (Ar (pre.map Sm.bJ).flatten)),y]/\S'=S) ⟨_,rfl,rfl⟩ ?_ ?_)⟩
 ·rintro pre s post δ S' N e ⟨y,rfl,rfl⟩ hN
  have h1:s.1.length<=4:=hf s (by rw[e];simp)
  have h2:=jQ (n:=4) (l:=pre) fun s hs=>hf s (by rw[e];exact List.mem_append_left _ hs)
  have h3:pre.length<=2:=by rw[e,List.length_append] at hl;omega
  refine⟨trivial,_,rfl,_,rfl,_,_,rfl,rfl,?_⟩
  refine cO ?_
  refine gy pT (fun p=>T.str p.1) trivial (cU (by omega)) (fun x _ k' hk=>⟨_,rfl,rfl,_,_,rfl,_,_,rfl,rfl,_,rfl,_,rfl,hk⟩) ?_
  refine⟨_,_,rfl,rfl,cU (by rw[List.length_map,List.length_map];omega),?_⟩
  have e2:((pre.map Sm.bJ).flatten.map T.str)++(s.1.map fun p=>T.str p.1)=((pre++[s]).map Sm.bJ).flatten.map T.str:=by simp[Sm.bJ]
  rw[e2]
  exact hN _ _ ⟨_,rfl,rfl⟩
 ·rintro δ S' ⟨y,rfl,rfl⟩
  exact⟨trivial,_,rfl,aP hc h⟩
noncomputable abbrev pQ:Stmt:=top 86
theorem dj:ao ["_law_steps_here","_law_found","_law_step"] ["_law_steps_here"] (af pQ):=ck
theorem FZ (F:bM K "_law_stand" "_law_stand" pQ f fd)(J:Fx K mg A)(dN:kR P w K mg base k)(c8:rC P w K mg base k)(zG:vQ P w K mg base k):aE P w K mg base bO (k+1) f fd ["_law_steps_here"] (aQ K Dz):=by
 refine aR F dj fun cdv B outer s H E hr=>?_
 rw[show ak pQ=[_,_,_] from rfl]
 refine⟨_,(qs (au (i:=1) dj.nd (ai zG hr rfl (qa (ah 0) aa))) (qs (bK PassesOwn.never rfl (qi (ah 0)) (qg (i:=2) dj.nd) (qs (aZ (aL (dW 40 (uE hr)) (aU (ah 2) aj) aA (aN _)) (aS (au (i:=1) dj.nd (aM aF (ah 1) (ai c8 hr rfl (qa (cA (qa (aU (ah 2) aj) aa)) aa))))) aJ) (qs (aZ (aL (dW 40 (uE hr)) (aU (ah 2) aj) aA (aN _)) (aS (au (i:=1) dj.nd (aM aF (ah 1) (ai c8 hr rfl (qa (cA (qa (aU (ah 2) aj) (qa (aU (ah 2) aj) aa))) aa))))) aJ) (qs (aZ (aL (dW 40 (uE hr)) (aU (ah 2) aj) aA (aN _)) (aS (au (i:=1) dj.nd (aM aF (aM aF (ah 1) (ai c8 hr rfl (qa (cA (qa (aU (ah 2) aj) aa)) aa))) (cA (qa (aM aF aA (aU (ah 2) aj)) aa))))) aJ) (qs (aZ (aL (dW 40 (uE hr)) (aU (ah 2) aj) aA (aN _)) (aS (au (i:=1) dj.nd (aM aF (aM aF (ah 1) (ai c8 hr rfl (qa (cA (qa (aU (ah 2) aj) (qa (aU (ah 2) aj) aa))) aa))) (cA (qa (aM aF aA (aU (ah 2) aj)) aa))))) aJ) (qs (aZ (aL (dW 40 (uE hr)) (aU (ah 2) aj) aA (aN _)) (aS (au (i:=1) dj.nd (aM aF (ah 1) (ai c8 hr rfl (qa (cA (qa (aU (ah 2) aj) aa)) aa))))) aJ) (aS (aZ (aL (dW 40 (uE hr)) (aU (ah 2) aj) aA (aN _)) (aS (au (i:=1) dj.nd (aM aF (ah 1) (ai dN hr rfl (qa (aU (ah 2) aj) aa))))) aJ)))))))) (aS (aq (ah 1))))),fun ds S kk hc hd h=>?_⟩
 obtain⟨l,N,rfl,ok,Fc,hl,h⟩:=h
 refine⟨_,rfl,l,N,rfl,ok,Fc,hl,_,rfl,cO (eW E9 (fun pre δ S'=>∃ y,δ=[some (.tup (l.map E9)),some (D.t (Ar (yZ l++(pre.map qk).flatten))),y]/\S'=S) ⟨none,by rw[List.map_nil,List.flatten_nil,List.append_nil];rfl,rfl⟩ ?_ ?_)⟩
 ·rintro pre s post δ S' Nx e ⟨y,rfl,rfl⟩ hN
  have hs:s∈l:=by rw[e];simp
  have hq:(yZ l++(pre.map qk).flatten).length<=700:=by
   have h1:=mh (l.map AY).flatten
   have h2:=wM l
   have h3:=A0 (l:=pre) fun s hs=>ok s (by rw[e];exact List.mem_append_left _ hs)
   have h4:pre.length<=12:=by rw[e,List.length_append] at hl;omega
   unfold yZ
   rw[List.length_append]
   omega
  generalize hQ:yZ l++(pre.map qk).flatten=Q at hq ⊢
  have en2:Q++qk s=yZ l++((pre++[s]).map qk).flatten:=by rw[<- hQ];simp
  have en:Q.map T.str++(qk s).map T.str=(yZ l++((pre++[s]).map qk).flatten).map T.str:=by rw[<- en2,List.map_append]
  have bd:∀ {m:List Str},m.length<=56->(Q.map T.str).length+(m.map T.str).length<=sizeLine:=fun hm=>cU (by rw[List.length_map,List.length_map];omega)
  refine⟨trivial,?_⟩
  cases s with
  | lt a x s =>
   have hk:=(ok (.lt a x s) hs).ok.few
   have JE:(qk (.lt a x s)).length<=56:=qL (ok _ hs)
   have en:Q.map T.str++(s.bJ).map T.str=_:=en
   refine⟨_,rfl,_,_,rfl,rfl,rfl,true,tT,_,rfl,_,rfl,_,_,rfl,rfl,_,rfl,sz 1,[s],rfl,by simp,(fun t ht=>by rw[List.mem_singleton.mp ht];exact hk.1),_,_,rfl,rfl,bd (by rw[show([s].map Sm.bJ).flatten=s.bJ from by simp];exact JE),?_⟩
   rw[show([s].map Sm.bJ).flatten=s.bJ from by simp,en]
   exact⟨_,rfl,_,_,rfl,rfl,rfl,false,tF,_,rfl,_,_,rfl,rfl,rfl,false,tF,_,rfl,_,_,rfl,rfl,rfl,false,tF,_,rfl,_,_,rfl,rfl,rfl,false,tF,_,rfl,_,_,rfl,rfl,rfl,false,tF,hN _ _ ⟨_,rfl,rfl⟩⟩
  | dv a x wd s b =>
   have hk:=(ok (.dv a x wd s b) hs).ok.few
   have JE:(qk (.dv a x wd s b)).length<=56:=qL (ok _ hs)
   have en:Q.map T.str++(s.bJ++b.bJ).map T.str=_:=en
   refine⟨_,rfl,_,_,rfl,rfl,rfl,false,tF,_,rfl,_,_,rfl,rfl,rfl,true,tT,_,rfl,_,rfl,_,_,rfl,rfl,_,rfl,_,_,rfl,rfl,_,rfl,sz 2,[s,b],rfl,by simp,(fun t ht=>by rcases List.mem_cons.mp ht with rfl | ht;exact hk.1;rw[List.mem_singleton.mp ht];exact hk.2),_,_,rfl,rfl,bd (by rw[show([s,b].map Sm.bJ).flatten=s.bJ++b.bJ from by simp];exact JE),?_⟩
   rw[show([s,b].map Sm.bJ).flatten=s.bJ++b.bJ from by simp,en]
   exact⟨_,rfl,_,_,rfl,rfl,rfl,false,tF,_,rfl,_,_,rfl,rfl,rfl,false,tF,_,rfl,_,_,rfl,rfl,rfl,false,tF,_,rfl,_,_,rfl,rfl,rfl,false,tF,hN _ _ ⟨_,rfl,rfl⟩⟩
  | ft a x r p =>
   have hk:=(ok (.ft a x r p) hs).ok.few
   have JE:(qk (.ft a x r p)).length<=56:=qL (ok _ hs)
   refine⟨_,rfl,_,_,rfl,rfl,rfl,false,tF,_,rfl,_,_,rfl,rfl,rfl,false,tF,_,rfl,_,_,rfl,rfl,rfl,true,tT,_,rfl,_,rfl,_,_,rfl,rfl,_,rfl,sz 1,[p],rfl,by simp,(fun t ht=>by rw[List.mem_singleton.mp ht];exact hk.1),_,_,rfl,rfl,bd (by rw[show([p].map Sm.bJ).flatten=p.bJ from by simp];have:=JE;simp only[qk,List.length_append] at this;(try simp only[List.length_append]);omega),_,rfl,_,_,rfl,rfl,by have:=hk.2;exact cU (by show 1+_<=1000;omega),_,rfl,sz 1,_,_,rfl,rfl,?_,?_⟩
   ·rw[show([p].map Sm.bJ).flatten=p.bJ from by simp];have:=JE;simp only[qk,List.length_append] at this;exact cU (by simp only[List.length_append,List.length_map,List.length_cons,List.length_nil] at this ⊢;omega)
   have e9:((Q.map T.str++([p].map Sm.bJ).flatten.map T.str)++[T.str (hsh r)])=(Q++qk (.ft a x r p)).map T.str:=by simp[qk]
   have e8:((Q.map T.str++([p].map Sm.bJ).flatten.map T.str)++[T.str ("#"++r)])=(Q++qk (.ft a x r p)).map T.str:=e9
   rw[e8,en2]
   exact⟨_,rfl,_,_,rfl,rfl,rfl,false,tF,_,rfl,_,_,rfl,rfl,rfl,false,tF,_,rfl,_,_,rfl,rfl,rfl,false,tF,hN _ _ ⟨_,rfl,rfl⟩⟩
  | pt a r p s =>
   have hk:=(ok (.pt a r p s) hs).ok.few
   have JE:(qk (.pt a r p s)).length<=56:=qL (ok _ hs)
   refine⟨_,rfl,_,_,rfl,rfl,rfl,false,tF,_,rfl,_,_,rfl,rfl,rfl,false,tF,_,rfl,_,_,rfl,rfl,rfl,false,tF,_,rfl,_,_,rfl,rfl,rfl,true,tT,_,rfl,_,rfl,_,_,rfl,rfl,_,rfl,_,_,rfl,rfl,_,rfl,sz 2,[p,s],rfl,by simp,(fun t ht=>by rcases List.mem_cons.mp ht with rfl | ht;exact hk.1;rw[List.mem_singleton.mp ht];exact hk.2.1),_,_,rfl,rfl,bd (by rw[show([p,s].map Sm.bJ).flatten=p.bJ++s.bJ from by simp];have:=JE;simp only[qk,List.length_append] at this;(try simp only[List.length_append]);omega),_,rfl,_,_,rfl,rfl,by have:=hk.2.2;exact cU (by show 1+_<=1000;omega),_,rfl,sz 1,_,_,rfl,rfl,?_,?_⟩
   ·rw[show([p,s].map Sm.bJ).flatten=p.bJ++s.bJ from by simp];have:=JE;simp only[qk,List.length_append] at this;exact cU (by simp only[List.length_append,List.length_map,List.length_cons,List.length_nil] at this ⊢;omega)
   have e9:((Q.map T.str++([p,s].map Sm.bJ).flatten.map T.str)++[T.str (hsh r)])=(Q++qk (.pt a r p s)).map T.str:=by simp[qk]
   have e8:((Q.map T.str++([p,s].map Sm.bJ).flatten.map T.str)++[T.str ("#"++r)])=(Q++qk (.pt a r p s)).map T.str:=e9
   rw[e8,en2]
   exact⟨_,rfl,_,_,rfl,rfl,rfl,false,tF,_,rfl,_,_,rfl,rfl,rfl,false,tF,hN _ _ ⟨_,rfl,rfl⟩⟩
  | mq a r z =>
   have hk:=(ok (.mq a r z) hs).ok.few
   have JE:(qk (.mq a r z)).length<=56:=qL (ok _ hs)
   have en:Q.map T.str++(z.bJ).map T.str=_:=en
   refine⟨_,rfl,_,_,rfl,rfl,rfl,false,tF,_,rfl,_,_,rfl,rfl,rfl,false,tF,_,rfl,_,_,rfl,rfl,rfl,false,tF,_,rfl,_,_,rfl,rfl,rfl,false,tF,_,rfl,_,_,rfl,rfl,rfl,true,tT,_,rfl,_,rfl,_,_,rfl,rfl,_,rfl,sz 1,[z],rfl,by simp,(fun t ht=>by rw[List.mem_singleton.mp ht];exact hk.1),_,_,rfl,rfl,bd (by rw[show([z].map Sm.bJ).flatten=z.bJ from by simp];exact JE),?_⟩
   rw[show([z].map Sm.bJ).flatten=z.bJ from by simp,en]
   exact⟨_,rfl,_,_,rfl,rfl,rfl,false,tF,hN _ _ ⟨_,rfl,rfl⟩⟩
  | cm a c =>
   have hk:=(ok (.cm a c) hs).ok.few
   have JE:(qk (.cm a c)).length<=56:=qL (ok _ hs)
   have en:Q.map T.str++(c.sums.map Sm.bJ).flatten.map T.str=_:=en
   refine⟨_,rfl,_,_,rfl,rfl,rfl,false,tF,_,rfl,_,_,rfl,rfl,rfl,false,tF,_,rfl,_,_,rfl,rfl,rfl,false,tF,_,rfl,_,_,rfl,rfl,rfl,false,tF,_,rfl,_,_,rfl,rfl,rfl,false,tF,_,rfl,_,_,rfl,rfl,rfl,true,tT,_,rfl,_,rfl,_,_,rfl,rfl,c,rfl,(ok (.cm a c) hs).ok.dep _ _ rfl,hk,_,_,rfl,rfl,bd JE,?_⟩
   rw[en]
   exact hN _ _ ⟨_,rfl,rfl⟩
 ·rintro δ S' ⟨y,rfl,rfl⟩
  exact⟨trivial,_,rfl,aP hc h⟩
noncomputable abbrev we:Stmt:=top 87
theorem Lh:ao ["_law_found","_law_path","_law_kind","_law_at","_law_told"] ["_law_found","_law_path","_law_kind","_law_at","_law_told"] (af we):=ck
theorem LM (F:bM K "_law_owe" "_law_owe" we f fd)(J:Fx K mg A) :aE P w K mg base bO (k+1) f fd ["_law_found","_law_path","_law_kind","_law_at","_law_told"] (aQ K K0):=by
 refine aR F Lh fun cdv B outer s H E hr=>?_
 rw[show ak we=[_,_] from rfl]
 refine⟨_,(qs (jF (uX (ah 0) (qa (ay (qa (ah 2) (qa (ah 3) (qa (ah 1) (qa (ah 4) aa))))) aa))) (aS (aq (aM aF (ah 1) (ay (qa (ay (qa aA (qa (ah 4) aa))) aa)))))),fun ds S kk hc hd h=>?_⟩
 obtain⟨f,c7,p,kn,a,c,rfl,e0,h1,h2,h⟩:=h
 refine⟨_,rfl,⟨rfl,_,jc e0⟩,_,rfl,_,rfl,_,rfl,_,rfl,_,rfl,sz 4,_,e0,Fq (by rw[List.length_map];omega),_,rfl,_,rfl,_,rfl,sz 2,_,rfl,sz 1,cU (by simp only[List.length_map,List.length_cons,List.length_nil];omega),nJ ?_⟩
 rw[List.map_append,List.map_append] at h
 exact h
noncomputable abbrev r8:Stmt:=top 88
theorem lD:ao ["_law_things","_law_rows","_law_thing"] ["_law_things"] (af r8):=ck
theorem Jp (F:bM K "_law_anys" "_law_anys" r8 f fd)(J:Fx K mg A)(bP:iW P w K mg base k)(dQ:o9 P w K mg base k):aE P w K mg base bO (k+1) f fd ["_law_things"] (aQ K HA):=by
 refine aR F lD fun cdv B outer s H E hr=>?_
 rw[show ak r8=[_,_,_] from rfl]
 refine⟨_,(qs (au (i:=1) lD.nd (ay aa)) (qs (bK PassesOwn.never rfl (qi (ah 0)) (qg (i:=2) lD.nd) (qs (au (i:=1) lD.nd (aM aF (ah 1) (ay (qa (ay (qa aA (qa (ah 2) aa))) aa)))) (aS (aZ (aL (dW 40 (uE hr)) (aU (ah 2) aj) aA (aN _)) (aS (au (i:=1) lD.nd (aM aF (ah 1) (ay (qa (ay (qa aA (qa (ai bP hr rfl (qa (ay (qa (ay aa) (qa aj aa))) (qa (ai dQ hr rfl (qa (ah 2) aa)) aa))) aa))) aa))))) aJ)))) (aS (aq (ah 1))))),fun ds S kk hc hd h=>?_⟩
 obtain⟨l,rfl,hl,hp,h⟩:=h
 refine⟨_,rfl,sz 0,_,rfl,cO (eW T.str (fun pre δ S'=>∃ y,δ=[some (.tup (l.map T.str)),some (.tup (((pre.map aW).flatten).map qu)),y]/\S'=S) ⟨_,rfl,rfl⟩ ?_ ?_)⟩
 ·rintro pre x post δ S' N e ⟨y,rfl,rfl⟩ hN
  obtain⟨hx1,c,r,hx2⟩:=hp x (by rw[e];simp)
  have h1:=lE pre
  have h2:pre.length<=8:=by rw[e,List.length_append] at hl;omega
  refine⟨trivial,_,rfl,_,rfl,_,rfl,sz 2,_,rfl,sz 1,cU (by simp only[List.length_map,List.length_cons,List.length_nil];omega),_,rfl,cU (by omega),c,by rw[hx2];exact at0,rfl,?_⟩
  by_cases VJ:c=35
  ·have er:aW x=[.any x,.hd (Io (on x))]:=by unfold aW;rw[lZ hx2,if_pos (decide_eq_true VJ)]
   refine⟨true,congrArg D.bl (seq (EH.mpr VJ)),_,rfl,_,rfl,sz 0,_,rfl,sz 2,_,rfl,x,rfl,([],0),on x,rfl,_,rfl,sz 2,_,rfl,sz 1,cU (by simp only[List.length_map,List.length_append,List.length_cons,List.length_nil];omega),?_⟩
   have e2:((((pre++[x]).map aW).flatten).map qu)=(((pre.map aW).flatten).map qu++[.tup [.str "any",.str x]])++[.tup [.str "hold",nK (yY ([],0) (on x))]]:=by
    rw[lS,er,List.append_assoc];rfl
   rw[<- e2]
   exact hN _ _ ⟨_,rfl,rfl⟩
  ·have er:aW x=[.any x]:=by unfold aW;rw[lZ hx2,decide_eq_false VJ];rfl
   refine⟨false,congrArg D.bl (Wq fun z=>VJ (EH.mp z)),?_⟩
   have e2:((((pre++[x]).map aW).flatten).map qu)=((pre.map aW).flatten).map qu++[.tup [.str "any",.str x]]:=by
    rw[lS,er];rfl
   have e3:=hN [some (.tup (l.map T.str)),some (.tup ((((pre++[x]).map aW).flatten).map qu)),some (.str x)] S' ⟨_,rfl,rfl⟩
   rw[e2] at e3
   exact e3
 ·rintro δ S' ⟨y,rfl,rfl⟩
  exact⟨trivial,_,rfl,aP hc h⟩
noncomputable abbrev kq:Stmt:=top 91
theorem dm:ao ["_law_step","_law_by","_law_times","_law_bounds","_law_left"] ["_law_step"] (af kq):=ck
theorem BL (F:bM K "_law_divided" "_law_divided" kq f fd)(J:Fx K mg A)(jT:tD P w K mg base k)(dQ:o9 P w K mg base k)(bP:iW P w K mg base k):aE P w K mg base bO (k+1) f fd ["_law_step"] (aQ K K3):=by
 refine aR F dm fun cdv B outer s H E hr=>?_
 rw[show ak kq=[_,_,_,_,_,_,_,_] from rfl]
 refine⟨_,(qs (au (i:=1) dm.nd (aU (aU (ah 0) aj) aj)) (qs (aZ (qw (Aj (aL (Jr 40 (uE hr)) (aU (aU (ah 0) aj) aj) (ay aa) (aN _)) (tZ (aL (dW 40 (uE hr)) (ah 1) aj (aN _))))) (aS (aq (ay (qa (ay (qa aA (qa (aU (ah 0) aj) aa))) aa)))) aJ) (qs (au (i:=2) dm.nd (ay (qa (ay (qa (ay (qa aA (qa (ah 1) aa))) aa)) (qa aj aa)))) (qs (au (i:=3) dm.nd (ay (qa (ai bP hr rfl (qa (ah 2) (qa (ai dQ hr rfl (qa aA aa)) aa))) (qa (ai bP hr rfl (qa (ai dQ hr rfl (qa aA aa)) (qa (ai jT hr rfl (qa (ah 2) (qa (ay (qa (ay aa) (qa (aM xU (ah 1) aj) aa))) (qa aj aa)))) aa))) aa)))) (qs (aZ (aL SV (ah 1) aj (aN _)) (aS (au (i:=3) dm.nd (ay (qa (ai bP hr rfl (qa (ai dQ hr rfl (qa aA aa)) (qa (ah 2) aa))) (qa (ai bP hr rfl (qa (ai jT hr rfl (qa (ah 2) (qa (ay (qa (ay aa) (qa (aM aF (ah 1) aj) aa))) (qa aj aa)))) (qa (ai dQ hr rfl (qa aA aa)) aa))) aa))))) aJ) (qs (au (i:=4) dm.nd (ai dQ hr rfl (qa aA aa))) (qs (aZ (aL (dW 40 (uE hr)) (aU (ah 0) aj) aA (aN _)) (aS (au (i:=4) dm.nd (ai jT hr rfl (qa (ai dQ hr rfl (qa aA aa)) (qa (ah 2) (qa (Al aj) aa)))))) aJ) (aS (aq (ay (qa (ay (qa aA (qa aA (qa (aU (ah 0) aj) aa)))) (qa (ay (qa aA (qa aA aa))) (qa (ay (qa aA (qa (aM aF (ay (qa aA aa)) (ah 3)) aa))) (qa (ay (qa aA (qa (aU (ah 0) aj) (qa (ah 4) aa)))) aa)))))))))))))),fun ds S kk hc hd h=>?_⟩
 obtain⟨a,x,wd,s,b,rfl,hw,hb2,h⟩:=h
 unfold uw at h
 refine⟨_,rfl,_,_,rfl,rfl,_,_,rfl,rfl,_,rfl,_,_,rfl,rfl,_,_,rfl,rfl,_,rfl,sz 0,.inr ⟨rfl,?_⟩⟩
 by_cases hb:b.1=[]
 ·refine⟨false,congrArg D.bl (OS hb),_,rfl,rfl,?_⟩
  by_cases hz:b.2=0
  ·rw[if_pos (.inr hz)] at h
   exact⟨true,congrArg D.bl (VA hz),_,rfl,_,_,rfl,rfl,_,rfl,sz 2,_,rfl,sz 1,aP hc h⟩
  ·rw[if_neg (by rintro(h | h) <;> contradiction)] at h
   have eM:=Dm "^^" hz
   have eL:=O1 hz
   refine⟨false,congrArg D.bl (Pb hz),_,rfl,_,rfl,sz 2,_,rfl,sz 1,_,rfl,sz 2,_,rfl,"^",rfl,([("^^",b.2)],0),on "^",rfl,"^",rfl,_,rfl,_,rfl,sz 0,_,rfl,_,rfl,sz 2,([("^^",b.2)],0),([],b.2 - 1),1,rfl,by simp,by simp,⟨by decide,by decide⟩,on "^",jO ([("^^",b.2)],0) ([],b.2 - 1) 1,rfl,_,rfl,sz 2,_,rfl,?_⟩
   by_cases hp:0 < b.2
   ·have eq:quot b.2=.con true [yY ([("^^",b.2)],0) (on "^"),yY (on "^") (jO ([("^^",b.2)],0) ([],b.2 - 1) 1)]:=by unfold quot;rw[if_pos hp,eM,DZ]
    rw[eL,eq] at h
    refine⟨false,congrArg D.bl (decide_eq_false (by omega)),?_⟩
    rcases hw with rfl | rfl
    ·rw[if_pos rfl] at h
     refine⟨"^^",rfl,_,rfl,_,_,rfl,rfl,rfl,false,tF,_,rfl,_,_,rfl,rfl,_,rfl,sz 3,_,rfl,sz 2,_,rfl,sz 1,_,rfl,cU (by simp),_,rfl,sz 2,_,rfl,_,_,rfl,rfl,_,rfl,_,rfl,sz 3,_,rfl,sz 4,aP hc ?_⟩
     simpa [qu,m9] using h
    ·rw[if_neg (by decide +kernel)] at h
     refine⟨"^^",rfl,_,rfl,_,_,rfl,rfl,rfl,true,tT,"^",rfl,_,rfl,on "^",([("^^",b.2)],0),-1,rfl,by show 1<=1;decide,by simp,⟨by decide,by decide⟩,_,rfl,_,_,rfl,rfl,_,rfl,sz 3,_,rfl,sz 2,_,rfl,sz 1,_,rfl,cU (by simp),_,rfl,sz 2,_,rfl,_,_,rfl,rfl,_,rfl,_,rfl,sz 3,_,rfl,sz 4,aP hc ?_⟩
     simpa [qu,m9] using h
   ·have eq:quot b.2=.con true [yY (on "^") ([("^^",b.2)],0),yY (jO ([("^^",b.2)],0) ([],b.2+1) 1) (on "^")]:=by unfold quot;rw[if_neg hp,eM,DZ]
    rw[eL,eq] at h
    refine⟨true,congrArg D.bl (decide_eq_true (by omega)),"^",rfl,_,rfl,on "^",([("^^",b.2)],0),rfl,_,rfl,_,rfl,sz 0,_,rfl,_,rfl,sz 2,([("^^",b.2)],0),([],b.2+1),1,rfl,by simp,by simp,⟨by decide,by decide⟩,"^",rfl,jO ([("^^",b.2)],0) ([],b.2+1) 1,on "^",rfl,_,rfl,sz 2,?_⟩
    rcases hw with rfl | rfl
    ·rw[if_pos rfl] at h
     refine⟨"^^",rfl,_,rfl,_,_,rfl,rfl,rfl,false,tF,_,rfl,_,_,rfl,rfl,_,rfl,sz 3,_,rfl,sz 2,_,rfl,sz 1,_,rfl,cU (by simp),_,rfl,sz 2,_,rfl,_,_,rfl,rfl,_,rfl,_,rfl,sz 3,_,rfl,sz 4,aP hc ?_⟩
     simpa [qu,m9] using h
    ·rw[if_neg (by decide +kernel)] at h
     refine⟨"^^",rfl,_,rfl,_,_,rfl,rfl,rfl,true,tT,"^",rfl,_,rfl,on "^",([("^^",b.2)],0),-1,rfl,by show 1<=1;decide,by simp,⟨by decide,by decide⟩,_,rfl,_,_,rfl,rfl,_,rfl,sz 3,_,rfl,sz 2,_,rfl,sz 1,_,rfl,cU (by simp),_,rfl,sz 2,_,rfl,_,_,rfl,rfl,_,rfl,_,rfl,sz 3,_,rfl,sz 4,aP hc ?_⟩
     simpa [qu,m9] using h
 ·rw[if_pos (.inl hb)] at h
  exact⟨true,congrArg D.bl (LX hb),_,rfl,_,_,rfl,rfl,_,rfl,sz 2,_,rfl,sz 1,aP hc h⟩
noncomputable abbrev mF:Stmt:=top 90
theorem cz:ao ["_law_found","_law_helpers","_law_step","_law_path","_law_kind","_law_row","_law_place_here","_law_last","_law_told"] ["_law_found","_law_helpers","_law_step","_law_path"] (af mF):=ck
theorem D8 (F:bM K "_law_behind" "_law_behind" mF f fd)(J:Fx K mg A)(jz:vm P w K mg base k)(bP:iW P w K mg base k)(jT:tD P w K mg base k)(dQ:o9 P w K mg base k)(zH:vR P w K mg base k):aE P w K mg base bO (k+1) f fd ["_law_found","_law_helpers","_law_step","_law_path"] (aQ K Ag):=by
 refine aR F cz fun cdv B outer s H E hr=>?_
 rw[show ak mF=[_,_,_,_,_,_,_,_,_,_,_] from rfl]
 refine⟨_,(qs (au (i:=4) cz.nd (aU (ah 2) aj)) (qs (aZ (aL (dW 40 (uE hr)) (ah 4) aA (aN _)) (aS (aq (cA (qa (aM aF (ah 3) (ay (qa (ay (qa aA (qa (aU (ah 2) aj) (qa (aU (ah 2) aj) aa)))) aa))) aa)))) aJ) (qs (aZ (aL (dW 40 (uE hr)) (ah 4) aA (aN _)) (aS (aq (cA (qa (ai jz hr rfl (qa (ah 0) (qa (ah 3) (qa aA (qa (aU (ah 2) aj) (qa (aU (ah 2) aj) aa)))))) aa)))) aJ) (qs (aZ (aL (dW 40 (uE hr)) (ah 4) aA (aN _)) (qs (au (i:=3) cz.nd (ai jz hr rfl (qa (ah 0) (qa (ah 3) (qa aA (qa (aU (ah 2) aj) (qa (ay (qa aA (qa (aU (ah 2) aj) (qa aA (qa (ay (qa (ay aa) (qa aj aa))) aa))))) aa))))))) (aS (aq (cA (qa (aM aF (ah 3) (ai zH hr rfl (qa (ah 2) aa))) aa))))) aJ) (qs (aZ (aL (dW 40 (uE hr)) (ah 4) aA (aN _)) (qs (au (i:=3) cz.nd (ai jz hr rfl (qa (ah 0) (qa (ah 3) (qa aA (qa (aU (ah 2) aj) (qa (ai bP hr rfl (qa (ay (qa (ay aa) (qa aj aa))) (qa (aU (ah 2) aj) aa))) aa))))))) (aS (aq (cA (qa (aM aF (ah 3) (ay (qa (ay (qa aA (qa (aM aF aA (aU (ah 2) aj)) (qa (aU (ah 2) aj) aa)))) aa))) aa))))) aJ) (qs (Lo (aU (cA (qa (t6 false (ah 2) (bS aj) (bS aj)) (qa (t6 false (ah 2) (bS aj) (bS aj)) aa))) (bh M6 (by rfl) J.M8 boot_int (qa (HN (dW 40 (uE hr)) (ah 4) aA (aN _)) aa))) (mZ (n:=2) rfl (Ak (qg (i:=5) cz.nd) (Ak (qg (i:=6) cz.nd) ju)))) (qs (au (i:=7) cz.nd (ai jT hr rfl (qa (ai dQ hr rfl (qa (aM aF aA (ah 5)) aa)) (qa (ay (qa (ay aa) (qa (Al aj) aa))) (qa aj aa))))) (qs (au (i:=8) cz.nd (ay (qa aA (qa (ai bP hr rfl (qa (ay (qa (ay aa) (qa aj aa))) (qa (ah 6) aa))) (qa (ai bP hr rfl (qa (ah 6) (qa (ah 7) aa))) aa))))) (qs (au (i:=3) cz.nd (ai jz hr rfl (qa (ah 0) (qa (ah 3) (qa aA (qa (aU (ah 2) aj) (qa (ah 8) aa))))))) (qs (aZ (aL (dW 40 (uE hr)) (ah 4) aA (aN _)) (aS (au (i:=3) cz.nd (aM aF (ah 3) (ay (qa (ay (qa aA (qa (aU (ah 2) aj) aa))) aa))))) aJ) (aS (aq (cA (qa (ah 3) aa)))))))))))))),fun ds S kk hc hd h=>?_⟩
 obtain⟨f,x0,c7,p,s,N,rfl,e0,h1,h2,ok,h⟩:=h
 have hf:=ok.ok.few
 cases s with
 | lt a x s =>
  refine⟨_,rfl,_,_,rfl,rfl,_,rfl,rfl,true,tT,_,rfl,_,rfl,_,_,rfl,rfl,_,rfl,_,_,rfl,rfl,_,rfl,sz 3,_,rfl,sz 1,cU (by simp only[List.length_map,List.length_cons,List.length_nil];omega),_,rfl,sz 1,nJ ?_⟩
  simp only[p8] at h
  rw[List.append_nil,set_same e0,List.map_append] at h
  exact h
 | cm a c =>
  exact⟨_,rfl,_,_,rfl,rfl,_,rfl,rfl,false,tF,_,rfl,rfl,true,tT,_,rfl,_,rfl,_,rfl,_,_,rfl,rfl,_,rfl,_,_,rfl,rfl,f,c7,p,"claim",a,c,rfl,e0,by omega,by omega,_,rfl,sz 1,nJ h⟩
 | dv a x wd s b =>
  obtain⟨hl,Z4⟩:=ok.nm
  refine⟨_,rfl,_,_,rfl,rfl,_,rfl,rfl,false,tF,_,rfl,rfl,false,tF,_,rfl,rfl,true,tT,_,rfl,_,rfl,_,rfl,_,_,rfl,rfl,_,rfl,_,_,rfl,rfl,_,rfl,sz 0,_,rfl,sz 2,_,rfl,sz 4,f,c7,p,"nought",a,.cmp b "!=" ([],0),by rw[wC];rfl,e0,by omega,by omega,_,rfl,_,rfl,a,x,wd,s,b,rfl,Z4,ok.ok.by_ _ _ _ _ _ rfl,?_⟩
  simp only[p8] at h
  rw[JK hl] at h
  have hd6:(uw x wd s b).length<=4:=by unfold uw;split <;> simp
  refine⟨cU (by simp only[List.length_map,List.length_append,List.length_cons,List.length_nil];omega),_,rfl,sz 1,nJ ?_⟩
  rw[List.map_append (l₁:=p++_)] at h
  exact h
 | mq a r z =>
  have hr:r.length<=100:=hf.2
  refine⟨_,rfl,_,_,rfl,rfl,_,rfl,rfl,false,tF,_,rfl,rfl,false,tF,_,rfl,rfl,false,tF,_,rfl,rfl,true,tT,_,rfl,_,rfl,_,rfl,_,_,rfl,rfl,_,rfl,sz 0,_,rfl,sz 2,_,rfl,_,_,rfl,rfl,([],0),z,rfl,f,c7,p,"short",a,Io z,rfl,e0,by omega,by omega,_,rfl,_,rfl,_,_,rfl,rfl,cU (by show 1+_<=1000;omega),_,rfl,_,_,rfl,rfl,_,rfl,sz 3,_,rfl,sz 1,cU (by simp only[List.length_map,List.length_append,List.length_cons,List.length_nil];omega),_,rfl,sz 1,nJ ?_⟩
  simp only[p8] at h
  rw[List.map_append (l₁:=p++_)] at h
  exact h
 | ft a x r z =>
  have hr:r.length<=100:=hf.2
  refine⟨_,rfl,_,_,rfl,rfl,_,rfl,rfl,false,tF,_,rfl,rfl,false,tF,_,rfl,rfl,false,tF,_,rfl,rfl,false,tF,_,rfl,_,rfl,_,rfl,(by show ¬(HT.eO 5 0 (some 2)=0/\HT.eO 5 5 (some 4)=5);decide),_,rfl,_,rfl,_,rfl,(by show ¬(HT.eO 5 0 (some 3)=0/\HT.eO 5 5 (some 5)=5);decide),_,rfl,sz 2,_,rfl,rfl,_,_,rfl,Vm (seq rfl),_,rfl,rfl,_,_,rfl,_,_,rfl,rfl,_,rfl,by exact cU (by show 1+_<=1000;omega),hsh r,rfl,_,rfl,sz 0,_,rfl,sz 2,on (hsh r),([],-1),1,rfl,by show 1<=1;decide,by simp,⟨by decide,by decide⟩,?_⟩
  have ew:nK (within r z)=.tup [.str "and",nK (yY ([],0) z),nK (yY z (jO (on (hsh r)) ([],-1) 1))]:=by unfold within;rw[m9,Er];rfl
  refine⟨_,rfl,sz 0,_,rfl,sz 2,_,rfl,([],0),z,rfl,_,rfl,_,rfl,z,jO (on (hsh r)) ([],-1) 1,rfl,_,rfl,sz 3,_,rfl,_,rfl,_,rfl,_,_,rfl,rfl,_,rfl,f,c7,p,"beyond",a,within r z,by rw[ew],e0,by omega,by omega,_,rfl,rfl,true,tT,_,rfl,_,rfl,_,_,rfl,rfl,_,rfl,sz 2,_,rfl,sz 1,cU (by simp only[List.length_map,List.length_append,List.length_cons,List.length_nil];omega),_,rfl,_,rfl,sz 1,nJ ?_⟩
  simp only[p8] at h
  rw[IS ok.nm,List.map_append (l₁:=p++_)] at h
  exact h
 | pt a r z t =>
  have hr:r.length<=100:=hf.2.2
  refine⟨_,rfl,_,_,rfl,rfl,_,rfl,rfl,false,tF,_,rfl,rfl,false,tF,_,rfl,rfl,false,tF,_,rfl,rfl,false,tF,_,rfl,_,rfl,_,rfl,(by show ¬(HT.eO 5 0 (some 2)=0/\HT.eO 5 5 (some 4)=5);decide),_,rfl,_,rfl,_,rfl,(by show ¬(HT.eO 5 0 (some 3)=0/\HT.eO 5 5 (some 5)=5);decide),_,rfl,sz 2,_,rfl,rfl,_,_,rfl,Vn (Wq (by decide +kernel)),_,rfl,rfl,_,_,rfl,_,_,rfl,rfl,_,rfl,by exact cU (by show 1+_<=1000;omega),hsh r,rfl,_,rfl,sz 0,_,rfl,sz 2,on (hsh r),([],-1),1,rfl,by show 1<=1;decide,by simp,⟨by decide,by decide⟩,?_⟩
  have ew:nK (within r z)=.tup [.str "and",nK (yY ([],0) z),nK (yY z (jO (on (hsh r)) ([],-1) 1))]:=by unfold within;rw[m9,Er];rfl
  refine⟨_,rfl,sz 0,_,rfl,sz 2,_,rfl,([],0),z,rfl,_,rfl,_,rfl,z,jO (on (hsh r)) ([],-1) 1,rfl,_,rfl,sz 3,_,rfl,_,rfl,_,rfl,_,_,rfl,rfl,_,rfl,f,c7,p,"beyond",a,within r z,by rw[ew],e0,by omega,by omega,_,rfl,rfl,false,tF,_,rfl,_,rfl,sz 1,nJ h⟩
noncomputable abbrev By:Stmt:=top 89
theorem mz:ao ["_law_found","_law_helpers","_law_steps_here","_law_path","_law_paths","_law_step","_law_behind_here","_law_one_here"] ["_law_found","_law_helpers","_law_steps_here","_law_path"] (af By):=ck
theorem OP (F:bM K "_law_go" "_law_go" By f fd)(J:Fx K mg A)(CF:yR P w K mg base k):aE P w K mg base bO (k+1) f fd ["_law_found","_law_helpers","_law_steps_here","_law_path"] (aQ K Qk):=by
 refine aR F mz fun cdv B outer s H E hr=>?_
 rw[show ak By=[_,_,_] from rfl]
 refine⟨_,(qs (au (i:=4) mz.nd (cA (qa (ah 3) aa))) (qs (bK PassesOwn.never rfl (qi (ah 2)) (qg (i:=5) mz.nd) (qs (au (i:=6) mz.nd (cA aa)) (qs (bK PassesOwn.never rfl (qi (ah 4)) (qg (i:=7) mz.nd) (aS (au (i:=6) mz.nd (aM aF (ah 6) (ai CF hr rfl (qa (ah 0) (qa (ah 1) (qa (ah 5) (qa (ah 7) aa))))))))) (qs (aZ (aL LS (bz nD (by rfl) J.nE PySem.boot_len (qa (ah 6) aa)) aj (aN _)) iy aJ) (aS (au (i:=4) mz.nd (ah 6))))))) (aS (aq (ah 4))))),fun ds S kk hc hd h=>?_⟩
 obtain⟨f,x0,c7,p,l,N,rfl,e0,h1,h2,ok,h⟩:=h
 have hlt:=(List.getElem?_eq_some_iff.mp e0).1
 refine⟨_,rfl,_,rfl,sz 1,_,rfl,cO (eW E9 (fun pre δ S'=>∃ y z w,δ=[some (D.ob f),some x0,some (.tup (l.map E9)),some (.tup (p.map qu)),some (.lst [.tup ((b7 p pre).2.map qu)]),y,z,w]/\S'=S.set f (.lst ((c7++(b7 p pre).1).map Iw))) ⟨_,_,_,rfl,?_⟩ ?_ ?_)⟩
 ·have e:c7++(b7 p []).1=c7:=by unfold b7;simp
  rw[e,set_same e0]
 ·rintro pre s post δ S' Nx e ⟨y,z,w,rfl,rfl⟩ hN
  have hl1:=jy p pre
  have hl2:=jx p pre
  have hp1:pre.length < l.length:=by rw[e];simp
  refine⟨trivial,_,rfl,sz 0,_,rfl,jP ⟨trivial,_,rfl,_,rfl,_,rfl,_,rfl,_,rfl,f,x0,c7++(b7 p pre).1,(b7 p pre).2,s,N,rfl,NG hlt,by rw[List.length_append];omega,by omega,ok s (by rw[e];simp),?_⟩⟩
  rw[List.set_set,List.append_assoc,<- qU,<- qT]
  refine⟨_,_,rfl,rfl,sz 1,trivial,_,rfl,_,rfl,false,congrArg D.bl (by show decide ((16:Int) < ((1:Nat):Int))=false;decide),_,rfl,hN _ _ ⟨_,_,_,rfl,rfl⟩⟩
 ·rintro δ S' ⟨y,z,w,rfl,rfl⟩
  exact⟨trivial,_,rfl,nJ h⟩
noncomputable abbrev gQ:Stmt:=top 93
theorem wY:ao ["_law_row"] ["_law_row"] (af gQ):=ck
theorem xM (F:bM K "_law_row_shown" "_law_row_shown" gQ f fd)(J:Fx K mg A)(c5:Ms P w K mg base k 4 (JT A) "told" ["self"] (fQ A 2)):aE P w K mg base bO (k+1) f fd ["_law_row"] (aQ K (KZ A)):=by
 refine aR F wY fun cdv B outer s H E hr=>?_
 rw[show ak gQ=[_,_,_] from rfl]
 refine⟨_,(qs (aZ (aL (dW 40 (uE hr)) (aU (ah 0) aj) aA (aN _)) (aS (aq (ay (qa aA (qa (aU (ah 0) aj) (qa (ay (qa (az (aU (ah 0) aj) rfl) (qa (az (aU (ah 0) aj) rfl) aa))) aa)))))) aJ) (qs (aZ (aL (dW 40 (uE hr)) (aU (ah 0) aj) aA (aN _)) (aS (aq (ay (qa aA (qa (aT (aU (ah 0) aj) c5 hr) aa))))) aJ) (aS (aq (ah 0))))),fun ds S kk hc hd h=>?_⟩
 obtain⟨r,rfl,hr0,h⟩:=h
 cases r with
 | any x =>
  exact⟨_,rfl,_,_,rfl,rfl,rfl,false,tF,_,rfl,_,_,rfl,rfl,rfl,false,tF,_,rfl,aP hc h⟩
 | lt x s =>
  exact⟨_,rfl,_,_,rfl,rfl,rfl,true,tT,_,rfl,_,_,rfl,rfl,_,rfl,_,_,rfl,rfl,_,_,_,_,rfl,rfl,_,rfl,_,_,rfl,rfl,_,_,_,_,rfl,rfl,_,rfl,sz 2,_,rfl,sz 3,aP hc h⟩
 | hd c =>
  obtain⟨ns,l,i1,i2,_⟩:=oG A S c
  exact⟨_,rfl,_,_,rfl,rfl,rfl,false,tF,_,rfl,_,_,rfl,rfl,rfl,true,tT,_,rfl,_,_,rfl,rfl,Fb c,ns,l,jA c,i1,i2,c,rfl,rfl,(hr0 c rfl).1,(hr0 c rfl).2,_,rfl,sz 2,aP hc h⟩
noncomputable abbrev pR:Stmt:=top 94
theorem mw:ao ["_law_found","_law_rows","_law_debt","_law_ahead"] ["_law_found"] (af pR):=ck
theorem F0 (F:bM K "_law_shown" "_law_shown" pR f fd)(J:Fx K mg A)(c5:Ms P w K mg base k 4 (JT A) "told" ["self"] (fQ A 2))(vM:tu P w K mg base k A):aE P w K mg base bO (k+1) f fd ["_law_found"] (aQ K (DA A)):=by
 refine aR F mw fun cdv B outer s H E hr=>?_
 rw[show ak pR=[_,_,_] from rfl]
 refine⟨_,(qs (au (i:=1) mw.nd (jG aa)) (qs (bK PassesOwn.never rfl (qi (ah 0)) (qg (i:=2) mw.nd) (qs (au (i:=3) mw.nd (bh bX (by rfl) J.bU boot_tuple (qa (cV (aY ["_law_row"] [] [] rfl (by decide +kernel) (by decide +kernel) (by with_unfolding_all rfl) (by exact trivial) (by rfl) rfl (by rfl)) rfl (qi (az (ah 2) rfl)) (fun _ _ _ _=>(qx (i:=0) (show List.Nodup (["_law_row"]:List Str) by decide +kernel))) (fun _ _ _ _=>b9) (fun _ _ _ _=>(ai vM hr rfl (qa (ah 0) aa)))) aa))) (qs (aZ (qw (Aj (FO (fK (bz (kP (c:=.ref A.eF) trivial rfl) (by rfl) J.bw boot_isinstance (qa (ah 2) (qa (gF (bW (v:=.ref A.eF) rfl J.ur rfl)) aa))))) (tZ (FO (fK (bz (kP (c:=.ty "tuple") trivial rfl) (by rfl) J.bw boot_isinstance (qa (az (ah 2) rfl) (qa (gF (BG (v:=.ty "tuple") rfl J.bU boot_tuple rfl)) aa)))))))) iy aJ) (aS (jF (uX (ah 1) (qa (ay (qa (az (ah 2) rfl) (qa (az (ah 2) rfl) (qa (ah 3) (qa (aT (az (ah 2) rfl) c5 hr) aa))))) aa))))))) (aS (aq (ah 1))))),fun ds S kk hc hd h=>?_⟩
 obtain⟨f,c7,rfl,e0,hl,ok,h⟩:=h
 refine⟨_,rfl,sz 0,_,rfl,Ib (As (jc e0)) fun G hG=>?_⟩
 refine eW (JN A) (fun pre δ S'=>∃ y z,δ=[some (D.ob f),some (D.ob (S.length+0)),y,z]/\S'=S++[O.lst (pre.map Iw)]) ⟨_,_,rfl,rfl⟩ ?_ ?_
 ·rintro pre d post δ S' N e ⟨y,z,rfl,rfl⟩ hN
  have hd0:=ok d (by rw[e];simp)
  have hp1:pre.length < c7.length:=by rw[e];simp
  refine⟨hG _,_,rfl,_,_,_,_,rfl,rfl,cO ?_⟩
  refine gy (qt A) qu trivial (cU (by have:=hd0.al;omega)) (fun r hr k' hk=>⟨_,rfl,r,rfl,fun c ec=>hd0.a r hr c ec,_,rfl,hk⟩) ?_
  obtain⟨ns,l,i1,i2,_⟩:=oG A (S++[O.lst (pre.map Iw)]) d.cond
  refine⟨_,rfl,_,rfl,rfl,_,true,rfl,O5 K _,_,rfl,_,rfl,_,_,_,_,rfl,rfl,rfl,_,true,rfl,O4 K,_,rfl,_,rfl,⟨rfl,_,iS rfl⟩,_,rfl,_,_,_,_,rfl,rfl,_,rfl,_,_,_,_,rfl,rfl,_,rfl,_,rfl,_,_,_,_,rfl,rfl,Fb d.cond,ns,l,jA _,i1,i2,d.cond,rfl,rfl,hd0.c.1,hd0.c.2,_,rfl,sz 4,_,eS,Fq (by rw[List.length_map];omega),?_⟩
  rw[dU]
  refine hN _ _ ⟨_,_,rfl,?_⟩
  rw[List.map_append]
  rfl
 ·rintro δ S' ⟨y,z,rfl,rfl⟩
  exact⟨hG _,_,rfl,M0 hc rfl h⟩
noncomputable abbrev pX:Stmt:=top 95
theorem FH:ao ["_law_program","_law_name"] ["_law_program","_law_name"] (af pX):=ck
theorem F5 (F:bM K "_law_asked" "_law_asked" pX f fd)(J:Fx K mg A)(oQ:qH P w K mg base k A)(CG:Dn P w K mg base k "debts" ["program","name"] (aQ K (Bg A 2))):aE P w K mg base bO (k+1) f fd ["_law_program","_law_name"] (aQ K (DC A)):=by
 refine aR F FH fun cdv B outer s H E hr=>?_
 rw[show ak pX=[_] from rfl]
 refine⟨_,(aS (RZ (aS (aq (ai oQ hr rfl (qa (ai CG hr rfl (qa (ah 0) (qa (ah 1) aa))) aa)))))),fun ds S kk hc hd h=>?_⟩
 obtain⟨x,N,rfl,g,h⟩:=h
 have hok:=g.c7
 refine⟨_,rfl,_,rfl,x,N,rfl,g.ok,S.length,gx x,rfl,av,by have:=hok.1;omega,hok.2,JS hc h⟩
noncomputable abbrev wj:Stmt:=top 92
theorem cI:ao ["_law_helpers","_law_helper_here","_law_params","_law_some","_law_at","_law_told","_law_path","_law_found","_law_end"] ["_law_helpers","_law_helper_here"] (af wj):=ck
theorem LP (F:bM K "_law_due" "_law_due" wj f fd)(J:Fx K mg A)(M5:G4 P w K mg base k)(jz:vm P w K mg base k)(GI:CW P w K mg base k)(dN:kR P w K mg base k)(EK:zM P w K mg base k):aE P w K mg base bO (k+1) f fd ["_law_helpers","_law_helper_here"] (aQ K K2):=by
 refine aR F cI fun cdv B outer s H E hr=>?_
 rw[show ak wj=[_,_,_,_,_,_,_,_,_,_] from rfl]
 refine⟨_,(qs (au (i:=2) cI.nd (aU (ah 1) aj)) (qs (au (i:=3) cI.nd (aM aF (ai EK hr rfl (qa (aU (ah 1) aj) aa)) (bh Vk (by rfl) J.GN boot_list (qa (aU (ah 1) aj) aa)))) (qs (bK PassesOwn.never rfl (qi (aM aF (aU (ah 1) aj) (aU (ah 1) aj))) (mZ (n:=2) rfl (Ak (qg (i:=4) cI.nd) (Ak (qg (i:=5) cI.nd) ju))) (aS (au (i:=3) cI.nd (aM aF (ah 3) (ai dN hr rfl (qa (ah 5) aa)))))) (qs (au (i:=6) cI.nd (ai GI hr rfl (qa (ah 2) aa))) (qs (au (i:=6) cI.nd (aM aF (ah 6) (bh bX (by rfl) J.bU boot_tuple (qa (cV (aY ["_law_thing"] ["_law_params"] [2] rfl (by decide +kernel) (by decide +kernel) (by with_unfolding_all rfl) (by exact⟨rfl,trivial⟩) (by rfl) rfl (by rfl)) rfl (qi (R7 rfl J.lV rfl J.IQ rfl (ah 3))) (fun _ _ _ _=>(qx (i:=0) (show List.Nodup (["_law_thing","_law_params"]:List Str) by decide +kernel))) (fun _ _ _ _=>(wm (aL HW (ah 0) (ah 1) (by rfl)))) (fun _ _ _ _=>(ay (qa aA (qa (ah 0) (qa (ay (qa (ay aa) (qa aj aa))) aa)))))) aa)))) (qs (au (i:=6) cI.nd (aM aF (ah 6) (bh bX (by rfl) J.bU boot_tuple (qa (cV (aY ["_law_at","_law_told"] [] [] rfl (by decide +kernel) (by decide +kernel) (by with_unfolding_all rfl) (by exact trivial) (by rfl) rfl (by rfl)) rfl (qi (aU (ah 1) aj)) (fun _ _ _ _=>(qN (n:=2) rfl (HK (qx (i:=0) (show List.Nodup (["_law_at","_law_told"]:List Str) by decide +kernel)) (HK (qx (i:=1) (show List.Nodup (["_law_at","_law_told"]:List Str) by decide +kernel)) mY)))) (fun _ _ _ _=>b9) (fun _ _ _ _=>(ay (qa aA (qa (ah 1) aa))))) aa)))) (qs (au (i:=7) cI.nd (jG aa)) (qs (bK PassesOwn.never rfl (qi (ai M5 hr rfl (qa (ah 7) (qa (ah 0) (qa (aU (ah 1) aj) (qa (ah 6) aa)))))) (qg (i:=8) cI.nd) (aS (bK PassesOwn.never rfl (qi (aU (ah 1) aj)) (mZ (n:=2) rfl (Ak (qg (i:=4) cI.nd) (Ak (qg (i:=5) cI.nd) ju))) (aS (au (i:=8) cI.nd (ai jz hr rfl (qa (ah 7) (qa (ah 8) (qa aA (qa (ah 4) (qa (ah 5) aa))))))))))) (qs (aZ (qw (Aj (aL LS (bz nD (by rfl) J.nE PySem.boot_len (qa (ah 7) aa)) aj (aN _)) (tZ (aL (W3 (qE hr)) (ay (qa aA aa)) (ah 7) (by rfl))))) iy aJ) (aS (aq (ah 7)))))))))))),fun ds S kk hc hd h=>?_⟩
 obtain⟨x0,x,N,rfl,g,h⟩:=h
 obtain⟨p1,p2,p3,p4,p5⟩:=g.ok.pl
 have hso:(tR x.steps).length<=700:=by
  have h1:=mh (x.steps.map AY).flatten
  have h2:=wM x.steps
  have h3:=A0 g.st
  unfold tR yZ
  rw[List.length_append]
  omega
 refine⟨_,rfl,_,_,rfl,rfl,_,rfl,_,_,rfl,rfl,x.steps,N,rfl,g.st,g.ok.nl,by omega,_,rfl,_,_,rfl,rfl,_,rfl,_,_,rfl,rfl,cU (by rw[List.length_map,List.length_map];omega),_,rfl,_,_,rfl,rfl,_,rfl,_,_,rfl,rfl,cU (by rw[List.length_map,List.length_map];omega),?_⟩
 rw[<- List.map_append,<- List.map_append]
 have hq:∀ q∈x.needs++x.gives,jb (x.params++x.answers) q.2:=fun q hq=>by
  rcases List.mem_append.mp hq with hq | hq
  ·exact(g.nd q hq).up fun x hx=>List.mem_append_left _ hx
  ·exact g.gv q hq
 have hqf:∀ pre post,x.needs++x.gives=pre++post->((pre.map fun q=>(q.2.sums.map Sm.bJ).flatten).flatten).length<=16*pre.length:=fun pre post e=>AF fun q hq'=>hq q (by rw[e];exact List.mem_append_left _ hq')
 refine cO ?_
 refine eW Vo (fun pre δ S'=>∃ y z,δ=[some x0,some (D.t (Q3 x)),some (D.t (ql x.params)),some (D.t (Ar ((tR x.steps++x.answers)++(pre.map fun q=>(q.2.sums.map Sm.bJ).flatten).flatten))),y,z,none,none,none]/\S'=S) ⟨none,none,by rw[List.map_nil,List.flatten_nil,List.append_nil];rfl,rfl⟩ ?_ ?_
 ·rintro pre q post δ S' Nx e ⟨y,z,rfl,rfl⟩ hN
  have hc1:=hq q (by rw[e];simp)
  have hl1:=hqf pre (q::post) e
  have hl2:pre.length<=16:=by
   have:=congrArg List.length e
   rw[List.length_append,List.length_append] at this
   omega
  have hl3:=ID hc1
  refine⟨trivial,_,rfl,rfl,_,_,rfl,_,_,rfl,rfl,_,rfl,_,rfl,q.2,rfl,hc1.dep,hc1.few,_,_,rfl,rfl,cU (by rw[List.length_map,List.length_map,List.length_append,List.length_append];omega),?_⟩
  rw[<- List.map_append]
  have e2:(tR x.steps++x.answers)++(pre.map fun q=>(q.2.sums.map Sm.bJ).flatten).flatten++(q.2.sums.map Sm.bJ).flatten=(tR x.steps++x.answers)++((pre++[q]).map fun q=>(q.2.sums.map Sm.bJ).flatten).flatten:=by simp
  rw[e2]
  exact hN _ _ ⟨_,_,rfl,rfl⟩
 rintro δ S0 ⟨y,z,rfl,rfl⟩
 have hmem:=Lc g
 have hsl:((tR x.steps++x.answers)++((x.needs++x.gives).map fun q=>(q.2.sums.map Sm.bJ).flatten).flatten).length < 4000:=by
  have:=hqf (x.needs++x.gives) [] (by simp)
  rw[List.length_append] at this ⊢
  rw[List.length_append]
  omega
 have hall:=Ld g
 generalize (tR x.steps++x.answers)++((x.needs++x.gives).map fun q=>(q.2.sums.map Sm.bJ).flatten).flatten=M at hmem hsl hall
 have hp0:=ud g.ok
 have h1:=lE x.params
 have h2:=BH g.ok
 have hsM:(uU M).length<=64:=N1 (ds:=N++(x.params++x.answers)) hall (by rw[List.length_append,List.length_append];have:=g.ok.nl;omega)
 refine⟨trivial,_,rfl,x.params,rfl,p1,fun y hy=>⟨g.ok.sh y hy,g.ne y hy⟩,_,rfl,_,rfl,M,N++(x.params++x.answers),rfl,hsl,by rw[List.length_append,List.length_append];have:=g.ok.nl;omega,hall,?_⟩
 refine jP ?_
 refine yt T.str (fun t=>if x.params.contains t=true then none else some (qu (.lt t ([],0)))) trivial (cU (by omega)) (fun t ht k' hk=>?_) ?_
 ·refine⟨_,rfl,_,rfl,_,_,_,rfl,rfl,rfl,Cq x.params,?_⟩
  have e3:QV (V.str t) (x.params.map V.str)=x.params.contains t:=by rw[Cn,List.contains_eq_mem]
  rw[e3]
  cases q:x.params.contains t with
  | true=>rw[if_pos q] at hk;exact⟨false,rfl,hk⟩
  | false=>rw[if_neg (by rw[q];decide)] at hk;exact⟨true,rfl,_,rfl,_,rfl,sz 0,_,rfl,sz 2,_,rfl,sz 3,_,rfl,hk⟩
 rw[SD hmem]
 refine⟨_,rfl,cU (by simp only[List.length_map];omega),_,rfl,_,rfl,_,_,rfl,rfl,cO ?_⟩
 refine gy Vo (fun q=>qu (.hd q.2)) trivial (cU (by omega)) (fun q hq k' hk=>⟨_,rfl,rfl,_,_,rfl,_,_,rfl,rfl,_,rfl,_,rfl,sz 2,_,rfl,hk⟩) ?_
 refine⟨_,rfl,cU (by simp only[List.length_map,List.length_append];omega),?_⟩
 have ep:((((x.params.map aW).flatten).map qu)++(others x).map fun t=>qu (.lt t ([],0)))++x.needs.map (fun q=>qu (.hd q.2))=(dh x).map qu:=by
  unfold dh
  rw[List.map_append,List.map_append,List.map_map,List.map_map]
  rfl
 rw[ep]
 have YR:=jy (dh x) x.steps
 have VG:=jx (dh x) x.steps
 refine⟨_,rfl,sz 0,_,rfl,_,rfl,_,rfl,_,_,rfl,rfl,_,rfl,S0.length,x0,[],dh x,x.steps,N,rfl,av,by simp;omega,by omega,g.st,jP ⟨trivial,_,rfl,_,_,rfl,rfl,cO ?_⟩⟩
 rw[fS,List.nil_append]
 refine eW Vo (fun pre δ S'=>∃ y z,δ=[some x0,some (D.t (Q3 x)),some (D.t (ql x.params)),some (D.t (Ar M)),y,z,some (.tup ((dh x).map qu)),some (D.ob S0.length),some (.tup ((bA "gives" (b7 (dh x) x.steps).2 pre).2.map qu))]/\S'=S0++[O.lst (((b7 (dh x) x.steps).1++(bA "gives" (b7 (dh x) x.steps).2 pre).1).map Iw)]) ⟨_,_,rfl,by unfold bA;rw[List.append_nil]⟩ ?_ ?_
 ·rintro pre q post δ S' Nx e ⟨y,z,rfl,rfl⟩ hN
  have hl1:=qd "gives" (b7 (dh x) x.steps).2 pre
  have hl2:=uv "gives" (b7 (dh x) x.steps).2 pre
  have hpl:pre.length<=8:=by rw[e,List.length_append] at p5;omega
  refine⟨trivial,_,rfl,rfl,_,_,rfl,_,_,rfl,rfl,_,rfl,_,rfl,_,rfl,_,rfl,S0.length,_,_,"gives",q.1,q.2,rfl,av,by rw[List.length_append];omega,by omega,?_⟩
  rw[fS,List.append_assoc,<- qX,<- qW]
  exact hN _ _ ⟨_,_,rfl,rfl⟩
 rintro δ S' ⟨y,z,rfl,rfl⟩
 have hdb:=g.c7
 refine⟨trivial,trivial,_,rfl,_,nS av,false,congrArg D.bl (decide_eq_false (by rw[List.length_map];have:=hdb.1;unfold gx at this;omega)),_,rfl,sz 1,_,rfl,"many",_,rfl,jc av,fun t ht=>?_,_,rfl,_,rfl,M0 (j:=0) hc rfl h⟩
 obtain⟨d,hd,rfl⟩:=List.mem_map.mp ht
 exact⟨_,_,rfl,MT x d hd⟩
noncomputable abbrev qq:Stmt:=top 96
theorem tY:ao ["_law_script","_law_draw","_law_helper_here","_law_program","_law_due_here","_law_found"] ["_law_script"] (af qq):=ck
theorem SS (F:bM K "law" "law" qq f fd)(J:Fx K mg A)(EM:zQ P w K mg base k A)(oQ:qH P w K mg base k A)(CG:Dn P w K mg base k "debts" ["program","name"] (aQ K (Bg A 2)))(JW:EX P w K mg base k)(L5:Ms P w K mg base k 1 (fun _=>A.br) "told" ["self"] (fun _=>rR A 2))(L4:Ms P w K mg base k 1 (fun _=>A.bH) "told" ["self"] (fun _=>wR A 2))(uh:EW P w K mg base k A)(CD:yQ P w K mg base k A)(EL:zP P w K mg base k)(aD:dH P w K mg base k)(zI:vS P w K mg base k):aE P w K mg base bO (k+1) f fd ["_law_script"] (aQ K KW):=by
 refine aR F tY fun cdv B outer s H E hr=>?_
 rw[show ak qq=[_,_,_,_,_,_,_,_] from rfl]
 refine⟨_,(qs (au (i:=1) tY.nd (jG (qa (ai zI hr rfl (qa (ah 0) (qa aj aa))) (qa aj aa)))) (qs (au (i:=2) tY.nd (ai CD hr rfl (qa (ah 1) (qa aA (qa (ai aD hr rfl (qa (ah 1) (qa aj aa))) (qa aj (qa (cA aa) (qa (ai EL hr rfl (qa (ah 1) (qa aj aa))) aa)))))))) (qs (au (i:=3) tY.nd (gG uh hr rfl (qa (cA (qa (ah 2) aa)) aa))) (qs (au (i:=4) tY.nd (ai JW hr rfl (qa (aT (ah 3) L4 hr) (qa (aT (ah 2) L5 hr) aa)))) (qs (au (i:=5) tY.nd (ai CG hr rfl (qa (ah 3) (qa aA aa)))) (qs (aZ (qw (Aj (FO (fK (bz (kP (c:=.ty "list") trivial rfl) (by rfl) J.bw boot_isinstance (qa (ah 5) (qa (gF (BG (v:=.ty "list") rfl J.GN boot_list rfl)) aa))))) (tZ (aL (Jr 40 (uE hr)) (ai oQ hr rfl (qa (ah 5) aa)) (ah 4) (aN _))))) (aS (aq a01)) aJ) (qs (jF (WK (ah 5))) (aS (aq (HN (dW 40 (uE hr)) (ai EM hr rfl (qa (ah 3) (qa aA aa))) (ah 4) (aN _))))))))))),fun ds S kk hc hd h=>?_⟩
 obtain⟨l,rfl,rfl,h⟩:=h
 refine⟨_,rfl,l,0,rfl,fun r=>⟨_,rfl,sz 2,?_⟩⟩
 have dq:Dq ([]++[O.lst [T.int r,T.int 0]]) 0:=⟨r,0,rfl⟩
 generalize hS:([]++[O.lst [T.int r,T.int 0]]:bB)=S at dq
 refine⟨_,rfl,_,rfl,0,10,rfl,dq,by decide,fun r1 c m hr1=>?_⟩
 refine⟨_,rfl,sz 0,_,rfl,0,rfl,dq.cP,fun ns c m hn hw=>?_⟩
 rw[cF]
 refine⟨0,ns,r1,"one",rfl,dq.cP,by omega,hn,hw,fun x N c m g hnm=>?_⟩
 rw[cF]
 generalize cP S 0 c m=S1
 have hdb:=g.c7
 have hfl:=MU g
 refine⟨_,rfl,_,rfl,sz 1,_,_,[x],rfl,av,rfl,made ?_⟩
 refine⟨_,rfl,0,_,_,by decide,rfl,by decide +kernel,x,rfl,g.told,_,rfl,0,_,_,by decide,rfl,by decide +kernel,x,rfl,g.told,_,x,N,rfl,g,?_⟩
 refine⟨_,rfl,x,N,by rw[hnm];rfl,g.ok,?_⟩
 refine⟨_,rfl,rfl,_,true,Rr av,Mf K,_,rfl,_,rfl,S1.length,gx x,rfl,av,by have:=hdb.1;omega,hdb.2,_,rfl,_,_,rfl,rfl,.inl ⟨rfl,hfl,_,rfl,?_⟩⟩
 refine⟨_,rfl,⟨rfl,_,jc av⟩,_,av,_,rfl,x,N,by rw[hnm];rfl,g,_,rfl,_,_,rfl,rfl,.inl ⟨rfl,hfl,nJ (h _)⟩⟩
end
structure pJ (K:PySem.W.Frag)(C:Addr):Prop where
 pg:PySem.W.plainGet K C Str.empty=true
 hd:PySem.W.hasDictIn K C=true
 po:PySem.W.plainOver K C=true
 sa:PySem.W.findIn K (.ref C) "__setattr__"=some (some (.builtin "object.__setattr__"))
 mi:PySem.W.makesIn K C=true
 kc:PySem.W.keepIn K (.ref C)=true
 ca:PySem.W.findIn K (.ref C) "__class__"=some (some (.builtin "object.__class__"))
 cm:PySem.W.mroIn K C (.type "object")=some true
theorem pJ.ok {K:PySem.W.Frag}{C:Addr}(q:pJ K C)(cg:PySem.W.specialIn K (.builtin "object.__class__") "__get__"=some (some (.builtin "getset_descriptor.__get__")))(ct:PySem.W.takesIn K (.builtin "object.__class__")=some true):fD K C []:=⟨⟨q.pg,q.hd,q.po,q.sa⟩,fun _ h=>absurd h List.not_mem_nil,q.ca,cg,ct,q.cm⟩
noncomputable def FnAt (K:PySem.W.Frag)(f:Addr)(x qual:Str)(st:Stmt):Prop:=∃ fd,bM K x qual st f fd/\PySem.W.keepIn K (.ref f)=true
noncomputable def FnAt.fd {K:PySem.W.Frag}{f:Addr}{x qual:Str}{st:Stmt}(h:FnAt K f x qual st):FuncData:=Classical.choose h
theorem FnAt.F {K:PySem.W.Frag}{f:Addr}{x qual:Str}{st:Stmt}(h:FnAt K f x qual st):bM K x qual st f h.fd:=(Classical.choose_spec h).1
theorem FnAt.k {K:PySem.W.Frag}{f:Addr}{x qual:Str}{st:Stmt}(h:FnAt K f x qual st):PySem.W.keepIn K (.ref f)=true:=(Classical.choose_spec h).2
section
variable {P:Program}{w:World}{K:PySem.W.Frag}{mg:Str->Option Value}{base:Heap}{k:Nat}{f:Addr}{fd:FuncData}{ps:List Str}{sp RI:cu}{A:Ad}
theorem U4 {s s':Sp}(h:∀ vs H Q E,s' vs H Q E->s vs H Q E)(F:aE P w K mg base bO k f fd ps s):aE P w K mg base bO k f fd ps s' :=
 ⟨fun vs H Q E q=>F.len vs H Q E (h vs H Q E q),fun A outer s H args us vs Q E hr he hb hv q=>F.run A outer s H args us vs Q E hr he hb hv (h _ _ _ _ q)⟩
theorem kO {s':Sp}(h:∀ vs H Q E,s' vs H Q E->aQ K sp vs H Q E)(F:aE P w K mg base bO k f fd ps (aQ K sp)):aE P w K mg base bO k f fd ps s':=U4 h F
theorem lR (h:∀ ds S k,¬ sp ds S k):aE P w K mg base bO k f fd ps (aQ K sp) :=
 ⟨(by rintro vs H Q E ⟨_,S,ds,kk,_,_,q,_⟩;exact (h ds S kk q).elim),(by rintro A outer s H args us vs Q E hr he hb hv ⟨_,S,ds,kk,_,_,q,_⟩;exact (h ds S kk q).elim)⟩
theorem Ma (h:∀ ds S k,RI ds S k->sp ds S k):∀ vs H Q E,aQ K RI vs H Q E->aQ K sp vs H Q E:=(by rintro vs H Q E ⟨ρ,S,ds,kk,R,r,q,hk⟩;exact ⟨ρ,S,ds,kk,R,r,h ds S kk q,hk⟩)
theorem _root_.Hw.Dn.u {x:Str}{j:Nat}{s:Sp}(h:Dn P w K mg base j x ps s)(l:j<=k:=by decide):Dn P w K mg base k x ps s:=Dn.up h l
theorem Ms.u {n j:Nat}{m:Str}{cl:Nat->Addr}{s:Nat->cu}(h:Ms P w K mg base j n cl m ps s)(l:j<=k:=by decide):Ms P w K mg base k n cl m ps s:=Ms.up h l
theorem ni.u {x:Str}{C:Addr}{j:Nat}(h:ni P w K mg base j C x ps sp)(l:j<=k:=by decide):ni P w K mg base k C x ps sp:=ni.up h l
theorem dA {x y qual:Str}{st:Stmt}{s:Sp}(l:FnAt K f y qual st)(a:mg x=some (.ref f))(b:Binds K l.fd ps [])(o:aE P w K mg base bO k f l.fd ps s):Dn P w K mg base k x ps s:=⟨f,l.fd,o,a,l.k,b⟩
theorem Cm.up {x m:Str}{j:Nat}(h:Cm P w K mg base j x m ps sp)(l:j<=k):Cm P w K mg base k x m ps sp:=let ⟨C,f,fd,F,a⟩:=h.ok;⟨⟨C,f,fd,F.mono l,a⟩⟩
theorem Cm.u {x m:Str}{j:Nat}(h:Cm P w K mg base j x m ps sp)(l:j<=k:=by decide):Cm P w K mg base k x m ps sp:=Cm.up h l
theorem LW:∀ ds S k,¬ I0 ds S k:=fun _ _ _ h=>h
theorem sD (j:Nat):∀ ds S k,¬ fQ A 0 j ds S k:=(by rintro _ _ _ ⟨_,_,_,h,_⟩;exact absurd h (Nat.not_lt_zero _))
theorem wz (j:Nat):∀ ds S k,¬ nU A 0 j ds S k:=(by rintro _ _ _ ⟨_,_,_,h,_⟩;exact absurd h (Nat.not_lt_zero _))
theorem S6:∀ ds S k,¬ Dw 0 ds S k:=(by rintro _ _ _ ⟨_,_,h,_⟩;exact absurd h (Nat.not_lt_zero _))
theorem Rt {n j:Nat}{q:Bool}{x y:T}(h:Tx A n q x y j)(hj:j < 6):∃ s:aX,x=nQ A s/\y=E9 s/\kd s=j/\∀ a c,s=.cm a c->c.dep < n/\c.sz<=7:=by
 cases h with
 | s s h=>exact⟨s,rfl,rfl,rfl,h⟩
 | h x hx hq=>omega
theorem VS {n j:Nat}{q:Bool}(hj:j < 6):∀ vs H Q E,aQ K (j9 A n q j) vs H Q E->aQ K (jf A n j) vs H Q E:=Ma (by
 rintro ds S k ⟨x,y,e,tx,h⟩
 obtain⟨s,rfl,rfl,h1,h2⟩:=Rt tx hj
 exact⟨s,e,h1,h2,h⟩)
theorem lA {n j:Nat}(hj:j < 6):∀ vs H Q E,aQ K (j9 A n false j) vs H Q E->aQ K (jf A n j) vs H Q E:=VS hj
theorem pM {n j:Nat}(hj:j < 6):∀ vs H Q E,aQ K (j9 A n true j) vs H Q E->aQ K (jf A n j) vs H Q E:=VS hj
theorem Hg {n j:Nat}{q:Bool}{x y:T}(h:Tx A n q x y j)(hj:j=6):q=true/\∃ a:qp,x=Ij A a/\y=Q3 a/\Zw n a:=by
 cases h with
 | s s h=>have:=sF s;omega
 | h x hx hq=>exact⟨hq,x,rfl,rfl,hx⟩
theorem SY {n:Nat}:∀ ds S k,¬ j9 A n false 6 ds S k:=fun ds S k ⟨x,y,e,tx,h⟩=>by cases (Hg tx rfl).1
theorem a0y {n:Nat}:∀ vs H Q E,aQ K (j9 A n true 6) vs H Q E->aQ K (rR A n) vs H Q E:=Ma (by
 rintro ds S k ⟨x,y,e,tx,h⟩
 obtain⟨_,a,rfl,rfl,h2⟩:=Hg tx rfl
 exact⟨a,e,h2,h⟩)
theorem bI.ofInts {G:Hp}:∀ ns:List Int,bI K G (ns.map T.int) (ns.map V.int)
 | []=>bI.nil
 | a::r=>bI.cons (by unfold Rp;rfl) (bI.ofInts r)
theorem Tn:∀ vs H Q E,Hx K vs H Q E->aQ K KW vs H Q E:=(by
 rintro vs H Q E ⟨a,ns,e,hs,_,h⟩
 refine⟨[],[],[.t (.HF (ns.map T.int))],fun d _=>d=.bl true,⟨rfl,.nil,fun n a o h=>by cases h⟩,?_,⟨ns,rfl,rfl,fun _=>rfl⟩,fun v H' u=>?_⟩
 ·rw[e]
  refine .cons ?_ .nil
  show Rp _ _ _ _
  unfold Rp
  rw[N7]
  exact⟨a,_,rfl,hs,bI.ofInts ns⟩
 ·obtain⟨ρ',S',d,_,_,r,rfl⟩:=u
  rw[bx r]
  exact h H')
end
theorem a1m {K:PySem.W.Frag}{A:Ad}(h00:PySem.W.kitOne K (.ref (bD A 0)) (.ref (bD A 0))=some true)(h01:PySem.W.kitOne K (.ref (bD A 0)) (.ref (bD A 1))=some false)(h02:PySem.W.kitOne K (.ref (bD A 0)) (.ref (bD A 2))=some false)(h03:PySem.W.kitOne K (.ref (bD A 0)) (.ref (bD A 3))=some false)(h04:PySem.W.kitOne K (.ref (bD A 0)) (.ref (bD A 4))=some false)(h05:PySem.W.kitOne K (.ref (bD A 0)) (.ref (bD A 5))=some false)(h06:PySem.W.kitOne K (.ref (bD A 0)) (.ref (bD A 6))=some false)(h07:PySem.W.kitOne K (.ref (bD A 0)) (.ref (bD A 7))=some false)(h08:PySem.W.kitOne K (.ref (bD A 0)) (.ref (bD A 8))=some false)(h10:PySem.W.kitOne K (.ref (bD A 1)) (.ref (bD A 0))=some false)(h11:PySem.W.kitOne K (.ref (bD A 1)) (.ref (bD A 1))=some true)(h12:PySem.W.kitOne K (.ref (bD A 1)) (.ref (bD A 2))=some false)(h13:PySem.W.kitOne K (.ref (bD A 1)) (.ref (bD A 3))=some false)(h14:PySem.W.kitOne K (.ref (bD A 1)) (.ref (bD A 4))=some false)(h15:PySem.W.kitOne K (.ref (bD A 1)) (.ref (bD A 5))=some false)(h16:PySem.W.kitOne K (.ref (bD A 1)) (.ref (bD A 6))=some false)(h17:PySem.W.kitOne K (.ref (bD A 1)) (.ref (bD A 7))=some false)(h18:PySem.W.kitOne K (.ref (bD A 1)) (.ref (bD A 8))=some false)(h20:PySem.W.kitOne K (.ref (bD A 2)) (.ref (bD A 0))=some false)(h21:PySem.W.kitOne K (.ref (bD A 2)) (.ref (bD A 1))=some false)(h22:PySem.W.kitOne K (.ref (bD A 2)) (.ref (bD A 2))=some true)(h23:PySem.W.kitOne K (.ref (bD A 2)) (.ref (bD A 3))=some false)(h24:PySem.W.kitOne K (.ref (bD A 2)) (.ref (bD A 4))=some false)(h25:PySem.W.kitOne K (.ref (bD A 2)) (.ref (bD A 5))=some false)(h26:PySem.W.kitOne K (.ref (bD A 2)) (.ref (bD A 6))=some false)(h27:PySem.W.kitOne K (.ref (bD A 2)) (.ref (bD A 7))=some false)(h28:PySem.W.kitOne K (.ref (bD A 2)) (.ref (bD A 8))=some false)(h30:PySem.W.kitOne K (.ref (bD A 3)) (.ref (bD A 0))=some false)(h31:PySem.W.kitOne K (.ref (bD A 3)) (.ref (bD A 1))=some false)(h32:PySem.W.kitOne K (.ref (bD A 3)) (.ref (bD A 2))=some false)(h33:PySem.W.kitOne K (.ref (bD A 3)) (.ref (bD A 3))=some true)(h34:PySem.W.kitOne K (.ref (bD A 3)) (.ref (bD A 4))=some false)(VJ:PySem.W.kitOne K (.ref (bD A 3)) (.ref (bD A 5))=some false)(h36:PySem.W.kitOne K (.ref (bD A 3)) (.ref (bD A 6))=some false)(h37:PySem.W.kitOne K (.ref (bD A 3)) (.ref (bD A 7))=some false)(h38:PySem.W.kitOne K (.ref (bD A 3)) (.ref (bD A 8))=some false)(h40:PySem.W.kitOne K (.ref (bD A 4)) (.ref (bD A 0))=some false)(h41:PySem.W.kitOne K (.ref (bD A 4)) (.ref (bD A 1))=some false)(h42:PySem.W.kitOne K (.ref (bD A 4)) (.ref (bD A 2))=some false)(h43:PySem.W.kitOne K (.ref (bD A 4)) (.ref (bD A 3))=some false)(h44:PySem.W.kitOne K (.ref (bD A 4)) (.ref (bD A 4))=some true)(h45:PySem.W.kitOne K (.ref (bD A 4)) (.ref (bD A 5))=some false)(h46:PySem.W.kitOne K (.ref (bD A 4)) (.ref (bD A 6))=some false)(h47:PySem.W.kitOne K (.ref (bD A 4)) (.ref (bD A 7))=some false)(h48:PySem.W.kitOne K (.ref (bD A 4)) (.ref (bD A 8))=some false)(h50:PySem.W.kitOne K (.ref (bD A 5)) (.ref (bD A 0))=some false)(h51:PySem.W.kitOne K (.ref (bD A 5)) (.ref (bD A 1))=some false)(h52:PySem.W.kitOne K (.ref (bD A 5)) (.ref (bD A 2))=some false)(h53:PySem.W.kitOne K (.ref (bD A 5)) (.ref (bD A 3))=some false)(h54:PySem.W.kitOne K (.ref (bD A 5)) (.ref (bD A 4))=some false)(h55:PySem.W.kitOne K (.ref (bD A 5)) (.ref (bD A 5))=some true)(h56:PySem.W.kitOne K (.ref (bD A 5)) (.ref (bD A 6))=some false)(h57:PySem.W.kitOne K (.ref (bD A 5)) (.ref (bD A 7))=some false)(h58:PySem.W.kitOne K (.ref (bD A 5)) (.ref (bD A 8))=some false):∀ j i,j < 6->i < 9->PySem.W.kitOne K (.ref (bD A j)) (.ref (bD A i))=some (decide (j=i)):=fun j i hj hi=>by
 match j,hj,i,hi with
 | 0,_,0,_=>exact h00
 | 0,_,1,_=>exact h01
 | 0,_,2,_=>exact h02
 | 0,_,3,_=>exact h03
 | 0,_,4,_=>exact h04
 | 0,_,5,_=>exact h05
 | 0,_,6,_=>exact h06
 | 0,_,7,_=>exact h07
 | 0,_,8,_=>exact h08
 | 1,_,0,_=>exact h10
 | 1,_,1,_=>exact h11
 | 1,_,2,_=>exact h12
 | 1,_,3,_=>exact h13
 | 1,_,4,_=>exact h14
 | 1,_,5,_=>exact h15
 | 1,_,6,_=>exact h16
 | 1,_,7,_=>exact h17
 | 1,_,8,_=>exact h18
 | 2,_,0,_=>exact h20
 | 2,_,1,_=>exact h21
 | 2,_,2,_=>exact h22
 | 2,_,3,_=>exact h23
 | 2,_,4,_=>exact h24
 | 2,_,5,_=>exact h25
 | 2,_,6,_=>exact h26
 | 2,_,7,_=>exact h27
 | 2,_,8,_=>exact h28
 | 3,_,0,_=>exact h30
 | 3,_,1,_=>exact h31
 | 3,_,2,_=>exact h32
 | 3,_,3,_=>exact h33
 | 3,_,4,_=>exact h34
 | 3,_,5,_=>exact VJ
 | 3,_,6,_=>exact h36
 | 3,_,7,_=>exact h37
 | 3,_,8,_=>exact h38
 | 4,_,0,_=>exact h40
 | 4,_,1,_=>exact h41
 | 4,_,2,_=>exact h42
 | 4,_,3,_=>exact h43
 | 4,_,4,_=>exact h44
 | 4,_,5,_=>exact h45
 | 4,_,6,_=>exact h46
 | 4,_,7,_=>exact h47
 | 4,_,8,_=>exact h48
 | 5,_,0,_=>exact h50
 | 5,_,1,_=>exact h51
 | 5,_,2,_=>exact h52
 | 5,_,3,_=>exact h53
 | 5,_,4,_=>exact h54
 | 5,_,5,_=>exact h55
 | 5,_,6,_=>exact h56
 | 5,_,7,_=>exact h57
 | 5,_,8,_=>exact h58
end L3
namespace Hw
open PySem L2 PyProof.Rows
theorem rL {us:List Value}{k:Nat}(h:us.length=k+1):∃ a r,us=a::r/\r.length=k:=by
 cases us with
 | nil=>exact absurd h (Nat.succ_ne_zero k).symm
 | cons a r=>exact⟨a,r,rfl,Nat.succ.inj h⟩
theorem a0u {A:FuncData}{B:List Str}(us:List Value)(hl:us.length=1)(k:∀ a,bindArgs A ⟨[a],[]⟩=pure (B.zip [a])):bindArgs A ⟨us,[]⟩=pure (B.zip us):=by
 obtain⟨a,u1,rfl,h1⟩:=rL hl
 obtain rfl:=List.eq_nil_of_length_eq_zero h1
 exact k a
theorem a0t {A:FuncData}{B:List Str}(us:List Value)(hl:us.length=2)(k:∀ a b,bindArgs A ⟨[a,b],[]⟩=pure (B.zip [a,b])):bindArgs A ⟨us,[]⟩=pure (B.zip us):=by
 obtain⟨a,u1,rfl,h1⟩:=rL hl
 obtain⟨b,u2,rfl,h2⟩:=rL h1
 obtain rfl:=List.eq_nil_of_length_eq_zero h2
 exact k a b
theorem a0s {A:FuncData}{B:List Str}(us:List Value)(hl:us.length=3)(k:∀ a b c,bindArgs A ⟨[a,b,c],[]⟩=pure (B.zip [a,b,c])):bindArgs A ⟨us,[]⟩=pure (B.zip us):=by
 obtain⟨a,u1,rfl,h1⟩:=rL hl
 obtain⟨b,u2,rfl,h2⟩:=rL h1
 obtain⟨c,u3,rfl,h3⟩:=rL h2
 obtain rfl:=List.eq_nil_of_length_eq_zero h3
 exact k a b c
theorem a0r {A:FuncData}{B:List Str}(us:List Value)(hl:us.length=4)(k:∀ a b c d,bindArgs A ⟨[a,b,c,d],[]⟩=pure (B.zip [a,b,c,d])):bindArgs A ⟨us,[]⟩=pure (B.zip us):=by
 obtain⟨a,u1,rfl,h1⟩:=rL hl
 obtain⟨b,u2,rfl,h2⟩:=rL h1
 obtain⟨c,u3,rfl,h3⟩:=rL h2
 obtain⟨d,u4,rfl,h4⟩:=rL h3
 obtain rfl:=List.eq_nil_of_length_eq_zero h4
 exact k a b c d
theorem a0q {A:FuncData}{B:List Str}(us:List Value)(hl:us.length=5)(k:∀ a b c d e,bindArgs A ⟨[a,b,c,d,e],[]⟩=pure (B.zip [a,b,c,d,e])):bindArgs A ⟨us,[]⟩=pure (B.zip us):=by
 obtain⟨a,u1,rfl,h1⟩:=rL hl
 obtain⟨b,u2,rfl,h2⟩:=rL h1
 obtain⟨c,u3,rfl,h3⟩:=rL h2
 obtain⟨d,u4,rfl,h4⟩:=rL h3
 obtain⟨e,u5,rfl,h5⟩:=rL h4
 obtain rfl:=List.eq_nil_of_length_eq_zero h5
 exact k a b c d e
theorem a0p {A:FuncData}{B:List Str}(us:List Value)(hl:us.length=6)(k:∀ a b c d e f,bindArgs A ⟨[a,b,c,d,e,f],[]⟩=pure (B.zip [a,b,c,d,e,f])):bindArgs A ⟨us,[]⟩=pure (B.zip us):=by
 obtain⟨a,u1,rfl,h1⟩:=rL hl
 obtain⟨b,u2,rfl,h2⟩:=rL h1
 obtain⟨c,u3,rfl,h3⟩:=rL h2
 obtain⟨d,u4,rfl,h4⟩:=rL h3
 obtain⟨e,u5,rfl,h5⟩:=rL h4
 obtain⟨f,u6,rfl,h6⟩:=rL h5
 obtain rfl:=List.eq_nil_of_length_eq_zero h6
 exact k a b c d e f
theorem a0o {A:FuncData}{B:List Str}(us:List Value)(hl:us.length=8)(k:∀ a b c d e f g h,bindArgs A ⟨[a,b,c,d,e,f,g,h],[]⟩=pure (B.zip [a,b,c,d,e,f,g,h])):bindArgs A ⟨us,[]⟩=pure (B.zip us):=by
 obtain⟨a,u1,rfl,h1⟩:=rL hl
 obtain⟨b,u2,rfl,h2⟩:=rL h1
 obtain⟨c,u3,rfl,h3⟩:=rL h2
 obtain⟨d,u4,rfl,h4⟩:=rL h3
 obtain⟨e,u5,rfl,h5⟩:=rL h4
 obtain⟨f,u6,rfl,h6⟩:=rL h5
 obtain⟨g,u7,rfl,h7⟩:=rL h6
 obtain⟨h,u8,rfl,h8⟩:=rL h7
 obtain rfl:=List.eq_nil_of_length_eq_zero h8
 exact k a b c d e f g h
theorem _root_.L2.bM.b1 {K:PySem.W.Frag}{x qual:Str}{st:Stmt}{f:Addr}{fd:FuncData}{ps:List Str}(F:bM K x qual st f fd)(h:∀ (kV doc pm:Value) (an:Option Addr) (cdv ct a:Value),bindArgs (PySem.W.fnOf x qual (dD st) (ak st) (af st) .none kV doc pm an cdv ct) ⟨[a],[]⟩=pure (ps.zip [a]):=by intros;rfl)(hl:ps.length=1:=by rfl):Binds K fd ps []:=F.binds fun kV doc pm an cdv ct us e=>a0u us (e.trans hl) (h kV doc pm an cdv ct)
theorem _root_.L2.bM.b2 {K:PySem.W.Frag}{x qual:Str}{st:Stmt}{f:Addr}{fd:FuncData}{ps:List Str}(F:bM K x qual st f fd)(h:∀ (kV doc pm:Value) (an:Option Addr) (cdv ct a b:Value),bindArgs (PySem.W.fnOf x qual (dD st) (ak st) (af st) .none kV doc pm an cdv ct) ⟨[a,b],[]⟩=pure (ps.zip [a,b]):=by intros;rfl)(hl:ps.length=2:=by rfl):Binds K fd ps []:=F.binds fun kV doc pm an cdv ct us e=>a0t us (e.trans hl) (h kV doc pm an cdv ct)
theorem _root_.L2.bM.b3 {K:PySem.W.Frag}{x qual:Str}{st:Stmt}{f:Addr}{fd:FuncData}{ps:List Str}(F:bM K x qual st f fd)(h:∀ (kV doc pm:Value) (an:Option Addr) (cdv ct a b c:Value),bindArgs (PySem.W.fnOf x qual (dD st) (ak st) (af st) .none kV doc pm an cdv ct) ⟨[a,b,c],[]⟩=pure (ps.zip [a,b,c]):=by intros;rfl)(hl:ps.length=3:=by rfl):Binds K fd ps []:=F.binds fun kV doc pm an cdv ct us e=>a0s us (e.trans hl) (h kV doc pm an cdv ct)
theorem _root_.L2.bM.b4 {K:PySem.W.Frag}{x qual:Str}{st:Stmt}{f:Addr}{fd:FuncData}{ps:List Str}(F:bM K x qual st f fd)(h:∀ (kV doc pm:Value) (an:Option Addr) (cdv ct a b c d:Value),bindArgs (PySem.W.fnOf x qual (dD st) (ak st) (af st) .none kV doc pm an cdv ct) ⟨[a,b,c,d],[]⟩=pure (ps.zip [a,b,c,d]):=by intros;rfl)(hl:ps.length=4:=by rfl):Binds K fd ps []:=F.binds fun kV doc pm an cdv ct us e=>a0r us (e.trans hl) (h kV doc pm an cdv ct)
theorem _root_.L2.bM.b5 {K:PySem.W.Frag}{x qual:Str}{st:Stmt}{f:Addr}{fd:FuncData}{ps:List Str}(F:bM K x qual st f fd)(h:∀ (kV doc pm:Value) (an:Option Addr) (cdv ct a b c d e:Value),bindArgs (PySem.W.fnOf x qual (dD st) (ak st) (af st) .none kV doc pm an cdv ct) ⟨[a,b,c,d,e],[]⟩=pure (ps.zip [a,b,c,d,e]):=by intros;rfl)(hl:ps.length=5:=by rfl):Binds K fd ps []:=F.binds fun kV doc pm an cdv ct us e=>a0q us (e.trans hl) (h kV doc pm an cdv ct)
theorem _root_.L2.bM.b6 {K:PySem.W.Frag}{x qual:Str}{st:Stmt}{f:Addr}{fd:FuncData}{ps:List Str}(F:bM K x qual st f fd)(h:∀ (kV doc pm:Value) (an:Option Addr) (cdv ct a b c d e f:Value),bindArgs (PySem.W.fnOf x qual (dD st) (ak st) (af st) .none kV doc pm an cdv ct) ⟨[a,b,c,d,e,f],[]⟩=pure (ps.zip [a,b,c,d,e,f]):=by intros;rfl)(hl:ps.length=6:=by rfl):Binds K fd ps []:=F.binds fun kV doc pm an cdv ct us e=>a0p us (e.trans hl) (h kV doc pm an cdv ct)
theorem _root_.L2.bM.b8 {K:PySem.W.Frag}{x qual:Str}{st:Stmt}{f:Addr}{fd:FuncData}{ps:List Str}(F:bM K x qual st f fd)(h:∀ (kV doc pm:Value) (an:Option Addr) (cdv ct a b c d e f g h:Value),bindArgs (PySem.W.fnOf x qual (dD st) (ak st) (af st) .none kV doc pm an cdv ct) ⟨[a,b,c,d,e,f,g,h],[]⟩=pure (ps.zip [a,b,c,d,e,f,g,h]):=by intros;rfl)(hl:ps.length=8:=by rfl):Binds K fd ps []:=F.binds fun kV doc pm an cdv ct us e=>a0o us (e.trans hl) (h kV doc pm an cdv ct)
theorem Ph {K:PySem.W.Frag}{x qual:Str}{st:Stmt}{f:Addr}{oc:Value}{od an:Option Addr}{osl:Array (Option Value)}{kV doc pm cdv ct:Value}{A:Arguments}{B:List Stmt}{S:Scope}(l:K.lookup f=some ⟨oc,od,.func (PySem.W.fnOf x qual A B S .none kV doc pm an cdv ct),osl⟩)(e:(A,B,S)=(dD st,ak st,af st))(c:PySem.W.codeIn K cdv qual=true)(k:PySem.W.keepIn K (.ref f)=true):bM K x qual st f (PySem.W.fnOf x qual (dD st) (ak st) (af st) .none kV doc pm an cdv ct):=by
 obtain⟨e1,e2⟩:=Prod.mk.inj e
 obtain⟨e2,e3⟩:=Prod.mk.inj e2
 rw[e1,e2,e3] at l
 exact U0 l c k
theorem YY {K:PySem.W.Frag}{x qual:Str}{st:Stmt}{f:Addr}{oc:Value}{od an:Option Addr}{osl:Array (Option Value)}{kV doc pm cdv ct:Value}{A:Arguments}{B:List Stmt}{S:Scope}(l:K.lookup f=some ⟨oc,od,.func (PySem.W.fnOf x qual A B S .none kV doc pm an cdv ct),osl⟩)(e:(A,B,S)=(dD st,ak st,af st))(c:PySem.W.codeIn K cdv qual=true)(k:PySem.W.keepIn K (.ref f)=true):L3.FnAt K f x qual st:=⟨_,Ph l e c k,k⟩
open PySem.W (findIn keepIn fnOf codeIn kitOne nsIn mg_of isFn plainGet hasDictIn plainOver makesIn mg_none_of mroIn)
theorem all_mk {l:PySem.W.OpenLaw}{w:World}{K:PySem.W.Frag}{h:Heap}{mg:Str->Option Value}{fa fq bq bT cS fu dc aH aV c9 bN bg dG dF lU br bH eF eG Sp f1 f2 f3 f4 f5 f6 f7 f8 f9 f10 f11 f12 f13 f14 f15 f16 f17 f18 f19 f20 f21 f22 f23 f24 f25 Z9 VL f28 f29 f30 f31 f32 f33 f34 f35 f36 f37 f38 f39 f40 f41 Rb f43 f44 f45 f46 f47 f48 f49 f50 f51 f52 f53 f54 f55 f56 f57 f58 f59 f60 f61 f62 f63 f64 f65 f66 f67 f68 f69 f70 f71 f72 f73 f74 f75 f76 f77 f78 f79 f80 f81 f82 f83 f84 f85 f86 f87 f88 f89 f90 f91 f92 f93 f94 f95 f96 f97 f98 f99:Addr}{tD1 tD2 tD3 tD4:Tok}(X:K.In h)(G:h.Ns mainGlobals mg)(hfa:mg "law"=some (.ref fa))
  {a04 Zl:Option Addr} {a0P:Array (Option Value)} {a06 Yq Za WN Vj Zb:Value} {A99:Arguments} {B99:List Stmt} {S99:Scope}
  (Ex:nsIn K mainGlobals "Sum"=some (some (.ref fq)))
  (DV:L3.pJ K fq)
  (iD:findIn K (.ref fq) "terms"=some none)
  (gn:findIn K (.ref fq) "number"=some none)
  (lP:nsIn K mainGlobals "Compare"=some (some (.ref bq)))
  (lG:L3.pJ K bq)
  (fk:findIn K (.ref bq) "one"=some none)
  (ez:findIn K (.ref bq) "sign"=some none)
  (dM:findIn K (.ref bq) "other"=some none)
  (oH:nsIn K mainGlobals "Turned"=some (some (.ref bT)))
  (nZ:L3.pJ K bT)
  (cD:findIn K (.ref bT) "condition"=some none)
  (sL:nsIn K mainGlobals "Every"=some (some (.ref cS)))
  (sf:L3.pJ K cS)
  (cE:findIn K (.ref cS) "conditions"=some none)
  (yl:nsIn K mainGlobals "Some"=some (some (.ref fu)))
  (xB:L3.pJ K fu)
  (cJ:findIn K (.ref fu) "conditions"=some none)
  (Az:nsIn K mainGlobals "Let"=some (some (.ref dc)))
  (DX:L3.pJ K dc)
  (oB:findIn K (.ref dc) "at"=some none)
  (jK:findIn K (.ref dc) "name"=some none)
  (iI:findIn K (.ref dc) "total"=some none)
  (lO:nsIn K mainGlobals "Divide"=some (some (.ref aH)))
  (n6:L3.pJ K aH)
  (iM:findIn K (.ref aH) "at"=some none)
  (fj:findIn K (.ref aH) "name"=some none)
  (fh:findIn K (.ref aH) "word"=some none)
  (ee:findIn K (.ref aH) "total"=some none)
  (iL:findIn K (.ref aH) "by"=some none)
  (p9:nsIn K mainGlobals "Fetch"=some (some (.ref aV)))
  (se:L3.pJ K aV)
  (jL:findIn K (.ref aV) "at"=some none)
  (gp:findIn K (.ref aV) "name"=some none)
  (iK:findIn K (.ref aV) "row"=some none)
  (ff:findIn K (.ref aV) "place"=some none)
  (Ey:nsIn K mainGlobals "Put"=some (some (.ref c9)))
  (DW:L3.pJ K c9)
  (oA:findIn K (.ref c9) "at"=some none)
  (lI:findIn K (.ref c9) "row"=some none)
  (iG:findIn K (.ref c9) "place"=some none)
  (iE:findIn K (.ref c9) "total"=some none)
  (uq:nsIn K mainGlobals "Make"=some (some (.ref bN)))
  (xC:L3.pJ K bN)
  (lJ:findIn K (.ref bN) "at"=some none)
  (jJ:findIn K (.ref bN) "row"=some none)
  (iH:findIn K (.ref bN) "size"=some none)
  (qb:nsIn K mainGlobals "Claim"=some (some (.ref bg)))
  (sj:L3.pJ K bg)
  (jM:findIn K (.ref bg) "at"=some none)
  (cL:findIn K (.ref bg) "condition"=some none)
  (lQ:nsIn K mainGlobals "Choose"=some (some (.ref dG)))
  (lM:nsIn K mainGlobals "Repeat"=some (some (.ref dF)))
  (ym:nsIn K mainGlobals "Call"=some (some (.ref lU)))
  (oJ:nsIn K mainGlobals "Helper"=some (some (.ref br)))
  (n5:L3.pJ K br)
  (iJ:findIn K (.ref br) "at"=some none)
  (fc:findIn K (.ref br) "name"=some none)
  (dJ:findIn K (.ref br) "params"=some none)
  (cY:findIn K (.ref br) "answers"=some none)
  (d8:findIn K (.ref br) "needs"=some none)
  (d9:findIn K (.ref br) "gives"=some none)
  (d7:findIn K (.ref br) "steps"=some none)
  (lN:nsIn K mainGlobals "Program"=some (some (.ref bH)))
  (lF:L3.pJ K bH)
  (cK:findIn K (.ref bH) "helpers"=some none)
  (ur:nsIn K mainGlobals "Debt"=some (some (.ref eF)))
  (xD:L3.pJ K eF)
  (iN:findIn K (.ref eF) "kind"=some none)
  (lK:findIn K (.ref eF) "at"=some none)
  (gq:findIn K (.ref eF) "ahead"=some none)
  (cZ:findIn K (.ref eF) "condition"=some none)
  (yo:nsIn K mainGlobals "Book"=some (some (.ref eG)))
  (xE:L3.pJ K eG)
  (eB:findIn K (.ref eG) "program"=some none)
  (gu:findIn K (.ref eG) "found"=some none)
  (Gs:nsIn K mainGlobals "Step"=some (some (.ref Sp)))
  (Rm:PySem.W.findCls K (.ref Sp) (.type "type") "__init__"=some (.val (.ref f18)))
  (nM:PySem.W.specialIn K (.builtin "object.__class__") "__get__"=some (some (.builtin "getset_descriptor.__get__")))
  (nL:PySem.W.takesIn K (.builtin "object.__class__")=some true)
  (Rk:PySem.W.specialIn K (.ref Sp) "__getattribute__"=some (some (.builtin "type.__getattribute__")))
  (Rj:PySem.W.readsIn K Sp (.type "type")=true)
  (a1:nsIn K mainGlobals "once"=some (some (.ref f1)))
  (l1:L3.FnAt K f1 "once" "once" L3.Bx)
  (GV:findIn K (.ref fq) "__init__"=some (some (.ref f2)))
  (i2:isFn K (.ref f2)=true)
  (l2:L3.FnAt K f2 "__init__" "Sum.__init__" L3.mQ)
  (a3:nsIn K mainGlobals "sum_of"=some (some (.ref f3)))
  (l3:L3.FnAt K f3 "sum_of" "sum_of" L3.rW)
  (GU:findIn K (.ref fq) "plus"=some (some (.ref f4)))
  (i4:isFn K (.ref f4)=true)
  (l4:L3.FnAt K f4 "plus" "Sum.plus" L3.mO)
  (GS:findIn K (.ref fq) "times"=some (some (.ref f5)))
  (i5:isFn K (.ref f5)=true)
  (l5:L3.FnAt K f5 "times" "Sum.times" L3.kE)
  (GR:findIn K (.ref fq) "less"=some (some (.ref f6)))
  (i6:isFn K (.ref f6)=true)
  (l6:L3.FnAt K f6 "less" "Sum.less" L3.mP)
  (GQ:findIn K (.ref fq) "things"=some (some (.ref f7)))
  (i7:isFn K (.ref f7)=true)
  (l7:L3.FnAt K f7 "things" "Sum.things" L3.jj)
  (GP:findIn K (.ref fq) "told"=some (some (.ref f8)))
  (i8:isFn K (.ref f8)=true)
  (l8:L3.FnAt K f8 "told" "Sum.told" L3.mL)
  (q8:findIn K (.ref bq) "__init__"=some (some (.ref f9)))
  (i9:isFn K (.ref f9)=true)
  (l9:L3.FnAt K f9 "__init__" "Compare.__init__" L3.gj)
  (rB:findIn K (.ref bT) "__init__"=some (some (.ref f10)))
  (i10:isFn K (.ref f10)=true)
  (ZV:L3.FnAt K f10 "__init__" "Turned.__init__" L3.gX)
  (CN:findIn K (.ref dc) "__init__"=some (some (.ref f11)))
  (i11:isFn K (.ref f11)=true)
  (ZU:L3.FnAt K f11 "__init__" "Let.__init__" L3.mW)
  (rA:findIn K (.ref aH) "__init__"=some (some (.ref f12)))
  (i12:isFn K (.ref f12)=true)
  (ZT:L3.FnAt K f12 "__init__" "Divide.__init__" L3.ir)
  (uI:findIn K (.ref aV) "__init__"=some (some (.ref f13)))
  (i13:isFn K (.ref f13)=true)
  (ZS:L3.FnAt K f13 "__init__" "Fetch.__init__" L3.jm)
  (CM:findIn K (.ref c9) "__init__"=some (some (.ref f14)))
  (i14:isFn K (.ref f14)=true)
  (ZR:L3.FnAt K f14 "__init__" "Put.__init__" L3.mT)
  (yJ:findIn K (.ref bN) "__init__"=some (some (.ref f15)))
  (i15:isFn K (.ref f15)=true)
  (ZQ:L3.FnAt K f15 "__init__" "Make.__init__" L3.kJ)
  (uH:findIn K (.ref bg) "__init__"=some (some (.ref f16)))
  (i16:isFn K (.ref f16)=true)
  (ZP:L3.FnAt K f16 "__init__" "Claim.__init__" L3.jt)
  (yI:findIn K (.ref eF) "__init__"=some (some (.ref f17)))
  (i17:isFn K (.ref f17)=true)
  (ZO:L3.FnAt K f17 "__init__" "Debt.__init__" L3.kK)
  (Yo:L3.FnAt K f18 "__init__" "Step.__init__" L3.kF)
  (uG:findIn K (.ref cS) "__init__"=some (some (.ref f19)))
  (yH:findIn K (.ref fu) "__init__"=some (some (.ref f19)))
  (Z3:isFn K (.ref f19)=true)
  (Vy:L3.FnAt K f19 "__init__" "Several.__init__" L3.gc)
  (iR:findIn K (.ref bq) "told"=some (some (.ref f20)))
  (YD:isFn K (.ref f20)=true)
  (NC:L3.FnAt K f20 "told" "Compare.told" L3.gi)
  (jW:findIn K (.ref bT) "told"=some (some (.ref f21)))
  (YC:isFn K (.ref f21)=true)
  (NB:L3.FnAt K f21 "told" "Turned.told" L3.gW)
  (lX:findIn K (.ref cS) "told"=some (some (.ref f22)))
  (YB:isFn K (.ref f22)=true)
  (Nz:L3.FnAt K f22 "told" "Every.told" L3.jn)
  (o5:findIn K (.ref fu) "told"=some (some (.ref f23)))
  (YA:isFn K (.ref f23)=true)
  (Ny:L3.FnAt K f23 "told" "Some.told" L3.kG)
  (iQ:findIn K (.ref bq) "all_sums"=some (some (.ref f24)))
  (Yz:isFn K (.ref f24)=true)
  (Nv:L3.FnAt K f24 "all_sums" "Compare.all_sums" L3.iw)
  (jV:findIn K (.ref bT) "all_sums"=some (some (.ref f25)))
  (Yy:isFn K (.ref f25)=true)
  (Nu:L3.FnAt K f25 "all_sums" "Turned.all_sums" L3.ji)
  (lW:findIn K (.ref cS) "all_sums"=some (some (.ref Z9)))
  (oZ:findIn K (.ref fu) "all_sums"=some (some (.ref Z9)))
  (QZ:isFn K (.ref Z9)=true)
  (Df:L3.FnAt K Z9 "all_sums" "Several.all_sums" L3.gZ)
  (oY:findIn K (.ref bq) "things"=some (some (.ref VL)))
  (rq:findIn K (.ref bT) "things"=some (some (.ref VL)))
  (uF:findIn K (.ref cS) "things"=some (some (.ref VL)))
  (yG:findIn K (.ref fu) "things"=some (some (.ref VL)))
  (VB:isFn K (.ref VL)=true)
  (H8:L3.FnAt K VL "things" "Condition.things" L3.iu)
  (a28:nsIn K mainGlobals "length_of"=some (some (.ref f28)))
  (Yn:L3.FnAt K f28 "length_of" "length_of" L3.kj)
  (a29:nsIn K mainGlobals "is_length"=some (some (.ref f29)))
  (Ym:L3.FnAt K f29 "is_length" "is_length" L3.kC)
  (wH:findIn K (.ref dc) "told"=some (some (.ref f30)))
  (Z2:isFn K (.ref f30)=true)
  (QM:L3.FnAt K f30 "told" "Let.told" L3.mV)
  (ng:findIn K (.ref aH) "told"=some (some (.ref f31)))
  (Z1:isFn K (.ref f31)=true)
  (QL:L3.FnAt K f31 "told" "Divide.told" L3.ig)
  (qf:findIn K (.ref aV) "told"=some (some (.ref f32)))
  (Z0:isFn K (.ref f32)=true)
  (QK:L3.FnAt K f32 "told" "Fetch.told" L3.jl)
  (wG:findIn K (.ref c9) "told"=some (some (.ref f33)))
  (ZZ:isFn K (.ref f33)=true)
  (QJ:L3.FnAt K f33 "told" "Put.told" L3.mS)
  (sX:findIn K (.ref bN) "told"=some (some (.ref f34)))
  (ZY:isFn K (.ref f34)=true)
  (QH:L3.FnAt K f34 "told" "Make.told" L3.kI)
  (qe:findIn K (.ref bg) "told"=some (some (.ref f35)))
  (ZX:isFn K (.ref f35)=true)
  (QF:L3.FnAt K f35 "told" "Claim.told" L3.jr)
  (CL:findIn K (.ref dc) "uses"=some (some (.ref f36)))
  (i36:isFn K (.ref f36)=true)
  (Yl:L3.FnAt K f36 "uses" "Let.uses" L3.mU)
  (rm:findIn K (.ref aH) "uses"=some (some (.ref f37)))
  (i37:isFn K (.ref f37)=true)
  (Yk:L3.FnAt K f37 "uses" "Divide.uses" L3.ie)
  (uD:findIn K (.ref aV) "uses"=some (some (.ref f38)))
  (i38:isFn K (.ref f38)=true)
  (Yj:L3.FnAt K f38 "uses" "Fetch.uses" L3.jk)
  (CK:findIn K (.ref c9) "uses"=some (some (.ref f39)))
  (i39:isFn K (.ref f39)=true)
  (Yi:L3.FnAt K f39 "uses" "Put.uses" L3.mR)
  (yF:findIn K (.ref bN) "uses"=some (some (.ref f40)))
  (i40:isFn K (.ref f40)=true)
  (Yh:L3.FnAt K f40 "uses" "Make.uses" L3.kH)
  (uC:findIn K (.ref bg) "uses"=some (some (.ref f41)))
  (i41:isFn K (.ref f41)=true)
  (Yg:L3.FnAt K f41 "uses" "Claim.uses" L3.jq)
  (CJ:findIn K (.ref dc) "blocks"=some (some (.ref Rb)))
  (rj:findIn K (.ref aH) "blocks"=some (some (.ref Rb)))
  (uA:findIn K (.ref aV) "blocks"=some (some (.ref Rb)))
  (CI:findIn K (.ref c9) "blocks"=some (some (.ref Rb)))
  (yE:findIn K (.ref bN) "blocks"=some (some (.ref Rb)))
  (uB:findIn K (.ref bg) "blocks"=some (some (.ref Rb)))
  (QY:isFn K (.ref Rb)=true)
  (Aw:L3.FnAt K Rb "blocks" "Step.blocks" L3.gY)
  (a43:nsIn K mainGlobals "as_pairs"=some (some (.ref f43)))
  (Ye:L3.FnAt K f43 "as_pairs" "as_pairs" L3.mK)
  (a44:nsIn K mainGlobals "told_pairs"=some (some (.ref f44)))
  (Yd:L3.FnAt K f44 "told_pairs" "told_pairs" L3.jh)
  (a45:nsIn K mainGlobals "told_each"=some (some (.ref f45)))
  (QD:L3.FnAt K f45 "told_each" "told_each" L3.ki)
  (a46:nsIn K mainGlobals "steps_within"=some (some (.ref f46)))
  (Tp:L3.FnAt K f46 "steps_within" "steps_within" L3.fX)
  (a47:nsIn K mainGlobals "rows_of_step"=some (some (.ref f47)))
  (Yc:L3.FnAt K f47 "rows_of_step" "rows_of_step" L3.fY)
  (a48:nsIn K mainGlobals "other_things"=some (some (.ref f48)))
  (Yb:L3.FnAt K f48 "other_things" "other_things" L3.fZ)
  (q9:findIn K (.ref br) "__init__"=some (some (.ref f49)))
  (i49:isFn K (.ref f49)=true)
  (ZN:L3.FnAt K f49 "__init__" "Helper.__init__" L3.ic)
  (oX:findIn K (.ref bH) "__init__"=some (some (.ref f50)))
  (i50:isFn K (.ref f50)=true)
  (ZM:L3.FnAt K f50 "__init__" "Program.__init__" L3.gh)
  (oW:findIn K (.ref bH) "named"=some (some (.ref f51)))
  (i51:isFn K (.ref f51)=true)
  (X8:L3.FnAt K f51 "named" "Program.named" L3.v9)
  (oV:findIn K (.ref bH) "told"=some (some (.ref f52)))
  (i52:isFn K (.ref f52)=true)
  (X7:L3.FnAt K f52 "told" "Program.told" L3.gf)
  (jU:findIn K (.ref br) "told"=some (some (.ref f53)))
  (Yx:isFn K (.ref f53)=true)
  (Nt:L3.FnAt K f53 "told" "Helper.told" L3.ia)
  (a54:nsIn K mainGlobals "at_most"=some (some (.ref f54)))
  (X6:L3.FnAt K f54 "at_most" "at_most" L3.pZ)
  (a55:nsIn K mainGlobals "from_nought"=some (some (.ref f55)))
  (X5:L3.FnAt K f55 "from_nought" "from_nought" L3.gT)
  (a56:nsIn K mainGlobals "let"=some (some (.ref f56)))
  (X4:L3.FnAt K f56 "let" "let" L3.HH)
  (a57:nsIn K mainGlobals "hold"=some (some (.ref f57)))
  (X3:L3.FnAt K f57 "hold" "hold" L3.BA)
  (a58:nsIn K mainGlobals "holds_of"=some (some (.ref f58)))
  (X0:L3.FnAt K f58 "holds_of" "holds_of" L3.mG)
  (a59:nsIn K mainGlobals "rows_of_any"=some (some (.ref f59)))
  (XZ:L3.FnAt K f59 "rows_of_any" "rows_of_any" L3.gO)
  (a60:nsIn K mainGlobals "path_at_first"=some (some (.ref f60)))
  (XY:L3.FnAt K f60 "path_at_first" "path_at_first" L3.fH)
  (yD:findIn K (.ref eG) "__init__"=some (some (.ref f61)))
  (i61:isFn K (.ref f61)=true)
  (ZL:L3.FnAt K f61 "__init__" "Book.__init__" L3.kL)
  (yC:findIn K (.ref eG) "owe"=some (some (.ref f62)))
  (i62:isFn K (.ref f62)=true)
  (XX:L3.FnAt K f62 "owe" "Book.owe" L3.HG)
  (yz:findIn K (.ref eG) "owe_each"=some (some (.ref f63)))
  (i63:isFn K (.ref f63)=true)
  (XW:L3.FnAt K f63 "owe_each" "Book.owe_each" L3.mD)
  (a64:nsIn K mainGlobals "is_within"=some (some (.ref f64)))
  (XU:L3.FnAt K f64 "is_within" "is_within" L3.kB)
  (a65:nsIn K mainGlobals "is_quotient"=some (some (.ref f65)))
  (XT:L3.FnAt K f65 "is_quotient" "is_quotient" L3.gS)
  (a66:nsIn K mainGlobals "go_divide"=some (some (.ref f66)))
  (XS:L3.FnAt K f66 "go_divide" "go_divide" L3.kD)
  (a67:nsIn K mainGlobals "go_plain"=some (some (.ref f67)))
  (XR:L3.FnAt K f67 "go_plain" "go_plain" L3.mJ)
  (a68:nsIn K mainGlobals "go_step"=some (some (.ref f68)))
  (XQ:L3.FnAt K f68 "go_step" "go_step" L3.pY)
  (a69:nsIn K mainGlobals "count_paths"=some (some (.ref f69)))
  (To:L3.FnAt K f69 "count_paths" "count_paths" L3.gU)
  (a70:nsIn K mainGlobals "go_steps"=some (some (.ref f70)))
  (XO:L3.FnAt K f70 "go_steps" "go_steps" L3.mH)
  (a71:nsIn K mainGlobals "debts"=some (some (.ref f71)))
  (XN:L3.FnAt K f71 "debts" "debts" L3.wk)
  (a72:nsIn K mainGlobals "_law_mixed"=some (some (.ref f72)))
  (XM:L3.FnAt K f72 "_law_mixed" "_law_mixed" L3.pW)
  (a73:nsIn K mainGlobals "_law_cell_at"=some (some (.ref f73)))
  (XJ:L3.FnAt K f73 "_law_cell_at" "_law_cell_at" L3.kr)
  (a74:nsIn K mainGlobals "_law_next"=some (some (.ref f74)))
  (XI:L3.FnAt K f74 "_law_next" "_law_next" L3.rY)
  (a75:nsIn K mainGlobals "_law_names"=some (some (.ref f75)))
  (XH:L3.FnAt K f75 "_law_names" "_law_names" L3.pV)
  (a76:nsIn K mainGlobals "_law_sum"=some (some (.ref f76)))
  (XG:L3.FnAt K f76 "_law_sum" "_law_sum" L3.wc)
  (Zp:nsIn K mainGlobals "_law_condition"=some (some (.ref f77)))
  (Nr:L3.FnAt K f77 "_law_condition" "_law_condition" L3.gR)
  (a78:nsIn K mainGlobals "_law_place"=some (some (.ref f78)))
  (XF:L3.FnAt K f78 "_law_place" "_law_place" L3.pS)
  (a79:nsIn K mainGlobals "_law_line"=some (some (.ref f79)))
  (XE:L3.FnAt K f79 "_law_line" "_law_line" L3.rZ)
  (a80:nsIn K mainGlobals "_law_steps"=some (some (.ref f80)))
  (XD:L3.FnAt K f80 "_law_steps" "_law_steps" L3.pP)
  (a81:nsIn K mainGlobals "_law_pairs"=some (some (.ref f81)))
  (XC:L3.FnAt K f81 "_law_pairs" "_law_pairs" L3.pU)
  (a82:nsIn K mainGlobals "_law_helper"=some (some (.ref f82)))
  (XA:L3.FnAt K f82 "_law_helper" "_law_helper" L3.mE)
  (a83:nsIn K mainGlobals "_law_plus"=some (some (.ref f83)))
  (Xz:L3.FnAt K f83 "_law_plus" "_law_plus" L3.rX)
  (a84:nsIn K mainGlobals "_law_one"=some (some (.ref f84)))
  (Xy:L3.FnAt K f84 "_law_one" "_law_one" L3.wg)
  (a85:nsIn K mainGlobals "_law_at_most"=some (some (.ref f85)))
  (Xx:L3.FnAt K f85 "_law_at_most" "_law_at_most" L3.ku)
  (a86:nsIn K mainGlobals "_law_written"=some (some (.ref f86)))
  (Xw:L3.FnAt K f86 "_law_written" "_law_written" L3.ko)
  (Zo:nsIn K mainGlobals "_law_things_of"=some (some (.ref f87)))
  (Nq:L3.FnAt K f87 "_law_things_of" "_law_things_of" L3.gP)
  (a88:nsIn K mainGlobals "_law_sum_things"=some (some (.ref f88)))
  (Xv:L3.FnAt K f88 "_law_sum_things" "_law_sum_things" L3.gb)
  (a89:nsIn K mainGlobals "_law_stand"=some (some (.ref f89)))
  (Xu:L3.FnAt K f89 "_law_stand" "_law_stand" L3.pQ)
  (a90:nsIn K mainGlobals "_law_owe"=some (some (.ref f90)))
  (Xs:L3.FnAt K f90 "_law_owe" "_law_owe" L3.we)
  (a91:nsIn K mainGlobals "_law_anys"=some (some (.ref f91)))
  (Xr:L3.FnAt K f91 "_law_anys" "_law_anys" L3.r8)
  (a92:nsIn K mainGlobals "_law_divided"=some (some (.ref f92)))
  (Xq:L3.FnAt K f92 "_law_divided" "_law_divided" L3.kq)
  (a93:nsIn K mainGlobals "_law_behind"=some (some (.ref f93)))
  (Xp:L3.FnAt K f93 "_law_behind" "_law_behind" L3.mF)
  (a94:nsIn K mainGlobals "_law_go"=some (some (.ref f94)))
  (Xo:L3.FnAt K f94 "_law_go" "_law_go" L3.By)
  (a95:nsIn K mainGlobals "_law_row_shown"=some (some (.ref f95)))
  (Xn:L3.FnAt K f95 "_law_row_shown" "_law_row_shown" L3.gQ)
  (a96:nsIn K mainGlobals "_law_shown"=some (some (.ref f96)))
  (Xm:L3.FnAt K f96 "_law_shown" "_law_shown" L3.pR)
  (a97:nsIn K mainGlobals "_law_asked"=some (some (.ref f97)))
  (Xl:L3.FnAt K f97 "_law_asked" "_law_asked" L3.pX)
  (a98:nsIn K mainGlobals "_law_due"=some (some (.ref f98)))
  (Xk:L3.FnAt K f98 "_law_due" "_law_due" L3.wj)
  (a99:nsIn K mainGlobals "law"=some (some (.ref f99)))
  (l99:K.lookup f99=some ⟨a06,a04,.func (fnOf "law" "law" A99 B99 S99 .none Yq Za WN Zl Vj Zb),a0P⟩)
  (Ri:(A99,B99,S99)=(dD L3.qq,ak L3.qq,af L3.qq))
  (c99:codeIn K Vj "law"=true)
  (k99:keepIn K (.ref f99)=true)
  (Kg:nsIn K mainGlobals "len"=some none)
  (AW:nsIn K mainGlobals "tuple"=some none)
  (Fe:nsIn K mainGlobals "list"=some none)
  (wJ:nsIn K mainGlobals "sorted"=some none)
  (Kf:nsIn K mainGlobals "set"=some none)
  (Kd:nsIn K mainGlobals "sum"=some none)
  (Kh:nsIn K mainGlobals "int"=some none)
  (Ke:nsIn K mainGlobals "str"=some none)
  (lY:nsIn K mainGlobals "isinstance"=some none)
  (AX:nsIn K mainGlobals "range"=some none)
  (Kl:nsIn K mainGlobals "any"=some none)
  (Km:nsIn K mainGlobals "all"=some none)
  (d1:nsIn K mainGlobals "MOST_PATHS"=some (some (.int 16 tD1)))
  (d2:nsIn K mainGlobals "MOST_DEBTS"=some (some (.int 100 tD2)))
  (d3:nsIn K mainGlobals "DIVIDED"=some (some (.str "^" tD3)))
  (d4:nsIn K mainGlobals "QUOTIENT"=some (some (.str "^^" tD4)))
  (UD:kitOne K (.ref dc) (.ref dc)=some true)
  (UC:kitOne K (.ref dc) (.ref aH)=some false)
  (UB:kitOne K (.ref dc) (.ref aV)=some false)
  (UA:kitOne K (.ref dc) (.ref c9)=some false)
  (Uz:kitOne K (.ref dc) (.ref bN)=some false)
  (Uy:kitOne K (.ref dc) (.ref bg)=some false)
  (Ux:kitOne K (.ref dc) (.ref dG)=some false)
  (Uw:kitOne K (.ref dc) (.ref dF)=some false)
  (Uv:kitOne K (.ref dc) (.ref lU)=some false)
  (Uu:kitOne K (.ref aH) (.ref dc)=some false)
  (Ut:kitOne K (.ref aH) (.ref aH)=some true)
  (Us:kitOne K (.ref aH) (.ref aV)=some false)
  (Ur:kitOne K (.ref aH) (.ref c9)=some false)
  (Uq:kitOne K (.ref aH) (.ref bN)=some false)
  (Up:kitOne K (.ref aH) (.ref bg)=some false)
  (Uo:kitOne K (.ref aH) (.ref dG)=some false)
  (Um:kitOne K (.ref aH) (.ref dF)=some false)
  (Ul:kitOne K (.ref aH) (.ref lU)=some false)
  (Uk:kitOne K (.ref aV) (.ref dc)=some false)
  (Uj:kitOne K (.ref aV) (.ref aH)=some false)
  (Ui:kitOne K (.ref aV) (.ref aV)=some true)
  (Uh:kitOne K (.ref aV) (.ref c9)=some false)
  (Ug:kitOne K (.ref aV) (.ref bN)=some false)
  (Ue:kitOne K (.ref aV) (.ref bg)=some false)
  (Ud:kitOne K (.ref aV) (.ref dG)=some false)
  (Uc:kitOne K (.ref aV) (.ref dF)=some false)
  (Ub:kitOne K (.ref aV) (.ref lU)=some false)
  (Ua:kitOne K (.ref c9) (.ref dc)=some false)
  (T9:kitOne K (.ref c9) (.ref aH)=some false)
  (T8:kitOne K (.ref c9) (.ref aV)=some false)
  (T7:kitOne K (.ref c9) (.ref c9)=some true)
  (T6:kitOne K (.ref c9) (.ref bN)=some false)
  (T5:kitOne K (.ref c9) (.ref bg)=some false)
  (T4:kitOne K (.ref c9) (.ref dG)=some false)
  (T3:kitOne K (.ref c9) (.ref dF)=some false)
  (TZ:kitOne K (.ref c9) (.ref lU)=some false)
  (TY:kitOne K (.ref bN) (.ref dc)=some false)
  (TX:kitOne K (.ref bN) (.ref aH)=some false)
  (TV:kitOne K (.ref bN) (.ref aV)=some false)
  (TU:kitOne K (.ref bN) (.ref c9)=some false)
  (TR:kitOne K (.ref bN) (.ref bN)=some true)
  (TQ:kitOne K (.ref bN) (.ref bg)=some false)
  (TN:kitOne K (.ref bN) (.ref dG)=some false)
  (TL:kitOne K (.ref bN) (.ref dF)=some false)
  (TJ:kitOne K (.ref bN) (.ref lU)=some false)
  (TH:kitOne K (.ref bg) (.ref dc)=some false)
  (TF:kitOne K (.ref bg) (.ref aH)=some false)
  (Tz:kitOne K (.ref bg) (.ref aV)=some false)
  (Tw:kitOne K (.ref bg) (.ref c9)=some false)
  (Tv:kitOne K (.ref bg) (.ref bN)=some false)
  (Tu:kitOne K (.ref bg) (.ref bg)=some true)
  (Tt:kitOne K (.ref bg) (.ref dG)=some false)
  (Tr:kitOne K (.ref bg) (.ref dF)=some false)
  (Tq:kitOne K (.ref bg) (.ref lU)=some false)
  (UJ:kitOne K (.type "tuple") (.type "str")=some false)
 :∃ fd:FuncData,(∀ (s:Shared) (v:Value),BindsTo s fd ⟨[v],[]⟩ [("_law_script",v)])/\∀ base:Heap,K.In base->base.Ns mainGlobals mg->aE l.prog w K mg base bO 60 fa fd ["_law_script"] (Hx K):=by
 have e:=hfa.symm.trans (mg_of X G a99)
 cases e
 let A:L3.Ad:=⟨fq,bq,bT,cS,fu,dc,aH,aV,c9,bN,bg,dG,dF,lU,br,bH,eF,eG⟩
 have kk:∀ j i,j < 6->i < 9->kitOne K (.ref (L3.bD A j)) (.ref (L3.bD A i))=some (decide (j=i)):=L3.a1m UD UC UB UA Uz Uy Ux Uw Uv Uu Ut Us Ur Uq Up Uo Um Ul Uk Uj Ui Uh Ug Ue Ud Uc Ub Ua T9 T8 T7 T6 T5 T4 T3 TZ TY TX TV TU TR TQ TN TL TJ TH TF Tz Tw Tv Tu Tt Tr Tq
 have J:L3.Fx K mg A:=⟨mg_none_of X G Kg,mg_none_of X G AW,mg_none_of X G Fe,mg_none_of X G wJ,mg_none_of X G Kf,mg_none_of X G Kd,mg_none_of X G Kh,mg_none_of X G Ke,mg_none_of X G lY,mg_none_of X G AX,mg_none_of X G Kl,mg_none_of X G Km,mg_of X G Ex,DV.ok nM nL,iD,gn,mg_of X G lP,lG.ok nM nL,fk,ez,dM,mg_of X G oH,nZ.ok nM nL,cD,mg_of X G sL,sf.ok nM nL,cE,mg_of X G yl,xB.ok nM nL,cJ,mg_of X G Az,DX.ok nM nL,oB,jK,iI,mg_of X G lO,n6.ok nM nL,iM,fj,fh,ee,iL,mg_of X G p9,se.ok nM nL,jL,gp,iK,ff,mg_of X G Ey,DW.ok nM nL,oA,lI,iG,iE,mg_of X G uq,xC.ok nM nL,lJ,jJ,iH,mg_of X G qb,sj.ok nM nL,jM,cL,mg_of X G lQ,mg_of X G lM,mg_of X G ym,mg_of X G oJ,n5.ok nM nL,iJ,fc,dJ,cY,d8,d9,d7,mg_of X G lN,lF.ok nM nL,cK,mg_of X G ur,xD.ok nM nL,iN,lK,gq,cZ,mg_of X G yo,xE.ok nM nL,eB,gu,⟨_,mg_of X G d1⟩,⟨_,mg_of X G d2⟩,⟨_,mg_of X G d3⟩,⟨_,mg_of X G d4⟩,kk,UJ⟩
 have F99:=Ph (st:=L3.qq) l99 Ri c99 k99
 refine⟨fnOf "law" "law" (dD L3.qq) (ak L3.qq) (af L3.qq) .none Yq Za WN Zl Vj Zb,fun s v=>.of_eq rfl,fun base _ _=>?_⟩
 have nu:L3.ni l.prog w K mg base 2 fq "Sum" ["self","terms","number"] ((L3.Fw A)):=⟨1,by decide,F9 (L3.Eh (P:=l.prog) (w:=w) (base:=base) (k:=0) l2.F J ) DV.mi GV i2 DV.kc (l2.F.b3 (ps:=["self","terms","number"])),J.jd,J.Ex⟩
 have j6:=L3.dA l3 (mg_of X G a3) (l3.F.b2 (ps:=["pairs","number"])) (L3.Jk (k:=2) l3.F J nu.u)
 have tK:=L3.dA l1 (mg_of X G a1) (l1.F.b1 (ps:=["thing"])) (L3.OO (k:=2) l1.F J nu.u)
 have E3:L3.Ms l.prog w K mg base 4 1 ((fun _=>A.fq)) "plus" ["self","other"] ((fun _=>L3.Fy A)):=fun j hj=>fJ (L3.Ef (k:=3) l4.F J j6.u) GU i4 l4.k (l4.F.b2 (ps:=["self","other"]))
 have uO:L3.Ms l.prog w K mg base 4 1 ((fun _=>A.fq)) "times" ["self","number"] ((fun _=>L3.Bc A)):=fun j hj=>fJ (L3.BS (k:=3) l5.F J j6.u) GS i5 l5.k (l5.F.b2 (ps:=["self","number"]))
 have E4:L3.Ms l.prog w K mg base 5 1 ((fun _=>A.fq)) "less" ["self","other"] ((fun _=>L3.FA A)):=fun j hj=>fJ (L3.Eg (k:=4) l6.F J E3.u uO.u) GR i6 l6.k (l6.F.b2 (ps:=["self","other"]))
 have cy:L3.Ms l.prog w K mg base 1 1 ((fun _=>A.fq)) "things" ["self"] ((fun _=>L3.KN A)):=fun j hj=>fJ (L3.zu (P:=l.prog) (w:=w) (base:=base) (k:=0) l7.F J ) GQ i7 l7.k (l7.F.b1 (ps:=["self"]))
 have bZ:L3.Ms l.prog w K mg base 1 1 ((fun _=>A.fq)) "told" ["self"] ((fun _=>L3.Ba A)):=fun j hj=>fJ (L3.Ed (P:=l.prog) (w:=w) (base:=base) (k:=0) l8.F J ) GP i8 l8.k (l8.F.b1 (ps:=["self"]))
 have bY:L3.Cm l.prog w K mg base 1 "Step" "__init__" ["self","at"] (L3.uV K):=⟨⟨Sp,f18,_,L3.BU (P:=l.prog) (w:=w) (base:=base) (k:=0) Yo.F J ,mg_of X G Gs,Rk,Rj,Rm,Yo.k,(Yo.F.b2 (ps:=["self","at"]))⟩⟩
 have kT:L3.ni l.prog w K mg base 2 bq "Compare" ["self","one","sign","other"] ((L3.tU A.bq ["one","sign","other"])):=⟨1,by decide,F9 (L3.vG (P:=l.prog) (w:=w) (base:=base) (k:=0) l9.F J ) lG.mi q8 i9 lG.kc (l9.F.b4 (ps:=["self","one","sign","other"])),J.gI,J.lP⟩
 have yT:L3.ni l.prog w K mg base 2 bT "Turned" ["self","condition"] ((L3.tU A.bT ["condition"])):=⟨1,by decide,F9 (L3.xQ (P:=l.prog) (w:=w) (base:=base) (k:=0) ZV.F J ) nZ.mi rB i10 nZ.kc (ZV.F.b2 (ps:=["self","condition"])),J.ye,J.oH⟩
 have PX:L3.ni l.prog w K mg base 3 dc "Let" ["self","at","name","total"] ((L3.tU A.dc ["at","name","total"])):=⟨2,by decide,F9 (L3.El (k:=1) ZU.F J bY.u) DX.mi CN i11 DX.kc (ZU.F.b4 (ps:=["self","at","name","total"])),J.Mj,J.Az⟩
 have G8:L3.ni l.prog w K mg base 3 aH "Divide" ["self","at","name","word","total","by"] ((L3.tU A.aH ["at","name","word","total","by"])):=⟨2,by decide,F9 (L3.xT (k:=1) ZT.F J bY.u) n6.mi rA i12 n6.kc (ZT.F.b6 (ps:=["self","at","name","word","total","by"])),J.yg,J.lO⟩
 have J7:L3.ni l.prog w K mg base 3 aV "Fetch" ["self","at","name","row","place"] ((L3.tU A.aV ["at","name","row","place"])):=⟨2,by decide,F9 (L3.zw (k:=1) ZS.F J bY.u) se.mi uI i13 se.kc (ZS.F.b5 (ps:=["self","at","name","row","place"])),J.Ci,J.p9⟩
 have PV:L3.ni l.prog w K mg base 3 c9 "Put" ["self","at","row","place","total"] ((L3.tU A.c9 ["at","row","place","total"])):=⟨2,by decide,F9 (L3.Ej (k:=1) ZR.F J bY.u) DW.mi CM i14 DW.kc (ZR.F.b5 (ps:=["self","at","row","place","total"])),J.Mi,J.Ey⟩
 have Nj:L3.ni l.prog w K mg base 3 bN "Make" ["self","at","row","size"] ((L3.tU A.bN ["at","row","size"])):=⟨2,by decide,F9 (L3.BW (k:=1) ZQ.F J bY.u) xC.mi yJ i15 xC.kc (ZQ.F.b4 (ps:=["self","at","row","size"])),J.Gk,J.uq⟩
 have AU:L3.ni l.prog w K mg base 3 bg "Claim" ["self","at","condition"] ((L3.tU A.bg ["at","condition"])):=⟨2,by decide,F9 (L3.zy (k:=1) ZP.F J bY.u) sj.mi uH i16 sj.kc (ZP.F.b3 (ps:=["self","at","condition"])),J.sG,J.qb⟩
 have Nk:L3.ni l.prog w K mg base 2 eF "Debt" ["self","kind","at","ahead","condition"] ((L3.tU A.eF ["kind","at","ahead","condition"])):=⟨1,by decide,F9 (L3.BX (P:=l.prog) (w:=w) (base:=base) (k:=0) ZO.F J ) xD.mi yI i17 xD.kc (ZO.F.b5 (ps:=["self","kind","at","ahead","condition"])),J.Gm,J.ur⟩
 have qj:L3.ni l.prog w K mg base 2 cS "Every" ["self","conditions"] ((L3.wQ A.cS)):=⟨1,by decide,F9 (L3.nA (P:=l.prog) (w:=w) (base:=base) (k:=0) J.cE Vy.F J ) sf.mi uG Z3 sf.kc (Vy.F.b2 (ps:=["self","conditions"])),J.kN,J.sL⟩
 have E5:L3.ni l.prog w K mg base 2 fu "Some" ["self","conditions"] ((L3.wQ A.fu)):=⟨1,by decide,F9 (L3.nA (P:=l.prog) (w:=w) (base:=base) (k:=0) J.cJ Vy.F J ) xB.mi yH Z3 xB.kc (Vy.F.b2 (ps:=["self","conditions"])),J.Gj,J.yl⟩
 have pB:L3.Ms l.prog w K mg base 1 4 ((L3.JT A)) "told" ["self"] ((L3.fQ A 0)):=fun j hj=>match j,hj with | 0,_=>fJ (L3.lR (L3.sD _)) iR YD NC.k (NC.F.b1 (ps:=["self"])) | 1,_=>fJ (L3.lR (L3.sD _)) jW YC NB.k (NB.F.b1 (ps:=["self"])) | 2,_=>fJ (L3.lR (L3.sD _)) lX YB Nz.k (Nz.F.b1 (ps:=["self"])) | 3,_=>fJ (L3.lR (L3.sD _)) o5 YA Ny.k (Ny.F.b1 (ps:=["self"]))
 have pA:L3.Ms l.prog w K mg base 2 4 ((L3.JT A)) "told" ["self"] ((L3.fQ A 1)):=fun j hj=>match j,hj with | 0,_=>fJ (L3.nB (k:=1) NC.F J bZ.u) iR YD NC.k (NC.F.b1 (ps:=["self"])) | 1,_=>fJ (L3.oi (k:=1) NB.F J pB.u) jW YC NB.k (NB.F.b1 (ps:=["self"])) | 2,_=>fJ (L3.qB (k:=1) Nz.F J pB.u) lX YB Nz.k (Nz.F.b1 (ps:=["self"])) | 3,_=>fJ (L3.su (k:=1) Ny.F J pB.u) o5 YA Ny.k (Ny.F.b1 (ps:=["self"]))
 have j4:L3.Ms l.prog w K mg base 3 4 ((L3.JT A)) "told" ["self"] ((L3.fQ A 2)):=fun j hj=>match j,hj with | 0,_=>fJ ((L3.nB (k:=1) NC.F J bZ.u).mono (by decide:2<=3)) iR YD NC.k (NC.F.b1 (ps:=["self"])) | 1,_=>fJ (L3.oi (k:=2) NB.F J pA.u) jW YC NB.k (NB.F.b1 (ps:=["self"])) | 2,_=>fJ (L3.qB (k:=2) Nz.F J pA.u) lX YB Nz.k (Nz.F.b1 (ps:=["self"])) | 3,_=>fJ (L3.su (k:=2) Ny.F J pA.u) o5 YA Ny.k (Ny.F.b1 (ps:=["self"]))
 have ly:L3.Ms l.prog w K mg base 1 4 ((L3.JT A)) "all_sums" ["self"] ((L3.nU A 0)):=fun j hj=>match j,hj with | 0,_=>fJ (L3.lR (L3.wz _)) iQ Yz Nv.k (Nv.F.b1 (ps:=["self"])) | 1,_=>fJ (L3.lR (L3.wz _)) jV Yy Nu.k (Nu.F.b1 (ps:=["self"])) | 2,_=>fJ (L3.lR (L3.wz _)) lW QZ Df.k (Df.F.b1 (ps:=["self"])) | 3,_=>fJ (L3.lR (L3.wz _)) oZ QZ Df.k (Df.F.b1 (ps:=["self"]))
 have lu:L3.Ms l.prog w K mg base 2 4 ((L3.JT A)) "all_sums" ["self"] ((L3.nU A 1)):=fun j hj=>match j,hj with | 0,_=>fJ ((L3.oq (P:=l.prog) (w:=w) (base:=base) (k:=0) Nv.F J ).mono (by decide:1<=2)) iQ Yz Nv.k (Nv.F.b1 (ps:=["self"])) | 1,_=>fJ (L3.qz (k:=1) Nu.F J ly.u) jV Yy Nu.k (Nu.F.b1 (ps:=["self"])) | 2,_=>fJ (L3.gk (k:=1) (.inl rfl) Df.F J ly.u) lW QZ Df.k (Df.F.b1 (ps:=["self"])) | 3,_=>fJ (L3.gk (k:=1) (.inr rfl) Df.F J ly.u) oZ QZ Df.k (Df.F.b1 (ps:=["self"]))
 have jw:L3.Ms l.prog w K mg base 3 4 ((L3.JT A)) "all_sums" ["self"] ((L3.nU A 2)):=fun j hj=>match j,hj with | 0,_=>fJ ((L3.oq (P:=l.prog) (w:=w) (base:=base) (k:=0) Nv.F J ).mono (by decide:1<=3)) iQ Yz Nv.k (Nv.F.b1 (ps:=["self"])) | 1,_=>fJ (L3.qz (k:=2) Nu.F J lu.u) jV Yy Nu.k (Nu.F.b1 (ps:=["self"])) | 2,_=>fJ (L3.gk (k:=2) (.inl rfl) Df.F J lu.u) lW QZ Df.k (Df.F.b1 (ps:=["self"])) | 3,_=>fJ (L3.gk (k:=2) (.inr rfl) Df.F J lu.u) oZ QZ Df.k (Df.F.b1 (ps:=["self"]))
 have C2:L3.Ms l.prog w K mg base 4 4 ((L3.JT A)) "things" ["self"] ((L3.KO A 2)):=fun j hj=>match j,hj with | 0,_=>fJ (L3.gm (k:=3) H8.F J jw.u cy.u) oY VB H8.k (H8.F.b1 (ps:=["self"])) | 1,_=>fJ (L3.gm (k:=3) H8.F J jw.u cy.u) rq VB H8.k (H8.F.b1 (ps:=["self"])) | 2,_=>fJ (L3.gm (k:=3) H8.F J jw.u cy.u) uF VB H8.k (H8.F.b1 (ps:=["self"])) | 3,_=>fJ (L3.gm (k:=3) H8.F J jw.u cy.u) yG VB H8.k (H8.F.b1 (ps:=["self"]))
 have fB:=L3.dA Yn (mg_of X G a28) (Yn.F.b1 (ps:=["row"])) (L3.BJ (P:=l.prog) (w:=w) (base:=base) (k:=0) Yn.F J )
 have z5:=L3.dA Ym (mg_of X G a29) (Ym.F.b1 (ps:=["thing"])) (L3.BQ (P:=l.prog) (w:=w) (base:=base) (k:=0) Ym.F J )
 have Dd:=L3.dA Ye (mg_of X G a43) (Ye.F.b1 (ps:=["pairs"])) (L3.Ec (P:=l.prog) (w:=w) (base:=base) (k:=0) Ye.F J )
 have pC:=L3.dA Yd (mg_of X G a44) (Yd.F.b1 (ps:=["pairs"])) (L3.zq (k:=3) (n:=2) Yd.F J j4.u)
 have E2:L3.Ms l.prog w K mg base 4 7 ((L3.Zg A)) "told" ["self"] ((L3.j9 A 2 false)):=fun j hj=>match j,hj with | 0,_=>fJ (L3.kO (L3.lA (by decide)) ((L3.u9 (k:=1) QM.F J bZ.u).mono (by decide:2<=4))) wH Z2 QM.k (QM.F.b1 (ps:=["self"])) | 1,_=>fJ (L3.kO (L3.lA (by decide)) ((L3.om (k:=1) QL.F J bZ.u).mono (by decide:2<=4))) ng Z1 QL.k (QL.F.b1 (ps:=["self"])) | 2,_=>fJ (L3.kO (L3.lA (by decide)) ((L3.qA (k:=1) QK.F J bZ.u).mono (by decide:2<=4))) qf Z0 QK.k (QK.F.b1 (ps:=["self"])) | 3,_=>fJ (L3.kO (L3.lA (by decide)) ((L3.uZ (k:=1) QJ.F J bZ.u).mono (by decide:2<=4))) wG ZZ QJ.k (QJ.F.b1 (ps:=["self"])) | 4,_=>fJ (L3.kO (L3.lA (by decide)) ((L3.sy (k:=1) QH.F J bZ.u).mono (by decide:2<=4))) sX ZY QH.k (QH.F.b1 (ps:=["self"])) | 5,_=>fJ (L3.kO (L3.lA (by decide)) ((L3.qC (k:=3) QF.F J j4.u).mono (by decide:4<=4))) qe ZX QF.k (QF.F.b1 (ps:=["self"])) | 6,_=>fJ (L3.lR L3.SY) jU Yx Nt.k (Nt.F.b1 (ps:=["self"]))
 have pF:=L3.dA QD (mg_of X G a45) (QD.F.b1 (ps:=["parts"])) (L3.sr (k:=4) (n:=2) (q:=false) QD.F J E2.u)
 have E1:L3.Ms l.prog w K mg base 6 7 ((L3.Zg A)) "told" ["self"] ((L3.j9 A 2 true)):=fun j hj=>match j,hj with | 0,_=>fJ (L3.kO (L3.pM (by decide)) ((L3.u9 (k:=1) QM.F J bZ.u).mono (by decide:2<=6))) wH Z2 QM.k (QM.F.b1 (ps:=["self"])) | 1,_=>fJ (L3.kO (L3.pM (by decide)) ((L3.om (k:=1) QL.F J bZ.u).mono (by decide:2<=6))) ng Z1 QL.k (QL.F.b1 (ps:=["self"])) | 2,_=>fJ (L3.kO (L3.pM (by decide)) ((L3.qA (k:=1) QK.F J bZ.u).mono (by decide:2<=6))) qf Z0 QK.k (QK.F.b1 (ps:=["self"])) | 3,_=>fJ (L3.kO (L3.pM (by decide)) ((L3.uZ (k:=1) QJ.F J bZ.u).mono (by decide:2<=6))) wG ZZ QJ.k (QJ.F.b1 (ps:=["self"])) | 4,_=>fJ (L3.kO (L3.pM (by decide)) ((L3.sy (k:=1) QH.F J bZ.u).mono (by decide:2<=6))) sX ZY QH.k (QH.F.b1 (ps:=["self"])) | 5,_=>fJ (L3.kO (L3.pM (by decide)) ((L3.qC (k:=3) QF.F J j4.u).mono (by decide:4<=6))) qe ZX QF.k (QF.F.b1 (ps:=["self"])) | 6,_=>fJ (L3.kO L3.a0y ((L3.oj (k:=5) Nt.F J pF.u pC.u).mono (by decide:6<=6))) jU Yx Nt.k (Nt.F.b1 (ps:=["self"]))
 have yU:=L3.dA QD (mg_of X G a45) (QD.F.b1 (ps:=["parts"])) (L3.sr (k:=6) (n:=2) (q:=true) QD.F J E1.u)
 have G6:L3.Ms l.prog w K mg base 6 1 ((fun _=>A.br)) "told" ["self"] ((fun _=>L3.rR A 2)):=fun j hj=>fJ (L3.oj (k:=5) Nt.F J pF.u pC.u) jU Yx Nt.k (Nt.F.b1 (ps:=["self"]))
 have G5:L3.Ms l.prog w K mg base 8 1 ((fun _=>A.bH)) "told" ["self"] ((fun _=>L3.wR A 2)):=fun j hj=>fJ (L3.vE (k:=7) X7.F J yU.u) oV i52 X7.k (X7.F.b1 (ps:=["self"]))
 have Ni:L3.Ms l.prog w K mg base 5 6 ((L3.bD A)) "uses" ["self"] ((L3.nT A 2)):=fun j hj=>match j,hj with | 0,_=>fJ ((L3.Ek (k:=1) Yl.F J cy.u).mono (by decide:2<=5)) CL i36 Yl.k (Yl.F.b1 (ps:=["self"])) | 1,_=>fJ ((L3.xS (k:=1) Yk.F J cy.u).mono (by decide:2<=5)) rm i37 Yk.k (Yk.F.b1 (ps:=["self"])) | 2,_=>fJ ((L3.zv (k:=1) Yj.F J fB.u cy.u).mono (by decide:2<=5)) uD i38 Yj.k (Yj.F.b1 (ps:=["self"])) | 3,_=>fJ ((L3.Ei (k:=1) Yi.F J fB.u cy.u).mono (by decide:2<=5)) CK i39 Yi.k (Yi.F.b1 (ps:=["self"])) | 4,_=>fJ ((L3.BV (k:=1) Yh.F J fB.u cy.u).mono (by decide:2<=5)) yF i40 Yh.k (Yh.F.b1 (ps:=["self"])) | 5,_=>fJ (L3.zx (k:=4) Yg.F J C2.u) uC i41 Yg.k (Yg.F.b1 (ps:=["self"]))
 have yS:L3.Ms l.prog w K mg base 1 6 ((L3.bD A)) "blocks" ["self"] ((L3.K9 A)):=fun j hj=>match j,hj with | 0,_=>fJ (L3.cX (P:=l.prog) (w:=w) (base:=base) (k:=0) Aw.F J ) CJ QY Aw.k (Aw.F.b1 (ps:=["self"])) | 1,_=>fJ (L3.cX (P:=l.prog) (w:=w) (base:=base) (k:=0) Aw.F J ) rj QY Aw.k (Aw.F.b1 (ps:=["self"])) | 2,_=>fJ (L3.cX (P:=l.prog) (w:=w) (base:=base) (k:=0) Aw.F J ) uA QY Aw.k (Aw.F.b1 (ps:=["self"])) | 3,_=>fJ (L3.cX (P:=l.prog) (w:=w) (base:=base) (k:=0) Aw.F J ) CI QY Aw.k (Aw.F.b1 (ps:=["self"])) | 4,_=>fJ (L3.cX (P:=l.prog) (w:=w) (base:=base) (k:=0) Aw.F J ) yE QY Aw.k (Aw.F.b1 (ps:=["self"])) | 5,_=>fJ (L3.cX (P:=l.prog) (w:=w) (base:=base) (k:=0) Aw.F J ) uB QY Aw.k (Aw.F.b1 (ps:=["self"]))
 have tG:Dn l.prog w K mg base 1 "steps_within" ["steps"] (L3.aQ K (L3.I0:L3.cu)):=L3.dA Tp (mg_of X G a46) (Tp.F.b1 (ps:=["steps"])) (L3.lR L3.LW)
 have uP:=L3.dA Tp (mg_of X G a46) (Tp.F.b1 (ps:=["steps"])) (L3.vA (k:=1) Tp.F J yS.u tG.u)
 have uQ:=L3.dA Yc (mg_of X G a47) (Yc.F.b1 (ps:=["step"])) (L3.vB (k:=5) (n:=2) Yc.F J Ni.u)
 have uR:=L3.dA Yb (mg_of X G a48) (Yb.F.b1 (ps:=["helper"])) (L3.vC (k:=6) (n:=2) Yb.F J uP.u uQ.u)
 have G7:L3.ni l.prog w K mg base 3 br "Helper" ["self","at","name","params","answers","needs","gives","steps"] ((L3.K6 A)):=⟨2,by decide,F9 (L3.xR (k:=1) ZN.F J Dd.u) n5.mi q9 i49 n5.kc (ZN.F.b8 (ps:=["self","at","name","params","answers","needs","gives","steps"])),J.yf,J.oJ⟩
 have E6:L3.ni l.prog w K mg base 2 bH "Program" ["self","helpers"] ((L3.KQ A)):=⟨1,by decide,F9 (L3.vF (P:=l.prog) (w:=w) (base:=base) (k:=0) ZM.F J ) lF.mi oX i50 lF.kc (ZM.F.b2 (ps:=["self","helpers"])),J.uh,J.lN⟩
 have J6:L3.Ms l.prog w K mg base 1 1 ((fun _=>A.bH)) "named" ["self","name"] ((fun _=>L3.Bd A)):=fun j hj=>fJ (L3.LK (P:=l.prog) (w:=w) (base:=base) (k:=0) X8.F J ) oW i51 X8.k (X8.F.b2 (ps:=["self","name"]))
 have Nl:L3.ni l.prog w K mg base 2 eG "Book" ["self","program"] ((L3.La A)):=⟨1,by decide,F9 (L3.BY (P:=l.prog) (w:=w) (base:=base) (k:=0) ZL.F J ) xE.mi yD i61 xE.kc (ZL.F.b2 (ps:=["self","program"])),J.Gn,J.yo⟩
 have pH:=L3.dA X6 (mg_of X G a54) (X6.F.b2 (ps:=["one","other"])) (L3.F7 (k:=2) X6.F J kT.u)
 have ja:=L3.dA X5 (mg_of X G a55) (X5.F.b1 (ps:=["total"])) (L3.xO (k:=3) X5.F J pH.u nu.u)
 have C5:=L3.dA X4 (mg_of X G a56) (X4.F.b2 (ps:=["thing","total"])) (L3.SR (P:=l.prog) (w:=w) (base:=base) (k:=0) X4.F J )
 have tN:=L3.dA X3 (mg_of X G a57) (X3.F.b1 (ps:=["condition"])) (L3.OQ (P:=l.prog) (w:=w) (base:=base) (k:=0) X3.F J )
 have C8:=L3.dA X0 (mg_of X G a58) (X0.F.b1 (ps:=["writings"])) (L3.D9 (k:=1) X0.F J tN.u)
 have iY:=L3.dA XZ (mg_of X G a59) (XZ.F.b1 (ps:=["thing"])) (L3.xK (k:=4) XZ.F J z5.u tN.u ja.u tK.u)
 have tH:=L3.dA XY (mg_of X G a60) (XY.F.b1 (ps:=["helper"])) (L3.ue (k:=7) (n:=2) XY.F J C8.u uR.u C5.u nu.u iY.u)
 have C4:L3.Ms l.prog w K mg base 3 1 ((fun _=>A.eG)) "owe" ["self","path","kind","at","condition"] ((L3.KR A)):=fun j hj=>fJ (L3.SQ (k:=2) XX.F J tN.u Nk.u) yC i62 XX.k (XX.F.b5 (ps:=["self","path","kind","at","condition"]))
 have C3:L3.Ms l.prog w K mg base 4 1 ((fun _=>A.eG)) "owe_each" ["self","path","kind","writings"] ((L3.Fz A)):=fun j hj=>fJ (L3.D6 (k:=3) XW.F J C4.u) yz i63 XW.k (XW.F.b4 (ps:=["self","path","kind","writings"]))
 have z4:=L3.dA XU (mg_of X G a64) (XU.F.b1 (ps:=["step"])) (L3.BP (k:=5) XU.F J qj.u pH.u ja.u tK.u fB.u E4.u nu.u)
 have vZ:=L3.dA XT (mg_of X G a65) (XT.F.b1 (ps:=["by"])) (L3.xN (k:=4) XT.F J qj.u pH.u E3.u nu.u tK.u uO.u)
 have z6:=L3.dA XS (mg_of X G a66) (XS.F.b3 (ps:=["book","path","step"])) (L3.BR (k:=5) (n:=2) XS.F J C5.u tK.u E4.u uO.u iY.u tN.u vZ.u C4.u kT.u nu.u)
 have Dc:=L3.dA XR (mg_of X G a67) (XR.F.b3 (ps:=["book","path","step"])) (L3.Eb (k:=6) (n:=2) XR.F J iY.u C4.u z4.u C5.u fB.u ja.u)
 have E8:=L3.dA XQ (mg_of X G a68) (XQ.F.b3 (ps:=["book","path","step"])) (L3.F6 (k:=7) (n:=2) XQ.F J Dc.u z6.u)
 have C9:=L3.dA XO (mg_of X G a70) (XO.F.b3 (ps:=["book","path","steps"])) (L3.Ea (k:=8) (n:=2) XO.F J E8.u)
 have uS:Dn l.prog w K mg base 1 "count_paths" ["steps"] (L3.aQ K (L3.I0:L3.cu)):=L3.dA To (mg_of X G a69) (To.F.b1 (ps:=["steps"])) (L3.lR L3.LW)
 have v5:=L3.dA To (mg_of X G a69) (To.F.b1 (ps:=["steps"])) (L3.xP (k:=1) To.F J yS.u uS.u)
 have AV:=L3.dA XN (mg_of X G a71) (XN.F.b2 (ps:=["program","name"])) (L3.LQ (k:=9) (n:=2) XN.F J C9.u tH.u C3.u Nl.u v5.u J6.u)
 have qK:=L3.dA XM (mg_of X G a72) (XM.F.b2 (ps:=["_law_cell","_law_k"])) (L3.F4 (P:=l.prog) (w:=w) (base:=base) (k:=0) XM.F J )
 have vY:=L3.dA XJ (mg_of X G a73) (XJ.F.b2 (ps:=["_law_script","_law_k"])) (L3.BN (k:=1) XJ.F J qK.u)
 have cR:=L3.dA XI (mg_of X G a74) (XI.F.b2 (ps:=["_law_draw","_law_size"])) (L3.Jm (k:=1) XI.F J qK.u)
 have zZ:=L3.dA XH (mg_of X G a75) (XH.F.b2 (ps:=["_law_draw","_law_many"])) (L3.F3 (k:=2) XH.F J cR.u)
 have kW:=L3.dA XG (mg_of X G a76) (XG.F.b2 (ps:=["_law_draw","_law_things"])) (L3.LL (k:=3) XG.F J j6.u cR.u)
 have rH:Dn l.prog w K mg base 1 "_law_condition" ["_law_draw","_law_things","_law_deep"] (L3.aQ K ((L3.wU A 0):L3.cu)):=L3.dA Nr (mg_of X G Zp) (Nr.F.b3 (ps:=["_law_draw","_law_things","_law_deep"])) (L3.lR L3.LW)
 have rJ:=L3.dA Nr (mg_of X G Zp) (Nr.F.b3 (ps:=["_law_draw","_law_things","_law_deep"])) (L3.oh (k:=4) (n:=0) Nr.F J E5.u rH.u qj.u yT.u cR.u kT.u kW.u)
 have rG:Dn l.prog w K mg base 5 "_law_condition" ["_law_draw","_law_things","_law_deep"] (L3.aQ K (L3.wU A 1)):=rJ
 have gC:=L3.dA Nr (mg_of X G Zp) (Nr.F.b3 (ps:=["_law_draw","_law_things","_law_deep"])) (L3.oh (k:=5) (n:=1) Nr.F J E5.u rG.u qj.u yT.u cR.u kT.u kW.u)
 have zX:=L3.dA XF (mg_of X G a78) (XF.F.b2 (ps:=["_law_draw","_law_things"])) (L3.F1 (k:=4) XF.F J j6.u cR.u kW.u)
 have C6:=L3.dA XE (mg_of X G a79) (XE.F.b2 (ps:=["_law_draw","_law_own"])) (L3.Jo (k:=6) XE.F J PX.u kW.u AU.u gC.u Nj.u zX.u cR.u PV.u J7.u G8.u j6.u)
 have zV:=L3.dA XD (mg_of X G a80) (XD.F.b5 (ps:=["_law_draw","_law_own","_law_many","_law_deep","_law_helpers"])) (L3.FY (k:=7) XD.F J C6.u)
 have zY:=L3.dA XC (mg_of X G a81) (XC.F.b3 (ps:=["_law_draw","_law_things","_law_many"])) (L3.F2 (k:=6) XC.F J gC.u)
 have yV:=L3.dA XA (mg_of X G a82) (XA.F.b6 (ps:=["_law_draw","_law_name","_law_many","_law_deep","_law_helpers","_law_names_here"])) (L3.D7 (k:=8) XA.F J G7.u cR.u AU.u gC.u zV.u zY.u)
 have tM:=L3.dA Xz (mg_of X G a83) (Xz.F.b3 (ps:=["_law_one_here","_law_other","_law_times"])) (L3.Jl (P:=l.prog) (w:=w) (base:=base) (k:=0) Xz.F J )
 have pG:=L3.dA Xy (mg_of X G a84) (Xy.F.b1 (ps:=["_law_thing"])) (L3.LO (P:=l.prog) (w:=w) (base:=base) (k:=0) Xy.F J )
 have iZ:=L3.dA Xx (mg_of X G a85) (Xx.F.b2 (ps:=["_law_one_here","_law_other"])) (L3.BO (P:=l.prog) (w:=w) (base:=base) (k:=0) Xx.F J )
 have vW:=L3.dA Xw (mg_of X G a86) (Xw.F.b1 (ps:=["_law_steps_here"])) (L3.BK (P:=l.prog) (w:=w) (base:=base) (k:=0) Xw.F J )
 have rE:Dn l.prog w K mg base 1 "_law_things_of" ["_law_told"] (L3.aQ K ((L3.Dw 0):L3.cu)):=L3.dA Nq (mg_of X G Zo) (Nq.F.b1 (ps:=["_law_told"])) (L3.lR L3.S6)
 have rD:=L3.dA Nq (mg_of X G Zo) (Nq.F.b1 (ps:=["_law_told"])) (L3.n9 (k:=1) (n:=0) Nq.F J rE.u)
 have kU:=L3.dA Nq (mg_of X G Zo) (Nq.F.b1 (ps:=["_law_told"])) (L3.n9 (k:=2) (n:=1) Nq.F J rD.u)
 have rF:=L3.dA Xv (mg_of X G a88) (Xv.F.b1 (ps:=["_law_sums"])) (L3.vD (P:=l.prog) (w:=w) (base:=base) (k:=0) Xv.F J )
 have zW:=L3.dA Xu (mg_of X G a89) (Xu.F.b1 (ps:=["_law_steps_here"])) (L3.FZ (k:=3) Xu.F J kU.u rF.u vW.u)
 have vn:=L3.dA Xs (mg_of X G a90) (Xs.F.b5 (ps:=["_law_found","_law_path","_law_kind","_law_at","_law_told"])) (L3.LM (P:=l.prog) (w:=w) (base:=base) (k:=0) Xs.F J )
 have C7:=L3.dA Xr (mg_of X G a91) (Xr.F.b1 (ps:=["_law_things"])) (L3.Jp (k:=1) Xr.F J iZ.u pG.u)
 have vX:=L3.dA Xq (mg_of X G a92) (Xq.F.b1 (ps:=["_law_step"])) (L3.BL (k:=1) Xq.F J tM.u pG.u iZ.u)
 have yW:=L3.dA Xp (mg_of X G a93) (Xp.F.b4 (ps:=["_law_found","_law_helpers","_law_step","_law_path"])) (L3.D8 (k:=2) Xp.F J vn.u iZ.u tM.u pG.u vX.u)
 have G9:=L3.dA Xo (mg_of X G a94) (Xo.F.b4 (ps:=["_law_found","_law_helpers","_law_steps_here","_law_path"])) (L3.OP (k:=3) Xo.F J yW.u)
 have E7:=L3.dA Xk (mg_of X G a98) (Xk.F.b2 (ps:=["_law_helpers","_law_helper_here"])) (L3.LP (k:=4) Xk.F J G9.u vn.u C7.u kU.u zW.u)
 have tL:=L3.dA Xn (mg_of X G a95) (Xn.F.b1 (ps:=["_law_row"])) (L3.xM (k:=3) Xn.F J j4.u)
 have qJ:=L3.dA Xm (mg_of X G a96) (Xm.F.b1 (ps:=["_law_found"])) (L3.F0 (k:=4) Xm.F J j4.u tL.u)
 have z0:=L3.dA Xl (mg_of X G a97) (Xl.F.b2 (ps:=["_law_program","_law_name"])) (L3.F5 (k:=10) Xl.F J qJ.u AV.u)
 exact L3.kO L3.Tn ((L3.SS (k:=11) F99 J z0.u qJ.u AV.u E7.u G6.u G5.u E6.u yV.u zZ.u cR.u vY.u).mono (by decide:12<=60))
theorem walk {l:PySem.W.OpenLaw}{q:Program}{loose:List Str}{XP:(Str->Option Value)->Heap->Prop}{YP:World->Heap->Prop}{d:DefRec}{K:Params->PySem.W.Frag}(hn:l.most=some 63)(hdf:d.params.defaults=[])
  (hY:∀ (w:World) (h:Heap),YP w h->(K w.params).In h)
  (F:∀ (w:World) (mg:Str->Option Value) (fa:Addr) (h:Heap),(K w.params).In h->h.Ns mainGlobals mg->mg d.name=some (.ref fa) ->
   ∃ fd:FuncData,(∀ (s:Shared) (u:Value),BindsTo s fd ⟨[u],[]⟩ [("_law_script",u)])/\∀ base:Heap,(K w.params).In base->base.Ns mainGlobals mg->aE l.prog w (K w.params) mg base bO 60 fa fd ["_law_script"] (Hx (K w.params))) :
  PySem.W.WalkO q loose XP YP l.row.toRowW d [] (fun f vs=>PySem.call f vs) :=
 L2.NN (n:=63) (k:=60) (x:="_law_script") (CX:=fun _=>bO) (sp:=fun w=>Hx (K w.params)) hn (by decide) hdf ⟨rfl,by decide,by decide⟩ hY F (fun _ _ a ns hl _ hS=>⟨a,ns,rfl,hS,hl,fun _=>rfl⟩) fun _ _ _ _ _ z=>z
end Hw
open PySem PySem.W PyProof.Rows
set_option maxRecDepth 100000 in
set_option maxHeartbeats 0 in
theorem PySem.Challenge.cw_holdwright_k29_debts_in_a_row_holds : PySem.Challenge.rw_holdwright_k29_debts_in_a_row.Holds := by
 refine Hd ?_
 k_fill
 refine Hw.walk (l:=PySem.Challenge.rw_holdwright_k29_debts_in_a_row) rfl rfl (fun w h Y=>Y) ?F
 case F =>
  intro w mg fa h KX G hmg
  refine' Hw.all_mk KX G hmg ?Ex ?DV ?iD ?gn ?lP ?lG ?fk ?ez ?dM ?oH ?nZ ?cD ?sL ?sf ?cE ?yl ?xB ?cJ ?Az ?DX ?oB ?jK ?iI ?lO ?n6 ?iM ?fj ?fh ?ee ?iL ?p9 ?se ?jL ?gp ?iK ?ff ?Ey ?DW ?oA ?lI ?iG ?iE ?uq ?xC ?lJ ?jJ ?iH ?qb ?sj ?jM ?cL ?lQ ?lM ?ym ?oJ ?n5 ?iJ ?fc ?dJ ?cY ?d8 ?d9 ?d7 ?lN ?lF ?cK ?ur ?xD ?iN ?lK ?gq ?cZ ?yo ?xE ?eB ?gu ?Gs ?Rm ?nM ?nL ?Rk ?Rj ?a1 ?l1 ?GV ?i2 ?l2 ?a3 ?l3 ?GU ?i4 ?l4 ?GS ?i5 ?l5 ?GR ?i6 ?l6 ?GQ ?i7 ?l7 ?GP ?i8 ?l8 ?q8 ?i9 ?l9 ?rB ?i10 ?ZV ?CN ?i11 ?ZU ?rA ?i12 ?ZT ?uI ?i13 ?ZS ?CM ?i14 ?ZR ?yJ ?i15 ?ZQ ?uH ?i16 ?ZP ?yI ?i17 ?ZO ?Yo ?uG ?yH ?Z3 ?Vy ?iR ?YD ?NC ?jW ?YC ?NB ?lX ?YB ?Nz ?o5 ?YA ?Ny ?iQ ?Yz ?Nv ?jV ?Yy ?Nu ?lW ?oZ ?QZ ?Df ?oY ?rq ?uF ?yG ?VB ?H8 ?a28 ?Yn ?a29 ?Ym ?wH ?Z2 ?QM ?ng ?Z1 ?QL ?qf ?Z0 ?QK ?wG ?ZZ ?QJ ?sX ?ZY ?QH ?qe ?ZX ?QF ?CL ?i36 ?Yl ?rm ?i37 ?Yk ?uD ?i38 ?Yj ?CK ?i39 ?Yi ?yF ?i40 ?Yh ?uC ?i41 ?Yg ?CJ ?rj ?uA ?CI ?yE ?uB ?QY ?Aw ?a43 ?Ye ?a44 ?Yd ?a45 ?QD ?a46 ?Tp ?a47 ?Yc ?a48 ?Yb ?q9 ?i49 ?ZN ?oX ?i50 ?ZM ?oW ?i51 ?X8 ?oV ?i52 ?X7 ?jU ?Yx ?Nt ?a54 ?X6 ?a55 ?X5 ?a56 ?X4 ?a57 ?X3 ?a58 ?X0 ?a59 ?XZ ?a60 ?XY ?yD ?i61 ?ZL ?yC ?i62 ?XX ?yz ?i63 ?XW ?a64 ?XU ?a65 ?XT ?a66 ?XS ?a67 ?XR ?a68 ?XQ ?a69 ?To ?a70 ?XO ?a71 ?XN ?a72 ?XM ?a73 ?XJ ?a74 ?XI ?a75 ?XH ?a76 ?XG ?Zp ?Nr ?a78 ?XF ?a79 ?XE ?a80 ?XD ?a81 ?XC ?a82 ?XA ?a83 ?Xz ?a84 ?Xy ?a85 ?Xx ?a86 ?Xw ?Zo ?Nq ?a88 ?Xv ?a89 ?Xu ?a90 ?Xs ?a91 ?Xr ?a92 ?Xq ?a93 ?Xp ?a94 ?Xo ?a95 ?Xn ?a96 ?Xm ?a97 ?Xl ?a98 ?Xk ?a99 ?l99 ?Ri ?c99 ?k99 ?Kg ?AW ?Fe ?wJ ?Kf ?Kd ?Kh ?Ke ?lY ?AX ?Kl ?Km ?d1 ?d2 ?d3 ?d4 ?UD ?UC ?UB ?UA ?Uz ?Uy ?Ux ?Uw ?Uv ?Uu ?Ut ?Us ?Ur ?Uq ?Up ?Uo ?Um ?Ul ?Uk ?Uj ?Ui ?Uh ?Ug ?Ue ?Ud ?Uc ?Ub ?Ua ?T9 ?T8 ?T7 ?T6 ?T5 ?T4 ?T3 ?TZ ?TY ?TX ?TV ?TU ?TR ?TQ ?TN ?TL ?TJ ?TH ?TF ?Tz ?Tw ?Tv ?Tu ?Tt ?Tr ?Tq ?UJ
  (case Ex|lP|oH|sL|yl|Az|lO|p9|Ey|uq|qb|lQ|lM|ym|oJ|lN|ur|yo|Gs|Rm|iD|gn|fk|ez|dM|cD|cE|cJ|oB|jK|iI|iM|fj|fh|ee|iL|jL|gp|iK|ff|oA|lI|iG|iE|lJ|jJ|iH|jM|cL|iJ|fc|dJ|cY|d8|d9|d7|cK|iN|lK|gq=>k_is)
  (case cZ|eB|gu|nM|nL|Rk|Rj|a1|GV|i2|a3|GU|i4|GS|i5|GR|i6|GQ|i7|GP|i8|q8|i9|rB|i10|CN|i11|rA|i12|uI|i13|CM|i14|yJ|i15|uH|i16|yI|i17|uG|yH|Z3|iR|YD|jW|YC|lX|YB|o5|YA|iQ|Yz|jV|Yy|lW|oZ|QZ|oY|rq|uF=>k_is)
  (case yG|VB|a28|a29|wH|Z2|ng|Z1|qf|Z0|wG|ZZ|sX|ZY|qe|ZX|CL|i36|rm|i37|uD|i38|CK|i39|yF|i40|uC|i41|CJ|rj|uA|CI|yE|uB|QY|a43|a44|a45|a46|a47|a48|q9|i49|oX|i50|oW|i51|oV|i52|jU|Yx|a54|a55|a56|a57|a58|a59|a60|yD|i61=>k_is)
  (case yC|i62|yz|i63|a64|a65|a66|a67|a68|a69|a70|a71|a72|a73|a74|a75|a76|Zp|a78|a79|a80|a81|a82|a83|a84|a85|a86|Zo|a88|a89|a90|a91|a92|a93|a94|a95|a96|a97|a98|a99|l99|c99|k99|Kg|AW|Fe|wJ|Kf|Kd|Kh|Ke|lY|AX|Kl|Km|d1|d2|d3|d4=>k_is)
  (case DV|lG|nZ|sf|xB|DX|n6|se|DW|xC|sj|n5|lF|xD|xE=>(refine⟨?_,?_,?_,?_,?_,?_,?_,?_⟩ <;> k_is))
  (case l1|l2|l3|l4|l5|l6|l7|l8|l9|ZV|ZU|ZT|ZS|ZR|ZQ|ZP|ZO|Yo|Vy|NC|NB|Nz|Ny|Nv|Nu|Df|H8|Yn|Ym|QM|QL|QK|QJ|QH|QF|Yl|Yk|Yj|Yi|Yh|Yg|Aw|Ye|Yd|QD|Tp|Yc|Yb|ZN|ZM|X8|X7|Nt|X6|X5|X4|X3|X0|XZ|XY=>(refine' Hw.YY ?ya ?yb ?yc ?yd;(case ya=>k_is);(case yb=>kernel_rfl);(case yc|yd=>k_is)))
  (case ZL|XX|XW|XU|XT|XS|XR|XQ|To|XO|XN|XM|XJ|XI|XH|XG|Nr|XF|XE|XD|XC|XA|Xz|Xy|Xx|Xw|Nq|Xv|Xu|Xs|Xr|Xq|Xp|Xo|Xn|Xm|Xl|Xk=>(refine' Hw.YY ?ya ?yb ?yc ?yd;(case ya=>k_is);(case yb=>kernel_rfl);(case yc|yd=>k_is)))
  (case UD|UC|UB|UA|Uz|Uy|Ux|Uw|Uv|Uu|Ut|Us|Ur|Uq|Up|Uo|Um|Ul|Uk|Uj|Ui|Uh|Ug|Ue|Ud|Uc|Ub|Ua|T9|T8|T7|T6|T5|T4|T3|TZ|TY|TX|TV|TU|TR|TQ|TN|TL|TJ|TH|TF|Tz|Tw|Tv|Tu|Tt|Tr|Tq|UJ=>kit_is)
  (case Ri=>kernel_rfl)
#print axioms PySem.Challenge.cw_holdwright_k29_debts_in_a_row_holds
