import PyProof.Rows.All
import Wide.All
import OpenK.KLine
import OpenK.KWalk
import KE.KNestM
import KE.RegKIsAll
import KE.KxBytes
import KE.KItem
import KE.KDictOf
import KE.KDictSum
import KE.LcSums
import KE.KxText
import Wide.FinOn
import Lean
import PyProof.EqAt
import PyProof.EqKinds
import PyProof.TupleCall
import PySem.Spec
import PyProof.NeKinds
import KE.KDictList
import KE.KPairComp
import PyProof.DictWalks
import PyProof.ExcClass3
import PyProof.ExcInit
import PyProof.ExcBaseAll.ValueError
import OpenK.KMore
import PyProof.RaisesMany
import PyProof.FString5
import PyProof.StrLawsIn
import PyProof.Rows.SetFrom
import PyProof.ExcAttrAll.ValueError
import KE.KIsAll
import PyProof.RulesAs
import KE.KIntText
import PyProof.Rows.StrNews2
import PyProof.Rows.Range3
import PyProof.StrLawsTight
import PyProof.StrLawsChain
import PyProof.Rows.StrPins
import PyProof.Rows.StrCut
import PyProof.Rows.StrMadeLen
import PyProof.Rows.StrBin
import PyProof.InstStoreFacts
import PyProof.ToksMono
import KE.KUnpack
import PyProof.StrLawsNeg
import PyProof.StrLawsReplace
import PySem.Challenge.RW_holdwright_k15_rows_out_of_place
set_option Elab.async false
set_option linter.all false
set_option maxRecDepth 100000
namespace Hq
open PySem PySem.W
noncomputable def d1 (l:List Obj):List Obj:=@List.rec Obj (fun _=>List Obj) [] (fun _ t _=>t) l
noncomputable def d4 (l:List Obj):List Obj:=d1 (d1 (d1 (d1 l)))
noncomputable def d32 (l:List Obj):List Obj:=d4 (d4 (d4 (d4 (d4 (d4 (d4 (d4 l)))))))
noncomputable def gB (l:List Obj) (k:Nat):List Obj:=@Nat.rec (fun _=>List Obj) l (fun _ r=>d32 r) k
noncomputable def gA (i:Nat):List Obj→Option Obj:=@Nat.rec (fun _=>List Obj→Option Obj) (fun l=>@List.rec Obj (fun _=>Option Obj) none (fun x _ _=>some x) l) (fun _ ih l=>ih (d1 l)) i
def nF (o:Option Obj):Option Obj:=match o with|some ⟨_,_,.freed,_⟩=>none|o=>o
noncomputable def gQ (h:Heap) (a:Addr):Option Obj:=nF (gA (Nat.mod a 32) (gB h.objs.toList (Nat.div a 32)))
theorem d1_eq (l:List Obj):d1 l=l.drop 1:=by cases l<;>rfl
theorem d32_eq (l:List Obj):d32 l=l.drop 32:=by
 unfold d32 d4;simp only [d1_eq,List.drop_drop]
theorem gB_eq (l:List Obj):∀ k,gB l k=l.drop (32*k)
 |0=>rfl
 |k+1=>by
  show d32 (gB l k)=_;rw [gB_eq l k,d32_eq,List.drop_drop,Nat.mul_succ]
theorem gA_eq:∀ (i:Nat) (l:List Obj),gA i l=l[i]?
 |0,l=>by cases l<;>rfl
 |i+1,l=>by
  show gA i (d1 l)=_;rw [gA_eq i,d1_eq,List.getElem?_drop,Nat.add_comm]
theorem gQ_eq:gQ=Heap.get?:=by
 funext h a;show nF (gA (a%32) (gB h.objs.toList (a/32)))=nF h.objs[a]?;rw [gA_eq,gB_eq,List.getElem?_drop,Nat.div_add_mod,Array.getElem?_toList]
noncomputable def hk (K:Params→Frag) (as:List Addr) (e:∀ P,as=(K P).map (·.1)):Hook:=⟨List (Option Obj),fun s=>as.map (gQ s.heap),fun w=>(K w.params).map fun p=>some p.2,InK K,fun w s x=>InK.of e w s (by rw [gQ_eq] at x; exact x),InK.keeps⟩
end Hq
local macro_rules|`(tactic|symm)=>`(tactic|decide +kernel)
local macro_rules|`(tactic|o_head (kHook $k $a $e))=>`(tactic|o_head (Hq.hk $k $a $e))
namespace PySem.W.Fast
noncomputable def te13052408679150730464:=0
noncomputable def te4110290226886642065:=0
noncomputable def te5369427470323729400:=0
noncomputable def te12305933238918452080:=0
noncomputable def te16555476440528808052:=0
noncomputable def te4868988410673395695:=0
noncomputable def te5452508617037859911:=0
noncomputable def te11152381544001756331:=0
end PySem.W.Fast
set_option maxHeartbeats 0 in
open_top Hd for PySem.Challenge.rw_holdwright_k15_rows_out_of_place
theorem zAzi (h:True:=by rfl):True:=h
def zi:=zAzi._auto_1
theorem zAzn (h:True:=by decide):True:=h
def zn:=zAzn._auto_1
theorem zAzr (h:True:=by first | exact .inl rfl | exact .inr rfl | assumption):True:=h
def zr:=zAzr._auto_1
theorem zAjp (h:True:=by intro _;rfl):True:=h
def jp:=zAjp._auto_1
theorem zAjs (h:True:=by symm):True:=h
def js:=zAjs._auto_1
theorem zAkd (h:True:=by first | exact Or.inl rfl | exact Or.inr rfl):True:=h
def kd:=zAkd._auto_1
theorem zAkf (h:True:=by with_unfolding_all rfl):True:=h
def kf:=zAkf._auto_1
theorem zAkm (h:True:=by intro _ _;rfl):True:=h
def km:=zAkm._auto_1
theorem zAkn (h:True:=by intros;rfl):True:=h
def kn:=zAkn._auto_1
namespace L2
open PySem PySem.Spec PyProof.Rows
abbrev Key:=Sum Int Str
noncomputable def vR:Key->Value->Bool
 |.inl k,v=>Value.isInt k v
 |.inr x,v=>Value.isStrOf x v
noncomputable def a5n (w:World):Key->Int
 |.inl k=>hashInt k
 |.inr x=>hashStr w x
theorem bN:∀{k:Key}{v:Value},vR k v=true->(∃i t,k=Sum.inl i/\v=Value.int i t)∨(∃x t,k=Sum.inr x/\v=Value.str x t)
 |.inl i,v,h=>by
  obtain⟨t,e⟩:=Value.isInt_shape (k:=i) (v:=v) h;exact .inl ⟨i,t,rfl,e⟩
 |.inr x,v,h=>by
  obtain⟨t,e⟩:=Value.isStrOf_shape (x:=x) (v:=v) h;exact .inr ⟨x,t,rfl,e⟩
theorem Iz (i:Int)(t:Tok):vR (.inl i) (.int i t)=true:=by simp[vR,Value.isInt]
theorem Iw (x:Str)(t:Tok):vR (.inr x) (.str x t)=true:=by simp[vR,Value.isStrOf]
theorem Xc (a b:Int):decide ((Sum.inl a:Key)=Sum.inl b)=(a==b):=by
 by_cases e:a=b
 .subst e;simp
 .have h:¬(Sum.inl a:Key)=Sum.inl b:=fun q=>e (Sum.inl.inj q);rw[decide_eq_false h];exact(beq_eq_false_iff_ne.mpr e).symm
theorem W9 (a b:Str):decide ((Sum.inr a:Key)=Sum.inr b)=decide (a=b):=by
 by_cases e:a=b
 .subst e;simp
 .have h:¬(Sum.inr a:Key)=Sum.inr b:=fun q=>e (Sum.inr.inj q);rw[decide_eq_false h,decide_eq_false e]
theorem Xb (a:Int)(b:Str):decide ((Sum.inl a:Key)=Sum.inr b)=false:=decide_eq_false (fun q=>nomatch q)
theorem Xa (a:Str)(b:Int):decide ((Sum.inr a:Key)=Sum.inl b)=false:=decide_eq_false (fun q=>nomatch q)
noncomputable def bJ (prog:Program)(w:World):PySem.KeyKind prog w Key where
 is:=vR
 hash:=a5n w
 inj:=fun v a b ha hb=>by
  rcases bN ha with⟨i,t,rfl,rfl⟩ | ⟨x,t,rfl,rfl⟩
  .rcases bN hb with⟨j,u,rfl,e⟩ | ⟨y,u,rfl,e⟩
   .injection e with e1 _;rw[e1]
   .exact nomatch e
  .rcases bN hb with⟨j,u,rfl,e⟩ | ⟨y,u,rfl,e⟩
   .exact nomatch e
   .injection e with e1 _;rw[e1]
 byValue:=fun k v h=>by
  rcases bN h with⟨i,t,rfl,rfl⟩ | ⟨x,t,rfl,rfl⟩<;>rfl
 pyHash:=fun hv h=>by
  rcases bN hv with⟨i,t,rfl,rfl⟩ | ⟨x,t,rfl,rfl⟩
  .exact wpAny_pyHash_int h
  .exact wpAny_pyHash_str h
 eqBool:=fun hu hv h=>by
  rcases bN hu with⟨i,t,rfl,rfl⟩ | ⟨x,t,rfl,rfl⟩
  .rcases bN hv with⟨j,u,rfl,rfl⟩ | ⟨y,u,rfl,rfl⟩
   .rw[Xc] at h;exact wpAny_eqBool_int h
   .rw[Xb] at h;exact SeqAt.EqAt.int_str i t y u _ _ _ _ h
  .rcases bN hv with⟨j,u,rfl,rfl⟩ | ⟨y,u,rfl,rfl⟩
   .rw[Xa] at h;exact SeqAt.EqAt.str_int x t j u _ _ _ _ h
   .rw[W9] at h;exact wpAny_eqBool_str h
 «strs»:=fun k x t v h=>by
  rcases bN h with⟨i,u,rfl,e⟩ | ⟨y,u,rfl,e⟩
  .exact nomatch e
  .injection e with e1 _
   subst e1;cases v<;>rfl
theorem BR (prog:Program)(w:World)(i:Int)(t:Tok):(bJ prog w).is (.inl i) (.int i t)=true:=Iz i t
theorem BQ (prog:Program)(w:World)(x:Str)(t:Tok):(bJ prog w).is (.inr x) (.str x t)=true:=Iw x t
inductive V where
 |cR | bl (b:Bool) | int (i:Int) | str (x:Str) | Jg (b:Array UInt8) | sn (x:Str) | ref (a:Addr) | ty (n:String)
 deriving DecidableEq
def RelV:V->Value->Prop
 |.cR,u=>u=Value.none
 |.bl b,u=>u=Value.bool b
 |.int i,u=>∃t,u=Value.int i t
 |.str x,u=>∃t,u=Value.str x t
 |.Jg b,u=>∃t,u=Value.bytes b t
 |.sn x,u=>∃t,t≠0/\u=Value.str x t
 |.ref a,u=>u=Value.ref a
 |.ty n,u=>u=Value.type n
abbrev Vals:List V->List Value->Prop:=Paired RelV
def I9 (x:V):Prop:=match x with | .sn _=>False | _=>True
theorem Vals.length {xs:List V}{us:List Value}(r:Vals xs us):xs.length=us.length:=Paired.length r
theorem Vals.get:∀{xs:List V}{us:List Value}{i:Nat}{x:V},Vals xs us->xs[i]?=some x->∃u,us[i]?=some u/\RelV x u
 |_,_,_,_,.nil,e=>by simp at e
 |_,_,0,_,.cons r _,e=>by simp at e;subst e;exact⟨_,rfl,r⟩
 |_,_,i+1,x,.cons _ t,e=>by
  obtain⟨u,h1,h2⟩:=Vals.get (i:=i) (x:=x) t (by simpa using e);exact⟨u,by simpa using h1,h2⟩
theorem Vals.set {x:V}{u:Value}(r:RelV x u):∀{xs:List V}{us:List Value}(i:Nat),Vals xs us->Vals (xs.set i x) (us.set i u)
 |_,_,_,.nil=>.nil
 |_,_,0,.cons _ t=>.cons r t
 |_,_,i+1,.cons q t=>.cons q (Vals.set r i t)
theorem Vals.append:∀{xs ys:List V}{us ws:List Value},Vals xs us->Vals ys ws->Vals (xs++ys) (us++ws)
 |_,_,_,_,.nil,s=>s
 |_,_,_,_,.cons r t,s=>.cons r (Vals.append t s)
theorem Vals.take:∀{xs:List V}{us:List Value}(n:Nat),Vals xs us->Vals (xs.take n) (us.take n)
 |_,_,0,_=>.nil
 |_,_,_+1,.nil=>.nil
 |_,_,n+1,.cons r t=>.cons r (Vals.take n t)
theorem Vals.drop:∀{xs:List V}{us:List Value}(n:Nat),Vals xs us->Vals (xs.drop n) (us.drop n)
 |_,_,0,r=>r
 |_,_,_+1,.nil=>.nil
 |_,_,n+1,.cons _ t=>Vals.drop n t
def ju:Option V->Option Value->Prop
 |some v,some u=>RelV v u
 |none,none=>True
 |_,_=>False
noncomputable def KV {κ:Type}:List (κ×V)->List (κ×Value)->Prop:=Paired fun(p:κ×V) (q:κ×Value)=>p.1=q.1/\RelV p.2 q.2
noncomputable def kV:Key->V
 |.inl i=>.int i
 |.inr x=>.str x
inductive HO where
 |lst (xs:List V)
 |tup (xs:List V)
 |dK (kvs:List (Key×V)) | dT (kvs:List (List Key×V))
 |set (S:Int->Bool) (n:Nat)
 |ins (C dx:Addr) (fs:List (Str×V))
 |own (x:Addr)
 |xd (fs:List (Str×V))
 |met (f x:Addr)
 |rng (lo hi:Int)
 |rq (o:Obj) (u:HO)
 |Sn (ps:Array Value)
 |ext (φ:Heap->Prop)
abbrev Hp:=Addr->Option HO
noncomputable def upd (H:Hp)(a:Addr)(o:HO):Hp:=fun b=>if b=a then some o else H b
theorem cS {H:Hp}{a:Addr}{o:HO}:upd H a o a=some o:=by unfold upd;rw[if_pos rfl]
theorem aH {H:Hp}{a b:Addr}{o:HO}(h:b≠a):upd H a o b=H b:=by unfold upd;rw[if_neg h]
theorem BN {H:Hp}{a b:Addr}{o u:HO}(h:H a=some o)(h':H b=some u)(d:o≠u):a≠b:=by
 intro e;subst e;rw[h] at h';exact d (Option.some.inj h')
theorem aR {H:Hp}{a b:Addr}{o:HO}(h:H a=some o)(h':H b=none):a≠b:=by
 intro e;subst e;rw[h] at h';cases h'
section
variable (P:Program)(w:World)
def bF (H:Hp)(h:Heap)(a:Addr):HO->Prop
 |.lst xs=>xs.length<=sizeLine/\∃(AC:List Value)(n:Nat),Vals xs AC/\h.get? a=some {cls:=.type "list",data:=.seq AC.toArray n }
 |.tup xs=>xs.length<=sizeLine/\∃AC:List Value,Vals xs AC/\IsTup h a AC.toArray
 |.dK kvs=>kvs.length<=sizeLine/\(a==sysModules)=false/\∃vs,KV kvs vs/\h.DictOf (bJ P w) a vs
 |.dT kvs=>kvs.length<=sizeLine/\(a==sysModules)=false/\∃xs:List (List Key×Addr×Value),
   Paired (fun(p:List Key×V) (q:List Key×Addr×Value)=>p.1=q.1/\H q.2.1=some (.tup (p.1.map kV))/\RelV p.2 q.2.2) kvs xs/\
   ∃o es ep,h.get? a=some o/\o.ExactDict/\o.data=.dict es ep/\es.toList=xs.map (entryOfKey (tupleKind (bJ P w)))/\(xs.map (·.1)).Nodup
 |.set S n=>h.SetOf (intKind P w) a S n
 |.ins C dx fs=>H dx=some (.own a)/\fs.length<=1000/\dx≠a/\h.get? a=some (PySem.W.instObj C dx)/\
   ∃mA,h.Ns1 dx mA/\(∀f,ju (fs.lookup f) (mA f))/\PySem.Within mA (fs.map (·.1))
 |.own _=>∃o,h.get? a=some o
 |.xd fs=>∃mA,h.Ns1 a mA/\∀f,ju (fs.lookup f) (mA f)
 |.rng lo hi=>∃t u v,h.get? a=some {cls:=.type "range",data:=.fields #[.int lo t,.int hi u,.int 1 v] }
 |.rq o u=>h.get? a=some o/\bF H h a u
 |.Sn ps=>h.get? a=some {cls:=.none,data:=.fields ps }
 |.met f x=>h.get? a=some (PySem.W.methodObj (.ref f) (.ref x))
 |.ext φ=>φ h/\(∃o,h.get? a=some o)/\∀h1 h2:Heap,φ h1->(∀o,h1.get? a=some o->h2.get? a=some o)->φ h2
def jy (H:Hp)(h:Heap):Prop:=∀a o,H a=some o->bF P w H h a o
end
section
variable {P:Program}{w:World}{H H':Hp}{h h':Heap}{a:Addr}{o:HO}
theorem bF.lt (x:bF P w H h a o):a<h.objs.size:=by
 cases o with
 |lst xs=>obtain⟨_,_,_,_,e⟩:=x;exact Heap.lt_size e
 |tup xs=>obtain⟨_,_,_,p⟩:=x;exact p.lt
 |dK kvs=>obtain⟨_,_,_,_,o,_,_,e,_⟩:=x;exact Heap.lt_size e
 |dT kvs=>obtain⟨_,_,_,_,o,_,_,e,_⟩:=x;exact Heap.lt_size e
 |set S n=>obtain⟨o,_,_,_,e,_⟩:=x;exact Heap.lt_size e
 |ins C dx fs=>obtain⟨_,_,_,e,_⟩:=x;exact Heap.lt_size e
 |own y=>obtain⟨_,e⟩:=x;exact Heap.lt_size e
 |xd fs=>obtain⟨_,⟨_,_,_,e,_⟩,_⟩:=x;exact Heap.lt_size e
 |rng lo hi=>obtain⟨_,_,_,e⟩:=x;exact Heap.lt_size e
 |rq ob u=>obtain⟨e,_⟩:=x;exact Heap.lt_size e
 |Sn ps=>exact Heap.lt_size (show h.get? a=some _ from x)
 |met f y=>exact Heap.lt_size (show h.get? a=some _ from x)
 |ext φ=>obtain⟨_,⟨_,e⟩,_⟩:=x;exact Heap.lt_size e
theorem Paired.WV {α β:Type}{F G:α->β->Prop}:∀{l₁:List α}{l₂:List β},Paired F l₁ l₂->(∀a b,F a b->G a b)->Paired G l₁ l₂
 |_,_,.nil,_=>.nil
 |_,_,.cons r t,f=>.cons (f _ _ r) (Paired.WV t f)
theorem bF.stay (x:bF P w H h a o)(k:∀b u,(b=a∨H b=some (.own a))->h.get? b=some u->h'.get? b=some u)
  (ho:∀b,H b=some (.own a)->H' b=some (.own a)) (ht:∀b xs,H b=some (.tup xs)->H' b=some (.tup xs)):bF P w H' h' a o:=by
 induction o with
 |lst xs=>obtain⟨z,AC,n,r,e⟩:=x;exact⟨z,AC,n,r,k _ _ (.inl rfl) e⟩
 |tup xs=>obtain⟨z,AC,r,ob,e,c⟩:=x;exact⟨z,AC,r,ob,k _ _ (.inl rfl) e,c⟩
 |dK kvs=>obtain⟨z,y,vs,r,ob,es,ep,e,c⟩:=x;exact⟨z,y,vs,r,ob,es,ep,k _ _ (.inl rfl) e,c⟩
 |dT kvs=>
  obtain⟨z,y,xs,r,ob,es,ep,e,c⟩:=x;exact⟨z,y,xs,Paired.WV r fun p q z=>⟨z.1,ht _ _ z.2.1,z.2.2⟩,ob,es,ep,k _ _ (.inl rfl) e,c⟩
 |set S n=>obtain⟨ob,es,ep,t,e,c⟩:=x;exact⟨ob,es,ep,t,k _ _ (.inl rfl) e,c⟩
 |ins C dx fs=>
  obtain⟨d,z,ne,e,mA,⟨od,es,ep,e2,c⟩,r⟩:=x;exact⟨ho _ d,z,ne,k _ _ (.inl rfl) e,mA,⟨od,es,ep,k _ _ (.inr d) e2,c⟩,r⟩
 |own y=>obtain⟨ob,e⟩:=x;exact⟨ob,k _ _ (.inl rfl) e⟩
 |xd fs=>obtain⟨mA,⟨od,es,ep,e,c⟩,r⟩:=x;exact⟨mA,⟨od,es,ep,k _ _ (.inl rfl) e,c⟩,r⟩
 |rng lo hi=>obtain⟨t,u,v,e⟩:=x;exact⟨t,u,v,k _ _ (.inl rfl) e⟩
 |rq ob u ih=>obtain⟨e,q⟩:=x;exact⟨k _ _ (.inl rfl) e,ih q⟩
 |Sn ps=>
  have e:h.get? a=some {cls:=.none,data:=.fields ps }:=x;show h'.get? a=some {cls:=.none,data:=.fields ps };exact k a _ (.inl rfl) e
 |met f y=>
  have e:h.get? a=some (PySem.W.methodObj (.ref f) (.ref y)):=x;show h'.get? a=some (PySem.W.methodObj (.ref f) (.ref y));exact k a _ (.inl rfl) e
 |ext φ=>obtain⟨p,⟨o,e⟩,st⟩:=x;exact⟨st _ _ p fun o q=>k _ _ (.inl rfl) q,⟨o,k _ _ (.inl rfl) e⟩,st⟩
theorem jy.lt (x:jy P w H h)(e:H a=some o):a<h.objs.size:=(x a o e).lt
theorem jy.fresh (x:jy P w H h)(e:h.objs.size<=a):H a=none:=by
 cases q:H a with
 |none=>rfl
 |some u=>exact absurd (Nat.lt_of_lt_of_le (x.lt q) e) (Nat.lt_irrefl _)
theorem jy.kept (x:jy P w H h)(k:∀b u,h.get? b=some u->h'.get? b=some u):jy P w H h':=fun a o e=>
 (x a o e).stay (fun b u _ q=>k b u q) (fun _ q=>q) fun _ _ q=>q
theorem jy.laid (x:jy P w H h)(k:∀b u,h.get? b=some u->h'.get? b=some u)(hp:h.objs.size<=a)(new:bF P w (upd H a o) h' a o):jy P w (upd H a o) h':=fun b u e=>by
 have hn:=x.fresh hp;by_cases hb:b=a
 .subst hb;rw[cS] at e;cases e;exact new
 .rw[aH hb] at e;exact(x b u e).stay (fun c v _ q=>k c v q) (fun c q=>by rw[aH (aR q hn)];exact q) fun c xs q=>by rw[aH (aR q hn)];exact q
end
def Rd (H:Hp)(a:Addr)(u:HO):Prop:=H a=some u∨∃o,H a=some (.rq o u)
theorem Rd.ok {P:Program}{w:World}{H:Hp}{h:Heap}{a:Addr}{u:HO}(r:Rd H a u)(x:jy P w H h):bF P w H h a u:=by
 rcases r with r | ⟨o,r⟩
 .exact x a u r
 .obtain⟨_,q⟩:=x a _ r;exact q
def YW:Option HO->Prop
 |some (.lst _)=>True
 |some (.dK _)=>True
 |some (.dT _)=>True
 |some (.set _ _)=>True
 |some (.ins _ _ _)=>True
 |some (.ext _)=>True
 |_=>False
section
variable {P:Program}{w:World}{H:Hp}{h h':Heap}{x e:Addr}{o':HO}
theorem jy.write (ok:jy P w H h)(mu:YW (H x))(he:e=x∨H e=some (.own x))(k:∀b u,b≠e->h.get? b=some u->h'.get? b=some u)(YJ:∃u,h'.get? e=some u)
  (new:bF P w (upd H x o') h' x o'):jy P w (upd H x o') h':=fun b u q=>by
 have a04:∀c y,H c=some (.own y)->c≠x:=fun c y r z=>by subst z;rw[r] at mu;exact mu
 have a5a:∀c xs,H c=some (.tup xs)->c≠x:=fun c xs r z=>by subst z;rw[r] at mu;exact mu
 by_cases hb:b=x
 .subst hb;rw[cS] at q;cases q;exact new
 .rw[aH hb] at q;by_cases Xv:b=e
  .have q':H b=some (.own x):=by
    rcases he with z | z
    .exact absurd (Xv.trans z) hb
    .rw[Xv];exact z
   rw[q] at q';cases q';obtain⟨v,hv⟩:=YJ;exact⟨v,by rw[Xv];exact hv⟩
  .refine(ok b u q).stay (fun c v hc r=>k c v ?_ r) (fun c r=>by rw[aH (a04 c b r)];exact r) fun c xs r=>by rw[aH (a5a c xs r)];exact r
   rcases hc with rfl | hc
   .exact Xv
   .rintro rfl;rcases he with z | z
    .exact a04 c b hc z
    .rw[hc] at z;cases z;exact hb rfl
end
structure Un (fs ex:List Addr)(H H':Hp)(h h':Heap):Prop where
 keep:∀b o,h.get? b=some o->H b=none->b∉fs->b∉ex->h'.get? b=some o
 slot:∀b o,h.get? b=some o->H b=none->b∈fs->b∉ex->∃sl,h'.get? b=some {o with slots:=sl }
 free:∀b o,h.get? b=some o->H b=none->b∉ex->H' b=none
 there:∀b o,h.get? b=some o->b∉ex->∃o',h'.get? b=some o'
 tups:∀b xs,H b=some (.tup xs)->H' b=some (.tup xs)
 nU:∀b o u,H b=some (.rq o u)->H' b=some (.rq o u)
 pF:∀b ps,H b=some (.Sn ps)->∃more,H' b=some (.Sn (ps++more))
section
variable {fs fs' ex ex':List Addr}{H H1 H2:Hp}{h h1 h2 h':Heap}{a x e:Addr}{o:HO}
theorem Un.any (u:Un fs ex H H1 h h1){b:Addr}{ob:Obj}(q:h.get? b=some ob)(n:H b=none)(hx:b∉ex):∃sl,h1.get? b=some {ob with slots:=sl }:=by
 by_cases hb:b∈fs
 .exact u.slot b ob q n hb hx
 .exact⟨ob.slots,u.keep b ob q n hb hx⟩
theorem Un.kept (k:∀b u,h.get? b=some u->h'.get? b=some u):Un fs ex H H h h':=
 ⟨fun b ob q _ _ _=>k b ob q,fun b ob q _ _ _=>⟨ob.slots,k b ob q⟩,fun _ _ _ n _=>n,fun b ob q _=>⟨ob,k b ob q⟩,fun _ _ q=>q,fun _ _ _ q=>q,fun _ ps q=>⟨#[],by rw[q];simp⟩⟩
theorem Un.refl:Un fs ex H H h h:=Un.kept fun _ _ q=>q
theorem Un.laid (k:∀b u,h.get? b=some u->h'.get? b=some u)(hp:h.objs.size<=a)(hn:H a=none):Un fs ex H (upd H a o) h h' where
 keep:=fun b u q _ _ _=>k b u q
 slot:=fun b u q _ _ _=>⟨u.slots,k b u q⟩
 free:=fun b u q n _=>by rw[aH (Nat.ne_of_lt (Nat.lt_of_lt_of_le (Heap.lt_size q) hp))];exact n
 there:=fun b u q _=>⟨u,k b u q⟩
 tups:=fun b xs q=>by rw[aH (aR q hn)];exact q
 nU:=fun b u xs q=>by rw[aH (aR q hn)];exact q
 pF:=fun b ps q=>⟨#[],by rw[aH (aR q hn),q];simp⟩
theorem Un.write (mu:YW (H x))(he:e=x∨H e=some (.own x))(k:∀b u,b≠e->h.get? b=some u->h'.get? b=some u)(YJ:∃u,h'.get? e=some u):Un fs ex H (upd H x o) h h':=by
 have hx:∀b,H b=none->b≠x:=fun b n z=>by subst z;rw[n] at mu;exact mu
 have hb:∀b,H b=none->b≠e:=fun b n z=>by
  subst z;rcases he with r | r
  .exact hx b n r
  .rw[n] at r;cases r
 have hm:∀b u,H b=some u->¬ YW (some u)->b≠x:=fun b u q nm z=>by subst z;rw[q] at mu;exact nm mu
 refine⟨fun b u q n _ _=>k b u (hb b n) q,fun b u q n _ _=>⟨u.slots,k b u (hb b n) q⟩,fun b u q n _=>by rw[aH (hx b n)];exact n,fun b u q _=>?_,
  fun b xs q=>by rw[aH (hm b _ q fun z=>z)];exact q,fun b u xs q=>by rw[aH (hm b _ q fun z=>z)];exact q,fun b ps q=>⟨#[],by rw[aH (hm b _ q fun z=>z),q];simp⟩⟩
 by_cases Xv:b=e
 .subst Xv;exact YJ
 .exact⟨u,k b u Xv q⟩
end
noncomputable def trk (h:Heap)(H:Hp):List Addr:=(List.range h.objs.size).filter fun a=>(H a).isSome
noncomputable def Ag (h:Heap)(H:Hp):Heap:=PySem.W.hideAll h (trk h H)
theorem IJ (h:Heap)(H:Hp):(Ag h H).objs.size=h.objs.size:=PySem.W.hideAll_size _ _
theorem M8 {h:Heap}{H:Hp}{b:Addr}{o:Obj}(e:h.get? b=some o)(n:H b=none):(Ag h H).get? b=some o:=
 PySem.W.hideAll_get _ e fun hm=>by
  have q:(H b).isSome=true:=(List.mem_filter.mp hm).2;rw[n] at q;simp at q
theorem QJ {h:Heap}{H:Hp}{b:Addr}{o:Obj}(e:(Ag h H).get? b=some o):h.get? b=some o/\H b=none:=by
 have e':h.get? b=some o:=PySem.W.of_hideAll (trk h H) e;refine⟨e',?_⟩;cases q:H b with
 |none=>rfl
 |some x=>
  have hm:b∈trk h H:=List.mem_filter.mpr ⟨List.mem_range.mpr (Heap.lt_size e'),by simp[q]⟩;have z:(Ag h H).get? b=none:=PySem.W.hideAll_none (trk h H) hm;rw[z] at e;cases e
structure Mod (K:PySem.W.Frag)(mg:Str->Option Value)(base:Heap):Prop where
 Oo:K.In base
 glob:base.Ns mainGlobals mg
 blt:∃mb,base.Ns builtinsNs mb/\∀x:Str,x≠"__name__"->mb x=bootBuiltins x
 nolimit:base.NoLimit
structure Cx where
 prog:Program
 w:World
 K:PySem.W.Frag
 mg:Str->Option Value
 base:Heap
 A:Around
 N:List Str
 s₀:Shared
 H₀:Hp
 env:Env
 outer:List Env
 stack:List Env
 ex:List Addr
 fn:Str->Bool
 calm:Bool
 pn:List (Addr×Obj)
 xe:Value->Shared->Prop
noncomputable def frs (l:List Env):List Addr:=l.filterMap (·.frame)
noncomputable abbrev Cx.fs (X:Cx):List Addr:=frs X.outer
def Vis (sc:Scope)(x:Str):Prop:=sc.names.lookup x=some .local∨sc.names.lookup x=some .cell∨sc.names.lookup x=some .free
def Loc (sc:Scope)(x:Str):Prop:=sc.names.lookup x=some .local∨sc.names.lookup x=some .cell
def Look (env:Env)(h:Heap)(m:Str->Option Value)(x:Str)(u:Value):Prop:=
 (env.kindOf x=some .local/\m x=some u)∨((env.kindOf x=some .cell∨env.kindOf x=some .free)/\∃c,env.cells.lookup x=some c/\h.IsCell c (some u))
structure Cx.Ok (X:Cx):Prop where
 mod:Mod X.K X.mg X.base
 kind:X.env.scope.kind=.function
 glob:X.env.globals=mainGlobals
 blt:X.env.builtins=builtinsNs
 above:X.s₀.heap.objs.size<=X.env.locals
 inj:∀x y c,X.env.cells.lookup x=some c->X.env.cells.lookup y=some c->x=y
 has:∀x,(X.env.kindOf x=some .cell∨X.env.kindOf x=some .free)->∃c,X.env.cells.lookup x=some c
 Uh:∀x c,X.fn x=true->X.env.cells.lookup x=some c->X.s₀.heap.objs.size<=c
 hd:X.calm=true->X.A.handled=none
 frames:X.A.frames=some X.stack
 stk:X.stack=X.outer∨(X.stack=X.env::X.outer/\X.env.frame=some X.env.locals)
 XD:∀b∈X.ex,b≠X.env.locals/\∀x c,X.env.cells.lookup x=some c->c≠b
 bs:∀b o,X.base.get? b=some o->X.s₀.heap.get? b=some o/\X.H₀ b=none
 IX:X.base.objs.size<=X.s₀.heap.objs.size
 BJ:∀b o,X.base.get? b=some o->b∉X.ex
 Cg:∀b∈X.ex,b∉X.fs
 nS:X.s₀.heap.FunFrames X.base X.outer
 Ov:∀b∈X.fs,X.H₀ b=none
structure Inv (X:Cx)(vy:List (Addr×Obj))(U:List (Option V))(H:Hp)(s:Shared):Prop where
 ok:X.Ok
 os:s.os=X.s₀.os
 bare:AllBare s.gens
 base:Un X.fs X.ex X.H₀ H X.s₀.heap s.heap
 loc:∃m,s.heap.Ns X.env.locals m/\∀(i:Nat)(x:Str)(v:V),X.N[i]?=some x->U[i]?=some (some v)->Vis X.env.scope x->∃u,RelV v u/\Look X.env s.heap m x u
 cell:∀x c,X.env.cells.lookup x=some c->∃v,s.heap.IsCell c v
 free:H X.env.locals=none
 iy:∀x c,X.env.cells.lookup x=some c->H c=none
 pin:∀p∈X.pn++vy,s.heap.get? p.1=some p.2/\H p.1=none/\p.1≠X.env.locals/\p.1∉X.fs/\∀v,p.2.data≠.cell v
 hok:jy X.prog X.w H s.heap
 len:U.length=X.N.length
section
variable {X:Cx}{vy:List (Addr×Obj)}{U:List (Option V)}{H H':Hp}{s:Shared}{h':Heap}
theorem Cx.Ok.a5b (ok:X.Ok){b:Addr}{o:Obj}(e:X.base.get? b=some o):b∉X.fs:=fun hb=>by
 have:=(ok.nS.mem hb).1;rw[e] at this;cases this
theorem Inv.bs (I:Inv X vy U H s):∀b o,X.base.get? b=some o->s.heap.get? b=some o/\H b=none:=fun b o e=>
 ⟨I.base.keep b o (I.ok.bs b o e).1 (I.ok.bs b o e).2 (I.ok.a5b e) (I.ok.BJ b o e),I.base.free b o (I.ok.bs b o e).1 (I.ok.bs b o e).2 (I.ok.BJ b o e)⟩
theorem Inv.bk (I:Inv X vy U H s):∀b o,X.base.get? b=some o->s.heap.get? b=some o:=fun b o e=>(I.bs b o e).1
theorem Inv.mod (I:Inv X vy U H s):Mod X.K X.mg X.base:=I.ok.mod
theorem Inv.iW (I:Inv X vy U H s):X.K.In s.heap:=I.ok.mod.Oo.keeps I.bk
theorem Inv.fr (I:Inv X vy U H s):∃m,Fr X.base X.env.locals s.heap m:=
 let⟨m,hn,_⟩:=I.loc
 ⟨m,hn,I.bk,Nat.le_trans I.ok.IX I.ok.above⟩
theorem Inv.lt (I:Inv X vy U H s):X.env.locals<s.heap.objs.size:=let⟨_,hn,_⟩:=I.loc;hn.lt
theorem Inv.sz (I:Inv X vy U H s):X.s₀.heap.objs.size<=s.heap.objs.size:=Nat.le_trans I.ok.above (Nat.le_of_lt I.lt)
theorem Inv.a05 (I:Inv X vy U H s){a:Addr}(h:s.heap.objs.size<=a):a∉X.fs:=fun hb=>by
 obtain⟨_,o,ho,_⟩:=I.ok.nS.mem hb;exact absurd (Nat.lt_of_lt_of_le (Heap.lt_size ho) (Nat.le_trans I.sz h)) (Nat.lt_irrefl _)
theorem Inv.Ud (I:Inv X vy U H s):∀x c,X.env.cells.lookup x=some c->c≠X.env.locals:=fun x c e z=>by
 obtain⟨v,o,ho,hd⟩:=I.cell x c e;obtain⟨m,⟨o',es,ep,ho',hd',_⟩,_⟩:=I.loc;rw[z,ho'] at ho;cases ho;rw[hd'] at hd;cases hd
theorem Inv.nS (I:Inv X vy U H s):s.heap.FunFrames X.base X.outer:=by
 have all:∀(l:List Env),(∀b∈frs l,b∈X.fs)->X.s₀.heap.FunFrames X.base l->s.heap.FunFrames X.base l:=by
  intro l
  induction l with
  |nil=>intro _ _;trivial
  |cons env r ih=>
   intro hs hl;obtain⟨hk,⟨L,o,hf,hn,ho,hd⟩,hr⟩:=hl;have hL:L∈X.fs:=hs L (by unfold frs;rw[List.filterMap_cons,hf];exact List.mem_cons_self);obtain⟨sl,e⟩:=I.base.slot L o ho (I.ok.Ov L hL) hL fun z=>I.ok.Cg L z hL;exact⟨hk,⟨L,_,hf,hn,e,hd⟩,ih (fun b hb=>hs b (by unfold frs;rw[List.filterMap_cons,hf];exact List.mem_cons_of_mem _ hb)) hr⟩
 exact all X.outer (fun _ hb=>hb) I.ok.nS
theorem Inv.stack (I:Inv X vy U H s):s.heap.FunFrames X.base X.stack:=by
 rcases I.ok.stk with e | ⟨e,hf⟩
 .rw[e];exact I.nS
 .rw[e];obtain⟨m,hn,_⟩:=I.loc;refine .cons (by rw[I.ok.kind];decide) hf hn ?_ I.nS;exact Heap.get?_none_of_le (Nat.le_trans I.ok.IX I.ok.above)
theorem Inv.yT (I:Inv X vy U H s):∀b∈frs X.stack,b∈X.env.locals::X.fs:=fun b hb=>by
 rcases I.ok.stk with e | ⟨e,hf⟩
 .rw[e] at hb;exact List.mem_cons_of_mem _ hb
 .rw[e] at hb;unfold frs at hb;rw[List.filterMap_cons,hf] at hb;exact hb
theorem Inv.pH (I:Inv X vy U H s):∀b∈frs X.stack,H b=none:=fun b hb=>by
 rcases List.mem_cons.mp (I.yT b hb) with e | hb
 .rw[e];exact I.free
 .obtain⟨_,o,ho,_⟩:=I.ok.nS.mem hb;exact I.base.free b o ho (I.ok.Ov b hb) fun z=>I.ok.Cg b z hb
theorem Inv.step {g':Array GenState}{t':Nat}{d':Drawn}{ch:List Addr}(I:Inv X vy U H s)
  (hch:∀b∈ch,(b∈X.ex∨X.s₀.heap.objs.size<=b)/\b≠X.env.locals/\(∀x c,X.env.cells.lookup x=some c->c≠b)/\∀p∈X.pn++vy,p.1≠b)
  (keep:∀b o,b≠X.env.locals->b∉X.fs->b∉ch->s.heap.get? b=some o->H b=none->h'.get? b=some o)
  (slot:∀b o,b≠X.env.locals->b∈X.fs->b∉ch->s.heap.get? b=some o->H b=none->∃sl,h'.get? b=some {o with slots:=sl }) (free:∀b o,b∉ch->s.heap.get? b=some o->H b=none->H' b=none)
  (there:∀b o,b∉ch->s.heap.get? b=some o->∃o',h'.get? b=some o')
  (tups:∀b xs,H b=some (.tup xs)->H' b=some (.tup xs)) (nU:∀b o u,H b=some (.rq o u)->H' b=some (.rq o u)) (pF:∀b ps,H b=some (.Sn ps)->∃more,H' b=some (.Sn (ps++more)))
  (ns:∀m,s.heap.Ns X.env.locals m->h'.Ns X.env.locals m) (hok:jy X.prog X.w H' h') (hg:AllBare g') :
  Inv X vy U H' {s with heap:=h',gens:=g',drawn:=d',toks:=t' }:=by
 have neL:∀b o,X.s₀.heap.get? b=some o->b≠X.env.locals:=fun b o e=>Nat.ne_of_lt (Nat.lt_of_lt_of_le (Heap.lt_size e) I.ok.above);have neC:∀b o,X.s₀.heap.get? b=some o->b∉X.ex->b∉ch:=fun b o e hx hb=>by
  rcases(hch b hb).1 with z | z
  .exact hx z
  .exact absurd (Nat.lt_of_lt_of_le (Heap.lt_size e) z) (Nat.lt_irrefl _)
 have cellK:∀x c,X.env.cells.lookup x=some c->∀v,s.heap.IsCell c v->h'.IsCell c v:=(by
  rintro x c e v ⟨o,ho,hd⟩;have nch:c∉ch:=fun z=>(hch c z).2.2.1 x c e rfl;by_cases hc:c∈X.fs
  .obtain⟨sl,q⟩:=slot c o (I.Ud x c e) hc nch ho (I.iy x c e);exact⟨_,q,hd⟩
  .exact⟨o,keep c o (I.Ud x c e) hc nch ho (I.iy x c e),hd⟩)
 refine⟨I.ok,I.os,hg,⟨fun b o e n hb hx=>?_,fun b o e n hb hx=>?_,fun b o e n hx=>?_,fun b o e hx=>?_,fun b xs e=>tups b xs (I.base.tups b xs e),fun b o xs e=>nU b o xs (I.base.nU b o xs e),fun b ps e=>?_⟩,?_,fun x c e=>?_,?_,fun x c e=>?_,fun p hp=>?_,hok,I.len⟩
 .exact keep b o (neL b o e) hb (neC b o e hx) (I.base.keep b o e n hb hx) (I.base.free b o e n hx)
 .obtain⟨sl,e1⟩:=I.base.slot b o e n hb hx;obtain⟨sl',e2⟩:=slot b _ (neL b o e) hb (neC b o e hx) e1 (I.base.free b o e n hx);exact⟨sl',e2⟩
 .obtain⟨o',e1⟩:=I.base.there b o e hx;exact free b o' (neC b o e hx) e1 (I.base.free b o e n hx)
 .obtain⟨o',e1⟩:=I.base.there b o e hx;exact there b o' (neC b o e hx) e1
 .obtain⟨m1,e1⟩:=I.base.pF b ps e;obtain⟨m2,e2⟩:=pF b _ e1;exact⟨m1++m2,by rw[e2,Array.append_assoc]⟩
 .obtain⟨m,hn,hl⟩:=I.loc;refine⟨m,ns m hn,fun i x v e1 e2 e3=>?_⟩;obtain⟨u,r,l⟩:=hl i x v e1 e2 e3;refine⟨u,r,?_⟩;rcases l with l | ⟨k,c,e,z⟩
  .exact .inl l
  .exact .inr ⟨k,c,e,cellK x c e _ z⟩
 .obtain⟨v,z⟩:=I.cell x c e;exact⟨v,cellK x c e v z⟩
 .obtain⟨m,⟨o,_,_,ho,_⟩,_⟩:=I.loc;exact free _ o (fun z=>(hch _ z).2.1 rfl) ho I.free
 .obtain⟨v,o,ho,hd⟩:=I.cell x c e;exact free c o (fun z=>(hch c z).2.2.1 x c e rfl) ho (I.iy x c e)
 .obtain⟨e,n,ne,nf,d⟩:=I.pin p hp;have nch:p.1∉ch:=fun z=>(hch p.1 z).2.2.2 p hp rfl;exact⟨keep p.1 p.2 ne nf nch e n,free p.1 p.2 nch e n,ne,nf,d⟩
theorem Inv.un {t':Nat}(I:Inv X vy U H s)(u:Un X.fs [] H H' s.heap h')(hok:jy X.prog X.w H' h'):Inv X vy U H' {s with heap:=h',toks:=t' }:=by
 obtain⟨m,⟨o,es,ep,ho,r⟩,_⟩:=id I.loc;obtain⟨sl,hL⟩:=u.any ho I.free (by simp);exact I.step (g':=s.gens) (d':=s.drawn) (ch:=[]) (fun _ z=>nomatch z) (fun b o _ hb _ e n=>u.keep b o e n hb (by simp)) (fun b o _ hb _ e n=>u.slot b o e n hb (by simp)) (fun b o _ e n=>u.free b o e n (by simp)) (fun b o _ e=>u.there b o e (by simp)) u.tups u.nU u.pF (fun m' hm=>by
  obtain⟨o',es',XH,ho',r'⟩:=hm;rw[ho] at ho';cases ho';exact⟨_,es',XH,hL,r'⟩) hok I.bare
theorem Inv.call {g':Array GenState}{t':Nat}{d':Drawn}{ch:List Addr}(I:Inv X vy U H s)(u:Un (frs X.stack) ch H H' s.heap h')(hok:jy X.prog X.w H' h')(hg:AllBare g')
  (hch:∀b∈ch,(b∈X.ex∨X.s₀.heap.objs.size<=b)/\b≠X.env.locals/\(∀x c,X.env.cells.lookup x=some c->c≠b)/\∀p∈X.pn++vy,p.1≠b) :
  Inv X vy U H' {s with heap:=h',gens:=g',drawn:=d',toks:=t' }:=by
 obtain⟨m,⟨o,es,ep,ho,r⟩,_⟩:=id I.loc;obtain⟨sl,hL⟩:=u.any ho I.free fun z=>(hch _ z).2.1 rfl;exact I.step (ch:=ch) hch (fun b o hL hb hc e n=>u.keep b o e n (fun z=>(List.mem_cons.mp (I.yT b z)).elim hL hb) hc) (fun b o _ _ hc e n=>u.any e n hc) (fun b o hc e n=>u.free b o e n hc) (fun b o hc e=>u.there b o e hc) u.tups u.nU u.pF (fun m' hm=>by
  obtain⟨o',es',XH,ho',r'⟩:=hm;rw[ho] at ho';cases ho';exact⟨_,es',XH,hL,r'⟩) hok hg
theorem Inv.turned {t':Nat}{it:Addr}(I:Inv X vy U H s)(k:∀b o,b≠it->s.heap.get? b=some o->h'.get? b=some o)(hn:H it=none)(hL:it≠X.env.locals)
  (h1:it∈X.ex∨X.s₀.heap.objs.size<=it) (h2:∀x c,X.env.cells.lookup x=some c->c≠it) (h3:∀p∈X.pn++vy,p.1≠it):Inv X vy U H {s with heap:=h',toks:=t' }:=by
 have nit:∀b u,H b=some u->b≠it:=fun b u e z=>by rw[z,hn] at e;cases e
 refine I.step (g':=s.gens) (d':=s.drawn) (ch:=[it]) (fun b hb=>?_) (fun b o _ _ hc e _=>k b o (fun z=>hc (by simp[z])) e) (fun b o _ _ hc e _=>⟨o.slots,k b o (fun z=>hc (by simp[z])) e⟩) (fun _ _ _ _ n=>n)
  (fun b o hc e=>⟨o,k b o (fun z=>hc (by simp[z])) e⟩) (fun _ _ e=>e) (fun _ _ _ e=>e) (fun b ps e=>⟨#[],by rw[e];simp⟩) (fun m hm=>?_) (fun b u e=>?_) I.bare
 .have e:b=it:=by simpa using hb
  subst e;exact⟨h1,hL,h2,h3⟩
 .obtain⟨o,es,ep,ho,r⟩:=hm;exact⟨o,es,ep,k _ o (Ne.symm hL) ho,r⟩
 .refine(I.hok b u e).stay (fun c v hc q=>k c v ?_ q) (fun _ q=>q) fun _ _ q=>q;rcases hc with z | z
  .rw[z];exact nit b u e
  .exact nit c _ z
theorem Inv.tok (I:Inv X vy U H s)(t:Nat):Inv X vy U H {s with toks:=t }:=I.un (h':=s.heap) (t':=t) Un.refl I.hok
theorem Inv.kept {t':Nat}(I:Inv X vy U H s)(k:∀b u,s.heap.get? b=some u->h'.get? b=some u):Inv X vy U H {s with heap:=h',toks:=t' }:=I.un (Un.kept k) (I.hok.kept k)
theorem Inv.laid {a:Addr}{o:HO}{t':Nat}(I:Inv X vy U H s)(k:∀b u,s.heap.get? b=some u->h'.get? b=some u)(hp:s.heap.objs.size<=a)(new:bF X.prog X.w (upd H a o) h' a o) :
  Inv X vy U (upd H a o) {s with heap:=h',toks:=t' }:=I.un (Un.laid k hp (I.hok.fresh hp)) (I.hok.laid k hp new)
theorem Inv.write {x e:Addr}{o:HO}{t':Nat}(I:Inv X vy U H s)(mu:YW (H x))(he:e=x∨H e=some (.own x))(k:∀b u,b≠e->s.heap.get? b=some u->h'.get? b=some u)(YJ:∃u,h'.get? e=some u)
  (new:bF X.prog X.w (upd H x o) h' x o):Inv X vy U (upd H x o) {s with heap:=h',toks:=t' }:=I.un (Un.write mu he k YJ) (I.hok.write mu he k YJ new)
theorem Inv.weak {U':List (Option V)}(I:Inv X vy U H s)(hl:U'.length=U.length)(w:∀(i:Nat) v,U'[i]?=some (some v)->U[i]?=some (some v)):Inv X vy U' H s:=
 ⟨I.ok,I.os,I.bare,I.base,let⟨m,hn,hl'⟩:=I.loc;⟨m,hn,fun i x v e1 e2 e3=>hl' i x v e1 (w i v e2) e3⟩,I.cell,I.free,I.iy,I.pin,I.hok,hl.trans I.len⟩
theorem Inv.uv {kg:List (Addr×Obj)}(I:Inv X vy U H s)(h:∀p∈kg,s.heap.get? p.1=some p.2/\H p.1=none/\p.1≠X.env.locals/\p.1∉X.fs/\∀v,p.2.data≠.cell v):Inv X kg U H s:=
 ⟨I.ok,I.os,I.bare,I.base,I.loc,I.cell,I.free,I.iy,fun p hp=>(List.mem_append.mp hp).elim (fun z=>I.pin p (List.mem_append_left _ z)) (h p),I.hok,I.len⟩
theorem BK {N:List Str}(hN:N.Nodup){i j:Nat}{x:Str}(a:N[i]?=some x)(b:N[j]?=some x):i=j:=by
 obtain⟨h1,e1⟩:=List.getElem?_eq_some_iff.mp a;obtain⟨h2,e2⟩:=List.getElem?_eq_some_iff.mp b;exact(List.getElem_inj hN).mp (e1.trans e2.symm)
theorem xX {M:Model}{A:Around}{E:Value->Shared->Prop}{i:Nat}{x:Str}{v:V}{u:Value}{Q:Unit->Shared->Prop}(I:Inv X vy U H s)(hN:X.N.Nodup)(hi:X.N[i]?=some x)(hx:Loc X.env.scope x)(r:RelV v u)
  (h:∀s',Inv X vy (U.set i (some v)) H s'->(∃a,Heap.SameBut a s.heap s'.heap/\(a=X.env.locals∨X.env.cells.lookup x=some a))->Q () s') (hf:autoParam (X.fn x=true∨X.env.scope.names.lookup x=some .local) zr):wpAny M A (storeName X.env x u) Q E s:=by
 obtain⟨m,hn,hl⟩:=id I.loc;have hcls:(X.env.scope.kind ==.class||(X.env.scope.kind ==.module&&X.env.locals !=X.env.globals))=false:=by rw[I.ok.kind];rfl
 have hiσ:i<U.length:=by rw[I.len];exact(List.getElem?_eq_some_iff.mp hi).1
 have Ud:=I.Ud;have tracked:∀{a:Addr}{h':Heap},(∃o,s.heap.get? a=some o/\H a=none)->Heap.SameBut a s.heap h'->jy X.prog X.w H h':=fun{a h'} ha hs b ob e=>by
  obtain⟨_,_,hfree⟩:=ha;refine(I.hok b ob e).stay (fun c w' hc q=>(hs.2 c ?_).trans q) (fun _ q=>q) fun _ _ q=>q;rintro rfl;rcases hc with rfl | hc
  .rw[hfree] at e;cases e
  .rw[hfree] at hc;cases hc
 rcases hx with hk | hk
 .refine wpAny_storeName_local hk hn (fun h' hn' hs=>?_) hcls;obtain⟨oL,_,_,hoL,_⟩:=id hn;refine h _ ⟨I.ok,I.os,I.bare,⟨fun b o e n hb hx=>?_,fun b o e n hb hx=>?_,I.base.free,fun b o e hx=>?_,I.base.tups,I.base.nU,I.base.pF⟩,⟨_,hn',fun j y v' e1 e2 e3=>?_⟩,fun y c e=>?_,I.free,I.iy,fun p hp=>?_,tracked ⟨oL,hoL,I.free⟩ hs,by simpa using I.len⟩ ⟨_,hs,.inl rfl⟩
  .exact(hs.2 b (Nat.ne_of_lt (Nat.lt_of_lt_of_le (Heap.lt_size e) I.ok.above))).trans (I.base.keep b o e n hb hx)
  .obtain⟨sl,e1⟩:=I.base.slot b o e n hb hx;exact⟨sl,(hs.2 b (Nat.ne_of_lt (Nat.lt_of_lt_of_le (Heap.lt_size e) I.ok.above))).trans e1⟩
  .obtain⟨o',e1⟩:=I.base.there b o e hx;exact⟨o',(hs.2 b (Nat.ne_of_lt (Nat.lt_of_lt_of_le (Heap.lt_size e) I.ok.above))).trans e1⟩
  .by_cases hj:j=i
   .subst hj;rw[hi] at e1;cases e1;rw[List.getElem?_set_self hiσ] at e2;cases e2;exact⟨u,r,.inl ⟨hk,by simp⟩⟩
   .rw[List.getElem?_set_ne (Ne.symm hj)] at e2;obtain⟨u',r',q⟩:=hl j y v' e1 e2 e3;refine⟨u',r',?_⟩;rcases q with⟨k,e⟩ | ⟨k,c,e,z⟩
    .refine .inl ⟨k,?_⟩;have:y≠x:=fun e=>hj (BK hN e1 (e ▸ hi));simp[this,e]
    .exact .inr ⟨k,c,e,z.sameBut hs (Ud y c e)⟩
  .obtain⟨w',z⟩:=I.cell y c e;exact⟨w',z.sameBut hs (Ud y c e)⟩
  .obtain⟨e,n,ne,nf,d⟩:=I.pin p hp;exact⟨(hs.2 p.1 ne).trans e,n,ne,nf,d⟩
 .have hfn:X.fn x=true:=by
   rcases hf with z | z
   .exact z
   .rw[z] at hk;cases hk
  obtain⟨c,hc⟩:=I.ok.has x (.inl hk);obtain⟨w',z⟩:=I.cell x c hc;refine wpAny_storeName_cell I.ok.kind hk hc z (fun h' hc' hs=>?_);obtain⟨oc,hoc,a5Y⟩:=id z;refine h {s with heap:=h' } ⟨I.ok,I.os,I.bare,⟨fun b o e n hb hx=>?_,fun b o e n hb hx=>?_,I.base.free,fun b o e hx=>?_,I.base.tups,I.base.nU,I.base.pF⟩,⟨m,hn.sameBut hs (Ne.symm (Ud x c hc)),fun j y v' e1 e2 e3=>?_⟩,fun y c' e=>?_,I.free,I.iy,fun p hp=>?_,tracked ⟨oc,hoc,I.iy x c hc⟩ hs,by simpa using I.len⟩ ⟨c,hs,.inr hc⟩
  .exact(hs.2 b (Nat.ne_of_lt (Nat.lt_of_lt_of_le (Heap.lt_size e) (I.ok.Uh x c hfn hc)))).trans (I.base.keep b o e n hb hx)
  .obtain⟨sl,e1⟩:=I.base.slot b o e n hb hx;exact⟨sl,(hs.2 b (Nat.ne_of_lt (Nat.lt_of_lt_of_le (Heap.lt_size e) (I.ok.Uh x c hfn hc)))).trans e1⟩
  .obtain⟨o',e1⟩:=I.base.there b o e hx;exact⟨o',(hs.2 b (Nat.ne_of_lt (Nat.lt_of_lt_of_le (Heap.lt_size e) (I.ok.Uh x c hfn hc)))).trans e1⟩
  .by_cases hj:j=i
   .subst hj;rw[hi] at e1;cases e1;rw[List.getElem?_set_self hiσ] at e2;cases e2;exact⟨u,r,.inr ⟨.inl hk,c,hc,hc'⟩⟩
   .rw[List.getElem?_set_ne (Ne.symm hj)] at e2;obtain⟨u',r',q⟩:=hl j y v' e1 e2 e3;refine⟨u',r',?_⟩;rcases q with q | ⟨k,c',e,z'⟩
    .exact .inl q
    .refine .inr ⟨k,c',e,z'.sameBut hs ?_⟩;rintro rfl;exact hj (BK hN e1 (I.ok.inj _ _ _ e hc ▸ hi))
  .by_cases hcc:c'=c
   .subst hcc;exact⟨_,hc'⟩
   .obtain⟨w2,z2⟩:=I.cell y c' e;exact⟨w2,z2.sameBut hs hcc⟩
  .obtain⟨e,n,ne,nf,d⟩:=I.pin p hp;refine⟨(hs.2 p.1 ?_).trans e,n,ne,nf,d⟩;intro q;rw[q,hoc] at e;have q':oc=p.2:=Option.some.inj e;exact d w' (by rw[<- q'];exact a5Y)
theorem kH {M:Model}{A:Around}{E:Value->Shared->Prop}{i:Nat}{x:Str}{v:V}{u:Value}{Q:Unit->Shared->Prop}(I:Inv X vy U H s)(hN:X.N.Nodup)(hi:X.N[i]?=some x)(hx:Loc X.env.scope x)(r:RelV v u)
  (h:∀s',Inv X vy (U.set i (some v)) H s'->Q () s') (hf:autoParam (X.fn x=true∨X.env.scope.names.lookup x=some .local) zr):wpAny M A (storeName X.env x u) Q E s:=
 xX I hN hi hx r (fun s' I' _=>h s' I') hf
theorem Inv.Ug {s':Shared}{ch:List Addr}(I:Inv X vy U H s)(ho:s'.os=s.os)(u:Un (frs X.stack) ch H H' s.heap s'.heap)(hok:jy X.prog X.w H' s'.heap)(hg:AllBare s'.gens)
  (hch:∀b∈ch,(b∈X.ex∨X.s₀.heap.objs.size<=b)/\b≠X.env.locals/\(∀x c,X.env.cells.lookup x=some c->c≠b)/\∀p∈X.pn++vy,p.1≠b):Inv X vy U H' s':=by
 obtain⟨h',g',d',t',o'⟩:=s';have e:o'=s.os:=ho;subst e;exact I.call (g':=g') (t':=t') (d':=d') u hok hg hch
end
abbrev XK:=Value->Option Addr->Hp->Prop
abbrev St:=List (Option V)
abbrev VK:=V->Hp->Prop
abbrev TE:=St->Hp->VK->Prop
abbrev TT:=St->Hp->(Bool->Hp->Prop)->Prop
abbrev TA:=St->Hp->(List V->Hp->Prop)->Prop
structure Ends where
 nx:St->Hp->Prop
 rt:VK
 bk:St->Hp->Prop:=fun _ _=>False
 ct:St->Hp->Prop:=fun _ _=>False
abbrev TS:=Ends->St->Hp->Prop
def EP (X:Cx)(vy:List (Addr×Obj))(U:St)(Q:VK)(u:Value)(s':Shared):Prop:=∃v H',Inv X vy U H' s'/\RelV v u/\Q v H'
def TP (X:Cx)(vy:List (Addr×Obj))(U:St)(Q:Bool->Hp->Prop)(b:Bool)(s':Shared):Prop:=∃H',Inv X vy U H' s'/\Q b H'
def AP (X:Cx)(vy:List (Addr×Obj))(U:St)(Q:List V->Hp->Prop)(us:List Value)(s':Shared):Prop:=∃vs H',Inv X vy U H' s'/\Vals vs us/\Q vs H'
def SP (X:Cx)(vy:List (Addr×Obj))(D:Ends)(f:Flow)(s':Shared):Prop:=
 match f with
 |.next=>∃U' H',Inv X vy U' H' s'/\D.nx U' H'
 |.brk=>∃U' H',Inv X vy U' H' s'/\D.bk U' H'
 |.cont=>∃U' H',Inv X vy U' H' s'/\D.ct U' H'
 |.ret u=>∃v U' H',Inv X vy U' H' s'/\RelV v u/\D.rt v H'
def PE (X:Cx)(e:Expr)(t:TE):Prop:=
 ∀(vy:List (Addr×Obj)) (s:Shared) (U:St) (H:Hp) (Q:VK),Inv X vy U H s->t U H Q->wpAny (model X.prog X.w) X.A (eval e X.env) (EP X vy U Q) X.xe s
def PT (X:Cx)(e:Expr)(t:TT):Prop:=
 ∀(vy:List (Addr×Obj)) (s:Shared) (U:St) (H:Hp) (Q:Bool->Hp->Prop),Inv X vy U H s->t U H Q->wpAny (model X.prog X.w) X.A (isTrue e X.env (eval e X.env)) (TP X vy U Q) X.xe s
def PW (X:Cx)(e:Expr)(t:TT):Prop:=
 ∀(whole:Sem Value)(vy:List (Addr×Obj)) (s:Shared) (U:St) (H:Hp) (Q:Bool->Hp->Prop),Inv X vy U H s->t U H Q->wpAny (model X.prog X.w) X.A (isTrue e X.env whole) (TP X vy U Q) X.xe s
theorem PW.pt {X:Cx}{e:Expr}{t:TT}(h:PW X e t):PT X e t:=h _
def PA (X:Cx)(es:List Expr)(t:TA):Prop:=
 ∀(pos:Pos)(vy:List (Addr×Obj)) (s:Shared) (U:St) (H:Hp) (Q:List V->Hp->Prop),Inv X vy U H s->t U H Q->wpAny (model X.prog X.w) X.A (spliced (backTo pos (starEach es X.env))) (AP X vy U Q) X.xe s
def PS (X:Cx)(st:Stmt)(t:TS):Prop:=
 ∀(vy:List (Addr×Obj)) (s:Shared) (U:St) (H:Hp) (D:Ends),Inv X vy U H s->t D U H->wpAny (model X.prog X.w) X.A (exec st X.env) (SP X vy D) X.xe s
def sJ (X:Cx)(st:List Stmt)(t:TS):Prop:=
 ∀(vy:List (Addr×Obj)) (s:Shared) (U:St) (H:Hp) (D:Ends),Inv X vy U H s->t D U H->wpAny (model X.prog X.w) X.A (execs st X.env) (SP X vy D) X.xe s
theorem bA {α:Type}{t:Sem α}{Q Q':α->Shared->Prop}{M:Model}{A:Around}{E:Value->Shared->Prop}{s:Shared}(h:wpAny M A t Q E s)(hQ:∀a s,Q a s->Q' a s):wpAny M A t Q' E s:=wpAny_mono h hQ fun _ _ x=>x
section
variable {X:Cx}
noncomputable def Za (i:Nat):TE:=fun U H Q=>∃v,U[i]?=some (some v)/\Q v H
noncomputable def tC (v:V):TE:=fun _ H Q=>Q v H
theorem LS {i:Nat}{x:Str}{pos:Pos}(hN:X.N[i]?=some x)(hv:Vis X.env.scope x)(hd:autoParam ((x==("__debug__":Str))=false) zn)(hcd:autoParam ((x==("__classdict__":Str))=false) zn):PE X (.Name x pos) (Za i):=by
 intro vy s U H Q I h;obtain⟨v,e,h⟩:=h;obtain⟨m,hn,hl⟩:=I.loc;obtain⟨u,r,l⟩:=hl i x v hN e hv;have fin:EP X vy U Q u s:=⟨v,H,I,r,h⟩
 rcases l with⟨hk,hm⟩ | ⟨hk,c,hc,hcell⟩
 .exact wpAny_Name (wpAny_loadName_local I.ok.kind hk hn hm fin) hd
 .rcases hk with hk | hk
  .exact wpAny_Name (wpAny_loadName_cell I.ok.kind hk hc hcell fin) hd
  .exact wpAny_Name (wpAny_loadName_free I.ok.kind hk hc hcell fin hcd) hd
theorem DR {i j pos}:PE X (.Constant (.int i) j pos) (tC (.int i)):=fun _ _ _ H _ I h=>wpAny_Constant_int ⟨.int i,H,I.tok _,⟨_,rfl⟩,h⟩
theorem a0Q {b j pos}:PE X (.Constant (.bool b) j pos) (tC (.bl b)):=fun _ _ _ H _ I h=>Constant_bool ⟨.bl b,H,I,rfl,h⟩
theorem Wj {j pos}:PE X (.Constant .none j pos) (tC .cR):=fun _ _ _ H _ I h=>Constant_none ⟨.cR,H,I,rfl,h⟩
theorem DQ {x j pos}:PE X (.Constant (.str x) j pos) (tC (.str x)):=fun _ _ _ H _ I h=>Calls.Constant_str ⟨.str x,H,I.tok _,⟨_,rfl⟩,h⟩
def Gl (X:Cx)(x:Str):Prop:=X.env.kindOf x=some .globalImplicit
theorem jU {E:Value->Shared->Prop}{vy:List (Addr×Obj)}{s:Shared}{U:St}{H:Hp}{x:Str}{u:Value}{pos:Pos}{Q:Value->Shared->Prop}(I:Inv X vy U H s)(hg:Gl X x)(hm:X.mg x=some u)(h:Q u s)
  (hd:autoParam ((x==("__debug__":Str))=false) zn):wpAny (model X.prog X.w) X.A (eval (.Name x pos) X.env) Q E s:=
 Calls.Name_function_global I.ok.kind hg (Calls.loadGlobal_global (by rw[I.ok.glob];exact I.mod.glob.keeps I.bk) hm h) hd
theorem qY {E:Value->Shared->Prop}{vy:List (Addr×Obj)}{s:Shared}{U:St}{H:Hp}{x:Str}{u:Value}{pos:Pos}{Q:Value->Shared->Prop}(I:Inv X vy U H s)(hg:Gl X x)(hm:X.mg x=none)(hv:bootBuiltins x=some u)(h:Q u s)
  (hn:autoParam (x≠"__name__") zn) (hd:autoParam ((x==("__debug__":Str))=false) zn):wpAny (model X.prog X.w) X.A (eval (.Name x pos) X.env) Q E s:=by
 obtain⟨mb,h1,h2⟩:=I.mod.blt;exact Calls.Name_function_global I.ok.kind hg (Calls.loadGlobal_builtin (by rw[I.ok.glob];exact I.mod.glob.keeps I.bk) hm (by rw[I.ok.blt];exact h1.keeps I.bk) ((h2 x hn).trans hv) h) hd
theorem d9 {x:Str}{v:V}{u:Value}{pos:Pos}(hg:Gl X x)(hm:X.mg x=some u)(r:RelV v u)(hd:autoParam ((x==("__debug__":Str))=false) zn):PE X (.Name x pos) (tC v):=
 fun _ _ _ H _ I h=>jU I hg hm ⟨v,H,I,r,h⟩ hd
theorem Gk {x:Str}{v:V}{u:Value}{pos:Pos}(hg:Gl X x)(hm:X.mg x=none)(hv:bootBuiltins x=some u)(r:RelV v u)(hn:autoParam (x≠"__name__") zn)(hd:autoParam ((x==("__debug__":Str))=false) zn):PE X (.Name x pos) (tC v):=
 fun _ _ _ H _ I h=>qY I hg hm hv ⟨v,H,I,r,h⟩ hn hd
variable {a b:Expr}{ta tb:TE}{pos:Pos}
noncomputable def tB (t:TE):TT:=fun U H Q=>t U H fun x H1=>∃c,x=.bl c/\Q c H1
theorem VX {e:Expr}{t:TE}(h:PE X e t)(he:autoParam (∀whole,isTrue e X.env whole=(do let v <- whole;standAt e.pos;holding [v] (truthy v))) jp):PT X e (tB t):=by
 intro vy s U H Q I hw;refine isTrue_plain (bA (h vy s U H _ I hw) fun v s1 ⟨x,H1,I1,r1,q1⟩=>?_) (he _);obtain⟨d,rfl,q⟩:=q1;cases r1;exact wpAny_truthy_bool ⟨H1,I1,q⟩
variable {tA tB':TT}{rest:List Expr}
noncomputable def a4v (t u:TT):TT:=fun U H Q=>t U H fun c H1=>if c=true then u U H1 Q else Q false H1
noncomputable def tOr (t u:TT):TT:=fun U H Q=>t U H fun c H1=>if c=true then Q true H1 else u U H1 Q
noncomputable def a4o (t:TT):TT:=fun U H Q=>t U H fun c H1=>Q (!c) H1
theorem PC (ha:PT X a tA):PW X (.BoolOp .And [a] pos) tA:=by
 intro wh vy s U H Q I h;refine isTrue_and (bA (ha vy s U H Q I h) fun c s1 e=>?_);cases c with
 |true=>exact isTrue_and_nil e
 |false=>exact e
theorem VU (ha:PT X a tA):PW X (.BoolOp .Or [a] pos) tA:=by
 intro wh vy s U H Q I h;refine isTrue_or (bA (ha vy s U H Q I h) fun c s1 e=>?_);cases c with
 |false=>exact isTrue_or_nil e
 |true=>exact e
theorem VW (ha:PT X a tA)(hb:PW X (.BoolOp .And (b::rest) pos) tB'):PW X (.BoolOp .And (a::b::rest) pos) (a4v tA tB'):=by
 intro wh vy s U H Q I h;refine isTrue_and (bA (ha vy s U H _ I h) ?_);rintro c s1 ⟨H1,I1,q1⟩;cases c with
 |true=>exact hb wh vy s1 U H1 Q I1 q1
 |false=>exact⟨H1,I1,q1⟩
theorem a0E (ha:PT X a tA)(hb:PW X (.BoolOp .Or (b::rest) pos) tB'):PW X (.BoolOp .Or (a::b::rest) pos) (tOr tA tB'):=by
 intro wh vy s U H Q I h;refine isTrue_or (bA (ha vy s U H _ I h) ?_);rintro c s1 ⟨H1,I1,q1⟩;cases c with
 |true=>exact⟨H1,I1,q1⟩
 |false=>exact hb wh vy s1 U H1 Q I1 q1
theorem VY (ha:PT X a tA):PT X (.UnaryOp .Not a pos) (a4o tA):=by
 intro vy s U H Q I h;exact isTrue_not (ha vy s U H (fun c H1=>Q (!c) H1) I h)
noncomputable def ZF (ta tb:TE):TE:=fun U H Q=>ta U H fun x H1=>∃c,x=.bl c/\if c=true then tb U H1 Q else Q (.bl false) H1
noncomputable def a4n (ta tb:TE):TE:=fun U H Q=>ta U H fun x H1=>∃c,x=.bl c/\if c=true then Q (.bl true) H1 else tb U H1 Q
noncomputable def Zj (ta:TE):TE:=fun U H Q=>ta U H fun x H1=>∃c,x=.bl c/\Q (.bl (!c)) H1
theorem Wh {op}{t:TE}(h:PE X a t):PE X (.BoolOp op [a] pos) t:=fun vy s U H Q I hw=>BoolOp_one (h vy s U H Q I hw)
theorem Wn (ha:PE X a ta)(hb:PE X (.BoolOp .And (b::rest) pos) tb):PE X (.BoolOp .And (a::b::rest) pos) (ZF ta tb):=by
 intro vy s U H Q I h;refine BoolOp_and (bA (ha vy s U H _ I h) ?_);rintro v s1 ⟨x,H1,I1,r1,q1⟩;obtain⟨c,rfl,q1⟩:=q1;cases r1;refine wpAny_truthy_bool ?_;cases c with
 |true=>exact hb vy s1 U H1 Q I1 q1
 |false=>exact⟨.bl false,H1,I1,rfl,q1⟩
theorem a0M (ha:PE X a ta)(hb:PE X (.BoolOp .Or (b::rest) pos) tb):PE X (.BoolOp .Or (a::b::rest) pos) (a4n ta tb):=by
 intro vy s U H Q I h;refine BoolOp_or (bA (ha vy s U H _ I h) ?_);rintro v s1 ⟨x,H1,I1,r1,q1⟩;obtain⟨c,rfl,q1⟩:=q1;cases r1;refine wpAny_truthy_bool ?_;cases c with
 |false=>exact hb vy s1 U H1 Q I1 q1
 |true=>exact⟨.bl true,H1,I1,rfl,q1⟩
theorem Wi (ha:PE X a ta):PE X (.UnaryOp .Not a pos) (Zj ta):=by
 intro vy s U H Q I h;refine UnaryOp_ (bA (ha vy s U H _ I h) ?_);rintro v s1 ⟨x,H1,I1,r1,q1⟩;obtain⟨c,rfl,q1⟩:=q1;cases r1;exact not_of (wpAny_truthy_bool ⟨.bl (!c),H1,I1,rfl,q1⟩)
noncomputable def tIf (t:TT)(ta tb:TE):TE:=fun U H Q=>t U H fun c H1=>if c=true then ta U H1 Q else tb U H1 Q
theorem LV {c:Expr}(hc:PT X c tA)(ha:PE X a ta)(hb:PE X b tb):PE X (.IfExp c a b pos) (tIf tA ta tb):=by
 intro vy s U H Q I h;refine wpAny_IfExp (bA (hc vy s U H _ I h) ?_);rintro d s1 ⟨H1,I1,q1⟩;cases d with
 |true=>exact ha vy s1 U H1 Q I1 q1
 |false=>exact hb vy s1 U H1 Q I1 q1
end
def jx (K:PySem.W.Frag)(H:Hp)(a:Addr)(xs:List V):Prop:=
 Rd H a (.lst xs)∨
  ∃(o:Obj)(AC:Array Value)(n:Nat),K.lookup a=some o/\o.cls=.type "list"/\o.dict=none/\o.data=.seq AC n/\AC.size<=sizeLine/\Vals xs AC.toList/\∀x∈xs,I9 x
def lM (K:PySem.W.Frag)(H:Hp)(a:Addr)(xs:List V):Prop:=
 Rd H a (.tup xs)∨
  ∃(o:Obj)(AC:Array Value)(n:Nat),K.lookup a=some o/\o.cls=.type "tuple"/\o.data=.seq AC n/\AC.size<=sizeLine/\Vals xs AC.toList/\∀x∈xs,I9 x
noncomputable def a6Y:Value->Option V
 |.none=>some .cR
 |.bool b=>some (.bl b)
 |.int i _=>some (.int i)
 |.str x _=>some (.str x)
 |.bytes b _=>some (.Jg b)
 |.ref a=>some (.ref a)
 |.type n=>some (.ty n)
 |_=>none
theorem RelV.abs {x:V}{u:Value}(n:I9 x)(r:RelV x u):a6Y u=some x:=by
 cases x with
 |cR=>cases r;rfl
 |bl _=>cases r;rfl
 |int _=>obtain⟨t,rfl⟩:=r;rfl
 |str _=>obtain⟨t,rfl⟩:=r;rfl
 |Jg _=>obtain⟨t,rfl⟩:=r;rfl
 |sn _=>exact n.elim
 |ref _=>cases r;rfl
 |ty _=>cases r;rfl
theorem Vals.inj:∀{xs ys:List V}{us:List Value},(∀x∈xs,I9 x)->(∀x∈ys,I9 x)->Vals xs us->Vals ys us->xs=ys
 |_,_,_,_,_,.nil,.nil=>rfl
 |_,_,_,n,m,.cons r t,.cons r' t'=>by rw[Option.some.inj ((r.abs (n _ (List.mem_cons_self ..))).symm.trans (r'.abs (m _ (List.mem_cons_self ..)))),Vals.inj (fun x h=>n x (List.mem_cons_of_mem _ h)) (fun x h=>m x (List.mem_cons_of_mem _ h)) t t']
section
variable {X:Cx}{vy:List (Addr×Obj)}{U:St}{H:Hp}{s:Shared}{a:Addr}{xs ys:List V}
theorem jx.of {K:PySem.W.Frag}(h:H a=some (.lst xs)):jx K H a xs:=.inl (.inl h)
theorem lM.of {K:PySem.W.Frag}(h:H a=some (.tup xs)):lM K H a xs:=.inl (.inl h)
theorem Inv.list (I:Inv X vy U H s)(h:jx X.K H a xs):∃AC:List Value,Vals xs AC/\PlainL s.heap a AC.toArray/\xs.length<=sizeLine:=by
 rcases h with h | ⟨o,AC,n,hk,hc,hd,hs,hz,r,_⟩
 .obtain⟨z,AC,n,r,e⟩:=h.ok I.hok;exact⟨AC,r,⟨_,n,e,rfl,rfl,rfl⟩,z⟩
 .refine⟨AC.toList,r,⟨o,n,I.iW a o hk,hc,hd,by simpa using hs⟩,?_⟩;have e:=r.length;simp only[Array.length_toList] at e;omega
theorem Inv.tuple (I:Inv X vy U H s)(h:lM X.K H a xs):∃AC:List Value,Vals xs AC/\IsTup s.heap a AC.toArray/\xs.length<=sizeLine:=by
 rcases h with h | ⟨o,AC,n,hk,hc,hs,hz,r,_⟩
 .obtain⟨z,AC,r,p⟩:=h.ok I.hok;exact⟨AC,r,p,z⟩
 .refine⟨AC.toList,r,⟨o,I.iW a o hk,hc,n,by simpa using hs⟩,?_⟩;have e:=r.length;simp only[Array.length_toList] at e;omega
theorem Rd.uL (h:Rd H a (.lst xs))(h':Rd H a (.lst ys)):xs=ys:=by
 rcases h with h | ⟨o,h⟩<;>rcases h' with h' | ⟨o',h'⟩<;>rw[h] at h'<;>cases h'<;>rfl
theorem Rd.uT (h:Rd H a (.tup xs))(h':Rd H a (.tup ys)):xs=ys:=by
 rcases h with h | ⟨o,h⟩<;>rcases h' with h' | ⟨o',h'⟩<;>rw[h] at h'<;>cases h'<;>rfl
theorem Inv.noK (I:Inv X vy U H s){o:Obj}{u:HO}(h:X.K.lookup a=some o)(h':Rd H a u):False:=by
 have z:=(I.bs a o (I.ok.mod.Oo a o h)).2;rcases h' with h' | ⟨o',h'⟩<;>rw[h'] at z<;>cases z
theorem Inv.MF (I:Inv X vy U H s)(h:jx X.K H a xs)(h':jx X.K H a ys):xs=ys:=by
 rcases h with h | ⟨o,AC,n,hk,_,_,hs,_,r,m⟩<;>rcases h' with h' | ⟨o',its',n',hk',_,_,hs',_,r',m'⟩
 .exact h.uL h'
 .exact(I.noK hk' h).elim
 .exact(I.noK hk h').elim
 .rw[hk] at hk';cases hk';rw[hs] at hs';cases hs';exact Vals.inj m m' r r'
theorem Inv.Hz (I:Inv X vy U H s)(h:lM X.K H a xs)(h':lM X.K H a ys):xs=ys:=by
 rcases h with h | ⟨o,AC,n,hk,_,hs,_,r,m⟩<;>rcases h' with h' | ⟨o',its',n',hk',_,hs',_,r',m'⟩
 .exact h.uT h'
 .exact(I.noK hk' h).elim
 .exact(I.noK hk h').elim
 .rw[hk] at hk';cases hk';rw[hs] at hs';cases hs';exact Vals.inj m m' r r'
end
abbrev Cx.xm (X:Cx)(E:Value->Shared->Prop):Cx:={X with xe:=E }
abbrev Cx.YE (X:Cx):Cx:=X.xm fun _ _=>False
theorem Cx.Ok.xm {X:Cx}(ok:X.Ok)(E:Value->Shared->Prop):(X.xm E).Ok:=
 ⟨ok.mod,ok.kind,ok.glob,ok.blt,ok.above,ok.inj,ok.has,ok.Uh,ok.hd,ok.frames,ok.stk,ok.XD,ok.bs,ok.IX,ok.BJ,ok.Cg,ok.nS,ok.Ov⟩
theorem Cx.Ok.kG {X:Cx}{E:Value->Shared->Prop}(ok:(X.xm E).Ok):X.Ok:=
 ⟨ok.mod,ok.kind,ok.glob,ok.blt,ok.above,ok.inj,ok.has,ok.Uh,ok.hd,ok.frames,ok.stk,ok.XD,ok.bs,ok.IX,ok.BJ,ok.Cg,ok.nS,ok.Ov⟩
section
variable {X:Cx}{vy:List (Addr×Obj)}{U:St}{H:Hp}{s:Shared}{E:Value->Shared->Prop}
theorem Inv.xm (I:Inv X vy U H s)(E:Value->Shared->Prop):Inv (X.xm E) vy U H s:=⟨I.ok.xm E,I.os,I.bare,I.base,I.loc,I.cell,I.free,I.iy,I.pin,I.hok,I.len⟩
theorem Inv.kG (I:Inv (X.xm E) vy U H s):Inv X vy U H s:=⟨I.ok.kG,I.os,I.bare,I.base,I.loc,I.cell,I.free,I.iy,I.pin,I.hok,I.len⟩
theorem SP.kG {D:Ends}{f:Flow}{s':Shared}(h:SP (X.xm E) vy D f s'):SP X vy D f s':=by
 cases f with
 |next=>obtain⟨U',H',I,q⟩:=h;exact⟨U',H',I.kG,q⟩
 |brk=>obtain⟨U',H',I,q⟩:=h;exact⟨U',H',I.kG,q⟩
 |cont=>obtain⟨U',H',I,q⟩:=h;exact⟨U',H',I.kG,q⟩
 |ret u=>obtain⟨v,U',H',I,r,q⟩:=h;exact⟨v,U',H',I.kG,r,q⟩
theorem sJ.YE {st:List Stmt}{t:TS}(h:sJ X.YE st t):sJ X st t:=fun vy s U H D I hw=>
 wpAny_mono (h vy s U H D (I.xm _) hw) (fun _ _ q=>q.kG) fun _ _ z=>False.elim z
end
section
variable {X:Cx}{st:Stmt}{rest:List Stmt}{t u:TS}{e:Expr}{te:TE}{pos:Pos}
noncomputable def Zn:TS:=fun D U H=>D.nx U H
noncomputable def Ze (t u:TS):TS:=fun D U H=>t {D with nx:=u D } U H
theorem PL:sJ X [] Zn:=fun _ _ U H _ I h=>wpAny_execs_nil ⟨U,H,I,h⟩
theorem Bu (h1:PS X st t)(h2:sJ X rest u):sJ X (st::rest) (Ze t u):=by
 intro vy s U H D I h;refine wpAny_execs_cons (bA (h1 vy s U H {D with nx:=u D } I h) fun f s1 q=>?_);cases f with
 |next=>
  obtain⟨U',H',I',q⟩:=q;exact h2 vy s1 U' H' D I' q
 |ret v=>exact q
 |brk=>exact q
 |cont=>exact q
theorem zM (h1:PS X st t):sJ X [st] t:=by
 intro vy s U H D I h;refine wpAny_execs_cons (bA (h1 vy s U H D I h) fun f s1 q=>?_);cases f with
 |next=>exact wpAny_execs_nil q
 |ret v=>exact q
 |brk=>exact q
 |cont=>exact q
theorem Inv.quiet {vy:List (Addr×Obj)}{U:St}{H:Hp}{s:Shared}(I:Inv X vy U H s):interactive X.env=false:=by simp[interactive,I.ok.kind]
noncomputable def Zv (te:TE):TS:=fun D U H=>te U H fun _ H1=>D.nx U H1
theorem zN (he:PE X e te)(hs:autoParam (swapsWith e none pos.line X.env=pure false) zi):PS X (.Expr e pos) (Zv te):=by
 intro vy s U H D I h;exact wpAny_Expr_any (bA (he vy s U H _ I h) (by rintro v s1 ⟨x,H1,I1,r1,q1⟩;exact⟨U,H1,I1,q1⟩)) I.quiet hs
noncomputable def Zf (te:TE):TS:=fun D U H=>te U H D.rt
theorem V2 (he:PE X e te):PS X (.Return (some e) pos) (Zf te):=by
 intro vy s U H D I h;exact wpAny_Return_some (bA (he vy s U H _ I h) (by rintro v s1 ⟨x,H1,I1,r1,q1⟩;exact⟨x,U,H1,I1,r1,q1⟩))
noncomputable def a4p (c:TT)(t u:TS):TS:=fun D U H=>c U H fun b H1=>if b=true then t D U H1 else u D U H1
theorem a0I {c:Expr}{a b:List Stmt}{tc:TT}(hc:PT X c tc)(ha:sJ X a t)(hb:sJ X b u):PS X (.If c a b pos) (a4p tc t u):=by
 intro vy s U H D I h;refine wpAny_If (bA (hc vy s U H _ I h) ?_);rintro d s1 ⟨H1,I1,q1⟩;cases d with
 |true=>exact ha vy s1 U H1 D I1 q1
 |false=>exact hb vy s1 U H1 D I1 q1
noncomputable def Kq:TS:=fun _ _ _=>False
theorem LH:PS X st Kq:=fun _ _ _ _ _ _ h=>h.elim
theorem HK {sts:List Stmt}:sJ X sts Kq:=fun _ _ _ _ _ _ h=>h.elim
end
abbrev TG:=V->St->Hp->(St->Hp->Prop)->Prop
abbrev N6:=List V->St->Hp->(St->Hp->Prop)->Prop
def PG (X:Cx)(target:Expr)(t:TG):Prop:=
 ∀(vy:List (Addr×Obj)) (s:Shared) (U:St) (H:Hp) (v:V) (u:Value) (Q:St->Hp->Prop),Inv X vy U H s->RelV v u->t v U H Q->
  wpAny (model X.prog X.w) X.A (assign target X.env u) (fun _ s'=>∃U' H',Inv X vy U' H' s'/\Q U' H') X.xe s
def Up (X:Cx)(ts:List Expr)(t:N6):Prop:=
 ∀(vy:List (Addr×Obj)) (s:Shared) (U:St) (H:Hp) (vs:List V) (us:List Value) (Q:St->Hp->Prop),Inv X vy U H s->Vals vs us->t vs U H Q->
  wpAny (model X.prog X.w) X.A (assignInOrder ((assignEach ts X.env).map (·.2)) us) (fun _ s'=>∃U' H',Inv X vy U' H' s'/\Q U' H') X.xe s
abbrev N4:=V->V->V->Hp->(Hp->Prop)->Prop
def YA (X:Cx)(t:N4):Prop:=
 ∀(vy:List (Addr×Obj)) (s:Shared) (U:St) (H:Hp) (o i v:V) (ov iv u:Value) (Q:Hp->Prop),Inv X vy U H s->RelV o ov->RelV i iv->RelV v u->t o i v H Q->
  wpAny (model X.prog X.w) X.A (setItem ov iv u) (fun _ s'=>∃H',Inv X vy U H' s'/\Q H') X.xe s
abbrev YR:=V->V->Hp->VK->Prop
def PIp (X:Cx)(op:Operator)(t:YR):Prop:=
 ∀(vy:List (Addr×Obj)) (s:Shared) (U:St) (H:Hp) (x y:V) (v u:Value) (Q:VK),Inv X vy U H s->RelV x v->RelV y u->t x y H Q->
  wpAny (model X.prog X.w) X.A (inplaceOp op v u) (EP X vy U Q) X.xe s
section
variable {X:Cx}{pos:Pos}
noncomputable def GK (i:Nat):TG:=fun v U H Q=>Q (U.set i (some v)) H
theorem Gh {i:Nat}{x:Str}(hN:X.N.Nodup)(hi:X.N[i]?=some x)(hx:Loc X.env.scope x)(hf:autoParam (X.fn x=true∨X.env.scope.names.lookup x=some .local) zr):PG X (.Name x pos) (GK i):=by
 intro vy s U H v u Q I r h;exact wpAny_assign_Name (kH I hN hi hx r (fun s' I'=>⟨_,H,I',h⟩) hf)
noncomputable def a6o:N6:=fun vs U H Q=>vs=[]/\Q U H
noncomputable def a2h (t:TG)(u:N6):N6:=fun vs U H Q=>∃v r,vs=v::r/\t v U H fun U' H'=>u r U' H' Q
theorem P4:Up X [] a6o:=by
 intro vy s U H vs us Q I r h;obtain⟨e,h⟩:=h;subst e;cases r;exact assignInOrder_nil ⟨U,H,I,h⟩
theorem LQ {e:Expr}{es:List Expr}{t:TG}{u:N6}(h1:PG X e t)(h2:Up X es u)
  (hs:autoParam ((assignEach (e::es) X.env).map (·.2)=assign e X.env::(assignEach es X.env).map (·.2)) zi):Up X (e::es) (a2h t u):=by
 intro vy s U H vs us Q I r h;obtain⟨v,vr,e1,h⟩:=h;subst e1;cases r with
 |cons r rr=>
  rw[hs];refine assignInOrder_cons (bA (h1 vy s U H _ _ _ I r h) ?_);rintro _ s1 ⟨σ1,H1,I1,q1⟩;exact h2 vy s1 σ1 H1 _ _ Q I1 rr q1
noncomputable def a6l (K:PySem.W.Frag)(n:Nat)(t:N6):TG:=fun v U H Q=>∃a xs,v=.ref a/\lM K H a xs/\xs.length=n/\t xs U H Q
theorem Wd {es:List Expr}{k:Nat}{t:N6}{n:Nat}(hc:X.calm=true)(h:Up X es t)
  (hn:autoParam ((assignEach es X.env).length=n) zi) (hst:autoParam ((assignEach es X.env).findIdx? (·.1)=none) zi):PG X (.Tuple es k pos) (a6l X.K n t):=by
 intro vy s U H v u Q I r hw;obtain⟨a,xs,e1,hq,hl,hw⟩:=hw;subst e1;cases r;obtain⟨AC,rv,ht,hz⟩:=I.tuple hq;refine assign_Tuple_tuple (I.ok.hd hc) ht (by simp[hn,<- hl,rv.length]) hst fun h' hx=>?_;have I1:Inv X vy U H {s with heap:=h' }:=I.kept (t':=s.toks) fun b o e=>hx b o (Nat.ne_of_lt (Heap.lt_size e)) e;exact h vy _ U H xs _ Q I1 (by simpa using rv) hw
noncomputable def a6m (to ti:TE)(t:N4):TG:=fun v U H Q=>to U H fun o H1=>ti U H1 fun i H2=>t o i v H2 fun H3=>Q U H3
theorem We {o i:Expr}{to ti:TE}{t:N4}(ho:PE X o to)(hi:PE X i ti)(hs:YA X t)
  (ha:autoParam (∀v,assign (.Subscript o i pos) X.env v=(do
   let ov <- holding [v] (eval o X.env)
   let iv <- holding [v,ov] (eval i X.env)
   standAt pos
   holding [v,ov,iv] (setItem ov iv v)
   release [v,ov,iv] [])) jp):PG X (.Subscript o i pos) (a6m to ti t):=by
 intro vy s U H v u Q I r h;rw[ha];refine wpAny_bind (wpAny_holding (bA (ho vy s U H _ I h) ?_));rintro ov s1 ⟨x,H1,I1,r1,q1⟩;refine wpAny_bind (wpAny_holding (bA (hi vy s1 U H1 _ I1 q1) ?_));rintro iv s2 ⟨y,H2,I2,r2,q2⟩;refine wpAny_bind (wpAny_standAt (wpAny_bind (wpAny_holding (bA (hs vy s2 U H2 x y v ov iv u _ I2 r1 r2 r q2) ?_))));rintro _ s3 ⟨H3,I3,q3⟩;exact wpAny_release ⟨U,H3,I3,q3⟩
noncomputable def ON (te:TE)(g:TG):TS:=fun D U H=>te U H fun x H1=>g x U H1 D.nx
theorem V6 {tg e:Expr}{te:TE}{g:TG}(he:PE X e te)(hg:PG X tg g)(hs:autoParam (swapsWithSole [tg] e pos.line X.env=pure false) zi)(hw:autoParam (swappedStores [tg] e X.env=pure none) zi)
  (h1:autoParam ((assignEach [tg] X.env).map (·.2)=[assign tg X.env]) zi):PS X (.Assign [tg] e pos) (ON te g):=by
 intro vy s U H D I h;refine wpAny_Assign_stores (bA (he vy s U H _ I h) fun v s1 ⟨x,H1,I1,r1,q1⟩=>?_) hs hw;rw[h1];exact bA (hg vy s1 U H1 x v _ I1 r1 q1) fun _ s2 q=>q
theorem V1 {i:Nat}{x:Str}{e:Expr}{te:TE}{pos':Pos}(hN:X.N.Nodup)(hi:X.N[i]?=some x)(hx:Loc X.env.scope x)(he:PE X e te)(hs:autoParam (swapsWith e (some (.Name x pos')) pos.line X.env=pure false) zi)(hf:autoParam (X.fn x=true∨X.env.scope.names.lookup x=some .local) zr) :
  PS X (.Assign [.Name x pos'] e pos) (ON te (GK i)):=by
 intro vy s U H D I h;refine wpAny_Assign_Name (bA (he vy s U H _ I h) fun v s1 ⟨y,H1,I1,r1,q1⟩=>?_) hs;exact kH I1 hN hi hx r1 (fun s2 I2=>⟨_,H1,I2,q1⟩) hf
noncomputable def a4t (i:Nat)(te:TE)(ti:YR):TS:=fun D U H=>∃x,U[i]?=some (some x)/\te U H fun y H1=>ti x y H1 fun z H2=>D.nx (U.set i (some z)) H2
theorem V5 {i:Nat}{x:Str}{e:Expr}{te:TE}{op:Operator}{ti:YR}{pos':Pos}(hN:X.N.Nodup)(hi:X.N[i]?=some x)(hx:Loc X.env.scope x)(he:PE X e te)(ho:PIp X op ti)(hf:autoParam (X.fn x=true∨X.env.scope.names.lookup x=some .local) zr) :
  PS X (.AugAssign (.Name x pos') op e pos) (a4t i te ti):=by
 intro vy s U H D I h;obtain⟨v,e1,h⟩:=h;obtain⟨m,hn,hl⟩:=I.loc;have vis:Vis X.env.scope x:=by rcases hx with k | k;exact .inl k;exact .inr (.inl k)
 obtain⟨u,r,l⟩:=hl i x v hi e1 vis;refine wpAny_AugAssign_Name ?_;have go:wpAny (model X.prog X.w) X.A (eval e X.env) (fun w s₂=>wpAny (model X.prog X.w) X.A (inplaceOp op u w) (fun r s₃=>wpAny (model X.prog X.w) X.A (storeName X.env x r) (fun _=>SP X vy D .next) X.xe s₃) X.xe s₂) X.xe s:=by
  refine bA (he vy s U H _ I h) ?_;rintro w s1 ⟨y,H1,I1,r1,q1⟩;refine bA (ho vy s1 U H1 v y u w _ I1 r r1 q1) ?_;rintro z s2 ⟨zv,H2,I2,r2,q2⟩;exact kH I2 hN hi hx r2 (fun s3 I3=>⟨_,H2,I3,q2⟩) hf
 rcases l with⟨hk,hm⟩ | ⟨hk,c,hc,hcell⟩
 .exact wpAny_loadName_local I.ok.kind hk hn hm go
 .rcases hk with hk | hk
  .exact wpAny_loadName_cell I.ok.kind hk hc hcell go
  .rcases hx with k | k
   .have:X.env.scope.names.lookup x=some .free:=hk;rw[k] at this;cases this
   .have:X.env.scope.names.lookup x=some .free:=hk;rw[k] at this;cases this
noncomputable def ZC (to ti te:TE)(OH:V->V->Hp->VK->Prop)(tip:YR)(OF:N4):TS:=fun D U H=>to U H fun o H1=>ti U H1 fun i H2=>OH o i H2 fun x H3=>te U H3 fun y H4=>tip x y H4 fun z H5=>OF o i z H5 fun H6=>D.nx U H6
def a2X (X:Cx)(t:V->V->Hp->VK->Prop):Prop:=
 ∀(vy:List (Addr×Obj)) (s:Shared) (U:St) (H:Hp) (o i:V) (ov iv:Value) (Q:VK),Inv X vy U H s->RelV o ov->RelV i iv->t o i H Q->
  wpAny (model X.prog X.w) X.A (getItem ov iv) (EP X vy U Q) X.xe s
theorem PU {o i e:Expr}{to ti te:TE}{OH:V->V->Hp->VK->Prop}{tip:YR}{OF:N4}{op:Operator}{tpos:Pos}(ho:PE X o to)(hi:PE X i ti)(hg:a2X X OH)(he:PE X e te)(hp:PIp X op tip)(hs:YA X OF)
  (ha:autoParam (∀ov iv new,augStore i ov iv new=(do holding [new,ov,iv] (setItem ov iv new);release [new,ov,iv] [];pure .next)) kn):PS X (.AugAssign (.Subscript o i tpos) op e pos) (ZC to ti te OH tip OF):=by
 intro vy s U H D I h;refine wpAny_AugAssign_SubscriptAny (bA (ho vy s U H _ I h) fun ov s1 ⟨x1,H1,I1,r1,q1⟩=>?_) ha;refine bA (hi vy s1 U H1 _ I1 q1) ?_;rintro iv s2 ⟨x2,H2,I2,r2,q2⟩;refine bA (hg vy s2 U H2 x1 x2 ov iv _ I2 r1 r2 q2) ?_;rintro old s3 ⟨x3,H3,I3,r3,q3⟩;refine bA (he vy s3 U H3 _ I3 q3) ?_;rintro v s4 ⟨x4,H4,I4,r4,q4⟩;refine bA (hp vy s4 U H4 x3 x4 old v _ I4 r3 r4 q4) ?_;rintro new s5 ⟨x5,H5,I5,r5,q5⟩;exact bA (hs vy s5 U H5 x1 x2 x5 ov iv new _ I5 r1 r2 r5 q5) (by rintro _ s6 ⟨H6,I6,q6⟩;exact⟨U,H6,I6,q6⟩)
noncomputable def ipI (f:Int->Int->Int):YR:=fun x y H Q=>∃i j,x=.int i/\y=.int j/\Q (.int (f i j)) H
theorem M1:PIp X .Add (ipI fun i j=>i+j):=by
 intro vy s U H x y v u Q I r1 r2 h;obtain⟨i,j,e1,e2,q⟩:=h;subst e1;subst e2;obtain⟨t,rfl⟩:=r1;obtain⟨t',rfl⟩:=r2;exact iadd_int ⟨.int _,H,I.tok _,⟨_,rfl⟩,q⟩
end
section
variable {X:Cx}{pos:Pos}
noncomputable def US (c:TT)(tb:TS):TS:=fun D U H=>∃W:Nat->St->Hp->Prop,(∃m,W m U H)/\∀m U H,W m U H->
 c U H fun b H1=>if b=true then ∃N:St->Hp->Prop,(∀U' H',N U' H'->∃m',m' < m/\W m' U' H')/\tb {D with nx:=N,ct:=N,bk:=D.nx } U H1 else D.nx U H1
theorem LG {c:Expr}{body:List Stmt}{tc:TT}{tb:TS}(hp:PassesOwn (model X.prog X.w) X.A X.env X.xe)(hc:PT X c tc)(hb:sJ X body tb):PS X (.While c body [] pos) (US tc tb):=by
 intro vy s U H D I h;obtain⟨W,⟨m0,w0⟩,turn⟩:=h;refine wpAny_While (codeAny_whileLoop (fun n s'=>∃U' H',Inv X vy U' H' s'/\W n U' H') ?_ m0 ⟨U,H,I,w0⟩);rintro n s1 ⟨σ1,H1,I1,w1⟩;refine wpAny_passesOwn hp (bA (hc vy s1 σ1 H1 _ I1 (turn n σ1 H1 w1)) ?_);rintro b s2 ⟨H2,I2,q2⟩;cases b with
 |true=>
  obtain⟨N,hN,q2⟩:=q2;rw[if_pos rfl];refine wpAny_passesOwn hp (bA (hb vy s2 σ1 H2 _ I2 q2) fun f s3 q3=>?_);cases f with
  |next=>
   obtain⟨σ3,H3,I3,n3⟩:=q3;obtain⟨m',hm,w3⟩:=hN σ3 H3 n3;exact⟨m',hm,σ3,H3,I3,w3⟩
  |cont=>
   obtain⟨σ3,H3,I3,n3⟩:=q3;obtain⟨m',hm,w3⟩:=hN σ3 H3 n3;exact⟨m',hm,σ3,H3,I3,w3⟩
  |brk=>exact q3
  |ret v=>exact q3
 |false=>
  rw[if_neg Bool.false_ne_true];exact wpAny_execs_nil ⟨σ1,H2,I2,q2⟩
end
structure It where
 go:Nat->Hp->Prop
 C5:Nat->Hp->V->Hp->Prop
 stop:Nat->Hp->Prop
def tH (X:Cx)(vy:List (Addr×Obj))(H:Hp)(b:Addr):Prop:=
 H b=none/\b≠X.env.locals/\b∉X.fs/\(b∈X.ex∨X.s₀.heap.objs.size<=b)/\(∀x c,X.env.cells.lookup x=some c->c≠b)/\∀p∈X.pn++vy,p.1≠b
theorem Inv.Cf {X:Cx}{vy:List (Addr×Obj)}{U:St}{H H':Hp}{s:Shared}{b:Addr}(I:Inv X vy U H s)(hb:s.heap.objs.size<=b)(hn:H' b=none):tH X vy H' b:=by
 refine⟨hn,Nat.ne_of_gt (Nat.lt_of_lt_of_le I.lt hb),I.a05 hb,.inr (Nat.le_trans I.sz hb),fun x c e z=>?_,fun p hp z=>?_⟩
 .obtain⟨v,q⟩:=I.cell x c e;exact absurd (Nat.lt_of_lt_of_le q.lt (by rw[z];exact hb)) (Nat.lt_irrefl _)
 .exact absurd (Nat.lt_of_lt_of_le (Heap.lt_size (I.pin p hp).1) (by rw[z];exact hb)) (Nat.lt_irrefl _)
structure Turn (P:Program)(w:World)(K:PySem.W.Frag)(tg:Expr)(J:It)(fp:List Addr)(it:Addr)(tn:Nat->Heap->Prop):Prop where
 mem:it∈fp
 obj:∀i h,tn i h->∀b∈fp,∃o,h.get? b=some o/\∀v,o.data≠.cell v
 keep:∀i h h',tn i h->(∀b∈fp,∀o,h.get? b=some o->h'.get? b=some o)->tn i h'
 item:∀(X:Cx),X.prog=P->X.w=w->X.K=K->X.calm=true->∀(i:Nat)(vy:List (Addr×Obj)) (s:Shared) (U:St) (H:Hp) (E:Value->Shared->Prop),Inv X vy U H s->(∀b∈fp,tH X vy H b)->tn i s.heap->J.go i H->
  wpAny (model P w) X.A (pyNext (.ref it)) (fun r s1=>∃u,r=some u/\
   wpAny (model P w) X.A (letOwnedTupleGo tg (.ref it) u) (fun _ s2=>∃x H',Inv X vy U H' s2/\RelV x u/\J.C5 i H x H'/\tn (i+1) s2.heap/\∀b∈fp,H' b=none) E s1) E s
 done:∀(X:Cx),X.prog=P->X.w=w->X.K=K->X.calm=true->∀(i:Nat)(vy:List (Addr×Obj)) (s:Shared) (U:St) (H:Hp) (E:Value->Shared->Prop),Inv X vy U H s->(∀b∈fp,tH X vy H b)->tn i s.heap->J.stop i H->
  wpAny (model P w) X.A (pyNext (.ref it)) (fun r s1=>r=none/\Inv X vy U H s1) E s
 self:∀(A:Around)(i:Nat)(s:Shared)(Q:Value->Shared->Prop)(E:Value->Shared->Prop),tn i s.heap->Q (.ref it) s->wpAny (model P w) A (pyIter (.ref it)) Q E s
abbrev TI:=St->Hp->(It->Hp->Prop)->Prop
def PIE (X:Cx)(vy:List (Addr×Obj))(U:St)(tg:Expr)(R:It->Hp->Prop)(itv:Value)(s2:Shared):Prop:=
 ∃(it:Addr)(fp:List Addr)(tn:Nat->Heap->Prop)(J:It)(H':Hp),itv=.ref it/\Inv X vy U H' s2/\Turn X.prog X.w X.K tg J fp it tn/\tn 0 s2.heap/\(∀b∈fp,tH X vy H' b)/\R J H'
def PI (X:Cx)(tg iter:Expr)(wi:TI):Prop:=
 ∀(vy:List (Addr×Obj)) (s:Shared) (U:St) (H:Hp) (R:It->Hp->Prop),Inv X vy U H s->wi U H R->
  wpAny (model X.prog X.w) X.A (eval iter X.env) (fun v s1=>wpAny (model X.prog X.w) X.A (pyIter v) (PIE X vy U tg R) X.xe s1) X.xe s
theorem sy {M:Model}{A:Around}{E:Value->Shared->Prop}{s:Shared}{tg:Expr}{it:Addr}{u:Value}{o:Obj}{n:String}{vs:Array Value}{Q:Unit->Shared->Prop}(ho:s.heap.get? it=some o)(hc:o.cls=.type n)(hd:o.data=.fields vs)
  (hn:["enumerate","zip","dict_itemiterator","dict_reverseitemiterator","odict_iterator","itertools.zip_longest","itertools.pairwise"].contains n=false) (hQ:Q () s):wpAny M A (letOwnedTupleGo tg (.ref it) u) Q E s:=by
 unfold letOwnedTupleGo;cases tg<;>first
  |exact wpAny_pure hQ
  |(cases u<;>first
    |exact wpAny_pure hQ
    |(
      refine wpAny_bind (wpAny_load ho ?_);rw[hc,hd];show wpAny M A (if(["enumerate","zip","dict_itemiterator","dict_reverseitemiterator","odict_iterator","itertools.zip_longest","itertools.pairwise"].contains n&&vs[0]? ==some (rawInt _))=true then _ else _) Q E s;rw[if_neg (by intro h;rw[hn,Bool.false_and] at h;cases h)];exact wpAny_pure hQ))
noncomputable def Itl (K:PySem.W.Frag)(a:Addr):It:=
 ⟨fun i H=>∃xs x,jx K H a xs/\xs[i]?=some x,fun i H x H'=>H'=H/\∀xs,jx K H a xs->xs[i]?=some x,fun i H=>∃xs,jx K H a xs/\xs.length<=i⟩
noncomputable def Itt (K:PySem.W.Frag)(a:Addr):It:=
 ⟨fun i H=>∃xs x,lM K H a xs/\xs[i]?=some x,fun i H x H'=>H'=H/\∀xs,lM K H a xs->xs[i]?=some x,fun i H=>∃xs,lM K H a xs/\xs.length<=i⟩
noncomputable def Itr (lo:Int)(n:Nat):It:=⟨fun i _=>i<n,fun i H x H'=>H'=H/\x=.int (lo+i),fun i _=>n<=i⟩
theorem Hx {P:Program}{w:World}{K:PySem.W.Frag}{tg:Expr}(a it:Addr):Turn P w K tg (Itl K a) [it] it (fun i h=>h.IsListIter it a i) where
 mem:=by simp
 obj:=fun i h st b hb=>by
  have e:b=it:=by simpa using hb
  subst e;obtain⟨o,e,c,d⟩:=st;exact⟨o,e,fun v z=>by rw[d] at z;cases z⟩
 keep:=fun i h h' st k=>st.at fun o e=>k it (by simp) o e
 item:=by
  intro X hP hw hK hc i vy s U H E I hf st hg;subst hP hw hK;obtain⟨xs,x,hq,hx⟩:=hg;obtain⟨AC,rv,p,hz⟩:=I.list hq;obtain⟨u,hu,ru⟩:=rv.get hx;obtain⟨f0,f1,f2,f3,f4,f5⟩:=hf it (by simp);refine wpAny_pyNext_list_item st p.isList (x:=u) (by simpa using hu) fun h' st' sb=>?_;have I1:Inv X vy U H {s with heap:=h' }:=I.turned (t':=s.toks) (fun b o hb e=>(sb.2 b hb).trans e) f0 f1 f3 f4 f5;obtain⟨o,e,c,d⟩:=id st';exact⟨u,rfl,sy (s:={s with heap:=h' }) e c d (by decide) ⟨x,H,I1,ru,⟨rfl,fun ys hy=>by rw[I.MF hy hq];exact hx⟩,st',fun b hb=>(hf b hb).1⟩⟩
 done:=by
  intro X hP hw hK hc i vy s U H E I hf st hg;subst hP hw hK;obtain⟨xs,hq,hx⟩:=hg;obtain⟨AC,rv,p,hz⟩:=I.list hq;obtain⟨f0,f1,f2,f3,f4,f5⟩:=hf it (by simp);have hl:=rv.length;exact wpAny_pyNext_list_end (I.ok.hd hc) st p.isList (by simp;omega) fun h' eb=>⟨rfl,I.turned (t':=s.toks) (fun b o hb e=>eb b o hb e) f0 f1 f3 f4 f5⟩
 self:=fun _ _ _ _ _ st h=>wpAny_pyIter_listiter st h
theorem Dk {P:Program}{w:World}{K:PySem.W.Frag}{tg:Expr}(a it:Addr):Turn P w K tg (Itt K a) [it] it (fun i h=>h.IsTupleIter it a i) where
 mem:=by simp
 obj:=fun i h st b hb=>by
  have e:b=it:=by simpa using hb
  subst e;obtain⟨o,e,c,d⟩:=st;exact⟨o,e,fun v z=>by rw[d] at z;cases z⟩
 keep:=fun i h h' st k=>st.at fun o e=>k it (by simp) o e
 item:=by
  intro X hP hw hK hc i vy s U H E I hf st hg;subst hP hw hK;obtain⟨xs,x,hq,hx⟩:=hg;obtain⟨AC,rv,p,hz⟩:=I.tuple hq;obtain⟨u,hu,ru⟩:=rv.get hx;obtain⟨f0,f1,f2,f3,f4,f5⟩:=hf it (by simp);refine wpAny_pyNext_tuple_item st (show s.heap.IsTuple a AC.toArray from p) (x:=u) (by simpa using hu) fun h' st' sb=>?_;have I1:Inv X vy U H {s with heap:=h' }:=I.turned (t':=s.toks) (fun b o hb e=>(sb.2 b hb).trans e) f0 f1 f3 f4 f5;obtain⟨o,e,c,d⟩:=id st';exact⟨u,rfl,sy (s:={s with heap:=h' }) e c d (by decide) ⟨x,H,I1,ru,⟨rfl,fun ys hy=>by rw[I.Hz hy hq];exact hx⟩,st',fun b hb=>(hf b hb).1⟩⟩
 done:=by
  intro X hP hw hK hc i vy s U H E I hf st hg;subst hP hw hK;obtain⟨xs,hq,hx⟩:=hg;obtain⟨AC,rv,p,hz⟩:=I.tuple hq;obtain⟨f0,f1,f2,f3,f4,f5⟩:=hf it (by simp);have hl:=rv.length;exact wpAny_pyNext_tuple_end (I.ok.hd hc) st (show s.heap.IsTuple a AC.toArray from p) (by simp;omega) fun h' eb=>⟨rfl,I.turned (t':=s.toks) (fun b o hb e=>eb b o hb e) f0 f1 f3 f4 f5⟩
 self:=fun _ _ _ _ _ st h=>wpAny_pyIter_tupleiter st h
theorem Dl {P:Program}{w:World}{K:PySem.W.Frag}{tg:Expr}(it:Addr)(lo:Int)(n:Nat):Turn P w K tg (Itr lo n) [it] it (fun i h=>IsRangeIter h it (lo+(i:Nat)*1) ((n:Int) - (i:Nat)) 1) where
 mem:=by simp
 obj:=fun i h st b hb=>by
  have e:b=it:=by simpa using hb
  subst e;exact⟨_,st,fun v z=>by
   have z':Data.fields _=Data.cell v:=z;cases z'⟩
 keep:=fun i h h' st k=>k it (by simp) _ st
 item:=by
  intro X hP hw hK hc i vy s U H E I hf st hg;subst hP hw hK;obtain⟨f0,f1,f2,f3,f4,f5⟩:=hf it (by simp);have W:=Walks.range (prog:=X.prog) (w:=X.w) (I.ok.hd hc) it lo 1 n;refine W.item i s _ _ hg st fun v h' tk hv st' kk=>?_;obtain⟨t,rfl⟩:=hv;have I1:Inv X vy U H {s with heap:=h',toks:=tk }:=I.turned (fun b o hb e=>kk b o (by simpa using hb) e) f0 f1 f3 f4 f5;refine⟨_,rfl,sy (s:={s with heap:=h',toks:=tk }) (n:="range_iterator") st' rfl rfl (by decide) ⟨.int (lo+i),H,I1,⟨t,?_⟩,⟨rfl,rfl⟩,st',fun b hb=>(hf b hb).1⟩⟩;rw[Int.mul_one]
 done:=by
  intro X hP hw hK hc i vy s U H E I hf st hg;subst hP hw hK;obtain⟨f0,f1,f2,f3,f4,f5⟩:=hf it (by simp);exact wpAny_pyNext_range_end (I.ok.hd hc) st (by have:n<=i:=hg;omega) fun h' eb=>⟨rfl,I.turned (t':=s.toks) (fun b o hb e=>eb b o hb e) f0 f1 f3 f4 f5⟩
 self:=fun _ _ _ _ _ st h=>wpAny_pyIter_rangeiter st h
section
variable {X:Cx}{tg:Expr}
theorem Lq {vy:List (Addr×Obj)}{U:St}{H:Hp}{s:Shared}{R:It->Hp->Prop}{E:Value->Shared->Prop}{lo hi:Int}{t u v:Tok}{tk:Nat}(I:Inv X vy U H s)(h1:-(2 ^ 62)<=lo)(h2:lo<2 ^ 62)(h3:-(2 ^ 62)<=hi)(h4:hi<2 ^ 62)
  (q:R (Itr lo (hi - lo).toNat) H):wpAny (model X.prog X.w) X.A (pyIter (.ref s.heap.objs.size)) (PIE X vy U tg R) E {s with heap:=s.heap.push {cls:=.type "range",data:=.fields #[.int lo t,.int hi u,.int 1 v] },toks:=tk }:=by
 refine wpAny_pyIter_range (IsRange.new ..) (small_one h1 h2 h3 h4) ?_;have I1:Inv X vy U H {s with heap:=s.heap.push {cls:=.type "range",data:=.fields #[.int lo t,.int hi u,.int 1 v] },toks:=tk }:=I.kept fun b o e=>Heap.get?_push_of_some _ e;refine⟨(s.heap.push {cls:=.type "range",data:=.fields #[.int lo t,.int hi u,.int 1 v] }).objs.size,[(s.heap.push {cls:=.type "range",data:=.fields #[.int lo t,.int hi u,.int 1 v] }).objs.size],_,_,H,rfl,
  I1.kept (t':=tk) fun b o e=>Heap.get?_push_of_some _ e,Dl _ lo (hi - lo).toNat,?_,fun b hb=>?_,q⟩
 .have e1:lo+((0:Nat):Int)*1=lo:=by simp
  have e2:(((hi - lo).toNat:Nat):Int) - ((0:Nat):Int)=Builtin.Range.rangeSize lo hi 1:=by rw[rangeSize_one];split<;>omega
  show IsRangeIter _ _ (lo+((0:Nat):Int)*1) ((((hi - lo).toNat:Nat):Int) - ((0:Nat):Int)) 1;rw[e1,e2];exact Heap.get?_push_size _ rfl
 .have e:b=(s.heap.push {cls:=.type "range",data:=.fields #[.int lo t,.int hi u,.int 1 v] }).objs.size:=by simpa using hb
  subst e;exact I1.Cf (Nat.le_refl _) (I1.hok.fresh (Nat.le_refl _))
noncomputable def a14 (ta:TA):TI:=fun U H R=>ta U H fun vs H1=>∃j:Int,vs=[.int j]/\-(2 ^ 62)<=j/\j<2 ^ 62/\R (Itr 0 j.toNat) H1
theorem HN {a:Expr}{ta:TA}{p pos:Pos}(hg:Gl X "range")(hm:X.mg "range"=none)(ha:PA X [a] ta)(hs:autoParam (starEach [a] X.env=[(false,eval a X.env)]) zi):PI X tg (.Call (.Name "range" p) [a] [] pos) (a14 ta):=by
 intro vy s U H R I h;refine Call_ (qY I hg hm boot_range (PyProof.Rows.callWith_type1 (bA (ha pos vy s U H _ I h) fun us s1 ⟨vs,H1,I1,r1,q1⟩=>?_) hs rfl));obtain⟨j,e,q1,q2,q⟩:=q1;subst e;cases r1 with
 |cons r rr=>
  cases rr;obtain⟨t,rfl⟩:=r;exact call_range_1 (Lq I1 (by omega) (by omega) q1 q2 (by simpa using q))
noncomputable def a4q (wi:TI)(g:TG)(tb:TS):TS:=fun D U H=>wi U H fun J H1=>∃W:Nat->Nat->St->Hp->Prop,(∃m,W 0 m U H1)/\∀i m U H,W i m U H->
 (J.stop i H/\D.nx U H)∨(J.go i H/\∃N:St->Hp->Prop,(∀U' H',N U' H'->∃m',m' < m/\W (i+1) m' U' H')/\∀x H',J.C5 i H x H'->g x U H' fun U2 H2=>tb {D with nx:=N,ct:=N,bk:=D.nx } U2 H2)
noncomputable def vD (fp:List Addr)(h:Heap):List (Addr×Obj):=fp.filterMap fun b=>(h.get? b).map fun o=>(b,o)
theorem jT {fp:List Addr}{h:Heap}{b:Addr}{o:Obj}(hb:b∈fp)(e:h.get? b=some o):(b,o)∈vD fp h:=List.mem_filterMap.mpr ⟨b,hb,by rw[e];rfl⟩
theorem Ij {fp:List Addr}{h:Heap}{p:Addr×Obj}(hp:p∈vD fp h):p.1∈fp/\h.get? p.1=some p.2:=by
 obtain⟨b,hb,e⟩:=List.mem_filterMap.mp hp;cases q:h.get? b with
 |none=>rw[q] at e;cases e
 |some o=>
  rw[q] at e;have e':(b,o)=p:=Option.some.inj e;subst e';exact⟨hb,q⟩
theorem Inv.pinned {vy:List (Addr×Obj)}{U:St}{H:Hp}{s:Shared}{fp:List Addr}(I:Inv X vy U H s)(hf:∀b∈fp,tH X vy H b)(ho:∀b∈fp,∃o,s.heap.get? b=some o/\∀v,o.data≠.cell v):Inv X (vy++vD fp s.heap) U H s:=
 I.uv fun p hp=>(List.mem_append.mp hp).elim (fun z=>I.pin p (List.mem_append_right _ z)) fun z=>by
  obtain⟨hb,e⟩:=Ij z;obtain⟨f0,f1,f2,_⟩:=hf p.1 hb;obtain⟨o,e',d⟩:=ho p.1 hb;rw[e] at e';cases e';exact⟨e,f0,f1,f2,d⟩
theorem Inv.oV {vy pl:List (Addr×Obj)}{U:St}{H:Hp}{s:Shared}(I:Inv X (vy++pl) U H s):Inv X vy U H s:=I.uv fun p hp=>I.pin p (List.mem_append_right _ (List.mem_append_left _ hp))
theorem V3 {iter:Expr}{body:List Stmt}{wi:TI}{g:TG}{tb:TS}{pos:Pos}(hp:PassesOwn (model X.prog X.w) X.A X.env X.xe)(hc:X.calm=true)(hi:PI X tg iter wi)(hg:PG X tg g)(hb:sJ X body tb)
  (hs:autoParam (∀x,foldedSetIterable iter X.env x=pure x) jp):PS X (.For tg iter body [] pos) (a4q wi g tb):=by
 intro vy s U H D I h;refine wpAny_For (bA (hi vy s U H _ I h) fun v s1 h1=>bA h1 fun itv s2 h2=>?_) hs;obtain⟨it,fp,tn,J,H2,e,I2,T,st2,f2,W,⟨m0,w0⟩,turn⟩:=h2;subst e;have U5:∀{H':Hp},(∀b∈fp,H' b=none)->∀b∈fp,tH X vy H' b:=fun hn b hb=>⟨hn b hb,(f2 b hb).2⟩
 refine codeAny_forLoop_any (fun n s'=>∃i U' H',Inv X vy U' H' s'/\tn i s'.heap/\(∀b∈fp,H' b=none)/\W i n U' H') ?_ m0 ⟨0,U,H2,I2,st2,fun b hb=>(f2 b hb).1,w0⟩;rintro n s3 ⟨i,σ3,H3,I3,st3,fr3,w3⟩;rcases turn i n σ3 H3 w3 with⟨stop,qn⟩ | ⟨go,N,hN,step⟩
 .refine wpAny_passesOwn hp (bA (T.done X rfl rfl rfl hc i vy s3 σ3 H3 X.xe I3 (U5 fr3) st3 stop) ?_);rintro r s4 ⟨hr,I4⟩;subst hr;exact wpAny_execs_nil ⟨σ3,H3,I4,qn⟩
 .refine wpAny_passesOwn hp (bA (T.item X rfl rfl rfl hc i vy s3 σ3 H3 X.xe I3 (U5 fr3) st3 go) ?_);rintro r s4 ⟨u,hr,h4⟩;subst hr;refine wpAny_passesOwn hp (bA h4 ?_);rintro _ s5 ⟨x,H5,I5,r5,y5,st5,fr5⟩;have I5':=I5.pinned (U5 fr5) (T.obj _ _ st5);refine wpAny_passesOwn hp (bA (hg _ s5 σ3 H5 x u _ I5' r5 (step x H5 y5)) ?_);rintro _ s6 ⟨σ6,H6,I6,q6⟩;refine wpAny_passesOwn hp (bA (hb _ s6 σ6 H6 _ I6 q6) fun f s7 q7=>?_);have again:∀{σ7:St}{H7:Hp},Inv X (vy++vD fp s5.heap) σ7 H7 s7->N σ7 H7->∃m,m<n/\∃i U' H',Inv X vy U' H' s7/\tn i s7.heap/\(∀b∈fp,H' b=none)/\W i m U' H':=fun{σ7 H7} I7 n7=>by
   obtain⟨m',hm,w7⟩:=hN σ7 H7 n7;refine⟨m',hm,i+1,σ7,H7,I7.oV,T.keep _ _ _ st5 fun b hb o e=>(I7.pin (b,o) (List.mem_append_right _ (List.mem_append_right _ (jT hb e)))).1,fun b hb=>?_,w7⟩;obtain⟨o,e,d⟩:=T.obj _ _ st5 b hb;exact(I7.pin (b,o) (List.mem_append_right _ (List.mem_append_right _ (jT hb e)))).2.1
  cases f with
  |next=>obtain⟨σ7,H7,I7,n7⟩:=q7;exact again I7 n7
  |cont=>obtain⟨σ7,H7,I7,n7⟩:=q7;exact again I7 n7
  |brk=>obtain⟨σ7,H7,I7,q7⟩:=q7;exact⟨σ7,H7,I7.oV,q7⟩
  |ret v=>obtain⟨x7,σ7,H7,I7,r7,q7⟩:=q7;exact⟨x7,σ7,H7,I7.oV,r7,q7⟩
end
abbrev R2:=V->V->Hp->VK->Prop
def iR (X:Cx)(f:Value->Value->Sem Value)(r:R2):Prop:=
 ∀(vy:List (Addr×Obj)) (s:Shared) (U:St) (H:Hp) (x y:V) (v u:Value) (Q:VK),Inv X vy U H s->RelV x v->RelV y u->r x y H Q->
  wpAny (model X.prog X.w) X.A (f v u) (EP X vy U Q) X.xe s
def UnR (X:Cx)(f:Value->Sem Value)(r:V->Hp->VK->Prop):Prop:=
 ∀(vy:List (Addr×Obj)) (s:Shared) (U:St) (H:Hp) (x:V) (v:Value) (Q:VK),Inv X vy U H s->RelV x v->r x H Q->
  wpAny (model X.prog X.w) X.A (f v) (EP X vy U Q) X.xe s
def eS (X:Cx)(f:Value)(r:List V->Hp->VK->Prop):Prop:=
 ∀(vy:List (Addr×Obj)) (s:Shared) (U:St) (H:Hp) (xs:List V) (us:List Value) (Q:VK),Inv X vy U H s->Vals xs us->r xs H Q->
  wpAny (model X.prog X.w) X.A (call f us) (EP X vy U Q) X.xe s
noncomputable def UU (r:R2)(ta tb:TE):TE:=fun U H Q=>ta U H fun x H1=>tb U H1 fun y H2=>r x y H2 Q
noncomputable def tUn (r:V->Hp->VK->Prop)(ta:TE):TE:=fun U H Q=>ta U H fun x H1=>r x H1 Q
noncomputable def rI (C:Int->Int->Prop)(g:Int->Int->V):R2:=fun x y H Q=>∃i j,x=.int i/\y=.int j/\C i j/\Q (g i j) H
noncomputable def S7 (g:Int->Int->V):R2:=fun x y H Q=>∃i j,x=.int i/\y=.int j/\Q (g i j) H
noncomputable def rU (g:Int->V):V->Hp->VK->Prop:=fun x H Q=>∃i,x=.int i/\Q (g i) H
section
variable {X:Cx}{a b c:Expr}{ta tb tc:TE}{pos:Pos}
theorem Yo (ha:PE X a ta)(hb:PE X b tb){vy:List (Addr×Obj)}{s:Shared}{U:St}{H:Hp}{R:V->V->Hp->Prop}(I:Inv X vy U H s)
  (h:ta U H fun x H1=>tb U H1 fun y H2=>R x y H2) {Q:Value->Shared->Prop} {f:Value->Value->Sem Value}
  (hf:∀v u s2 x y H2,Inv X vy U H2 s2->RelV x v->RelV y u->R x y H2->wpAny (model X.prog X.w) X.A (f v u) Q X.xe s2) :
  wpAny (model X.prog X.w) X.A (eval a X.env) (fun v s₁=>wpAny (model X.prog X.w) X.A (eval b X.env) (fun u s₂=>wpAny (model X.prog X.w) X.A (f v u) Q X.xe s₂) X.xe s₁) X.xe s:=by
 refine bA (ha vy s U H _ I h) ?_;rintro v s1 ⟨x,H1,I1,r1,q1⟩;refine bA (hb vy s1 U H1 _ I1 q1) ?_;rintro u s2 ⟨y,H2,I2,r2,q2⟩;exact hf v u s2 x y H2 I2 r1 r2 q2
theorem a0N {op:Operator}{r:R2}(ho:iR X (binaryOp op) r)(ha:PE X a ta)(hb:PE X b tb):PE X (.BinOp a op b pos) (UU r ta tb):=by
 intro vy s U H Q I h;exact wpAny_BinOp (Yo ha hb I h fun v u s2 x y H2 I2 rx ry q=>ho vy s2 U H2 x y v u Q I2 rx ry q)
theorem a0L {op:UnaryOp}{r:V->Hp->VK->Prop}(ho:UnR X (unaryOp op) r)(ha:PE X a ta):PE X (.UnaryOp op a pos) (tUn r ta):=by
 intro vy s U H Q I h;exact UnaryOp_ (bA (ha vy s U H _ I h) (by rintro v s1 ⟨x,H1,I1,r1,q1⟩;exact ho vy s1 U H1 x v Q I1 r1 q1))
theorem opI {f:Value->Value->Sem Value}{C:Int->Int->Prop}{g:Int->Int->Int}
  (rule:∀(i j:Int)(t u:Tok)(s:Shared)(Q:Value->Shared->Prop)(E:Value->Shared->Prop),C i j->Q (.int (g i j) s.toks) {s with toks:=s.toks+1 }->wpAny (model X.prog X.w) X.A (f (.int i t) (.int j u)) Q E s) :
  iR X f (rI C fun i j=>.int (g i j)):=by
 intro vy s U H x y v u Q I rx ry h;obtain⟨i,j,rfl,rfl,hc,q⟩:=h;obtain⟨t,rfl⟩:=rx;obtain⟨t',rfl⟩:=ry;exact rule i j t t' s _ _ hc ⟨.int (g i j),H,I.tok _,⟨_,rfl⟩,q⟩
theorem a0X {f:Value->Value->Sem Value}{g:Int->Int->Int}
  (rule:∀(i j:Int)(t u:Tok)(s:Shared)(Q:Value->Shared->Prop)(E:Value->Shared->Prop),Q (.int (g i j) s.toks) {s with toks:=s.toks+1 }->wpAny (model X.prog X.w) X.A (f (.int i t) (.int j u)) Q E s) :
  iR X f (S7 fun i j=>.int (g i j)):=by
 intro vy s U H x y v u Q I rx ry h;obtain⟨i,j,rfl,rfl,q⟩:=h;obtain⟨t,rfl⟩:=rx;obtain⟨t',rfl⟩:=ry;exact rule i j t t' s _ _ ⟨.int (g i j),H,I.tok _,⟨_,rfl⟩,q⟩
theorem WA {f:Value->Value->Sem Value}{g:Int->Int->Bool}
  (rule:∀(i j:Int)(t u:Tok)(s:Shared)(Q:Value->Shared->Prop)(E:Value->Shared->Prop),Q (.bool (g i j)) s->wpAny (model X.prog X.w) X.A (f (.int i t) (.int j u)) Q E s) :
  iR X f (S7 fun i j=>.bl (g i j)):=by
 intro vy s U H x y v u Q I rx ry h;obtain⟨i,j,rfl,rfl,q⟩:=h;obtain⟨t,rfl⟩:=rx;obtain⟨t',rfl⟩:=ry;exact rule i j t t' s _ _ ⟨.bl (g i j),H,I,rfl,q⟩
def a23 (i j:Int):Prop:=0<j/\j<1073741824
def Sa (i j:Int):Prop:=(-(2 ^ 64)<i/\i<2 ^ 64)∨(-(2 ^ 64)<j/\j<2 ^ 64)
theorem Sa.ok {i j:Int}(h:Sa i j):IntMulOk i j:=by
 rcases h with⟨h1,h2⟩ | ⟨h1,h2⟩
 .exact .of_left (intBits_le_64 h1 h2)
 .exact .of_right (intBits_le_64 h1 h2)
theorem Wz:iR X (binaryOp .Add) (S7 fun i j=>.int (i+j)):=a0X fun _ _ _ _ _ _ _ q=>add_int q
theorem Wr:iR X (binaryOp .Sub) (S7 fun i j=>.int (i - j)):=a0X fun _ _ _ _ _ _ _ q=>sub_int q
theorem Wu:iR X (binaryOp .Mult) (rI Sa fun i j=>.int (i*j)):=opI fun _ _ _ _ _ _ _ hc q=>mul_int q hc.ok
theorem Qg:iR X (binaryOp .FloorDiv) (rI a23 fun i j=>.int (i / j)):=opI fun i j _ _ _ _ _ hc q=>by
 have h1:(0:Int)<j:=hc.1;have h2:j<1073741824:=hc.2;exact floordiv_int (by omega) (by rw[Int.fdiv_eq_ediv_of_nonneg i (by omega)];exact q) (.inl (PyProof.noPylong_small (by omega)))
theorem Wv:iR X (binaryOp .Mod) (rI (fun _ j=>0<j) fun i j=>.int (i % j)):=opI fun i j _ _ _ _ _ hc q=>by
 have h1:(0:Int)<j:=hc;exact mod_int' (by omega) (by rw[Int.fmod_eq_emod_of_nonneg i (by omega)];exact q)
theorem unI {f:Value->Sem Value}{g:Int->Int}
  (rule:∀(i:Int)(t:Tok)(s:Shared)(Q:Value->Shared->Prop)(E:Value->Shared->Prop),Q (.int (g i) s.toks) {s with toks:=s.toks+1 }->wpAny (model X.prog X.w) X.A (f (.int i t)) Q E s) :
  UnR X f (rU fun i=>.int (g i)):=by
 intro vy s U H x v Q I rx h;obtain⟨i,rfl,q⟩:=h;obtain⟨t,rfl⟩:=rx;exact rule i t s _ _ ⟨.int (g i),H,I.tok _,⟨_,rfl⟩,q⟩
theorem UO:UnR X (unaryOp .USub) (rU fun i=>.int (-i)):=unI fun _ _ _ _ _ q=>neg_int q
end
noncomputable def Vn:V->V->Bool
 |.cR,.cR=>true | .cR,.int _=>true | .int _,.cR=>true | .cR,.bl _=>true | .bl _,.cR=>true | .cR,.str _=>true | .str _,.cR=>true
 |.int _,.int _=>true | .bl _,.bl _=>true | .str _,.str _=>true | .Jg _,.Jg _=>true
 |.int _,.str _=>true | .str _,.int _=>true | .bl _,.str _=>true | .str _,.bl _=>true
 |_,_=>false
noncomputable def rEq:R2:=fun x y H Q=>Vn x y=true/\Q (.bl (decide (x=y))) H
noncomputable def rNe:R2:=fun x y H Q=>Vn x y=true/\Q (.bl (!decide (x=y))) H
theorem GW {i j:Int}:decide (V.int i=V.int j)=(i==j):=by
 rw[Bool.eq_iff_iff];simp
theorem Nz {i j:Bool}:decide (V.bl i=V.bl j)=(i==j):=by
 rw[Bool.eq_iff_iff];simp
theorem GV {i j:Str}:decide (V.str i=V.str j)=(i==j):=by
 rw[Bool.eq_iff_iff];simp
theorem GX {i j:Array UInt8}:decide (V.Jg i=V.Jg j)=(i.toList==j.toList):=by
 rw[Bool.eq_iff_iff];cases i;cases j;simp
section
variable {X:Cx}{a b c:Expr}{ta tb tc:TE}{pos:Pos}
theorem bz {vy:List (Addr×Obj)}{U:St}{H:Hp}{s:Shared}{Q:VK}{k k':Bool}(I:Inv X vy U H s)(q:Q (.bl k) H)(e:k=k'):EP X vy U Q (.bool k') s:=by
 subst e;exact⟨.bl k,H,I,rfl,q⟩
theorem a0W:iR X (compareOp .Eq) rEq:=by
 intro vy s U H x y v u Q I rx ry h;obtain⟨hs,q⟩:=h;cases x with
 |cR=>
  cases rx;cases y with
  |cR=>cases ry;exact PySem.EqNone.eq_none_none (bz I q (by simp))
  |bl j=>cases ry;exact PySem.EqNone.eq_none_bool (bz I q (by simp))
  |int j=>obtain⟨t',rfl⟩:=ry;exact PySem.EqNone.eq_none_int (bz I q (by simp))
  |str j=>obtain⟨t',rfl⟩:=ry;exact PySem.EqNone.eq_none_str (bz I q (by simp))
  |_=>exact absurd (show false=true from hs) Bool.false_ne_true
 |bl i=>
  cases rx;cases y with
  |cR=>cases ry;exact PySem.EqNone.eq_bool_none (bz I q (by simp))
  |bl j=>cases ry;exact eq_bool (bz I q Nz)
  |str j=>obtain⟨t',rfl⟩:=ry;exact PySem.EqMixed.eq_bool_str (bz I q (by simp))
  |_=>exact absurd (show false=true from hs) Bool.false_ne_true
 |int i=>
  obtain⟨t,rfl⟩:=rx;cases y with
  |cR=>cases ry;exact PySem.EqNone.eq_int_none (bz I q (by simp))
  |int j=>obtain⟨t',rfl⟩:=ry;exact eq_int (bz I q GW)
  |str j=>obtain⟨t',rfl⟩:=ry;exact PySem.EqMixed.eq_int_str (bz I q (by simp))
  |_=>exact absurd (show false=true from hs) Bool.false_ne_true
 |str i=>
  obtain⟨t,rfl⟩:=rx;cases y with
  |cR=>cases ry;exact PySem.EqNone.eq_str_none (bz I q (by simp))
  |bl j=>cases ry;exact PySem.EqMixed.eq_str_bool (bz I q (by simp))
  |int j=>obtain⟨t',rfl⟩:=ry;exact PySem.EqMixed.eq_str_int (bz I q (by simp))
  |str j=>obtain⟨t',rfl⟩:=ry;exact eq_str (bz I q GV)
  |_=>exact absurd (show false=true from hs) Bool.false_ne_true
 |Jg i=>
  obtain⟨t,rfl⟩:=rx;cases y with
  |Jg j=>obtain⟨t',rfl⟩:=ry;exact PySem.W.eq_bytes (bz I q GX)
  |_=>exact absurd (show false=true from hs) Bool.false_ne_true
 |_=>cases y<;>exact absurd (show false=true from hs) Bool.false_ne_true
theorem a0S:iR X (compareOp .NotEq) rNe:=by
 intro vy s U H x y v u Q I rx ry h;obtain⟨hs,q⟩:=h;cases x with
 |cR=>
  cases rx;cases y with
  |cR=>cases ry;exact PySem.EqNone.ne_none_none (bz I q (by simp))
  |bl j=>cases ry;exact PySem.EqNone.ne_none_bool (bz I q (by simp))
  |int j=>obtain⟨t',rfl⟩:=ry;exact PySem.EqNone.ne_none_int (bz I q (by simp))
  |str j=>obtain⟨t',rfl⟩:=ry;exact PySem.EqNone.ne_none_str (bz I q (by simp))
  |_=>exact absurd (show false=true from hs) Bool.false_ne_true
 |bl i=>
  cases rx;cases y with
  |cR=>cases ry;exact PySem.EqNone.ne_bool_none (bz I q (by simp))
  |bl j=>cases ry;exact ne_bool (bz I q (congrArg not Nz))
  |str j=>obtain⟨t',rfl⟩:=ry;exact PySem.EqMixed.ne_bool_str (bz I q (by simp))
  |_=>exact absurd (show false=true from hs) Bool.false_ne_true
 |int i=>
  obtain⟨t,rfl⟩:=rx;cases y with
  |cR=>cases ry;exact PySem.EqNone.ne_int_none (bz I q (by simp))
  |int j=>obtain⟨t',rfl⟩:=ry;exact ne_int (bz I q (congrArg not GW))
  |str j=>obtain⟨t',rfl⟩:=ry;exact PySem.EqMixed.ne_int_str (bz I q (by simp))
  |_=>exact absurd (show false=true from hs) Bool.false_ne_true
 |str i=>
  obtain⟨t,rfl⟩:=rx;cases y with
  |cR=>cases ry;exact PySem.EqNone.ne_str_none (bz I q (by simp))
  |bl j=>cases ry;exact PySem.EqMixed.ne_str_bool (bz I q (by simp))
  |int j=>obtain⟨t',rfl⟩:=ry;exact PySem.EqMixed.ne_str_int (bz I q (by simp))
  |str j=>obtain⟨t',rfl⟩:=ry;exact ne_str (bz I q (congrArg not GV))
  |_=>exact absurd (show false=true from hs) Bool.false_ne_true
 |Jg i=>
  obtain⟨t,rfl⟩:=rx;cases y with
  |Jg j=>obtain⟨t',rfl⟩:=ry;exact PySem.W.ne_bytes (bz I q (congrArg not GX))
  |_=>exact absurd (show false=true from hs) Bool.false_ne_true
 |_=>cases y<;>exact absurd (show false=true from hs) Bool.false_ne_true
theorem a0T:iR X (compareOp .Lt) (S7 fun i j=>.bl (decide (i<j))):=WA fun _ _ _ _ _ _ _ q=>lt_int q
theorem a0U:iR X (compareOp .LtE) (S7 fun i j=>.bl (decide (i<=j))):=WA fun _ _ _ _ _ _ _ q=>le_int q
theorem a0V:iR X (compareOp .Gt) (S7 fun i j=>.bl (decide (j<i))):=WA fun _ _ _ _ _ _ _ q=>gt_int q
theorem iR.or {f:Value->Value->Sem Value}{r r':R2}(h:iR X f r)(h':iR X f r'):iR X f (fun x y H Q=>r x y H Q∨r' x y H Q):=by
 intro vy s U H x y v u Q I rx ry q;rcases q with q | q
 .exact h vy s U H x y v u Q I rx ry q
 .exact h' vy s U H x y v u Q I rx ry q
theorem aF (b:Expr){op:CmpOp}(h:autoParam (op≠.In) zn)(h2:autoParam (op≠.NotIn) zn):behindInMarks op b=false:=by
 have e1:(op==CmpOp.In)=false:=by cases op<;>first | rfl | exact absurd rfl h
 have e2:(op==CmpOp.NotIn)=false:=by cases op<;>first | rfl | exact absurd rfl h2
 cases b<;>simp[behindInMarks,e1,e2]
theorem Qd {op:CmpOp}{r:R2}(ho:iR X (compareOp op) r)(ha:PE X a ta)(hb:PE X b tb)(hm:behindInMarks op b=false):PE X (.Compare a [op] [b] pos) (UU r ta tb):=by
 intro vy s U H Q I h;exact wpAny_Compare1 (Yo ha hb I h fun v u s2 x y H2 I2 rx ry q=>ho vy s2 U H2 x y v u Q I2 rx ry q) hm
noncomputable def Kn (t:TE):TT:=fun U H Q=>t U H fun x H'=>∃k,x=.bl k/\Q k H'
theorem PK {op:CmpOp}{r:R2}(ho:iR X (compareOp op) r)(ha:PE X a ta)(hb:PE X b tb)(hm:behindInMarks op b=false):PT X (.Compare a [op] [b] pos) (Kn (UU r ta tb)):=by
 intro vy s U H Q I h;refine wpAny_isTrue_Compare1 (bA (ha vy s U H _ I h) fun v s1 ⟨x,H1,I1,r1,q1⟩=>bA (hb vy s1 U H1 _ I1 q1) fun u s2 ⟨y,H2,I2,r2,q2⟩=>
  bA (ho vy s2 U H2 x y v u _ I2 r1 r2 q2) fun c s3 ⟨z,H3,I3,r3,k,e,q3⟩=>?_) hm
 subst e;cases r3;exact wpAny_truthy_bool ⟨H3,I3,q3⟩
noncomputable def Dv (r r':R2)(ta tb tc:TE):TE:=fun U H Q=>ta U H fun x H1=>tb U H1 fun y H2=>r x y H2 fun z H3=>∃k,z=.bl k/\
 (if k=true then tc U H3 fun w' H4=>r' y w' H4 Q else Q (.bl false) H3)
theorem LY {op op':CmpOp}{r r':R2}(ho:iR X (compareOp op) r)(ho':iR X (compareOp op') r')(ha:PE X a ta)(hb:PE X b tb)(hc:PE X c tc)
  (hm:autoParam (lastMarks [op,op'] [b,c]=false) kf):PE X (.Compare a [op,op'] [b,c] pos) (Dv r r' ta tb tc):=by
 intro vy s U H Q I h;refine Compare_chain (bA (ha vy s U H _ I h) fun v s1 ⟨x,H1,I1,r1,q1⟩=>chain_link (bA (hb vy s1 U H1 _ I1 q1) fun u s2 ⟨y,H2,I2,r2,q2⟩=>
  bA (ho vy s2 U H2 x y v u _ I2 r1 r2 q2) fun d s3 ⟨z,H3,I3,r3,k,e,q3⟩=>?_)) hm
 subst e;cases r3;refine wpAny_truthy_bool ?_;cases k with
 |false=>exact ite_ff ⟨.bl false,H3,I3,rfl,q3⟩
 |true=>exact ite_tt (chain_last (bA (hc vy s3 U H3 _ I3 q3) (by rintro w' s4 ⟨z',H4,I4,r4,q4⟩;exact ho' vy s4 U H4 y z' u w' Q I4 r2 r4 q4)))
theorem LF {op op':CmpOp}{r r':R2}(ho:iR X (compareOp op) r)(ho':iR X (compareOp op') r')(ha:PE X a ta)(hb:PE X b tb)(hc:PE X c tc)
  (hm:autoParam (lastMarks [op,op'] [b,c]=false) kf):PT X (.Compare a [op,op'] [b,c] pos) (Kn (Dv r r' ta tb tc)):=by
 intro vy s U H Q I h;refine isTrue_chain (bA (ha vy s U H _ I h) fun v s1 ⟨x,H1,I1,r1,q1⟩=>test_link (bA (hb vy s1 U H1 _ I1 q1) fun u s2 ⟨y,H2,I2,r2,q2⟩=>
  bA (ho vy s2 U H2 x y v u _ I2 r1 r2 q2) fun d s3 ⟨z,H3,I3,r3,k,e,q3⟩=>?_)) hm
 subst e;cases r3;refine wpAny_truthy_bool ?_;cases k with
 |false=>
  obtain⟨k',e',q'⟩:=q3;cases e';exact ite_ff ⟨H3,I3,q'⟩
 |true=>
  refine ite_tt (test_last (bA (hc vy s3 U H3 _ I3 q3) fun w' s4 ⟨z',H4,I4,r4,q4⟩=>bA (ho' vy s4 U H4 y z' u w' _ I4 r2 r4 q4) ?_));rintro d' s5 ⟨z2,H5,I5,r5,k2,e2,q5⟩;subst e2;cases r5;exact wpAny_truthy_bool ⟨H5,I5,q5⟩
theorem k8:(sizeLine:Nat)<2 ^ 63:=by rw[sizeLine_eq];decide
theorem DU:iR X (binaryOp .Add) (fun x y H Q=>∃i j,x=.str i/\y=.str j/\i.length+j.length<=sizeLine/\Q (.str (i++j)) H):=by
 intro vy s U H x y v u Q I rx ry h;obtain⟨i,j,rfl,rfl,hz,q⟩:=h;obtain⟨t,rfl⟩:=rx;obtain⟨t',rfl⟩:=ry;exact add_str (fun t' tk=>⟨.str (i++j),H,I.tok _,⟨_,rfl⟩,q⟩) hz
theorem vals1 {x:V}{us:List Value}(r:Vals [x] us):∃u,us=[u]/\RelV x u:=by
 cases r with
 |cons r1 r2=>cases r2;exact⟨_,rfl,r1⟩
theorem vals2 {x y:V}{us:List Value}(r:Vals [x,y] us):∃u w',us=[u,w']/\RelV x u/\RelV y w':=by
 cases r with
 |cons r1 r2=>
  cases r2 with
  |cons r3 r4=>cases r4;exact⟨_,_,rfl,r1,r3⟩
theorem NR:eS X (.builtin "abs") (fun xs H Q=>∃i,xs=[.int i]/\Q (.int (if i<0 then -i else i)) H):=by
 intro vy s U H xs us Q I r h;obtain⟨i,rfl,q⟩:=h;obtain⟨u,rfl,t,rfl⟩:=vals1 r;exact call_abs_int fun u tk=>⟨.int (if i<0 then -i else i),H,I.tok _,⟨_,rfl⟩,q⟩
end
structure EO (h:Heap)(x dx C:Addr)(mA:Str->Option Value):Prop where
 obj:h.get? x=some (PySem.W.instObj C dx)
 ns:h.Ns1 dx mA
 ne:dx≠x
theorem yj {h:Heap}{dx:Addr}{mA:Str->Option Value}(n:h.Ns1 dx mA):∃od,h.get? dx=some od/\∀name,PySem.W.lookIn name od=some (mA name):=by
 obtain⟨o,es,ep,ho,hd,hk,_,hm⟩:=n;refine⟨o,ho,fun name=>?_⟩;have e:=hm name;unfold nsFind findBy at e;rw[<- Array.find?_toList] at e;unfold PySem.W.lookIn;rw[hd];dsimp only;split
 .rename_i y q;rw[q] at e;exact congrArg some e
 .rename_i q;rw[q] at e;have a:es.toList.any (·.refKey)=false:=by
   rw[List.any_eq_false];intro y hy;obtain⟨z,t,hkey⟩:=hk y (Array.mem_toList_iff.mp hy);simp[DictEntry.refKey,hkey]
  have a':¬ es.toList.any (·.refKey)=true:=by rw[a];exact Bool.false_ne_true
  rw[if_neg a'];exact congrArg some e
theorem EO.look {h:Heap}{x dx C:Addr}{mA:Str->Option Value}(I:EO h x dx C mA):∃od,PySem.W.InstAt h x (PySem.W.instObj C dx) C (some od)/\∀name,PySem.W.lookIn name od=some (mA name):=
 let⟨od,ho,hl⟩:=yj I.ns
 ⟨od,⟨I.obj,rfl,rfl,ho⟩,hl⟩
section
variable {prog:Program}{w:World}{A:Around}{E:Value->Shared->Prop}{s:Shared}{K:PySem.W.Frag}{x dx C f:Addr}{mA:Str->Option Value}{name:Str}{v:Value}
theorem get_map {expr:Bool}{Q:Value->Shared->Prop}(X:K.In s.heap)(I:EO s.heap x dx C mA)(hg:PySem.W.plainGet K C name=true)(hh:PySem.W.hasDictIn K C=true)
  (ha:PySem.W.findIn K (.ref C) name=some none) (hv:mA name=some v) (hv':PySem.W.handedIn v=true) (h:Q v {s with toks:=s.toks+1 }) :
  wpAny (model prog w) A (getAttr (.ref x) name expr) Q E s:=by
 obtain⟨od,J,hl⟩:=I.look;exact PySem.W.get_value X J (PySem.W.plainGet_of hg).1 (PySem.W.findObj_own hh ha rfl (by rw[hl,hv])) hv' h
theorem Nb {pl:Sem Bool}{Q:Value×List Value->Shared->Prop}(X:K.In s.heap)(I:EO s.heap x dx C mA)(hg:PySem.W.plainGet K C name=true)
  (hf:PySem.W.findIn K (.ref C) name=some (some (.ref f))) (ht:PySem.W.isFn K (.ref f)=true) (hv:mA name=none) (h:Q (.ref f,[.ref x]) s) :
  wpAny (model prog w) A (getMethod (.ref x) name pl) Q E s:=by
 obtain⟨od,J,hl⟩:=I.look;exact PySem.W.method_fn X J (PySem.W.plainGet_of hg).1 (PySem.W.plainGet_of hg).2 hf (beq_iff_eq.mp ht) (by show(PySem.W.lookIn name od).map (·.isSome)=some false;rw[hl,hv];rfl) h
theorem O0 {ns:List Str}{Q:Unit->Shared->Prop}(X:K.In s.heap)(I:EO s.heap x dx C mA)
  (hs:PySem.W.findIn K (.ref C) "__setattr__"=some (some (.builtin "object.__setattr__"))) (hp:PySem.W.plainOver K C=true) (ht:PySem.W.takerIn K C name=some none) (hh:PySem.W.hasDictIn K C=true)
  (hw:PySem.Within mA ns) (hsz:ns.length<=sizeLine)
  (h:∀h',EO h' x dx C (fun y=>if y=name then some v else mA y)->Heap.SameBut dx s.heap h'->Q () {s with heap:=h',toks:=s.toks+2 }) :
  wpAny (model prog w) A (setAttr (.ref x) name v) Q E s:=by
 obtain⟨od,J,hl⟩:=I.look;refine PySem.W.set_plain X J hs (PySem.W.osa_open (s:={s with toks:=s.toks+1 }) (r:=none) X J hp ht fun b=>?_);obtain⟨cd,hc,hd'⟩:=PySem.W.any_some hh;have hx:s.heap.get? x=some ⟨.ref C,some dx,.plain,#[]⟩:=I.obj;refine wpAny_bind (wpAny_pure (wpAny_bind (wpAny_bind (wpAny_loadPart hx (wpAny_bind (PySem.W.Looks.here (s:={s with toks:=s.toks+1 }) (PySem.W.looks_clsIn X hc) ?_))))));rw[hd'];refine wpAny_pure (a:=some dx) (wpAny_bind (wpAny_pure (wpAny_bind ?_)));refine wpAny_nsSet1 (s:={s with toks:=s.toks+1 }) I.ns fun h' hn2 hs2=>?_;obtain⟨oD,esD,epD,hoD,hdD,hcD⟩:=hn2.count (PySem.Within.cons name v hw);refine wpAny_bind (wpAny_lookBehind hoD (by rw[hdD];exact pastItsLine_dict (Nat.le_trans hcD (by rw[List.length_cons];omega))) ?_);exact wpAny_pure (h _ ⟨(hs2.2 _ (Ne.symm I.ne)).trans I.obj,hn2,I.ne⟩ hs2)
theorem MD {R:Result->Shared->Prop}{vs:List Value}{kw:List (Str×Value)}(X:K.In s.heap)(hm:PySem.W.makesIn K C=true)
  (hi:PySem.W.findIn K (.ref C) "__init__"=some (some (.ref f))) (hf:PySem.W.typeIn K (.ref f)=some (.type "function"))
  (h:codeAny (model prog w) (A.under (.builtin "type.__call__" ⟨.ref C::vs,kw⟩)) (.call (.ref f) ⟨.ref (s.heap.objs.size+1)::vs,kw⟩) (PySem.W.InitBack (s.heap.objs.size+1) R)
   {s with heap:=(s.heap.push PySem.W.emptyDict).push (PySem.W.instObj C s.heap.objs.size) }) :
  codeAny (model prog w) A (.call (.ref C) ⟨vs,kw⟩) R s:=by
 obtain⟨hh,g,d,t,os⟩:=s;exact PySem.W.make_core (PySem.W.makes_of X hm) (PySem.W.looks_findIn X hi) (fun self=>PySem.W.bind_fn X self hf) (.inl rfl) h
end
noncomputable def kr (f:Str)(v:V):List (Str×V)->List (Str×V)
 |[]=>[(f,v)]
 |(g,x)::r=>if g=f then(g,v)::r else(g,x)::kr f v r
theorem se (f g:Str)(v:V):∀fs:List (Str×V),(kr f v fs).lookup g=if g=f then some v else fs.lookup g
 |[]=>by
  show List.lookup g [(f,v)]=_;by_cases h:g=f
  .have hb:(g==f)=true:=beq_iff_eq.mpr h;simp only[List.lookup,hb,if_pos h]
  .have hb:(g==f)=false:=beq_eq_false_iff_ne.mpr h;simp only[List.lookup,hb,if_neg h]
 |(k,x)::r=>by
  have ih:=se f g v r;rw[show kr f v ((k,x)::r)=(if k=f then(k,v)::r else(k,x)::kr f v r) from rfl];by_cases hk:k=f
  .rw[if_pos hk];by_cases h:g=k
   .have hb:(g==k)=true:=beq_iff_eq.mpr h;simp only[List.lookup,hb,if_pos (h.trans hk)]
   .have hb:(g==k)=false:=beq_eq_false_iff_ne.mpr h;simp only[List.lookup,hb,if_neg (fun e:g=f=>h (e.trans hk.symm))]
  .rw[if_neg hk];by_cases h:g=k
   .have hb:(g==k)=true:=beq_iff_eq.mpr h;simp only[List.lookup,hb,if_neg (fun e:g=f=>hk (h.symm.trans e))]
   .have hb:(g==k)=false:=beq_eq_false_iff_ne.mpr h;simp only[List.lookup,hb];exact ih
theorem qZ (f:Str)(v:V):∀fs:List (Str×V),f∈(kr f v fs).map (·.1)/\∀g,g∈fs.map (·.1)->g∈(kr f v fs).map (·.1)
 |[]=>⟨by simp[kr],fun g h=>by simp at h⟩
 |(k,x)::r=>by
  obtain⟨i1,i2⟩:=qZ f v r;rw[show kr f v ((k,x)::r)=(if k=f then(k,v)::r else(k,x)::kr f v r) from rfl];by_cases hk:k=f
  .rw[if_pos hk];subst hk;exact⟨by simp,fun g h=>by simpa using h⟩
  .rw[if_neg hk];refine⟨?_,fun g h=>?_⟩
   .rw[List.map_cons];exact List.mem_cons_of_mem _ i1
   .rw[List.map_cons] at h ⊢;rcases List.mem_cons.mp h with e | e
    .exact List.mem_cons.mpr (.inl e)
    .exact List.mem_cons_of_mem _ (i2 g e)
theorem sf (f:Str)(v:V):∀fs:List (Str×V),(kr f v fs).length<=fs.length+1
 |[]=>by simp[kr]
 |(k,x)::r=>by
  have ih:=sf f v r;rw[show kr f v ((k,x)::r)=(if k=f then(k,v)::r else(k,x)::kr f v r) from rfl];by_cases hk:k=f
  .rw[if_pos hk,List.length_cons,List.length_cons];omega
  .rw[if_neg hk,List.length_cons,List.length_cons];omega
theorem ju.some_of {v:V}{o:Option Value}(r:ju (some v) o):∃u,o=some u/\RelV v u:=by
 cases o with
 |none=>exact(show False from r).elim
 |some u=>exact⟨u,rfl,r⟩
theorem ju.none_of {o:Option Value}(r:ju none o):o=none:=by
 cases o with
 |none=>rfl
 |some u=>exact(show False from r).elim
theorem yo {v:V}{u:Value}(r:RelV v u):PySem.W.handedIn u=true:=by
 cases v with
 |cR=>cases(show u=Value.none from r);rfl
 |bl b=>cases(show u=Value.bool b from r);rfl
 |int i=>obtain⟨t,e⟩:=(show ∃t,u=Value.int i t from r);cases e;rfl
 |str x=>obtain⟨t,e⟩:=(show ∃t,u=Value.str x t from r);cases e;rfl
 |Jg b=>obtain⟨t,e⟩:=(show ∃t,u=Value.bytes b t from r);cases e;rfl
 |sn x=>obtain⟨t,_,e⟩:=(show ∃t,t≠0/\u=Value.str x t from r);cases e;rfl
 |ref a=>cases(show u=Value.ref a from r);rfl
 |ty n=>cases(show u=Value.type n from r);rfl
section
variable {P:Program}{w:World}{H H':Hp}{h h':Heap}{a C dx:Addr}{fs fs':List (Str×V)}
theorem ux (hok:jy P w H h)(e:H a=some (.ins C dx fs)):∃mA,EO h a dx C mA/\(∀f,ju (fs.lookup f) (mA f))/\PySem.Within mA (fs.map (·.1))/\fs.length<=1000/\H dx=some (.own a):=by
 obtain⟨d,z,ne,ob,mA,n,r,q⟩:=(show bF P w H h a (.ins C dx fs) from hok a _ e)
 exact⟨mA,⟨ob,n,ne⟩,r,q,z,d⟩
end
structure R9 (K:PySem.W.Frag)(C:Addr):Prop where
 pg:PySem.W.plainGet K C Str.empty=true
 hd:PySem.W.hasDictIn K C=true
 po:PySem.W.plainOver K C=true
 sa:PySem.W.findIn K (.ref C) "__setattr__"=some (some (.builtin "object.__setattr__"))
theorem R9.get {K:PySem.W.Frag}{C:Addr}(c:R9 K C)(f:Str):PySem.W.plainGet K C f=true:=c.pg
def aN (K:PySem.W.Frag)(C:Addr)(f:Str):Prop:=PySem.W.findIn K (.ref C) f=some none
theorem aN.Y8 {K:PySem.W.Frag}{C:Addr}{f:Str}(n:aN K C f):PySem.W.takerIn K C f=some none:=by
 unfold PySem.W.takerIn;rw[show PySem.W.findIn K (.ref C) f=some none from n];rfl
structure Meth (K:PySem.W.Frag)(C:Addr)(m:Str)(f:Addr):Prop where
 at_:PySem.W.findIn K (.ref C) m=some (some (.ref f))
 fn:PySem.W.isFn K (.ref f)=true
 kp:PySem.W.keepIn K (.ref f)=true
section
variable {X:Cx}{vy:List (Addr×Obj)}{U:St}{H:Hp}{s:Shared}{a C dx:Addr}{fs:List (Str×V)}{f:Str}{v:V}{A:Around}{E:Value->Shared->Prop}
theorem Ej {b:Bool}{Q:Value->Shared->Prop}(I:Inv X vy U H s)(e:H a=some (.ins C dx fs))(c:R9 X.K C)(n:aN X.K C f)(l:fs.lookup f=some v)
  (h:∀u s',Inv X vy U H s'->RelV v u->Q u s'):wpAny (model X.prog X.w) A (getAttr (.ref a) f b) Q E s:=by
 obtain⟨mA,O,r,_,_,_⟩:=ux I.hok e;obtain⟨u,hu,ru⟩:=ju.some_of (v:=v) (o:=mA f) (by rw[<- l];exact r f);exact get_map I.iW O (c.get f) c.hd n hu (yo ru) (h u _ (I.tok _) ru)
theorem jV {m:Str}{g:Addr}{pl:Sem Bool}{Q:Value×List Value->Shared->Prop}(I:Inv X vy U H s)(e:H a=some (.ins C dx fs))(c:R9 X.K C)(k:Meth X.K C m g)(l:fs.lookup m=none)
  (h:Q (.ref g,[.ref a]) s):wpAny (model X.prog X.w) A (getMethod (.ref a) m pl) Q E s:=by
 obtain⟨mA,O,r,_,_,_⟩:=ux I.hok e;have hn:mA m=none:=ju.none_of (by rw[<- l];exact r m);exact Nb I.iW O (c.get m) k.at_ k.fn hn h
theorem DG {y:V}{u:Value}{Q:Unit->Shared->Prop}(I:Inv X vy U H s)(e:H a=some (.ins C dx fs))(c:R9 X.K C)(n:aN X.K C f)(hl:fs.length<1000)(ry:RelV y u)
  (h:∀s',Inv X vy U (upd H a (.ins C dx (kr f y fs))) s'->Q () s'):wpAny (model X.prog X.w) A (setAttr (.ref a) f u) Q E s:=by
 obtain⟨mA,O,r,wi,_,ho⟩:=ux I.hok e;have hz:(fs.map (·.1)).length<=sizeLine:=by rw[List.length_map,sizeLine_eq];omega
 refine O0 I.iW O c.sa c.po n.Y8 c.hd wi hz fun h' O' sb=>h _ ?_;have hd:∃o,h'.get? dx=some o:=let⟨o,_,_,e',_⟩:=O'.ns;⟨o,e'⟩;refine I.write (x:=a) (e:=dx) (by rw[e];exact True.intro) (.inr ho) (fun b q hb z=>(sb.2 b hb).trans z) hd ?_;refine⟨by rw[aH O.ne];exact ho,?_,O.ne,O'.obj,_,O'.ns,fun g=>?_,fun g hg=>?_⟩
 .have:=sf f y fs;omega
 .show ju ((kr f y fs).lookup g) (if g=f then some u else mA g);rw[se];by_cases q:g=f
  .rw[if_pos q,if_pos q];exact ry
  .rw[if_neg q,if_neg q];exact r g
 .by_cases q:g=f
  .rw[q];exact(qZ f y fs).1
  .refine(qZ f y fs).2 g (wi g fun z=>hg ?_);show(if g=f then some u else mA g)=none;rw[if_neg q];exact z
theorem Inv.made (I:Inv X vy U H s):Inv X vy U (upd (upd H s.heap.objs.size (.own (s.heap.objs.size+1))) (s.heap.objs.size+1) (.ins C s.heap.objs.size []))
  {s with heap:=(s.heap.push PySem.W.emptyDict).push (PySem.W.instObj C s.heap.objs.size) }:=by
 have e1:(s.heap.push PySem.W.emptyDict).get? s.heap.objs.size=some PySem.W.emptyDict:=Heap.get?_push_size s.heap rfl;have e2:((s.heap.push PySem.W.emptyDict).push (PySem.W.instObj C s.heap.objs.size)).get? (s.heap.objs.size+1)=some (PySem.W.instObj C s.heap.objs.size):=by
  have:=Heap.get?_push_size (s.heap.push PySem.W.emptyDict) (o:=PySem.W.instObj C s.heap.objs.size) rfl;rwa[Heap.size_push] at this
 have e3:(s.heap.push PySem.W.emptyDict).Ns s.heap.objs.size (fun _=>none):=⟨PySem.W.emptyDict,#[],_,e1,rfl,(fun e he=>absurd he (by simp)),fun _=>rfl⟩
 have I1:=I.laid (a:=s.heap.objs.size) (o:=.own (s.heap.objs.size+1)) (h':=s.heap.push PySem.W.emptyDict) (t':=s.toks) (fun b u q=>Heap.get?_push_of_some _ q) (Nat.le_refl _) ⟨_,e1⟩;refine I1.laid (a:=s.heap.objs.size+1) (o:=.ins C s.heap.objs.size []) (t':=s.toks) (fun b u q=>Heap.get?_push_of_some _ q) (Nat.le_of_eq (Heap.size_push _ _)) ?_;have ne:s.heap.objs.size≠s.heap.objs.size+1:=Nat.ne_of_lt (Nat.lt_succ_self _);refine⟨by rw[aH ne,cS],Nat.zero_le _,ne,e2,fun _=>none,(Heap.Ns1.of_empty e3).at fun o q=>Heap.get?_push_of_some _ q,fun _=>True.intro,fun y hy=>absurd rfl hy⟩
theorem Hj {prog:Program}{w:World}{env:Env}{e:Expr}{f:Str}{pos:Pos}{s:Shared}{Q:Value->Shared->Prop}(hb:attributeBase e f env (eval e env)=eval e env)
  (h:wpAny (model prog w) A (eval e env) (fun o s₁=>wpAny (model prog w) A (getAttr o f true) Q E s₁) E s):wpAny (model prog w) A (eval (.Attribute e f pos) env) Q E s:=
 Attribute_any_ h (by rw[arm_eval_Attribute,hb])
end
noncomputable def a4r (K:PySem.W.Frag)(ta:TE)(f:Str):TE:=fun U H Q=>ta U H fun x H1=>∃a C dx fs v,x=.ref a/\H1 a=some (.ins C dx fs)/\R9 K C/\aN K C f/\fs.lookup f=some v/\Q v H1
noncomputable def a4E (K:PySem.W.Frag)(ta tv:TE)(f:Str):TS:=fun D U H=>tv U H fun y H1=>ta U H1 fun x H2=>∃a C dx fs,x=.ref a/\H2 a=some (.ins C dx fs)/\R9 K C/\aN K C f/\fs.length<1000/\
 D.nx U (upd H2 a (.ins C dx (kr f y fs)))
section
variable {X:Cx}{o e value:Expr}{f:Str}{pos pos' tpos:Pos}{ta tv:TE}
theorem Wk (he:PE X e ta)(hb:attributeBase e f X.env (eval e X.env)=eval e X.env):PE X (.Attribute e f pos) (a4r X.K ta f):=by
 intro vy s U H Q I h;refine Hj hb (bA (he vy s U H _ I h) ?_);rintro u s1 ⟨x,H1,I1,rx,a,C,dx,fs,v,ex,ea,c,n,l,q⟩;subst ex;obtain rfl:u=Value.ref a:=rx;exact Ej I1 ea c n l fun u' s2 I2 ru=>⟨v,H1,I2,ru,q⟩
theorem V4 (ha:PE X o ta)(hv:PE X value tv)(hs:swapsWith value (some (.Attribute o f pos')) pos.line X.env=pure false):PS X (.Assign [.Attribute o f pos'] value pos) (a4E X.K ta tv f):=by
 intro vy s U H D I h;refine plainObj_wpAny_Assign_Attribute (bA (hv vy s U H _ I h) ?_) hs;rintro u s1 ⟨y,H1,I1,ry,q⟩;refine bA (ha vy s1 U H1 _ I1 q) ?_;rintro ov s2 ⟨x,H2,I2,rx,a,C,dx,fs,ex,ea,c,n,l,q2⟩;subst ex;obtain rfl:ov=Value.ref a:=rx;exact DG I2 ea c n l ry fun s3 I3=>⟨U,_,I3,q2⟩
end
section
variable {X:Cx}{vy:List (Addr×Obj)}{U:St}{H:Hp}{s:Shared}{A:Around}{E:Value->Shared->Prop}{Q:Value->Shared->Prop}{c:Value}{b:Bool}
inductive rC (K:PySem.W.Frag) (H:Hp):V->Value->Prop where
 |cR:rC K H .cR (.type "NoneType")
 |bl (x:Bool):rC K H (.bl x) (.type "bool")
 |int (i:Int):rC K H (.int i) (.type "int")
 |str (x:Str):rC K H (.str x) (.type "str")
 |lst {a:Addr} {xs:List V} (e:H a=some (.lst xs)):rC K H (.ref a) (.type "list")
 |rq {a:Addr} {o:Obj} {xs:List V} (e:H a=some (.rq o (.lst xs))):rC K H (.ref a) (.type "list")
 |tup {a:Addr} {xs:List V} (e:H a=some (.tup xs)):rC K H (.ref a) (.type "tuple")
 |dK {a:Addr} {kvs:List (Key×V)} (e:H a=some (.dK kvs)):rC K H (.ref a) (.type "dict")
 |dT {a:Addr} {kvs:List (List Key×V)} (e:H a=some (.dT kvs)):rC K H (.ref a) (.type "dict")
 |ins {a C dx:Addr} {fs:List (Str×V)} (e:H a=some (.ins C dx fs)) (cl:R9 K C) (ha:PySem.W.findIn K (.ref C) "__class__"=some (some (.builtin "object.__class__")))
   (hn:PySem.W.specialIn K (.builtin "object.__class__") "__get__"=some (some (.builtin "getset_descriptor.__get__"))) (htk:PySem.W.takesIn K (.builtin "object.__class__")=some true)
   (hm:PySem.W.mroIn K C (.type "object")=some true):rC K H (.ref a) (.ref C)
theorem IE {x:V}{u t:Value}(I:Inv X vy U H s)(rx:RelV x u)(ty:rC X.K H x t)(e:PySem.W.kitOne X.K t c=some b)(h:∀tk,Q (.bool b) {s with toks:=tk }) :
  wpAny (model X.prog X.w) A (call (.builtin "isinstance") [u,c]) Q E s:=by
 cases ty with
 |cR=>cases(show u=Value.none from rx);exact PySem.W.kia_one PySem.W.kitx_none I.iW True.intro e (fun z=>nomatch z) h
 |bl y=>cases(show u=Value.bool y from rx);exact PySem.W.kia_one PySem.W.kitx_bool I.iW True.intro e (fun z=>nomatch z) h
 |int i=>obtain⟨t,q⟩:=(show ∃t,u=Value.int i t from rx);cases q;exact PySem.W.kia_one PySem.W.kitx_int I.iW True.intro e (fun z=>nomatch z) h
 |str y=>obtain⟨t,q⟩:=(show ∃t,u=Value.str y t from rx);cases q;exact PySem.W.kia_one PySem.W.kitx_str I.iW True.intro e (fun z=>nomatch z) h
 | @lst a xs ea=>
  cases(show u=Value.ref a from rx);obtain⟨_,_,n,_,h1⟩:=(show bF X.prog X.w H s.heap a (.lst xs) from I.hok a _ ea)
  exact PySem.W.kia_one PySem.W.kitx_list I.iW ⟨_,h1,rfl⟩ e (fun z=>nomatch z) h
 | @rq a ob xs ea=>
  cases(show u=Value.ref a from rx);obtain⟨_,_,_,n,_,h1⟩:=(show bF X.prog X.w H s.heap a (.rq ob (.lst xs)) from I.hok a _ ea)
  exact PySem.W.kia_one PySem.W.kitx_list I.iW ⟨_,h1,rfl⟩ e (fun z=>nomatch z) h
 | @tup a xs ea=>
  cases(show u=Value.ref a from rx);obtain⟨_,_,_,p⟩:=(show bF X.prog X.w H s.heap a (.tup xs) from I.hok a _ ea)
  obtain⟨o,h1,h2,_⟩:=p;exact PySem.W.kia_one PySem.W.kitx_tuple I.iW ⟨o,h1,h2⟩ e (fun z=>nomatch z) h
 | @dK a kvs ea=>
  cases(show u=Value.ref a from rx);obtain⟨_,_,vs,_,p⟩:=(show bF X.prog X.w H s.heap a (.dK kvs) from I.hok a _ ea)
  obtain⟨o,es,ep,h1,h2,_⟩:=p;exact PySem.W.kia_one PySem.W.kitx_dict I.iW ⟨o,h1,h2.1⟩ e (fun z=>nomatch z) h
 | @dT a kvs ea=>
  cases(show u=Value.ref a from rx);obtain⟨_,_,xs,_,o,es,ep,h1,h2,_⟩:=(show bF X.prog X.w H s.heap a (.dT kvs) from I.hok a _ ea)
  exact PySem.W.kia_one PySem.W.kitx_dict I.iW ⟨o,h1,h2.1⟩ e (fun z=>nomatch z) h
 | @ins a C dx fs ea cl ha hn htk hm=>
  cases(show u=Value.ref a from rx);obtain⟨mA,O,_⟩:=ux I.hok ea;obtain⟨od,J,_⟩:=O.look;exact PySem.W.kia_one (PySem.W.kitx_own (cl.get _) cl.hd ha hn htk hm) I.iW J e (fun z=>nomatch z) h
end
structure bV (k:Nat)(A:Around):Prop where
 hd:A.handled=none
 dp:A.depth+3*k+5<recursionLimit
 un:A.units+16*k+200<cLine
theorem bV.mono {j k:Nat}{A:Around}(r:bV k A)(h:j<=k):bV j A:=⟨r.hd,by have:=r.dp;omega,by have:=r.un;omega⟩
theorem bV.m {j k:Nat}{A:Around}(r:bV k A)(h:j<=k:=by first | decide | omega):bV j A:=r.mono h
theorem bV.deeper {k:Nat}{A:Around}(r:bV (k+1) A)(env:Env):bV k (A.deeper env):=
 ⟨r.hd,by have:=r.dp;show A.depth+1+3*k+5<_;omega,by have:=r.un;show A.units+3+16*k+200<_;omega⟩
theorem D6 {A:Around}{C:Addr}{us:List Value}{kw:List (Str×Value)}:(A.under (.builtin "type.__call__" ⟨.ref C::us,kw⟩)).depth=A.depth+1:=by
 first | rfl | simp[Around.under,Code.weight,Code.isCreation,Code.isGuard,Code.isCaller,Code.frames,Code.isFrame,guardIds]
theorem D5 {A:Around}{C:Addr}{us:List Value}{kw:List (Str×Value)}:(A.under (.builtin "type.__call__" ⟨.ref C::us,kw⟩)).units=A.units+1:=by
 first | rfl | simp[Around.under,Code.cUnits,Code.frames,Code.isFrame]
theorem bV.make {k:Nat}{A:Around}(r:bV (k+1) A)(C:Addr)(us:List Value)(kw:List (Str×Value)):bV k (A.under (.builtin "type.__call__" ⟨.ref C::us,kw⟩)):=
 ⟨r.hd,by have:=r.dp;rw[D6];omega,by have:=r.un;rw[D5];omega⟩
theorem bV.depth {k:Nat}{A:Around}(r:bV k A):A.depth<recursionLimit:=by have:=r.dp;omega
theorem bV.units {k:Nat}{A:Around}(r:bV k A):A.units+64<cLine:=by have:=r.un;omega
noncomputable def Zm:TA:=fun _ H Q=>Q [] H
noncomputable def Kw (ta:TE)(tr:TA):TA:=fun U H Q=>ta U H fun x H1=>tr U H1 fun xs H2=>Q (x::xs) H2
section
variable {X:Cx}{e:Expr}{es:List Expr}{te:TE}{t:TA}{pos:Pos}
theorem qW:PA X [] Zm:=fun _ _ _ _ H Q I h=>Calls.spliced_nil ⟨[],H,I,.nil,h⟩
theorem jS (ha:PE X e te)(hr:PA X es t)(hs:autoParam (starEach (e::es) X.env=(false,eval e X.env)::starEach es X.env) zi):PA X (e::es) (Kw te t):=by
 intro pos vy s U H Q I h;rw[hs];show wpAny _ _ (spliced ((false,eval e X.env)::backTo pos (starEach es X.env))) _ _ s;refine Calls.spliced_cons (bA (ha vy s U H _ I h) ?_);rintro u s1 ⟨x,H1,I1,r1,q1⟩;exact bA (hr pos vy s1 U H1 _ I1 q1) (by rintro us s2 ⟨xs,H2,I2,r2,q2⟩;exact⟨x::xs,H2,I2,.cons r1 r2,q2⟩)
noncomputable def a4m (t:TA):TE:=fun U H Q=>t U H fun xs H1=>xs.length<=sizeLine/\∀p,H1 p=none->Q (.ref p) (upd H1 p (.tup xs))
noncomputable def HA (t:TA):TE:=fun U H Q=>t U H fun xs H1=>xs.length<=sizeLine/\∀p,H1 p=none->Q (.ref p) (upd H1 p (.lst xs))
theorem Wg {x1}(h:PA X es t):PE X (.Tuple es x1 pos) (a4m t):=by
 intro vy s U H Q I hq;refine wpAny_Tuple_spliced (bA (h pos vy s U H _ I hq) fun us s1 ⟨xs,H1,I1,r,z,q⟩=>⟨by rw[<- r.length];exact z,?_⟩);have hf:H1 s1.heap.objs.size=none:=I1.hok.fresh (Nat.le_refl _);refine⟨.ref s1.heap.objs.size,upd H1 s1.heap.objs.size (.tup xs),I1.laid (t':=s1.toks) (fun b u e=>Heap.get?_push_of_some _ e) (Nat.le_refl _) ?_,rfl,q _ hf⟩;exact⟨z,us,r,⟨_,Heap.get?_push_size _ rfl,rfl,_,rfl⟩⟩
theorem zO (h:PA X es t):PE X (.List es pos) (HA t):=by
 intro vy s U H Q I hq;refine wpAny_List_spliced (bA (h pos vy s U H _ I hq) fun us s1 ⟨xs,H1,I1,r,z,q⟩=>⟨by rw[<- r.length];exact z,?_⟩);have hf:H1 s1.heap.objs.size=none:=I1.hok.fresh (Nat.le_refl _);refine⟨.ref s1.heap.objs.size,upd H1 s1.heap.objs.size (.lst xs),I1.laid (t':=s1.toks) (fun b u e=>Heap.get?_push_of_some _ e) (Nat.le_refl _) ?_,rfl,q _ hf⟩;exact⟨z,us,0,r,Heap.get?_push_size _ rfl⟩
end
abbrev Sp:=List V->Hp->VK->XK->Prop
abbrev E4:=List Env->Hp->Shared->XK->Value->Shared->Prop
structure ES (P:Program)(w:World)(K:PySem.W.Frag)(mg:Str->Option Value)(base:Heap)(A:Around)(outer:List Env)(s:Shared)(H:Hp):Prop where
 frames:A.frames=some outer
 mod:Mod K mg base
 bs:∀b o,base.get? b=some o->s.heap.get? b=some o/\H b=none
 IX:base.objs.size<=s.heap.objs.size
 nS:s.heap.FunFrames base outer
 Ov:∀b∈frs outer,H b=none
 hok:jy P w H s.heap
 bare:AllBare s.gens
def CE (outer:List Env)(P:Program)(w:World)(H:Hp)(s:Shared)(Q:VK)(u:Value)(s':Shared):Prop:=
 ∃v H',s'.os=s.os/\AllBare s'.gens/\Un (frs outer) [] H H' s.heap s'.heap/\jy P w H' s'.heap/\RelV v u/\Q v H'
def CR (CX:E4)(outer:List Env)(P:Program)(w:World)(H:Hp)(s:Shared)(Q:VK)(E:XK)(r:Result)(s':Shared):Prop:=
 match r with
 |.ok (.ret u)=>CE outer P w H s Q u s'
 |.ok _=>False
 |.error e=>CX outer H s E e s'
structure aL (P:Program)(w:World)(K:PySem.W.Frag)(mg:Str->Option Value)(base:Heap)(CX:E4)(k:Nat)(f:Addr)(fd:FuncData)(ps:List Str)(sp:Sp):Prop where
 len:∀vs H Q E,sp vs H Q E->vs.length=ps.length
 run:∀(A:Around)(outer:List Env)(s:Shared)(H:Hp)(args:Args)(us:List Value)(vs:List V) (Q:VK) (E:XK),bV k A->ES P w K mg base A outer s H->BindsTo s fd args (ps.zip us)->Vals vs us->sp vs H Q E->
  codeAny (model P w) A (.call (.ref f) args) (CR CX outer P w H s Q E) s
theorem aL.mono {P:Program}{w:World}{K:PySem.W.Frag}{mg:Str->Option Value}{base:Heap}{CX:E4}{j k:Nat}{f:Addr}{fd:FuncData}{ps:List Str}{sp:Sp}(F:aL P w K mg base CX j f fd ps sp)(h:j<=k) :
  aL P w K mg base CX k f fd ps sp:=⟨F.len,fun A outer s H args us vs Q E hr=>F.run A outer s H args us vs Q E (hr.mono h)⟩
theorem ES.make {P:Program}{w:World}{K:PySem.W.Frag}{mg:Str->Option Value}{base:Heap}{A:Around}{outer:List Env}{s:Shared}{H:Hp}(e:ES P w K mg base A outer s H)(C:Addr)(us:List Value)(kw:List (Str×Value)) :
  ES P w K mg base (A.under (.builtin "type.__call__" ⟨.ref C::us,kw⟩)) outer s H:=⟨by first | exact e.frames | (simpa[Around.under,Code.envs,Code.isFrame,pushEnvs] using e.frames),e.mod,e.bs,e.IX,e.nS,e.Ov,e.hok,e.bare⟩
section
variable {X:Cx}{vy:List (Addr×Obj)}{U:St}{H:Hp}{s s':Shared}
theorem Inv.XI (I:Inv X vy U H s):ES X.prog X.w X.K X.mg X.base X.A X.stack s H:=
 ⟨I.ok.frames,I.ok.mod,I.bs,Nat.le_trans I.ok.IX I.sz,I.stack,I.pH,I.hok,I.bare⟩
theorem Inv.after {Q:VK}{u:Value}(I:Inv X vy U H s)(h:CE X.stack X.prog X.w H s Q u s'):EP X vy U Q u s':=by
 obtain⟨v,H',os,bare,un,hok,r,q⟩:=h;obtain⟨hh,g,d,t,os'⟩:=s';obtain rfl:os'=s.os:=os;exact⟨v,H',I.call (h':=hh) (g':=g) (d':=d) (t':=t) (ch:=[]) un hok bare (fun b z=>absurd z (by simp)),r,q⟩
end
noncomputable def KA (sp:Sp)(xg:List V)(E:XK)(t:TA):TE:=fun U H Q=>t U H fun vs H1=>sp (vs++xg) H1 Q E
noncomputable def Sq (C:Addr)(sp:Sp)(xg:List V)(E:XK)(t:TA):TE:=fun U H Q=>t U H fun vs H1=>∀x dx,H1 x=none->H1 dx=none->dx≠x->
 sp (.ref x::(vs++xg)) (upd (upd H1 dx (.own x)) x (.ins C dx [])) (fun v H2=>v=.cR/\Q (.ref x) H2) E
def Binds (K:PySem.W.Frag)(fd:FuncData)(ps:List Str)(ds:List Value):Prop:=
 ∀(s:Shared)(us:List Value),K.In s.heap->(us++ds).length=ps.length->BindsTo s fd ⟨us,[]⟩ (ps.zip (us++ds))
theorem Binds.all {K:PySem.W.Frag}{fd:FuncData}{ps:List Str}(h:∀us:List Value,us.length=ps.length->bindArgs fd ⟨us,[]⟩=pure (ps.zip us)):Binds K fd ps []:=fun s us _ hl=>by
 rw[List.append_nil] at hl ⊢;exact .of_eq (h us hl)
def Passes (CX:E4)(X:Cx)(E:XK):Prop:=∀(vy:List (Addr×Obj)) (U:St) (H:Hp) (s:Shared) (e:Value) (s':Shared),Inv X vy U H s->CX X.stack H s E e s'->X.xe e s'
section
variable {X:Cx}{CX:E4}{k:Nat}{f C:Addr}{fd:FuncData}{ps:List Str}{sp:Sp}{xg:List V}{ds:List Value}{E:XK}{x m:Str}{p pos BM:Pos}{e o:Expr}{es:List Expr}{ta:TE}{t:TA}
theorem nJ {vy:List (Addr×Obj)}{U:St}{H:Hp}{s:Shared}{Q:VK}{us:List Value}{vs:List V}(F:aL X.prog X.w X.K X.mg X.base CX k f fd ps sp)(hr:bV k X.A)(hb:Binds X.K fd ps ds)(hd:Vals xg ds)(hx:Passes CX X E)
  (I:Inv X vy U H s) (r:Vals vs us) (h:sp (vs++xg) H Q E):wpAny (model X.prog X.w) X.A (call (.ref f) us) (EP X vy U Q) X.xe s:=by
 have r2:Vals (vs++xg) (us++ds):=r.append hd;have hl:(us++ds).length=ps.length:=by rw[<- r2.length];exact F.len _ _ _ _ h
 refine wpAny_call (codeAny_mono (F.run X.A X.stack s H ⟨us,[]⟩ (us++ds) (vs++xg) Q E hr I.XI (hb s us I.iW hl) r2 h) fun r s' hq=>?_);cases r with
 |error e=>exact hx vy U H s e s' I hq
 |ok fl=>
  cases fl with
  |ret u=>exact I.after hq
  |next=>exact False.elim hq
  |brk=>exact False.elim hq
  |cont=>exact False.elim hq
theorem Qe (F:aL X.prog X.w X.K X.mg X.base CX k f fd ps sp)(hr:bV k X.A)(hg:Gl X x)(hm:X.mg x=some (.ref f))(hk:PySem.W.keepIn X.K (.ref f)=true)(hb:Binds X.K fd ps ds)(hd:Vals xg ds)(hx:Passes CX X E)
  (ha:PA X (e::es) t) (hdb:autoParam ((x==("__debug__":Str))=false) zn) (he:autoParam (starEach (e::es) X.env=(false,eval e X.env)::starEach es X.env) zi) (hpl:autoParam ((backTo pos (starEach es X.env)).any (·.1)=false) zi) :
  PE X (.Call (.Name x p) (e::es) [] pos) (KA sp xg E t):=by
 intro vy s U H Q I h;refine wpAny_Call_Name_kw (jU I hg hm ?_ hdb);refine PySem.W.callWith_K (h₀:=X.base) I.ok.mod.Oo hk (bA (ha pos vy s U H _ I h) fun us s1 ⟨vs,H1,I1,r,q⟩=>⟨I1.iW,?_⟩) he hpl;exact nJ F hr hb hd hx I1 r q
theorem L5 (F:aL X.prog X.w X.K X.mg X.base CX k f fd ps sp)(hr:bV k X.A)(hg:Gl X x)(hm:X.mg x=some (.ref f))(hk:PySem.W.keepIn X.K (.ref f)=true)(hb:Binds X.K fd ps ds)(hd:Vals xg ds)(hx:Passes CX X E)
  (hdb:autoParam ((x==("__debug__":Str))=false) zn):PE X (.Call (.Name x p) [] [] pos) (KA sp xg E Zm):=by
 intro vy s U H Q I h;refine wpAny_Call_Name_kw (jU I hg hm ?_ hdb);exact PySem.W.callWith_K0 I.iW hk (nJ (us:=[]) F hr hb hd hx I .nil h)
structure Mk (K:PySem.W.Frag)(C f:Addr):Prop where
 makes:PySem.W.makesIn K C=true
 init:PySem.W.findIn K (.ref C) "__init__"=some (some (.ref f))
 fn:PySem.W.isFn K (.ref f)=true
 kp:PySem.W.keepIn K (.ref C)=true
theorem Lo {vy:List (Addr×Obj)}{U:St}{H:Hp}{s:Shared}{Q:VK}{us:List Value}{vs:List V}(M:Mk X.K C f)(F:aL X.prog X.w X.K X.mg X.base CX k f fd ps sp)(hr:bV (k+1) X.A)(hb:Binds X.K fd ps ds)(hd:Vals xg ds)
  (hx:Passes CX X E) (I:Inv X vy U H s) (r:Vals vs us)
  (h:∀x dx,H x=none->H dx=none->dx≠x->sp (.ref x::(vs++xg)) (upd (upd H dx (.own x)) x (.ins C dx [])) (fun v H2=>v=.cR/\Q (.ref x) H2) E) :
  wpAny (model X.prog X.w) X.A (call (.ref C) us) (EP X vy U Q) X.xe s:=by
 have hq:=h (s.heap.objs.size+1) s.heap.objs.size (I.hok.fresh (Nat.le_succ _)) (I.hok.fresh (Nat.le_refl _)) (Nat.ne_of_lt (Nat.lt_succ_self _));have I2:=Inv.made (C:=C) I;have r2:Vals (V.ref (s.heap.objs.size+1)::(vs++xg)) (Value.ref (s.heap.objs.size+1)::(us++ds)):=.cons rfl (r.append hd);have hl:(Value.ref (s.heap.objs.size+1)::us++ds).length=ps.length:=by
  have e:=r2.length;rw[F.len _ _ _ _ hq] at e;exact e.symm
 refine wpAny_call (MD (f:=f) I.iW M.makes M.init (beq_iff_eq.mp M.fn) (codeAny_mono (F.run _ X.stack _ _ ⟨Value.ref (s.heap.objs.size+1)::us,[]⟩ (Value.ref (s.heap.objs.size+1)::(us++ds)) _ _ E (hr.make C us [])
  (I2.XI.make C us []) (hb _ (Value.ref (s.heap.objs.size+1)::us) I2.iW hl) r2 hq) fun r s' hq'=>?_))
 cases r with
 |error e=>exact hx vy U _ _ e s' I2 hq'
 |ok fl=>
  cases fl with
  |ret u=>
   obtain⟨v,H',I3,rv,ev,q3⟩:=I2.after hq';subst ev;exact⟨rv,⟨V.ref (s.heap.objs.size+1),H',I3,rfl,q3⟩⟩
  |next=>exact False.elim hq'
  |brk=>exact False.elim hq'
  |cont=>exact False.elim hq'
theorem P6 (M:Mk X.K C f)(F:aL X.prog X.w X.K X.mg X.base CX k f fd ps sp)(hr:bV (k+1) X.A)(hg:Gl X x)(hm:X.mg x=some (.ref C))(hb:Binds X.K fd ps ds)(hd:Vals xg ds)(hx:Passes CX X E)
  (ha:PA X (e::es) t) (hdb:autoParam ((x==("__debug__":Str))=false) zn) (he:autoParam (starEach (e::es) X.env=(false,eval e X.env)::starEach es X.env) zi) (hpl:autoParam ((backTo pos (starEach es X.env)).any (·.1)=false) zi) :
  PE X (.Call (.Name x p) (e::es) [] pos) (Sq C sp xg E t):=by
 intro vy s U H Q I h;refine wpAny_Call_Name_kw (jU I hg hm ?_ hdb);refine PySem.W.callWith_K (h₀:=X.base) I.ok.mod.Oo M.kp (bA (ha pos vy s U H _ I h) fun us s1 ⟨vs,H1,I1,r,q⟩=>⟨I1.iW,?_⟩) he hpl;exact Lo M F hr hb hd hx I1 r q
end
section
variable {X:Cx}{CX:E4}{k:Nat}{f C:Addr}{fd:FuncData}{ps ks:List Str}{sp:Sp}{E:XK}{x m:Str}{p pos BM kpos:Pos}{e o:Expr}{es:List Expr}{kws:List Keyword}{te ta:TE}{t tk:TA}{nm:Option Str}
variable {g:List Value->List Value->List Value}{gV:List V->List V->List V}
end
structure au (N P:List Str)(sc:Scope):Prop where
 kind:sc.kind=.function
 co:sc.isCoroutine=false
 gen:sc.isGenerator=false
 nd:N.Nodup
 pre:N.take P.length=P
 par:∀x∈P,sc.names.lookup x=some .local∨sc.names.lookup x=some .cell
 WK:∀y∈sc.names,y.2≠.free
theorem fB {N P:List Str}{sc:Scope}(a:autoParam (sc.kind=.function) zi)(b:autoParam (sc.isCoroutine=false) zi)(c:autoParam (sc.isGenerator=false) zi)(d:autoParam (N.Nodup) js)(e:autoParam (N.take P.length=P) zi)(f:autoParam (∀x∈P,sc.names.lookup x=some .local∨sc.names.lookup x=some .cell) js)(g:autoParam (∀y∈sc.names,y.2≠.free) js):au N P sc:=⟨a,b,c,d,e,f,g⟩
theorem yy {kindOf:Str->Option NameKind}{x:Str}:∀{binds:List (Str×Value)} {m:Str->Option Value},(∀v,(x,v)∉binds)->bindL kindOf binds m x=m x
 |[],_,_=>rfl
 |(n,v)::r,m,h=>by
  unfold bindL;rw[yy fun w hw=>h w (List.mem_cons_of_mem _ hw)];split
  .have:x≠n:=by rintro rfl;exact h v List.mem_cons_self
   simp[this]
  .rfl
theorem yC {kindOf:Str->Option NameKind}{x:Str}:∀{binds:List (Str×Value)} {m:Str->Option Value},(∀v,(x,v)∉binds)->bindC kindOf binds m x=m x
 |[],_,_=>rfl
 |(n,v)::r,m,h=>by
  unfold bindC;rw[yC fun w hw=>h w (List.mem_cons_of_mem _ hw)];split
  .rfl
  .have:x≠n:=by rintro rfl;exact h v List.mem_cons_self
   simp[this]
theorem yz {kindOf:Str->Option NameKind}{x:Str}{v:Value}:∀{P:List Str}{vs:List Value}{i:Nat}{m:Str->Option Value},P.Nodup->P[i]?=some x->vs[i]?=some v->kindOf x=some .local->
  bindL kindOf (P.zip vs) m x=some v
 |[],_,_,_,_,h,_,_=>by simp at h
 |_::_,[],_,_,_,_,h,_=>by simp at h
 |p::P,w::vs,0,m,nd,h1,h2,hk=>by
  simp at h1 h2;subst h1;subst h2;show bindL kindOf ((p,w)::P.zip vs) m p=_;unfold bindL;rw[yy fun v hv=>(List.nodup_cons.mp nd).1 (List.of_mem_zip hv).1,if_pos hk];simp
 |p::P,w::vs,i+1,m,nd,h1,h2,hk=>by
  show bindL kindOf ((p,w)::P.zip vs) m x=_;unfold bindL;exact yz (i:=i) (List.nodup_cons.mp nd).2 (by simpa using h1) (by simpa using h2) hk
theorem yD {kindOf:Str->Option NameKind}{x:Str}{v:Value}:∀{P:List Str}{vs:List Value}{i:Nat}{m:Str->Option Value},P.Nodup->P[i]?=some x->vs[i]?=some v->kindOf x≠some .local->
  bindC kindOf (P.zip vs) m x=some v
 |[],_,_,_,_,h,_,_=>by simp at h
 |_::_,[],_,_,_,_,h,_=>by simp at h
 |p::P,w::vs,0,m,nd,h1,h2,hk=>by
  simp at h1 h2;subst h1;subst h2;show bindC kindOf ((p,w)::P.zip vs) m p=_;unfold bindC;rw[yC fun v hv=>(List.nodup_cons.mp nd).1 (List.of_mem_zip hv).1,if_neg hk];simp
 |p::P,w::vs,i+1,m,nd,h1,h2,hk=>by
  show bindC kindOf ((p,w)::P.zip vs) m x=_;unfold bindC;exact yD (i:=i) (List.nodup_cons.mp nd).2 (by simpa using h1) (by simpa using h2) hk
noncomputable def start (N:List Str)(vs:List V):St:=vs.map some++List.replicate (N.length - vs.length) none
noncomputable def Aq (CX:E4)(P:Program)(w:World)(K:PySem.W.Frag)(mg:Str->Option Value)(base:Heap)(N:List Str)(qual:Str)(scope:Scope)(f:Addr)(cd:Value)(A:Around)(outer:List Env)(s:Shared)(H:Hp)(E:XK):Cx where
 prog:=P
 w:=w
 K:=K
 mg:=mg
 base:=base
 A:=A.deeper (envOfC qual scope s.heap.objs.size f cd)
 N:=N
 s₀:=s
 H₀:=H
 env:=envOfC qual scope s.heap.objs.size f cd
 outer:=outer
 stack:=envOfC qual scope s.heap.objs.size f cd::outer
 ex:=[]
 calm:=true
 fn:=fun _=>true
 pn:=[]
 xe:=fun e s'=>wpAny (model P w) (A.deeper (envOfC qual scope s.heap.objs.size f cd)) (leaving (envOfC qual scope s.heap.objs.size f cd) e) (fun _ s''=>CX outer H s E e s'') (fun e' s''=>CX outer H s E e' s'') s'
theorem Cv {sc:Scope}{n:Nat}{x:Str}(h:sc.names.lookup x=some .cell):∃c,(cellsFrom n sc.names []).lookup x=some c:=by
 have q:=PySem.W.cellsFrom_some sc.names n [] (.inl h);exact Option.isSome_iff_exists.mp q
theorem IG {CX:E4}{P:Program}{w:World}{K:PySem.W.Frag}{mg:Str->Option Value}{base:Heap}{N ps:List Str}{qual:Str}{scope:Scope}{f:Addr}{cd:Value}{A:Around}{outer:List Env}{s s1:Shared}{H:Hp}{E:XK}{us:List Value}{vs:List V}
  (S:au N ps scope) (hd:A.handled=none) (e0:ES P w K mg base A outer s H) (hl:vs.length=ps.length) (r:Vals vs us)
  (x:InCallC s s.heap.objs.size (bindL (envOfC qual scope s.heap.objs.size f cd).kindOf (ps.zip us) fun _=>none) (cellsFrom (s.heap.objs.size+1) scope.names []) (bindC (envOfC qual scope s.heap.objs.size f cd).kindOf (ps.zip us) fun _=>none) s1) :
  Inv (Aq CX P w K mg base N qual scope f cd A outer s H E) [] (start N vs) H s1:=by
 have hpl:ps.length<=N.length:=by have:=congrArg List.length S.pre;rw[List.length_take] at this;omega
 obtain⟨h1,tk,rfl,hk⟩:=x.done;have noA:∀b:Addr,b∉(Aq CX P w K mg base N qual scope f cd A outer s H E).ex:=fun b z=>absurd (show b∈([]:List Addr) from z) (by simp);refine⟨⟨e0.mod,S.kind,rfl,rfl,Nat.le_refl _,fun y z c h1 h2=>?_,fun y hy=>?_,fun y c _ h=>?_,fun _=>hd,Around.frames_deeper e0.frames,.inr ⟨rfl,rfl⟩,fun b z=>absurd z (noA b),e0.bs,e0.IX,fun b _ _=>noA b,fun b z=>absurd z (noA b),e0.nS,e0.Ov⟩,
  rfl,e0.bare,Un.kept hk,⟨_,x.toInCall.ns,fun i y v h1 h2 h3=>?_⟩,fun y c h=>⟨_,x.cell y c h⟩,e0.hok.fresh (Nat.le_refl _),fun y c h=>?_,fun p hp=>absurd (show p∈([]:List (Addr×Obj)) from hp) (by simp),e0.hok.kept hk,?_⟩
 .exact name_of_addr x.apart (PySem.mem_of_lookup h1) (PySem.mem_of_lookup h2)
 .have hy:scope.names.lookup y=some .cell∨scope.names.lookup y=some .free:=hy;rcases hy with hy | hy
  .exact Cv hy
  .exact absurd rfl (S.WK _ (PySem.mem_of_lookup hy))
 .exact Nat.le_of_lt (x.above y c (PySem.mem_of_lookup h))
 .have hi:i<vs.length:=by
   unfold start at h2;by_cases hi:i<vs.length
   .exact hi
   .rw[List.getElem?_append_right (by simpa using hi)] at h2;rw[List.getElem?_replicate] at h2;split at h2<;>cases h2
  have ha:vs[i]?=some v:=by
   unfold start at h2;rw[List.getElem?_append_left (by simpa using hi),List.getElem?_map] at h2;cases e:vs[i]? with
   |none=>rw[e] at h2;cases h2
   |some a=>rw[e] at h2;cases h2;rfl
  obtain⟨u,hu,rv⟩:=r.get ha;have hp:ps[i]?=some y:=by
   rw[<- S.pre,List.getElem?_take_of_lt (by omega)];exact h1
  have ndP:ps.Nodup:=by rw[<- S.pre];exact S.nd.sublist (List.take_sublist _ _)
  refine⟨u,rv,?_⟩;rcases S.par y (List.mem_of_getElem? hp) with k | k
  .exact .inl ⟨k,yz ndP hp hu k⟩
  .obtain⟨c,e⟩:=Cv (n:=s.heap.objs.size+1) k;refine .inr ⟨.inl k,c,e,?_⟩;have q:=x.cell y c e;rw[yD ndP hp hu (by show scope.names.lookup y≠_;rw[k];decide)] at q;exact q
 .exact e0.hok.fresh (Nat.le_of_lt (x.above y c (PySem.mem_of_lookup h)))
 .unfold start;show _=N.length;rw[List.length_append,List.length_map,List.length_replicate];omega
theorem TZ {CX:E4}{P:Program}{w:World}{K:PySem.W.Frag}{mg:Str->Option Value}{base:Heap}{k:Nat}{f:Addr}{name qual:Str}{params:Arguments}{body:List Stmt}{scope:Scope}{dV kV doc pm AT ct oc:Value}{an od:Option Addr}
  {osl:Array (Option Value)} {N ps:List Str} {sp:Sp} (lk:K.lookup f=some ⟨oc,od,.func (PySem.W.fnOf name qual params body scope dV kV doc pm an AT ct),osl⟩) (hcd:PySem.W.codeIn K AT qual=true) (S:au N ps scope)
  (len:∀vs H Q E,sp vs H Q E->vs.length=ps.length)
  (hbody:∀(A:Around)(outer:List Env)(s:Shared)(H:Hp)(vs:List V)(Q:VK)(E:XK),bV k (A.deeper (envOfC qual scope s.heap.objs.size f AT))->sp vs H Q E->
   ∃t,sJ (Aq CX P w K mg base N qual scope f AT A outer s H E) body t/\t {nx:=fun _ H'=>Q .cR H',rt:=Q } (start N vs) H) :
  aL P w K mg base CX (k+1) f (PySem.W.fnOf name qual params body scope dV kV doc pm an AT ct) ps sp:=by
 refine⟨len,fun A outer s H args us vs Q E hr e0 hb r Ou=>?_⟩;have hl:=len _ _ _ _ Ou;have KX:K.In s.heap:=e0.mod.Oo.keeps fun b o e=>(e0.bs b o e).1;have lim:s.heap.NoLimit:=e0.mod.nolimit.keeps fun b o e=>(e0.bs b o e).1;have hkind:∀y∈ps.zip us,scope.names.lookup y.1=some .local∨(scope.names.lookup y.1=some .cell/\((cellsFrom (s.heap.objs.size+1) scope.names []).lookup y.1).isSome=true):=fun⟨n,v⟩ hy=>by
  rcases S.par n (List.of_mem_zip hy).1 with q | q
  .exact .inl q
  .exact .inr ⟨q,PySem.W.cellsFrom_some _ _ _ (.inl q)⟩
 refine codeAny_call_function hr.depth (KX _ _ lk) rfl S.co S.gen rfl (PySem.W.codeRec_of KX hcd) (hb _ _ _ _ ?_);refine wpAny_newFunctionEnv_cells S.kind hkind fun env he s1 x=>?_;subst he;refine⟨lim.keeps x.toInCall.keep,codeAny_func ?_⟩;obtain⟨t,ht,hq⟩:=hbody A outer s H vs Q E (hr.deeper _) Ou;have I:Inv (Aq CX P w K mg base N qual scope f AT A outer s H E) [] (start N vs) H s1:=IG S hr.hd e0 hl r x;refine wpAny_mono (ht [] s1 (start N vs) H _ I hq) (fun fl s' hs=>?_) fun e s' hs=>hs;have fin:∀{U':St}{H':Hp}{v:V}{u:Value},Inv (Aq CX P w K mg base N qual scope f AT A outer s H E) [] U' H' s'->RelV v u->Q v H'->CE outer P w H s Q u s':=
  fun{U' H' v u} J rv q=>⟨v,H',J.os,J.bare,J.base,J.hok,rv,q⟩
 cases fl with
 |ret u=>
  obtain⟨v,U',H',J,rv,q⟩:=hs;exact fin J rv q
 |next=>
  obtain⟨U',H',J,q⟩:=hs;exact fin (v:=V.cR) (u:=Value.none) J rfl q
 |brk=>
  obtain⟨_,_,_,q⟩:=hs;exact False.elim q
 |cont=>
  obtain⟨_,_,_,q⟩:=hs;exact False.elim q
section
variable {X:Cx}{x:Str}{p pos:Pos}{e:Expr}{es:List Expr}{t:TA}{id T:String}{r:List V->Hp->VK->Prop}
noncomputable def Zz (r:List V->Hp->VK->Prop)(t:TA):TE:=fun U H Q=>t U H fun vs H1=>r vs H1 Q
theorem LZ (hc:eS X (.builtin id) r)(hg:Gl X x)(hm:X.mg x=none)(hv:bootBuiltins x=some (.builtin id))(ha:PA X (e::es) t)(hn:autoParam (x≠"__name__") zn)(hdb:autoParam ((x==("__debug__":Str))=false) zn)
  (he:autoParam (starEach (e::es) X.env=(false,eval e X.env)::starEach es X.env) zi) (hpl:autoParam ((backTo pos (starEach es X.env)).any (·.1)=false) zi):PE X (.Call (.Name x p) (e::es) [] pos) (Zz r t):=by
 intro vy s U H Q I h;refine wpAny_Call_Name_kw (qY I hg hm hv ?_ hn hdb);exact PyProof.Rows.callWith_builtin1 (bA (ha pos vy s U H _ I h) (by rintro us s1 ⟨vs,H1,I1,r1,q1⟩;exact hc vy s1 U H1 vs us Q I1 r1 q1)) he hpl
theorem HQ (hc:eS X (.type T) r)(hg:Gl X x)(hm:X.mg x=none)(hv:bootBuiltins x=some (.type T))(ha:PA X (e::es) t)(hn:autoParam (x≠"__name__") zn)(hdb:autoParam ((x==("__debug__":Str))=false) zn)
  (he:autoParam (starEach (e::es) X.env=(false,eval e X.env)::starEach es X.env) zi) (hpl:autoParam ((backTo pos (starEach es X.env)).any (·.1)=false) zi):PE X (.Call (.Name x p) (e::es) [] pos) (Zz r t):=by
 intro vy s U H Q I h;refine wpAny_Call_Name_kw (qY I hg hm hv ?_ hn hdb);exact PyProof.Rows.callWith_type1 (bA (ha pos vy s U H _ I h) (by rintro us s1 ⟨vs,H1,I1,r1,q1⟩;exact hc vy s1 U H1 vs us Q I1 r1 q1)) he hpl
end
end L2
namespace HT
open PySem PyProof.Rows
section
open PySem.SeqAt
open PySem.AutoSeq1 (wpAny_loadPart')
open PySem.MeetsSeq PySem.MeetsSeq2 PySem.MeetsSeq3
end
section
variable {prog:Program}{w:World}{A:Around}{E:Value->Shared->Prop}{s:Shared}
theorem RJ {t b:Addr}{vs ws:List Value}{Q:Value->Shared->Prop}(ht:IsTup s.heap t vs.toArray)(hb:IsTup s.heap b ws.toArray)(hv:vs≠[])
  (h1:ws=[]->Q (.ref t) s) (h2:ws≠[]->Q (.ref s.heap.objs.size) {s with heap:=s.heap.push {cls:=.type "tuple",data:=.seq (vs++ws).toArray } })
  (hsz:vs.length+ws.length<=sizeLine):wpAny (model prog w) A (binaryOp .Add (.ref t) (.ref b)) Q E s:=by
 obtain⟨⟨cls,dd,data,sl⟩,ho,hc,n,hd⟩:=id ht;obtain⟨⟨a6S,dd2,data2,sl2⟩,ho2,hc2,n2,hd2⟩:=id hb;simp only at hc hd hc2 hd2;subst hc hd hc2 hd2;have e:vs.toArray++ws.toArray=(vs++ws).toArray:=by simp
 by_cases hw:ws=[]
 .exact concat_meets ⟨_,ho,rfl⟩ ⟨_,ho2,rfl⟩ noFill_tuple_add seq_tuple_add PySem.F.slot_tuple_add PySem.F.entry_tuple_add (PySem.F.args_tuple_add_2 _ _)
   (tuple_addW1 t b vs.toArray ws.toArray n n2 dd dd2 sl sl2 (by simpa using hv) (by simp[hw])) ⟨ho,ho2,h1 hw⟩
 .refine concat_meets ⟨_,ho,rfl⟩ ⟨_,ho2,rfl⟩ noFill_tuple_add seq_tuple_add PySem.F.slot_tuple_add PySem.F.entry_tuple_add (PySem.F.args_tuple_add_2 _ _)
   (tuple_addW2 t b vs.toArray ws.toArray n n2 dd dd2 sl sl2 (by simpa using hv) (by simpa using hw) (by rw[List.size_toArray,List.size_toArray];exact hsz)) ⟨ho,ho2,?_⟩
  rw[e];exact h2 hw
noncomputable def fD (n d:Nat):Option Int->Nat
 |none=>d
 |some v=>if v<0 then(v+(n:Int)).toNat else min v.toNat n
theorem vj (n d:Nat):fD n d none=d:=rfl
theorem jN (n d k:Nat):fD n d (some (k:Int))=min k n:=by
 show(if(k:Int)<0 then((k:Int)+(n:Int)).toNat else min (k:Int).toNat n)=min k n;rw[if_neg (by omega),Int.toNat_natCast]
theorem Vo (n d:Nat)(hd:d<=n)(o:Option Int):fD n d o<=n:=by
 cases o with
 |none=>exact hd
 |some v=>
  show(if v<0 then(v+(n:Int)).toNat else min v.toNat n)<=n;by_cases hv:v<0
  .rw[if_pos hv];omega
  .rw[if_neg hv];exact Nat.min_le_right _ _
theorem G5 (v:Int)(n d:Nat):(if v<0 then max (v+(n:Int)) 0 else min v (n:Int))=((fD n d (some v):Nat):Int):=by
 show(if v<0 then max (v+(n:Int)) 0 else min v (n:Int))=(((if v<0 then(v+(n:Int)).toNat else min v.toNat n):Nat):Int);by_cases hv:v<0
 .simp only[if_pos hv];omega
 .simp only[if_neg hv];omega
theorem EI (lo hi:Option Int)(n:Nat):Builtin.Slice.sliceAdjust lo hi 1 (n:Int)=(((fD n 0 lo:Nat):Int),((fD n n hi:Nat):Int)):=by
 have h1:¬((1:Int)<0):=by omega
 unfold Builtin.Slice.sliceAdjust;simp only[h1,if_false];refine Prod.ext ?_ ?_
 .cases lo with
  |none=>rfl
  |some v=>exact G5 v n 0
 .cases hi with
  |none=>rfl
  |some v=>exact G5 v n n
theorem DP (i j:Nat):Builtin.Slice.slicePlaces (i:Int) (j:Int) 1=j - i:=by
 unfold Builtin.Slice.slicePlaces;have h1:(1:Int) > 0:=by omega
 simp only[h1,if_true,Int.ediv_one];split<;>omega
theorem u6 {v:Value}{o:Option Int}{Q:Option Int->Shared->Prop}(p:IsPart v o)(h:Q o s):wpAny (model prog w) A (Builtin.Slice.slicePartIndex v) Q E s:=by
 cases p with
 |none=>exact slicePart_none h
 |int i t=>exact slicePart_int h
theorem qN {sl:Addr}{vl vu:Value}{lo hi:Option Int}{n:Nat}{Q:Int×Int×Nat->Shared->Prop}(hs:s.heap.IsSliceOf sl vl vu .none)(pl:IsPart vl lo)(pu:IsPart vu hi)
  (h:Q (((fD n 0 lo:Nat):Int),1,fD n n hi - fD n 0 lo) s):wpAny (model prog w) A (Builtin.Slice.sliceApplied (.ref sl) (pure (n:Int))) Q E s:=by
 obtain⟨os,hos,hcs,hds⟩:=id hs;unfold Builtin.Slice.sliceApplied Builtin.Slice.sliceFields;refine wpAny_bind (wpAny_bind (wpAny_field hos hds (x:=vl) rfl (wpAny_bind (wpAny_field hos hds (x:=vu) rfl (wpAny_bind (wpAny_field hos hds (x:=.none) rfl (wpAny_pure ?_)))))));refine wpAny_bind (slicePart_none ?_);show wpAny _ _ (if((1:Int)==0)=true then _ else _) _ _ s;rw[if_neg (by decide)];refine wpAny_bind (u6 pl (wpAny_bind (u6 pu (wpAny_bind (wpAny_pure ?_)))));show wpAny _ _ (match Builtin.Slice.sliceAdjust lo hi 1 (n:Int) with | (lo,hi)=>pure (lo,(1:Int),Builtin.Slice.slicePlaces lo hi 1)) _ _ s;rw[EI lo hi n];show wpAny _ _ (pure (((fD n 0 lo:Nat):Int),(1:Int),Builtin.Slice.slicePlaces ((fD n 0 lo:Nat):Int) ((fD n n hi:Nat):Int) 1)) _ _ s;rw[DP];exact wpAny_pure h
theorem LO (xs:Array Value)(i k:Nat):((List.range k).filterMap fun(m:Nat)=>xs[((i:Int)+(m:Int)*1).toNat]?).toArray=((xs.toList.drop i).take k).toArray:=by
 have e:(fun(m:Nat)=>xs[((i:Int)+(m:Int)*1).toNat]?)=fun m=>xs[i+m]?:=by
  funext m;have:((i:Int)+(m:Int)*1).toNat=i+m:=by omega
  rw[this]
 rw[e];have:=pick_run xs i k;rw[List.filterMap_map] at this;have e2:((fun x=>xs[x]?) ∘ fun x=>i+x)=fun m=>xs[i+m]?:=rfl;rw[e2] at this;rw[this]
theorem p6 {t sl:Addr}{items:Array Value}{vl vu:Value}{lo hi:Option Int}{Q:Value->Shared->Prop}(ht:IsTup s.heap t items)(hs:s.heap.IsSliceOf sl vl vu .none)(pl:IsPart vl lo)(pu:IsPart vu hi)
  (hw:¬(fD items.size 0 lo=0/\fD items.size items.size hi=items.size))
  (h:Q (.ref s.heap.objs.size) {s with heap:=s.heap.push {cls:=.type "tuple",data:=.seq ((items.toList.drop (fD items.size 0 lo)).take (fD items.size items.size hi - fD items.size 0 lo)).toArray } })
  (hsz:items.size<=sizeLine):wpAny (model prog w) A (getItem (.ref t) (.ref sl)) Q E s:=by
 have GH:sizeOk (.seq ((items.toList.drop (fD items.size 0 lo)).take (fD items.size items.size hi - fD items.size 0 lo)).toArray):=by
  show((items.toList.drop (fD items.size 0 lo)).take (fD items.size items.size hi - fD items.size 0 lo)).toArray.size<=sizeLine;rw[List.size_toArray,List.length_take,List.length_drop,Array.length_toList];omega
 have hj:fD items.size items.size hi<=items.size:=Vo _ _ (Nat.le_refl _) hi;obtain⟨os,hos,hcs,hds⟩:=id hs;have hTs:s.TypeIs (.ref sl) "slice":=⟨os,hos,hcs⟩
 unfold getItem
 try with_reducible refine wpAny_holding ?_
 first | refine wpAny_bind (wpAny_pure ?_) | skip
 refine wpAny_bind (wpAny_sequenceKey ht.typeIs (by decide) ?_);refine wpAny_bind (wpAny_callSpecial?_slot (name:=Str.ofString "__getitem__") ht.typeIs PyProof.Rows.slot_tuple_getitem
  (wpAny_call_entry PyProof.Rows.slot_tuple_getitem ht.typeIs entry_tuple_getitem ?_ (args_tuple_getitem _ _)))
 show wpAny _ _ (Builtin.Tuple.tupleItemsOf (.ref t) >>=_) _ _ s;refine wpAny_bind (tupleItemsOf_ ht ?_);refine wpAny_bind (wpAny_typeOf hTs ?_);rw[if_pos (by decide)];refine wpAny_bind (qN hs pl pu ?_);have hno:¬((((fD items.size 0 lo:Nat):Int)==0&&(1:Int)==1&&(fD items.size items.size hi - fD items.size 0 lo)==items.size)=true):=by
  intro q;rw[Bool.and_eq_true,Bool.and_eq_true] at q;have q1:((fD items.size 0 lo:Nat):Int)=0:=eq_of_beq q.1.1;have q2:fD items.size items.size hi - fD items.size 0 lo=items.size:=eq_of_beq q.2;exact hw ⟨by omega,by omega⟩
 show wpAny _ _ (if(((fD items.size 0 lo:Nat):Int)==0&&(1:Int)==1&&(fD items.size items.size hi - fD items.size 0 lo)==items.size)=true then _ else _) _ _ s;rw[if_neg hno,LO]
 first
  |exact wpAny_bind (m:=Builtin.Tuple.tupleExact _) (wpAny_newObj_type (wpAny_pure ⟨_,rfl,wpAny_pure h⟩) GH)
  |exact wpAny_bind (m:=Builtin.Tuple.tupleExact _) (wpAny_newObj_type (wpAny_bind (wpAny_pure (wpAny_pure ⟨_,rfl,wpAny_pure h⟩))) GH)
  |exact wpAny_bind (wpAny_bind (m:=Builtin.Tuple.tupleExact _) (wpAny_newObj_type (wpAny_pure (wpAny_pure ⟨_,rfl,wpAny_pure h⟩)) GH))
  |exact wpAny_bind (wpAny_bind (m:=Builtin.Tuple.tupleExact _) (wpAny_newObj_type (wpAny_pure ⟨_,rfl,wpAny_pure h⟩) GH))
end
end HT
namespace L2
open PySem PySem.Spec PyProof.Rows
abbrev TO:=St->Hp->(Option Int->Hp->Prop)->Prop
def PO (X:Cx)(e:Option Expr)(t:TO):Prop:=
 ∀(vy:List (Addr×Obj)) (s:Shared) (U:St) (H:Hp) (Q:Option Int->Hp->Prop),Inv X vy U H s->t U H Q->
  wpAny (model X.prog X.w) X.A (evalPart e X.env) (fun u s'=>∃o H',Inv X vy U H' s'/\IsPart u o/\Q o H') X.xe s
noncomputable def OL:TO:=fun _ H Q=>Q none H
noncomputable def Zg (t:TE):TO:=fun U H Q=>t U H fun x H1=>∃i,x=.int i/\Q (some i) H1
section
variable {X:Cx}{e:Expr}{te:TE}{lo hi:Option Expr}{tl th:TO}{pos p2:Pos}
theorem PY:PO X none OL:=by
 intro vy s U H Q I h;rw[evalPart_none];exact wpAny_pure ⟨none,H,I,.none,h⟩
theorem PX (h:PE X e te):PO X (some e) (Zg te):=by
 intro vy s U H Q I hw;rw[evalPart_some];refine bA (h vy s U H _ I hw) ?_;rintro u s1 ⟨x,H1,I1,r1,q1⟩;obtain⟨i,rfl,q⟩:=q1;obtain⟨t,rfl⟩:=r1;exact⟨some i,H1,I1,.int i t,q⟩
def RU (X:Cx)(r:V->Option Int->Option Int->Hp->VK->Prop):Prop:=
 ∀(vy:List (Addr×Obj)) (s:Shared) (U:St) (H:Hp) (x:V) (v vl vu:Value) (lo hi:Option Int) (sl:Addr) (Q:VK),Inv X vy U H s->RelV x v->s.heap.IsSliceOf sl vl vu .none->IsPart vl lo->IsPart vu hi->r x lo hi H Q->
  ∃T id,typeLookup (.type T) "__getitem__"=pure (some (.builtin id))/\s.TypeIs v T/\wpAny (model X.prog X.w) X.A (getItem v (.ref sl)) (EP X vy U Q) X.xe s
theorem RU.or {r r':V->Option Int->Option Int->Hp->VK->Prop}(h:RU X r)(h':RU X r'):RU X (fun x lo hi H Q=>r x lo hi H Q∨r' x lo hi H Q):=by
 intro vy s U H x v vl vu lo hi sl Q I rx hs pl pu q;rcases q with q | q
 .exact h vy s U H x v vl vu lo hi sl Q I rx hs pl pu q
 .exact h' vy s U H x v vl vu lo hi sl Q I rx hs pl pu q
noncomputable def tSl (r:V->Option Int->Option Int->Hp->VK->Prop)(te:TE)(tl th:TO):TE:=fun U H Q=>te U H fun x H1=>tl U H1 fun l H2=>th U H2 fun u H3=>r x l u H3 Q
theorem LU {r:V->Option Int->Option Int->Hp->VK->Prop}(hr:RU X r)(he:PE X e te)(hl:PO X lo tl)(hu:PO X hi th):PE X (.Subscript e (.Slice lo hi none p2) pos) (tSl r te tl th):=by
 intro vy s U H Q I h;refine Subscript_ (bA (he vy s U H _ I h) ?_);rintro v s1 ⟨x,H1,I1,r1,q1⟩;refine wpAny_Slice (bA (hl vy s1 U H1 _ I1 q1) fun vl s2 ⟨l,H2,I2,pl,q2⟩=>bA (hu vy s2 U H2 _ I2 q2) ?_);rintro vu s3 ⟨u,H3,I3,pu,q3⟩;rw[evalPart_none];refine wpAny_pure ?_;have I4:Inv X vy U H3 {s3 with heap:=s3.heap.push {cls:=.type "slice",data:=.fields #[vl,vu,.none] } }:=I3.kept (t':=s3.toks) fun b ob q=>Heap.get?_push_of_some _ q;obtain⟨T,id,hT,ht,hg⟩:=hr vy {s3 with heap:=s3.heap.push {cls:=.type "slice",data:=.fields #[vl,vu,.none] } } U H3 x v vl vu l u s3.heap.objs.size Q I4 r1 (Heap.IsSliceOf.new ..) pl pu q3;show wpAny (model X.prog X.w) X.A (subscriptTail e (.Slice lo hi none p2) v (.ref s3.heap.objs.size)) (EP X vy U Q) X.xe {s3 with heap:=s3.heap.push {cls:=.type "slice",data:=.fields #[vl,vu,.none] } };exact tail_any (ops:=[.ref s3.heap.objs.size,v]) ht hT hg (by with_unfolding_all rfl)
noncomputable def Cp (xs:List V)(lo hi:Option Int):List V:=(xs.drop (HT.fD xs.length 0 lo)).take (HT.fD xs.length xs.length hi - HT.fD xs.length 0 lo)
theorem sE (xs:List V)(lo hi:Option Int):(Cp xs lo hi).length<=xs.length:=by
 unfold Cp;rw[List.length_take,List.length_drop];omega
noncomputable def a4F (K:PySem.W.Frag):V->Option Int->Option Int->Hp->VK->Prop:=fun x lo hi H Q=>∃a xs,x=.ref a/\lM K H a xs/\
 ¬(HT.fD xs.length 0 lo=0/\HT.fD xs.length xs.length hi=xs.length)/\∀p,H p=none->Q (.ref p) (upd H p (.tup (Cp xs lo hi)))
theorem Vh:RU X (a4F X.K):=by
 intro vy s U H x v vl vu lo hi sl Q I rx hs pl pu h;obtain⟨a,xs,rfl,hx,hw,q⟩:=h;cases rx;obtain⟨AC,r,ht,hz⟩:=I.tuple hx;have hlen:AC.toArray.size=xs.length:=by rw[List.size_toArray];exact r.length.symm
 refine⟨"tuple",_,PyProof.Rows.slot_tuple_getitem.lookup,ht.typeIs,?_⟩;refine HT.p6 ht hs pl pu (by rw[hlen];exact hw) ?_ (by rw[hlen];exact hz);rw[hlen];refine⟨.ref s.heap.objs.size,_,I.laid (t':=s.toks) (o:=.tup (Cp xs lo hi)) (fun b ob q=>Heap.get?_push_of_some _ q) (Nat.le_refl _) ?_,rfl,q _ (I.hok.fresh (Nat.le_refl _))⟩;exact⟨Nat.le_trans (sE xs lo hi) hz,_,(r.drop (HT.fD xs.length 0 lo)).take (HT.fD xs.length xs.length hi - HT.fD xs.length 0 lo),IsTup.new _ _⟩
noncomputable def a0t (K:PySem.W.Frag):R2:=fun x y H Q=>∃a b xs ys,x=.ref a/\y=.ref b/\lM K H a xs/\lM K H b ys/\xs≠[]/\xs.length+ys.length<=sizeLine/\
 (ys=[]->Q (.ref a) H)/\(ys≠[]->∀p,H p=none->Q (.ref p) (upd H p (.tup (xs++ys))))
theorem Vals.c6 {xs:List V}{us:List Value}(r:Vals xs us):us=[]↔xs=[]:=by
 cases r with
 |nil=>simp
 |cons _ _=>simp
theorem Qi:iR X (binaryOp .Add) (a0t X.K):=by
 intro vy s U H x y v u Q I rx ry h;obtain⟨a,b,xs,ys,rfl,rfl,ha,hb,hx,hz,q1,q2⟩:=h;cases rx;cases ry;obtain⟨AC,r1,p1,_⟩:=I.tuple ha;obtain⟨its2,r2,p2,_⟩:=I.tuple hb;refine HT.RJ p1 p2 (fun z=>hx (r1.c6.mp z)) (fun z=>⟨.ref a,H,I,rfl,q1 (r2.c6.mp z)⟩) (fun z=>?_) (by rw[<- r1.length,<- r2.length];exact hz);refine⟨.ref s.heap.objs.size,_,I.laid (t':=s.toks) (o:=.tup (xs++ys)) (fun b ob q=>Heap.get?_push_of_some _ q) (Nat.le_refl _) ?_,rfl,q2 (fun w=>z (r2.c6.mpr w)) _ (I.hok.fresh (Nat.le_refl _))⟩;exact⟨by rw[List.length_append];exact hz,_,r1.append r2,IsTup.new _ _⟩
end
noncomputable def Oq (n:Nat)(i:Int):Option Nat:=if 0<=i then(if i<n then some i.toNat else none) else if -(n:Int)<=i then some (i+n).toNat else none
noncomputable def oM {α:Type}(xs:List α)(i:Int):Option α:=(Oq xs.length i).bind fun j=>xs[j]?
theorem Gy {n:Nat}{i:Int}{j:Nat}(h:Oq n i=some j):seqIndex? i n=some j/\j<n/\-(n:Int)<=i/\i<n:=by
 unfold Oq at h;by_cases h0:0<=i
 .rw[if_pos h0] at h;by_cases h1:i<n
  .rw[if_pos h1] at h;have e:i.toNat=j:=Option.some.inj h;exact⟨by rw[seqIndex_of h0 h1,e],by omega,by omega,h1⟩
  .rw[if_neg h1] at h;cases h
 .rw[if_neg h0] at h;by_cases h1:-(n:Int)<=i
  .rw[if_pos h1] at h;have e:(i+n).toNat=j:=Option.some.inj h;exact⟨by rw[seqIndex_neg (by omega) h1,e],by omega,h1,by omega⟩
  .rw[if_neg h1] at h;cases h
theorem uA {α:Type}{xs:List α}{i:Int}{v:α}(h:oM xs i=some v):∃j,seqIndex? i xs.length=some j/\xs[j]?=some v/\j<xs.length/\-(xs.length:Int)<=i/\i<xs.length:=by
 unfold oM at h;cases e:Oq xs.length i with
 |none=>rw[e] at h;cases h
 |some j=>
  rw[e] at h;obtain⟨h1,h2,h3,h4⟩:=Gy e;exact⟨j,h1,h,h2,h3,h4⟩
theorem aY {α:Type}{xs:List α}{j:Nat}{v:α}(h:xs[j]?=some v):oM xs (j:Int)=some v:=by
 have hj:j<xs.length:=(List.getElem?_eq_some_iff.mp h).1;have e:Oq xs.length (j:Int)=some j:=by
  unfold Oq;rw[if_pos (by omega),if_pos (by omega)];simp
 unfold oM;rw[e];exact h
def uF (b:Expr):Prop:=∀o i,subscripted b false o i=operate [o,i] (getItem o i)
def OA (X:Cx)(r:R2):Prop:=
 ∀(value slice:Expr)(vy:List (Addr×Obj)) (s:Shared) (U:St) (H:Hp) (x y:V) (v u:Value) (Q:VK),Inv X vy U H s->RelV x v->RelV y u->r x y H Q->
  subscripted slice false v u=operate [v,u] (getItem v u)->wpAny (model X.prog X.w) X.A (subscriptTail value slice v u) (EP X vy U Q) X.xe s
def qH (X:Cx)(id:String)(r:V->List V->Hp->VK->Prop):Prop:=
 ∀(vy:List (Addr×Obj)) (s:Shared) (U:St) (H:Hp) (x:V) (xs:List V) (v:Value) (us:List Value) (Q:VK),Inv X vy U H s->RelV x v->Vals xs us->r x xs H Q->
  wpAny (model X.prog X.w) X.A (call (.builtin id) (v::us)) (EP X vy U Q) X.xe s
section
variable {X:Cx}{a b:Expr}{ta tb:TE}{pos:Pos}
theorem OA.or {r r':R2}(h:OA X r)(h':OA X r'):OA X (fun x y H Q=>r x y H Q∨r' x y H Q):=by
 intro value slice vy s U H x y v u Q I rx ry q hs;rcases q with q | q
 .exact h value slice vy s U H x y v u Q I rx ry q hs
 .exact h' value slice vy s U H x y v u Q I rx ry q hs
theorem qH.or {id:String}{r r':V->List V->Hp->VK->Prop}(h:qH X id r)(h':qH X id r'):qH X id (fun x xs H Q=>r x xs H Q∨r' x xs H Q):=by
 intro vy s U H x xs v us Q I rx rs q;rcases q with q | q
 .exact h vy s U H x xs v us Q I rx rs q
 .exact h' vy s U H x xs v us Q I rx rs q
theorem a0O {r:R2}(hr:OA X r)(ha:PE X a ta)(hb:PE X b tb)(hs:uF b):PE X (.Subscript a b pos) (UU r ta tb):=by
 intro vy s U H Q I h;exact Subscript_ (Yo ha hb I h fun v u s2 x y H2 I2 rx ry q=>hr a b vy s2 U H2 x y v u Q I2 rx ry q (hs _ _))
noncomputable def a0q (K:PySem.W.Frag):R2:=fun x y H Q=>∃p xs i v,x=.ref p/\y=.int i/\jx K H p xs/\oM xs i=some v/\Q v H
noncomputable def a0o (K:PySem.W.Frag):R2:=fun x y H Q=>∃p xs i v,x=.ref p/\y=.int i/\lM K H p xs/\oM xs i=some v/\Q v H
noncomputable def a0p:R2:=fun x y H Q=>∃z i c,x=.str z/\y=.int i/\z.length<=sizeLine/\oM z.cps.toList i=some c/\Q (.str ⟨#[c]⟩) H
theorem Rg:OA X (a0q X.K):=by
 intro value slice vy s U H x y v u Q I rx ry h hs;obtain⟨p,xs,i,z,rfl,rfl,hq,he,q⟩:=h;cases rx;obtain⟨t,rfl⟩:=ry;obtain⟨AC,r,pl,hz⟩:=I.list hq;obtain⟨j,h1,h2,h3,h4,h5⟩:=uA he;obtain⟨w,ew,rw'⟩:=r.get h2;have hl:=r.length;have hn:=k8;have fin:EP X vy U Q w s:=⟨z,H,I,rw',q⟩
 by_cases h0:0<=i
 .have hj:i.toNat=j:=by
   rw[seqIndex_of h0 h5] at h1;exact Option.some.inj h1
  exact item_listR pl.isList h0 (by omega) (by rw[hj];simpa using ew) fin hs
 .have hj:(i+(AC.toArray.size:Int)).toNat=j:=by
   rw[seqIndex_neg (by omega) h4] at h1;rw[List.size_toArray,<- hl];exact Option.some.inj h1
  exact subscriptTail_builtinR (x:=w) pl.isList.typeIs slot_list_getitem.lookup
   (wpAny_getItem_list_neg (Q:=fun r s'=>r=w/\EP X vy U Q r s') pl.isList (by omega) (by rw[List.size_toArray]<;>omega) (by omega) (by rw[hj];simpa using ew) ⟨rfl,fin⟩) hs
theorem Xi:OA X (a0o X.K):=by
 intro value slice vy s U H x y v u Q I rx ry h hs;obtain⟨p,xs,i,z,rfl,rfl,hq,he,q⟩:=h;cases rx;obtain⟨t,rfl⟩:=ry;obtain⟨AC,r,pl,hz⟩:=I.tuple hq;obtain⟨j,h1,h2,h3,h4,h5⟩:=uA he;obtain⟨w,ew,rw'⟩:=r.get h2;have hl:=r.length;have hn:=k8;have fin:EP X vy U Q w s:=⟨z,H,I,rw',q⟩
 exact subscriptTail_builtinR (x:=w) pl.typeIs slot_tuple_getitem.lookup
  (getItem_tuple (j:=j) (Q:=fun r s'=>r=w/\EP X vy U Q r s') pl (by omega) (by omega) (by rw[List.size_toArray,<- hl];exact h1) (by simpa using ew) ⟨rfl,fin⟩) hs
theorem Xj:OA X a0p:=by
 intro value slice vy s U H x y v u Q I rx ry h hs;obtain⟨z,i,c,rfl,rfl,hz,he,q⟩:=h;obtain⟨t,rfl⟩:=rx;obtain⟨t',rfl⟩:=ry;obtain⟨j,h1,h2,h3,h4,h5⟩:=uA he;have hl:z.cps.toList.length=z.length:=by simp[Str.length]
 rw[hl] at h1 h4 h5;have hn:=k8;exact tail_any (typeIs_str s z t) slot_str_getitem.lookup (getItem_str (c:=c) (by
  have e1:decide (i < -(2 ^ 63:Int))=false:=decide_eq_false (by omega);have e2:decide (i ≥ 2 ^ 63)=false:=decide_eq_false (by omega);rw[e1,e2,Bool.or_false]) (by rw[h1];simpa using h2) ⟨.str ⟨#[c]⟩,H,I.tok _,⟨_,rfl⟩,q⟩) hs
noncomputable def rIx (K:PySem.W.Frag):R2:=fun x y H Q=>a0q K x y H Q∨a0o K x y H Q∨a0p x y H Q
theorem Xk:OA X (rIx X.K):=Rg.or (Xi.or Xj)
theorem D4 (AC:List Value)(n j:Nat)(u:Value):Obj.mapSeq (·.setIfInBounds j u) {cls:=.type "list",data:=.seq AC.toArray n }={cls:=.type "list",data:=.seq (AC.set j u).toArray n }:=by
 simp[Obj.mapSeq]
theorem Inv.lst {vy:List (Addr×Obj)}{U:St}{H:Hp}{s:Shared}{p:Addr}{xs:List V}(I:Inv X vy U H s)(h:H p=some (.lst xs)) :
  ∃(AC:List Value)(n:Nat),Vals xs AC/\s.heap.get? p=some {cls:=.type "list",data:=.seq AC.toArray n }/\xs.length<=sizeLine:=by
 obtain⟨z,AC,n,r,e⟩:=I.hok p _ h;exact⟨AC,n,r,e,z⟩
theorem Inv.WY {vy:List (Addr×Obj)}{U:St}{H:Hp}{s:Shared}{p:Addr}{xs ys:List V}{AC its':List Value}{n n':Nat}{f:Obj->Obj}(I:Inv X vy U H s)(h:H p=some (.lst xs))
  (ho:s.heap.get? p=some {cls:=.type "list",data:=.seq AC.toArray n }) (hf:f {cls:=.type "list",data:=.seq AC.toArray n }={cls:=.type "list",data:=.seq its'.toArray n' }) (r:Vals ys its') (hz:ys.length<=sizeLine) (t:Nat) :
  Inv X vy U (upd H p (.lst ys)) {s with heap:=s.heap.update p f,toks:=t }:=by
 have e:(s.heap.update p f).get? p=some {cls:=.type "list",data:=.seq its'.toArray n' }:=by
  rw[Heap.get?_update_self f ho (by rw[hf]<;>rfl),hf]
 refine I.write (x:=p) (e:=p) (by rw[h];trivial) (.inl rfl) (fun b u hb q=>(Heap.get?_update_other _ _ (Ne.symm hb)).trans q) ⟨_,e⟩ ?_;exact⟨hz,its',n',r,e⟩
noncomputable def a0l:V->V->V->Hp->(Hp->Prop)->Prop:=fun o i v H Q=>∃p xs k j,o=.ref p/\i=.int k/\H p=some (.lst xs)/\Oq xs.length k=some j/\Q (upd H p (.lst (xs.set j v)))
theorem set_list:YA X a0l:=by
 intro vy s U H o i v ov iv u Q I ro ri rv h;obtain⟨p,xs,k,j,rfl,rfl,hp,hj,q⟩:=h;cases ro;obtain⟨t,rfl⟩:=ri;obtain⟨AC,n,r,ho,hz⟩:=I.lst hp;obtain⟨h1,h2,h3,h4⟩:=Gy hj;have hl:=r.length;have hn:=k8;have I':Inv X vy U (upd H p (.lst (xs.set j v))) {s with heap:=s.heap.update p (Obj.mapSeq (·.setIfInBounds j u)) }:=
  I.WY hp ho (D4 AC n j u) (r.set rv j) (by rw[List.length_set];exact hz) s.toks
 by_cases h0:0<=k
 .have hk:k.toNat=j:=by
   rw[seqIndex_of h0 h4] at h1;exact Option.some.inj h1
  exact PySem.W.ki_setAt ho h0 (by omega) (by rw[List.size_toArray,<- hl];exact h4) (by rw[hk];exact⟨_,I',q⟩)
 .have hk:(k+(AC.toArray.size:Int)).toNat=j:=by
   rw[seqIndex_neg (by omega) h3] at h1;rw[List.size_toArray,<- hl];exact Option.some.inj h1
  exact PySem.W.ki_setBack ho (by omega) (by rw[List.size_toArray,<- hl];exact h3) (by omega) (by rw[hk];exact⟨_,I',q⟩)
theorem za (lo hi:Option Int)(n:Nat):(sliceBounds lo hi none n).1=((HT.fD n 0 lo:Nat):Int)/\(sliceBounds lo hi none n).2.1=((HT.fD n n hi:Nat):Int)/\(sliceBounds lo hi none n).2.2=1:=by
 refine⟨?_,?_,rfl⟩
 .cases lo with
  |none=>simp[sliceBounds,HT.fD]
  |some i=>
   simp only[sliceBounds,HT.fD,Option.getD_none,show(1:Int) > 0 by decide,if_true];by_cases h:i<0
   .simp only[h,if_true]<;>omega
   .simp only[h,if_false]<;>omega
 .cases hi with
  |none=>simp[sliceBounds,HT.fD]
  |some i=>
   simp only[sliceBounds,HT.fD,Option.getD_none,show(1:Int) > 0 by decide,if_true];by_cases h:i<0
   .simp only[h,if_true]<;>omega
   .simp only[h,if_false]<;>omega
theorem xy (AC:List Value)(lo hi:Option Int):slicePick AC.toArray lo hi none=((AC.drop (HT.fD AC.length 0 lo)).take (HT.fD AC.length AC.length hi - HT.fD AC.length 0 lo)).toArray:=by
 obtain⟨h1,h2,h3⟩:=za lo hi AC.toArray.size;unfold slicePick;rw[h1,h2,h3];simp only[sliceRange_one,pick_run,List.size_toArray]<;>rfl
noncomputable def a4H (K:PySem.W.Frag):V->Option Int->Option Int->Hp->VK->Prop:=fun x lo hi H Q=>∃a xs,x=.ref a/\jx K H a xs/\∀p,H p=none->Q (.ref p) (upd H p (.lst (Cp xs lo hi)))
theorem OV:RU X (a4H X.K):=by
 intro vy s U H x v vl vu lo hi sl Q I rx hs pl pu h;obtain⟨a,xs,rfl,hx,q⟩:=h;cases rx;obtain⟨AC,r,ht,hz⟩:=I.list hx;have hlen:=r.length;refine⟨"list",_,slot_list_getitem.lookup,ht.isList.typeIs,?_⟩;refine wpAny_getItem_list_slice ht.isList hs pl pu .none (by simp) ?_ (by rw[List.size_toArray]<;>omega);rw[xy,<- hlen];refine⟨.ref s.heap.objs.size,_,I.laid (t':=s.toks) (o:=.lst (Cp xs lo hi)) (fun b ob q=>Heap.get?_push_of_some _ q) (Nat.le_refl _) ?_,rfl,q _ (I.hok.fresh (Nat.le_refl _))⟩;exact⟨Nat.le_trans (sE xs lo hi) hz,_,0,(r.drop (HT.fD xs.length 0 lo)).take (HT.fD xs.length xs.length hi - HT.fD xs.length 0 lo),Heap.get?_push_size _ rfl⟩
noncomputable def eN:V->Bool
 |.cR=>true
 |.bl _=>true
 |.int _=>true
 |.str _=>true
 |.sn _=>true
 |_=>false
noncomputable def yt:V->V->Bool
 |.cR,.cR=>true
 |.bl a,.bl b=>a==b
 |.bl a,.int b=>(if a then 1 else 0)==b
 |.int a,.bl b=>a==(if b then 1 else 0)
 |.int a,.int b=>a==b
 |.str a,.str b=>a==b
 |.str a,.sn b=>a==b
 |.sn a,.str b=>a==b
 |.sn a,.sn b=>a==b
 |_,_=>false
theorem Er {A:Around}{s:Shared}{y x:V}{u v:Value}(ry:RelV y u)(rx:RelV x v)(fy:eN y=true)(fx:eN x=true):SeqAt.EqAt A s u v (yt y x):=by
 cases y with
 |cR=>
  cases ry;cases x with
  |cR=>cases rx;exact SeqAt.EqAt.same _
  |bl b=>cases rx;exact SeqAt.EqAt.none_bool b
  |int b=>obtain⟨t,rfl⟩:=rx;exact SeqAt.EqAt.none_int b t
  |str b=>obtain⟨t,rfl⟩:=rx;exact SeqAt.EqAt.none_str b t
  |sn b=>obtain⟨t,_,rfl⟩:=rx;exact SeqAt.EqAt.none_str b t
  |_=>exact absurd (show false=true from fx) Bool.false_ne_true
 |bl a=>
  cases ry;cases x with
  |cR=>cases rx;exact SeqAt.EqAt.bool_none a
  |bl b=>cases rx;exact SeqAt.EqAt.bool_bool a b
  |int b=>obtain⟨t,rfl⟩:=rx;exact SeqAt.EqAt.bool_int a b t
  |str b=>obtain⟨t,rfl⟩:=rx;exact SeqAt.EqAt.bool_str a b t
  |sn b=>obtain⟨t,_,rfl⟩:=rx;exact SeqAt.EqAt.bool_str a b t
  |_=>exact absurd (show false=true from fx) Bool.false_ne_true
 |int a=>
  obtain⟨t',rfl⟩:=ry;cases x with
  |cR=>cases rx;exact SeqAt.EqAt.int_none a t'
  |bl b=>cases rx;exact SeqAt.EqAt.int_bool a t' b
  |int b=>obtain⟨t,rfl⟩:=rx;exact SeqAt.EqAt.int_int a t' b t
  |str b=>obtain⟨t,rfl⟩:=rx;exact SeqAt.EqAt.int_str a t' b t
  |sn b=>obtain⟨t,_,rfl⟩:=rx;exact SeqAt.EqAt.int_str a t' b t
  |_=>exact absurd (show false=true from fx) Bool.false_ne_true
 |str a=>
  obtain⟨t',rfl⟩:=ry;cases x with
  |cR=>cases rx;exact SeqAt.EqAt.str_none a t'
  |bl b=>cases rx;exact SeqAt.EqAt.str_bool a t' b
  |int b=>obtain⟨t,rfl⟩:=rx;exact SeqAt.EqAt.str_int a t' b t
  |str b=>obtain⟨t,rfl⟩:=rx;exact SeqAt.EqAt.str_str a t' b t
  |sn b=>obtain⟨t,_,rfl⟩:=rx;exact SeqAt.EqAt.str_str a t' b t
  |_=>exact absurd (show false=true from fx) Bool.false_ne_true
 |sn a=>
  obtain⟨t',_,rfl⟩:=ry;cases x with
  |cR=>cases rx;exact SeqAt.EqAt.str_none a t'
  |bl b=>cases rx;exact SeqAt.EqAt.str_bool a t' b
  |int b=>obtain⟨t,rfl⟩:=rx;exact SeqAt.EqAt.str_int a t' b t
  |str b=>obtain⟨t,rfl⟩:=rx;exact SeqAt.EqAt.str_str a t' b t
  |sn b=>obtain⟨t,_,rfl⟩:=rx;exact SeqAt.EqAt.str_str a t' b t
  |_=>exact absurd (show false=true from fx) Bool.false_ne_true
 |_=>exact absurd (show false=true from fy) Bool.false_ne_true
noncomputable def Ci (x:V)(u:Value):Bool:=match u with
 |.none=>yt .cR x
 |.bool b=>yt (.bl b) x
 |.int i _=>yt (.int i) x
 |.str z _=>yt (.str z) x
 |_=>false
theorem Ep {x y:V}{u:Value}(r:RelV y u)(f:eN y=true):Ci x u=yt y x:=by
 cases y with
 |cR=>cases r;rfl
 |bl b=>cases r;rfl
 |int i=>obtain⟨t,rfl⟩:=r;rfl
 |str z=>obtain⟨t,rfl⟩:=r;rfl
 |sn z=>obtain⟨t,_,rfl⟩:=r;cases x<;>rfl
 |_=>exact absurd (show false=true from f) Bool.false_ne_true
theorem qo {x:V}:∀{xs:List V}{us:List Value},Vals xs us->xs.all eN=true->us.any (Ci x)=xs.any fun y=>yt y x
 |_,_,.nil,_=>rfl
 |y::xs,u::us,.cons r t,f=>by
  rw[List.all_cons,Bool.and_eq_true] at f;rw[List.any_cons,List.any_cons,Ep r f.1,qo t f.2]
theorem jh {A:Around}{s:Shared}{x:V}{v:Value}(rx:RelV x v)(fx:eN x=true):∀{xs:List V}{us:List Value},Vals xs us->xs.all eN=true->∀u∈us,SeqAt.EqAt A s u v (Ci x u)
 |_,_,.nil,_=>fun u hu=>by cases hu
 |y::xs,u::us,.cons r t,f=>fun u' hu=>by
  rw[List.all_cons,Bool.and_eq_true] at f;rcases List.mem_cons.mp hu with rfl | hu
  .rw[Ep r f.1];exact Er r rx f.1 fx
  .exact jh rx fx t f.2 u' hu
noncomputable def Je (x:V)(xs:List V):Bool:=xs.any fun y=>yt y x
noncomputable def rIn (K:PySem.W.Frag)(neg:Bool):R2:=fun x y H Q=>∃p xs,y=.ref p/\(jx K H p xs∨lM K H p xs)/\eN x=true/\xs.all eN=true/\Q (.bl (if neg then !Je x xs else Je x xs)) H
theorem yh:iR X (compareOp .In) (rIn X.K false):=by
 intro vy s U H x y v u Q I rx ry h;obtain⟨p,xs,rfl,hq,fx,fs,q⟩:=h;cases ry;rcases hq with hq | hq
 .obtain⟨AC,r,pl,hz⟩:=I.list hq;refine SeqAt.in_listAt (Ci x) pl.isList (fun w hw=>jh rx fx r fs w (by simpa using hw)) ⟨.bl _,H,I,rfl,?_⟩;rw[show AC.toArray.any (Ci x)=AC.any (Ci x) by simp,qo r fs];exact q
 .obtain⟨AC,r,pl,hz⟩:=I.tuple hq;refine SeqAt.in_tupleAt (Ci x) pl (fun w hw=>jh rx fx r fs w (by simpa using hw)) ⟨.bl _,H,I,rfl,?_⟩;rw[show AC.toArray.any (Ci x)=AC.any (Ci x) by simp,qo r fs];exact q
theorem pX:iR X (compareOp .NotIn) (rIn X.K true):=by
 intro vy s U H x y v u Q I rx ry h;obtain⟨p,xs,rfl,hq,fx,fs,q⟩:=h;cases ry;rcases hq with hq | hq
 .obtain⟨AC,r,pl,hz⟩:=I.list hq;refine SeqAt.notIn_listAt (Ci x) pl.isList (fun w hw=>jh rx fx r fs w (by simpa using hw)) ⟨.bl _,H,I,rfl,?_⟩;rw[show AC.toArray.any (Ci x)=AC.any (Ci x) by simp,qo r fs];exact q
 .obtain⟨AC,r,pl,hz⟩:=I.tuple hq;refine SeqAt.notIn_tupleAt (Ci x) pl (fun w hw=>jh rx fx r fs w (by simpa using hw)) ⟨.bl _,H,I,rfl,?_⟩;rw[show AC.toArray.any (Ci x)=AC.any (Ci x) by simp,qo r fs];exact q
theorem Ax:eS X (.builtin "len") (fun xs H Q=>∃p ys,xs=[.ref p]/\(jx X.K H p ys∨lM X.K H p ys)/\Q (.int ys.length) H):=by
 intro vy s U H xs us Q I r h;obtain⟨p,ys,rfl,hq,q⟩:=h;obtain⟨u,rfl,rx⟩:=vals1 r;cases rx;have hn:=k8;rcases hq with hq | hq
 .obtain⟨AC,r',pl,hz⟩:=I.list hq;have hlen:=r'.length;exact Calls.call_len_list pl.isList (by simp only[List.size_toArray]<;>omega) ⟨.int ys.length,H,I.tok _,⟨s.toks+1,by rw[List.size_toArray,hlen]⟩,q⟩
 .obtain⟨AC,r',pl,hz⟩:=I.tuple hq;have hlen:=r'.length;exact len_tuple pl (by simp only[List.size_toArray]<;>omega) ⟨.int ys.length,H,I.tok _,⟨s.toks+1,by rw[List.size_toArray,hlen]⟩,q⟩
theorem Aw:eS X (.builtin "len") (fun xs H Q=>∃z,xs=[.str z]/\z.length<=sizeLine/\Q (.int z.length) H):=by
 intro vy s U H xs us Q I r h;obtain⟨z,rfl,hz,q⟩:=h;obtain⟨u,rfl,t,rfl⟩:=vals1 r;have hn:=k8;exact len_str (by omega) ⟨.int z.length,H,I.tok _,⟨_,rfl⟩,q⟩
theorem eS.or {f:Value}{r r':List V->Hp->VK->Prop}(h:eS X f r)(h':eS X f r'):eS X f (fun xs H Q=>r xs H Q∨r' xs H Q):=by
 intro vy s U H xs us Q I rs q;rcases q with q | q
 .exact h vy s U H xs us Q I rs q
 .exact h' vy s U H xs us Q I rs q
theorem xD:eS X (.type "tuple") (fun xs H Q=>∃p ys,xs=[.ref p]/\((jx X.K H p ys/\∀l,H l=none->Q (.ref l) (upd H l (.tup ys)))∨(lM X.K H p ys/\Q (.ref p) H))):=by
 intro vy s U H xs us Q I r h;obtain⟨p,ys,rfl,h⟩:=h;obtain⟨u,rfl,rx⟩:=vals1 r;cases rx;rcases h with⟨hq,q⟩ | ⟨hq,q⟩
 .obtain⟨AC,r',pl,hz⟩:=I.list hq;have hlen:=r'.length;refine call_tuple_list pl.isList (fun h' kp=>?_) (by simp only[List.size_toArray]<;>omega);have I1:Inv X vy U H {s with heap:=h' }:=I.kept (t':=s.toks) kp;have I2:Inv X vy U (upd H h'.objs.size (.tup ys)) {s with heap:=h'.push {cls:=.type "tuple",data:=.seq AC.toArray } }:=
   I1.laid (t':=s.toks) (fun b o e=>Heap.get?_push_of_some _ e) (Nat.le_refl _) (show bF X.prog X.w _ _ _ (.tup ys) from⟨hz,AC,r',IsTup.new _ _⟩)
  exact⟨.ref h'.objs.size,_,I2,rfl,q _ (I1.hok.fresh (Nat.le_refl _))⟩
 .obtain⟨AC,r',pl,hz⟩:=I.tuple hq;exact call_tuple_same pl ⟨.ref p,H,I,rfl,q⟩
def tyV (K:PySem.W.Frag)(T:String)(x:V)(H:Hp):Prop:=match x with
 |.str _=>T="str"
 |.int _=>T="int"
 |.ref p=>(T="list"/\∃xs,jx K H p xs)∨(T="tuple"/\∃o,K.lookup p=some o/\o.cls=.type "tuple"/\o.dict=none)∨
   (T="dict"/\((∃kvs,H p=some (.dK kvs))∨∃kvs,H p=some (.dT kvs)))∨(T="set"/\∃S n,H p=some (.set S n))
 |_=>False
theorem Dj {vy:List (Addr×Obj)}{U:St}{H:Hp}{s:Shared}{T:String}{x:V}{v:Value}(I:Inv X vy U H s)(r:RelV x v)(ty:tyV X.K T x H) :
  s.TypeIs v T/\∀a,v=.ref a->∃ob,s.heap.get? a=some ob/\ob.dict=none:=by
 cases x with
 |str z=>
  obtain⟨t,rfl⟩:=r;cases(show T="str" from ty);exact⟨typeIs_str s z t,fun _ e=>nomatch e⟩
 |int i=>
  obtain⟨t,rfl⟩:=r;cases(show T="int" from ty);exact⟨typeIs_int s i t,fun _ e=>nomatch e⟩
 |ref p=>
  cases r;rcases ty with⟨rfl,xs,hq⟩ | ⟨rfl,o,hk,hc,hd⟩ | ⟨rfl,hk⟩ | ⟨rfl,S,n,hk⟩
  .obtain⟨AC,_,pl,_⟩:=I.list hq;refine⟨pl.isList.typeIs,fun a e=>?_⟩;cases e;obtain⟨o,n,e,c,hd,_⟩:=pl;exact⟨o,e,hd⟩
  .refine⟨⟨o,I.iW p o hk,hc⟩,fun a e=>?_⟩;cases e;exact⟨o,I.iW _ o hk,hd⟩
  .have z:∃o,s.heap.get? p=some o/\o.ExactDict:=by
    rcases hk with⟨kvs,hk⟩ | ⟨kvs,hk⟩
    .obtain⟨_,_,_,_,o,_,_,e,ex,_⟩:=I.hok p _ hk;exact⟨o,e,ex⟩
    .obtain⟨_,_,_,_,o,_,_,e,ex,_⟩:=I.hok p _ hk;exact⟨o,e,ex⟩
   obtain⟨o,e,ex⟩:=z;refine⟨⟨o,e,ex.1⟩,fun a e2=>?_⟩;cases e2;exact⟨o,e,ex.2.1⟩
  .obtain⟨o,_,_,_,e,ex,_⟩:=I.hok p _ hk;refine⟨⟨o,e,ex.1⟩,fun a e2=>?_⟩;cases e2;exact⟨o,e,ex.2.1⟩
 |_=>exact False.elim ty
noncomputable def ZA (K:PySem.W.Frag)(T:String)(r:V->List V->Hp->VK->Prop)(to:TE):TE:=fun U H Q=>to U H fun x H1=>tyV K T x H1/\r x [] H1 Q
noncomputable def tBM (K:PySem.W.Frag)(T:String)(r:V->List V->Hp->VK->Prop)(to:TE)(t:TA):TE:=fun U H Q=>to U H fun x H1=>tyV K T x H1/\t U H1 fun xs H2=>r x xs H2 Q
variable {o e:Expr}{es:List Expr}{to:TE}{t:TA}{name:Str}{BM cpos:Pos}{T id:String}{r:V->List V->Hp->VK->Prop}
theorem Wm (pa:PlainAttrs T)(slot:Slot T name id)(hty:typeOf (.builtin id)=pure (.type "method_descriptor"))(hm:qH X id r)(ho:PE X o to)
  (Ap:autoParam (attributeBase o name X.env (eval o X.env)=eval o X.env) zi) (B1:autoParam ((BM.endLine==cpos.line)=true) zi):PE X (.Call (.Attribute o name BM) [] [] cpos) (ZA X.K T r to):=by
 intro vy s U H Q I h;refine wpAny_Call_method0_late Ap B1 (bA (ho vy s U H _ I h) ?_);rintro v s1 ⟨x,H1,I1,r1,ty,q1⟩;obtain⟨h1,h2⟩:=Dj I1 r1 ty;exact⟨T,id,pa,slot,hty,h1,h2,Calls.callWith_builtin rfl (PySem.evalArgs_none (hm vy s1 U H1 x [] v [] Q I1 r1 .nil q1))⟩
theorem a0P (pa:PlainAttrs T)(slot:Slot T name id)(hty:typeOf (.builtin id)=pure (.type "method_descriptor"))(hm:qH X id r)(ho:PE X o to)(ha:PA X (e::es) t)
  (Ap:autoParam (attributeBase o name X.env (eval o X.env)=eval o X.env) zi)
  (hfew:autoParam (((backTo cpos (starEach (e::es) X.env)).all (fun x=>!x.1)&&(backToKw cpos (keywordEach [] X.env)).all (fun x=>x.1.isSome)
  &&decide ((e::es).length+([]:List Keyword).length+(if([]:List Keyword).isEmpty then 0 else 1)<30))=true) zi)
  (B1:autoParam ((BM.endLine==cpos.line)=true) zi) (hs:autoParam (starEach (e::es) X.env=(false,eval e X.env)::starEach es X.env) zi) (hplain:autoParam ((backTo cpos (starEach es X.env)).any (·.1)=false) zi) :
  PE X (.Call (.Attribute o name BM) (e::es) [] cpos) (tBM X.K T r to t):=by
 intro vy s U H Q I h;refine wpAny_Call_method_late Ap hfew B1 rfl (bA (ho vy s U H _ I h) ?_);rintro v s1 ⟨x,H1,I1,r1,ty,q1⟩;obtain⟨h1,h2⟩:=Dj I1 r1 ty;refine⟨T,id,pa,slot,hty,h1,h2,?_⟩;have hA:=ha cpos vy s1 U H1 _ I1 q1;rw[hs] at hA ⊢;refine Calls.callWith_builtin (by show(false||(backTo cpos (starEach es X.env)).any (·.1))=false;rw[hplain]<;>rfl) (Calls.evalArgs_plain ?_);exact bA hA (by rintro us s2 ⟨vs,H2,I2,r2,q2⟩;exact hm vy s2 U H2 x vs v us Q I2 r1 r2 q2)
end
def MtM (X:Cx)(id:String)(r:V->List V->Hp->VK->Prop):Prop:=
 ∀(vy:List (Addr×Obj)) (s:Shared) (U:St) (H:Hp) (x:V) (xs:List V) (v:Value) (us:List Value) (Q:VK),Inv X vy U H s->RelV x v->Vals xs us->r x xs H Q->
  wpAny (model X.prog X.w) X.A (call (.builtin id) (v::us)) (EP X vy U Q) X.xe s
theorem Vals.one:∀{x:V}{us:List Value},Vals [x] us->∃u,us=[u]/\RelV x u:=by
 intro x us h;cases h with
 |cons r t=>cases t;exact⟨_,rfl,r⟩
theorem Vals.two:∀{x y:V}{us:List Value},Vals [x,y] us->∃u v,us=[u,v]/\RelV x u/\RelV y v:=by
 intro x y us h;cases h with
 |cons r t=>
  cases t with
  |cons q t=>cases t;exact⟨_,_,rfl,r,q⟩
theorem Vals.zero:∀{us:List Value},Vals [] us->us=[]
 |_,.nil=>rfl
theorem Vals.dropLast {xs:List V}{us:List Value}(h:Vals xs us):Vals xs.dropLast us.dropLast:=by
 induction h with
 |nil=>exact .nil
 |cons r t ih=>
  cases t with
  |nil=>exact .nil
  |cons q t'=>exact .cons r ih
theorem Vals.rep {xs:List V}{us:List Value}(h:Vals xs us):∀k:Nat,Vals (List.replicate k xs).flatten (List.replicate k us).flatten
 |0=>.nil
 |k+1=>by
  rw[List.replicate_succ,List.replicate_succ,List.flatten_cons,List.flatten_cons];exact Vals.append h (Vals.rep h k)
theorem Eo {α:Type}(l:List α):l.eraseIdx (l.length - 1)=l.dropLast:=by
 induction l with
 |nil=>rfl
 |cons a r ih=>
  cases r with
  |nil=>rfl
  |cons b r=>
   have e:(a::b::r).length - 1=((b::r).length - 1)+1:=by
    have h1:(a::b::r).length=r.length+2:=rfl;have h2:(b::r).length=r.length+1:=rfl;omega
   rw[e,List.eraseIdx_cons_succ,ih]
   all_goals rfl
theorem foldl_rep (AC:List Value):∀(k:Nat)(acc:List Value),
  List.foldl (fun x1 x2=>x1++x2) acc.toArray (List.replicate k AC.toArray)=(acc++(List.replicate k AC).flatten).toArray
 |0,acc=>by simp
 |k+1,acc=>by
  have e:acc.toArray++AC.toArray=(acc++AC).toArray:=by simp
  have e2:(acc++AC)++(List.replicate k AC).flatten=acc++(List.replicate (k+1) AC).flatten:=by
   rw[List.replicate_succ,List.flatten_cons,List.append_assoc]
  rw[<- e2,<- foldl_rep AC k (acc++AC),<- e,List.replicate_succ,List.foldl_cons]
section
variable {X:Cx}{vy:List (Addr×Obj)}{U:St}{H:Hp}{s:Shared}{l b:Addr}{xs ys zs:List V}
theorem Inv.Q3 {AC its':List Value}{n:Nat}{f:Array Value->Array Value}{t':Nat}(I:Inv X vy U H s)(hH:H l=some (.lst xs))
  (e:s.heap.get? l=some {cls:=.type "list",data:=.seq AC.toArray n }) (hf:f AC.toArray=its'.toArray) (hv:Vals ys its') (hz:ys.length<=sizeLine) :
  Inv X vy U (upd H l (.lst ys)) {s with heap:=s.heap.update l (Obj.mapSeq f),toks:=t' }:=by
 have q:=PySem.IsL.update e f;rw[hf] at q;refine I.write (x:=l) (e:=l) (by rw[hH];exact trivial) (.inl rfl) (fun b' u hb hu=>(Heap.get?_update_other s.heap (Obj.mapSeq f) (Ne.symm hb)).trans hu) ⟨_,q⟩ ?_;exact⟨hz,its',_,hv,q⟩
theorem Inv.W0 {AC:List Value}{t':Nat}(I:Inv X vy U H s)(hv:Vals ys AC)(hz:ys.length<=sizeLine) :
  Inv X vy U (upd H s.heap.objs.size (.lst ys)) {s with heap:=s.heap.push {cls:=.type "list",data:=.seq AC.toArray },toks:=t' }:=
 I.laid (fun _ _ q=>Heap.get?_push_of_some _ q) (Nat.le_refl _) ⟨hz,AC,0,hv,Heap.get?_push_size _ rfl⟩
theorem Inv.fresh (I:Inv X vy U H s):H s.heap.objs.size=none:=I.hok.fresh (Nat.le_refl _)
theorem Inv.zZ (I:Inv X vy U H s)(hH:H l=some (.lst xs)):xs.length<=sizeLine/\∃(AC:List Value)(n:Nat),Vals xs AC/\xs.length=AC.length/\s.heap.get? l=some {cls:=.type "list",data:=.seq AC.toArray n }:=by
 obtain⟨z,AC,n,r,e⟩:=I.hok l _ hH;exact⟨z,AC,n,r,r.length,e⟩
theorem vL {n:Nat}(h:n<=sizeLine):Builtin.List.listTooLong n=false:=by
 unfold Builtin.List.listTooLong;exact decide_eq_false (by omega)
end
section
variable {X:Cx}
noncomputable def Pq:V->List V->Hp->VK->Prop:=fun x vs H Q=>∃l xs y,x=.ref l/\vs=[y]/\H l=some (.lst xs)/\xs.length<sizeLine/\Q .cR (upd H l (.lst (xs++[y])))
theorem Iq:MtM X "list.append" Pq:=by
 intro vy s U H x vs v us Q I rx rv h;obtain⟨l,xs,y,rfl,rfl,hH,hz,q⟩:=h;cases rx;obtain⟨u,rfl,ru⟩:=rv.one;obtain⟨z,AC,n,r,hl,e⟩:=I.zZ hH;refine call_meets F.slot_list_append ⟨_,e,rfl⟩ F.entry_list_append (F.args_list_append_2 _ _) (PySem.list_append l AC.toArray n u (by rw[List.size_toArray];omega)) ⟨e,?_⟩;refine⟨.cR,_,I.Q3 (its':=AC++[u]) hH e (by simp) (r.append (.cons ru .nil)) ?_,rfl,q⟩;rw[List.length_append,List.length_singleton];omega
noncomputable def Po:V->List V->Hp->VK->Prop:=fun x vs H Q=>∃l b xs zs,x=.ref l/\vs=[.ref b]/\H l=some (.lst xs)/\H b=some (.lst zs)/\xs.length+zs.length<=sizeLine/\Q .cR (upd H l (.lst (xs++zs)))
theorem Ip:MtM X "list.extend" Po:=by
 intro vy s U H x vs v us Q I rx rv h;obtain⟨l,b,xs,zs,rfl,rfl,hH,hB,hz,q⟩:=h;cases rx;obtain⟨u,rfl,ru⟩:=rv.one;cases ru;obtain⟨z,AC,n,r,hl,e⟩:=I.zZ hH;obtain⟨z2,its2,n2,r2,hl2,e2⟩:=I.zZ hB;have hsz:AC.toArray.size+its2.toArray.size<=sizeLine:=by rw[List.size_toArray,List.size_toArray];omega
 have BZ:¬(!AC.toArray.isEmpty&&Builtin.List.listTooLong (AC.toArray.size+its2.toArray.size))=true:=by
  rw[vL hsz,Bool.and_false];exact Bool.false_ne_true
 refine call_meets F.slot_list_extend ⟨_,e,rfl⟩ F.entry_list_extend (F.args_list_extend_2 _ _)
  (AutoSeq1.list_extend_list_list_0 l AC.toArray n b its2.toArray n2 BZ (by rw[List.size_toArray];omega) (by omega)) ⟨e,e2,?_⟩
 refine⟨.cR,_,I.Q3 (its':=AC++its2) hH e (by simp) (r.append r2) ?_,rfl,q⟩;rw[List.length_append];omega
noncomputable def a4K:V->List V->Hp->VK->Prop:=fun x vs H Q=>∃l xs y,x=.ref l/\vs=[]/\H l=some (.lst xs)/\xs[xs.length - 1]?=some y/\Q y (upd H l (.lst xs.dropLast))
theorem WT:MtM X "list.pop" a4K:=by
 intro vy s U H x vs v us Q I rx rv h;obtain⟨l,xs,y,rfl,rfl,hH,hy,q⟩:=h;cases rx;have hus:=rv.zero;subst hus;obtain⟨z,AC,n,r,hl,e⟩:=I.zZ hH;obtain⟨u,hu,ru⟩:=r.get hy;have hy':AC.toArray[AC.toArray.size - 1]?=some u:=by
  show AC.toArray[AC.length - 1]?=some u;rw[<- Array.getElem?_toList,<- hl];exact hu
 refine call_meets F.slot_list_pop ⟨_,e,rfl⟩ F.entry_list_pop (F.args_list_pop_1 _) (MeetsSeq.list_pop_last l AC.toArray n u hy' (by rw[List.size_toArray];omega)) ⟨e,?_⟩;refine⟨y,_,I.Q3 (its':=AC.dropLast) hH e ?_ r.dropLast ?_,ru,q⟩
 .show AC.toArray.eraseIdxIfInBounds (AC.toArray.size - 1)=AC.dropLast.toArray;rw[List.size_toArray,List.eraseIdxIfInBounds_toArray,Eo]
 .rw[List.length_dropLast];omega
noncomputable def a4Q:R2:=fun x y H Q=>∃l b xs zs,x=.ref l/\y=.ref b/\H l=some (.lst xs)/\H b=some (.lst zs)/\xs.length+zs.length<=sizeLine/\∀p,H p=none->Q (.ref p) (upd H p (.lst (xs++zs)))
theorem Wy:iR X (binaryOp .Add) a4Q:=by
 intro vy s U H x y v u Q I rx ry h;obtain⟨l,b,xs,zs,rfl,rfl,hH,hB,hz,q⟩:=h;cases rx;cases ry;obtain⟨z,AC,n,r,hl,e⟩:=I.zZ hH;obtain⟨z2,its2,n2,r2,hl2,e2⟩:=I.zZ hB;refine PySem.P.add_list e e2 ?_ (by rw[List.size_toArray,List.size_toArray];omega);have ea:AC.toArray++its2.toArray=(AC++its2).toArray:=by simp
 rw[ea];exact⟨.ref _,_,I.W0 (t':=s.toks) (r.append r2) (by rw[List.length_append];omega),rfl,q _ I.fresh⟩
noncomputable def a4J:R2:=fun x y H Q=>∃l k xs,x=.ref l/\y=.int k/\H l=some (.lst xs)/\-(2 ^ 63)<=k/\k<2 ^ 63/\xs.length*k.toNat<=sizeLine/\
 ∀p,H p=none->Q (.ref p) (upd H p (.lst (List.replicate k.toNat xs).flatten))
theorem len_rep {α:Type}(xs:List α)(k:Nat):(List.replicate k xs).flatten.length=k*xs.length:=by
 induction k with
 |zero=>simp
 |succ k ih=>rw[List.replicate_succ,List.flatten_cons,List.length_append,ih,Nat.succ_mul,Nat.add_comm]
theorem Ws:iR X (binaryOp .Mult) a4J:=by
 intro vy s U H x y v u Q I rx ry h;obtain⟨l,k,xs,rfl,rfl,hH,h1,h2,hz,q⟩:=h;cases rx;obtain⟨t,rfl⟩:=ry;obtain⟨z,AC,n,r,hl,e⟩:=I.zZ hH;have hlen:AC.toArray.size*k.toNat<=sizeLine:=by rw[List.size_toArray,<- hl];exact hz
 have hcap:¬ AC.toArray.size*k.toNat > (2 ^ 63 - 1) / 8:=by
  have:(sizeLine:Nat)<=(2 ^ 63 - 1) / 8:=by decide
  omega
 have hfit:¬(!Builtin.List.listFitsIndex k)=true:=by
  rw[fitsIndex_both h1 h2];exact Bool.false_ne_true
 have BZ:¬ Builtin.List.listTooLong (AC.toArray.size*k.toNat)=true:=by
  rw[vL hlen];exact Bool.false_ne_true
 have hnew:List.foldl (fun x1 x2=>x1++x2) #[] (List.replicate (if AC.toArray.isEmpty=true then 0 else k.toNat) AC.toArray)=(List.replicate k.toNat AC).flatten.toArray:=by
  have f0:∀m:Nat,List.foldl (fun x1 x2=>x1++x2) #[] (List.replicate m AC.toArray)=(List.replicate m AC).flatten.toArray:=fun m=>by
   have:=foldl_rep AC m [];rw[List.nil_append] at this;exact this
  rw[f0];cases AC with
  |nil=>simp
  |cons a r'=>rw[if_neg (by simp)]
 refine wpAny_binaryOp_repeat_ref (T:="list") (U:="int") (by decide) ⟨_,e,rfl⟩ (fun s'=>typeIs_int s' k t) noFill_list_mul F.fills_int_mul F.slot_int_rmul repeat_list F.slot_int_index.lookup
  (call_meets F.slot_int_rmul (typeIs_int s k t) F.entry_int_rmul (F.args_int_rmul_2 _ _) (int___rmul___int_list k t l AC.toArray n)
   ⟨e,rfl,⟨_,e,rfl⟩,call_meets F.slot_list_mul ⟨_,e,rfl⟩ F.entry_list_mul (F.args_list_mul_2 _ _) (AutoListH.list___mul___list_int_3 l AC.toArray n k t hfit hcap BZ) ⟨e,?_⟩⟩)
 rw[hnew];exact⟨.ref _,_,I.W0 (t':=s.toks) (r.rep k.toNat) (by rw[len_rep,Nat.mul_comm];exact hz),rfl,q _ I.fresh⟩
end
section
variable {prog:Program}{w:World}{A:Around}{E:Value->Shared->Prop}{s:Shared}
end
section
variable {X:Cx}
end
end L2
namespace Att
open PySem PySem.W PySem.Calls PyProof.Rows
theorem sW {P:Params}{h:Heap}:∀(ns:List Int)(vs:List Value),WellAll P h vs (ns.map WData.int)->IntsAre vs ns:=by
 intro ns
 induction ns with
 |nil=>
  intro vs w;rw[List.map_nil] at w;cases w;exact .nil
 |cons n ns ih=>
  intro vs w;rw[List.map_cons] at w;cases w with
  |cons a b=>
   cases a;exact .cons _ _ (ih _ b)
theorem HE {l:OpenLaw}{n:Nat}(hn:l.most=some n){P:Params}{h:Heap}{args:List WData}{vals:List Value}
  (hpre:l.row.toRowW.claim.pre args=true) (hwl:WellAll P h vals args) :
  ∃a vs ns,vals=[Value.ref a]/\args=[WData.list (ns.map WData.int)]/\h.get? a=some {cls:=.type "list",data:=.seq vs.toArray }/\IntsAre vs ns/\ns.length<=n:=by
 have hsh:WShape.hasAll [] args [.list .int]=true:=(pre_splitW hpre).1;have hc:l.pre.holds [] {args:=args }=true:=(pre_splitW hpre).2;obtain⟨d,r,rfl,h1,h2⟩:=hasAllW_cons hsh;obtain rfl:=hasAllW_nil h2;obtain⟨xs,rfl,h3⟩:=hasW_list h1;obtain⟨ns,rfl⟩:=items_int h3;have hlen:ns.length<=n:=by
  unfold OpenLaw.pre at hc;have h4:(WTm.not (.lt (.lit (.int (n:Int))) (.len (.arg 0)))).holds [] {args:=[.list (ns.map .int)] }=true:=by
   have h4:=(holds_andW hc).1;rw[hn] at h4;exact h4
  have h5:=condW_of h4 (w_not (w_lt w_lit (w_len_list (w_arg rfl))));rw[List.length_map] at h5;refine Nat.le_of_not_lt fun q=>?_;have q':(n:Int)<((ns.length:Nat):Int):=by omega
  first
   |(rw[decide_eq_true q'] at h5;exact absurd h5 (by decide))
   |(simp at h5;omega)
 cases hwl with
 |cons w1 w2=>
  cases w2;cases w1 with
  |list ho hall=>exact⟨_,_,ns,rfl,rfl,ho,sW ns _ hall,hlen⟩
theorem HM (l:OpenLaw)(args:List WData):l.row.toRowW.claim.post args (.bool true) args=true:=
 postW_of (r:=l.row.toRowW) (X:=(true==true))
  (show WShape.has [] (.bool true) .bool=true by first | rfl | decide | simp[WShape.has,WShape.arms,WShape.armsAll])
  (show(WTm.eq .res (.lit (.bool true))).value [] {args:=args,res:=some (.bool true),after:=args }=some (.bool (true==true)) from w_eq_bool (w_res rfl) w_lit) rfl
theorem CH {l:OpenLaw}{n:Nat}{q:Program}{loose:List Str}{XP:(Str->Option Value)->Heap->Prop}{YP:World->Heap->Prop}{d:DefRec}
  (hn:l.most=some n) (hdf:d.params.defaults=[])
  (call:∀(w:World)(s₀ s₁:Shared)(mg mb:Str->Option Value)(fa:Addr)(o:Obj)(pm cd doc:Value)(a:Addr) (vs:List Value) (ns:List Int),
   Ground q loose [] XP w s₀ mg mb s₁.heap->YP w s₁.heap->
   s₁.heap.get? fa=some o->o.data=.func (docDef d.name d.params d.body d.scope pm cd doc)->s₁.heap.CodeRec cd d.name->mg d.name=some (.ref fa)->
   s₁.heap.get? a=some {cls:=.type "list",data:=.seq vs.toArray }->IntsAre vs ns->ns.length<=n->s₁.gens=#[]->
   codeAny (model l.prog w) callerA (.call (.ref fa) ⟨[.ref a],[]⟩) (fun r s'=>r=.ok (.ret (.bool true))/\OldK s₁.heap s'.heap/\s'.os=s₁.os/\AllBare s'.gens) s₁) :
  WalkO q loose XP YP l.row.toRowW d [] (fun f vs=>PySem.call f vs):=by
 intro w s₀ s₁ mg mb G QR fa o pm cd doc dV kV ho hd hcd hD hmg hg args vals as hpre hlay hrd hwl hlo;obtain rfl:dV=.none:=Dflts.none hD hdf;obtain rfl:kV=.none:=Dflts.noKw hD;obtain⟨a,vs,ns,rfl,rfl,hobj,hints,hlen⟩:=HE hn hpre hwl;refine enter_call (codeAny_mono (call w s₀ s₁ mg mb fa o pm cd doc a vs ns G QR ho (fd_plain hd) hcd hmg hobj hints hlen hg) fun r s' hq=>?_);obtain⟨rfl,h2,h3,h4⟩:=hq;exact⟨.inl ⟨.bool true,.bool true,[],rfl,fun _=>rfl,.bool true,HM l _,fun _=>⟨List.Pairwise.nil,fun _ hm=>(nomatch hm)⟩⟩,h2,h3,h4⟩
section
variable {prog:Program}{w:World}{A:Around}{E:Value->Shared->Prop}{s:Shared}{K:Frag}
end
end Att
namespace L2
open PySem PySem.Spec PyProof.Rows
theorem xR:∀{vs:List Value}{ns:List Int},IntsAre vs ns->Vals (ns.map V.int) vs
 |_,_,.nil=>.nil
 |_,_,.cons n t h=>.cons ⟨t,rfl⟩ (xR h)
def YB (H:Hp):Prop:=∀b,H b=none∨∃o xs,H b=some (.rq o (.lst xs))
theorem MI {P:Program}{w:World}{K:PySem.W.Frag}{mg mb:Str->Option Value}{CX:E4}{k:Nat}{fa a:Addr}{fd:FuncData}{x:Str}{sp:Sp}{s₁:Shared}{vs:List Value}{ns:List Int}
  (KX:K.In s₁.heap) (hns:s₁.heap.Ns mainGlobals mg) (hb:s₁.heap.Ns builtinsNs mb) (hbb:∀x:Str,x≠"__name__"->mb x=bootBuiltins x) (hlim:s₁.heap.NoLimit) (hg:s₁.gens=#[])
  (ha:s₁.heap.get? a=some {cls:=.type "list",data:=.seq vs.toArray }) (hi:IntsAre vs ns) (hl:ns.length<=sizeLine) (hr:bV k callerA)
  (F:∀base:Heap,K.In base->base.Ns mainGlobals mg->aL P w K mg base CX k fa fd [x] sp) (hbind:∀(s:Shared)(u:Value),BindsTo s fd ⟨[u],[]⟩ [(x,u)])
  (Ou:∀H:Hp,YB H->jx K H a (ns.map V.int)->sp [.ref a] H (fun v _=>v=.bl true) fun _ _ _=>False)
  (hCX:∀H e s',CX [] H s₁ (fun _ _ _=>False) e s'->False) :
  codeAny (model P w) callerA (.call (.ref fa) ⟨[.ref a],[]⟩) (fun r s'=>r=.ok (.ret (.bool true))/\OldK s₁.heap s'.heap/\s'.os=s₁.os/\AllBare s'.gens) s₁:=by
 have rv:=xR hi;have a5h:=hi.length;have core:∀H:Hp,YB H->jx K H a (ns.map V.int)->jy P w H s₁.heap->(∀b,H b≠none->b=a)->(H a≠none->K.lookup a=none)->
   codeAny (model P w) callerA (.call (.ref fa) ⟨[.ref a],[]⟩) (fun r s'=>r=.ok (.ret (.bool true))/\OldK s₁.heap s'.heap/\s'.os=s₁.os/\AllBare s'.gens) s₁:=by
  intro H hO hS hok hA hK;have Hi:∀{b:Addr}{o:Obj},s₁.heap.get? b=some o->H b=none->(Ag s₁.heap H).get? b=some o:=fun e n=>M8 e n;have noA:∀{b:Addr}{o:Obj}{es:Array DictEntry}{ep:Nat},s₁.heap.get? b=some o->o.data=.dict es ep->H b=none:=fun{b o es ep} e d=>by
   cases q:H b with
   |none=>rfl
   |some u=>
    have e':b=a:=hA b (by rw[q];simp);subst e';rw[ha] at e;cases e;have d':Data.seq vs.toArray _=Data.dict es ep:=d;cases d'
  have nsK:∀{b:Addr}{m:Str->Option Value},s₁.heap.Ns b m->(Ag s₁.heap H).Ns b m:=fun{b m} ⟨o,es,ep,e,d,r⟩=>⟨o,es,ep,Hi e (noA e d),d,r⟩
  have hKb:K.In (Ag s₁.heap H):=fun b o e=>Hi (KX b o e) (by
   cases q:H b with
   |none=>rfl
   |some u=>
    have e':b=a:=hA b (by rw[q];simp);subst e';rw[hK (by rw[q];simp)] at e;cases e)
  have hM:Mod K mg (Ag s₁.heap H):=⟨hKb,nsK hns,⟨mb,nsK hb,hbb⟩,let⟨mc,h1,h2⟩:=hlim;⟨mc,nsK h1,h2⟩⟩
  have e0:ES P w K mg (Ag s₁.heap H) callerA [] s₁ H:=⟨rfl,hM,fun b o e=>QJ e,Nat.le_of_eq (IJ _ _),trivial,fun b hb=>absurd (show b∈([]:List Addr) from hb) (by simp),hok,.of_eq hg⟩
  refine codeAny_mono ((F _ hKb (nsK hns)).run callerA [] s₁ H ⟨[.ref a],[]⟩ [.ref a] [.ref a] _ _ hr e0 (hbind s₁ (.ref a)) (.cons rfl .nil) (Ou H hO hS)) fun r s' h=>?_;cases r with
  |error e=>exact(hCX H e s' h).elim
  |ok fl=>
   cases fl with
   |next=>exact False.elim h
   |brk=>exact False.elim h
   |cont=>exact False.elim h
   |ret u=>
    obtain⟨v,H',os,bare,un,a5X,r',q⟩:=h;have q':v=.bl true:=q;subst q';obtain rfl:u=Value.bool true:=r';refine⟨rfl,OldK.of_keep fun b o e=>?_,os,bare⟩;cases q:H b with
    |none=>exact un.keep b o e q (by intro z;exact absurd (show b∈([]:List Addr) from z) (by simp)) (by simp)
    |some u=>
     rcases hO b with z | ⟨ob,xs,z⟩
     .rw[q] at z;cases z
     .have z2:=un.nU b ob _ z;obtain⟨e1,_⟩:=hok b _ z;obtain⟨e2,_⟩:=a5X b _ z2;rw[e] at e1;cases e1;exact e2
 cases hk:K.lookup a with
 |some o=>
  have e:=KX a o hk;rw[ha] at e;cases e;refine core (fun _=>none) (fun _=>.inl rfl) (.inr ⟨_,vs.toArray,_,hk,rfl,rfl,rfl,by rw[List.size_toArray,a5h];exact hl,by simpa using rv,fun x hx=>by obtain⟨i,_,rfl⟩:=List.mem_map.mp hx;trivial⟩) (fun b u z=>by have z':(none:Option HO)=some u:=z;cases z') (fun b z=>absurd rfl z) fun z=>absurd rfl z
 |none=>
  refine core (fun b=>if b=a then some (.rq {cls:=.type "list",data:=.seq vs.toArray } (.lst (ns.map V.int))) else none) (fun b=>?_) (.inl (.inr ⟨{cls:=.type "list",data:=.seq vs.toArray },if_pos rfl⟩)) (fun b u z=>?_) (fun b z=>?_) fun _=>hk
  .by_cases hb:b=a
   .exact .inr ⟨_,_,if_pos hb⟩
   .exact .inl (if_neg hb)
  .by_cases hb:b=a
   .have z':=(if_pos hb).symm.trans z;cases z';subst hb;exact⟨ha,by rw[List.length_map];exact hl,vs,_,rv,ha⟩
   .have z':=(if_neg hb).symm.trans z;cases z'
  .by_cases hb:b=a
   .exact hb
   .exact absurd (if_neg hb) z
theorem OB {l:PySem.W.OpenLaw}{n k:Nat}{q:Program}{loose:List Str}{XP:(Str->Option Value)->Heap->Prop}{YP:World->Heap->Prop}{d:DefRec}{K:Params->PySem.W.Frag}{CX:World->E4}{sp:World->Sp}{x:Str}
  (hn:l.most=some n) (hn2:n<=sizeLine) (hdf:d.params.defaults=[]) (hr:bV k callerA)
  (hY:∀(w:World)(h:Heap),YP w h->(K w.params).In h)
  (F:∀(w:World)(mg:Str->Option Value)(fa:Addr)(h:Heap),(K w.params).In h->h.Ns mainGlobals mg->mg d.name=some (.ref fa)->
   ∃fd:FuncData,(∀(s:Shared)(u:Value),BindsTo s fd ⟨[u],[]⟩ [(x,u)])/\
    ∀base:Heap,(K w.params).In base->base.Ns mainGlobals mg->aL l.prog w (K w.params) mg base (CX w) k fa fd [x] (sp w))
  (Ou:∀(w:World)(H:Hp)(a:Addr)(ns:List Int),ns.length<=n->YB H->jx (K w.params) H a (ns.map V.int)->sp w [.ref a] H (fun v _=>v=.bl true) fun _ _ _=>False)
  (hCX:∀(w:World)(H:Hp)(s:Shared)(e:Value)(s':Shared),CX w [] H s (fun _ _ _=>False) e s'->False) :
  PySem.W.WalkO q loose XP YP l.row.toRowW d [] (fun f vs=>PySem.call f vs):=by
 refine Att.CH hn hdf fun w s₀ s₁ mg mb fa o pm cd doc a vs ns G QR ho hd hcd hmg hobj hints hlen hg=>?_;have KX:=hY w _ QR;obtain⟨fd,hb,hF⟩:=F w mg fa _ KX G.T.g hmg;exact MI KX G.T.g G.T.b G.T.builtins G.T.nolimit hg hobj hints (Nat.le_trans hlen hn2) hr hF hb (fun H hO hS=>Ou w H a ns hlen hO hS) fun H e s'=>hCX w H s₁ e s'
noncomputable def inClass (s:Stmt)(j:Nat):Stmt:=match s with
 |.ClassDef _ _ _ body _ _ _ _ _ _ _=>body.getD j (.Pass ⟨0,0,0,0⟩)
 |_=>.Pass ⟨0,0,0,0⟩
noncomputable def g7 (s:Stmt):Arguments:=match s with
 |.FunctionDef _ a _ _ _ _ _ _ _ _=>a
 |_=>{posonlyargs:=[],args:=[],vararg:=none,kwonlyargs:=[],kw_defaults:=[],kwarg:=none,defaults:=[] }
noncomputable def ao (s:Stmt):List Stmt:=match s with
 |.FunctionDef _ _ b _ _ _ _ _ _ _=>b
 |_=>[]
noncomputable def ai (s:Stmt):Scope:=match s with
 |.FunctionDef _ _ _ _ _ _ sc _ _ _=>sc
 |_=>{kind:=.function,names:=[],isGenerator:=false,isCoroutine:=false }
abbrev c5:E4:=fun _ _ _ _ _ _=>False
abbrev E0:XK:=fun _ _ _=>False
theorem rX {X:Cx}:Passes c5 X E0:=fun _ _ _ _ _ _ _ h=>h.elim
structure dg (K:PySem.W.Frag)(x qual:Str)(st:Stmt)(f:Addr)(fd:FuncData):Prop where
 ex:∃(oc:Value)(od:Option Addr)(kV doc pm:Value)(an:Option Addr)(AT ct:Value)(osl:Array (Option Value)),
  fd=PySem.W.fnOf x qual (g7 st) (ao st) (ai st) .none kV doc pm an AT ct/\K.lookup f=some ⟨oc,od,.func fd,osl⟩/\PySem.W.codeIn K AT qual=true
 kp:PySem.W.keepIn K (.ref f)=true
section
variable {P:Program}{w:World}{K:PySem.W.Frag}{mg:Str->Option Value}{base:Heap}
theorem dg.ok {x qual:Str}{st:Stmt}{f:Addr}{fd:FuncData}{N ps:List Str}{k:Nat}{sp:Sp}(F:dg K x qual st f fd)(S:au N ps (ai st))(len:∀vs H Q E,sp vs H Q E->vs.length=ps.length)
  (hbody:∀(AT:Value)(A:Around)(outer:List Env)(s:Shared)(H:Hp)(vs:List V)(Q:VK) (E:XK),bV k (A.deeper (envOfC qual (ai st) s.heap.objs.size f AT))->sp vs H Q E->
   ∃t,sJ (Aq c5 P w K mg base N qual (ai st) f AT A outer s H E).YE (ao st) t/\t {nx:=fun _ H'=>Q .cR H',rt:=Q } (start N vs) H):aL P w K mg base c5 (k+1) f fd ps sp:=by
 obtain⟨oc,od,kV,doc,pm,an,AT,ct,osl,rfl,lk,hcd⟩:=F.ex;refine TZ lk hcd S len fun A outer s H vs Q E hr Ou=>?_;obtain⟨t,h,q⟩:=hbody AT A outer s H vs Q E hr Ou;exact⟨t,h.YE,q⟩
theorem dg.binds {x qual:Str}{st:Stmt}{f:Addr}{fd:FuncData}{ps:List Str}(F:dg K x qual st f fd)
  (h:∀(kV doc pm:Value)(an:Option Addr)(AT ct:Value)(us:List Value),us.length=ps.length->bindArgs (PySem.W.fnOf x qual (g7 st) (ao st) (ai st) .none kV doc pm an AT ct) ⟨us,[]⟩=pure (ps.zip us)):Binds K fd ps []:=by
 obtain⟨oc,od,kV,doc,pm,an,AT,ct,osl,rfl,lk,hcd⟩:=F.ex;exact .all (h kV doc pm an AT ct)
theorem Xy {x qual:Str}{st:Stmt}{f:Addr}{oc:Value}{od an:Option Addr}{osl:Array (Option Value)}{kV doc pm AT ct:Value}(l:K.lookup f=some ⟨oc,od,.func (PySem.W.fnOf x qual (g7 st) (ao st) (ai st) .none kV doc pm an AT ct),osl⟩)
  (c:PySem.W.codeIn K AT qual=true) (k:PySem.W.keepIn K (.ref f)=true):dg K x qual st f (PySem.W.fnOf x qual (g7 st) (ao st) (ai st) .none kV doc pm an AT ct):=⟨⟨oc,od,kV,doc,pm,an,AT,ct,osl,rfl,l,c⟩,k⟩
end
theorem su {A:Around}{k:Nat}(hr:bV k A):A.units+1<cLine:=Nat.lt_of_le_of_lt (Nat.add_le_add_left (by decide:1<=64) _) hr.units
theorem HD {n:Nat}(h:n<=1000):n<sizeLine:=Nat.lt_of_le_of_lt h (by decide)
section
variable {X:Cx}
theorem pv (i:Nat){x:Str}{pos:Pos}(hN:autoParam (X.N[i]?=some x) zi)(hv:Vis X.env.scope x:=by first | exact Or.inl rfl | exact Or.inr (Or.inl rfl) | exact Or.inr (Or.inr rfl))(hd:autoParam ((x==("__debug__":Str))=false) zn)
  (hcd:autoParam ((x==("__classdict__":Str))=false) zn):PE X (.Name x pos) (Za i):=LS hN hv hd hcd
end
section
variable {κ:Type} [DecidableEq κ]
noncomputable def oU (kvs:List (κ×V))(k:κ):Option V:=(kvs.find? fun kv=>decide (kv.1=k)).map (·.2)
noncomputable def putK (kvs:List (κ×V))(k:κ)(v:V):List (κ×V):=
 if(kvs.any fun kv=>decide (kv.1=k))=true then kvs.map (fun kv=>if kv.1=k then(kv.1,v) else kv) else kvs++[(k,v)]
theorem oQ {p:κ×V}{r:List (κ×V)}{k:κ}(e:p.1=k):oU (p::r) k=some p.2:=by simp[oU,List.find?_cons,e]
theorem oS {p:κ×V}{r:List (κ×V)}{k:κ}(e:¬ p.1=k):oU (p::r) k=oU r k:=by simp[oU,List.find?_cons,e]
theorem A0 (k:κ):∀kvs:List (κ×V),(kvs.any fun kv=>decide (kv.1=k))=(oU kvs k).isSome
 |[]=>rfl
 |p::r=>by
  rw[List.any_cons];by_cases e:p.1=k
  .simp only[oQ e,decide_eq_true e,Bool.true_or,Option.isSome_some]
  .rw[oS e,decide_eq_false e,Bool.false_or];exact A0 k r
theorem k9 (kvs:List (κ×V))(k:κ)(v:V):(putK kvs k v).length<=kvs.length+1:=by
 unfold putK;split
 .rw[List.length_map];omega
 .rw[List.length_append,List.length_cons,List.length_nil];omega
theorem ju.IF {o:Option V}{u:Option Value}(r:ju o u):o.isSome=u.isSome:=by
 cases o with
 |none=>cases u with
  |none=>rfl
  |some _=>exact(show False from r).elim
 |some _=>cases u with
  |none=>exact(show False from r).elim
  |some _=>rfl
theorem ju.getD {o:Option V}{u:Option Value}{d:V}{d':Value}(r:ju o u)(rd:RelV d d'):RelV (o.getD d) (u.getD d'):=by
 cases o with
 |none=>cases u with
  |none=>exact rd
  |some _=>exact(show False from r).elim
 |some _=>cases u with
  |none=>exact(show False from r).elim
  |some _=>exact r
theorem KV.val {kvs:List (κ×V)}{vs:List (κ×Value)}(r:KV kvs vs)(k:κ):ju (oU kvs k) (valueAt vs k):=by
 unfold KV at r
 induction r with
 |nil=>exact True.intro
 | @cons p q ps qs h t ih=>
  obtain⟨h1,h2⟩:=h;by_cases e:p.1=k
  .have e':q.1=k:=h1.symm.trans e;have b:valueAt (q::qs) k=some q.2:=by simp[valueAt,List.find?_cons,e']
   rw[oQ e,b];exact h2
  .have e':¬ q.1=k:=fun z=>e (h1.trans z);have b:valueAt (q::qs) k=valueAt qs k:=by simp[valueAt,List.find?_cons,e']
   rw[oS e,b];exact ih
theorem KV.any {kvs:List (κ×V)}{vs:List (κ×Value)}(r:KV kvs vs)(k:κ):(kvs.any fun kv=>decide (kv.1=k))=vs.any fun kv=>decide (kv.1=k):=by
 unfold KV at r
 induction r with
 |nil=>rfl
 |cons h t ih=>rw[List.any_cons,List.any_cons,ih,h.1]
theorem KV.repl {kvs:List (κ×V)}{vs:List (κ×Value)}(r:KV kvs vs)(k:κ){y:V}{u:Value}(ry:RelV y u) :
  KV (kvs.map fun kv=>if kv.1=k then(kv.1,y) else kv) (vs.map fun kv=>if kv.1=k then(kv.1,u) else kv):=by
 unfold KV at r ⊢
 induction r with
 |nil=>exact .nil
 | @cons p q ps qs h t ih=>
  rw[List.map_cons,List.map_cons];refine .cons ?_ ih;obtain⟨h1,h2⟩:=h;by_cases e:p.1=k
  .rw[if_pos e,if_pos (h1.symm.trans e)];exact⟨h1,ry⟩
  .rw[if_neg e,if_neg (fun z=>e (h1.trans z))];exact⟨h1,h2⟩
theorem KV.put {kvs:List (κ×V)}{vs:List (κ×Value)}(r:KV kvs vs)(k:κ){y:V}{u:Value}(ry:RelV y u):KV (putK kvs k y) (stored vs k u):=by
 unfold putK stored;rw[r.any k];by_cases e:(vs.any fun kv=>decide (kv.1=k))=true
 .rw[if_pos e,if_pos e];exact r.repl k ry
 .rw[if_neg e,if_neg e];exact Paired.snoc r ⟨rfl,ry⟩
theorem KV.keys {kvs:List (κ×V)}{vs:List (κ×Value)}(r:KV kvs vs):kvs.map (·.1)=vs.map (·.1):=by
 unfold KV at r
 induction r with
 |nil=>rfl
 |cons h t ih=>rw[List.map_cons,List.map_cons,ih,h.1]
theorem KV.length {kvs:List (κ×V)}{vs:List (κ×Value)}(r:KV kvs vs):kvs.length=vs.length:=Paired.length r
end
theorem BU {P:Program}{w:World}{k:Key}{u:Value}(r:RelV (kV k) u):(bJ P w).is k u=true:=by
 cases k with
 |inl i=>obtain⟨t,e⟩:=(show ∃t,u=Value.int i t from r);subst e;exact BR P w i t
 |inr x=>obtain⟨t,e⟩:=(show ∃t,u=Value.str x t from r);subst e;exact BQ P w x t
theorem ym {P:Program}{w:World}:∀{ks:List Key}{us:List Value},Vals (ks.map kV) us->ItemsAre (bJ P w) ks us
 |[],_,r=>by rw[List.map_nil] at r;cases r;exact .nil
 |k::ks,_,r=>by
  rw[List.map_cons] at r;cases r with
  |cons h t=>exact .cons (BU h) (ym t)
noncomputable abbrev KT (H:Hp):List (List Key×V)->List (List Key×Addr×Value)->Prop:=Paired fun p q=>p.1=q.1/\H q.2.1=some (.tup (p.1.map kV))/\RelV p.2 q.2.2
theorem KT.val {H:Hp}{kvs:List (List Key×V)}{xs:List (List Key×Addr×Value)}(r:KT H kvs xs)(k:List Key):ju (oU kvs k) ((atKey xs k).map (·.2)):=by
 induction r with
 |nil=>exact True.intro
 | @cons p q ps qs h t ih=>
  obtain⟨h1,_,h2⟩:=h;by_cases e:p.1=k
  .have e':q.1=k:=h1.symm.trans e;have b:atKey (q::qs) k=some q.2:=by simp[atKey,List.find?_cons,e']
   rw[oQ e,b];exact h2
  .have e':¬ q.1=k:=fun z=>e (h1.trans z);have b:atKey (q::qs) k=atKey qs k:=by simp[atKey,List.find?_cons,e']
   rw[oS e,b];exact ih
theorem KT.repl {H:Hp}{kvs:List (List Key×V)}{xs:List (List Key×Addr×Value)}(r:KT H kvs xs)(k:List Key){y:V}{u:Value}(ry:RelV y u) :
  KT H (kvs.map fun kv=>if kv.1=k then(kv.1,y) else kv) (xs.map (putAt k u)):=by
 induction r with
 |nil=>exact .nil
 | @cons p q ps qs h t ih=>
  rw[List.map_cons,List.map_cons];refine .cons ?_ ih;obtain⟨h1,h2,h3⟩:=h;unfold putAt;by_cases e:p.1=k
  .rw[if_pos e,if_pos (h1.symm.trans e)];exact⟨h1,h2,ry⟩
  .rw[if_neg e,if_neg (fun z=>e (h1.trans z))];exact⟨h1,h2,h3⟩
theorem KT.put {H:Hp}{kvs:List (List Key×V)}{xs:List (List Key×Addr×Value)}(r:KT H kvs xs)(k:List Key){b:Addr}{y:V}{u:Value}(hb:H b=some (.tup (k.map kV)))(ry:RelV y u) :
  KT H (putK kvs k y) (storedH xs k b u):=by
 have e:(kvs.any fun kv=>decide (kv.1=k))=(atKey xs k).isSome:=by
  rw[A0,(r.val k).IF,Option.isSome_map]
 unfold putK storedH;rw[e];by_cases q:(atKey xs k).isSome=true
 .rw[if_pos q,if_pos q];exact r.repl k ry
 .rw[if_neg q,if_neg q];exact Paired.snoc r ⟨rfl,hb,ry⟩
theorem KT.keeps {H H':Hp}{kvs:List (List Key×V)}{xs:List (List Key×Addr×Value)}(r:KT H kvs xs)(ht:∀b ys,H b=some (.tup ys)->H' b=some (.tup ys)):KT H' kvs xs:=
 Paired.WV r fun _ _ z=>⟨z.1,ht _ _ z.2.1,z.2.2⟩
section
variable {P:Program}{w:World}{H:Hp}{h:Heap}{a:Addr}
theorem SW {u:HO}(ok:jy P w H h)(e:Rd H a u):bF P w H h a u:=e.ok ok
theorem qe {kvs:List (Key×V)}(ok:jy P w H h)(e:Rd H a (.dK kvs)):kvs.length<=sizeLine/\(a==sysModules)=false/\∃vs,KV kvs vs/\h.DictOf (bJ P w) a vs:=
 show bF P w H h a (.dK kvs) from SW ok e
theorem T8 {kvs:List (Key×V)}(ok:jy P w H h)(e:H a=some (.dK kvs)):kvs.length<=sizeLine/\(a==sysModules)=false/\∃vs,KV kvs vs/\h.DictOf (bJ P w) a vs:=qe ok (.inl e)
theorem Aa {ks:List Key}(ok:jy P w H h)(e:H a=some (.tup (ks.map kV))):(tupleKind (bJ P w)).is h ks a:=by
 obtain⟨_,AC,r,o,h1,h2,n,h3⟩:=(show bF P w H h a (.tup (ks.map kV)) from ok a _ e)
 exact⟨o,AC.toArray,n,h1,h2,h3,by simpa using ym r⟩
theorem Cj {kvs:List (List Key×V)}(ok:jy P w H h)(e:Rd H a (.dT kvs)):kvs.length<=sizeLine/\(a==sysModules)=false/\
  ∃xs,KT H kvs xs/\h.DictOfH (tupleKind (bJ P w)) a xs:=by
 obtain⟨z,y,xs,r,o,es,ep,h1,h2,h3,h4,h5⟩:=(show bF P w H h a (.dT kvs) from SW ok e)
 refine⟨z,y,xs,r,o,es,ep,h1,h2,h3,h4,fun x hx=>?_,h5⟩;have all:∀{l:List (List Key×V)} {m:List (List Key×Addr×Value)},KT H l m->∀x∈m,(tupleKind (bJ P w)).is h x.1 x.2.1:=by
  intro l m q
  induction q with
  |nil=>intro x hx;exact nomatch hx
  | @cons p q ps qs hq t ih=>
   intro x hx;rcases List.mem_cons.mp hx with e | hx
   .subst e;exact Aa ok (by rw[<- hq.1];exact hq.2.1)
   .exact ih x hx
 exact all r x hx
theorem a2s {kvs:List (List Key×V)}(ok:jy P w H h)(e:H a=some (.dT kvs)):kvs.length<=sizeLine/\(a==sysModules)=false/\
  ∃xs,KT H kvs xs/\h.DictOfH (tupleKind (bJ P w)) a xs:=Cj ok (.inl e)
end
def AS (H:Hp)(a:Addr)(y:V)(r:Option V):Prop:=
 (∃kvs k,Rd H a (.dK kvs)/\y=kV k/\r=oU kvs k)∨∃kvs k b,Rd H a (.dT kvs)/\y=.ref b/\H b=some (.tup (k.map kV))/\r=oU kvs k
def Of (H:Hp)(a:Addr)(y v:V)(H':Hp):Prop:=
 (∃kvs k,H a=some (.dK kvs)/\y=kV k/\kvs.length<sizeLine/\H'=upd H a (.dK (putK kvs k v)))∨
 ∃kvs k b,H a=some (.dT kvs)/\y=.ref b/\H b=some (.tup (k.map kV))/\kvs.length<sizeLine/\H'=upd H a (.dT (putK kvs k v))
theorem AS.k {H:Hp}{a:Addr}{kvs:List (Key×V)}{k:Key}(e:H a=some (.dK kvs)):AS H a (kV k) (oU kvs k):=.inl ⟨kvs,k,.inl e,rfl,rfl⟩
theorem Of.k {H:Hp}{a:Addr}{kvs:List (Key×V)}{k:Key}{v:V}(e:H a=some (.dK kvs))(hl:kvs.length<sizeLine):Of H a (kV k) v (upd H a (.dK (putK kvs k v))):=.inl ⟨kvs,k,e,rfl,hl,rfl⟩
section
variable {X:Cx}{vy:List (Addr×Obj)}{U:St}{H:Hp}{s:Shared}{a:Addr}{y v:V}{u r:Value}{o:Option V}{A:Around}{E:Value->Shared->Prop}
theorem Inv.big (I:Inv X vy U H s):sysModules<s.heap.objs.size:=by
 have h:mainGlobals<s.heap.objs.size:=(I.mod.glob.keeps I.bk).lt;exact Nat.lt_trans (by decide) h
theorem IT {Q:Value->Shared->Prop}(hu:A.units+1<cLine)(I:Inv X vy U H s)(g:AS H a y (some v))(ry:RelV y u)(h:∀w' s',Inv X vy U H s'->RelV v w'->Q w' s') :
  wpAny (model X.prog X.w) A (getItem (.ref a) u) Q E s:=by
 rcases g with⟨kvs,k,e,ey,l⟩ | ⟨kvs,k,b,e,ey,eb,l⟩
 .subst ey;obtain⟨z,hd,vs,rel,dd⟩:=qe I.hok e;obtain⟨w',hw,rw'⟩:=ju.some_of (v:=v) (o:=valueAt vs k) (by rw[l];exact rel.val k);exact wpAny_getItem_of (BU ry) dd.mapOf hw (h w' _ (I.tok _) rw')
 .subst ey;cases(show u=Value.ref b from ry);obtain⟨z,hd,xs,rel,dd⟩:=Cj I.hok e;obtain⟨w',hw,rw'⟩:=ju.some_of (v:=v) (o:=(atKey xs k).map (·.2)) (by rw[l];exact rel.val k);obtain⟨p,hp,hp2⟩:=Option.map_eq_some_iff.mp hw;refine wpAny_getItem_heap (tupleKind_room_in1 hu) (Aa I.hok eb) dd hp ?_;rw[hp2];exact h w' _ (I.tok _) rw'
theorem Ao {h':Heap}{t':Nat}{ob:HO}(I:Inv X vy U H s)(mu:YW (H a))(hs:Heap.SameBut a s.heap h')(he:∃q,h'.get? a=some q)(new:bF X.prog X.w (upd H a ob) h' a ob) :
  Inv X vy U (upd H a ob) {s with heap:=h',toks:=t' }:=
 I.write (x:=a) (e:=a) mu (.inl rfl) (fun b q hb z=>(hs.2 b hb).trans z) he new
theorem Nx {P:Program}{w:World}{H':Hp}{h':Heap}{kvs:List (Key×V)}{vs:List (Key×Value)}(z:kvs.length<=sizeLine)(hd:(a==sysModules)=false)(rel:KV kvs vs)(dd:h'.DictOf (bJ P w) a vs) :
  bF P w H' h' a (.dK kvs):=⟨z,hd,vs,rel,dd⟩
theorem IQ {H':Hp}{Q:Unit->Shared->Prop}(hu:A.units+1<cLine)(I:Inv X vy U H s)(g:Of H a y v H')(ry:RelV y u)(rv:RelV v r)(h:∀s',Inv X vy U H' s'->Q () s') :
  wpAny (model X.prog X.w) A (setItem (.ref a) u r) Q E s:=by
 rcases g with⟨kvs,k,e,ey,l,eH⟩ | ⟨kvs,k,b,e,ey,eb,l,eH⟩
 .subst ey eH;obtain⟨z,hd,vs,rel,dd⟩:=T8 I.hok e;have hz:vs.length<=sizeLine:=by rw[<- rel.length];exact z
  have hl:(putK kvs k v).length<=sizeLine:=by have:=k9 kvs k v;omega
  refine wpAny_setItem_pairs (hsz:=hz) (BU ry) dd fun h' Ox hs=>h _ ?_;have he:∃q,h'.get? a=some q:=let⟨q,_,_,hq,_⟩:=Ox;⟨q,hq⟩;exact Ao I (by rw[e];exact True.intro) hs he (Nx hl hd (rel.put k rv) Ox)
 .subst ey eH;cases(show u=Value.ref b from ry);obtain⟨z,hd,xs,rel,dd⟩:=a2s I.hok e;have hz:xs.length<=sizeLine:=by rw[<- Paired.length rel];exact z
  have hl:(putK kvs k v).length<=sizeLine:=by have:=k9 kvs k v;omega
  refine wpAny_setItem_heap (hsz:=hz) (tupleKind_room_in1 hu) (Aa I.hok eb) dd fun h' Ox hs=>h _ ?_;obtain⟨q,es,ep,hq,h2,h3,h4,_,h5⟩:=Ox;refine Ao I (by rw[e];exact True.intro) hs ⟨q,hq⟩ ⟨hl,hd,_,(rel.put k eb rv).keeps fun c ys ec=>?_,q,es,ep,hq,h2,h3,h4,h5⟩;rw[aH (BN ec e (fun z=>nomatch z))];exact ec
end
section
variable {X:Cx}{vy:List (Addr×Obj)}{U:St}{H:Hp}{s:Shared}{a:Addr}{kvs:List (Key×V)}{k:Key}{u:Value}{A:Around}{E:Value->Shared->Prop}
end
def RW (i:Expr):Prop:=∀ov iv,subscripted i false ov iv=operate [ov,iv] (getItem ov iv)
theorem OR {prog:Program}{w:World}{A:Around}{E:Value->Shared->Prop}{s:Shared}{env:Env}{value slice:Expr}{pos:Pos}{T id:String}{Q:Value->Shared->Prop}
  (hl:typeLookup (.type T) "__getitem__"=pure (some (.builtin id))) (hs:RW slice)
  (h:wpAny (model prog w) A (eval value env) (fun o s₁=>wpAny (model prog w) A (eval slice env) (fun i s₂=>s₂.TypeIs o T/\wpAny (model prog w) A (getItem o i) Q E s₂) E s₁) E s) :
  wpAny (model prog w) A (eval (.Subscript value slice pos) env) Q E s:=by
 refine Subscript_ (wpAny_mono h (fun o s₁ h₁=>wpAny_mono h₁ (fun i s₂ h₂=>?_) fun _ _ x=>x) fun _ _ x=>x);obtain⟨hT,h₂⟩:=h₂;unfold subscriptTail;refine wpAny_bind ?_;rw[getitemInPython_of_ne hT.not_modules];refine wpAny_bind (wpAny_specialOf hT hl ?_);have fin:wpAny (model prog w) A (subscripted slice false o i) (fun r s₃=>wpAny (model prog w) A (letTemporaryGo value o r >>=fun _=>pure r) Q E s₃) E s₂:=by
  rw[hs o i];exact wpAny_operating (wpAny_mono h₂ (fun r s₃ h₃=>wpAny_bind (wpAny_letTemporaryGo (wpAny_pure h₃))) fun _ _ x=>x)
 first
  |exact wpAny_pure (wpAny_bind fin)
  |exact wpAny_bind (wpAny_pure (wpAny_bind fin))
  |exact wpAny_bind fin
theorem Cn {X:Cx}{vy:List (Addr×Obj)}{U:St}{H:Hp}{s:Shared}{a:Addr}{y:V}{o:Option V}(I:Inv X vy U H s)(g:AS H a y o):s.TypeIs (.ref a) "dict":=by
 rcases g with⟨kvs,k,e,_,_⟩ | ⟨kvs,k,b,e,_,_,_⟩
 .obtain⟨_,_,vs,_,dd⟩:=qe I.hok e;exact dd.typeIs
 .obtain⟨_,_,xs,_,dd⟩:=Cj I.hok e;exact dd.typeIs
noncomputable def Zx (td ty:TE):TE:=fun U H Q=>td U H fun x H1=>ty U H1 fun y H2=>∃a v,x=.ref a/\AS H2 a y (some v)/\Q v H2
noncomputable def a0a (td ty tv:TE):TS:=fun D U H=>tv U H fun v H1=>td U H1 fun x H2=>ty U H2 fun y H3=>∃a H4,x=.ref a/\Of H3 a y v H4/\D.nx U H4
section
variable {X:Cx}{o i e value:Expr}{pos pos' tpos:Pos}{td ty tv:TE}
theorem Gi (hu:X.A.units+1<cLine)(ho:PE X o td)(hi:PE X i ty)(hs:RW i):PE X (.Subscript o i pos) (Zx td ty):=by
 intro vy s U H Q I h;refine OR PySem.F.slot_dict_getitem.lookup hs (bA (ho vy s U H _ I h) fun u s1 ⟨x,H1,I1,rx,q1⟩=>bA (hi vy s1 U H1 _ I1 q1) ?_);rintro iv s2 ⟨y,H2,I2,ry,a,v,ex,g,q2⟩;subst ex;obtain rfl:u=Value.ref a:=rx;exact⟨Cn I2 g,IT hu I2 g ry fun w' s3 I3 rw'=>⟨v,H2,I3,rw',q2⟩⟩
theorem PR (hu:X.A.units+1<cLine)(ho:PE X o td)(hi:PE X i ty)(hv:PE X value tv)(hs:swapsWith value (some (.Subscript o i pos')) pos.line X.env=pure false) :
  PS X (.Assign [.Subscript o i pos'] value pos) (a0a td ty tv):=by
 intro vy s U H D I h;refine wpAny_Assign_Subscript (bA (hv vy s U H _ I h) fun r s1 ⟨v,H1,I1,rv,q1⟩=>bA (ho vy s1 U H1 _ I1 q1) fun u s2 ⟨x,H2,I2,rx,q2⟩=>bA (hi vy s2 U H2 _ I2 q2) fun iv s3 ⟨y,H3,I3,ry,a,H4,ex,g,q3⟩=>?_) hs;subst ex;obtain rfl:u=Value.ref a:=rx;exact IQ hu I3 g ry rv fun s4 I4=>⟨U,H4,I4,q3⟩
end
theorem Ck {P:Program}{w:World}{H:Hp}(h:Heap)(hb:sysModules<h.objs.size):bF P w H (h.push {cls:=.type "dict",data:=.dict #[] }) h.objs.size (.dK []):=
 ⟨Nat.zero_le _,beq_eq_false_iff_ne.mpr (Ne.symm (Nat.ne_of_lt hb)),[],.nil,Heap.DictOf.new h⟩
noncomputable def UX:TE:=fun _ H Q=>∀p,H p=none->Q (.ref p) (upd H p (.dK []))
section
variable {X:Cx}{pos:Pos}
theorem LW:PE X (.Dict [] [] pos) UX:=fun vy s U H Q I h=>
 wpAny_Dict_empty ⟨.ref s.heap.objs.size,_,I.laid (a:=s.heap.objs.size) (o:=.dK []) (t':=s.toks) (fun _ _ q=>Heap.get?_push_of_some _ q) (Nat.le_refl _) (Ck s.heap I.big),rfl,h _ (I.hok.fresh (Nat.le_refl _))⟩
end
def Dp:List (TE×TE)->St->Hp->(List (V×V)->Hp->Prop)->Prop
 |[],_,H,Q=>Q [] H
 |(tk,tv)::r,U,H,Q=>tk U H fun x H1=>tv U H1 fun y H2=>Dp r U H2 fun ps H3=>Q ((x,y)::ps) H3
abbrev VV:List (V×V)->List (Value×Value)->Prop:=Paired fun p q=>RelV p.1 q.1/\RelV p.2 q.2
def PPs (X:Cx)(pos:Pos)(keys:List (Option Expr))(values:List Expr)(OG:List (TE×TE)):Prop:=
 ∀(vy:List (Addr×Obj)) (s:Shared) (U:St) (H:Hp) (Q:List (V×V)->Hp->Prop),Inv X vy U H s->Dp OG U H Q->
  wpAny (model X.prog X.w) X.A (evalPairs (pairTrees keys values X.env pos)) (fun vs s'=>∃ps H',Inv X vy U H' s'/\VV ps vs/\Q ps H') X.xe s
theorem PV {X:Cx}{pos:Pos}:PPs X pos [] [] []:=fun vy s U H Q I h=>pairTrees_nil_walk ⟨[],H,I,.nil,h⟩
theorem LJ {X:Cx}{pos:Pos}{k v:Expr}{ks:List (Option Expr)}{vs:List Expr}{tk tv:TE}{OG:List (TE×TE)}(hk:PE X k tk)(hv:PE X v tv)(hr:PPs X pos ks vs OG) :
  PPs X pos (some k::ks) (v::vs) ((tk,tv)::OG):=fun vy s U H Q I h=>
 pairTrees_cons_walk (bA (hk vy s U H _ I h) (by rintro u s1 ⟨x,H1,I1,rx,q1⟩;exact bA (hv vy s1 U H1 _ I1 q1) (by rintro w2 s2 ⟨y,H2,I2,ry,q2⟩;exact   bA (hr vy s2 U H2 _ I2 q2) (by rintro ws s3 ⟨ps,H3,I3,rel,q3⟩;exact⟨(x,y)::ps,H3,I3,.cons ⟨rx,ry⟩ rel,q3⟩))))
noncomputable def vM (kvs more:List (Key×V)):List (Key×V):=more.foldl (fun acc kv=>putK acc kv.1 kv.2) kvs
theorem KV.merge:∀{more:List (Key×V)} {rs:List (Key×Value)} {kvs:List (Key×V)} {vs:List (Key×Value)},KV more rs->KV kvs vs->KV (vM kvs more) (merged vs rs):=by
 intro more rs kvs vs r;unfold KV at r
 induction r generalizing kvs vs with
 |nil=>intro q;exact q
 | @cons p q ps qs h t ih=>
  intro r0;have e:KV (putK kvs p.1 p.2) (stored vs q.1 q.2):=by
   have:=r0.put p.1 h.2;rw[<- h.1];exact this
  exact ih e
theorem nB:∀(more kvs:List (Key×V)),(vM kvs more).length<=kvs.length+more.length
 |[],kvs=>by show kvs.length<=kvs.length+0;omega
 |p::r,kvs=>by
  have h1:=nB r (putK kvs p.1 p.2);have h2:=k9 kvs p.1 p.2;show(vM (putK kvs p.1 p.2) r).length<=_;rw[List.length_cons];omega
theorem wH {P:Program}{w:World}:∀{kvs:List (Key×V)} {ws:List (Value×Value)},VV (kvs.map fun kv=>(kV kv.1,kv.2)) ws->∃rs,Carries (bJ P w) ws rs/\KV kvs rs
 |[],_,r=>by rw[List.map_nil] at r;cases r;exact⟨[],True.intro,.nil⟩
 |p::kvs,_,r=>by
  rw[List.map_cons] at r;cases r with
  | @cons a b as bs h t=>
   obtain⟨rs,c,q⟩:=wH (P:=P) (w:=w) t;obtain⟨b1,b2⟩:=b;exact⟨(p.1,b2)::rs,⟨BU h.1,rfl,c⟩,.cons ⟨rfl,h.2⟩ q⟩
noncomputable def Zw (OG:List (TE×TE)):TE:=fun U H Q=>∀p,H p=none->Dp OG U (upd H p (.dK [])) fun ps H2=>H2 p=some (.dK [])/\∃kvs:List (Key×V),ps=kvs.map (fun kv=>(kV kv.1,kv.2))/\kvs.length<=15/\Q (.ref p) (upd H2 p (.dK (vM [] kvs)))
theorem Qa {X:Cx}{pos:Pos}{keys:List (Option Expr)}{values:List Expr}{OG:List (TE×TE)}(h:PPs X pos keys values OG)(hall:keys.all (·.isSome)=true)(hl:keys.length=values.length)(h0:keys≠[])
  (h15:keys.length<=15):PE X (.Dict keys values pos) (Zw OG):=by
 intro vy s U H Q I q;have hn:=I.hok.fresh (Nat.le_refl s.heap.objs.size);have I1:=I.laid (a:=s.heap.objs.size) (o:=.dK []) (h':=s.heap.push {cls:=.type "dict",data:=.dict #[] }) (t':=s.toks) (fun _ _ q=>Heap.get?_push_of_some _ q) (Nat.le_refl _) (Ck s.heap I.big);refine wpAny_Dict_walk (knd:=bJ X.prog X.w) hall hl h0 h15 (bA (h vy _ U _ _ I1 (q _ hn)) ?_);rintro ws s2 ⟨ps,H2,I2,rel,e,kvs,ep,lk,q2⟩;subst ep;obtain⟨rs,c,rk⟩:=wH (P:=X.prog) (w:=X.w) rel;obtain⟨z,hd,vs0,r0,dd⟩:=T8 I2.hok e;cases r0;refine⟨rs,c,dd,fun h' Ox hs=>⟨.ref s.heap.objs.size,_,?_,rfl,q2⟩⟩;have hz:(vM [] kvs).length<=sizeLine:=by
  have h1:=nB kvs [];rw[List.length_nil] at h1;rw[sizeLine_eq];omega
 have he:∃q,h'.get? s.heap.objs.size=some q:=let⟨q,_,_,hq,_⟩:=Ox;⟨q,hq⟩;exact Ao I2 (by rw[e];exact True.intro) hs he (Nx hz hd (rk.merge .nil) Ox)
structure M2 (X:Cx)(o:Expr)(m:Str)(BM:Pos)(e f:Expr)(cpos:Pos):Prop where
 base:attributeBase o m X.env (eval o X.env)=eval o X.env
 few:((backTo cpos (starEach [e,f] X.env)).all (fun x=>!x.1)&&(backToKw cpos (keywordEach [] X.env)).all (fun x=>x.1.isSome)
 &&decide (([e,f]:List Expr).length+([]:List Keyword).length+(if([]:List Keyword).isEmpty then 0 else 1)<30))=true
 line:(BM.endLine==cpos.line)=true
 trees:backTo cpos (starEach [e,f] X.env)=[(false,eval e X.env),(false,eval f X.env)]
def IsD (H:Hp)(a:Addr):Prop:=(∃kvs,Rd H a (.dK kvs))∨∃kvs,Rd H a (.dT kvs)
theorem Xn {X:Cx}{vy:List (Addr×Obj)}{U:St}{H:Hp}{s:Shared}{a:Addr}(I:Inv X vy U H s)(d:IsD H a) :
  s.TypeIs (.ref a) "dict"/\(∀b,Value.ref a=.ref b->∃ob,s.heap.get? b=some ob/\ob.dict=none)/\(a==sysModules)=false:=by
 rcases d with⟨kvs,e⟩ | ⟨kvs,e⟩
 .obtain⟨_,hd,vs,_,dd⟩:=qe I.hok e;refine⟨dd.typeIs,fun b q=>?_,hd⟩;cases q;obtain⟨ob,_,_,h1,h2,_⟩:=dd;exact⟨ob,h1,h2.2.1⟩
 .obtain⟨_,hd,xs,_,dd⟩:=Cj I.hok e;refine⟨dd.typeIs,fun b q=>?_,hd⟩;cases q;obtain⟨ob,_,_,h1,h2,_⟩:=dd;exact⟨ob,h1,h2.2.1⟩
section
variable {X:Cx}{vy:List (Addr×Obj)}{U:St}{H:Hp}{s:Shared}{a:Addr}{y d:V}{u r:Value}{o:Option V}{A:Around}{E:Value->Shared->Prop}
theorem XU {Q:Value->Shared->Prop}(hu:A.units+1<cLine)(I:Inv X vy U H s)(g:AS H a y o)(ry:RelV y u)(rd:RelV d r)(h:∀w' s',Inv X vy U H s'->RelV (o.getD d) w'->Q w' s') :
  wpAny (model X.prog X.w) A (call (.builtin "dict.get") [.ref a,u,r]) Q E s:=by
 rcases g with⟨kvs,k,e,ey,l⟩ | ⟨kvs,k,b,e,ey,eb,l⟩
 .subst ey;obtain⟨z,hd,vs,rel,dd⟩:=qe I.hok e;refine call_meetsIn PySem.F.slot_dict_get dd.typeIs PySem.F.entry_dict_get (PySem.F.args_dict_get_3 _ _ _) (meets_dict_get_default (bJ X.prog X.w) a (BU ry) hd r) ⟨_,dd.mapOf,h _ _ (I.tok _) ?_⟩;rw[l];exact(rel.val k).getD rd
 .subst ey;cases(show u=Value.ref b from ry);obtain⟨z,hd,xs,rel,dd⟩:=Cj I.hok e;refine call_meetsIn PySem.F.slot_dict_get dd.typeIs PySem.F.entry_dict_get (PySem.F.args_dict_get_3 _ _ _) (meetsH_dict_get_default (tupleKind (bJ X.prog X.w)) a b hd r) ⟨tupleKind_room_in1 hu,k,xs,Aa I.hok eb,dd,h _ _ (I.tok _) ?_⟩;rw[l];exact(rel.val k).getD rd
end
noncomputable def UZ (td ty tx:TE):TE:=fun U H Q=>td U H fun x H1=>∃a,x=.ref a/\IsD H1 a/\ty U H1 fun y H2=>tx U H2 fun z H3=>∃o,AS H3 a y o/\Q (o.getD z) H3
section
variable {X:Cx}{o e f:Expr}{BM cpos:Pos}{td ty tx:TE}
theorem LX (hu:X.A.units+1<cLine)(ho:PE X o td)(he:PE X e ty)(hf:PE X f tx)(m:M2 X o "get" BM e f cpos):PE X (.Call (.Attribute o "get" BM) [e,f] [] cpos) (UZ td ty tx):=by
 intro vy s U H Q I h;refine wpAny_Call_method m.base m.few m.line PySem.F.plainAttrs_dict PySem.F.slot_dict_get PySem.F.type_dict_get (bA (ho vy s U H _ I h) ?_);rintro u s1 ⟨x,H1,I1,rx,a,ex,d,q1⟩;subst ex;obtain rfl:u=Value.ref a:=rx;obtain⟨t1,t2,_⟩:=Xn I1 d;refine⟨t1,t2,?_⟩;rw[m.trees];refine Calls.callWith_builtin rfl (Calls.evalArgs_plain (Calls.spliced_cons (bA (he vy s1 U H1 _ I1 q1) fun iv s2 ⟨y,H2,I2,ry,q2⟩=>
  Calls.spliced_cons (bA (hf vy s2 U H2 _ I2 q2) fun fv s3 ⟨z,H3,I3,rz,ov,g,q3⟩=>Calls.spliced_nil ?_))))
 exact XU hu I3 g ry rz fun w' s4 I4 rw'=>⟨_,H3,I4,rw',q3⟩
end
section
variable {X:Cx}{vy:List (Addr×Obj)}{U:St}{H:Hp}{s:Shared}{a:Addr}{kvs:List (Key×V)}{A:Around}{E:Value->Shared->Prop}
end
section
variable {X:Cx}{vy:List (Addr×Obj)}{U:St}{H:Hp}{s:Shared}{a:Addr}{y:V}{u:Value}{A:Around}{E:Value->Shared->Prop}
end
section
variable {X:Cx}
end
section
variable {κ:Type} [DecidableEq κ]
end
end L2
set_option maxHeartbeats 4000000
namespace L2
open PySem PySem.Spec PyProof.Rows
abbrev iV:Value->Shared->Prop:=fun _ _=>False
abbrev qh (X:Cx)(sc:Scope)(N:List Str)(cl:List (Str×Addr))(C:Addr)(s:Shared)(H:Hp)(fp:List Addr):Cx:=
 {X with N:=N,s₀:=s,H₀:=H,env:=compEnvC sc cl C X.env,outer:=X.stack,ex:=fp,fn:=fun _=>false,pn:=[],xe:=iV }
def Ext (U U':St):Prop:=U'.length=U.length/\∀(i:Nat) v,U[i]?=some (some v)->U'[i]?=some (some v)
noncomputable def Fw (cs:List Expr)(env:Env):Sem Bool:=forIn cs true fun c r=>if r=true then do let ok <- isTrue c env (eval c env);pure (ForInStep.yield ok) else pure (ForInStep.yield r)
def YU (X:Cx)(cs:List Expr)(t:TT):Prop:=
 ∀(vy:List (Addr×Obj)) (s:Shared) (U:St) (H:Hp) (Q:Bool->Hp->Prop),Inv X vy U H s->t U H Q->wpAny (model X.prog X.w) X.A (Fw cs X.env) (TP X vy U Q) X.xe s
noncomputable def OO:TT:=fun _ H Q=>Q true H
theorem PF {X:Cx}:YU X [] OO:=fun vy s U H Q I h=>wpAny_tests_nil ⟨H,I,h⟩
theorem PD {X:Cx}{c:Expr}{t:TT}(hc:PT X c t):YU X [c] t:=fun vy s U H Q I h=>wpAny_tests_one (hc vy s U H Q I h)
section
variable {prog:Program}{w:World}{A:Around}{R:Result->Shared->Prop}{s:Shared}
theorem IU {elt target iter:Expr}{cs:List Expr}{scope:Scope}{pos:Pos}{it acc:Value}{env:Env}(J:Nat->Shared->Prop)
  (turn:∀n s,J n s->wpAny (model prog w) A (pyNext it) (fun r s1=>match r with
   |none=>R (.ok .next) s1
   |some v=>wpAny (model prog w) A (letOwnedTupleGo target it v) (fun _ s2=>wpAny (model prog w) A (assign target env v) (fun _ s3=>
     wpAny (model prog w) A (Fw cs env) (fun ok s4=>if ok=true then wpAny (model prog w) A (eval elt env) (fun x s5=>
       wpAny (model prog w) A (call (.builtin "list.append") [acc,x]) (fun _ s6=>∃m,m<n/\J m s6) iV s5) iV s4
      else ∃m,m<n/\J m s4) iV s3) iV s2) iV s1) iV s) (n:Nat) (h:J n s) :
  codeAny (model prog w) A (.compLoop (.ListComp elt [⟨target,iter,cs,0⟩] scope pos) 0 it acc env) R s:=by
 refine codeAny_loop rfl J (fun k s' hk=>?_) n h;show wpAny (model prog w) A ((compTurn (.ListComp elt [⟨target,iter,cs,0⟩] scope pos) 0 it acc env).onRaise (fun x=>do noteFrame x env;theTreesLotGoes x)) _ _ s';refine wpAny_noted ?_;have no:∀(e:Value)(s2:Shared),iV e s2->notedBy (model prog w) A env (fun e s'=>R (.error e) s') e s2:=fun _ _ f=>f.elim;rw[compTurn_list];refine wpAny_bind (wpAny_standAt (wpAny_bind (wpAny_mono (turn k s' hk) (fun r s1 g1=>?_) no)));cases r with
 |none=>exact wpAny_pure g1
 |some v=>
  refine wpAny_bind (wpAny_mono g1 (fun _ s2 g2=>?_) no);refine wpAny_bind (wpAny_mono g2 (fun _ s3 g3=>?_) no);refine wpAny_bind (wpAny_mono g3 (fun ok s4 g4=>?_) no);cases ok with
  |false=>exact wpAny_pure ⟨rfl,g4⟩
  |true=>exact wpAny_bind (wpAny_bind (wpAny_mono g4 (fun x s5 g5=>wpAny_bind (wpAny_mono g5 (fun _ s6 g6=>wpAny_pure (wpAny_pure ⟨rfl,g6⟩)) no)) no))
end
def NV (J:It)(g:TG)(tt:TT)(te:TE)(σ0:St)(W:Nat->Nat->List V->Hp->Prop)(R:List V->Hp->Prop):Prop:=
 ∀i m ys H,W i m ys H->(J.stop i H/\R ys H)∨(J.go i H/\∃F:List V->Hp->Prop,(∀ys' H',F ys' H'->∃m',m' < m/\W (i+1) m' ys' H')/\∀x H',J.C5 i H x H'->g x σ0 H' fun U2 H2=>Ext σ0 U2/\tt U2 H2 fun b H3=>
  if b=true then te U2 H3 fun v H4=>ys.length<sizeLine/\F (ys++[v]) H4 else F ys H3)
structure lS (X:Cx)(sc:Scope)(cl:List (Str×Addr))(own:Nat)(N:List Str)(fr:List Nat):Prop where
 kind:sc.kind=.function
 names:∀x∈sc.names,x.2=.local->sc.names.lookup x.1=some .local
 zU:∀x∈sc.names,x.2≠.cell
 clos:closureFor sc X.env=pure cl
 cells:∀x c,cl.lookup x=some c->X.env.cells.lookup x=some c
 has:∀x,((relabel sc X.env).names.lookup x=some .cell∨(relabel sc X.env).names.lookup x=some .free)->∃c,cl.lookup x=some c
 len:N.length=own+fr.length
 fro:∀(i:Nat) j,fr[i]?=some j->∃x,N[own+i]?=some x/\X.N[j]?=some x/\(X.env.kindOf x=some .cell∨X.env.kindOf x=some .free)/\((relabel sc X.env).names.lookup x=some .cell∨(relabel sc X.env).names.lookup x=some .free)
def Sd (env:Env):List (Str×Addr)->Prop
 |[]=>True
 |p::r=>env.cells.lookup p.1=some p.2/\Sd env r
theorem Sd.mem {env:Env}:∀{cl:List (Str×Addr)},Sd env cl->∀p∈cl,env.cells.lookup p.1=some p.2
 |[],_,_,h=>nomatch h
 |_::_,h,p,hp=>by
  rcases List.mem_cons.mp hp with rfl | hp
  .exact h.1
  .exact h.2.mem p hp
noncomputable def Af (k:Option NameKind):Bool:=match k with
 |some .cell=>true
 |some .free=>true
 |_=>false
theorem GD {k:Option NameKind}(h:Af k=true):k=some .cell∨k=some .free:=by
 cases k with
 |none=>cases h
 |some k=>cases k<;>first | exact .inl rfl | exact .inr rfl | cases h
noncomputable def GN (X:Cx)(sc:Scope):List Str->List Nat->Bool
 |[],[]=>true
 |x::ns,j::fr=>decide (X.N[j]?=some x)&&Af (X.env.kindOf x)&&Af ((relabel sc X.env).names.lookup x)&&GN X sc ns fr
 |_,_=>false
theorem Ce {X:Cx}{sc:Scope}:∀{ns:List Str}{fr:List Nat},GN X sc ns fr=true->ns.length=fr.length/\∀(i:Nat) j,fr[i]?=some j->∃x,ns[i]?=some x/\X.N[j]?=some x/\Af (X.env.kindOf x)=true/\Af ((relabel sc X.env).names.lookup x)=true
 |[],[],_=>⟨rfl,fun i j h=>by simp at h⟩
 |[],_::_,h=>by cases h
 |_::_,[],h=>by cases h
 |x::ns,j::fr,h=>by
  have h:(decide (X.N[j]?=some x)&&Af (X.env.kindOf x)&&Af ((relabel sc X.env).names.lookup x)&&GN X sc ns fr)=true:=h;rw[Bool.and_eq_true,Bool.and_eq_true,Bool.and_eq_true] at h;obtain⟨⟨⟨h1,h2⟩,h3⟩,h4⟩:=h;obtain⟨l,g⟩:=Ce h4;refine⟨by simp[l],fun i k e=>?_⟩;cases i with
  |zero=>cases e;exact⟨x,rfl,of_decide_eq_true h1,h2,h3⟩
  |succ i=>exact g i k e
theorem bY {X:Cx}{sc:Scope}{cl:List (Str×Addr)}(a0R frN:List Str)(fr:List Nat)(kind:sc.kind=.function)(names:(sc.names.all fun x=>x.2 !=.local||sc.names.lookup x.1==some .local)=true)
  (zU:(sc.names.all fun x=>x.2 !=.cell)=true) (clos:closureFor sc X.env=pure cl) (cells:Sd X.env cl) (has:((relabel sc X.env).names.all fun y=>!Af (some y.2)||(cl.lookup y.1).isSome)=true)
  (len:frN.length=fr.length) (fro:GN X sc frN fr=true):lS X sc cl a0R.length (a0R++frN) fr where
 kind:=kind
 names:=fun x hx hl=>by
  have:=List.all_eq_true.mp names x hx;rw[hl] at this;simpa using this
 zU:=fun x hx=>by simpa using List.all_eq_true.mp zU x hx
 clos:=clos
 cells:=fun x c h=>cells.mem (x,c) (PySem.mem_of_lookup h)
 has:=fun x h=>by
  obtain⟨k,hk,e⟩:∃k,(relabel sc X.env).names.lookup x=some k/\Af (some k)=true:=by
   rcases h with h | h
   .exact⟨_,h,rfl⟩
   .exact⟨_,h,rfl⟩
  have:=List.all_eq_true.mp has (x,k) (PySem.mem_of_lookup hk);rw[e] at this;exact Option.isSome_iff_exists.mp (by simpa using this)
 len:=by rw[List.length_append,len]
 fro:=fun i j e=>by
  obtain⟨_,g⟩:=Ce fro;obtain⟨x,e1,e2,e3,e4⟩:=g i j e;refine⟨x,?_,e2,GD e3,GD e4⟩;rw[List.getElem?_append_right (Nat.le_add_right _ _),Nat.add_sub_cancel_left];exact e1
noncomputable def yU (own:Nat)(fr:List Nat)(U:St):St:=List.replicate own none++fr.map fun j=>(U[j]?).join
section
variable {X:Cx}{sc:Scope}{cl:List (Str×Addr)}{own:Nat}{N:List Str}{fr:List Nat}
theorem U8 {U:St}{i:Nat}{v:V}(h:(yU own fr U)[i]?=some (some v)):∃k j,i=own+k/\fr[k]?=some j/\U[j]?=some (some v):=by
 unfold yU at h;by_cases hi:i<own
 .rw[List.getElem?_append_left (by simpa using hi),List.getElem?_replicate,if_pos hi] at h;cases h
 .rw[List.getElem?_append_right (by simpa using hi),List.length_replicate,List.getElem?_map] at h;cases e:fr[i - own]? with
  |none=>rw[e] at h;cases h
  |some j=>
   rw[e] at h;have h:(U[j]?).join=some v:=Option.some.inj h;refine⟨i - own,j,by omega,e,?_⟩;cases q:U[j]? with
   |none=>rw[q] at h;cases h
   |some o=>rw[q] at h;exact congrArg some h
theorem IY {vy:List (Addr×Obj)}{U:St}{H:Hp}{s:Shared}{fp:List Addr}{h1:Heap}{m1:Str->Option Value}{t:Nat}{C D:Addr}{od:Obj}(S:lS X sc cl own N fr)(I:Inv X vy U H s)(hfp:∀b∈fp,tH X vy H b)
  (hob:∀b∈fp,∃o,s.heap.get? b=some o) (kp:∀b o,s.heap.get? b=some o->h1.get? b=some o) (hC:s.heap.objs.size<=C) (hns:h1.Ns C m1) (hD:s.heap.objs.size<=D) (hDC:D≠C) (ho:h1.get? D=some od) (hod:∀v,od.data≠.cell v) :
  Inv (qh X sc N cl C s H fp) [(D,od)] (yU own fr U) H {s with heap:=h1,toks:=t }:=by
 have OQ:∀b∈fp,b<s.heap.objs.size:=fun b hb=>let⟨o,e⟩:=hob b hb;Heap.lt_size e;refine⟨⟨I.ok.mod,S.kind,I.ok.glob,I.ok.blt,hC,fun x y c a b=>I.ok.inj x y c (S.cells x c a) (S.cells y c b),S.has,(fun x c z=>nomatch z),I.ok.hd,I.ok.frames,.inl rfl,fun b hb=>?_,I.bs,Nat.le_trans I.ok.IX I.sz,fun b o e hb=>?_,fun b hb hf=>?_,I.stack,I.pH⟩,
  rfl,I.bare,Un.kept kp,⟨m1,hns,fun i x v e1 e2 e3=>?_⟩,fun x c e=>?_,I.hok.fresh hC,fun x c e=>I.iy x c (S.cells x c e),fun p hp=>?_,I.hok.kept kp,?_⟩
 .exact⟨Nat.ne_of_lt (Nat.lt_of_lt_of_le (OQ b hb) hC),fun x c e=>(hfp b hb).2.2.2.2.1 x c (S.cells x c e)⟩
 .rcases(hfp b hb).2.2.2.1 with z | z
  .exact I.ok.BJ b o e z
  .exact absurd (Nat.lt_of_lt_of_le (Heap.lt_size e) (Nat.le_trans I.ok.IX z)) (Nat.lt_irrefl _)
 .rcases List.mem_cons.mp (I.yT b hf) with z | z
  .exact(hfp b hb).2.1 z
  .exact(hfp b hb).2.2.1 z
 .obtain⟨k,j,rfl,ej,eσ⟩:=U8 e2;obtain⟨y,n1,n2,k1,k2⟩:=S.fro k j ej;have e1:N[own+k]?=some x:=e1;rw[n1] at e1;cases e1;obtain⟨m,hn,hl⟩:=I.loc;obtain⟨u,ru,l⟩:=hl j x v n2 eσ (by rcases k1 with z | z;exact .inr (.inl z);exact .inr (.inr z));refine⟨u,ru,.inr ⟨k2,?_⟩⟩;obtain⟨c,hc⟩:=S.has x k2;refine⟨c,hc,?_⟩;rcases l with⟨q,_⟩ | ⟨_,c',e',z⟩
  .rcases k1 with k1 | k1<;>(rw[k1] at q;cases q)
  .have:=S.cells x c hc;rw[e'] at this;cases this;obtain⟨o,TY,h2'⟩:=z;exact⟨o,kp _ _ TY,h2'⟩
 .obtain⟨v,o,TY,h2'⟩:=I.cell x c (S.cells x c e);exact⟨v,o,kp _ _ TY,h2'⟩
 .have hp:p=(D,od):=by simpa using hp
  subst hp;refine⟨ho,I.hok.fresh hD,hDC,fun hf=>?_,hod⟩;have:D∈X.env.locals::X.fs:=I.yT D hf;rcases List.mem_cons.mp this with z | z
  .exact absurd (Nat.lt_of_lt_of_le I.lt hD) (by rw[z];exact Nat.lt_irrefl _)
  .exact I.a05 hD z
 .unfold yU;rw[List.length_append,List.length_replicate,List.length_map];exact S.len.symm
theorem IZ {vy pl:List (Addr×Obj)}{U τ:St}{H H':Hp}{s s':Shared}{fp:List Addr}{C D:Addr}{ys:List V}{AC:List Value}{n:Nat}(I:Inv X vy U H s)(hfp:∀b∈fp,tH X vy H b)(hC:s.heap.objs.size<=C)(hD:s.heap.objs.size<=D)
  (B:Inv (qh X sc N cl C s H fp) pl τ H' s') (hn:H' D=none) (ho:s'.heap.get? D=some {cls:=.type "list",data:=.seq AC.toArray n }) (r:Vals ys AC) (hz:ys.length<=sizeLine) :
  Inv X vy U (upd H' D (.lst ys)) s':=by
 have ne:∀b o,s.heap.get? b=some o->b≠D:=fun b o e=>Nat.ne_of_lt (Nat.lt_of_lt_of_le (Heap.lt_size e) hD);have nt:∀b u,H' b=some u->b≠D:=fun b u e=>aR e hn;refine I.Ug (ch:=fp) B.os ⟨B.base.keep,B.base.slot,fun b o e q hx=>?_,B.base.there,fun b xs e=>?_,fun b o u e=>?_,fun b ps e=>?_⟩ (fun b u e=>?_) B.bare fun b hb=>?_
 .rw[aH (ne b o e)];exact B.base.free b o e q hx
 .have:=B.base.tups b xs e;rw[aH (nt _ _ this)];exact this
 .have:=B.base.nU b o u e;rw[aH (nt _ _ this)];exact this
 .obtain⟨mo,this⟩:=B.base.pF b ps e;exact⟨mo,by rw[aH (nt _ _ this)];exact this⟩
 .by_cases hb:b=D
  .subst hb;rw[cS] at e;cases e;exact⟨hz,AC,n,r,ho⟩
  .rw[aH hb] at e;exact(B.hok b u e).stay (fun _ _ _ q=>q) (fun c q=>by rw[aH (nt _ _ q)];exact q) fun c xs q=>by rw[aH (nt _ _ q)];exact q
 .obtain⟨_,f1,_,f3,f4,f5⟩:=hfp b hb;exact⟨f3,f1,f4,f5⟩
end
section
variable {X:Cx}{sc:Scope}{cl:List (Str×Addr)}{own:Nat}{N:List Str}{fr:List Nat}
theorem Inv.LM {vy kg:List (Addr×Obj)}{U:St}{H:Hp}{s:Shared}(I:Inv X vy U H s)(h:∀p∈kg,p∈vy):Inv X kg U H s:=I.uv fun p hp=>I.pin p (List.mem_append_right _ (h p hp))
theorem yw {elt tg iter:Expr}{cs:List Expr}{pos:Pos}{g:TG}{tt:TT}{te:TE}{vy:List (Addr×Obj)}{U:St}{H:Hp}{s:Shared}{it:Addr}{fp:List Addr}{tn:Nat->Heap->Prop}{J:It}{RR:Value->Addr->Result->Shared->Prop}
  (S:lS X sc cl own N fr) (hc:X.calm=true) (I:Inv X vy U H s) (T:Turn X.prog X.w X.K tg J fp it tn) (st:tn 0 s.heap) (hfp:∀b∈fp,tH X vy H b)
  (hg:∀C s H,PG (qh X sc N cl C s H fp) tg g) (ht:∀C s H,YU (qh X sc N cl C s H fp) cs tt) (he:∀C s H,PE (qh X sc N cl C s H fp) elt te)
  {W:Nat->Nat->List V->Hp->Prop} {R:List V->Hp->Prop} (w0:∃m,W 0 m [] H) (walk:NV J g tt te (yU own fr U) W R)
  (fin:∀D C H' ys s' m,s'.heap.Ns C m->H' D=none->tH X vy (upd H' D (.lst ys)) C->Inv X vy U (upd H' D (.lst ys)) s'->R ys H'->RR (.ref D) C (.ok .next) s') :
  wpAny (model X.prog X.w) X.A (newList []) (fun acc s3=>wpAny (model X.prog X.w) X.A (newFunctionEnv sc X.env.globals cl [] X.env.qual none .none (some X.env)) (fun cenv s4=>
   codeAny (model X.prog X.w) X.A (.compStart (.ListComp elt [⟨tg,iter,cs,0⟩] sc pos) 0 (.ref it) acc {cenv with scope:=relabel sc X.env }) (RR acc cenv.locals) s4) X.xe s3) X.xe s:=by
 refine wpAny_newObj_type (wpAny_newFunctionEnv S.zU (by intro y hy;simp at hy) (fun h1 hns hsb=>?_) S.kind);dsimp only at hns hsb ⊢;generalize hH:s.heap.push {cls:=.type "list",dict:=none,data:=.seq ([]:List Value).toArray }=hp at hns hsb ⊢;have sC:hp.objs.size=s.heap.objs.size+1:=by rw[<- hH,Heap.size_push]
 have hDC:s.heap.objs.size≠hp.objs.size:=by omega
 have kp:∀b o,s.heap.get? b=some o->h1.get? b=some o:=fun b o e=>by
  have l:=Heap.lt_size e;exact hsb.extBut b o (Nat.ne_of_lt (by rw[sC];exact Nat.lt_succ_of_lt l)) (Heap.get?_push_of_some _ (hH ▸ Heap.get?_push_of_some _ e))
 have hD1:h1.get? s.heap.objs.size=some {cls:=.type "list",data:=.seq ([]:List Value).toArray }:=hsb.extBut _ _ hDC (Heap.get?_push_of_some _ (hH ▸ Heap.get?_push_size _ rfl));have OQ:∀b∈fp,b<s.heap.objs.size:=fun b hb=>let⟨o,e,_⟩:=T.obj 0 _ st b hb;Heap.lt_size e;generalize hCC:hp.objs.size=C at *;generalize hDD:s.heap.objs.size=D at *;have I1:∀t,Inv (qh X sc N cl C s H fp) [(D,{cls:=.type "list",data:=.seq ([]:List Value).toArray })] (yU own fr U) H {s with heap:=h1,toks:=t }:=fun t=>
  IY S I hfp (fun b hb=>let⟨o,e,_⟩:=T.obj 0 _ st b hb;⟨o,e⟩) kp (by omega) hns (by omega) hDC hD1 (by intro v z;cases z)
 have st1:tn 0 h1:=T.keep 0 _ _ st fun b hb o e=>kp b o e;have fpo:∀{H':Hp}{s':Shared}{τ:St}{pl:List (Addr×Obj)} {od:Obj},Inv (qh X sc N cl C s H fp) pl τ H' s'->(∀p∈pl,p.1=D)->(∀b∈fp,H' b=none)->∀b∈fp,tH (qh X sc N cl C s H fp) pl H' b:=fun{H' s' τ pl od} B hpl hn b hb=>by
  have q:=OQ b hb;refine⟨hn b hb,(B.ok.XD b hb).1,B.ok.Cg b hb,.inl hb,(B.ok.XD b hb).2,fun p hp=>?_⟩;have hp:p∈pl:=by simpa using hp
  rw[hpl p hp];exact(Nat.ne_of_lt q).symm
 have loop:∀t,codeAny (model X.prog X.w) X.A (.compLoop (.ListComp elt [⟨tg,iter,cs,0⟩] sc pos) 0 (.ref it) (.ref D) (compEnvC sc cl C X.env)) (RR (.ref D) C) {s with heap:=h1,toks:=t }:=by
  intro t;obtain⟨m0,w0⟩:=w0;refine IU (fun n s'=>∃i ys AC k H',Inv (qh X sc N cl C s H fp) [(D,{cls:=.type "list",data:=.seq (List.toArray AC) k })] (yU own fr U) H' s'/\tn i s'.heap/\(∀b∈fp,H' b=none)/\Vals ys AC/\ys.length<=sizeLine/\W i n ys H') ?_ m0
   ⟨0,[],[],_,H,I1 t,st1,fun b hb=>(hfp b hb).1,.nil,Nat.zero_le _,w0⟩
  rintro n s2 ⟨i,ys,AC,k,H2,B2,st2,YK,rv,hz,w2⟩;have pD:=B2.pin (D,{cls:=.type "list",data:=.seq (List.toArray AC) k }) (List.mem_append_right _ (List.mem_singleton.mpr rfl));rcases walk i n ys H2 w2 with⟨stop,rr⟩ | ⟨go,nx,hnx,tk⟩
  .refine wpAny_mono (T.done (qh X sc N cl C s H fp) rfl rfl rfl hc i _ s2 _ H2 iV B2 (fpo (od:=default) B2 (by simp) YK) st2 stop) (fun r s3 ⟨hr,B3⟩=>?_) fun _ _ z=>z;subst hr;obtain⟨m3,n3,_⟩:=B3.loc;have pD3:=B3.pin (D,{cls:=.type "list",data:=.seq (List.toArray AC) k }) (List.mem_append_right _ (List.mem_singleton.mpr rfl));refine fin D C H2 ys s3 m3 n3 pD3.2.1 ?_ (IZ I hfp (by omega) (by omega) B3 pD3.2.1 pD3.1 rv hz) rr;exact I.Cf (by omega) (by rw[aH (Ne.symm hDC)];exact B3.free)
  .refine wpAny_mono (T.item (qh X sc N cl C s H fp) rfl rfl rfl hc i _ s2 _ H2 iV B2 (fpo (od:=default) B2 (by simp) YK) st2 go) (fun r s3 ⟨u,hr,g3⟩=>?_) fun _ _ z=>z;subst hr;refine wpAny_mono g3 (fun _ s4 ⟨x,H4,B4,rx,y4,st4,fr4⟩=>?_) fun _ _ z=>z;have B5:=B4.pinned (fpo (od:=default) B4 (by simp) fr4) (T.obj _ _ st4);refine wpAny_mono (hg C s H _ s4 _ H4 x u _ B5 rx (tk x H4 y4)) (fun _ s5 ⟨σ5,H5,B6,ex,q5⟩=>?_) fun _ _ z=>z;refine wpAny_mono (ht C s H _ s5 σ5 H5 _ B6 q5) (fun b s6 ⟨H6,B7,q6⟩=>?_) fun _ _ z=>z;have back:∀{H':Hp}{s':Shared},Inv (qh X sc N cl C s H fp) ([(D,{cls:=.type "list",data:=.seq (List.toArray AC) k })]++vD fp s4.heap) σ5 H' s'->tn (i+1) s'.heap/\∀b∈fp,H' b=none:=fun{H' s'} B=>by
    refine⟨T.keep _ _ _ st4 fun b hb o e=>(B.pin (b,o) (List.mem_append_right _ (List.mem_append_right _ (jT hb e)))).1,fun b hb=>?_⟩;obtain⟨o,e,_⟩:=T.obj _ _ st4 b hb;exact(B.pin (b,o) (List.mem_append_right _ (List.mem_append_right _ (jT hb e)))).2.1
   cases b with
   |false=>
    obtain⟨m',hm,w'⟩:=hnx _ _ q6;obtain⟨t7,f7⟩:=back B7;exact⟨m',hm,i+1,ys,AC,k,H6,(B7.oV).weak ex.1.symm ex.2,t7,f7,rv,hz,w'⟩
   |true=>
    refine wpAny_mono (he C s H _ s6 σ5 H6 _ B7 q6) (fun x7 s7 ⟨v7,H7,B8,r7,hz7,q7⟩=>?_) fun _ _ z=>z;obtain⟨m',hm,w'⟩:=hnx _ _ q7;obtain⟨t8,f8⟩:=back B8;have Wo:=B8.pin (D,{cls:=.type "list",data:=.seq (List.toArray AC) k }) (List.mem_append_right _ (List.mem_append_left _ (List.mem_singleton.mpr rfl)));have lz:AC.length=ys.length:=rv.length.symm;refine call_meets F.slot_list_append ⟨_,Wo.1,rfl⟩ F.entry_list_append (F.args_list_append_2 _ _) (PySem.list_append D AC.toArray k x7 (by rw[List.size_toArray];omega)) ⟨Wo.1,?_⟩;have q:=PySem.IsL.update Wo.1 (·.push x7);have eo:AC.toArray.push x7=(AC++[x7]).toArray:=by simp
    have B9:Inv (qh X sc N cl C s H fp) [] (yU own fr U) H7 {s7 with heap:=s7.heap.update D (Obj.mapSeq (·.push x7)) }:=
     Inv.turned (t':=s7.toks) (((B8.LM (kg:=[]) (by intro p hp;simp at hp)).weak ex.1.symm ex.2)) (fun b o hb e=>(Heap.get?_update_other _ _ (Ne.symm hb)).trans e) Wo.2.1 hDC (.inr (by show s.heap.objs.size<=D;omega)) (fun y c e z=>by
      have:=B8.cell y c e;obtain⟨v,o,TY,h2'⟩:=this;have TY:s7.heap.get? c=some o:=TY;rw[z,Wo.1] at TY;cases TY;cases h2') (by intro p hp;simp at hp)
    have B10:∀o',(s7.heap.update D (Obj.mapSeq (·.push x7))).get? D=some o'->(∀v,o'.data≠.cell v)->Inv (qh X sc N cl C s H fp) [(D,o')] (yU own fr U) H7 {s7 with heap:=s7.heap.update D (Obj.mapSeq (·.push x7)) }:=fun o' e1 e2=>
     Inv.uv B9 fun p hp=>by
      have hp:p=(D,o'):=by simpa using hp
      subst hp;exact⟨e1,Wo.2.1,hDC,Wo.2.2.2.1,e2⟩
    rw[eo] at q;refine⟨m',hm,i+1,ys++[v7],AC++[x7],_,H7,B10 _ q (by intro v z;cases z),T.keep _ _ _ t8 fun b hb o e=>(Heap.get?_update_other _ _ (Nat.ne_of_gt (OQ b hb))).trans e,f8,rv.append (.cons r7 .nil),by rw[List.length_append,List.length_singleton];omega,w'⟩
 exact codeAny_compStart_list (loop _) (T.self _ 0 _ _ _ st1 (loop _))
noncomputable def Fz (own:Nat)(fr:List Nat)(wi:TI)(g:TG)(tt:TT)(te:TE):TE:=fun U H Q=>wi U H fun J H1=>∃W:Nat->Nat->List V->Hp->Prop,(∃m,W 0 m [] H1)/\
 NV J g tt te (yU own fr U) W fun ys H2=>∀p,H2 p=none->Q (.ref p) (upd H2 p (.lst ys))
theorem Qc {elt tg iter:Expr}{cs:List Expr}{pos:Pos}{wi:TI}{g:TG}{tt:TT}{te:TE}(S:lS X sc cl own N fr)(hc:X.calm=true)(hi:PI X tg iter wi)(hg:∀C s H fp,PG (qh X sc N cl C s H fp) tg g)
  (ht:∀C s H fp,YU (qh X sc N cl C s H fp) cs tt) (he:∀C s H fp,PE (qh X sc N cl C s H fp) elt te) (hs:autoParam (∀x,foldedSetIterable iter X.env x=pure x) jp) :
  PE X (.ListComp elt [⟨tg,iter,cs,0⟩] sc pos) (Fz own fr wi g tt te):=by
 intro vy s U H Q I h;rw[eval_ListComp];refine wpAny_comprehension_free (use:=none) rfl hs S.clos S.kind S.names (bA (hi vy s U H _ I h) fun v s1 h1=>bA h1 fun itv s2 h2=>?_);obtain⟨it,fp,tn,J,H2,e,I2,T,st2,f2,W,w0,walk⟩:=h2;subst e;refine yw (RR:=fun acc C=>compPost (model X.prog X.w) X.A X.xe none (EP X vy U Q) acc C) S hc I2 T st2 f2 (fun C s H=>hg C s H fp) (fun C s H=>ht C s H fp) (fun C s H=>he C s H fp) w0 walk ?_;intro D C H' ys s' m hn hD fC I' rr;obtain⟨f0,f1,f2',f3,f4,f5⟩:=fC;exact⟨m,hn,fun h' hs'=>⟨.ref D,_,Inv.turned (t':=s'.toks) I' (fun b o hb e=>hs'.extBut b o hb e) f0 f1 f3 f4 f5,rfl,rr D hD⟩⟩
theorem Gg {elt tg iter:Expr}{cs:List Expr}{pos spos py:Pos}{wi:TI}{g:TG}{tt:TT}{te:TE}{i:Nat}{y:Str}(hN:X.N.Nodup)(hiy:X.N[i]?=some y)(hy:Loc X.env.scope y)(S:lS X sc cl own N fr)(hc:X.calm=true)(hi:PI X tg iter wi)
  (hg:∀C s H fp,PG (qh X sc N cl C s H fp) tg g) (ht:∀C s H fp,YU (qh X sc N cl C s H fp) cs tt) (he:∀C s H fp,PE (qh X sc N cl C s H fp) elt te)
  (hsw:autoParam (swapsWith (.ListComp elt [⟨tg,iter,cs,0⟩] sc pos) (some (.Name y py)) spos.line X.env=pure true) zi) (hs:autoParam (∀x,foldedSetIterable iter X.env x=pure x) jp)
  (hf:autoParam (X.fn y=true∨X.env.scope.names.lookup y=some .local) zr) :
  PS X (.Assign [.Name y py] (.ListComp elt [⟨tg,iter,cs,0⟩] sc pos) spos) (ON (Fz own fr wi g tt te) (GK i)):=by
 intro vy s U H D0 I h;rw[exec_Assign_Name_used _ _ _ _ hsw];refine wpAny_bind (wpAny_standAt (wpAny_bind ?_));show wpAny _ X.A (do let _ <- comprehension (.ListComp elt [⟨tg,iter,cs,0⟩] sc pos) sc X.env _ (newList []) false (eval iter X.env) (some (assign (.Name y py) X.env))) _ _ s;refine wpAny_bind (bA (wpAny_comprehension_free (use:=some (assign (.Name y py) X.env)) (Q:=fun _ s'=>SP X vy D0 .next s') rfl hs S.clos S.kind S.names
  (bA (hi vy s U H _ I h) fun v s1 h1=>bA h1 fun itv s2 h2=>?_)) fun _ s' hq=>wpAny_pure (wpAny_pure hq))
 obtain⟨it,fp,tn,J,H2,e,I2,T,st2,f2,W,w0,walk⟩:=h2;subst e;refine yw (RR:=fun acc C=>compPost (model X.prog X.w) X.A X.xe (some (assign (.Name y py) X.env)) (fun _ s'=>SP X vy D0 .next s') acc C) S hc I2 T st2 f2 (fun C s H=>hg C s H fp) (fun C s H=>ht C s H fp) (fun C s H=>he C s H fp) w0 walk ?_;intro D C H' ys s' m hn hD fC I' rr;obtain⟨f0,f1,f2',f3,f4,f5⟩:=fC;show wpAny _ X.A (assign (.Name y py) X.env (.ref D)) _ _ _;refine wpAny_assign_Name (xX I' hN hiy hy (v:=.ref D) rfl (fun s2 I2 ⟨a,sb,ha⟩=>?_) hf);have aC:C≠a:=by
  rcases ha with z | z
  .rw[z];exact f1
  .exact fun q=>f4 y a z q.symm
 exact⟨m,hn.sameBut sb aC,fun h' hs'=>⟨_,_,Inv.turned (t':=s2.toks) I2 (fun b o hb e=>hs'.extBut b o hb e) f0 f1 f3 f4 f5,rr D hD⟩⟩
end
noncomputable def a5C (K:PySem.W.Frag)(tl:TE):TI:=fun U H R=>tl U H fun x H1=>∃a,x=.ref a/\(((∃xs,jx K H1 a xs)/\R (Itl K a) H1)∨((∃xs,lM K H1 a xs)/\R (Itt K a) H1))
theorem Wb {X:Cx}{tg l:Expr}{tl:TE}(hl:PE X l tl):PI X tg l (a5C X.K tl):=by
 intro vy s U H R I h;refine bA (hl vy s U H _ I h) ?_;rintro v s1 ⟨x,H1,I1,r1,q1⟩;obtain⟨a,e,q⟩:=q1;subst e;cases r1;have fo:∀b∈[s1.heap.objs.size],tH X vy H1 b:=fun b hb=>by
  have e:b=s1.heap.objs.size:=by simpa using hb
  subst e;exact I1.Cf (Nat.le_refl _) (I1.hok.fresh (Nat.le_refl _))
 rcases q with⟨⟨xs,hq⟩,q⟩ | ⟨⟨xs,hq⟩,q⟩
 .obtain⟨AC,rv,p,hz⟩:=I1.list hq;refine wpAny_pyIter_list p.isList ?_;exact⟨s1.heap.objs.size,[s1.heap.objs.size],_,_,H1,rfl,I1.kept (t':=s1.toks) fun b o e=>Heap.get?_push_of_some _ e,Hx a _,⟨_,Heap.get?_push_size _ rfl,rfl,rfl⟩,fo,q⟩
 .obtain⟨AC,rv,p,hz⟩:=I1.tuple hq;refine wpAny_pyIter_tuple (show s1.heap.IsTuple a AC.toArray from p) ?_;exact⟨s1.heap.objs.size,[s1.heap.objs.size],_,_,H1,rfl,I1.kept (t':=s1.toks) fun b o e=>Heap.get?_push_of_some _ e,Dk a _,⟨_,Heap.get?_push_size _ rfl,rfl,rfl⟩,fo,q⟩
end L2
namespace Hw
open PySem PySem.Spec
noncomputable def lt (a b:Str):Bool:=ltCps a.cps.toList b.cps.toList
theorem Uj:∀a:List Nat,ltCps a a=false
 |[]=>rfl
 |x::r=>by simp[ltCps,Uj r]
theorem Hg:∀a b c:List Nat,ltCps a b=true->ltCps b c=true->ltCps a c=true
 |[],[],_,h,_=>by simp[ltCps] at h
 |[],_::_,[],_,h=>by simp[ltCps] at h
 |[],_::_,_::_,_,_=>rfl
 |_::_,[],_,h,_=>by simp[ltCps] at h
 |_::_,_::_,[],_,h=>by simp[ltCps] at h
 |x::a,y::b,z::c,h,g=>by
  simp only[ltCps,Bool.or_eq_true,Bool.and_eq_true,decide_eq_true_eq,beq_iff_eq] at h g ⊢;rcases h with h | ⟨h,h'⟩<;>rcases g with g | ⟨g,g'⟩
  .left;omega
  .left;omega
  .left;omega
  .right;exact⟨by omega,Hg a b c h' g'⟩
theorem Ui:∀a b:List Nat,ltCps a b=true∨a=b∨ltCps b a=true
 |[],[]=>.inr (.inl rfl)
 |[],_::_=>.inl rfl
 |_::_,[]=>.inr (.inr rfl)
 |x::a,y::b=>by
  simp only[ltCps,Bool.or_eq_true,Bool.and_eq_true,decide_eq_true_eq,beq_iff_eq,List.cons.injEq];rcases Nat.lt_trichotomy x y with h | h | h
  .exact .inl (.inl h)
  .rcases Ui a b with g | g | g
   .exact .inl (.inr ⟨h,g⟩)
   .exact .inr (.inl ⟨h,g⟩)
   .exact .inr (.inr (.inr ⟨h.symm,g⟩))
  .exact .inr (.inr (.inl h))
theorem vO (a:Str):lt a a=false:=Uj _
theorem lt_trans {a b c:Str}:lt a b=true->lt b c=true->lt a c=true:=Hg _ _ _
theorem zY (a b:Str):lt a b=true∨a=b∨lt b a=true:=by
 rcases Ui a.cps.toList b.cps.toList with h | h | h
 .exact .inl h
 .refine .inr (.inl ?_);obtain⟨⟨x⟩⟩:=a;obtain⟨⟨y⟩⟩:=b;have h:x=y:=h;rw[h]
 .exact .inr (.inr h)
theorem not_lt_trans {a b c:Str}(h:lt b a=false)(g:lt c b=false):lt c a=false:=by
 rcases zY c a with e | e | e
 .rcases zY b a with k | k | k
  .rw[h] at k;cases k
  .rw[k] at g;rw[g] at e;cases e
  .rw[lt_trans e k] at g;cases g
 .rw[e];exact vO a
 .cases q:lt c a with
  |false=>rfl
  |true=>have:=lt_trans e q;rw[vO] at this;cases this
end Hw
namespace L2
open PySem PySem.Spec PyProof.Rows
section
variable {X:Cx}
theorem rT:∀(p:Str)(l:List Str),risingS p l=true->(p::l).Pairwise fun a b=>Hw.lt b a=false
 |p,[],_=>by simp
 |p,x::r,h=>by
  have h:(!ltCps x.cps.toList p.cps.toList&&risingS x r)=true:=h;rw[Bool.and_eq_true,Bool.not_eq_true'] at h;have ih:=rT x r h.2;refine List.pairwise_cons.mpr ⟨fun y hy=>?_,ih⟩;rcases List.mem_cons.mp hy with rfl | hy
  .exact h.1
  .exact Hw.not_lt_trans h.1 ((List.pairwise_cons.mp ih).1 y hy)
theorem y9:∀(l:List Str),sortedS l=true->l.Pairwise fun a b=>Hw.lt b a=false
 |[],_=>.nil
 |x::r,h=>rT x r h
theorem uR:∀{ss:List Str}{us:List Value},StrsAre us ss->Vals (ss.map V.str) us
 |_,_,.nil=>.nil
 |_,_,.cons x t h=>.cons ⟨t,rfl⟩ (uR h)
theorem r6:∀{ss:List Str}{us:List Value},Vals (ss.map V.str) us->StrsAre us ss:=by
 intro ss
 induction ss with
 |nil=>intro us r;rw[List.map_nil] at r;cases r;exact .nil
 |cons x ss ih=>
  intro us r;rw[List.map_cons] at r;cases r with
  |cons r1 r2=>
   obtain⟨t,e⟩:=r1;subst e;exact .cons x t (ih r2)
theorem rQ:∀{xs:List V}{us:List Value},xs.length=us.length->(∀(i:Nat) x,xs[i]?=some x->∃u,us[i]?=some u/\RelV x u)->Vals xs us
 |[],[],_,_=>.nil
 |[],_::_,h,_=>by simp at h
 |_::_,[],h,_=>by simp at h
 |x::xs,u::us,h,g=>by
  obtain⟨v,e,r⟩:=g 0 x rfl;cases e;exact .cons r (rQ (by simpa using h) fun i y hy=>g (i+1) y hy)
theorem bF.here {P:Program}{w:World}{H:Hp}{h:Heap}{a:Addr}{o:HO}(x:bF P w H h a o):∃u,h.get? a=some u:=by
 cases o with
 |lst xs=>obtain⟨_,_,_,_,e⟩:=x;exact⟨_,e⟩
 |tup xs=>obtain⟨_,_,_,o,e,_⟩:=x;exact⟨_,e⟩
 |dK kvs=>obtain⟨_,_,_,_,o,_,_,e,_⟩:=x;exact⟨_,e⟩
 |dT kvs=>obtain⟨_,_,_,_,o,_,_,e,_⟩:=x;exact⟨_,e⟩
 |set S n=>obtain⟨o,_,_,_,e,_⟩:=x;exact⟨_,e⟩
 |ins C dx fs=>obtain⟨_,_,_,e,_⟩:=x;exact⟨_,e⟩
 |own y=>obtain⟨_,e⟩:=x;exact⟨_,e⟩
 |xd fs=>obtain⟨_,⟨_,_,_,e,_⟩,_⟩:=x;exact⟨_,e⟩
 |rng lo hi=>obtain⟨_,_,_,e⟩:=x;exact⟨_,e⟩
 |rq ob u=>obtain⟨e,_⟩:=x;exact⟨_,e⟩
 |Sn ps=>exact⟨_,(show h.get? a=some _ from x)⟩
 |met f y=>exact⟨_,(show h.get? a=some _ from x)⟩
 |ext φ=>obtain⟨_,⟨_,e⟩,_⟩:=x;exact⟨_,e⟩
theorem Inv.a1n {vy:List (Addr×Obj)}{U:St}{H:Hp}{s:Shared}{h':Heap}{a:Addr}{o:HO}{t':Nat}(I:Inv X vy U H s)(k:∀b u,s.heap.get? b=some u->h'.get? b=some u)(hp:∀b u,s.heap.get? b=some u->b≠a)(new:bF X.prog X.w (upd H a o) h' a o) :
  H a=none/\Inv X vy U (upd H a o) {s with heap:=h',toks:=t' }:=by
 have hn:H a=none:=by
  cases q:H a with
  |none=>rfl
  |some u=>obtain⟨v,e⟩:=(I.hok a u q).here;exact absurd rfl (hp a v e)
 refine⟨hn,I.un ⟨fun b u e _ _ _=>k b u e,fun b u e _ _ _=>⟨u.slots,k b u e⟩,fun b u e n _=>by rw[aH (hp b u e)];exact n,fun b u e _=>⟨u,k b u e⟩,fun b xs e=>by rw[aH (aR e hn)];exact e,fun b u xs e=>by rw[aH (aR e hn)];exact e,fun b ps e=>⟨#[],by rw[aH (aR e hn),e];simp⟩⟩ fun b u e=>?_⟩;by_cases hb:b=a
 .subst hb;rw[cS] at e;cases e;exact new
 .rw[aH hb] at e;exact(I.hok b u e).stay (fun c v _ q=>k c v q) (fun c q=>by rw[aH (aR q hn)];exact q) fun c xs q=>by rw[aH (aR q hn)];exact q
theorem Av (hc:X.calm=true):eS X (.builtin "sorted") (fun xs H Q=>∃p kvs ss,xs=[.ref p]/\H p=some (.dK kvs)/\kvs.map (·.1)=List.map (Sum.inr:Str->Key) ss/\kvs.length<64/\
  ∀l ys,H l=none->List.Perm ys ss->ys.Pairwise (fun a b=>Hw.lt b a=false)->Q (.ref l) (upd H l (.lst (ys.map V.str)))):=by
 intro vy s U H xs us Q I r h;obtain⟨p,kvs,ss,rfl,hp,hk,h64,q⟩:=h;obtain⟨u,rfl,ru⟩:=vals1 r;cases ru;obtain⟨hz,lo,vs,rel,dd⟩:=qe I.hok (.inl hp);obtain⟨ep,hat⟩:=dd.dictAt;have hlv:=rel.length;refine Calls.call_function_entry kind_sorted plain_sorted entry_sorted (args_sorted1 _) ?_;unfold Builtin.«sorted»;refine wpAny_bind (m:=checkCount "sorted" 1 1 _) (wpAny_pure (wpAny_bind (PySem.W.kdu_collect (A:=X.A.in1) (PySem.W.kdl_dict (knd:=bJ X.prog X.w) (kvs:=vs) (ep:=ep) lo) (I.ok.hd hc) hat (by rw[<- hlv];exact hz) fun h' tk acc kp hacc=>?_)));have hS:StrsAre acc.toList ss:=by
  refine r6 (rQ ?_ fun i x hx=>?_)
  .have:(kvs.map (·.1)).length=(List.map (Sum.inr:Str->Key) ss).length:=by rw[hk]
   rw[List.length_map,List.length_map] at this;have el:acc.toList.length=kvs.length:=by rw[Array.length_toList,hacc.1,<- hlv]
   rw[List.length_map,el,this]
  .rw[List.getElem?_map] at hx;cases e:ss[i]? with
   |none=>rw[e] at hx;cases hx
   |some y=>
    rw[e] at hx;cases hx;have hi:i<acc.size:=by
     have h1:i<ss.length:=(List.getElem?_eq_some_iff.mp e).1;have:(kvs.map (·.1)).length=(List.map (Sum.inr:Str->Key) ss).length:=by rw[hk]
     rw[List.length_map,List.length_map] at this;rw[hacc.1];omega
    obtain⟨k,x,hv,hkk⟩:=hacc.2 i acc[i] (by simp);have ek:(vs.map (·.1))[i]?=some (Sum.inr y):=by rw[<- rel.keys,hk,List.getElem?_map,e];rfl
    rw[List.getElem?_map,hv] at ek;have ek:k=Sum.inr y:=Option.some.inj ek;subst ek;rcases bN (show vR (Sum.inr y) acc[i]=true from hkk) with⟨_,_,z,_⟩ | ⟨z,t,z1,z2⟩
    .cases z
    .cases z1;exact⟨acc[i],by simp,t,z2⟩
 have hla:acc.toList.length<64:=by rw[Array.length_toList,hacc.1,<- hlv];exact h64
 refine wpAny_bind (wpAny_newList ?_ (by
   have:64<=sizeLine:=by rw[sizeLine_eq];decide
   omega))
 have ho:(h'.push (seqObj "list" acc.toList.toArray 0)).get? h'.objs.size=some (seqObj "list" acc.toList.toArray 0):=Heap.get?_push_size _ rfl;refine wpAny_bind (wpAny_holding (wpAny_call_entry slot_list_sort ⟨_,ho,rfl⟩ entry_list_sort (list_sort_treeK (s:={s with heap:=h'.push (seqObj "list" acc.toList.toArray 0),toks:=tk }) strKind_oneLt ho hS.keysOf (fun v1 v2 rest e=>keyKind_strs (by rw[<- e];exact hS)) hla fun st' a1 a2=>⟨_,rfl,?_⟩) (args_list_sort _)));obtain⟨ss',b1,b2,b3⟩:=sorted_out_str hS a1 a2;obtain⟨e,he⟩:=sortedHeap_at (out:=(arrOf st').map (·.2)) ho;have hss:(ss'.map V.str).length<=sizeLine:=by
  have h1:64<=sizeLine:=by rw[sizeLine_eq];decide
  have h2:(ss'.map V.str).length=acc.toList.length:=by rw[List.length_map,b2.length_eq,<- StrsAre.length hS]
  rw[h2];exact Nat.le_trans (Nat.le_of_lt hla) h1
 have L:=I.a1n (h':=sortedHeap (h'.push (seqObj "list" acc.toList.toArray 0)) h'.objs.size acc.toList ((arrOf st').map (·.2))) (a:=h'.objs.size) (o:=.lst (ss'.map V.str)) (t':=tk)
  (fun b u q=>by
   have l:=Heap.lt_size (kp b u q);rw[sortedHeap_old (Nat.ne_of_lt l) (by rw[Heap.size_push];exact Nat.lt_succ_of_lt l)];exact Heap.get?_push_of_some _ (kp b u q))
  (fun b u q=>Nat.ne_of_lt (Heap.lt_size (kp b u q)))
  ⟨hss,((arrOf st').map (·.2)).toList,e,uR b1,by rw[Array.toArray_toList];exact he⟩
 exact wpAny_pure ⟨_,rfl,.ref h'.objs.size,_,L.2,rfl,q _ ss' L.1 b2 (y9 _ b3)⟩
def ER (K:PySem.W.Frag)(H:Hp):Nat->V->V->Prop
 |0,x,y=>eN x=true/\x=y
 |n+1,x,y=>(eN x=true/\x=y)∨∃a b xs ys,x=.ref a/\y=.ref b/\((jx K H a xs/\jx K H b ys)∨(lM K H a xs/\lM K H b ys))/\Paired (ER K H n) xs ys
theorem wz {x:V}(h:eN x=true):yt x x=true:=by
 cases x with
 |cR=>rfl
 |bl b=>simp[yt]
 |int i=>simp[yt]
 |str z=>simp[yt]
 |sn z=>simp[yt]
 |_=>cases h
theorem By {F:V->V->Prop}:∀{xs ys:List V},Paired F xs ys->∀{i:Nat}{x y:V},xs[i]?=some x->ys[i]?=some y->F x y
 |_,_,.nil,_,_,_,e,_=>by simp at e
 |_,_,.cons r t,0,_,_,e,e'=>by simp at e e';rw[<- e,<- e'];exact r
 |_,_,.cons r t,i+1,_,_,e,e'=>By t (by simpa using e) (by simpa using e')
theorem fX {K:PySem.W.Frag}{n:Nat}{H:Hp}{A:Around}{s:Shared}{xs ys:List V}{us vs:List Value}(p:Paired (ER K H n) xs ys)(r:Vals xs us)(r':Vals ys vs)
  (ih:∀x y u v,RelV x u->RelV y v->ER K H n x y->SeqAt.EqAt A s u v true):∀(j:Nat)(h1:j<us.toArray.size)(h2:j<vs.toArray.size),SeqAt.EqAt A s us.toArray[j] vs.toArray[j] true:=by
 intro j h1 h2;have l1:=r.length;have l2:=r'.length;simp only[List.size_toArray] at h1 h2;have e1:xs[j]?=some xs[j]:=List.getElem?_eq_getElem (by omega);have e2:ys[j]?=some ys[j]:=List.getElem?_eq_getElem (by omega);obtain⟨u,hu,ru⟩:=r.get e1;obtain⟨v,hv,rv⟩:=r'.get e2;have hu':us.toArray[j]=u:=by
  rw[List.getElem?_eq_getElem h1] at hu;simpa using hu
 have hv':vs.toArray[j]=v:=by
  rw[List.getElem?_eq_getElem h2] at hv;simpa using hv
 rw[hu',hv'];exact ih _ _ u v ru rv (By p e1 e2)
theorem lH (n:Nat):((List.range n).all fun _=>true)=true:=by rw[List.all_eq_true];intro _ _;rfl
theorem like_eq {vy:List (Addr×Obj)}{U:St}{H:Hp}{s:Shared}(I:Inv X vy U H s):∀(n:Nat)(A:Around),A.units+n<cLine->∀x y u v,RelV x u->RelV y v->ER X.K H n x y->SeqAt.EqAt A s u v true:=by
 intro n;have flat:∀(A:Around)(x y:V)(u v:Value),RelV x u->RelV y v->eN x=true/\x=y->SeqAt.EqAt A s u v true:=by
  rintro A x y u v ru rv ⟨f,rfl⟩;have:=Er (A:=A) (s:=s) ru rv f f;rw[wz f] at this;exact this
 induction n with
 |zero=>intro A hu x y u v ru rv h;exact flat A x y u v ru rv h
 |succ n ih=>
  intro A hu x y u v ru rv h;rcases h with h | ⟨a,b,xs,ys,rfl,rfl,h,p⟩
  .exact flat A x y u v ru rv h
  .cases ru;cases rv;have ih':=ih A.in1 (by show A.units+1+n<cLine;omega);by_cases hab:a=b
   .subst hab;exact SeqAt.EqAt.same _
   .refine .of_refs hab ?_;have lp:xs.length=ys.length:=Paired.length p;rcases h with⟨ha,hb⟩ | ⟨ha,hb⟩
    .obtain⟨us,r1,p1,_⟩:=I.list ha;obtain⟨vs,r2,p2,_⟩:=I.list hb;have l1:=r1.length;have l2:=r2.length;have:=SeqAt.RcAt.lists (A:=A) (e:=fun _=>true) p1.isList p2.isList (by simp only[List.size_toArray];omega) (by omega) (fX p r1 r2 ih');rw[lH] at this;exact this
    .obtain⟨us,r1,p1,_⟩:=I.tuple ha;obtain⟨vs,r2,p2,_⟩:=I.tuple hb;have l1:=r1.length;have l2:=r2.length;have:=SeqAt.RcAt.tuples (A:=A) (e:=fun _=>true) (show s.heap.IsTuple a us.toArray from p1) (show s.heap.IsTuple b vs.toArray from p2) (by omega) (fX p r1 r2 ih');have e:(us.toArray.size==vs.toArray.size)=true:=by simp only[List.size_toArray,beq_iff_eq];omega
     rw[lH,e] at this;exact this
noncomputable def S6 (K:PySem.W.Frag)(n:Nat)(k:Bool):R2:=fun x y H Q=>∃a b xs ys,x=.ref a/\y=.ref b/\((jx K H a xs/\jx K H b ys)∨(lM K H a xs/\lM K H b ys))/\Paired (ER K H n) xs ys/\Q (.bl k) H
theorem Ww (n:Nat)(hu:X.A.units+1+n<cLine):iR X (compareOp .Eq) (S6 X.K n true):=by
 intro vy s U H x y v u Q I rx ry h;obtain⟨a,b,xs,ys,rfl,rfl,h,p,q⟩:=h;cases rx;cases ry;have ih':=like_eq I n X.A.in1 (by show X.A.units+1+n<cLine;omega);have lp:xs.length=ys.length:=Paired.length p;have fin:EP X vy U Q (.bool true) s:=⟨.bl true,H,I,rfl,q⟩
 rcases h with⟨ha,hb⟩ | ⟨ha,hb⟩
 .obtain⟨us,r1,p1,_⟩:=I.list ha;obtain⟨vs,r2,p2,_⟩:=I.list hb;have l1:=r1.length;have l2:=r2.length;exact SeqAt.eq_listAt (e:=fun _=>true) p1.isList p2.isList (by simp only[List.size_toArray];omega) (by omega) (fX p r1 r2 ih') (by rw[lH];exact fin)
 .obtain⟨us,r1,p1,_⟩:=I.tuple ha;obtain⟨vs,r2,p2,_⟩:=I.tuple hb;have l1:=r1.length;have l2:=r2.length;have e:(us.toArray.size==vs.toArray.size)=true:=by simp only[List.size_toArray,beq_iff_eq];omega
  exact SeqAt.eq_tupleAt (e:=fun _=>true) (show s.heap.IsTuple a us.toArray from p1) (show s.heap.IsTuple b vs.toArray from p2) (by omega) (fX p r1 r2 ih') (by rw[lH,e];exact fin)
theorem Wt (n:Nat)(hu:X.A.units+1+n<cLine):iR X (compareOp .NotEq) (S6 X.K n false):=by
 intro vy s U H x y v u Q I rx ry h;obtain⟨a,b,xs,ys,rfl,rfl,h,p,q⟩:=h;cases rx;cases ry;have ih':=like_eq I n X.A.in1 (by show X.A.units+1+n<cLine;omega);have lp:xs.length=ys.length:=Paired.length p;have fin:EP X vy U Q (.bool false) s:=⟨.bl false,H,I,rfl,q⟩
 rcases h with⟨ha,hb⟩ | ⟨ha,hb⟩
 .obtain⟨us,r1,p1,_⟩:=I.list ha;obtain⟨vs,r2,p2,_⟩:=I.list hb;have l1:=r1.length;have l2:=r2.length;exact SeqAt.RcNeAt.lists (A:=X.A) (e:=fun _=>true) p1.isList p2.isList (by simp only[List.size_toArray];omega) (by omega) (fX p r1 r2 ih') _ _ _ _ (by rw[lH];exact fin)
 .obtain⟨us,r1,p1,_⟩:=I.tuple ha;obtain⟨vs,r2,p2,_⟩:=I.tuple hb;have l1:=r1.length;have l2:=r2.length;have e:(us.toArray.size==vs.toArray.size)=true:=by simp only[List.size_toArray,beq_iff_eq];omega
  exact SeqAt.RcNeAt.tuples (A:=X.A) (e:=fun _=>true) (show s.heap.IsTuple a us.toArray from p1) (show s.heap.IsTuple b vs.toArray from p2) (by omega) (fX p r1 r2 ih') _ _ _ _ (by rw[lH,e];exact fin)
noncomputable def rJoin:V->List V->Hp->VK->Prop:=fun x vs H Q=>∃sep p ss,x=.str sep/\vs=[.ref p]/\H p=some (.lst (List.map V.str ss))/\(ss.map (·.length)).sum+ss.length*sep.length<=16777216/\Q (.str (Txt.join sep ss)) H
theorem QY:qH X "str.join" rJoin:=by
 intro vy s U H x vs v us Q I rx rv h;obtain⟨sep,p,ss,rfl,rfl,hp,hz,q⟩:=h;obtain⟨t,rfl⟩:=rx;obtain⟨u,rfl,ru⟩:=rv.one;cases ru;obtain⟨AC,r,pl,_⟩:=I.list (jx.of hp);exact join_list pl.isList (by simpa using r6 r) hz fun t' k=>⟨.str _,H,I.tok _,⟨_,rfl⟩,q⟩
noncomputable def a4O (K:PySem.W.Frag)(c:V):List V->Hp->VK->Prop:=fun vs H Q=>∃x t u b,vs=[x,c]/\rC K H x t/\RelV c u/\PySem.W.kitOne K t u=some b/\Q (.bl b) H
theorem RelV.a5z {c:V}{u u':Value}(hc:match c with | .ref _=>True | .ty _=>True | _=>False)(r:RelV c u)(r':RelV c u'):u=u':=by
 cases c with
 |ref a=>cases r;cases r';rfl
 |ty n=>cases r;cases r';rfl
 |_=>exact hc.elim
theorem NP {c:V}(hc:match c with | .ref _=>True | .ty _=>True | _=>False):eS X (.builtin "isinstance") (a4O X.K c):=by
 intro vy s U H xs us Q I r h;obtain⟨x,t,u,b,rfl,ty,rc,hb,q⟩:=h;obtain⟨w1,w2,rfl,rx,r2⟩:=vals2 r;rw[RelV.a5z hc r2 rc];exact IE I rx ty hb fun tk=>⟨.bl b,H,I.tok _,rfl,q⟩
noncomputable def a0s (K:PySem.W.Frag):R2:=fun x y H Q=>∃a b xs ys,x=.ref a/\y=.ref b/\lM K H a xs/\lM K H b ys/\xs.length+ys.length<=sizeLine/\
 (xs=[]->Q (.ref b) H)/\(xs≠[]->ys=[]->Q (.ref a) H)/\(xs≠[]->ys≠[]->∀p,H p=none->Q (.ref p) (upd H p (.tup (xs++ys))))
theorem Qh:iR X (binaryOp .Add) (a0s X.K):=by
 intro vy s U H x y v u Q I rx ry h;obtain⟨a,b,xs,ys,rfl,rfl,ha,hb,hz,q0,q1,q2⟩:=h;by_cases hx:xs=[]
 .cases rx;cases ry;obtain⟨AC,r1,p1,_⟩:=I.tuple ha;obtain⟨its2,r2,p2,_⟩:=I.tuple hb;obtain⟨⟨cls,dd,data,sl⟩,ho,hc,n,hd⟩:=id p1;obtain⟨⟨a6S,dd2,data2,sl2⟩,ho2,hc2,n2,hd2⟩:=id p2;simp only at hc hd hc2 hd2;subst hc hd hc2 hd2;have hi:AC=[]:=r1.c6.mpr hx;refine concat_meets ⟨_,ho,rfl⟩ ⟨_,ho2,rfl⟩ noFill_tuple_add seq_tuple_add PySem.F.slot_tuple_add PySem.F.entry_tuple_add (PySem.F.args_tuple_add_2 _ _)
   (tuple_addW0 a b AC.toArray its2.toArray n n2 dd dd2 sl sl2 (by simp[hi])) ⟨ho,ho2,?_⟩
  exact⟨.ref b,H,I,rfl,q0 hx⟩
 .exact Qi vy s U H _ _ v u Q I rx ry ⟨a,b,xs,ys,rfl,rfl,ha,hb,hx,hz,q1 hx,fun hy=>q2 hx hy⟩
noncomputable def a4N (K:PySem.W.Frag):R2:=fun x y H Q=>∃p xs k v,x=.ref p/\y=.int (k:Nat)/\jx K H p xs/\xs[k]?=some v/\Q v H
theorem Nc:a2X X (a4N X.K):=by
 intro vy s U H o i ov iv Q I ro ri h;obtain⟨p,xs,k,v,rfl,rfl,hq,he,q⟩:=h;cases ro;obtain⟨t,rfl⟩:=ri;obtain⟨AC,r,pl,hz⟩:=I.list hq;obtain⟨w,ew,rw'⟩:=r.get he;have hk:k<xs.length:=(List.getElem?_eq_some_iff.mp he).1;have hn:=k8;exact wpAny_getItem_list pl.isList (by omega) (by omega) (by simpa using ew) ⟨v,H,I,rw',q⟩
end
end L2
namespace Hw
open PySem L2
def Dn (P:Program)(w:World)(K:PySem.W.Frag)(mg:Str->Option Value)(base:Heap)(k:Nat)(x:Str)(ps:List Str)(sp:Sp):Prop:=
 ∃(f:Addr)(fd:FuncData),aL P w K mg base c5 k f fd ps sp/\mg x=some (.ref f)/\PySem.W.keepIn K (.ref f)=true/\Binds K fd ps []
def Mt (P:Program)(w:World)(K:PySem.W.Frag)(mg:Str->Option Value)(base:Heap)(k:Nat)(C:Addr)(m:Str)(ps:List Str)(sp:Sp):Prop:=
 ∃(f:Addr)(fd:FuncData),aL P w K mg base c5 k f fd ps sp/\Meth K C m f/\Binds K fd ps []
def Mr (P:Program)(w:World)(K:PySem.W.Frag)(mg:Str->Option Value)(base:Heap)(k:Nat)(C:Addr)(ps:List Str)(sp:Sp):Prop:=
 ∃(f:Addr)(fd:FuncData),aL P w K mg base c5 k f fd ps sp/\Mk K C f/\Binds K fd ps []
theorem line (n:Nat)(h:n<=100000):n<sizeLine:=by rw[sizeLine_eq];omega
theorem szl (n:Nat)(h:autoParam (n<=100000) zn):n<=sizeLine:=Nat.le_of_lt (line n h)
end Hw
namespace L2
open PySem PySem.Spec PyProof.Rows
section
variable {X:Cx}{K:PySem.W.Frag}
noncomputable def strsOf:List Expr->Option (List Str)
 |[]=>some []
 |.Constant (.str x) _ _::r=>(strsOf r).map (x::·)
 |_=>none
noncomputable def Fy (xs:List Str):TA:=fun _ H Q=>Q (xs.map V.str) H
theorem zP:∀{es:List Expr}{xs:List Str},strsOf es=some xs->PA X es (Fy xs)
 |[],xs,h=>by
  cases h;exact qW
 |e::r,xs,h=>by
  unfold strsOf at h;split at h
  .rename_i he;cases he
  .rename_i x j pos r' he;cases he;cases q:strsOf r with
   |none=>rw[q] at h;cases h
   |some ys=>
    rw[q] at h;cases h;have ih:=zP q;exact jS DQ ih rfl
  .cases h
noncomputable def r9:Expr->Option (List Str)
 |.List es _=>strsOf es
 |_=>none
theorem P5 {xs:List Str}:∀{e:Expr},r9 e=some xs->PE X e (HA (Fy xs)):=by
 intro e h;cases e<;>first|exact zO (zP h)|exact(Option.some_ne_none _ h.symm).elim
end
end L2
namespace Hw
open PySem L2
noncomputable def a1T:List Str:=["helper","answers","needs","gives","end","let","div","mod","put","row","at","if","else"]
noncomputable def a1S:List Str:=["while","holds","falls","call","claim","and","or","not"]
noncomputable def pZ:List Str:=a1T++a1S
noncomputable def FH (K:PySem.W.Frag):Sp:=fun vs H Q _=>∃(a:Addr)(ns:List Int),vs=[.ref a]/\jx K H a (ns.map V.int)/\ns.length<=63/\∀H',Q (.bl true) H'
end Hw
namespace L2
open PySem PySem.Spec PyProof.Rows
section
variable {X:Cx}{K:PySem.W.Frag}
noncomputable def a4G:V->Option Int->Option Int->Hp->VK->Prop:=fun x lo hi H Q=>∃z,x=.str z/\z.length<=sizeLine/\Q (.str (Txt.slice z lo hi)) H
theorem Vi:RU X a4G:=by
 intro vy s U H x v vl vu lo hi sl Q I rx hs pl pu h;obtain⟨z,rfl,hz,q⟩:=h;obtain⟨t,rfl⟩:=rx;have fin:(Txt.slice z lo hi).length<=sizeLine/\∀t' k,EP X vy U Q (.str (Txt.slice z lo hi) t') {s with toks:=k }:=⟨Nat.le_trans (Txt.slice_le z _ _) hz,fun t' k=>⟨.str _,H,I.tok _,⟨_,rfl⟩,q⟩⟩
 refine⟨"str",_,PySem.F.slot_str_getitem.lookup,typeIs_str _ _ _,?_⟩;cases pl with
 |none=>cases pu with
  |none=>exact wpAny_getItem_str_slice (l:=none) (u:=none) (st:=none) hs rfl (post_val_or_str fin)
  |int j t'=>exact wpAny_getItem_str_slice (l:=none) (u:=some (j,t')) (st:=none) hs rfl (post_val_or_str fin)
 |int i ti=>cases pu with
  |none=>exact wpAny_getItem_str_slice (l:=some (i,ti)) (u:=none) (st:=none) hs rfl (post_val_or_str fin)
  |int j t'=>exact wpAny_getItem_str_slice (l:=some (i,ti)) (u:=some (j,t')) (st:=none) hs rfl (post_val_or_str fin)
noncomputable def VI (K:PySem.W.Frag):R2:=fun x y H Q=>∃a b xs,x=.ref a/\y=.ref b/\lM K H a xs/\lM K H b []/\Q (.bl (decide (xs=[]))) H
theorem Mc (hu:X.A.units<cLine):iR X (compareOp .Eq) (VI X.K):=by
 intro vy s U H x y v u Q I rx ry h;obtain⟨a,b,xs,rfl,rfl,ha,hb,q⟩:=h;cases rx;cases ry;obtain⟨us,r1,p1,_⟩:=I.tuple ha;obtain⟨vs,r2,p2,_⟩:=I.tuple hb;cases r2;refine SeqAt.eq_tupleAt (e:=fun _=>true) (show s.heap.IsTuple a us.toArray from p1) (show s.heap.IsTuple b ([]:List Value).toArray from p2) hu (fun j h1 h2=>absurd h2 (by simp)) ?_;have e:((List.range (min us.toArray.size ([]:List Value).toArray.size)).all (fun _=>true)&&us.toArray.size==([]:List Value).toArray.size)=decide (xs=[]):=by
  have l:=r1.length;rw[lH,Bool.true_and];by_cases hx:xs=[]
  .subst hx;cases r1;simp
  .rw[decide_eq_false hx];have:us≠[]:=fun z=>hx (by rw[z] at l;exact List.length_eq_zero_iff.mp l);cases us with
   |nil=>exact absurd rfl this
   |cons _ _=>simp
 rw[e];exact⟨.bl _,H,I,rfl,q⟩
abbrev TJ:=St->Hp->Str->(Str->Hp->Prop)->Prop
def PJ (X:Cx)(es:List Expr)(t:TJ):Prop:=
 ∀(vy:List (Addr×Obj)) (s:Shared) (U:St) (H:Hp) (acc:Str) (Q:Str->Hp->Prop),Inv X vy U H s->t U H acc Q->
  wpAny (model X.prog X.w) X.A (joinParts acc (evalEach es X.env)) (EP X vy U fun v H'=>∃x,v=.str x/\Q x H') X.xe s
noncomputable def a5w:TJ:=fun _ H acc Q=>acc.length<=sizeLine/\Q acc H
noncomputable def a5v (c:Str)(t:TJ):TJ:=fun U H acc Q=>(acc++c).length<=sizeLine/\t U H (acc++c) Q
noncomputable def a5u (te:TE)(t:TJ):TJ:=fun U H acc Q=>te U H fun x H1=>(∃i,x=.int i/\i.natAbs.log2<1920/\(acc++(toString i:Str)).length<=sizeLine/\t U H1 (acc++(toString i:Str)) Q)∨(∃y,x=.str y/\y.length<=sizeLine/\(acc++y).length<=sizeLine/\t U H1 (acc++y) Q)
theorem V9:PJ X [] a5w:=by
 intro vy s U H acc Q I h;exact joinParts_nil ⟨.str acc,H,I.tok _,⟨_,rfl⟩,acc,rfl,h.2⟩ h.1
theorem LK {c:Str}{j:Nat}{pos:Pos}{es:List Expr}{t:TJ}(h:PJ X es t):PJ X (.Constant (.str c) j pos::es) (a5v c t):=by
 intro vy s U H acc Q I hw;show wpAny _ _ (joinParts acc (eval (.Constant (.str c) j pos) X.env::evalEach es X.env)) _ _ s;refine joinParts_cons (Calls.Constant_str ⟨hw.1,?_⟩);exact h vy _ U H (acc++c) Q (I.tok _) hw.2
theorem V8 {e:Expr}{pos:Pos}{es:List Expr}{te:TE}{t:TJ}(he:PE X e te)(h:PJ X es t):PJ X (.FormattedValue e (-1) none pos::es) (a5u te t):=by
 intro vy s U H acc Q I hw;show wpAny _ _ (joinParts acc (eval (.FormattedValue e (-1) none pos) X.env::evalEach es X.env)) _ _ s;refine joinParts_cons (FormattedValue_plain (bA (he vy s U H _ I hw) ?_));rintro v s1 ⟨x,H1,I1,r1,q1⟩;rcases q1 with⟨i,rfl,hl,hz,q⟩ | ⟨y,rfl,hy,hz,q⟩
 .obtain⟨t',rfl⟩:=r1;exact formatField_int_small hl ⟨hz,h vy _ U H1 _ Q (I1.tok _) q⟩
 .obtain⟨t',rfl⟩:=r1;exact formatField_str (fun t'' tk=>⟨hz,h vy _ U H1 _ Q (I1.tok _) q⟩) hy
noncomputable def tFs (t:TJ):TE:=fun U H Q=>t U H Str.empty fun x H'=>Q (.str x) H'
theorem P8 {v1 v2:Expr}{rest:List Expr}{pos:Pos}{t:TJ}(h:PJ X (v1::v2::rest) t):PE X (.JoinedStr (v1::v2::rest) pos) (tFs t):=by
 intro vy s U H Q I hw;refine JoinedStr_many (bA (h vy s U H Str.empty _ I hw) ?_);rintro u s1 ⟨v,H',I',r,x,ev,q⟩;subst ev;exact⟨.str x,H',I',r,q⟩
end
end L2
namespace HT
open PySem PySem.Spec PyProof.Rows
section
variable {prog:Program}{w:World}{A:Around}{E:Value->Shared->Prop}{s:Shared}
end
end HT
namespace L2
open PySem PySem.Spec PyProof.Rows
section
variable {X:Cx}{K:PySem.W.Frag}
end
section
variable {X:Cx}{K:PySem.W.Frag}
def Frz (d:Addr)(ob:Obj)(kvs:List (Key×V))(H H':Hp):Prop:=H' d=some (.rq ob (.dK kvs))/\∀b,b≠d->H' b=H b
theorem Inv.frozen {vy:List (Addr×Obj)}{U:St}{H:Hp}{s:Shared}{d:Addr}{kvs:List (Key×V)}(I:Inv X vy U H s)(e:Rd H d (.dK kvs)) :
  ∃(ob:Obj)(H':Hp),Frz d ob kvs H H'/\Inv X vy U H' s/\s.heap.get? d=some ob:=by
 rcases e with e | ⟨ob,e⟩
 .have ok:=I.hok d _ e;obtain⟨ob,hob⟩:=ok.here;refine⟨ob,upd H d (.rq ob (.dK kvs)),⟨cS,fun b hb=>aH hb⟩,?_,hob⟩;have nt:∀b xs,H b=some (.tup xs)->b≠d:=fun b xs z=>BN z e (by intro w;cases w);have no:∀b x,H b=some (.own x)->b≠d:=fun b x z=>BN z e (by intro w;cases w);have:=I.un (h':=s.heap) (t':=s.toks) (H':=upd H d (.rq ob (.dK kvs))) ⟨fun b u q _ _ _=>q,fun b u q _ _ _=>⟨u.slots,q⟩,fun b u q n _=>by rw[aH (aR e n).symm];exact n,fun b u q _=>⟨u,q⟩,
   fun b xs z=>by rw[aH (nt b xs z)];exact z,fun b u xs z=>by rw[aH (BN z e (by intro w;cases w))];exact z,fun b ps z=>⟨#[],by rw[aH (BN z e (by intro w;cases w)),z];simp⟩⟩ fun b u z=>by
   by_cases hb:b=d
   .subst hb;rw[cS] at z;cases z;exact⟨hob,ok.stay (fun _ _ _ q=>q) (fun c q=>by rw[aH (no c _ q)];exact q) fun c xs q=>by rw[aH (nt c xs q)];exact q⟩
   .rw[aH hb] at z;exact(I.hok b u z).stay (fun _ _ _ q=>q) (fun c q=>by rw[aH (no c _ q)];exact q) fun c xs q=>by rw[aH (nt c xs q)];exact q
  exact this
 .obtain⟨hob,_⟩:=I.hok d _ e;exact⟨ob,H,⟨e,fun _ _=>rfl⟩,I,hob⟩
theorem Inv.held {vy:List (Addr×Obj)}{U:St}{H:Hp}{s:Shared}{d:Addr}{ob:Obj}{kvs:List (Key×V)}(I:Inv X vy U H s)(e:H d=some (.rq ob (.dK kvs))) :
  (d==sysModules)=false/\kvs.length<=sizeLine/\s.heap.get? d=some ob/\∃vs es ep,KV kvs vs/\ob.data=.dict es ep/\s.heap.DictAt (bJ X.prog X.w) d vs ep:=by
 obtain⟨hob,_⟩:=I.hok d _ e;obtain⟨hz,lo,vs,rel,dd⟩:=qe I.hok (.inr ⟨ob,e⟩);obtain⟨ep,hat⟩:=dd.dictAt;obtain⟨o,es,ho,hx,hd,_⟩:=id hat;have eo:=ho.symm.trans hob;cases eo;exact⟨lo,hz,hob,vs,es,ep,rel,hd,hat⟩
theorem KV.at {κ:Type}:∀{kvs:List (κ×V)} {vs:List (κ×Value)},KV kvs vs->∀{i:Nat}{k:κ}{x:V},kvs[i]?=some (k,x)->∃u,vs[i]?=some (k,u)/\RelV x u
 |_,_,.nil,_,_,_,e=>by simp at e
 |_,_,.cons (b:=q) r t,0,k,x,e=>by
  simp at e;obtain⟨h1,h2⟩:=r;rw[e] at h1 h2;exact⟨q.2,by simp;exact Prod.ext h1.symm rfl,h2⟩
 |_,_,.cons r t,i+1,k,x,e=>by
  obtain⟨u,h1,h2⟩:=KV.at t (i:=i) (k:=k) (x:=x) (by simpa using e);exact⟨u,by simpa using h1,h2⟩
theorem KV.len {κ:Type}{kvs:List (κ×V)}{vs:List (κ×Value)}(r:KV kvs vs):kvs.length=vs.length:=Paired.length r
theorem Ph {P:Program}{w:World}{k:Key}{v:Value}(h:(bJ P w).is k v=true):RelV (kV k) v:=by
 rcases bN h with⟨i,t,rfl,rfl⟩ | ⟨x,t,rfl,rfl⟩
 .exact⟨t,rfl⟩
 .exact⟨t,rfl⟩
noncomputable def AZ (p d:Addr):HO:=.ext fun h=>h.IsValuesView p d
noncomputable def Y9 (O:Addr->Addr->HO)(to:TE):TE:=fun U H Q=>to U H fun x H1=>∃d kvs,x=.ref d/\Rd H1 d (.dK kvs)/\∀p,H1 p=none->Q (.ref p) (upd H1 p (O p d))
theorem Rw {vy:List (Addr×Obj)}{U:St}{H:Hp}{s:Shared}{d:Addr}{kvs:List (Key×V)}(I:Inv X vy U H s)(e:Rd H d (.dK kvs)):s.TypeIs (.ref d) "dict"/\∀a,Value.ref d=.ref a->∃ob,s.heap.get? a=some ob/\ob.dict=none:=by
 obtain⟨_,_,vs,rel,dd⟩:=qe I.hok e;refine⟨dd.typeIs,fun a z=>?_⟩;cases z;obtain⟨o,es,ep,ho,hx,_⟩:=dd;exact⟨o,ho,hx.2.1⟩
variable {o e:Expr}{to:TE}{BM cpos:Pos}
theorem HP (ho:PE X o to)(Ap:autoParam (attributeBase o "values" X.env (eval o X.env)=eval o X.env) zi)(B1:autoParam ((BM.endLine==cpos.line)=true) zi):PE X (.Call (.Attribute o "values" BM) [] [] cpos) (Y9 AZ to):=by
 intro vy s U H Q I h;refine wpAny_Call_method0_late Ap B1 (bA (ho vy s U H _ I h) ?_);rintro v s1 ⟨x,H1,I1,r1,d,kvs,ex,rd,q1⟩;subst ex;cases r1;obtain⟨h1,h2⟩:=Rw I1 rd;obtain⟨_,lo,vs,rel,dd⟩:=qe I1.hok rd;refine⟨"dict","dict.values",PySem.F.plainAttrs_dict,PySem.F.slot_dict_values,PySem.F.type_dict_values,h1,h2,Calls.callWith_builtin rfl (PySem.evalArgs_none ?_)⟩;refine call_meetsIn PySem.F.slot_dict_values h1 PySem.F.entry_dict_values (PySem.F.args_dict_values_1 _) (meets_dict_values (bJ X.prog X.w) d lo) ⟨⟨vs,dd⟩,?_⟩;refine⟨.ref s1.heap.objs.size,_,I1.laid (t':=s1.toks) (o:=AZ s1.heap.objs.size d) (fun b ob q=>Heap.get?_push_of_some _ q) (Nat.le_refl _) ?_,rfl,q1 _ (I1.hok.fresh (Nat.le_refl _))⟩;exact⟨⟨_,Heap.get?_push_size _ rfl,rfl,rfl⟩,⟨_,Heap.get?_push_size _ rfl⟩,fun h1 h2 ⟨o,ho,r⟩ k=>⟨o,k o ho,r⟩⟩
theorem En (l b:Addr)(xs ys:Array Value)(n m:Nat)(dd:Option Addr)(sl:Array (Option Value))(h0:¬(!xs.isEmpty&&Builtin.List.listTooLong (xs.size+ys.size))=true)(h1:xs.size<=sizeLine)(h2:xs.size+ys.size<=sizeLine+1) :
  Meets (Builtin.«list.extend» ⟨[.ref l,.ref b],[]⟩) (fun _ R s=>s.heap.get? l=some ⟨.type "list",none,.seq xs n,#[]⟩/\s.heap.get? b=some ⟨.type "tuple",dd,.seq ys m,sl⟩/\
   R (.ok (.ret Value.none)) {s with heap:=s.heap.update l (Obj.mapSeq fun x=>x++ys),toks:=s.toks }):=
 .of_wp fun prog w A R s h=>by
  obtain⟨hp,g,d,tk,os⟩:=s;obtain⟨hl,hb,h⟩:=h;have q1:=PySem.AutoSeq1.idx_int;have q2:=PySem.AutoSeq1.sub_tuple_tuple;have q3:=PySem.AutoSeq1.sub_list_list;have q4:=PySem.AutoSeq1.sub_tuple_list;have q5:=PySem.AutoSeq1.sub_list_tuple;have z:(xs++ys).size<=sizeLine+1:=by
   rw[Array.size_append];exact h2
  wp_walk using(wpAny_updateSeq hl rfl (hz:=h1) (_hz':=z)),PySem.AutoSeq1.wpAny_loadPart' hl,PySem.AutoSeq1.wpAny_loadPart' hb
  exact⟨_,rfl,h⟩
noncomputable def Lr (K:PySem.W.Frag):V->List V->Hp->VK->Prop:=fun x vs H Q=>∃l b xs zs,x=.ref l/\vs=[.ref b]/\H l=some (.lst xs)/\lM K H b zs/\xs.length+zs.length<=sizeLine/\Q .cR (upd H l (.lst (xs++zs)))
theorem D3:MtM X "list.extend" (Lr X.K):=by
 intro vy s U H x vs v us Q I rx rv h;obtain⟨l,b,xs,zs,rfl,rfl,hH,hB,hz,q⟩:=h;cases rx;obtain⟨u,rfl,ru⟩:=rv.one;cases ru;obtain⟨z,AC,n,r,hl,e⟩:=I.zZ hH;obtain⟨its2,r2,p2,z2⟩:=I.tuple hB;have hl2:=r2.length;have hsz:AC.toArray.size+its2.toArray.size<=sizeLine:=by rw[List.size_toArray,List.size_toArray];omega
 have BZ:¬(!AC.toArray.isEmpty&&Builtin.List.listTooLong (AC.toArray.size+its2.toArray.size))=true:=by
  rw[vL hsz,Bool.and_false];exact Bool.false_ne_true
 have go:∀n2 dd sl,s.heap.get? b=some {cls:=.type "tuple",dict:=dd,data:=.seq its2.toArray n2,slots:=sl }->wpAny (model X.prog X.w) X.A (call (.builtin "list.extend") [.ref l,.ref b]) (EP X vy U Q) X.xe s:=fun n2 dd sl e2=>by
  refine call_meets F.slot_list_extend ⟨_,e,rfl⟩ F.entry_list_extend (F.args_list_extend_2 _ _)
   (En l b AC.toArray its2.toArray n n2 dd sl BZ (by rw[List.size_toArray];omega) (by omega)) ⟨e,e2,?_⟩
  refine⟨.cR,_,I.Q3 (its':=AC++its2) hH e (by simp) (r.append r2) ?_,rfl,q⟩;rw[List.length_append];omega
 obtain⟨⟨cls,dd,data,sl⟩,ho,hc,n2,hd⟩:=id p2;simp only at hc hd;subst hc hd;exact go n2 dd sl ho
noncomputable def VG (K:PySem.W.Frag):R2:=fun x y H Q=>∃a b xs,x=.ref a/\y=.ref b/\jx K H a xs/\jx K H b []/\Q (.bl (!decide (xs=[]))) H
theorem Mb (hu:X.A.units<cLine):iR X (compareOp .NotEq) (VG X.K):=by
 intro vy s U H x y v u Q I rx ry h;obtain⟨a,b,xs,rfl,rfl,ha,hb,q⟩:=h;cases rx;cases ry;obtain⟨us,r1,p1,_⟩:=I.list ha;obtain⟨vs,r2,p2,_⟩:=I.list hb;cases r2;have l1:=r1.length;by_cases hx:xs=[]
 .rw[decide_eq_true hx] at q;subst hx;cases r1;exact SeqAt.RcNeAt.lists (A:=X.A) (e:=fun _=>true) p1.isList p2.isList rfl hu (fun j h1 h2=>absurd h2 (by simp)) _ _ _ _ ⟨.bl false,H,I,rfl,q⟩
 .rw[decide_eq_false hx] at q;have:us≠[]:=fun z=>hx (by rw[z] at l1;exact List.length_eq_zero_iff.mp l1);refine SeqAt.RcNeAt.lists_lengths (A:=X.A) p1.isList p2.isList ?_ hu _ _ _ _ ⟨.bl true,H,I,rfl,q⟩;cases us with
  |nil=>exact absurd rfl this
  |cons _ _=>simp
end
noncomputable def Itv (d:Addr)(ob:Obj)(kvs:List (Key×V)):It:=
 ⟨fun i H=>H d=some (.rq ob (.dK kvs))/\i<kvs.length,fun i H x H'=>H'=H/\∃k,kvs[i]?=some (k,x),fun i H=>H d=some (.rq ob (.dK kvs))/\kvs.length<=i⟩
theorem Ht {P:Program}{w:World}{K:PySem.W.Frag}{tg:Expr}(d it:Addr)(ob:Obj)(kvs:List (Key×V))(es:Array DictEntry)(ep:Nat)(hob:ob.data=.dict es ep) :
  Turn P w K tg (Itv d ob kvs) [it] it (fun i h=>h.IsValIter it d i kvs.length ep) where
 mem:=by simp
 obj:=fun i h st b hb=>by
  have e:b=it:=by simpa using hb
  subst e;obtain⟨o,e,c,dd⟩:=st;exact⟨o,e,fun v z=>by rw[dd] at z;cases z⟩
 keep:=fun i h h' st k=>st.at fun o e=>k it (by simp) o e
 item:=by
  intro X hP hw hK hc i vy s U H E I hf st hg;subst hP hw hK;obtain⟨hd,hi⟩:=hg;obtain⟨lo,hz,M6,vs,es',XH,rel,hdat,hat⟩:=I.held hd;rw[hob] at hdat;cases hdat;obtain⟨f0,f1,f2,f3,f4,f5⟩:=hf it (by simp);have hl:=rel.len;obtain⟨⟨k,v⟩,hkv⟩:∃p,kvs[i]?=some p:=⟨kvs[i],by simp[hi]⟩
  obtain⟨u,hu,ru⟩:=rel.at hkv;rw[hl] at st;refine wpAny_pyNext_values_item st hat hu fun h' st' sb=>?_;have I1:Inv X vy U H {s with heap:=h' }:=I.turned (t':=s.toks) (fun b o hb e=>(sb.2 b hb).trans e) f0 f1 f3 f4 f5;obtain⟨o,e,c,dd⟩:=id st';exact⟨u,rfl,sy (s:={s with heap:=h' }) e c dd (by decide) ⟨v,H,I1,ru,⟨rfl,k,hkv⟩,by rw[hl];exact st',fun b hb=>(hf b hb).1⟩⟩
 done:=by
  intro X hP hw hK hc i vy s U H E I hf st hg;subst hP hw hK;obtain⟨hd,hi⟩:=hg;obtain⟨lo,hz,M6,vs,es',XH,rel,hdat,hat⟩:=I.held hd;rw[hob] at hdat;cases hdat;obtain⟨f0,f1,f2,f3,f4,f5⟩:=hf it (by simp);have hl:=rel.len;rw[hl] at st;exact wpAny_pyNext_values_end (I.ok.hd hc) st hat (List.getElem?_eq_none_iff.mpr (by omega)) fun h' eb=>⟨rfl,I.turned (t':=s.toks) (fun b o hb e=>eb b o hb e) f0 f1 f3 f4 f5⟩
 self:=fun _ _ _ _ _ st h=>wpAny_pyIter_valiter st h
section
variable {X:Cx}{e:Expr}{te:TE}
noncomputable def a13 (te:TE):TI:=fun U H R=>te U H fun x H1=>∃p d kvs,x=.ref p/\H1 p=some (AZ p d)/\Rd H1 d (.dK kvs)/\∀ob H2,Frz d ob kvs H1 H2->R (Itv d ob kvs) H2
theorem PZ {tg:Expr}(he:PE X e te):PI X tg e (a13 te):=by
 intro vy s U H R I h;refine bA (he vy s U H _ I h) ?_;rintro v s1 ⟨x,H1,I1,r1,p,d,kvs,ex,hp,rd,q⟩;subst ex;cases r1;obtain⟨ob,H2,fz,I2,hob⟩:=I1.frozen rd;obtain⟨lo,hz,M6,vs,es,ep,rel,hdat,hat⟩:=I2.held fz.1;have hv:s1.heap.IsValuesView p d:=(I1.hok p _ hp).1;have hl:=rel.len;refine wpAny_pyIter_values hv hat ?_;exact⟨s1.heap.objs.size,[s1.heap.objs.size],_,_,H2,rfl,I2.kept (t':=s1.toks) fun b o e=>Heap.get?_push_of_some _ e,Ht d _ ob kvs es ep hdat,⟨_,Heap.get?_push_size _ rfl,rfl,by rw[hl];rfl⟩,fun b hb=>by
  have e:b=s1.heap.objs.size:=by simpa using hb
  subst e;exact I2.Cf (Nat.le_refl _) (I2.hok.fresh (Nat.le_refl _)),q ob H2 fz⟩
end
end L2
namespace Hw
open PySem L2
noncomputable def Yv:Str:="abcdefghijklmnopqrstuvwxyz"
theorem RT:Yv.cps.toList=(List.range 26).map (97+·):=by symm
theorem uD:Yv.length<=sizeLine:=Nat.le_of_lt (line _ (by symm))
theorem N2 {r:Nat}(h:r<26):oM Yv.cps.toList (r:Int)=some (97+r):=aY (by rw[RT,List.getElem?_map,List.getElem?_range h];rfl)
theorem AA (i:Int):oM Yv.cps.toList (i % 26)=some (97+(i % 26).toNat):=by
 have h0:=Int.emod_nonneg i (show(26:Int)≠0 by decide);have h1:=Int.emod_lt_of_pos i (show(0:Int)<26 by decide);have e:i % 26=((i % 26).toNat:Int):=(Int.toNat_of_nonneg h0).symm;have:=N2 (r:=(i % 26).toNat) (by omega);rw[<- e] at this;exact this
noncomputable def nC:List Str:=["lets","ifs","order","rows","att","notes","calls","ends","outlet","bend","motor","modes"]
theorem ID:nC.length=12:=rfl
abbrev a2C (c:Nat):Str:=⟨#[c]⟩
noncomputable def zw (a b:Nat):Str:=(("z":Str)++a2C a)++a2C b
theorem uB (a b:Str):(a++b).cps.toList=a.cps.toList++b.cps.toList:=PySem.W.KT.app_list a b
theorem mz (a b:Str):(a++b).length=a.length+b.length:=by
 have h:∀x:Str,x.length=x.cps.toList.length:=fun x=>by simp[Str.length]
 rw[h,h,h,uB,List.length_append]
theorem yG (a b:Nat):(zw a b).cps.toList=[122,a,b]:=by
 unfold zw;rw[uB,uB];rfl
theorem Jk (a b:Nat):(zw a b).length=3:=by
 unfold zw;rw[mz,mz];rfl
noncomputable def zt (k:Int)(t:Nat):Str:=zw (97+((t:Int) % 26).toNat) (97+((k+t) % 26).toNat)
theorem Uq {k:Int}{s t:Nat}(hs:s<26)(ht:t<26)(h:zt k s=zt k t):s=t:=by
 have e:(zt k s).cps.toList=(zt k t).cps.toList:=by rw[h]
 unfold zt at e;rw[yG,yG] at e;have:=(List.cons.inj (List.cons.inj e).2).1;omega
theorem LN:∀(n:Nat)(f:Nat->Str)(xs:List Str),(∀s,s<n->f s∈xs)->(∀s t,s<n->t<n->f s=f t->s=t)->n<=xs.length
 |0,_,_,_,_=>Nat.zero_le _
 |n+1,f,xs,h,inj=>by
  have m:=h n (Nat.lt_succ_self n);have ih:=LN n f (xs.erase (f n)) (fun s hs=>by
   have ne:f s≠f n:=fun e=>Nat.ne_of_lt hs (inj s n (Nat.lt_succ_of_lt hs) (Nat.lt_succ_self n) e);exact(List.mem_erase_of_ne ne).mpr (h s (Nat.lt_succ_of_lt hs))) fun s t hs ht=>inj s t (Nat.lt_succ_of_lt hs) (Nat.lt_succ_of_lt ht)
  rw[List.length_erase_of_mem m] at ih;have:0<xs.length:=List.length_pos_of_mem m;omega
theorem Ur {k:Int}{xs:List Str}{n:Nat}(hn:n<=20)(h:∀s,s<n->zt k (s+1)∈xs):n<=xs.length:=
 LN n (fun s=>zt k (s+1)) xs h fun s t hs ht e=>by have:=Uq (by omega) (by omega) e;omega
theorem mw (xs:List Str):(xs.map V.str).all eN=true:=by rw[List.all_map,List.all_eq_true];intro _ _;rfl
theorem A4:∀ss:List Str,(∀a∈ss,a.length=1)->(ss.map (·.length)).sum=ss.length
 |[],_=>rfl
 |a::r,h=>by
  rw[List.map_cons,List.sum_cons,A4 r fun b hb=>h b (List.mem_cons_of_mem _ hb),List.length_cons,h a (List.mem_cons_self ..)];omega
abbrev cp (x:Str):List Nat:=x.cps.toList
theorem eZ {a b:Str}(h:cp a=cp b):a=b:=PyProof.Rows.ext_toList h
theorem bg (x:Str):x.length=(cp x).length:=by simp[Str.length]
noncomputable def n5 (i:Int):Int:=if i<0 then -i else i
noncomputable def iU (i:Int):Str:=Str.ofString (toString (n5 i))
section
variable {C:Addr}{H H':Hp}{tl pq q0 q1 hq du u0 u1 sl sa sb:Addr}{xs:List Str}{ps0 t0 t1:Ps}{h0 h1:Int}
end
section
variable {H H':Hp}{z:Addr}{o:HO}
end
section
variable {H0 H H':Hp}{d tl ro:Addr}{xs:List Str}{t0:Ps}{n0:Int}
end
end Hw
namespace L2
open PySem PySem.Spec PyProof.Rows Hw
section
variable {X:Cx}{k:Nat}{m:Str}{pos BM:Pos}{o e:Expr}{es:List Expr}{ta:TE}{t:TA}{ul:Cz}{ps:List Str}{sp:Nat->Sp}
end
end L2
namespace Hw
open PySem L2
end Hw
namespace L2
open PySem PySem.Spec PyProof.Rows Hw
section
variable {X:Cx}{K:PySem.W.Frag}
theorem NQ (hc:X.calm=true):eS X (.builtin "all") (fun xs H Q=>∃(p:Addr)(bs:List Bool),xs=[.ref p]/\jx X.K H p (bs.map V.bl)/\Q (.bl (bs.all id)) H):=by
 intro vy s U H xs us Q I r h;obtain⟨p,bs,rfl,hq,q⟩:=h;obtain⟨u,rfl,ru⟩:=vals1 r;cases ru;obtain⟨AC,rv,pl,hz⟩:=I.list hq;have lp:p<s.heap.objs.size:=let⟨o,_,e,_⟩:=pl;Heap.lt_size e;have hl:=rv.length;rw[List.length_map] at hl;refine call_all_walk (wpAny_pyIter_list pl.isList ?_);have W:=Walks.list (prog:=X.prog) (w:=X.w) (A:=X.A.in1) (I.ok.hd hc) s.heap.objs.size p (Nat.ne_of_lt lp) AC.toArray;refine⟨s.heap.objs.size,_,_,_,_,_,(fun i=>(bs[i]?).getD true),rfl,W,⟨⟨_,Heap.get?_push_size _ rfl,rfl,rfl⟩,pl.isList.at fun o e=>Heap.get?_push_of_some _ e⟩,fun i v s' Q' E' hv hQ=>?_,fun h' tk hk=>?_⟩
 .have hv:AC.toArray[i]?=some v:=hv;have hv:AC[i]?=some v:=by simpa using hv
  have hil:i<AC.length:=(List.getElem?_eq_some_iff.mp hv).1;obtain⟨u,hu,ru⟩:=rv.get (i:=i) (x:=.bl ((bs[i]?).getD true)) (by rw[List.getElem?_map,List.getElem?_eq_getElem (by omega)];rfl);rw[hv] at hu;cases hu;cases ru;exact wpAny_truthy_bool hQ
 .have kp:∀b o,s.heap.get? b=some o->h'.get? b=some o:=fun b o e=>
   hk b o (fun hI=>absurd (Heap.lt_size e) (by rw[List.mem_singleton.mp hI];exact Nat.lt_irrefl _)) (Heap.get?_push_of_some _ e)
  have e:((List.range AC.toArray.size).all fun i=>(bs[i]?).getD true)=bs.all id:=by rw[List.size_toArray,<- hl];exact LSm.range_all bs
  rw[e];exact⟨.bl (bs.all id),H,I.kept (t':=tk) kp,rfl,q⟩
end
end L2
namespace Hw
open PySem L2
end Hw
namespace L2
open PySem PySem.Spec PyProof.Rows Hw
section
variable {X:Cx}{x:Str}{D:Addr}{kvs:List (Key×V)}{i:Expr}{ty:TE}{p pos:Pos}
end
end L2
namespace Hw
open PySem L2
end Hw
namespace L2
open PySem PySem.Spec PyProof.Rows Hw
section
variable {X:Cx}
end
end L2
namespace Hw
open PySem L2
end Hw
namespace L2
open PySem PySem.Spec PyProof.Rows Hw
section
variable {X:Cx}
noncomputable def Pp (K:PySem.W.Frag):R2:=fun x y H Q=>∃a b xs,x=.ref a/\y=.ref b/\jx K H a xs/\jx K H b []/\Q (.bl (decide (xs=[]))) H
theorem HZ (hu:X.A.units<cLine):iR X (compareOp .Eq) (Pp X.K):=by
 intro vy s U H x y v u Q I rx ry h;obtain⟨a,b,xs,rfl,rfl,ha,hb,q⟩:=h;cases rx;cases ry;obtain⟨us,r1,p1,_⟩:=I.list ha;obtain⟨vs,r2,p2,_⟩:=I.list hb;cases r2;have l1:=r1.length;by_cases hx:xs=[]
 .rw[decide_eq_true hx] at q;subst hx;cases r1;exact SeqAt.RcAt.lists (A:=X.A) (e:=fun _=>true) p1.isList p2.isList rfl hu (fun j h1 h2=>absurd h2 (by simp)) _ _ _ _ ⟨.bl true,H,I,rfl,q⟩
 .rw[decide_eq_false hx] at q;have:us≠[]:=fun z=>hx (by rw[z] at l1;exact List.length_eq_zero_iff.mp l1);refine SeqAt.RcAt.lists_lengths (A:=X.A) p1.isList p2.isList ?_ hu _ _ _ _ ⟨.bl false,H,I,rfl,q⟩;cases us with
  |nil=>exact absurd rfl this
  |cons _ _=>simp
end
end L2
namespace Hw
open PySem L2
section
variable {ul:Cz}{H0 H H':Hp}{d tl sd hd p pf:Addr}{xs:List Str}{vt:V}{c c':Cd}{kvs kh:List (Key×V)}{S:Sb}
end
end Hw
namespace PySem
section
variable {prog:Program}{w:World}{A:Around}{E:Value->Shared->Prop}{h:Heap}{g:Array GenState}{d:Drawn}{t:Nat}{os:OsState}
variable {nm q:Str}{C N:Addr}{bs bm:List Value}{hdct:Bool}{sn:List Str}{sub:List Value}{ab:Bool}{col:Option Bool}{dd:Option Addr}{k0 k1 k2 k3 k5:Option Value}
abbrev c8 (C t:Addr):Obj:={cls:=.ref C,data:=.fields #[.ref t,.none,.none,.none,.bool false,.none] }
abbrev VE:=F.excBase_ValueError
theorem newX (hV:bm.contains (.type "ValueError")=true)(hA:bm.contains (.type "AttributeError")=false)(hN:bm.contains (.type "NameError")=false){rest:List Value}{R:Result->Shared->Prop}
  (hC:h.get? C=some (excClassObj nm q C N bs bm hdct sn sub ab col dd k0 k1 k2 k3 k5 "ValueError.__new__")) (hrest:rest.length<=sizeLine)
  (hq:R (.ok (.ret (.ref (h.objs.size+1)))) ⟨(h.push {cls:=.type "tuple",data:=.seq rest.toArray }).push (c8 C h.objs.size),g,d,t,os⟩) :
  codeAny (model prog w) A (.builtin "ValueError.__new__" ⟨.ref C::rest,[]⟩) R ⟨h,g,d,t,os⟩:=by
 have e1:=VE.ends;have c1:(Value.ref C::bm).contains (.type "ValueError")=true:=by rw[List.contains_cons,hV,Bool.or_true]
 have c2:(Value.ref C::bm).contains (.type "AttributeError")=false:=by rw[List.contains_cons,hA];rfl
 have c3:(Value.ref C::bm).contains (.type "NameError")=false:=by rw[List.contains_cons,hN];rfl
 refine codeAny_builtinAt VE.entry ?_;unfold Builtin.«BaseException.__new__»;refine wpAt_bind ?_;show wpAt _ _ _ (stack >>=_) _ _ _;refine wpAt_bind (wpAt_stack fun p below=>wpAt_of_wpAny ?_)
 wp_walk;refine wpAt_of_wpAny ?_;rw[VE.owner]
 repeat (first | with_reducible refine wpAny_madeHere_exc VE.canon hC ?_ | with_reducible refine wpAny_loadPart_at hC ?_ | (with_reducible refine wpAny_isSubtype_exc hC ?_;first | rw[c1] | rw[c2] | rw[c3]) | wp_step)
 show R _ _;rw[Heap.size_push];exact hq
theorem Hs (hV:bm.contains (.type "ValueError")=true)(hA:bm.contains (.type "AttributeError")=false)(hN:bm.contains (.type "NameError")=false){mN:Str->Option Value}{rest:List Value}{fI:Addr}{oI:Obj}{Q:Fin->Shared->Prop}
  (hC:h.get? C=some (excClassObj nm q C N bs bm hdct sn sub ab col dd k0 k1 k2 k3 k5 "ValueError.__new__")) (hn:h.Ns N mN) (hi:mN "__init__"=some (.ref fI)) (hfI:h.get? fI=some oI) (hfc:oI.cls=.type "function") (hrest:rest.length<=sizeLine)
  (hq:wpAny (model prog w) A (call (.ref fI) (.ref (h.objs.size+1)::rest)) (fun r s'=>r=.none/\Q (.done (.ret (.ref (h.objs.size+1)))) s') E
   ⟨(h.push {cls:=.type "tuple",data:=.seq rest.toArray }).push (c8 C h.objs.size),g,d,t,os⟩) :
  wpAny (model prog w) A (Builtin.«type.__call__» ⟨.ref C::rest,[]⟩) Q E ⟨h,g,d,t,os⟩:=by
 repeat (first | with_reducible refine wpAny_loadPart_at hC ?_ | with_reducible refine wpAny_madeBy_exc hC ?_ | wp_step)
 refine codeAny_call_builtin_code (Code.quiet_builtin _ VE.quiet) (wpAny_check_new_subU VE hV (OwnTail.base (bmB:=bm)) hC ?_);refine newX hV hA hN hC hrest ?_;show wpAny _ _ _ _ _ _;have kp:∀b o,h.get? b=some o->((h.push {cls:=.type "tuple",data:=.seq rest.toArray }).push (c8 C h.objs.size)).get? b=some o:=fun b o e=>Heap.get?_push_of_some _ (Heap.get?_push_of_some _ e);have hC1:=kp _ _ hC;have hf1:=kp _ _ hfI;have hn1:=hn.keeps kp;have he1:((h.push {cls:=.type "tuple",data:=.seq rest.toArray }).push (c8 C h.objs.size)).get? (h.objs.size+1)=some {cls:=.ref C,data:=.fields #[.ref h.objs.size,.none,.none,.none,.bool false,.none] }:=by heap_get
 have cC:(Value.ref C::bm).contains (.ref C)=true:=by simp
 unfold isInstance
 repeat (first | with_reducible refine wpAny_loadPart_at he1 ?_ | (with_reducible refine wpAny_isSubtype_exc hC1 ?_;rw[cC]) | wp_step)
 show wpAny _ _ (typeLookup (.ref C) _) _ _ _;rw[typeLookup_eq];refine wpAny_bind (wpAny_mroOf_exc hC1 ?_);rw[lookupAlong_cons];refine wpAny_bind (wpAny_classOwn_exc hC1 hn1 ?_);rw[hi];refine wpAny_pure ?_;refine wpAny_holding (wpAny_bind ?_);unfold bindSpecial;refine wpAny_bind (wpAny_typeOf (T:="function") ⟨_,hf1,hfc⟩ ?_);rw[if_pos (by decide)];refine wpAny_pure (wpAny_bind (wpAny_mono hq (fun r s' hr=>?_) fun _ _ x=>x));obtain⟨rfl,hQ⟩:=hr
 wp_walk
 exact hQ
theorem a2F (hV:bm.contains (.type "ValueError")=true)(hA:bm.contains (.type "AttributeError")=false)(hN:bm.contains (.type "NameError")=false){mN:Str->Option Value}{rest:List Value}{fI:Addr}{oI:Obj}{Q:Value->Shared->Prop}
  (hC:h.get? C=some (excClassObj nm q C N bs bm hdct sn sub ab col dd k0 k1 k2 k3 k5 "ValueError.__new__")) (hn:h.Ns N mN) (hi:mN "__init__"=some (.ref fI)) (hfI:h.get? fI=some oI) (hfc:oI.cls=.type "function") (hrest:rest.length<=sizeLine)
  (hq:wpAny (model prog w) (A.under (.builtin "type.__call__" ⟨.ref C::rest,[]⟩)) (call (.ref fI) (.ref (h.objs.size+1)::rest)) (fun r s'=>r=.none/\Q (.ref (h.objs.size+1)) s') E
   ⟨(h.push {cls:=.type "tuple",data:=.seq rest.toArray }).push (c8 C h.objs.size),g,d,t,os⟩) :
  wpAny (model prog w) A (call (.ref C) rest) Q E ⟨h,g,d,t,os⟩:=by
 have f1:=tc_lookup;have f2:=tc_bind (.ref C);have hT:(⟨h,g,d,t,os⟩:Shared).TypeIs (.ref C) "type":=⟨_,hC,rfl⟩
 refine wpAny_call (codeAny_of_tree ?_);show wpAny _ _ (callAny (.ref C) _) _ _ _
 repeat (any_goals (first | assumption | with_reducible refine wpAny_loadPart_at hC ?_ | wp_step))
 exact⟨rfl,codeAny_call_builtin_at (Code.quiet_builtin _ (by symm)) entry_typeCall (wpAny_check_type_call_sub hC (Hs hV hA hN hC hn hi hfI hfc hrest hq))⟩
theorem EC (hV:bm.contains (.type "ValueError")=true){M:Model}{e:Addr}{oe:Obj}{rest:List Value}{Q:Unit->Shared->Prop}
  (hC:h.get? C=some (excClassObj nm q C N bs bm hdct sn sub ab col dd k0 k1 k2 k3 k5 "ValueError.__new__")) (he:h.get? e=some oe) (hcls:oe.cls=.ref C) (hq:Q () ⟨h,g,d,t,os⟩) :
  wpAny M A (checkBuiltinCall "ValueError.__init__" ⟨.ref e::rest,[]⟩) Q E ⟨h,g,d,t,os⟩:=by
 have c1:(Value.ref C::bm).contains (.type "ValueError")=true:=by rw[List.contains_cons,hV,Bool.or_true]
 have hs:=VE.noStar;simp only[checkBuiltinCall,VE.initKind,VE.initSplit,VE.initRow]
 repeat (first | (with_reducible refine wpAny_loadPart_at he ?_;rw[hcls]) | with_reducible refine wpAny_loadPart_at hC ?_ | (with_reducible refine wpAny_isSubtype_exc hC ?_;rw[c1]) | wp_step)
 refine wpAny_onRaise ?_;rw[show ∀(a b:String)(n:Nat),Bind.check ⟨.positional,"*","ValueError",.self,[⟨"args",.varPos,false⟩]⟩ a b n (List.map (fun x=>x.fst) ({pos:=Value.ref e::rest }:Args).kw)=pure () from fun a b n=>check_star_args _ _ _ _ _ _];exact wpAny_pure hq
theorem a12 (hV:bm.contains (.type "ValueError")=true){e t0:Addr}{rest:List Value}{Q:Value->Shared->Prop}
  (hC:h.get? C=some (excClassObj nm q C N bs bm hdct sn sub ab col dd k0 k1 k2 k3 k5 "ValueError.__new__")) (he:h.get? e=some (c8 C t0)) (hrest:rest.length<=sizeLine)
  (hq:∀h',(∀b o,b≠e->h.get? b=some o->h'.get? b=some o)->(∃t1,h'.get? e=some (c8 C t1))->Q .none ⟨h',g,d,t,os⟩) :
  wpAny (model prog w) A (call (.builtin "ValueError.__init__") (.ref e::rest)) Q E ⟨h,g,d,t,os⟩:=by
 refine wpAny_call (codeAny_call_builtin VE.init.plain VE.initEntry (EC hV hC he rfl ?_))
 wp_walk
 refine hq _ (fun b o hb ho=>?_) ⟨h.objs.size,?_⟩
 .rw[Heap.get?_update_other _ _ (Ne.symm hb)];exact Heap.get?_push_of_some _ ho
 .rw[Heap.get?_update_self _ (Heap.get?_push_of_some _ he) rfl];rfl
end
end PySem
namespace PySem
theorem wC (f:Array Value->Array Value)(o:Obj):(Obj.mapFields f o).dict=o.dict:=by
 unfold Obj.mapFields;split<;>rfl
section
variable {M:Model}{A:Around}{E:Value->Shared->Prop}{s:Shared}{base:Heap}{env:Env}{outer:List Env}{L a C:Addr}{oe:Obj}{vs:Array Value}
theorem fY (hl:s.heap.FunFrames base (env::outer)){b:Addr}{o:Obj}{ws:Array Value}(hb:b∈(env::outer).filterMap (·.frame))(ho:s.heap.get? b=some o)(hd:o.data=.fields ws):False:=by
 obtain⟨_,o',ho',hn⟩:=hl.mem hb;rw[ho] at ho';injection ho' with e;subst e
 exact hn ws hd
end
end PySem
namespace L2
open PySem PySem.Spec PyProof.Rows
theorem jy.MN {P:Program}{w:World}{H:Hp}{h h':Heap}(ok:jy P w H h)(k:∀b u,H b≠none->h.get? b=some u->h'.get? b=some u):jy P w H h':=fun b o e=>
 (ok b o e).stay (fun c u hc q=>k c u (hc.elim (fun z=>by rw[z,e];exact fun z=>nomatch z) (fun z=>by rw[z];exact fun z=>nomatch z)) q) (fun _ z=>z) fun _ _ z=>z
theorem Ai {base h h':Heap}{H H':Hp}:∀{l l':List Env},(∀b∈frs l,b∈frs l')->(∀b∈frs l',H b=none)->Un (frs l') [] H H' h h'->h.FunFrames base l->h'.FunFrames base l
 |[],_,_,_,_,_=>trivial
 |env::r,l',hs,hf,un,⟨hk,⟨L,o,e,hn,ho,hd⟩,hr⟩=>by
  have hL:L∈frs l':=hs L (by unfold frs;rw[List.filterMap_cons,e];exact List.mem_cons_self);obtain⟨sl,q⟩:=un.slot L o ho (hf L hL) hL (by simp);exact⟨hk,⟨L,_,e,hn,q,hd⟩,Ai (fun b hb=>hs b (by unfold frs;rw[List.filterMap_cons,e];exact List.mem_cons_of_mem _ hb)) hf un hr⟩
section
variable {P:Program}{w:World}{K:PySem.W.Frag}{mg:Str->Option Value}{base:Heap}{N:List Str}{qual:Str}{scope:Scope}{f C:Addr}{cd:Value}{A:Around}{outer:List Env}{s:Shared}{H:Hp}{E:XK}
noncomputable def Ow (C e:Addr):HO:=.ext fun h=>∃t,h.get? e=some (c8 C t)
theorem Nm {P:Program}{w:World}{H:Hp}{h:Heap}{C e:Addr}:(∃t,h.get? e=some (c8 C t))->bF P w H h e (Ow C e):=fun⟨t,q⟩=>
 ⟨⟨t,q⟩,⟨_,q⟩,fun _ _ ⟨t,q⟩ k=>⟨t,k _ q⟩⟩
noncomputable def del (H:Hp)(a:Addr):Hp:=fun b=>if b=a then none else H b
theorem rA {H:Hp}{a b:Addr}(h:b≠a):del H a b=H b:=if_neg h
end
theorem J5 {H:Hp}{a:Addr}{o:HO}(h:H a=some o):upd H a o=H:=by
 funext b;unfold upd;split
 .rename_i e;rw[e,h]
 .rfl
theorem a03 {K:PySem.W.Frag}{h:Heap}{N:Addr}{mN:Str->Option Value}{n:Str}{v:Value}(X:K.In h)(G:h.Ns N mN)(e:PySem.W.nsIn K N n=some (some v)):mN n=some v:=by
 obtain⟨o,es,ep,ho,hd,_,hf⟩:=G;unfold PySem.W.nsIn at e;split at e
 .rename_i q;have z:=X _ _ q;rw[ho] at z;cases z;cases hd;split at e
  .rename_i he;cases e;rw[<- hf];unfold nsFind findBy;rw[<- Array.find?_toList,he];rfl
  .split at e<;>cases e
 .cases e
structure xH (K:PySem.W.Frag)(C fI:Addr)(bm:List Value):Prop where
 ob:∃nm q N bs hdct sn sub ab col dd k0 k1 k2 k3 k5,K.lookup C=some (excClassObj nm q C N bs bm hdct sn sub ab col dd k0 k1 k2 k3 k5 "ValueError.__new__")/\PySem.W.nsOkIn K N=true/\PySem.W.nsIn K N "__init__"=some (some (.ref fI))
 fn:PySem.W.isFn K (.ref fI)=true
 kp:PySem.W.keepIn K (.ref C)=true
 v:bm.contains (.type "ValueError")=true
 a:bm.contains (.type "AttributeError")=false
 n:bm.contains (.type "NameError")=false
 b:bm.contains (.type "BaseException")=true
section
variable {X:Cx}{CX:E4}{k:Nat}{f C D fI:Addr}{fd:FuncData}{ps:List Str}{sp:Sp}{E:XK}{x m:Str}{p pos BM:Pos}{e o:Expr}{es:List Expr}{t:TA}{bm:List Value}
noncomputable def Zy (sp:Sp)(E:XK)(to:TE)(t:TA):TE:=fun U H Q=>to U H fun _ H1=>t U H1 fun vs H2=>sp (vs++[]) H2 Q E
theorem Gj {pl:Sem Bool}(hg:Gl X x)(hm:X.mg x=some (.ref D))(h1:PySem.W.specialIn X.K (.ref D) "__getattribute__"=some (some (.builtin "type.__getattribute__")))(h2:PySem.W.readsIn X.K D (.type "type")=true)
  (h3:PySem.W.findCls X.K (.ref D) (.type "type") m=some (.val (.ref f))) (h4:PySem.W.handedIn (.ref f)=true) (hk:PySem.W.keepIn X.K (.ref f)=true) (F:aL X.prog X.w X.K X.mg X.base CX k f fd ps sp) (hr:bV k X.A) (hb:Binds X.K fd ps [])
  (hx:Passes CX X E) (ha:PA X (e::es) t) (hst:autoParam (starEach (e::es) X.env=(false,eval e X.env)::starEach es X.env) zi) (hpl:autoParam ((backTo pos (starEach es X.env)).any (·.1)=false) zi) (hdb:autoParam ((x==("__debug__":Str))=false) zn)
  (ht:autoParam (eval (.Call (.Attribute (.Name x p) m BM) (e::es) [] pos) X.env=(do
   let ov <- eval (.Name x p) X.env
   standAt BM.atName
   let(f,first) <- holding [ov] (getMethod ov m pl)
   callWith pos f first (backTo pos (starEach (e::es) X.env)) (backToKw pos (keywordEach [] X.env)))) zi) :
  PE X (.Call (.Attribute (.Name x p) m BM) (e::es) [] pos) (Zy sp E (tC (.ref D)) t):=by
 intro vy s U H Q I h;refine PySem.W.methodCall_KW (pl:=pl) (jU I hg hm ?_ hdb) ht;refine PySem.W.method_cls I.iW h1 (PySem.W.cls_value I.iW h2 h3 h4 ?_);have I1:=I.tok (s.toks+1);refine PySem.W.callWith_K (first:=[]) (h₀:=X.base) I.ok.mod.Oo hk (bA (ha pos vy _ U H _ I1 h) fun us s2 ⟨vs,H2,I2,r,q2⟩=>⟨I2.iW,?_⟩) hst hpl;exact nJ F hr hb .nil hx I2 r q2
noncomputable def UT (C:Addr)(t:TA):TE:=fun U H Q=>t U H fun vs H1=>∃a v,vs=[.ref a,v]/\H1 a=some (Ow C a)/\Q .cR H1
theorem LR {pl:Sem Bool}(XC:xH X.K C fI bm)(hg:Gl X "ValueError")(hm:X.mg "ValueError"=none)(h3:PySem.W.findCls X.K (.type "ValueError") (.type "type") "__init__"=some (.val (.builtin "ValueError.__init__")))
  (ha:PA X (e::es) t) (hst:autoParam (starEach (e::es) X.env=(false,eval e X.env)::starEach es X.env) zi) (hpl:autoParam ((backTo pos (starEach es X.env)).any (·.1)=false) zi)
  (ht:autoParam (eval (.Call (.Attribute (.Name "ValueError" p) "__init__" BM) (e::es) [] pos) X.env=(do
   let ov <- eval (.Name "ValueError" p) X.env
   standAt BM.atName
   let(f,first) <- holding [ov] (getMethod ov "__init__" pl)
   callWith pos f first (backTo pos (starEach (e::es) X.env)) (backToKw pos (keywordEach [] X.env)))) zi) :
  PE X (.Call (.Attribute (.Name "ValueError" p) "__init__" BM) (e::es) [] pos) (UT C t):=by
 intro vy s U H Q I h;refine PySem.W.methodCall_KW (pl:=pl) (qY I hg hm PyProof.Rows.Boot.«ValueError» ?_ (by decide) (by decide)) ht;obtain⟨m,F⟩:=I.fr;refine PySem.W.method_type F I.ok.mod.Oo (by kernel_rfl) (by symm) h3 (by rfl) ?_;have I1:=I.tok (s.toks+1);have hA:=ha pos vy _ U H _ I1 h;rw[hst] at hA ⊢;refine Calls.callWith_builtin (by show(false||(backTo pos (starEach es X.env)).any (·.1))=false;rw[hpl]<;>rfl) (Calls.evalArgs_plain (bA hA fun us s2 ⟨vs,H2,I2,r,a,v,ev,ea,q2⟩=>?_));subst ev;obtain⟨u,u',rfl,ru,_⟩:=vals2 r;cases ru;obtain⟨nm,q,N,bs,hdct,sn,sub,ab,col,dd,k0,k1,k2,k3,k5,lk,_,_⟩:=XC.ob;obtain⟨⟨t0,he⟩,_⟩:=show bF X.prog X.w H2 s2.heap a (Ow C a) from I2.hok a _ ea;obtain⟨hp,g,d,tk,os⟩:=s2;refine a12 XC.v (I2.iW _ _ lk) he (by show 1<=sizeLine;exact Nat.le_of_lt (Hw.line 1 (by decide))) ?_;rintro h' kp ⟨t1,he'⟩;have I3:=I2.write (t':=tk) (x:=a) (e:=a) (o:=Ow C a) (h':=h') (by rw[ea];exact True.intro) (.inl rfl) kp ⟨_,he'⟩ (Nm ⟨t1,he'⟩);rw[J5 ea] at I3;exact⟨.cR,H2,I3,rfl,q2⟩
end
noncomputable def Its (x:Str):It:=⟨fun i _=>i<x.cps.size,fun i H v H'=>H'=H/\∃c,x.cps[i]?=some c/\v=.str ⟨#[c]⟩,fun i _=>x.cps.size<=i⟩
theorem Hv {P:Program}{w:World}{K:PySem.W.Frag}{tg:Expr}(x:Str)(t:Tok)(it:Addr):Turn P w K tg (Its x) [it] it (fun i h=>h.IsStrIter it "str_ascii_iterator" x t i) where
 mem:=by simp
 obj:=fun i h st b hb=>by
  have e:b=it:=by simpa using hb
  subst e;obtain⟨o,e,c,d⟩:=st;exact⟨o,e,fun v z=>by rw[d] at z;cases z⟩
 keep:=fun i h h' st k=>let⟨o,ho,r⟩:=st;⟨o,k it (by simp) o ho,r⟩
 item:=by
  intro X hP hw hK hc i vy s U H E I hf st hg;subst hP hw hK;have hg:i<x.cps.size:=hg;obtain⟨f0,f1,f2,f3,f4,f5⟩:=hf it (by simp);refine wpAny_pyNext_ascii_item st (c:=x.cps[i]) (by simp[hg]) fun h' st' sb=>?_;have I1:Inv X vy U H {s with heap:=h',toks:=s.toks+1 }:=I.turned (t':=s.toks+1) (fun b o hb e=>(sb.2 b hb).trans e) f0 f1 f3 f4 f5;obtain⟨o,e,c,d⟩:=id st';exact⟨_,rfl,sy (s:={s with heap:=h',toks:=s.toks+1 }) e c d (by decide) ⟨.str ⟨#[x.cps[i]]⟩,H,I1,⟨_,rfl⟩,⟨rfl,_,by simp[hg],rfl⟩,st',fun b hb=>(hf b hb).1⟩⟩
 done:=by
  intro X hP hw hK hc i vy s U H E I hf st hg;subst hP hw hK;have hg:x.cps.size<=i:=hg;obtain⟨f0,f1,f2,f3,f4,f5⟩:=hf it (by simp);exact wpAny_pyNext_ascii_end (I.ok.hd hc) st (by simp[hg]) fun h' eb=>⟨rfl,I.turned (t':=s.toks) (fun b o hb e=>eb b o hb e) f0 f1 f3 f4 f5⟩
 self:=fun _ _ _ _ _ st h=>wpAny_pyIter_striter_ascii st h
theorem Hu {P:Program}{w:World}{K:PySem.W.Frag}{tg:Expr}(x:Str)(t:Tok)(it:Addr):Turn P w K tg (Its x) [it] it (fun i h=>h.IsStrIter it "str_iterator" x t i) where
 mem:=by simp
 obj:=fun i h st b hb=>by
  have e:b=it:=by simpa using hb
  subst e;obtain⟨o,e,c,d⟩:=st;exact⟨o,e,fun v z=>by rw[d] at z;cases z⟩
 keep:=fun i h h' st k=>let⟨o,ho,r⟩:=st;⟨o,k it (by simp) o ho,r⟩
 item:=by
  intro X hP hw hK hc i vy s U H E I hf st hg;subst hP hw hK;have hg:i<x.cps.size:=hg;obtain⟨f0,f1,f2,f3,f4,f5⟩:=hf it (by simp);refine wpAny_pyNext_wide_item st (c:=x.cps[i]) (by simp[hg]) fun h' st' sb=>?_;have I1:Inv X vy U H {s with heap:=h',toks:=s.toks+1 }:=I.turned (t':=s.toks+1) (fun b o hb e=>(sb.2 b hb).trans e) f0 f1 f3 f4 f5;obtain⟨o,e,c,d⟩:=id st';exact⟨_,rfl,sy (s:={s with heap:=h',toks:=s.toks+1 }) e c d (by decide) ⟨.str ⟨#[x.cps[i]]⟩,H,I1,⟨_,rfl⟩,⟨rfl,_,by simp[hg],rfl⟩,st',fun b hb=>(hf b hb).1⟩⟩
 done:=by
  intro X hP hw hK hc i vy s U H E I hf st hg;subst hP hw hK;have hg:x.cps.size<=i:=hg;obtain⟨f0,f1,f2,f3,f4,f5⟩:=hf it (by simp);exact wpAny_pyNext_wide_end (I.ok.hd hc) st (by simp[hg]) fun h' eb=>⟨rfl,I.turned (t':=s.toks) (fun b o hb e=>eb b o hb e) f0 f1 f3 f4 f5⟩
 self:=fun _ _ _ _ _ st h=>wpAny_pyIter_striter_wide st h
section
variable {X:Cx}{tg:Expr}
noncomputable def a5B (tl:TE):TI:=fun U H R=>tl U H fun x H1=>∃z,x=.str z/\R (Its z) H1
theorem Wa {l:Expr}{tl:TE}(hl:PE X l tl):PI X tg l (a5B tl):=by
 intro vy s U H R I h;refine bA (hl vy s U H _ I h) ?_;rintro v s1 ⟨x,H1,I1,r1,q1⟩;obtain⟨z,e,q⟩:=q1;subst e;obtain⟨t,rfl⟩:=r1;cases ha:z.cps.all (· < 128)
 .refine wpAny_pyIter_wide ha ?_;refine⟨s1.heap.objs.size,[s1.heap.objs.size],_,_,H1,rfl,I1.kept (t':=s1.toks) fun b o e=>Heap.get?_push_of_some _ e,Hu z t _,⟨_,Heap.get?_push_size _ rfl,rfl,rfl⟩,fun b hb=>?_,q⟩;have e:b=s1.heap.objs.size:=by simpa using hb
  subst e;exact I1.Cf (Nat.le_refl _) (I1.hok.fresh (Nat.le_refl _))
 .refine wpAny_pyIter_ascii ha ?_;refine⟨s1.heap.objs.size,[s1.heap.objs.size],_,_,H1,rfl,I1.kept (t':=s1.toks) fun b o e=>Heap.get?_push_of_some _ e,Hv z t _,⟨_,Heap.get?_push_size _ rfl,rfl,rfl⟩,fun b hb=>?_,q⟩;have e:b=s1.heap.objs.size:=by simpa using hb
  subst e;exact I1.Cf (Nat.le_refl _) (I1.hok.fresh (Nat.le_refl _))
theorem HY:iR X (compareOp .LtE) (fun x y H Q=>∃i j,x=.str i/\y=.str j/\Q (.bl (!(decide (j.cps.toList<i.cps.toList)))) H):=by
 intro vy s U H x y v u Q I rx ry h;obtain⟨i,j,rfl,rfl,q⟩:=h;obtain⟨t,rfl⟩:=rx;obtain⟨t',rfl⟩:=ry;exact P.le_str (bz I q rfl)
end
end L2
namespace PySem
open L2
section
variable {prog:Program}{w:World}{A:Around}{E:Value->Shared->Prop}{s:Shared}
end
end PySem
namespace PySem
open L2 PyProof.Rows
section
variable {prog:Program}{w:World}{A:Around}{R:Result->Shared->Prop}{I:Addr}{fp wr:List Addr}{G:Array GenState->Array GenState->Prop}{n:Nat}{P:Nat->Value->Prop}{St:Nat->Shared->Prop}
end
section
variable {prog:Program}{w:World}{A:Around}{E:Value->Shared->Prop}{s:Shared}
end
end PySem
namespace PySem
open L2 PyProof.Rows
namespace F
end F
section
variable {prog:Program}{w:World}{A:Around}{E:Value->Shared->Prop}{s:Shared}{I a tp:Addr}{i n ep:Nat}{es:Array (Int×Value)}{t:SetTable}
end
end PySem
namespace PySem
open L2 PyProof.Rows
section
variable {prog:Program}{w:World}{A:Around}{E:Value->Shared->Prop}{s:Shared}{I a tp:Addr}{i n ep:Nat}{es:Array (Int×Value)}{t:SetTable}
end
end PySem
namespace PySem
open L2 PyProof.Rows
section
variable {M:Model}{A:Around}{E:Value->Shared->Prop}{s:Shared}
end
section
variable {prog:Program}{w:World}{A:Around}{E:Value->Shared->Prop}{s:Shared}{I a tp:Addr}{i n ep:Nat}{es:Array (Int×Value)}{t:SetTable}
end
end PySem
namespace PySem
open L2 PyProof.Rows
section
variable {prog:Program}{w:World}{A:Around}{E:Value->Shared->Prop}{s:Shared}{I a tp:Addr}{i n ep:Nat}{es:Array (Int×Value)}{t:SetTable}
end
end PySem
namespace PySem
open L2 PyProof.Rows
section
variable {prog:Program}{w:World}{A:Around}{E:Value->Shared->Prop}{s:Shared}{a:Addr}
end
end PySem
namespace PySem
open L2 PyProof.Rows
section
variable {prog:Program}{w:World}{A:Around}{E:Value->Shared->Prop}{s:Shared}{a:Addr}{zs:List Str}
end
end PySem
namespace L2
open PySem PySem.Spec PyProof.Rows Hw
section
variable {X:Cx}
end
end L2
namespace Hw
open PySem L2
noncomputable def mD (c:Nat):Bool:=decide (97<=c)&&decide (c<=122)
noncomputable def isNm (z:Str):Bool:=(decide (1<=z.length)&&decide (z.length<=8))&&!(decide (z∈pZ))&&z.cps.toList.all mD
theorem a5j (c:Nat):(!(decide (((⟨#[c]⟩:Str)).cps.toList<(("a":Str)).cps.toList)))=decide (97<=c):=by
 show(!(decide ([c] < [97])))=_;have e:([c] < [97])↔(c<97):=by rw[List.cons_lt_cons_iff];simp
 by_cases h:97<=c
 .rw[decide_eq_true h,decide_eq_false (fun z=>absurd (e.mp z) (by omega))];rfl
 .rw[decide_eq_false h,decide_eq_true (e.mpr (by omega))];rfl
theorem a5i (c:Nat):(!(decide ((("z":Str)).cps.toList<((⟨#[c]⟩:Str)).cps.toList)))=decide (c<=122):=by
 show(!(decide ([122] < [c])))=_;have e:([122] < [c])↔(122<c):=by rw[List.cons_lt_cons_iff];simp
 by_cases h:c<=122
 .rw[decide_eq_true h,decide_eq_false (fun z=>absurd (e.mp z) (by omega))];rfl
 .rw[decide_eq_false h,decide_eq_true (e.mpr (by omega))];rfl
theorem Mx {xs:List Str}:∀x∈xs.map V.str,I9 x:=fun x h=>by obtain⟨y,_,rfl⟩:=List.mem_map.mp h;trivial
end Hw
namespace L2
open PySem PySem.Spec PyProof.Rows Hw
section
variable {X:Cx}
end
end L2
namespace Hw
open PySem L2
theorem Bo {ys:List Str}(h:ys.Pairwise (fun a b=>lt b a=false))(n:ys.Nodup):ys.Pairwise (fun a b=>lt a b=true):=by
 unfold List.Nodup at n;exact(h.and n).imp fun{a b} ⟨h1,h2⟩=>by
  rcases zY a b with z | z | z
  .exact z
  .exact absurd z h2
  .rw[h1] at z;cases z
theorem qR:∀{xs ys:List Str},xs.Pairwise (fun a b=>lt a b=true)->ys.Pairwise (fun a b=>lt a b=true)->(∀x,x∈xs↔x∈ys)->xs=ys
 |[],[],_,_,_=>rfl
 |[],y::_,_,_,h=>absurd ((h y).mpr (List.mem_cons_self ..)) (fun z=>nomatch z)
 |x::_,[],_,_,h=>absurd ((h x).mp (List.mem_cons_self ..)) (fun z=>nomatch z)
 |x::xs,y::ys,p,q,h=>by
  obtain⟨px,p'⟩:=List.pairwise_cons.mp p;obtain⟨qy,q'⟩:=List.pairwise_cons.mp q;have e:x=y:=by
   rcases List.mem_cons.mp ((h x).mp (List.mem_cons_self ..)) with z | z
   .exact z
   .rcases List.mem_cons.mp ((h y).mpr (List.mem_cons_self ..)) with u | u
    .exact u.symm
    .have:=lt_trans (px y u) (qy x z);rw[vO] at this;cases this
  subst e;have t:xs=ys:=qR p' q' fun z=>by
   constructor
   .intro hz;rcases List.mem_cons.mp ((h z).mp (List.mem_cons_of_mem _ hz)) with u | u
    .subst u;have:=px z hz;rw[vO] at this;cases this
    .exact u
   .intro hz;rcases List.mem_cons.mp ((h z).mpr (List.mem_cons_of_mem _ hz)) with u | u
    .subst u;have:=qy z hz;rw[vO] at this;cases this
    .exact u
  rw[t]
end Hw
namespace L2
open PySem PySem.Spec PyProof.Rows Hw
section
variable {X:Cx}
end
end L2
namespace Hw
open PySem L2
end Hw
namespace PySem.W
open PySem PySem.Spec PySem.Calls PyProof.Rows
structure Ji (K:Frag)(D:Addr):Prop where
 ga:findIn K (.ref D) "__getattribute__"=some (some (.builtin "BaseException.__getattribute__"))
 no:findIn K (.ref D) "__getattr__"=some none
 ca:findIn K (.ref D) "__class__"=some (some (.builtin "object.__class__"))
 gt:specialIn K (.builtin "object.__class__") "__get__"=some (some (.builtin "getset_descriptor.__get__"))
 tk:takesIn K (.builtin "object.__class__")=some true
 ob:mroIn K D (.type "object")=some true
 be:subIn K (.ref D) (.type "BaseException")=some true
 cl:(clsIn K D).isSome=true
section
variable {prog:Program}{w:World}{A:Around}{E:Value->Shared->Prop}{K:Frag}{x D:Addr}{ox:Obj}
end
end PySem.W
namespace L2
open PySem PySem.Spec PyProof.Rows
section
variable {X:Cx}{a C:Addr}{oe:Obj}
theorem GF (hc:oe.cls=.ref C)(hd:∃vs,oe.data=.fields vs)(hn:oe.dict=none){h:Heap}(ha:h.get? a=some oe):PySem.W.InstAt h a oe C none:=by
 obtain⟨vs,hd⟩:=hd;refine⟨ha,hc,?_,by rw[hn];trivial⟩;unfold PySem.W.notCls;rw[hd]
end
end L2
namespace PySem
section
variable {M:Model}{A:Around}{E:Value->Shared->Prop}
variable {nm q nm' q':Str}{C N W N':Addr}{bs bm bs' bm':List Value}{hdct TV:Bool}{sn sn':List Str}{sub sub':List Value}{ab ab':Bool}{col col':Option Bool}{dd Ox:Option Addr}{k0 k1 k2 k3 k5 j0 j1 j2 j3 j5:Option Value}{newId newId':String}
theorem WU {h:Heap}{g:Array GenState}{d:Drawn}{t:Nat}{os:OsState}{e:Addr}{oe:Obj}{Q:Bool->Shared->Prop}
  (hC:h.get? C=some (excClassObj nm q C N bs bm hdct sn sub ab col dd k0 k1 k2 k3 k5 newId)) (hW:h.get? W=some (excClassObj nm' q' W N' bs' bm' TV sn' sub' ab' col' Ox j0 j1 j2 j3 j5 newId'))
  (he:h.get? e=some oe) (hcls:oe.cls=.ref C) (hb:bm'.contains (.type "BaseException")=true) (hin:(Value.ref C::bm).contains (.ref W)=true)
  (hq:Q true ⟨h,g,d,t,os⟩):wpAny M A (excMatches (.ref e) (.ref W)) Q E ⟨h,g,d,t,os⟩:=by
 have c1:(Value.ref W::bm').contains (.type "BaseException")=true:=by rw[List.contains_cons,hb,Bool.or_true]
 have f:=tc_notTuple;unfold excMatches
 repeat (first | (with_reducible refine wpAny_loadPart_at he ?_;rw[hcls]) | with_reducible refine wpAny_loadPart_at hW ?_ | (with_reducible refine wpAny_isSubtype_exc hW ?_;rw[c1]) | (with_reducible refine wpAny_isSubtype_exc hC ?_;rw[hin]) | wp_step)
 exact hq
end
section
variable {M:Model}{A:Around}{E:Value->Shared->Prop}{s:Shared}{base:Heap}{env:Env}{outer:List Env}{L a C:Addr}{oe:Obj}{vs:Array Value}
end
end PySem
namespace L2
open PySem PySem.Spec PyProof.Rows
noncomputable def Cx.tr (X:Cx)(pn:List (Addr×Obj))(xe:Value->Shared->Prop):Cx:={X with pn:=pn,xe:=xe }
noncomputable def Cx.suite (X:Cx)(a:Addr)(pn:List (Addr×Obj)):Cx:={X with A:=X.A.mark (some (.ref a)),calm:=false,pn:=pn,xe:=fun _ _=>False }
section
variable {X:Cx}{pn:List (Addr×Obj)}{xe:Value->Shared->Prop}{vy kg:List (Addr×Obj)}{U:St}{H:Hp}{s:Shared}{a:Addr}
theorem a4W (o:X.Ok):(X.tr pn xe).Ok:=⟨o.mod,o.kind,o.glob,o.blt,o.above,o.inj,o.has,o.Uh,o.hd,o.frames,o.stk,o.XD,o.bs,o.IX,o.BJ,o.Cg,o.nS,o.Ov⟩
theorem a0Y (o:(X.tr pn xe).Ok):X.Ok:=⟨o.mod,o.kind,o.glob,o.blt,o.above,o.inj,o.has,o.Uh,o.hd,o.frames,o.stk,o.XD,o.bs,o.IX,o.BJ,o.Cg,o.nS,o.Ov⟩
theorem a4X (o:X.Ok):(X.suite a pn).Ok:=⟨o.mod,o.kind,o.glob,o.blt,o.above,o.inj,o.has,o.Uh,(fun z=>nomatch z),o.frames,o.stk,o.XD,o.bs,o.IX,o.BJ,o.Cg,o.nS,o.Ov⟩
theorem a11 (I:Inv X vy U H s)(h:∀p∈pn++kg,p∈X.pn++vy):Inv (X.tr pn xe) kg U H s:=⟨a4W I.ok,I.os,I.bare,I.base,I.loc,I.cell,I.free,I.iy,fun p hp=>I.pin p (h p hp),I.hok,I.len⟩
theorem v5 (I:Inv (X.tr pn xe) kg U H s)(h:∀p∈X.pn++vy,p∈pn++kg):Inv X vy U H s:=⟨a0Y I.ok,I.os,I.bare,I.base,I.loc,I.cell,I.free,I.iy,fun p hp=>I.pin p (h p hp),I.hok,I.len⟩
theorem TQ {oe:Obj}(I:Inv X vy U H s)(ha:s.heap.get? a=some oe)(hf:H a=none)(hl:a≠X.env.locals)(hn:a∉X.fs)(hd:∀v,oe.data≠.cell v):Inv (X.suite a ((a,oe)::(X.pn++vy))) [] U H s:=
 ⟨a4X I.ok,I.os,I.bare,I.base,I.loc,I.cell,I.free,I.iy,fun p hp=>by
  rw[List.append_nil] at hp;rcases List.mem_cons.mp (show p∈(a,oe)::(X.pn++vy) from hp) with e | e
  .subst e;exact⟨ha,hf,hl,hn,hd⟩
  .exact I.pin p e,I.hok,I.len⟩
theorem Inv.forget {a:Addr}{pn':List (Addr×Obj)}{h':Heap}{t':Nat}{m':Str->Option Value}(o:X.Ok)(I:Inv (X.suite a pn') [] U H s)(hp:∀p∈X.pn++vy,p∈pn')(hn:h'.Ns X.env.locals m')(sb:Heap.SameBut X.env.locals s.heap h') :
  Inv X vy (List.replicate X.N.length none) H {s with heap:=h',toks:=t' }:=by
 have kp:∀b u,b≠X.env.locals->s.heap.get? b=some u->h'.get? b=some u:=fun b u nb q=>(sb.2 b nb).trans q;have ab:∀b u,X.s₀.heap.get? b=some u->b≠X.env.locals:=fun b u q z=>by
  have l1:=Heap.lt_size q;have l2:X.s₀.heap.objs.size<=X.env.locals:=o.above;rw[z] at l1;exact Nat.lt_irrefl _ (Nat.lt_of_lt_of_le l1 l2)
 have B:=I.base;refine⟨o,I.os,I.bare,⟨fun b u q n nf nx=>kp b u (ab b u q) (B.keep b u q n nf nx),fun b u q n inf nx=>?_,fun b u q n nx=>B.free b u q n nx,fun b u q nx=>?_,B.tups,B.nU,B.pF⟩,⟨m',hn,fun i x v _ e=>?_⟩,fun x c e=>?_,I.free,I.iy,fun p hp'=>?_,I.hok.MN fun b u hb q=>kp b u (fun z=>hb (z ▸ I.free)) q,List.length_replicate ..⟩
 .obtain⟨sl,e⟩:=B.slot b u q n inf nx;exact⟨sl,kp b _ (ab b u q) e⟩
 .obtain⟨o',e⟩:=B.there b u q nx;exact⟨o',kp b _ (ab b u q) e⟩
 .rw[List.getElem?_replicate] at e;split at e<;>cases e
 .obtain⟨v,oc,h1,h2⟩:=I.cell x c e;exact⟨v,oc,kp c _ (I.Ud x c e) h1,h2⟩
 .obtain⟨h1,h2,h3,h4,h5⟩:=I.pin p (by rw[List.append_nil];exact hp p hp');exact⟨kp _ _ h3 h1,h2,h3,h4,h5⟩
end
section
variable {X:Cx}{C W fI fW:Addr}{bm Jh:List Value}{xc n:Str}{i:Nat}{np hpos pos:Pos}{body:List Stmt}{b₀:Stmt}{suite:List Stmt}{tb:XK->TS}{ts:Addr->TS}
end
end L2
namespace Hw
open PySem L2
end Hw
namespace L2
open PySem PySem.Spec PyProof.Rows Hw
section
variable {X:Cx}{C:Addr}{k:Nat}{m:Str}{pos BM:Pos}{o:Expr}{ta:TE}{ul:Cz}{ps:List Str}{sp:Nat->Sp}{E:XK}
end
end L2
namespace Hw
open PySem L2
section
variable {xs:List Str}{H H' H'':Hp}{d l P:Addr}{us:List V}{cs:List Cd}
end
end Hw
namespace L2
open PySem PySem.Spec PyProof.Rows
end L2
namespace Hw
open PySem L2
end Hw
namespace L2
open PySem PySem.Spec PyProof.Rows Hw
section
variable {X:Cx}{k:Nat}{m:Str}{pos BM:Pos}{o:Expr}{ta:TE}{QR:Cy}{ps:List Str}{sp:Nat->Sp}
end
end L2
namespace Hw
open PySem L2
end Hw
namespace L2
open PySem PySem.Spec PyProof.Rows
noncomputable def notStar:Expr->Bool
 |.Starred ..=>false
 |_=>true
theorem dG {e:Expr}{es:List Expr}{env:Env}(h:notStar e=true):starEach (e::es) env=(false,eval e env)::starEach es env:=by
 cases e<;>first | rfl | cases h
theorem dI {pos:Pos}{env:Env}:∀{es:List Expr},es.all notStar=true->(backTo pos (starEach es env)).any (·.1)=false
 |[],_=>rfl
 |e::es,h=>by
  have h:(notStar e&&es.all notStar)=true:=h;rw[Bool.and_eq_true] at h;rw[dG h.1];show(false||(backTo pos (starEach es env)).any (·.1))=false;rw[dI h.2];rfl
theorem uS {pos:Pos}{env:Env}:∀{es:List Expr},es.all notStar=true->(backTo pos (starEach es env)).all (fun x=>!x.1)=true
 |[],_=>rfl
 |e::es,h=>by
  have h:(notStar e&&es.all notStar)=true:=h;rw[Bool.and_eq_true] at h;rw[dG h.1];show(true&&(backTo pos (starEach es env)).all (fun x=>!x.1))=true;rw[uS h.2];rfl
section
variable {X:Cx}{CX:E4}{k:Nat}{f C:Addr}{fd:FuncData}{ps:List Str}{sp:Sp}{xg:List V}{ds:List Value}{E:XK}{x:Str}{p pos:Pos}{e:Expr}{es:List Expr}{te:TE}{t:TA}
theorem L7 (ha:PE X e te)(hr:PA X es t)(h:autoParam (notStar e=true) zi):PA X (e::es) (Kw te t):=jS ha hr (dG h)
theorem Bx (F:aL X.prog X.w X.K X.mg X.base CX k f fd ps sp)(hr:bV k X.A)(hg:Gl X x)(hm:X.mg x=some (.ref f))(hk:PySem.W.keepIn X.K (.ref f)=true)(hb:Binds X.K fd ps ds)(hd:Vals xg ds)(hx:Passes CX X E)
  (ha:PA X (e::es) t) (h1:autoParam (notStar e=true) zi) (h2:autoParam (es.all notStar=true) zi) (hdb:autoParam ((x==("__debug__":Str))=false) zn):PE X (.Call (.Name x p) (e::es) [] pos) (KA sp xg E t):=
 Qe F hr hg hm hk hb hd hx ha hdb (dG h1) (dI h2)
theorem Bw (M:Mk X.K C f)(F:aL X.prog X.w X.K X.mg X.base CX k f fd ps sp)(hr:bV (k+1) X.A)(hg:Gl X x)(hm:X.mg x=some (.ref C))(hb:Binds X.K fd ps ds)(hd:Vals xg ds)(hx:Passes CX X E)
  (ha:PA X (e::es) t) (h1:autoParam (notStar e=true) zi) (h2:autoParam (es.all notStar=true) zi) (hdb:autoParam ((x==("__debug__":Str))=false) zn):PE X (.Call (.Name x p) (e::es) [] pos) (Sq C sp xg E t):=
 P6 M F hr hg hm hb hd hx ha hdb (dG h1) (dI h2)
theorem HR {id:String}{r:List V->Hp->VK->Prop}(hc:eS X (.builtin id) r)(hg:Gl X x)(hm:X.mg x=none)(hv:bootBuiltins x=some (.builtin id))(ha:PA X (e::es) t)(h1:autoParam (notStar e=true) zi)(h2:autoParam (es.all notStar=true) zi)(hn:autoParam (x≠"__name__") zn)(hdb:autoParam ((x==("__debug__":Str))=false) zn) :
  PE X (.Call (.Name x p) (e::es) [] pos) (Zz r t):=LZ hc hg hm hv ha hn hdb (dG h1) (dI h2)
theorem DS {T:String}{r:List V->Hp->VK->Prop}(hc:eS X (.type T) r)(hg:Gl X x)(hm:X.mg x=none)(hv:bootBuiltins x=some (.type T))(ha:PA X (e::es) t)(h1:autoParam (notStar e=true) zi)(h2:autoParam (es.all notStar=true) zi)(hn:autoParam (x≠"__name__") zn)(hdb:autoParam ((x==("__debug__":Str))=false) zn) :
  PE X (.Call (.Name x p) (e::es) [] pos) (Zz r t):=HQ hc hg hm hv ha hn hdb (dG h1) (dI h2)
theorem Wl {T id:String}{name:Str}{r:V->List V->Hp->VK->Prop}{o:Expr}{to:TE}{BM cpos:Pos}(pa:PlainAttrs T)(slot:Slot T name id)(hty:typeOf (.builtin id)=pure (.type "method_descriptor"))(hm:qH X id r)(ho:PE X o to)(ha:PA X (e::es) t)
  (h1:autoParam (notStar e=true) zi) (h2:autoParam (es.all notStar=true) zi) (h3:autoParam (es.length<20) zn) (Ap:autoParam (attributeBase o name X.env (eval o X.env)=eval o X.env) zi) (B1:autoParam ((BM.endLine==cpos.line)=true) zi) :
  PE X (.Call (.Attribute o name BM) (e::es) [] cpos) (tBM X.K T r to t):=
 a0P pa slot hty hm ho ha Ap (by
  rw[uS (show(e::es).all notStar=true by show(notStar e&&es.all notStar)=true;rw[h1,h2];rfl)];show(true&&true&&decide (es.length+1+0+0<30))=true;rw[decide_eq_true (by omega)];rfl) B1 (dG h1) (dI h2)
end
end L2
namespace Hw
open PySem L2
section
variable {H0 H H':Hp}{d p q a1 a2 a3 a4:Addr}{o:Own}{us:List V}{hs:List Hl}
end
end Hw
namespace L2
open PySem PySem.Spec PyProof.Rows
end L2
namespace Hw
open PySem L2
end Hw
namespace PySem
open Sem (wp)
open Builtin
section
variable {prog:Program}{w:World}{A:Around}{E:Value->Shared->Prop}{h:Heap}{g:Array GenState}{d:Drawn}{t:Nat}{os:OsState}{K:W.Frag}{C x:Addr}{o:Obj}
end
end PySem
namespace L2
open PySem PySem.Spec PyProof.Rows
end L2
namespace Hw
open PySem L2
section
variable {QR:Cy}{G G':Hp}{tt pg pc pb pl:Addr}{us ws:List V}{hs:List Hl}{c:Cd}{h0:Hl}{u0:V}
end
end Hw
namespace PySem
open L2
section
variable {prog:Program}{w:World}{A:Around}{E:Value->Shared->Prop}{s:Shared}
end
end PySem
namespace L2
open PySem PySem.Spec PyProof.Rows Hw
section
variable {X:Cx}
end
end L2
namespace PySem
open L2 PyProof.Rows
section
variable {prog:Program}{w:World}{A:Around}{E:Value->Shared->Prop}{s:Shared}
end
end PySem
namespace L2
open PySem PySem.Spec PyProof.Rows Hw
section
variable {X:Cx}
end
end L2
namespace PySem
section
variable {M:Model}{A:Around}{E:Value->Shared->Prop}{s:Shared}{base:Heap}{env:Env}{outer:List Env}{L a C T:Addr}{z:Value}
end
end PySem
namespace L2
open PySem PySem.Spec PyProof.Rows
section
variable {prog:Program}{w:World}{A:Around}{R:Result->Shared->Prop}{s:Shared}
end
section
variable {X:Cx}{sc:Scope}{cl:List (Str×Addr)}{own:Nat}{N:List Str}{fr:List Nat}
end
section
variable {P:Program}{w:World}{K:PySem.W.Frag}{mg:Str->Option Value}{base:Heap}{N:List Str}{qual:Str}{scope:Scope}{f TM:Addr}{cd:Value}{A:Around}{outer:List Env}{s:Shared}{H:Hp}{E:XK}
end
section
variable {P:Program}{w:World}{K:PySem.W.Frag}{mg:Str->Option Value}{base:Heap}{N0:List Str}{qual:Str}{scope:Scope}{f00 TM:Addr}{cd:Value}{A:Around}{outer:List Env}{s0:Shared}{H00:Hp}{E:XK}{sc:Scope}{cl:List (Str×Addr)}{own:Nat}{N:List Str}{fr:List Nat}
end
end L2
namespace Hw
open PySem L2
end Hw
namespace L2
open PySem PySem.Spec PyProof.Rows Hw
section
variable {X:Cx}{k:Nat}{m:Str}{pos BM:Pos}{o:Expr}{ta:TE}{QR:Cy}{ps:List Str}{sp:Nat->Sp}
noncomputable def Pk:V->List V->Hp->VK->Prop:=fun x vs H Q=>∃a b,x=.str a/\vs=[.str b]/\Q (.bl (Txt.startswith a b)) H
theorem Il:qH X "str.startswith" Pk:=by
 intro vy s U H x vs v us Q I rx rv h;obtain⟨a,b,rfl,rfl,q⟩:=h;obtain⟨t,rfl⟩:=rx;obtain⟨u,rfl,ru⟩:=rv.one;obtain⟨t2,rfl⟩:=ru;exact PySem.SC.startswith ⟨.bl _,H,I,rfl,q⟩
end
end L2
namespace Hw
open PySem L2
section
variable {QR:Cy}{H:Hp}{s:Yx}{p:Addr}
end
section
variable {QR:Cy}{H H':Hp}
end
section
variable {ul:Cz}{Bk Db:Addr}{H H':Hp}{b F:Addr}{pg:V}{ds:List V}{dd:List Dt}
end
section
variable {N:List Str}{QR:Cy}{H:Hp}{s:Yx}{p:Addr}
end
end Hw
namespace PySem
open L2
end PySem
namespace PySem
open L2
section
variable {prog:Program}{w:World}{A:Around}{E:Value->Shared->Prop}{s:Shared}
end
end PySem
namespace PySem
open L2
section
variable {prog:Program}{w:World}{A:Around}{E:Value->Shared->Prop}{s:Shared}
end
end PySem
namespace L2
open PySem PySem.Spec PyProof.Rows Hw
section
variable {X:Cx}
end
end L2
namespace PySem
open Sem (wp)
section
variable {prog:Program}{w:World}{A:Around}{E:Value->Shared->Prop}{s:Shared}
end
end PySem
namespace L2
open PySem PySem.Spec PyProof.Rows Hw
section
variable {X:Cx}
end
section
variable {X:Cx}{l:Expr}{tl:TE}{p pos:Pos}
end
end L2
namespace PySem
open Sem (wp)
section
variable {prog:Program}{w:World}{A:Around}{E:Value->Shared->Prop}{s:Shared}{z ti tw i1 i2:Addr}{f1 f2:List Addr}{n1 n2 k:Nat}{P1 P2:Nat->Value->Prop}{S1 S2:Nat->Heap->Prop}{a b:Value}
end
end PySem
namespace PySem
section
variable {prog:Program}{w:World}{A:Around}{E:Value->Shared->Prop}{s:Shared}
end
end PySem
namespace L2
open PySem PySem.Spec PyProof.Rows Hw
section
variable {X:Cx}
end
section
variable {X:Cx}{l m:Expr}{p pos:Pos}
end
end L2
namespace Hw
open PySem L2
end Hw
namespace L2
open PySem PySem.Spec PyProof.Rows Hw
end L2
namespace Hw
open PySem L2
end Hw
namespace L2
open PySem PySem.Spec PyProof.Rows Hw
theorem YF {P:Program}{w:World}{K:PySem.W.Frag}{mg:Str->Option Value}{base:Heap}{k:Nat}{m:Str}{C f:Addr}{fd:FuncData}{ps:List Str}{sp:Sp}(a:aL P w K mg base c5 k f fd ps sp)(b:PySem.W.findIn K (.ref C) m=some (some (.ref f)))(e:PySem.W.isFn K (.ref f)=true)(c:PySem.W.keepIn K (.ref f)=true)(d:Binds K fd ps []):Mt P w K mg base k C m ps sp:=⟨f,fd,a,⟨b,e,c⟩,d⟩
theorem Gv {P:Program}{w:World}{K:PySem.W.Frag}{mg:Str->Option Value}{base:Heap}{k:Nat}{C f:Addr}{fd:FuncData}{ps:List Str}{sp:Sp}(a:aL P w K mg base c5 k f fd ps sp)(m:PySem.W.makesIn K C=true)(b:PySem.W.findIn K (.ref C) "__init__"=some (some (.ref f)))(e:PySem.W.isFn K (.ref f)=true)(c:PySem.W.keepIn K (.ref C)=true)(d:Binds K fd ps []):Mr P w K mg base k C ps sp:=⟨f,fd,a,⟨m,b,e,c⟩,d⟩
end L2
namespace Hw
open PySem L2
end Hw
namespace L2
open PySem PySem.Spec PyProof.Rows Hw
end L2
namespace Hw
open PySem L2
end Hw
namespace L2
open PySem PySem.Spec PyProof.Rows PySem.Builtin PySem.Builtin.Str
section
variable {X:Cx}
theorem rR:∀l:List (Str×Tok),Vals ((l.map (·.1)).map V.str) (strValues l)
 |[]=>.nil
 |p::r=>.cons ⟨p.2,rfl⟩ (rR r)
theorem A8 {x y:Str}:(Txt.split x y).length<=x.length+2:=by
 unfold Txt.split;split
 .show 1<=_;omega
 .split
  .show 1<=_;omega
  .rw[length_partsBetween];have e1:=StrLaws.occ_length_le x y 0 x.length (x.length+1);omega
noncomputable def VF:V->List V->Hp->VK->Prop:=fun x vs H Q=>∃a b,x=.str a/\vs=[.str b]/\(b.length==0)=false/\a.length+2<=sizeLine/\∀p,H p=none->Q (.ref p) (upd H p (.lst ((Txt.split a b).map V.str)))
theorem MA:qH X "str.split" VF:=by
 intro vy s U H x vs v us Q I rx rv h;obtain⟨a,b,rfl,rfl,hb,hz,q⟩:=h;obtain⟨t,rfl⟩:=rx;obtain⟨u,rfl,ru⟩:=rv.one;obtain⟨t2,rfl⟩:=ru;have fin:∀(l:List (Str×Tok)) (k:Nat),l.map (·.1)=Txt.split a b->EP X vy U Q (.ref s.heap.objs.size) {s with heap:=s.heap.push {cls:=.type "list",data:=.seq (strValues l).toArray },toks:=k }:=fun l k e=>by
  refine⟨.ref s.heap.objs.size,_,I.W0 (ys:=(Txt.split a b).map V.str) (e ▸ rR l) ?_,rfl,q _ I.fresh⟩;rw[List.length_map];have:=A8 (x:=a) (y:=b);omega
 have hn:(partsBetween a (occurrences a b 0 a.length (a.length+1)) b.length).length<=sizeLine:=by
  have e1:=StrLaws.occ_length_le a b 0 a.length (a.length+1);rw[length_partsBetween];omega
 cases h1:(decide (a.length<b.length)||decide (strKind a<strKind b))
 .cases hf:(occurrences a b 0 a.length (a.length+1)).isEmpty
  .refine call_meets F.slot_str_split (typeIs_str _ _ _) F.entry_str_split (F.args_str_split_2 _ _) (meets_str_split_sep a b t t2 h1 hb hf (by omega) hn) ?_;show wants _ _ _ {s with toks:=_,heap:=s.heap.push {cls:=.type "list",data:=.seq (strsFrom s.toks (partsBetween a (occurrences a b 0 a.length (a.length+1)) b.length)).toArray } };rw[strsFrom_eq];exact fin (numbered s.toks _) _ ((numbered_texts _ _).trans ((if_neg (ne_true_of_eq_false h1)).trans (if_neg (ne_true_of_eq_false hf))).symm)
  .exact call_meets F.slot_str_split (typeIs_str _ _ _) F.entry_str_split (F.args_str_split_2 _ _) (meets_str_split_not_found a b t t2 h1 hb hf) (fin [(a,t)] s.toks ((if_neg (ne_true_of_eq_false h1)).trans (if_pos hf)).symm)
 .exact call_meets F.slot_str_split (typeIs_str _ _ _) F.entry_str_split (F.args_str_split_2 _ _) (meets_str_split_cannot_occur a b t t2 h1) (fin [(a,t)] s.toks (if_pos h1).symm)
noncomputable def a0n:V->List V->Hp->VK->Prop:=fun x vs H Q=>∃a b,x=.str a/\vs=[.str b]/\(b.length==0)=false/\a.length<=sizeLine/\∀p,H p=none->Q (.ref p) (upd H p (.tup [.str (Txt.partition a b).1,.str (Txt.partition a b).2.1,.str (Txt.partition a b).2.2]))
theorem QV:qH X "str.partition" a0n:=by
 intro vy s U H x vs v us Q I rx rv h;obtain⟨a,b,rfl,rfl,hb,hz,q⟩:=h;obtain⟨t,rfl⟩:=rx;obtain⟨u,rfl,ru⟩:=rv.one;obtain⟨t2,rfl⟩:=ru;refine call_meets F.slot_str_partition (typeIs_str _ _ _) F.entry_str_partition (F.args_str_partition_2 _ _) (meets_str_partition a b t t2 hb hz) ?_;have fin:∀(x1 x2 x3:Str)(ta tb tc:Tok)(k:Nat),Txt.partition a b=(x1,x2,x3)->EP X vy U Q (.ref s.heap.objs.size) {s with heap:=s.heap.push {cls:=.type "tuple",data:=.seq [.str x1 ta,.str x2 tb,.str x3 tc].toArray },toks:=k }:=fun x1 x2 x3 ta tb tc k e=>by
  rw[e] at q;refine⟨.ref s.heap.objs.size,_,?_,rfl,q _ I.fresh⟩;refine I.laid (fun b o e=>Heap.get?_push_of_some _ e) (Nat.le_refl _) ⟨by simp only[List.length_cons,List.length_nil];rw[sizeLine_eq];decide,[.str x1 ta,.str x2 tb,.str x3 tc],.cons ⟨_,rfl⟩ (.cons ⟨_,rfl⟩ (.cons ⟨_,rfl⟩ .nil)),?_⟩;exact⟨_,Heap.get?_push_size s.heap rfl,rfl,0,rfl⟩
 unfold Txt.partition at fin;revert fin;cases occurrences a b 0 a.length 1 with
 |nil=>intro fin;exact fin _ _ _ _ _ _ _ rfl
 |cons i r=>intro fin;exact fin _ _ _ _ _ _ _ rfl
noncomputable def a4L:V->List V->Hp->VK->Prop:=fun x vs H Q=>∃a b,x=.str a/\vs=[.str b]/\a.length<=sizeLine/\Q (.str (Txt.lstripChars a b)) H
theorem Io:qH X "str.lstrip" a4L:=by
 intro vy s U H x vs v us Q I rx rv h;obtain⟨a,b,rfl,rfl,hz,q⟩:=h;obtain⟨t,rfl⟩:=rx;obtain⟨u,rfl,ru⟩:=rv.one;obtain⟨t2,rfl⟩:=ru;exact SC.lstripChars (fun t' k=>⟨.str _,H,I.tok _,⟨_,rfl⟩,q⟩) hz
noncomputable def a4I:V->List V->Hp->VK->Prop:=fun x vs H Q=>∃a b,x=.str a/\vs=[.str b]/\a.length<=sizeLine/\Q (.str (Txt.rstripChars a b)) H
theorem Im:qH X "str.rstrip" a4I:=by
 intro vy s U H x vs v us Q I rx rv h;obtain⟨a,b,rfl,rfl,hz,q⟩:=h;obtain⟨t,rfl⟩:=rx;obtain⟨u,rfl,ru⟩:=rv.one;obtain⟨t2,rfl⟩:=ru;exact SC.rstripChars (fun t' k=>⟨.str _,H,I.tok _,⟨_,rfl⟩,q⟩) hz
theorem IV:eS X (.type "int") (fun vs H Q=>∃(x:Str)(n:Int),vs=[.str x]/\PySem.intText? x=some n/\x.length<=640/\Q (.int n) H):=by
 intro vy s U H xs us Q I r h;obtain⟨x,n,rfl,hn,hl,q⟩:=h;obtain⟨u,rfl,ru⟩:=r.one;obtain⟨t,rfl⟩:=ru;exact PySem.W.KIN.call_text hn hl ⟨.int n,H,I.tok _,⟨_,rfl⟩,q⟩
noncomputable def a0r:V->List V->Hp->VK->Prop:=fun x vs H Q=>∃(l:Addr)(xs:List V)(y z:V)(j:Nat),x=.ref l/\vs=[y]/\H l=some (.lst xs)/\eN y=true/\xs.all eN=true/\xs[j]?=some z/\yt z y=true/\(∀i,i<j->∀c,xs[i]?=some c->yt c y=false)/\Q (.int j) H
theorem GP {y:V}{xs:List V}{us:List Value}(r:Vals xs us)(f:xs.all eN=true){i:Nat}{z:V}(e:xs[i]?=some z)(hi:i<us.length):Ci y us[i]=yt z y:=by
 obtain⟨u,hu,ru⟩:=r.get e;rw[List.getElem?_eq_getElem hi] at hu;cases hu;exact Ep ru (List.all_eq_true.mp f z (List.mem_of_getElem? e))
theorem QZ:qH X "list.index" a0r:=by
 intro vy s U H x vs v us Q I rx rv h;obtain⟨l,xs,y,z,j,rfl,rfl,hH,fy,fx,hj,hit,hno,q⟩:=h;cases rx;obtain⟨u,rfl,ru⟩:=rv.one;obtain⟨hz,AC,n,r,hl,e⟩:=I.zZ hH;have hjl:j<xs.length:=(List.getElem?_eq_some_iff.mp hj).1;have hs:sizeLine<2 ^ 62:=by rw[sizeLine_eq];decide
 refine call_meets PySem.F.slot_list_index ⟨_,e,rfl⟩ PySem.F.entry_list_index (PySem.F.args_list_index_2 _ _) (SeqAt.list_indexAt l AC.toArray n none #[] u (Ci y) j (by simp;omega) (by omega) ?_ (fun m hm hmj=>?_)) ⟨e,fun w hw=>jh ru fy r fx w (by simpa using hw),?_⟩
 .simp only[List.getElem_toArray];rw[GP r fx hj];exact hit
 .have hm':m<AC.length:=by simpa using hm
  have hx:m<xs.length:=by omega
  simp only[List.getElem_toArray];rw[GP r fx (List.getElem?_eq_getElem hx)];exact hno m hmj _ (List.getElem?_eq_getElem hx)
 .exact⟨.int _,H,I.tok _,⟨_,rfl⟩,q⟩
end
end L2
namespace L3
open PySem L2
inductive T where
 |v (x:V) | tup (l:List T) | lst (l:List T) | Bb (l:List T) | ins (C:Addr) (ns:List Str) (l:List T)
inductive D where
 |t (x:T) | ob (n:Nat)
inductive O where
 |lst (l:List T) | tu (l:List (Key×T)) | wB (ob:Obj) (kvs:List (Key×V)) (l:List (Key×T)) | gh (Y:List Addr) (G:Hp) | ins (C:Addr) (ns:List Str) (l:List D)
abbrev aS:=List O
abbrev Sl:=List (Option D)
abbrev T.int (i:Int):T:=.v (.int i)
abbrev T.str (x:Str):T:=.v (.str x)
abbrev T.bl (b:Bool):T:=.v (.bl b)
abbrev T.cR:T:=.v .cR
abbrev D.int (i:Int):D:=.t (.v (.int i))
abbrev D.str (x:Str):D:=.t (.v (.str x))
abbrev D.bl (b:Bool):D:=.t (.v (.bl b))
abbrev D.cR:D:=.t (.v .cR)
abbrev D.tup (l:List T):D:=.t (.tup l)
abbrev D.lst (l:List T):D:=.t (.lst l)
noncomputable def D.iD:D->Option Int
 |.t (.v (.int i))=>some i
 |_=>none
noncomputable def D.sD:D->Option Str
 |.t (.v (.str i))=>some i
 |_=>none
noncomputable def D.tD:D->Option (List T)
 |.t (.tup i)=>some i
 |_=>none
theorem D.BY {d:D}{i:Int}(h:d.iD=some i):d=.int i:=by
 cases d with
 |ob n=>cases h
 |t x=>cases x with
  |v x=>cases x with
   |int j=>cases h;rfl
   |_=>cases h
  |_=>cases h
theorem D.Bl {d:D}{i:Str}(h:d.sD=some i):d=.str i:=by
 cases d with
 |ob n=>cases h
 |t x=>cases x with
  |v x=>cases x with
   |str j=>cases h;rfl
   |_=>cases h
  |_=>cases h
theorem D.Sv {d:D}{i:List T}(h:d.tD=some i):d=.tup i:=by
 cases d with
 |ob n=>cases h
 |t x=>cases x with
  |tup j=>cases h;rfl
  |_=>cases h
theorem Jf {α:Type}{o:Option α}{n:Prop}{f:α->Prop}(h:o.elim n f):n∨∃a,o=some a/\f a:=by
 cases o with
 |none=>exact .inl h
 |some a=>exact .inr ⟨a,rfl,h⟩
def Le (G G':Hp):Prop:=∀a o,G a=some o->G' a=some o
theorem Le.refl (G:Hp):Le G G:=fun _ _ h=>h
theorem Le.trans {A B C:Hp}(h:Le A B)(k:Le B C):Le A C:=fun a o e=>k a o (h a o e)
theorem a0k {G G':Hp}(h:Le G G'){a:Addr}{u:HO}:Rd G a u->Rd G' a u
 |.inl e=>.inl (h _ _ e)
 |.inr ⟨o,e⟩=>.inr ⟨o,h _ _ e⟩
theorem DC {K:PySem.W.Frag}{G G':Hp}(h:Le G G'){a:Addr}{xs:List V}:jx K G a xs->jx K G' a xs
 |.inl e=>.inl (a0k h e)
 |.inr e=>.inr e
structure fk (K:PySem.W.Frag)(C:Addr)(ns:List Str):Prop where
 cls:R9 K C
 no:∀f∈ns,aN K C f
 ca:PySem.W.findIn K (.ref C) "__class__"=some (some (.builtin "object.__class__"))
 cg:PySem.W.specialIn K (.builtin "object.__class__") "__get__"=some (some (.builtin "getset_descriptor.__get__"))
 ct:PySem.W.takesIn K (.builtin "object.__class__")=some true
 cm:PySem.W.mroIn K C (.type "object")=some true
mutual
def Rp (K:PySem.W.Frag)(G:Hp):T->V->Prop
 |.v x,w=>w=x
 |.tup l,w=>∃a vs,w=.ref a/\G a=some (.tup vs)/\aW K G l vs
 |.lst l,w=>∃a vs,w=.ref a/\G a=some (.lst vs)/\aW K G l vs
 |.Bb l,w=>∃a vs,w=.ref a/\jx K G a vs/\aW K G l vs
 |.ins C ns l,w=>∃a dx vs,w=.ref a/\G a=some (.ins C dx (ns.zip vs))/\ns.length=vs.length/\fk K C ns/\aW K G l vs
def aW (K:PySem.W.Frag)(G:Hp):List T->List V->Prop
 |[],vs=>vs=[]
 |x::r,vs=>∃v vr,vs=v::vr/\Rp K G x v/\aW K G r vr
end
mutual
theorem Rp.le {K:PySem.W.Frag}{G G':Hp}(h:Le G G'):∀{x:T}{w:V},Rp K G x w->Rp K G' x w
 |.v x,w,e=>by unfold Rp at *;exact e
 |.tup l,w,e=>by
  unfold Rp at *;obtain⟨a,vs,e1,e2,e3⟩:=e;exact⟨a,vs,e1,h _ _ e2,aW.le h e3⟩
 |.lst l,w,e=>by
  unfold Rp at *;obtain⟨a,vs,e1,e2,e3⟩:=e;exact⟨a,vs,e1,h _ _ e2,aW.le h e3⟩
 |.Bb l,w,e=>by
  unfold Rp at *;obtain⟨a,vs,e1,e2,e3⟩:=e;exact⟨a,vs,e1,DC h e2,aW.le h e3⟩
 |.ins C ns l,w,e=>by
  unfold Rp at *;obtain⟨a,dx,vs,e1,e2,e3,e4,e5⟩:=e;exact⟨a,dx,vs,e1,h _ _ e2,e3,e4,aW.le h e5⟩
theorem aW.le {K:PySem.W.Frag}{G G':Hp}(h:Le G G'):∀{l:List T}{vs:List V},aW K G l vs->aW K G' l vs
 |[],vs,e=>by unfold aW at *;exact e
 |x::r,vs,e=>by
  unfold aW at *;obtain⟨v,vr,e1,e2,e3⟩:=e;exact⟨v,vr,e1,Rp.le h e2,aW.le h e3⟩
end
section
variable {K:PySem.W.Frag}{G:Hp}
theorem aW.nil:aW K G [] []:=by unfold aW;rfl
theorem aW.cons {x:T}{v:V}{l:List T}{vs:List V}(h:Rp K G x v)(r:aW K G l vs):aW K G (x::l) (v::vs):=by
 unfold aW;exact⟨v,vs,rfl,h,r⟩
theorem aW.len:∀{l:List T}{vs:List V},aW K G l vs->l.length=vs.length
 |[],vs,e=>by unfold aW at e;rw[e];rfl
 |x::r,vs,e=>by
  unfold aW at e;obtain⟨v,vr,e1,_,e3⟩:=e;rw[e1,List.length_cons,List.length_cons,e3.len]
theorem aW.app:∀{l m:List T}{vs ws:List V},aW K G l vs->aW K G m ws->aW K G (l++m) (vs++ws)
 |[],m,vs,ws,e,k=>by unfold aW at e;rw[e];exact k
 |x::r,m,vs,ws,e,k=>by
  unfold aW at e;obtain⟨v,vr,e1,e2,e3⟩:=e;rw[e1];exact .cons e2 (e3.app k)
theorem aW.get:∀{l:List T}{vs:List V}{i:Nat}{x:T},aW K G l vs->l[i]?=some x->∃v,vs[i]?=some v/\Rp K G x v
 |[],vs,i,x,e,k=>by simp at k
 |y::r,vs,0,x,e,k=>by
  unfold aW at e;obtain⟨v,vr,e1,e2,e3⟩:=e;simp at k;subst k;exact⟨v,by rw[e1];rfl,e2⟩
 |y::r,vs,i+1,x,e,k=>by
  unfold aW at e;obtain⟨v,vr,e1,e2,e3⟩:=e;obtain⟨u,h1,h2⟩:=e3.get (i:=i) (x:=x) (by simpa using k);exact⟨u,by rw[e1];simpa using h1,h2⟩
theorem aW.tk:∀{l:List T}{vs:List V}(n:Nat),aW K G l vs->aW K G (l.take n) (vs.take n)
 |_,_,0,_=>by simp;exact .nil
 |[],vs,n+1,e=>by unfold aW at e;rw[e];simp;exact .nil
 |y::r,vs,n+1,e=>by
  unfold aW at e;obtain⟨v,vr,e1,e2,e3⟩:=e;rw[e1,List.take_succ_cons,List.take_succ_cons];exact .cons e2 (e3.tk n)
theorem aW.dp:∀{l:List T}{vs:List V}(n:Nat),aW K G l vs->aW K G (l.drop n) (vs.drop n)
 |_,_,0,e=>by simpa using e
 |[],vs,n+1,e=>by unfold aW at e;rw[e];simp;exact .nil
 |y::r,vs,n+1,e=>by
  unfold aW at e;obtain⟨v,vr,e1,e2,e3⟩:=e;rw[e1,List.drop_succ_cons,List.drop_succ_cons];exact e3.dp n
theorem aW.nM:∀{ns:List Str}{vs:List V}{f:Str},f∉ns->(ns.zip vs).lookup f=none
 |[],vs,f,_=>by simp
 |n::ns,[],f,_=>by simp
 |n::ns,v::vs,f,h=>by
  rw[List.zip_cons_cons,List.lookup_cons];have q:(f==n)=false:=by
   cases q:(f==n) with
   |false=>rfl
   |true=>exact absurd (List.mem_cons.mpr (.inl (eq_of_beq q))) h
  rw[q];exact aW.nM fun z=>h (List.mem_cons_of_mem _ z)
end
theorem mh:∀{l:List Addr}{i j:Nat}{a:Addr},l.Nodup->l[i]?=some a->l[j]?=some a->i=j
 |[],_,_,_,_,h,_=>by simp at h
 |x::r,0,0,_,_,_,_=>rfl
 |x::r,0,j+1,a,nd,h,k=>by
  simp at h k;subst h;exact absurd (List.mem_of_getElem? k) (List.nodup_cons.mp nd).1
 |x::r,i+1,0,a,nd,h,k=>by
  simp at h k;subst k;exact absurd (List.mem_of_getElem? h) (List.nodup_cons.mp nd).1
 |x::r,i+1,j+1,a,nd,h,k=>congrArg (·+1) (mh (l:=r) (List.nodup_cons.mp nd).2 (by simpa using h) (by simpa using k))
noncomputable def res (Y:List Addr)(H:Hp):Hp:=fun a=>if a∈Y then none else H a
def g9 (K:PySem.W.Frag)(Y:List Addr)(G:Hp):D->V->Prop
 |.t x,w=>Rp K G x w
 |.ob n,w=>∃a,Y[n]?=some a/\w=.ref a
noncomputable def dH (K:PySem.W.Frag)(Y:List Addr)(G:Hp):List D->List V->Prop:=Paired (g9 K Y G)
def EK (K:PySem.W.Frag)(Y:List Addr)(G:Hp)(h:Option HO):O->Prop
 |.lst l=>∃vs,h=some (.lst vs)/\aW K G l vs
 |.tu l=>∃kvs,h=some (.dK kvs)/\Paired (fun(p:Key×T) (q:Key×V)=>p.1=q.1/\Rp K G p.2 q.2) l kvs
 |.wB ob kvs l=>h=some (.rq ob (.dK kvs))/\Paired (fun(p:Key×T) (q:Key×V)=>p.1=q.1/\Rp K G p.2 q.2) l kvs
 |.ins C ns l=>∃dx vs,h=some (.ins C dx (ns.zip vs))/\ns.length=vs.length/\fk K C ns/\dH K Y G l vs
 |.gh ρ0 G0=>(∃u,h=some u)/\(∀(n:Nat)(a:Addr),ρ0[n]?=some a->Y[n]?=some a)/\Le G0 G
structure R3 (K:PySem.W.Frag)(Y:List Addr)(S:aS)(H:Hp):Prop where
 len:Y.length=S.length
 nd:Y.Nodup
 ok:∀(n:Nat)(a:Addr)(o:O),Y[n]?=some a->S[n]?=some o->EK K Y (res Y H) (H a) o
structure Gr (Y:List Addr)(H:Hp)(Y':List Addr)(H':Hp):Prop where
 ext:∃e,Y'=Y++e
 le:Le (res Y H) (res Y' H')
theorem Gr.refl {Y:List Addr}{H:Hp}:Gr Y H Y H:=⟨⟨[],by simp⟩,Le.refl _⟩
theorem Gr.trans {Y Y' Y'':List Addr}{H H' H'':Hp}(a:Gr Y H Y' H')(b:Gr Y' H' Y'' H''):Gr Y H Y'' H'':=by
 obtain⟨e,rfl⟩:=a.ext;obtain⟨f,rfl⟩:=b.ext;exact⟨⟨e++f,by simp⟩,a.le.trans b.le⟩
theorem Gr.at {Y Y':List Addr}{H H':Hp}(a:Gr Y H Y' H'){n:Nat}{x:Addr}(h:Y[n]?=some x):Y'[n]?=some x:=by
 obtain⟨e,rfl⟩:=a.ext;have hl:n<Y.length:=(List.getElem?_eq_some_iff.mp h).1;rw[List.getElem?_append_left hl];exact h
section
variable {K:PySem.W.Frag}{Y Y':List Addr}{G G' H H':Hp}
theorem g9.le' (he:∀(n:Nat)(a:Addr),Y[n]?=some a->Y'[n]?=some a)(h:Le G G'):∀{d:D}{w:V},g9 K Y G d w->g9 K Y' G' d w
 |.t x,w,e=>Rp.le h e
 |.ob n,w,⟨a,e1,e2⟩=>⟨a,he n a e1,e2⟩
theorem g9.gr (g:Gr Y H Y' H'){d:D}{w:V}(e:g9 K Y (res Y H) d w):g9 K Y' (res Y' H') d w:=g9.le' (fun _ _=>g.at) g.le e
theorem dN {α β:Type}{F F':α->β->Prop}(h:∀a b,F a b->F' a b):∀{l:List α}{m:List β},Paired F l m->Paired F' l m
 |_,_,.nil=>.nil
 |_,_,.cons r t=>.cons (h _ _ r) (dN h t)
theorem dH.gr (g:Gr Y H Y' H'){l:List D}{w:List V}(e:dH K Y (res Y H) l w):dH K Y' (res Y' H') l w:=dN (fun _ _=>g9.gr g) e
theorem dH.t:∀{l:List T}{vs:List V},dH K Y G (l.map .t) vs->aW K G l vs
 |[],_,.nil=>.nil
 |_::_,_,.cons r t=>.cons r (dH.t t)
theorem dH.of:∀{l:List T}{vs:List V},aW K G l vs->dH K Y G (l.map .t) vs
 |[],vs,e=>by unfold aW at e;subst e;exact .nil
 |x::r,vs,e=>by
  unfold aW at e;obtain⟨v,vr,e1,e2,e3⟩:=e;subst e1;exact .cons e2 (dH.of e3)
theorem EK.le' (he:∀(n:Nat)(a:Addr),Y[n]?=some a->Y'[n]?=some a)(h:Le G G'){x:Option HO}:∀{o:O},EK K Y G x o->EK K Y' G' x o
 |.lst l,⟨vs,e1,e2⟩=>⟨vs,e1,e2.le h⟩
 |.tu l,⟨vs,e1,e2⟩=>⟨vs,e1,dN (fun _ _ z=>⟨z.1,z.2.le h⟩) e2⟩
 |.wB ob vs l,⟨e1,e2⟩=>⟨e1,dN (fun _ _ z=>⟨z.1,z.2.le h⟩) e2⟩
 |.gh ρ0 G0,⟨e1,e2,e3⟩=>⟨e1,fun n a z=>he n a (e2 n a z),e3.trans h⟩
 |.ins C ns l,⟨dx,vs,e1,e2,e3,e4⟩=>⟨dx,vs,e1,e2,e3,dN (fun _ _=>g9.le' he h) e4⟩
theorem EK.some {x:Option HO}:∀{o:O},EK K Y G x o->∃u,x=some u
 |.lst l,⟨vs,e1,e2⟩=>⟨_,e1⟩
 |.tu l,⟨vs,e1,e2⟩=>⟨_,e1⟩
 |.wB ob vs l,⟨e1,e2⟩=>⟨_,e1⟩
 |.gh _ _,⟨e1,_⟩=>e1
 |.ins C ns l,⟨dx,vs,e1,e2,e3,e4⟩=>⟨_,e1⟩
theorem res_some {a:Addr}{o:HO}(h:res Y H a=some o):a∉Y/\H a=some o:=by
 unfold res at h;split at h
 .cases h
 .exact⟨by assumption,h⟩
theorem kM {a:Addr}{o:HO}(n:a∉Y)(h:H a=some o):res Y H a=some o:=by unfold res;rw[if_neg n];exact h
theorem Pf:res [] H=H:=by funext a;unfold res;rw[if_neg (by simp)]
end
section
variable {K:PySem.W.Frag}{Y:List Addr}{S:aS}{H:Hp}
theorem R3.tracked (r:R3 K Y S H){a:Addr}(h:a∈Y):∃u,H a=some u:=by
 obtain⟨n,hn⟩:=List.mem_iff_getElem?.mp h;have hl:n<S.length:=by rw[<- r.len];exact(List.getElem?_eq_some_iff.mp hn).1
 exact(r.ok n a S[n] hn (List.getElem?_eq_getElem hl)).some
theorem R3.fresh (r:R3 K Y S H){p:Addr}(h:H p=none):p∉Y:=fun z=>by
 obtain⟨u,e⟩:=r.tracked z;rw[h] at e;cases e
theorem R3.new (r:R3 K Y S H){p:Addr}{o:HO}(h:H p=none):R3 K Y S (upd H p o)/\Gr Y H Y (upd H p o)/\res Y (upd H p o) p=some o:=by
 have np:=r.fresh h;have le:Le (res Y H) (res Y (upd H p o)):=fun a u e=>by
  obtain⟨e1,e2⟩:=res_some e;refine kM e1 ?_;rw[aH (aR e2 h)];exact e2
 refine⟨⟨r.len,r.nd,fun n a u e1 e2=>?_⟩,⟨⟨[],by simp⟩,le⟩,kM np cS⟩;have q:=r.ok n a u e1 e2;obtain⟨x,ex⟩:=q.some;rw[aH (aR ex h)];exact q.le' (fun _ _ z=>z) le
theorem R3.push (r:R3 K Y S H){p:Addr}{o:HO}{u:O}(h:H p=none)(hu:EK K (Y++[p]) (res Y H) (some o) u):R3 K (Y++[p]) (S++[u]) (upd H p o)/\Gr Y H (Y++[p]) (upd H p o):=by
 have np:=r.fresh h;have le:Le (res Y H) (res (Y++[p]) (upd H p o)):=fun a u e=>by
  obtain⟨e1,e2⟩:=res_some e;have ne:=aR e2 h;refine kM (fun z=>?_) ?_
  .rcases List.mem_append.mp z with z | z
   .exact e1 z
   .exact ne (List.mem_singleton.mp z)
  .rw[aH ne];exact e2
 have he:∀(n:Nat)(a:Addr),Y[n]?=some a->(Y++[p])[n]?=some a:=fun n a e=>by
  rw[List.getElem?_append_left (List.getElem?_eq_some_iff.mp e).1];exact e
 refine⟨⟨by simp[r.len],?_,fun n a x e1 e2=>?_⟩,⟨⟨[p],rfl⟩,le⟩⟩
 .rw[List.nodup_append];refine⟨r.nd,by simp,fun a ha b hb=>?_⟩;rw[List.mem_singleton.mp hb];exact fun z=>np (z ▸ ha)
 .by_cases hn:n<Y.length
  .rw[List.getElem?_append_left hn] at e1;rw[List.getElem?_append_left (by rw[<- r.len];exact hn)] at e2;have q:=r.ok n a x e1 e2;obtain⟨y,ey⟩:=q.some;rw[aH (aR ey h)];exact q.le' he le
  .have hn':n=Y.length:=by
    have:=(List.getElem?_eq_some_iff.mp e1).1;rw[List.length_append,List.length_singleton] at this;omega
   subst hn';rw[List.getElem?_append_right (Nat.le_refl _),Nat.sub_self] at e1;rw[List.getElem?_append_right (by rw[r.len];exact Nat.le_refl _),r.len,Nat.sub_self] at e2;cases e1;cases e2;rw[cS];exact hu.le' (fun _ _ z=>z) le
theorem R3.put (r:R3 K Y S H){n:Nat}{a:Addr}{o:HO}{u:O}(ha:Y[n]?=some a)(hu:EK K Y (res Y H) (some o) u):R3 K Y (S.set n u) (upd H a o)/\Gr Y H Y (upd H a o):=by
 have hm:a∈Y:=List.mem_of_getElem? ha;have le:Le (res Y H) (res Y (upd H a o)):=fun b u e=>by
  obtain⟨e1,e2⟩:=res_some e;refine kM e1 ?_;rw[aH (fun z=>e1 (by rw[z];exact hm))];exact e2
 refine⟨⟨by rw[List.length_set];exact r.len,r.nd,fun m b x e1 e2=>?_⟩,⟨⟨[],by simp⟩,le⟩⟩;by_cases hmn:n=m
 .subst hmn;rw[ha] at e1;cases e1;have hl:n<S.length:=by rw[<- r.len];exact(List.getElem?_eq_some_iff.mp ha).1
  rw[List.getElem?_set_self hl] at e2;cases e2;rw[cS];exact hu.le' (fun _ _ z=>z) le
 .rw[List.getElem?_set_ne hmn] at e2;have nb:b≠a:=fun z=>by
   subst z;exact hmn (mh r.nd ha e1)
  rw[aH nb];exact(r.ok m b x e1 e2).le' (fun _ _ z=>z) le
end
abbrev KD:=D->aS->Prop
abbrev KS:=Sl->aS->Prop
abbrev bU:=Sl->aS->KD->Prop
abbrev oz:=Sl->aS->(Bool->aS->Prop)->Prop
abbrev mH:=Sl->aS->(List D->aS->Prop)->Prop
structure wR where
 nx:KS
 rt:KD
 bk:KS:=fun _ _=>False
 ct:KS:=fun _ _=>False
abbrev ku:=wR->Sl->aS->Prop
section
variable (K:PySem.W.Frag)(Y:List Addr)(H:Hp)
noncomputable def up (k:KD):VK:=fun v H'=>∃Y' S' d,Gr Y H Y' H'/\R3 K Y' S' H'/\g9 K Y' (res Y' H') d v/\k d S'
noncomputable def upT (k:Bool->aS->Prop):Bool->Hp->Prop:=fun b H'=>∃Y' S',Gr Y H Y' H'/\R3 K Y' S' H'/\k b S'
noncomputable def upA (k:List D->aS->Prop):List V->Hp->Prop:=fun v H'=>∃Y' S' d,Gr Y H Y' H'/\R3 K Y' S' H'/\dH K Y' (res Y' H') d v/\k d S'
def qG (G:Hp)(Z:Sl)(U:St):Prop:=Z.length=U.length/\∀(i:Nat) d,Z[i]?=some (some d)->∃v,U[i]?=some (some v)/\g9 K Y G d v
noncomputable def Hr (k:KS):St->Hp->Prop:=fun U H'=>∃Y' S' Z,Gr Y H Y' H'/\R3 K Y' S' H'/\qG K Y' (res Y' H') Z U/\k Z S'
structure AF (E:wR)(D:Ends):Prop where
 nx:∀U H',Hr K Y H E.nx U H'->D.nx U H'
 rt:∀v H',up K Y H E.rt v H'->D.rt v H'
 bk:∀U H',Hr K Y H E.bk U H'->D.bk U H'
 ct:∀U H',Hr K Y H E.ct U H'->D.ct U H'
end
section
variable (K:PySem.W.Frag)
noncomputable def li (t:bU):TE:=fun U H Q=>∃Y S Z k,R3 K Y S H/\qG K Y (res Y H) Z U/\t Z S k/\∀v H',up K Y H k v H'->Q v H'
noncomputable def Oj (t:oz):TT:=fun U H Q=>∃Y S Z k,R3 K Y S H/\qG K Y (res Y H) Z U/\t Z S k/\∀v H',upT K Y H k v H'->Q v H'
noncomputable def liA (t:mH):TA:=fun U H Q=>∃Y S Z k,R3 K Y S H/\qG K Y (res Y H) Z U/\t Z S k/\∀v H',upA K Y H k v H'->Q v H'
noncomputable def YG (t:ku):TS:=fun D U H=>∃Y S Z E,R3 K Y S H/\qG K Y (res Y H) Z U/\t E Z S/\AF K Y H E D
end
section
variable {K:PySem.W.Frag}{Y Y':List Addr}{H H':Hp}
theorem qG.gr (g:Gr Y H Y' H'){Z:Sl}{U:St}(r:qG K Y (res Y H) Z U):qG K Y' (res Y' H') Z U:=
 ⟨r.1,fun i d e=>let⟨v,e1,e2⟩:=r.2 i d e;⟨v,e1,e2.gr g⟩⟩
theorem qG.set {G:Hp}{Z:Sl}{U:St}(r:qG K Y G Z U){d:D}{v:V}(h:g9 K Y G d v)(i:Nat):qG K Y G (Z.set i (some d)) (U.set i (some v)):=by
 refine⟨by simp[r.1],fun j e q=>?_⟩;by_cases hij:i=j
 .subst hij;have hl:i<Z.length:=by
   have:=(List.getElem?_eq_some_iff.mp q).1;simpa using this
  rw[List.getElem?_set_self hl] at q;cases q;exact⟨v,by rw[List.getElem?_set_self (by rw[<- r.1];exact hl)],h⟩
 .rw[List.getElem?_set_ne hij] at q;rw[List.getElem?_set_ne hij];exact r.2 j e q
theorem up.gr (g:Gr Y H Y' H'){k:KD}{v:V}{H2:Hp}:up K Y' H' k v H2->up K Y H k v H2:=fun⟨r,s,d,g2,x⟩=>⟨r,s,d,g.trans g2,x⟩
theorem upT.gr (g:Gr Y H Y' H'){k:Bool->aS->Prop}{v:Bool}{H2:Hp}:upT K Y' H' k v H2->upT K Y H k v H2:=fun⟨r,s,g2,x⟩=>⟨r,s,g.trans g2,x⟩
theorem Hr.gr (g:Gr Y H Y' H'){k:KS}{v:St}{H2:Hp}:Hr K Y' H' k v H2->Hr K Y H k v H2:=fun⟨r,s,d,g2,x⟩=>⟨r,s,d,g.trans g2,x⟩
theorem AF.gr (g:Gr Y H Y' H'){E:wR}{D:Ends}(u:AF K Y H E D):AF K Y' H' E D:=
 ⟨fun U H2 h=>u.nx U H2 (h.gr g),fun U H2 h=>u.rt U H2 (h.gr g),fun U H2 h=>u.bk U H2 (h.gr g),fun U H2 h=>u.ct U H2 (h.gr g)⟩
end
def QE (X:Cx)(e:Expr)(t:bU):Prop:=PE X e (li X.K t)
def QT (X:Cx)(e:Expr)(t:oz):Prop:=PT X e (Oj X.K t)
def QW (X:Cx)(e:Expr)(t:oz):Prop:=PW X e (Oj X.K t)
def QA (X:Cx)(e:List Expr)(t:mH):Prop:=PA X e (liA X.K t)
def QS (X:Cx)(e:Stmt)(t:ku):Prop:=PS X e (YG X.K t)
def yE (X:Cx)(e:List Stmt)(t:ku):Prop:=sJ X e (YG X.K t)
section
variable {X:Cx}{e:Expr}
theorem bH {t t':TE}(h:PE X e t)(m:∀U H Q,t' U H Q->t U H Q):PE X e t':=fun vy s U H Q I q=>h vy s U H Q I (m _ _ _ q)
theorem Gf {t t':TT}(h:PT X e t)(m:∀U H Q,t' U H Q->t U H Q):PT X e t':=fun vy s U H Q I q=>h vy s U H Q I (m _ _ _ q)
theorem Tg {t t':TT}(h:PW X e t)(m:∀U H Q,t' U H Q->t U H Q):PW X e t':=fun w vy s U H Q I q=>h w vy s U H Q I (m _ _ _ q)
theorem Tj {es:List Expr}{t t':TA}(h:PA X es t)(m:∀U H Q,t' U H Q->t U H Q):PA X es t':=fun p vy s U H Q I q=>h p vy s U H Q I (m _ _ _ q)
theorem gU {st:Stmt}{t t':TS}(h:PS X st t)(m:∀D U H,t' D U H->t D U H):PS X st t':=fun vy s U H D I q=>h vy s U H D I (m _ _ _ q)
theorem DO {st:List Stmt}{t t':TS}(h:sJ X st t)(m:∀D U H,t' D U H->t D U H):sJ X st t':=fun vy s U H D I q=>h vy s U H D I (m _ _ _ q)
end
theorem aW.put {K:PySem.W.Frag}{G:Hp}{x:T}{v:V}(h:Rp K G x v):∀{l:List T}{vs:List V}{j:Nat},aW K G l vs->aW K G (l.set j x) (vs.set j v)
 |[],vs,j,e=>by unfold aW at e;subst e;exact .nil
 |y::r,vs,0,e=>by
  unfold aW at e;obtain⟨w,wr,e1,e2,e3⟩:=e;subst e1;exact .cons h e3
 |y::r,vs,j+1,e=>by
  unfold aW at e;obtain⟨w,wr,e1,e2,e3⟩:=e;subst e1;exact .cons e2 (aW.put h e3)
section
variable {K:PySem.W.Frag}{Y:List Addr}{S:aS}{H:Hp}{k:KD}{Q:VK}
theorem iT:Le (res Y H) H:=fun a o e=>(res_some e).2
theorem fin {d:D}{v:V}(R:R3 K Y S H)(hk:∀v H',up K Y H k v H'->Q v H')(r:g9 K Y (res Y H) d v)(q:k d S):Q v H:=hk _ _ ⟨Y,S,d,.refl,R,r,q⟩
theorem Nk {l:List T}{vs:List V}(R:R3 K Y S H)(hk:∀v H',up K Y H k v H'->Q v H')(r:aW K (res Y H) l vs)(q:k (.tup l) S)(p:Addr)(hp:H p=none):Q (.ref p) (upd H p (.tup vs)):=by
 obtain⟨R',g,e⟩:=R.new (o:=.tup vs) hp;refine hk _ _ ⟨Y,S,.tup l,g,R',?_,q⟩;show Rp _ _ _ _;unfold Rp;exact⟨p,vs,rfl,e,r.le g.le⟩
theorem wu {l:List T}{vs:List V}(R:R3 K Y S H)(hk:∀v H',up K Y H k v H'->Q v H')(r:aW K (res Y H) l vs)(q:k (.lst l) S)(p:Addr)(hp:H p=none):Q (.ref p) (upd H p (.lst vs)):=by
 obtain⟨R',g,e⟩:=R.new (o:=.lst vs) hp;refine hk _ _ ⟨Y,S,.lst l,g,R',?_,q⟩;show Rp _ _ _ _;unfold Rp;exact⟨p,vs,rfl,e,r.le g.le⟩
theorem XA {o:O}{h:HO}(R:R3 K Y S H)(hk:∀v H',up K Y H k v H'->Q v H')(p:Addr)(hp:H p=none)(r:EK K (Y++[p]) (res Y H) (some h) o)(q:k (.ob S.length) (S++[o])):Q (.ref p) (upd H p h):=by
 obtain⟨R',g⟩:=R.push hp r;exact hk _ _ ⟨_,_,.ob S.length,g,R',⟨p,by rw[<- R.len];simp,rfl⟩,q⟩
theorem Rt {l:List T}{vs:List V}(R:R3 K Y S H)(hk:∀v H',up K Y H k v H'->Q v H')(r:aW K (res Y H) l vs)(q:k (.ob S.length) (S++[.lst l]))(p:Addr)(hp:H p=none):Q (.ref p) (upd H p (.lst vs)):=
 XA (o:=.lst l) R hk p hp ⟨vs,rfl,r⟩ q
theorem Nl {n:Nat}{a:Addr}{o:O}{h:HO}{d:D}{v:V}(R:R3 K Y S H)(hk:∀v H',up K Y H k v H'->Q v H')(ha:Y[n]?=some a)(r:EK K Y (res Y H) (some h) o)(rv:g9 K Y (res Y H) d v)(q:k d (S.set n o)):Q v (upd H a h):=by
 obtain⟨R',g⟩:=R.put ha r;exact hk _ _ ⟨_,_,d,g,R',rv.gr g,q⟩
end
noncomputable def lq (S:aS):D->Option (List T)
 |.t (.lst l)=>some l
 |.ob n=>match S[n]? with
  |some (.lst l)=>some l
  |_=>none
 |_=>none
noncomputable def sq (S:aS):D->Option (List T)
 |.t (.tup l)=>some l
 |.t (.Bb l)=>some l
 |d=>lq S d
section
variable {K:PySem.W.Frag}{Y:List Addr}{S:aS}{H:Hp}
theorem cD (R:R3 K Y S H):∀{d:D}{v:V}{l:List T},g9 K Y (res Y H) d v->lq S d=some l->∃a vs,v=.ref a/\H a=some (.lst vs)/\aW K (res Y H) l vs
 |.t (.lst l'),v,l,r,e=>by
  have e:some l'=some l:=e;cases e;have r:Rp _ _ _ _:=r;unfold Rp at r;obtain⟨a,vs,e1,e2,e3⟩:=r;exact⟨a,vs,e1,iT _ _ e2,e3⟩
 |.t (.Bb _),_,_,_,e=>nomatch e
 |.t (.v _),_,_,_,e=>nomatch e
 |.t (.tup _),_,_,_,e=>nomatch e
 |.t (.ins _ _ _),_,_,_,e=>nomatch e
 |.ob n,v,l,⟨a,ha,r⟩,e=>by
  have e:(match S[n]? with | some (.lst l)=>some l | _=>none)=some l:=e;cases q:S[n]? with
  |none=>rw[q] at e;cases e
  |some o=>
   rw[q] at e;cases o with
   |lst m=>
    have e:some m=some l:=e;cases e;obtain⟨vs,h1,h2⟩:=R.ok n a _ ha q;exact⟨a,vs,r,h1,h2⟩
   |tu m=>cases e
   |wB _ _ m=>cases e
   |gh _ _=>cases e
   |ins C ns m=>cases e
theorem yX (R:R3 K Y S H){d:D}{v:V}{l:List T}(r:g9 K Y (res Y H) d v)(e:sq S d=some l):∃a vs,v=.ref a/\(jx K H a vs∨lM K H a vs)/\aW K (res Y H) l vs:=by
 unfold sq at e;split at e
 .cases e;have r:Rp _ _ _ _:=r;unfold Rp at r;obtain⟨a,vs,e1,e2,e3⟩:=r;exact⟨a,vs,e1,.inr (.of (iT _ _ e2)),e3⟩
 .cases e;have r:Rp _ _ _ _:=r;unfold Rp at r;obtain⟨a,vs,e1,e2,e3⟩:=r;exact⟨a,vs,e1,.inl (DC iT e2),e3⟩
 .obtain⟨a,vs,h1,h2,h3⟩:=cD R r e;exact⟨a,vs,h1,.inl (.of h2),h3⟩
theorem d7 {v:V}{l:List T}(r:g9 K Y (res Y H) (.tup l) v):∃a vs,v=.ref a/\H a=some (.tup vs)/\aW K (res Y H) l vs:=by
 have r:Rp _ _ _ _:=r;unfold Rp at r;obtain⟨a,vs,e1,e2,e3⟩:=r;exact⟨a,vs,e1,iT _ _ e2,e3⟩
theorem aE {G:Hp}{x w:V}(r:g9 K Y G (.t (.v x)) w):w=x:=by
 have r:Rp _ _ _ _:=r;unfold Rp at r;exact r
theorem aO {G:Hp}{x:V}:g9 K Y G (.t (.v x)) x:=by show Rp _ _ _ _;unfold Rp;rfl
end
section
variable {X:Cx}{a b e:Expr}{ta tb:bU}{pos:Pos}
noncomputable def dF (i:Nat):bU:=fun Z S k=>∃d,Z[i]?=some (some d)/\k d S
noncomputable def yS (d:D):bU:=fun _ S k=>k d S
theorem ah (i:Nat){x:Str}{pos:Pos}(hN:autoParam (X.N[i]?=some x) zi)(hv:Vis X.env.scope x:=by first | exact Or.inl rfl | exact Or.inr (Or.inl rfl) | exact Or.inr (Or.inr rfl))(hd:autoParam ((x==("__debug__":Str))=false) zn)
  (hcd:autoParam ((x==("__classdict__":Str))=false) zn):QE X (.Name x pos) (dF i):=
 bH (LS hN hv hd hcd) (by
  rintro U H Q ⟨Y,S,Z,k,R,D,⟨d,e,q⟩,hk⟩;obtain⟨v,e1,e2⟩:=D.2 i d e;exact⟨v,e1,fin R hk e2 q⟩)
theorem jQ {v:V}(h:PE X e (tC v)):QE X e (yS (.t (.v v))):=bH h (by rintro U H Q ⟨Y,S,Z,k,R,D,q,hk⟩;exact fin R hk aO q)
theorem aj {i j pos}:QE X (.Constant (.int i) j pos) (yS (.int i)):=jQ DR
theorem a0D {b j pos}:QE X (.Constant (.bool b) j pos) (yS (.bl b)):=jQ a0Q
theorem a0A {j pos}:QE X (.Constant .none j pos) (yS .cR):=jQ Wj
theorem ak {x j pos}:QE X (.Constant (.str x) j pos) (yS (.str x)):=jQ DQ
abbrev oN:=D->D->aS->KD->Prop
noncomputable def Tt (K:PySem.W.Frag)(r:oN):R2:=fun x y H Q=>∃Y S a b k,R3 K Y S H/\g9 K Y (res Y H) a x/\g9 K Y (res Y H) b y/\r a b S k/\∀v H',up K Y H k v H'->Q v H'
def uG (X:Cx)(f:Value->Value->Sem Value)(r:oN):Prop:=iR X f (Tt X.K r)
theorem fK {f:Value->Value->Sem Value}{r r':R2}(h:iR X f r)(m:∀x y H Q,r' x y H Q->r x y H Q):iR X f r':=fun vy s U H x y v u Q I rx ry q=>h vy s U H x y v u Q I rx ry (m _ _ _ _ q)
noncomputable def xu (r:oN)(ta tb:bU):bU:=fun Z S k=>ta Z S fun x S1=>tb Z S1 fun y S2=>r x y S2 k
theorem lZ {r:oN}:∀U H Q,li X.K (xu r ta tb) U H Q->UU (Tt X.K r) (li X.K ta) (li X.K tb) U H Q:=(by rintro U H Q ⟨Y,S,Z,k,R,D,q,hk⟩;exact  ⟨Y,S,Z,_,R,D,q,(by rintro v H1 ⟨Y1,S1,d1,g1,R1,r1,q1⟩;exact⟨Y1,S1,Z,_,R1,D.gr g1,q1,(by rintro w H2 ⟨Y2,S2,d2,g2,R2,r2,q2⟩;exact   ⟨Y2,S2,d1,d2,k,R2,r1.gr g2,r2,q2,fun z H3 u=>hk z H3 (u.gr (g1.trans g2))⟩)⟩)⟩)
theorem aB {op:Operator}{r:oN}(ho:uG X (binaryOp op) r)(ha:QE X a ta)(hb:QE X b tb):QE X (.BinOp a op b pos) (xu r ta tb):=bH (a0N ho ha hb) lZ
theorem cT {op:CmpOp}{r:oN}(ho:uG X (compareOp op) r)(ha:QE X a ta)(hb:QE X b tb)(hm:behindInMarks op b=false):QE X (.Compare a [op] [b] pos) (xu r ta tb):=bH (Qd ho ha hb hm) lZ
noncomputable def uM (t:bU):oz:=fun Z S k=>t Z S fun d S1=>∃b,d=.bl b/\k b S1
theorem qK {t:bU}{t':TE}(m:∀U H Q,li X.K t U H Q->t' U H Q):∀U H Q,Oj X.K (uM t) U H Q->Kn t' U H Q:=(by rintro U H Q ⟨Y,S,Z,k,R,D,q,hk⟩;exact  m _ _ _ ⟨Y,S,Z,_,R,D,q,(by
  rintro v H1 ⟨Y1,S1,d1,g1,R1,r1,b,e,q1⟩;subst e;exact⟨b,aE r1,hk _ _ ⟨Y1,S1,g1,R1,q1⟩⟩)⟩)
theorem aP {op:CmpOp}{r:oN}(ho:uG X (compareOp op) r)(ha:QE X a ta)(hb:QE X b tb)(hm:behindInMarks op b=false):QT X (.Compare a [op] [b] pos) (uM (xu r ta tb)):=Gf (PK ho ha hb hm) (qK lZ)
end
noncomputable def CJ:oN:=fun a b S k=>∃l m,lq S a=some l/\lq S b=some m/\l.length+m.length<=sizeLine/\k (.lst (l++m)) S
noncomputable def a6X:oN:=fun a b S k=>a.iD.elim (a.sD.elim (a.tD.elim (CJ a b S k) fun x=>b.tD.elim (CJ a b S k) fun y=>x.length+y.length<=sizeLine/\k (.tup (x++y)) S) fun x=>b.sD.elim (CJ a b S k) fun y=>x.length+y.length<=sizeLine/\k (.str (x++y)) S) fun i=>b.iD.elim (CJ a b S k) fun j=>k (.int (i+j)) S
noncomputable def ZI:oN
 |.t (.v (.int i)),.t (.v (.int j)),S,k=>k (.int (i - j)) S
 |_,_,_,_=>False
noncomputable def a5c:oN:=fun a b S k=>b.iD.elim False fun j=>a.iD.elim (∃l,lq S a=some l/\-(2 ^ 63)<=j/\j<2 ^ 63/\l.length*j.toNat<=sizeLine/\k (.lst (List.replicate j.toNat l).flatten) S) fun i=>Sa i j/\k (.int (i*j)) S
noncomputable def T5:oN
 |.t (.v (.int i)),.t (.v (.int j)),S,k=>a23 i j/\k (.int (i / j)) S
 |_,_,_,_=>False
noncomputable def a1a:oN
 |.t (.v (.int i)),.t (.v (.int j)),S,k=>0<j/\k (.int (i % j)) S
 |_,_,_,_=>False
noncomputable def EA (f:Int->Int->Bool):oN
 |.t (.v (.int i)),.t (.v (.int j)),S,k=>k (.bl (f i j)) S
 |_,_,_,_=>False
mutual
def Fl:Nat->T->Prop
 |_,.v x=>eN x=true
 |0,_=>False
 |n+1,.tup l=>YC n l
 |n+1,.lst l=>YC n l
 |_+1,_=>False
def YC:Nat->List T->Prop
 |_,[]=>True
 |n,x::r=>Fl n x/\YC n r
end
noncomputable def eq3 (n:Nat)(neg:Bool):oN
 |.t (.v x),.t (.v y),S,k=>Vn x y=true/\k (.bl (xor neg (decide (x=y)))) S
 |.t (.tup l),.t (.tup m),S,k=>(l=m/\YC n l/\k (.bl (!neg)) S)∨(m=[]/\k (.bl (xor neg (decide (l=[])))) S)
 |a,b,S,k=>∃l m,lq S a=some l/\lq S b=some m/\((l=m/\YC n l/\k (.bl (!neg)) S)∨(m=[]/\k (.bl (xor neg (decide (l=[])))) S))
noncomputable def flT:T->Option V
 |.v x=>if eN x=true then some x else none
 |_=>none
noncomputable def sZ:List T->Option (List V)
 |[]=>some []
 |x::r=>match flT x,sZ r with
  |some v,some vs=>some (v::vs)
  |_,_=>none
noncomputable def in3 (neg:Bool):oN:=fun a b S k=>∃x l vs,a=.t (.v x)/\eN x=true/\sq S b=some l/\sZ l=some vs/\k (.bl (xor neg (Je x vs))) S
section
variable {X:Cx}
theorem aW.rep {K:PySem.W.Frag}{G:Hp}{l:List T}{vs:List V}(r:aW K G l vs):∀n:Nat,aW K G (List.replicate n l).flatten (List.replicate n vs).flatten
 |0=>.nil
 |n+1=>by
  rw[List.replicate_succ,List.replicate_succ,List.flatten_cons,List.flatten_cons];exact r.app (aW.rep r n)
theorem aW.c6 {K:PySem.W.Frag}{G:Hp}{l:List T}{vs:List V}(r:aW K G l vs):vs=[]↔l=[]:=by
 have:=r.len;constructor
 .intro e;subst e;exact List.length_eq_zero_iff.mp this
 .intro e;subst e;exact List.length_eq_zero_iff.mp this.symm
theorem wo {K:PySem.W.Frag}{G:Hp}:∀{l:List T}{us vs:List V},sZ l=some vs->aW K G l us->us=vs/\vs.all eN=true
 |[],us,vs,e,r=>by
  unfold aW at r;have e:some []=some vs:=e;cases e;exact⟨r,rfl⟩
 |x::l,us,vs,e,r=>by
  unfold aW at r;obtain⟨v,vr,e1,e2,e3⟩:=r;cases x with
  |v y=>
   by_cases hf:eN y=true
   .have q1:flT (.v y)=some y:=if_pos hf;cases q2:sZ l with
    |none=>unfold sZ at e;rw[q1,q2] at e;cases e
    |some vs'=>
     unfold sZ at e;rw[q1,q2] at e;have e:some (y::vs')=some vs:=e;cases e;obtain⟨h1,h2⟩:=wo q2 e3;subst h1;unfold Rp at e2;subst e2;exact⟨e1,by rw[List.all_cons,hf,h2];rfl⟩
   .have q1:flT (.v y)=none:=if_neg hf;unfold sZ at e;rw[q1] at e;cases e
  |_=>unfold sZ at e;cases e
end
section
variable {K:PySem.W.Frag}{H:Hp}{G:Hp}
mutual
theorem W4 (le:Le G H):∀(n:Nat){x:T}{v w:V},Fl n x->Rp K G x v->Rp K G x w->ER K H n v w
 |n,.v y,v,w,f,r1,r2=>by
  unfold Rp at r1 r2;unfold Fl at f;subst r1;subst r2;cases n with
  |zero=>exact⟨f,rfl⟩
  |succ n=>exact .inl ⟨f,rfl⟩
 |n+1,.tup l,v,w,f,r1,r2=>by
  unfold Rp at r1 r2;unfold Fl at f;obtain⟨a,vs,e1,e2,e3⟩:=r1;obtain⟨b,ws,e4,e5,e6⟩:=r2;exact .inr ⟨a,b,vs,ws,e1,e4,.inr ⟨.of (le _ _ e2),.of (le _ _ e5)⟩,nN le n f e3 e6⟩
 |n+1,.lst l,v,w,f,r1,r2=>by
  unfold Rp at r1 r2;unfold Fl at f;obtain⟨a,vs,e1,e2,e3⟩:=r1;obtain⟨b,ws,e4,e5,e6⟩:=r2;exact .inr ⟨a,b,vs,ws,e1,e4,.inl ⟨.of (le _ _ e2),.of (le _ _ e5)⟩,nN le n f e3 e6⟩
 |n+1,.Bb l,v,w,f,r1,r2=>by unfold Fl at f;exact f.elim
 |n+1,.ins C ns l,v,w,f,r1,r2=>by unfold Fl at f;exact f.elim
 |0,.tup l,v,w,f,r1,r2=>by unfold Fl at f;exact f.elim
 |0,.lst l,v,w,f,r1,r2=>by unfold Fl at f;exact f.elim
 |0,.Bb l,v,w,f,r1,r2=>by unfold Fl at f;exact f.elim
 |0,.ins C ns l,v,w,f,r1,r2=>by unfold Fl at f;exact f.elim
theorem nN (le:Le G H):∀(n:Nat){l:List T}{vs ws:List V},YC n l->aW K G l vs->aW K G l ws->Paired (ER K H n) vs ws
 |n,[],vs,ws,f,r1,r2=>by
  unfold aW at r1 r2;subst r1;subst r2;exact .nil
 |n,x::l,vs,ws,f,r1,r2=>by
  unfold aW at r1 r2;unfold YC at f;obtain⟨v,vr,e1,e2,e3⟩:=r1;obtain⟨w,wr,e4,e5,e6⟩:=r2;subst e1;subst e4;exact .cons (W4 le n f.1 e2 e5) (nN le n f.2 e3 e6)
end
end
section
variable {X:Cx}
theorem Y0 {A G:Prop}(h:A->G)(m:(A->G)->G):G:=m h
theorem aA:uG X (binaryOp .Add) a6X:=by
 refine fK ((Wz.or (DU.or (Qh.or Wy)))) ?_;rintro x y H Q ⟨Y,S,a,b,k,R,ra,rb,q,hk⟩;refine Y0 (A:=CJ a b S k) ?_ fun dl=>?_
 .rintro⟨l,m,h1,h2,h3,h4⟩;obtain⟨p1,vs,e1,e2,e3⟩:=cD R ra h1;obtain⟨p2,ws,f1,f2,f3⟩:=cD R rb h2;exact .inr (.inr (.inr ⟨p1,p2,vs,ws,e1,f1,e2,f2,by rw[<- e3.len,<- f3.len];exact h3,fun p hp=>wu R hk (e3.app f3) h4 p hp⟩))
 rcases Jf q with q | ⟨i,ha,q⟩
 .rcases Jf q with q | ⟨x,ha,q⟩
  .rcases Jf q with q | ⟨x,ha,q⟩
   .exact dl q
   rcases Jf q with q | ⟨y,hb,q⟩
   .exact dl q
   cases D.Sv ha;cases D.Sv hb;obtain⟨p1,vs,e1,e2,e3⟩:=d7 ra;obtain⟨p2,ws,f1,f2,f3⟩:=d7 rb;refine .inr (.inr (.inl ⟨p1,p2,vs,ws,e1,f1,.of e2,.of f2,by rw[<- e3.len,<- f3.len];exact q.1,fun z=>?_,fun _ z=>?_,fun _ _ p hp=>Nk R hk (e3.app f3) q.2 p hp⟩))
   .have z:=e3.c6.mp z;subst z;rw[<- f1];exact fin R hk rb q.2
   .have z:=f3.c6.mp z;subst z;rw[<- e1];refine fin R hk ra ?_;have:=q.2;rwa[List.append_nil] at this
  rcases Jf q with q | ⟨y,hb,q⟩
  .exact dl q
  cases D.Bl ha;cases D.Bl hb;exact .inr (.inl ⟨_,_,aE ra,aE rb,q.1,fin R hk aO q.2⟩)
 rcases Jf q with q | ⟨j,hb,q⟩
 .exact dl q
 cases D.BY ha;cases D.BY hb;exact .inl ⟨_,_,aE ra,aE rb,fin R hk aO q⟩
theorem BI:uG X (binaryOp .Sub) ZI:=by
 refine fK Wr ?_;rintro x y H Q ⟨Y,S,a,b,k,R,ra,rb,q,hk⟩;unfold ZI at q;split at q
 .exact⟨_,_,aE ra,aE rb,fin R hk aO q⟩
 .exact q.elim
theorem r8:uG X (binaryOp .Mult) a5c:=by
 refine fK (Wu.or Ws) ?_;rintro x y H Q ⟨Y,S,a,b,k,R,ra,rb,q,hk⟩;rcases Jf q with q | ⟨j,hb,q2⟩
 .exact q.elim
 cases D.BY hb;rcases Jf q2 with⟨l,h1,h2,h3,h4,h5⟩ | ⟨i,ha,q⟩
 .obtain⟨p1,vs,e1,e2,e3⟩:=cD R ra h1;exact .inr ⟨p1,_,vs,e1,aE rb,e2,h2,h3,by rw[<- e3.len];exact h4,fun p hp=>wu R hk (e3.rep _) h5 p hp⟩
 cases D.BY ha;exact .inl ⟨_,_,aE ra,aE rb,q.1,fin R hk aO q.2⟩
theorem vK:uG X (binaryOp .FloorDiv) T5:=by
 refine fK Qg ?_;rintro x y H Q ⟨Y,S,a,b,k,R,ra,rb,q,hk⟩;unfold T5 at q;split at q
 .exact⟨_,_,aE ra,aE rb,q.1,fin R hk aO q.2⟩
 .exact q.elim
theorem iP:uG X (binaryOp .Mod) a1a:=by
 refine fK Wv ?_;rintro x y H Q ⟨Y,S,a,b,k,R,ra,rb,q,hk⟩;unfold a1a at q;split at q
 .exact⟨_,_,aE ra,aE rb,q.1,fin R hk aO q.2⟩
 .exact q.elim
theorem Mq {op:CmpOp}{f:Int->Int->Bool}(h:iR X (compareOp op) (S7 fun i j=>.bl (f i j))):uG X (compareOp op) (EA f):=by
 refine fK h ?_;rintro x y H Q ⟨Y,S,a,b,k,R,ra,rb,q,hk⟩;unfold EA at q;split at q
 .exact⟨_,_,aE ra,aE rb,fin R hk aO q⟩
 .exact q.elim
theorem DY:uG X (compareOp .Lt) (EA fun i j=>decide (i<j)):=Mq a0T
theorem Mn:uG X (compareOp .LtE) (EA fun i j=>decide (i<=j)):=Mq a0U
theorem DZ:uG X (compareOp .Gt) (EA fun i j=>decide (j<i)):=Mq a0V
noncomputable def Pn (K:PySem.W.Frag):R2:=fun x y H Q=>∃a b xs,x=.ref a/\y=.ref b/\lM K H a xs/\lM K H b []/\Q (.bl (!decide (xs=[]))) H
theorem HX (hu:X.A.units<cLine):iR X (compareOp .NotEq) (Pn X.K):=by
 intro vy s U H x y v u Q I rx ry h;obtain⟨a,b,xs,rfl,rfl,ha,hb,q⟩:=h;cases rx;cases ry;obtain⟨us,r1,p1,_⟩:=I.tuple ha;obtain⟨vs,r2,p2,_⟩:=I.tuple hb;cases r2;refine SeqAt.RcNeAt.tuples (A:=X.A) (e:=fun _=>true) (show s.heap.IsTuple a us.toArray from p1) (show s.heap.IsTuple b ([]:List Value).toArray from p2) hu (fun j h1 h2=>absurd h2 (by simp)) _ _ _ _ ?_;have e:(!((List.range (min us.toArray.size ([]:List Value).toArray.size)).all (fun _=>true)&&us.toArray.size==([]:List Value).toArray.size))=!decide (xs=[]):=by
  have l:=r1.length;rw[lH,Bool.true_and];by_cases hx:xs=[]
  .subst hx;cases r1;simp
  .rw[decide_eq_false hx];have:us≠[]:=fun z=>hx (by rw[z] at l;exact List.length_eq_zero_iff.mp l);cases us with
   |nil=>exact absurd rfl this
   |cons _ _=>simp
 rw[e];exact⟨.bl _,H,I,rfl,q⟩
theorem fq (n:Nat)(hu:X.A.units+1+n<cLine):uG X (compareOp .Eq) (eq3 n false):=by
 have hu0:X.A.units<cLine:=by omega
 refine fK (a0W.or ((Ww n hu).or ((Mc hu0).or (HZ hu0)))) ?_;rintro x y H Q ⟨Y,S,a,b,k,R,ra,rb,q,hk⟩;unfold eq3 at q;split at q
 .rw[aE ra,aE rb];refine .inl ⟨q.1,fin R hk aO ?_⟩;have:=q.2;rwa[Bool.false_xor] at this
 .obtain⟨p1,vs,e1,e2,e3⟩:=d7 ra;obtain⟨p2,ws,f1,f2,f3⟩:=d7 rb;rcases q with⟨z,h1,h2⟩ | ⟨z,h2⟩
  .subst z;exact .inr (.inl ⟨p1,p2,vs,ws,e1,f1,.inr ⟨.of e2,.of f2⟩,nN iT n h1 e3 f3,fin R hk aO h2⟩)
  .subst z;have w:=f3.c6.mpr rfl;subst w;refine .inr (.inr (.inl ⟨p1,p2,vs,e1,f1,.of e2,.of f2,?_⟩));rw[Bool.false_xor] at h2;rw[decide_eq_decide.mpr e3.c6];exact fin R hk aO h2
 .obtain⟨l,m,h1,h2,q⟩:=q;obtain⟨p1,vs,e1,e2,e3⟩:=cD R ra h1;obtain⟨p2,ws,f1,f2,f3⟩:=cD R rb h2;rcases q with⟨z,g1,g2⟩ | ⟨z,g2⟩
  .subst z;exact .inr (.inl ⟨p1,p2,vs,ws,e1,f1,.inl ⟨.of e2,.of f2⟩,nN iT n g1 e3 f3,fin R hk aO g2⟩)
  .subst z;have w:=f3.c6.mpr rfl;subst w;refine .inr (.inr (.inr ⟨p1,p2,vs,e1,f1,.of e2,.of f2,?_⟩));rw[Bool.false_xor] at g2;rw[decide_eq_decide.mpr e3.c6];exact fin R hk aO g2
theorem mF (n:Nat)(hu:X.A.units+1+n<cLine):uG X (compareOp .NotEq) (eq3 n true):=by
 have hu0:X.A.units<cLine:=by omega
 refine fK (a0S.or ((Wt n hu).or ((HX hu0).or (Mb hu0)))) ?_;rintro x y H Q ⟨Y,S,a,b,k,R,ra,rb,q,hk⟩;unfold eq3 at q;split at q
 .rw[aE ra,aE rb];refine .inl ⟨q.1,fin R hk aO ?_⟩;have:=q.2;rwa[Bool.true_xor] at this
 .obtain⟨p1,vs,e1,e2,e3⟩:=d7 ra;obtain⟨p2,ws,f1,f2,f3⟩:=d7 rb;rcases q with⟨z,h1,h2⟩ | ⟨z,h2⟩
  .subst z;exact .inr (.inl ⟨p1,p2,vs,ws,e1,f1,.inr ⟨.of e2,.of f2⟩,nN iT n h1 e3 f3,fin R hk aO h2⟩)
  .subst z;have w:=f3.c6.mpr rfl;subst w;refine .inr (.inr (.inl ⟨p1,p2,vs,e1,f1,.of e2,.of f2,?_⟩));rw[Bool.true_xor] at h2;rw[decide_eq_decide.mpr e3.c6];exact fin R hk aO h2
 .obtain⟨l,m,h1,h2,q⟩:=q;obtain⟨p1,vs,e1,e2,e3⟩:=cD R ra h1;obtain⟨p2,ws,f1,f2,f3⟩:=cD R rb h2;rcases q with⟨z,g1,g2⟩ | ⟨z,g2⟩
  .subst z;exact .inr (.inl ⟨p1,p2,vs,ws,e1,f1,.inl ⟨.of e2,.of f2⟩,nN iT n g1 e3 f3,fin R hk aO g2⟩)
  .subst z;have w:=f3.c6.mpr rfl;subst w;refine .inr (.inr (.inr ⟨p1,p2,vs,e1,f1,.of e2,.of f2,?_⟩));rw[Bool.true_xor] at g2;rw[decide_eq_decide.mpr e3.c6];exact fin R hk aO g2
theorem Mp:uG X (compareOp .In) (in3 false):=by
 refine fK yh ?_;rintro x y H Q ⟨Y,S,a,b,k,R,ra,rb,⟨z,l,vs,h1,h2,h3,h4,q⟩,hk⟩;subst h1;obtain⟨p,us,e1,e2,e3⟩:=yX R rb h3;obtain⟨f1,f2⟩:=wo h4 e3;subst f1;rw[aE ra];rw[Bool.false_xor] at q;exact⟨p,us,e1,e2,h2,f2,fin R hk aO q⟩
theorem Gs:uG X (compareOp .NotIn) (in3 true):=by
 refine fK pX ?_;rintro x y H Q ⟨Y,S,a,b,k,R,ra,rb,⟨z,l,vs,h1,h2,h3,h4,q⟩,hk⟩;subst h1;obtain⟨p,us,e1,e2,e3⟩:=yX R rb h3;obtain⟨f1,f2⟩:=wo h4 e3;subst f1;rw[aE ra];rw[Bool.true_xor] at q;exact⟨p,us,e1,e2,h2,f2,fin R hk aO q⟩
end
end L3
namespace L3
open PySem L2 Hw
section
variable {X:Cx}{a b c e:Expr}{ta tb:bU}{tA tB:oz}{rest:List Expr}{pos:Pos}
noncomputable def FA (t u:oz):oz:=fun Z S k=>t Z S fun c S1=>if c=true then u Z S1 k else k false S1
noncomputable def Zi (t u:oz):oz:=fun Z S k=>t Z S fun c S1=>if c=true then k true S1 else u Z S1 k
noncomputable def Zk (t:oz):oz:=fun Z S k=>t Z S fun c S1=>k (!c) S1
theorem zJ (ha:QT X a tA)(hb:QW X (.BoolOp .And (b::rest) pos) tB):QW X (.BoolOp .And (a::b::rest) pos) (FA tA tB):=
 Tg (VW ha hb) (by rintro U H Q ⟨Y,S,Z,k,R,D,q,hk⟩;exact⟨Y,S,Z,_,R,D,q,(by
  rintro c H1 ⟨Y1,S1,g1,R1,q1⟩;cases c with
  |true=>exact⟨Y1,S1,Z,k,R1,D.gr g1,q1,fun z H2 u=>hk z H2 (u.gr g1)⟩
  |false=>exact hk _ _ ⟨Y1,S1,g1,R1,q1⟩)⟩)
theorem rV (ha:QT X a tA)(hb:QW X (.BoolOp .Or (b::rest) pos) tB):QW X (.BoolOp .Or (a::b::rest) pos) (Zi tA tB):=
 Tg (a0E ha hb) (by rintro U H Q ⟨Y,S,Z,k,R,D,q,hk⟩;exact⟨Y,S,Z,_,R,D,q,(by
  rintro c H1 ⟨Y1,S1,g1,R1,q1⟩;cases c with
  |false=>exact⟨Y1,S1,Z,k,R1,D.gr g1,q1,fun z H2 u=>hk z H2 (u.gr g1)⟩
  |true=>exact hk _ _ ⟨Y1,S1,g1,R1,q1⟩)⟩)
theorem ur (ha:QT X a tA):QW X (.BoolOp .And [a] pos) tA:=PC ha
theorem qS (ha:QT X a tA):QW X (.BoolOp .Or [a] pos) tA:=VU ha
theorem qw (h:QW X e tA):QT X e tA:=h.pt
theorem qT (ha:QT X a tA):QT X (.UnaryOp .Not a pos) (Zk tA):=
 Gf (VY ha) (by rintro U H Q ⟨Y,S,Z,k,R,D,q,hk⟩;exact⟨Y,S,Z,_,R,D,q,(by rintro c H1 ⟨Y1,S1,g1,R1,q1⟩;exact hk _ _ ⟨Y1,S1,g1,R1,q1⟩)⟩)
noncomputable def KC (ta tb:bU):bU:=fun Z S k=>ta Z S fun x S1=>∃c,x=.bl c/\if c=true then tb Z S1 k else k (.bl false) S1
noncomputable def Zh (ta tb:bU):bU:=fun Z S k=>ta Z S fun x S1=>∃c,x=.bl c/\if c=true then k (.bl true) S1 else tb Z S1 k
noncomputable def UW (ta:bU):bU:=fun Z S k=>ta Z S fun x S1=>∃c,x=.bl c/\k (.bl (!c)) S1
theorem nv {op}{t:bU}(h:QE X a t):QE X (.BoolOp op [a] pos) t:=Wh h
theorem iN (ha:QE X a ta)(hb:QE X (.BoolOp .And (b::rest) pos) tb):QE X (.BoolOp .And (a::b::rest) pos) (KC ta tb):=
 bH (Wn ha hb) fun U H Q ⟨Y,S,Z,k,R,D,q,hk⟩=>⟨Y,S,Z,_,R,D,q,(by
  rintro v H1 ⟨Y1,S1,d,g1,R1,r1,c,e,q1⟩;subst e;refine⟨c,aE r1,?_⟩;cases c with
  |true=>exact⟨Y1,S1,Z,k,R1,D.gr g1,q1,fun z H2 u=>hk z H2 (u.gr g1)⟩
  |false=>exact hk _ _ ⟨Y1,S1,.bl false,g1,R1,aO,q1⟩)⟩
theorem a0y (ha:QE X a ta)(hb:QE X (.BoolOp .Or (b::rest) pos) tb):QE X (.BoolOp .Or (a::b::rest) pos) (Zh ta tb):=
 bH (a0M ha hb) fun U H Q ⟨Y,S,Z,k,R,D,q,hk⟩=>⟨Y,S,Z,_,R,D,q,(by
  rintro v H1 ⟨Y1,S1,d,g1,R1,r1,c,e,q1⟩;subst e;refine⟨c,aE r1,?_⟩;cases c with
  |false=>exact⟨Y1,S1,Z,k,R1,D.gr g1,q1,fun z H2 u=>hk z H2 (u.gr g1)⟩
  |true=>exact hk _ _ ⟨Y1,S1,.bl true,g1,R1,aO,q1⟩)⟩
theorem a0z (ha:QE X a ta):QE X (.UnaryOp .Not a pos) (UW ta):=
 bH (Wi ha) (by rintro U H Q ⟨Y,S,Z,k,R,D,q,hk⟩;exact⟨Y,S,Z,_,R,D,q,(by
  rintro v H1 ⟨Y1,S1,d,g1,R1,r1,c,e,q1⟩;subst e;exact⟨c,aE r1,hk _ _ ⟨Y1,S1,.bl (!c),g1,R1,aO,q1⟩⟩)⟩)
noncomputable def Zs (t:oz)(ta tb:bU):bU:=fun Z S k=>t Z S fun c S1=>if c=true then ta Z S1 k else tb Z S1 k
theorem Lx (hc:QT X c tA)(ha:QE X a ta)(hb:QE X b tb):QE X (.IfExp c a b pos) (Zs tA ta tb):=
 bH (LV hc ha hb) (by rintro U H Q ⟨Y,S,Z,k,R,D,q,hk⟩;exact⟨Y,S,Z,_,R,D,q,(by
  rintro c H1 ⟨Y1,S1,g1,R1,q1⟩;cases c with
  |true=>exact⟨Y1,S1,Z,k,R1,D.gr g1,q1,fun z H2 u=>hk z H2 (u.gr g1)⟩
  |false=>exact⟨Y1,S1,Z,k,R1,D.gr g1,q1,fun z H2 u=>hk z H2 (u.gr g1)⟩)⟩)
theorem jO {t:bU}(h:QE X e t)(he:autoParam (∀whole,isTrue e X.env whole=(do let v <- whole;standAt e.pos;holding [v] (truthy v))) jp):QT X e (uM t):=Gf (VX h he) (qK fun _ _ _ z=>z)
noncomputable def bQ:mH:=fun _ S k=>k [] S
noncomputable def bD (ta:bU)(tr:mH):mH:=fun Z S k=>ta Z S fun x S1=>tr Z S1 fun xs S2=>k (x::xs) S2
variable {es:List Expr}{te:bU}{t:mH}
theorem aa:QA X [] bQ:=Tj qW (by rintro U H Q ⟨Y,S,Z,k,R,D,q,hk⟩;exact hk _ _ ⟨Y,S,[],.refl,R,.nil,q⟩)
theorem qa (ha:QE X e te)(hr:QA X es t)(h:autoParam (notStar e=true) zi):QA X (e::es) (bD te t):=
 Tj (L7 ha hr h) (by rintro U H Q ⟨Y,S,Z,k,R,D,q,hk⟩;exact⟨Y,S,Z,_,R,D,q,(by rintro v H1 ⟨Y1,S1,d,g1,R1,r1,q1⟩;exact   ⟨Y1,S1,Z,_,R1,D.gr g1,q1,(by rintro w H2 ⟨Y2,S2,ds,g2,R2,r2,q2⟩;exact hk _ _ ⟨Y2,S2,d::ds,g1.trans g2,R2,.cons (r1.gr g2) r2,q2⟩)⟩)⟩)
noncomputable def ts?:List D->Option (List T)
 |[]=>some []
 |.t x::r=>match ts? r with
  |some l=>some (x::l)
  |none=>none
 |.ob _::_=>none
theorem yN {K:PySem.W.Frag}{Y:List Addr}{G:Hp}:∀{ds:List D}{l:List T}{vs:List V},ts? ds=some l->dH K Y G ds vs->aW K G l vs
 |[],l,_,e,.nil=>by
  have e:some []=some l:=e;cases e;exact .nil
 |.t x::r,l,_,e,.cons h t=>by
  cases q:ts? r with
  |none=>unfold ts? at e;rw[q] at e;cases e
  |some m=>
   unfold ts? at e;rw[q] at e;have e:some (x::m)=some l:=e;cases e;exact .cons h (yN q t)
 |.ob n::r,l,_,e,.cons h t=>by cases(show none=some l from e)
noncomputable def Km (t:mH):bU:=fun Z S k=>t Z S fun ds S1=>∃l,ts? ds=some l/\l.length<=sizeLine/\k (.tup l) S1
noncomputable def Zq (t:mH):bU:=fun Z S k=>t Z S fun ds S1=>∃l,ts? ds=some l/\l.length<=sizeLine/\k (.lst l) S1
noncomputable def Zp (t:mH):bU:=fun Z S k=>t Z S fun ds S1=>∃l,ts? ds=some l/\l.length<=sizeLine/\k (.ob S1.length) (S1++[.lst l])
theorem bq {x1}(h:QA X es t):QE X (.Tuple es x1 pos) (Km t):=
 bH (Wg h) (by rintro U H Q ⟨Y,S,Z,k,R,D,q,hk⟩;exact⟨Y,S,Z,_,R,D,q,(by
  rintro vs H1 ⟨Y1,S1,ds,g1,R1,r1,l,e,z,q1⟩;have r2:=yN e r1;exact⟨by rw[<- r2.len];exact z,Nk R1 (fun v H' u=>hk v H' (u.gr g1)) r2 q1⟩)⟩)
theorem eB (h:QA X es t):QE X (.List es pos) (Zq t):=
 bH (zO h) (by rintro U H Q ⟨Y,S,Z,k,R,D,q,hk⟩;exact⟨Y,S,Z,_,R,D,q,(by
  rintro vs H1 ⟨Y1,S1,ds,g1,R1,r1,l,e,z,q1⟩;have r2:=yN e r1;exact⟨by rw[<- r2.len];exact z,wu R1 (fun v H' u=>hk v H' (u.gr g1)) r2 q1⟩)⟩)
theorem jR (h:QA X es t):QE X (.List es pos) (Zp t):=
 bH (zO h) (by rintro U H Q ⟨Y,S,Z,k,R,D,q,hk⟩;exact⟨Y,S,Z,_,R,D,q,(by
  rintro vs H1 ⟨Y1,S1,ds,g1,R1,r1,l,e,z,q1⟩;have r2:=yN e r1;exact⟨by rw[<- r2.len];exact z,Rt R1 (fun v H' u=>hk v H' (u.gr g1)) r2 q1⟩)⟩)
end
noncomputable def iq (S:aS):D->Option (Addr×List Str×List D)
 |.t (.ins C ns l)=>some (C,ns,l.map .t)
 |.ob n=>match S[n]? with
  |some (.ins C ns l)=>some (C,ns,l)
  |_=>none
 |_=>none
theorem dH.len {K:PySem.W.Frag}{Y:List Addr}{G:Hp}{l:List D}{vs:List V}(r:dH K Y G l vs):l.length=vs.length:=Paired.length r
theorem dH.look {K:PySem.W.Frag}{Y:List Addr}{G:Hp}:∀{ns:List Str}{l:List D}{vs:List V}{f:Str}{x:D},dH K Y G l vs->(ns.zip l).lookup f=some x->∃v,(ns.zip vs).lookup f=some v/\g9 K Y G x v
 |[],l,vs,f,x,_,k=>by simp at k
 |n::ns,[],vs,f,x,_,k=>by simp at k
 |n::ns,y::l,_,f,x,.cons (b:=v) (l₂:=vr) e2 e3,k=>by
  rw[List.zip_cons_cons,List.lookup_cons] at k;rw[List.zip_cons_cons,List.lookup_cons];cases q:(f==n) with
  |true=>rw[q] at k;cases k;exact⟨v,rfl,e2⟩
  |false=>rw[q] at k;exact dH.look e3 k
section
variable {K:PySem.W.Frag}{Y:List Addr}{S:aS}{H:Hp}
theorem rj (R:R3 K Y S H):∀{d:D}{v:V}{C:Addr}{ns:List Str}{l:List D},g9 K Y (res Y H) d v->iq S d=some (C,ns,l)->
  ∃a dx vs,v=.ref a/\H a=some (.ins C dx (ns.zip vs))/\ns.length=vs.length/\fk K C ns/\dH K Y (res Y H) l vs
 |.t (.ins C' ns' l'),v,C,ns,l,r,e=>by
  have e:some (C',ns',l'.map D.t)=some (C,ns,l):=e;cases e;have r:Rp _ _ _ _:=r;unfold Rp at r;obtain⟨a,dx,vs,e1,e2,e3,e4,e5⟩:=r;exact⟨a,dx,vs,e1,iT _ _ e2,e3,e4,dH.of e5⟩
 |.t (.v _),_,_,_,_,_,e=>nomatch e
 |.t (.tup _),_,_,_,_,_,e=>nomatch e
 |.t (.lst _),_,_,_,_,_,e=>nomatch e
 |.t (.Bb _),_,_,_,_,_,e=>nomatch e
 |.ob n,v,C,ns,l,⟨a,ha,r⟩,e=>by
  have e:(match S[n]? with | some (.ins C ns l)=>some (C,ns,l) | _=>none)=some (C,ns,l):=e;cases q:S[n]? with
  |none=>rw[q] at e;cases e
  |some o=>
   rw[q] at e;cases o with
   |ins C' ns' m=>
    have e:some (C',ns',m)=some (C,ns,l):=e;cases e;obtain⟨dx,vs,h1,h2,h3,h4⟩:=R.ok n a _ ha q;exact⟨a,dx,vs,r,h1,h2,h3,h4⟩
   |tu m=>cases e
   |wB _ _ m=>cases e
   |gh _ _=>cases e
   |lst m=>cases e
end
section
variable {X:Cx}{o e:Expr}{es:List Expr}{ta tv:bU}{t:mH}{f m:Str}{pos BM pos':Pos}
noncomputable def Zu (ta:bU)(f:Str):bU:=fun Z S k=>ta Z S fun d S1=>∃C ns l x,iq S1 d=some (C,ns,l)/\(ns.zip l).lookup f=some x/\k x S1
theorem BS {α:Type}:∀{ns:List Str}{l:List α}{f:Str}{x:α},(ns.zip l).lookup f=some x->f∈ns
 |[],l,f,x,h=>by simp at h
 |n::ns,[],f,x,h=>by simp at h
 |n::ns,y::l,f,x,h=>by
  rw[List.zip_cons_cons,List.lookup_cons] at h;cases q:(f==n) with
  |true=>exact List.mem_cons.mpr (.inl (eq_of_beq q))
  |false=>rw[q] at h;exact List.mem_cons_of_mem _ (BS h)
theorem bM (he:QE X e ta)(hb:attributeBase e f X.env (eval e X.env)=eval e X.env):QE X (.Attribute e f pos) (Zu ta f):=
 bH (Wk he hb) (by rintro U H Q ⟨Y,S,Z,k,R,D,q,hk⟩;exact⟨Y,S,Z,_,R,D,q,(by
  rintro v H1 ⟨Y1,S1,d,g1,R1,r1,C,ns,l,x,h1,h2,q1⟩;obtain⟨a,dx,vs,e1,e2,e3,e4,e5⟩:=rj R1 r1 h1;obtain⟨w,e6,e7⟩:=dH.look e5 h2;exact⟨a,C,dx,_,w,e1,e2,e4.cls,e4.no f (BS h2),e6,hk _ _ ⟨Y1,S1,x,g1,R1,e7,q1⟩⟩)⟩)
abbrev ef:=List D->aS->KD->Prop
noncomputable def bR (K:PySem.W.Frag)(sp:ef):Sp:=fun vs H Q _=>∃Y S ds k,R3 K Y S H/\dH K Y (res Y H) ds vs/\sp ds S k/\∀v H',up K Y H k v H'->Q v H'
noncomputable def uO (sp:ef)(t:mH):bU:=fun Z S k=>t Z S fun ds S1=>sp ds S1 k
variable {k:Nat}{x:Str}{ps:List Str}{sp:ef}{p:Pos}{C:Addr}
theorem MH {K:PySem.W.Frag}{Y Y1:List Addr}{S1:aS}{H H1:Hp}{kk:KD}{Q:VK}{E:XK}{ds:List D}{vs:List V}(g1:Gr Y H Y1 H1)(R1:R3 K Y1 S1 H1)(r1:dH K Y1 (res Y1 H1) ds vs)(q1:sp ds S1 kk)(hk:∀v H',up K Y H kk v H'->Q v H'):bR K sp vs H1 Q E:=
 ⟨Y1,S1,ds,kk,R1,r1,q1,fun v H' u=>hk v H' (u.gr g1)⟩
theorem aq (F:Dn X.prog X.w X.K X.mg X.base k x ps (bR X.K sp))(hr:bV k X.A)(hg:Gl X x)(ha:QA X (e::es) t)(h1:autoParam (notStar e=true) zi)(h2:autoParam (es.all notStar=true) zi)(hdb:autoParam ((x==("__debug__":Str))=false) zn) :
  QE X (.Call (.Name x p) (e::es) [] pos) (uO sp t):=by
 obtain⟨f,fd,F,hm,hk,hb⟩:=F;refine bH (Bx F hr hg hm hk hb .nil rX ha h1 h2 hdb) fun U H Q ⟨Y,S,Z,k,R,D,q,hk⟩=>⟨Y,S,Z,_,R,D,q,?_⟩
 rintro v H1 ⟨Y1,S1,d,g1,R1,r1,q1⟩;show bR X.K sp (v++[]) H1 Q E0;rw[List.append_nil];exact MH g1 R1 r1 q1 hk
theorem PB (F:Dn X.prog X.w X.K X.mg X.base k x ps (bR X.K sp))(hr:bV k X.A)(hg:Gl X x)(hdb:autoParam ((x==("__debug__":Str))=false) zn):QE X (.Call (.Name x p) [] [] pos) (uO sp bQ):=by
 obtain⟨f,fd,F,hm,hk,hb⟩:=F;exact bH (L5 F hr hg hm hk hb .nil rX hdb) (by rintro U H Q ⟨Y,S,Z,k,R,D,q,hk⟩;exact⟨Y,S,[],k,R,.nil,q,hk⟩)
def Ms (P:Program)(w:World)(K:PySem.W.Frag)(mg:Str->Option Value)(base:Heap)(k:Nat)(n:Nat)(cl:Nat->Addr)(m:Str)(ps:List Str)(sp:Nat->ef):Prop:=
 ∀j,j<n->Mt P w K mg base k (cl j) m ps (bR K (sp j))
noncomputable def Kr (n:Nat)(cl:Nat->Addr)(m:Str)(sp:Nat->ef)(ta:bU)(t:mH):bU:=fun Z S k=>ta Z S fun d S1=>∃j ns l,j<n/\iq S1 d=some (cl j,ns,l)/\ns.contains m=false/\t Z S1 fun ds S2=>sp j (d::ds) S2 k
variable {n:Nat}{cl:Nat->Addr}{Z2:Nat->ef}
theorem nM {ns:List Str}{vs:List V}(h:ns.contains m=false):(ns.zip vs).lookup m=none:=aW.nM (by
 intro z;rw[List.contains_iff_mem.mpr z] at h;cases h)
theorem qU {pl:Sem Bool}(he:QE X o ta)(M:Ms X.prog X.w X.K X.mg X.base k n cl m ps Z2)(hr:bV k X.A)(ha:QA X (e::es) t)(h1:autoParam (notStar e=true) zi)(h2:autoParam (es.all notStar=true) zi)
  (ht:autoParam (eval (.Call (.Attribute o m BM) (e::es) [] pos) X.env=(do
   let ov <- eval o X.env
   standAt BM.atName
   let(f,first) <- holding [ov] (getMethod ov m pl)
   callWith pos f first (backTo pos (starEach (e::es) X.env)) (backToKw pos (keywordEach [] X.env)))) zi) :
  QE X (.Call (.Attribute o m BM) (e::es) [] pos) (Kr n cl m Z2 ta t):=by
 rintro vy s U H Q I ⟨Y,S,Z,k,R,D,q,hk⟩;refine PySem.W.methodCall_KW (pl:=pl) (bA (he vy s U H _ I ⟨Y,S,Z,_,R,D,q,fun v H' z=>z⟩) ?_) ht;rintro u s1 ⟨x,H1,I1,rx,Y1,S1,d,g1,R1,r1,j,ns,l,hj,i1,hm0,q1⟩;obtain⟨a,dx,vs,e1,e2,e3,e4,e5⟩:=rj R1 r1 i1;subst e1;obtain rfl:u=Value.ref a:=rx;obtain⟨f,fd,F,hm,hb⟩:=M j hj;refine jV I1 e2 e4.cls hm (nM hm0) ?_;refine PySem.W.callWith_K (first:=[.ref a]) (h₀:=X.base) I.ok.mod.Oo hm.kp (bA (ha pos vy s1 U H1 _ I1 ⟨Y1,S1,Z,_,R1,D.gr g1,q1,fun v H' z=>z⟩) ?_) (dG h1) (dI h2);rintro us s2 ⟨ws,H2,I2,r,Y2,S2,ds,g2,R2,r2,q2⟩;refine⟨I2.iW,nJ (us:=.ref a::us) (vs:=.ref a::ws) F hr hb .nil rX I2 (.cons rfl r) ?_⟩;rw[List.append_nil];exact⟨Y2,S2,d::ds,k,R2,.cons (r1.gr g2) r2,q2,fun v H' u=>hk v H' (u.gr (g1.trans g2))⟩
theorem bT {pl:Sem Bool}(he:QE X o ta)(M:Ms X.prog X.w X.K X.mg X.base k n cl m ps Z2)(hr:bV k X.A)
  (ht:autoParam (eval (.Call (.Attribute o m BM) [] [] pos) X.env=(do
   let ov <- eval o X.env
   standAt BM.atName
   let(f,first) <- holding [ov] (getMethod ov m pl)
   callWith pos f first (backTo pos (starEach [] X.env)) (backToKw pos (keywordEach [] X.env)))) zi) :
  QE X (.Call (.Attribute o m BM) [] [] pos) (Kr n cl m Z2 ta bQ):=by
 rintro vy s U H Q I ⟨Y,S,Z,k,R,D,q,hk⟩;refine PySem.W.methodCall_KW (pl:=pl) (bA (he vy s U H _ I ⟨Y,S,Z,_,R,D,q,fun v H' z=>z⟩) ?_) ht;rintro u s1 ⟨x,H1,I1,rx,Y1,S1,d,g1,R1,r1,j,ns,l,hj,i1,hm0,q1⟩;obtain⟨a,dx,vs,e1,e2,e3,e4,e5⟩:=rj R1 r1 i1;subst e1;obtain rfl:u=Value.ref a:=rx;obtain⟨f,fd,F,hm,hb⟩:=M j hj;refine jV I1 e2 e4.cls hm (nM hm0) ?_;refine PySem.W.callWith_K0 (first:=[.ref a]) I1.iW hm.kp (nJ (us:=[.ref a]) (vs:=[.ref a]) F hr hb .nil rX I1 (.cons rfl .nil) ?_);exact⟨Y1,S1,[d],k,R1,.cons r1 .nil,q1,fun v H' u=>hk v H' (u.gr g1)⟩
end
def Yb (n:Nat):D->Prop
 |.t _=>True
 |.ob m=>m<n
def Cu (n:Nat):O->Prop
 |.ins _ _ l=>∀d∈l,Yb n d
 |.gh ρ0 _=>ρ0.length<=n
 |_=>True
section
variable {K:PySem.W.Frag}{Y e:List Addr}{S:aS}{H:Hp}{G G':Hp}
theorem iO {α β:Type}{F:α->β->Prop}:∀{l:List α}{m:List β},Paired F l m->∀a∈l,∃b,F a b
 |_,_,.nil,a,h=>nomatch h
 |_,_,.cons r t,a,h=>by
  rcases List.mem_cons.mp h with rfl | h
  .exact⟨_,r⟩
  .exact iO t a h
theorem g9.cl {d:D}{w:V}(r:g9 K Y G d w):Yb Y.length d:=by
 cases d with
 |t x=>trivial
 |ob n=>obtain⟨a,h,_⟩:=r;exact(List.getElem?_eq_some_iff.mp h).1
theorem EK.cl {h:Option HO}:∀{o:O},EK K Y G h o->Cu Y.length o
 |.lst l,_=>trivial
 |.tu l,_=>trivial
 |.wB _ _ l,_=>trivial
 |.gh ρ0 _,⟨_,e,_⟩=>Nat.le_of_not_lt fun z=>absurd (List.getElem?_eq_some_iff.mp (e Y.length _ (List.getElem?_eq_getElem z))).1 (Nat.lt_irrefl _)
 |.ins C ns l,⟨dx,vs,_,_,_,r⟩=>fun d hd=>let⟨_,q⟩:=iO r d hd;q.cl
theorem R3.cl (r:R3 K Y S H):∀o∈S,Cu S.length o:=fun o ho=>by
 obtain⟨n,hn⟩:=List.mem_iff_getElem?.mp ho;have hl:n<Y.length:=by rw[r.len];exact(List.getElem?_eq_some_iff.mp hn).1
 rw[<- r.len];exact(r.ok n Y[n] o (List.getElem?_eq_getElem hl) hn).cl
theorem g9.pop (le:Le G G'){d:D}{w:V}(r:g9 K (Y++e) G d w)(c:Yb Y.length d):g9 K Y G' d w:=by
 cases d with
 |t x=>exact Rp.le le r
 |ob n=>
  obtain⟨a,h,q⟩:=r;refine⟨a,?_,q⟩;rw[List.getElem?_append_left (show n<Y.length from c)] at h;exact h
theorem rZ {α β:Type}{F F':α->β->Prop}:∀{l:List α}{m:List β},(∀a∈l,∀b,F a b->F' a b)->Paired F l m->Paired F' l m
 |_,_,_,.nil=>.nil
 |_,_,h,.cons r t=>.cons (h _ List.mem_cons_self _ r) (rZ (fun a ha b=>h a (List.mem_cons_of_mem _ ha) b) t)
theorem EK.pop (le:Le G G'){h:Option HO}:∀{o:O},EK K (Y++e) G h o->Cu Y.length o->EK K Y G' h o
 |.lst l,⟨vs,e1,e2⟩,_=>⟨vs,e1,e2.le le⟩
 |.tu l,⟨vs,e1,e2⟩,_=>⟨vs,e1,dN (fun _ _ z=>⟨z.1,z.2.le le⟩) e2⟩
 |.wB ob vs l,⟨e1,e2⟩,_=>⟨e1,dN (fun _ _ z=>⟨z.1,z.2.le le⟩) e2⟩
 |.gh ρ0 G0,⟨e1,e2,e3⟩,c=>⟨e1,fun n a z=>by
   have l:n<Y.length:=Nat.lt_of_lt_of_le (List.getElem?_eq_some_iff.mp z).1 c;have:=e2 n a z;rwa[List.getElem?_append_left l] at this,e3.trans le⟩
 |.ins C ns l,⟨dx,vs,e1,e2,e3,e4⟩,c=>⟨dx,vs,e1,e2,e3,rZ (fun a ha b z=>z.pop le (c a ha)) e4⟩
theorem gZ:Le (res (Y++e) H) (res Y H):=fun a o h=>by
 obtain⟨h1,h2⟩:=res_some h;exact kM (fun z=>h1 (List.mem_append_left _ z)) h2
theorem R3.pop {S':aS}(r:R3 K (Y++e) (S++S') H)(hl:Y.length=S.length)(c:∀o∈S,Cu S.length o):R3 K Y S H:=by
 refine⟨hl,(List.nodup_append.mp r.nd).1,fun n a o h1 h2=>?_⟩;have l1:=(List.getElem?_eq_some_iff.mp h1).1;have l2:=(List.getElem?_eq_some_iff.mp h2).1;have q:=r.ok n a o (by rw[List.getElem?_append_left l1];exact h1) (by rw[List.getElem?_append_left l2];exact h2);exact q.pop gZ (by rw[hl];exact c o (List.mem_of_getElem? h2))
end
section
variable {X:Cx}{o e:Expr}{es:List Expr}{ta tv:bU}{t:mH}{f m x:Str}{pos BM pos' p:Pos}{k:Nat}{ps:List Str}{sp:ef}{C:Addr}
structure Mkr (P:Program)(w:World)(K:PySem.W.Frag)(mg:Str->Option Value)(base:Heap)(k:Nat)(C:Addr)(x:Str)(ps:List Str)(sp:ef):Prop where
 mr:Mr P w K mg base k C ps (bR K sp)
 ok:fk K C []
 mg:mg x=some (.ref C)
def Tq (C:Addr)(S1:aS)(k:KD)(d:D)(S2:aS):Prop:=d=.cR/\∃ns l,S2=S1++[.ins C ns (l.map .t)]/\k (.t (.ins C ns l)) S1
noncomputable def qL (C:Addr)(sp:ef)(t:mH):bU:=fun Z S k=>t Z S fun ds S1=>sp (.ob S1.length::ds) (S1++[.ins C [] []]) (Tq C S1 k)
noncomputable def Ku (C:Addr)(sp:ef)(t:mH):bU:=fun Z S k=>t Z S fun ds S1=>sp (.ob S1.length::ds) (S1++[.ins C [] []]) fun d S2=>d=.cR/\k (.ob S1.length) S2
theorem vN {K:PySem.W.Frag}{Y:List Addr}{S:aS}{H:Hp}(R:R3 K Y S H)(ok:fk K C []){x dx:Addr}(hx:H x=none)(hd:H dx=none)(ne:dx≠x) :
  R3 K (Y++[x]) (S++[.ins C [] []]) (upd (upd H dx (.own x)) x (.ins C dx []))/\Gr Y H (Y++[x]) (upd (upd H dx (.own x)) x (.ins C dx [])):=by
 obtain⟨R1,g1,_⟩:=R.new (o:=.own x) hd;have hx1:upd H dx (.own x) x=none:=by rw[aH (Ne.symm ne)];exact hx
 obtain⟨R2,g2⟩:=R1.push (o:=.ins C dx []) (u:=.ins C [] []) hx1 ⟨dx,[],rfl,rfl,ok,.nil⟩;exact⟨R2,g1.trans g2⟩
theorem VQ (F:Mkr X.prog X.w X.K X.mg X.base k C x ps sp)(hr:bV (k+1) X.A)(hg:Gl X x)(ha:QA X (e::es) t)(h1:autoParam (notStar e=true) zi)(h2:autoParam (es.all notStar=true) zi)(hdb:autoParam ((x==("__debug__":Str))=false) zn) :
  QE X (.Call (.Name x p) (e::es) [] pos) (qL C sp t):=by
 obtain⟨f,fd,F',hM,hb⟩:=F.mr;refine bH (Bw hM F' hr hg F.mg hb .nil rX ha h1 h2 hdb) fun U H Q ⟨Y,S,Z,k,R,D,q,hk⟩=>⟨Y,S,Z,_,R,D,q,fun vs H1 ⟨Y1,S1,ds,g1,R1,r1,q1⟩ y dy hy hdy ne=>?_⟩
 obtain⟨R2,g2⟩:=vN R1 F.ok hy hdy ne;refine⟨Y1++[y],S1++[.ins C [] []],.ob S1.length::ds,_,R2,.cons ⟨y,by rw[<- R1.len];simp,rfl⟩ ?_,q1,?_⟩
 .rw[List.append_nil];exact r1.gr g2
 .rintro v H3 ⟨ρ3,S3,d,g3,sI,r3,rfl,ns,l,rfl,q3⟩;refine⟨aE r3,?_⟩;have hρ:ρ3=Y1++[y]:=by
   obtain⟨ex,he⟩:=g3.ext;have:=sI.len;rw[he] at this;simp only[List.length_append,List.length_singleton] at this;have l0:=R1.len;have:ex=[]:=List.length_eq_zero_iff.mp (by omega);rw[he,this,List.append_nil]
  subst hρ;have R4:R3 X.K Y1 S1 H3:=sI.pop R1.len R1.cl;have g4:Gr Y1 H1 Y1 H3:=⟨⟨[],by simp⟩,(g2.le.trans g3.le).trans gZ⟩
  refine hk _ _ ⟨Y1,S1,.t (.ins C ns l),g1.trans g4,R4,?_,q3⟩;obtain⟨dx,ws,h3,h4,h5,h6⟩:=sI.ok S1.length y (.ins C ns (l.map .t)) (by rw[<- R1.len];simp) (by simp);show Rp _ _ _ _;unfold Rp;have ny:y∉Y1:=R1.fresh hy;exact⟨y,dx,ws,rfl,kM ny h3,h4,h5,(dH.t h6).le gZ⟩
theorem Py (F:Mkr X.prog X.w X.K X.mg X.base k C x ps sp)(hr:bV (k+1) X.A)(hg:Gl X x)(ha:QA X (e::es) t)(h1:autoParam (notStar e=true) zi)(h2:autoParam (es.all notStar=true) zi)(hdb:autoParam ((x==("__debug__":Str))=false) zn) :
  QE X (.Call (.Name x p) (e::es) [] pos) (Ku C sp t):=by
 obtain⟨f,fd,F',hM,hb⟩:=F.mr;refine bH (Bw hM F' hr hg F.mg hb .nil rX ha h1 h2 hdb) fun U H Q ⟨Y,S,Z,k,R,D,q,hk⟩=>⟨Y,S,Z,_,R,D,q,fun vs H1 ⟨Y1,S1,ds,g1,R1,r1,q1⟩ y dy hy hdy ne=>?_⟩
 obtain⟨R2,g2⟩:=vN R1 F.ok hy hdy ne;refine⟨Y1++[y],S1++[.ins C [] []],.ob S1.length::ds,_,R2,.cons ⟨y,by rw[<- R1.len];simp,rfl⟩ ?_,q1,?_⟩
 .rw[List.append_nil];exact r1.gr g2
 .rintro v H3 ⟨ρ3,S3,d,g3,sI,r3,rfl,q3⟩;refine⟨aE r3,hk _ _ ⟨ρ3,S3,.ob S1.length,(g1.trans g2).trans g3,sI,⟨y,?_,rfl⟩,q3⟩⟩;exact g3.at (by rw[<- R1.len];simp)
noncomputable def pN (f:Str):List Str->List Str
 |[]=>[f]
 |g::r=>if g=f then g::r else g::pN f r
noncomputable def pD {α:Type}(f:Str)(y:α):List Str->List α->List α
 |[],_=>[y]
 |_::_,[]=>[]
 |g::r,x::l=>if g=f then y::l else x::pD f y r l
theorem Bt (f:Str)(y:V):∀{ns:List Str}{vs:List V},ns.length=vs.length->kr f y (ns.zip vs)=(pN f ns).zip (pD f y ns vs)/\(pN f ns).length=(pD f y ns vs).length
 |[],[],_=>⟨rfl,rfl⟩
 |[],_::_,h=>by simp at h
 |_::_,[],h=>by simp at h
 |g::ns,v::vs,h=>by
  have h':ns.length=vs.length:=by simpa using h
  obtain⟨i1,i2⟩:=Bt f y h';rw[List.zip_cons_cons];unfold kr pN pD;by_cases e:g=f
  .rw[if_pos e,if_pos e,if_pos e];exact⟨rfl,by simpa using h'⟩
  .rw[if_neg e,if_neg e,if_neg e,i1];exact⟨rfl,by simpa using i2⟩
theorem Ma {K:PySem.W.Frag}{Y:List Addr}{G:Hp}{d:D}{v:V}(r:g9 K Y G d v):∀{ns:List Str}{l:List D}{vs:List V},dH K Y G l vs->dH K Y G (pD f d ns l) (pD f v ns vs)
 |[],_,_,_=>by unfold pD;exact .cons r .nil
 |_::_,[],_,.nil=>by unfold pD;exact .nil
 |g::ns,_::_,_,.cons h t=>by
  unfold pD;by_cases e:g=f
  .rw[if_pos e,if_pos e];exact .cons r t
  .rw[if_neg e,if_neg e];exact .cons h (Ma r t)
theorem L8 {g:Str}:∀{ns:List Str},g∈pN f ns->g=f∨g∈ns
 |[],h=>.inl (List.mem_singleton.mp h)
 |n::ns,h=>by
  unfold pN at h;by_cases e:n=f
  .rw[if_pos e] at h;exact .inr h
  .rw[if_neg e] at h;rcases List.mem_cons.mp h with h | h
   .exact .inr (List.mem_cons.mpr (.inl h))
   .rcases L8 h with h | h
    .exact .inl h
    .exact .inr (List.mem_cons_of_mem _ h)
noncomputable def Z9 (K:PySem.W.Frag)(ta tv:bU)(f:Str):ku:=fun E Z S=>tv Z S fun y S1=>ta Z S1 fun x S2=>∃n C ns l,x=.ob n/\S2[n]?=some (.ins C ns l)/\aN K C f/\ns.length<1000/\E.nx Z (S2.set n (.ins C (pN f ns) (pD f y ns l)))
theorem aU {value:Expr}(ha:QE X o ta)(hv:QE X value tv)(hs:swapsWith value (some (.Attribute o f pos')) pos.line X.env=pure false):QS X (.Assign [.Attribute o f pos'] value pos) (Z9 X.K ta tv f):=
 gU (V4 ha hv hs) fun D U H ⟨Y,S,Z,E,R,RS,q,eu⟩=>⟨Y,S,Z,_,R,RS,q,fun v H1 ⟨Y1,S1,d,g1,R1,r1,q1⟩=>⟨Y1,S1,Z,_,R1,RS.gr g1,q1,(by
  rintro w H2 ⟨Y2,S2,d2,g2,R2,r2,n,C,ns,l,h1,h2,h3,h4,q2⟩;subst h1;obtain⟨a,ha,e⟩:=r2;obtain⟨dx,vs,e1,e2,e3,e4⟩:=R2.ok n a _ ha h2;refine⟨a,C,dx,ns.zip vs,e,e1,e3.cls,h3,by rw[List.length_zip];omega,?_⟩;obtain⟨i1,i2⟩:=Bt f v e2;rw[i1];obtain⟨R4,g4⟩:=R2.put (o:=.ins C dx ((pN f ns).zip (pD f v ns vs))) (u:=.ins C (pN f ns) (pD f d ns l)) ha
   ⟨dx,_,rfl,i2,⟨e3.cls,fun g hg=>by rcases L8 hg with z | z;rw[z];exact h3;exact e3.no g z,e3.ca,e3.cg,e3.ct,e3.cm⟩,Ma (r1.gr g2) e4⟩
  exact eu.nx _ _ ⟨Y2,_,Z,(g1.trans g2).trans g4,R4,(RS.gr (g1.trans g2)).gr g4,q2⟩)⟩⟩
end
abbrev I8:=List D->aS->KD->Prop
noncomputable def liC (K:PySem.W.Frag)(r:I8):List V->Hp->VK->Prop:=fun vs H Q=>∃Y S ds k,R3 K Y S H/\dH K Y (res Y H) ds vs/\r ds S k/\∀v H',up K Y H k v H'->Q v H'
def Call3 (X:Cx)(f:Value)(r:I8):Prop:=eS X f (liC X.K r)
theorem g8 {X:Cx}{f:Value}{r r':List V->Hp->VK->Prop}(h:eS X f r)(m:∀vs H Q,r' vs H Q->r vs H Q):eS X f r':=fun vy s U H xs us Q I rx q=>h vy s U H xs us Q I rx (m _ _ _ q)
theorem dH.one {K:PySem.W.Frag}{Y:List Addr}{G:Hp}{d:D}{vs:List V}(r:dH K Y G [d] vs):∃v,vs=[v]/\g9 K Y G d v:=by
 cases r with
 |cons h t=>cases t;exact⟨_,rfl,h⟩
theorem dH.two {K:PySem.W.Frag}{Y:List Addr}{G:Hp}{d e:D}{vs:List V}(r:dH K Y G [d,e] vs):∃v w,vs=[v,w]/\g9 K Y G d v/\g9 K Y G e w:=by
 cases r with
 |cons h t=>
  cases t with
  |cons h2 t2=>cases t2;exact⟨_,_,rfl,h,h2⟩
noncomputable def a1m:I8
 |[d],S,k=>d.sD.elim (∃l,sq S d=some l/\k (.int l.length) S) fun z=>z.length<=sizeLine/\k (.int z.length) S
 |_,_,_=>False
noncomputable def J8:I8
 |[d],S,k=>∃l,sq S d=some l/\k (.tup l) S
 |_,_,_=>False
noncomputable def Yt (f:List Bool->Bool):I8
 |[d],S,k=>∃bs:List Bool,lq S d=some (bs.map T.bl)/\k (.bl (f bs)) S
 |_,_,_=>False
section
variable {X:Cx}{x:Str}{p pos BM cpos:Pos}{e o:Expr}{es:List Expr}{t:mH}{to:bU}{id ty:String}{r:I8}
theorem aW.bls {K:PySem.W.Frag}{G:Hp}:∀{ns:List Bool}{vs:List V},aW K G (ns.map T.bl) vs->vs=ns.map V.bl
 |[],vs,r=>by unfold aW at r;exact r
 |n::ns,vs,r=>by
  rw[List.map_cons] at r;unfold aW at r;obtain⟨v,vr,e1,e2,e3⟩:=r;unfold Rp at e2;rw[e1,e2,aW.bls e3];rfl
theorem aW.strs {K:PySem.W.Frag}{G:Hp}:∀{ns:List Str}{vs:List V},aW K G (ns.map T.str) vs->vs=ns.map V.str
 |[],vs,r=>by unfold aW at r;exact r
 |n::ns,vs,r=>by
  rw[List.map_cons] at r;unfold aW at r;obtain⟨v,vr,e1,e2,e3⟩:=r;unfold Rp at e2;rw[e1,e2,aW.strs e3];rfl
theorem aW.ofStrs {K:PySem.W.Frag}{G:Hp}:∀(ns:List Str),aW K G (ns.map T.str) (ns.map V.str)
 |[]=>.nil
 |n::ns=>.cons (by unfold Rp;rfl) (aW.ofStrs ns)
noncomputable def U0 (r:I8)(t:mH):bU:=fun Z S k=>t Z S fun ds S1=>r ds S1 k
theorem Hf:∀U H Q,li X.K (U0 r t) U H Q->Zz (liC X.K r) (liA X.K t) U H Q:=(by rintro U H Q ⟨Y,S,Z,k,R,D,q,hk⟩;exact  ⟨Y,S,Z,_,R,D,q,(by rintro v H1 ⟨Y1,S1,d,g1,R1,r1,q1⟩;exact⟨Y1,S1,d,k,R1,r1,q1,fun w H2 u=>hk w H2 (u.gr g1)⟩)⟩)
theorem aJ (hc:Call3 X (.builtin id) r)(hg:Gl X x)(hm:X.mg x=none)(hv:bootBuiltins x=some (.builtin id))(ha:QA X (e::es) t)(h1:autoParam (notStar e=true) zi)(h2:autoParam (es.all notStar=true) zi)(hn:autoParam (x≠"__name__") zn)(hdb:autoParam ((x==("__debug__":Str))=false) zn) :
  QE X (.Call (.Name x p) (e::es) [] pos) (U0 r t):=bH (HR hc hg hm hv ha h1 h2 hn hdb) Hf
theorem cU (hc:Call3 X (.type ty) r)(hg:Gl X x)(hm:X.mg x=none)(hv:bootBuiltins x=some (.type ty))(ha:QA X (e::es) t)(h1:autoParam (notStar e=true) zi)(h2:autoParam (es.all notStar=true) zi)(hn:autoParam (x≠"__name__") zn)(hdb:autoParam ((x==("__debug__":Str))=false) zn) :
  QE X (.Call (.Name x p) (e::es) [] pos) (U0 r t):=bH (DS hc hg hm hv ha h1 h2 hn hdb) Hf
theorem ck:Call3 X (.builtin "len") a1m:=by
 refine g8 (Aw.or Ax) ?_;rintro vs H Q ⟨Y,S,ds,k,R,rd,q,hk⟩;unfold a1m at q;split at q
 .obtain⟨v,rfl,rv⟩:=rd.one;rcases Jf q with⟨l,h1,h2⟩ | ⟨z,hd,q⟩
  .obtain⟨a,us,e1,e2,e3⟩:=yX R rv h1;refine .inr ⟨a,us,by rw[e1],e2,?_⟩;rw[<- e3.len];exact fin R hk aO h2
  .cases D.Bl hd;rw[aE rv];exact .inl ⟨_,rfl,q.1,fin R hk aO q.2⟩
 .exact q.elim
theorem J9 {K:PySem.W.Frag}{Y:List Addr}{S:aS}{H:Hp}(R:R3 K Y S H):∀{d:D}{v:V}{l:List T},g9 K Y (res Y H) d v->sq S d=some l->
  (∃a vs,v=.ref a/\jx K H a vs/\aW K (res Y H) l vs)∨(d=.tup l/\∃a vs,v=.ref a/\lM K H a vs)
 |.t (.tup m),v,l,r,e=>by
  have e:some m=some l:=e;cases e;obtain⟨a,vs,e1,e2,e3⟩:=d7 r;exact .inr ⟨rfl,a,vs,e1,.of e2⟩
 |.t (.Bb m),v,l,r,e=>by
  have e:some m=some l:=e;cases e;have r:Rp _ _ _ _:=r;unfold Rp at r;obtain⟨a,vs,e1,e2,e3⟩:=r;exact .inl ⟨a,vs,e1,DC iT e2,e3⟩
 |.t (.lst m),v,l,r,e=>by
  obtain⟨a,vs,e1,e2,e3⟩:=cD R r (show lq S (.t (.lst m))=some l from e);exact .inl ⟨a,vs,e1,.of e2,e3⟩
 |.t (.v _),_,_,_,e=>nomatch e
 |.t (.ins _ _ _),_,_,_,e=>nomatch e
 |.ob n,v,l,r,e=>by
  obtain⟨a,vs,e1,e2,e3⟩:=cD R r (show lq S (.ob n)=some l from e);exact .inl ⟨a,vs,e1,.of e2,e3⟩
theorem eV:Call3 X (.type "tuple") J8:=by
 refine g8 xD ?_;rintro vs H Q ⟨Y,S,ds,k,R,rd,q,hk⟩;unfold J8 at q;split at q
 .obtain⟨v,rfl,rv⟩:=rd.one;obtain⟨l,h1,h2⟩:=q;rcases J9 R rv h1 with⟨a,us,e1,e2,e3⟩ | ⟨hd,a,us,e1,e2⟩
  .exact⟨a,us,by rw[e1],.inl ⟨e2,Nk R hk e3 h2⟩⟩
  .subst hd;refine⟨a,us,by rw[e1],.inr ⟨e2,?_⟩⟩;rw[<- e1];exact fin R hk rv h2
 .exact q.elim
theorem a2G {f:List Bool->Bool}(h:eS X (.builtin id) (fun xs H Q=>∃(p:Addr)(bs:List Bool),xs=[.ref p]/\jx X.K H p (bs.map V.bl)/\Q (.bl (f bs)) H)):Call3 X (.builtin id) (Yt f):=by
 refine g8 h ?_;rintro vs H Q ⟨Y,S,ds,k,R,rd,q,hk⟩;unfold Yt at q;split at q
 .obtain⟨v,rfl,rv⟩:=rd.one;obtain⟨ns,h1,h2⟩:=q;obtain⟨a,us,e1,e2,e3⟩:=cD R rv h1;rw[e3.bls] at e2;exact⟨a,ns,by rw[e1],.of e2,fin R hk aO h2⟩
 .exact q.elim
theorem CF (hc:X.calm=true):Call3 X (.builtin "all") (Yt fun bs=>bs.all _root_.id):=a2G (NQ hc)
noncomputable def tyT:T->Option Value
 |.v .cR=>some (.type "NoneType")
 |.v (.bl _)=>some (.type "bool")
 |.v (.int _)=>some (.type "int")
 |.v (.str _)=>some (.type "str")
 |.tup _=>some (.type "tuple")
 |.lst _=>some (.type "list")
 |.ins C _ _=>some (.ref C)
 |_=>none
noncomputable def tyD (S:aS):D->Option Value
 |.t x=>tyT x
 |.ob n=>match S[n]? with
  |some (.lst _)=>some (.type "list")
  |some (.ins C _ _)=>some (.ref C)
  |some (.tu _)=>some (.type "dict")
  |some (.wB _ _ _)=>none
  |some (.gh _ _)=>none
  |none=>none
theorem OD {K:PySem.W.Frag}{Y:List Addr}{S:aS}{H:Hp}(R:R3 K Y S H){d:D}{v:V}{u:Value}(r:g9 K Y (res Y H) d v)(e:tyD S d=some u):rC K H v u:=by
 cases d with
 |t x=>
  have e:tyT x=some u:=e;cases x with
  |v y=>
   rw[aE r];cases y with
   |cR=>cases e;exact .cR
   |bl b=>cases e;exact .bl b
   |int i=>cases e;exact .int i
   |str z=>cases e;exact .str z
   |_=>cases e
  |tup l=>obtain⟨a,vs,e1,e2,e3⟩:=d7 r;cases e;rw[e1];exact .tup e2
  |lst l=>obtain⟨a,vs,e1,e2,e3⟩:=cD R r rfl;cases e;rw[e1];exact .lst e2
  |Bb l=>cases e
  |ins C ns l=>obtain⟨a,dx,vs,e1,e2,e3,e4,e5⟩:=rj R r rfl;cases e;rw[e1];exact .ins e2 e4.cls e4.ca e4.cg e4.ct e4.cm
 |ob n=>
  have e:(match S[n]? with | some (.lst _)=>some (Value.type "list") | some (.ins C _ _)=>some (.ref C) | some (.tu _)=>some (.type "dict") | some (.wB _ _ _)=>none | some (.gh _ _)=>none | none=>none)=some u:=e;obtain⟨a,ha,rfl⟩:=r;cases q:S[n]? with
  |none=>rw[q] at e;cases e
  |some o=>
   rw[q] at e;have z:=R.ok n a o ha q;cases o with
   |lst l=>obtain⟨vs,h1,h2⟩:=z;cases e;exact .lst h1
   |tu l=>obtain⟨vs,h1,h2⟩:=z;cases e;exact .dK h1
   |wB _ _ l=>cases e
   |gh _ _=>cases e
   |ins C ns l=>obtain⟨dx,vs,h1,h2,h3,h4⟩:=z;cases e;exact .ins h1 h3.cls h3.ca h3.cg h3.ct h3.cm
noncomputable def Xm (K:PySem.W.Frag)(c:V)(u:Value):I8
 |[d,.t (.v c')],S,k=>c'=c/\∃t b,tyD S d=some t/\PySem.W.kitOne K t u=some b/\k (.bl b) S
 |_,_,_=>False
theorem NU {c:V}{u:Value}(hc:match c with | .ref _=>True | .ty _=>True | _=>False)(ru:RelV c u):Call3 X (.builtin "isinstance") (Xm X.K c u):=by
 refine g8 (NP hc) ?_;rintro vs H Q ⟨Y,S,ds,k,R,rd,q,hk⟩;unfold Xm at q;split at q
 .obtain⟨v,w,rfl,rv,rw'⟩:=rd.two;obtain⟨rfl,t,b,h1,h2,h3⟩:=q;rw[aE rw'];exact⟨v,t,u,b,rfl,OD R rv h1,ru,h2,fin R hk aO h3⟩
 .exact q.elim
end
abbrev CZ:=D->List D->aS->KD->Prop
noncomputable def D8 (K:PySem.W.Frag)(r:CZ):V->List V->Hp->VK->Prop:=fun v vs H Q=>∃Y S d ds k,R3 K Y S H/\g9 K Y (res Y H) d v/\dH K Y (res Y H) ds vs/\r d ds S k/\∀v H',up K Y H k v H'->Q v H'
noncomputable def xq (S:aS):D->Option (List T)
 |.t (.tup l)=>some l
 |d=>lq S d
noncomputable def Ys:CZ
 |.ob n,[.t x],S,k=>∃l,S[n]?=some (.lst l)/\l.length<sizeLine/\k .cR (S.set n (.lst (l++[x])))
 |_,_,_,_=>False
noncomputable def ext3:CZ
 |.ob n,[d],S,k=>∃l m,S[n]?=some (.lst l)/\xq S d=some m/\l.length+m.length<=sizeLine/\k .cR (S.set n (.lst (l++m)))
 |_,_,_,_=>False
noncomputable def OS:CZ
 |.t (.v (.str a)),[.t (.v (.str b))],S,k=>k (.bl (Txt.startswith a b)) S
 |_,_,_,_=>False
noncomputable def MW:CZ
 |.t (.v (.str sep)),[d],S,k=>∃ss:List Str,lq S d=some (ss.map T.str)/\(ss.map (·.length)).sum+ss.length*sep.length<=16777216/\k (.str (Txt.join sep ss)) S
 |_,_,_,_=>False
section
variable {X:Cx}{x:Str}{p pos BM cpos:Pos}{e o i value:Expr}{es:List Expr}{t:mH}{to ti tv:bU}{id ty:String}{r:CZ}
theorem nA {r r':V->List V->Hp->VK->Prop}(h:qH X id r)(m:∀v vs H Q,r' v vs H Q->r v vs H Q):qH X id r':=fun vy s U H x xs u us Q I rx rv q=>h vy s U H x xs u us Q I rx rv (m _ _ _ _ q)
def tyM (S:aS)(ty:String):D->Prop
 |.t (.v (.str _))=>ty="str"
 |d=>ty="list"/\∃l,lq S d=some l
noncomputable def mC (ty:String)(r:CZ)(to:bU)(t:mH):bU:=fun Z S k=>to Z S fun d S1=>tyM S1 ty d/\t Z S1 fun ds S2=>r d ds S2 k
theorem Fo {K:PySem.W.Frag}{Y:List Addr}{S:aS}{H:Hp}(R:R3 K Y S H){d:D}{v:V}(r:g9 K Y (res Y H) d v)(e:tyM S ty d):tyV K ty v H:=by
 unfold tyM at e;split at e
 .rw[aE r];exact e
 .obtain⟨e1,l,e2⟩:=e;obtain⟨a,vs,h1,h2,h3⟩:=cD R r e2;rw[h1];exact .inl ⟨e1,vs,.of h2⟩
theorem zW:∀U H Q,li X.K (mC ty r to t) U H Q->tBM X.K ty (D8 X.K r) (li X.K to) (liA X.K t) U H Q:=(by rintro U H Q ⟨Y,S,Z,k,R,D,q,hk⟩;exact  ⟨Y,S,Z,_,R,D,q,(by rintro v H1 ⟨Y1,S1,d,g1,R1,r1,h1,q1⟩;exact⟨Fo R1 r1 h1,Y1,S1,Z,_,R1,D.gr g1,q1,(by rintro vs H2 ⟨Y2,S2,ds,g2,R2,r2,q2⟩;exact   ⟨Y2,S2,d,ds,k,R2,r1.gr g2,r2,q2,fun w H3 u=>hk w H3 (u.gr (g1.trans g2))⟩)⟩)⟩)
theorem MB:∀U H Q,li X.K (mC ty r to bQ) U H Q->ZA X.K ty (D8 X.K r) (li X.K to) U H Q:=(by rintro U H Q ⟨Y,S,Z,k,R,D,q,hk⟩;exact  ⟨Y,S,Z,_,R,D,q,(by rintro v H1 ⟨Y1,S1,d,g1,R1,r1,h1,q1⟩;exact⟨Fo R1 r1 h1,Y1,S1,d,[],k,R1,r1,.nil,q1,fun w H3 u=>hk w H3 (u.gr g1)⟩)⟩)
theorem zK {name:Str}(pa:PlainAttrs ty)(slot:Slot ty name id)(hty:typeOf (.builtin id)=pure (.type "method_descriptor"))(hm:qH X id (D8 X.K r))(ho:QE X o to)(ha:QA X (e::es) t)
  (h1:autoParam (notStar e=true) zi) (h2:autoParam (es.all notStar=true) zi) (h3:autoParam (es.length<20) zn) (Ap:autoParam (attributeBase o name X.env (eval o X.env)=eval o X.env) zi) (B1:autoParam ((BM.endLine==cpos.line)=true) zi) :
  QE X (.Call (.Attribute o name BM) (e::es) [] cpos) (mC ty r to t):=bH (Wl pa slot hty hm ho ha h1 h2 h3 Ap B1) zW
theorem a1i:qH X "list.append" (D8 X.K Ys):=by
 refine nA Iq ?_;rintro v vs H Q ⟨Y,S,d,ds,k,R,rd,rs,q,hk⟩;unfold Ys at q;split at q
 .obtain⟨l,h1,h2,h3⟩:=q;obtain⟨a,ha,rfl⟩:=rd;obtain⟨w,rfl,rw'⟩:=rs.one;obtain⟨us,e1,e2⟩:=R.ok _ a _ ha h1;exact⟨a,us,w,rfl,rfl,e1,by rw[<- e2.len];exact h2,Nl R hk ha (o:=.lst (l++[_])) ⟨_,rfl,e2.app (.cons rw' .nil)⟩ aO h3⟩
 .exact q.elim
theorem a1h:qH X "list.extend" (D8 X.K ext3):=by
 refine nA (qH.or Ip D3) fun v vs H Q ⟨Y,S,d,ds,k,R,rd,rs,q,hk⟩=>?_;unfold ext3 at q;split at q
 .obtain⟨l,m,h1,h2,h3,h4⟩:=q;obtain⟨a,ha,rfl⟩:=rd;obtain⟨w,rfl,rw'⟩:=rs.one;obtain⟨us,e1,e2⟩:=R.ok _ a _ ha h1;rename_i d2 _;cases d2 with
  |ob m'=>
   obtain⟨b,ws,f1,f2,f3⟩:=cD R rw' (show lq S (.ob m')=some m from h2);exact .inl ⟨a,b,us,ws,rfl,by rw[f1],e1,f2,by rw[<- e2.len,<- f3.len];exact h3,Nl R hk ha (o:=.lst (l++m)) ⟨_,rfl,e2.app f3⟩ aO h4⟩
  |t y=>
   cases y with
   |lst m'=>
    obtain⟨b,ws,f1,f2,f3⟩:=cD R rw' (show lq S (.t (.lst m'))=some m from h2);exact .inl ⟨a,b,us,ws,rfl,by rw[f1],e1,f2,by rw[<- e2.len,<- f3.len];exact h3,Nl R hk ha (o:=.lst (l++m)) ⟨_,rfl,e2.app f3⟩ aO h4⟩
   |tup m'=>
    have h2:some m'=some m:=h2;injection h2 with h2
    subst h2;obtain⟨b,ws,f1,f2,f3⟩:=d7 rw';exact .inr ⟨a,b,us,ws,rfl,by rw[f1],e1,.of f2,by rw[<- e2.len,<- f3.len];exact h3,Nl R hk ha (o:=.lst (l++m')) ⟨_,rfl,e2.app f3⟩ aO h4⟩
   |Bb m'=>cases h2
   |v _=>cases h2
   |ins _ _ _=>cases h2
 .exact q.elim
theorem a1b:qH X "str.startswith" (D8 X.K OS):=by
 refine nA Il ?_;rintro v vs H Q ⟨Y,S,d,ds,k,R,rd,rs,q,hk⟩;unfold OS at q;split at q
 .obtain⟨w,rfl,rw'⟩:=rs.one;rw[aE rd,aE rw'];exact⟨_,_,rfl,rfl,fin R hk aO q⟩
 .exact q.elim
theorem WX:qH X "str.join" (D8 X.K MW):=by
 refine nA QY ?_;rintro v vs H Q ⟨Y,S,d,ds,k,R,rd,rs,q,hk⟩;unfold MW at q;split at q
 .obtain⟨ss,h1,h2,h3⟩:=q;obtain⟨w,rfl,rw'⟩:=rs.one;obtain⟨a,us,e1,e2,e3⟩:=cD R rw' h1;rw[aE rd];rw[e3.strs] at e2;exact⟨_,a,ss,rfl,by rw[e1],e2,h2,fin R hk aO h3⟩
 .exact q.elim
theorem rW (ho:QE X o to)(ha:QA X [e] t)(h1:autoParam (notStar e=true) zi)(Ap:autoParam (attributeBase o "append" X.env (eval o X.env)=eval o X.env) zi)(B1:autoParam ((BM.endLine==cpos.line)=true) zi) :
  QE X (.Call (.Attribute o "append" BM) [e] [] cpos) (mC "list" Ys to t):=zK PySem.F.plainAttrs_list PySem.F.slot_list_append PySem.F.type_list_append a1i ho ha h1 rfl (by decide) Ap B1
theorem Td (ho:QE X o to)(ha:QA X [e] t)(h1:autoParam (notStar e=true) zi)(Ap:autoParam (attributeBase o "extend" X.env (eval o X.env)=eval o X.env) zi)(B1:autoParam ((BM.endLine==cpos.line)=true) zi) :
  QE X (.Call (.Attribute o "extend" BM) [e] [] cpos) (mC "list" ext3 to t):=zK PySem.F.plainAttrs_list PySem.F.slot_list_extend PySem.F.type_list_extend a1h ho ha h1 rfl (by decide) Ap B1
theorem S9 (ho:QE X o to)(ha:QA X [e] t)(h1:autoParam (notStar e=true) zi)(Ap:autoParam (attributeBase o "startswith" X.env (eval o X.env)=eval o X.env) zi)(B1:autoParam ((BM.endLine==cpos.line)=true) zi) :
  QE X (.Call (.Attribute o "startswith" BM) [e] [] cpos) (mC "str" OS to t):=zK PySem.F.plainAttrs_str PySem.F.slot_str_startswith PySem.F.type_str_startswith a1b ho ha h1 rfl (by decide) Ap B1
theorem VR (ho:QE X o to)(ha:QA X [e] t)(h1:autoParam (notStar e=true) zi)(Ap:autoParam (attributeBase o "join" X.env (eval o X.env)=eval o X.env) zi)(B1:autoParam ((BM.endLine==cpos.line)=true) zi) :
  QE X (.Call (.Attribute o "join" BM) [e] [] cpos) (mC "str" MW to t):=zK PySem.F.plainAttrs_str PySem.F.slot_str_join PySem.F.type_str_join WX ho ha h1 rfl (by decide) Ap B1
end
noncomputable def ix3:oN:=fun a b S k=>b.iD.elim False fun i=>a.sD.elim (∃l x,sq S a=some l/\oM l i=some x/\k (.t x) S) fun z=>z.length<=sizeLine/\∃c,oM z.cps.toList i=some c/\k (.str ⟨#[c]⟩) S
section
variable {X:Cx}{a b e:Expr}{ta tb te:bU}{pos p2:Pos}
theorem aW.oM {K:PySem.W.Frag}{G:Hp}{l:List T}{vs:List V}{i:Int}{x:T}(r:aW K G l vs)(h:L2.oM l i=some x):∃v,L2.oM vs i=some v/\Rp K G x v:=by
 unfold L2.oM at h ⊢;rw[<- r.len];cases q:Oq l.length i with
 |none=>rw[q] at h;cases h
 |some j=>rw[q] at h;exact r.get h
theorem a1Y:OA X (Tt X.K ix3):=by
 intro value slice vy s U H x y v u Q I rx ry ⟨Y,S,a,b,k,R,ra,rb,q,hk⟩ hs;refine Xk value slice vy s U H x y v u Q I rx ry ?_ hs;rcases Jf q with q | ⟨i,hb,q2⟩
 .exact q.elim
 cases D.BY hb;rcases Jf q2 with⟨l,x',h1,h2,h3⟩ | ⟨z,ha,h1,c,h2,h3⟩
 .obtain⟨p,us,e1,e2,e3⟩:=yX R ra h1;obtain⟨w,f1,f2⟩:=e3.oM h2;rcases e2 with e2 | e2
  .exact .inl ⟨p,us,_,w,e1,aE rb,e2,f1,fin R hk (d:=.t x') f2 h3⟩
  .exact .inr (.inl ⟨p,us,_,w,e1,aE rb,e2,f1,fin R hk (d:=.t x') f2 h3⟩)
 cases D.Bl ha;exact .inr (.inr ⟨_,_,c,aE ra,aE rb,h1,h2,fin R hk aO h3⟩)
theorem cG (ha:QE X a ta)(hb:QE X b tb)(hs:autoParam (uF b) km):QE X (.Subscript a b pos) (xu ix3 ta tb):=bH (a0O a1Y ha hb hs) lZ
noncomputable def mG (l:List T)(lo hi:Option Int):List T:=(l.drop (HT.fD l.length 0 lo)).take (HT.fD l.length l.length hi - HT.fD l.length 0 lo)
theorem aW.cut {K:PySem.W.Frag}{G:Hp}{l:List T}{vs:List V}(r:aW K G l vs)(lo hi:Option Int):aW K G (mG l lo hi) (Cp vs lo hi):=by
 unfold mG Cp;rw[<- r.len];exact(r.dp _).tk _
abbrev YQ:=Sl->aS->(Option Int->aS->Prop)->Prop
noncomputable def liO (K:PySem.W.Frag)(t:YQ):TO:=fun U H Q=>∃Y S Z k,R3 K Y S H/\qG K Y (res Y H) Z U/\t Z S k/\∀o H',(∃Y' S',Gr Y H Y' H'/\R3 K Y' S' H'/\k o S')->Q o H'
def QO (X:Cx)(e:Option Expr)(t:YQ):Prop:=PO X e (liO X.K t)
noncomputable def Zl:YQ:=fun _ S k=>k none S
noncomputable def tPt (t:bU):YQ:=fun Z S k=>t Z S fun d S1=>∃i,d=.int i/\k (some i) S1
theorem Ti {o:Option Expr}{t t':TO}(h:PO X o t)(m:∀U H Q,t' U H Q->t U H Q):PO X o t':=fun vy s U H Q I q=>h vy s U H Q I (m _ _ _ q)
theorem bS:QO X none Zl:=Ti PY (by rintro U H Q ⟨Y,S,Z,k,R,D,q,hk⟩;exact hk _ _ ⟨Y,S,.refl,R,q⟩)
theorem br (h:QE X e te):QO X (some e) (tPt te):=Ti (PX h) (by rintro U H Q ⟨Y,S,Z,k,R,D,q,hk⟩;exact⟨Y,S,Z,_,R,D,q,(by
 rintro v H1 ⟨Y1,S1,d,g1,R1,r1,i,e,q1⟩;subst e;exact⟨i,aE r1,hk _ _ ⟨Y1,S1,g1,R1,q1⟩⟩)⟩)
def Z4 (mu:Bool):D->Option Int->Option Int->aS->KD->Prop
 |.t (.v (.str z)),lo,hi,S,k=>z.length<=sizeLine/\k (.str (Txt.slice z lo hi)) S
 |.t (.tup l),lo,hi,S,k=>¬(HT.fD l.length 0 lo=0/\HT.fD l.length l.length hi=l.length)/\k (.tup (mG l lo hi)) S
 |d,lo,hi,S,k=>∃l,lq S d=some l/\(if mu then k (.ob S.length) (S++[.lst (mG l lo hi)]) else k (.lst (mG l lo hi)) S)
noncomputable def a5e (K:PySem.W.Frag)(r:D->Option Int->Option Int->aS->KD->Prop):V->Option Int->Option Int->Hp->VK->Prop:=fun v lo hi H Q=>∃Y S d k,R3 K Y S H/\g9 K Y (res Y H) d v/\r d lo hi S k/\∀v H',up K Y H k v H'->Q v H'
theorem Z3 (mu:Bool):RU X (a5e X.K (Z4 mu)):=by
 intro vy s U H x v vl vu lo hi sl Q I rx hs pl pu ⟨Y,S,d,k,R,rd,q,hk⟩;refine(Vi.or (Vh.or OV)) vy s U H x v vl vu lo hi sl Q I rx hs pl pu ?_;unfold Z4 at q;split at q
 .exact .inl ⟨_,aE rd,q.1,fin R hk aO q.2⟩
 .obtain⟨a,vs,e1,e2,e3⟩:=d7 rd;refine .inr (.inl ⟨a,vs,e1,.of e2,by rw[<- e3.len];exact q.1,Nk R hk (e3.cut lo hi) q.2⟩)
 .obtain⟨l,h1,h2⟩:=q;obtain⟨a,vs,e1,e2,e3⟩:=cD R rd h1;refine .inr (.inr ⟨a,vs,e1,.of e2,?_⟩);cases mu with
  |true=>exact Rt R hk (e3.cut lo hi) h2
  |false=>exact wu R hk (e3.cut lo hi) h2
noncomputable def Zc (mu:Bool)(te:bU)(tl th:YQ):bU:=fun Z S k=>te Z S fun x S1=>tl Z S1 fun l S2=>th Z S2 fun u S3=>Z4 mu x l u S3 k
theorem iH (mu:Bool){lo hi:Option Expr}{tl th:YQ}(he:QE X e te)(hl:QO X lo tl)(hu:QO X hi th):QE X (.Subscript e (.Slice lo hi none p2) pos) (Zc mu te tl th):=
 bH (LU (Z3 mu) he hl hu) (by rintro U H Q ⟨Y,S,Z,k,R,D,q,hk⟩;exact⟨Y,S,Z,_,R,D,q,(by rintro v H1 ⟨Y1,S1,d,g1,R1,r1,q1⟩;exact⟨Y1,S1,Z,_,R1,D.gr g1,q1,(by rintro o H2 ⟨Y2,S2,g2,R2,q2⟩;exact   ⟨Y2,S2,Z,_,R2,D.gr (g1.trans g2),q2,(by rintro o2 H3 ⟨ρ3,S3,g3,sI,q3⟩;exact⟨ρ3,S3,d,k,sI,r1.gr (g2.trans g3),q3,fun w H4 u=>hk w H4 (u.gr ((g1.trans g2).trans g3))⟩)⟩)⟩)⟩)
end
abbrev sH:=D->Sl->aS->KS->Prop
abbrev xJ:=List T->Sl->aS->KS->Prop
noncomputable def liG (K:PySem.W.Frag)(g:sH):TG:=fun v U H Q=>∃Y S Z d k,R3 K Y S H/\qG K Y (res Y H) Z U/\g9 K Y (res Y H) d v/\g d Z S k/\∀U' H',Hr K Y H k U' H'->Q U' H'
noncomputable def a5g (K:PySem.W.Frag)(g:xJ):N6:=fun vs U H Q=>∃Y S Z l k,R3 K Y S H/\qG K Y (res Y H) Z U/\aW K (res Y H) l vs/\g l Z S k/\∀U' H',Hr K Y H k U' H'->Q U' H'
def QG (X:Cx)(tg:Expr)(g:sH):Prop:=PG X tg (liG X.K g)
def QGs (X:Cx)(tg:List Expr)(g:xJ):Prop:=Up X tg (a5g X.K g)
noncomputable def dB (i:Nat):sH:=fun d Z S k=>k (Z.set i (some d)) S
noncomputable def a2e:xJ:=fun l Z S k=>l=[]/\k Z S
noncomputable def Xw (g:sH)(gs:xJ):xJ:=fun l Z S k=>∃x r,l=x::r/\g (.t x) Z S fun δ1 S1=>gs r δ1 S1 k
noncomputable def a2c (n:Nat)(gs:xJ):sH:=fun d Z S k=>∃l,d=.tup l/\l.length=n/\gs l Z S k
section
variable {X:Cx}{pos:Pos}{tg e c:Expr}{es:List Expr}{te:bU}{g:sH}{gs:xJ}
theorem Bv {t t':TG}(h:PG X tg t)(m:∀v U H Q,t' v U H Q->t v U H Q):PG X tg t':=fun vy s U H v u Q I r q=>h vy s U H v u Q I r (m _ _ _ _ q)
theorem LP {t t':N6}(h:Up X es t)(m:∀v U H Q,t' v U H Q->t v U H Q):Up X es t':=fun vy s U H v u Q I r q=>h vy s U H v u Q I r (m _ _ _ _ q)
theorem qg {i:Nat}{x:Str}(hN:X.N.Nodup)(hi:autoParam (X.N[i]?=some x) zi)(hx:autoParam (Loc X.env.scope x) kd)(hf:autoParam (X.fn x=true∨X.env.scope.names.lookup x=some .local) zr):QG X (.Name x pos) (dB i):=
 Bv (Gh hN hi hx hf) (by rintro v U H Q ⟨Y,S,Z,d,k,R,RS,rd,q,hk⟩;exact hk _ _ ⟨Y,S,Z.set i (some d),.refl,R,RS.set rd i,q⟩)
theorem lY:QGs X [] a2e:=LP P4 (by
 rintro v U H Q ⟨Y,S,Z,l,k,R,RS,rl,⟨e,q⟩,hk⟩;subst e;unfold aW at rl;exact⟨rl,hk _ _ ⟨Y,S,Z,.refl,R,RS,q⟩⟩)
theorem F8 (h1:QG X e g)(h2:QGs X es gs)(hs:autoParam ((assignEach (e::es) X.env).map (·.2)=assign e X.env::(assignEach es X.env).map (·.2)) zi):QGs X (e::es) (Xw g gs):=
 LP (LQ h1 h2 hs) (by
  rintro v U H Q ⟨Y,S,Z,l,k,R,RS,rl,⟨x,r,e,q⟩,hk⟩;subst e;unfold aW at rl;obtain⟨w,wr,e1,e2,e3⟩:=rl;refine⟨w,wr,e1,Y,S,Z,.t x,_,R,RS,e2,q,(by rintro σ1 H1 ⟨Y1,S1,δ1,g1,R1,RV,q1⟩;exact⟨Y1,S1,δ1,r,k,R1,RV,e3.le g1.le,q1,fun U2 H2 u=>hk U2 H2 (u.gr g1)⟩)⟩)
theorem vq {k0 n:Nat}(hc:X.calm=true)(h:QGs X es gs)(hn:autoParam ((assignEach es X.env).length=n) zi)(hst:autoParam ((assignEach es X.env).findIdx? (·.1)=none) zi):QG X (.Tuple es k0 pos) (a2c n gs):=
 Bv (Wd hc h hn hst) (by
  rintro v U H Q ⟨Y,S,Z,d,k,R,RS,rd,⟨l,e,hl,q⟩,hk⟩;subst e;obtain⟨a,vs,e1,e2,e3⟩:=d7 rd;exact⟨a,vs,e1,.of e2,by rw[<- e3.len];exact hl,Y,S,Z,l,k,R,RS,e3,q,hk⟩)
noncomputable def Kp:ku:=fun E Z S=>E.nx Z S
noncomputable def pG (t u:ku):ku:=fun E Z S=>t {E with nx:=fun δ1 S1=>u E δ1 S1 } Z S
noncomputable def xW (te:bU)(g:sH):ku:=fun E Z S=>te Z S fun d S1=>g d Z S1 E.nx
noncomputable def Kv (te:bU):ku:=fun E Z S=>te Z S fun _ S1=>E.nx Z S1
noncomputable def uN (te:bU):ku:=fun E Z S=>te Z S E.rt
noncomputable def Zr (c:oz)(t u:ku):ku:=fun E Z S=>c Z S fun b S1=>if b=true then t E Z S1 else u E Z S1
noncomputable def So:ku:=fun _ _ _=>False
variable {st:Stmt}{rest a b:List Stmt}{t u:ku}{tc:oz}
theorem bC:yE X [] Kp:=DO PL (by rintro D U H ⟨Y,S,Z,E,R,RS,q,eu⟩;exact eu.nx _ _ ⟨Y,S,Z,.refl,R,RS,q⟩)
theorem qs (h1:QS X st t)(h2:yE X rest u):yE X (st::rest) (pG t u):=DO (Bu h1 h2) (by rintro D U H ⟨Y,S,Z,E,R,RS,q,eu⟩;exact  ⟨Y,S,Z,_,R,RS,q,⟨(by rintro σ1 H1 ⟨Y1,S1,δ1,g1,R1,RV,q1⟩;exact⟨Y1,S1,δ1,E,R1,RV,q1,eu.gr g1⟩),eu.rt,eu.bk,eu.ct⟩⟩)
theorem cA (h1:QS X st t):yE X [st] t:=zM h1
theorem VJ:QS X st So:=gU LH (by rintro D U H ⟨Y,S,Z,E,R,RS,q,eu⟩;exact q)
theorem d8 {sts:List Stmt}:yE X sts So:=DO HK (by rintro D U H ⟨Y,S,Z,E,R,RS,q,eu⟩;exact q)
theorem cB (he:QE X e te)(hs:autoParam (swapsWith e none pos.line X.env=pure false) zi):QS X (.Expr e pos) (Kv te):=gU (zN he hs) (by rintro D U H ⟨Y,S,Z,E,R,RS,q,eu⟩;exact  ⟨Y,S,Z,_,R,RS,q,(by rintro v H1 ⟨Y1,S1,d,g1,R1,r1,q1⟩;exact eu.nx _ _ ⟨Y1,S1,Z,g1,R1,RS.gr g1,q1⟩)⟩)
theorem aK (he:QE X e te):QS X (.Return (some e) pos) (uN te):=gU (V2 he) (by rintro D U H ⟨Y,S,Z,E,R,RS,q,eu⟩;exact⟨Y,S,Z,_,R,RS,q,eu.rt⟩)
theorem cz (hc:QT X c tc)(ha:yE X a t)(hb:yE X b u):QS X (.If c a b pos) (Zr tc t u):=gU (a0I hc ha hb) (by rintro D U H ⟨Y,S,Z,E,R,RS,q,eu⟩;exact  ⟨Y,S,Z,_,R,RS,q,(by
  rintro v H1 ⟨Y1,S1,g1,R1,q1⟩;cases v with
  |true=>exact⟨Y1,S1,Z,E,R1,RS.gr g1,q1,eu.gr g1⟩
  |false=>exact⟨Y1,S1,Z,E,R1,RS.gr g1,q1,eu.gr g1⟩)⟩)
theorem ay {i:Nat}{x:Str}{pos':Pos}(hN:X.N.Nodup)(he:QE X e te)(hi:autoParam (X.N[i]?=some x) zi)(hx:autoParam (Loc X.env.scope x) kd)(hs:autoParam (swapsWith e (some (.Name x pos')) pos.line X.env=pure false) zi)(hf:autoParam (X.fn x=true∨X.env.scope.names.lookup x=some .local) zr) :
  QS X (.Assign [.Name x pos'] e pos) (xW te (dB i)):=gU (V1 hN hi hx he hs hf) (by rintro D U H ⟨Y,S,Z,E,R,RS,q,eu⟩;exact  ⟨Y,S,Z,_,R,RS,q,(by rintro v H1 ⟨Y1,S1,d,g1,R1,r1,q1⟩;exact eu.nx _ _ ⟨Y1,S1,Z.set i (some d),g1,R1,(RS.gr g1).set r1 i,q1⟩)⟩)
theorem vp (he:QE X e te)(hg:QG X tg g)(hs:autoParam (swapsWithSole [tg] e pos.line X.env=pure false) zi)(hw:autoParam (swappedStores [tg] e X.env=pure none) zi)(h1:autoParam ((assignEach [tg] X.env).map (·.2)=[assign tg X.env]) zi) :
  QS X (.Assign [tg] e pos) (xW te g):=gU (V6 he hg hs hw h1) (by rintro D U H ⟨Y,S,Z,E,R,RS,q,eu⟩;exact  ⟨Y,S,Z,_,R,RS,q,(by rintro v H1 ⟨Y1,S1,d,g1,R1,r1,q1⟩;exact⟨Y1,S1,Z,d,E.nx,R1,RS.gr g1,r1,q1,fun U2 H2 u=>eu.nx _ _ (u.gr g1)⟩)⟩)
noncomputable def ZE (i:Nat)(te:bU)(f:Int->Int->Int):ku:=fun E Z S=>∃a,Z[i]?=some (some (.int a))/\te Z S fun d S1=>∃b,d=.int b/\E.nx (Z.set i (some (.int (f a b)))) S1
theorem VL {i:Nat}{x:Str}{op:Operator}{f:Int->Int->Int}{pos':Pos}(hN:X.N.Nodup)(he:QE X e te)(ho:PIp X op (ipI f))(hi:autoParam (X.N[i]?=some x) zi)(hx:autoParam (Loc X.env.scope x) kd)(hf:autoParam (X.fn x=true∨X.env.scope.names.lookup x=some .local) zr) :
  QS X (.AugAssign (.Name x pos') op e pos) (ZE i te f):=gU (V5 hN hi hx he ho hf) fun D U H ⟨Y,S,Z,E,R,RS,⟨a,ea,q⟩,eu⟩=>by
 obtain⟨v,e1,e2⟩:=RS.2 i _ ea;refine⟨v,e1,Y,S,Z,_,R,RS,q,?_⟩;rintro w H1 ⟨Y1,S1,d,g1,R1,r1,b,eb,q1⟩;subst eb;exact⟨a,b,aE e2,aE r1,eu.nx _ _ ⟨Y1,S1,_,g1,R1,(RS.gr g1).set (d:=.int (f a b)) aO i,q1⟩⟩
noncomputable def ZD (to ti te:bU)(f:Int->Int->Int):ku:=fun E Z S=>to Z S fun o S1=>ti Z S1 fun i S2=>∃(n j:Nat)(l:List T)(a:Int),o=.ob n/\i=.int (j:Nat)/\S2[n]?=some (.lst l)/\l[j]?=some (.int a)/\
 te Z S2 fun d S3=>∃b l',d=.int b/\S3[n]?=some (.lst l')/\j<l'.length/\E.nx Z (S3.set n (.lst (l'.set j (.int (f a b)))))
theorem Px {o i:Expr}{to ti:bU}{op:Operator}{f:Int->Int->Int}{tpos:Pos}(ho:QE X o to)(hi:QE X i ti)(he:QE X e te)(hp:PIp X op (ipI f))
  (ha:autoParam (∀ov iv new,augStore i ov iv new=(do holding [new,ov,iv] (setItem ov iv new);release [new,ov,iv] [];pure .next)) kn):QS X (.AugAssign (.Subscript o i tpos) op e pos) (ZD to ti te f):=
 gU (PU ho hi Nc he hp set_list ha) fun D U H ⟨Y,S,Z,E,R,RS,q,eu⟩=>⟨Y,S,Z,_,R,RS,q,fun v1 H1 ⟨Y1,S1,d1,g1,R1,r1,q1⟩=>⟨Y1,S1,Z,_,R1,RS.gr g1,q1,(by
  rintro v2 H2 ⟨Y2,S2,d2,g2,R2,r2,n,j,l,a,h1,h2,h3,h4,q2⟩;subst h1 h2;obtain⟨p,hp,e1⟩:=r1.gr g2;obtain⟨vs,e2,e3⟩:=R2.ok n p _ hp h3;obtain⟨w,e4,e5⟩:=e3.get h4;refine⟨p,vs,j,w,e1,aE r2,.of e2,e4,Y2,S2,Z,_,R2,RS.gr (g1.trans g2),q2,?_⟩;rintro v3 H3 ⟨ρ3,S3,d3,g3,sI,r3,b,l',h5,h6,h7,q3⟩;subst h5;have ew:w=V.int a:=by unfold Rp at e5;exact e5
  refine⟨a,b,ew,aE r3,?_⟩;have hp3:=g3.at hp;obtain⟨us,f1,f2⟩:=sI.ok n p _ hp3 h6;refine⟨p,us,j,j,e1,aE r2,f1,?_,?_⟩
  .unfold Oq;rw[if_pos (by omega),if_pos (by rw[<- f2.len];omega)];simp
  .have key:aW X.K (res ρ3 H3) (l'.set j (.int (f a b))) (us.set j (.int (f a b))):=aW.put (by unfold Rp;rfl) f2;obtain⟨R4,g4⟩:=sI.put (o:=.lst (us.set j (.int (f a b)))) (u:=.lst (l'.set j (.int (f a b)))) hp3 ⟨_,rfl,key⟩;exact eu.nx _ _ ⟨ρ3,_,Z,((g1.trans g2).trans g3).trans g4,R4,(RS.gr ((g1.trans g2).trans g3)).gr g4,q3⟩)⟩⟩
end
abbrev I0:=Sl->aS->(List D->(aS->Prop)->aS->Prop)->Prop
structure Oz (K:PySem.W.Frag)(J:It)(AC:List D)(G:aS->Prop)(ρ0:List Addr)(H0:Hp):Prop where
 go:∀i Y S H,Gr ρ0 H0 Y H->R3 K Y S H->G S->i<AC.length->J.go i H
 C5:∀i x Y S H H' d,Gr ρ0 H0 Y H->R3 K Y S H->G S->AC[i]?=some d->J.C5 i H x H'->∃Y',Gr Y H Y' H'/\R3 K Y' S H'/\g9 K Y' (res Y' H') d x
 stop:∀i Y S H,Gr ρ0 H0 Y H->R3 K Y S H->G S->AC.length<=i->i<=AC.length->J.stop i H
noncomputable def liI (K:PySem.W.Frag)(w:I0):TI:=fun U H R=>∃Y S Z k,R3 K Y S H/\qG K Y (res Y H) Z U/\w Z S k/\∀J H',(∃Y' S' AC G,Gr Y H Y' H'/\R3 K Y' S' H'/\Oz K J AC G Y' H'/\k AC G S')->R J H'
def QI (X:Cx)(tg iter:Expr)(w:I0):Prop:=PI X tg iter (liI X.K w)
def MY (d:D)(S1:aS)(k:List D->(aS->Prop)->aS->Prop):Prop:=(∃l,(d=.tup l∨d=.lst l)/\k (l.map .t) (fun _=>True) S1)∨(∃n l,d=.ob n/\S1[n]?=some (.lst l)/\k (l.map .t) (fun S=>S[n]?=some (.lst l)) S1)
noncomputable def iSq (te:bU):I0:=fun Z S k=>te Z S fun d S1=>MY d S1 k
noncomputable def a5D (t:mH):I0:=fun Z S k=>t Z S fun ds S1=>∃j:Int,ds=[.int j]/\-(2 ^ 62)<=j/\j<2 ^ 62/\k ((List.range j.toNat).map fun(i:Nat)=>D.int i) (fun _=>True) S1
section
variable {X:Cx}{tg iter e:Expr}{te:bU}{pos p:Pos}
theorem yg {t t':TI}(h:PI X tg iter t)(m:∀U H R,t' U H R->t U H R):PI X tg iter t':=fun vy s U H R I q=>h vy s U H R I (m _ _ _ q)
theorem MU {K:PySem.W.Frag}{Y:List Addr}{H:Hp}{a:Addr}{l:List T}{vs:List V}(h:res Y H a=some (.lst vs))(r:aW K (res Y H) l vs):Oz K (Itl K a) (l.map .t) (fun _=>True) Y H where
 go:=fun i Y1 S1 H1 g R _ hi=>by
  have e:=(res_some (g.le _ _ h)).2;have hl:i<vs.length:=by rw[<- r.len];simpa using hi
  exact⟨vs,vs[i],.of e,List.getElem?_eq_getElem hl⟩
 C5:=fun i x Y1 S1 H1 H' d g R _ hd y=>by
  obtain⟨rfl,y⟩:=y;have e:=(res_some (g.le _ _ h)).2;rw[List.getElem?_map] at hd;cases q:l[i]? with
  |none=>rw[q] at hd;cases hd
  |some z=>
   rw[q] at hd;cases hd;obtain⟨v,e1,e2⟩:=r.get q;have:=y vs (.of e);rw[e1] at this;cases this;exact⟨Y1,.refl,R,e2.le g.le⟩
 stop:=fun i Y1 S1 H1 g R _ hi _=>by
  have e:=(res_some (g.le _ _ h)).2;exact⟨vs,.of e,by rw[<- r.len];simpa using hi⟩
theorem Ra {K:PySem.W.Frag}{Y:List Addr}{H:Hp}{a:Addr}{l:List T}{vs:List V}(h:res Y H a=some (.tup vs))(r:aW K (res Y H) l vs):Oz K (Itt K a) (l.map .t) (fun _=>True) Y H where
 go:=fun i Y1 S1 H1 g R _ hi=>by
  have e:=(res_some (g.le _ _ h)).2;have hl:i<vs.length:=by rw[<- r.len];simpa using hi
  exact⟨vs,vs[i],.of e,List.getElem?_eq_getElem hl⟩
 C5:=fun i x Y1 S1 H1 H' d g R _ hd y=>by
  obtain⟨rfl,y⟩:=y;have e:=(res_some (g.le _ _ h)).2;rw[List.getElem?_map] at hd;cases q:l[i]? with
  |none=>rw[q] at hd;cases hd
  |some z=>
   rw[q] at hd;cases hd;obtain⟨v,e1,e2⟩:=r.get q;have:=y vs (.of e);rw[e1] at this;cases this;exact⟨Y1,.refl,R,e2.le g.le⟩
 stop:=fun i Y1 S1 H1 g R _ hi _=>by
  have e:=(res_some (g.le _ _ h)).2;exact⟨vs,.of e,by rw[<- r.len];simpa using hi⟩
theorem Xf {K:PySem.W.Frag}{Y:List Addr}{H:Hp}{n:Nat}{a:Addr}{l:List T}(ha:Y[n]?=some a):Oz K (Itl K a) (l.map .t) (fun S=>S[n]?=some (.lst l)) Y H where
 go:=fun i Y1 S1 H1 g R hS hi=>by
  obtain⟨vs,e,r⟩:=R.ok n a _ (g.at ha) hS;have hl:i<vs.length:=by rw[<- r.len];simpa using hi
  exact⟨vs,vs[i],.of e,List.getElem?_eq_getElem hl⟩
 C5:=fun i x Y1 S1 H1 H' d g R hS hd y=>by
  obtain⟨rfl,y⟩:=y;obtain⟨vs,e,r⟩:=R.ok n a _ (g.at ha) hS;rw[List.getElem?_map] at hd;cases q:l[i]? with
  |none=>rw[q] at hd;cases hd
  |some z=>
   rw[q] at hd;cases hd;obtain⟨v,e1,e2⟩:=r.get q;have:=y vs (.of e);rw[e1] at this;cases this;exact⟨Y1,.refl,R,e2⟩
 stop:=fun i Y1 S1 H1 g R hS hi _=>by
  obtain⟨vs,e,r⟩:=R.ok n a _ (g.at ha) hS;exact⟨vs,.of e,by rw[<- r.len];simpa using hi⟩
theorem qi (he:QE X iter te):QI X tg iter (iSq te):=yg (Wb he) (by rintro U H Q ⟨Y,S,Z,k,R,D,q,hk⟩;exact⟨Y,S,Z,_,R,D,q,(by
 rintro v H1 ⟨Y1,S1,d,g1,R1,r1,q1⟩;rcases q1 with⟨l,rfl | rfl,q1⟩ | ⟨n,l,rfl,h,q1⟩
 .have r1:Rp _ _ _ _:=r1;unfold Rp at r1;obtain⟨a,vs,e1,e2,e3⟩:=r1;exact⟨a,e1,.inr ⟨⟨vs,.of (res_some e2).2⟩,hk _ _ ⟨Y1,S1,_,_,g1,R1,Ra e2 e3,q1⟩⟩⟩
 .have r1:Rp _ _ _ _:=r1;unfold Rp at r1;obtain⟨a,vs,e1,e2,e3⟩:=r1;exact⟨a,e1,.inl ⟨⟨vs,.of (res_some e2).2⟩,hk _ _ ⟨Y1,S1,_,_,g1,R1,MU e2 e3,q1⟩⟩⟩
 .obtain⟨a,ha,e⟩:=r1;obtain⟨vs,e2,e3⟩:=R1.ok n a _ ha h;exact⟨a,e,.inl ⟨⟨vs,.of e2⟩,hk _ _ ⟨Y1,S1,_,_,g1,R1,Xf ha,q1⟩⟩⟩)⟩)
theorem Rc {K:PySem.W.Frag}{Y:List Addr}{H:Hp}{n:Nat}:Oz K (Itr 0 n) ((List.range n).map fun(i:Nat)=>D.int i) (fun _=>True) Y H where
 go:=fun i Y1 S1 H1 g R _ hi=>by show i<n;simpa using hi
 C5:=fun i x Y1 S1 H1 H' d g R _ hd y=>by
  obtain⟨rfl,y⟩:=y;rw[List.getElem?_map] at hd;cases q:(List.range n)[i]? with
  |none=>rw[q] at hd;cases hd
  |some z=>
   rw[q] at hd;cases hd;have:=List.getElem?_range (n:=n) (i:=i) (by have:=(List.getElem?_eq_some_iff.mp q).1;simpa using this);rw[this] at q;cases q;subst y;refine⟨Y1,.refl,R,?_⟩;show Rp _ _ _ _;unfold Rp;rw[Int.zero_add]
 stop:=fun i Y1 S1 H1 g R _ hi _=>by show n<=i;simpa using hi
theorem DM {a:Expr}{t:mH}(hg:Gl X "range")(hm:X.mg "range"=none)(ha:QA X [a] t)(hs:autoParam (starEach [a] X.env=[(false,eval a X.env)]) zi):QI X tg (.Call (.Name "range" p) [a] [] pos) (a5D t):=
 yg (HN hg hm ha hs) (by rintro U H Q ⟨Y,S,Z,k,R,D,q,hk⟩;exact⟨Y,S,Z,_,R,D,q,(by
  rintro v H1 ⟨Y1,S1,d,g1,R1,r1,j,e,h1,h2,q1⟩;subst e;obtain⟨w,rfl,rw'⟩:=r1.one;rw[aE rw'];exact⟨j,rfl,h1,h2,hk _ _ ⟨Y1,S1,_,_,g1,R1,Rc,q1⟩⟩)⟩)
noncomputable def xC (G:aS->Prop)(g:sH)(tb:ku):List D->ku
 |[]=>fun E Z S=>G S/\E.nx Z S
 |x::r=>fun E Z S=>G S/\g x Z S fun δ1 S1=>tb {E with nx:=xC G g tb r E,ct:=xC G g tb r E,bk:=E.nx } δ1 S1
noncomputable def Zt (w:I0)(g:sH)(tb:ku):ku:=fun E Z S=>w Z S fun AC G S1=>xC G g tb AC E Z S1
variable {g:sH}{tb:ku}{body:List Stmt}
theorem nK {w:I0}(hp:PassesOwn (model X.prog X.w) X.A X.env X.xe)(hc:X.calm=true)(hi:QI X tg iter w)(hg:QG X tg g)(hb:yE X body tb)(hs:autoParam (∀x,foldedSetIterable iter X.env x=pure x) jp) :
  QS X (.For tg iter body [] pos) (Zt w g tb):=gU (V3 hp hc hi hg hb hs) fun D U H ⟨Y,S,Z,E,R,RS,q,eu⟩=>⟨Y,S,Z,_,R,RS,q,fun J H1 ⟨Y1,S1,AC,G,g1,R1,jo,q1⟩=>by
 refine⟨fun i m U' H'=>m=AC.length - i/\i<=AC.length/\∃Y' S' Z',Gr Y1 H1 Y' H'/\R3 X.K Y' S' H'/\qG X.K Y' (res Y' H') Z' U'/\xC G g tb (AC.drop i) E Z' S',⟨AC.length,by simp,Nat.zero_le _,Y1,S1,Z,.refl,R1,RS.gr g1,q1⟩,?_⟩;rintro i m U' H' ⟨rfl,hi,Y',S',Z',g',R',RS',q'⟩;by_cases hlt:i<AC.length
 .rw[List.drop_eq_getElem_cons hlt] at q';obtain⟨hG,q'⟩:=q';refine .inr ⟨jo.go i Y' S' H' g' R' hG hlt,_,fun U2 H2 z=>z,fun x H2 y=>?_⟩;obtain⟨Y2,g2,R2,r2⟩:=jo.C5 i x Y' S' H' H2 AC[i] g' R' hG (List.getElem?_eq_getElem hlt) y;refine⟨Y2,S',Z',AC[i],_,R2,RS'.gr g2,r2,q',fun σ3 H3 ⟨ρ3,S3,δ3,g3,sI,YS,q3⟩=>⟨ρ3,S3,δ3,_,sI,YS,q3,?_⟩⟩;have gg:=((g1.trans g').trans g2).trans g3;have fwd:∀σ4 H4,Hr X.K ρ3 H3 (xC G g tb (AC.drop (i+1)) E) σ4 H4->∃m',m' < AC.length - i/\(m'=AC.length - (i+1)/\i+1<=AC.length/\∃Y' S' Z',Gr Y1 H1 Y' H4/\R3 X.K Y' S' H4/\qG X.K Y' (res Y' H4) Z' σ4/\xC G g tb (AC.drop (i+1)) E Z' S'):=
   (by rintro σ4 H4 ⟨ρ4,S4,δ4,g4,R4,RS4,q4⟩;exact⟨AC.length - (i+1),by omega,rfl,hlt,ρ4,S4,δ4,((g'.trans g2).trans g3).trans g4,R4,RS4,q4⟩)
  exact⟨fwd,fun v H4 u=>eu.rt v H4 (u.gr gg),fun σ4 H4 u=>eu.nx σ4 H4 (u.gr gg),fwd⟩
 .have e:AC.drop i=[]:=List.drop_eq_nil_of_le (by omega);rw[e] at q';exact .inl ⟨jo.stop i Y' S' H' g' R' q'.1 (by omega) (by omega),eu.nx _ _ ⟨Y',S',Z',g1.trans g',R',RS',q'.2⟩⟩⟩
end
def SmS (own:Nat)(U U':St):Prop:=U'.length=U.length/\∀i:Nat,own<=i->U'[i]?=U[i]?
noncomputable def W5 (K:PySem.W.Frag)(own:Nat)(g:sH):TG:=fun v U H Q=>∃Y S Z d k,R3 K Y S H/\qG K Y (res Y H) Z U/\g9 K Y (res Y H) d v/\g d Z S k/\∀U' H',Hr K Y H k U' H'->SmS own U U'->Q U' H'
def QX (X:Cx)(own:Nat)(tg:Expr)(g:sH):Prop:=PG X tg (W5 X.K own g)
section
variable {X:Cx}{pos:Pos}{tg e:Expr}{es:List Expr}{g:sH}{gs:xJ}{own:Nat}
theorem qx {i:Nat}{x:Str}(hN:X.N.Nodup)(hi:autoParam (X.N[i]?=some x) zi)(ho:autoParam (i<own) zn)(hx:autoParam (Loc X.env.scope x) kd)(hf:autoParam (X.fn x=true∨X.env.scope.names.lookup x=some .local) zr):QX X own (.Name x pos) (dB i):=
 Bv (Gh hN hi hx hf) fun v U H Q ⟨Y,S,Z,d,k,R,RS,rd,q,hk⟩=>hk _ _ ⟨Y,S,Z.set i (some d),.refl,R,RS.set rd i,q⟩ ⟨by simp,fun j hj=>List.getElem?_set_ne (by omega)⟩
end
noncomputable def st3 (own:Nat)(fr:List Nat)(Z:Sl):Sl:=List.replicate own none++fr.map fun j=>(Z[j]?).join
def fR (G:aS->Prop)(g:sH)(tt:oz)(te:bU)(δ0:Sl):List D->aS->List T->(List T->aS->Prop)->Prop
 |[],S,ys,k=>G S/\k ys S
 |x::r,S,ys,k=>G S/\g x δ0 S fun δ1 S1=>tt δ1 S1 fun b S2=>if b=true then te δ1 S2 fun d S3=>∃y,d=.t y/\ys.length<sizeLine/\fR G g tt te δ0 r S3 (ys++[y]) k else fR G g tt te δ0 r S2 ys k
noncomputable def Du (own:Nat)(fr:List Nat)(w:I0)(g:sH)(tt:oz)(te:bU):bU:=fun Z S k=>w Z S fun AC G S1=>fR G g tt te (st3 own fr Z) AC S1 [] fun ys S2=>k (.lst ys) S2
noncomputable def Ky (own:Nat)(fr:List Nat)(w:I0)(g:sH)(tt:oz)(te:bU):bU:=fun Z S k=>w Z S fun AC G S1=>fR G g tt te (st3 own fr Z) AC S1 [] fun ys S2=>k (.ob S2.length) (S2++[.lst ys])
def QTs (X:Cx)(cs:List Expr)(t:oz):Prop:=YU X cs (Oj X.K t)
noncomputable def ZG:oz:=fun _ S k=>k true S
theorem qG.yU {K:PySem.W.Frag}{Y:List Addr}{G:Hp}{Z:Sl}{U:St}(r:qG K Y G Z U)(own:Nat)(fr:List Nat):qG K Y G (st3 own fr Z) (yU own fr U):=by
 refine⟨by unfold st3 L2.yU;simp,fun i d h=>?_⟩;unfold st3 at h;unfold L2.yU;by_cases hi:i<own
 .rw[List.getElem?_append_left (by simpa using hi),List.getElem?_replicate,if_pos hi] at h;cases h
 .rw[List.getElem?_append_right (by simpa using hi),List.length_replicate,List.getElem?_map] at h ⊢;cases e:fr[i - own]? with
  |none=>rw[e] at h;cases h
  |some j=>
   rw[e] at h;have h:(Z[j]?).join=some d:=Option.some.inj h;have h2:Z[j]?=some (some d):=by
    cases q:Z[j]? with
    |none=>rw[q] at h;cases h
    |some o=>rw[q] at h;exact congrArg some h
   obtain⟨v,e1,e2⟩:=r.2 j d h2;exact⟨v,by show some ((U[j]?).join)=some (some v);rw[e1];rfl,e2⟩
theorem KI {own:Nat}{fr:List Nat}{U U':St}(h:SmS own (yU own fr U) U'):Ext (yU own fr U) U':=by
 refine⟨h.1,fun i v e=>?_⟩;by_cases hi:i<own
 .unfold L2.yU at e;rw[List.getElem?_append_left (by simpa using hi),List.getElem?_replicate,if_pos hi] at e;cases e
 .rw[h.2 i (by omega)];exact e
section
variable {X:Cx}{sc:Scope}{cl:List (Str×Addr)}{own:Nat}{N:List Str}{fr:List Nat}{elt tg iter:Expr}{cs:List Expr}{pos spos py:Pos}{w:I0}{g:sH}{tt:oz}{te:bU}
theorem fJ:QTs X [] ZG:=(by rintro vy s U H Q I ⟨Y,S,Z,k,R,D,q,hk⟩;exact PF vy s U H Q I (hk _ _ ⟨Y,S,.refl,R,q⟩))
theorem F6 {c:Expr}{t:oz}(hc:QT X c t):QTs X [c] t:=PD hc
theorem Sh {U:St}{H1:Hp}{Y1:List Addr}{S1:aS}{Z:Sl}{J:It}{AC:List D}{G:aS->Prop}{k:List T->aS->Prop}{R:List V->Hp->Prop}(RS:qG X.K Y1 (res Y1 H1) Z U)(R1:R3 X.K Y1 S1 H1)(jo:Oz X.K J AC G Y1 H1)
  (q:fR G g tt te (st3 own fr Z) AC S1 [] k) (hR:∀Y2 S2 H2 ys l,Gr Y1 H1 Y2 H2->R3 X.K Y2 S2 H2->aW X.K (res Y2 H2) l ys->k l S2->R ys H2) :
  ∃W:Nat->Nat->List V->Hp->Prop,(∃m,W 0 m [] H1)/\NV J (W5 X.K own g) (Oj X.K tt) (li X.K te) (yU own fr U) W R:=by
 refine⟨fun i m ys H'=>m=AC.length - i/\i<=AC.length/\∃Y' S' l,Gr Y1 H1 Y' H'/\R3 X.K Y' S' H'/\aW X.K (res Y' H') l ys/\fR G g tt te (st3 own fr Z) (AC.drop i) S' l k,⟨AC.length,by simp,Nat.zero_le _,Y1,S1,[],.refl,R1,.nil,q⟩,?_⟩;rintro i m ys H' ⟨rfl,hi,Y',S',l,g',R',rl,q'⟩;by_cases hlt:i<AC.length
 .rw[List.drop_eq_getElem_cons hlt] at q';obtain⟨hG,q'⟩:=q';refine .inr ⟨jo.go i Y' S' H' g' R' hG hlt,fun ys' H2=>∃Y2 S2 l2,Gr Y1 H1 Y2 H2/\R3 X.K Y2 S2 H2/\aW X.K (res Y2 H2) l2 ys'/\fR G g tt te (st3 own fr Z) (AC.drop (i+1)) S2 l2 k,fun ys' H2 z=>⟨AC.length - (i+1),by omega,rfl,hlt,z⟩,fun x H2 y=>?_⟩;obtain⟨Y2,g2,R2,r2⟩:=jo.C5 i x Y' S' H' H2 AC[i] g' R' hG (List.getElem?_eq_getElem hlt) y;refine⟨Y2,S',st3 own fr Z,AC[i],_,R2,(RS.gr (g'.trans g2)).yU own fr,r2,q',fun σ3 H3 ⟨ρ3,S3,δ3,g3,sI,YS,q3⟩ sm=>⟨KI sm,ρ3,S3,δ3,_,sI,YS,q3,?_⟩⟩;rintro b H4 ⟨ρ4,S4,g4,R4,q4⟩;cases b with
  |false=>exact⟨ρ4,S4,l,(((g'.trans g2).trans g3).trans g4),R4,rl.le ((g2.trans g3).trans g4).le,q4⟩
  |true=>
   refine⟨ρ4,S4,δ3,_,R4,YS.gr g4,q4,?_⟩;rintro v H5 ⟨ρ5,S5,d,g5,R5,r5,z,hz,hl,q5⟩;subst hz;have gg:=((g2.trans g3).trans g4).trans g5;exact⟨by rw[<- rl.len];exact hl,ρ5,S5,l++[z],g'.trans gg,R5,(rl.le gg.le).app (.cons r5 .nil),q5⟩
 .have e:AC.drop i=[]:=List.drop_eq_nil_of_le (by omega);rw[e] at q';exact .inl ⟨jo.stop i Y' S' H' g' R' q'.1 (by omega) (by omega),hR Y' S' H' ys l g' R' rl q'.2⟩
theorem yv:∀U H Q,li X.K (Du own fr w g tt te) U H Q->Fz own fr (liI X.K w) (W5 X.K own g) (Oj X.K tt) (li X.K te) U H Q:=(by rintro U H Q ⟨Y,S,Z,k,R,D,q,hk⟩;exact  ⟨Y,S,Z,_,R,D,q,(by rintro J H1 ⟨Y1,S1,AC,G,g1,R1,jo,q1⟩;exact Sh (D.gr g1) R1 jo q1 fun Y2 S2 H2 ys l g2 R2 rl q2=>wu R2 (fun v H' u=>hk v H' (u.gr (g1.trans g2))) rl q2)⟩)
theorem Ez:∀U H Q,li X.K (Ky own fr w g tt te) U H Q->Fz own fr (liI X.K w) (W5 X.K own g) (Oj X.K tt) (li X.K te) U H Q:=(by rintro U H Q ⟨Y,S,Z,k,R,D,q,hk⟩;exact  ⟨Y,S,Z,_,R,D,q,(by rintro J H1 ⟨Y1,S1,AC,G,g1,R1,jo,q1⟩;exact Sh (D.gr g1) R1 jo q1 fun Y2 S2 H2 ys l g2 R2 rl q2=>Rt R2 (fun v H' u=>hk v H' (u.gr (g1.trans g2))) rl q2)⟩)
theorem ie (S:lS X sc cl own N fr)(hc:X.calm=true)(hi:QI X tg iter w)(hg:∀C s H fp,QX (qh X sc N cl C s H fp) own tg g)
  (ht:∀C s H fp,QTs (qh X sc N cl C s H fp) cs tt) (he:∀C s H fp,QE (qh X sc N cl C s H fp) elt te) (hs:autoParam (∀x,foldedSetIterable iter X.env x=pure x) jp) :
  QE X (.ListComp elt [⟨tg,iter,cs,0⟩] sc pos) (Du own fr w g tt te):=bH (Qc (g:=W5 X.K own g) (tt:=Oj X.K tt) (te:=li X.K te) S hc hi hg ht he hs) yv
theorem Pu {i:Nat}{y:Str}(hN:X.N.Nodup)(S:lS X sc cl own N fr)(hc:X.calm=true)(hi:QI X tg iter w)(hg:∀C s H fp,QX (qh X sc N cl C s H fp) own tg g)
  (ht:∀C s H fp,QTs (qh X sc N cl C s H fp) cs tt) (he:∀C s H fp,QE (qh X sc N cl C s H fp) elt te) (hiy:autoParam (X.N[i]?=some y) zi) (hy:autoParam (Loc X.env.scope y) kd)
  (hsw:autoParam (swapsWith (.ListComp elt [⟨tg,iter,cs,0⟩] sc pos) (some (.Name y py)) spos.line X.env=pure true) zi) (hs:autoParam (∀x,foldedSetIterable iter X.env x=pure x) jp)
  (hf:autoParam (X.fn y=true∨X.env.scope.names.lookup y=some .local) zr) :
  QS X (.Assign [.Name y py] (.ListComp elt [⟨tg,iter,cs,0⟩] sc pos) spos) (xW (Du own fr w g tt te) (dB i)):=
 gU (Gg (g:=W5 X.K own g) (tt:=Oj X.K tt) (te:=li X.K te) hN hiy hy S hc hi hg ht he hsw hs hf) (by rintro D U H ⟨Y,S,Z,E,R,RS,q,eu⟩;exact yv _ _ _ ⟨Y,S,Z,_,R,RS,q,(by rintro v H1 ⟨Y1,S1,d,g1,R1,r1,q1⟩;exact eu.nx _ _ ⟨Y1,S1,Z.set i (some d),g1,R1,(RS.gr g1).set r1 i,q1⟩)⟩)
theorem Ls {i:Nat}{y:Str}(hN:X.N.Nodup)(S:lS X sc cl own N fr)(hc:X.calm=true)(hi:QI X tg iter w)(hg:∀C s H fp,QX (qh X sc N cl C s H fp) own tg g)
  (ht:∀C s H fp,QTs (qh X sc N cl C s H fp) cs tt) (he:∀C s H fp,QE (qh X sc N cl C s H fp) elt te) (hiy:autoParam (X.N[i]?=some y) zi) (hy:autoParam (Loc X.env.scope y) kd)
  (hsw:autoParam (swapsWith (.ListComp elt [⟨tg,iter,cs,0⟩] sc pos) (some (.Name y py)) spos.line X.env=pure true) zi) (hs:autoParam (∀x,foldedSetIterable iter X.env x=pure x) jp)
  (hf:autoParam (X.fn y=true∨X.env.scope.names.lookup y=some .local) zr) :
  QS X (.Assign [.Name y py] (.ListComp elt [⟨tg,iter,cs,0⟩] sc pos) spos) (xW (Ky own fr w g tt te) (dB i)):=
 gU (Gg (g:=W5 X.K own g) (tt:=Oj X.K tt) (te:=li X.K te) hN hiy hy S hc hi hg ht he hsw hs hf) (by rintro D U H ⟨Y,S,Z,E,R,RS,q,eu⟩;exact Ez _ _ _ ⟨Y,S,Z,_,R,RS,q,(by rintro v H1 ⟨Y1,S1,d,g1,R1,r1,q1⟩;exact eu.nx _ _ ⟨Y1,S1,Z.set i (some d),g1,R1,(RS.gr g1).set r1 i,q1⟩)⟩)
end
def closes (L:Nat)(d:D)(S':aS)(k:KD):Prop:=
 (∃S0 S1,S'=S0++S1/\S0.length=L/\(∀o∈S0,Cu L o)/\Yb L d/\k d S0)∨
 (∃m o S0 S1,d=.ob m/\L<=m/\S'=S0++S1/\S0.length=L/\(∀o∈S0,Cu L o)/\S'[m]?=some o/\Cu L o/\k (.ob L) (S0++[o]))∨
 (∃m l S0 S1,d=.ob m/\L<=m/\S'=S0++S1/\S0.length=L/\(∀o∈S0,Cu L o)/\S'[m]?=some (.lst l)/\k (.lst l) S0)∨k d S'
noncomputable def kI (N:List Str)(ds:List D):Sl:=ds.map some++List.replicate (N.length - ds.length) none
theorem qG.start {K:PySem.W.Frag}{Y:List Addr}{G:Hp}{ds:List D}{vs:List V}(r:dH K Y G ds vs)(N:List Str):qG K Y G (kI N ds) (start N vs):=by
 have hl:ds.length=vs.length:=dH.len r;refine⟨by unfold kI L2.start;simp[hl],fun i d h=>?_⟩;unfold kI at h;unfold L2.start;by_cases hi:i<ds.length
 .rw[List.getElem?_append_left (by simpa using hi),List.getElem?_map] at h;rw[List.getElem?_append_left (by simpa[<- hl] using hi),List.getElem?_map];cases e:ds[i]? with
  |none=>rw[e] at h;cases h
  |some x=>
   rw[e] at h;cases h;have gt:∀{l:List D}{m:List V}{i:Nat}{x:D},Paired (g9 K Y G) l m->l[i]?=some x->∃v,m[i]?=some v/\g9 K Y G x v:=by
    intro l m i x r
    induction r generalizing i with
    |nil=>intro e;simp at e
    |cons a t ih=>
     intro e;cases i with
     |zero=>simp at e;subst e;exact⟨_,rfl,a⟩
     |succ i=>obtain⟨v,h1,h2⟩:=ih (i:=i) (by simpa using e);exact⟨v,by simpa using h1,h2⟩
   obtain⟨v,h1,h2⟩:=gt r e;exact⟨v,by rw[h1];rfl,h2⟩
 .rw[List.getElem?_append_right (by simpa using hi),List.getElem?_replicate] at h;split at h<;>cases h
theorem qj {K:PySem.W.Frag}{Y:List Addr}{S:aS}{H:Hp}{k:KD}{v:V}{H':Hp}(R:R3 K Y S H)(h:up K Y H (fun d S'=>closes S.length d S' k) v H'):up K Y H k v H':=by
 obtain⟨Y',S',d,g,R',r,c⟩:=h;obtain⟨ex,hex⟩:=g.ext;subst hex;rcases c with⟨S0,S1,rfl,hl,hc,hd,q⟩ | ⟨m,o,S0,S1,rfl,hm,rfl,hl,hc,ho,hco,q⟩ | ⟨m,l,S0,S1,rfl,hm,rfl,hl,hc,ho,q⟩ | q
 .refine⟨Y,S0,d,⟨⟨[],by simp⟩,g.le.trans gZ⟩,R'.pop (by rw[R.len,hl]) (by rw[hl];exact hc),r.pop gZ (by rw[R.len];exact hd),q⟩
 .obtain⟨a,ha,rfl⟩:=r;have hρ:Y.length=S0.length:=by rw[R.len,hl]
  have R0:R3 K Y S0 H':=R'.pop hρ (by rw[hl];exact hc);have na:a∉Y:=fun z=>by
   obtain⟨n,hn⟩:=List.mem_iff_getElem?.mp z;have l1:=(List.getElem?_eq_some_iff.mp hn).1;have:=mh R'.nd (by rw[List.getElem?_append_left l1];exact hn) ha;have:=R.len;omega
  have le:Le (res (Y++ex) H') (res (Y++[a]) H'):=fun b o h=>by
   obtain⟨h1,h2⟩:=res_some h;refine kM (fun z=>h1 ?_) h2;rcases List.mem_append.mp z with z | z
   .exact List.mem_append_left _ z
   .rw[List.mem_singleton.mp z];exact List.mem_of_getElem? ha
  have pre:∀(n:Nat)(b:Addr),Y[n]?=some b->(Y++[a])[n]?=some b:=fun n b e=>by
   rw[List.getElem?_append_left (List.getElem?_eq_some_iff.mp e).1];exact e
  refine⟨Y++[a],S0++[o],.ob S.length,⟨⟨[a],rfl⟩,g.le.trans le⟩,⟨by simp[hρ],?_,fun n b u e1 e2=>?_⟩,⟨a,by rw[<- R.len];simp,rfl⟩,q⟩
  .rw[List.nodup_append];refine⟨R0.nd,by simp,fun x hx y hy=>?_⟩;rw[List.mem_singleton.mp hy];exact fun z=>na (z ▸ hx)
  .by_cases hn:n<Y.length
   .rw[List.getElem?_append_left hn] at e1;have hn2:n<S0.length:=by omega
    rw[List.getElem?_append_left hn2] at e2;have q0:=R'.ok n b u (by rw[List.getElem?_append_left hn];exact e1) (by rw[List.getElem?_append_left hn2];exact e2);exact(q0.pop le (by rw[R.len];exact hc u (List.mem_of_getElem? e2))).le' pre (Le.refl _)
   .have l1:=(List.getElem?_eq_some_iff.mp e1).1;rw[List.length_append,List.length_singleton] at l1;have hn':n=Y.length:=by omega
    subst hn';rw[List.getElem?_append_right (Nat.le_refl _),Nat.sub_self] at e1;rw[List.getElem?_append_right (by omega),hρ,Nat.sub_self] at e2;cases e1;cases e2;exact((R'.ok m a o ha ho).pop le (by rw[R.len];exact hco)).le' pre (Le.refl _)
 .obtain⟨a,ha,rfl⟩:=r;have hρ:Y.length=S0.length:=by rw[R.len,hl]
  have na:a∉Y:=fun z=>by
   obtain⟨n,hn⟩:=List.mem_iff_getElem?.mp z;have l1:=(List.getElem?_eq_some_iff.mp hn).1;have:=mh R'.nd (by rw[List.getElem?_append_left l1];exact hn) ha;have:=R.len;omega
  obtain⟨vs,h1,h2⟩:=R'.ok m a _ ha ho;refine⟨Y,S0,.lst l,⟨⟨[],by simp⟩,g.le.trans gZ⟩,R'.pop hρ (by rw[hl];exact hc),?_,q⟩;show Rp _ _ _ _;unfold Rp;exact⟨a,vs,rfl,kM na h1,h2.le gZ⟩
 .exact⟨_,S',d,g,R',r,q⟩
noncomputable def endsF (S:aS)(k:KD):wR:={nx:=fun _ S'=>closes S.length .cR S' k,rt:=fun d S'=>closes S.length d S' k }
theorem RC {S S1:aS}{x:T}{k:KD}(c:∀o∈S,Cu S.length o)(h:k (.t x) S):closes S.length (.t x) (S++S1) k:=.inl ⟨S,S1,rfl,rfl,c,trivial,h⟩
theorem iA {S:aS}{x:T}{k:KD}(c:∀o∈S,Cu S.length o)(h:k (.t x) S):closes S.length (.t x) S k:=.inr (.inr (.inr h))
theorem a2A {S S1:aS}{j:Nat}{l:List T}{k:KD}(c:∀o∈S,Cu S.length o)(e:S1[j]?=some (.lst l))(h:k (.lst l) S):closes S.length (.ob (S.length+j)) (S++S1) k:=
 .inr (.inr (.inl ⟨_,l,S,S1,rfl,by omega,rfl,rfl,c,by rw[List.getElem?_append_right (by omega),Nat.add_sub_cancel_left];exact e,h⟩))
theorem mj {S S1:aS}{j:Nat}:(S++S1)[S.length+j]?=S1[j]?:=by rw[List.getElem?_append_right (by omega),Nat.add_sub_cancel_left]
theorem gp {S S1:aS}{j:Nat}{o:O}:(S++S1).set (S.length+j) o=S++S1.set j o:=by rw[List.set_append_right _ _ (by omega),Nat.add_sub_cancel_left]
def Cl (S:aS):Prop:=∀o∈S,Cu S.length o
section
variable {P:Program}{w:World}{K:PySem.W.Frag}{mg:Str->Option Value}{base:Heap}
theorem IP {x qual:Str}{st:Stmt}{f:Addr}{fd:FuncData}{N ps:List Str}{k:Nat}{sp:ef}(F:dg K x qual st f fd)(S:au N ps (ai st))(len:∀ds S k,sp ds S k->ds.length=ps.length)
  (hb:∀(AT:Value)(A:Around)(outer:List Env)(s:Shared)(H:Hp)(E:XK),bV k (A.deeper (PyProof.Rows.envOfC qual (ai st) s.heap.objs.size f AT))->
   ∃t,yE (Aq c5 P w K mg base N qual (ai st) f AT A outer s H E).YE (ao st) t/\∀ds S kk,Cl S->(∀d∈ds,Yb S.length d)->sp ds S kk->t (endsF S kk) (kI N ds) S):aL P w K mg base c5 (k+1) f fd ps (bR K sp):=by
 refine F.ok S (fun vs H Q E ⟨Y,S,ds,kk,R,rd,q,_⟩=>by rw[<- dH.len rd];exact len ds S kk q) ?_;rintro AT A outer s H vs Q E hr ⟨Y,S,ds,kk,R,rd,q,hk⟩;obtain⟨t,h1,h2⟩:=hb AT A outer s H E hr;refine⟨_,h1,Y,S,kI N ds,endsF S kk,R,qG.start rd N,h2 ds S kk R.cl (fun d hd=>?_) q,?_⟩
 .obtain⟨v,z⟩:=iO rd d hd;rw[<- R.len];exact z.cl
 .refine⟨(by rintro U H' ⟨Y',S',Z',g',R',RS',q'⟩;exact hk _ _ (qj R ⟨Y',S',.cR,g',R',aO,q'⟩)),fun v H' u=>hk _ _ (qj R u),(by rintro U H' ⟨_,_,_,_,_,_,z⟩;exact z),(by rintro U H' ⟨_,_,_,_,_,_,z⟩;exact z)⟩
end
end L3
namespace PySem
open L2
section
variable {m:Nat}{ow:Array (Option Nat)}
end
end PySem
namespace PySem
open L2
section
variable {prog:Program}{w:World}{A:Around}{E:Value->Shared->Prop}{s:Shared}
end
end PySem
namespace L2
open PySem PySem.Spec PyProof.Rows Hw
section
variable {X:Cx}
end
end L2
namespace L3
open PySem L2 Hw
noncomputable def IA:D->Option Key
 |.t (.v (.str x))=>some (Sum.inr x)
 |.t (.v (.int i))=>some (Sum.inl i)
 |_=>none
noncomputable def iz (l:List (Key×T))(k:Key):Option T:=(l.find? fun p=>decide (p.1=k)).map (·.2)
noncomputable def dput (l:List (Key×T))(k:Key)(v:T):List (Key×T):=if(l.any fun p=>decide (p.1=k))=true then l.map (fun p=>if p.1=k then(p.1,v) else p) else l++[(k,v)]
abbrev Uo (K:PySem.W.Frag)(G:Hp):List (Key×T)->List (Key×V)->Prop:=Paired fun p q=>p.1=q.1/\Rp K G p.2 q.2
section
variable {K:PySem.W.Frag}{G:Hp}
theorem pY {Y:List Addr}{d:D}{v:V}{k:Key}(r:g9 K Y G d v)(h:IA d=some k):v=kV k:=by
 unfold IA at h;split at h
 .cases h;exact aE r
 .cases h;exact aE r
 .cases h
theorem qc {l:List (Key×T)}{kvs:List (Key×V)}(r:Uo K G l kvs)(k:Key):(∀x,iz l k=some x->∃v,oU kvs k=some v/\Rp K G x v)/\(iz l k=none->oU kvs k=none):=by
 induction r with
 |nil=>exact⟨(fun x h=>nomatch h),fun _=>rfl⟩
 | @cons p q ps qs h t ih=>
  by_cases e:p.1=k
  .have e':q.1=k:=h.1 ▸ e;have a:iz (p::ps) k=some p.2:=by unfold iz;simp[List.find?_cons,e]
   rw[a,oQ e'];exact⟨fun x z=>by cases z;exact⟨_,rfl,h.2⟩,fun z=>nomatch z⟩
  .have e':¬ q.1=k:=fun z=>e (h.1.trans z);have a:iz (p::ps) k=iz ps k:=by unfold iz;simp[List.find?_cons,e]
   rw[a,oS e'];exact ih
theorem RQ {l:List (Key×T)}{kvs:List (Key×V)}(r:Uo K G l kvs)(k:Key):(l.any fun p=>decide (p.1=k))=(kvs.any fun p=>decide (p.1=k)):=by
 induction r with
 |nil=>rfl
 | @cons p q ps qs h t ih=>rw[List.any_cons,List.any_cons,ih,h.1]
theorem Q0 {l:List (Key×T)}{kvs:List (Key×V)}(r:Uo K G l kvs)(k:Key){x:T}{v:V}(h:Rp K G x v):Uo K G (l.map fun p=>if p.1=k then(p.1,x) else p) (kvs.map fun p=>if p.1=k then(p.1,v) else p):=by
 induction r with
 |nil=>exact .nil
 | @cons p q ps qs h' t ih=>
  rw[List.map_cons,List.map_cons];refine .cons ?_ ih;by_cases e:p.1=k
  .rw[if_pos e,if_pos (h'.1 ▸ e)];exact⟨h'.1,h⟩
  .rw[if_neg e,if_neg (fun z=>e (h'.1.trans z))];exact h'
theorem nL {α β:Type}{F:α->β->Prop}:∀{l l':List α}{m m':List β},Paired F l m->Paired F l' m'->Paired F (l++l') (m++m')
 |_,_,_,_,.nil,h=>h
 |_,_,_,_,.cons r t,h=>.cons r (nL t h)
theorem Nv {l:List (Key×T)}{kvs:List (Key×V)}(r:Uo K G l kvs)(k:Key){x:T}{v:V}(h:Rp K G x v):Uo K G (dput l k x) (putK kvs k v):=by
 unfold dput putK;rw[RQ r k];by_cases e:(kvs.any fun p=>decide (p.1=k))=true
 .rw[if_pos e,if_pos e];exact Q0 r k h
 .rw[if_neg e,if_neg e];exact nL r (.cons ⟨rfl,h⟩ .nil)
end
noncomputable def a2t:oN:=fun a b S k=>∃n l key x,a=.ob n/\S[n]?=some (.tu l)/\IA b=some key/\iz l key=some x/\k (.t x) S
section
variable {X:Cx}{o i e f value:Expr}{to ti te tx tv:bU}{pos pos' BM cpos:Pos}{t:mH}
theorem Ly (hu:X.A.units+1<cLine)(ho:QE X o to)(hi:QE X i ti)(hs:autoParam (RW i) km):QE X (.Subscript o i pos) (xu a2t to ti):=
 bH (Gi hu ho hi hs) (by rintro U H Q ⟨Y,S,Z,k,R,D,q,hk⟩;exact⟨Y,S,Z,_,R,D,q,(by rintro v H1 ⟨Y1,S1,d1,g1,R1,r1,q1⟩;exact⟨Y1,S1,Z,_,R1,D.gr g1,q1,(by
  rintro w H2 ⟨Y2,S2,d2,g2,R2,r2,n,l,key,x,h1,h2,h3,h4,q2⟩;subst h1;obtain⟨a,ha,e1⟩:=r1.gr g2;obtain⟨kvs,e2,e3⟩:=R2.ok n a _ ha h2;obtain⟨u,e4,e5⟩:=(qc e3 key).1 x h4;exact⟨a,u,e1,by rw[pY r2 h3,<- e4];exact AS.k e2,hk _ _ ⟨Y2,S2,.t x,g1.trans g2,R2,e5,q2⟩⟩)⟩)⟩)
noncomputable def UY:bU:=fun _ S k=>k (.ob S.length) (S++[.tu []])
theorem VT:QE X (.Dict [] [] pos) UY:=bH LW fun U H Q ⟨Y,S,Z,k,R,D,q,hk⟩ p hp=>XA R hk p hp (o:=.tu []) ⟨[],rfl,.nil⟩ q
noncomputable def Vp (to ti tv:bU):ku:=fun E Z S=>tv Z S fun y S1=>to Z S1 fun o S2=>ti Z S2 fun i S3=>∃n l key x,o=.ob n/\S3[n]?=some (.tu l)/\IA i=some key/\y=.t x/\l.length<sizeLine/\E.nx Z (S3.set n (.tu (dput l key x)))
theorem F7 (hu:X.A.units+1<cLine)(ho:QE X o to)(hi:QE X i ti)(hv:QE X value tv)(hs:autoParam (swapsWith value (some (.Subscript o i pos')) pos.line X.env=pure false) zi):QS X (.Assign [.Subscript o i pos'] value pos) (Vp to ti tv):=
 gU (PR hu ho hi hv hs) (by rintro D U H ⟨Y,S,Z,E,R,RS,q,eu⟩;exact⟨Y,S,Z,_,R,RS,q,(by rintro v H1 ⟨Y1,S1,d1,g1,R1,r1,q1⟩;exact⟨Y1,S1,Z,_,R1,RS.gr g1,q1,(by rintro w H2 ⟨Y2,S2,d2,g2,R2,r2,q2⟩;exact   ⟨Y2,S2,Z,_,R2,RS.gr (g1.trans g2),q2,(by
   rintro z H3 ⟨ρ3,S3,d3,g3,sI,r3,n,l,key,x,h1,h2,h3,h4,h5,q3⟩;subst h1 h4;obtain⟨a,ha,e1⟩:=r2.gr g3;obtain⟨kvs,e2,e3⟩:=sI.ok n a _ ha h2;have hl:kvs.length<sizeLine:=by rw[<- Paired.length e3];exact h5
   obtain⟨R4,g4⟩:=sI.put (o:=.dK (putK kvs key v)) (u:=.tu (dput l key x)) ha ⟨_,rfl,Nv e3 key (r1.gr (g2.trans g3))⟩;refine⟨a,_,e1,by rw[pY r3 h3];exact Of.k e2 hl,eu.nx _ _ ⟨ρ3,_,Z,((g1.trans g2).trans g3).trans g4,R4,(RS.gr ((g1.trans g2).trans g3)).gr g4,q3⟩⟩)⟩)⟩)⟩)
noncomputable def OM (to ti tx:bU):bU:=fun Z S k=>to Z S fun o S1=>∃n l0,o=.ob n/\S1[n]?=some (.tu l0)/\ti Z S1 fun i S2=>tx Z S2 fun z S3=>∃l key,S3[n]?=some (.tu l)/\IA i=some key/\k (match iz l key with | some x=>.t x | none=>z) S3
theorem Gb (hu:X.A.units+1<cLine)(ho:QE X o to)(he:QE X e te)(hf:QE X f tx)(m:M2 X o "get" BM e f cpos:=by exact⟨rfl,rfl,rfl,rfl⟩):QE X (.Call (.Attribute o "get" BM) [e,f] [] cpos) (OM to te tx):=
 bH (LX hu ho he hf m) fun U H Q ⟨Y,S,Z,k,R,D,q,hk⟩=>⟨Y,S,Z,_,R,D,q,(by
  rintro v H1 ⟨Y1,S1,d1,g1,R1,r1,n,l0,h1,h2,q1⟩;subst h1;obtain⟨a,ha,e1⟩:=r1;obtain⟨kvs,e2,e3⟩:=R1.ok n a _ ha h2;refine⟨a,e1,.inl ⟨kvs,.inl e2⟩,Y1,S1,Z,_,R1,D.gr g1,q1,fun w H2 ⟨Y2,S2,d2,g2,R2,r2,q2⟩=>⟨Y2,S2,Z,_,R2,D.gr (g1.trans g2),q2,?_⟩⟩;rintro z H3 ⟨ρ3,S3,d3,g3,sI,r3,l,key,h3,h4,q3⟩;obtain⟨kvs',f1,f2⟩:=sI.ok n a _ ((g2.trans g3).at ha) h3;refine⟨oU kvs' key,by rw[pY (r2.gr g3) h4];exact AS.k f1,?_⟩;have gg:=(g1.trans g2).trans g3;cases c:iz l key with
  |none=>rw[c] at q3;rw[(qc f2 key).2 c];exact hk _ _ ⟨ρ3,S3,d3,gg,sI,r3,q3⟩
  |some x=>
   rw[c] at q3;obtain⟨u,i1,i2⟩:=(qc f2 key).1 x c;rw[i1];exact hk _ _ ⟨ρ3,S3,.t x,gg,sI,i2,q3⟩)⟩
end
noncomputable def rm (x:Str):List Str->List Str
 |[]=>[x]
 |y::r=>if lt x y=true then x::y::r else if x=y then y::r else y::rm x r
noncomputable def FD:List Str->List Str:=List.foldr rm []
theorem v9 {x z:Str}:∀{l:List Str},z∈rm x l↔z=x∨z∈l
 |[]=>by simp[rm]
 |y::r=>by
  unfold rm;by_cases h:lt x y=true
  .rw[if_pos h,List.mem_cons]
  .rw[if_neg h];by_cases e:x=y
   .subst e;rw[if_pos rfl,List.mem_cons];constructor
    .intro q;exact .inr q
    .rintro(q | q)
     .exact .inl q
     .exact q
   .rw[if_neg e,List.mem_cons,v9,List.mem_cons];constructor
    .rintro(q | q | q)
     .exact .inr (.inl q)
     .exact .inl q
     .exact .inr (.inr q)
    .rintro(q | q | q)
     .exact .inr (.inl q)
     .exact .inl q
     .exact .inr (.inr q)
theorem lT {z:Str}:∀{l:List Str},z∈FD l↔z∈l
 |[]=>Iff.rfl
 |x::r=>by
  show z∈rm x (FD r)↔_;rw[v9,lT,List.mem_cons]
theorem GG {x:Str}:∀{l:List Str},l.Pairwise (fun a b=>lt a b=true)->(rm x l).Pairwise fun a b=>lt a b=true
 |[],_=>by unfold rm;simp
 |y::r,h=>by
  unfold rm;by_cases e:lt x y=true
  .rw[if_pos e];refine List.pairwise_cons.mpr ⟨fun z hz=>?_,h⟩;rcases List.mem_cons.mp hz with rfl | hz
   .exact e
   .exact lt_trans e ((List.pairwise_cons.mp h).1 z hz)
  .rw[if_neg e];by_cases q:x=y
   .rw[if_pos q];exact h
   .rw[if_neg q];refine List.pairwise_cons.mpr ⟨fun z hz=>?_,GG (List.pairwise_cons.mp h).2⟩;rcases v9.mp hz with rfl | hz
    .rcases zY z y with a | a | a
     .exact absurd a e
     .exact absurd a q
     .exact a
    .exact(List.pairwise_cons.mp h).1 z hz
theorem yV:∀(l:List Str),(FD l).Pairwise fun a b=>lt a b=true
 |[]=>.nil
 |x::r=>GG (yV r)
theorem Vc {l ys:List Str}(h:ys.Pairwise (fun a b=>lt b a=false))(n:ys.Nodup)(m:∀x,x∈ys↔x∈l):ys=FD l:=qR (Bo h n) (yV l) fun x=>(m x).trans lT.symm
theorem KL {l m:List Str}(h:∀x,x∈l↔x∈m):FD l=FD m:=qR (yV l) (yV m) fun x=>(lT.trans (h x)).trans lT.symm
noncomputable def Ld:I8
 |[.ob n],S,k=>∃l ss,S[n]?=some (.tu l)/\l.map (·.1)=List.map (Sum.inr:Str->Key) ss/\ss.Nodup/\l.length<64/\k (.lst ((FD ss).map T.str)) S
 |_,_,_=>False
section
variable {X:Cx}{e f:Expr}{te tf:bU}{p1 p2 p3 p4 p5 pos pos':Pos}
theorem ML {K:PySem.W.Frag}{G:Hp}{l:List (Key×T)}{kvs:List (Key×V)}(r:Uo K G l kvs):kvs.map (·.1)=l.map (·.1):=by
 induction r with
 |nil=>rfl
 |cons h t ih=>rw[List.map_cons,List.map_cons,ih,h.1]
theorem RL (hc:X.calm=true):Call3 X (.builtin "sorted") Ld:=by
 refine g8 (Av hc) ?_;rintro vs H Q ⟨Y,S,ds,k,R,rd,q,hk⟩;unfold Ld at q;split at q
 .obtain⟨l,ss,h1,h2,h3,h4,h5⟩:=q;obtain⟨v,rfl,a,ha,rfl⟩:=rd.one;obtain⟨kvs,e1,e2⟩:=R.ok _ a _ ha h1;refine⟨a,kvs,ss,rfl,e1,by rw[ML e2];exact h2,by rw[<- Paired.length e2];exact h4,fun l' ys hl hp hs=>?_⟩;rw[Vc hs (hp.nodup_iff.mpr h3) (fun x=>hp.mem_iff)];exact wu R hk (aW.ofStrs _) h5 l' hl
 .exact q.elim
end
theorem BX (x:Str):∀l:List Str,(rm x l).length<=l.length+1
 |[]=>by simp[rm]
 |y::r=>by
  unfold rm;split
  .simp
  .split
   .simp
   .have:=BX x r;simp only[List.length_cons];omega
theorem yW:∀l:List Str,(FD l).length<=l.length
 |[]=>Nat.le_refl _
 |x::r=>by
  have h1:=BX x (FD r);have h2:=yW r;show(rm x (FD r)).length<=r.length+1;omega
theorem uE {k:Nat}{A:Around}(hr:bV k A):A.units+1+40<cLine:=by have:=hr.un;omega
section
variable {P:Program}{w:World}{K:PySem.W.Frag}{mg:Str->Option Value}{base:Heap}{j k:Nat}{x m:Str}{C:Addr}{ps:List Str}
theorem Dn.up {sp:Sp}(h:Dn P w K mg base j x ps sp)(l:j<=k):Dn P w K mg base k x ps sp:=let⟨f,fd,F,a⟩:=h;⟨f,fd,F.mono l,a⟩
theorem Mt.up {sp:Sp}(h:Mt P w K mg base j C m ps sp)(l:j<=k):Mt P w K mg base k C m ps sp:=let⟨f,fd,F,a⟩:=h;⟨f,fd,F.mono l,a⟩
theorem Ms.up {n:Nat}{cl:Nat->Addr}{sp:Nat->ef}(h:Ms P w K mg base j n cl m ps sp)(l:j<=k):Ms P w K mg base k n cl m ps sp:=fun i hi=>Mt.up (h i hi) l
def kB (P:Program)(w:World)(K:PySem.W.Frag)(mg:Str->Option Value)(base:Heap)(k:Nat)(C:Addr)(x:Str)(ps:List Str)(sp:ef):Prop:=∃j,j<k/\Mkr P w K mg base j C x ps sp
theorem kB.up {sp:ef}(h:kB P w K mg base j C x ps sp)(l:j<=k):kB P w K mg base k C x ps sp:=let⟨i,a,b⟩:=h;⟨i,Nat.lt_of_lt_of_le a l,b⟩
end
section
variable {X:Cx}{o e i:Expr}{es:List Expr}{ta te:bU}{t:mH}{f m x:Str}{pos BM p:Pos}{k:Nat}{ps:List Str}{sp:ef}{C:Addr}
theorem sS (F:kB X.prog X.w X.K X.mg X.base k C x ps sp)(hr:bV k X.A)(hg:Gl X x)(ha:QA X (e::es) t)(h1:autoParam (notStar e=true) zi)(h2:autoParam (es.all notStar=true) zi)(hdb:autoParam ((x==("__debug__":Str))=false) zn) :
  QE X (.Call (.Name x p) (e::es) [] pos) (qL C sp t):=let⟨_,hj,F⟩:=F;VQ F (hr.mono hj) hg ha h1 h2 hdb
theorem Tc (F:kB X.prog X.w X.K X.mg X.base k C x ps sp)(hr:bV k X.A)(hg:Gl X x)(ha:QA X (e::es) t)(h1:autoParam (notStar e=true) zi)(h2:autoParam (es.all notStar=true) zi)(hdb:autoParam ((x==("__debug__":Str))=false) zn) :
  QE X (.Call (.Name x p) (e::es) [] pos) (Ku C sp t):=let⟨_,hj,F⟩:=F;Py F (hr.mono hj) hg ha h1 h2 hdb
structure Cm (P:Program)(w:World)(K:PySem.W.Frag)(mg:Str->Option Value)(base:Heap)(k:Nat)(x m:Str)(ps:List Str)(sp:ef):Prop where
 ok:∃(C f:Addr)(fd:FuncData),aL P w K mg base c5 k f fd ps (bR K sp)/\mg x=some (.ref C)/\PySem.W.specialIn K (.ref C) "__getattribute__"=some (some (.builtin "type.__getattribute__"))/\PySem.W.readsIn K C (.type "type")=true/\
  PySem.W.findCls K (.ref C) (.type "type") m=some (.val (.ref f))/\PySem.W.keepIn K (.ref f)=true/\Binds K fd ps []
theorem vz {pl:Sem Bool}(F:Cm X.prog X.w X.K X.mg X.base k x m ps sp)(hr:bV k X.A)(hg:Gl X x)(ha:QA X (e::es) t)(h1:autoParam (notStar e=true) zi)(h2:autoParam (es.all notStar=true) zi)(hdb:autoParam ((x==("__debug__":Str))=false) zn)
  (ht:autoParam (eval (.Call (.Attribute (.Name x p) m BM) (e::es) [] pos) X.env=(do
   let ov <- eval (.Name x p) X.env
   standAt BM.atName
   let(f,first) <- holding [ov] (getMethod ov m pl)
   callWith pos f first (backTo pos (starEach (e::es) X.env)) (backToKw pos (keywordEach [] X.env)))) zi) :
  QE X (.Call (.Attribute (.Name x p) m BM) (e::es) [] pos) (uO sp t):=by
 obtain⟨C,f,fd,F,hm,s1,s2,s3,hk,hb⟩:=F.ok;refine bH (Gj hg hm s1 s2 s3 rfl hk F hr hb rX ha (dG h1) (dI h2) hdb ht) fun U H Q ⟨Y,S,Z,k,R,D,q,hk⟩=>⟨Y,S,Z,_,R,D,q,?_⟩
 rintro v H1 ⟨Y1,S1,d,g1,R1,r1,q1⟩;show bR X.K sp (v++[]) H1 Q E0;rw[List.append_nil];exact MH g1 R1 r1 q1 hk
def WN:D->aS->KD->Prop
 |.t (.v (.int i)),S,k=>k (.int (-i)) S
 |_,_,_=>False
noncomputable def Zo (t:bU):bU:=fun Z S k=>t Z S fun d S1=>WN d S1 k
theorem yf (h:QE X e te):QE X (.UnaryOp .USub e pos) (Zo te):=bH (a0L UO h) (by rintro U H Q ⟨Y,S,Z,k,R,D,q,hk⟩;exact⟨Y,S,Z,_,R,D,q,(by
 rintro v H1 ⟨Y1,S1,d,g1,R1,r1,q1⟩
 replace q1:WN d S1 k:=q1
 unfold WN at q1;split at q1
 .exact⟨_,aE r1,hk _ _ ⟨Y1,S1,_,g1,R1,aO,q1⟩⟩
 .exact q1.elim)⟩)
theorem DN {xs:List Str}(h:r9 e=some xs):QE X e (fun _ S k=>xs.length<=sizeLine/\k (.lst (xs.map T.str)) S):=bH (P5 h) (by rintro U H Q ⟨Y,S,Z,k,R,D,q,hk⟩;exact⟨by rw[List.length_map];exact q.1,wu R hk (aW.ofStrs xs) q.2⟩)
end
def newL (mu:Bool)(l:List T)(S:aS)(k:KD):Prop:=if mu then k (.ob S.length) (S++[.lst l]) else k (.lst l) S
noncomputable def DE (mu:Bool):CZ
 |.t (.v (.str a)),[.t (.v (.str b))],S,k=>(b.length==0)=false/\a.length+2<=sizeLine/\newL mu ((Txt.split a b).map T.str) S k
 |_,_,_,_=>False
noncomputable def part3:CZ
 |.t (.v (.str a)),[.t (.v (.str b))],S,k=>(b.length==0)=false/\a.length<=sizeLine/\k (.tup [.str (Txt.partition a b).1,.str (Txt.partition a b).2.1,.str (Txt.partition a b).2.2]) S
 |_,_,_,_=>False
noncomputable def WZ:CZ
 |.t (.v (.str a)),[.t (.v (.str b))],S,k=>a.length<=sizeLine/\k (.str (Txt.lstripChars a b)) S
 |_,_,_,_=>False
noncomputable def Vq:CZ
 |.t (.v (.str a)),[.t (.v (.str b))],S,k=>a.length<=sizeLine/\k (.str (Txt.rstripChars a b)) S
 |_,_,_,_=>False
noncomputable def V7:CZ
 |.ob n,[],S,k=>∃l x,S[n]?=some (.lst (l++[x]))/\k (.t x) (S.set n (.lst l))
 |_,_,_,_=>False
noncomputable def Xp:CZ
 |d,[.t (.v (.str x))],S,k=>∃(a b:List Str),lq S d=some ((a++x::b).map T.str)/\x∉a/\k (.int a.length) S
 |_,_,_,_=>False
noncomputable def TR:I8
 |[.t (.v (.str x))],S,k=>∃n:Int,PySem.intText? x=some n/\x.length<=640/\k (.int n) S
 |_,_,_=>False
section
variable {X:Cx}{x:Str}{p pos BM cpos:Pos}{e o i value:Expr}{es:List Expr}{t:mH}{to ti tv:bU}{id ty:String}{r:CZ}
theorem m_split (mu:Bool):qH X "str.split" (D8 X.K (DE mu)):=by
 refine nA MA ?_;rintro v vs H Q ⟨Y,S,d,ds,k,R,rd,rs,q,hk⟩;unfold DE at q;split at q
 .obtain⟨h1,h2,h3⟩:=q;obtain⟨w,rfl,rw'⟩:=rs.one;rw[aE rd,aE rw'];refine⟨_,_,rfl,rfl,h1,h2,?_⟩;cases mu with
  |true=>exact Rt R hk (aW.ofStrs _) h3
  |false=>exact wu R hk (aW.ofStrs _) h3
 .exact q.elim
theorem WW:qH X "str.partition" (D8 X.K part3):=by
 refine nA QV ?_;rintro v vs H Q ⟨Y,S,d,ds,k,R,rd,rs,q,hk⟩;unfold part3 at q;split at q
 .obtain⟨h1,h2,h3⟩:=q;obtain⟨w,rfl,rw'⟩:=rs.one;rw[aE rd,aE rw'];exact⟨_,_,rfl,rfl,h1,h2,Nk R hk (aW.ofStrs [_,_,_]) h3⟩
 .exact q.elim
theorem a1f:qH X "str.lstrip" (D8 X.K WZ):=by
 refine nA Io ?_;rintro v vs H Q ⟨Y,S,d,ds,k,R,rd,rs,q,hk⟩;unfold WZ at q;split at q
 .obtain⟨w,rfl,rw'⟩:=rs.one;rw[aE rd,aE rw'];exact⟨_,_,rfl,rfl,q.1,fin R hk aO q.2⟩
 .exact q.elim
theorem a1c:qH X "str.rstrip" (D8 X.K Vq):=by
 refine nA Im ?_;rintro v vs H Q ⟨Y,S,d,ds,k,R,rd,rs,q,hk⟩;unfold Vq at q;split at q
 .obtain⟨w,rfl,rw'⟩:=rs.one;rw[aE rd,aE rw'];exact⟨_,_,rfl,rfl,q.1,fin R hk aO q.2⟩
 .exact q.elim
theorem aW.snoc {K:PySem.W.Frag}{G:Hp}{x:T}:∀{l:List T}{vs:List V},aW K G (l++[x]) vs->∃us v,vs=us++[v]/\aW K G l us/\Rp K G x v
 |[],vs,r=>by
  rw[List.nil_append] at r;unfold aW at r;obtain⟨v,vr,e1,e2,e3⟩:=r;unfold aW at e3;exact⟨[],v,by rw[e1,e3];rfl,by unfold aW;rfl,e2⟩
 |y::l,vs,r=>by
  rw[List.cons_append] at r;unfold aW at r;obtain⟨v,vr,e1,e2,e3⟩:=r;obtain⟨us,w,f1,f2,f3⟩:=aW.snoc e3;exact⟨v::us,w,by rw[e1,f1];rfl,by unfold aW;exact⟨v,us,rfl,e2,f2⟩,f3⟩
theorem a1e:qH X "list.pop" (D8 X.K V7):=by
 refine nA WT ?_;rintro v vs H Q ⟨Y,S,d,ds,k,R,rd,rs,q,hk⟩;unfold V7 at q;split at q
 .obtain⟨l,x,h1,h2⟩:=q;obtain⟨a,ha,rfl⟩:=rd;cases rs;obtain⟨us,e1,e2⟩:=R.ok _ a _ ha h1;obtain⟨u1,v1,rfl,f1,f2⟩:=aW.snoc e2;refine⟨a,u1++[v1],v1,rfl,rfl,e1,?_,?_⟩
  .rw[List.length_append,List.length_singleton,Nat.add_sub_cancel,List.getElem?_append_right (Nat.le_refl _),Nat.sub_self];rfl
  .rw[List.dropLast_concat];exact Nl R hk ha (o:=.lst l) ⟨_,rfl,f1⟩ (d:=.t x) f2 h2
 .exact q.elim
theorem a1g:qH X "list.index" (D8 X.K Xp):=by
 refine nA QZ ?_;rintro v vs H Q ⟨Y,S,d,ds,k,R,rd,rs,q,hk⟩;unfold Xp at q;split at q
 .rename_i x;obtain⟨a,b,h1,h2,h3⟩:=q;obtain⟨w,rfl,rw'⟩:=rs.one;obtain⟨p,us,e1,e2,e3⟩:=cD R rd h1;rw[e3.strs] at e2;rw[aE rw'];refine⟨p,_,.str _,.str _,a.length,e1,rfl,e2,rfl,?_,?_,wz rfl,?_,fin R hk aO h3⟩
  .exact mw _
  .rw[List.map_append,List.getElem?_append_right (by simp)];simp
  .intro i hi c hc;rw[List.map_append,List.getElem?_append_left (by simpa using hi),List.getElem?_map] at hc;obtain⟨y,hy,rfl⟩:=Option.map_eq_some_iff.mp hc;have:y≠x:=fun e=>h2 (e ▸ List.mem_of_getElem? hy);show(y==_)=false;exact beq_false_of_ne this
 .exact q.elim
theorem Yl:Call3 X (.type "int") TR:=by
 refine g8 IV ?_;rintro vs H Q ⟨Y,S,ds,k,R,rd,q,hk⟩;unfold TR at q;split at q
 .obtain⟨n,h1,h2,h3⟩:=q;obtain⟨w,rfl,rw'⟩:=rd.one;rw[aE rw'];exact⟨_,n,rfl,h1,h2,fin R hk aO h3⟩
 .exact q.elim
theorem F9 (mu:Bool)(ho:QE X o to)(ha:QA X [e] t)(h1:autoParam (notStar e=true) zi)(Ap:autoParam (attributeBase o "split" X.env (eval o X.env)=eval o X.env) zi)(B1:autoParam ((BM.endLine==cpos.line)=true) zi) :
  QE X (.Call (.Attribute o "split" BM) [e] [] cpos) (mC "str" (DE mu) to t):=zK PySem.F.plainAttrs_str PySem.F.slot_str_split PySem.F.type_str_split (m_split mu) ho ha h1 rfl (by decide) Ap B1
theorem VP (ho:QE X o to)(ha:QA X [e] t)(h1:autoParam (notStar e=true) zi)(Ap:autoParam (attributeBase o "partition" X.env (eval o X.env)=eval o X.env) zi)(B1:autoParam ((BM.endLine==cpos.line)=true) zi) :
  QE X (.Call (.Attribute o "partition" BM) [e] [] cpos) (mC "str" part3 to t):=zK PySem.F.plainAttrs_str PySem.F.slot_str_partition PySem.F.type_str_partition WW ho ha h1 rfl (by decide) Ap B1
theorem Lw (ho:QE X o to)(ha:QA X [e] t)(h1:autoParam (notStar e=true) zi)(Ap:autoParam (attributeBase o "lstrip" X.env (eval o X.env)=eval o X.env) zi)(B1:autoParam ((BM.endLine==cpos.line)=true) zi) :
  QE X (.Call (.Attribute o "lstrip" BM) [e] [] cpos) (mC "str" WZ to t):=zK PySem.F.plainAttrs_str PySem.F.slot_str_lstrip PySem.F.type_str_lstrip a1f ho ha h1 rfl (by decide) Ap B1
theorem Lv (ho:QE X o to)(ha:QA X [e] t)(h1:autoParam (notStar e=true) zi)(Ap:autoParam (attributeBase o "rstrip" X.env (eval o X.env)=eval o X.env) zi)(B1:autoParam ((BM.endLine==cpos.line)=true) zi) :
  QE X (.Call (.Attribute o "rstrip" BM) [e] [] cpos) (mC "str" Vq to t):=zK PySem.F.plainAttrs_str PySem.F.slot_str_rstrip PySem.F.type_str_rstrip a1c ho ha h1 rfl (by decide) Ap B1
theorem a0x (ho:QE X o to)(Ap:autoParam (attributeBase o "pop" X.env (eval o X.env)=eval o X.env) zi)(B1:autoParam ((BM.endLine==cpos.line)=true) zi) :
  QE X (.Call (.Attribute o "pop" BM) [] [] cpos) (mC "list" V7 to bQ):=bH (Wm PySem.F.plainAttrs_list PySem.F.slot_list_pop PySem.F.type_list_pop a1e ho Ap B1) MB
theorem a0C (ho:QE X o to)(ha:QA X [e] t)(h1:autoParam (notStar e=true) zi)(Ap:autoParam (attributeBase o "index" X.env (eval o X.env)=eval o X.env) zi)(B1:autoParam ((BM.endLine==cpos.line)=true) zi) :
  QE X (.Call (.Attribute o "index" BM) [e] [] cpos) (mC "list" Xp to t):=zK PySem.F.plainAttrs_list PySem.F.slot_list_index PySem.F.type_list_index a1g ho ha h1 rfl (by decide) Ap B1
end
noncomputable def yR (r r':oN)(ta tb tc:bU):bU:=fun Z S k=>ta Z S fun x S1=>tb Z S1 fun y S2=>r x y S2 fun z S3=>∃b,z=.bl b/\(if b=true then tc Z S3 fun w' S4=>r' y w' S4 k else k (.bl false) S3)
noncomputable def Q6:oN
 |.t (.v (.str i)),.t (.v (.str j)),S,k=>k (.bl (!(decide (j.cps.toList<i.cps.toList)))) S
 |_,_,_,_=>False
section
variable {X:Cx}{a b c:Expr}{ta tb tc:bU}{pos:Pos}
theorem Gu:uG X (compareOp .LtE) Q6:=by
 refine fK HY ?_;rintro x y H Q ⟨Y,S,a,b,k,R,ra,rb,q,hk⟩;unfold Q6 at q;split at q
 .exact⟨_,_,aE ra,aE rb,fin R hk aO q⟩
 .exact q.elim
theorem wG {r r':oN}:∀U H Q,li X.K (yR r r' ta tb tc) U H Q->Dv (Tt X.K r) (Tt X.K r') (li X.K ta) (li X.K tb) (li X.K tc) U H Q:=fun U H Q ⟨Y,S,Z,k,R,D,q,hk⟩=>
 ⟨Y,S,Z,_,R,D,q,fun v H1 ⟨Y1,S1,d1,g1,R1,r1,q1⟩=>⟨Y1,S1,Z,_,R1,D.gr g1,q1,fun w H2 ⟨Y2,S2,d2,g2,R2,r2,q2⟩=>
  ⟨Y2,S2,d1,d2,_,R2,r1.gr g2,r2,q2,(by
   rintro z H3 ⟨ρ3,S3,d3,g3,sI,r3,b,e,q3⟩;subst e;refine⟨b,aE r3,?_⟩;have g13:=g1.trans (g2.trans g3);cases b with
   |false=>exact hk _ _ ⟨ρ3,S3,.bl false,g13,sI,aO,q3⟩
   |true=>exact⟨ρ3,S3,Z,_,sI,D.gr g13,q3,(by rintro w' H4 ⟨ρ4,S4,d4,g4,R4,r4,q4⟩;exact⟨ρ4,S4,d2,d4,k,R4,r2.gr (g3.trans g4),r4,q4,fun z H5 u=>hk z H5 (u.gr (g13.trans g4))⟩)⟩)⟩⟩⟩
theorem Gd {op op':CmpOp}{r r':oN}(ho:uG X (compareOp op) r)(ho':uG X (compareOp op') r')(ha:QE X a ta)(hb:QE X b tb)(hc:QE X c tc)
  (hm:autoParam (lastMarks [op,op'] [b,c]=false) kf):QE X (.Compare a [op,op'] [b,c] pos) (yR r r' ta tb tc):=bH (LY ho ho' ha hb hc hm) wG
theorem Bp {op op':CmpOp}{r r':oN}(ho:uG X (compareOp op) r)(ho':uG X (compareOp op') r')(ha:QE X a ta)(hb:QE X b tb)(hc:QE X c tc)
  (hm:autoParam (lastMarks [op,op'] [b,c]=false) kf):QT X (.Compare a [op,op'] [b,c] pos) (uM (yR r r' ta tb tc)):=Gf (LF ho ho' ha hb hc hm) (qK wG)
end
end L3
namespace L2
open PySem PySem.Spec PyProof.Rows
noncomputable def Itq (lo:Int)(n:Nat):It:=⟨fun i _=>i<n,fun i H x H'=>H'=H/\x=.int (lo+i*2),fun i _=>n<=i⟩
theorem J7 {P:Program}{w:World}{K:PySem.W.Frag}{tg:Expr}(it:Addr)(lo:Int)(n:Nat):Turn P w K tg (Itq lo n) [it] it (fun i h=>IsRangeIter h it (lo+(i:Nat)*2) ((n:Int) - (i:Nat)) 2) where
 mem:=by simp
 obj:=fun i h st b hb=>by
  obtain rfl:b=it:=by simpa using hb
  exact⟨_,st,fun v z=>by
   have z':Data.fields _=Data.cell v:=z;cases z'⟩
 keep:=fun i h h' st k=>k it (by simp) _ st
 item:=by
  intro X hP hw hK hc i vy s U H E I hf st hg;subst hP hw hK;obtain⟨f0,f1,f2,f3,f4,f5⟩:=hf it (by simp);refine(Walks.range (prog:=X.prog) (w:=X.w) (I.ok.hd hc) it lo 2 n).item i s _ _ hg st fun v h' tk hv st' kk=>?_;obtain⟨t,rfl⟩:=hv;have I1:Inv X vy U H {s with heap:=h',toks:=tk }:=I.turned (fun b o hb e=>kk b o (by simpa using hb) e) f0 f1 f3 f4 f5;exact⟨_,rfl,sy (s:={s with heap:=h',toks:=tk }) (n:="range_iterator") st' rfl rfl (by decide) ⟨.int (lo+i*2),H,I1,⟨t,rfl⟩,⟨rfl,rfl⟩,st',fun b hb=>(hf b hb).1⟩⟩
 done:=by
  intro X hP hw hK hc i vy s U H E I hf st hg;subst hP hw hK;obtain⟨f0,f1,f2,f3,f4,f5⟩:=hf it (by simp);exact wpAny_pyNext_range_end (I.ok.hd hc) st (by have:n<=i:=hg;omega) fun h' eb=>⟨rfl,I.turned (t':=s.toks) (fun b o hb e=>eb b o hb e) f0 f1 f3 f4 f5⟩
 self:=fun _ _ _ _ _ st h=>wpAny_pyIter_rangeiter st h
section
variable {X:Cx}{tg:Expr}
noncomputable def a5E (ta:TA):TI:=fun U H R=>ta U H fun vs H1=>∃i j:Int,vs=[.int i,.int j,.int 2]/\(0<=i/\i<2 ^ 50/\0<=j/\j<2 ^ 50)/\R (Itq i ((j - i+1) / 2).toNat) H1
theorem Wc {a b c:Expr}{ta:TA}{p pos:Pos}(hg:Gl X "range")(hm:X.mg "range"=none)(ha:PA X [a,b,c] ta)(hs:autoParam (starEach [a,b,c] X.env=[(false,eval a X.env),(false,eval b X.env),(false,eval c X.env)]) zi)(hs2:autoParam (starEach [b,c] X.env=[(false,eval b X.env),(false,eval c X.env)]) zi) :
  PI X tg (.Call (.Name "range" p) [a,b,c] [] pos) (a5E ta):=by
 intro vy s U H R I h;refine Call_ (qY I hg hm boot_range (PyProof.Rows.callWith_type1 (bA (ha pos vy s U H _ I h) fun us s1 ⟨vs,H1,I1,r1,q1⟩=>?_) (by rw[hs,hs2]) (by rw[hs2];rfl)));obtain⟨i,j,e,⟨q1,q2,q3,q4⟩,q⟩:=q1;subst e;cases r1 with
 |cons r rr=>
 cases rr with
 |cons r' rr=>
 cases rr with
 |cons r'' rr=>
 cases rr;obtain⟨t,rfl⟩:=r;obtain⟨u,rfl⟩:=r';obtain⟨v,rfl⟩:=r'';have hz:Builtin.Range.rangeSize i j 2=(((j - i+1) / 2).toNat:Nat):=by
  unfold Builtin.Range.rangeSize;rw[if_pos (by decide)];split<;>omega
 refine call_range_3 (by decide) ?_ (Or.inl (PyProof.noPylong_small (by omega)));refine wpAny_pyIter_range (IsRange.new ..) ?_ ?_
 .unfold Builtin.Range.small;rw[hz];simp only[Builtin.Range.rangeFitsLong,Bool.and_eq_true,Bool.or_eq_true,decide_eq_true_eq,beq_iff_eq,show(2:Int) > 0 by decide,if_true];omega
 .have I2:Inv X vy U H1 {s1 with heap:=s1.heap.push {cls:=.type "range",data:=.fields #[.int i t,.int j u,.int 2 v] },toks:=s1.toks }:=I1.kept fun b o e=>Heap.get?_push_of_some _ e;refine⟨_,[(s1.heap.push {cls:=.type "range",data:=.fields #[.int i t,.int j u,.int 2 v] }).objs.size],_,_,H1,rfl,
   I2.kept (t':=s1.toks) fun b o e=>Heap.get?_push_of_some _ e,J7 _ i ((j - i+1) / 2).toNat,?_,fun b hb=>?_,q⟩
  .show IsRangeIter _ _ (i+((0:Nat):Int)*2) ((((j - i+1) / 2).toNat:Int) - ((0:Nat):Int)) 2;rw[show i+((0:Nat):Int)*2=i by simp,show((((j - i+1) / 2).toNat:Int) - ((0:Nat):Int))=Builtin.Range.rangeSize i j 2 by rw[hz];simp];exact Heap.get?_push_size _ rfl
  .obtain rfl:b=(s1.heap.push {cls:=.type "range",data:=.fields #[.int i t,.int j u,.int 2 v] }).objs.size:=by simpa using hb
   exact I2.Cf (Nat.le_refl _) (I2.hok.fresh (Nat.le_refl _))
end
end L2
namespace L3
open PySem L2 Hw
section
variable {X:Cx}{tg iter e:Expr}{te:bU}{pos p:Pos}
noncomputable def iSg (te:bU):I0:=fun Z S k=>te Z S fun d S1=>∃z:Str,d=.str z/\k (z.cps.toList.map fun c=>D.str ⟨#[c]⟩) (fun _=>True) S1
theorem Rb {K:PySem.W.Frag}{Y:List Addr}{H:Hp}{z:Str}:Oz K (Its z) (z.cps.toList.map fun c=>D.str ⟨#[c]⟩) (fun _=>True) Y H where
 go:=fun i Y1 S1 H1 g R _ hi=>by show i<z.cps.size;simpa using hi
 C5:=fun i x Y1 S1 H1 H' d g R _ hd y=>by
  obtain⟨rfl,c,hc,rfl⟩:=y;rw[List.getElem?_map,Array.getElem?_toList,hc] at hd;cases hd;exact⟨Y1,.refl,R,aO⟩
 stop:=fun i Y1 S1 H1 g R _ hi _=>by show z.cps.size<=i;simpa using hi
theorem S8 (he:QE X iter te):QI X tg iter (iSg te):=yg (Wa he) (by rintro U H Q ⟨Y,S,Z,k,R,D,q,hk⟩;exact⟨Y,S,Z,_,R,D,q,(by
 rintro v H1 ⟨Y1,S1,d,g1,R1,r1,z,e,q1⟩;subst e;exact⟨z,aE r1,hk _ _ ⟨Y1,S1,_,_,g1,R1,Rb,q1⟩⟩)⟩)
noncomputable def iB2 (t:mH):I0:=fun Z S k=>t Z S fun ds S1=>∃i j:Int,ds=[.int i,.int j,.int 2]/\(0<=i/\i<2 ^ 50/\0<=j/\j<2 ^ 50)/\k ((List.range ((j - i+1) / 2).toNat).map fun(m:Nat)=>D.int (i+m*2)) (fun _=>True) S1
theorem Rf {K:PySem.W.Frag}{Y:List Addr}{H:Hp}{lo:Int}{n:Nat}:Oz K (Itq lo n) ((List.range n).map fun(i:Nat)=>D.int (lo+i*2)) (fun _=>True) Y H where
 go:=fun i Y1 S1 H1 g R _ hi=>by show i<n;simpa using hi
 C5:=fun i x Y1 S1 H1 H' d g R _ hd y=>by
  obtain⟨rfl,rfl⟩:=y;rw[List.getElem?_map] at hd;cases q:(List.range n)[i]? with
  |none=>rw[q] at hd;cases hd
  |some z=>
   rw[q] at hd;cases hd;have:=List.getElem?_range (n:=n) (i:=i) (by have:=(List.getElem?_eq_some_iff.mp q).1;simpa using this);rw[this] at q;cases q;exact⟨Y1,.refl,R,aO⟩
 stop:=fun i Y1 S1 H1 g R _ hi _=>by show n<=i;simpa using hi
theorem VM {a b c:Expr}{t:mH}(hg:Gl X "range")(hm:X.mg "range"=none)(ha:QA X [a,b,c] t)(hs:autoParam (starEach [a,b,c] X.env=[(false,eval a X.env),(false,eval b X.env),(false,eval c X.env)]) zi)(hs2:autoParam (starEach [b,c] X.env=[(false,eval b X.env),(false,eval c X.env)]) zi) :
  QI X tg (.Call (.Name "range" p) [a,b,c] [] pos) (iB2 t):=
 yg (Wc hg hm ha hs hs2) fun U H Q ⟨Y,S,Z,k,R,D,q,hk⟩=>⟨Y,S,Z,_,R,D,q,fun v H1 ⟨Y1,S1,d,g1,R1,r1,i,j,e,h1,q1⟩=>by
  subst e;obtain⟨x,y,z,rfl,hx,hy,hz⟩:∃x y z,v=[x,y,z]/\g9 X.K Y1 (res Y1 H1) (.int i) x/\g9 X.K Y1 (res Y1 H1) (.int j) y/\g9 X.K Y1 (res Y1 H1) (.int 2) z:=by
   cases r1 with
   |cons a r=>cases r with
    |cons b r=>cases r with
     |cons c r=>cases r;exact⟨_,_,_,rfl,a,b,c⟩
  exact⟨i,j,by rw[aE hx,aE hy,aE hz],h1,hk _ _ ⟨Y1,S1,_,_,g1,R1,Rf,q1⟩⟩⟩
end
section
variable {X:Cx}{pos p1 p2:Pos}
theorem gI (z:Str):∀ss:List Str,Je (.str z) (ss.map V.str)=decide (z∈ss)
 |[]=>rfl
 |s::r=>by
  have ih:=gI z r;unfold Je at ih ⊢;rw[List.map_cons,List.any_cons,ih];show((s==z)||decide (z∈r))=_;by_cases e:s=z
  .subst e;simp
  .rw[beq_false_of_ne e,Bool.false_or];exact decide_eq_decide.mpr ⟨fun h=>List.mem_cons_of_mem _ h,fun h=>(List.mem_cons.mp h).resolve_left fun w=>e w.symm⟩
noncomputable def inK (neg:Bool)(a:Addr)(ss:List Str):oN:=fun x y S k=>∃z,x=.str z/\y=.t (.v (.ref a))/\k (.bl (xor neg (decide (z∈ss)))) S
theorem a0Z {a:Addr}{ss:List Str}(h:∀H:Hp,lM X.K H a (ss.map V.str)):uG X (compareOp .In) (inK false a ss):=by
 refine fK yh ?_;rintro x y H Q ⟨Y,S,d,b,k,R,ra,rb,⟨z,h1,h2,q⟩,hk⟩;subst h1 h2;rw[aE ra,aE rb];refine⟨a,_,rfl,.inr (h H),rfl,mw ss,?_⟩;rw[gI];exact fin R hk aO (by rw[Bool.false_xor] at q;exact q)
noncomputable def tD1 (c:Str)(n:Int):bU:=fun _ S k=>k (.ob S.length) (S++[.tu [(Sum.inr c,.int n)]])
theorem OC {H:Hp}{p:Addr}{o o':HO}:upd (upd H p o) p o'=upd H p o':=by
 funext b;unfold upd;split<;>rfl
theorem a4R {c:Str}{n:Int}{j1 j2:Nat}:QE X (.Dict [some (.Constant (.str c) j1 p1)] [.Constant (.int n) j2 p2] pos) (tD1 c n):=
 bH (Qa (LJ DQ DR PV) rfl rfl (by simp) (by show 1<=15;decide)) fun U H Q ⟨Y,S,Z,k,R,D,q,hk⟩ p hp=>by
  refine⟨if_pos rfl,[(Sum.inr c,.int n)],rfl,by show 1<=15;decide,?_⟩;rw[OC];refine XA R hk p hp (o:=.tu [(Sum.inr c,.int n)]) ⟨_,rfl,.cons ⟨rfl,?_⟩ .nil⟩ q;unfold Rp;rfl
end
end L3
namespace L2
open PySem PySem.Spec PyProof.Rows
noncomputable def Itk (d:Addr)(ob:Obj)(kvs:List (Key×V)):It:=
 ⟨fun i H=>H d=some (.rq ob (.dK kvs))/\i<kvs.length,fun i H x H'=>H'=H/\∃k v,kvs[i]?=some (k,v)/\x=kV k,fun i H=>H d=some (.rq ob (.dK kvs))/\kvs.length<=i⟩
theorem Hy {P:Program}{w:World}{K:PySem.W.Frag}{tg:Expr}(d it:Addr)(ob:Obj)(kvs:List (Key×V))(es:Array DictEntry)(ep:Nat)(hob:ob.data=.dict es ep) :
  Turn P w K tg (Itk d ob kvs) [it] it (fun i h=>h.IsKeyIter it d i kvs.length ep) where
 mem:=by simp
 obj:=fun i h st b hb=>by
  obtain rfl:b=it:=by simpa using hb
  obtain⟨o,e,c,dd⟩:=st;exact⟨o,e,fun v z=>by rw[dd] at z;cases z⟩
 keep:=fun i h h' st k=>st.at fun o e=>k it (by simp) o e
 item:=by
  intro X hP hw hK hc i vy s U H E I hf st hg;subst hP hw hK;obtain⟨hd,hi⟩:=hg;obtain⟨lo,hz,M6,vs,es',XH,rel,hdat,hat⟩:=I.held hd;rw[hob] at hdat;cases hdat;obtain⟨f0,f1,f2,f3,f4,f5⟩:=hf it (by simp);have hl:=rel.len;obtain⟨⟨k,v⟩,hkv⟩:∃p,kvs[i]?=some p:=⟨kvs[i],by simp[hi]⟩
  obtain⟨u,hu,ru⟩:=rel.at hkv;rw[hl] at st;refine wpAny_pyNext_dict_item st hat hu fun key h' hk st' sb=>?_;have I1:Inv X vy U H {s with heap:=h' }:=I.turned (t':=s.toks) (fun b o hb e=>(sb.2 b hb).trans e) f0 f1 f3 f4 f5;obtain⟨o,e,c,dd⟩:=id st';exact⟨key,rfl,sy (s:={s with heap:=h' }) e c dd (by decide) ⟨kV k,H,I1,Ph hk,⟨rfl,k,v,hkv,rfl⟩,by rw[hl];exact st',fun b hb=>(hf b hb).1⟩⟩
 done:=by
  intro X hP hw hK hc i vy s U H E I hf st hg;subst hP hw hK;obtain⟨hd,hi⟩:=hg;obtain⟨lo,hz,M6,vs,es',XH,rel,hdat,hat⟩:=I.held hd;rw[hob] at hdat;cases hdat;obtain⟨f0,f1,f2,f3,f4,f5⟩:=hf it (by simp);have hl:=rel.len;rw[hl] at st;exact wpAny_pyNext_dict_end (I.ok.hd hc) st hat (List.getElem?_eq_none_iff.mpr (by omega)) fun h' eb=>⟨rfl,I.turned (t':=s.toks) (fun b o hb e=>eb b o hb e) f0 f1 f3 f4 f5⟩
 self:=fun _ _ _ _ _ st h=>wpAny_pyIter_keyiter st h
section
variable {X:Cx}{e:Expr}{te:TE}
noncomputable def a15 (te:TE):TI:=fun U H R=>te U H fun x H1=>∃d kvs,x=.ref d/\Rd H1 d (.dK kvs)/\∀ob H2,Frz d ob kvs H1 H2->R (Itk d ob kvs) H2
theorem P0 {tg:Expr}(he:PE X e te):PI X tg e (a15 te):=by
 intro vy s U H R I h;refine bA (he vy s U H _ I h) ?_;rintro v s1 ⟨x,H1,I1,r1,d,kvs,ex,rd,q⟩;subst ex;cases r1;obtain⟨ob,H2,fz,I2,hob⟩:=I1.frozen rd;obtain⟨lo,hz,M6,vs,es,ep,rel,hdat,hat⟩:=I2.held fz.1;have hl:=rel.len;refine wpAny_pyIter_dict lo hat ?_;exact⟨s1.heap.objs.size,[s1.heap.objs.size],_,_,H2,rfl,I2.kept (t':=s1.toks) fun b o e=>Heap.get?_push_of_some _ e,Hy d _ ob kvs es ep hdat,⟨_,Heap.get?_push_size _ rfl,rfl,by rw[hl];rfl⟩,fun b hb=>by
  obtain rfl:b=s1.heap.objs.size:=by simpa using hb
  exact I2.Cf (Nat.le_refl _) (I2.hok.fresh (Nat.le_refl _)),q ob H2 fz⟩
end
end L2
namespace L3
open PySem L2 Hw
noncomputable def MM:Key->T
 |.inl i=>.int i
 |.inr x=>.str x
def dq (S:aS)(n:Nat)(l:List (Key×T)):Prop:=S[n]?=some (.tu l)∨∃ob kvs,S[n]?=some (.wB ob kvs l)
theorem Pg {K:PySem.W.Frag}{Y:List Addr}{G:Hp}(k:Key):g9 K Y G (.t (MM k)) (kV k):=by cases k<;>exact aO
theorem qV {α β:Type}{F:α->β->Prop}:∀{l:List α}{m:List β},Paired F l m->∀{i:Nat}{p:α},l[i]?=some p->∃q,m[i]?=some q/\F p q
 |_,_,.nil,_,_,h=>by simp at h
 |_,_,.cons r t,0,p,h=>by cases h;exact⟨_,rfl,r⟩
 |_,_,.cons r t,i+1,p,h=>qV t (i:=i) h
theorem Et {K:PySem.W.Frag}{Y:List Addr}{S:aS}{H:Hp}{n:Nat}{a:Addr}{l:List (Key×T)}(R:R3 K Y S H)(ha:Y[n]?=some a)(h:dq S n l):∃kvs,Rd H a (.dK kvs)/\Uo K (res Y H) l kvs:=by
 rcases h with h | ⟨ob,kvs,h⟩
 .obtain⟨kvs,e1,e2⟩:=R.ok n a _ ha h;exact⟨kvs,.inl e1,e2⟩
 .obtain⟨e1,e2⟩:=R.ok n a _ ha h;exact⟨kvs,.inr ⟨ob,e1⟩,e2⟩
noncomputable def XS:oN:=fun a b S k=>∃n l key x,a=.ob n/\dq S n l/\IA b=some key/\iz l key=some x/\k (.t x) S
noncomputable def iKy (te:bU):I0:=fun Z S k=>te Z S fun d S1=>∃n l,d=.ob n/\dq S1 n l/\∀ob kvs,k (l.map fun p=>D.t (MM p.1)) (fun S=>S[n]?=some (.wB ob kvs l)) (S1.set n (.wB ob kvs l))
noncomputable def iVl (te:bU):I0:=fun Z S k=>te Z S fun d S1=>∃n l,d=.ob n/\dq S1 n l/\∀ob kvs,k (l.map fun p=>D.t p.2) (fun S=>S[n]?=some (.wB ob kvs l)) (S1.set n (.wB ob kvs l))
section
variable {X:Cx}{tg iter o i:Expr}{te to ti:bU}{pos BM cpos:Pos}
theorem Ga (hu:X.A.units+1<cLine)(ho:QE X o to)(hi:QE X i ti)(hs:autoParam (RW i) km):QE X (.Subscript o i pos) (xu XS to ti):=
 bH (Gi hu ho hi hs) (by rintro U H Q ⟨Y,S,Z,k,R,D,q,hk⟩;exact⟨Y,S,Z,_,R,D,q,(by rintro v H1 ⟨Y1,S1,d1,g1,R1,r1,q1⟩;exact⟨Y1,S1,Z,_,R1,D.gr g1,q1,(by
  rintro w H2 ⟨Y2,S2,d2,g2,R2,r2,n,l,key,x,h1,h2,h3,h4,q2⟩;subst h1;obtain⟨a,ha,e1⟩:=r1.gr g2;obtain⟨kvs,e2,e3⟩:=Et R2 ha h2;obtain⟨u,e4,e5⟩:=(qc e3 key).1 x h4;exact⟨a,u,e1,by rw[pY r2 h3,<- e4];exact .inl ⟨kvs,key,e2,rfl,rfl⟩,hk _ _ ⟨Y2,S2,.t x,g1.trans g2,R2,e5,q2⟩⟩)⟩)⟩)
theorem MV {K:PySem.W.Frag}{Y:List Addr}{H:Hp}{n:Nat}{a:Addr}{ob:Obj}{kvs:List (Key×V)}{l:List (Key×T)}(ha:Y[n]?=some a):Oz K (Itk a ob kvs) (l.map fun p=>D.t (MM p.1)) (fun S=>S[n]?=some (.wB ob kvs l)) Y H where
 go:=fun i Y1 S1 H1 g R hS hi=>by
  obtain⟨e1,e2⟩:=R.ok n a _ (g.at ha) hS;exact⟨e1,by rw[<- Paired.length e2];simpa using hi⟩
 C5:=fun i x Y1 S1 H1 H' d g R hS hd y=>by
  obtain⟨rfl,k,v,hkv,rfl⟩:=y;obtain⟨e1,e2⟩:=R.ok n a _ (g.at ha) hS;rw[List.getElem?_map] at hd;cases q:l[i]? with
  |none=>rw[q] at hd;cases hd
  |some p=>
   rw[q] at hd;cases hd;obtain⟨q',f1,f2,f3⟩:=qV e2 q;rw[hkv] at f1;cases f1;have f2:p.1=k:=f2;exact⟨Y1,.refl,R,by show g9 _ _ _ (.t (MM p.1)) _;rw[f2];exact Pg k⟩
 stop:=fun i Y1 S1 H1 g R hS hi _=>by
  obtain⟨e1,e2⟩:=R.ok n a _ (g.at ha) hS;exact⟨e1,by rw[<- Paired.length e2];simpa using hi⟩
theorem MT {K:PySem.W.Frag}{Y:List Addr}{H:Hp}{n:Nat}{a:Addr}{ob:Obj}{kvs:List (Key×V)}{l:List (Key×T)}(ha:Y[n]?=some a):Oz K (Itv a ob kvs) (l.map fun p=>D.t p.2) (fun S=>S[n]?=some (.wB ob kvs l)) Y H where
 go:=fun i Y1 S1 H1 g R hS hi=>by
  obtain⟨e1,e2⟩:=R.ok n a _ (g.at ha) hS;exact⟨e1,by rw[<- Paired.length e2];simpa using hi⟩
 C5:=fun i x Y1 S1 H1 H' d g R hS hd y=>by
  obtain⟨rfl,k,hkv⟩:=y;obtain⟨e1,e2⟩:=R.ok n a _ (g.at ha) hS;rw[List.getElem?_map] at hd;cases q:l[i]? with
  |none=>rw[q] at hd;cases hd
  |some p=>
   rw[q] at hd;cases hd;obtain⟨q',f1,f2,f3⟩:=qV e2 q;rw[hkv] at f1;cases f1;exact⟨Y1,.refl,R,f3⟩
 stop:=fun i Y1 S1 H1 g R hS hi _=>by
  obtain⟨e1,e2⟩:=R.ok n a _ (g.at ha) hS;exact⟨e1,by rw[<- Paired.length e2];simpa using hi⟩
theorem Nd {d:Addr}{ob:Obj}{kvs:List (Key×V)}{H H':Hp}(f:Frz d ob kvs H H'):H'=upd H d (.rq ob (.dK kvs)):=by
 funext b;unfold upd;by_cases e:b=d
 .subst e;rw[if_pos rfl];exact f.1
 .rw[if_neg e];exact f.2 b e
theorem a0w (he:QE X iter te):QI X tg iter (iKy te):=yg (P0 he) fun U H Q ⟨Y,S,Z,k,R,D,q,hk⟩=>⟨Y,S,Z,_,R,D,q,(by
 rintro v H1 ⟨Y1,S1,d,g1,R1,r1,n,l,e,hq,q1⟩;subst e;obtain⟨a,ha,e⟩:=r1;obtain⟨kvs,e1,e2⟩:=Et R1 ha hq;refine⟨a,kvs,e,e1,fun ob H2 f=>?_⟩;obtain⟨R4,g4⟩:=R1.put (o:=.rq ob (.dK kvs)) (u:=.wB ob kvs l) ha ⟨rfl,e2⟩;rw[Nd f];exact hk _ _ ⟨Y1,_,_,_,g1.trans g4,R4,MV ha,q1 ob kvs⟩)⟩
theorem a0v (ho:QE X o to)(Ap:autoParam (attributeBase o "values" X.env (eval o X.env)=eval o X.env) zi)(B1:autoParam ((BM.endLine==cpos.line)=true) zi):QI X tg (.Call (.Attribute o "values" BM) [] [] cpos) (iVl to):=
 yg (PZ (HP ho Ap B1)) fun U H Q ⟨Y,S,Z,k,R,D,q,hk⟩=>⟨Y,S,Z,_,R,D,q,(by
  rintro v H1 ⟨Y1,S1,d,g1,R1,r1,n,l,e,hq,q1⟩;subst e;obtain⟨a,ha,e⟩:=r1;obtain⟨kvs,e1,e2⟩:=Et R1 ha hq;refine⟨a,kvs,e,e1,fun p hp=>?_⟩;obtain⟨R2,g2,e3⟩:=R1.new (o:=AZ p a) hp;have ne:a≠p:=fun z=>by
   subst z;rcases e1 with e1 | ⟨ob,e1⟩<;>(rw[hp] at e1;cases e1)
  have e1':Rd (upd H1 p (AZ p a)) a (.dK kvs):=by
   rcases e1 with e1 | ⟨ob,e1⟩
   .exact .inl (by unfold upd;rw[if_neg ne];exact e1)
   .exact .inr ⟨ob,by unfold upd;rw[if_neg ne];exact e1⟩
  refine⟨p,a,kvs,rfl,by unfold upd;rw[if_pos rfl],e1',fun ob H2 f=>?_⟩;obtain⟨R4,g4⟩:=R2.put (o:=.rq ob (.dK kvs)) (u:=.wB ob kvs l) ha ⟨rfl,dN (fun _ _ z=>⟨z.1,z.2.le g2.le⟩) e2⟩;rw[Nd f];exact hk _ _ ⟨Y1,_,_,_,(g1.trans g2).trans g4,R4,MT ha,q1 ob kvs⟩)⟩
end
end L3
namespace Hw
open PySem L2 PySem.Builtin PySem.Builtin.Str
theorem NI (a b:Str):cp (a++b)=cp a++cp b:=by show(a.cps++b.cps).toList=_;simp[cp]
theorem Ar (c:Nat):∀(l:List Str)(x y:Str),cp (Str.join ⟨#[c]⟩ (x::y::l))=cp x++c::cp (Str.join ⟨#[c]⟩ (y::l)):=fun l x y=>by
 show cp (x++(⟨#[c]⟩:Str)++Str.join ⟨#[c]⟩ (y::l))=_;rw[NI,NI,List.append_assoc];rfl
theorem yq {c:Nat}:∀{a b r s:List Nat},c∉a->c∉b->a++c::r=b++c::s->a=b/\r=s
 |[],[],r,s,_,_,e=>by cases e;exact⟨rfl,rfl⟩
 |[],y::b,r,s,_,hb,e=>by cases e;exact(hb (List.mem_cons_self ..)).elim
 |x::a,[],r,s,ha,_,e=>by cases e;exact(ha (List.mem_cons_self ..)).elim
 |x::a,y::b,r,s,ha,hb,e=>by
  rw[List.cons_append,List.cons_append] at e;injection e with e1 e2
  obtain⟨f1,f2⟩:=yq (fun h=>ha (List.mem_cons_of_mem _ h)) (fun h=>hb (List.mem_cons_of_mem _ h)) e2;exact⟨by rw[e1,f1],f2⟩
theorem BV {c:Nat}:∀{ps ws:List Str},ps≠[]->ws≠[]->(∀p∈ps,c∉cp p)->(∀p∈ws,c∉cp p)->cp (Str.join ⟨#[c]⟩ ps)=cp (Str.join ⟨#[c]⟩ ws)->ps=ws
 |[],_,h,_,_,_,_=>(h rfl).elim
 |_::_,[],_,h,_,_,_=>(h rfl).elim
 |[p],[w],_,_,_,_,e=>by rw[eZ (a:=p) (b:=w) e]
 |[p],w::v::r,_,_,hp,_,e=>by
  rw[Ar] at e;exact(hp p (List.mem_cons_self ..) (by show c∈cp (Str.join ⟨#[c]⟩ [p]);rw[e];simp)).elim
 |p::q::r,[w],_,_,_,hw,e=>by
  rw[Ar] at e;exact(hw w (List.mem_cons_self ..) (by show c∈cp (Str.join ⟨#[c]⟩ [w]);rw[<- e];simp)).elim
 |p::q::r,w::v::s,_,_,hp,hw,e=>by
  rw[Ar,Ar] at e;obtain⟨f1,f2⟩:=yq (hp p (List.mem_cons_self ..)) (hw w (List.mem_cons_self ..)) e;rw[eZ f1,BV (by simp) (by simp) (fun z hz=>hp z (List.mem_cons_of_mem _ hz)) (fun z hz=>hw z (List.mem_cons_of_mem _ hz)) f2]
theorem A7 (x y:Str):Txt.split x y≠[]:=by
 unfold Txt.split;split
 .simp
 .split
  .simp
  .intro h;have:=congrArg List.length h;rw[PySem.length_partsBetween] at this;simp at this
theorem uV {c:Nat}{ws:List Str}(h0:ws≠[])(h:∀p∈ws,c∉cp p):Txt.split (Txt.join ⟨#[c]⟩ ws) ⟨#[c]⟩=ws:=by
 have e:Txt.join ⟨#[c]⟩ ws=Str.join ⟨#[c]⟩ ws:=StrLaws.glued_eq_join ..;rw[e];exact BV (A7 _ _) h0 (fun p hp=>StrLaws.split_free _ c p hp) h (congrArg cp (StrLaws.join_split (Str.join ⟨#[c]⟩ ws) ⟨#[c]⟩))
theorem ND (s:Str):∀(l:List Str)(x y:Str),cp (Str.join s (x::y::l))=cp x++(cp s++cp (Str.join s (y::l))):=fun l x y=>by
 show cp (x++s++Str.join s (y::l))=_;rw[NI,NI,List.append_assoc]
theorem j6 {x:Str}{c i:Nat}:StrLaws.At x ⟨#[c]⟩ x.length i↔(cp x)[i]?=some c:=by
 unfold StrLaws.At subAt;constructor
 .intro⟨h1,h2⟩;have h2:=eq_of_beq h2;have h3:(x.cps.extract i (i+1))[0]?=some c:=by rw[show x.cps.extract i (i+1)=#[c] from h2];rfl
  rw[Array.getElem?_extract] at h3;split at h3
  .simpa[cp] using h3
  .cases h3
 .intro h;have hl:i<(cp x).length:=(List.getElem?_eq_some_iff.mp h).1;have hl':i<x.cps.size:=by simpa[cp] using hl
  refine⟨by show i+1<=x.cps.size;omega,?_⟩;apply beq_iff_eq.mpr;apply Array.ext';show(x.cps.extract i (i+1)).toList=[c];rw[Array.toList_extract,List.extract_eq_take_drop,Nat.add_sub_cancel_left];show List.take 1 (List.drop i (cp x))=[c];rw[List.drop_eq_getElem_cons hl,(List.getElem?_eq_some_iff.mp h).2];simp
theorem HV {x:Str}{c:Nat}(h:c∉cp x):Txt.partition x ⟨#[c]⟩=(x,Str.empty,Str.empty):=by
 unfold Txt.partition;rcases StrLaws.occ_head x ⟨#[c]⟩ 1 (Nat.le_refl 1) with⟨h0,hn⟩ | ⟨i,r,h0,hi,hn⟩
 .rw[h0]
 .exact(h (List.mem_of_getElem? (j6.mp hi))).elim
theorem HU {a b:Str}{c:Nat}(h:c∉cp a):Txt.partition (a++⟨#[c]⟩++b) ⟨#[c]⟩=(a,⟨#[c]⟩,b):=by
 have e:cp (a++⟨#[c]⟩++b)=cp a++c::cp b:=by rw[NI,NI,List.append_assoc];rfl
 have hat:(cp (a++(⟨#[c]⟩:Str)++b))[(cp a).length]?=some c:=by rw[e,List.getElem?_append_right (Nat.le_refl _),Nat.sub_self];rfl
 unfold Txt.partition;rcases StrLaws.occ_head (a++⟨#[c]⟩++b) ⟨#[c]⟩ 1 (Nat.le_refl 1) with⟨h0,hn⟩ | ⟨i,r,h0,hi,hn⟩
 .exact(hn _ (j6.mpr hat)).elim
 .rw[h0];have h1:i=(cp a).length:=by
   have hi':=j6.mp hi;rcases Nat.lt_trichotomy i (cp a).length with l | l | l
   .rw[e,List.getElem?_append_left l] at hi';exact(h (List.mem_of_getElem? hi')).elim
   .exact l
   .exact(hn _ l (j6.mpr hat)).elim
  subst h1;have f1:strSub (a++⟨#[c]⟩++b) 0 (cp a).length=a:=eZ (by
   unfold cp;rw[StrLaws.strSub_toList];show List.take _ (List.drop 0 (cp (a++(⟨#[c]⟩:Str)++b)))=cp a;rw[e,List.drop_zero,Nat.sub_zero,List.take_left])
  have f2:strSub (a++⟨#[c]⟩++b) ((cp a).length+1) (a++(⟨#[c]⟩:Str)++b).length=b:=eZ (by
   unfold cp;rw[StrLaws.strSub_toList];show List.take _ (List.drop _ (cp (a++(⟨#[c]⟩:Str)++b)))=cp b;rw[bg,e,show cp a++c::cp b=(cp a++[c])++cp b by simp,List.drop_left' (by simp)];exact List.take_of_length_le (by simp;omega))
  show(strSub _ 0 _,_,strSub _ ((cp a).length+1) _)=_;rw[f1,f2]
theorem D7 {c:Nat}{x r:Str}{n:Nat}(e:cp x=List.replicate n c++cp r)(h:(cp r).head?≠some c):Txt.lstripChars x ⟨#[c]⟩=r:=by
 unfold Txt.lstripChars;rw[PyProof.Rows.stripBy_eq];have hg:∀k:Nat,(#[c]:Array Nat).contains k=(k==c):=fun k=>by simp;rfl
 have t:((cp x).takeWhile fun k=>(#[c]:Array Nat).contains k).length=n:=by
  rw[e];clear e
  induction n with
  |zero=>
   rw[List.replicate_zero,List.nil_append];cases q:cp r with
   |nil=>rfl
   |cons y l=>
    rw[q] at h;have:y≠c:=fun w=>h (by rw[w];rfl);rw[List.takeWhile_cons,hg,beq_false_of_ne this];rfl
  |succ n ih=>rw[List.replicate_succ,List.cons_append,List.takeWhile_cons,hg];simp only[beq_self_eq_true,if_true,List.length_cons];rw[ih]
 refine eZ ?_;unfold cp;rw[StrLaws.strSub_toList];show List.take _ (List.drop (((cp x).takeWhile fun k=>(#[c]:Array Nat).contains k).length) (cp x))=cp r;rw[t,e,List.drop_left' (by simp)];refine List.take_of_length_le ?_;show(cp r).length<=x.length - _;rw[bg,e];show _<=_ - ((cp x).takeWhile fun k=>(#[c]:Array Nat).contains k).length;rw[t];simp
theorem DJ {c:Nat}{x r:Str}{n:Nat}(e:cp x=cp r++List.replicate n c)(h:(cp r).getLast?≠some c):Txt.rstripChars x ⟨#[c]⟩=r:=by
 unfold Txt.rstripChars;rw[PyProof.Rows.stripBy_eq];have hg:∀k:Nat,(#[c]:Array Nat).contains k=(k==c):=fun k=>by simp;rfl
 have t:((cp x).reverse.takeWhile fun k=>(#[c]:Array Nat).contains k).length=n:=by
  rw[e,List.reverse_append,List.reverse_replicate];rw[List.getLast?_eq_head?_reverse] at h;clear e;generalize (cp r).reverse=z at h
  induction n with
  |zero=>
   rw[List.replicate_zero,List.nil_append];cases z with
   |nil=>rfl
   |cons y l=>
    have:y≠c:=fun w=>h (by rw[w];rfl);rw[List.takeWhile_cons,hg,beq_false_of_ne this];rfl
  |succ n ih=>rw[List.replicate_succ,List.cons_append,List.takeWhile_cons,hg];simp only[beq_self_eq_true,if_true,List.length_cons];rw[ih]
 refine eZ ?_;unfold cp;rw[StrLaws.strSub_toList];show List.take (x.length - ((List.drop 0 (cp x)).reverse.takeWhile fun k=>(#[c]:Array Nat).contains k).length - 0) (List.drop 0 (cp x))=cp r;rw[List.drop_zero,t,bg,e,Nat.sub_zero];rw[List.length_append,List.length_replicate,Nat.add_sub_cancel,List.take_left]
end Hw
namespace L3
open PySem L2 Hw
section
variable {G:aS->Prop}{g:sH}{tb:ku}{tt:oz}{te:bU}{δ0:Sl}
theorem Aj {E:wR}{Z:Sl}{S:aS}{AC:List D}(I:Nat->Sl->aS->Prop)(h0:I 0 Z S)
  (hs:∀i x Z S (N:KS),AC[i]?=some x->I i Z S->(∀Z' S',I (i+1) Z' S'->N Z' S')->G S/\g x Z S fun δ1 S1=>tb {E with nx:=N,ct:=N,bk:=E.nx } δ1 S1)
  (hd:∀Z S,I AC.length Z S->G S/\E.nx Z S):xC G g tb AC E Z S:=by
 have go:∀(n i:Nat)(Z:Sl)(S:aS),AC.length - i=n->i<=AC.length->I i Z S->xC G g tb (AC.drop i) E Z S:=by
  intro n
  induction n with
  |zero=>
   intro i Z S e hi h;have:i=AC.length:=by omega
   subst this;rw[List.drop_length];exact hd Z S h
  |succ n ih=>
   intro i Z S e hi h;have hlt:i<AC.length:=by omega
   rw[List.drop_eq_getElem_cons hlt];exact hs i AC[i] Z S _ (List.getElem?_eq_getElem hlt) h fun Z' S' h'=>ih (i+1) Z' S' (by omega) hlt h'
 have:=go _ 0 Z S rfl (Nat.zero_le _) h0;rwa[List.drop_zero] at this
def elem (g:sH)(tt:oz)(te:bU)(δ0:Sl)(x:D)(S:aS)(k:Option T->aS->Prop):Prop:=
 g x δ0 S fun δ1 S1=>tt δ1 S1 fun b S2=>if b=true then te δ1 S2 fun d S3=>∃y,d=.t y/\k (some y) S3 else k none S2
noncomputable def a2M (ys:List T):Option T->List T
 |some y=>ys++[y]
 |none=>ys
theorem NJ {k:List T->aS->Prop}{ys:List T}{S:aS}{AC:List D}(I:Nat->List T->aS->Prop)(h0:I 0 ys S)
  (hs:∀i x ys S (k':Option T->aS->Prop),AC[i]?=some x->I i ys S->(∀o S',I (i+1) (a2M ys o) S'->k' o S')->G S/\ys.length<sizeLine/\elem g tt te δ0 x S k')
  (hd:∀ys S,I AC.length ys S->G S/\k ys S):fR G g tt te δ0 AC S ys k:=by
 have go:∀(n i:Nat)(ys:List T)(S:aS),AC.length - i=n->i<=AC.length->I i ys S->fR G g tt te δ0 (AC.drop i) S ys k:=by
  intro n
  induction n with
  |zero=>
   intro i ys S e hi h;have:i=AC.length:=by omega
   subst this;rw[List.drop_length];exact hd ys S h
  |succ n ih=>
   intro i ys S e hi h;have hlt:i<AC.length:=by omega
   rw[List.drop_eq_getElem_cons hlt];obtain⟨h1,h2,h3⟩:=hs i AC[i] ys S (fun o S'=>match o with | some y=>ys.length<sizeLine/\fR G g tt te δ0 (AC.drop (i+1)) S' (ys++[y]) k | none=>fR G g tt te δ0 (AC.drop (i+1)) S' ys k) (List.getElem?_eq_getElem hlt) h fun o S' h'=>by
    cases o with
    |none=>exact ih (i+1) ys S' (by omega) hlt h'
    |some y=>exact⟨(hs i AC[i] ys S (fun _ _=>True) (List.getElem?_eq_getElem hlt) h fun _ _ _=>trivial).2.1,ih (i+1) (ys++[y]) S' (by omega) hlt h'⟩
   exact⟨h1,h3⟩
 have:=go _ 0 ys S rfl (Nat.zero_le _) h0;rwa[List.drop_zero] at this
end
abbrev Sm:=List (Str×Int)×Int
noncomputable def wt (l:List (Str×Int))(x:Str):Int:=((l.filter fun p=>decide (p.1=x)).map (·.2)).sum
noncomputable def norm (l:List (Str×Int)):List (Str×Int):=((FD (l.map (·.1))).map fun x=>(x,wt l x)).filter fun p=>decide (p.2≠0)
noncomputable def sumOf (l:List (Str×Int))(n:Int):Sm:=(norm l,n)
noncomputable def pT (p:Str×Int):T:=.tup [.str p.1,.int p.2]
theorem Dg (x:Str):wt [] x=0:=rfl
theorem fE (p:Str×Int)(l:List (Str×Int))(x:Str):wt (p::l) x=(if p.1=x then p.2 else 0)+wt l x:=by
 unfold wt;by_cases h:p.1=x
 .rw[List.filter_cons_of_pos (by simpa using h),List.map_cons,List.sum_cons,if_pos h]
 .rw[List.filter_cons_of_neg (by simpa using h),if_neg h];omega
theorem UK (l m:List (Str×Int))(x:Str):wt (l++m) x=wt l x+wt m x:=by
 induction l with
 |nil=>rw[Dg];simp
 |cons p r ih=>rw[List.cons_append,fE,fE,ih];omega
theorem yJ {l:List (Str×Int)}{x:Str}(h:x∉l.map (·.1)):wt l x=0:=by
 induction l with
 |nil=>rfl
 |cons p r ih=>
  rw[List.map_cons,List.mem_cons,not_or] at h;rw[fE,if_neg (fun e=>h.1 e.symm),ih h.2];rfl
structure wU (l:List (Str×Int))(d:List (Key×T)):Prop where
 val:∀x,iz d (.inr x)=if x∈l.map (·.1) then some (.int (wt l x)) else none
 keys:∃ss:List Str,d.map (·.1)=ss.map Sum.inr/\ss.Nodup/\∀x,x∈ss↔x∈l.map (·.1)
 len:d.length<=l.length
theorem Nt (d:List (Key×T))(a b:Key)(v:T):iz (dput d a v) b=if a=b then some v else iz d b:=by
 unfold dput;by_cases h:(d.any fun p=>decide (p.1=a))=true
 .rw[if_pos h]
  induction d with
  |nil=>simp at h
  |cons p r ih=>
   rw[List.map_cons];unfold iz at ih ⊢;by_cases e:p.1=a
   .rw[if_pos e];by_cases q:a=b
    .subst q;rw[if_pos rfl];simp[List.find?_cons,e]
    .rw[if_neg q];have ne:¬ p.1=b:=fun z=>q (e ▸ z);rw[List.find?_cons_of_neg (by simpa using ne),List.find?_cons_of_neg (by simpa using ne)];by_cases h2:(r.any fun p=>decide (p.1=a))=true
     .rw[ih h2,if_neg q]
     .have:r.map (fun p=>if p.1=a then(p.1,v) else p)=r:=by
       have hn:∀z∈r,¬ z.1=a:=fun z hz e=>h2 (List.any_eq_true.mpr ⟨z,hz,by simpa using e⟩);have:∀(r:List (Key×T)),(∀z∈r,¬ z.1=a)->r.map (fun p=>if p.1=a then(p.1,v) else p)=r:=by
        intro r
        induction r with
        |nil=>intro _;rfl
        |cons z s ih=>intro hz;rw[List.map_cons,if_neg (hz z List.mem_cons_self),ih fun y hy=>hz y (List.mem_cons_of_mem _ hy)]
       exact this r hn
      rw[this]
   .rw[if_neg e];have h2:(r.any fun p=>decide (p.1=a))=true:=by
     rw[List.any_cons,decide_eq_false e,Bool.false_or] at h;exact h
    by_cases q:p.1=b
    .have:¬ a=b:=fun z=>e (q.trans z.symm);rw[if_neg this,List.find?_cons_of_pos (by simpa using q),List.find?_cons_of_pos (by simpa using q)]
    .rw[List.find?_cons_of_neg (by simpa using q),List.find?_cons_of_neg (by simpa using q)];exact ih h2
 .rw[if_neg h];unfold iz;have hn:∀z∈d,¬ z.1=a:=fun z hz e=>h (List.any_eq_true.mpr ⟨z,hz,by simpa using e⟩);by_cases q:a=b
  .subst q;rw[if_pos rfl,List.find?_append];have:d.find? (fun p=>decide (p.1=a))=none:=List.find?_eq_none.mpr fun z hz=>by simpa using hn z hz
   rw[this];simp
  .rw[if_neg q,List.find?_append];have:([(a,v)]:List (Key×T)).find? (fun p=>decide (p.1=b))=none:=by simp[List.find?_cons,q]
   rw[this];simp
theorem IM (d:List (Key×T))(a:Key)(v:T):(a∈d.map (·.1)->(dput d a v).map (·.1)=d.map (·.1))/\(a∉d.map (·.1)->(dput d a v).map (·.1)=d.map (·.1)++[a]):=by
 unfold dput;by_cases h:(d.any fun p=>decide (p.1=a))=true
 .obtain⟨z,hz,e⟩:=List.any_eq_true.mp h;have hm:a∈d.map (·.1):=List.mem_map.mpr ⟨z,hz,by simpa using e⟩;refine⟨fun _=>?_,fun z=>absurd hm z⟩;rw[if_pos h,List.map_map];refine List.map_congr_left fun p _=>?_;show(if p.1=a then(p.1,v) else p).1=p.1;split<;>rfl
 .have hm:a∉d.map (·.1):=fun hm=>by
   obtain⟨z,hz,e⟩:=List.mem_map.mp hm;exact h (List.any_eq_true.mpr ⟨z,hz,by simpa using e⟩)
  refine⟨fun z=>absurd z hm,fun _=>?_⟩;rw[if_neg h,List.map_append];rfl
theorem wU.nil:wU [] []:=⟨fun x=>by simp[iz],⟨[],rfl,.nil,fun x=>by simp⟩,Nat.le_refl _⟩
theorem wU.snoc {l:List (Str×Int)}{d:List (Key×T)}(h:wU l d)(x:Str)(w:Int){i:Int}(hi:i=wt l x+w):wU (l++[(x,w)]) (dput d (.inr x) (.int i)):=by
 obtain⟨ss,h1,h2,h3⟩:=h.keys;refine⟨fun y=>?_,?_,?_⟩
 .rw[Nt,h.val y,List.map_append,UK,fE,Dg];by_cases e:x=y
  .subst e;rw[if_pos rfl,if_pos (by simp),if_pos rfl,hi];congr 3;omega
  .have:¬(Sum.inr x:Key)=Sum.inr y:=fun z=>e (Sum.inr.inj z);rw[if_neg this,if_neg e];by_cases m:y∈l.map (·.1)
   .rw[if_pos m,if_pos (List.mem_append_left _ m)];congr 3;omega
   .rw[if_neg m,if_neg];intro z;rcases List.mem_append.mp z with z | z
    .exact m z
    .simp at z;exact e z.symm
 .obtain⟨k1,k2⟩:=IM d (.inr x) (.int i);rw[h1] at k1 k2;by_cases m:(Sum.inr x:Key)∈ss.map Sum.inr
  .have mx:x∈ss:=by
    obtain⟨y,hy,e⟩:=List.mem_map.mp m;rw[<- Sum.inr.inj e];exact hy
   refine⟨ss,k1 m,h2,fun y=>?_⟩;rw[h3 y,List.map_append,List.mem_append];constructor
   .exact .inl
   .rintro(z | z)
    .exact z
    .simp at z;subst z;exact(h3 y).mp mx
  .have mx:x∉ss:=fun z=>m (List.mem_map.mpr ⟨x,z,rfl⟩);refine⟨ss++[x],by rw[k2 m];simp,?_,fun y=>?_⟩
   .rw[List.nodup_append];refine⟨h2,by simp,fun a ha b hb=>?_⟩;rw[List.mem_singleton.mp hb];exact fun z=>mx (z ▸ ha)
   .rw[List.map_append,List.mem_append,List.mem_append,h3 y];simp
 .have:(dput d (.inr x) (.int i)).length<=d.length+1:=by
   unfold dput;split
   .simp
   .simp
  have:=h.len;simp;omega
theorem sz (n:Nat)(h:autoParam (n<=1000) zn):n<=sizeLine:=Nat.le_trans h (by rw[sizeLine_eq];decide)
theorem nI {n:Nat}(h:n<=1000):n<=sizeLine:=sz n h
theorem Oi {n:Nat}(h:n<=1000):n<sizeLine:=HD h
theorem aI {S:aS}{o:O}:(S++[o])[S.length]?=some o:=by simp
theorem cF {S:aS}{o o':O}:(S++[o]).set S.length o'=S++[o']:=by simp
theorem made {S:aS}{C:Addr}{ns:List Str}{l:List T}{o:O}{k:KD}(h:k (.t (.ins C ns l)) S):Tq C S k .cR ((S++[o]).set S.length (.ins C ns (l.map .t))):=⟨rfl,ns,l,cF,h⟩
theorem QN (l:List (Str×Int)):(FD (l.map (·.1))).filterMap (fun x=>if wt l x≠0 then some (pT (x,wt l x)) else none)=(norm l).map pT:=by
 unfold norm;generalize FD (l.map (·.1))=r
 induction r with
 |nil=>rfl
 |cons a r ih=>
  rw[List.map_cons];by_cases h:wt l a≠0
  .rw[List.filterMap_cons_some (f:=fun x=>if wt l x≠0 then some (pT (x,wt l x)) else none) (if_pos h),ih,List.filter_cons_of_pos (by simpa using h)];rfl
  .rw[List.filterMap_cons_none (f:=fun x=>if wt l x≠0 then some (pT (x,wt l x)) else none) (if_neg h),ih,List.filter_cons_of_neg (by simpa using h)]
theorem My (l:List (Str×Int)):(norm l).length<=l.length:=by
 unfold norm;have h1:=List.length_filter_le (fun p:Str×Int=>decide (p.2≠0)) ((FD (l.map (·.1))).map fun x=>(x,wt l x));have h2:=yW (l.map (·.1));rw[List.length_map] at h1 h2;omega
theorem M4 {a b:Int}:decide (V.int a=V.int b)=decide (a=b):=by
 rw[decide_eq_decide];exact⟨fun h=>V.int.inj h,fun h=>by rw[h]⟩
theorem qM {a b:Str}:decide (V.str a=V.str b)=decide (a=b):=by
 rw[decide_eq_decide];exact⟨fun h=>V.str.inj h,fun h=>by rw[h]⟩
section
variable {S loc:aS}{d:D}{l:List T}
theorem a1j (h:lq S d=some l):lq (S++loc) d=some l:=by
 cases d with
 |t x=>cases x<;>exact h
 |ob n=>
  have h:(match S[n]? with | some (.lst l)=>some l | _=>none)=some l:=h;show(match(S++loc)[n]? with | some (.lst l)=>some l | _=>none)=some l;cases q:S[n]? with
  |none=>rw[q] at h;cases h
  |some o=>
   rw[List.getElem?_append_left (List.getElem?_eq_some_iff.mp q).1,q];rw[q] at h;exact h
theorem oO (h:xq S d=some l):d=.tup l∨lq S d=some l:=by
 cases d with
 |ob n=>exact .inr h
 |t x=>
  cases x with
  |tup m=>left;have h:some m=some l:=h;injection h with h;rw[h]
  |_=>exact .inr h
theorem Se (h:xq S d=some l):xq (S++loc) d=some l:=by
 rcases oO h with rfl | h
 .rfl
 .cases d with
  |ob n=>exact a1j h
  |t x=>
   cases x with
   |tup m=>cases h
   |_=>exact h
theorem rP (h:xq S d=some l):sq S d=some l:=by
 rcases oO h with rfl | h
 .rfl
 .cases d with
  |ob n=>exact h
  |t x=>
   cases x with
   |tup m=>cases h
   |Bb m=>cases h
   |_=>exact h
theorem N1 {n:Nat}{o:O}(h:S[n]?=some o):(S++loc)[n]?=some o:=by rw[List.getElem?_append_left (List.getElem?_eq_some_iff.mp h).1];exact h
theorem TN {k:List D->(aS->Prop)->aS->Prop}(h:xq S d=some l)(hk:∀G:aS->Prop,(∀loc,G (S++loc))->k (l.map .t) G (S++loc)):MY d (S++loc) k:=by
 rcases oO h with rfl | h
 .exact .inl ⟨l,.inl rfl,hk _ fun _=>trivial⟩
 .cases d with
  |t x=>
   cases x with
   |lst m=>
    have h:some m=some l:=h;injection h with h
    subst h;exact .inl ⟨m,.inr rfl,hk _ fun _=>trivial⟩
   |_=>cases h
  |ob n=>
   have h':(match S[n]? with | some (.lst l)=>some l | _=>none)=some l:=h;cases q:S[n]? with
   |none=>rw[q] at h';cases h'
   |some o=>
    rw[q] at h';cases o with
    |lst m=>
     have h':some m=some l:=h';injection h' with h'
     subst h';exact .inr ⟨n,m,rfl,N1 q,hk _ fun loc=>N1 q⟩
    |_=>cases h'
theorem MX {k:List D->(aS->Prop)->aS->Prop}(h:xq S d=some l)(hk:∀G:aS->Prop,(∀loc,G (S++loc))->k (l.map .t) G S):MY d S k:=by
 have:=TN (loc:=[]) (k:=k) h (by simpa using hk);simpa using this
theorem a1Z {k:List D->(aS->Prop)->aS->Prop}(hk:k (l.map .t) (fun _=>True) S):MY (.tup l) S k:=.inl ⟨l,.inl rfl,hk⟩
theorem vZ {k:List D->(aS->Prop)->aS->Prop}(hk:k (l.map .t) (fun _=>True) S):MY (.lst l) S k:=.inl ⟨l,.inr rfl,hk⟩
end
theorem Ey {α:Type}{G:aS->Prop}{g:sH}{tt:oz}{te:bU}{δ0:Sl}{k:List T->aS->Prop}{S:aS}{l:List α}(c:α->T)(f:α->Option T)(hG:G S)(hl:l.length<=sizeLine)(hs:∀x∈l,∀k':Option T->aS->Prop,k' (f x) S->elem g tt te δ0 (.t (c x)) S k')
  (hk:k (l.filterMap f) S):fR G g tt te δ0 ((l.map c).map .t) S [] k:=by
 have go:∀(r:List α)(ys:List T),ys.length+r.length<=sizeLine->(∀x∈r,∀k':Option T->aS->Prop,k' (f x) S->elem g tt te δ0 (.t (c x)) S k')->k (ys++r.filterMap f) S->fR G g tt te δ0 ((r.map c).map .t) S ys k:=by
  intro r
  induction r with
  |nil=>intro ys _ _ q;rw[List.filterMap_nil,List.append_nil] at q;exact⟨hG,q⟩
  |cons a r ih=>
   intro ys hz hs q;rw[List.length_cons] at hz;refine⟨hG,hs a List.mem_cons_self (fun o S'=>match o with | some y=>ys.length<sizeLine/\fR G g tt te δ0 ((r.map c).map .t) S' (ys++[y]) k | none=>fR G g tt te δ0 ((r.map c).map .t) S' ys k) ?_⟩;cases e:f a with
   |none=>exact ih ys (by omega) (fun x hx=>hs x (List.mem_cons_of_mem _ hx)) (by rw[List.filterMap_cons_none e] at q;exact q)
   |some y=>exact⟨by omega,ih (ys++[y]) (by simp;omega) (fun x hx=>hs x (List.mem_cons_of_mem _ hx)) (by rw[List.filterMap_cons_some e] at q;simpa using q)⟩
 exact go l [] (by simpa using hl) hs (by simpa using hk)
theorem Ro {α β:Type}(f:α->β)(l:List α):l.filterMap (fun x=>some (f x))=l.map f:=by
 induction l with
 |nil=>rfl
 |cons a r ih=>rw[List.filterMap_cons_some (f:=fun x=>some (f x)) rfl,ih];rfl
theorem jY {α:Type}{G:aS->Prop}{g:sH}{tt:oz}{te:bU}{δ0:Sl}{k:List T->aS->Prop}{S:aS}{l:List α}(c f:α->T)(hG:G S)(hl:l.length<=sizeLine)(hs:∀x∈l,∀k':Option T->aS->Prop,k' (some (f x)) S->elem g tt te δ0 (.t (c x)) S k')
  (hk:k (l.map f) S):fR G g tt te δ0 ((l.map c).map .t) S [] k:=Ey c (fun x=>some (f x)) hG hl hs (by rw[Ro];exact hk)
theorem Nf {α:Type}{G:aS->Prop}{g:sH}{tb:ku}{E:wR}{Z:Sl}{S:aS}{l:List α}(c:α->T)(I:List α->Sl->aS->Prop)(h0:I [] Z S)
  (hs:∀pre x post Z S (N:KS),l=pre++x::post->I pre Z S->(∀Z' S',I (pre++[x]) Z' S'->N Z' S')->G S/\g (.t (c x)) Z S fun δ1 S1=>tb {E with nx:=N,ct:=N,bk:=E.nx } δ1 S1)
  (hd:∀Z S,I l Z S->G S/\E.nx Z S):xC G g tb ((l.map c).map .t) E Z S:=by
 have go:∀(r pre:List α)(Z:Sl)(S:aS),l=pre++r->I pre Z S->xC G g tb ((r.map c).map .t) E Z S:=by
  intro r
  induction r with
  |nil=>intro pre Z S e h;rw[List.append_nil] at e;subst e;exact hd Z S h
  |cons a r ih=>intro pre Z S e h;exact hs pre a r Z S _ e h fun Z' S' h'=>ih (pre++[a]) Z' S' (by rw[e];simp) h'
 exact go l [] Z S rfl h0
theorem ln1 {l:List T}(h:l.length=1):∃a,l=[a]:=by
 match l,h with
 |[a],_=>exact⟨a,rfl⟩
theorem ln3 {l:List T}(h:l.length=3):∃a b c,l=[a,b,c]:=by
 match l,h with
 |[a,b,c],_=>exact⟨a,b,c,rfl⟩
theorem ln4 {l:List T}(h:l.length=4):∃a b c d,l=[a,b,c,d]:=by
 match l,h with
 |[a,b,c,d],_=>exact⟨a,b,c,d,rfl⟩
theorem eT {S:aS}{i:Nat}{o:O}(h:i<S.length):(S.set i o)[i]?=some o:=List.getElem?_set_self h
theorem z5 {S loc:aS}{j:Nat}{l:List T}(h:loc[j]?=some (.lst l)):lq (S++loc) (.ob (S.length+j))=some l:=by
 show(match(S++loc)[S.length+j]? with | some (.lst l)=>some l | _=>none)=some l;rw[mj,h]
noncomputable def CV (C:Addr)(ns:List Str):ef:=fun ds S k=>∃(n:Nat)(l:List T),ds=.ob n::l.map .t/\l.length=ns.length/\S[n]?=some (.ins C [] [])/\k .cR (S.set n (.ins C ns (l.map .t)))
noncomputable def uY (K:PySem.W.Frag):ef:=fun ds S k=>∃(n:Nat)(x:T)(C:Addr),ds=[.ob n,.t x]/\S[n]?=some (.ins C [] [])/\aN K C "at"/\k .cR (S.set n (.ins C ["at"] ([x].map .t)))
theorem set_same {S:aS}{f:Nat}{o:O}(h:S[f]?=some o):S.set f o=S:=by
 obtain⟨h1,h2⟩:=List.getElem?_eq_some_iff.mp h;rw[<- h2];exact List.set_getElem_self h1
theorem iQ {S S':aS}{d:D}{k:KD}(h:k d S'):closes S.length d S' k:=.inr (.inr (.inr h))
theorem aG {S:aS}{b:Nat}{C:Addr}{ns:List Str}{l:List D}(h:S[b]?=some (.ins C ns l)):iq S (.ob b)=some (C,ns,l):=by
 show(match S[b]? with | some (.ins C ns l)=>some (C,ns,l) | _=>none)=_;rw[h]
theorem KN {S:aS}{b:Nat}{l:List T}(h:S[b]?=some (.lst l)):sq S (.ob b)=some l:=by
 unfold sq;show(match S[b]? with | some (.lst l)=>some l | _=>none)=_;rw[h]
theorem gW {S:aS}{b:Nat}{l:List T}(h:S[b]?=some (.lst l)):lq S (.ob b)=some l:=by
 show(match S[b]? with | some (.lst l)=>some l | _=>none)=_;rw[h]
theorem jC {S:aS}{i:Nat}{C:Addr}{ns ns':List Str}{l l':List D}(h1:S[i]?=some (.ins C ns l)){d:D}{m:List T}(h:xq S d=some m):xq (S.set i (.ins C ns' l')) d=some m:=by
 rcases oO h with rfl | h
 .rfl
 .have key:lq (S.set i (.ins C ns' l')) d=some m:=by
   unfold lq at h ⊢;split at h
   .exact h
   .rename_i n hq;have hn:n≠i:=fun e=>by subst e;rw[h1] at h;cases h
    show(match(S.set i (O.ins C ns' l'))[n]? with | some (.lst l)=>some l | _=>none)=some m;rw[List.getElem?_set_ne (Ne.symm hn)];exact h
   .cases h
  unfold xq;split
  .unfold lq at key;cases key
  .exact key
theorem ieq {a b:Int}(h:a=b):xor false (decide (V.int a=V.int b))=true:=by rw[M4,decide_eq_true h];rfl
theorem seq {a b:Str}(h:a=b):xor false (decide (V.str a=V.str b))=true:=by rw[qM,decide_eq_true h];rfl
theorem Ba {a b:Str}(h:a≠b):xor false (decide (V.str a=V.str b))=false:=by rw[qM,decide_eq_false h];rfl
theorem HJ {a b:Str}(h:autoParam (a≠b) js):D.bl (xor false (decide (V.str a=V.str b)))=D.bl false:=congrArg D.bl (Ba h)
theorem Tf {a b:Str}(h:autoParam (a=b) zi):D.bl (xor false (decide (V.str a=V.str b)))=D.bl true:=congrArg D.bl (seq h)
theorem qT2 {a b:Int}(h:a=b:=by omega):D.bl (xor false (decide (V.int a=V.int b)))=D.bl true:=congrArg D.bl (ieq h)
noncomputable def ZX:ef:=fun _ _ _=>False
theorem cK {S loc:aS}{L q:Nat}(h:S.length=L):(S++loc)[L+q]?=loc[q]?:=by subst h;exact mj
theorem X7 {S:aS}{j:Nat}{l:List T}(c:Cl S):∀o∈S.set j (.lst l),Cu S.length o:=fun o ho=>by
 rcases List.mem_or_eq_of_mem_set ho with h | rfl
 .exact c o h
 .trivial
noncomputable def qd (S:aS)(d:Nat)(c m:Int):aS:=S.set d (.lst [.int c,.int m])
def Dq (S:aS)(d:Nat):Prop:=∃c m:Int,S[d]?=some (.lst [.int c,.int m])
section
variable {S loc:aS}{d:Nat}{a b c m:Int}
theorem Dq.lt (h:Dq S d):d<S.length:=by obtain⟨_,_,e⟩:=h;exact(List.getElem?_eq_some_iff.mp e).1
theorem XQ (h:d<S.length):(qd S d c m)[d]?=some (.lst [.int c,.int m]):=List.getElem?_set_self h
theorem Dq.qd (h:Dq S d):Dq (qd S d c m) d:=⟨c,m,XQ h.lt⟩
theorem Rv:L3.qd (L3.qd S d a b) d c m=L3.qd S d c m:=List.set_set ..
theorem eU:(qd S d c m).length=S.length:=List.length_set
theorem GS (h:d<S.length):qd (S++loc) d c m=qd S d c m++loc:=List.set_append_left _ _ h
theorem Dq.up (h:Dq S d):Dq (S++loc) d:=let⟨c,m,e⟩:=h;⟨c,m,N1 e⟩
theorem X8 (hc:Cl S):∀o∈qd S d c m,Cu S.length o:=X7 hc
theorem X6 {n:Nat}{g:sH}{tt:oz}{te:bU}{δ0:Sl}{k:List T->aS->Prop}(hd:Dq S d)(P:T->Prop)(hn:n<=1000)
  (hs:∀(i:Nat) c m (k':Option T->aS->Prop),(∀y c' m',P y->k' (some y) (qd S d c' m'))->elem g tt te δ0 (.int i) (qd S d c m) k')
  (hk:∀ys c m,ys.length=n->(∀y∈ys,P y)->k ys (qd S d c m)):fR (fun _=>True) g tt te δ0 ((List.range n).map fun(i:Nat)=>D.int i) (qd S d a b) [] k:=by
 refine NJ (fun i ys S'=>ys.length=i/\(∀y∈ys,P y)/\∃c m,S'=L3.qd S d c m) ⟨rfl,fun _ h=>absurd h List.not_mem_nil,a,b,rfl⟩ ?_ ?_
 .rintro i x ys S' k' hx ⟨hl,hp,c,m,rfl⟩ hk';rw[List.getElem?_map] at hx;have hi:i<n:=by
   rcases Nat.lt_or_ge i n with h | h
   .exact h
   .rw[List.getElem?_eq_none (by rw[List.length_range];exact h)] at hx;cases hx
  rw[List.getElem?_range hi] at hx;cases hx;refine⟨trivial,Oi (by omega),hs i c m k' fun y c' m' hy=>hk' _ _ ⟨by simp[a2M,hl],fun z hz=>?_,c',m',rfl⟩⟩;rcases List.mem_append.mp (show z∈ys++[y] from hz) with h | h
  .exact hp z h
  .rw[List.mem_singleton.mp h];exact hy
 .rintro ys S' ⟨hl,hp,c,m,rfl⟩;rw[List.length_map,List.length_range] at hl;exact⟨trivial,hk ys c m hl hp⟩
end
noncomputable def lsS (l:List Str):T:=.lst (l.map T.str)
noncomputable def SH:ef:=fun ds S k=>∃c j:Int,ds=[.int c,.int j]/\∀r:Int,0<=r->r<2147483399->k (.int r) S
noncomputable def Lc:ef:=fun ds S k=>∃(l:List Int)(j:Nat),ds=[.t (.Bb (l.map T.int)),.int j]/\∀r:Int,k (.int r) S
noncomputable def ZW:ef:=fun ds S k=>∃(d:Nat)(n:Int),ds=[.ob d,.int n]/\Dq S d/\0<n/\∀(r:Nat) c m,(r:Int)<n->k (.int r) (qd S d c m)
theorem ex_map {α β:Type}{f:α->β}{P:α->Prop}:∀{ys:List β},(∀y∈ys,∃x,y=f x/\P x)->∃xs:List α,ys=xs.map f/\xs.length=ys.length/\∀x∈xs,P x
 |[],_=>⟨[],rfl,rfl,fun _ h=>absurd h List.not_mem_nil⟩
 |y::r,h=>by
  obtain⟨x,e,p⟩:=h y List.mem_cons_self;obtain⟨xs,e1,e2,e3⟩:=ex_map (ys:=r) fun z hz=>h z (List.mem_cons_of_mem _ hz);exact⟨x::xs,by rw[e,e1];rfl,by rw[List.length_cons,List.length_cons,e2],fun z hz=>by
   rcases List.mem_cons.mp hz with rfl | hz
   .exact p
   .exact e3 z hz⟩
section
variable {S:aS}{x:D}{l:List T}{k:KD}
theorem TL {i:Int}{y:T}(h:lq S x=some l)(e:oM l i=some y)(hk:k (.t y) S):ix3 x (.int i) S k:=by
 cases x with
 |ob j=>
  have h:(match S[j]? with | some (.lst l)=>some l | _=>none)=some l:=h;exact⟨l,y,h,e,hk⟩
 |t x=>
  cases x with
  |lst m=>exact⟨l,y,h,e,hk⟩
  |_=>cases h
end
theorem Ak:∀l:List Str,sZ (l.map T.str)=some (l.map V.str)
 |[]=>rfl
 |a::r=>by
  show(match flT (T.str a),sZ (r.map T.str) with | some v,some vs=>some (v::vs) | _,_=>none)=_;rw[Ak r];rfl
theorem a4B {l:List T}(h:l≠[]):HT.fD l.length 0 (some 1)=1:=by
 have:=HT.jN l.length 0 1;have e:HT.fD l.length 0 (some 1)=min 1 l.length:=this;rw[e];have:=List.length_pos_iff.mpr h;omega
theorem lE {x:T}{l:List T}:mG (x::l) (some 1) none=l:=by
 unfold mG;rw[a4B (by simp),HT.vj];simp
theorem qm {α:Type}{x:α}{l:List α}:oM (x::l) 0=some x:=aY (j:=0) rfl
theorem cj {P:Program}{w:World}{K:PySem.W.Frag}{mg:Str->Option Value}{base:Heap}{x qual:Str}{st:Stmt}{f:Addr}{fd:FuncData}{N ps:List Str}{k:Nat}{sp:ef}(F:dg K x qual st f fd)(S:au N ps (ai st))
  (hb:∀(AT:Value)(A:Around)(outer:List Env)(s:Shared)(H:Hp)(E:XK),bV k (A.deeper (PyProof.Rows.envOfC qual (ai st) s.heap.objs.size f AT))->
   ∃t,yE (Aq c5 P w K mg base N qual (ai st) f AT A outer s H E).YE (ao st) t/\∀ds S kk,Cl S->(∀d∈ds,Yb S.length d)->sp ds S kk->t (endsF S kk) (kI N ds) S)
  (len:∀ds S k,sp ds S k->ds.length=ps.length:=by intro ds S k h;repeat (first | (obtain⟨rfl,_⟩:=h;rfl) | obtain⟨_,h⟩:=h)):aL P w K mg base c5 (k+1) f fd ps (bR K sp):=IP F S len hb
section
variable {X:Cx}{e v1 v2:Expr}{es:List Expr}{te:bU}{t:TJ3}{pos:Pos}{c:Str}{j:Nat}
end
noncomputable def a2N:I8
 |[.t (.v (.int i))],S,k=>k (.int (n5 i)) S
 |_,_,_=>False
theorem a2H {X:Cx}:Call3 X (.builtin "abs") a2N:=by
 refine g8 NR ?_;rintro vs H Q ⟨Y,S,ds,k,R,rd,q,hk⟩;unfold a2N at q;split at q
 .obtain⟨v,rfl,rv⟩:=rd.one;rw[aE rv];exact⟨_,rfl,fin R hk aO q⟩
 .exact q.elim
noncomputable def a4l (c:oz)(tb:ku):ku:=fun E Z S=>∃W:Nat->Sl->aS->Prop,(∃m,W m Z S)/\∀m Z S,W m Z S->
 c Z S fun b S1=>if b=true then ∃N:KS,(∀Z' S',N Z' S'->∃m',m' < m/\W m' Z' S')/\tb {E with nx:=N,ct:=N,bk:=E.nx } Z S1 else E.nx Z S1
section
variable {X:Cx}{c o i e:Expr}{body:List Stmt}{tc:oz}{tb:ku}{to ti te:bU}{pos:Pos}
theorem jc (hp:PassesOwn (model X.prog X.w) X.A X.env X.xe)(hc:QT X c tc)(hb:yE X body tb):QS X (.While c body [] pos) (a4l tc tb):=
 gU (LG hp hc hb) fun D U H ⟨Y,S,Z,E,R,RS,⟨W,⟨m0,w0⟩,q⟩,eu⟩=>by
  refine⟨fun m U' H'=>∃Y' S' Z',Gr Y H Y' H'/\R3 X.K Y' S' H'/\qG X.K Y' (res Y' H') Z' U'/\W m Z' S',⟨m0,Y,S,Z,.refl,R,RS,w0⟩,?_⟩;rintro m σ1 H1 ⟨Y1,S1,δ1,g1,R1,RV,w1⟩;refine⟨Y1,S1,δ1,_,R1,RV,q m δ1 S1 w1,fun b H2 ⟨Y2,S2,g2,R2,q2⟩=>?_⟩;cases b with
  |true=>
   obtain⟨N,hN,q2⟩:=q2;have gg:=g1.trans g2;have fw:∀U' H',Hr X.K Y2 H2 N U' H'->Hr X.K Y2 H2 N U' H':=fun _ _ z=>z;exact⟨Hr X.K Y2 H2 N,fun σ3 H3 ⟨ρ3,S3,δ3,g3,sI,YS,n3⟩=>let⟨m',hm,w3⟩:=hN δ3 S3 n3;⟨m',hm,ρ3,S3,δ3,gg.trans g3,sI,YS,w3⟩,
    Y2,S2,δ1,_,R2,RV.gr g2,q2,⟨fw,fun v H' u=>eu.rt v H' (u.gr gg),fun U' H' u=>eu.nx U' H' (u.gr gg),fw⟩⟩
  |false=>exact eu.nx _ _ ⟨Y2,S2,δ1,g1.trans g2,R2,RV.gr g2,q2⟩
noncomputable def a2d (to ti:bU):sH:=fun d Z S k=>to Z S fun o S1=>ti Z S1 fun i S2=>∃(n j:Nat)(l:List T)(x:T),o=.ob n/\i=.int j/\d=.t x/\S2[n]?=some (.lst l)/\j<l.length/\k Z (S2.set n (.lst (l.set j x)))
theorem VN (ho:QE X o to)(hi:QE X i ti)
  (ha:autoParam (∀v,assign (.Subscript o i pos) X.env v=(do
   let ov <- holding [v] (eval o X.env)
   let iv <- holding [v,ov] (eval i X.env)
   standAt pos
   holding [v,ov,iv] (setItem ov iv v)
   release [v,ov,iv] [])) jp):QG X (.Subscript o i pos) (a2d to ti):=
 Bv (We ho hi set_list ha) fun v U H Q ⟨Y,S,Z,d,k,R,RS,rd,q,hk⟩=>⟨Y,S,Z,_,R,RS,q,fun v1 H1 ⟨Y1,S1,d1,g1,R1,r1,q1⟩=>⟨Y1,S1,Z,_,R1,RS.gr g1,q1,(by
  rintro v2 H2 ⟨Y2,S2,d2,g2,R2,r2,n,j,l,x,h1,h2,h3,h4,h5,q2⟩;subst h1 h2 h3;obtain⟨p,hp,e1⟩:=r1.gr g2;obtain⟨vs,e2,e3⟩:=R2.ok n p _ hp h4;have gg:=g1.trans g2;have key:aW X.K (res Y2 H2) (l.set j x) (vs.set j v):=aW.put (rd.gr gg) e3;obtain⟨R4,g4⟩:=R2.put (o:=.lst (vs.set j v)) (u:=.lst (l.set j x)) hp ⟨_,rfl,key⟩;refine⟨p,vs,j,j,e1,aE r2,e2,?_,hk _ _ ⟨Y2,_,Z,gg.trans g4,R4,(RS.gr gg).gr g4,q2⟩⟩;unfold Oq;rw[if_pos (by omega),if_pos (by rw[<- e3.len];omega)];simp)⟩⟩
end
structure Ad where
 (iY bf cy bE dY gO i6 RO Ym iZ fN Yn a2I bL bB bu cX cO aX az bP nZ nY iG iE iC:Addr)
inductive xj where
 |cmp (a:Sm) (s:Str) (b:Sm) | neg (c:xj) | con (k:Bool) (cs:List xj)
inductive Yx where
 |lt (a:Int) (x:Str) (s:Sm) | dv (a:Int) (x wd:Str) (s b:Sm) | ft (a:Int) (x r:Str) (p:Sm) | pt (a:Int) (r:Str) (p s:Sm) | mq (a:Int) (r:Str) (z:Sm) | cm (a:Int) (c:xj) | cl (a:Int) (ns:List Str) (hp:Str) (g:List Sm)
 |ch (a:Int) (c:xj) (t e:List Yx) | rp (a:Int) (c:xj) (hs:List (Int×xj)) (f:Option (Int×Sm)) (b:List Yx)
noncomputable def YD:xj->Nat
 |.cmp _ _ _=>0 | .neg _=>1 | .con true _=>2 | .con false _=>3
noncomputable def Ue (A:Ad):Nat->Addr
 |0=>A.bf | 1=>A.cy | 2=>A.dY | _=>A.gO
noncomputable def a4w (l:List Str):T:=.tup (l.map T.str)
section
variable (A:Ad)
noncomputable def xx (s:Sm):T:=.ins A.iY ["terms","number"] [.tup (s.1.map pT),.int s.2]
mutual
noncomputable def nW:xj->T
 |.cmp a s b=>.ins A.bf ["one","sign","other"] [xx A a,.str s,xx A b]
 |.neg c=>.ins A.cy ["condition"] [nW c]
 |.con k cs=>.ins (if k=true then A.dY else A.gO) ["conditions"] [.tup (RE cs)]
noncomputable def RE:List xj->List T
 |[]=>[]
 |c::r=>nW c::RE r
end
noncomputable def atT (p:Int×xj):T:=.tup [.int p.1,nW A p.2]
noncomputable def faT:Option (Int×Sm)->T
 |none=>.cR
 |some p=>.tup [.int p.1,xx A p.2]
mutual
noncomputable def ZK:Yx->T
 |.lt a x s=>.ins A.i6 ["at","name","total"] [.int a,.str x,xx A s]
 |.dv a x wd s b=>.ins A.RO ["at","name","word","total","by"] [.int a,.str x,.str wd,xx A s,xx A b]
 |.ft a x r p=>.ins A.Ym ["at","name","row","place"] [.int a,.str x,.str r,xx A p]
 |.pt a r p s=>.ins A.iZ ["at","row","place","total"] [.int a,.str r,xx A p,xx A s]
 |.mq a r z=>.ins A.fN ["at","row","size"] [.int a,.str r,xx A z]
 |.cm a c=>.ins A.Yn ["at","condition"] [.int a,nW A c]
 |.cl a ns hp g=>.ins A.a2I ["at","names","helper","given"] [.int a,a4w ns,.str hp,.tup (g.map (xx A))]
 |.ch a c t e=>.ins A.bL ["at","condition","then","other"] [.int a,nW A c,.tup (OU t),.tup (OU e)]
 |.rp a c hs f b=>.ins A.bB ["at","condition","keeps","falls","body"] [.int a,nW A c,.tup (hs.map (atT A)),faT A f,.tup (OU b)]
noncomputable def OU:List Yx->List T
 |[]=>[]
 |c::r=>ZK c::OU r
end
end
theorem Cw (A:Ad):∀l:List xj,RE A l=l.map (nW A)
 |[]=>rfl
 |c::r=>by rw[RE,Cw A r];rfl
theorem Lg (c:xj):YD c<4:=by
 cases c with
 |cmp a s b=>show 0<4;decide
 |neg c=>show 1<4;decide
 |con k cs=>cases k<;>(first | (show 2<4;decide) | (show 3<4;decide))
theorem RI (A:Ad)(a b:Sm)(s:Str):nW A (.cmp a s b)=.ins A.bf ["one","sign","other"] [xx A a,.str s,xx A b]:=by rw[nW]
theorem RH (A:Ad)(q:Bool)(cs:List xj):nW A (.con q cs)=.ins (if q=true then A.dY else A.gO) ["conditions"] [.tup (cs.map (nW A))]:=by rw[nW,Cw]
theorem RG (A:Ad)(c:xj):nW A (.neg c)=.ins A.cy ["condition"] [nW A c]:=by rw[nW]
theorem Si (A:Ad)(S:aS)(c:xj):tyD S (.t (nW A c))=some (.ref (Ue A (YD c))):=by
 cases c with
 |cmp a s b=>unfold nW;rfl
 |neg c=>unfold nW;rfl
 |con k cs=>cases k<;>(unfold nW;rfl)
theorem tF (a b:Str):(a++b).length=a.length+b.length:=mz a b
theorem Lf (sep:Str):∀ss:List Str,(Str.join sep ss).length<=(ss.map (·.length)).sum+ss.length*sep.length
 |[]=>by simp[Str.join,Str.length,Str.empty]
 |[x]=>by simp[Str.join]
 |x::y::r=>by
  show(x++sep++Str.join sep (y::r)).length<=_;have ih:=Lf sep (y::r);rw[tF,tF,List.map_cons,List.sum_cons,List.length_cons,Nat.succ_mul];omega
theorem Xh (sep:Str)(ss:List Str):(Txt.join sep ss).length<=(ss.map (·.length)).sum+ss.length*sep.length:=by
 show(Builtin.Str.glued sep ss).length<=_;rw[StrLaws.glued_eq_join];exact Lf sep ss
theorem Dw {M:Nat}:∀{l:List Str},(∀x∈l,x.length<=M)->(l.map (·.length)).sum<=M*l.length
 |[],_=>Nat.zero_le _
 |a::l,h=>by
  have h1:=h a List.mem_cons_self;have h2:=Dw fun x hx=>h x (List.mem_cons_of_mem _ hx);rw[List.map_cons,List.sum_cons,List.length_cons,Nat.mul_succ];omega
section
variable (K:PySem.W.Frag)(A:Ad)
noncomputable def DF:ef:=fun ds S k=>∃(n:Nat)(d:D)(l:List (Str×Int)) (m:Int),ds=[.ob n,d,.int m]/\S[n]?=some (.ins A.iY [] [])/\xq S d=some (l.map pT)/\l.length<64/\k .cR (S.set n (.ins A.iY ["terms","number"] ([.tup (l.map pT),.int m].map .t)))
noncomputable def FE:ef:=fun ds S k=>∃(d:D)(l:List (Str×Int)) (m:Int),ds=[d,.int m]/\xq S d=some (l.map pT)/\l.length<64/\k (.t (xx A (sumOf l m))) S
noncomputable def uZ (C:Addr):ef:=fun ds S k=>∃(n:Nat)(d:D)(l:List T),ds=[.ob n,d]/\S[n]?=some (.ins C [] [])/\xq S d=some l/\k .cR (S.set n (.ins C ["conditions"] ([.tup l].map .t)))
noncomputable def FG:ef:=fun ds S k=>∃(d:D)(l:List (Int×xj)),ds=[d]/\xq S d=some (l.map (atT A))/\l.length<=100/\k (.tup (l.map (atT A))) S
noncomputable def FJ:ef:=fun ds S k=>∃(i:Nat)(a:Int)(c:T)(d1 d2:D)(t e:List T),ds=[.ob i,.int a,.t c,d1,d2]/\S[i]?=some (.ins A.bL [] [])/\xq S d1=some t/\xq S d2=some e/\
 k .cR (S.set i (.ins A.bL ["at","condition","then","other"] ([.int a,c,.tup t,.tup e].map .t)))
noncomputable def A9:ef:=fun ds S k=>∃(i:Nat)(a:Int)(c f:T)(d1 d2:D)(hs:List (Int×xj)) (b:List T),ds=[.ob i,.int a,.t c,d1,.t f,d2]/\S[i]?=some (.ins A.bB [] [])/\xq S d1=some (hs.map (atT A))/\hs.length<=100/\xq S d2=some b/\
 k .cR (S.set i (.ins A.bB ["at","condition","keeps","falls","body"] ([.int a,c,.tup (hs.map (atT A)),f,.tup b].map .t)))
noncomputable def sr:List Str:=(["helper","answers","needs","gives","end","let","div","mod","put","row","at","if","else"]:List Str)++(["while","holds","falls","call","claim","and","or","not"]:List Str)
noncomputable def K7:ef:=fun ds S k=>ds=[]/\k (.t (lsS sr)) S
noncomputable def K6:ef:=fun ds S k=>∃l:List Int,ds=[.t (.Bb (l.map T.int))]/\S=[]/\∀S',k (.bl true) S'
end
theorem aQ (a b:Str):cp (a++b)=cp a++cp b:=uB a b
theorem Ua (sep:Str):∀(l:List Str)(x:Str),cp (Str.join sep (x::l))=cp x++(l.map fun y=>cp sep++cp y).flatten
 |[],x=>by simp[Str.join]
 |y::r,x=>by
  show cp (x++sep++Str.join sep (y::r))=_;rw[aQ,aQ,Ua sep r y];simp
theorem Ct (sep:Str)(l:List Str)(x:Str):cp (Txt.join sep (x::l))=cp x++(l.map fun y=>cp sep++cp y).flatten:=by
 show cp (Builtin.Str.glued sep (x::l))=_;rw[StrLaws.glued_eq_join];exact Ua sep l x
theorem a4T {t u:oz}{Z:Sl}{S:aS}{k:Bool->aS->Prop}(b1 b2:Bool)(h1:∀k',k' b1 S->t Z S k')(h2:∀k',k' b2 S->u Z S k')(hk:k (b1||b2) S):Zi t u Z S k:=by
 refine h1 _ ?_;cases b1 with
 |true=>exact hk
 |false=>exact h2 _ hk
theorem Ul {t u:oz}{Z:Sl}{S:aS}{k:Bool->aS->Prop}(b1 b2:Bool)(h1:∀k',k' b1 S->t Z S k')(h2:∀k',k' b2 S->u Z S k')(hk:k (b1&&b2) S):FA t u Z S k:=by
 refine h1 _ ?_;cases b1 with
 |false=>exact hk
 |true=>exact h2 _ hk
theorem GY:cp (" ":Str)=[32]:=by symm
theorem NH:cp ("=":Str)=[61]:=by symm
theorem a2y:cp ("at":Str)=[97,116]:=by symm
theorem X3:cp ("let":Str)=[108,101,116]:=by symm
theorem RA:cp ("let ":Str)=[108,101,116,32]:=by symm
theorem Ex:cp (" = ":Str)=[32,61,32]:=by symm
theorem X5:cp (" at ":Str)=[32,97,116,32]:=by symm
theorem XZ:cp ("put":Str)=[112,117,116]:=by symm
theorem Ry:cp ("put ":Str)=[112,117,116,32]:=by symm
theorem XY:cp ("row":Str)=[114,111,119]:=by symm
theorem Rx:cp ("row ":Str)=[114,111,119,32]:=by symm
theorem wD:cp ("":Str)=[]:=by symm
theorem sL {n:Nat}(h:n<=1000000):n<=sizeLine:=Nat.le_trans h (by rw[sizeLine_eq];decide)
theorem G8 {L j:Nat}{S0 S1:aS}{l:List T}{k:KD}(c:∀o∈S0,Cu L o)(hS:S0.length=L)(e:S1[j]?=some (.lst l))(h:k (.lst l) S0):closes L (.ob (L+j)) (S0++S1) k:=
 .inr (.inr (.inl ⟨_,l,S0,S1,rfl,by omega,rfl,hS,c,by rw[cK hS];exact e,h⟩))
theorem IB:∀x∈sr,x.cps.toList.head?≠some 122:=by symm
theorem C2 (k:Int)(t:Nat):zt k t∉sr:=fun h=>IB _ h (by unfold zt;rw[yG];rfl)
section
variable {a0 a1 a2 a3 a4 a5 a6 a7:Str}{r:Nat}
end
noncomputable def s9 (c:Nat):Bool:=decide (48<=c)&&decide (c<=57)
noncomputable def El (z:Str):Bool:=z.cps.toList.all s9
noncomputable def s8 (z:Str):Bool:=(decide (1<=z.length)&&decide (z.length<=9))&&!(decide ((cp z).head?=some 48)&&decide (z≠"0"))&&El z
noncomputable def iI (z:Str):Bool:=isNm z||(Txt.startswith z "#"&&isNm (Txt.slice z (some 1) none))
noncomputable def La:ef:=fun ds S k=>∃z:Str,ds=[.str z]/\z.length<=1000/\k (.bl (El z)) S
noncomputable def Lb:ef:=fun ds S k=>∃z:Str,ds=[.str z]/\z.length<=1000/\k (.bl (s8 z)) S
noncomputable def ZY:ef:=fun ds S k=>∃z:Str,ds=[.str z]/\z.length<=1000/\k (.bl (isNm z)) S
noncomputable def ZP:ef:=fun ds S k=>∃z:Str,ds=[.str z]/\z.length<=1000/\k (.bl (iI z)) S
noncomputable def ZR:ef:=fun ds S k=>∃a:D,ds=[.bl true,a]/\k .cR S
theorem le_0 (c:Nat):(!(decide (((⟨#[c]⟩:Str)).cps.toList<(("0":Str)).cps.toList)))=decide (48<=c):=by
 show(!(decide ([c] < [48])))=_;have e:([c] < [48])↔(c<48):=by rw[List.cons_lt_cons_iff];simp
 by_cases h:48<=c
 .rw[decide_eq_true h,decide_eq_false (fun z=>absurd (e.mp z) (by omega))];rfl
 .rw[decide_eq_false h,decide_eq_true (e.mpr (by omega))];rfl
theorem a5k (c:Nat):(!(decide ((("9":Str)).cps.toList<((⟨#[c]⟩:Str)).cps.toList)))=decide (c<=57):=by
 show(!(decide ([57] < [c])))=_;have e:([57] < [c])↔(57<c):=by rw[List.cons_lt_cons_iff];simp
 by_cases h:c<=57
 .rw[decide_eq_true h,decide_eq_false (fun z=>absurd (e.mp z) (by omega))];rfl
 .rw[decide_eq_false h,decide_eq_true (e.mpr (by omega))];rfl
theorem Ho (f:Nat->Bool)(l:List Nat):(l.map f).all _root_.id=l.all f:=by rw[List.all_map];rfl
theorem G3 {G:aS->Prop}{g:sH}{tt:oz}{te:bU}{δ0:Sl}{k:List T->aS->Prop}{S:aS}{z:Str}(f:Nat->T)(hG:G S)(hl:z.length<=sizeLine)(hs:∀c∈cp z,∀k':Option T->aS->Prop,k' (some (f c)) S->elem g tt te δ0 (.str ⟨#[c]⟩) S k')
  (hk:k ((cp z).map f) S):fR G g tt te δ0 (z.cps.toList.map fun c=>D.str ⟨#[c]⟩) S [] k:=by
 have:=jY (G:=G) (g:=g) (tt:=tt) (te:=te) (δ0:=δ0) (k:=k) (S:=S) (l:=cp z) (fun c=>T.str ⟨#[c]⟩) f hG (by rw[<- bg];exact hl) hs hk;rw[List.map_map] at this;exact this
theorem chI {i m j:Int}{Z:Sl}{S:aS}{k:KD}(h:k (.bl (decide (i<=m)&&decide (m<=j))) S) :
  EA (fun i j=>decide (i<=j)) (.int i) (.int m) S (fun z S3=>∃b,z=.bl b/\if b=true then yS (.int j) Z S3 (fun w S4=>EA (fun i j=>decide (i<=j)) (.int m) w S4 k) else k (.bl false) S3):=by
 refine⟨_,rfl,?_⟩;by_cases e:i<=m
 .rw[if_pos (decide_eq_true e)];rw[decide_eq_true e,Bool.true_and] at h;exact h
 .rw[if_neg (by simp[e])];rw[decide_eq_false e,Bool.false_and] at h;exact h
theorem chS {a y b:Str}{Z:Sl}{S:aS}{k:KD}(h:k (.bl ((!(decide (y.cps.toList<a.cps.toList)))&&(!(decide (b.cps.toList<y.cps.toList))))) S) :
  Q6 (.str a) (.str y) S (fun z S3=>∃b',z=.bl b'/\if b'=true then yS (.str b) Z S3 (fun w S4=>Q6 (.str y) w S4 k) else k (.bl false) S3):=by
 refine⟨_,rfl,?_⟩;by_cases e:y.cps.toList<a.cps.toList
 .rw[if_neg (by simp[e])];rw[decide_eq_true e] at h;exact h
 .rw[if_pos (by simp[e])];rw[decide_eq_false e] at h;exact h
theorem KG:(⟨#[42]⟩:Str)="*":=by symm
theorem DT {x:Str}(h:42∉cp x):Txt.partition x "*"=(x,Str.empty,Str.empty):=by rw[<- KG];exact HV h
theorem HS {f t:Str}(h:42∉cp f):Txt.partition (f++"*"++t) "*"=(f,("*":Str),t):=by rw[<- KG];exact HU h
theorem mz {x f t:Str}(e:x=f++"*"++t):x.length=f.length+1+t.length:=by rw[e,<- KG];simp only[bg,NI,List.length_append];rfl
noncomputable def mE (n:Bool):Str:=if n then "-" else "+"
noncomputable def gQ (p:Bool×Str)(r:List (Bool×Str)):List Str:=(if p.1 then("-":Str)++p.2 else p.2)::(r.map fun q=>[mE q.1,q.2]).flatten
noncomputable def DA (q:Bool×Str):T:=.tup [.str (mE q.1),.str q.2]
theorem IL (r:List (Bool×Str)):(r.map fun q=>[mE q.1,q.2]).flatten.length=2*r.length:=by
 induction r with
 |nil=>rfl
 |cons a r ih=>rw[List.map_cons,List.flatten_cons,List.length_append,ih];simp;omega
theorem uP (p:Bool×Str)(r:List (Bool×Str)):(gQ p r).length=2*r.length+1:=by unfold gQ;rw[List.length_cons,IL]
theorem yp:∀{r:List (Bool×Str)} {i:Nat} {q:Bool×Str},r[i]?=some q->(r.map fun q=>[mE q.1,q.2]).flatten[2*i]?=some (mE q.1)/\(r.map fun q=>[mE q.1,q.2]).flatten[2*i+1]?=some q.2
 |[],_,_,h=>by cases h
 |a::r,0,q,h=>by cases h;exact⟨rfl,rfl⟩
 |a::r,i+1,q,h=>by
  have:=yp (r:=r) (i:=i) (q:=q) h;rw[List.map_cons,List.flatten_cons];show([mE a.1,a.2]++_)[2*(i+1)]?=_/\([mE a.1,a.2]++_)[2*(i+1)+1]?=_;rw[List.getElem?_append_right (by simp;omega),List.getElem?_append_right (by simp;omega)];exact this
theorem U1 {p:Bool×Str}{r:List (Bool×Str)}{i:Nat}{q:Bool×Str}(h:r[i]?=some q):(gQ p r)[1+i*2]?=some (mE q.1)/\(gQ p r)[1+i*2+1]?=some q.2:=by
 obtain⟨h1,h2⟩:=yp h;unfold gQ;rw[show 1+i*2=2*i+1 by omega];exact⟨h1,h2⟩
noncomputable def sY (p:Bool×Str):Str:=if p.1 then("-":Str)++p.2 else p.2
theorem a2v {x:Str}(h:1<=x.length):cp (Txt.slice x (some 1) none)=(cp x).drop 1:=by
 have:=StrLaws.sliceText_from (x:=x) (i:=1) ⟨by decide,by rw[bg] at h;have h:1<=x.cps.toList.length:=h;omega⟩
 have e:Txt.slice x (some 1) none=StrLaws.sliceText x (some 1) none:=rfl;rw[e,this];show(((cp x).drop 1).take _)=_;rw[List.take_of_length_le];rw[List.length_drop];show x.cps.toList.length - 1<=_;omega
theorem KH (x:Str):Txt.startswith (("-":Str)++x) "-"=true:=by
 have e:(⟨#[45]⟩:Str)="-":=by symm
 rw[<- e];obtain⟨h1,h2⟩:=j6.mpr (show(cp ((⟨#[45]⟩:Str)++x))[0]?=some 45 by rw[NI];rfl);show(decide (0+_<=_)&&Builtin.Str.subAt _ _ 0)=true;rw[Bool.and_eq_true];exact⟨decide_eq_true h1,h2⟩
theorem OY {Z:Sl}{S:aS}{k:KD}{p:Bool×Str}(h2:Z[2]?=some (some (D.str (sY p))))(hp:p.2.length<=100)(hs:Txt.startswith p.2 "-"=false)(h:k (.t (DA p)) S) :
  Zs (uM (mC "str" OS (dF 2) (bD (yS (D.str "-")) bQ))) (Km (bD (yS (D.str "-")) (bD (Zc false (dF 2) (tPt (yS (D.int 1))) Zl) bQ))) (Km (bD (yS (D.str "+")) (bD (dF 2) bQ))) Z S k:=by
 obtain⟨n,x⟩:=p;refine⟨_,h2,rfl,_,rfl,?_⟩;cases n with
 |true=>
  have e:sY (true,x)=("-":Str)++x:=rfl;rw[e,if_pos (KH x)];have l:(("-":Str)++x).length=x.length+1:=by simp only[bg,NI,List.length_append];rw[show(cp "-").length=1 by symm];omega
  refine⟨_,h2,_,rfl,nI (by rw[e,l];simp at hp;omega),_,rfl,sz 2,?_⟩;have c:Txt.slice (sY (true,x)) (some 1) none=x:=eZ (by rw[e,a2v (by rw[l];omega),NI];rw[show cp "-"=[45] by symm];rfl);rw[c];exact h
 |false=>
  have e:sY (false,x)=x:=rfl;rw[e,if_neg (by rw[hs];decide)];refine⟨_,h2,_,rfl,sz 2,h⟩
theorem Vj (n:Bool):Je (V.str (mE n)) [V.str (Str.ofString "+"),V.str (Str.ofString "-")]=true:=by cases n<;>symm
noncomputable def SA:ef:=fun ds S k=>∃(p:Bool×Str)(r:List (Bool×Str)) (a:D),ds=[.lst ((gQ p r).map T.str),a]/\r.length<=20/\p.2.length<=100/\Txt.startswith p.2 "-"=false/\k (.lst ((p::r).map DA)) S
inductive N3:Str->Str->Int->Prop
 |nm {x:Str} (h:iI x=true):N3 x x 1
 |num {x:Str} {w:Int} (h:iI x=false) (hf:s8 x=true) (hs:42∉cp x) (hi:PySem.intText? x=some w):N3 x "" w
 |mul {x f t:Str} {w:Int} (e:x=f++"*"++t) (h:iI x=false) (hf:s8 f=true) (hs:42∉cp f) (ht:iI t=true) (hi:PySem.intText? f=some w):N3 x t w
noncomputable def ZO:ef:=fun ds S k=>∃(x t:Str)(w:Int)(a:D),ds=[.str x,a]/\N3 x t w/\x.length<=100/\k (.tup [.str t,.int w]) S
def Pc (q:Bool×Str)(tw:Str×Int):Prop:=q.2.length<=100/\∃w:Int,N3 q.2 tw.1 w/\tw.2=(if q.1 then -w else w)
noncomputable def z0 (ws:List (Str×Int)):List (Str×Int):=("",0)::ws
theorem rY {α β:Type}{F:α->β->Prop}:∀{pre post:List α}{x:α}{ws:List β},Paired F (pre++x::post) ws->∃a b c,ws=a++b::c/\Paired F pre a/\F x b/\Paired F post c
 |[],post,x,_,.cons r t=>⟨[],_,_,rfl,.nil,r,t⟩
 |y::pre,post,x,_,.cons r t=>by
  obtain⟨a,b,c,e,h1,h2,h3⟩:=rY t;exact⟨_::a,b,c,by rw[e];rfl,.cons r h1,h2,h3⟩
theorem SJ:(false ^^ decide (V.str (mE false)=V.str (Str.ofString "+")))=true:=by symm
theorem SK:¬(false ^^ decide (V.str (mE true)=V.str (Str.ofString "+")))=true:=by symm
theorem GR (f:Str->Int):∀(d:List (Key×T)) (ss:List Str),d.map (·.1)=ss.map Sum.inr->ss.Nodup->(∀x∈ss,iz d (Sum.inr x)=some (.int (f x)))->d=ss.map fun x=>(Sum.inr x,T.int (f x))
 |[],[],_,_,_=>rfl
 |[],_::_,h,_,_=>by simp at h
 |_::_,[],h,_,_=>by simp at h
 |(k,v)::d,x::ss,h,nd,hv=>by
  rw[List.map_cons,List.map_cons] at h;injection h with h1 h2
  have h1:k=Sum.inr x:=h1;subst h1;rw[List.nodup_cons] at nd;have e:v=.int (f x):=by
   have:=hv x (List.mem_cons_self ..);unfold iz at this;rw[List.find?_cons_of_pos (by simp)] at this;injection this
  rw[List.map_cons,<- e];congr 1;refine GR f d ss h2 nd.2 fun y hy=>?_;have:=hv y (List.mem_cons_of_mem _ hy);have ne:¬((Sum.inr x:Key)=Sum.inr y):=fun z=>nd.1 (by injection z with z;rw[z];exact hy);unfold iz at this ⊢;rw[List.find?_cons_of_neg (by simpa using ne)] at this;exact this
theorem a2r {l:List (Str×Int)}{d:List (Key×T)}(h:wU l d):∃ss:List Str,ss.Nodup/\(∀x,x∈ss↔x∈l.map (·.1))/\d=ss.map fun x=>(Sum.inr x,T.int (wt l x)):=by
 obtain⟨ss,h1,h2,h3⟩:=h.keys;exact⟨ss,h2,h3,GR _ _ _ h1 h2 fun x hx=>by rw[h.val x,if_pos ((h3 x).mp hx)]⟩
theorem wA (f:Str->Int):∀{ss:List Str}{x:Str},x∈ss->iz (ss.map fun x=>((Sum.inr x:Key),T.int (f x))) (Sum.inr x)=some (.int (f x))
 |y::ss,x,h=>by
  rw[List.map_cons];unfold iz;by_cases e:y=x
  .subst e;rw[List.find?_cons_of_pos (by simp)];rfl
  .rw[List.find?_cons_of_neg (by simpa using e)];exact wA f ((List.mem_cons.mp h).resolve_left fun z=>e z.symm)
theorem Mz {l m:List (Str×Int)}(h:∀x,x∈l.map (·.1)↔x∈m.map (·.1))(w:∀x∈m.map (·.1),wt l x=wt m x):norm l=norm m:=by
 unfold norm;rw[KL h];congr 1;exact List.map_congr_left fun x hx=>by rw[w x (lT.mp hx)]
theorem J4 (f:Str->Int):∀{ss:List Str},ss.Nodup->∀{x:Str},x∈ss->wt (ss.map fun y=>(y,f y)) x=f x
 |y::ss,nd,x,h=>by
  rw[List.nodup_cons] at nd;rw[List.map_cons,fE];by_cases e:y=x
  .subst e;rw[if_pos rfl,yJ (by rw[List.map_map];simpa using nd.1)];simp
  .rw[if_neg e,J4 f nd.2 ((List.mem_cons.mp h).resolve_left fun z=>e z.symm)];simp
theorem Dh {x:Str}(hx:x≠""):∀ws:List (Str×Int),wt (ws.filter fun p=>decide (p.1≠("":Str))) x=wt ws x
 |[]=>rfl
 |p::ws=>by
  by_cases e:p.1=("":Str)
  .rw[List.filter_cons_of_neg (by simp[e]),Dh hx ws,fE,if_neg (fun z=>hx (z.symm.trans e))];simp
  .rw[List.filter_cons_of_pos (by simp[e]),fE,fE,Dh hx ws]
noncomputable def xw (ws:List (Str×Int)):Sm:=(norm (ws.filter fun p=>decide (p.1≠("":Str))),wt ws "")
theorem Vg {ws:List (Str×Int)}{ss:List Str}(nd:ss.Nodup)(mem:∀x,x∈ss↔x∈(z0 ws).map (·.1)):sumOf ((ss.filter fun x=>decide (x≠("":Str))).map fun x=>(x,wt (z0 ws) x)) (wt (z0 ws) "")=xw ws:=by
 have w0:∀x,wt (z0 ws) x=wt ws x:=fun x=>by unfold z0;rw[fE];split<;>simp
 unfold sumOf xw;rw[w0];congr 1;have hk:∀x,x∈(ws.filter fun p=>decide (p.1≠("":Str))).map (·.1)↔x∈ss.filter fun x=>decide (x≠("":Str)):=fun x=>by
  rw[List.mem_filter,mem x,List.mem_map];unfold z0;rw[List.map_cons,List.mem_cons,List.mem_map];constructor
  .rintro⟨p,hp,rfl⟩;rw[List.mem_filter] at hp;exact⟨.inr ⟨p,hp.1,rfl⟩,hp.2⟩
  .rintro⟨h | ⟨p,hp,rfl⟩,hne⟩
   .exact(of_decide_eq_true hne h).elim
   .exact⟨p,List.mem_filter.mpr ⟨hp,hne⟩,rfl⟩
 have hm:((ss.filter fun x=>decide (x≠("":Str))).map fun x=>(x,wt (z0 ws) x)).map (·.1)=ss.filter fun x=>decide (x≠("":Str)):=by rw[List.map_map];exact List.map_id _
 refine Mz (fun x=>by rw[hm,hk]) fun x hx=>?_;have hx':=(hk x).mp hx;rw[J4 (fun x=>wt (z0 ws) x) (nd.filter _) hx',Dh (of_decide_eq_true (List.mem_filter.mp hx').2),w0]
noncomputable def KW (A:Ad):ef:=fun ds S k=>∃(p:Bool×Str)(r:List (Bool×Str)) (ws:List (Str×Int)) (a:D),ds=[.lst ((gQ p r).map T.str),a]/\r.length<=20/\p.2.length<=100/\Txt.startswith p.2 "-"=false/\Paired Pc (p::r) ws/\
 (∀x,-999999999<=wt (z0 ws) x/\wt (z0 ws) x<=999999999)/\k (.t (xx A (xw ws))) S
structure Sw where
 (p:Bool×Str) (r:List (Bool×Str)) (ws:List (Str×Int))
structure SwOk (s:Sw):Prop where
 len:s.r.length<=20
 fst:s.p.2.length<=100
 pl:Txt.startswith s.p.2 "-"=false
 pc:Paired Pc (s.p::s.r) s.ws
 bd:∀x,-999999999<=wt (z0 s.ws) x/\wt (z0 s.ws) x<=999999999
 sp:∀x∈gQ s.p s.r,32∉cp x
 cm:∀x∈gQ s.p s.r,44∉cp x
noncomputable def Sw.txt (s:Sw):Str:=Txt.join " " (gQ s.p s.r)
theorem a4D:(⟨#[32]⟩:Str)=" ":=by symm
theorem WM {l:List T}{S:aS}{k:KD}(h:k (.lst l) S):newL false l S k:=by unfold newL;rw[if_neg (by decide)];exact h
noncomputable def WH (c:Nat):Bool:=mD c||s9 c||decide (c=35)||decide (c=42)||decide (c=43)||decide (c=45)
structure lK (x:Str):Prop where
 ne:cp x≠[]
 ok:∀c∈cp x,WH c=true
 nk:x∉pZ
 len:x.length<=30
theorem lK.no {x:Str}(h:lK x){c:Nat}(hc:autoParam (WH c=false) js):c∉cp x:=fun z=>by rw[h.ok c z] at hc;cases hc
theorem lK.nw {x:Str}(h:lK x)(y:Str)(hy:autoParam ((cp y).any (fun c=>!WH c)=true) js):x≠y:=fun z=>by
 subst z;rw[List.any_eq_true] at hy;obtain⟨c,h1,h2⟩:=hy;rw[h.ok c h1] at h2;cases h2
theorem lK.kw {x:Str}(h:lK x)(y:Str)(hy:autoParam (y∈pZ) js):x≠y:=fun z=>h.nk (z ▸ hy)
structure tG (s:Sw):Prop where
 ok:SwOk s
 wd:∀x∈gQ s.p s.r,lK x
noncomputable def jn:List Str->List Nat
 |[]=>[]
 |[a]=>cp a
 |a::b::r=>cp a++32::jn (b::r)
theorem gq (a b:Str)(r:List Str):jn (a::b::r)=cp a++32::jn (b::r):=rfl
theorem Ae:∀ws:List Str,cp (Txt.join " " ws)=jn ws
 |[]=>by symm
 |[x]=>by
  have e:Txt.join " " [x]=Str.join " " [x]:=StrLaws.glued_eq_join ..;rw[e];rfl
 |x::y::r=>by
  have e:Txt.join " " (x::y::r)=Str.join " " (x::y::r):=StrLaws.glued_eq_join ..;have e2:Txt.join " " (y::r)=Str.join " " (y::r):=StrLaws.glued_eq_join ..;rw[e,ND,<- e2,Ae (y::r),gq,show cp " "=[32] by symm];rfl
theorem vY:∀{l m:List Str},l≠[]->m≠[]->jn (l++m)=jn l++32::jn m
 |[],_,h,_=>(h rfl).elim
 |[a],[],_,h=>(h rfl).elim
 |[a],b::m,_,_=>rfl
 |a::b::l,m,_,h=>by
  have ih:=vY (l:=b::l) (m:=m) (by simp) h;rw[List.cons_append] at ih;rw[List.cons_append,List.cons_append,gq,gq,ih];simp
theorem xB {a:Str}{m:List Str}(h:m≠[]):jn (a::m)=cp a++32::jn m:=vY (l:=[a]) (by simp) h
theorem uW {x:Str}{ws:List Str}(e:cp x=jn ws)(h0:ws≠[])(h:∀w∈ws,32∉cp w):Txt.split x " "=ws:=by
 have:x=Txt.join " " ws:=eZ (by rw[e,Ae]);rw[this,<- a4D];exact uV h0 h
theorem rS (p:Bool×Str)(r:List (Bool×Str)):gQ p r≠[]:=by unfold gQ;simp
theorem nj (s:Sw):cp s.txt=jn (gQ s.p s.r):=Ae _
inductive CW where
 |cmp (a:Sw) (s:Str) (b:Sw) | neg (c:CW) | con (k:Bool) (cs:List CW)
noncomputable def gH:CW->Bool
 |.con _ _=>true
 |_=>false
noncomputable def sj (k:Bool):Str:=if k then "and" else "or"
noncomputable def Vm:List Str:=["<","<=","=","!=",">=",">"]
mutual
noncomputable def CW.cd:CW->xj
 |.cmp a s b=>.cmp (xw a.ws) s (xw b.ws)
 |.neg c=>.neg c.cd
 |.con k cs=>.con k (cdW cs)
noncomputable def cdW:List CW->List xj
 |[]=>[]
 |c::r=>c.cd::cdW r
end
mutual
noncomputable def CW.dep:CW->Nat
 |.cmp _ _ _=>0
 |.neg c=>c.dep+1
 |.con _ cs=>nV cs+1
noncomputable def nV:List CW->Nat
 |[]=>0
 |c::r=>max c.dep (nV r)
end
mutual
def CW.ok:CW->Prop
 |.cmp a s b=>tG a/\tG b/\s∈Vm
 |.neg c=>c.ok
 |.con _ cs=>DX cs/\2<=cs.length/\cs.length<=3
def DX:List CW->Prop
 |[]=>True
 |c::r=>c.ok/\DX r
end
mutual
noncomputable def qJ:CW->List Str
 |.cmp a s b=>gQ a.p a.r++s::gQ b.p b.r
 |.neg c=>("not":Str)::("(":Str)::(qJ c++[(")":Str)])
 |.con k cs=>(nh k cs).tail
noncomputable def nh (k:Bool):List CW->List Str
 |[]=>[]
 |d::r=>sj k::((if gH d=true then("(":Str)::(qJ d++[(")":Str)]) else qJ d)++nh k r)
end
noncomputable def tX (d:CW):List Str:=if gH d=true then("(":Str)::(qJ d++[(")":Str)]) else qJ d
theorem gu (k:Bool)(d:CW)(r:List CW):nh k (d::r)=sj k::(tX d++nh k r):=by rw[nh];rfl
theorem Fv (k:Bool)(d:CW)(r:List CW):qJ (.con k (d::r))=tX d++nh k r:=by rw[qJ,gu];rfl
theorem G9:∀l:List CW,cdW l=l.map CW.cd
 |[]=>rfl
 |c::r=>by rw[cdW,G9 r];rfl
theorem Gq {c:CW}:∀{l:List CW},DX l->c∈l->c.ok
 |d::r,h,m=>by
  unfold DX at h;rcases List.mem_cons.mp m with rfl | m
  .exact h.1
  .exact Gq h.2 m
theorem Co {c:CW}:∀{l:List CW},c∈l->c.dep<=nV l
 |d::r,h=>by
  unfold nV;rcases List.mem_cons.mp h with rfl | h
  .exact Nat.le_max_left _ _
  .exact Nat.le_trans (Co h) (Nat.le_max_right _ _)
abbrev BW:=Nat×Str×Nat
noncomputable def i7 (b:BW):Str:=⟨(List.replicate b.1 40++(cp b.2.1++List.replicate b.2.2 41)).toArray⟩
noncomputable def bw (x:Str):BW:=(0,x,0)
noncomputable def AV:List BW->List BW
 |[]=>[]
 |(o,x,c)::r=>(o+1,x,c)::r
noncomputable def cls:List BW->List BW
 |[]=>[]
 |[(o,x,c)]=>[(o,x,c+1)]
 |a::b::r=>a::cls (b::r)
noncomputable def uK (l:List BW):List Str:=(l.map fun b=>List.replicate b.1 ("(":Str)++b.2.1::List.replicate b.2.2 (")":Str)).flatten
mutual
noncomputable def jD:CW->List BW
 |.cmp a s b=>(gQ a.p a.r++s::gQ b.p b.r).map bw
 |.neg c=>bw ("not":Str)::cls (AV (jD c))
 |.con k cs=>(w9 k cs).tail
noncomputable def w9 (k:Bool):List CW->List BW
 |[]=>[]
 |d::r=>bw (sj k)::((if gH d=true then cls (AV (jD d)) else jD d)++w9 k r)
end
noncomputable def Di (d:CW):List BW:=if gH d=true then cls (AV (jD d)) else jD d
theorem kF (k:Bool)(d:CW)(r:List CW):w9 k (d::r)=bw (sj k)::(Di d++w9 k r):=by rw[w9];rfl
theorem yK (k:Bool)(d:CW)(r:List CW):jD (.con k (d::r))=Di d++w9 k r:=by rw[jD,kF];rfl
theorem wF:∀{l:List BW},l≠[]->cls l≠[]
 |[],h=>(h rfl).elim
 |[(o,x,c)],_=>by simp[cls]
 |a::b::r,_=>by simp[cls]
theorem kU:∀{l:List BW},l≠[]->AV l≠[]
 |[],h=>(h rfl).elim
 |(o,x,c)::r,_=>by simp[AV]
mutual
theorem nH:∀{c:CW},c.ok->jD c≠[]
 |.cmp a s b,_=>by rw[jD];simp
 |.neg c,_=>by rw[jD];simp
 |.con k [],h=>by unfold CW.ok at h;have:=h.2.1;simp at this
 |.con k (d::r),h=>by
  rw[yK];unfold CW.ok at h;obtain⟨h,_⟩:=h;unfold DX at h;have:=nH h.1;unfold Di;split
  .intro z;exact wF (kU this) (List.append_eq_nil_iff.mp z).1
  .intro z;exact this (List.append_eq_nil_iff.mp z).1
end
theorem Ft (l m:List BW):uK (l++m)=uK l++uK m:=by unfold uK;simp
theorem dh (a:BW)(m:List BW):uK (a::m)=(List.replicate a.1 ("(":Str)++a.2.1::List.replicate a.2.2 (")":Str))++uK m:=rfl
theorem Fq:∀{l:List BW},l≠[]->uK (AV l)=("(":Str)::uK l
 |[],h=>(h rfl).elim
 |(o,x,c)::r,_=>by rw[AV,dh,dh,List.replicate_succ];rfl
theorem yO:∀{l:List BW},l≠[]->uK (cls l)=uK l++[(")":Str)]
 |[],h=>(h rfl).elim
 |[(o,x,c)],_=>by
  rw[cls,dh,dh,List.replicate_succ'];simp[uK]
 |a::b::r,_=>by rw[cls,dh,dh,yO (by simp)];simp
theorem Ke:∀l:List Str,uK (l.map bw)=l
 |[]=>rfl
 |a::r=>by rw[List.map_cons,dh,Ke r];rfl
mutual
theorem Fp:∀{c:CW},c.ok->uK (jD c)=qJ c
 |.cmp a s b,_=>by rw[jD,Ke,qJ]
 |.neg c,h=>by
  unfold CW.ok at h;have n:=nH h;rw[jD,dh,yO (kU n),Fq n,Fp h,qJ];rfl
 |.con k cs,h=>by
  unfold CW.ok at h;have:=Kc k h.1
  match cs,h,this with
  |[],h,_=>have:=h.2.1;simp at this
  |d::r,h,this=>
   rw[kF,gu,dh] at this;rw[yK,Fv];have e:sj k::uK (Di d++w9 k r)=sj k::(tX d++nh k r):=this;injection e
theorem Kc (k:Bool):∀{l:List CW},DX l->uK (w9 k l)=nh k l
 |[],_=>by rw[w9,nh];rfl
 |d::r,h=>by
  unfold DX at h;rw[w9,nh,dh,Ft,Kc k h.2];have e:uK (if gH d=true then cls (AV (jD d)) else jD d)=(if gH d=true then("(":Str)::(qJ d++[(")":Str)]) else qJ d):=by
   have n:=nH h.1;split
   .rw[yO (kU n),Fq n,Fp h.1];rfl
   .exact Fp h.1
  rw[e];rfl
end
noncomputable def jw (l:List BW):List Nat:=jn (l.map i7)
theorem fZ (b:BW):cp (i7 b)=List.replicate b.1 40++(cp b.2.1++List.replicate b.2.2 41):=by simp[cp,i7]
theorem G2 (x:Str):cp (i7 (bw x))=cp x:=by rw[fZ];simp[bw]
theorem Vt (x:Str):i7 (bw x)=x:=eZ (G2 x)
theorem Xe {l m:List BW}(h:l≠[])(k:m≠[]):jw (l++m)=jw l++32::jw m:=by unfold jw;rw[List.map_append];exact vY (by simpa using h) (by simpa using k)
theorem a1W (l:List Str):jw (l.map bw)=jn l:=by
 unfold jw;rw[List.map_map];congr 1
 conv=>rhs;rw[<- List.map_id l]
 exact List.map_congr_left fun x _=>Vt x
theorem a1X {a a':Str}{x:List Nat}(e:cp a'=x++cp a)(r:List Str):jn (a'::r)=x++jn (a::r):=by
 cases r with
 |nil=>exact e
 |cons b r=>rw[gq,gq,e,List.append_assoc]
theorem MS:∀{l:List BW},l≠[]->jw (AV l)=40::jw l
 |[],h=>(h rfl).elim
 |(o,x,c)::r,_=>by
  unfold jw;rw[AV,List.map_cons,List.map_cons];exact a1X (x:=[40]) (by rw[fZ,fZ,List.replicate_succ];rfl) _
theorem Ec:∀{l:List BW},l≠[]->jw (cls l)=jw l++[41]
 |[],h=>(h rfl).elim
 |[(o,x,c)],_=>by
  show cp (i7 (o,x,c+1))=cp (i7 (o,x,c))++[41];rw[fZ,fZ,List.replicate_succ'];simp
 |a::b::r,_=>by
  have ih:=Ec (l:=b::r) (by simp);unfold jw at ih ⊢;rw[cls,List.map_cons,xB (by simpa using wF (l:=b::r) (by simp)),ih];show _=jn (i7 a::i7 b::r.map i7)++[41];rw[gq];simp
mutual
noncomputable def xU:CW->Str
 |.cmp a s b=>(((a.txt++(" ":Str))++s)++(" ":Str))++b.txt
 |.neg c=>(("not (":Str)++xU c)++(")":Str)
 |.con k cs=>Txt.join (if k=true then(" and ":Str) else(" or ":Str)) (txL cs)
noncomputable def txL:List CW->List Str
 |[]=>[]
 |d::r=>(if gH d=true then(("(":Str)++xU d)++(")":Str) else xU d)::txL r
end
noncomputable def Sk (d:CW):Str:=if gH d=true then(("(":Str)++xU d)++(")":Str) else xU d
theorem yM:∀l:List CW,txL l=l.map Sk
 |[]=>rfl
 |d::r=>by rw[txL,yM r];rfl
theorem X0:cp ("not (":Str)=[110,111,116,32,40]:=by symm
theorem Uc:cp (")":Str)=[41]:=by symm
theorem a2x:cp ("(":Str)=[40]:=by symm
theorem GZ (k:Bool):cp (if k=true then(" and ":Str) else(" or ":Str))=32::(cp (sj k)++[32]):=by cases k<;>symm
theorem Rz:cp ("not":Str)=[110,111,116]:=by symm
mutual
theorem Cq:∀{c:CW},c.ok->cp (xU c)=jw (jD c)
 |.cmp a s b,_=>by
  rw[xU,jD,a1W,vY (rS _ _) (by simp),xB (rS _ _),aQ,aQ,aQ,aQ,nj,nj,GY];simp
 |.neg c,h=>by
  unfold CW.ok at h;have n:=nH h;have e:jw (jD (.neg c))=cp "not"++32::jw (cls (AV (jD c))):=by
   rw[jD];unfold jw;rw[List.map_cons,xB (by simpa using wF (kU n)),G2]
  rw[e,Ec (kU n),MS n,xU,aQ,aQ,Cq h,X0,Uc,Rz];simp
 |.con k cs,h=>by
  unfold CW.ok at h;have t:=NC k h.1
  match cs,h,t with
  |[],h,_=>have:=h.2.1;simp at this
  |d::r,h,t=>
   rw[xU,yM,List.map_cons,Ct,yK];unfold DX at h;rw[t.1 d (List.mem_cons_self ..)];have t2:=t.2;rw[List.map_cons,List.flatten_cons] at t2;rw[kF] at t2;have n:=t.1 d (List.mem_cons_self ..);have e:jw (bw (sj k)::(Di d++w9 k r))=cp (sj k)++32::jw (Di d++w9 k r):=by
    unfold jw;have nn:Di d≠[]:=by
     have q:=nH h.1.1;unfold Di;split
     .exact wF (kU q)
     .exact q
    rw[List.map_cons,xB (by simp[nn]),G2]
   rw[e,GZ,n] at t2;simp at t2;rw[t2,GZ,List.map_map];simp[Function.comp_def]
theorem NC (k:Bool):∀{l:List CW},DX l->(∀d∈l,cp (Sk d)=jw (Di d))/\32::jw (w9 k l)=(if l=[] then[32] else[])++(l.map fun d=>cp (if k=true then(" and ":Str) else(" or ":Str))++cp (Sk d)).flatten
 |[],_=>⟨fun _ h=>absurd h List.not_mem_nil,by rw[w9];rfl⟩
 |d::r,h=>by
  unfold DX at h;obtain⟨t1,t2⟩:=NC k h.2;have n:=nH h.1;have nP:Di d≠[]:=by
   unfold Di;split
   .exact wF (kU n)
   .exact n
  have e:cp (Sk d)=jw (Di d):=by
   unfold Sk Di;split
   .rw[aQ,aQ,Cq h.1,Ec (kU n),MS n,a2x,Uc];rfl
   .exact Cq h.1
  refine⟨fun x hx=>?_,?_⟩
  .rcases List.mem_cons.mp hx with rfl | hx
   .exact e
   .exact t1 x hx
  rw[if_neg (by simp),List.nil_append,List.map_cons,List.flatten_cons,kF,e,GZ];have e2:jw (bw (sj k)::(Di d++w9 k r))=cp (sj k)++32::jw (Di d++w9 k r):=by
   unfold jw;rw[List.map_cons,xB (by simp[nP]),G2]
  rw[e2];cases r with
  |nil=>rw[w9];simp
  |cons f r=>
   rw[if_neg (by simp),List.nil_append] at t2;have nR:w9 k (f::r)≠[]:=by rw[kF];simp
   rw[Xe nP nR,t2,GZ];simp
end
def a22 (K:PySem.W.Frag)(e:D)(xs:List Str):Prop:=e=.tup (xs.map T.str)∨∃a,e=.t (.v (.ref a))/\∀H:Hp,lM K H a (xs.map V.str)
noncomputable def inU (K:PySem.W.Frag)(neg:Bool):oN:=fun x y S k=>∃z xs,x=.str z/\a22 K y xs/\k (.bl (xor neg (decide (z∈xs)))) S
theorem Mm {X:Cx}:uG X (compareOp .NotIn) (inU X.K true):=by
 refine fK pX ?_;rintro x y H Q ⟨Y,S,d,b,k,R,ra,rb,⟨z,xs,h1,h2,q⟩,hk⟩;subst h1;rw[aE ra];rcases h2 with rfl | ⟨a,rfl,h⟩
 .obtain⟨a,vs,e1,e2,e3⟩:=d7 rb;rw[e3.strs] at e2;refine⟨a,_,e1,.inr (.of e2),rfl,mw xs,?_⟩;rw[gI];exact fin R hk aO (by rw[Bool.true_xor] at q;exact q)
 .rw[aE rb];refine⟨a,_,rfl,.inr (h H),rfl,mw xs,?_⟩;rw[gI];exact fin R hk aO (by rw[Bool.true_xor] at q;exact q)
section
variable {S loc:aS}{n:Nat}{o o':O}
theorem gA (h:n<S.length):(S.set n o++loc)[n]?=some o:=by rw[List.getElem?_append_left (by simpa using h),List.getElem?_set_self h]
theorem sA (h:n<S.length):(S.set n o++loc).set n o'=S.set n o'++loc:=by rw[List.set_append_left _ _ (by simpa using h),List.set_set]
theorem AW (h:S[n]?=some o):n<S.length:=(List.getElem?_eq_some_iff.mp h).1
theorem xA:(S.set n o).length=S.length:=List.length_set ..
end
section
variable {ts l r:List Str}{i:Nat}{w:Str}
theorem Nu (h:ts.drop i=w::r):ts.getD i ""=w/\ts.drop (i+1)=r:=by
 have e:=congrArg (fun l=>l[0]?) h;simp at e;refine⟨by rw[List.getD_eq_getElem?_getD,e];rfl,?_⟩;rw[<- List.tail_drop,h];rfl
theorem dr0 (h:ts.drop i=[]):ts.getD i ""="":=by
 have:=List.drop_eq_nil_iff.mp h;rw[List.getD_eq_getElem?_getD,List.getElem?_eq_none this];rfl
theorem YM (h:ts.drop i=l++r):ts.drop (i+l.length)=r:=by rw[<- List.drop_drop,h,List.drop_left]
end
section
variable (A:Ad)
noncomputable def qF (ts:List Str)(i:Nat)(a:Int):O:=.ins A.aX ["tokens","place","at"] [.lst (ts.map T.str),.int i,.int a]
noncomputable def KU:ef:=fun ds S k=>∃n ts i a,ds=[.ob n]/\S[n]?=some (qF A ts i a)/\k (.str (ts.getD i "")) S
noncomputable def KP:ef:=fun ds S k=>∃n ts i a,ds=[.ob n]/\S[n]?=some (qF A ts i a)/\k (.str (ts.getD i "")) (S.set n (qF A ts (i+1) a))
noncomputable def KQ:ef:=fun ds S k=>∃n ts i a w,ds=[.ob n,.str w]/\S[n]?=some (qF A ts i a)/\ts.getD i ""=w/\k .cR (S.set n (qF A ts (i+1) a))
noncomputable def KO (K:PySem.W.Frag):ef:=fun ds S k=>∃(n:Nat)(e:D)(xs ts:List Str)(i:Nat)(a:Int)(l r:List Str),ds=[.ob n,e]/\a22 K e xs/\S[n]?=some (qF A ts i a)/\ts.drop i=l++r/\(∀x∈l,x≠""/\x∉xs)/\(∀x r',r=x::r'->x=""∨x∈xs)/\l.length<=900/\k (.lst (l.map T.str)) (S.set n (qF A ts (i+l.length) a))
structure Og (b:BW):Prop where
 ne:cp b.2.1≠[]
 o:40∉cp b.2.1
 c:41∉cp b.2.1
 l1:b.1<=100
 l2:b.2.2<=100
 l3:b.2.1.length<=100
noncomputable def Sz:ef:=fun ds S k=>∃(bs:List BW)(a:D),ds=[.lst ((bs.map i7).map T.str),a]/\(∀b∈bs,Og b)/\bs.length<=1000/\k (.lst ((uK bs).map T.str)) S
noncomputable def KR:ef:=fun ds S k=>∃(n:Nat)(bs:List BW)(a:Int),ds=[.ob n,.lst ((bs.map i7).map T.str),.int a]/\S[n]?=some (.ins A.aX [] [])/\(∀b∈bs,Og b)/\bs.length<=1000/\k .cR (S.set n (qF A (uK bs) 0 a))
def Hq (r:List Str):Prop:=r.head?=none∨r.head?=some ")"
def CL (r:List Str):Prop:=r.head?=none∨∃x∈[("and":Str),"or",")"],r.head?=some x
noncomputable def Vf (m:Nat):ef:=fun ds S k=>∃(n:Nat)(ts:List Str)(i:Nat)(a:Int)(c:CW)(r:List Str),ds=[.ob n]/\S[n]?=some (qF A ts i a)/\c.ok/\c.dep<=m/\ts.drop i=qJ c++r/\Hq r/\k (.t (nW A c.cd)) (S.set n (qF A ts (i+(qJ c).length) a))
noncomputable def ZU (m:Nat):ef:=fun ds S k=>∃(n:Nat)(ts:List Str)(i:Nat)(a:Int)(c:CW)(r:List Str),ds=[.ob n]/\S[n]?=some (qF A ts i a)/\c.ok/\c.dep<=m/\(gH c=true->c.dep<m)/\ts.drop i=tX c++r/\CL r/\k (.t (nW A c.cd)) (S.set n (qF A ts (i+(tX c).length) a))
noncomputable def ZV (m:Nat):ef:=fun ds S k=>∃(n:Nat)(ts:List Str)(i:Nat)(a:Int)(c:CW)(r:List Str),ds=[.ob n]/\S[n]?=some (qF A ts i a)/\c.ok/\c.dep<=m/\ts.drop i=("(":Str)::(qJ c++(")":Str)::r)/\k (.t (nW A c.cd)) (S.set n (qF A ts (i+(qJ c).length+2) a))
noncomputable def FF:Nat->ef
 |0=>ZX
 |m+1=>ZV A m
noncomputable def ZT:ef:=fun ds S k=>∃(n:Nat)(ts:List Str)(i:Nat)(a:Int)(x y:Sw)(s:Str)(r:List Str),ds=[.ob n]/\S[n]?=some (qF A ts i a)/\tG x/\tG y/\s∈Vm/\ts.drop i=(gQ x.p x.r++s::gQ y.p y.r)++r/\CL r/\
 k (.t (nW A (.cmp (xw x.ws) s (xw y.ws)))) (S.set n (qF A ts (i+(gQ x.p x.r++s::gQ y.p y.r).length) a))
noncomputable def Z1:ef:=fun ds S k=>∃(c:CW)(a:Int),ds=[.lst (((jD c).map i7).map T.str),.int a]/\c.ok/\c.dep<=2/\(∀b∈jD c,Og b)/\(jD c).length<=1000/\k (.t (nW A c.cd)) S
end
theorem G7 {S:aS}{n:Nat}{A:Ad}{ts:List Str}{i:Nat}{a:Int}(hc:Cl S):∀o∈S.set n (qF A ts i a),Cu S.length o:=fun o ho=>by
 rcases List.mem_or_eq_of_mem_set ho with h | rfl
 .exact hc o h
 .intro d hd;simp at hd;rcases hd with rfl | rfl | rfl<;>trivial
theorem Vl:∀y∈Vm,(cp y).any (fun c=>!WH c)=true:=by symm
theorem wd1 {s:Sw}(h:tG s):∀x∈gQ s.p s.r,x≠""/\x∉Vm:=fun x hx=>⟨fun z=>(h.wd x hx).ne (by rw[z];symm),fun z=>(h.wd x hx).nw x (Vl x z) rfl⟩
theorem wd2 {s:Sw}(h:tG s):∀x∈gQ s.p s.r,x≠""/\x∉[("and":Str),"or",")"]:=fun x hx=>⟨(wd1 h x hx).1,fun z=>by
 have k:=h.wd x hx;simp at z;rcases z with z | z | z
 .exact k.kw "and" (by symm) z
 .exact k.kw "or" (by symm) z
 .exact k.nw ")" (by symm) z⟩
theorem OP {s:Sw}(h:tG s):(gQ s.p s.r).length<=41:=by rw[uP];have:=h.ok.len;omega
theorem ZH (s:Sw):∃l,gQ s.p s.r=sY s.p::l:=⟨_,rfl⟩
theorem A5 {r:List Str}(h:Hq r):CL r:=h.elim .inl fun h=>.inr ⟨")",by simp,h⟩
theorem yP (k:Bool):∀l m:List CW,nh k (l++m)=nh k l++nh k m
 |[],m=>by rw[nh];rfl
 |d::l,m=>by rw[List.cons_append,gu,gu,yP k l m];simp
theorem Sx {k:Bool}{l:List CW}{r:List Str}(h:Hq r):CL (nh k l++r):=by
 cases l with
 |nil=>rw[nh];exact A5 h
 |cons d l=>rw[gu];exact .inr ⟨sj k,by cases k<;>simp[sj],rfl⟩
theorem A6 {ts r:List Str}{i:Nat}{k:Bool}(e:ts.drop i=r)(h:Hq r):ts.getD i ""≠sj k:=by
 cases r with
 |nil=>rw[dr0 e];cases k<;>symm
 |cons x r=>
  rw[(Nu e).1];rcases h with h | h
  .simp at h
  .simp at h;rw[h];cases k<;>symm
theorem NN {S S1:aS}{n:Nat}{A:Ad}{ts:List Str}{i:Nat}{a:Int}{x:T}{k:KD}(hc:Cl S)(h:k (.t x) (S.set n (qF A ts i a))):closes S.length (.t x) (S.set n (qF A ts i a)++S1) k:=.inl ⟨_,_,rfl,xA,G7 hc,trivial,h⟩
theorem HB {r:List Str}(h:CL r):∀x r',r=x::r'->x=""∨x∈[("and":Str),"or",")"]:=fun x r' e=>by
 subst e;rcases h with h | ⟨y,hy,h⟩
 .cases h
 .injection h with h;rw[h];exact .inr hy
theorem Lh (c:CW):(2<=YD c.cd)↔gH c=true:=by
 cases c with
 |cmp a s b=>simp[CW.cd,YD,gH]
 |neg c=>simp[CW.cd,YD,gH]
 |con k cs=>cases k<;>simp[CW.cd,YD,gH]
theorem Kf {c:CW}(h:gH c=false):tX c=qJ c:=by unfold tX;rw[if_neg (by rw[h];decide)]
theorem Y6 {c:CW}(h:gH c=true):tX c=("(":Str)::(qJ c++[(")":Str)]):=by unfold tX;rw[if_pos h]
noncomputable def Ir:Nat->Nat
 |0=>83
 |d+1=>3*Ir d+2
theorem vP:∀{a b:Nat},a<=b->Ir a<=Ir b
 |0,0,_=>Nat.le_refl _
 |0,b+1,_=>by have:=vP (a:=0) (b:=b) (Nat.zero_le _);show Ir 0<=3*Ir b+2;omega
 |a+1,0,h=>by omega
 |a+1,b+1,h=>by have:=vP (a:=a) (b:=b) (by omega);show 3*Ir a+2<=3*Ir b+2;omega
theorem Au:∀l:List BW,(cls l).length=l.length
 |[]=>rfl
 |[_]=>rfl
 |a::b::r=>by rw[cls,List.length_cons,Au (b::r)];rfl
theorem Gp:∀l:List BW,(AV l).length=l.length
 |[]=>rfl
 |_::_=>rfl
structure C1 (n:Nat)(b:BW):Prop where
 ne:cp b.2.1≠[]
 o:40∉cp b.2.1
 c:41∉cp b.2.1
 sp:32∉cp b.2.1
 nl:10∉cp b.2.1
 l1:b.1<=n
 l2:b.2.2<=n
 l3:b.2.1.length<=30
theorem C1.up {n m:Nat}{b:BW}(h:C1 n b)(l:n<=m):C1 m b:=⟨h.ne,h.o,h.c,h.sp,h.nl,Nat.le_trans h.l1 l,Nat.le_trans h.l2 l,h.l3⟩
theorem RP {n:Nat}:∀{l:List BW},(∀b∈l,C1 n b)->∀b∈AV l,C1 (n+1) b
 |[],h=>fun b hb=>by cases hb
 |(o,x,c)::r,h=>fun b hb=>by
  rw[AV] at hb;rcases List.mem_cons.mp hb with rfl | hb
  .have:=h _ (List.mem_cons_self ..);exact⟨this.ne,this.o,this.c,this.sp,this.nl,Nat.succ_le_succ this.l1,Nat.le_succ_of_le this.l2,this.l3⟩
  .exact(h b (List.mem_cons_of_mem _ hb)).up (Nat.le_succ _)
theorem Hh {n m:Nat}:∀{l:List BW},(∀b∈l,C1 m b)->(∀b∈l,b.2.2<=n)->n+1<=m->∀b∈cls l,C1 m b
 |[],h,_,_=>fun b hb=>by cases hb
 |[(o,x,c)],h,k,l=>fun b hb=>by
  rw[cls,List.mem_singleton] at hb;subst hb;have:=h _ (List.mem_cons_self ..);have q:=k _ (List.mem_cons_self ..);exact⟨this.ne,this.o,this.c,this.sp,this.nl,this.l1,Nat.le_trans (Nat.succ_le_succ q) l,this.l3⟩
 |a::b'::r,h,k,l=>fun b hb=>by
  rw[cls] at hb;rcases List.mem_cons.mp hb with rfl | hb
  .exact h _ (List.mem_cons_self ..)
  .exact Hh (fun z hz=>h z (List.mem_cons_of_mem _ hz)) (fun z hz=>k z (List.mem_cons_of_mem _ hz)) l b hb
theorem Wq {n:Nat}:∀{l:List BW},(∀b∈l,b.2.2<=n)->∀b∈AV l,b.2.2<=n
 |[],h=>fun b hb=>by cases hb
 |(o,x,c)::r,h=>fun b hb=>by
  rw[AV] at hb;rcases List.mem_cons.mp hb with rfl | hb
  .exact h (o,x,c) (List.mem_cons_self ..)
  .exact h b (List.mem_cons_of_mem _ hb)
theorem NX {n:Nat}{l:List BW}(h:∀b∈l,C1 n b):∀b∈cls (AV l),C1 (n+1) b:=Hh (RP h) (Wq fun b hb=>(h b hb).l2) (Nat.le_refl _)
theorem NW {x:Str}(h:lK x)(n:Nat):C1 n (bw x):=⟨h.ne,h.no,h.no,h.no,h.no,Nat.zero_le _,Nat.zero_le _,h.len⟩
theorem Ay (x:Str)(n:Nat)(h:(decide (cp x≠[])&&!((cp x).contains 40)&&!((cp x).contains 41)&&!((cp x).contains 32)&&!((cp x).contains 10)&&decide (x.length<=30))=true):C1 n (bw x):=by
 simp only[Bool.and_eq_true,decide_eq_true_eq,Bool.not_eq_true',List.contains_eq_mem,decide_eq_false_iff_not] at h;obtain⟨⟨⟨⟨⟨h1,h2⟩,h3⟩,h4⟩,h5⟩,h6⟩:=h;exact⟨h1,h2,h3,h4,h5,Nat.zero_le _,Nat.zero_le _,h6⟩
theorem Vk:∀x∈Vm,(decide (cp x≠[])&&!((cp x).contains 40)&&!((cp x).contains 41)&&!((cp x).contains 32)&&!((cp x).contains 10)&&decide (x.length<=30))=true:=by symm
theorem W8 (k:Bool):(decide (cp (sj k)≠[])&&!((cp (sj k)).contains 40)&&!((cp (sj k)).contains 41)&&!((cp (sj k)).contains 32)&&!((cp (sj k)).contains 10)&&decide ((sj k).length<=30))=true:=by cases k<;>symm
mutual
theorem tU:∀{c:CW},c.ok->(∀b∈jD c,C1 c.dep b)/\(jD c).length<=Ir c.dep
 |.cmp x s y,h=>by
  unfold CW.ok at h;rw[jD,CW.dep];constructor
  .intro b hb;obtain⟨w,hw,rfl⟩:=List.mem_map.mp hb;rcases List.mem_append.mp hw with hw | hw
   .exact NW (h.1.wd w hw) _
   .rcases List.mem_cons.mp hw with rfl | hw
    .exact Ay _ _ (Vk _ h.2.2)
    .exact NW (h.2.1.wd w hw) _
  .have h1:=OP h.1;have h2:=OP h.2.1;rw[List.length_map,List.length_append,List.length_cons];show _<=83;omega
 |.neg c,h=>by
  unfold CW.ok at h;obtain⟨h1,h2⟩:=tU h;rw[jD,CW.dep];constructor
  .intro b hb;rcases List.mem_cons.mp hb with rfl | hb
   .exact Ay _ _ (by symm)
   .exact NX h1 b hb
  .rw[List.length_cons,Au,Gp];show _<=3*Ir c.dep+2;omega
 |.con k cs,h=>by
  unfold CW.ok at h;obtain⟨h1,h2⟩:=Fc k h.1;rw[jD,CW.dep];refine⟨fun b hb=>h1 b (List.mem_of_mem_tail hb),?_⟩;rw[List.length_tail];show _<=3*Ir (nV cs)+2;have h3:=h.2.2;have:(Ir (nV cs)+1)*cs.length<=(Ir (nV cs)+1)*3:=Nat.mul_le_mul_left _ h3;omega
theorem Fc (k:Bool):∀{l:List CW},DX l->(∀b∈w9 k l,C1 (nV l+1) b)/\(w9 k l).length<=(Ir (nV l)+1)*l.length
 |[],_=>by rw[w9];exact⟨(fun b hb=>absurd hb List.not_mem_nil),Nat.zero_le _⟩
 |d::r,h=>by
  unfold DX at h;obtain⟨h1,h2⟩:=tU h.1;obtain⟨h3,h4⟩:=Fc k h.2;rw[w9,nV];have m1:=Nat.le_max_left d.dep (nV r);have m2:=Nat.le_max_right d.dep (nV r);constructor
  .intro b hb;rcases List.mem_cons.mp hb with rfl | hb
   .exact Ay _ _ (W8 k)
   .rcases List.mem_append.mp hb with hb | hb
    .split at hb
     .exact(NX h1 b hb).up (by omega)
     .exact(h1 b hb).up (by omega)
    .exact(h3 b hb).up (by omega)
  .have e:(if gH d=true then cls (AV (jD d)) else jD d).length=(jD d).length:=by
    split
    .rw[Au,Gp]
    .rfl
   rw[List.length_cons,List.length_append,e,List.length_cons];have u1:=vP m1;have u2:=Nat.mul_le_mul_right r.length (Nat.succ_le_succ (vP m2));rw[Nat.mul_succ];simp only[Nat.succ_eq_add_one] at u2;omega
end
def Jb (c:CW):Prop:=c.ok/\c.dep<=2
theorem Jb.bw {c:CW}(h:Jb c):∀b∈jD c,C1 2 b:=fun b hb=>((tU h.1).1 b hb).up h.2
theorem Jb.b {c:CW}(h:Jb c):∀b∈jD c,Og b:=fun b hb=>by
 have q:=h.bw b hb;have q1:=q.l1;have q2:=q.l2;have q3:=q.l3;exact⟨q.ne,q.o,q.c,by omega,by omega,by omega⟩
theorem Jb.ln {c:CW}(h:Jb c):(jD c).length<=755:=Nat.le_trans (tU h.1).2 (vP h.2)
theorem Lp {n:Nat}{b:BW}(h:C1 n b):32∉cp (i7 b)/\10∉cp (i7 b):=by
 rw[fZ];constructor<;>intro z<;>rcases List.mem_append.mp z with z | z
 .rw[List.mem_replicate] at z;omega
 .rcases List.mem_append.mp z with z | z
  .exact h.sp z
  .rw[List.mem_replicate] at z;omega
 .rw[List.mem_replicate] at z;omega
 .rcases List.mem_append.mp z with z | z
  .exact h.nl z
  .rw[List.mem_replicate] at z;omega
theorem yu (l:List T)(n:Nat):mG l (some (n:Int)) none=l.drop n:=by
 unfold mG;rw[HT.jN,HT.vj,List.take_of_length_le (by simp)];rcases Nat.le_total n l.length with h | h
 .rw[Nat.min_eq_left h]
 .rw[Nat.min_eq_right h,List.drop_length,List.drop_eq_nil_of_le h]
theorem T9 (l:List T)(n:Nat):mG l none (some (n:Int))=l.take n:=by
 unfold mG;rw[HT.jN,HT.vj,List.drop_zero,Nat.sub_zero];rcases Nat.le_total n l.length with h | h
 .rw[Nat.min_eq_left h]
 .rw[Nat.min_eq_right h,List.take_length,List.take_of_length_le h]
theorem XX (l:List T){m n:Nat}(h:m<=n)(hn:n<=l.length):mG l (some (m:Int)) (some (n:Int))=(l.drop m).take (n - m):=by
 unfold mG;rw[HT.jN,HT.jN,Nat.min_eq_left hn,Nat.min_eq_left (Nat.le_trans h hn)]
theorem Xo {neg:Bool}{x:Str}{ws:List Str}{d:D}{S:aS}{k:KD}(hd:sq S d=some (ws.map T.str))(h:k (.bl (xor neg (decide (x∈ws)))) S):in3 neg (.str x) d S k:=
 ⟨_,_,_,rfl,rfl,hd,Ak ws,by rw[gI];exact h⟩
section
variable (A:Ad)
noncomputable def ez (R:List (List Str))(i:Nat):O:=.ins A.cO ["rows","at"] [.lst (R.map fun ws=>T.lst (ws.map T.str)),.int i]
noncomputable def KZ:ef:=fun ds S k=>∃(n:Nat)(d:D)(xs:List Str),ds=[.ob n,d]/\S[n]?=some (.ins A.cO [] [])/\xq S d=some (xs.map T.str)/\xs.length<=1000/\(∀x∈xs,x.length<=100000)/\k .cR (S.set n (ez A (xs.map fun x=>Txt.split x " ") 0))
noncomputable def K0:ef:=fun ds S k=>∃n R i,ds=[.ob n]/\S[n]?=some (ez A R i)/\(i<R.length->R.getD i []≠[])/\k (.str ((R.getD i []).headD "")) S
noncomputable def KY:ef:=fun ds S k=>∃n R i ws,ds=[.ob n]/\S[n]?=some (ez A R i)/\R[i]?=some ws/\k (.lst (ws.map T.str)) (S.set n (ez A R (i+1)))
noncomputable def Oh (w:Str)(c:CW):List Str:=w::(jD c).map i7
end
inductive SX where
 |lt (x:Str) (a:Sw) | dv (x wd:Str) (a b:Sw) | ft (x r:Str) (p:Sw) | pt (r:Str) (p s:Sw) | mq (r:Str) (z:Sw) | cm (c:CW) | cl (ns:List Str) (hp:Str) (g:List Sw)
noncomputable def SX.st (i:Nat):SX->Yx
 |.lt x a=>.lt i x (xw a.ws)
 |.dv x wd a b=>.dv i x wd (xw a.ws) (xw b.ws)
 |.ft x r p=>.ft i x r (xw p.ws)
 |.pt r p s=>.pt i r (xw p.ws) (xw s.ws)
 |.mq r z=>.mq i r (xw z.ws)
 |.cm c=>.cm i c.cd
 |.cl ns hp g=>.cl i ns hp (g.map fun s=>xw s.ws)
noncomputable abbrev Sw.w (s:Sw):List Str:=gQ s.p s.r
noncomputable def cmA:List Str->List Str
 |[]=>[]
 |[x]=>[x++(",":Str)]
 |x::y::r=>x::cmA (y::r)
noncomputable def giW:List Sw->List Str
 |[]=>[]
 |[s]=>s.w
 |s::t::r=>cmA s.w++giW (t::r)
noncomputable def clN (ns:List Str):List Str:=if ns=[] then[] else ns++[("=":Str)]
noncomputable def SX.AU:SX->List Str
 |.lt x a=>("let":Str)::x::("=":Str)::a.w
 |.dv x wd a b=>("let":Str)::x::("=":Str)::(a.w++wd::b.w)
 |.ft x r p=>("let":Str)::x::("=":Str)::r::("at":Str)::p.w
 |.pt r p s=>("put":Str)::r::("at":Str)::(p.w++("=":Str)::s.w)
 |.mq r z=>("row":Str)::r::("=":Str)::z.w
 |.cm c=>Oh "claim" c
 |.cl ns hp g=>("call":Str)::(clN ns++hp::giW g)
def SX.ok:SX->Prop
 |.lt x a=>isNm x=true/\tG a
 |.dv x wd a b=>isNm x=true/\(wd="div"∨wd="mod")/\tG a/\tG b
 |.ft x r p=>isNm x=true/\isNm r=true/\tG p
 |.pt r p s=>isNm r=true/\tG p/\tG s
 |.mq r z=>isNm r=true/\tG z
 |.cm c=>Jb c
 |.cl ns hp g=>(∀x∈ns,isNm x=true)/\ns.length<=10/\isNm hp=true/\g.length<=10/\∀s∈g,tG s
section
variable (A:Ad)
noncomputable def HC (P:SX->Prop):ef:=fun ds S k=>∃(x:SX)(i:Nat),ds=[.lst (x.AU.map T.str),.int i]/\P x/\x.ok/\k (.t (ZK A (x.st i))) S
def GC:SX->Prop
 |.pt ..=>True | _=>False
def Ri:SX->Prop
 |.mq ..=>True | _=>False
end
section
variable {R l r:List (List Str)}{i:Nat}{w:List Str}
theorem rr1 (h:R.drop i=w::r):R[i]?=some w/\R.getD i []=w/\R.drop (i+1)=r:=by
 have e:=congrArg (fun l=>l[0]?) h;simp at e;refine⟨e,by rw[List.getD_eq_getElem?_getD,e];rfl,?_⟩;rw[<- List.tail_drop,h];rfl
end
theorem G6 {S:aS}{n:Nat}{A:Ad}{R:List (List Str)}{i:Nat}(hc:Cl S):∀o∈S.set n (ez A R i),Cu S.length o:=fun o ho=>by
 rcases List.mem_or_eq_of_mem_set ho with h | rfl
 .exact hc o h
 .intro d hd;simp at hd;rcases hd with rfl | rfl<;>trivial
theorem kW {x:Str}(h:isNm x=true):lK x:=by
 unfold isNm at h;simp only[Bool.and_eq_true,decide_eq_true_eq,Bool.not_eq_true',decide_eq_false_iff_not] at h;obtain⟨⟨⟨h1,h2⟩,h3⟩,h4⟩:=h;refine⟨fun z=>?_,fun c hc=>?_,h3,by omega⟩
 .rw[bg,z] at h1;simp at h1
 .rw[List.all_eq_true] at h4;unfold WH;rw[h4 c hc];rfl
theorem b4 {x:Str}(h:isNm x=true):x.length<=8:=by
 unfold isNm at h;simp only[Bool.and_eq_true,decide_eq_true_eq] at h;exact h.1.1.2
theorem G4:∀{l:List Str}{x:Str},x∈cmA l->x∈l∨∃y∈l,x=y++(",":Str)
 |[y],x,h=>.inr ⟨y,by simp,by simpa[cmA] using h⟩
 |y::z::r,x,h=>by
  rw[cmA] at h;rcases List.mem_cons.mp h with rfl | h
  .exact .inl (by simp)
  .rcases G4 h with h | ⟨w,h1,h2⟩
   .exact .inl (List.mem_cons_of_mem _ h)
   .exact .inr ⟨w,List.mem_cons_of_mem _ h1,h2⟩
theorem GJ:∀{l:List Sw}{x:Str},x∈giW l->(∃s∈l,x∈s.w)∨∃s∈l,∃y∈s.w,x=y++(",":Str)
 |[s],x,h=>.inl ⟨s,by simp,h⟩
 |s::t::r,x,h=>by
  rw[giW] at h;rcases List.mem_append.mp h with h | h
  .rcases G4 h with h | ⟨w,h1,h2⟩
   .exact .inl ⟨s,by simp,h⟩
   .exact .inr ⟨s,by simp,w,h1,h2⟩
  .rcases GJ h with⟨u,h1,h2⟩ | ⟨u,h1,y,h2,h3⟩
   .exact .inl ⟨u,List.mem_cons_of_mem _ h1,h2⟩
   .exact .inr ⟨u,List.mem_cons_of_mem _ h1,y,h2,h3⟩
theorem Na {l:List Sw}(h:∀s∈l,tG s):∀x∈giW l,x≠("=":Str)/\32∉cp x/\10∉cp x/\x.length<=31:=fun x hx=>by
 rcases GJ hx with⟨s,hs,hw⟩ | ⟨s,hs,y,hy,rfl⟩
 .have k:=(h s hs).wd x hw;exact⟨k.nw "=",k.no,k.no,by have:=k.len;omega⟩
 .have k:=(h s hs).wd y hy;have e:cp (y++(",":Str))=cp y++[44]:=by rw[aQ,show cp (",":Str)=[44] by symm]
  refine⟨fun z=>?_,fun z=>?_,fun z=>?_,?_⟩
  .have:44∈cp ("=":Str):=by rw[<- z,e];simp
   revert this;symm
  .rw[e] at z;rcases List.mem_append.mp z with z | z
   .exact(k.no (c:=32)) z
   .simp at z
  .rw[e] at z;rcases List.mem_append.mp z with z | z
   .exact(k.no (c:=10)) z
   .simp at z
  .have:=k.len;rw[bg] at this ⊢;rw[e];simp;exact this
theorem UN (x:SX):∃y ys,x.AU=y::ys/\y∉[("end":Str),"else"]:=by
 cases x<;>exact⟨_,_,rfl,by symm⟩
end L3
namespace L3
open PySem L2 Hw PyProof.Rows
section
variable {X:Cx}{o e:Expr}{to:bU}{t:mH}{BM cpos:Pos}
end
def YV (x:Str):Prop:=1<=x.length/\x.length<=8/\(cp x).all mD=true
def CM (x:Str):Prop:=∃c,x=⟨#[c]⟩/\mD c=true
theorem a08 {x:Str}(h:YV x)(k:x∉sr):isNm x=true:=by
 unfold isNm;rw[decide_eq_true h.1,decide_eq_true h.2.1,decide_eq_false (show x∉pZ from k),show x.cps.toList.all mD=true from h.2.2];rfl
theorem Gw {r:Nat}(h:r<26):CM ⟨#[97+r]⟩:=⟨_,rfl,by unfold mD;rw[decide_eq_true (by omega),decide_eq_true (by omega)];rfl⟩
theorem vQ (i:Int):CM ⟨#[97+(i % 26).toNat]⟩:=Gw (by have:=Int.emod_nonneg i (show(26:Int)≠0 by decide);have:=Int.emod_lt_of_pos i (show(0:Int)<26 by decide);omega)
theorem CM.len {x:Str}(h:CM x):x.length=1:=by obtain⟨c,rfl,_⟩:=h;rfl
theorem a4h (k:Int)(t:Nat):YV (zt k t):=by
 refine⟨by unfold zt;rw[Jk];decide,by unfold zt;rw[Jk];decide,?_⟩;obtain⟨c1,e1,s1⟩:=vQ (t:Int);obtain⟨c2,e2,s2⟩:=vQ (k+t);unfold zt;show(zw _ _).cps.toList.all mD=true;rw[yG];injection e1 with e1
 injection e1 with e1
 injection e1 with e1
 injection e2 with e2
 injection e2 with e2
 injection e2 with e2
 rw[e1,e2];simp[s1,s2];decide
theorem Ub:∀ss:List Str,cp (Txt.join "" ss)=(ss.map cp).flatten
 |[]=>by symm
 |x::r=>by
  rw[Ct,List.map_cons,List.flatten_cons,show cp ("":Str)=[] by symm];rfl
theorem Xg {ss:List Str}(h:∀x∈ss,CM x)(h0:0<ss.length)(h1:ss.length<=8):YV (Txt.join "" ss):=by
 have e:=Ub ss;have hl:(cp (Txt.join "" ss)).length=ss.length:=by
  rw[e];clear e h0 h1
  induction ss with
  |nil=>rfl
  |cons x r ih=>
   obtain⟨c,rfl,_⟩:=h x (List.mem_cons_self ..);have:=ih fun y hy=>h y (List.mem_cons_of_mem _ hy);rw[List.map_cons,List.flatten_cons,List.length_append,this];show 1+r.length=r.length+1;omega
 refine⟨by rw[bg,hl];omega,by rw[bg,hl];omega,?_⟩;rw[e,List.all_flatten,List.all_map,List.all_eq_true];intro x hx;obtain⟨c,rfl,s⟩:=h x hx;show[c].all mD=true;simp[s]
structure ThN (x:Str):Prop where
 th:iI x=true
 wd:lK x
 len:x.length<=9
 ne:x≠""
theorem BL {x:Str}(h:isNm x=true):ThN x:=⟨by unfold iI;rw[h];rfl,kW h,by have:=b4 h;omega,fun z=>by rw[z] at h;revert h;symm⟩
theorem RB:cp ("#":Str)=[35]:=by symm
theorem Rk {x:Str}(h:isNm x=true):ThN (("#":Str)++x):=by
 have l:=b4 h;have e:cp (("#":Str)++x)=35::cp x:=by rw[aQ,RB];rfl
 have ln:(("#":Str)++x).length=x.length+1:=by rw[bg,bg,e];simp
 have k:=kW h;refine⟨?_,⟨by rw[e];simp,fun c hc=>?_,fun z=>?_,by omega⟩,by omega,fun z=>?_⟩
 .unfold iI;have s1:Txt.startswith (("#":Str)++x) "#"=true:=by
   have e0:(⟨#[35]⟩:Str)="#":=by symm
   rw[<- e0];obtain⟨h1,h2⟩:=j6.mpr (show(cp ((⟨#[35]⟩:Str)++x))[0]?=some 35 by rw[NI];rfl);show(decide (0+_<=_)&&Builtin.Str.subAt _ _ 0)=true;rw[Bool.and_eq_true];exact⟨decide_eq_true h1,h2⟩
  have s2:Txt.slice (("#":Str)++x) (some 1) none=x:=eZ (by rw[a2v (by omega),e];rfl);rw[s1,s2,h];simp
 .rw[e] at hc;rcases List.mem_cons.mp hc with rfl | hc
  .decide
  .exact k.ok c hc
 .have:∀y∈pZ,(cp y).head?≠some 35:=by symm
  exact this _ z (by rw[e];rfl)
 .have:=congrArg cp z;rw[e,wD] at this;cases this
noncomputable def Ew (m:Nat):List Nat:=(Nat.toDigits 10 m).map Char.toNat
theorem uC (v:Int):n5 v=((v.natAbs:Nat):Int):=by unfold n5;split<;>omega
theorem As (v:Int):cp (iU v)=Ew v.natAbs:=by
 unfold iU Ew;rw[uC];exact PySem.W.KIN.signs_num _
theorem Am (m:Nat):∀c∈Ew m,s9 c=true:=fun c hc=>by
 obtain⟨ch,hch,e⟩:=List.mem_map.mp hc;have hd:=Nat.isDigit_of_mem_toDigits (b:=10) (by decide) (by decide) hch;have r:48<=ch.toNat/\ch.toNat<=57:=by
  unfold Char.isDigit at hd;simp only[Bool.and_eq_true,decide_eq_true_eq] at hd;have h1:=hd.1;have h2:=hd.2;exact⟨by simpa using UInt32.le_iff_toNat_le.mp h1,by simpa using UInt32.le_iff_toNat_le.mp h2⟩
 unfold s9;rw[<- e,decide_eq_true r.1,decide_eq_true r.2];rfl
theorem Eu (m:Nat):Ew m≠[]:=fun z=>by
 have h:=PySem.toDigits_len_ge 10 m;rw[List.map_eq_nil_iff.mp z] at h;exact absurd h (by decide)
theorem GU {m:Nat}(h:m<=999999999):(Ew m).length<=9:=by
 unfold Ew;rw[List.length_map];exact PySem.toDigits_len_pow (by decide) (by decide) (by omega)
theorem XR (m:Nat):1<=m->(Ew m).head?≠some 48:=by
 induction m using Nat.strongRecOn with
 |_ m ih=>
  intro h1;by_cases h:m<10
  .unfold Ew;rw[Nat.toDigits_of_lt_base h];have:∀d:Nat,d<10->1<=d->([Nat.digitChar d].map Char.toNat).head?≠some 48:=by decide
   exact this m h h1
  .have hm:m % 10<10:=Nat.mod_lt m (by decide);have t:Nat.toDigits 10 (m / 10)++Nat.toDigits 10 (m % 10)=Nat.toDigits 10 (10*(m / 10)+m % 10):=Nat.toDigits_append_toDigits (by decide) (by omega) hm;rw[Nat.div_add_mod] at t;have q:=ih (m / 10) (by omega) (by omega);have ne:=Eu (m / 10);unfold Ew at q ne ⊢;rw[<- t,List.map_append];cases e:(Nat.toDigits 10 (m / 10)).map Char.toNat with
   |nil=>exact absurd e ne
   |cons a r=>rw[e] at q;exact q
theorem qb {c:Nat}(h:s9 c=true):WH c=true/\mD c=false/\c≠42/\c≠35/\c≠45:=by
 unfold s9 at h;simp only[Bool.and_eq_true,decide_eq_true_eq] at h;refine⟨by unfold WH s9;rw[decide_eq_true h.1,decide_eq_true h.2];simp,by unfold mD;rw[decide_eq_false (by omega)];rfl,by omega,by omega,by omega⟩
theorem pI {x:Str}{c:Nat}(h:(cp x).head?≠some c):Txt.startswith x ⟨#[c]⟩=false:=by
 cases q:Txt.startswith x ⟨#[c]⟩ with
 |false=>rfl
 |true=>
  have q:(decide (0+_<=_)&&Builtin.Str.subAt _ _ 0)=true:=q;rw[Bool.and_eq_true] at q;have:=(j6 (x:=x) (c:=c) (i:=0)).mp ⟨of_decide_eq_true q.1,q.2⟩;exact absurd (by rw[List.head?_eq_getElem?];exact this) h
structure CK (x:Str):Prop where
 wd:lK x
 len:x.length<=20
 hd:∃c r,cp x=c::r/\s9 c=true
theorem CK.nm {x:Str}(h:CK x):isNm x=false:=by
 obtain⟨c,r,e,hc⟩:=h.hd;unfold isNm;rw[show x.cps.toList=c::r from e,List.all_cons,(qb hc).2.1];simp
theorem CK.th {x:Str}(h:CK x):iI x=false:=by
 obtain⟨c,r,e,hc⟩:=h.hd;unfold iI;rw[h.nm,show("#":Str)=⟨#[35]⟩ by symm,pI (by rw[e];intro z;injection z with z;exact(qb hc).2.2.2.1 z)];rfl
theorem CK.mi {x:Str}(h:CK x):Txt.startswith x "-"=false:=by
 obtain⟨c,r,e,hc⟩:=h.hd;rw[show("-":Str)=⟨#[45]⟩ by symm];exact pI (by rw[e];intro z;injection z with z;exact(qb hc).2.2.2.2 z)
theorem IC:∀y∈pZ,∀c∈cp y,s9 c=false:=by symm
theorem WJ {v:Int}(h1:-999999999<=v)(h2:v<=999999999):CK (iU v):=by
 have e:=As v;have l:=GU (m:=v.natAbs) (by omega);have hl:(iU v).length<=9:=by rw[bg,e];exact l
 have ne:=Eu v.natAbs;obtain⟨c,r,ec⟩:∃c r,Ew v.natAbs=c::r:=by
  cases q:Ew v.natAbs with
  |nil=>exact absurd q ne
  |cons c r=>exact⟨c,r,rfl⟩
 have fc:=Am v.natAbs;refine⟨⟨by rw[e];exact ne,fun d hd=>(qb (fc d (by rw[<- e];exact hd))).1,fun z=>?_,by omega⟩,by omega,c,r,by rw[e,ec],fc c (by rw[ec];simp)⟩;have:=IC _ z c (by rw[e,ec];simp);rw[fc c (by rw[ec];simp)] at this;cases this
theorem Mv (v:Int):El (iU v)=true:=by
 unfold El;rw[show(iU v).cps.toList=Ew v.natAbs from As v,List.all_eq_true];exact Am _
theorem Mw {v:Int}(h1:-999999999<=v)(h2:v<=999999999):s8 (iU v)=true:=by
 have e:=As v;have l:=GU (m:=v.natAbs) (by omega);have hl:(iU v).length=(Ew v.natAbs).length:=by rw[bg,e]
 have h0:1<=(Ew v.natAbs).length:=by
  have:=Eu v.natAbs;cases q:Ew v.natAbs with
  |nil=>exact absurd q this
  |cons a r=>simp
 have hz:(decide ((cp (iU v)).head?=some 48)&&decide (iU v≠"0"))=false:=by
  by_cases q:v.natAbs=0
  .have:iU v="0":=by unfold iU;rw[uC,q];symm
   rw[this];symm
  .rw[decide_eq_false (by rw[e];exact XR _ (by omega))];rfl
 unfold s8;rw[hl,decide_eq_true h0,decide_eq_true l,hz,Mv];rfl
theorem Mu (v:Int):42∉cp (iU v):=fun z=>by
 rw[As] at z;exact(qb (Am _ _ z)).2.2.1 rfl
theorem QM {v:Int}(h1:-999999999<=v)(h2:v<=999999999):PySem.intText? (iU v)=some (n5 v):=PySem.W.KIN.num_reads (by rw[uC];omega) (by rw[uC];omega)
def PcB (p:Str×Int):Prop:=(p.1=""∨ThN p.1)/\-999999999<=p.2/\p.2<=999999999
structure Pw (p:Str×Int)(q:Bool×Str):Prop where
 sg:q.1=decide (p.2<0)
 pc:Pc q p
 wd:lK q.2
 len:q.2.length<=20
 mi:Txt.startswith q.2 "-"=false
theorem Z6 (v:Int):v=(if decide (v<0)=true then -(n5 v) else n5 v):=by
 unfold n5;by_cases h:v<0
 .rw[decide_eq_true h,if_pos rfl,if_pos h];omega
 .rw[decide_eq_false h,if_neg (by decide),if_neg h]
theorem Lz {v:Int}(h:PcB ("",v)):Pw ("",v) (decide (v<0),iU v):=by
 have k:CK (iU v):=WJ h.2.1 h.2.2;exact⟨rfl,⟨by have:=k.len;show(iU v).length<=100;omega,n5 v,.num k.th (Mw h.2.1 h.2.2) (Mu v) (QM h.2.1 h.2.2),Z6 v⟩,k.wd,k.len,k.mi⟩
theorem Y7 {t:Str}(ht:ThN t):Txt.startswith t "-"=false:=by
 rw[show("-":Str)=⟨#[45]⟩ by symm];refine pI fun z=>?_;have h:=ht.th;unfold iI isNm at h;rw[Bool.or_eq_true] at h;obtain⟨r,e⟩:∃r,cp t=45::r:=by
  cases q:cp t with
  |nil=>rw[q] at z;cases z
  |cons a r=>rw[q] at z;injection z with z;exact⟨r,by rw[z]⟩
 rcases h with h | h
 .simp only[Bool.and_eq_true] at h;have:=h.2;rw[show t.cps.toList=45::r from e] at this;simp[mD] at this
 .rw[Bool.and_eq_true,show("#":Str)=⟨#[35]⟩ by symm,pI (by rw[e];simp)] at h;cases h.1
theorem zL {t:Str}{v:Int}(ht:ThN t)(h:n5 v=1):Pw (t,v) (decide (v<0),t):=
 ⟨rfl,⟨by have:=ht.len;show t.length<=100;omega,1,.nm ht.th,by have:=Z6 v;rw[h] at this;exact this⟩,ht.wd,by have:=ht.len;show t.length<=20;omega,Y7 ht⟩
theorem Ng {α β:Type}{F:α->β->Prop}{G:β->α->Prop}(h:∀a b,F a b->G b a):∀{l:List α}{m:List β},Paired F l m->Paired G m l
 |_,_,.nil=>.nil
 |_,_,.cons r t=>.cons (h _ _ r) (Ng h t)
theorem L6 {α β:Type}{F:α->β->Prop}{R:β->Prop}(h:∀a b,F a b->R b){l:List α}{m:List β}(p:Paired F l m):∀b∈m,R b:=by
 induction p with
 |nil=>intro b hb;exact absurd hb List.not_mem_nil
 |cons r t ih=>
  intro b hb;rcases List.mem_cons.mp hb with rfl | hb
  .exact h _ _ r
  .exact ih b hb
theorem YZ {l:List (Str×Int)}(h:∀p∈l,-3<=p.2/\p.2<=17)(x:Str):-3*(l.length:Int)<=wt l x/\wt l x<=17*(l.length:Int):=by
 induction l with
 |nil=>rw[Dg];exact⟨by simp,by simp⟩
 |cons p l ih=>
  have:=ih fun q hq=>h q (List.mem_cons_of_mem _ hq);have k:=h p (List.mem_cons_self ..);rw[fE,List.length_cons];split<;>(constructor<;>push_cast<;>omega)
theorem OX (n:Bool):lK (mE n):=by
 cases n with
 |true=>exact⟨by symm,by symm,by symm,by symm⟩
 |false=>exact⟨by symm,by symm,by symm,by symm⟩
theorem Rn {q:Bool×Str}(h:lK q.2)(l:q.2.length<=20):lK (sY q):=by
 unfold sY;split
 .have e:cp (("-":Str)++q.2)=45::cp q.2:=by rw[aQ,show cp ("-":Str)=[45] by symm];rfl
  have k:∀y∈pZ,(cp y).head?≠some 45:=by symm
  refine⟨by rw[e];simp,fun c hc=>?_,fun z=>k _ z (by rw[e];rfl),?_⟩
  .rw[e] at hc;rcases List.mem_cons.mp hc with rfl | hc
   .decide
   .exact h.ok c hc
  .rw[bg] at l;rw[bg,e,List.length_cons];omega
 .exact h
theorem TH {M:Nat}:∀{l:List Str},(∀x∈l,x.length<=M)->(jn l).length<=(M+1)*l.length
 |[],_=>Nat.zero_le _
 |[a],h=>by have:=h a (by simp);rw[bg] at this;show(cp a).length<=(M+1)*1;omega
 |a::b::r,h=>by
  have ih:=TH (l:=b::r) fun x hx=>h x (List.mem_cons_of_mem _ hx);have h1:=h a (by simp);rw[bg] at h1;rw[gq,List.length_append,List.length_cons,List.length_cons (a:=a),Nat.mul_succ];omega
theorem Pd {n:Nat}{b:BW}(h:C1 n b):(i7 b).length<=30+2*n:=by
 have h1:=h.l1;have h2:=h.l2;have h3:=h.l3;rw[bg] at h3;rw[bg,fZ];simp;have:(cp b.2.1).length=b.2.1.cps.size:=by simp[cp]
 omega
theorem UQ {c:CW}(h:Jb c):(xU c).length<=30000:=by
 have l:=h.ln;have:=TH (l:=(jD c).map i7) (M:=34) fun x hx=>by
  obtain⟨b,hb,rfl⟩:=List.mem_map.mp hx;exact Pd (h.bw b hb)
 rw[List.length_map] at this;rw[bg,Cq h.1];unfold jw;omega
theorem a4C {t u:ku}{E:wR}{Z:Sl}{S:aS}(I:KS)(h1:∀N:KS,(∀Z S,I Z S->N Z S)->t {E with nx:=N } Z S)(h2:∀Z S,I Z S->u E Z S):pG t u E Z S:=h1 _ h2
section
variable {S loc:aS}{d q:Nat}{c m:Int}{o:O}
end
end L3
namespace L3
open PySem L2 Hw
theorem jn2 {a b:Str}{m:List Str}(h:m≠[]):jn (a::b::m)=cp a++32::(cp b++32::jn m):=by rw[gq,xB h]
theorem jn3 {a b c:Str}{m:List Str}(h:m≠[]):jn (a::b::c::m)=cp a++32::(cp b++32::(cp c++32::jn m)):=by rw[gq,jn2 h]
theorem Sj (x:Str)(w:Sw):cp (((("let ":Str)++x)++(" = ":Str))++w.txt)=jn (SX.lt x w).AU:=by
 show _=jn (("let":Str)::x::("=":Str)::w.w);rw[jn3 (rS _ _),aQ,aQ,aQ,nj,RA,Ex,X3,NH];simp
theorem Y4 (r:Str)(w v:Sw):cp ((((((("put ":Str)++r)++(" at ":Str))++w.txt)++(" = ":Str)))++v.txt)=jn (SX.pt r w v).AU:=by
 show _=jn (("put":Str)::r::("at":Str)::(w.w++("=":Str)::v.w));rw[jn3 (by simp),vY (rS _ _) (by simp),xB (rS _ _)];simp only[aQ,nj,Ry,Ex,XZ,NH,X5,a2y];simp
theorem Y5 (r:Str)(w:Sw):cp (((("row ":Str)++r)++(" = ":Str))++w.txt)=jn (SX.mq r w).AU:=by
 show _=jn (("row":Str)::r::("=":Str)::w.w);rw[jn3 (rS _ _)];simp only[aQ,nj,Rx,Ex,XY,NH];simp
theorem Y3 {w:Str}{c:CW}{w':Str}(hw:cp w'=cp w++[32])(ok:c.ok):cp (w'++xU c)=jn (Oh w c):=by
 unfold Oh;rw[xB (by simpa using nH ok),aQ,hw,Cq ok];unfold jw;simp
theorem UM {x:SX}(ok:x.ok):∀w∈x.AU,32∉cp w/\10∉cp w:=by
 have lit:∀y:Str,((cp y).contains 32||(cp y).contains 10)=false->32∉cp y/\10∉cp y:=fun y h=>by
  simp only[Bool.or_eq_false_iff,List.contains_eq_mem,decide_eq_false_iff_not] at h;exact h
 have sw:∀{s:Sw},tG s->∀w∈s.w,32∉cp w/\10∉cp w:=fun h w hw=>⟨(h.wd w hw).no,(h.wd w hw).no⟩
 have nm:∀{y:Str},isNm y=true->32∉cp y/\10∉cp y:=fun h=>⟨(kW h).no,(kW h).no⟩
 intro w hw;cases x with
 |lt x a=>
  unfold SX.ok at ok;rcases List.mem_cons.mp hw with rfl | hw
  .exact lit _ (by symm)
  rcases List.mem_cons.mp hw with rfl | hw
  .exact nm ok.1
  rcases List.mem_cons.mp hw with rfl | hw
  .exact lit _ (by symm)
  exact sw ok.2 w hw
 |dv x wd a b=>
  unfold SX.ok at ok;rcases List.mem_cons.mp hw with rfl | hw
  .exact lit _ (by symm)
  rcases List.mem_cons.mp hw with rfl | hw
  .exact nm ok.1
  rcases List.mem_cons.mp hw with rfl | hw
  .exact lit _ (by symm)
  rcases List.mem_append.mp hw with hw | hw
  .exact sw ok.2.2.1 w hw
  rcases List.mem_cons.mp hw with rfl | hw
  .rcases ok.2.1 with rfl | rfl<;>exact lit _ (by symm)
  exact sw ok.2.2.2 w hw
 |ft x r p=>
  unfold SX.ok at ok;rcases List.mem_cons.mp hw with rfl | hw
  .exact lit _ (by symm)
  rcases List.mem_cons.mp hw with rfl | hw
  .exact nm ok.1
  rcases List.mem_cons.mp hw with rfl | hw
  .exact lit _ (by symm)
  rcases List.mem_cons.mp hw with rfl | hw
  .exact nm ok.2.1
  rcases List.mem_cons.mp hw with rfl | hw
  .exact lit _ (by symm)
  exact sw ok.2.2 w hw
 |pt r p s=>
  unfold SX.ok at ok;rcases List.mem_cons.mp hw with rfl | hw
  .exact lit _ (by symm)
  rcases List.mem_cons.mp hw with rfl | hw
  .exact nm ok.1
  rcases List.mem_cons.mp hw with rfl | hw
  .exact lit _ (by symm)
  rcases List.mem_append.mp hw with hw | hw
  .exact sw ok.2.1 w hw
  rcases List.mem_cons.mp hw with rfl | hw
  .exact lit _ (by symm)
  exact sw ok.2.2 w hw
 |mq r z=>
  unfold SX.ok at ok;rcases List.mem_cons.mp hw with rfl | hw
  .exact lit _ (by symm)
  rcases List.mem_cons.mp hw with rfl | hw
  .exact nm ok.1
  rcases List.mem_cons.mp hw with rfl | hw
  .exact lit _ (by symm)
  exact sw ok.2 w hw
 |cm c=>
  unfold SX.ok at ok;rcases List.mem_cons.mp hw with rfl | hw
  .exact lit _ (by symm)
  obtain⟨b,hb,rfl⟩:=List.mem_map.mp hw;exact Lp (ok.bw b hb)
 |cl ns hp g=>
  unfold SX.ok at ok;rcases List.mem_cons.mp hw with rfl | hw
  .exact lit _ (by symm)
  rcases List.mem_append.mp hw with hw | hw
  .unfold clN at hw;split at hw
   .cases hw
   .rcases List.mem_append.mp hw with hw | hw
    .exact nm (ok.1 w hw)
    .rw[List.mem_singleton.mp hw];exact lit _ (by symm)
  rcases List.mem_cons.mp hw with rfl | hw
  .exact nm ok.2.2.1
  exact⟨(Na ok.2.2.2.2 w hw).2.1,(Na ok.2.2.2.2 w hw).2.2.1⟩
theorem TF {c:Nat}(hc:c≠32):∀{l:List Str},(∀x∈l,c∉cp x)->c∉jn l
 |[],_=>by intro z;cases z
 |[a],h=>h a (by simp)
 |a::b::r,h=>by
  rw[gq];intro z;rcases List.mem_append.mp z with z | z
  .exact h a (by simp) z
  .rcases List.mem_cons.mp z with z | z
   .exact hc z
   .exact TF hc (l:=b::r) (fun x hx=>h x (List.mem_cons_of_mem _ hx)) z
structure EL (t:Str)(ws:List Str):Prop where
 e:cp t=jn ws
 ne:ws≠[]
 no:∀w∈ws,32∉cp w/\10∉cp w
 len:t.length<=100000
theorem EL.sp {t:Str}{ws:List Str}(h:EL t ws):Txt.split t " "=ws:=uW h.e h.ne fun w hw=>(h.no w hw).1
theorem EL.nl {t:Str}{ws:List Str}(h:EL t ws):10∉cp t:=by rw[h.e];exact TF (by decide) fun w hw=>(h.no w hw).2
theorem Vs {x:SX}{t:Str}(ok:x.ok)(e:cp t=jn x.AU)(l:t.length<=100000):EL t x.AU:=⟨e,by obtain⟨y,ys,h,_⟩:=UN x;rw[h];simp,UM ok,l⟩
theorem le_app {x y:Str}{a b:Nat}(hx:x.length<=a)(hy:y.length<=b):(x++y).length<=a+b:=by rw[tF];exact Nat.add_le_add hx hy
theorem gY {x y:Str}{a b:Nat}(hx:x.length<=a)(hy:y.length<=b)(h:autoParam (decide (a+b<=1000000)=true) zi):x.length+y.length<=sizeLine:=sL (Nat.le_trans (Nat.add_le_add hx hy) (of_decide_eq_true h))
theorem Ve:Txt.split ("end":Str) " "=[("end":Str)]:=uW (by rfl) (by simp) (by symm)
theorem UL {w w':Str}{c:CW}(hw:cp w'=cp w++[32])(h:Jb c)(k:32∉cp w/\10∉cp w)(l:w'.length<=100):EL (w'++xU c) (Oh w c):=by
 refine⟨Y3 hw h.1,by unfold Oh;simp,fun x hx=>?_,?_⟩
 .rcases List.mem_cons.mp hx with rfl | hx
  .exact k
  .obtain⟨b,hb,rfl⟩:=List.mem_map.mp hx;exact Lp (h.bw b hb)
 .rw[tF];have:=UQ h;omega
section
variable (A:Ad)
end
end L3
namespace PySem.W
open PySem Builtin Builtin.ObjectAttr
section
variable {prog:Program}{w:World}{A:Around}{K:Frag}{s:Shared}{x C:Addr}{R:Result->Shared->Prop}
noncomputable def fS:List Value->Bool
 |.ref _::r=>fS r
 |l=>l ==[.type "ValueError",.type "Exception",.type "BaseException",.type "object"]
theorem pV (self:Value):∀{l:List Value},fS l=true->refuseLoop self "__setattr__" l=pure ()
 |.ref c::r,e=>by rw[refuseLoop_ref];exact pV self e
 |[],e=>by cases e
 |.type n::r,e=>by
  have:(Value.type n::r)=[.type "ValueError",.type "Exception",.type "BaseException",.type "object"]:=eq_of_beq e;rw[this];exact PySem.F.store_ValueError.passes self
theorem xS:∀{l:List Value},fS l=true->l.contains (.type "object")=true
 |.ref c::r,e=>by rw[List.contains_cons,xS (l:=r) e,Bool.or_true]
 |.type n::r,e=>by
  have:(Value.type n::r)=[.type "ValueError",.type "Exception",.type "BaseException",.type "object"]:=eq_of_beq e;rw[this];decide
theorem HW {ox:Obj}{od:Option Obj}{name:Str}{tk:Tok}{v:Value}{r:Option Value}(X:K.In s.heap)(I:InstAt s.heap x ox C od)(hp:((clsIn K C).any fun cd=>fS cd.mro)=true)(ht:takerIn K C name=some r)
  (h:∀b,wpAny (model prog w) A.in1 (match r with | some a=>setByDescriptor a (.ref x) v | none=>storeInOwnDict (.ref x) (.ref C) (.str name tk) name v b)
   (fun fin s'=>match fin with | .done f=>R (.ok f) s' | .again c'=>c'.quiet=true/\codeAny (model prog w) A c' R s') (fun e s'=>R (.error e) s') s) :
  codeAny (model prog w) A (.call (.builtin "object.__setattr__") ⟨[.ref x,.str name tk,v],[]⟩) R s:=by
 have SF:=PySem.F.store_object;obtain⟨cd,hc,ho⟩:=any_some hp;have ne:cd.mro.isEmpty=false:=by cases q:cd.mro with | nil=>rw[q] at ho;cases ho | cons _ _=>rfl
 have sub:Looks (model prog w) s.heap (isInstance (.ref x) (.type "object")) true:=I.type.andThen (looks_mroIn X (by unfold mroIn;rw[hc,Option.bind_some,if_neg (by rw[ne];decide),xS ho]));refine codeAny_call_builtin SF.slot.plain SF.entry (@check_slot (model prog w) _ _ s "object.__setattr__" "object" "__setattr__" (.ref x) [.str name tk,v] [] _ SF.kind SF.split sub (SF.args (.ref x) (.str name tk) v) ?_);obtain⟨attr,ha,hr⟩:=Option.bind_eq_some_iff.mp ht;have hm:Looks (model prog w) s.heap (mroOf (.ref C)) cd.mro:=(looks_clsIn X hc).andThen .now;have L3:Looks (model prog w) s.heap (storeTaker? attr) r:=by
  cases attr with
  |none=>cases hr;exact .now
  |some a=>
   obtain⟨b,hb,rfl⟩:=Option.map_eq_some_iff.mp hr;refine(looks_takesIn X hb).andThen ?_;cases b<;>exact .now
 rw[osa_eq,refuse_eq];refine wpAny_bind (wpAny_bind (I.type.here (wpAny_bind (hm.here ?_))));rw[pV _ ho];refine wpAny_pure (wpAny_bind (I.type.here (wpAny_bind ((looks_findIn X ha).here (wpAny_bind (L3.here ?_))))));exact h _
end
end PySem.W
namespace PySem.W
open PySem Builtin Builtin.ObjectAttr
section
variable {prog:Program}{w:World}{A:Around}{K:Frag}{x C:Addr}{h:Heap}{g:Array GenState}{d:Drawn}{t:Nat}{os:OsState}
theorem Dz {ox:Obj}{name:Str}{tk:Tok}{v:Value}{b:Bool}{Q:Fin->Shared->Prop}{E:Value->Shared->Prop}(X:K.In h)(hx:h.get? x=some ox)(hcl:ox.cls=.ref C)(hdn:ox.dict=none)(hnc:∀c,ox.data≠.cls c)(hh:(clsIn K C).any (·.hasDict)=true)
  (hq:∀h' tk',h'.get? x=some {ox with dict:=some h.objs.size }->h'.Ns1 h.objs.size (fun y=>if y=name then some v else none)->(∀b o,b≠x->h.get? b=some o->h'.get? b=some o)->Q (.done (.ret .none)) ⟨h',g,d,tk',os⟩) :
  wpAny (model prog w) A (storeInOwnDict (.ref x) (.ref C) (.str name tk) name v b) Q E ⟨h,g,d,t,os⟩:=by
 obtain⟨cd,hc,hd'⟩:=any_some hh;obtain⟨oc,odi,oda,osl⟩:=ox;dsimp only at hcl hdn;subst hcl hdn;have hx₁:(h.push {cls:=.type "dict",data:=.dict #[] }).get? x=some ⟨.ref C,none,oda,osl⟩:=Heap.get?_push_of_some _ hx;have hxs:x≠h.objs.size:=Nat.ne_of_lt (Heap.lt_size hx);refine wpAny_bind (wpAny_pure (wpAny_bind (wpAny_bind (wpAny_loadPart hx (wpAny_bind ((looks_clsIn X hc).here ?_))))));rw[hd'];dsimp only;rw[if_neg (by decide)];have fin:wpAny (model prog w) A (do
   let d <- alloc {cls:=.type "dict",data:=.dict #[] }
   update x fun o=>{o with dict:=some d }
   dictMade (.ref C) x d:Sem (Option Addr)) (fun r s'=>wpAny (model prog w) A (match r with | some d=>storeInDict d (.str name tk) name v | none=>noDictFor (.ref x) (.ref C) name b) Q E s') E ⟨h,g,d,t,os⟩:=by
  refine wpAny_bind (wpAny_alloc' ?_);refine wpAny_bind (wpAny_update' hx₁ ?_);refine wpAny_pure ?_;have hgd:((h.push {cls:=.type "dict",data:=.dict #[] }).update x fun o=>{o with dict:=some h.objs.size }).get? h.objs.size=some {cls:=.type "dict",data:=.dict #[] }:=
   (Heap.get?_update_ne _ _ _ _ hxs.symm).trans (Heap.get?_push_at rfl rfl)
  have hnd:((h.push {cls:=.type "dict",data:=.dict #[] }).update x fun o=>{o with dict:=some h.objs.size }).Ns h.objs.size (fun _=>none):=
   ⟨_,#[],_,hgd,rfl,fun e he=>absurd he (by simp),fun _=>rfl⟩
  show wpAny _ _ (storeInDict h.objs.size (.str name tk) name v) _ _ _;unfold storeInDict newKeyGuard;refine wpAny_bind (wpAny_pure (wpAny_bind (wpAny_nsSet1 (Heap.Ns1.of_empty hnd) fun h' hn' hs=>?_)));obtain⟨oD,esD,epD,hoD,hdD,hcD⟩:=hn'.count (Within.cons name v Within.nil);refine wpAny_bind (wpAny_lookBehind hoD (by rw[hdD];exact pastItsLine_dict (Nat.le_trans hcD (by rw[List.length_cons,List.length_nil,sizeLine_eq];omega))) ?_);have hx':h'.get? x=some ⟨.ref C,some h.objs.size,oda,osl⟩:=by
   refine(hs.2 x hxs).trans (Heap.get?_update_self _ hx₁ ?_);have hfr:=(Heap.get?_some_iff.mp hx).2;cases oda<;>first | rfl | exact hfr
  refine wpAny_pure (hq h' _ hx' ?_ fun b ob hbx hb=>?_)
  .obtain⟨o',es,ep,e1,e2,e3,eu,e4⟩:=hn';exact⟨o',es,ep,e1,e2,e3,eu,fun y=>by rw[e4 y]⟩
  .exact(hs.2 b (Nat.ne_of_lt (Heap.lt_size hb))).trans ((Heap.get?_update_ne _ _ _ _ hbx).trans (Heap.get?_push_of_some _ hb))
 rw[if_neg (by simp[typeHasDict])];cases oda with
 |cls c=>exact absurd rfl (hnc c)
 |_=>exact fin
end
end PySem.W
namespace L2
open PySem PySem.Spec PyProof.Rows
section
variable {P:Program}{w:World}{H H1:Hp}{h h1:Heap}{dx:Addr}{o:HO}{fs ex:List Addr}
theorem jy.add (ok:jy P w H h)(hn:H dx=none)(new:bF P w (upd H dx o) h dx o):jy P w (upd H dx o) h:=fun b u e=>by
 by_cases hb:b=dx
 .subst hb;rw[cS] at e;cases e;exact new
 .rw[aH hb] at e;exact(ok b u e).stay (fun _ _ _ q=>q) (fun c q=>by rw[aH (aR q hn)];exact q) fun c xs q=>by rw[aH (aR q hn)];exact q
theorem Un.add (u:Un fs ex H H1 h h1)(hn:H1 dx=none)(hd:h.get? dx=none):Un fs ex H (upd H1 dx o) h h1:=
 ⟨u.keep,u.slot,fun b ob q n he=>by
  have:=u.free b ob q n he;rw[aH (fun z=>by rw[z,hd] at q;cases q)];exact this,u.there,
  fun b xs q=>by have:=u.tups b xs q;rw[aH (aR this hn)];exact this,
  fun b ob xs q=>by have:=u.nU b ob xs q;rw[aH (aR this hn)];exact this,
  fun b ps q=>by obtain⟨m,e⟩:=u.pF b ps q;exact⟨m,by rw[aH (aR e hn)];exact e⟩⟩
end
noncomputable def Np (C e dx:Addr):HO:=.ext fun h=>∃t,h.get? e=some {c8 C t with dict:=some dx }
theorem XE {P:Program}{w:World}{H:Hp}{h:Heap}{C e dx:Addr}:(∃t,h.get? e=some {c8 C t with dict:=some dx })->bF P w H h e (Np C e dx):=fun⟨t,q⟩=>
 ⟨⟨t,q⟩,⟨_,q⟩,fun _ _ ⟨t,q⟩ k=>⟨t,k _ q⟩⟩
structure XSt (K:PySem.W.Frag)(C:Addr)(f:Str):Prop where
 un:((PySem.W.clsIn K C).any fun cd=>PySem.W.fS cd.mro)=true
 ta:PySem.W.takerIn K C f=some none
 hd:(PySem.W.clsIn K C).any (·.hasDict)=true
 sa:PySem.W.findIn K (.ref C) "__setattr__"=some (some (.builtin "object.__setattr__"))
noncomputable def Zd (C:Addr)(ta tv:TE)(f:Str):TS:=fun D U H=>tv U H fun y H1=>ta U H1 fun x H2=>∃a,x=.ref a/\H2 a=some (Ow C a)/\∀dx,H2 dx=none->dx≠a->D.nx U (upd (upd H2 a (Np C a dx)) dx (.xd [(f,y)]))
section
variable {X:Cx}{o value:Expr}{ta tv:TE}{f:Str}{C:Addr}{pos pos':Pos}
theorem PN (ul:XSt X.K C f)(ha:PE X o ta)(hv:PE X value tv)(hs:swapsWith value (some (.Attribute o f pos')) pos.line X.env=pure false):PS X (.Assign [.Attribute o f pos'] value pos) (Zd C ta tv f):=by
 intro vy s U H D I h;refine plainObj_wpAny_Assign_Attribute (bA (hv vy s U H _ I h) fun u s1 ⟨y,H1,I1,ry,q⟩=>bA (ha vy s1 U H1 _ I1 q) fun ov s2 ⟨x,H2,I2,rx,a,ex,ea,q2⟩=>?_) hs;subst ex;obtain rfl:ov=Value.ref a:=rx;obtain⟨⟨t0,he⟩,_⟩:=show bF X.prog X.w H2 s2.heap a (Ow C a) from I2.hok a _ ea;refine PySem.W.set_plain I2.iW (GF (oe:=c8 C t0) rfl ⟨_,rfl⟩ rfl he) ul.sa ?_;obtain⟨hp,g,d,tk,os⟩:=s2;refine PySem.W.HW (s:=⟨hp,g,d,tk+1,os⟩) I2.iW (GF (oe:=c8 C t0) rfl ⟨_,rfl⟩ rfl he) ul.un ul.ta fun b=>?_;refine PySem.W.Dz I2.iW he rfl rfl (fun c z=>nomatch z) ul.hd fun h' tk' hx' hn' kp=>?_;have hd0:H2 hp.objs.size=none:=I2.hok.fresh (Nat.le_refl _);have lt:a<hp.objs.size:=Heap.lt_size he;have ne:hp.objs.size≠a:=fun z=>by rw[z] at lt;exact absurd lt (Nat.lt_irrefl _)
 have mu:YW (H2 a):=by rw[ea];exact True.intro
 have hn2:upd H2 a (Np C a hp.objs.size) hp.objs.size=none:=by rw[aH ne];exact hd0
 have new:bF X.prog X.w (upd (upd H2 a (Np C a hp.objs.size)) hp.objs.size (.xd [(f,y)])) h' hp.objs.size (.xd [(f,y)]):=⟨_,hn',fun f'=>by
  by_cases e:f'=f
  .subst e;rw[if_pos rfl,List.lookup_cons,beq_self_eq_true];exact ry
  .rw[if_neg e,List.lookup_cons,beq_false_of_ne e];exact trivial⟩
 have I3:=I2.un (t':=tk') (h':=h') (Un.add (o:=.xd [(f,y)]) (Un.write mu (.inl rfl) kp ⟨_,hx'⟩) hn2 (Heap.get?_none_of_le (Nat.le_refl _))) (jy.add (I2.hok.write mu (.inl rfl) kp ⟨_,hx'⟩ (XE ⟨t0,hx'⟩)) hn2 new);exact⟨U,_,I3,q2 _ hd0 ne⟩
end
end L2
namespace PySem
def YO (C:Addr)(oe:Obj)(od:Option Addr):Prop:=oe.cls=.ref C/\oe.dict=od/\∀ws,oe.data=.fields ws->ws[2]?=some .none
structure j8 (fr:List Addr)(a:Addr)(old:Option Addr)(C:Addr)(h h':Heap)(od:Option Addr):Prop where
 keep:∀b o,h.get? b=some o->b∉fr->b≠a->old≠some b->h'.get? b=some o
 slot:∀b o,h.get? b=some o->b∈fr->∃sl,h'.get? b=some {o with slots:=sl }
 a4V:∀b o,old=some b->h.get? b=some o->∃o',h'.get? b=some o'
 Rq:∃oe vs T oT ts,h'.get? a=some oe/\YO C oe od/\oe.data=.fields vs/\vs[1]?=some (.ref T)/\h'.get? T=some oT/\oT.data=.fields ts/\ts[3]?=some .none/\T≠a/\h.objs.size<=T
section
variable {M:Model}{A:Around}{E:Value->Shared->Prop}{s:Shared}{base:Heap}{env:Env}{outer:List Env}{L a C:Addr}{od:Option Addr}{oe:Obj}{vs:Array Value}
theorem Es {head:Value}{hadNext:Bool}{Q:Unit->Shared->Prop}(hfr:A.frames=some (env::outer))(hl:s.heap.FunFrames base (env::outer))(hf:env.frame=some L)
  (ha:s.heap.get? a=some oe) (hc:YO C oe od) (hd:oe.data=.fields vs) (hsz:1<vs.size)
  (k:∀h',j8 ((env::outer).filterMap (·.frame)) a none C s.heap h' od->Q () {s with heap:=h' }) :
  wpAny M A (do let fr <- frameOf env;let pl <- entryPlaceOf L hadNext;let b <- EntryCells.newEntry head fr .none (rawInt L) .none pl;setField (.ref a) 1 b) (fun _ s'=>wpAny M A (setFlight (.ref a) none) Q E s') E s:=by
 have hna:a∉(env::outer).filterMap (·.frame):=fun hm=>fY hl hm ha hd;refine wpAny_bind (wpAny_frameOf_fun hfr hl hf fun g1 so=>?_);obtain⟨sz,same,slots⟩:=so;refine wpAny_bind (wpAny_entryPlaceOf fun pl hpl=>?_);unfold EntryCells.newEntry newFields;refine wpAny_bind (wpAny_newObj_type ?_ (hpl.sizeOk5 _ _ _ _ _));have ha1:g1.get? a=some oe:=(same a hna).trans ha;generalize hob:({cls:=.type "traceback",dict:=none,data:=.fields ([head,.ref L,.none,rawInt L,.none]++(if pl.isEmpty then List.replicate 6 Value.none else pl)).toArray }:Obj)=ob;have ha2:(g1.push ob).get? a=some oe:=Heap.get?_push_of_some _ ha1;refine wpAny_setField ha2 hd hsz ?_;have nT:g1.objs.size≠a:=Nat.ne_of_gt (Heap.lt_size ha1);have hd3:=Obj.data_mapFields hd (·.setIfInBounds 1 (Value.ref g1.objs.size));have ha3:=Heap.get?_update_self (Obj.mapFields (·.setIfInBounds 1 (Value.ref g1.objs.size))) ha2 (Obj.isFreed_of_fields hd3);have Xr:ob.data=.fields ([head,.ref L,.none,rawInt L,.none]++(if pl.isEmpty then List.replicate 6 Value.none else pl)).toArray:=by rw[<- hob]
 have hT0:(g1.push ob).get? g1.objs.size=some ob:=Heap.get?_push_size g1 (by rw[<- hob];rfl);have hT3:((g1.push ob).update a (Obj.mapFields (·.setIfInBounds 1 (Value.ref g1.objs.size)))).get? g1.objs.size=some ob:=(Heap.get?_update_other _ _ (Ne.symm nT)).trans hT0;unfold setFlight;refine wpAny_bind (wpAny_field ha3 hd3 (x:=.ref g1.objs.size) (by simp[hsz]) ?_);rw[if_pos (show(Value.ref g1.objs.size !=Value.none)=true by simp)];refine wpAny_setField hT3 Xr (by simp only[List.size_toArray,List.length_append,List.length_cons,List.length_nil]<;>omega) (k _ ?_);have kp:∀b o,b≠a->g1.get? b=some o->(((g1.push ob).update a (Obj.mapFields (·.setIfInBounds 1 (Value.ref g1.objs.size)))).update g1.objs.size (Obj.mapFields (·.setIfInBounds 3 ((none:Option Addr).elim Value.none fun f=>rawInt f)))).get? b=some o:=fun b o hb q=>by
  rw[Heap.get?_update_other _ _ (Nat.ne_of_gt (Heap.lt_size q)),Heap.get?_update_other _ _ (Ne.symm hb)];exact Heap.get?_push_of_some _ q
 refine⟨fun b o q nf nb _=>kp b o nb ((same b nf).trans q),fun b o q inf=>?_,fun b o z=>(nomatch z),?_⟩
 .obtain⟨sl,e⟩:=slots b o q;exact⟨sl,kp b _ (fun z=>hna (z ▸ inf)) e⟩
 .refine⟨_,_,g1.objs.size,_,_,?_,⟨(Obj.cls_mapFields _ _).trans hc.1,(wC _ _).trans hc.2.1,fun ws e=>(by
   rw[hd3] at e;cases e;have z:=hc.2.2 _ hd;rw[Array.getElem?_setIfInBounds_ne (by decide)];exact z)⟩,hd3,by simp[hsz],Heap.get?_update_self _ hT3 (Obj.isFreed_of_fields (Obj.data_mapFields Xr _)),Obj.data_mapFields Xr _,?_,nT,Nat.le_of_eq sz.symm⟩
  .rw[Heap.get?_update_other _ _ nT];exact ha3
  .first | (simp;done) | (rcases hpl with rfl | ⟨_,_,_,_,_,_,_,rfl⟩<;>simp)
theorem Iv {Q:Unit->Shared->Prop}(hfr:A.frames=some (env::outer))(hl:s.heap.FunFrames base (env::outer))(hf:env.frame=some L)
  (ha:s.heap.get? a=some oe) (hc:YO C oe od) (hd:oe.data=.fields vs) (h1:vs[1]?=some .none)
  (k:∀h',j8 ((env::outer).filterMap (·.frame)) a none C s.heap h' od->Q () {s with heap:=h' }):wpAny M A (leaving env (.ref a)) Q E s:=by
 unfold leaving noteFrame;simp only[hf];refine wpAny_bind (wpAny_bind (wpAny_field ha hd h1 ?_));rw[if_neg (by decide)];exact Es hfr hl hf ha hc hd (Array.getElem?_eq_some_iff.mp h1).1 k
theorem Iu {Q:Unit->Shared->Prop}{T:Addr}{oT:Obj}{ts:Array Value}(hfr:A.frames=some (env::outer))(hl:s.heap.FunFrames base (env::outer))(hf:env.frame=some L)
  (ha:s.heap.get? a=some oe) (hc:YO C oe od) (hd:oe.data=.fields vs) (h1:vs[1]?=some (.ref T)) (hT:s.heap.get? T=some oT) (Ei:oT.data=.fields ts) (h3:ts[3]?=some .none) (hne:T≠a)
  (k:∀h',j8 ((env::outer).filterMap (·.frame)) a (some T) C s.heap h' od->Q () {s with heap:=h' }):wpAny M A (leaving env (.ref a)) Q E s:=by
 unfold leaving noteFrame;simp only[hf];refine wpAny_bind (wpAny_bind (wpAny_field ha hd h1 ?_));rw[if_pos (show(Value.ref T !=Value.none)=true by simp)];refine wpAny_bind (wpAny_field hT Ei h3 ?_);rw[if_neg (show ¬((Value.none==rawInt L)=true) by simp[rawInt])];refine wpAny_bind (wpAny_setField hT Ei (Array.getElem?_eq_some_iff.mp h3).1 ?_);have hnT:T∉(env::outer).filterMap (·.frame):=fun hm=>fY hl hm hT Ei;have Gn:∀b,b≠T->(s.heap.update T (Obj.mapFields (·.setIfInBounds 3 Value.none))).get? b=s.heap.get? b:=fun b hb=>Heap.get?_update_other _ _ (Ne.symm hb);have hl':(s.heap.update T (Obj.mapFields (·.setIfInBounds 3 Value.none))).FunFrames base (env::outer):=hl.of_keeps fun b o hb hnf=>⟨o,(Gn b fun z=>by rw[z,hT] at hb;injection hb with hb;subst hb;exact hnf ts Ei).trans hb,rfl⟩
 refine Es (s:={s with heap:=s.heap.update T (Obj.mapFields (·.setIfInBounds 3 Value.none)) }) hfr hl' hf ((Gn a (Ne.symm hne)).trans ha) hc hd (Array.getElem?_eq_some_iff.mp h1).1 fun h' m=>k h' ⟨fun b o q nf nb nT=>m.keep b o ((Gn b fun z=>nT (by rw[z])).trans q) nf nb (fun z=>nomatch z),fun b o q inf=>m.slot b o ((Gn b fun z=>hnT (z ▸ inf)).trans q) inf,?_,?_⟩
 .intro b o e q;cases e;have e3:=Heap.get?_update_self (Obj.mapFields (·.setIfInBounds 3 Value.none)) hT (Obj.isFreed_of_fields (Obj.data_mapFields Ei _));exact⟨_,m.keep T _ e3 hnT hne (fun z=>nomatch z)⟩
 .obtain⟨QK,vs',T',Tp,ts',x1,x2,x3,x4,x5,x6,x7,x8,x9⟩:=m.Rq;exact⟨QK,vs',T',Tp,ts',x1,x2,x3,x4,x5,x6,x7,x8,Nat.le_trans (Nat.le_of_eq (Heap.size_after_update ..).symm) x9⟩
end
end PySem
namespace L2
open PySem PySem.Spec PyProof.Rows
structure a7y (h:Heap)(H:Hp)(n:Nat)(C a:Addr)(od:Option Addr):Prop where
 Rq:∃oe vs T oT ts,h.get? a=some oe/\YO C oe od/\oe.data=.fields vs/\vs[1]?=some (.ref T)/\h.get? T=some oT/\oT.data=.fields ts/\ts[3]?=some .none/\T≠a/\n<=T/\H T=none
 new:n<=a
 free:H a=none
noncomputable def qE (P:Program)(w:World)(C:Addr):E4:=fun outer H s E e s'=>
 ∃a od H',e=.ref a/\E (.ref C) od H'/\s'.os=s.os/\AllBare s'.gens/\Un (frs outer) [] H H' s.heap s'.heap/\jy P w H' s'.heap/\a7y s'.heap H' s.heap.objs.size C a od
section
variable {P:Program}{w:World}{K:PySem.W.Frag}{mg:Str->Option Value}{base:Heap}{N:List Str}{qual:Str}{scope:Scope}{f C:Addr}{cd:Value}{A:Around}{outer:List Env}{s:Shared}{H:Hp}{E:XK}
noncomputable abbrev YN (P:Program)(w:World)(C:Addr)(K:PySem.W.Frag)(mg:Str->Option Value)(base:Heap)(N:List Str)(qual:Str)(scope:Scope)(f:Addr)(cd:Value)(A:Around)(outer:List Env)(s:Shared)(H:Hp)(E:XK):Cx:=Aq (qE P w C) P w K mg base N qual scope f cd A outer s H E
theorem A1 {vy:List (Addr×Obj)}{U:St}{H1 H2:Hp}{s1:Shared}{h2 h3:Heap}{a:Addr}{od old:Option Addr}(I:Inv (YN P w C K mg base N qual scope f cd A outer s H E) vy U H1 s1)
  (un:Un (frs (envOfC qual scope s.heap.objs.size f cd::outer)) [] H1 H2 s1.heap h2) (m:j8 (frs (envOfC qual scope s.heap.objs.size f cd::outer)) a old C h2 h3 od) (ha:s.heap.objs.size<=a) (ho:∀T,old=some T->s.heap.objs.size<=T) :
  Un (frs outer) [] H H2 s.heap h3:=by
 have B:Un (frs outer) [] H H1 s.heap s1.heap:=I.base;have nl:∀b o,s.heap.get? b=some o->b≠s.heap.objs.size:=fun b o q z=>absurd (Heap.lt_size q) (by rw[z];exact Nat.lt_irrefl _);have nin:∀b o,s.heap.get? b=some o->b∉frs outer->b∉frs (envOfC qual scope s.heap.objs.size f cd::outer):=fun b o q n z=>(List.mem_cons.mp (show b∈s.heap.objs.size::frs outer from z)).elim (nl b o q) n;have na:∀b o,s.heap.get? b=some o->b≠a:=fun b o q z=>absurd (Heap.lt_size q) (by rw[z];exact Nat.not_lt.mpr ha);have nT:∀b o,s.heap.get? b=some o->old≠some b:=fun b o q z=>absurd (Heap.lt_size q) (Nat.not_lt.mpr (ho b z));have hin:∀b,b∈frs outer->b∈frs (envOfC qual scope s.heap.objs.size f cd::outer):=fun b hb=>List.mem_cons_of_mem _ hb;refine⟨fun b o q n nf nx=>?_,fun b o q n inf nx=>?_,fun b o q n nx=>?_,fun b o q nx=>?_,fun b xs q=>un.tups b xs (B.tups b xs q),fun b o u q=>un.nU b o u (B.nU b o u q),fun b ps q=>?_⟩
 .exact m.keep b o (un.keep b o (B.keep b o q n nf nx) (B.free b o q n nx) (nin b o q nf) nx) (nin b o q nf) (na b o q) (nT b o q)
 .obtain⟨sl,e1⟩:=B.slot b o q n inf nx;obtain⟨sl2,e2⟩:=un.slot b _ e1 (B.free b o q n nx) (hin b inf) nx;obtain⟨Z4,e3⟩:=m.slot b _ e2 (hin b inf);exact⟨Z4,e3⟩
 .obtain⟨o1,e1⟩:=B.there b o q nx;exact un.free b o1 e1 (B.free b o q n nx) nx
 .obtain⟨o1,e1⟩:=B.there b o q nx;obtain⟨o2,e2⟩:=un.there b o1 e1 nx;by_cases hb:b∈frs (envOfC qual scope s.heap.objs.size f cd::outer)
  .obtain⟨sl,e3⟩:=m.slot b o2 e2 hb;exact⟨_,e3⟩
  .exact⟨o2,m.keep b o2 e2 hb (na b o q) (nT b o q)⟩
 .obtain⟨m1,e1⟩:=B.pF b ps q;obtain⟨m2,e2⟩:=un.pF b _ e1;exact⟨m1++m2,by rw[e2,Array.append_assoc]⟩
theorem dM:Passes (qE P w C) (YN P w C K mg base N qual scope f cd A outer s H E) E:=by
 rintro vy U H1 s1 e s' I ⟨a,od,H2,rfl,hE,os,bare,un,ok,fl⟩;obtain⟨oe,vs,T,oT,ts,ha,hc,hd,h1,hT,Ei,h3,ne,nT,fT⟩:=fl.Rq;have un:Un (frs (envOfC qual scope s.heap.objs.size f cd::outer)) [] H1 H2 s1.heap s'.heap:=un;have sz:s.heap.objs.size<=s1.heap.objs.size:=I.sz;have sk:∀b∈frs (envOfC qual scope s.heap.objs.size f cd::outer),H1 b=none:=I.pH;have T4:s1.heap.FunFrames base (envOfC qual scope s.heap.objs.size f cd::outer):=I.stack;have fl2:s'.heap.FunFrames base (envOfC qual scope s.heap.objs.size f cd::outer):=Ai (fun _ z=>z) sk un T4;have hfr:(A.deeper (envOfC qual scope s.heap.objs.size f cd)).frames=some (envOfC qual scope s.heap.objs.size f cd::outer):=I.ok.frames;show wpAny (model P w) (A.deeper (envOfC qual scope s.heap.objs.size f cd)) (leaving (envOfC qual scope s.heap.objs.size f cd) (.ref a)) (fun _ s''=>qE P w C outer H s E (.ref a) s'') _ s';have new:=fl.new;refine Iu hfr fl2 rfl ha hc hd h1 hT Ei h3 ne fun h' m=>?_;have lt:=Heap.lt_size ha;have YK:∀b,b∈frs (envOfC qual scope s.heap.objs.size f cd::outer)->H2 b=none:=fun b hb=>by
  obtain⟨_,o,ho,_⟩:=T4.mem hb;exact un.free b o ho (sk b hb) (by simp)
 refine⟨a,od,H2,rfl,hE,os.trans I.os,bare,A1 I un m (by omega) (fun T' e=>by cases e;omega),ok.MN fun b u hb q=>m.keep b u q (fun z=>hb (YK b z)) (fun z=>hb (z ▸ fl.free)) (fun z=>hb (by cases z;exact fT)),?_,by omega,fl.free⟩;obtain⟨QK,vs',T',Tp,ts',x1,x2,x3,x4,x5,x6,x7,x8,x9⟩:=m.Rq;exact⟨QK,vs',T',Tp,ts',x1,x2,x3,x4,x5,x6,x7,x8,Nat.le_trans sz (Nat.le_trans new (Nat.le_trans (Nat.le_of_lt lt) x9)),ok.fresh x9⟩
theorem VD {vy:List (Addr×Obj)}{U:St}{H1:Hp}{s1:Shared}{a dx:Addr}(I:Inv (YN P w C K mg base N qual scope f cd A outer s H E) vy U H1 s1)(he:H1 a=some (Np C a dx))(hn:s.heap.objs.size<=a)(hE:E (.ref C) (some dx) (del H1 a)) :
  (YN P w C K mg base N qual scope f cd A outer s H E).xe (.ref a) s1:=by
 obtain⟨⟨t,ha⟩,_⟩:=show bF P w H1 s1.heap a (Np C a dx) from I.hok a _ he;have T4:s1.heap.FunFrames base (envOfC qual scope s.heap.objs.size f cd::outer):=I.stack;have sk:∀b∈frs (envOfC qual scope s.heap.objs.size f cd::outer),H1 b=none:=I.pH;have hfr:(A.deeper (envOfC qual scope s.heap.objs.size f cd)).frames=some (envOfC qual scope s.heap.objs.size f cd::outer):=I.ok.frames;show wpAny (model P w) (A.deeper (envOfC qual scope s.heap.objs.size f cd)) (leaving (envOfC qual scope s.heap.objs.size f cd) (.ref a)) (fun _ s''=>qE P w C outer H s E (.ref a) s'') _ s1;refine Iv hfr T4 rfl ha ⟨rfl,rfl,fun ws e=>by cases e;rfl⟩ rfl rfl fun h' m=>?_;have lt:=Heap.lt_size ha;have dn:∀b,H1 b=none->del H1 a b=none:=fun b z=>by
  unfold del;split
  .rfl
  .exact z
 have un:Un (frs (envOfC qual scope s.heap.objs.size f cd::outer)) [] H1 (del H1 a) s1.heap s1.heap:=⟨fun _ _ q _ _ _=>q,fun _ o q _ _ _=>⟨o.slots,q⟩,fun b _ _ n _=>dn b n,fun _ o q _=>⟨o,q⟩,
  fun b xs q=>by rw[rA (fun z=>by rw[z,he] at q;cases q)];exact q,fun b o u q=>by rw[rA (fun z=>by rw[z,he] at q;cases q)];exact q,fun b ps q=>⟨#[],by rw[rA (fun z=>by rw[z,he] at q;cases q),Array.append_empty];exact q⟩⟩
 have kp:∀b u,H1 b≠none->b≠a->s1.heap.get? b=some u->h'.get? b=some u:=fun b u hb na q=>m.keep b u q (fun z=>hb (sk b z)) na (fun z=>nomatch z);have ok':jy P w (del H1 a) h':=fun b o e=>by
  have nb:b≠a:=fun z=>by rw[z] at e;unfold del at e;rw[if_pos rfl] at e;cases e
  have e1:H1 b=some o:=by rw[rA nb] at e;exact e
  have own:∀c,H1 c=some (.own b)->c≠a:=fun c hc z=>by rw[z,he] at hc;cases hc
  refine(I.hok b o e1).stay (fun c u hc q=>?_) (fun c hc=>by rw[rA (own c hc)];exact hc) fun c xs hc=>by rw[rA (fun z=>by rw[z,he] at hc;cases hc)];exact hc
  rcases hc with rfl | hc
  .exact kp _ u (by rw[e1];exact fun z=>nomatch z) nb q
  .exact kp c u (by rw[hc];exact fun z=>nomatch z) (own c hc) q
 refine⟨a,some dx,del H1 a,rfl,hE,I.os,I.bare,A1 I un m hn (fun T' e=>nomatch e),ok',?_,hn,by unfold del;rw[if_pos rfl]⟩;obtain⟨QK,vs',T',Tp,ts',x1,x2,x3,x4,x5,x6,x7,x8,x9⟩:=m.Rq;exact⟨QK,vs',T',Tp,ts',x1,x2,x3,x4,x5,x6,x7,x8,Nat.le_trans hn (Nat.le_trans (Nat.le_of_lt lt) x9),dn _ (I.hok.fresh x9)⟩
theorem dg.okY {x qual:Str}{st:Stmt}{f:Addr}{fd:FuncData}{N ps:List Str}{k:Nat}{sp:Sp}(F:dg K x qual st f fd)(S:au N ps (ai st))(len:∀vs H Q E,sp vs H Q E->vs.length=ps.length)
  (hbody:∀(AT:Value)(A:Around)(outer:List Env)(s:Shared)(H:Hp)(vs:List V)(Q:VK) (E:XK),bV k (A.deeper (envOfC qual (ai st) s.heap.objs.size f AT))->sp vs H Q E->
   ∃t,sJ (YN P w C K mg base N qual (ai st) f AT A outer s H E) (ao st) t/\t {nx:=fun _ H'=>Q .cR H',rt:=Q } (start N vs) H):aL P w K mg base (qE P w C) (k+1) f fd ps sp:=by
 obtain⟨oc,od,kV,doc,pm,an,AT,ct,osl,rfl,lk,hcd⟩:=F.ex;exact TZ lk hcd S len fun A outer s H vs Q E hr Ou=>hbody AT A outer s H vs Q E hr Ou
end
end L2
namespace PySem
section
variable {M:Model}{A:Around}{E:Value->Shared->Prop}{env:Env}
variable {nm q:Str}{C N:Addr}{bs bm:List Value}{hdct:Bool}{sn:List Str}{sub:List Value}{ab:Bool}{col:Option Bool}{dd:Option Addr}{k0 k1 k2 k3 k5:Option Value}{newId:String}
theorem DL {s:Shared}{x:Sem Value}{Q:Flow->Shared->Prop}(Ap:bm.contains (.type "BaseException")=true)(hh:A.handled=none)
  (h:wpAny M A x (fun v s₁=>∃e t od,v=.ref e/\s₁.heap.get? C=some (excClassObj nm q C N bs bm hdct sn sub ab col dd k0 k1 k2 k3 k5 newId)/\
   s₁.heap.get? e=some {c8 C t with dict:=od }/\E (.ref e) s₁) E s) :
  wpAny M A (raiseStmt env (some x) none) Q E s:=by
 have hcB:(Value.ref C::bm).contains (.type "BaseException")=true:=by rw[List.contains_cons,Ap,Bool.or_true]
 unfold raiseStmt;refine wpAny_bind (wpAny_mono h (fun v s₁ h₁=>?_) fun _ _ x=>x);obtain⟨e,t,od,rfl,hC,he,hE⟩:=h₁;obtain⟨hp,g,d,tk,os⟩:=s₁
 repeat (first | with_reducible refine wpAny_loadPart_at he ?_ | with_reducible refine wpAny_loadPart_at hC ?_ | (with_reducible refine wpAny_isSubtype_exc hC ?_;rw[hcB]) | wp_step)
 exact wpAny_raiseNew_none hh hE
end
end PySem
namespace L2
open PySem PySem.Spec PyProof.Rows
section
variable {X:Cx}{k:Nat}{C fI:Addr}{fd:FuncData}{ps:List Str}{sp:Sp}{E:XK}{x:Str}{p pos BM:Pos}{e:Expr}{es:List Expr}{t:TA}{bm:List Value}
noncomputable def OI (C:Addr)(sp:Sp)(E:XK)(t:TA):TS:=fun _ U H=>t U H fun vs H1=>vs.length<=sizeLine/\∀a,H1 a=none->sp (.ref a::(vs++[])) (upd H1 a (Ow C a)) (fun v H2=>v=.cR/\∃dx,H2 a=some (Np C a dx)/\E (.ref C) (some dx) (del H2 a)) E0
theorem HL (XC:xH X.K C fI bm)(F:aL X.prog X.w X.K X.mg X.base c5 k fI fd ps sp)(hr:bV (k+1) X.A)(hg:Gl X x)(hm:X.mg x=some (.ref C))(hb:Binds X.K fd ps [])
  (hxe:∀{vy:List (Addr×Obj)} {U:St} {H1:Hp} {s1:Shared} {a dx:Addr},Inv X vy U H1 s1->H1 a=some (Np C a dx)->X.s₀.heap.objs.size<=a->E (.ref C) (some dx) (del H1 a)->X.xe (.ref a) s1)
  (ha:PA X (e::es) t) (hdb:autoParam ((x==("__debug__":Str))=false) zn) (he:autoParam (starEach (e::es) X.env=(false,eval e X.env)::starEach es X.env) zi) (hpl:autoParam ((backTo pos (starEach es X.env)).any (·.1)=false) zi) :
  PS X (.Raise (some (.Call (.Name x p) (e::es) [] pos)) none BM) (OI C sp E t):=by
 intro vy s U H D I h;obtain⟨nm,q,N,bs,hdct,sn,sub,ab,col,dd,k0,k1,k2,k3,k5,lk,hok,hni⟩:=XC.ob;rw[arm_exec_Raise];refine wpAny_bind (wpAny_standAt (DL (C:=C) (nm:=nm) (q:=q) (N:=N) (bs:=bs) (bm:=bm) (hdct:=hdct) (sn:=sn) (sub:=sub) (ab:=ab) (col:=col) (dd:=dd) (k0:=k0) (k1:=k1) (k2:=k2) (k3:=k3) (k5:=k5) (newId:="ValueError.__new__") XC.b hr.hd ?_));refine wpAny_bind (bA (Q:=fun v s3=>∃a t od,v=.ref a/\s3.heap.get? C=some (excClassObj nm q C N bs bm hdct sn sub ab col dd k0 k1 k2 k3 k5 "ValueError.__new__")/\s3.heap.get? a=some {c8 C t with dict:=od }/\X.xe (.ref a) s3) ?_ fun v s3 h3=>wpAny_bind (wpAny_standAt (wpAny_pure h3)));refine wpAny_Call_Name_kw (jU I hg hm ?_ hdb);refine PySem.W.callWith_K (h₀:=X.base) I.ok.mod.Oo XC.kp (bA (ha pos vy s U H _ I h) fun us s1 ⟨vs,H1,I1,r,hz,q1⟩=>⟨I1.iW,?_⟩) he hpl;have hq:=q1 (s1.heap.objs.size+1) (I1.hok.fresh (Nat.le_succ _));obtain⟨hp,g,d,tk,os⟩:=s1;have KX:X.K.In hp:=I1.iW;have hty:=beq_iff_eq.mp XC.fn;obtain⟨oI,lf,hfc⟩:∃oI,X.K.lookup fI=some oI/\oI.cls=.type "function":=by
  unfold PySem.W.typeIn at hty;exact Option.map_eq_some_iff.mp hty
 have hNs:hp.Ns N (hp.nsMap N):=.of_isNs (PySem.W.isNs_of_in KX hok);show wpAny _ _ (call (.ref C) us) _ _ _;have us1:us.length<=sizeLine:=by rw[<- r.length];exact hz
 refine a2F XC.v XC.a XC.n (KX _ _ lk) hNs (a03 KX hNs hni) (KX _ _ lf) hfc us1 ?_;have kp:∀b u,hp.get? b=some u->((hp.push {cls:=.type "tuple",data:=.seq us.toArray }).push (c8 C hp.objs.size)).get? b=some u:=fun b u z=>Heap.get?_push_of_some _ (Heap.get?_push_of_some _ z);have he1:((hp.push {cls:=.type "tuple",data:=.seq us.toArray }).push (c8 C hp.objs.size)).get? (hp.objs.size+1)=some (c8 C hp.objs.size):=by heap_get
 have I2:Inv X vy U (upd H1 (hp.objs.size+1) (Ow C (hp.objs.size+1))) ⟨(hp.push {cls:=.type "tuple",data:=.seq us.toArray }).push (c8 C hp.objs.size),g,d,tk,os⟩:=I1.laid (t':=tk) kp (Nat.le_succ _) (Nm ⟨_,he1⟩);have r2:Vals (V.ref (hp.objs.size+1)::(vs++[])) (Value.ref (hp.objs.size+1)::(us++[])):=.cons rfl (r.append .nil);have hl:(Value.ref (hp.objs.size+1)::us++[]).length=ps.length:=by
  have e:=r2.length;rw[F.len _ _ _ _ hq] at e;exact e.symm
 have hb':=hb _ (Value.ref (hp.objs.size+1)::us) I2.iW hl;rw[List.cons_append] at hb';refine wpAny_call (codeAny_mono (F.run _ X.stack _ _ ⟨Value.ref (hp.objs.size+1)::us,[]⟩ (Value.ref (hp.objs.size+1)::(us++[])) _ _ E0 (hr.make C us []) (I2.XI.make C us []) hb' r2 hq) fun r' s' hq'=>?_);cases r' with
 |error e=>exact False.elim hq'
 |ok fl=>
  cases fl with
  |ret u=>
   obtain⟨v,H',I3,rv,ev,dx,ea,hE⟩:=I2.after hq';subst ev;obtain⟨⟨t1,he3⟩,_⟩:=show bF X.prog X.w H' s'.heap (hp.objs.size+1) (Np C (hp.objs.size+1) dx) from I3.hok _ _ ea;exact⟨rv,hp.objs.size+1,t1,some dx,rfl,I3.iW _ _ lk,he3,hxe I3 ea (Nat.le_trans I1.sz (Nat.le_succ _)) hE⟩
  |next=>exact False.elim hq'
  |brk=>exact False.elim hq'
  |cont=>exact False.elim hq'
end
end L2
namespace PySem.W
open PySem PySem.Spec PySem.Calls PyProof.Rows
section
variable {prog:Program}{w:World}{A:Around}{E:Value->Shared->Prop}{K:Frag}{x D:Addr}{ox:Obj}{od:Option Obj}
theorem Nj (ul:Ji K D):findObj K D od "__class__"=some (.bind (.builtin "getset_descriptor.__get__") (.builtin "object.__class__")):=by
 obtain⟨cd,hc⟩:=Option.isSome_iff_exists.mp ul.cl;unfold findObj;rw[hc,Option.bind_some,ul.ca,Option.bind_some];simp[ul.gt,ul.tk]
theorem EB {s:Shared}{Q:Option Value->Shared->Prop}(ul:Ji K D)(X:K.In s.heap)(I:InstAt s.heap x ox D od)(hq:Q (some (.ref D)) {s with toks:=s.toks+1 }):wpAny (model prog w) A (getAttr? (.ref x) "__class__") Q E s:=by
 obtain⟨hh,g,d,t,os⟩:=s;have L0:=I.type (M:=model prog w);have L1:=looks_findIn (M:=model prog w) X ul.ga;have L2:=looks_findIn (M:=model prog w) X ul.no;have L3:=looks_find (M:=model prog w) X I (Nj ul);have L4:=looks_subIn (M:=model prog w) X ul.be;have G:=F.attr_ValueError.ga;unfold getAttr? getAttrBy? getAttrBy;refine wpAny_bind (wpAny_mkText (wpAny_bind (wpAny_attempt (wpAny_holding (wpAny_bind (L0.at (wpAny_bind (L1.at ?_))))))));dsimp only;have nq:(Value.builtin "BaseException.__getattribute__" ==Value.builtin "object.__getattribute__")=false:=by symm
 rw[if_neg (show ¬(onTheHeap (Value.ref D)&&Value.builtin "BaseException.__getattribute__" ==Value.builtin "object.__getattribute__")=true by rw[nq,Bool.and_false];exact Bool.false_ne_true)];unfold getAttrByItsOwn hookBefore;rw[if_pos (show onTheHeap (Value.ref D)=true from rfl)];refine wpAny_bind (L2.at (wpAny_bind (wpAny_attempt (wpAny_holding ?_))));unfold callGetattribute;rw[if_neg (by decide)];unfold boundAndCalled;refine wpAny_bind (wpAny_of_eq (G.bind (.ref x)) ?_);refine wpAny_call (codeAny_call_builtin G.plain F.entry_bexc_ga ?_);have LI:Looks (model prog w) hh (isInstance (.ref x) (.type "BaseException")) true:=L0.andThen L4;have kk:builtinKind "BaseException.__getattribute__"=some .slot:=by symm
 have ks:splitId "BaseException.__getattribute__"=some ("BaseException","__getattribute__"):=by symm
 have ka:=F.args_bexc_ga (.ref x) (.str "__class__" t);show wpAny _ _ (checkBuiltinCall "BaseException.__getattribute__" ⟨[.ref x,.str "__class__" t],[]⟩) _ _ _;simp only[checkBuiltinCall,kk,ks];refine wpAny_bind (LI.at ?_)
 repeat (any_goals (first | assumption | wp_step))
 refine wpAny_loadPart_at I.at_ (wpAny_pure ?_);rw[I.cls];refine wpAny_bind (L3.at ?_);show wpAny _ _ (Builtin.ObjectAttr.bindTo _ _ (.ref x) (.ref D)) _ _ _;unfold Builtin.ObjectAttr.bindTo;refine wpAny_bind (wpAny_holding (wpAny_call (class_get (od:=od) X I ul.ob ?_)));show wpAny _ _ (ret (Value.ref D)) _ _ _;refine wpAny_pure ?_;show wpAny _ _ (handedOut (.ref D)) _ _ _;exact handed_on rfl (wpAny_pure hq)
theorem yl (ul:Ji K D):KitX K (.ref x) (.ref D) (fun h=>∃ox od,InstAt h x ox D od) where
 ty:=(by rintro _ _ _ ⟨_,_,I⟩;exact I.type)
 it:=fun _ _ X _=>by
  obtain⟨cd,hc⟩:=Option.isSome_iff_exists.mp ul.cl;unfold clsIn at hc;split at hc
  .rename_i ho;intro A' Q' E' s' k q;unfold isType loadHead;exact wpAny_bind (wpAny_loadPart (k _ _ (X _ _ ho)) (wpAny_pure q))
  .cases hc
 ne:=fun h tp dd AC n sl X htp=>by
  obtain⟨cd,hc⟩:=Option.isSome_iff_exists.mp ul.cl;refine Bool.eq_false_iff.mpr fun q=>?_;have e:D=tp:=Value.ref.inj (beq_iff_eq.mp q);subst e;unfold clsIn at hc;split at hc
  .rename_i ho;cases(X _ _ ho).symm.trans htp
  .cases hc
 ca:=fun X ⟨_,_,I⟩ k=>EB ul X I k
theorem Em {s:Shared}{Q:Value->Shared->Prop}{f:Str}{v:Value}{expr:Bool}(ul:Ji K D)(X:K.In s.heap)(I:InstAt s.heap x ox D od)(hf:findObj K D od f=some (.value v))(hv:handedIn v=true)(hq:Q v {s with toks:=s.toks+1 }):wpAny (model prog w) A (getAttr (.ref x) f expr) Q E s:=by
 obtain⟨hh,g,d,t,os⟩:=s;have L0:=I.type (M:=model prog w);have L1:=looks_findIn (M:=model prog w) X ul.ga;have L2:=looks_findIn (M:=model prog w) X ul.no;have L3:=looks_find (M:=model prog w) X I hf;have L4:=looks_subIn (M:=model prog w) X ul.be;have G:=F.attr_ValueError.ga;unfold getAttr getAttrBy;refine wpAny_bind (wpAny_mkText (wpAny_holding (wpAny_bind (L0.at (wpAny_bind (L1.at ?_))))));dsimp only;have nq:(Value.builtin "BaseException.__getattribute__" ==Value.builtin "object.__getattribute__")=false:=by symm
 rw[if_neg (show ¬(onTheHeap (Value.ref D)&&Value.builtin "BaseException.__getattribute__" ==Value.builtin "object.__getattribute__")=true by rw[nq,Bool.and_false];exact Bool.false_ne_true)];unfold getAttrByItsOwn hookBefore;rw[if_pos (show onTheHeap (Value.ref D)=true from rfl)];refine wpAny_bind (L2.at (wpAny_bind (wpAny_attempt (wpAny_holding ?_))));unfold callGetattribute;rw[if_neg (by cases expr<;>decide)];unfold boundAndCalled;refine wpAny_bind (wpAny_of_eq (G.bind (.ref x)) ?_);refine wpAny_call (codeAny_call_builtin G.plain F.entry_bexc_ga ?_);have LI:Looks (model prog w) hh (isInstance (.ref x) (.type "BaseException")) true:=L0.andThen L4;have kk:builtinKind "BaseException.__getattribute__"=some .slot:=by symm
 have ks:splitId "BaseException.__getattribute__"=some ("BaseException","__getattribute__"):=by symm
 have ka:=F.args_bexc_ga (.ref x) (.str f t);show wpAny _ _ (checkBuiltinCall "BaseException.__getattribute__" ⟨[.ref x,.str f t],[]⟩) _ _ _;simp only[checkBuiltinCall,kk,ks];refine wpAny_bind (LI.at ?_)
 repeat (any_goals (first | assumption | wp_step))
 refine wpAny_loadPart_at I.at_ (wpAny_pure ?_);rw[I.cls];refine wpAny_bind (L3.at ?_);show wpAny _ _ (ret v) _ _ _;refine wpAny_pure ?_;show wpAny _ _ (handedOut v) _ _ _;exact handed_on hv hq
end
end PySem.W
namespace L2
open PySem PySem.Spec PyProof.Rows
section
variable {X:Cx}{a C dx:Addr}{oe:Obj}
theorem v8 (hc:oe.cls=.ref C)(hd:∃vs,oe.data=.fields vs)(hn:oe.dict=some dx){h:Heap}{od:Obj}(ha:h.get? a=some oe)(hx:h.get? dx=some od):PySem.W.InstAt h a oe C (some od):=by
 obtain⟨vs,hd⟩:=hd;refine⟨ha,hc,?_,by rw[hn];exact hx⟩;unfold PySem.W.notCls;rw[hd]
theorem JV {P:Program}{w:World}{H:Hp}{h:Heap}{fs:List (Str×V)}(ok:jy P w H h)(e:H dx=some (.xd fs)):∃(od:Obj)(mA:Str->Option Value),h.get? dx=some od/\(∀f,ju (fs.lookup f) (mA f))/\∀name,PySem.W.lookIn name od=some (mA name):=by
 obtain⟨mA,hn,r⟩:=show bF P w H h dx (.xd fs) from ok dx _ e;obtain⟨od,ho,hl⟩:=yj hn;exact⟨od,mA,ho,r,hl⟩
theorem yx (ul:PySem.W.Ji X.K C)(hp:(a,oe)∈X.pn)(hc:oe.cls=.ref C)(hd:∃vs,oe.data=.fields vs)(hn:oe.dict=some dx) :
  eS X (.builtin "isinstance") (fun xs H Q=>∃c b fs,xs=[.ref a,c]/\H dx=some (.xd fs)/\((∃u,RelV c u/\(∀v,RelV c v->v=u)/\PySem.W.kitOne X.K (.ref C) u=some b)∨(∃t cs us,c=.ref t/\H t=some (.tup cs)/\Vals cs us/\(∀vs,Vals cs vs->vs=us)/\PySem.W.kitAny X.K (.ref C) us=some b))/\Q (.bl b) H):=by
 intro vy s U H xs us Q I r h;obtain⟨c,b,fs,rfl,hx,hk,q⟩:=h;obtain⟨u1,u2,rfl,r1,r2⟩:=vals2 r;cases r1;have ha:=(I.pin (a,oe) (List.mem_append_left _ hp)).1;obtain⟨od,mA,ho,_,_⟩:=JV I.hok hx;have nb:(Value.ref a)≠.builtin "__main__.__loader__#opaque":=fun z=>by cases z
 have fin:∀tk,EP X vy U Q (.bool b) {s with toks:=tk }:=fun tk=>⟨.bl b,H,I.tok tk,rfl,q⟩
 rcases hk with⟨u,ru,inj,e⟩ | ⟨t,cs,ws,rfl,ht,rw',inj,e⟩
 .rw[inj u2 r2];exact PySem.W.kia_one (PySem.W.yl ul) I.iW ⟨oe,some od,v8 hc hd hn ha ho⟩ e nb fin
 .cases r2;obtain⟨_,AC,rv,o,ho2,hcl,n,hdt⟩:=show bF X.prog X.w H s.heap t (.tup cs) from I.hok t _ ht;rw[inj AC rv] at hdt;obtain⟨oc,od',odt,osl⟩:=o;cases hcl;cases hdt;exact PySem.W.kia_tup (PySem.W.yl ul) I.iW ⟨oe,some od,v8 hc hd hn ha ho⟩ ho2 e nb fin
theorem P9 {e:Expr}{ta:TE}{f:Str}{pos:Pos}(ul:PySem.W.Ji X.K C)(hp:(a,oe)∈X.pn)(hc:oe.cls=.ref C)(hd:∃vs,oe.data=.fields vs)(hn:oe.dict=some dx)(hh:PySem.W.hasDictIn X.K C=true)(hf:PySem.W.findIn X.K (.ref C) f=some none)
  (he:PE X e ta) (hb:attributeBase e f X.env (eval e X.env)=eval e X.env):PE X (.Attribute e f pos) (fun U H Q=>ta U H fun x H1=>x=.ref a/\∃fs v,H1 dx=some (.xd fs)/\fs.lookup f=some v/\Q v H1):=by
 intro vy s U H Q I h;refine Hj hb (bA (he vy s U H _ I h) ?_);rintro u s1 ⟨x,H1,I1,rx,ex,fs,v,hx,l,q⟩;subst ex;obtain rfl:u=Value.ref a:=rx;have ha:=(I1.pin (a,oe) (List.mem_append_left _ hp)).1;obtain⟨od,mA,ho,r,hl⟩:=JV I1.hok hx;obtain⟨u,hu,ru⟩:=ju.some_of (v:=v) (o:=mA f) (by rw[<- l];exact r f);exact PySem.W.Em ul I1.iW (v8 hc hd hn ha ho) (PySem.W.findObj_own hh hf rfl (by rw[hl,hu])) (yo ru) ⟨v,H1,I1.tok _,ru,q⟩
end
end L2
namespace PySem
section
variable {M:Model}{A:Around}{E:Value->Shared->Prop}{s:Shared}{base:Heap}{env:Env}{outer:List Env}{L a C:Addr}{od:Option Addr}{oe:Obj}{vs:Array Value}
theorem Ik {Q:Unit->Shared->Prop}{T:Addr}{oT:Obj}{ts:Array Value}(hfr:A.frames=some (env::outer))(hl:s.heap.FunFrames base (env::outer))(hf:env.frame=some L)
  (ha:s.heap.get? a=some oe) (hc:YO C oe od) (hd:oe.data=.fields vs) (h1:vs[1]?=some (.ref T)) (hT:s.heap.get? T=some oT) (Ei:oT.data=.fields ts) (h3:ts[3]?=some .none) (hne:T≠a)
  (k:∀h',j8 ((env::outer).filterMap (·.frame)) a (some T) C s.heap h' od->Q () {s with heap:=h' }):wpAny M A (noteFrame (.ref a) env) (fun _ s2=>wpAny M A (setFlight (.ref a) none) Q E s2) E s:=by
 unfold noteFrame;simp only[hf];refine wpAny_bind (wpAny_field ha hd h1 ?_);rw[if_pos (show(Value.ref T !=Value.none)=true by simp)];refine wpAny_bind (wpAny_field hT Ei h3 ?_);rw[if_neg (show ¬((Value.none==rawInt L)=true) by simp[rawInt])];refine wpAny_bind (wpAny_setField hT Ei (Array.getElem?_eq_some_iff.mp h3).1 ?_);have hnT:T∉(env::outer).filterMap (·.frame):=fun hm=>fY hl hm hT Ei;have Gn:∀b,b≠T->(s.heap.update T (Obj.mapFields (·.setIfInBounds 3 Value.none))).get? b=s.heap.get? b:=fun b hb=>Heap.get?_update_other _ _ (Ne.symm hb);have hl':(s.heap.update T (Obj.mapFields (·.setIfInBounds 3 Value.none))).FunFrames base (env::outer):=hl.of_keeps fun b o hb hnf=>⟨o,(Gn b fun z=>by rw[z,hT] at hb;injection hb with hb;subst hb;exact hnf ts Ei).trans hb,rfl⟩
 refine Es (s:={s with heap:=s.heap.update T (Obj.mapFields (·.setIfInBounds 3 Value.none)) }) hfr hl' hf ((Gn a (Ne.symm hne)).trans ha) hc hd (Array.getElem?_eq_some_iff.mp h1).1 fun h' m=>k h' ⟨fun b o q nf nb nT=>m.keep b o ((Gn b fun z=>nT (by rw[z])).trans q) nf nb (fun z=>nomatch z),fun b o q inf=>m.slot b o ((Gn b fun z=>hnT (z ▸ inf)).trans q) inf,?_,?_⟩
 .intro b o e q;cases e;have e3:=Heap.get?_update_self (Obj.mapFields (·.setIfInBounds 3 Value.none)) hT (Obj.isFreed_of_fields (Obj.data_mapFields Ei _));exact⟨_,m.keep T _ e3 hnT hne (fun z=>nomatch z)⟩
 .obtain⟨QK,vs',T',Tp,ts',x1,x2,x3,x4,x5,x6,x7,x8,x9⟩:=m.Rq;exact⟨QK,vs',T',Tp,ts',x1,x2,x3,x4,x5,x6,x7,x8,Nat.le_trans (Nat.le_of_eq (Heap.size_after_update ..).symm) x9⟩
theorem Rr {Q:Unit->Shared->Prop}{fr:List Addr}{old:Option Addr}{h2:Heap}(m:j8 fr a old C h2 s.heap od)(fn:∀b∈fr,b<h2.objs.size)(an:∀b,old=some b->b<h2.objs.size)(ha:a<h2.objs.size)
  (k:∀h',j8 fr a old C h2 h' od->(∀o,s.heap.get? a=some o->h'.get? a=some o)->Q () {s with heap:=h' }):wpAny M A (setFlight (.ref a) none) Q E s:=by
 obtain⟨QK,vs',T',Tp,ts',x1,x2,x3,x4,x5,x6,x7,x8,x9⟩:=m.Rq;unfold setFlight;refine wpAny_bind (wpAny_field x1 x3 x4 ?_);rw[if_pos (show(Value.ref T' !=Value.none)=true by simp)];refine wpAny_setField x5 x6 (Array.getElem?_eq_some_iff.mp x7).1 (k _ ?_ ?_)
 .have Gn:∀b,b<h2.objs.size->(s.heap.update T' (Obj.mapFields (·.setIfInBounds 3 ((none:Option Addr).elim Value.none fun f=>rawInt f)))).get? b=s.heap.get? b:=fun b hb=>Heap.get?_update_other _ _ (fun z=>by rw[<- z] at hb;exact Nat.lt_irrefl _ (Nat.lt_of_lt_of_le hb x9));refine⟨fun b o q nf nb nT=>(Gn b (Heap.lt_size q)).trans (m.keep b o q nf nb nT),fun b o q inf=>?_,fun b o e q=>?_,?_⟩
  .obtain⟨sl,z⟩:=m.slot b o q inf;exact⟨sl,(Gn b (fn b inf)).trans z⟩
  .obtain⟨o',z⟩:=m.a4V b o e q;exact⟨o',(Gn b (an b e)).trans z⟩
  .refine⟨QK,vs',T',_,_,(Gn a ha).trans x1,x2,x3,x4,Heap.get?_update_self _ x5 (Obj.isFreed_of_fields (Obj.data_mapFields x6 _)),Obj.data_mapFields x6 _,?_,x8,x9⟩;have hs:=(Array.getElem?_eq_some_iff.mp x7).1;simp[hs]
 .intro o z;rw[Heap.get?_update_other _ _ x8];exact z
end
end PySem
namespace L2
open PySem PySem.Spec PyProof.Rows
section
variable {X:Cx}{C W fI fW:Addr}{bm Jh:List Value}{xc n:Str}{i:Nat}{np hpos pos:Pos}{body:List Stmt}{b₀:Stmt}{suite:List Stmt}{tb:XK->TS}{ts:Addr->Addr->TS}
noncomputable def Su (X:Cx)(i:Nat)(ts:Addr->Addr->TS)(D:Ends):XK:=fun _ od H2=>∃dx,od=some dx/\∀(U':St)(a:Addr),U'.length=X.N.length->H2 a=none->ts a dx {D with nx:=fun _ _=>False,bk:=fun _ _=>False,ct:=fun _ _=>False } (U'.set i (some (.ref a))) H2
theorem PM (II:X.stack=X.env::X.outer)(hf:X.env.frame=some X.env.locals)(XC:xH X.K C fI bm)(XW:xH X.K W fW Jh)(hin:(Value.ref C::bm).contains (.ref W)=true)(hg:Gl X xc)(hm:X.mg xc=some (.ref W))(hN:X.N.Nodup)(hi:X.N[i]?=some n)(hl:X.env.kindOf n=some .local)
  (hb:∀(pn:List (Addr×Obj)) (xe:Value->Shared->Prop) (E:XK),Passes (qE X.prog X.w C) (X.tr pn xe) E->sJ (X.tr pn xe) body (tb E))
  (hs:∀(a dx:Addr)(oe:Obj)(pn:List (Addr×Obj)),oe.cls=.ref C->(∃vs,oe.data=.fields vs)->oe.dict=some dx->sJ (X.suite a ((a,oe)::pn)) (b₀::suite) (ts a dx)) (hdb:autoParam ((xc==("__debug__":Str))=false) zn) :
  PS X (.Try body [.ExceptHandler (some (.Name xc np)) (some n) (b₀::suite) hpos] [] [] pos) (fun D U H=>tb (Su X i ts D) D U H):=by
 intro vy s U H D I h;refine wpAny_Try_except (wpAny_mono (hb (X.pn++vy) _ (Su X i ts D) ?pass [] s U H D (a11 I fun p hp=>by rw[List.append_nil] at hp;exact hp) h) (fun f s1 q=>?_) fun e s1 z=>z)
 case pass=>
  rintro kg U' H1 s1 e s' I1 ⟨a,od,H2,rfl,⟨dx,rfl,hE⟩,os,bare,un,ok,fl⟩;have I1:Inv X vy U' H1 s1:=v5 I1 fun p hp=>List.mem_append_left _ hp;obtain⟨oe,vs,T,oT,ts',ha,hc,hd,h1,hT,Ei,h3,ne,nT,fT⟩:=fl.Rq;have un:Un (frs X.stack) [] H1 H2 s1.heap s'.heap:=un;have sk:∀b∈frs X.stack,H1 b=none:=I1.pH;have T4:s1.heap.FunFrames X.base X.stack:=I1.stack;have fl2:s'.heap.FunFrames X.base (X.env::X.outer):=II ▸ Ai (fun _ z=>z) sk un T4;have fr1:∀b∈frs X.stack,b<s1.heap.objs.size:=fun b hb=>by
   obtain⟨_,o,ho,_⟩:=T4.mem hb;exact Heap.lt_size ho
  have YK:∀b,b∈frs X.stack->H2 b=none:=fun b hb=>by
   obtain⟨_,o,ho,_⟩:=T4.mem hb;exact un.free b o ho (sk b hb) (by simp)
  have new:=fl.new;have lta:=Heap.lt_size ha;have szs:s1.heap.objs.size<=s'.heap.objs.size:=Nat.le_trans new (Nat.le_of_lt lta);have hfr:X.A.frames=some (X.env::X.outer):=II ▸ I1.ok.frames;refine Ik hfr fl2 hf ha hc hd h1 hT Ei h3 ne fun h3' m=>?_;have m:j8 (frs X.stack) a (some T) C s'.heap h3' (some dx):=by rw[II];exact m
  have inv:∀(h':Heap)(g:Array GenState)(d:Drawn)(t:Nat),AllBare g->j8 (frs X.stack) a (some T) C s'.heap h' (some dx)->Inv X vy U' H2 ⟨h',g,d,t,s1.os⟩:=fun h' g d t hb m=>by
   have nb:∀b u,s1.heap.get? b=some u->b≠a/\(some T:Option Addr)≠some b:=fun b u q=>⟨fun z=>absurd (Heap.lt_size q) (by rw[z];exact Nat.not_lt.mpr new),fun z=>absurd (Heap.lt_size q) (by cases z;exact Nat.not_lt.mpr nT)⟩
   have un3:Un (frs X.stack) [] H1 H2 s1.heap h':=⟨fun b u q n nf nx=>m.keep b u (un.keep b u q n nf nx) nf (nb b u q).1 (nb b u q).2,fun b u q n inf nx=>by
     obtain⟨sl,e1⟩:=un.slot b u q n inf nx;obtain⟨sl2,e2⟩:=m.slot b _ e1 inf;exact⟨sl2,e2⟩,un.free,fun b u q nx=>by
     obtain⟨o1,e1⟩:=un.there b u q nx;by_cases hb:b∈frs X.stack
     .obtain⟨sl,e2⟩:=m.slot b o1 e1 hb;exact⟨_,e2⟩
     .exact⟨o1,m.keep b o1 e1 hb (nb b u q).1 (nb b u q).2⟩,un.tups,un.nU,un.pF⟩
   exact I1.Ug (s':=⟨h',g,d,t,s1.os⟩) (ch:=[]) rfl un3 (ok.MN fun b u hb q=>m.keep b u q (fun z=>hb (YK b z)) (fun z=>hb (z ▸ fl.free)) (fun z=>hb (by cases z;exact fT))) hb (fun b z=>absurd z (by simp))
  obtain⟨hp',g',d',t',os'⟩:=s';obtain rfl:os'=s1.os:=os;have I3:=inv h3' g' d' t' bare m;obtain⟨oe3,vs3,T3,oT3,ts3,x1,x2,x3,x4,x5,x6,x7,x8,x9⟩:=m.Rq;have al:a≠X.env.locals:=fun z=>absurd (Nat.lt_of_lt_of_le (z ▸ I1.lt) new) (Nat.lt_irrefl _);have af:a∉X.fs:=fun z=>absurd (Nat.lt_of_lt_of_le (fr1 a (by rw[II];exact List.mem_cons_of_mem _ z |> fun w=>by unfold frs;rw[List.filterMap_cons,hf];exact w)) new) (Nat.lt_irrefl _);have IS:=TQ (a:=a) I3 x1 fl.free al af (fun v z=>by rw[x3] at z;cases z);obtain⟨nm,q,N,bs,hdct,sn,sub,ab,col,dd,k0,k1,k2,k3,k5,lkC,_,_⟩:=XC.ob;obtain⟨nm',q',N',bs',TV,sn',sub',ab',col',Ox,j0,j1,j2,j3,j5,lkW,_,_⟩:=XW.ob;refine wpAny_handleBy_cons (codeAny_handlers_test (jU (X:=X.suite a _) IS hg hm ?_ hdb)) (by intro q;cases q);refine WU (I3.iW _ _ lkC) (I3.iW _ _ lkW) x1 x2.1 XW.b hin ?_;refine codeAny_handlers_suite_as ?_;refine Rr (fr:=frs X.stack) m (fun b hb=>Nat.lt_of_lt_of_le (fr1 b hb) szs) (fun b e=>by cases e;exact Heap.lt_size hT) lta fun h4 m4 a1U=>?_;have I4:=inv h4 g' d' t' bare m4;have IS4:=TQ (a:=a) I4 (a1U _ x1) fl.free al af (fun v z=>by rw[x3] at z;cases z);refine kH (X:=X.suite a _) IS4 hN hi (Or.inl hl) (v:=.ref a) rfl (fun s5 I5=>?_) (.inr hl);refine wpAny_mono (hs a dx oe3 (X.pn++vy) x2.1 ⟨vs3,x3⟩ x2.2.1 [] s5 _ H2 _ I5 (hE U' a I1.len fl.free)) (fun f s6 q6=>?_) fun _ _ z=>False.elim z;cases f with
  |next=>obtain⟨_,_,_,z⟩:=q6;exact False.elim z
  |brk=>obtain⟨_,_,_,z⟩:=q6;exact False.elim z
  |cont=>obtain⟨_,_,_,z⟩:=q6;exact False.elim z
  |ret u=>
   obtain⟨v,σ6,H6,I6,rv,z⟩:=q6;obtain⟨m6,hn6,_⟩:=I6.loc;refine wpAny_nameGoes hl hn6 (by have:=I1.ok.kind;show(X.env.scope.kind==_||_)=false;rw[this];rfl) fun h7 m7 hn7 sb=>?_;exact⟨v,_,H6,Inv.forget I1.ok I6 (fun p hp=>List.mem_cons_of_mem _ hp) hn7 sb,rv,z⟩
 cases f with
 |next=>
  obtain⟨σ1,H1,I1,z⟩:=q;exact wpAny_pure ⟨σ1,H1,v5 I1 fun p hp=>List.mem_append_left _ hp,z⟩
 |brk=>obtain⟨σ1,H1,I1,z⟩:=q;exact⟨σ1,H1,v5 I1 fun p hp=>List.mem_append_left _ hp,z⟩
 |cont=>obtain⟨σ1,H1,I1,z⟩:=q;exact⟨σ1,H1,v5 I1 fun p hp=>List.mem_append_left _ hp,z⟩
 |ret u=>obtain⟨v,σ1,H1,I1,rv,z⟩:=q;exact⟨v,σ1,H1,v5 I1 fun p hp=>List.mem_append_left _ hp,rv,z⟩
end
end L2
namespace L3
open PySem L2 Hw PyProof.Rows
structure XG where
 Y:List Addr
 G:Hp
 x:Int->Prop
abbrev XG.m (g:XG):O:=.gh g.Y g.G
abbrev Yq (n:Int):HO:=.xd [("at",.int n)]
noncomputable def EX (K:PySem.W.Frag)(g:XG):XK:=fun _ od H=>∃Y S dx n,R3 K Y S H/\S[0]?=some g.m/\od=some dx/\res Y H dx=some (Yq n)/\g.x n
abbrev xh:=List D->aS->KD->(Int->Prop)->Prop
noncomputable def CY (K:PySem.W.Frag)(sp:xh):Sp:=fun vs H Q E=>∃Y S ds k g,R3 K Y S H/\dH K Y (res Y H) ds vs/\S[0]?=some g.m/\sp ds S k g.x/\(∀v H',up K Y H k v H'->Q v H')/\E=EX K g
section
variable {P:Program}{w:World}{K:PySem.W.Frag}{mg:Str->Option Value}{base:Heap}{C:Addr}
def uH (P:Program)(w:World)(K:PySem.W.Frag)(mg:Str->Option Value)(base:Heap)(C:Addr)(k:Nat)(x:Str)(ps:List Str)(sp:xh):Prop:=∃f fd,aL P w K mg base (qE P w C) k f fd ps (CY K sp)/\mg x=some (.ref f)/\PySem.W.keepIn K (.ref f)=true/\Binds K fd ps []
def C0 (P:Program)(w:World)(K:PySem.W.Frag)(mg:Str->Option Value)(base:Heap)(C:Addr)(k:Nat)(c:Addr)(m:Str)(ps:List Str)(sp:xh):Prop:=∃(f:Addr)(fd:FuncData),aL P w K mg base (qE P w C) k f fd ps (CY K sp)/\Meth K c m f/\Binds K fd ps []
theorem uH.up {j k:Nat}{x:Str}{ps:List Str}{sp:xh}(h:uH P w K mg base C j x ps sp)(l:j<=k):uH P w K mg base C k x ps sp:=let⟨f,fd,F,a⟩:=h;⟨f,fd,F.mono l,a⟩
theorem C0.up {j k:Nat}{c:Addr}{m:Str}{ps:List Str}{sp:xh}(h:C0 P w K mg base C j c m ps sp)(l:j<=k):C0 P w K mg base C k c m ps sp:=let⟨f,fd,F,a⟩:=h;⟨f,fd,F.mono l,a⟩
theorem An {x qual:Str}{st:Stmt}{f:Addr}{fd:FuncData}{N ps:List Str}{k:Nat}{sp:xh}(F:dg K x qual st f fd)(S:au N ps (ai st))
  (hb:∀(AT:Value)(A:Around)(outer:List Env)(s:Shared)(H:Hp)(g:XG),bV k (A.deeper (envOfC qual (ai st) s.heap.objs.size f AT))->
   ∃t,yE (YN P w C K mg base N qual (ai st) f AT A outer s H (EX K g)) (ao st) t/\∀ds S kk,Cl S->(∀d∈ds,Yb S.length d)->S[0]?=some g.m->sp ds S kk g.x->t (endsF S kk) (kI N ds) S)
  (len:∀ds S k x,sp ds S k x->ds.length=ps.length:=by intro ds S k x h;repeat (first | (obtain⟨rfl,_⟩:=h;rfl) | obtain⟨_,h⟩:=h)):aL P w K mg base (qE P w C) (k+1) f fd ps (CY K sp):=by
 refine F.okY S (fun vs H Q E ⟨Y,S,ds,kk,g,R,rd,hg,q,_⟩=>by rw[<- dH.len rd];exact len ds S kk _ q) ?_;rintro AT A outer s H vs Q E hr ⟨Y,S,ds,kk,g,R,rd,hg,q,hk,eE⟩;subst eE;obtain⟨t,h1,h2⟩:=hb AT A outer s H g hr;refine⟨_,h1,Y,S,kI N ds,endsF S kk,R,qG.start rd N,h2 ds S kk R.cl (fun d hd=>?_) hg q,?_⟩
 .obtain⟨v,z⟩:=iO rd d hd;rw[<- R.len];exact z.cl
 .refine⟨(by rintro U H' ⟨Y',S',Z',g',R',RS',q'⟩;exact hk _ _ (qj R ⟨Y',S',.cR,g',R',aO,q'⟩)),fun v H' u=>hk _ _ (qj R u),(by rintro U H' ⟨_,_,_,_,_,_,z⟩;exact z),(by rintro U H' ⟨_,_,_,_,_,_,z⟩;exact z)⟩
end
section
variable {X:Cx}{o e:Expr}{es:List Expr}{ta:bU}{t:mH}{f m x:Str}{pos BM p:Pos}{k:Nat}{ps:List Str}{sp:xh}{C c:Addr}{g:XG}
noncomputable def Kz (g:XG)(sp:xh)(t:mH):bU:=fun Z S k=>t Z S fun ds S1=>S1[0]?=some g.m/\sp ds S1 k g.x
theorem cH (F:uH X.prog X.w X.K X.mg X.base C k x ps sp)(hx:Passes (qE X.prog X.w C) X (EX X.K g))(hr:bV k X.A)(hg:Gl X x)(ha:QA X (e::es) t)(h1:autoParam (notStar e=true) zi)(h2:autoParam (es.all notStar=true) zi)(hdb:autoParam ((x==("__debug__":Str))=false) zn) :
  QE X (.Call (.Name x p) (e::es) [] pos) (Kz g sp t):=by
 obtain⟨f,fd,F,hm,hk,hb⟩:=F;refine bH (Bx F hr hg hm hk hb .nil hx ha h1 h2 hdb) fun U H Q ⟨Y,S,Z,k,R,D,q,hk⟩=>⟨Y,S,Z,_,R,D,q,?_⟩
 rintro v H1 ⟨Y1,S1,d,g1,R1,r1,q0,q1⟩;show CY X.K sp (v++[]) H1 Q _;rw[List.append_nil];exact⟨Y1,S1,d,k,g,R1,r1,q0,q1,fun v H' u=>hk v H' (u.gr g1),rfl⟩
noncomputable def Dr (g:XG)(c:Addr)(m:Str)(sp:xh)(ta:bU)(t:mH):bU:=fun Z S k=>ta Z S fun d S1=>∃ns l,iq S1 d=some (c,ns,l)/\ns.contains m=false/\t Z S1 fun ds S2=>S2[0]?=some g.m/\sp (d::ds) S2 k g.x
theorem uu {pl:Sem Bool}(he:QE X o ta)(M:C0 X.prog X.w X.K X.mg X.base C k c m ps sp)(hx:Passes (qE X.prog X.w C) X (EX X.K g))(hr:bV k X.A)(ha:QA X (e::es) t)(h1:autoParam (notStar e=true) zi)(h2:autoParam (es.all notStar=true) zi)
  (ht:autoParam (eval (.Call (.Attribute o m BM) (e::es) [] pos) X.env=(do
   let ov <- eval o X.env
   standAt BM.atName
   let(f,first) <- holding [ov] (getMethod ov m pl)
   callWith pos f first (backTo pos (starEach (e::es) X.env)) (backToKw pos (keywordEach [] X.env)))) zi) :
  QE X (.Call (.Attribute o m BM) (e::es) [] pos) (Dr g c m sp ta t):=by
 rintro vy s U H Q I ⟨Y,S,Z,k,R,D,q,hk⟩;refine PySem.W.methodCall_KW (pl:=pl) (bA (he vy s U H _ I ⟨Y,S,Z,_,R,D,q,fun v H' z=>z⟩) ?_) ht;rintro u s1 ⟨x,H1,I1,rx,Y1,S1,d,g1,R1,r1,ns,l,i1,hm0,q1⟩;obtain⟨a,dx,vs,e1,e2,e3,e4,e5⟩:=rj R1 r1 i1;subst e1;obtain rfl:u=Value.ref a:=rx;obtain⟨f,fd,F,hm,hb⟩:=M;refine jV I1 e2 e4.cls hm (nM hm0) ?_;refine PySem.W.callWith_K (first:=[.ref a]) (h₀:=X.base) I.ok.mod.Oo hm.kp (bA (ha pos vy s1 U H1 _ I1 ⟨Y1,S1,Z,_,R1,D.gr g1,q1,fun v H' z=>z⟩) ?_) (dG h1) (dI h2);rintro us s2 ⟨ws,H2,I2,r,Y2,S2,ds,g2,R2,r2,q0,q2⟩;refine⟨I2.iW,nJ (us:=.ref a::us) (vs:=.ref a::ws) F hr hb .nil hx I2 (.cons rfl r) ?_⟩;rw[List.append_nil];exact⟨Y2,S2,d::ds,k,g,R2,.cons (r1.gr g2) r2,q0,q2,fun v H' u=>hk v H' (u.gr (g1.trans g2)),rfl⟩
theorem vv {pl:Sem Bool}(he:QE X o ta)(M:C0 X.prog X.w X.K X.mg X.base C k c m ps sp)(hx:Passes (qE X.prog X.w C) X (EX X.K g))(hr:bV k X.A)
  (ht:autoParam (eval (.Call (.Attribute o m BM) [] [] pos) X.env=(do
   let ov <- eval o X.env
   standAt BM.atName
   let(f,first) <- holding [ov] (getMethod ov m pl)
   callWith pos f first (backTo pos (starEach [] X.env)) (backToKw pos (keywordEach [] X.env)))) zi) :
  QE X (.Call (.Attribute o m BM) [] [] pos) (Dr g c m sp ta bQ):=by
 rintro vy s U H Q I ⟨Y,S,Z,k,R,D,q,hk⟩;refine PySem.W.methodCall_KW (pl:=pl) (bA (he vy s U H _ I ⟨Y,S,Z,_,R,D,q,fun v H' z=>z⟩) ?_) ht;rintro u s1 ⟨x,H1,I1,rx,Y1,S1,d,g1,R1,r1,ns,l,i1,hm0,q0,q1⟩;obtain⟨a,dx,vs,e1,e2,e3,e4,e5⟩:=rj R1 r1 i1;subst e1;obtain rfl:u=Value.ref a:=rx;obtain⟨f,fd,F,hm,hb⟩:=M;refine jV I1 e2 e4.cls hm (nM hm0) ?_;refine PySem.W.callWith_K0 (first:=[.ref a]) I1.iW hm.kp (nJ (us:=[.ref a]) (vs:=[.ref a]) F hr hb .nil hx I1 (.cons rfl .nil) ?_);exact⟨Y1,S1,[d],k,g,R1,.cons r1 .nil,q0,q1,fun v H' u=>hk v H' (u.gr g1),rfl⟩
noncomputable def K3 (C:Addr):Sp:=fun vs H Q _=>∃a n,vs=[.ref a,.int n]/\n.natAbs<=1000000/\H a=some (Ow C a)/\∀dx,H dx=none->dx≠a->Q .cR (upd (upd H a (Np C a dx)) dx (Yq n))
noncomputable def OJ (g:XG)(t:mH):ku:=fun _ Z S=>t Z S fun ds S1=>∃n,ds=[.int n]/\n.natAbs<=1000000/\S1[0]?=some g.m/\g.x n
theorem Ny {H:Hp}{a dx:Addr}{u v o:HO}(h:H a=none)(ne:dx≠a):del (upd (upd (upd H a u) a v) dx o) a=upd H dx o:=by
 funext b;unfold del upd;by_cases e:b=a
 .subst e;rw[if_pos rfl,if_neg (Ne.symm ne),h]
 .rw[if_neg e,if_neg e,if_neg e]
theorem Lu {fI:Addr}{bm:List Value}{fd:FuncData}(XC:xH X.K C fI bm)(F:aL X.prog X.w X.K X.mg X.base c5 k fI fd ps (K3 C))(hr:bV (k+1) X.A)(hg:Gl X x)(hm:X.mg x=some (.ref C))(hb:Binds X.K fd ps [])
  (hxe:∀{vy:List (Addr×Obj)} {U:L2.St} {H1:Hp} {s1:Shared} {a dx:Addr},Inv X vy U H1 s1->H1 a=some (Np C a dx)->X.s₀.heap.objs.size<=a->EX X.K g (.ref C) (some dx) (del H1 a)->X.xe (.ref a) s1)
  (ha:QA X (e::es) t) (hdb:autoParam ((x==("__debug__":Str))=false) zn) (h1:autoParam (notStar e=true) zi) (h2:autoParam (es.all notStar=true) zi) :
  QS X (.Raise (some (.Call (.Name x p) (e::es) [] pos)) none BM) (OJ g t):=by
 refine gU (HL XC F hr hg hm hb hxe ha hdb (dG h1) (dI h2)) fun D U H ⟨Y,S,Z,E,R,RS,q,eu⟩=>⟨Y,S,Z,_,R,RS,q,?_⟩
 rintro vs H1 ⟨Y1,S1,ds,g1,R1,r1,n,e1,hn,q0,q1⟩;subst e1;obtain⟨v,rfl,rv⟩:=r1.one;rw[aE rv];refine⟨Nat.le_of_lt (line 1 (by decide)),fun a ha=>⟨a,n,rfl,hn,cS,fun dx hd ne=>⟨rfl,dx,?_,?_⟩⟩⟩
 .rw[aH (Ne.symm ne),cS]
 .rw[Ny ha ne];have hd:H1 dx=none:=by rw[aH ne] at hd;exact hd
  obtain⟨R2,_,e2⟩:=R1.new (o:=Yq n) hd;exact⟨Y1,S1,dx,n,R2,q0,rfl,e2,q1⟩
end
theorem qE.mono {P:Program}{w:World}{C:Addr}{outer:List Env}{H:Hp}{s s':Shared}{E E':XK}{e:Value}(m:∀c od H,E c od H->E' c od H)(h:qE P w C outer H s E e s'):qE P w C outer H s E' e s':=
 let⟨a,od,H',h1,h2,h3⟩:=h
 ⟨a,od,H',h1,m _ _ _ h2,h3⟩
theorem R3.mark {K:PySem.W.Frag}{Y:List Addr}{H:Hp}{o:O}(R:R3 K Y [o] H){ρ0:List Addr}{G0:Hp}(h1:∀(n:Nat)(a:Addr),ρ0[n]?=some a->Y[n]?=some a)(h2:Le G0 (res Y H)):R3 K Y [.gh ρ0 G0] H:=by
 refine⟨R.len,R.nd,fun n a u e1 e2=>?_⟩;cases n with
 |succ n=>simp at e2
 |zero=>
  cases e2;exact⟨(R.ok 0 a o e1 rfl).some,h1,h2⟩
abbrev G1 (dx:Addr)(n:Int):Hp:=fun b=>if b=dx then some (Yq n) else none
section
variable {X:Cx}{C W fI fW:Addr}{bm Jh:List Value}{xc n:Str}{i:Nat}{np hpos pos:Pos}{body:List Stmt}{b₀:Stmt}{suite:List Stmt}{tb:XG->ku}{ts:Addr->Addr->ku}
noncomputable def Zb (m i:Nat)(tb:XG->ku)(ts:Addr->Addr->ku):ku:=fun E Z S=>∃o,S=[o]/\∃x:Int->Prop,(∀Y G,tb ⟨Y,G,x⟩ E Z [.gh Y G])/\
 ∀n,x n->∀a dx,ts a dx {E with nx:=fun _ _=>False,bk:=fun _ _=>False,ct:=fun _ _=>False } ((List.replicate m none).set i (some (.t (.v (.ref a))))) [.gh [] (G1 dx n)]
theorem Pr (II:X.stack=X.env::X.outer)(hf:X.env.frame=some X.env.locals)(XC:xH X.K C fI bm)(XW:xH X.K W fW Jh)(hin:(Value.ref C::bm).contains (.ref W)=true)(hg:Gl X xc)(hm:X.mg xc=some (.ref W))(hN:X.N.Nodup)(hi:X.N[i]?=some n)(hl:X.env.kindOf n=some .local)
  (hb:∀(pn:List (Addr×Obj)) (xe:Value->Shared->Prop) (g:XG),Passes (qE X.prog X.w C) (X.tr pn xe) (EX X.K g)->yE (X.tr pn xe) body (tb g))
  (hs:∀(a dx:Addr)(oe:Obj)(pn:List (Addr×Obj)),oe.cls=.ref C->(∃vs,oe.data=.fields vs)->oe.dict=some dx->yE (X.suite a ((a,oe)::pn)) (b₀::suite) (ts a dx)) (hdb:autoParam ((xc==("__debug__":Str))=false) zn) :
  QS X (.Try body [.ExceptHandler (some (.Name xc np)) (some n) (b₀::suite) hpos] [] [] pos) (Zb X.N.length i tb ts):=by
 refine gU (PM (tb:=fun E D U H=>∃g,(∀c od H',EX X.K g c od H'->E c od H')/\YG X.K (tb g) D U H) (ts:=fun a dx=>YG X.K (ts a dx)) II hf XC XW hin hg hm hN hi hl
  ((by rintro pn xe E hp vy s U H D I ⟨g,hE,q⟩;exact hb pn xe g (fun vy U H s e s' I c=>hp vy U H s e s' I (qE.mono hE c)) vy s U H D I q)) (fun a dx oe pn h1 h2 h3=>hs a dx oe pn h1 h2 h3) hdb) ?_
 rintro D U H ⟨Y,S,Z,E,R,RS,⟨o,rfl,x,h1,h2⟩,eu⟩;refine⟨⟨Y,res Y H,x⟩,?_,Y,_,Z,E,R.mark (fun _ _ z=>z) (Le.refl _),RS,h1 _ _,eu⟩;rintro c od H' ⟨Y',S',dx,n,R',e0,rfl,ed,hx⟩;refine⟨dx,rfl,fun U' a hl' ha=>?_⟩;obtain⟨S1,rfl⟩:∃S1,S'=[.gh Y (res Y H)]++S1:=by
  cases S' with
  |nil=>simp at e0
  |cons y r=>simp at e0;exact⟨r,by rw[e0];rfl⟩
 have l1:=R.len;obtain⟨y,ey⟩:∃y,Y=[y]:=by
  match Y,l1 with
  |[y],_=>exact⟨y,rfl⟩
 have l2:=R'.len;obtain⟨y',r',er⟩:∃y' r',Y'=y'::r':=by
  cases Y' with
  |nil=>simp at l2
  |cons y' r'=>exact⟨y',r',rfl⟩
 have q0:=R'.ok 0 y' _ (by rw[er];rfl) rfl;obtain⟨q1,q2,q3⟩:(∃u,H' y'=some u)/\(∀(n:Nat)(a:Addr),Y[n]?=some a->Y'[n]?=some a)/\Le (res Y H) (res Y' H'):=q0;have eyy:y'=y:=by
  have:=q2 0 y (by rw[ey];rfl);rw[er] at this;simpa using this
 have eρ:Y'=Y++r':=by rw[er,ey,eyy];rfl
 subst eρ;have R2:R3 X.K Y [.gh Y (res Y H)] H':=R'.pop l1 (fun o ho=>by rw[List.mem_singleton.mp ho];show Y.length<=1;rw[l1];exact Nat.le_refl _);have g2:Gr Y H Y H':=⟨⟨[],by simp⟩,q3.trans gZ⟩
 have ed2:res Y H' dx=some (Yq n):=gZ _ _ ed;refine⟨Y,_,_,_,R2.mark (ρ0:=[]) (G0:=G1 dx n) (fun n a z=>by simp at z) (fun b o z=>?_),?_,h2 n hx a dx,?_⟩
 .unfold G1 at z;split at z
  .rename_i eb;cases z;rw[eb];exact ed2
  .cases z
 .refine qG.set (Z:=List.replicate X.N.length none) (U:=U') ⟨by rw[List.length_replicate,hl'],fun j d z=>?_⟩ aO i;rw[List.getElem?_replicate] at z;split at z<;>cases z
 .have eu2:=eu.gr g2;exact⟨(by rintro U H ⟨_,_,_,_,_,_,z⟩;exact z),eu2.rt,(by rintro U H ⟨_,_,_,_,_,_,z⟩;exact z),(by rintro U H ⟨_,_,_,_,_,_,z⟩;exact z)⟩
end
section
variable {X:Cx}{a C dx:Addr}{oe:Obj}{e:Expr}{ta:bU}{f:Str}{pos:Pos}
def Mk1 (S:aS)(dx:Addr)(n:Int):Prop:=∃Y G,S[0]?=some (.gh Y G)/\G dx=some (Yq n)
theorem zX {K:PySem.W.Frag}{Y:List Addr}{S:aS}{H:Hp}(R:R3 K Y S H){n:Int}(h:Mk1 S dx n):H dx=some (Yq n):=by
 obtain⟨r,G,h1,h2⟩:=h;have l:0<Y.length:=by rw[R.len];exact(List.getElem?_eq_some_iff.mp h1).1
 obtain⟨_,_,q⟩:(∃u,H Y[0]=some u)/\(∀(n:Nat)(a:Addr),r[n]?=some a->Y[n]?=some a)/\Le G (res Y H):=R.ok 0 Y[0] _ (List.getElem?_eq_getElem l) h1;exact(res_some (q _ _ h2)).2
noncomputable def a4u (a dx:Addr)(ta:bU):bU:=fun Z S k=>ta Z S fun d S1=>d=.t (.v (.ref a))/\∃n,Mk1 S1 dx n/\k (.int n) S1
theorem Te (ul:PySem.W.Ji X.K C)(hp:(a,oe)∈X.pn)(hc:oe.cls=.ref C)(hd:∃vs,oe.data=.fields vs)(hn:oe.dict=some dx)(hh:PySem.W.hasDictIn X.K C=true)(hf:PySem.W.findIn X.K (.ref C) "at"=some none)
  (he:QE X e ta) (hb:attributeBase e "at" X.env (eval e X.env)=eval e X.env):QE X (.Attribute e "at" pos) (a4u a dx ta):=
 bH (P9 ul hp hc hd hn hh hf he hb) (by rintro U H Q ⟨Y,S,Z,k,R,D,q,hk⟩;exact⟨Y,S,Z,_,R,D,q,(by
  rintro v H1 ⟨Y1,S1,d,g1,R1,r1,e1,n,m,q1⟩;subst e1;exact⟨aE r1,_,_,zX R1 m,rfl,hk _ _ ⟨Y1,S1,_,g1,R1,aO,q1⟩⟩)⟩)
noncomputable def M0 (K:PySem.W.Frag)(a C dx:Addr)(c:V)(u:Value):I8
 |[d,.t (.v c')],S,k=>d=.t (.v (.ref a))/\c'=c/\(∃n,Mk1 S dx n)/\∃b,PySem.W.kitOne K (.ref C) u=some b/\k (.bl b) S
 |_,_,_=>False
theorem RN {c:V}{u:Value}(ul:PySem.W.Ji X.K C)(hp:(a,oe)∈X.pn)(hc:oe.cls=.ref C)(hd:∃vs,oe.data=.fields vs)(hn:oe.dict=some dx)(ru:RelV c u)(inj:∀v,RelV c v->v=u):Call3 X (.builtin "isinstance") (M0 X.K a C dx c u):=by
 refine g8 (yx ul hp hc hd hn) ?_;rintro vs H Q ⟨Y,S,ds,k,R,rd,q,hk⟩;unfold M0 at q;split at q
 .obtain⟨v,w,rfl,rv,rw'⟩:=rd.two;obtain⟨rfl,rfl,⟨n,m⟩,b,h1,h2⟩:=q;rw[aE rv,aE rw'];exact⟨_,b,_,rfl,zX R m,.inl ⟨u,ru,inj,h1⟩,fin R hk aO h2⟩
 .exact q.elim
noncomputable def MZ (K:PySem.W.Frag)(a C dx:Addr)(cs:List Addr):I8
 |[d,.t (.tup l)],S,k=>d=.t (.v (.ref a))/\l=cs.map (fun c=>T.v (.ref c))/\(∃n,Mk1 S dx n)/\∃b,PySem.W.kitAny K (.ref C) (cs.map Value.ref)=some b/\k (.bl b) S
 |_,_,_=>False
theorem aW.refs {K:PySem.W.Frag}{G:Hp}:∀{cs:List Addr}{vs:List V},aW K G (cs.map fun c=>T.v (.ref c)) vs->vs=cs.map V.ref
 |[],vs,r=>by unfold aW at r;exact r
 |n::ns,vs,r=>by
  rw[List.map_cons] at r;unfold aW at r;obtain⟨v,vr,e1,e2,e3⟩:=r;unfold Rp at e2;rw[e1,e2,aW.refs e3];rfl
theorem lX:∀cs:List Addr,Vals (cs.map V.ref) (cs.map Value.ref)/\∀vs,Vals (cs.map V.ref) vs->vs=cs.map Value.ref
 |[]=>⟨.nil,fun vs h=>by cases h;rfl⟩
 |c::r=>⟨.cons rfl (lX r).1,fun vs h=>by
  cases h with
  |cons a b=>
   rw[(lX r).2 _ b];have:_=Value.ref c:=a;rw[this];rfl⟩
theorem RM {cs:List Addr}(ul:PySem.W.Ji X.K C)(hp:(a,oe)∈X.pn)(hc:oe.cls=.ref C)(hd:∃vs,oe.data=.fields vs)(hn:oe.dict=some dx):Call3 X (.builtin "isinstance") (MZ X.K a C dx cs):=by
 refine g8 (yx ul hp hc hd hn) ?_;rintro vs H Q ⟨Y,S,ds,k,R,rd,q,hk⟩;unfold MZ at q;split at q
 .obtain⟨v,w,rfl,rv,rw'⟩:=rd.two;obtain⟨rfl,rfl,⟨n,m⟩,b,h1,h2⟩:=q;rw[aE rv];obtain⟨tp,ws,f1,f2,f3⟩:=d7 rw';rw[f1];have f3:=aW.refs f3;subst f3;exact⟨_,b,_,rfl,zX R m,.inr ⟨tp,_,_,rfl,f2,(lX cs).1,(lX cs).2,h1⟩,fin R hk aO h2⟩
 .exact q.elim
end
end L3
namespace L2
open PySem PySem.Spec PyProof.Rows Hw
section
variable {X:Cx}
noncomputable def a4P (K:PySem.W.Frag):R2:=fun x y H Q=>∃a b z u,x=.ref a/\y=.ref b/\jx K H a [.str z]/\jx K H b [.str u]/\Q (.bl (decide (z=u))) H
theorem Wx (hu:X.A.units+1<cLine):iR X (compareOp .Eq) (a4P X.K):=by
 intro vy s U H x y v u Q I rx ry h;obtain⟨a,b,z,w,rfl,rfl,ha,hb,q⟩:=h;cases rx;cases ry;obtain⟨us,r1,p1,_⟩:=I.list ha;obtain⟨vs,r2,p2,_⟩:=I.list hb;cases r1 with
 |cons z1 t1=>
 cases t1;cases r2 with
 |cons z2 t2=>
 cases t2;refine SeqAt.eq_listAt (e:=fun _=>decide (z=w)) p1.isList p2.isList rfl (by omega) (fun j h1 h2=>?_) ?_
 .have hj:j=0:=by simp at h1;exact h1
  subst hj;have:=Er (A:=X.A.in1) (s:=s) z1 z2 rfl rfl;have e:yt (V.str z) (V.str w)=decide (z=w):=by
   by_cases hzw:z=w
   .subst hzw;rw[wz rfl,decide_eq_true rfl]
   .rw[decide_eq_false hzw]
    first | (unfold yt;simp[hzw];done) | (simp[yt,hzw];done)
  rw[e] at this;exact this
 .have:((List.range 1).all fun _=>decide (z=w))=decide (z=w):=by simp[List.range_succ]
  show EP X vy U Q (.bool ((List.range 1).all fun _=>decide (z=w))) s;rw[this];exact⟨.bl (decide (z=w)),H,I,rfl,q⟩
end
end L2
namespace L3
open PySem L2 Hw
noncomputable def eq1:oN:=fun a b S k=>∃x y,lq S a=some [T.str x]/\lq S b=some [T.str y]/\k (.bl (decide (x=y))) S
theorem a00 {X:Cx}(hu:X.A.units+1+40<cLine):uG X (compareOp .Eq) eq1:=by
 refine fK (Wx (by omega)) ?_;rintro x y H Q ⟨Y,S,a,b,k,R,ra,rb,⟨z,u,h1,h2,q⟩,hk⟩;obtain⟨p1,vs,e1,e2,e3⟩:=cD R ra h1;obtain⟨p2,ws,f1,f2,f3⟩:=cD R rb h2;have e3:=aW.strs (ns:=[z]) e3;have f3:=aW.strs (ns:=[u]) f3;subst e3 f3;exact⟨p1,p2,z,u,e1,f1,.of e2,.of f2,fin R hk aO q⟩
inductive Kd where
 |hp | an | nd | gv | st | iF | wh | ho | fa | el | en | nl | ot
deriving DecidableEq
inductive Rs where
 |ok (n:Nat) | er (n:Nat) | uk
noncomputable def Rs.sh (n:Nat):Rs->Rs
 |.ok m=>.ok (n+m)
 |.er m=>.er (n+m)
 |.uk=>.uk
noncomputable def sX:Kd->Str
 |.hp=>"helper" |.an=>"answers" |.nd=>"needs" |.gv=>"gives" |.iF=>"if" |.wh=>"while" |.ho=>"holds" |.fa=>"falls" |.el=>"else" |.en=>"end" |_=>""
def isLt:SX->Prop
 |.lt ..=>True | _=>False
def Jj:Kd->List Str->Prop
 |.hp,w=>∃nm ps,w=("helper":Str)::nm::ps/\isNm nm=true/\(∀x∈ps,iI x=true/\x.length<=100)/\ps.length<=100
 |.an,w=>∃an,w=("answers":Str)::an/\an≠[]/\(∀x∈an,isNm x=true)/\an.length<=100
 |.st,w=>∃x:SX,w=x.AU/\x.ok/\(isLt x∨GC x∨Ri x)
 |.fa,w=>∃s:Sw,w=("falls":Str)::s.w/\tG s
 |.el,w=>w=[("else":Str)]
 |.en,w=>w=[("end":Str)]
 |.nl,w=>w=[("":Str)]
 |.ot,w=>w≠[]
 |k,w=>∃c,w=Oh (sX k) c/\Jb c
noncomputable def yi:List Kd->Bool
 |.ot::_=>false
 |_=>true
noncomputable def cnt (k:Kd):List Kd->Nat
 |[]=>0
 |a::r=>if a=k then cnt k r+1 else 0
noncomputable def Al (b:Nat)(r:List Kd)(m:Nat):Rs:=match r.drop m with
 |.en::_=>.ok (b+m+1)
 |.el::_=>.er (b+m)
 |_=>.uk
noncomputable def chs (F:List Kd->Rs)(l:List Kd):Rs:=match F l with
 |.ok n=>(match l.drop n with
  |.el::r=>(match F r with
   |.ok m=>if m=0 then .er (n+1) else Al (n+1) r m
   |.er m=>.er (n+1+m)
   |.uk=>.uk)
  |.en::_=>.ok (n+1)
  |_=>.uk)
 |.er n=>.er n
 |.uk=>.uk
noncomputable def bdy (F:List Kd->Rs)(b:Nat)(r:List Kd):Rs:=match F r with
 |.ok m=>Al b r m
 |.er m=>.er (b+m)
 |.uk=>.uk
noncomputable def rpt (F:List Kd->Rs)(l:List Kd):Rs:=if yi (l.drop (cnt .ho l))=false then .uk else match l.drop (cnt .ho l) with
 |.fa::r=>bdy F (cnt .ho l+1) r
 |r=>bdy F (cnt .ho l) r
noncomputable def Dy (F:List Kd->Rs):List Kd->Rs
 |[]=>.er 0
 |.st::_=>.ok 1
 |.iF::r=>(chs F r).sh 1
 |.wh::r=>(rpt F r).sh 1
 |.ot::_=>.uk
 |.en::_=>.uk
 |.el::_=>.uk
 |_=>.er 0
noncomputable def Rj:List Kd->Bool
 |.en::_=>true
 |.el::_=>true
 |_=>false
noncomputable def sM (F:List Kd->Rs):Nat->List Kd->Rs
 |0,_=>.uk
 |f+1,l=>if Rj l=true then .ok 0 else match Dy F l with
  |.ok n=>(sM F f (l.drop n)).sh n
  |.er n=>.er n
  |.uk=>.uk
noncomputable def hl3 (G:List Kd->Rs)(b:Nat)(r:List Kd):Rs:=if yi (r.drop (cnt .gv r))=false then .uk else bdy G (b+cnt .gv r) (r.drop (cnt .gv r))
noncomputable def hl2 (G:List Kd->Rs)(b:Nat)(r:List Kd):Rs:=if yi (r.drop (cnt .nd r))=false then .uk else hl3 G (b+cnt .nd r) (r.drop (cnt .nd r))
noncomputable def GI (G:List Kd->Rs):List Kd->Rs
 |[]=>.er 0
 |.hp::r=>if yi r=false then .uk else(match r with
  |.an::r'=>hl2 G 2 r'
  |r=>hl2 G 1 r)
 |.ot::_=>.uk
 |_=>.er 0
noncomputable def Pj (G:List Kd->Rs)(be:Bool):Nat->List Kd->Rs
 |0,_=>.uk
 |f+1,l=>match GI G l with
  |.ok n=>if(l.drop n).isEmpty=true then(if be=true then .ok n else .er n) else(Pj G be f (l.drop n)).sh n
  |.er n=>.er n
  |.uk=>.uk
noncomputable def F0:List Kd->Rs:=fun _=>.uk
noncomputable def F1:List Kd->Rs:=sM F0 40
noncomputable def F2:List Kd->Rs:=sM F1 40
noncomputable def prs (be:Bool)(l:List Kd):Rs:=Pj F2 be 4 l
theorem gM {α:Type}{l r:List α}{a:α}{n:Nat}(h:l.drop n=a::r):n+1+r.length=l.length:=by
 have:=congrArg List.length h;rw[List.length_drop,List.length_cons] at this;omega
theorem lF (k:Kd):∀l:List Kd,cnt k l<=l.length
 |[]=>Nat.le_refl _
 |a::r=>by
  have:=lF k r;unfold cnt;split
  .rw[List.length_cons];omega
  .exact Nat.zero_le _
theorem GQ {b m n:Nat}{r:List Kd}(h:Al b r m=.ok n):n<=b+r.length/\n=b+m+1/\∃r',r.drop m=.en::r':=by
 unfold Al at h;split at h
 .rename_i r' e;have:=gM e;cases h;exact⟨by omega,rfl,r',e⟩
 .cases h
 .cases h
theorem Yc {F:List Kd->Rs}{l:List Kd}{n:Nat}(h:chs F l=.ok n):n<=l.length:=by
 unfold chs at h;split at h
 .rename_i a _;split at h
  .rename_i r e;have:=gM e;split at h
   .split at h
    .cases h
    .have:=(GQ h).1;omega
   .cases h
   .cases h
  .rename_i r e;have:=gM e;cases h;omega
  .cases h
 .cases h
 .cases h
theorem EH {F:List Kd->Rs}{b n:Nat}{r:List Kd}(h:bdy F b r=.ok n):n<=b+r.length/\b+1<=n:=by
 unfold bdy at h;split at h
 .have:=GQ h;exact⟨this.1,by omega⟩
 .cases h
 .cases h
theorem Vr {F:List Kd->Rs}{l:List Kd}{n:Nat}(h:rpt F l=.ok n):n<=l.length:=by
 have hc:=lF .ho l;unfold rpt at h;split at h
 .cases h
 .split at h
  .rename_i r e;have:=gM e;have:=(EH h).1;omega
  .have:=(EH h).1;rw[List.length_drop] at this;omega
theorem SI {n m:Nat}{r:Rs}(h:r.sh n=.ok m):∃j,r=.ok j/\m=n+j:=by
 cases r with
 |ok j=>cases h;exact⟨j,rfl,rfl⟩
 |er j=>cases h
 |uk=>cases h
theorem U4 {F:List Kd->Rs}{l:List Kd}{n:Nat}(h:Dy F l=.ok n):n<=l.length/\1<=n:=by
 unfold Dy at h;split at h
 .cases h
 .cases h;simp
 .obtain⟨j,e,rfl⟩:=SI h;have:=Yc e;simp;omega
 .obtain⟨j,e,rfl⟩:=SI h;have:=Vr e;simp;omega
 .cases h
 .cases h
 .cases h
 .cases h
theorem Xu {G:List Kd->Rs}{b n:Nat}{r:List Kd}(h:hl3 G b r=.ok n):n<=b+r.length/\b+1<=n:=by
 have hc:=lF .gv r;unfold hl3 at h;split at h
 .cases h
 .have:=EH h;rw[List.length_drop] at this;omega
theorem M7 {G:List Kd->Rs}{b n:Nat}{r:List Kd}(h:hl2 G b r=.ok n):n<=b+r.length/\b+1<=n:=by
 have hc:=lF .nd r;unfold hl2 at h;split at h
 .cases h
 .have:=Xu h;rw[List.length_drop] at this;omega
theorem Eh {G:List Kd->Rs}{l:List Kd}{n:Nat}(h:GI G l=.ok n):n<=l.length/\1<=n:=by
 unfold GI at h;split at h
 .cases h
 .split at h
  .cases h
  .split at h
   .have:=M7 h;simp;omega
   .have:=M7 h;simp;omega
 .cases h
 .cases h
theorem Bm {k:Kd}{w:List Str}(h:Jj k w)(h1:k≠.ot)(h2:k≠.st):∃ws,w=sX k::ws:=by
 cases k<;>first | exact absurd rfl h1 | exact absurd rfl h2 | (obtain⟨a,b,rfl,_⟩:=h;exact⟨_,rfl⟩) | (obtain⟨a,rfl,_⟩:=h;exact⟨_,rfl⟩) | (rw[show w=_ from h];exact⟨_,rfl⟩)
theorem FZ {w:List Str}(h:Jj .st w):∃y ws,w=y::ws/\y∈[("let":Str),"put","row"]:=by
 obtain⟨x,rfl,_,hx⟩:=h;cases x with
 |lt=>exact⟨_,_,rfl,by symm⟩
 |pt=>exact⟨_,_,rfl,by symm⟩
 |mq=>exact⟨_,_,rfl,by symm⟩
 |_=>rcases hx with h | h | h<;>cases h
theorem a0b {k:Kd}{w:List Str}(h:Jj k w):w≠[]:=by
 by_cases h1:k=.ot
 .subst h1;exact h
 by_cases h2:k=.st
 .subst h2;obtain⟨y,ws,rfl,_⟩:=FZ h;simp
 obtain⟨ws,rfl⟩:=Bm h h1 h2;simp
abbrev Ks:=List (Kd×List Str)
abbrev b9 (ks:Ks):List Kd:=ks.map (·.1)
structure Src (A:Ad)(S:aS)(n:Nat)(R:List (List Str))(i:Nat)(ks:Ks):Prop where
 at_:S[n]?=some (ez A R i)
 dr:R.drop i=ks.map (·.2)
 ok:∀p∈ks,Jj p.1 p.2
 len:i+ks.length=R.length
 max:R.length<=100
theorem Src.go {A:Ad}{S:aS}{n:Nat}{R:List (List Str)}{i:Nat}{ks:Ks}(h:Src A S n R i ks){m:Nat}(hm:m<=ks.length){S':aS}(hS:S'[n]?=some (ez A R (i+m))):Src A S' n R (i+m) (ks.drop m):=
 ⟨hS,by rw[<- List.drop_drop,h.dr,List.map_drop],fun p hp=>h.ok p (List.mem_of_mem_drop hp),by rw[List.length_drop];have:=h.len;omega,h.max⟩
noncomputable def u5:xh:=fun ds S k x=>∃(b:Bool)(n:Int),ds=[.bl b,.int n]/\n.natAbs<=1000000/\(b=true->k .cR S)/\(b=false->x n)
section
variable (A:Ad)
noncomputable def yY:xh:=fun ds S k x=>∃n R i,ds=[.ob n]/\S[n]?=some (ez A R i)/\i<=1000/\((∃ws,R[i]?=some ws/\k (.lst (ws.map T.str)) (S.set n (ez A R (i+1))))∨(R.length<=i/\x (i:Int)))
noncomputable def xY:xh:=fun ds S k x=>∃n R i w,ds=[.ob n,.str w]/\S[n]?=some (ez A R i)/\i<=1000/\((R[i]?=some [w]/\k .cR (S.set n (ez A R (i+1))))∨(R.length<=i/\x (i:Int))∨(∃z:Str,R[i]?=some [z]/\z≠w/\x (i:Int)))
noncomputable def SG:ef:=fun ds S k=>∃n R i ks,ds=[.ob n]/\Src A S n R i ks/\yi (b9 ks)=true/\∀l:List T,l.length<=100->k (.lst l) (S.set n (ez A R (i+if(b9 ks).head?=some .an then 1 else 0)))
noncomputable def SE:ef:=fun ds S k=>∃n R i ks q,ds=[.ob n,.str (sX q)]/\q∈[Kd.nd,.gv,.ho]/\Src A S n R i ks/\yi ((b9 ks).drop (cnt q (b9 ks)))=true/\
 ∀l:List (Int×xj),l.length<=100->k (.lst (l.map (atT A))) (S.set n (ez A R (i+cnt q (b9 ks))))
def Res (n:Nat)(R:List (List Str))(i:Nat)(S:aS)(kk:Nat->aS->Prop)(x:Int->Prop):Rs->Prop
 |.ok m=>kk m (S.set n (ez A R (i+m)))
 |.er m=>x ((i+m:Nat):Int)
 |.uk=>False
noncomputable def uX (F:List Kd->Rs):xh:=fun ds S k x=>∃n R i ks,ds=[.ob n]/\Src A S n R i ks/\Res A n R i S (fun m S'=>∀l:List T,(l=[]↔m=0)->l.length<=100->k (.lst l) S') x (F (b9 ks))
noncomputable def ZQ (F:List Kd->Rs):xh:=fun ds S k x=>∃n R i ks,ds=[.ob n]/\Src A S n R i ks/\Res A n R i S (fun _ S'=>∀t:T,k (.t t) S') x (Dy F (b9 ks))
noncomputable def Z0 (F:List Kd->Rs):xh:=fun ds S k x=>∃(n:Nat)(R:List (List Str)) (i:Nat) (ks:Ks) (c:T) (a:Int),ds=[.ob n,.t c,.int a]/\Src A S n R i ks/\Res A n R i S (fun _ S'=>∀t:T,k (.t t) S') x (chs F (b9 ks))
noncomputable def ZS (F:List Kd->Rs):xh:=fun ds S k x=>∃(n:Nat)(R:List (List Str)) (i:Nat) (ks:Ks) (c:T) (a:Int),ds=[.ob n,.t c,.int a]/\Src A S n R i ks/\Res A n R i S (fun _ S'=>∀t:T,k (.t t) S') x (rpt F (b9 ks))
noncomputable def ZZ (G:List Kd->Rs):xh:=fun ds S k x=>∃n R i ks,ds=[.ob n]/\Src A S n R i ks/\Res A n R i S (fun _ S'=>∀t:T,k (.t t) S') x (GI G (b9 ks))
end
theorem Jd {S:aS}{g:XG}{n:Nat}{C:Addr}{ns:List Str}{l:List D}{o:O}(hg:S[0]?=some g.m)(h:S[n]?=some (.ins C ns l)):(S.set n o)[0]?=some g.m:=by
 have ne:n≠0:=fun z=>by rw[z,hg] at h;cases h
 rw[List.getElem?_set_ne ne];exact hg
theorem mkA {S S1:aS}{g:XG}(hg:S[0]?=some g.m):(S++S1)[0]?=some g.m:=by
 rw[List.getElem?_append_left (List.getElem?_eq_some_iff.mp hg).1];exact hg
theorem xT {a b:Str}(h:a≠b):xor true (decide (V.str a=V.str b))=true:=by rw[qM,decide_eq_false h];rfl
theorem xF {a b:Str}(h:a=b):xor true (decide (V.str a=V.str b))=false:=by rw[qM,decide_eq_true h];rfl
noncomputable def fwQ:List Kd:=[.an,.nd,.gv,.ho,.fa,.el,.en]
theorem Xx:∀q∈fwQ,∀k∈[Kd.hp,.an,.nd,.gv,.iF,.wh,.ho,.fa,.el,.en,.nl],sX k=sX q->k=q:=by symm
theorem GL:∀q∈fwQ,sX q∉[("let":Str),"put","row"]/\sX q≠"":=by symm
section
variable {A:Ad}{S:aS}{n i:Nat}{R:List (List Str)}{ks:Ks}{p:Kd×List Str}
theorem Src.hd0 (h:Src A S n R i []):R.getD i []=[]/\R.length<=i:=by
 have e:=h.dr;have l:R.length<=i:=by have:=h.len;simp at this;omega
 exact⟨by rw[List.getD_eq_getElem?_getD,List.getElem?_eq_none l];rfl,l⟩
theorem Src.hd1 (h:Src A S n R i (p::ks)):R[i]?=some p.2/\R.getD i []=p.2/\Jj p.1 p.2/\i<R.length:=by
 obtain⟨h1,h2,_⟩:=rr1 (w:=p.2) (r:=ks.map (·.2)) h.dr;exact⟨h1,h2,h.ok p (by simp),(List.getElem?_eq_some_iff.mp h1).1⟩
theorem Src.ne (h:Src A S n R i ks)(l:i<R.length):R.getD i []≠[]:=by
 cases ks with
 |nil=>have:=h.hd0.2;omega
 |cons p ks=>
  obtain⟨_,e,k,_⟩:=h.hd1;rw[e];exact a0b k
theorem Src.il (h:Src A S n R i ks):i<=100:=by have:=h.len;have:=h.max;omega
theorem Src.cm (h:Src A S n R i ks){q:Kd}(hq:q∈fwQ)(ho:yi (b9 ks)=true):(R.getD i []).headD ""=sX q↔(b9 ks).head?=some q:=by
 cases ks with
 |nil=>
  rw[h.hd0.1];constructor
  .intro e;exact absurd e.symm (GL q hq).2
  .intro e;cases e
 |cons p ks=>
  obtain⟨_,e,k,_⟩:=h.hd1;rw[e];obtain⟨kk,w⟩:=p;have k:Jj kk w:=k;show w.headD ""=sX q↔some kk=some q;by_cases h1:kk=.ot
  .subst h1;cases ho
  by_cases h2:kk=.st
  .subst h2;obtain⟨y,ws,rfl,hy⟩:=FZ k;constructor
   .intro e;have e:y=sX q:=e;exact absurd (e ▸ hy) (GL q hq).1
   .intro e;cases e;exact absurd hq (by decide)
  obtain⟨ws,rfl⟩:=Bm k h1 h2;constructor
  .intro e;have:kk=q:=Xx q hq kk (by revert h1 h2;cases kk<;>decide) e;rw[this]
  .intro e;cases e;rfl
theorem Nq (h:Src A S n R i ks)(ho:yi (b9 ks)=true):(R.getD i []).headD ""∈[("end":Str),"else"]↔Rj (b9 ks)=true:=by
 have h1:=h.cm (q:=.en) (by decide) ho;have h2:=h.cm (q:=.el) (by decide) ho;rw[List.mem_cons,List.mem_singleton];constructor
 .rintro(e | e)
  .have:=h1.mp e;cases hk:b9 ks with
   |nil=>rw[hk] at this;cases this
   |cons a r=>rw[hk] at this;cases this;rfl
  .have:=h2.mp e;cases hk:b9 ks with
   |nil=>rw[hk] at this;cases this
   |cons a r=>rw[hk] at this;cases this;rfl
 .intro e;cases hk:b9 ks with
  |nil=>rw[hk] at e;cases e
  |cons a r=>
   rw[hk] at e h1 h2;cases a<;>first | (cases e;done) | exact .inl (h1.mpr rfl) | exact .inr (h2.mpr rfl)
end
theorem U3 (F:List Kd->Rs)(f:Nat)(l:List Kd):sM F (f+1) l=if Rj l=true then .ok 0 else match Dy F l with
  |.ok n=>(sM F f (l.drop n)).sh n
  |.er n=>.er n
  |.uk=>.uk:=rfl
theorem NL {q:Kd}:∀{l:List Kd}{j:Nat},j<cnt q l->(l.drop j).head?=some q
 |[],j,h=>by simp[cnt] at h
 |a::r,j,h=>by
  unfold cnt at h;split at h
  .rename_i e;cases j with
   |zero=>rw[e];rfl
   |succ j=>exact NL (l:=r) (by omega)
  .omega
theorem NK {q:Kd}:∀{l:List Kd},(l.drop (cnt q l)).head?≠some q
 |[]=>by simp[cnt]
 |a::r=>by
  unfold cnt;split
  .exact NK (l:=r)
  .rename_i e;intro z;injection z with z
   exact e z
theorem WR {l:List Kd}{q:Kd}(h:l.head?=some q)(hq:q≠.ot):yi l=true:=by
 cases l with
 |nil=>cases h
 |cons a r=>
  cases h;cases q<;>first | rfl | exact absurd rfl hq
theorem bK (ks:Ks)(j:Nat):b9 (ks.drop j)=(b9 ks).drop j:=List.map_drop ..
theorem Ln {q:Kd}{w:List Str}(hq:q∈[Kd.nd,.gv,.ho,.iF,.wh])(h:Jj q w):∃c,w=Oh (sX q) c/\Jb c:=by
 simp at hq;rcases hq with rfl | rfl | rfl | rfl | rfl<;>exact h
noncomputable def erK:List Kd:=[.hp,.an,.nd,.gv,.ho,.fa,.nl]
theorem a2i:∀k∈erK,∀z∈[("let":Str),"put","row","claim","if","while","call"],sX k≠z:=by symm
theorem T7 {k:Kd}(h:k∈erK):k≠.ot/\k≠.st:=by revert h;cases k<;>decide
theorem XF {Q:List Kd->Rs}{k:Kd}{l:List Kd}(h:k∈erK):Dy Q (k::l)=.er 0:=by
 cases k<;>first | rfl | exact absurd h (by decide)
theorem vn {A:Ad}{n i m:Nat}{R:List (List Str)}{S:aS}{o:O}{kk kk':Nat->aS->Prop}{x:Int->Prop}{r:Rs}(h:Res A n R i S kk x (r.sh m))(hk:∀j S',kk (m+j) S'->kk' j S'):Res A n R (i+m) (S.set n o) kk' x r:=by
 cases r with
 |ok j=>
  show kk' j ((S.set n o).set n (ez A R (i+m+j)));rw[List.set_set,Nat.add_assoc];exact hk _ _ h
 |er j=>
  show x ((i+m+j:Nat):Int);rw[Nat.add_assoc];exact h
 |uk=>exact h
theorem uy (b:Nat)(r:List Kd)(m:Nat):Al b r m=(Al 0 (r.drop m) 0).sh (b+m):=by
 unfold Al;rw[List.drop_zero];split<;>rfl
theorem uw {A:Ad}{S:aS}{n i:Nat}{R:List (List Str)}{ks:Ks}{k:KD}{x:Int->Prop}{kk:Nat->aS->Prop}(src:Src A S n R i ks)(h:Res A n R i S kk x (Al 0 (b9 ks) 0))(hk:∀S',kk 1 S'->k .cR S'):xY A [.ob n,.str "end"] S k x:=by
 have il:=src.il;cases ks with
 |nil=>exact h.elim
 |cons p ks=>
  obtain⟨q1,q2,q3,q4⟩:=src.hd1;obtain⟨a,w⟩:=p;cases a<;>first
   |exact h.elim
   |(
     have q3:w=[("end":Str)]:=q3;exact⟨n,R,i,_,rfl,src.at_,by omega,.inl ⟨by rw[q1,q3],hk _ h⟩⟩)
   |(
     have q3:w=[("else":Str)]:=q3;exact⟨n,R,i,_,rfl,src.at_,by omega,.inr (.inr ⟨_,by rw[q1,q3],by symm,h⟩)⟩)
theorem Src.tl {A:Ad}{S:aS}{n i:Nat}{R:List (List Str)}{ks:Ks}{a:Kd}{r:List Kd}(h:Src A S n R i ks)(e:b9 ks=a::r):∃w ks',ks=(a,w)::ks'/\b9 ks'=r/\R[i]?=some w/\Jj a w/\∀S',S'[n]?=some (ez A R (i+1))->Src A S' n R (i+1) ks':=by
 cases ks with
 |nil=>cases e
 |cons p ks=>
  obtain⟨q1,q2,q3,q4⟩:=h.hd1;obtain⟨b,w⟩:=p;cases e;exact⟨w,ks,rfl,rfl,q1,q3,fun S' hS=>h.go (m:=1) (by simp) hS⟩
theorem a17 {k:Kd}{w:List Str}(h:Jj k w)(h1:k≠.ot)(h2:k≠.hp):∃y ws,w=y::ws/\y≠("helper":Str):=by
 by_cases h3:k=.st
 .subst h3;obtain⟨y,ws,rfl,hy⟩:=FZ h;exact⟨y,ws,rfl,fun z=>by rw[z] at hy;revert hy;symm⟩
 .obtain⟨ws,rfl⟩:=Bm h h1 h3;refine⟨_,ws,rfl,?_⟩;revert h1 h2 h3;cases k<;>symm
theorem Xs {Q:List Kd->Rs}{k:Kd}{l:List Kd}(h1:k≠.ot)(h2:k≠.hp):GI Q (k::l)=.er 0:=by
 cases k<;>first | rfl | exact absurd rfl h1 | exact absurd rfl h2
section
variable (A:Ad)
noncomputable def K8:ef:=fun ds S k=>∃(i:Nat)(a:Int)(nm:Str)(d1 d2 d3 d4 d5:D)(l1 l2 l5:List T)(hs gs:List (Int×xj)),ds=[.ob i,.int a,.str nm,d1,d2,d3,d4,d5]/\S[i]?=some (.ins A.bu [] [])/\xq S d1=some l1/\xq S d2=some l2/\xq S d3=some (hs.map (atT A))/\xq S d4=some (gs.map (atT A))/\xq S d5=some l5/\
 hs.length<=100/\gs.length<=100/\∀ns (l:List T),k .cR (S.set i (.ins A.bu ns (l.map .t)))
noncomputable def K1:ef:=fun ds S k=>∃(i:Nat)(d:D)(hs:List T),ds=[.ob i,d]/\S[i]?=some (.ins A.cX [] [])/\xq S d=some hs/\∀ns (l:List T),k .cR (S.set i (.ins A.cX ns (l.map .t)))
def N8 (ok:Prop)(x:Int->Prop):Rs->Prop
 |.ok _=>ok
 |.er n=>x (n:Int)
 |.uk=>False
noncomputable def Yu (G:List Kd->Rs)(be:Bool)(f:Nat)(l:List Kd):Rs:=if l.isEmpty=true then(if be=true then .ok 0 else .er 0) else Pj G be f l
theorem DK {G:List Kd->Rs}{be:Bool}{f n:Nat}{l:List Kd}(h:GI G l=.ok n):Pj G be (f+1) l=(Yu G be f (l.drop n)).sh n:=by
 show(match GI G l with
  |.ok n=>if(l.drop n).isEmpty=true then(if be=true then Rs.ok n else .er n) else(Pj G be f (l.drop n)).sh n
  |.er n=>.er n
  |.uk=>.uk)=_
 rw[h];unfold Yu;dsimp only;split
 .split<;>rfl
 .rfl
theorem SY {G:List Kd->Rs}{be:Bool}{f n:Nat}{l:List Kd}(h:GI G l=.er n):Pj G be (f+1) l=.er n:=by
 show(match GI G l with
  |.ok n=>if(l.drop n).isEmpty=true then(if be=true then Rs.ok n else .er n) else(Pj G be f (l.drop n)).sh n
  |.er n=>.er n
  |.uk=>.uk)=_
 rw[h]
theorem SV {G:List Kd->Rs}{be:Bool}{f:Nat}{l:List Kd}(h:GI G l=.uk):Pj G be (f+1) l=.uk:=by
 show(match GI G l with
  |.ok n=>if(l.drop n).isEmpty=true then(if be=true then Rs.ok n else .er n) else(Pj G be f (l.drop n)).sh n
  |.er n=>.er n
  |.uk=>.uk)=_
 rw[h]
theorem Z5 (r:Rs)(a b:Nat):(r.sh b).sh a=r.sh (a+b):=by cases r<;>simp[Rs.sh,Nat.add_assoc]
theorem OZ {T0:aS}{a b c:O}:((T0++[a])++[b]).set T0.length c=(T0++[c])++[b]:=by simp
structure Txs (t:Str)(xs:List Str)(b:Str)(ks:Ks):Prop where
 len:t.length<=9000000
 sp:Txt.split t "\n"=xs++[b]
 ln:xs.length<=100
 bd:∀x∈xs,x.length<=100000
 ws:(xs.map fun x=>Txt.split x " ")=ks.map (·.2)
 ok:∀p∈ks,Jj p.1 p.2
noncomputable def SD:xh:=fun ds S k x=>∃(t:Str)(xs:List Str)(b:Str)(ks:Ks),ds=[.str t]/\Txs t xs b ks/\N8 (∀t:T,k (.t t) S) x (prs (decide (b="")) (b9 ks))
noncomputable def gS:ef:=fun ds S k=>∃(t:Str)(xs:List Str)(b:Str)(ks:Ks)(o:O),ds=[.str t]/\S=[o]/\Txs t xs b ks/\N8 (∀o',k (.int (-1)) [o']) (fun n=>∀o',k (.int n) [o']) (prs (decide (b="")) (b9 ks))
end
end L3
namespace L3
open PySem L2 Hw PyProof.Rows
structure XTx (K:PySem.W.Frag)(mg:Str->Option Value)(C W fI fW:Addr)(Uk Jh:List Value)(l5:List Addr):Prop where
 ct:xH K C fI Uk
 cw:xH K W fW Jh
 hin:(Value.ref C::Uk).contains (.ref W)=true
 mgW:mg "WritError"=some (.ref W)
 mgV:mg "ValueError"=none
 g1:PySem.W.specialIn K (.ref W) "__getattribute__"=some (some (.builtin "type.__getattribute__"))
 g2:PySem.W.readsIn K W (.type "type")=true
 g3:PySem.W.findCls K (.ref W) (.type "type") "__init__"=some (.val (.ref fW))
 g4:PySem.W.handedIn (.ref fW)=true
 g5:PySem.W.keepIn K (.ref fW)=true
 gv:PySem.W.findCls K (.type "ValueError") (.type "type") "__init__"=some (.val (.builtin "ValueError.__init__"))
 st:XSt K C "at"
 xi:PySem.W.Ji K C
 hd:PySem.W.hasDictIn K C=true
 hf:PySem.W.findIn K (.ref C) "at"=some none
 kN:PySem.W.kitOne K (.ref C) (.ref C)=some true
 kV:PySem.W.kitOne K (.ref C) (.type "ValueError")=some true
 kb:PySem.W.kitOne K (.type "int") (.type "bool")=some false
 k5:PySem.W.kitAny K (.ref C) (l5.map Value.ref)=some false
abbrev x5 (A:Ad):List Addr:=[A.nZ,A.nY,A.iG,A.iE,A.iC]
noncomputable def ZN (C:Addr):Sp:=fun vs H Q _=>∃a v,vs=[.ref a,v]/\H a=some (Ow C a)/\Q .cR H
theorem Rh {n:Int}(h:n.natAbs<=1000000):(toString n).length<=30/\n.natAbs.log2<1920:=by
 have l:n.natAbs.log2<20:=by
  by_cases h0:n.natAbs=0
  .rw[h0];decide
  .exact(Nat.log2_lt h0).mpr (by omega)
 exact⟨Nat.le_trans (int_text_length_le (k:=20) (by decide) l) (by decide),by omega⟩
theorem N8.mono {p q:Prop}{x y:Int->Prop}{r:Rs}(h:N8 p x r)(h1:p->q)(h2:∀n,x n->y n):N8 q y r:=by
 cases r with
 |ok n=>exact h1 h
 |er n=>exact h2 _ h
 |uk=>exact h
theorem BP {dx:Addr}{n:Int}:Mk1 [.gh [] (G1 dx n)] dx n:=⟨[],_,rfl,if_pos rfl⟩
section
variable {X:Cx}{a C dx:Addr}{oe:Obj}{K:PySem.W.Frag}
theorem Yk {c:V}{u:Value}(h:X.K=K)(hc:match c with | .ref _=>True | .ty _=>True | _=>False)(ru:RelV c u):Call3 X (.builtin "isinstance") (Xm K c u):=h ▸ NU hc ru
theorem CD {c:V}{u:Value}(h:X.K=K)(ul:PySem.W.Ji X.K C)(hp:(a,oe)∈X.pn)(hc:oe.cls=.ref C)(hd:∃vs,oe.data=.fields vs)(hn:oe.dict=some dx)(ru:RelV c u)(inj:∀v,RelV c v->v=u):Call3 X (.builtin "isinstance") (M0 K a C dx c u):=h ▸ RN ul hp hc hd hn ru inj
theorem NT {cs:List Addr}(h:X.K=K)(ul:PySem.W.Ji X.K C)(hp:(a,oe)∈X.pn)(hc:oe.cls=.ref C)(hd:∃vs,oe.data=.fields vs)(hn:oe.dict=some dx):Call3 X (.builtin "isinstance") (MZ K a C dx cs):=h ▸ RM ul hp hc hd hn
end
end L3
namespace PySem
open Builtin Builtin.Str
theorem xV {α:Type}{M:Model}{A:Around}{s:Shared}{t:Sem α}{Q:α->Shared->Prop}{E:Value->Shared->Prop}{n:Nat}(l:n<=s.toks)(h:wpAny M A t Q E s):wpAny M A t (fun a s'=>Q a s'/\n<=s'.toks) E s:=
 wpAny_mono (wpAny_toks_of l h) (fun _ _ x=>⟨x.2,x.1⟩) fun _ _ x=>x.2
theorem nz {n:Nat}(l:1<=n):n≠0:=by omega
theorem we (x y z:Str)(t u:Tok)(hu:u≠0):Gives («str.replace» ⟨[.str x t,.str y u,.str z u],[]⟩) (.val (.str x t)):=by
 show Gives (if((occurrences x y 0 x.length (x.length+1)).isEmpty||(y.length==0&&z.length==0))=true then(do rule "str.replace.nothing";ret (.str x t)) else(do let same <- isSame (.str y u) (.str z u);if same=true then(do rule "str.replace.old-is-new";ret (.str x t)) else if tooLong (x.length+(occurrences x y 0 x.length (x.length+1)).length*z.length)=true then unsupported "str.replace:memory" else retStr (glued z (partsBetween x (occurrences x y 0 x.length (x.length+1)) y.length)))) _;have e:isSame (.str y u) (.str z u)=pure true:=by
  show(if(u==0||u==0)=true then _ else if(u==u)=true then pure true else _:Sem Bool)=_;rw[if_neg (by simp[hu]),if_pos (by simp)]
 rw[e];split
 .exact .rule (.of_eq rfl)
 .exact .rule (.of_eq rfl)
end PySem
namespace L2
open PySem PySem.Spec PyProof.Rows Hw
section
variable {X:Cx}{a b e o:Expr}{es:List Expr}{ta tb te to:TE}{t:TA}{pos BM cpos:Pos}{n m k:Nat}
def wQ (n m:Nat)(X:Cx)(e:Expr)(t:TE):Prop:=∀(vy:List (Addr×Obj)) (s:Shared) (U:St) (H:Hp) (Q:VK),Inv X vy U H s->n<=s.toks->t U H Q->wpAny (model X.prog X.w) X.A (eval e X.env) (fun v s'=>EP X vy U Q v s'/\m<=s'.toks) X.xe s
theorem a0H (h:PE X e te):wQ n n X e te:=fun vy s U H Q I l q=>xV l (h vy s U H Q I q)
theorem a0F (h:wQ 0 m X e te):PE X e te:=fun vy s U H Q I q=>bA (h vy s U H Q I (Nat.zero_le _) q) fun _ _ z=>z.1
theorem V0 {i j}:wQ 0 1 X (.Constant (.int i) j pos) (tC (.int i)):=fun _ s _ H _ I _ h=>wpAny_Constant_int ⟨⟨.int i,H,I.tok _,⟨_,rfl⟩,h⟩,Nat.succ_le_succ (Nat.zero_le _)⟩
theorem LC {x j}:wQ 0 1 X (.Constant (.str x) j pos) (tC (.str x)):=fun _ s _ H _ I _ h=>Calls.Constant_str ⟨⟨.str x,H,I.tok _,⟨_,rfl⟩,h⟩,Nat.succ_le_succ (Nat.zero_le _)⟩
theorem Ge {x j}:wQ 1 1 X (.Constant (.str x) j pos) (tC (.sn x)):=fun _ s _ H _ I l h=>Calls.Constant_str ⟨⟨.sn x,H,I.tok _,⟨_,nz l,rfl⟩,h⟩,Nat.succ_le_succ (Nat.zero_le _)⟩
def OpT (n:Nat)(X:Cx)(f:Value->Value->Sem Value)(r:R2):Prop:=∀(vy:List (Addr×Obj)) (s:Shared) (U:St) (H:Hp) (x y:V) (v u:Value) (Q:VK),Inv X vy U H s->n<=s.toks->RelV x v->RelV y u->r x y H Q->wpAny (model X.prog X.w) X.A (f v u) (EP X vy U Q) X.xe s
theorem Tn {f:Value->Value->Sem Value}{r:R2}(h:iR X f r):OpT n X f r:=fun vy s U H x y v u Q I _=>h vy s U H x y v u Q I
theorem a0G {op:Operator}{r:R2}(ho:OpT k X (binaryOp op) r)(ha:wQ n m X a ta)(hb:wQ m k X b tb):wQ n k X (.BinOp a op b pos) (UU r ta tb):=by
 intro vy s U H Q I l h;refine wpAny_BinOp (bA (ha vy s U H _ I l h) fun v s1 ⟨⟨x,H1,I1,r1,q1⟩,l1⟩=>bA (hb vy s1 U H1 _ I1 l1 q1) ?_);rintro u s2 ⟨⟨y,H2,I2,r2,q2⟩,l2⟩;exact xV l2 (ho vy s2 U H2 x y v u Q I2 l2 r1 r2 q2)
noncomputable def a0u:R2:=fun x y H Q=>∃i j,x=.str i/\y=.str j/\0<i.length/\0<j.length/\i.length+j.length<=sizeLine/\Q (.sn (i++j)) H
theorem Qf:OpT 1 X (binaryOp .Add) a0u:=by
 intro vy s U H x y v u Q I l rx ry h;obtain⟨i,j,rfl,rfl,h1,h2,hz,q⟩:=h;obtain⟨t,rfl⟩:=rx;obtain⟨t',rfl⟩:=ry;refine PySem.P.add_str ?_;rw[if_neg (by simp;omega),if_neg (by simp;omega)];exact⟨by rw[mz];exact hz,.sn (i++j),H,I.tok _,⟨_,nz l,rfl⟩,q⟩
noncomputable def a4M:R2:=fun x y H Q=>∃z i c,x=.str z/\y=.int i/\z.length<=sizeLine/\oM z.cps.toList i=some c/\Q (.sn ⟨#[c]⟩) H
theorem VZ {r:R2}(hr:∀x y H Q,r x y H Q->a4M x y H Q)(ha:PE X a ta)(hb:wQ 0 1 X b tb)(hs:uF b):PE X (.Subscript a b pos) (UU r ta tb):=by
 intro vy s U H Q I h;refine Subscript_ (bA (ha vy s U H _ I h) fun v s1 ⟨x,H1,I1,r1,q1⟩=>bA (hb vy s1 U H1 _ I1 (Nat.zero_le _) q1) ?_);rintro u s2 ⟨⟨y,H2,I2,r2,q2⟩,l2⟩;obtain⟨z,i,c,rfl,rfl,hz,he,q⟩:=hr _ _ _ _ q2;obtain⟨t,rfl⟩:=r1;obtain⟨t',rfl⟩:=r2;obtain⟨j,h1,h2,h3,h4,h5⟩:=uA he;have hl:z.cps.toList.length=z.length:=by simp[Str.length]
 rw[hl] at h1 h4 h5;have hn:=k8;exact tail_any (typeIs_str s2 z t) slot_str_getitem.lookup (getItem_str (c:=c) (by
  have e1:decide (i < -(2 ^ 63:Int))=false:=decide_eq_false (by omega);have e2:decide (i ≥ 2 ^ 63)=false:=decide_eq_false (by omega);rw[e1,e2,Bool.or_false]) (by rw[h1];simpa using h2) ⟨.sn ⟨#[c]⟩,H2,I2.tok _,⟨_,nz l2,rfl⟩,q⟩) (hs _ _)
theorem a0K (h:PE X e te):PE X e (fun U H Q=>te U H fun v H1=>∃x,v=.sn x/\Q (.str x) H1):=fun vy s U H Q I q=>
 bA (h vy s U H _ I q) (by
  rintro v s1 ⟨x,H1,I1,r1,z,e1,q1⟩;subst e1;obtain⟨t,_,r1⟩:=r1;exact⟨.str z,H1,I1,⟨t,r1⟩,q1⟩)
def N7 (n m:Nat)(X:Cx)(es:List Expr)(t:TA):Prop:=∀(pos:Pos)(vy:List (Addr×Obj)) (s:Shared) (U:St) (H:Hp) (Q:List V->Hp->Prop),Inv X vy U H s->n<=s.toks->t U H Q->wpAny (model X.prog X.w) X.A (spliced (backTo pos (starEach es X.env))) (fun v s'=>AP X vy U Q v s'/\m<=s'.toks) X.xe s
theorem at_of (h:PA X es t):N7 n n X es t:=fun pos vy s U H Q I l q=>xV l (h pos vy s U H Q I q)
theorem Az (ha:wQ n m X e te)(hr:N7 m k X es t)(h1:autoParam (notStar e=true) zi):N7 n k X (e::es) (Kw te t):=by
 intro pos vy s U H Q I l h;rw[dG h1];show wpAny _ _ (spliced ((false,eval e X.env)::backTo pos (starEach es X.env))) _ _ s;refine Calls.spliced_cons (bA (ha vy s U H _ I l h) ?_);rintro u s1 ⟨⟨x,H1,I1,r1,q1⟩,l1⟩;exact bA (hr pos vy s1 U H1 _ I1 l1 q1) (by rintro us s2 ⟨⟨xs,H2,I2,r2,q2⟩,l2⟩;exact⟨⟨x::xs,H2,I2,.cons r1 r2,q2⟩,l2⟩)
noncomputable def Ko (xs:List Str):TA:=fun _ H Q=>Q (xs.map V.sn) H
theorem CI:∀{es:List Expr}{xs:List Str},strsOf es=some xs->N7 1 1 X es (Ko xs)
 |[],xs,h=>by
  cases h;exact at_of qW
 |e::r,xs,h=>by
  unfold strsOf at h;split at h
  .rename_i he;cases he
  .rename_i x j pos r' he;cases he;cases q:strsOf r with
   |none=>rw[q] at h;cases h
   |some ys=>
    rw[q] at h;cases h;exact Az Ge (CI q)
  .cases h
theorem LD (h:N7 n m X es t):wQ n m X (.List es pos) (HA t):=by
 intro vy s U H Q I l hq;refine wpAny_List_spliced (bA (h pos vy s U H _ I l hq) fun us s1 ⟨⟨xs,H1,I1,r,z,q⟩,l1⟩=>⟨by rw[<- r.length];exact z,?_⟩);have hf:H1 s1.heap.objs.size=none:=I1.hok.fresh (Nat.le_refl _);refine⟨⟨.ref s1.heap.objs.size,upd H1 s1.heap.objs.size (.lst xs),I1.laid (t':=s1.toks) (fun b u e=>Heap.get?_push_of_some _ e) (Nat.le_refl _) ?_,rfl,q _ hf⟩,l1⟩;exact⟨z,us,0,r,Heap.get?_push_size _ rfl⟩
theorem LA {xs:List Str}:∀{e:Expr},r9 e=some xs->wQ 1 1 X e (HA (Ko xs)):=by
 intro e h;cases e<;>first | exact LD (CI h) | exact absurd h (by simp[r9])
theorem LB {xs:List Str}{x:Str}:∀{e:Expr},r9 e=some (x::xs)->wQ 0 1 X e (HA (Fy (x::xs))):=by
 intro e h;cases e<;>first
  |(
    rename_i es pos;have h:strsOf es=some (x::xs):=h;refine LD ?_;cases es with
    |nil=>cases h
    |cons e r=>
     unfold strsOf at h;split at h
     .rename_i he;cases he
     .rename_i y j pos r' he;cases he;cases q:strsOf r with
      |none=>rw[q] at h;cases h
      |some ys=>
       rw[q] at h;cases h;exact Az (te:=tC (.str x)) (t:=Fy xs) LC (at_of (zP q))
     .cases h)
  |exact absurd h (by simp[r9])
def MtT (n:Nat)(X:Cx)(id:String)(r:V->List V->Hp->VK->Prop):Prop:=∀(vy:List (Addr×Obj)) (s:Shared) (U:St) (H:Hp) (x:V) (xs:List V) (v:Value) (us:List Value) (Q:VK),Inv X vy U H s->n<=s.toks->RelV x v->Vals xs us->r x xs H Q->
  wpAny (model X.prog X.w) X.A (call (.builtin id) (v::us)) (EP X vy U Q) X.xe s
theorem Th {name:Str}{T id:String}{r:V->List V->Hp->VK->Prop}(pa:PlainAttrs T)(slot:Slot T name id)(hty:typeOf (.builtin id)=pure (.type "method_descriptor"))(hm:MtT k X id r)(ho:wQ n m X o to)(ha:N7 m k X (e::es) t)
  (h1:autoParam (notStar e=true) zi) (h2:autoParam (es.all notStar=true) zi) (h3:autoParam (es.length<20) zn) (Ap:autoParam (attributeBase o name X.env (eval o X.env)=eval o X.env) zi) (B1:autoParam ((BM.endLine==cpos.line)=true) zi) :
  wQ n k X (.Call (.Attribute o name BM) (e::es) [] cpos) (tBM X.K T r to t):=by
 intro vy s U H Q I l h;have hfew:((backTo cpos (starEach (e::es) X.env)).all (fun x=>!x.1)&&(backToKw cpos (keywordEach [] X.env)).all (fun x=>x.1.isSome)
  &&decide ((e::es).length+([]:List Keyword).length+(if([]:List Keyword).isEmpty then 0 else 1)<30))=true:=by
  rw[uS (show(e::es).all notStar=true by show(notStar e&&es.all notStar)=true;rw[h1,h2];rfl)];show(true&&true&&decide (es.length+1+0+0<30))=true;rw[decide_eq_true (by omega)];rfl
 refine wpAny_Call_method_late Ap hfew B1 rfl (bA (ho vy s U H _ I l h) ?_);rintro v s1 ⟨⟨x,H1,I1,r1,ty,q1⟩,l1⟩;obtain⟨g1,g2⟩:=Dj I1 r1 ty;refine⟨T,id,pa,slot,hty,g1,g2,?_⟩;have hA:=ha cpos vy s1 U H1 _ I1 l1 q1;rw[dG h1] at hA ⊢;refine Calls.callWith_builtin (by show(false||(backTo cpos (starEach es X.env)).any (·.1))=false;rw[dI h2]<;>rfl) (Calls.evalArgs_plain ?_);exact bA hA (by rintro us s2 ⟨⟨vs,H2,I2,r2,q2⟩,l2⟩;exact xV l2 (hm vy s2 U H2 x vs v us Q I2 l2 r1 r2 q2))
def IsS (v:V)(x:Str):Prop:=v=.str x∨v=.sn x
theorem uQ:∀{ws:List V}{ss:List Str}{us:List Value},Paired IsS ws ss->Vals ws us->StrsAre us ss
 |_,_,_,.nil,.nil=>.nil
 |_,_,_,.cons (.inl e) p,.cons r q=>by
  subst e;obtain⟨t,rfl⟩:=r;exact .cons _ t (uQ p q)
 |_,_,_,.cons (.inr e) p,.cons r q=>by
  subst e;obtain⟨t,_,rfl⟩:=r;exact .cons _ t (uQ p q)
noncomputable def VH:V->List V->Hp->VK->Prop:=fun x vs H Q=>∃sep p ws ss,x=.str sep/\vs=[.ref p]/\H p=some (.lst ws)/\Paired IsS ws ss/\(∀y,ws=[y]->∃z,y=.sn z)/\(ss.map (·.length)).sum+ss.length*sep.length<=16777216/\Q (.sn (Txt.join sep ss)) H
theorem MC:MtT 1 X "str.join" VH:=by
 intro vy s U H x vs v us Q I l rx rv h;obtain⟨sep,p,ws,ss,rfl,rfl,hp,hs,h1,hz,q⟩:=h;obtain⟨t,rfl⟩:=rx;obtain⟨u,rfl,ru⟩:=rv.one;cases ru;obtain⟨AC,r,pl,_⟩:=I.list (jx.of hp);obtain⟨z,hv,ht⟩:=strsAre_values (uQ hs r);subst hv;have hok:=joinOk_of (sep:=sep) (ys:=ss) hz;subst ht;unfold JoinOk at hok;rw[Bool.not_eq_true'] at hok;refine call_meets F.slot_str_join (typeIs_str _ _ _) F.entry_str_join (F.args_str_join_2 _ _) (meets_str_join_list sep t p z hok) ⟨pl.isList,?_⟩;have fl:=joinFit_length hok;cases z with
 |nil=>exact⟨fl,.sn _,H,I.tok _,⟨_,nz l,rfl⟩,q⟩
 |cons a z=>
  cases z with
  |nil=>
   have r3:Vals ws [Value.str a.1 a.2]:=r;cases r3 with
   |cons r4 r5=>
    cases r5;obtain⟨y,rfl⟩:=h1 _ rfl;obtain⟨t',n0,e⟩:=(show ∃t,t≠0/\Value.str a.1 a.2=Value.str y t from r4)
    exact⟨.sn _,H,I,⟨_,(by injection e with _ e;rw[e];exact n0),rfl⟩,q⟩
  |cons b c=>exact⟨fl,.sn _,H,I.tok _,⟨_,nz l,rfl⟩,q⟩
noncomputable def a0m:V->List V->Hp->VK->Prop:=fun x vs H Q=>∃z y w,x=.str z/\vs=[.sn y,.sn w]/\y≠w/\z.length<=1000/\w.length<=14/\Q (.str z) H/\Q (.str (Txt.replace z y w)) H
theorem WS:MtT n X "str.replace" a0m:=by
 intro vy s U H x vs v us Q I l rx rv h;obtain⟨z,y,w,rfl,rfl,hyw,hz,hw,q1,q2⟩:=h;obtain⟨t,rfl⟩:=rx;obtain⟨u1,u2,rfl,⟨t1,n1,rfl⟩,⟨t2,n2,rfl⟩⟩:=rv.two;by_cases e:t1=t2
 .subst e;exact call_gives F.slot_str_replace (typeIs_str _ _ _) F.entry_str_replace (F.args_str_replace_3 _ _ _) (we z y w t t1 n1) ⟨.str z,H,I,⟨_,rfl⟩,q1⟩
 .exact SC.replaceW n1 n2 e (by simpa using hyw) (by omega) hw fun t' k=>⟨.str _,H,I.tok _,⟨_,rfl⟩,q2⟩
def EN (n:Nat)(X:Cx)(st:List Stmt)(t:TS):Prop:=∀(vy:List (Addr×Obj)) (s:Shared) (U:St) (H:Hp) (D:Ends),Inv X vy U H s->n<=s.toks->t D U H->wpAny (model X.prog X.w) X.A (execs st X.env) (SP X vy D) X.xe s
def Yz (n m:Nat)(X:Cx)(st:Stmt)(t:TS):Prop:=∀(vy:List (Addr×Obj)) (s:Shared) (U:St) (H:Hp) (D:Ends),Inv X vy U H s->n<=s.toks->t D U H->wpAny (model X.prog X.w) X.A (exec st X.env) (fun f s'=>SP X vy D f s'/\m<=s'.toks) X.xe s
variable {st:Stmt}{rest:List Stmt}{tt u:TS}
theorem ZJ (h:PS X st tt):Yz n n X st tt:=fun vy s U H D I l q=>xV l (h vy s U H D I q)
theorem Va (h:sJ X rest u):EN n X rest u:=fun vy s U H D I _ q=>h vy s U H D I q
theorem U9 (h:EN 0 X rest u):sJ X rest u:=fun vy s U H D I q=>h vy s U H D I (Nat.zero_le _) q
theorem KJ (h1:Yz n m X st tt)(h2:EN m X rest u):EN n X (st::rest) (Ze tt u):=by
 intro vy s U H D I l h;refine wpAny_execs_cons (bA (h1 vy s U H {D with nx:=u D } I l h) ?_);rintro f s1 ⟨q,l1⟩;cases f with
 |next=>
  obtain⟨U',H',I',q⟩:=q;exact h2 vy s1 U' H' D I' l1 q
 |ret v=>exact q
 |brk=>exact q
 |cont=>exact q
theorem U6 {i:Nat}{x:Str}{pos':Pos}(hN:X.N.Nodup)(hi:X.N[i]?=some x)(hx:Loc X.env.scope x)(he:wQ n m X e te)(hs:autoParam (swapsWith e (some (.Name x pos')) pos.line X.env=pure false) zi)(hf:autoParam (X.fn x=true∨X.env.scope.names.lookup x=some .local) zr) :
  Yz n m X (.Assign [.Name x pos'] e pos) (ON te (GK i)):=by
 intro vy s U H D I l h;refine wpAny_Assign_Name (bA (he vy s U H _ I l h) fun v s1 ⟨⟨y,H1,I1,r1,q1⟩,l1⟩=>?_) hs;exact xV l1 (kH I1 hN hi hx r1 (fun s2 I2=>⟨_,H1,I2,q1⟩) hf)
theorem U7 (he:wQ n m X e te):Yz n m X (.Return (some e) pos) (Zf te):=by
 intro vy s U H D I l h;exact wpAny_Return_some (bA (he vy s U H _ I l h) (by rintro v s1 ⟨⟨x,H1,I1,r1,q1⟩,l1⟩;exact⟨⟨x,U,H1,I1,r1,q1⟩,l1⟩))
end
end L2
namespace L3
open PySem L2 Hw PyProof.Rows
abbrev T.sn (x:Str):T:=.v (.sn x)
abbrev D.sn (x:Str):D:=.t (.v (.sn x))
section
variable {X:Cx}{a b e o:Expr}{es:List Expr}{ta tb te to:bU}{t:mH}{pos BM cpos:Pos}{n m k:Nat}
def yF (n m:Nat)(X:Cx)(e:Expr)(t:bU):Prop:=wQ n m X e (li X.K t)
def YT (n m:Nat)(X:Cx)(e:List Expr)(t:mH):Prop:=N7 n m X e (liA X.K t)
theorem yr {t t':TE}(h:wQ n m X e t)(z:∀U H Q,t' U H Q->t U H Q):wQ n m X e t':=fun vy s U H Q I l q=>h vy s U H Q I l (z _ _ _ q)
theorem GO (h:QE X e te):yF n n X e te:=a0H h
theorem T6 (h:yF 0 m X e te):QE X e te:=a0F h
theorem XO {v:V}(h:wQ n m X e (tC v)):yF n m X e (yS (.t (.v v))):=yr h (by rintro U H Q ⟨Y,S,Z,k,R,D,q,hk⟩;exact fin R hk aO q)
theorem a2q {i j}:yF 0 1 X (.Constant (.int i) j pos) (yS (.int i)):=XO V0
theorem Nr {x j}:yF 0 1 X (.Constant (.str x) j pos) (yS (.str x)):=XO LC
theorem XM {x j}:yF 1 1 X (.Constant (.str x) j pos) (yS (.sn x)):=XO Ge
theorem XN {op:Operator}{r:oN}(ho:OpT k X (binaryOp op) (Tt X.K r))(ha:yF n m X a ta)(hb:yF m k X b tb):yF n k X (.BinOp a op b pos) (xu r ta tb):=yr (a0G ho ha hb) lZ
noncomputable def Um:oN
 |.t (.v (.str i)),.t (.v (.str j)),S,k=>0<i.length/\0<j.length/\i.length+j.length<=sizeLine/\k (.sn (i++j)) S
 |_,_,_,_=>False
theorem WI:OpT 1 X (binaryOp .Add) (Tt X.K Um):=by
 intro vy s U H x y v u Q I l rx ry ⟨Y,S,a,b,k,R,ra,rb,q,hk⟩;refine Qf vy s U H x y v u Q I l rx ry ?_;unfold Um at q;split at q
 .obtain⟨h1,h2,h3,h4⟩:=q;exact⟨_,_,aE ra,aE rb,h1,h2,h3,fin R hk aO h4⟩
 .exact q.elim
noncomputable def Xl:oN
 |.t (.v (.str z)),.t (.v (.int i)),S,k=>z.length<=sizeLine/\∃c,oM z.cps.toList i=some c/\k (.sn ⟨#[c]⟩) S
 |_,_,_,_=>False
theorem a0B (ha:QE X a ta)(hb:yF 0 1 X b tb)(hs:autoParam (uF b) km):QE X (.Subscript a b pos) (xu Xl ta tb):=bH (VZ (r:=Tt X.K Xl) ((by
  rintro x y H Q ⟨Y,S,a,b,k,R,ra,rb,q,hk⟩;unfold Xl at q;split at q
  .obtain⟨h1,c,h2,h3⟩:=q;exact⟨_,_,c,aE ra,aE rb,h1,h2,fin R hk aO h3⟩
  .exact q.elim)) ha hb hs) lZ
noncomputable def tWk (t:bU):bU:=fun Z S k=>t Z S fun d S1=>∃x,d=.sn x/\k (.str x) S1
theorem jP (h:QE X e te):QE X e (tWk te):=bH (a0K h) (by rintro U H Q ⟨Y,S,Z,k,R,D,q,hk⟩;exact⟨Y,S,Z,_,R,D,q,(by
 rintro v H1 ⟨Y1,S1,d,g1,R1,r1,x,e1,q1⟩;subst e1;exact⟨x,aE r1,hk _ _ ⟨Y1,S1,_,g1,R1,aO,q1⟩⟩)⟩)
theorem a60 {t t':TA}(h:N7 n m X es t)(z:∀U H Q,t' U H Q->t U H Q):N7 n m X es t':=fun pos vy s U H Q I l q=>h pos vy s U H Q I l (z _ _ _ q)
theorem a6Z (h:QA X es t):YT n n X es t:=at_of h
theorem Yw (ha:yF n m X e te)(hr:YT m k X es t)(h:autoParam (notStar e=true) zi):YT n k X (e::es) (bD te t):=
 a60 (Az ha hr h) (by rintro U H Q ⟨Y,S,Z,k,R,D,q,hk⟩;exact⟨Y,S,Z,_,R,D,q,(by rintro v H1 ⟨Y1,S1,d,g1,R1,r1,q1⟩;exact   ⟨Y1,S1,Z,_,R1,D.gr g1,q1,(by rintro w H2 ⟨Y2,S2,ds,g2,R2,r2,q2⟩;exact hk _ _ ⟨Y2,S2,d::ds,g1.trans g2,R2,.cons (r1.gr g2) r2,q2⟩)⟩)⟩)
theorem aW.To {K:PySem.W.Frag}{G:Hp}:∀(ns:List Str),aW K G (ns.map T.sn) (ns.map V.sn)
 |[]=>.nil
 |n::ns=>.cons (by unfold Rp;rfl) (aW.To ns)
theorem Ru {xs:List Str}(h:r9 e=some xs):yF 1 1 X e (fun _ S k=>xs.length<=sizeLine/\k (.lst (xs.map T.sn)) S):=yr (LA h) (by rintro U H Q ⟨Y,S,Z,k,R,D,q,hk⟩;exact⟨by rw[List.length_map];exact q.1,wu R hk (aW.To xs) q.2⟩)
theorem XJ {x:Str}{xs:List Str}(h:r9 e=some (x::xs)):yF 0 1 X e (fun _ S k=>(x::xs).length<=sizeLine/\k (.lst ((x::xs).map T.str)) S):=yr (LB h) (by rintro U H Q ⟨Y,S,Z,k,R,D,q,hk⟩;exact⟨by rw[List.length_map];exact q.1,wu R hk (aW.ofStrs (x::xs)) q.2⟩)
def IsT (b:T)(s:Str):Prop:=b=.str s∨b=.sn s
noncomputable def Ed:CZ
 |.t (.v (.str sep)),[d],S,k=>∃(bs:List T)(ss:List Str),lq S d=some bs/\Paired IsT bs ss/\(∀y,bs=[y]->∃z,y=T.sn z)/\(ss.map (·.length)).sum+ss.length*sep.length<=16777216/\k (.sn (Txt.join sep ss)) S
 |_,_,_,_=>False
theorem GB {K:PySem.W.Frag}{G:Hp}:∀{bs:List T}{vs:List V}{ss:List Str},aW K G bs vs->Paired IsT bs ss->Paired IsS vs ss
 |[],vs,_,r,.nil=>by unfold aW at r;rw[r];exact .nil
 |b::bs,vs,_,r,.cons h p=>by
  unfold aW at r;obtain⟨v,vr,rfl,e2,e3⟩:=r;refine .cons ?_ (GB e3 p);rcases h with rfl | rfl
  .unfold Rp at e2;exact .inl e2
  .unfold Rp at e2;exact .inr e2
theorem Q2:MtT 1 X "str.join" (D8 X.K Ed):=by
 intro vy s U H x xs v us Q I l rx rv ⟨Y,S,d,ds,k,R,rd,rs,q,hk⟩;refine MC vy s U H x xs v us Q I l rx rv ?_;unfold Ed at q;split at q
 .obtain⟨bs,ss,h1,h2,h3,h4,h5⟩:=q;obtain⟨w,rfl,rw'⟩:=rs.one;obtain⟨a,us,e1,e2,e3⟩:=cD R rw' h1;refine⟨_,a,us,ss,aE rd,by rw[e1],e2,GB e3 h2,fun y hy=>?_,h4,fin R hk aO h5⟩;subst hy;cases bs with
  |nil=>unfold aW at e3;cases e3
  |cons b r=>
   unfold aW at e3;obtain⟨v',vr,e4,e5,e6⟩:=e3;cases e4;cases r with
   |nil=>
    obtain⟨z,rfl⟩:=h3 _ rfl;unfold Rp at e5;exact⟨z,e5⟩
   |cons c r=>unfold aW at e6;obtain⟨_,_,e7,_⟩:=e6;cases e7
 .exact q.elim
theorem Pz (ho:yF 0 1 X o to)(ha:QA X [e] t)(h1:autoParam (notStar e=true) zi)(Ap:autoParam (attributeBase o "join" X.env (eval o X.env)=eval o X.env) zi)(B1:autoParam ((BM.endLine==cpos.line)=true) zi) :
  QE X (.Call (.Attribute o "join" BM) [e] [] cpos) (mC "str" Ed to t):=T6 (yr (Th PySem.F.plainAttrs_str PySem.F.slot_str_join PySem.F.type_str_join Q2 ho (at_of ha) h1 rfl (by decide) Ap B1) zW)
noncomputable def rep3:CZ:=fun d ds S k=>d.sD.elim False fun z=>∃y w,ds=[.t (.v (.sn y)),.t (.v (.sn w))]/\y≠w/\z.length<=1000/\w.length<=14/\k (.str z) S/\k (.str (Txt.replace z y w)) S
theorem a1d:MtT n X "str.replace" (D8 X.K rep3):=by
 intro vy s U H x xs v us Q I l rx rv ⟨Y,S,d,ds,k,R,rd,rs,q,hk⟩;refine WS vy s U H x xs v us Q I l rx rv ?_;rcases Jf q with q | ⟨z,hd,y,w,rfl,h1,h2,h3,h4,h5⟩
 .exact q.elim
 cases D.Bl hd;obtain⟨w1,w2,rfl,r1,r2⟩:=rs.two;exact⟨_,_,_,aE rd,by rw[aE r1,aE r2],h1,h2,h3,fin R hk aO h4,fin R hk aO h5⟩
theorem a2p (ho:yF n m X o to)(ha:YT m k X (e::es) t)(h1:autoParam (notStar e=true) zi)(h2:autoParam (es.all notStar=true) zi)(h3:autoParam (es.length<20) zn)(Ap:autoParam (attributeBase o "replace" X.env (eval o X.env)=eval o X.env) zi)(B1:autoParam ((BM.endLine==cpos.line)=true) zi) :
  yF n k X (.Call (.Attribute o "replace" BM) (e::es) [] cpos) (mC "str" rep3 to t):=yr (Th PySem.F.plainAttrs_str PySem.F.slot_str_replace PySem.F.type_str_replace a1d ho ha h1 h2 h3 Ap B1) zW
def Yy (n m:Nat)(X:Cx)(st:Stmt)(t:ku):Prop:=Yz n m X st (YG X.K t)
def EM (n:Nat)(X:Cx)(st:List Stmt)(t:ku):Prop:=EN n X st (YG X.K t)
variable {st:Stmt}{rest:List Stmt}{tt u:ku}
theorem Lm (h:QS X st tt):Yy n n X st tt:=ZJ h
theorem ZL (h:yE X rest u):EM n X rest u:=Va h
theorem Sy (h:EM 0 X rest u):yE X rest u:=U9 h
theorem iJ (h1:Yy n m X st tt)(h2:EM m X rest u):EM n X (st::rest) (pG tt u):=fun vy s U H D I l ⟨Y,S,Z,E,R,RS,q,eu⟩=>KJ h1 h2 vy s U H D I l
 ⟨Y,S,Z,_,R,RS,q,⟨fun σ1 H1 ⟨Y1,S1,δ1,g1,R1,RV,q1⟩=>⟨Y1,S1,δ1,E,R1,RV,q1,eu.gr g1⟩,eu.rt,eu.bk,eu.ct⟩⟩
theorem Vb (h1:Yy n m X st tt):EM n X [st] tt:=fun vy s U H D I l q=>wpAny_execs_cons (bA (h1 vy s U H D I l q) (by
 rintro f s1 ⟨q,_⟩;cases f with
 |next=>exact wpAny_execs_nil q
 |ret v=>exact q
 |brk=>exact q
 |cont=>exact q))
theorem Ll {i:Nat}{x:Str}{pos':Pos}(hN:X.N.Nodup)(he:yF n m X e te)(hi:autoParam (X.N[i]?=some x) zi)(hx:autoParam (Loc X.env.scope x) kd)(hs:autoParam (swapsWith e (some (.Name x pos')) pos.line X.env=pure false) zi)(hf:autoParam (X.fn x=true∨X.env.scope.names.lookup x=some .local) zr) :
  Yy n m X (.Assign [.Name x pos'] e pos) (xW te (dB i)):=fun vy s U H D I l ⟨Y,S,Z,E,R,RS,q,eu⟩=>U6 hN hi hx he hs hf vy s U H D I l
 ⟨Y,S,Z,_,R,RS,q,fun v H1 ⟨Y1,S1,d,g1,R1,r1,q1⟩=>eu.nx _ _ ⟨Y1,S1,Z.set i (some d),g1,R1,(RS.gr g1).set r1 i,q1⟩⟩
theorem Z7 (he:yF n m X e te):Yy n m X (.Return (some e) pos) (uN te):=(by rintro vy s U H D I l ⟨Y,S,Z,E,R,RS,q,eu⟩;exact U7 he vy s U H D I l ⟨Y,S,Z,_,R,RS,q,eu.rt⟩)
end
theorem Ni:∀l:List Str,sZ (l.map T.sn)=some (l.map V.sn)
 |[]=>rfl
 |a::r=>by
  show(match flT (T.sn a),sZ (r.map T.sn) with | some v,some vs=>some (v::vs) | _,_=>none)=_;rw[Ni r];rfl
theorem M5 {f:Str->V}(hf:∀a b,yt (f a) (.sn b)=(a==b))(w:Str)(xs:List Str):Je (.sn w) (xs.map f)=decide (w∈xs):=by
 unfold Je;rw[List.any_map];by_cases h:w∈xs
 .rw[decide_eq_true h,List.any_eq_true];exact⟨w,h,by simp[hf]⟩
 .rw[decide_eq_false h,List.any_eq_false];intro y hy;simp only[Function.comp,hf,beq_iff_eq];exact fun e=>h (e ▸ hy)
noncomputable def lsN (l:List Str):T:=.lst (l.map T.sn)
noncomputable def K5:ef:=fun ds S k=>∃(d m:Nat),ds=[.ob d,.int m]/\m<=8/\Dq S d/\∀(ns:List Str) c m',ns.length=m->ns.Nodup->(∀x∈ns,isNm x=true)->k (.t (lsN ns)) (qd S d c m')
theorem Gz:∀ss:List Str,Paired IsT (ss.map T.str) ss
 |[]=>.nil
 |s::r=>.cons (.inl rfl) (Gz r)
theorem GA:∀{bs:List T}{ss:List Str}(i:Nat)(c:Str),Paired IsT bs ss->Paired IsT (bs.set i (T.sn c)) (ss.set i c)
 |_,_,_,_,.nil=>.nil
 |_,_,0,_,.cons _ p=>.cons (.inr rfl) p
 |_,_,i+1,c,.cons h p=>.cons h (GA i c p)
theorem WB {bs:List T}{i:Nat}{c:Str}(hi:i<bs.length):∀y,bs.set i (T.sn c)=[y]->∃z,y=T.sn z:=fun y h=>by
 have l:=congrArg List.length h;rw[List.length_set,List.length_singleton] at l;have e:(bs.set i (T.sn c))[0]?=some y:=by rw[h];rfl
 have i0:i=0:=by omega
 subst i0;rw[List.getElem?_set_self hi] at e;cases e;exact⟨c,rfl⟩
theorem Q8 (i:Int):∃x,YV x/\oM (nC.map T.sn) (i % 12)=some (T.sn x):=by
 have h0:=Int.emod_nonneg i (show(12:Int)≠0 by decide);have h1:=Int.emod_lt_of_pos i (show(0:Int)<12 by decide);have e:i % 12=((i % 12).toNat:Int):=(Int.toNat_of_nonneg h0).symm;have hl:(i % 12).toNat<nC.length:=by rw[ID];omega
 have hk:∀x∈nC,1<=x.length/\x.length<=8/\(cp x).all mD=true:=by symm
 refine⟨nC[(i % 12).toNat],hk _ (List.getElem_mem hl),?_⟩;have:=aY (xs:=nC.map T.sn) (j:=(i % 12).toNat) (v:=T.sn nC[(i % 12).toNat]) (by rw[List.getElem?_map,List.getElem?_eq_getElem hl];rfl);rw[<- e] at this;exact this
end L3
namespace L2
open PySem PySem.Spec PyProof.Rows
section
variable {X:Cx}{pos:Pos}
noncomputable def a6p (K:PySem.W.Frag)(n:Nat)(t:N6):TG:=fun v U H Q=>∃a xs,v=.ref a/\jx K H a xs/\xs.length=n/\t xs U H Q
theorem Wf {es:List Expr}{k:Nat}{t:N6}{n:Nat}(hc:X.calm=true)(h:Up X es t)
  (hn:autoParam ((assignEach es X.env).length=n) zi) (hst:autoParam ((assignEach es X.env).findIdx? (·.1)=none) zi):PG X (.Tuple es k pos) (a6p X.K n t):=by
 intro vy s U H v u Q I r hw;obtain⟨a,xs,e1,hq,hl,hw⟩:=hw;subst e1;cases r;obtain⟨AC,rv,ht,hz⟩:=I.list hq;rw[assign_Tuple];refine wpAny_bind (wpAny_standAt ?_);unfold unpack;rw[show(assignEach es X.env).length=AC.toArray.size by simp[hn,<- hl,rv.length],hst];refine wpAny_bind (wpAny_holding (PySem.W.kun_itemsOf (I.ok.hd hc) ht.isList fun h' hx=>?_));have I1:Inv X vy U H {s with heap:=h' }:=I.kept (t':=s.toks) fun b o e=>hx b o (Nat.ne_of_lt (Heap.lt_size e)) e;exact h vy _ U H xs _ Q I1 (by simpa using rv) hw
end
end L2
namespace L3
open PySem L2 Hw PyProof.Rows
noncomputable def a2f (n:Nat)(gs:xJ):sH:=fun d Z S k=>∃l,lq S d=some l/\l.length=n/\gs l Z S k
theorem VO {X:Cx}{es:List Expr}{gs:xJ}{pos:Pos}{k0 n:Nat}(hc:X.calm=true)(h:QGs X es gs)(hn:autoParam ((assignEach es X.env).length=n) zi)(hst:autoParam ((assignEach es X.env).findIdx? (·.1)=none) zi):QG X (.Tuple es k0 pos) (a2f n gs):=
 Bv (Wf hc h hn hst) (by
  rintro v U H Q ⟨Y,S,Z,d,k,R,RS,rd,⟨l,e,hl,q⟩,hk⟩;obtain⟨a,vs,e1,e2,e3⟩:=cD R rd e;exact⟨a,vs,e1,.of e2,by rw[<- e3.len];exact hl,Y,S,Z,l,k,R,RS,e3,q,hk⟩)
noncomputable def gK:List Kd:=[.hp,.an,.nd,.gv,.st,.wh,.ho,.fa,.st,.en,.iF,.st,.el,.st,.en,.en]
noncomputable def oK:List (Nat×Kd):=((List.range 15).map fun i=>(i+1,Kd.hp))++[(0,.st),(0,.en),(0,.nd),(0,.an),(0,.el),(2,.an),(4,.nd),(5,.gv),(5,.an),(5,.el),(5,.ho),(5,.fa),(8,.ho),(8,.fa),(9,.ho),(9,.el),(9,.nd),(14,.el),(13,.en),(12,.ho),(15,.fa),(16,.st),(16,.en),(16,.el),(16,.gv),(16,.iF),(15,.el)]
noncomputable def Rs.Ot:Rs->Nat->Bool
 |.er m,n=>Nat.beq m n
 |_,_=>false
noncomputable def Rs.isO:Rs->Bool
 |.ok _=>true
 |_=>false
theorem Rs.e {r:Rs}{n:Nat}(h:r.Ot n=true):r=.er n:=by
 cases r with
 |er m=>rw[Nat.eq_of_beq_eq_true h]
 |ok _=>cases h
 |uk=>cases h
theorem Rs.o {r:Rs}(h:r.isO=true):∃m,r=.ok m:=by
 cases r with
 |ok m=>exact⟨m,rfl⟩
 |er _=>cases h
 |uk=>cases h
noncomputable def kC (b:Bool):List Kd:=if b then gK else[]
noncomputable def Jc (b:Bool)(p:Nat)(k:Kd):List Kd:=(kC b++gK.take p)++[k]
noncomputable def Yi (b:Bool):Bool:=(List.range 42).all fun j=>match oK[j]? with
 |none=>false
 |some (p,k)=>(prs true (Jc b p k++gK.drop p)).Ot ((kC b).length+p)&&
  ((List.range 17).all fun c=>(prs true (Jc b p k++(gK.take c).drop p)).Ot ((kC b).length+p)&&(prs false ((Jc b p k++(gK.take c).drop p).dropLast)).Ot ((kC b).length+p))&&
  ((List.range (17 - p)).all fun q=>(prs true (((Jc b p k++(gK.take (p+q)).drop p)++[Kd.ot])++gK.drop (p+q))).Ot ((kC b).length+p))&&decide (p<17)&&decide (k∉[Kd.ot,.nl])
theorem Ye:Yi true=true:=by symm
theorem Yg:Yi false=true:=by symm
theorem Yh (b:Bool):Yi b=true:=by cases b;exact Yg;exact Ye
theorem RD (b:Bool){j p:Nat}{k:Kd}(hj:j<42)(h:oK[j]?=some (p,k)):prs true (Jc b p k++gK.drop p)=.er ((kC b).length+p)/\
  (∀c,c<17->prs true (Jc b p k++(gK.take c).drop p)=.er ((kC b).length+p)/\prs false ((Jc b p k++(gK.take c).drop p).dropLast)=.er ((kC b).length+p))/\
  (∀q,q<17 - p->prs true (((Jc b p k++(gK.take (p+q)).drop p)++[Kd.ot])++gK.drop (p+q))=.er ((kC b).length+p))/\p<17/\k∉[Kd.ot,.nl]:=by
 have z:=List.all_eq_true.mp (Yh b) j (List.mem_range.mpr hj);rw[h] at z;dsimp only at z;simp only[Bool.and_eq_true] at z;obtain⟨⟨⟨⟨h1,h2⟩,h3⟩,h4⟩,h5⟩:=z;refine⟨Rs.e h1,fun c hc=>?_,fun q hq=>?_,of_decide_eq_true h4,of_decide_eq_true h5⟩
 .have:=List.all_eq_true.mp h2 c (List.mem_range.mpr hc);rw[Bool.and_eq_true] at this;exact⟨Rs.e this.1,Rs.e this.2⟩
 .exact Rs.e (List.all_eq_true.mp h3 q (List.mem_range.mpr hq))
noncomputable def a2D (b:Bool):Bool:=(prs true (kC b++gK)).isO&&((List.range 15).all fun m=>(prs true (kC b++gK.take (m+1))).Ot ((kC b).length+(m+1)))&&(prs false ((kC b++gK).dropLast)).Ot ((kC b).length+15)&&
 (prs false (kC b++gK)).Ot ((kC b).length+16)&&(prs true ((kC b++gK)++[.nl])).Ot ((kC b).length+16)&&(prs true ([.nl]++(kC b++gK))).Ot 0
theorem Yd (b:Bool):a2D b=true:=by revert b;symm
theorem NO (b:Bool):(∃m,prs true (kC b++gK)=.ok m)/\(∀m,m<15->prs true (kC b++gK.take (m+1))=.er ((kC b).length+(m+1)))/\prs false ((kC b++gK).dropLast)=.er ((kC b).length+15)/\
  prs false (kC b++gK)=.er ((kC b).length+16)/\prs true ((kC b++gK)++[.nl])=.er ((kC b).length+16)/\prs true ([.nl]++(kC b++gK))=.er 0:=by
 have z:=Yd b;unfold a2D at z;simp only[Bool.and_eq_true] at z;obtain⟨⟨⟨⟨⟨h1,h2⟩,h3⟩,h4⟩,h5⟩,h6⟩:=z;exact⟨Rs.o h1,fun m hm=>Rs.e (List.all_eq_true.mp h2 m (List.mem_range.mpr hm)),Rs.e h3,Rs.e h4,Rs.e h5,Rs.e h6⟩
theorem a2E:prs true []=.er 0/\prs false []=.er 0:=⟨rfl,rfl⟩
structure RK (k:Kd)(t:Str):Prop where
 w:Jj k (Txt.split t " ")
 nl:10∉cp t
 len:t.length<=100000
theorem vm {k:Kd}{t:Str}{ws:List Str}(h:EL t ws)(hk:Jj k ws):RK k t:=⟨by rw[h.sp];exact hk,h.nl,h.len⟩
theorem a2j:∀k∈[Kd.hp,.an,.nd,.gv,.iF,.wh,.ho,.fa,.el,.en],sX k≠"":=by symm
theorem RK.ne {k:Kd}{t:Str}(h:RK k t)(h1:k≠.ot)(h2:k≠.nl):t≠"":=fun e=>by
 subst e;have w:=h.w;rw[show Txt.split ("":Str) " "=[("":Str)] by symm] at w;by_cases h3:k=.st
 .subst h3;obtain⟨y,ws,e,hy⟩:=FZ w;cases e;revert hy;symm
 .obtain⟨ws,e⟩:=Bm w h1 h3;injection e with e _
  exact a2j k (by revert h1 h2 h3;cases k<;>decide) e.symm
theorem swP {p:Str×Int}{q:Bool×Str}{P:List (Str×Int)}{r:List (Bool×Str)}(h:Paired Pw (p::P) (q::r))(hl:P.length<=15)(hb:∀x∈p::P,-3<=x.2/\x.2<=17):tG ⟨q,r,p::P⟩:=by
 have len:(p::P).length=(q::r).length:=Paired.length h;simp at len;have all:∀b∈q::r,lK b.2/\b.2.length<=20/\Txt.startswith b.2 "-"=false:=L6 (fun _ _ z=>⟨z.wd,z.len,z.mi⟩) h;have wd:∀x∈gQ q r,lK x:=fun x hx=>by
  rcases List.mem_cons.mp (show x∈sY q::(r.map fun q=>[mE q.1,q.2]).flatten from hx) with rfl | hx
  .have:=all q (by simp);exact Rn this.1 this.2.1
  .obtain⟨l,hl,hx⟩:=List.mem_flatten.mp hx;obtain⟨b,hb,rfl⟩:=List.mem_map.mp hl;rcases List.mem_cons.mp hx with rfl | hx
   .exact OX _
   .rw[List.mem_singleton.mp hx];exact(all b (List.mem_cons_of_mem _ hb)).1
 have a0:=all q (by simp);refine⟨⟨?_,?_,a0.2.2,Ng (fun _ _ z=>z.pc) h,fun x=>?_,fun x hx=>(wd x hx).no,fun x hx=>(wd x hx).no⟩,wd⟩
 .show r.length<=20;omega
 .have:=a0.2.1;show q.2.length<=100;omega
 .have w0:wt (z0 (p::P)) x=wt (p::P) x:=by unfold z0;rw[fE];split<;>simp
  show -999999999<=wt (z0 (p::P)) x/\wt (z0 (p::P)) x<=999999999;rw[w0];have:=YZ hb x;simp at this;omega
noncomputable def sT (x:Str):Sw:=⟨(false,x),[],[(x,1)]⟩
noncomputable def sN (v:Int):Sw:=⟨(decide (v<0),iU v),[],[("",v)]⟩
noncomputable def sD (x y:Str):Sw:=⟨(false,x),[(true,y)],[(x,1),(y,-1)]⟩
noncomputable def sP (x:Str):Sw:=⟨(false,x),[(false,iU 1)],[(x,1),("",1)]⟩
theorem jb {x:Str}(h:isNm x=true):tG (sT x):=swP (.cons (zL (BL h) rfl) .nil) (by simp) (by simp)
theorem kL {v:Int}(h0:0<=v)(h:v<=17):tG (sN v):=swP (.cons (Lz ⟨.inl rfl,by show -999999999<=v;omega,by show v<=999999999;omega⟩) .nil) (by simp) (by simp;omega)
theorem SM {x y:Str}(hx:isNm x=true)(hy:isNm y=true):tG (sD x y):=swP (.cons (zL (BL hx) rfl) (.cons (zL (v:=-1) (BL hy) rfl) .nil)) (by simp) (by simp)
theorem Z8 {x:Str}(hx:isNm x=true):tG (sP x):=swP (.cons (zL (BL hx) rfl) (.cons (Lz (v:=1) ⟨.inl rfl,by decide,by decide⟩) .nil)) (by simp) (by simp)
theorem CU (x:Str):cp (sT x).txt=cp x:=by rw[nj];rfl
theorem Ds (x y:Str):cp (sD x y).txt=cp x++32::45::32::cp y:=by
 rw[nj];show cp x++32::(cp ("-":Str)++32::cp y)=_;rw[show cp ("-":Str)=[45] by symm];rfl
theorem Dm (x:Str):cp (sP x).txt=cp x++[32,43,32,49]:=by
 rw[nj];show cp x++32::(cp ("+":Str)++32::cp (iU 1))=_;rw[show cp ("+":Str)=[43] by symm,show cp (iU 1)=[49] by symm];rfl
theorem OE (k:Bool)(cs:List CW):xU (.con k cs)=Txt.join (if k=true then(" and ":Str) else(" or ":Str)) (cs.map Sk):=by rw[xU,yM]
theorem gX (a b:Sw)(s:Str):cp (xU (.cmp a s b))=cp a.txt++32::(cp s++32::cp b.txt):=by
 unfold xU;simp only[aQ,GY];simp
theorem SS {k:Kd}{t:Str}{c:CW}(hk:k∈[Kd.nd,.gv,.ho,.iF,.wh])(h:Jb c)(e:cp t=cp (sX k)++32::cp (xU c)):RK k t:=by
 have et:t=(sX k++" ")++xU c:=eZ (by rw[e,aQ,aQ,GY];simp);subst et;have h32:(32∉cp (sX k)/\10∉cp (sX k))/\(sX k++" ").length<=100:=(show ∀k∈[Kd.nd,.gv,.ho,.iF,.wh],(32∉cp (sX k)/\10∉cp (sX k))/\(sX k++" ").length<=100 by symm) k hk;have r:=UL (w:=sX k) (w':=sX k++" ") (by rw[aQ,GY]) h h32.1 h32.2;refine vm r ?_;simp at hk;rcases hk with rfl | rfl | rfl | rfl | rfl<;>exact⟨c,rfl,h⟩
theorem jW {a b:Sw}{s:Str}(ha:tG a)(hb:tG b)(hs:s∈Vm):Jb (.cmp a s b):=⟨by unfold CW.ok;exact⟨ha,hb,hs⟩,by unfold CW.dep;decide⟩
theorem F3 {x:SX}{t:Str}(ok:x.ok)(h:isLt x∨GC x∨Ri x)(e:cp t=jn x.AU)(l:t.length<=100000):RK .st t:=vm (Vs ok e l) ⟨x,rfl,ok,h⟩
noncomputable def gR (x y a:Str):List (Kd×Str):=[(.hp,(("helper f "++x)++" #")++a),(.an,"answers "++y),(.nd,("needs "++x)++" < 1"),(.gv,((("gives "++y)++" < 1 or ")++x)++" < 1"),
 (.st,("let "++y)++" = 1"),(.wh,(("while "++y)++" < ")++x),(.ho,(("holds "++y)++" < ")++x),(.fa,(("falls "++x)++" - ")++y),
 (.st,((("let "++y)++" = ")++y)++" + 1"),(.en,"end"),(.iF,("if "++y)++" = 0"),(.st,("put "++a)++" at 0 = 2"),(.el,"else"),(.st,"row q = 3"),(.en,"end"),(.en,"end")]
theorem a6n (x y a:Str):(gR x y a).map (·.1)=gK:=rfl
theorem zI:RK .en "end":=⟨Ve,by symm,by symm⟩
theorem F5:RK .el "else":=⟨uW (by rfl) (by simp) (by symm),by symm,by symm⟩
section
variable {x y a:Str}(hx:isNm x=true)
theorem a1l {w v:Str}(hx:isNm x=true)(h:w.length+v.length<=90):((w++x)++v).length<=100:=by
 have:=b4 hx;rw[tF,tF];omega
include hx
theorem SQ:RK .nd (("needs "++x)++" < 1"):=SS (by decide) (jW (jb hx) (kL (v:=1) (by decide) (by decide)) (s:="<") (by symm)) (by simp only[aQ,gX,CU,Ds,Dm,List.append_assoc];rfl)
theorem VA:RK .gv (("gives "++x)++" < 1"):=SS (by decide) (jW (jb hx) (kL (v:=1) (by decide) (by decide)) (s:="<") (by symm)) (by simp only[aQ,gX,CU,Ds,Dm,List.append_assoc];rfl)
theorem Vz:RK .ho (("holds "++x)++" < 1"):=SS (by decide) (jW (jb hx) (kL (v:=1) (by decide) (by decide)) (s:="<") (by symm)) (by simp only[aQ,gX,CU,Ds,Dm,List.append_assoc];rfl)
theorem Vx:RK .iF (("if "++x)++" < 1"):=SS (by decide) (jW (jb hx) (kL (v:=1) (by decide) (by decide)) (s:="<") (by symm)) (by simp only[aQ,gX,CU,Ds,Dm,List.append_assoc];rfl)
theorem Vy:RK .iF (("if "++x)++" = 0"):=SS (by decide) (jW (jb hx) (kL (v:=0) (by decide) (by decide)) (s:="=") (by symm)) (by simp only[aQ,gX,CU,Ds,Dm,List.append_assoc];rfl)
theorem a0d {y:Str}(hy:isNm y=true):RK .wh ((("while "++y)++" < ")++x):=SS (by decide) (jW (jb hy) (jb hx) (s:="<") (by symm)) (by simp only[aQ,gX,CU,Ds,Dm,List.append_assoc];rfl)
theorem a0g {y:Str}(hy:isNm y=true):RK .ho ((("holds "++y)++" < ")++x):=SS (by decide) (jW (jb hy) (jb hx) (s:="<") (by symm)) (by simp only[aQ,gX,CU,Ds,Dm,List.append_assoc];rfl)
theorem a0i {y:Str}(hy:isNm y=true):RK .gv (((("gives "++y)++" < 1 or ")++x)++" < 1"):=by
 have c1:=jW (jb hy) (kL (v:=1) (by decide) (by decide)) (s:="<") (by symm);have c2:=jW (jb hx) (kL (v:=1) (by decide) (by decide)) (s:="<") (by symm);refine SS (c:=.con false [.cmp (sT y) "<" (sN 1),.cmp (sT x) "<" (sN 1)]) (by decide) ⟨?_,?_⟩ ?_
 .unfold CW.ok DX DX DX;exact⟨⟨c1.1,c2.1,trivial⟩,by simp,by simp⟩
 .unfold CW.dep nV nV nV CW.dep;decide
 .rw[OE,if_neg (by decide),List.map_cons,List.map_cons,List.map_nil,Ct,show Sk (.cmp (sT y) "<" (sN 1))=xU (.cmp (sT y) "<" (sN 1)) from rfl,show Sk (.cmp (sT x) "<" (sN 1))=xU (.cmp (sT x) "<" (sN 1)) from rfl];simp only[aQ,gX,CU,List.map_cons,List.map_nil,List.flatten_cons,List.flatten_nil,List.append_assoc];rfl
theorem F4:RK .st (("let "++x)++" = 1"):=F3 (x:=.lt x (sN 1)) (by unfold SX.ok;exact⟨hx,kL (by decide) (by decide)⟩) (.inl trivial) (by rw[<- Sj];simp only[aQ,gX,CU,Ds,Dm,List.append_assoc];rfl) (Nat.le_trans (a1l hx (by symm)) (by decide))
theorem Pe:RK .st (((("let "++x)++" = ")++x)++" + 1"):=F3 (x:=.lt x (sP x)) (by unfold SX.ok;exact⟨hx,Z8 hx⟩) (.inl trivial) (by rw[<- Sj];simp only[aQ,gX,CU,Ds,Dm,List.append_assoc];rfl) (by
 have:=b4 hx;have z1:("let ":Str).length=4:=by symm
 have z2:(" = ":Str).length=3:=by symm
 have z3:(" + 1":Str).length=4:=by symm
 simp only[tF];omega)
theorem Vw:RK .st (("put "++x)++" at 0 = 2"):=F3 (x:=.pt x (sN 0) (sN 2)) (by unfold SX.ok;exact⟨hx,kL (by decide) (by decide),kL (by decide) (by decide)⟩) (.inr (.inl trivial)) (by rw[<- Y4];simp only[aQ,gX,CU,Ds,Dm,List.append_assoc];rfl) (Nat.le_trans (a1l hx (by symm)) (by decide))
theorem SR:RK .an ("answers "++x):=by
 have l:=b4 hx;have z1:("answers ":Str).length=8:=by symm
 refine vm (ws:=[("answers":Str),x]) ⟨?_,by simp,fun w hw=>?_,by rw[tF];omega⟩ ⟨[x],rfl,by simp,by simpa using hx,by simp⟩
 .show _=cp "answers"++32::cp x;simp only[aQ,gX,CU,Ds,Dm,List.append_assoc];rfl
 .simp at hw;rcases hw with rfl | rfl
  .symm
  .exact⟨(kW hx).no,(kW hx).no⟩
theorem a0j {y:Str}(hy:isNm y=true):RK .fa ((("falls "++x)++" - ")++y):=by
 have l:=b4 hx;have l2:=b4 hy;have z1:("falls ":Str).length=6:=by symm
 have z2:(" - ":Str).length=3:=by symm
 refine vm (ws:=("falls":Str)::(sD x y).w) ⟨?_,by simp,fun w hw=>?_,by simp only[tF];omega⟩ ⟨sD x y,rfl,SM hx hy⟩
 .rw[xB (rS _ _),show jn (sD x y).w=cp (sD x y).txt from(nj _).symm];simp only[aQ,gX,CU,Ds,Dm,List.append_assoc];rfl
 .rcases List.mem_cons.mp hw with rfl | hw
  .symm
  .have:=(SM hx hy).wd w hw;exact⟨this.no,this.no⟩
theorem VB:RK .fa ("falls "++x):=by
 have l:=b4 hx;have z1:("falls ":Str).length=6:=by symm
 refine vm (ws:=("falls":Str)::(sT x).w) ⟨?_,by simp,fun w hw=>?_,by simp only[tF];omega⟩ ⟨sT x,rfl,jb hx⟩
 .rw[xB (rS _ _),show jn (sT x).w=cp (sT x).txt from(nj _).symm];simp only[aQ,gX,CU,Ds,Dm,List.append_assoc];rfl
 .rcases List.mem_cons.mp hw with rfl | hw
  .symm
  .have:=(jb hx).wd w hw;exact⟨this.no,this.no⟩
theorem a0f {a:Str}(ha:isNm a=true):RK .hp ((("helper f "++x)++" #")++a):=by
 have l:=b4 hx;have l2:=b4 ha;have k:=(Rk ha)
 have z1:("helper f ":Str).length=9:=by symm
 have z2:(" #":Str).length=2:=by symm
 refine vm (ws:=[("helper":Str),"f",x,("#":Str)++a]) ⟨?_,by simp,fun w hw=>?_,by simp only[tF];omega⟩ ⟨"f",[x,("#":Str)++a],rfl,by symm,fun z hz=>?_,by simp⟩
 .show _=cp "helper"++32::(cp "f"++32::(cp x++32::cp (("#":Str)++a)))
  simp only[aQ,gX,CU,Ds,Dm,List.append_assoc];rfl
 .simp at hw;rcases hw with rfl | rfl | rfl | rfl
  .symm
  .symm
  .exact⟨(kW hx).no,(kW hx).no⟩
  .exact⟨k.wd.no,k.wd.no⟩
 .simp at hz;rcases hz with rfl | rfl
  .exact⟨(BL hx).th,by omega⟩
  .exact⟨k.th,by have:=k.len;omega⟩
end
theorem Vu:RK .st "row q = 3":=F3 (x:=.mq "q" (sN 3)) (by unfold SX.ok;exact⟨by symm,kL (by decide) (by decide)⟩) (.inr (.inr trivial)) (by rw[<- Y5];simp only[aQ,gX,CU,Ds,Dm,List.append_assoc];rfl) (by symm)
theorem a0h:RK .hp "helper g":=vm (ws:=[("helper":Str),"g"]) ⟨by symm,by simp,by symm,by symm⟩ ⟨"g",[],rfl,by symm,fun _ h=>absurd h List.not_mem_nil,by decide⟩
theorem a2g {x y a:Str}(hx:isNm x=true)(hy:isNm y=true)(ha:isNm a=true):∀p∈gR x y a,RK p.1 p.2:=fun p hp=>by
 unfold gR at hp;simp only[List.mem_cons,List.not_mem_nil,or_false] at hp;rcases hp with rfl | rfl | rfl | rfl | rfl | rfl | rfl | rfl | rfl | rfl | rfl | rfl | rfl | rfl | rfl | rfl
 .exact a0f hx ha
 .exact SR hy
 .exact SQ hx
 .exact a0i hx hy
 .exact F4 hy
 .exact a0d hx hy
 .exact a0g hx hy
 .exact a0j hx hy
 .exact Pe hy
 .exact zI
 .exact Vy hy
 .exact Vw ha
 .exact F5
 .exact Vu
 .exact zI
 .exact zI
theorem Yr (a b c:Str):a++(b++c)=(a++b)++c:=eZ (by simp only[aQ];simp)
noncomputable def oR (x:Str):List (Nat×Kd×Str):=((List.range 15).map fun i=>(i+1,Kd.hp,("helper g":Str)))++[(0,.st,("let "++x)++" = 1"),(0,.en,"end"),(0,.nd,"needs "++(x++" < 1")),(0,.an,"answers "++x),(0,.el,"else"),(2,.an,"answers "++x),(4,.nd,"needs "++(x++" < 1")),(5,.gv,"gives "++(x++" < 1")),(5,.an,"answers "++x),(5,.el,"else"),
 (5,.ho,"holds "++(x++" < 1")),(5,.fa,"falls "++x),(8,.ho,"holds "++(x++" < 1")),(8,.fa,"falls "++x),(9,.ho,"holds "++(x++" < 1")),(9,.el,"else"),(9,.nd,"needs "++(x++" < 1")),(14,.el,"else"),(13,.en,"end"),(12,.ho,"holds "++(x++" < 1")),(15,.fa,"falls "++x),
 (16,.st,("let "++x)++" = 1"),(16,.en,"end"),(16,.el,"else"),(16,.gv,"gives "++(x++" < 1")),(16,.iF,"if "++(x++" < 1")),(15,.el,"else")]
theorem a43 (x:Str):(oR x).map (fun e=>(e.1,e.2.1))=oK:=rfl
theorem a01 {x:Str}(hx:isNm x=true):∀e∈oR x,RK e.2.1 e.2.2:=fun e he=>by
 rcases List.mem_append.mp he with he | he
 .obtain⟨i,_,rfl⟩:=List.mem_map.mp he;exact a0h
 .have n1:=SQ hx;have n2:=VA hx;have n3:=Vz hx;have n4:=Vx hx;rw[<- Yr] at n1 n2 n3 n4;simp only[List.mem_cons,List.not_mem_nil,or_false] at he;rcases he with rfl | rfl | rfl | rfl | rfl | rfl | rfl | rfl | rfl | rfl | rfl | rfl | rfl | rfl | rfl | rfl | rfl | rfl | rfl | rfl | rfl | rfl | rfl | rfl | rfl | rfl | rfl<;>
   first | exact n1 | exact n2 | exact n3 | exact n4 | exact zI | exact F5 | exact SR hx | exact VB hx | exact F4 hx
noncomputable def oT (e:Nat×Kd×Str):T:=.tup [.int e.1,.str e.2.2]
noncomputable def jnl (xs:List Str):Str:=Txt.join "" (xs.map (·++("\n":Str)))
theorem Cr:cp ("\n":Str)=[10]:=by symm
theorem jX (xs:List Str):cp (jnl xs)=(xs.map fun x=>cp x++[10]).flatten:=by
 unfold jnl;rw[Ub,List.map_map];congr 1;exact List.map_congr_left fun x _=>by show cp (x++_)=_;rw[aQ,Cr]
theorem Cs (b:Str):∀(r:List Str)(x:Str),((x::r).map fun x=>cp x++[10]).flatten++cp b=cp x++((r++[b]).map fun y=>cp ("\n":Str)++cp y).flatten
 |[],x=>by rw[Cr];simp
 |y::r,x=>by
  have:=Cs b r y;rw[List.map_cons,List.flatten_cons,List.append_assoc,this,List.cons_append,List.map_cons,List.flatten_cons,Cr];simp
theorem MG {t b:Str}{xs:List Str}(e:cp t=(xs.map fun x=>cp x++[10]).flatten++cp b):t=Txt.join "\n" (xs++[b]):=eZ (by
 rw[e];cases xs with
 |nil=>rw[List.nil_append,Ct];simp
 |cons x r=>rw[List.cons_append,Ct,Cs])
theorem wm {M:Nat}:∀{xs:List Str},(∀x∈xs,x.length<=M)->((xs.map fun x=>cp x++[10]).flatten).length<=(M+1)*xs.length
 |[],_=>by simp
 |x::r,h=>by
  have ih:=wm fun y hy=>h y (List.mem_cons_of_mem _ hy);have hx:=h x (List.mem_cons_self ..);rw[bg] at hx;rw[List.map_cons,List.flatten_cons,List.length_append,List.length_append,show(x::r).length=r.length+1 from rfl,Nat.mul_succ];show(cp x).length+1+_<=_;omega
theorem J6 {t b:Str}{L:List (Kd×Str)}(h:∀p∈L,RK p.1 p.2)(hb:10∉cp b)(hbl:b.length<=100000)(hl:L.length<=80)(e:cp t=((L.map (·.2)).map fun x=>cp x++[10]).flatten++cp b) :
  Txs t (L.map (·.2)) b (L.map fun p=>(p.1,Txt.split p.2 " ")):=by
 have hm:∀x∈L.map (·.2),10∉cp x/\x.length<=100000:=fun x hx=>by
  obtain⟨p,hp,rfl⟩:=List.mem_map.mp hx;exact⟨(h p hp).nl,(h p hp).len⟩
 refine⟨?_,?_,by rw[List.length_map];omega,fun x hx=>(hm x hx).2,by rw[List.map_map,List.map_map];rfl,fun p hp=>?_⟩
 .have:=wm fun x hx=>(hm x hx).2;rw[List.length_map] at this;rw[bg] at hbl;rw[bg,e,List.length_append];have:(100000+1)*L.length<=(100000+1)*80:=Nat.mul_le_mul_left _ hl;omega
 .rw[MG e,show("\n":Str)=⟨#[10]⟩ by symm];refine uV (by simp) fun x hx=>?_;rcases List.mem_append.mp hx with hx | hx
  .exact(hm x hx).1
  .rw[List.mem_singleton.mp hx];exact hb
 .obtain⟨q,hq,rfl⟩:=List.mem_map.mp hp;exact(h q hq).w
theorem vo {t b:Str}{L:List (Kd×Str)}{S:aS}{k:KD}{o:O}{n:Nat}(h:∀p∈L,RK p.1 p.2)(hb:10∉cp b)(hbl:b.length<=100000)(hl:L.length<=80)(e:cp t=((L.map (·.2)).map fun x=>cp x++[10]).flatten++cp b)
  (hS:S=[o]) (hp:prs (decide (b="")) (L.map (·.1))=.er n) (hk:∀o',k (.int n) [o']):gS [.str t] S k:=by
 refine⟨t,_,b,_,o,rfl,hS,J6 h hb hbl hl e,?_⟩;rw[show b9 (L.map fun p=>(p.1,Txt.split p.2 " "))=L.map (·.1) by unfold b9;rw[List.map_map];rfl,hp];exact hk
theorem VC {t:Str}{L:List (Kd×Str)}{S:aS}{k:KD}{o:O}{n:Nat}(h:∀p∈L,RK p.1 p.2)(hl:L.length<=80)(e:cp t=((L.map (·.2)).map fun x=>cp x++[10]).flatten)
  (hS:S=[o]) (hp:prs true (L.map (·.1))=.ok n) (hk:∀o',k (.int (-1)) [o']):gS [.str t] S k:=by
 refine⟨t,_,"",_,o,rfl,hS,J6 h (by symm) (by symm) hl (by rw[e,wD,List.append_nil]),?_⟩;rw[show b9 (L.map fun p=>(p.1,Txt.split p.2 " "))=L.map (·.1) by unfold b9;rw[List.map_map];rfl,decide_eq_true rfl,hp];exact hk
theorem X4 {x:Str}(h:1<=x.length):cp (Txt.slice x none (some (-1)))=(cp x).dropLast:=by
 have e:Txt.slice x none (some (-1))=StrLaws.sliceText x none (some (-1)):=rfl;rw[e,StrLaws.sliceText_to_neg (by decide) (by omega)];show List.take _ (List.drop _ (cp x))=_;rw[List.dropLast_eq_take,List.drop_zero];congr 1;have:x.length=(cp x).length:=bg x;omega
theorem Nh (L:List Str)(b:Str):((((L++[b]).map fun x=>cp x++[10]).flatten)).dropLast=(L.map fun x=>cp x++[10]).flatten++cp b:=by
 rw[List.map_append,List.flatten_append,List.map_cons,List.map_nil,List.flatten_cons,List.flatten_nil,List.append_nil,<- List.append_assoc,List.dropLast_concat]
theorem NB (l:List T)(p c:Nat):mG l (some (p:Int)) (some (c:Int))=(l.take c).drop p:=by
 unfold mG;rw[HT.jN,HT.jN,List.drop_take];by_cases h:p<=l.length
 .rw[Nat.min_eq_left h];by_cases h2:c<=l.length
  .rw[Nat.min_eq_left h2]
  .rw[Nat.min_eq_right (by omega),List.take_of_length_le (by rw[List.length_drop];exact Nat.le_refl _),List.take_of_length_le (by rw[List.length_drop];omega)]
 .rw[List.drop_eq_nil_of_le (show l.length<=p by omega),List.drop_eq_nil_of_le (by omega)];simp
noncomputable def K9:ef:=fun ds S k=>∃x y a:Str,ds=[.t (lsN [x,y,a])]/\isNm x=true/\isNm y=true/\isNm a=true/\k (.lst (((gR x y a).map (·.2)).map T.str)) S
noncomputable def yZ:ef:=fun ds S k=>∃xs:List Str,ds=[.lst (xs.map T.str)]/\xs.length<=80/\(∀x∈xs,x.length<=100000)/\k (.str (jnl xs)) S
noncomputable def K2:ef:=fun ds S k=>∃x:Str,ds=[.str x]/\isNm x=true/\k (.lst ((oR x).map oT)) S
noncomputable def K4:ef:=fun ds S k=>∃(c:Int)(x:Str),ds=[.int c,.sn x]/\isNm x=true/\∀t:Str,RK .ot t->k (.str t) S
end L3
namespace L2
open PySem PySem.Spec PyProof.Rows Hw
section
variable {X:Cx}
noncomputable def intsOf:List Expr->Option (List Int)
 |[]=>some []
 |.Constant (.int x) _ _::r=>(intsOf r).map (x::·)
 |_=>none
noncomputable def Ss (xs:List Int):TA:=fun _ H Q=>Q (xs.map V.int) H
theorem Gm:∀{es:List Expr}{xs:List Int},intsOf es=some xs->PA X es (Ss xs)
 |[],xs,h=>by
  cases h;exact qW
 |e::r,xs,h=>by
  unfold intsOf at h;split at h
  .rename_i he;cases he
  .rename_i x j pos r' he;cases he;cases q:intsOf r with
   |none=>rw[q] at h;cases h
   |some ys=>
    rw[q] at h;cases h;have ih:=Gm q;exact jS DR ih rfl
  .cases h
noncomputable def Ef:Expr->Option (List Int)
 |.List es _=>intsOf es
 |_=>none
theorem P7 {xs:List Int}:∀{e:Expr},Ef e=some xs->PE X e (HA (Ss xs)):=by
 intro e h;cases e<;>first | exact zO (Gm h) | exact absurd h (by simp[Ef])
end
end L2
namespace L3
open PySem L2 Hw PyProof.Rows
theorem aW.ofInts {K:PySem.W.Frag}{G:Hp}:∀(ns:List Int),aW K G (ns.map T.int) (ns.map V.int)
 |[]=>.nil
 |n::ns=>.cons (by unfold Rp;rfl) (aW.ofInts ns)
theorem VS {X:Cx}{e:Expr}{xs:List Int}(h:Ef e=some xs):QE X e (fun _ S k=>xs.length<=sizeLine/\k (.lst (xs.map T.int)) S):=bH (P7 h) (by rintro U H Q ⟨Y,S,Z,k,R,D,q,hk⟩;exact⟨by rw[List.length_map];exact q.1,wu R hk (aW.ofInts xs) q.2⟩)
noncomputable def QU:List Str:=["let = 1","x","","claim @ <","end 1","let @ = 1 +","while","helper F","let @ = 01"," end","if (@ < 1)","row #@ = 1","put @ at 1","call","answers","needs @","holds","falls","else @"]
theorem zV:∀t∈QU,(10∉cp t/\t.length<=20)/\(Txt.split t ⟨#[64]⟩).length<=5/\∀p∈Txt.split t ⟨#[64]⟩,10∉cp p/\p.length<=20:=by symm
theorem Gx {c:Nat}{x:Str}(hx:c∉cp x):∀{ps:List Str},(∀p∈ps,c∉cp p)->c∉cp (Str.join x ps)
 |[],_=>by show c∉([]:List Nat);simp
 |[p],h=>h p (List.mem_cons_self ..)
 |p::q::r,h=>by
  rw[ND];intro z;rcases List.mem_append.mp z with z | z
  .exact h p (List.mem_cons_self ..) z
  rcases List.mem_append.mp z with z | z
  .exact hx z
  .exact Gx hx (ps:=q::r) (fun y hy=>h y (List.mem_cons_of_mem _ hy)) z
theorem SN {t:Str}(h:10∉cp t)(l:t.length<=100000):RK .ot t:=⟨A7 _ _,h,l⟩
theorem a0e {t:Str}(h:t∈QU):RK .ot t:=SN (zV t h).1.1 (by have:=(zV t h).1.2;omega)
theorem Vv {t x:Str}(h:t∈QU)(hx:isNm x=true):RK .ot (Txt.replace t "@" x):=by
 obtain⟨_,hl,hp⟩:=zV t h;have lx:=b4 hx;rw[show("@":Str)=⟨#[64]⟩ by symm,StrLaws.replace_one];refine SN (Gx (kW hx).no fun p hq=>(hp p hq).1) ?_;have e:Txt.join x (Txt.split t ⟨#[64]⟩)=Str.join x (Txt.split t ⟨#[64]⟩):=StrLaws.glued_eq_join ..;rw[<- e];have:=Xh x (Txt.split t ⟨#[64]⟩);have s:=Dw (l:=Txt.split t ⟨#[64]⟩) (M:=20) fun p hq=>(hp p hq).2;have m1:20*(Txt.split t ⟨#[64]⟩).length<=20*5:=Nat.mul_le_mul_left _ hl;have m2:(Txt.split t ⟨#[64]⟩).length*x.length<=5*8:=Nat.mul_le_mul hl lx;omega
theorem WL (c:Int):∃t,t∈QU/\oM (QU.map T.str) (c % 19)=some (T.str t):=by
 have h0:=Int.emod_nonneg c (show(19:Int)≠0 by decide);have h1:=Int.emod_lt_of_pos c (show(0:Int)<19 by decide);have e:c % 19=((c % 19).toNat:Int):=(Int.toNat_of_nonneg h0).symm;have hl:(c % 19).toNat<QU.length:=by show _<19;omega
 refine⟨QU[(c % 19).toNat],List.getElem_mem hl,?_⟩;have:=aY (xs:=QU.map T.str) (j:=(c % 19).toNat) (v:=T.str QU[(c % 19).toNat]) (by rw[List.getElem?_map,List.getElem?_eq_getElem hl];rfl);rw[<- e] at this;exact this
noncomputable def tl (L:List (Kd×Str)):List T:=(L.map (·.2)).map T.str
theorem jF (A B:List (Kd×Str)):tl (A++B)=tl A++tl B:=by unfold tl;rw[List.map_append,List.map_append]
theorem tV (L:List (Kd×Str))(n:Nat):(tl L).take n=tl (L.take n):=by unfold tl;rw[List.map_take,List.map_take]
theorem tW (L:List (Kd×Str))(n:Nat):(tl L).drop n=tl (L.drop n):=by unfold tl;rw[List.map_drop,List.map_drop]
theorem gP (L:List (Kd×Str)):(tl L).length=L.length:=by unfold tl;rw[List.length_map,List.length_map]
noncomputable def jL (L:List (Kd×Str)):Str:=jnl (L.map (·.2))
structure LL (m:Nat)(L:List (Kd×Str)):Prop where
 ok:∀p∈L,RK p.1 p.2
 len:L.length<=m
 le:m<=80
section
variable {L A B:List (Kd×Str)}{p:Kd×Str}{S:aS}{k:KD}{o:O}{n m j:Nat}{t:Str}
theorem LL.le' (h:LL m L):L.length<=80:=Nat.le_trans h.len h.le
theorem LL.app (a:LL m A)(b:LL j B)(h:m+j<=80):LL (m+j) (A++B):=⟨fun p hp=>(List.mem_append.mp hp).elim (a.ok p) (b.ok p),by rw[List.length_append];exact Nat.add_le_add a.len b.len,h⟩
theorem LL.take (a:LL m A)(n:Nat):LL m (A.take n):=⟨fun p hp=>a.ok p (List.mem_of_mem_take hp),by rw[List.length_take];exact Nat.le_trans (Nat.min_le_right _ _) a.len,a.le⟩
theorem LL.drop (a:LL m A)(n:Nat):LL m (A.drop n):=⟨fun p hp=>a.ok p (List.mem_of_mem_drop hp),by rw[List.length_drop];exact Nat.le_trans (Nat.sub_le _ _) a.len,a.le⟩
theorem LL.one (h:RK p.1 p.2):LL 1 [p]:=⟨fun q hq=>by rw[List.mem_singleton.mp hq];exact h,by simp,by decide⟩
theorem LL.jl (h:LL m L):(jL L).length<=9000000:=by
 unfold jL;rw[bg,jX];have:=wm (M:=100000) (xs:=L.map (·.2)) fun x hx=>by
  obtain⟨p,hp,rfl⟩:=List.mem_map.mp hx;exact(h.ok p hp).len
 rw[List.length_map] at this;have m:=Nat.mul_le_mul_left (100000+1) h.le';omega
theorem LL.jz (h:LL m L){n:Nat}(e:n<=100):(jL L).length+n<=sizeLine:=by have:=h.jl;rw[sizeLine_eq];omega
theorem LL.sz (a:LL m A)(b:LL j B):(tl A).length+(tl B).length<=sizeLine:=by have:=a.le';have:=b.le';rw[gP,gP];exact sL (by omega)
theorem LL.nI {t:T}(a:LL m A):(tl A).length+([t]:List T).length<=sizeLine:=by have:=a.le';rw[gP];exact sL (by simp;omega)
theorem qX (h:LL m L)(hk:k (.str (jL L)) S):yZ [.lst (tl L)] S k:=⟨L.map Prod.snd,rfl,by rw[List.length_map];exact h.le',fun x hx=>by
 obtain⟨p,hp,rfl⟩:=List.mem_map.mp hx;exact(h.ok p hp).len,hk⟩
theorem yk (h:LL m L)(hS:S=[o])(hp:prs true (L.map (·.1))=.er n)(hk:∀o',k (.int n) [o']):gS [.str (jL L)] S k:=
 vo (b:="") h.ok (by symm) (by symm) h.le' (by unfold jL;rw[jX,wD,List.append_nil]) hS (by rw[decide_eq_true rfl];exact hp) hk
theorem Tr (h:LL m L)(hS:S=[o])(hp:∃m,prs true (L.map (·.1))=.ok m)(hk:∀o',k (.int (-1)) [o']):gS [.str (jL L)] S k:=
 let⟨m,hp⟩:=hp
 VC (n:=m) h.ok h.le' (by unfold jL;rw[jX]) hS hp hk
theorem ME (h:LL m L)(hl:L≠[])(hk1:∀p∈L,p.1∉[Kd.ot,.nl])(hS:S=[o])(hp:prs false ((L.map (·.1)).dropLast)=.er n)(hk:∀o',k (.int n) [o']):gS [.str (Txt.slice (jL L) none (some (-1)))] S k:=by
 obtain⟨M,p,rfl⟩:∃M p,L=M++[p]:=⟨L.dropLast,L.getLast hl,(List.dropLast_concat_getLast hl).symm⟩
 have rp:=h.ok p (by simp);have np:=hk1 p (by simp);rw[List.map_append,List.map_cons,List.map_nil,List.dropLast_concat] at hp;have ne:p.2≠"":=rp.ne (fun z=>np (by rw[z];decide)) (fun z=>np (by rw[z];decide));refine vo (b:=p.2) (L:=M) (fun q hq=>h.ok q (List.mem_append_left _ hq)) rp.nl rp.len (by have:=h.le';rw[List.length_append] at this;omega) ?_ hS (by rw[decide_eq_false ne];exact hp) hk;have e:cp (jL (M++[p]))=((M.map (·.2)++[p.2]).map fun x=>cp x++[10]).flatten:=by unfold jL;rw[jX,List.map_append];rfl
 rw[X4,e,Nh];rw[bg,e];simp;omega
theorem Q5 (h:LL m L)(ht:isNm t=true)(hS:S=[o])(hp:prs false (L.map (·.1))=.er n)(hk:∀o',k (.int n) [o']):gS [.str (jL L++t)] S k:=by
 have l:=b4 ht;refine vo (b:=t) h.ok (kW ht).no (by omega) h.le' (by unfold jL;rw[aQ,jX]) hS ?_ hk;rw[decide_eq_false fun z=>by rw[z] at ht;revert ht;symm];exact hp
theorem SO:RK .nl "":=⟨by show Txt.split ("":Str) " "=_;symm,by symm,by symm⟩
theorem a1k (h:LL m L)(hl:m+1<=80)(hS:S=[o])(hp:prs true (L.map (·.1)++[.nl])=.er n)(hk:∀o',k (.int n) [o']):gS [.str (jL L++"\n")] S k:=by
 have e:jL L++"\n"=jL (L++[(Kd.nl,("":Str))]):=eZ (by unfold jL;rw[aQ,jX,jX,List.map_append,List.map_append,List.flatten_append,Cr];simp[wD]);rw[e];exact yk (h.app (LL.one (p:=(Kd.nl,("":Str))) SO) hl) hS (by rw[List.map_append];exact hp) hk
theorem W3 (h:LL m L)(hl:m+1<=80)(hS:S=[o])(hp:prs true ([.nl]++L.map (·.1))=.er n)(hk:∀o',k (.int n) [o']):gS [.str ("\n"++jL L)] S k:=by
 have e:"\n"++jL L=jL ([(Kd.nl,("":Str))]++L):=eZ (by unfold jL;rw[aQ,jX,jX,List.map_append,List.map_append,List.flatten_append,Cr];simp[wD]);rw[e];exact yk ((LL.one (p:=(Kd.nl,("":Str))) SO).app h (by omega)) hS (by rw[List.map_append];exact hp) hk
theorem Q4 (hS:S=[o])(hk:∀o',k (.int 0) [o']):gS [.str ""] S k:=
 vo (b:="") (L:=[]) (n:=0) (fun _ h=>absurd h List.not_mem_nil) (by symm) (by symm) (by simp) (by symm) hS (by rw[decide_eq_true rfl];exact a2E.1) hk
theorem W2 (hS:S=[o])(hk:∀o',k (.int 0) [o']):gS [.str "end"] S k:=
 vo (b:="end") (L:=[]) (n:=0) (fun _ h=>absurd h List.not_mem_nil) (by symm) (by symm) (by simp) (by symm) hS (by rw[decide_eq_false (by symm)];exact a2E.2) hk
end
theorem Cc:∀k∈gK,k∉[Kd.ot,.nl]:=by decide
theorem Kg {ns:List Str}(h:ns.length=3):∃x y a,ns=[x,y,a]:=by
 match ns,h with
 |[x,y,a],_=>exact⟨x,y,a,rfl⟩
theorem rep2 (c:Int)(l:List T):∃b:Bool,(List.replicate (c % 2).toNat l).flatten=if b=true then l else[]:=by
 have h0:=Int.emod_nonneg c (show(2:Int)≠0 by decide);have h1:=Int.emod_lt_of_pos c (show(0:Int)<2 by decide);have:(c % 2).toNat=0∨(c % 2).toNat=1:=by omega
 rcases this with e | e
 .exact⟨false,by rw[e];rfl⟩
 .exact⟨true,by rw[e];simp⟩
theorem a02 (x:Str)(c:Int):∃(j p:Nat)(k:Kd)(w:Str),j<42/\oK[j]?=some (p,k)/\(p,k,w)∈oR x/\oM ((oR x).map oT) (c % 42)=some (T.tup [T.int p,T.str w]):=by
 have h0:=Int.emod_nonneg c (show(42:Int)≠0 by decide);have h1:=Int.emod_lt_of_pos c (show(0:Int)<42 by decide);have e:c % 42=((c % 42).toNat:Int):=(Int.toNat_of_nonneg h0).symm;have hl:(c % 42).toNat<(oR x).length:=by show _<42;omega
 obtain⟨⟨p,k,w⟩,hq⟩:∃q,(oR x)[(c % 42).toNat]?=some q:=⟨_,List.getElem?_eq_getElem hl⟩
 refine⟨(c % 42).toNat,p,k,w,by omega,?_,List.mem_of_getElem? hq,?_⟩
 .rw[<- a43 x,List.getElem?_map,hq];rfl
 .have:=aY (xs:=(oR x).map oT) (j:=(c % 42).toNat) (v:=oT (p,k,w)) (by rw[List.getElem?_map,hq];rfl);rw[<- e] at this;exact this
theorem xI {a b:Int}(h:a=b):xor true (decide (V.int a=V.int b))=false:=by subst h;simp
theorem Ka (A:List (Kd×Str))(k:Kd)(w:Str):tl A++[T.str w]=tl (A++[(k,w)]):=by rw[jF];rfl
theorem WO {c:Int}{m:Nat}(hm:0<m):∃q:Nat,c % (m:Int)=(q:Int)/\q<m:=by
 have h0:=Int.emod_nonneg c (show(m:Int)≠0 by omega);have h1:=Int.emod_lt_of_pos c (show(0:Int)<(m:Int) by omega);exact⟨(c % (m:Int)).toNat,by omega,by omega⟩
end L3
set_option maxHeartbeats 8000000
namespace L3
open PySem L2 Hw PyProof.Rows
noncomputable def top (i:Nat):Stmt:=PySem.Challenge.pw_holdwright_k15_rows_out_of_place.main.body.getD i (.Pass ⟨0,0,0,0⟩)
structure Fx (K:PySem.W.Frag)(mg:Str->Option Value)(A:Ad):Prop where
 cu:mg "len"=none
 eX:mg "tuple"=none
 a6W:mg "list"=none
 NY:mg "sorted"=none
 a2J:mg "int"=none
 a8R:mg "str"=none
 ee:mg "isinstance"=none
 uz:mg "range"=none
 a2K:mg "abs"=none
 CG:mg "all"=none
 ql:mg "ValueError"=none
 Yp:mg "bool"=none
 B0:mg "Sum"=some (.ref A.iY)
 MO:fk K A.iY []
 gx:aN K A.iY "terms"
 fL:aN K A.iY "number"
 jr:mg "Compare"=some (.ref A.bf)
 q9:fk K A.bf []
 eK:aN K A.bf "one"
 dW:aN K A.bf "sign"
 dz:aN K A.bf "other"
 lu:mg "Turned"=some (.ref A.cy)
 vS:fk K A.cy []
 b5:aN K A.cy "condition"
 ia:mg "Several"=some (.ref A.bE)
 p9:mg "Every"=some (.ref A.dY)
 Ac:fk K A.dY []
 b7:aN K A.dY "conditions"
 wg:mg "Some"=some (.ref A.gO)
 D9:fk K A.gO []
 cI:aN K A.gO "conditions"
 Cb:mg "Let"=some (.ref A.i6)
 MQ:fk K A.i6 []
 kY:aN K A.i6 "at"
 ir:aN K A.i6 "name"
 gE:aN K A.i6 "total"
 Ca:mg "Put"=some (.ref A.iZ)
 MP:fk K A.iZ []
 kX:aN K A.iZ "at"
 jf:aN K A.iZ "row"
 gC:aN K A.iZ "place"
 gB:aN K A.iZ "total"
 wk:mg "Make"=some (.ref A.fN)
 Eb:fk K A.fN []
 jg:aN K A.fN "at"
 ig:aN K A.fN "row"
 gD:aN K A.fN "size"
 lD:mg "Choose"=some (.ref A.bL)
 vX:fk K A.bL []
 gG:aN K A.bL "at"
 b8:aN K A.bL "condition"
 eL:aN K A.bL "then"
 dX:aN K A.bL "other"
 lB:mg "Repeat"=some (.ref A.bB)
 vV:fk K A.bB []
 gz:aN K A.bB "at"
 b6:aN K A.bB "condition"
 dO:aN K A.bB "keeps"
 dP:aN K A.bB "falls"
 eF:aN K A.bB "body"
 lC:mg "Helper"=some (.ref A.bu)
 vW:fk K A.bu []
 gF:aN K A.bu "at"
 eG:aN K A.bu "name"
 dw:aN K A.bu "params"
 cW:aN K A.bu "answers"
 dR:aN K A.bu "needs"
 dS:aN K A.bu "gives"
 dQ:aN K A.bu "steps"
 jk:mg "Program"=some (.ref A.cX)
 q8:fk K A.cX []
 cJ:aN K A.cX "helpers"
 wj:mg "Rows"=some (.ref A.cO)
 Ea:fk K A.cO []
 gy:aN K A.cO "rows"
 fV:aN K A.cO "at"
 lA:mg "Tokens"=some (.ref A.aX)
 vU:fk K A.aX []
 dj:aN K A.aX "tokens"
 cV:aN K A.aX "place"
 gw:aN K A.aX "at"
 iu:∃t,mg "MOST_LETTERS"=some (.int 8 t)
 iw:∃t,mg "MOST_FIGURES"=some (.int 9 t)
 nQ:∃t,mg "GREATEST"=some (.int 999999999 t)
 kS:∀j,j<4->PySem.W.kitOne K (.ref (Ue A j)) (.ref A.bE)=some (decide (2<=j))
 jm:mg "NoText"=some (.ref A.az)
 gJ:mg "WritError"=some (.ref A.bP)
 p8:mg "Fault"=some (.ref A.nZ)
 p7:mg "NoRun"=some (.ref A.nY)
 jq:mg "NoSense"=some (.ref A.iG)
 jj:mg "TooHard"=some (.ref A.iE)
 ji:mg "TooMany"=some (.ref A.iC)
section
variable (P:Program)(w:World)(K:PySem.W.Frag)(mg:Str->Option Value)(base:Heap)(k:Nat)(A:Ad)(n:Nat)(q:Bool)
noncomputable abbrev fh:=Dn P w K mg base k "is_name" ["word"] (bR K ZY)
noncomputable abbrev tN:=Dn P w K mg base k "are_figures" ["word"] (bR K La)
noncomputable abbrev aM:=Dn P w K mg base k "refuse_unless" ["truth","at"] (bR K ZR)
noncomputable abbrev qq:=Dn P w K mg base k "is_thing" ["word"] (bR K ZP)
noncomputable abbrev qt:=Dn P w K mg base k "is_figure_row" ["word"] (bR K Lb)
noncomputable abbrev EZ:=Dn P w K mg base k "sum_of" ["pairs","number"] (bR K (FE A))
noncomputable abbrev rE:=Dn P w K mg base k "signed_terms" ["words","at"] (bR K SA)
noncomputable abbrev CP:=Dn P w K mg base k "term_of" ["term","at"] (bR K ZO)
noncomputable abbrev RX:=kB P w K mg base k A.iY "Sum" ["self","terms","number"] (DF A)
noncomputable abbrev qu:=Dn P w K mg base k "as_pairs" ["pairs"] (bR K (FG A))
noncomputable abbrev fO:=Ms P w K mg base k 1 (fun _=>A.aX) "coming" ["self"] (fun _=>KU A)
noncomputable abbrev oA:=Ms P w K mg base k 1 (fun _=>A.aX) "take" ["self"] (fun _=>KP A)
noncomputable abbrev xK:=Dn P w K mg base k "tokens_of" ["words","at"] (bR K Sz)
noncomputable abbrev CO:=kB P w K mg base k A.bf "Compare" ["self","one","sign","other"] (CV A.bf ["one","sign","other"])
noncomputable abbrev cY:=Dn P w K mg base k "sum_of_words" ["words","at"] (bR K (KW A))
noncomputable abbrev rD:=Ms P w K mg base k 1 (fun _=>A.aX) "take_until" ["self","ends"] (fun _=>KO A K)
noncomputable abbrev gT:=Ms P w K mg base k 1 (fun _=>A.aX) "take_just" ["self","token"] (fun _=>KQ A)
noncomputable abbrev oE:=Dn P w K mg base k "read_condition" ["source"] (bR K (Vf A n))
noncomputable abbrev mJ:=Dn P w K mg base k "read_comparison" ["source"] (bR K (ZT A))
noncomputable abbrev oF:=Dn P w K mg base k "read_bracketed" ["source"] (bR K (FF A n))
noncomputable abbrev ET:=kB P w K mg base k A.cy "Turned" ["self","condition"] (CV A.cy ["condition"])
noncomputable abbrev Ja:=kB P w K mg base k A.dY "Every" ["self","conditions"] (uZ A.dY)
noncomputable abbrev N9:=kB P w K mg base k A.gO "Some" ["self","conditions"] (uZ A.gO)
noncomputable abbrev xM:=Dn P w K mg base k "read_part" ["source"] (bR K (ZU A n))
noncomputable abbrev EU:=kB P w K mg base k A.aX "Tokens" ["self","words","at"] (KR A)
noncomputable abbrev Ob:=kB P w K mg base k A.fN "Make" ["self","at","row","size"] (CV A.fN ["at","row","size"])
noncomputable abbrev RY:=kB P w K mg base k A.iZ "Put" ["self","at","row","place","total"] (CV A.iZ ["at","row","place","total"])
noncomputable abbrev nD:=Dn P w K mg base k "_law_mixed" ["_law_cell","_law_k"] (bR K SH)
noncomputable abbrev AM:=Dn P w K mg base k "_law_kept" [] (bR K K7)
noncomputable abbrev AK:=Dn P w K mg base k "_law_next" ["_law_draw","_law_size"] (bR K ZW)
noncomputable abbrev RZ:=kB P w K mg base k A.i6 "Let" ["self","at","name","total"] (CV A.i6 ["at","name","total"])
noncomputable abbrev oB:=Ms P w K mg base k 1 (fun _=>A.cO) "take" ["self"] (fun _=>KY A)
noncomputable abbrev fP:=Ms P w K mg base k 1 (fun _=>A.cO) "coming" ["self"] (fun _=>K0 A)
noncomputable abbrev jv:=Dn P w K mg base k "condition_of" ["words","at"] (bR K (Z1 A))
noncomputable abbrev xN:=Dn P w K mg base k "read_make" ["words","at"] (bR K (HC A Ri))
noncomputable abbrev AG:=Dn P w K mg base k "read_put" ["words","at"] (bR K (HC A GC))
noncomputable abbrev AI:=Dn P w K mg base k "read_let" ["words","at"] (bR K (HC A isLt))
noncomputable abbrev EY:=kB P w K mg base k A.bL "Choose" ["self","at","condition","then","other"] (FJ A)
noncomputable abbrev EV:=kB P w K mg base k A.bB "Repeat" ["self","at","condition","keeps","falls","body"] (A9 A)
noncomputable abbrev iS:=Dn P w K mg base k "read_writings" ["source","word"] (bR K (SE A))
noncomputable abbrev EW:=kB P w K mg base k A.bu "Helper" ["self","at","name","params","answers","needs","gives","steps"] (K8 A)
noncomputable abbrev rF:=Dn P w K mg base k "read_answers" ["source"] (bR K (SG A))
noncomputable abbrev CN:=kB P w K mg base k A.cX "Program" ["self","helpers"] (K1 A)
noncomputable abbrev Oa:=kB P w K mg base k A.cO "Rows" ["self","rows"] (KZ A)
noncomputable abbrev tK:=Dn P w K mg base k "_law_refused" ["_law_text"] (bR K gS)
noncomputable abbrev AL:=Dn P w K mg base k "_law_laid" ["_law_rows_here"] (bR K yZ)
noncomputable abbrev tL:=Dn P w K mg base k "_law_no_form" ["_law_cell","_law_x"] (bR K K4)
noncomputable abbrev tM:=Dn P w K mg base k "_law_cell_at" ["_law_script","_law_k"] (bR K Lc)
noncomputable abbrev AJ:=Dn P w K mg base k "_law_rows" ["_law_names_here"] (bR K K9)
noncomputable abbrev xO:=Dn P w K mg base k "_law_names" ["_law_draw","_law_many"] (bR K K5)
noncomputable abbrev lN:=Dn P w K mg base k "_law_out_of_place" ["_law_x"] (bR K K2)
end
section
variable {P:Program}{w:World}{K:PySem.W.Frag}{mg:Str->Option Value}{base:Heap}{k:Nat}{f:Addr}{fd:FuncData}{A:Ad}{n:Nat}
seal L2.PE L2.PS L2.sJ L2.PA L2.PT QE QT QA QS yE QW
noncomputable abbrev kK:Stmt:=top 50
theorem xZ:au ["truth","at"] ["truth","at"] (ai kK):=fB
theorem H9 (F:dg K "refuse_unless" "refuse_unless" kK f fd)(J:Fx K mg A) :aL P w K mg base c5 (k+1) f fd ["truth","at"] (bR K ZR):=by
 refine cj F xZ fun AT B outer s H E hr=>?_;rw[show ao kK=[_] from rfl];refine⟨_,(cA (cz (qT (jO (ah 0))) d8 bC)),fun ds S kk hc hd h=>?_⟩;obtain⟨a,rfl,h⟩:=h;refine⟨_,rfl,_,rfl,?_⟩;show(endsF S kk).nx _ _;exact iQ h
noncomputable abbrev zG:Stmt:=top 49
theorem Pa:au ["word"] ["word"] (ai zG):=fB
theorem QF (F:dg K "are_figures" "are_figures" zG f fd)(J:Fx K mg A) :aL P w K mg base c5 (k+1) f fd ["word"] (bR K La):=by
 refine cj F Pa fun AT B outer s H E hr=>?_;rw[show ao zG=[_] from rfl];refine⟨_,(cA (aK (aJ (CF rfl) (by rfl) J.CG boot_all (qa (ie (bY ["sign"] [] [] rfl (by symm) (by symm) (by with_unfolding_all rfl) (by exact trivial) (by rfl) rfl (by rfl)) rfl (S8 (ah 0)) (fun _ _ _ _=>(qx (i:=0) (show List.Nodup (["sign"]:List Str) by symm))) (fun _ _ _ _=>fJ) (fun _ _ _ _=>(Gd Gu Gu ak (ah 0) ak))) aa)))),fun ds S kk hc hd h=>?_⟩;obtain⟨z,rfl,hz,h⟩:=h;refine⟨_,rfl,z,rfl,G3 (fun c=>T.bl (s9 c)) trivial (nI (by omega)) (fun c _ k' hk=>?_) ?_⟩
 .refine⟨_,rfl,chS ?_⟩;rw[le_0,a5k];exact⟨_,rfl,hk⟩
 .refine⟨(cp z).map s9,?_,iA hc ?_⟩
  .rw[List.map_map];rfl
  .show kk (D.bl ((List.map s9 (cp z)).all _root_.id)) S;rw[Ho];exact h
noncomputable abbrev zF:Stmt:=top 46
theorem O9:au ["word"] ["word"] (ai zF):=fB
theorem QD (F:dg K "is_name" "is_name" zF f fd)(J:Fx K mg A){j7:Addr}(Ah:mg "KEPT_WORDS"=some (.ref j7))(Ab:∀H:Hp,lM K H j7 ((["helper","answers","needs","gives","end","let","div","mod","put","row","at","if","else","while","holds","falls","call","claim","and","or","not"]:List Str).map V.str)):aL P w K mg base c5 (k+1) f fd ["word"] (bR K ZY):=by
 obtain⟨Kh,iu⟩:=J.iu;refine cj F O9 fun AT B outer s H E hr=>?_;rw[show ao zF=[_,_] from rfl];refine⟨_,(qs (cz (qw (rV (qT (Bp Mn Mn aj (aJ ck (by rfl) J.cu PySem.boot_len (qa (ah 0) aa)) (jQ (d9 (v:=.int 8) rfl iu ⟨_,rfl⟩)))) (qS (aP (a0Z Ab) (ah 0) (jQ (d9 (v:=.ref j7) rfl Ah rfl)) (by rfl))))) (cA (aK a0D)) bC) (cA (aK (aJ (CF rfl) (by rfl) J.CG boot_all (qa (ie (bY ["sign"] [] [] rfl (by symm) (by symm) (by with_unfolding_all rfl) (by exact trivial) (by rfl) rfl (by rfl)) rfl (S8 (ah 0)) (fun _ _ _ _=>(qx (i:=0) (show List.Nodup (["sign"]:List Str) by symm))) (fun _ _ _ _=>fJ) (fun _ _ _ _=>(Gd Gu Gu ak (ah 0) ak))) aa))))),fun ds S kk hc hd h=>?_⟩;obtain⟨z,rfl,hz,h⟩:=h;refine⟨_,rfl,nI (by omega),chI ⟨_,rfl,?_⟩⟩;dsimp only;by_cases e:1<=z.length/\z.length<=8
 .rw[if_neg (by simp;omega)];refine⟨_,rfl,z,rfl,rfl,_,rfl,?_⟩;show if(xor false (decide (z∈pZ)))=true then _ else _
  rw[Bool.false_xor];by_cases m:z∈pZ
  .rw[if_pos (decide_eq_true m)];refine iA hc ?_;have q:isNm z=false:=by unfold isNm;rw[decide_eq_true m];simp
   rw[q] at h;exact h
  .rw[if_neg (by simp[m])];refine⟨_,rfl,z,rfl,G3 (fun c=>T.bl (mD c)) trivial (nI (by omega)) (fun c _ k' hk=>?_) ?_⟩
   .refine⟨_,rfl,chS ?_⟩;rw[a5j,a5i];exact⟨_,rfl,hk⟩
   .refine⟨(cp z).map mD,?_,iA hc ?_⟩
    .rw[List.map_map];rfl
    .show kk (D.bl ((List.map mD (cp z)).all _root_.id)) S;rw[Ho];have q:isNm z=(cp z).all mD:=by unfold isNm;rw[decide_eq_true e.1,decide_eq_true e.2,decide_eq_false m];rfl
     rw[q] at h;exact h
 .rw[if_pos (by simp;omega)];refine iA hc ?_;have q:isNm z=false:=by
   unfold isNm;have:(decide (1<=z.length)&&decide (z.length<=8))=false:=by simp;omega
   rw[this];rfl
  rw[q] at h;exact h
noncomputable abbrev zE:Stmt:=top 47
theorem O8:au ["word"] ["word"] (ai zE):=fB
theorem QC (F:dg K "is_thing" "is_thing" zE f fd)(J:Fx K mg A)(cE:fh P w K mg base k):aL P w K mg base c5 (k+1) f fd ["word"] (bR K ZP):=by
 refine cj F O8 fun AT B outer s H E hr=>?_;rw[show ao zE=[_] from rfl];refine⟨_,(cA (aK (a0y (aq cE hr rfl (qa (ah 0) aa)) (nv (iN (S9 (ah 0) (qa ak aa)) (nv (aq cE hr rfl (qa (iH false (ah 0) (br aj) bS) aa)))))))),fun ds S kk hc hd h=>?_⟩;obtain⟨z,rfl,hz,h⟩:=h;refine⟨_,rfl,z,rfl,hz,_,rfl,?_⟩;by_cases e:isNm z=true
 .rw[if_pos e];refine iA hc ?_;have q:iI z=true:=by unfold iI;rw[e];rfl
  rw[q] at h;exact h
 .rw[if_neg e];have e':isNm z=false:=Bool.eq_false_iff.mpr e;refine⟨_,rfl,rfl,_,rfl,?_⟩;by_cases s':Txt.startswith z "#"=true
  .rw[if_pos s'];refine⟨_,rfl,_,rfl,nI (by omega),_,rfl,?_,iA hc ?_⟩
   .exact Nat.le_trans (PyProof.Txt.length_slice_le _ _ _) hz
   .have q:iI z=isNm (Txt.slice z (some 1) none):=by unfold iI;rw[e',s'];rfl
    rw[q] at h;exact h
  .rw[if_neg s'];refine iA hc ?_;have q:iI z=false:=by unfold iI;rw[e',Bool.eq_false_iff.mpr s'];rfl
   rw[q] at h;exact h
noncomputable abbrev zH:Stmt:=top 48
theorem Pb:au ["word"] ["word"] (ai zH):=fB
theorem QH (F:dg K "is_figure_row" "is_figure_row" zH f fd)(J:Fx K mg A)(xG:tN P w K mg base k):aL P w K mg base c5 (k+1) f fd ["word"] (bR K Lb):=by
 obtain⟨Kl,iw⟩:=J.iw;refine cj F Pb fun AT B outer s H E hr=>?_;rw[show ao zH=[_,_] from rfl];refine⟨_,(qs (cz (qw (rV (qT (Bp Mn Mn aj (aJ ck (by rfl) J.cu PySem.boot_len (qa (ah 0) aa)) (jQ (d9 (v:=.int 9) rfl iw ⟨_,rfl⟩)))) (qS (qw (zJ (aP (fq 40 (uE hr)) (cG (ah 0) aj) ak (aF _)) (ur (aP (mF 40 (uE hr)) (ah 0) ak (aF _)))))))) (cA (aK a0D)) bC) (cA (aK (aq xG hr rfl (qa (ah 0) aa))))),fun ds S kk hc hd h=>?_⟩;obtain⟨z,rfl,hz,h⟩:=h;refine⟨_,rfl,nI (by omega),chI ⟨_,rfl,?_⟩⟩;dsimp only;by_cases e:1<=z.length/\z.length<=9
 .rw[if_neg (by simp;omega)];obtain⟨c,r,hcp⟩:∃c r,cp z=c::r:=by
   cases q:cp z with
   |nil=>rw[bg,q] at e;simp at e
   |cons c r=>exact⟨c,r,rfl⟩
  refine⟨_,rfl,nI (by omega),c,?_,?_⟩
  .show oM (cp z) 0=some c;rw[hcp];exact aY (xs:=c::r) (j:=0) rfl
  have hd0:decide ((cp z).head?=some 48)=decide (c=48):=by rw[hcp];simp
  refine⟨rfl,_,rfl,?_⟩;dsimp only;have qf:s8 z=(!(decide (c=48)&&decide (z≠"0"))&&El z):=by unfold s8;rw[decide_eq_true e.1,decide_eq_true e.2,hd0];rfl
  by_cases c0:c=48
  .subst c0;rw[if_pos (by symm)];refine⟨_,rfl,rfl,_,rfl,?_⟩;dsimp only;by_cases z0:z="0"
   .rw[if_neg (by rw[z0];symm)];refine⟨_,rfl,z,rfl,hz,iA hc ?_⟩;have q:s8 z=El z:=by rw[qf,z0];rfl
    rw[q] at h;exact h
   .have ne:¬(V.str z=V.str "0"):=fun w'=>z0 (V.str.inj w');rw[if_pos (by rw[decide_eq_false ne];rfl)];refine iA hc ?_;have q:s8 z=false:=by rw[qf];simp[z0]
    rw[q] at h;exact h
  .have ne:¬(V.str ⟨#[c]⟩=V.str "0"):=fun w'=>c0 (by have:=congrArg Str.cps (V.str.inj w');injection this with this;injection this);rw[if_neg (by rw[decide_eq_false ne];decide)];refine⟨_,rfl,z,rfl,hz,iA hc ?_⟩;have q:s8 z=El z:=by rw[qf,decide_eq_false c0];rfl
   rw[q] at h;exact h
 .rw[if_pos (by simp;omega)];refine iA hc ?_;have q:s8 z=false:=by
   unfold s8;have:(decide (1<=z.length)&&decide (z.length<=9))=false:=by simp;omega
   rw[this];rfl
  rw[q] at h;exact h
noncomputable abbrev zo:Stmt:=top 66
theorem tY:au ["term","at","figures","star","thing"] ["term","at"] (ai zo):=fB
theorem Qo (F:dg K "term_of" "term_of" zo f fd)(J:Fx K mg A)(av:aM P w K mg base k)(jZ:qq P w K mg base k)(tE:qt P w K mg base k):aL P w K mg base c5 (k+1) f fd ["term","at"] (bR K ZO):=by
 refine cj F tY fun AT B outer s H E hr=>?_;rw[show ao zo=[_,_,_,_] from rfl];refine⟨_,(qs (cz (jO (aq jZ hr rfl (qa (ah 0) aa))) (cA (aK (bq (qa (ah 0) (qa aj aa))))) bC) (qs (vp (VP (ah 0) (qa ak aa)) (vq (n:=3) rfl (F8 (qg (i:=2) tY.nd) (F8 (qg (i:=3) tY.nd) (F8 (qg (i:=4) tY.nd) lY))))) (qs (cB (aq av hr rfl (qa (iN (aq tE hr rfl (qa (ah 2) aa)) (nv (a0y (cT (fq 40 (uE hr)) (ah 3) ak (aF _)) (nv (aq jZ hr rfl (qa (ah 4) aa)))))) (qa (ah 1) aa)))) (cA (aK (bq (qa (ah 4) (qa (cU Yl (by rfl) J.a2J boot_int (qa (ah 2) aa)) aa)))))))),fun ds S kk hc hd h=>?_⟩;obtain⟨x,t,w1,a,rfl,ht,hl,h⟩:=h;refine⟨_,rfl,x,rfl,by omega,_,rfl,?_⟩;cases ht with
 |nm h1=>
  rw[if_pos h1];exact⟨_,rfl,_,rfl,sz 2,iA hc h⟩
 |num h1 hf hs hi=>
  rw[if_neg (by rw[h1];decide)];refine⟨_,rfl,rfl,rfl,nI (by omega),?_⟩;rw[DT hs];refine⟨_,rfl,rfl,_,_,rfl,_,_,rfl,_,_,rfl,rfl,?_⟩;refine⟨_,rfl,x,rfl,by omega,_,rfl,?_⟩;rw[if_pos hf];refine⟨_,rfl,rfl,_,rfl,?_⟩;rw[if_pos (show(false ^^ decide (V.str Str.empty=V.str (Str.ofString "")))=true by symm)];refine⟨_,rfl,a,rfl,?_⟩;exact⟨_,rfl,_,rfl,_,hi,(by show x.length<=640;omega),_,rfl,sz 2,iA hc h⟩
 |mul e h1 hf hs ht hi=>
  rename_i f;rw[if_neg (by rw[h1];decide)];have lf:=mz e;refine⟨_,rfl,rfl,rfl,nI (by omega),?_⟩;rw[e,HS hs];refine⟨_,rfl,rfl,_,_,rfl,_,_,rfl,_,_,rfl,rfl,?_⟩;refine⟨_,rfl,f,rfl,by omega,_,rfl,?_⟩;rw[if_pos hf];refine⟨_,rfl,rfl,_,rfl,?_⟩;rw[if_neg (show ¬(false ^^ decide (V.str (Str.ofString "*")=V.str (Str.ofString "")))=true by symm)];refine⟨_,rfl,t,rfl,by omega,_,rfl,a,?_,?_⟩
  .rw[ht]
  exact⟨_,rfl,_,rfl,_,hi,(by show f.length<=640;omega),_,rfl,sz 2,iA hc h⟩
noncomputable abbrev FT:Stmt:=top 65
theorem zc:au ["words","at","first","found","place"] ["words","at"] (ai FT):=fB
theorem WD (F:dg K "signed_terms" "signed_terms" FT f fd)(J:Fx K mg A)(av:aM P w K mg base k):aL P w K mg base c5 (k+1) f fd ["words","at"] (bR K SA):=by
 refine cj F zc fun AT B outer s H E hr=>?_;rw[show ao FT=[_,_,_,_,_] from rfl];refine⟨_,(qs (cB (aq av hr rfl (qa (cT (fq 40 (uE hr)) (aB iP (aJ ck (by rfl) J.cu PySem.boot_len (qa (ah 0) aa)) aj) aj (aF _)) (qa (ah 1) aa)))) (qs (ay (i:=2) zc.nd (cG (ah 0) aj)) (qs (ay (i:=3) zc.nd (jR (qa (Lx (jO (S9 (ah 2) (qa ak aa))) (bq (qa ak (qa (iH false (ah 2) (br aj) bS) aa))) (bq (qa ak (qa (ah 2) aa)))) aa))) (qs (nK PassesOwn.never rfl (VM rfl J.uz (qa aj (qa (aJ ck (by rfl) J.cu PySem.boot_len (qa (ah 0) aa)) (qa aj aa)))) (qg (i:=4) zc.nd) (qs (cB (aq av hr rfl (qa (cT Mp (cG (ah 0) (ah 4)) (bq (qa ak (qa ak aa))) (by rfl)) (qa (ah 1) aa)))) (cA (cB (rW (ah 3) (qa (bq (qa (cG (ah 0) (ah 4)) (qa (cG (ah 0) (aB aA (ah 4) aj)) aa))) aa)))))) (cA (aK (ah 3))))))),fun ds S kk hc hd h=>?_⟩;obtain⟨p,r,a,rfl,hr2,hp,hs,h⟩:=h;have hl:((gQ p r).map T.str).length=2*r.length+1:=by rw[List.length_map,uP]
 have g0:oM ((gQ p r).map T.str) 0=some (T.str (sY p)):=aY (j:=0) (by rfl);have gs:∀{i:Nat}{q:Bool×Str},r[i]?=some q->oM ((gQ p r).map T.str) (1+(i:Int)*2)=some (T.str (mE q.1))/\oM ((gQ p r).map T.str) (1+(i:Int)*2+1)=some (T.str q.2):=fun{i q} hq=>by
  obtain⟨h1,h2⟩:=U1 (p:=p) hq;have a1:=aY (xs:=(gQ p r).map T.str) (j:=1+i*2) (v:=T.str (mE q.1)) (by rw[List.getElem?_map,h1];rfl);have a2:=aY (xs:=(gQ p r).map T.str) (j:=1+i*2+1) (v:=T.str q.2) (by rw[List.getElem?_map,h2];rfl);exact⟨by simpa using a1,by simpa using a2⟩
 generalize (gQ p r).map T.str=W at hl g0 gs hd;refine⟨_,rfl,_,rfl,by decide,rfl,_,rfl,a,?_,?_⟩
 .have:V.int (((W.length:Nat):Int) % 2)=V.int 1:=by rw[hl];congr 1;omega
  show[D.bl (xor false (decide (V.int (((W.length:Nat):Int) % 2)=V.int 1))),a]=[D.bl true,a];rw[decide_eq_true this];rfl
 refine⟨_,rfl,_,_,rfl,g0,OY (p:=p) rfl hp hs ⟨[DA p],rfl,sz 1,?_⟩⟩;dsimp only[dB];refine⟨_,rfl,_,rfl,1,(W.length:Int),rfl,by rw[hl];omega,?_⟩;have hn:(((W.length:Int) - 1+1) / 2).toNat=r.length:=by rw[hl];omega
 rw[hn];refine Aj (fun i Z S'=>∃y,Z=[some (D.lst W),some a,some (D.str (sY p)),some (D.ob (S.length+0)),y]/\S'=S++[O.lst ((p::r.take i).map DA)]) ⟨_,rfl,rfl⟩ ?_ ?_
 .rintro i x Z S' N hx ⟨y,rfl,rfl⟩ hN;rw[List.getElem?_map] at hx;have hi:i<r.length:=by
   rcases Nat.lt_or_ge i r.length with l | l
   .exact l
   .rw[List.getElem?_eq_none (by simpa using l)] at hx;cases hx
  rw[List.getElem?_range hi] at hx;cases hx;have hq:=List.getElem?_eq_getElem hi;obtain⟨a1,a2⟩:=gs hq;refine⟨trivial,_,rfl,_,rfl,_,_,rfl,a1,_,rfl,sz 2,_,_,_,rfl,rfl,rfl,rfl,_,rfl,a,?_,?_⟩
  .rw[Vj];rfl
  refine⟨_,rfl,⟨rfl,_,z5 rfl⟩,_,rfl,_,rfl,_,_,rfl,a1,_,rfl,_,rfl,_,_,rfl,a2,_,rfl,sz 2,_,mj,Oi (by simp;omega),?_⟩;rw[gp];refine hN _ _ ⟨_,rfl,?_⟩;show S++[O.lst ((p::r.take i).map DA++[DA r[i]])]=_;rw[List.take_add_one,hq,<- List.cons_append,List.map_append];rfl
 .rintro Z S' ⟨y,rfl,rfl⟩;rw[List.length_map,List.length_range,List.take_length];exact⟨trivial,_,rfl,a2A hc rfl h⟩
noncomputable abbrev FQ:Stmt:=top 64
theorem qO:au ["words","at","weights","sign","term","thing","weight"] ["words","at"] (ai FQ):=fB
theorem WC (F:dg K "sum_of_words" "sum_of_words" FQ f fd)(J:Fx K mg A)(NS:EZ P w K mg base k A)(av:aM P w K mg base k)(wI:rE P w K mg base k)(IW:CP P w K mg base k):aL P w K mg base c5 (k+1) f fd ["words","at"] (bR K (KW A)):=by
 obtain⟨UR,nQ⟩:=J.nQ;refine cj F qO fun AT B outer s H E hr=>?_;rw[show ao FQ=[_,_,_,_] from rfl];refine⟨_,(qs (ay (i:=2) qO.nd a4R) (qs (nK PassesOwn.never rfl (qi (aq wI hr rfl (qa (ah 0) (qa (ah 1) aa)))) (vq (n:=2) rfl (F8 (qg (i:=3) qO.nd) (F8 (qg (i:=4) qO.nd) lY))) (qs (vp (aq IW hr rfl (qa (ah 4) (qa (ah 1) aa))) (vq (n:=2) rfl (F8 (qg (i:=5) qO.nd) (F8 (qg (i:=6) qO.nd) lY)))) (cA (F7 (su hr) (ah 2) (ah 5) (aB aA (Gb (su hr) (ah 2) (ah 5) aj) (Lx (aP (fq 40 (uE hr)) (ah 3) ak (aF _)) (ah 6) (yf (ah 6)))))))) (qs (cB (aq av hr rfl (qa (aJ (CF rfl) (by rfl) J.CG boot_all (qa (ie (bY ["weight"] [] [] rfl (by symm) (by symm) (by with_unfolding_all rfl) (by exact trivial) (by rfl) rfl (by rfl)) rfl (a0v (ah 2)) (fun _ _ _ _=>(qx (i:=0) (show List.Nodup (["weight"]:List Str) by symm))) (fun _ _ _ _=>fJ) (fun _ _ _ _=>(cT Mn (aJ a2H (by rfl) J.a2K boot_abs (qa (ah 0) aa)) (jQ (d9 (v:=.int 999999999) rfl nQ ⟨_,rfl⟩)) (aF _)))) aa)) (qa (ah 1) aa)))) (cA (aK (aq NS hr rfl (qa (ie (bY ["thing"] ["weights"] [2] rfl (by symm) (by symm) (by with_unfolding_all rfl) (by exact⟨rfl,trivial⟩) (by rfl) rfl (by rfl)) rfl (a0w (ah 2)) (fun _ _ _ _=>(qx (i:=0) (show List.Nodup (["thing","weights"]:List Str) by symm))) (fun _ _ _ _=>(F6 (aP (mF 40 (uE hr)) (ah 0) ak (aF _)))) (fun _ _ _ _=>(bq (qa (ah 0) (qa (Ga (su hr) (ah 1) (ah 0)) aa))))) (qa (Ga (su hr) (ah 2) ak) aa)))))))),fun ds S kk hc hd h=>?_⟩;obtain⟨p,r,ws,a,rfl,hr2,hp,hs,hw,hb,h⟩:=h;have hd0:wU [(("":Str),(0:Int))] [((Sum.inr ("":Str):Key),T.int 0)]:=wU.nil.snoc "" 0 rfl;have hlw:ws.length=r.length+1:=by have:=Paired.length hw;simpa using this.symm
 refine⟨_,rfl,_,rfl,p,r,a,rfl,hr2,hp,hs,vZ (Nf DA (fun pre Z S'=>∃x1 x2 x3 x4 dd oJ,Z=[some (D.lst ((gQ p r).map T.str)),some a,some (D.ob S.length),x1,x2,x3,x4]/\S'=S++[O.tu dd]/\wU (z0 oJ) dd/\Paired Pc pre oJ/\oJ=ws.take pre.length) ⟨_,_,_,_,_,[],rfl,rfl,hd0,.nil,rfl⟩ ?_ ?_)⟩
 .rintro pre ⟨n,x⟩ post Z S' N e ⟨x1,x2,x3,x4,dd,oJ,rfl,rfl,hz,hp1,hp2⟩ hN;rw[e] at hw;obtain⟨wa,⟨t,v⟩,wc,rfl,w1,⟨hxl,w2,tm,hv⟩,w3⟩:=rY hw;have hl1:pre.length=wa.length:=Paired.length w1;have e1:oJ=wa:=by rw[hp2,hl1,List.take_left]
  subst e1;have hl:dd.length<sizeLine:=Oi (by have:=hz.len;simp[z0] at this hlw;omega);refine⟨trivial,_,rfl,rfl,_,_,rfl,_,_,rfl,rfl,?_⟩;refine⟨_,rfl,_,rfl,x,t,w2,a,rfl,tm,hxl,?_⟩;refine⟨_,rfl,rfl,_,_,rfl,_,_,rfl,rfl,?_⟩;have hsn:∀i:Int,i=wt (z0 oJ) t+v->wU (z0 (oJ++[(t,v)])) (dput dd (Sum.inr t) (.int i)):=fun i hi=>hz.snoc t v hi;have tk:oJ++[(t,v)]=(oJ++(t,v)::wc).take (pre++[(n,x)]).length:=by rw[List.length_append,hl1,show oJ++(t,v)::wc=(oJ++[(t,v)])++wc by simp,List.take_left' (by simp)]
  have fin:∀(i:Int)(y1 y2 y3 y4:Option D),i=wt (z0 oJ) t+v->N [some (D.lst ((gQ p r).map T.str)),some a,some (D.ob S.length),y1,y2,y3,y4] (S++[O.tu (dput dd (Sum.inr t) (.int i))]):=fun i y1 y2 y3 y4 hi=>
   hN _ _ ⟨_,_,_,_,_,_,rfl,rfl,hsn i hi,nL hp1 (.cons ⟨hxl,w2,tm,hv⟩ .nil),tk⟩
  refine⟨_,rfl,_,_,rfl,aI,_,rfl,_,_,aI,rfl,_,rfl,rfl,_,rfl,?_⟩;dsimp only;rw[hz.val t];by_cases hx:t∈(z0 oJ).map (·.1)
  .rw[if_pos hx];cases n with
   |false=>
    have hv':v=w2:=hv;rw[if_pos SJ];refine⟨_,rfl,_,rfl,_,rfl,_,_,_,_,rfl,aI,rfl,rfl,hl,?_⟩;rw[cF];exact fin _ _ _ _ _ (by rw[hv'])
   |true=>
    have hv':v=-w2:=hv;rw[if_neg SK];refine⟨_,rfl,_,rfl,_,rfl,_,_,_,_,rfl,aI,rfl,rfl,hl,?_⟩;rw[cF];exact fin _ _ _ _ _ (by rw[hv'])
  .rw[if_neg hx];cases n with
   |false=>
    have hv':v=w2:=hv;rw[if_pos SJ];refine⟨_,rfl,_,rfl,_,rfl,_,_,_,_,rfl,aI,rfl,rfl,hl,?_⟩;rw[cF];exact fin _ _ _ _ _ (by rw[hv',yJ hx])
   |true=>
    have hv':v=-w2:=hv;rw[if_neg SK];refine⟨_,rfl,_,rfl,_,rfl,_,_,_,_,rfl,aI,rfl,rfl,hl,?_⟩;rw[cF];exact fin _ _ _ _ _ (by rw[hv',yJ hx])
 .rintro Z S' ⟨x1,x2,x3,x4,dd,oJ,rfl,rfl,hz,hp1,hp2⟩;have e1:oJ=ws:=by rw[hp2,Paired.length hw,List.take_length]
  subst e1;obtain⟨ss,nd,mem,rfl⟩:=a2r hz;have hsl:ss.length<=30:=by have:=hz.len;simp[z0] at this;omega
  refine⟨trivial,_,rfl,S.length,_,rfl,.inl aI,fun ob kvs=>?_⟩;rw[cF,List.map_map];have hG:(S++[O.wB ob kvs (ss.map fun x=>((Sum.inr x:Key),T.int (wt (z0 oJ) x)))])[S.length]?=some (O.wB ob kvs (ss.map fun x=>((Sum.inr x:Key),T.int (wt (z0 oJ) x)))):=aI;have c1:ss.map ((fun p:Key×T=>D.t p.2) ∘ fun x=>((Sum.inr x:Key),T.int (wt (z0 oJ) x)))=(ss.map fun x=>T.int (wt (z0 oJ) x)).map D.t:=by rw[List.map_map];rfl
  rw[c1];refine jY (fun x=>T.int (wt (z0 oJ) x)) (fun x=>T.bl (decide (n5 (wt (z0 oJ) x)<=999999999))) hG (nI (by omega)) (fun x _ k' hk=>?_) ?_
  .exact⟨_,rfl,_,rfl,hk⟩
  refine⟨ss.map fun x=>decide (n5 (wt (z0 oJ) x)<=999999999),?_,_,rfl,a,?_,?_⟩
  .rw[List.map_map];rfl
  .have:(ss.map fun x=>decide (n5 (wt (z0 oJ) x)<=999999999)).all _root_.id=true:=by
    rw[List.all_map,List.all_eq_true];intro x _;obtain⟨b1,b2⟩:=hb x;exact decide_eq_true (by unfold n5;split<;>omega)
   show[D.bl ((ss.map fun x=>decide (n5 (wt (z0 oJ) x)<=999999999)).all _root_.id),a]=_;rw[this]
  refine⟨_,rfl,S.length,_,rfl,.inr ⟨ob,kvs,aI⟩,fun ob2 Q7=>?_⟩;rw[cF,List.map_map];have hG2:(S++[O.wB ob2 Q7 (ss.map fun x=>((Sum.inr x:Key),T.int (wt (z0 oJ) x)))])[S.length]?=some (O.wB ob2 Q7 (ss.map fun x=>((Sum.inr x:Key),T.int (wt (z0 oJ) x)))):=aI;have c2:ss.map ((fun p:Key×T=>D.t (MM p.1)) ∘ fun x=>((Sum.inr x:Key),T.int (wt (z0 oJ) x)))=(ss.map T.str).map D.t:=by rw[List.map_map];rfl
  rw[c2];refine Ey T.str (fun x=>if x=("":Str) then none else some (pT (x,wt (z0 oJ) x))) hG2 (nI (by omega)) (fun x hx k' hk=>?_) ?_
  .refine⟨_,rfl,rfl,_,rfl,?_⟩;by_cases e:x=("":Str)
   .rw[if_pos e] at hk;rw[if_neg (by rw[decide_eq_true (by rw[e])];decide)];exact hk
   .rw[if_neg e] at hk;rw[if_pos (by rw[decide_eq_false (fun z=>e (V.str.inj z))];rfl)];exact⟨_,rfl,_,rfl,_,rfl,S.length,_,_,_,rfl,.inr ⟨ob2,Q7,aI⟩,rfl,wA _ hx,_,rfl,sz 2,_,rfl,hk⟩
  have m0:("":Str)∈ss:=(mem _).mpr (List.mem_cons_self ..);have fm:ss.filterMap (fun x=>if x=("":Str) then none else some (pT (x,wt (z0 oJ) x)))=((ss.filter fun x=>decide (x≠("":Str))).map fun x=>(x,wt (z0 oJ) x)).map pT:=by
   clear nd mem hsl hG hG2 c1 c2 m0 hz hd
   induction ss with
   |nil=>rfl
   |cons y s ih=>
    by_cases e:y=("":Str)
    .rw[List.filterMap_cons_none (by rw[if_pos e]),List.filter_cons_of_neg (by simp[e]),ih]
    .rw[List.filterMap_cons_some (by rw[if_neg e]),List.filter_cons_of_pos (by simp[e]),ih];rfl
  rw[fm];refine⟨_,rfl,S.length,_,_,_,rfl,.inr ⟨ob2,Q7,aI⟩,rfl,wA _ m0,_,_,_,rfl,rfl,?_,RC hc (by rw[Vg nd mem];exact h)⟩;have:=List.length_filter_le (fun x=>decide (x≠("":Str))) ss;rw[List.length_map];omega
noncomputable abbrev jJ:Stmt:=inClass (top 10) 0
theorem Bg:au ["self","terms","number"] ["self","terms","number"] (ai jJ):=fB
theorem BF (F:dg K "__init__" "Sum.__init__" jJ f fd)(J:Fx K mg A) :aL P w K mg base c5 (k+1) f fd ["self","terms","number"] (bR K (DF A)):=by
 refine cj F Bg fun AT B outer s H E hr=>?_;rw[show ao jJ=[_,_] from rfl];refine⟨_,(qs (aU (ah 0) (cU eV (by rfl) J.eX boot_tuple (qa (ie (bY ["pair"] [] [] rfl (by symm) (by symm) (by with_unfolding_all rfl) (by exact trivial) (by rfl) rfl (by rfl)) rfl (qi (ah 1)) (fun _ _ _ _=>(qx (i:=0) (show List.Nodup (["pair"]:List Str) by symm))) (fun _ _ _ _=>fJ) (fun _ _ _ _=>(cU eV (by rfl) J.eX boot_tuple (qa (ah 0) aa)))) aa)) rfl) (cA (aU (ah 0) (ah 2) rfl))),fun ds S kk hc hd h=>?_⟩;obtain⟨i,d,l,m,rfl,h1,h2,h3,h4⟩:=h;refine⟨_,rfl,MX h2 fun G hG=>jY pT pT (by simpa using hG []) (nI (by omega)) (fun x _ k' hk=>⟨_,rfl,_,rfl,_,rfl,hk⟩) ?_⟩;refine⟨_,rfl,_,rfl,i,A.iY,[],[],rfl,h1,J.gx,by decide,_,rfl,_,rfl,i,_,_,_,rfl,List.getElem?_set_self (List.getElem?_eq_some_iff.mp h1).1,J.fL,by decide,?_⟩;rw[List.set_set];exact .inr (.inr (.inr h4))
noncomputable abbrev pL:Stmt:=top 11
theorem lU:au ["pairs","number","weights","thing","weight"] ["pairs","number"] (ai pL):=fB
theorem H8 (F:dg K "sum_of" "sum_of" pL f fd)(J:Fx K mg A)(MO:RX P w K mg base k A):aL P w K mg base c5 (k+1) f fd ["pairs","number"] (bR K (FE A)):=by
 refine cj F lU fun AT B outer s H E hr=>?_;rw[show ao pL=[_,_,_] from rfl];refine⟨_,(qs (ay (i:=2) lU.nd VT) (qs (nK PassesOwn.never rfl (qi (ah 0)) (vq (n:=2) rfl (F8 (qg (i:=3) lU.nd) (F8 (qg (i:=4) lU.nd) lY))) (cA (F7 (su hr) (ah 2) (ah 3) (aB aA (Gb (su hr) (ah 2) (ah 3) aj) (ah 4))))) (cA (aK (sS MO hr rfl (qa (ie (bY ["thing"] ["weights"] [2] rfl (by symm) (by symm) (by with_unfolding_all rfl) (by exact⟨rfl,trivial⟩) (by rfl) rfl (by rfl)) rfl (qi (aJ (RL rfl) (by rfl) J.NY boot_sorted (qa (ah 2) aa))) (fun _ _ _ _=>(qx (i:=0) (show List.Nodup (["thing","weights"]:List Str) by symm))) (fun _ _ _ _=>(F6 (aP (mF 40 (uE hr)) (Ly (su hr) (ah 1) (ah 0)) aj (aF _)))) (fun _ _ _ _=>(bq (qa (ah 0) (qa (Ly (su hr) (ah 1) (ah 0)) aa))))) (qa (ah 1) aa))))))),fun ds S kk hc hd h=>?_⟩;obtain⟨d,l,m,rfl,h2,h3,h4⟩:=h;refine⟨_,rfl,TN h2 fun G hG=>Nf pT (fun pre Z S'=>∃x y dd,Z=[some d,some (.int m),some (.ob S.length),x,y]/\S'=S++[O.tu dd]/\wU pre dd) ⟨_,_,_,rfl,rfl,.nil⟩ ?_ ?_⟩
 .rintro pre ⟨x,v⟩ post Z S' N rfl ⟨x0,y0,dd,rfl,rfl,hz⟩ hN;refine⟨hG _,_,rfl,rfl,_,_,rfl,_,_,rfl,rfl,?_⟩;have hl:dd.length<sizeLine:=Oi (by have:=hz.len;simp at h3;omega);refine⟨_,rfl,_,_,rfl,aI,_,rfl,_,_,aI,rfl,_,rfl,?_⟩;rw[hz.val x];by_cases hx:x∈pre.map (·.1)
  .rw[if_pos hx];refine⟨_,rfl,_,rfl,_,_,_,_,rfl,aI,rfl,rfl,hl,?_⟩;rw[cF];exact hN _ _ ⟨_,_,_,rfl,rfl,hz.snoc x v rfl⟩
  .rw[if_neg hx];refine⟨_,rfl,_,rfl,_,_,_,_,rfl,aI,rfl,rfl,hl,?_⟩;rw[cF];exact hN _ _ ⟨_,_,_,rfl,rfl,hz.snoc x v (by rw[yJ hx])⟩
 .rintro Z S' ⟨x0,y0,dd,rfl,rfl,hz⟩;refine⟨hG _,?_⟩;obtain⟨ss,k1,k2,k3⟩:=hz.keys;refine⟨_,rfl,_,_,aI,k1,k2,by have:=hz.len;omega,?_⟩;rw[KL k3];have hsl:=yW (l.map (·.1));rw[List.length_map] at hsl;refine vZ (Ey T.str (fun x=>if wt l x≠0 then some (pT (x,wt l x)) else none) trivial (nI (by omega)) ?_ ?_)
  .intro x hx k' hk;have hv:iz dd (Sum.inr x)=some (.int (wt l x)):=by rw[hz.val x,if_pos (lT.mp hx)]
   refine⟨_,rfl,_,rfl,_,_,_,_,rfl,aI,rfl,hv,rfl,_,rfl,?_⟩;rw[M4,Bool.true_xor];by_cases hw:wt l x=0
   .rw[decide_eq_true hw];rw[if_neg (by simpa using hw)] at hk;exact hk
   .rw[decide_eq_false hw];rw[if_pos hw] at hk;exact⟨_,rfl,_,rfl,_,rfl,_,_,_,_,rfl,aI,rfl,hv,_,rfl,sz 2,_,rfl,hk⟩
  .rw[QN];have hnl:=My l;exact⟨_,rfl,_,_,norm l,m,rfl,aI,rfl,by omega,made (RC hc h4)⟩
noncomputable abbrev fH:Stmt:=inClass (top 17) 0
theorem sR:au ["self","one","sign","other"] ["self","one","sign","other"] (ai fH):=fB
theorem sV (F:dg K "__init__" "Compare.__init__" fH f fd)(J:Fx K mg A) :aL P w K mg base c5 (k+1) f fd ["self","one","sign","other"] (bR K (CV A.bf ["one","sign","other"])):=by
 refine IP F sR (fun ds S kk h=>by obtain⟨i,l,rfl,hl,h1,h4⟩:=h;simpa using hl) fun AT B outer s H E hr=>?_;rw[show ao fH=[_,_,_] from rfl];refine⟨_,(qs (aU (ah 0) (ah 1) rfl) (qs (aU (ah 0) (ah 2) rfl) (cA (aU (ah 0) (ah 3) rfl)))),fun ds S kk hc hd h=>?_⟩;obtain⟨i,l,rfl,hl,h1,h4⟩:=h;obtain⟨x0,x1,x2,rfl⟩:∃x0 x1 x2,l=[x0,x1,x2]:=ln3 hl;have hz:=(List.getElem?_eq_some_iff.mp h1).1;refine⟨_,rfl,_,rfl,_,_,_,_,rfl,h1,J.eK,by decide,_,rfl,_,rfl,_,_,_,_,rfl,(List.getElem?_set_self (by first | exact hz | (simp only[List.length_set];exact hz))),J.dW,by decide,_,rfl,_,rfl,_,_,_,_,rfl,(List.getElem?_set_self (by first | exact hz | (simp only[List.length_set];exact hz))),J.dz,by decide,?_⟩;rw[List.set_set];rw[List.set_set];exact .inr (.inr (.inr h4))
noncomputable abbrev gi:Stmt:=inClass (top 18) 0
theorem vd:au ["self","condition"] ["self","condition"] (ai gi):=fB
theorem vG (F:dg K "__init__" "Turned.__init__" gi f fd)(J:Fx K mg A) :aL P w K mg base c5 (k+1) f fd ["self","condition"] (bR K (CV A.cy ["condition"])):=by
 refine IP F vd (fun ds S kk h=>by obtain⟨i,l,rfl,hl,h1,h4⟩:=h;simpa using hl) fun AT B outer s H E hr=>?_;rw[show ao gi=[_] from rfl];refine⟨_,(cA (aU (ah 0) (ah 1) rfl)),fun ds S kk hc hd h=>?_⟩;obtain⟨i,l,rfl,hl,h1,h4⟩:=h;obtain⟨x0,rfl⟩:∃x0,l=[x0]:=ln1 hl;have hz:=(List.getElem?_eq_some_iff.mp h1).1;refine⟨_,rfl,_,rfl,_,_,_,_,rfl,h1,J.b5,by decide,?_⟩;exact .inr (.inr (.inr h4))
noncomputable abbrev jM:Stmt:=inClass (top 26) 0
theorem Bj:au ["self","at","name","total"] ["self","at","name","total"] (ai jM):=fB
theorem BH (F:dg K "__init__" "Let.__init__" jM f fd)(J:Fx K mg A)(cL:Cm P w K mg base k "Step" "__init__" ["self","at"] (uY K)):aL P w K mg base c5 (k+1) f fd ["self","at","name","total"] (bR K (CV A.i6 ["at","name","total"])):=by
 refine IP F Bj (fun ds S kk h=>by obtain⟨i,l,rfl,hl,h1,h4⟩:=h;simpa using hl) fun AT B outer s H E hr=>?_;rw[show ao jM=[_,_,_] from rfl];refine⟨_,(qs (cB (vz cL hr rfl (qa (ah 0) (qa (ah 1) aa)))) (qs (aU (ah 0) (ah 2) rfl) (cA (aU (ah 0) (ah 3) rfl)))),fun ds S kk hc hd h=>?_⟩;obtain⟨i,l,rfl,hl,h1,h4⟩:=h;obtain⟨x0,x1,x2,rfl⟩:∃x0 x1 x2,l=[x0,x1,x2]:=ln3 hl;have hz:=(List.getElem?_eq_some_iff.mp h1).1;refine⟨_,rfl,_,rfl,_,_,_,rfl,h1,J.kY,_,rfl,_,rfl,_,_,_,_,rfl,(List.getElem?_set_self (by first | exact hz | (simp only[List.length_set];exact hz))),J.ir,by decide,_,rfl,_,rfl,_,_,_,_,rfl,(List.getElem?_set_self (by first | exact hz | (simp only[List.length_set];exact hz))),J.gE,by decide,?_⟩;rw[List.set_set];rw[List.set_set];exact .inr (.inr (.inr h4))
noncomputable abbrev jK:Stmt:=inClass (top 29) 0
theorem Bh:au ["self","at","row","place","total"] ["self","at","row","place","total"] (ai jK):=fB
theorem BG (F:dg K "__init__" "Put.__init__" jK f fd)(J:Fx K mg A)(cL:Cm P w K mg base k "Step" "__init__" ["self","at"] (uY K)):aL P w K mg base c5 (k+1) f fd ["self","at","row","place","total"] (bR K (CV A.iZ ["at","row","place","total"])):=by
 refine IP F Bh (fun ds S kk h=>by obtain⟨i,l,rfl,hl,h1,h4⟩:=h;simpa using hl) fun AT B outer s H E hr=>?_;rw[show ao jK=[_,_,_,_] from rfl];refine⟨_,(qs (cB (vz cL hr rfl (qa (ah 0) (qa (ah 1) aa)))) (qs (aU (ah 0) (ah 2) rfl) (qs (aU (ah 0) (ah 3) rfl) (cA (aU (ah 0) (ah 4) rfl))))),fun ds S kk hc hd h=>?_⟩;obtain⟨i,l,rfl,hl,h1,h4⟩:=h;obtain⟨x0,x1,x2,x3,rfl⟩:∃x0 x1 x2 x3,l=[x0,x1,x2,x3]:=ln4 hl;have hz:=(List.getElem?_eq_some_iff.mp h1).1;refine⟨_,rfl,_,rfl,_,_,_,rfl,h1,J.kX,_,rfl,_,rfl,_,_,_,_,rfl,(List.getElem?_set_self (by first | exact hz | (simp only[List.length_set];exact hz))),J.jf,by decide,_,rfl,_,rfl,_,_,_,_,rfl,(List.getElem?_set_self (by first | exact hz | (simp only[List.length_set];exact hz))),J.gC,by decide,_,rfl,_,rfl,_,_,_,_,rfl,(List.getElem?_set_self (by first | exact hz | (simp only[List.length_set];exact hz))),J.gB,by decide,?_⟩;rw[List.set_set];rw[List.set_set];rw[List.set_set];exact .inr (.inr (.inr h4))
noncomputable abbrev iM:Stmt:=inClass (top 30) 0
theorem zg:au ["self","at","row","size"] ["self","at","row","size"] (ai iM):=fB
theorem zS (F:dg K "__init__" "Make.__init__" iM f fd)(J:Fx K mg A)(cL:Cm P w K mg base k "Step" "__init__" ["self","at"] (uY K)):aL P w K mg base c5 (k+1) f fd ["self","at","row","size"] (bR K (CV A.fN ["at","row","size"])):=by
 refine IP F zg (fun ds S kk h=>by obtain⟨i,l,rfl,hl,h1,h4⟩:=h;simpa using hl) fun AT B outer s H E hr=>?_;rw[show ao iM=[_,_,_] from rfl];refine⟨_,(qs (cB (vz cL hr rfl (qa (ah 0) (qa (ah 1) aa)))) (qs (aU (ah 0) (ah 2) rfl) (cA (aU (ah 0) (ah 3) rfl)))),fun ds S kk hc hd h=>?_⟩;obtain⟨i,l,rfl,hl,h1,h4⟩:=h;obtain⟨x0,x1,x2,rfl⟩:∃x0 x1 x2,l=[x0,x1,x2]:=ln3 hl;have hz:=(List.getElem?_eq_some_iff.mp h1).1;refine⟨_,rfl,_,rfl,_,_,_,rfl,h1,J.jg,_,rfl,_,rfl,_,_,_,_,rfl,(List.getElem?_set_self (by first | exact hz | (simp only[List.length_set];exact hz))),J.ig,by decide,_,rfl,_,rfl,_,_,_,_,rfl,(List.getElem?_set_self (by first | exact hz | (simp only[List.length_set];exact hz))),J.gD,by decide,?_⟩;rw[List.set_set];rw[List.set_set];exact .inr (.inr (.inr h4))
noncomputable abbrev iL:Stmt:=inClass (top 25) 0
theorem zf:au ["self","at"] ["self","at"] (ai iL):=fB
theorem zR (F:dg K "__init__" "Step.__init__" iL f fd)(J:Fx K mg A) :aL P w K mg base c5 (k+1) f fd ["self","at"] (bR K (uY K)):=by
 refine cj F zf fun AT B outer s H E hr=>?_;rw[show ao iL=[_] from rfl];refine⟨_,(cA (aU (ah 0) (ah 1) rfl)),fun ds S kk hc hd h=>?_⟩;obtain⟨i,x,C,rfl,h1,h2,h4⟩:=h;refine⟨_,rfl,_,rfl,_,_,_,_,rfl,h1,h2,by decide,.inr (.inr (.inr h4))⟩
noncomputable abbrev fF:Stmt:=inClass (top 19) 0
theorem sO:au ["self","conditions"] ["self","conditions"] (ai fF):=fB
theorem ki {C:Addr}(hn:aN K C "conditions")(F:dg K "__init__" "Several.__init__" fF f fd)(J:Fx K mg A) :aL P w K mg base c5 (k+1) f fd ["self","conditions"] (bR K (uZ C)):=by
 refine cj F sO fun AT B outer s H E hr=>?_;rw[show ao fF=[_] from rfl];refine⟨_,(cA (aU (ah 0) (cU eV (by rfl) J.eX boot_tuple (qa (ah 1) aa)) rfl)),fun ds S kk hc hd h=>?_⟩;obtain⟨i,d,l,rfl,h1,h2,h4⟩:=h;refine⟨_,rfl,_,rP h2,_,rfl,_,_,_,_,rfl,h1,hn,by decide,.inr (.inr (.inr h4))⟩
noncomputable abbrev gn:Stmt:=inClass (top 32) 0
theorem vg:au ["self","at","condition","then","other"] ["self","at","condition","then","other"] (ai gn):=fB
theorem vJ (F:dg K "__init__" "Choose.__init__" gn f fd)(J:Fx K mg A)(cL:Cm P w K mg base k "Step" "__init__" ["self","at"] (uY K)):aL P w K mg base c5 (k+1) f fd ["self","at","condition","then","other"] (bR K (FJ A)):=by
 refine cj F vg fun AT B outer s H E hr=>?_;rw[show ao gn=[_,_,_,_] from rfl];refine⟨_,(qs (cB (vz cL hr rfl (qa (ah 0) (qa (ah 1) aa)))) (qs (aU (ah 0) (ah 2) rfl) (qs (aU (ah 0) (cU eV (by rfl) J.eX boot_tuple (qa (ah 3) aa)) rfl) (cA (aU (ah 0) (cU eV (by rfl) J.eX boot_tuple (qa (ah 4) aa)) rfl))))),fun ds S kk hc hd h=>?_⟩;obtain⟨i,a,c,d1,d2,t,e,rfl,h1,e1,e2,hk⟩:=h;have hz:=(List.getElem?_eq_some_iff.mp h1).1;refine⟨_,rfl,_,rfl,_,_,_,rfl,h1,J.gG,_,rfl,_,rfl,_,_,_,_,rfl,eT hz,J.b8,by decide,?_⟩;rw[List.set_set];refine⟨_,rfl,_,rP (jC h1 e1),_,rfl,_,_,_,_,rfl,eT hz,J.eL,by decide,?_⟩;rw[List.set_set];refine⟨_,rfl,_,rP (jC h1 e2),_,rfl,_,_,_,_,rfl,eT hz,J.dX,by decide,?_⟩;rw[List.set_set];exact .inr (.inr (.inr hk))
noncomputable abbrev gj:Stmt:=inClass (top 33) 0
theorem ve:au ["self","at","condition","keeps","falls","body"] ["self","at","condition","keeps","falls","body"] (ai gj):=fB
theorem vH (F:dg K "__init__" "Repeat.__init__" gj f fd)(J:Fx K mg A)(j4:qu P w K mg base k A)(cL:Cm P w K mg base k "Step" "__init__" ["self","at"] (uY K)):aL P w K mg base c5 (k+1) f fd ["self","at","condition","keeps","falls","body"] (bR K (A9 A)):=by
 refine cj F ve fun AT B outer s H E hr=>?_;rw[show ao gj=[_,_,_,_,_] from rfl];refine⟨_,(qs (cB (vz cL hr rfl (qa (ah 0) (qa (ah 1) aa)))) (qs (aU (ah 0) (ah 2) rfl) (qs (aU (ah 0) (aq j4 hr rfl (qa (ah 3) aa)) rfl) (qs (aU (ah 0) (ah 4) rfl) (cA (aU (ah 0) (cU eV (by rfl) J.eX boot_tuple (qa (ah 5) aa)) rfl)))))),fun ds S kk hc hd h=>?_⟩;obtain⟨i,a,c,f,d1,d2,hs,b,rfl,h1,e1,l1,e2,hk⟩:=h;have hz:=(List.getElem?_eq_some_iff.mp h1).1;refine⟨_,rfl,_,rfl,_,_,_,rfl,h1,J.gz,_,rfl,_,rfl,_,_,_,_,rfl,eT hz,J.b6,by decide,?_⟩;rw[List.set_set];refine⟨_,rfl,_,hs,rfl,jC h1 e1,l1,_,rfl,_,_,_,_,rfl,eT hz,J.dO,by decide,?_⟩;rw[List.set_set];refine⟨_,rfl,_,rfl,_,_,_,_,rfl,eT hz,J.dP,by decide,?_⟩;rw[List.set_set];refine⟨_,rfl,_,rP (jC h1 e2),_,rfl,_,_,_,_,rfl,eT hz,J.eF,by decide,?_⟩;rw[List.set_set];exact .inr (.inr (.inr hk))
noncomputable abbrev jI:Stmt:=top 35
theorem Bf:au ["pairs"] ["pairs"] (ai jI):=fB
theorem BE (F:dg K "as_pairs" "as_pairs" jI f fd)(J:Fx K mg A) :aL P w K mg base c5 (k+1) f fd ["pairs"] (bR K (FG A)):=by
 refine cj F Bf fun AT B outer s H E hr=>?_;rw[show ao jI=[_] from rfl];refine⟨_,(cA (aK (cU eV (by rfl) J.eX boot_tuple (qa (ie (bY ["pair"] [] [] rfl (by symm) (by symm) (by with_unfolding_all rfl) (by exact trivial) (by rfl) rfl (by rfl)) rfl (qi (ah 0)) (fun _ _ _ _=>(qx (i:=0) (show List.Nodup (["pair"]:List Str) by symm))) (fun _ _ _ _=>fJ) (fun _ _ _ _=>(cU eV (by rfl) J.eX boot_tuple (qa (ah 0) aa)))) aa)))),fun ds S kk hc hd h=>?_⟩;obtain⟨d,l,rfl,h1,h2,h⟩:=h;exact⟨_,rfl,MX h1 fun G hG=>jY (atT A) (atT A) (by simpa using hG []) (nI (by omega)) (fun x _ k' hk=>⟨_,rfl,_,rfl,_,rfl,hk⟩) ⟨_,rfl,iA hc h⟩⟩
noncomputable abbrev zp:Stmt:=inClass (top 68) 1
theorem O3:au ["self"] ["self"] (ai zp):=fB
theorem Qp (F:dg K "coming" "Tokens.coming" zp f fd)(J:Fx K mg A) :aL P w K mg base c5 (k+1) f fd ["self"] (bR K (KU A)):=by
 refine cj F O3 fun AT B outer s H E hr=>?_;rw[show ao zp=[_] from rfl];refine⟨_,(cA (aK (Lx (aP DY (bM (ah 0) rfl) (aJ ck (by rfl) J.cu PySem.boot_len (qa (bM (ah 0) rfl) aa)) (aF _)) (cG (bM (ah 0) rfl) (bM (ah 0) rfl)) ak))),fun ds S kk hc hd h=>?_⟩;obtain⟨n,ts,i,a,rfl,h1,h⟩:=h;refine⟨_,rfl,_,_,_,_,aG h1,rfl,_,rfl,_,_,_,_,aG h1,rfl,_,rfl,_,rfl,?_⟩;dsimp only;by_cases e:i<ts.length
 .rw[if_pos (by simpa using e)];have q:ts.getD i ""=ts[i]:=by rw[List.getD_eq_getElem?_getD,List.getElem?_eq_getElem e];rfl
  exact⟨_,rfl,_,_,_,_,aG h1,rfl,_,rfl,_,_,_,_,aG h1,rfl,_,_,rfl,aY (j:=i) (by rw[List.getElem?_map,List.getElem?_eq_getElem e];rfl),iQ (by rw[q] at h;exact h)⟩
 .rw[if_neg (by simpa using e)];have q:ts.getD i ""="":=by rw[List.getD_eq_getElem?_getD,List.getElem?_eq_none (by omega)];rfl
  rw[q] at h;exact iQ h
noncomputable abbrev zj:Stmt:=inClass (top 68) 2
theorem FN:au ["self","token"] ["self"] (ai zj):=fB
theorem Qk (F:dg K "take" "Tokens.take" zj f fd)(J:Fx K mg A)(bO:fO P w K mg base k A):aL P w K mg base c5 (k+1) f fd ["self"] (bR K (KP A)):=by
 refine cj F FN fun AT B outer s H E hr=>?_;rw[show ao zj=[_,_,_] from rfl];refine⟨_,(qs (ay (i:=1) FN.nd (bT (ah 0) bO hr)) (qs (aU (ah 0) (aB aA (bM (ah 0) rfl) aj) rfl) (cA (aK (ah 1))))),fun ds S kk hc hd h=>?_⟩;obtain⟨n,ts,i,a,rfl,h1,h⟩:=h;exact⟨_,rfl,0,_,_,by decide,aG h1,by symm,n,ts,i,a,rfl,h1,_,rfl,_,_,_,_,aG h1,rfl,_,rfl,n,_,_,_,rfl,h1,J.cV,by decide,_,rfl,iQ h⟩
noncomputable abbrev zl:Stmt:=inClass (top 68) 3
theorem O1:au ["self","token"] ["self","token"] (ai zl):=fB
theorem Qm (F:dg K "take_just" "Tokens.take_just" zl f fd)(J:Fx K mg A)(av:aM P w K mg base k)(k6:oA P w K mg base k A):aL P w K mg base c5 (k+1) f fd ["self","token"] (bR K (KQ A)):=by
 refine cj F O1 fun AT B outer s H E hr=>?_;rw[show ao zl=[_] from rfl];refine⟨_,(cA (cB (aq av hr rfl (qa (cT (fq 40 (uE hr)) (bT (ah 0) k6 hr) (ah 1) (aF _)) (qa (bM (ah 0) rfl) aa))))),fun ds S kk hc hd h=>?_⟩;obtain⟨n,ts,i,a,w,rfl,h1,hw,h⟩:=h;have lt:=AW h1;exact⟨_,rfl,0,_,_,by decide,aG h1,by symm,n,ts,i,a,rfl,h1,_,rfl,rfl,_,rfl,_,_,_,_,aG (eT lt),rfl,_,congrArg (fun b=>[D.bl b,D.int a]) (seq hw),iQ h⟩
noncomputable abbrev zh:Stmt:=inClass (top 68) 4
theorem FL:au ["self","ends","taken"] ["self","ends"] (ai zh):=fB
theorem Qj (F:dg K "take_until" "Tokens.take_until" zh f fd)(J:Fx K mg A)(bO:fO P w K mg base k A)(k6:oA P w K mg base k A):aL P w K mg base c5 (k+1) f fd ["self","ends"] (bR K (KO A K)):=by
 refine cj F FL fun AT B outer s H E hr=>?_;rw[show ao zh=[_,_,_] from rfl];refine⟨_,(qs (ay (i:=2) FL.nd (jR aa)) (qs (jc PassesOwn.never (qw (zJ (aP (mF 40 (uE hr)) (bT (ah 0) bO hr) ak (aF _)) (ur (aP Mm (bT (ah 0) bO hr) (ah 1) (by rfl))))) (cA (cB (rW (ah 2) (qa (bT (ah 0) k6 hr) aa))))) (cA (aK (ah 2))))),fun ds S kk hc hd h=>?_⟩;obtain⟨n,e,xs,ts,i,a,l,r,rfl,hE,h1,hd1,hl,hs,hn,h⟩:=h;have lt:=AW h1;have e0:S=S.set n (qF A ts i a):=(set_same h1).symm;refine⟨[],rfl,sz 0,?_⟩;dsimp only[dB];refine⟨fun m Z S'=>∃l1 l2,l=l1++l2/\m=l2.length/\Z=[some (D.ob n),some e,some (D.ob (S.length+0))]/\S'=S.set n (qF A ts (i+l1.length) a)++[O.lst (l1.map T.str)],⟨_,[],l,rfl,rfl,rfl,?_⟩,?_⟩
 .show S++[O.lst []]=S.set n (qF A ts i a)++[O.lst []];rw[<- e0]
 rintro m Z S' ⟨l1,l2,rfl,rfl,rfl,rfl⟩;have hd2:ts.drop (i+l1.length)=l2++r:=YM (l:=l1) (by rw[hd1,List.append_assoc]);show FA _ _ _ _ _;generalize hv:ts.getD (i+l1.length) ""=v;refine Ul (true ^^ decide (V.str v=V.str (Str.ofString ""))) (true ^^ decide (v∈xs)) (fun k' hk=>⟨_,rfl,0,_,_,by decide,aG (gA lt),by symm,n,ts,_,a,rfl,gA lt,rfl,_,rfl,by rw[hv];exact hk⟩) (fun k' hk=>⟨_,rfl,0,_,_,by decide,aG (gA lt),by symm,n,ts,_,a,rfl,gA lt,_,rfl,_,xs,rfl,hE,_,rfl,by rw[hv];exact hk⟩) ?_;dsimp only;cases l2 with
 |nil=>
  have hE':closes S.length (.ob (S.length+0)) (S.set n (qF A ts (i+l1.length) a)++[O.lst (l1.map T.str)]) kk:=G8 (G7 hc) xA rfl (by rw[List.append_nil] at h;exact h);have hb:((true ^^ decide (V.str v=V.str (Str.ofString "")))&&(true ^^ decide (v∈xs)))=false:=by
   have:v=""∨v∈xs:=by
    cases r with
    |nil=>exact .inl (by rw[<- hv];exact dr0 (by simpa using hd2))
    |cons x r=>
     have q:=(Nu (show ts.drop (i+l1.length)=x::r by simpa using hd2)).1;rw[<- hv,q];exact hs x r rfl
   rcases this with e | e
   .rw[decide_eq_true (by rw[e]:V.str v=V.str (Str.ofString ""))];rfl
   .rw[decide_eq_true e];exact Bool.and_false _
  rw[hb,if_neg (by decide)];exact⟨_,rfl,hE'⟩
 |cons x l2=>
  have q:=(Nu (show ts.drop (i+l1.length)=x::(l2++r) from hd2)).1;obtain⟨ex,hx⟩:=hl x (by simp);rw[hv] at q;subst q;have hb:((true ^^ decide (V.str v=V.str (Str.ofString "")))&&(true ^^ decide (v∈xs)))=true:=by
   rw[decide_eq_false (fun z=>ex (V.str.inj z)),decide_eq_false hx];rfl
  rw[hb,if_pos rfl];refine⟨fun Z' S'=>Z'=[some (D.ob n),some e,some (D.ob (S.length+0))]/\S'=S.set n (qF A ts (i+(l1++[v]).length) a)++[O.lst ((l1++[v]).map T.str)],?_,?_⟩
  .rintro Z' S' ⟨rfl,rfl⟩;exact⟨l2.length,by simp,l1++[v],l2,by simp,rfl,rfl,rfl⟩
  refine⟨_,rfl,⟨rfl,_,gW (cK (q:=0) xA)⟩,_,rfl,0,_,_,by decide,aG (gA lt),by symm,n,ts,_,a,rfl,gA lt,?_⟩;rw[sA lt,hv];refine⟨_,cK (q:=0) xA,Oi (by simp at hn ⊢;omega),rfl,?_⟩;rw[List.length_append,List.map_append,<- xA (S:=S) (n:=n) (o:=qF A ts (i+l1.length+1) a),gp];rfl
noncomputable abbrev zk:Stmt:=top 69
theorem pJ:au ["words","at","found","word","behind","bare"] ["words","at"] (ai zk):=fB
theorem Ql (F:dg K "tokens_of" "tokens_of" zk f fd)(J:Fx K mg A)(av:aM P w K mg base k):aL P w K mg base c5 (k+1) f fd ["words","at"] (bR K Sz):=by
 refine cj F pJ fun AT B outer s H E hr=>?_;rw[show ao zk=[_,_,_] from rfl];refine⟨_,(qs (ay (i:=2) pJ.nd (jR aa)) (qs (nK PassesOwn.never rfl (qi (ah 0)) (qg (i:=3) pJ.nd) (qs (ay (i:=4) pJ.nd (Lw (ah 3) (qa ak aa))) (qs (ay (i:=5) pJ.nd (Lv (ah 4) (qa ak aa))) (qs (cB (aq av hr rfl (qa (cT (mF 40 (uE hr)) (ah 5) ak (aF _)) (qa (ah 1) aa)))) (qs (cB (Td (ah 2) (qa (aB r8 (eB (qa ak aa)) (aB BI (aJ ck (by rfl) J.cu PySem.boot_len (qa (ah 3) aa)) (aJ ck (by rfl) J.cu PySem.boot_len (qa (ah 4) aa)))) aa))) (qs (cB (rW (ah 2) (qa (ah 5) aa))) (cA (cB (Td (ah 2) (qa (aB r8 (eB (qa ak aa)) (aB BI (aJ ck (by rfl) J.cu PySem.boot_len (qa (ah 4) aa)) (aJ ck (by rfl) J.cu PySem.boot_len (qa (ah 5) aa)))) aa)))))))))) (cA (aK (ah 2))))),fun ds S kk hc hd h=>?_⟩;obtain⟨bs,a,rfl,hb,hl,h⟩:=h;refine⟨[],rfl,sz 0,?_⟩;dsimp only[dB];rw[List.map_map] at hd ⊢;refine⟨_,rfl,vZ (Nf (T.str ∘ i7) (fun pre Z S'=>∃y1 y2 y3,Z=[some (D.lst (bs.map (T.str ∘ i7))),some a,some (D.ob (S.length+0)),y1,y2,y3]/\S'=S++[O.lst ((uK pre).map T.str)]) ⟨_,_,_,rfl,rfl⟩ ?_ ?_)⟩
 .rintro pre b post Z S' N e ⟨y1,y2,y3,rfl,rfl⟩ hN;have ok:=hb b (by rw[e];simp);obtain⟨o,x,c⟩:=b;have lx:(i7 (o,x,c)).length=o+x.length+c:=by rw[bg,fZ];simp[bg];omega
  have lb:(i7 (0,x,c)).length=x.length+c:=by rw[bg,fZ];simp[bg]
  have k1:=ok.l1;have k2:=ok.l2;have k3:=ok.l3;simp only at k1 k2 k3;have s1:Txt.lstripChars (i7 (o,x,c)) "("=i7 (0,x,c):=by
   rw[show("(":Str)=⟨#[40]⟩ by symm];refine D7 (n:=o) (by rw[fZ,fZ];simp) ?_;rw[fZ];have:=ok.ne;have:=ok.o;simp only at *;cases q:cp x with
   |nil=>exact absurd q ok.ne
   |cons d r=>intro z;simp at z;rw[q,z] at this;exact this (List.mem_cons_self ..)
  have s2:Txt.rstripChars (i7 (0,x,c)) ")"=x:=by
   rw[show(")":Str)=⟨#[41]⟩ by symm];refine DJ (n:=c) (by rw[fZ];simp) fun z=>ok.c ?_;exact List.mem_of_getLast? z
  have hx:x≠"":=fun z=>ok.ne (by show cp x=[];rw[z];symm);have hpl:(uK pre).length<=201*pre.length:=by
   have hb':∀b∈pre,Og b:=fun b hm=>hb b (by rw[e];exact List.mem_append_left _ hm);clear e hN lx lb s1 s2 hx
   induction pre with
   |nil=>exact Nat.zero_le _
   |cons d r ih=>
    have:=ih fun b hm=>hb' b (List.mem_cons_of_mem _ hm);have q:=hb' d (List.mem_cons_self ..);have q1:=q.l1;have q2:=q.l2;rw[dh,List.length_append,List.length_cons];simp;omega
  have hpre:pre.length<1000:=by have:=congrArg List.length e;simp at this;omega
  refine⟨trivial,_,rfl,rfl,nI (by show(i7 (o,x,c)).length<=1000;omega),?_⟩;dsimp only[dB];show pG _ _ _ [some (D.lst (bs.map (T.str ∘ i7))),some a,some (D.ob (S.length+0)),some (D.str (i7 (o,x,c))),some (D.str (Txt.lstripChars (i7 (o,x,c)) "(")),y3] _;rw[s1];refine⟨_,rfl,rfl,nI (by omega),?_⟩;dsimp only[dB];show pG _ _ _ [some (D.lst (bs.map (T.str ∘ i7))),some a,some (D.ob (S.length+0)),some (D.str (i7 (o,x,c))),some (D.str (i7 (0,x,c))),some (D.str (Txt.rstripChars (i7 (0,x,c)) ")"))] _;rw[s2];refine⟨_,rfl,rfl,_,rfl,a,congrArg (fun b=>[D.bl b,a]) (by rw[decide_eq_false (fun z=>hx (V.str.inj z))];rfl),?_⟩;refine⟨_,rfl,⟨rfl,_,z5 rfl⟩,_,rfl,sz 1,_,rfl,nI (by omega),_,rfl,nI (by omega),_,rfl,by omega,by omega,?_,_,_,mj,rfl,?_,?_⟩
  .have:(((i7 (o,x,c)).length:Int) - ((i7 (0,x,c)).length:Int)).toNat=o:=by omega
   rw[this];exact nI (by simp;omega)
  .have:(((i7 (o,x,c)).length:Int) - ((i7 (0,x,c)).length:Int)).toNat=o:=by omega
   rw[this];exact sL (by simp;omega)
  have t1:(((i7 (o,x,c)).length:Int) - ((i7 (0,x,c)).length:Int)).toNat=o:=by omega
  rw[gp,t1];refine⟨_,rfl,⟨rfl,_,z5 rfl⟩,_,rfl,_,mj,Nat.lt_of_le_of_lt (m:=300000) (by simp;omega) (by rw[sizeLine_eq];decide),?_⟩;rw[gp];refine⟨_,rfl,⟨rfl,_,z5 rfl⟩,_,rfl,sz 1,_,rfl,nI (by omega),_,rfl,nI (by omega),_,rfl,by omega,by omega,?_,_,_,mj,rfl,?_,?_⟩
  .have:(((i7 (0,x,c)).length:Int) - (x.length:Int)).toNat=c:=by omega
   rw[this];exact nI (by simp;omega)
  .have:(((i7 (0,x,c)).length:Int) - (x.length:Int)).toNat=c:=by omega
   rw[this];exact sL (by simp;omega)
  have t2:(((i7 (0,x,c)).length:Int) - (x.length:Int)).toNat=c:=by omega
  rw[gp,t2];refine hN _ _ ⟨_,_,_,rfl,?_⟩;rw[Ft,dh];simp[uK]
 .rintro Z S' ⟨y1,y2,y3,rfl,rfl⟩;exact⟨trivial,_,rfl,a2A hc rfl h⟩
noncomputable abbrev zm:Stmt:=inClass (top 68) 0
theorem O2:au ["self","words","at"] ["self","words","at"] (ai zm):=fB
theorem Qn (F:dg K "__init__" "Tokens.__init__" zm f fd)(J:Fx K mg A)(CA:xK P w K mg base k):aL P w K mg base c5 (k+1) f fd ["self","words","at"] (bR K (KR A)):=by
 refine cj F O2 fun AT B outer s H E hr=>?_;rw[show ao zm=[_,_,_] from rfl];refine⟨_,(qs (aU (ah 0) (aq CA hr rfl (qa (ah 1) (qa (ah 2) aa))) rfl) (qs (aU (ah 0) aj rfl) (cA (aU (ah 0) (ah 2) rfl)))),fun ds S kk hc hd h=>?_⟩;obtain⟨n,bs,a,rfl,h1,hb,hl,h⟩:=h;have hz:=AW h1;refine⟨_,rfl,_,rfl,bs,_,rfl,hb,hl,_,rfl,_,_,_,_,rfl,h1,J.dj,by decide,?_⟩;refine⟨_,rfl,_,_,_,_,rfl,eT hz,J.cV,by decide,?_⟩;rw[List.set_set];refine⟨_,rfl,_,rfl,_,_,_,_,rfl,eT hz,J.gw,by decide,?_⟩;rw[List.set_set];exact iQ h
noncomputable abbrev zC:Stmt:=top 73
theorem t6:au ["source","one","sign","other"] ["source"] (ai zC):=fB
theorem Qz (F:dg K "read_comparison" "read_comparison" zC f fd)(J:Fx K mg A)(q9:CO P w K mg base k A)(aZ:cY P w K mg base k A)(kZ:rD P w K mg base k A)(k6:oA P w K mg base k A){AB:Addr}(Rl:mg "SIGNS"=some (.ref AB))(Q9:∀H:Hp,lM K H AB ((["<","<=","=","!=",">=",">"]:List Str).map V.str)):aL P w K mg base c5 (k+1) f fd ["source"] (bR K (ZT A)):=by
 refine cj F t6 fun AT B outer s H E hr=>?_;rw[show ao zC=[_,_,_,_] from rfl];refine⟨_,(qs (ay (i:=1) t6.nd (qU (ah 0) kZ hr (qa (jQ (d9 (v:=.ref AB) rfl Rl rfl)) aa))) (qs (ay (i:=2) t6.nd (bT (ah 0) k6 hr)) (qs (ay (i:=3) t6.nd (qU (ah 0) kZ hr (qa (bq (qa ak (qa ak (qa ak aa)))) aa))) (cA (aK (sS q9 hr rfl (qa (aq aZ hr rfl (qa (ah 1) (qa (bM (ah 0) rfl) aa))) (qa (ah 2) (qa (aq aZ hr rfl (qa (ah 3) (qa (bM (ah 0) rfl) aa))) aa))))))))),fun ds S kk hc hd h=>?_⟩;obtain⟨n,ts,i,a,x,y,s,r,rfl,h1,hx,hy,hs,hd1,hr1,h⟩:=h;have lt:=AW h1;have d2:ts.drop (i+(gQ x.p x.r).length)=s::(gQ y.p y.r++r):=YM (by rw[hd1,List.append_assoc];rfl);obtain⟨q1,d3⟩:=Nu d2;have lx:=OP hx;have ly:=OP hy;refine⟨_,rfl,0,_,_,by decide,aG h1,by symm,n,_,Vm,ts,i,a,gQ x.p x.r,s::(gQ y.p y.r++r),rfl,.inr ⟨_,rfl,Q9⟩,h1,by rw[hd1,List.append_assoc];rfl,wd1 hx,(fun z r' e=>by injection e with e;rw[<- e];exact .inr hs),by omega,?_⟩;refine⟨_,rfl,0,_,_,by decide,aG (eT lt),by symm,n,ts,_,a,rfl,eT lt,?_⟩;rw[List.set_set,q1];dsimp only[dB];refine⟨_,rfl,0,_,_,by decide,aG (eT lt),by symm,_,rfl,sz 3,n,_,["and","or",")"],ts,_,a,gQ y.p y.r,r,rfl,.inl rfl,eT lt,d3,wd2 hy,HB hr1,by omega,?_⟩;rw[List.set_set];have kx:=hx.ok;have ky:=hy.ok;refine⟨_,rfl,_,rfl,_,_,_,_,aG (eT lt),rfl,x.p,x.r,x.ws,_,rfl,kx.len,kx.fst,kx.pl,kx.pc,kx.bd,_,rfl,_,rfl,_,rfl,_,_,_,_,aG (eT lt),rfl,y.p,y.r,y.ws,_,rfl,ky.len,ky.fst,ky.pl,ky.pc,ky.bd,_,[xx A (xw x.ws),.str s,xx A (xw y.ws)],rfl,rfl,aI,made (iQ ?_)⟩;rw[RI] at h;rw[show i+(gQ x.p x.r++s::gQ y.p y.r).length=i+(gQ x.p x.r).length+1+(gQ y.p y.r).length by simp;omega] at h;exact h
noncomputable abbrev FU:Stmt:=top 72
theorem Lk:au ["source","condition"] ["source"] (ai FU):=fB
theorem Mj (F:dg K "read_bracketed" "read_bracketed" FU f fd)(J:Fx K mg A)(dD:gT P w K mg base k A)(gb:oE P w K mg base k A n):aL P w K mg base c5 (k+1) f fd ["source"] (bR K (ZV A n)):=by
 refine cj F Lk fun AT B outer s H E hr=>?_;rw[show ao FU=[_,_,_,_] from rfl];refine⟨_,(qs (cB (qU (ah 0) dD hr (qa ak aa))) (qs (ay (i:=1) Lk.nd (aq gb hr rfl (qa (ah 0) aa))) (qs (cB (qU (ah 0) dD hr (qa ak aa))) (cA (aK (ah 1)))))),fun ds S kk hc hd h=>?_⟩;obtain⟨m,ts,i,a,c,r,rfl,h1,ok,dp,hd1,h⟩:=h;have lt:=AW h1;obtain⟨q1,d2⟩:=Nu hd1;obtain⟨q3,d4⟩:=Nu (YM d2);refine⟨_,rfl,0,_,_,by decide,aG h1,by symm,m,ts,i,a,_,rfl,h1,q1,_,rfl,m,ts,i+1,a,c,(")":Str)::r,rfl,eT lt,ok,dp,d2,.inr rfl,?_⟩;rw[List.set_set];dsimp only[dB];refine⟨_,rfl,0,_,_,by decide,aG (eT lt),by symm,m,ts,_,a,_,rfl,eT lt,q3,?_⟩;rw[List.set_set];refine⟨_,rfl,iQ ?_⟩;rw[show i+(qJ c).length+2=i+1+(qJ c).length+1 by omega] at h;exact h
noncomputable abbrev ue:Stmt:=top 71
theorem Bd:au ["source","inner"] ["source"] (ai ue):=fB
theorem vE (F:dg K "read_part" "read_part" ue f fd)(J:Fx K mg A)(qk:mJ P w K mg base k A)(bO:fO P w K mg base k A)(av:aM P w K mg base k)(jt:oF P w K mg base k A n)(vS:ET P w K mg base k A)(dD:gT P w K mg base k A):aL P w K mg base c5 (k+1) f fd ["source"] (bR K (ZU A n)):=by
 refine cj F Bd fun AT B outer s H E hr=>?_;rw[show ao ue=[_,_,_] from rfl];refine⟨_,(qs (cz (aP (fq 40 (uE hr)) (bT (ah 0) bO hr) ak (aF _)) (qs (cB (qU (ah 0) dD hr (qa ak aa))) (cA (aK (sS vS hr rfl (qa (aq jt hr rfl (qa (ah 0) aa)) aa))))) bC) (qs (cz (aP (fq 40 (uE hr)) (bT (ah 0) bO hr) ak (aF _)) (qs (ay (i:=1) Bd.nd (aq jt hr rfl (qa (ah 0) aa))) (qs (cB (aq av hr rfl (qa (aJ (NU (c:=.ref A.bE) trivial rfl) (by rfl) J.ee boot_isinstance (qa (ah 1) (qa (jQ (d9 (v:=.ref A.bE) rfl J.ia rfl)) aa))) (qa (bM (ah 0) rfl) aa)))) (cA (aK (ah 1))))) bC) (cA (aK (aq qk hr rfl (qa (ah 0) aa)))))),fun ds S kk hc hd h=>?_⟩;obtain⟨m,ts,i,a,c,r,rfl,h1,ok,dp,dc,hd1,hr1,h⟩:=h;have lt:=AW h1;cases c with
 |cmp x s y=>
  rw[Kf rfl,qJ] at hd1 h;unfold CW.ok at ok;obtain⟨l,el⟩:=ZH x;have q1:ts.getD i ""=sY x.p:=(Nu (r:=l++s::gQ y.p y.r++r) (by rw[hd1,el];rfl)).1;have w:=ok.1.wd (sY x.p) (by rw[el];exact List.mem_cons_self ..);have n1:ts.getD i ""≠Str.ofString "not":=by rw[q1];exact w.kw "not"
  have n2:ts.getD i ""≠Str.ofString "(":=by rw[q1];exact w.nw "("
  exact⟨_,rfl,0,_,_,by decide,aG h1,by symm,m,ts,i,a,rfl,h1,rfl,false,congrArg D.bl (Ba n1),_,rfl,0,_,_,by decide,aG h1,by symm,m,ts,i,a,rfl,h1,rfl,false,congrArg D.bl (Ba n2),_,rfl,m,ts,i,a,x,y,s,r,rfl,h1,ok.1,ok.2.1,ok.2.2,hd1,hr1,iQ (by unfold CW.cd at h;exact h)⟩
 |neg c=>
  rw[Kf rfl,qJ] at hd1 h;unfold CW.ok at ok;unfold CW.dep at dp;obtain⟨p,rfl⟩:∃p,n=p+1:=⟨n - 1,by omega⟩
  obtain⟨q1,d2⟩:=Nu (w:=Str.ofString "not") hd1;refine⟨_,rfl,0,_,_,by decide,aG h1,by symm,m,ts,i,a,rfl,h1,rfl,true,congrArg D.bl (seq q1),_,rfl,0,_,_,by decide,aG h1,by symm,m,ts,i,a,_,rfl,h1,q1,_,rfl,m,ts,i+1,a,c,r,rfl,eT lt,ok,by omega,by rw[d2];simp,?_⟩;rw[List.set_set];refine⟨_,[nW A c.cd],rfl,rfl,aI,made (iQ ?_)⟩;unfold CW.cd at h;rw[RG] at h;rw[show i+1+(qJ c).length+2=i+(Str.ofString "not"::Str.ofString "("::(qJ c++[Str.ofString ")"])).length by simp;omega];exact h
 |con q cs=>
  have dc:=dc rfl;rw[Y6 rfl] at hd1 h;obtain⟨p,rfl⟩:∃p,n=p+1:=⟨n - 1,by omega⟩
  obtain⟨q1,d2⟩:=Nu (w:=Str.ofString "(") hd1;have n1:ts.getD i ""≠Str.ofString "not":=by rw[q1];symm
  refine⟨_,rfl,0,_,_,by decide,aG h1,by symm,m,ts,i,a,rfl,h1,rfl,false,congrArg D.bl (Ba n1),_,rfl,0,_,_,by decide,aG h1,by symm,m,ts,i,a,rfl,h1,rfl,true,congrArg D.bl (seq q1),_,rfl,m,ts,i,a,.con q cs,r,rfl,h1,ok,by omega,by rw[hd1];simp,?_⟩;refine⟨_,rfl,rfl,_,_,Si A _ _,J.kS _ (Lg _),_,rfl,_,_,_,_,aG (eT lt),rfl,_,congrArg (fun b=>[D.bl b,D.int a]) (decide_eq_true ((Lh (.con q cs)).mpr rfl)),_,rfl,iQ ?_⟩;rw[show i+(qJ (.con q cs)).length+2=i+(Str.ofString "("::(qJ (.con q cs)++[Str.ofString ")"])).length by simp;omega];exact h
noncomputable abbrev um:Stmt:=top 70
theorem u9:au ["source","parts","word"] ["source"] (ai um):=fB
theorem vF (F:dg K "read_condition" "read_condition" um f fd)(J:Fx K mg A)(Ac:Ja P w K mg base k A)(D9:N9 P w K mg base k A)(bO:fO P w K mg base k A)(sF:xM P w K mg base k A n)(dD:gT P w K mg base k A)(av:aM P w K mg base k):aL P w K mg base c5 (k+1) f fd ["source"] (bR K (Vf A n)):=by
 refine cj F u9 fun AT B outer s H E hr=>?_;rw[show ao um=[_,_,_,_,_] from rfl];refine⟨_,(qs (ay (i:=1) u9.nd (jR (qa (aq sF hr rfl (qa (ah 0) aa)) aa))) (qs (ay (i:=2) u9.nd (bT (ah 0) bO hr)) (qs (cz (aP Gs (ah 2) (bq (qa ak (qa ak aa))) (by rfl)) (qs (cB (aq av hr rfl (qa (a0z (aJ (NU (c:=.ref A.bE) trivial rfl) (by rfl) J.ee boot_isinstance (qa (cG (ah 1) aj) (qa (jQ (d9 (v:=.ref A.bE) rfl J.ia rfl)) aa)))) (qa (bM (ah 0) rfl) aa)))) (cA (aK (cG (ah 1) aj)))) bC) (qs (jc PassesOwn.never (aP (fq 40 (uE hr)) (bT (ah 0) bO hr) (ah 2) (aF _)) (qs (cB (qU (ah 0) dD hr (qa (ah 2) aa))) (cA (cB (rW (ah 1) (qa (aq sF hr rfl (qa (ah 0) aa)) aa)))))) (cA (aK (Lx (aP (fq 40 (uE hr)) (ah 2) ak (aF _)) (sS Ac hr rfl (qa (ah 1) aa)) (sS D9 hr rfl (qa (ah 1) aa))))))))),fun ds S kk hc hd h=>?_⟩;obtain⟨m,ts,i,a,c,r,rfl,h1,ok,dp,hd1,hr1,h⟩:=h;have lt:=AW h1;cases hcc:gH c with
 |false=>
  rw[<- Kf hcc] at hd1 h;refine⟨_,rfl,m,ts,i,a,c,r,rfl,h1,ok,dp,(fun z=>by rw[hcc] at z;cases z),hd1,A5 hr1,_,rfl,sz 1,?_⟩;dsimp only[dB];rw[xA];refine⟨_,rfl,0,_,_,by decide,aG (gA lt),by symm,m,ts,_,a,rfl,gA lt,?_⟩;dsimp only[dB];have q:∀k,ts.getD (i+(tX c).length) ""≠sj k:=fun k=>A6 (YM hd1) hr1;generalize ts.getD (i+(tX c).length) ""=v at q;have hb:(true ^^ Je (V.str v) [V.str (Str.ofString "and"),V.str (Str.ofString "or")])=true:=by
   rw[show[V.str (Str.ofString "and"),V.str (Str.ofString "or")]=([("and":Str),"or"]).map V.str from rfl,gI,decide_eq_false (by simp;exact⟨q true,q false⟩)];rfl
  have gl:∀o loc,lq (S.set m o++O.lst [nW A c.cd]::loc) (.ob (S.length+0))=some [nW A c.cd]:=fun o loc=>gW (cK (q:=0) xA);refine⟨_,rfl,_,rfl,sz 2,_,_,_,rfl,rfl,rfl,rfl,true,congrArg D.bl hb,?_⟩;dsimp only;rw[if_pos rfl];refine⟨_,rfl,?_⟩;dsimp only[yS];refine TL (gl _ []) qm ?_;refine⟨rfl,_,_,Si A _ _,J.kS _ (Lg _),_,rfl,_,rfl,_,_,_,_,aG (gA lt),rfl,_,congrArg (fun b=>[D.bl (!b),D.int a]) (decide_eq_false (fun z=>by rw[(Lh c).mp z] at hcc;cases hcc)),?_⟩;refine⟨_,rfl,?_⟩;dsimp only[yS];exact TL (gl _ []) qm (NN hc h)
 |true=>
  cases c with
  |cmp _ _ _=>cases hcc
  |neg _=>cases hcc
  |con q cs=>
   cases cs with
   |nil=>unfold CW.ok at ok;have:=ok.2.1;simp at this
   |cons d cs=>
    rw[Fv] at hd1 h;unfold CW.ok at ok;unfold CW.dep at dp;obtain⟨okl,l2,l3⟩:=ok;have dm:∀e∈d::cs,e.ok/\e.dep<n:=fun e he=>⟨Gq okl he,by have:=Co he;omega⟩
    obtain⟨e1,cs',rfl⟩:∃e1 cs',cs=e1::cs':=by
     cases cs with
     |nil=>simp at l2
     |cons e1 cs'=>exact⟨_,_,rfl⟩
    have k0:=dm d (List.mem_cons_self ..);refine⟨_,rfl,m,ts,i,a,d,nh q (e1::cs')++r,rfl,h1,k0.1,by omega,(fun _=>k0.2),by rw[hd1,List.append_assoc],Sx hr1,_,rfl,sz 1,?_⟩;dsimp only[dB];rw[xA];refine⟨_,rfl,0,_,_,by decide,aG (gA lt),by symm,m,ts,_,a,rfl,gA lt,?_⟩;have d2:=YM (l:=tX d) (r:=nh q (e1::cs')++r) (by rw[hd1,List.append_assoc]);have q1:ts.getD (i+(tX d).length) ""=sj q:=(Nu (r:=tX e1++nh q cs'++r) (by rw[d2,gu];simp)).1;rw[q1];dsimp only[dB];have hb:(true ^^ Je (V.str (sj q)) [V.str (Str.ofString "and"),V.str (Str.ofString "or")])=false:=by cases q<;>symm
    refine⟨_,rfl,_,rfl,sz 2,_,_,_,rfl,rfl,rfl,rfl,false,congrArg D.bl hb,?_⟩;dsimp only;rw[if_neg (by decide)];refine⟨fun j Z S'=>∃l1 l2,e1::cs'=l1++l2/\j=l2.length/\Z=[some (D.ob m),some (D.ob (S.length+0)),some (D.str (sj q))]/\S'=S.set m (qF A ts (i+(tX d++nh q l1).length) a)++[O.lst ((d::l1).map fun c=>nW A c.cd)],⟨_,[],_,rfl,rfl,rfl,by rw[nh,List.append_nil];rfl⟩,?_⟩;rintro j Z S' ⟨l1,W7,el,rfl,rfl,rfl⟩;have d3:ts.drop (i+(tX d++nh q l1).length)=nh q W7++r:=YM (by rw[hd1,el,yP];simp);cases W7 with
    |nil=>
     rw[List.append_nil] at el;subst el;rw[nh] at d3;refine⟨_,rfl,0,_,_,by decide,aG (gA lt),by symm,m,ts,_,a,rfl,gA lt,_,rfl,rfl,false,congrArg D.bl (Ba (A6 d3 hr1)),?_⟩;dsimp only;rw[if_neg (by decide)];have gl:∀o loc,xq (S.set m o++O.lst ((d::e1::cs').map fun c=>nW A c.cd)::loc) (.ob (S.length+0))=some ((d::e1::cs').map fun c=>nW A c.cd):=fun o loc=>gW (cK (q:=0) xA);unfold CW.cd at h;rw[RH,G9,List.map_map] at h;cases q with
     |true=>exact⟨_,rfl,rfl,true,Tf,_,rfl,_,_,_,rfl,aI,by rw[List.append_assoc];exact gl _ _,made (NN hc h)⟩
     |false=>exact⟨_,rfl,rfl,false,HJ,_,rfl,_,_,_,rfl,aI,by rw[List.append_assoc];exact gl _ _,made (NN hc h)⟩
    |cons e W7=>
     have d4:ts.drop (i+(tX d++nh q l1).length)=sj q::(tX e++(nh q W7++r)):=by rw[d3,gu];simp
     obtain⟨q2,d5⟩:=Nu d4;have ke:=dm e (by rw[el];simp);refine⟨_,rfl,0,_,_,by decide,aG (gA lt),by symm,m,ts,_,a,rfl,gA lt,_,rfl,rfl,true,congrArg D.bl (seq q2),?_⟩;dsimp only;rw[if_pos rfl];refine⟨fun Z' S'=>Z'=[some (D.ob m),some (D.ob (S.length+0)),some (D.str (sj q))]/\S'=S.set m (qF A ts (i+(tX d++nh q (l1++[e])).length) a)++[O.lst ((d::(l1++[e])).map fun c=>nW A c.cd)],?_,?_⟩
     .rintro Z' S' ⟨rfl,rfl⟩;exact⟨W7.length,by simp,l1++[e],W7,by rw[el];simp,rfl,rfl,rfl⟩
     refine⟨_,rfl,0,_,_,by decide,aG (gA lt),by symm,_,rfl,m,ts,_,a,_,rfl,gA lt,q2,?_⟩;rw[sA lt];refine⟨_,rfl,⟨rfl,_,gW (cK (q:=0) xA)⟩,_,rfl,m,ts,_,a,e,nh q W7++r,rfl,gA lt,ke.1,by omega,(fun _=>ke.2),d5,Sx hr1,?_⟩;rw[sA lt];have ll:l1.length<=3:=by have:=congrArg List.length el;simp at this l3;omega
     refine⟨_,cK (q:=0) xA,Oi (by simp;omega),rfl,?_⟩;have ix:i+(tX d++nh q (l1++[e])).length=i+(tX d++nh q l1).length+1+(tX e).length:=by rw[yP,gu,nh];simp;omega
     rw[ix,<- xA (S:=S) (n:=m) (o:=qF A ts (i+(tX d++nh q l1).length+1+(tX e).length) a),gp];simp
noncomputable abbrev FY:Stmt:=top 67
theorem DH:au ["words","at","source","condition"] ["words","at"] (ai FY):=fB
theorem WG (F:dg K "condition_of" "condition_of" FY f fd)(J:Fx K mg A)(av:aM P w K mg base k)(bO:fO P w K mg base k A)(gb:Dn P w K mg base k "read_condition" ["source"] (bR K (Vf A 2)))(vU:EU P w K mg base k A):aL P w K mg base c5 (k+1) f fd ["words","at"] (bR K (Z1 A)):=by
 refine cj F DH fun AT B outer s H E hr=>?_;rw[show ao FY=[_,_,_,_] from rfl];refine⟨_,(qs (ay (i:=2) DH.nd (Tc vU hr rfl (qa (ah 0) (qa (ah 1) aa)))) (qs (ay (i:=3) DH.nd (aq gb hr rfl (qa (ah 2) aa))) (qs (cB (aq av hr rfl (qa (cT (fq 40 (uE hr)) (bT (ah 2) bO hr) ak (aF _)) (qa (ah 1) aa)))) (cA (aK (ah 3)))))),fun ds S kk hc hd h=>?_⟩;obtain⟨c,a,rfl,ok,dp,hb,hl,h⟩:=h;refine⟨_,rfl,_,rfl,_,jD c,a,rfl,aI,hb,hl,rfl,?_⟩;rw[cF];dsimp only[dB];have e:=Fp ok;refine⟨_,rfl,S.length,uK (jD c),0,a,c,[],rfl,aI,ok,dp,by rw[e];simp,.inl rfl,?_⟩;rw[cF];dsimp only[dB];have q:(uK (jD c)).getD (0+(qJ c).length) ""=Str.ofString "":=dr0 (by rw[e];simp);refine⟨_,rfl,0,_,_,by decide,aG aI,by symm,S.length,_,_,a,rfl,aI,rfl,_,rfl,_,congrArg (fun b=>[D.bl b,D.int a]) (seq q),_,rfl,RC hc h⟩
noncomputable abbrev zA:Stmt:=inClass (top 51) 0
theorem O5:au ["self","rows"] ["self","rows"] (ai zA):=fB
theorem Qw (F:dg K "__init__" "Rows.__init__" zA f fd)(J:Fx K mg A) :aL P w K mg base c5 (k+1) f fd ["self","rows"] (bR K (KZ A)):=by
 refine cj F O5 fun AT B outer s H E hr=>?_;rw[show ao zA=[_,_] from rfl];refine⟨_,(qs (aU (ah 0) (ie (bY ["row"] [] [] rfl (by symm) (by symm) (by with_unfolding_all rfl) (by exact trivial) (by rfl) rfl (by rfl)) rfl (qi (ah 1)) (fun _ _ _ _=>(qx (i:=0) (show List.Nodup (["row"]:List Str) by symm))) (fun _ _ _ _=>fJ) (fun _ _ _ _=>(F9 false (ah 0) (qa ak aa)))) rfl) (cA (aU (ah 0) aj rfl))),fun ds S kk hc hd h=>?_⟩;obtain⟨n,d,xs,rfl,h1,hx,hl,hb,h⟩:=h;have hz:=AW h1;refine⟨_,rfl,MX hx fun G hG=>jY T.str (fun x=>T.lst ((Txt.split x " ").map T.str)) (by simpa using hG []) (nI hl) (fun x hm k' hk=>?_) ?_⟩
 .have:=hb x hm;exact⟨_,rfl,rfl,rfl,sL (by omega),WM ⟨_,rfl,hk⟩⟩
 refine⟨_,rfl,_,_,_,_,rfl,h1,J.gy,by decide,?_⟩;refine⟨_,rfl,_,_,_,_,rfl,eT hz,J.fV,by decide,?_⟩;rw[List.set_set];refine iQ ?_;have e:(xs.map fun x=>T.lst ((Txt.split x " ").map T.str))=(xs.map fun x=>Txt.split x " ").map fun ws=>T.lst (ws.map T.str):=by rw[List.map_map];rfl
 rw[e];exact h
noncomputable abbrev zB:Stmt:=inClass (top 51) 1
theorem O7:au ["self"] ["self"] (ai zB):=fB
theorem Qy (F:dg K "coming" "Rows.coming" zB f fd)(J:Fx K mg A) :aL P w K mg base c5 (k+1) f fd ["self"] (bR K (K0 A)):=by
 refine cj F O7 fun AT B outer s H E hr=>?_;rw[show ao zB=[_] from rfl];refine⟨_,(cA (aK (Lx (aP DY (bM (ah 0) rfl) (aJ ck (by rfl) J.cu PySem.boot_len (qa (bM (ah 0) rfl) aa)) (aF _)) (cG (cG (bM (ah 0) rfl) (bM (ah 0) rfl)) aj) ak))),fun ds S kk hc hd h=>?_⟩;obtain⟨n,R,i,rfl,h1,hne,h⟩:=h;refine⟨_,rfl,_,_,_,_,aG h1,rfl,_,rfl,_,_,_,_,aG h1,rfl,_,rfl,_,rfl,?_⟩;dsimp only;by_cases e:i<R.length
 .rw[if_pos (by simpa using e)];have q:R.getD i []=R[i]:=by rw[List.getD_eq_getElem?_getD,List.getElem?_eq_getElem e];rfl
  have hne:=hne e;rw[q] at hne h;obtain⟨y,ys,ey⟩:∃y ys,R[i]=y::ys:=by
   cases q2:R[i] with
   |nil=>exact absurd q2 hne
   |cons y ys=>exact⟨y,ys,rfl⟩
  rw[ey] at h;refine⟨_,rfl,_,_,_,_,aG h1,rfl,_,rfl,_,_,_,_,aG h1,rfl,_,T.lst ((y::ys).map T.str),rfl,aY (j:=i) (by rw[List.getElem?_map,List.getElem?_eq_getElem e,ey];rfl),_,_,rfl,qm,iQ h⟩
 .rw[if_neg (by simpa using e)];have q:R.getD i []=[]:=by rw[List.getD_eq_getElem?_getD,List.getElem?_eq_none (by omega)];rfl
  rw[q] at h;exact iQ h
noncomputable abbrev vh:Stmt:=inClass (top 51) 2
theorem FO:au ["self"] ["self"] (ai vh):=fB
theorem Qs (F:dg K "take" "Rows.take" vh f fd)(J:Fx K mg A)(av:aM P w K mg base k):aL P w K mg base c5 (k+1) f fd ["self"] (bR K (KY A)):=by
 refine cj F FO fun AT B outer s H E hr=>?_;rw[show ao vh=[_,_,_] from rfl];refine⟨_,(qs (cB (aq av hr rfl (qa (cT DY (bM (ah 0) rfl) (aJ ck (by rfl) J.cu PySem.boot_len (qa (bM (ah 0) rfl) aa)) (aF _)) (qa (bM (ah 0) rfl) aa)))) (qs (aU (ah 0) (aB aA (bM (ah 0) rfl) aj) rfl) (cA (aK (cG (bM (ah 0) rfl) (aB BI (bM (ah 0) rfl) aj)))))),fun ds S kk hc hd h=>?_⟩;obtain⟨n,R,i,ws,rfl,h1,hw,h⟩:=h;have lt:=AW h1;have li:i<R.length:=(List.getElem?_eq_some_iff.mp hw).1;refine⟨_,rfl,_,_,_,_,aG h1,rfl,_,rfl,_,_,_,_,aG h1,rfl,_,rfl,_,rfl,_,_,_,_,aG h1,rfl,_,congrArg (fun b=>[D.bl b,D.int i]) (decide_eq_true (by simpa using li)),?_⟩;refine⟨_,rfl,_,_,_,_,aG h1,rfl,_,rfl,n,_,_,_,rfl,h1,J.fV,by decide,?_⟩;refine⟨_,rfl,_,_,_,_,aG (eT lt),rfl,_,rfl,_,_,_,_,aG (eT lt),rfl,_,_,rfl,?_,iQ h⟩;show oM (R.map fun ws=>T.lst (ws.map T.str)) ((i:Int)+1 - 1)=_;rw[Int.add_sub_cancel];exact aY (j:=i) (by rw[List.getElem?_map,hw];rfl)
noncomputable abbrev zy:Stmt:=top 61
theorem O4:au ["words","at"] ["words","at"] (ai zy):=fB
theorem Qu (F:dg K "read_make" "read_make" zy f fd)(J:Fx K mg A)(Eb:Ob P w K mg base k A)(aZ:cY P w K mg base k A)(av:aM P w K mg base k)(cE:fh P w K mg base k):aL P w K mg base c5 (k+1) f fd ["words","at"] (bR K (HC A Ri)):=by
 refine cj F O4 fun AT B outer s H E hr=>?_;rw[show ao zy=[_,_] from rfl];refine⟨_,(qs (cB (aq av hr rfl (qa (iN (cT DZ (aJ ck (by rfl) J.cu PySem.boot_len (qa (ah 0) aa)) aj (aF _)) (iN (aq cE hr rfl (qa (cG (ah 0) aj) aa)) (nv (cT (fq 40 (uE hr)) (cG (ah 0) aj) ak (aF _))))) (qa (ah 1) aa)))) (cA (aK (sS Eb hr rfl (qa (ah 1) (qa (cG (ah 0) aj) (qa (aq aZ hr rfl (qa (iH false (ah 0) (br aj) bS) (qa (ah 1) aa))) aa))))))),fun ds S kk hc hd h=>?_⟩;obtain⟨x,i,rfl,hk0,ok,h⟩:=h;cases x with
 |mq r z=>
  unfold SX.ok at ok;have kz:=ok.2.ok;have ln:3<((SX.mq r z).AU.map T.str).length:=by rw[List.length_map];show 3<(gQ z.p z.r).length+3;rw[uP];omega
  unfold SX.AU at ln hd ⊢;refine⟨_,rfl,_,rfl,true,congrArg D.bl (decide_eq_true (by exact_mod_cast ln)),_,rfl,_,_,rfl,aY (j:=1) rfl,r,rfl,by have:=b4 ok.1;omega,true,congrArg D.bl ok.1,_,rfl,_,_,rfl,aY (j:=2) rfl,rfl,_,rfl,_,congrArg (fun b=>[D.bl b,D.int i]) (seq rfl),?_⟩;refine⟨_,rfl,_,rfl,_,_,rfl,aY (j:=1) rfl,_,rfl,3,rfl,_,rfl,?_⟩;rw[if_neg (by decide),show(3:Int)=((3:Nat):Int) from rfl,yu];refine⟨_,rfl,z.p,z.r,z.ws,_,rfl,kz.len,kz.fst,kz.pl,kz.pc,kz.bd,_,[.int i,.str r,xx A (xw z.ws)],rfl,rfl,aI,made (iQ ?_)⟩;unfold SX.st ZK at h;exact h
 |_=>cases hk0
noncomputable abbrev zx:Stmt:=top 60
theorem FP:au ["words","at","place"] ["words","at"] (ai zx):=fB
theorem Qt (F:dg K "read_put" "read_put" zx f fd)(J:Fx K mg A)(MP:RY P w K mg base k A)(aZ:cY P w K mg base k A)(av:aM P w K mg base k)(cE:fh P w K mg base k):aL P w K mg base c5 (k+1) f fd ["words","at"] (bR K (HC A GC)):=by
 refine cj F FP fun AT B outer s H E hr=>?_;rw[show ao zx=[_,_,_] from rfl];refine⟨_,(qs (cB (aq av hr rfl (qa (iN (cT DZ (aJ ck (by rfl) J.cu PySem.boot_len (qa (ah 0) aa)) aj (aF _)) (iN (aq cE hr rfl (qa (cG (ah 0) aj) aa)) (iN (cT (fq 40 (uE hr)) (cG (ah 0) aj) ak (aF _)) (nv (cT Mp ak (ah 0) (by rfl)))))) (qa (ah 1) aa)))) (qs (ay (i:=2) FP.nd (a0C (ah 0) (qa ak aa))) (cA (aK (sS MP hr rfl (qa (ah 1) (qa (cG (ah 0) aj) (qa (aq aZ hr rfl (qa (iH false (ah 0) (br aj) (br (ah 2))) (qa (ah 1) aa))) (qa (aq aZ hr rfl (qa (iH false (ah 0) (br (aB aA (ah 2) aj)) bS) (qa (ah 1) aa))) aa))))))))),fun ds S kk hc hd h=>?_⟩;obtain⟨x,i,rfl,hk0,ok,h⟩:=h;cases x with
 |pt r p s=>
  unfold SX.ok at ok;have kp:=ok.2.1.ok;have ks:=ok.2.2.ok;have ln:3<((SX.pt r p s).AU.map T.str).length:=by
   rw[List.length_map];show 3<(gQ p.p p.r++("=":Str)::gQ s.p s.r).length+3;rw[List.length_append,uP];omega
  have nr:=kW ok.1;have ni:("=":Str)∉("put":Str)::r::("at":Str)::p.w:=fun z=>by
   rcases List.mem_cons.mp z with z | z
   .exact absurd z (by symm)
   rcases List.mem_cons.mp z with z | z
   .exact nr.nw "=" (by symm) z.symm
   rcases List.mem_cons.mp z with z | z
   .exact absurd z (by symm)
   exact(ok.2.1.wd _ z).nw "=" (by symm) rfl
  have ew:(SX.pt r p s).AU=(("put":Str)::r::("at":Str)::p.w)++("=":Str)::s.w:=rfl;refine⟨_,rfl,_,rfl,true,congrArg D.bl (decide_eq_true (by exact_mod_cast ln)),_,rfl,_,_,rfl,aY (j:=1) rfl,r,rfl,by have:=b4 ok.1;omega,true,congrArg D.bl ok.1,_,rfl,_,_,rfl,aY (j:=2) rfl,rfl,true,Tf,_,rfl,?_⟩;refine Xo (ws:=(SX.pt r p s).AU) rfl ⟨_,rfl,_,congrArg (fun b=>[D.bl b,D.int i]) (show(false ^^ decide (("=":Str)∈(SX.pt r p s).AU))=true by rw[ew];simp),?_⟩;refine⟨_,rfl,⟨rfl,_,rfl⟩,("put":Str)::r::("at":Str)::p.w,s.w,rfl,ni,?_⟩;dsimp only[dB];refine⟨_,rfl,_,rfl,_,_,rfl,aY (j:=1) rfl,_,rfl,3,rfl,_,rfl,_,rfl,_,rfl,?_⟩;have lp:(("put":Str)::r::("at":Str)::p.w).length=3+p.w.length:=by simp;omega
  rw[if_neg (by decide),show(3:Int)=((3:Nat):Int) from rfl,XX _ (by omega) (by rw[List.length_map,ew,List.length_append];omega),ew,<- List.map_drop,<- List.map_take,List.drop_append_of_le_length (by omega)];have e1:((("put":Str)::r::("at":Str)::p.w).drop 3++("=":Str)::s.w).take ((("put":Str)::r::("at":Str)::p.w).length - 3)=p.w:=by
   rw[lp];show(p.w++("=":Str)::s.w).take (3+p.w.length - 3)=_;rw[Nat.add_sub_cancel_left,List.take_left]
  rw[e1];refine⟨_,rfl,p.p,p.r,p.ws,_,rfl,kp.len,kp.fst,kp.pl,kp.pc,kp.bd,_,rfl,_,rfl,_,rfl,_,rfl,?_⟩;rw[if_neg (by decide),show((("put":Str)::r::("at":Str)::p.w).length:Int)+1=(((("put":Str)::r::("at":Str)::p.w).length+1:Nat):Int) from rfl,yu,<- List.map_drop,<- List.drop_drop,List.drop_left];refine⟨_,rfl,s.p,s.r,s.ws,_,rfl,ks.len,ks.fst,ks.pl,ks.pc,ks.bd,_,[.int i,.str r,xx A (xw p.ws),xx A (xw s.ws)],rfl,rfl,aI,made (iQ ?_)⟩;unfold SX.st ZK at h;exact h
 |_=>cases hk0
noncomputable abbrev lW:Stmt:=top 76
theorem vc:au ["_law_cell","_law_k","_law_mix"] ["_law_cell","_law_k"] (ai lW):=fB
theorem DW (F:dg K "_law_mixed" "_law_mixed" lW f fd)(J:Fx K mg A) :aL P w K mg base c5 (k+1) f fd ["_law_cell","_law_k"] (bR K SH):=by
 refine cj F vc fun AT B outer s H E hr=>?_;rw[show ao lW=[_,_] from rfl];refine⟨_,(qs (ay (i:=2) vc.nd (aB iP (aB r8 (aB aA (aB aA (ah 0) (aB r8 aj (ah 1))) aj) aj) aj)) (cA (aK (aB iP (aB aA (aB r8 (ah 2) (ah 2)) (aB r8 aj (ah 2))) aj)))),fun ds S kk hc hd h=>?_⟩;obtain⟨c,j,rfl,h⟩:=h;refine⟨_,rfl,_,rfl,.inl ⟨by decide,by decide⟩,.inr ⟨by decide,by decide⟩,by decide,?_⟩;have h1:=Int.emod_nonneg ((c+7919*j+11)*48271) (b:=2147483647) (by decide);have h2:=Int.emod_lt_of_pos ((c+7919*j+11)*48271) (b:=2147483647) (by decide);exact⟨_,rfl,_,rfl,.inl ⟨by omega,by omega⟩,_,rfl,.inl ⟨by decide,by decide⟩,by decide,iQ (h _ (Int.emod_nonneg _ (by decide)) (Int.emod_lt_of_pos _ (by decide)))⟩
noncomputable abbrev iK:Stmt:=top 75
theorem jH:au ["_law_script","_law_k","_law_cell"] ["_law_script","_law_k"] (ai iK):=fB
theorem zQ (F:dg K "_law_cell_at" "_law_cell_at" iK f fd)(J:Fx K mg A)(lG:nD P w K mg base k):aL P w K mg base c5 (k+1) f fd ["_law_script","_law_k"] (bR K Lc):=by
 refine cj F jH fun AT B outer s H E hr=>?_;rw[show ao iK=[_,_,_] from rfl];refine⟨_,(qs (ay (i:=2) jH.nd aj) (qs (cz (aP DY (ah 1) (aJ ck (by rfl) J.cu PySem.boot_len (qa (ah 0) aa)) (aF _)) (cA (ay (i:=2) jH.nd (cG (ah 0) (ah 1)))) bC) (cA (aK (aq lG hr rfl (qa (ah 2) (qa (aB aA aj (ah 1)) aa))))))),fun ds S kk hc hd h=>?_⟩;obtain⟨l,j,rfl,h⟩:=h;refine⟨_,rfl,_,rfl,_,rfl,?_⟩;by_cases hj:j<l.length
 .exact⟨true,congrArg D.bl (decide_eq_true (by rw[List.length_map];omega)),_,rfl,_,rfl,_,_,rfl,aY (by rw[List.getElem?_map,List.getElem?_eq_getElem hj];rfl),_,rfl,_,rfl,_,_,rfl,fun r _ _=>iQ (h r)⟩
 .exact⟨false,congrArg D.bl (decide_eq_false (by rw[List.length_map];omega)),_,rfl,_,rfl,_,_,rfl,fun r _ _=>iQ (h r)⟩
noncomputable abbrev pR:Stmt:=top 77
theorem HG:au ["_law_draw","_law_size"] ["_law_draw","_law_size"] (ai pR):=fB
theorem Ig (F:dg K "_law_next" "_law_next" pR f fd)(J:Fx K mg A)(lG:nD P w K mg base k):aL P w K mg base c5 (k+1) f fd ["_law_draw","_law_size"] (bR K ZW):=by
 refine cj F HG fun AT B outer s H E hr=>?_;rw[show ao pR=[_,_] from rfl];refine⟨_,(qs (Px (ah 0) aj aj M1) (cA (aK (aB iP (aB vK (aq lG hr rfl (qa (cG (ah 0) aj) (qa (cG (ah 0) aj) aa))) aj) (ah 1))))),fun ds S kk hc hd h=>?_⟩;obtain⟨d,n,rfl,hd,hn,h⟩:=h;have hlt:=hd.lt;obtain⟨c,m,e0⟩:=hd;refine⟨_,rfl,d,1,_,_,rfl,rfl,e0,rfl,1,_,rfl,e0,by show 1<2;decide,_,rfl,_,_,KN (eT hlt),rfl,_,rfl,_,_,KN (eT hlt),rfl,_,_,rfl,fun r _ _=>⟨⟨by decide,by decide⟩,_,rfl,hn,?_⟩⟩;have e:((r / 7 % n).toNat:Int)=r / 7 % n:=Int.toNat_of_nonneg (Int.emod_nonneg _ (by omega));rw[<- e];exact iQ (h _ _ _ (by rw[e];exact Int.emod_lt_of_pos _ hn))
noncomputable abbrev pU:Stmt:=top 79
theorem ye:au ["_law_words"] [] (ai pU):=fB
theorem Ii (F:dg K "_law_kept" "_law_kept" pU f fd)(J:Fx K mg A) :aL P w K mg base c5 (k+1) f fd [] (bR K K7):=by
 refine cj F ye fun AT B outer s H E hr=>?_;rw[show ao pU=[_,_] from rfl];refine⟨_,(qs (ay (i:=0) ye.nd (DN (xs:=["helper","answers","needs","gives","end","let","div","mod","put","row","at","if","else"]) rfl)) (cA (aK (aB aA (ah 0) (DN (xs:=["while","holds","falls","call","claim","and","or","not"]) rfl))))),fun ds S kk hc hd h=>?_⟩;obtain⟨rfl,h⟩:=h;refine⟨sz 13,_,rfl,sz 8,_,_,rfl,rfl,sz 21,iQ ?_⟩;unfold lsS sr at h;rw[List.map_append] at h;exact h
noncomputable abbrev lV:Stmt:=top 78
theorem bx:au ["_law_draw","_law_many","_law_some","_law_size","_law_place","_law_base","_law_shift","_law_kept_here","_law_alike","_law_names_here","_law_k","_law_word","_law_turn"] ["_law_draw","_law_many"] (ai lV):=fB
seal L2.wQ L2.N7 L2.Yz L2.EN yF YT Yy EM in
theorem DV (F:dg K "_law_names" "_law_names" lV f fd)(J:Fx K mg A)(EG:AM P w K mg base k)(iB:AK P w K mg base k):aL P w K mg base c5 (k+1) f fd ["_law_draw","_law_many"] (bR K K5):=by
 refine cj F bx fun AT B outer s H E hr=>?_;rw[show ao lV=[_,_,_,_,_,_,_,_,_,_] from rfl];refine⟨_,(Sy (iJ (Ll (i:=2) bx.nd Nr) (iJ (Lm (ay (i:=3) bx.nd (aB aA aj (aq iB hr rfl (qa (ah 0) (qa aj aa)))))) (iJ (Lm (ay (i:=4) bx.nd (aq iB hr rfl (qa (ah 0) (qa (ah 3) aa))))) (iJ (Lm (Ls (i:=5) bx.nd (bY ["_law_k"] ["_law_some","_law_draw"] [2,0] rfl (by symm) (by symm) (by with_unfolding_all rfl) (by exact⟨rfl,rfl,trivial⟩) (by rfl) rfl (by rfl)) rfl (DM rfl J.uz (qa (ah 3) aa)) (fun _ _ _ _=>(qx (i:=0) (show List.Nodup (["_law_k","_law_some","_law_draw"]:List Str) by symm))) (fun _ _ _ _=>fJ) (fun _ _ _ _=>(cG (ah 1) (aq iB hr rfl (qa (ah 2) (qa aj aa))))))) (iJ (Lm (ay (i:=6) bx.nd (aq iB hr rfl (qa (ah 0) (qa aj aa))))) (iJ (Ll (i:=7) bx.nd (Ru (xs:=["lets","ifs","order","rows","att","notes","calls","ends","outlet","bend","motor","modes"]) rfl)) (ZL (qs (ay (i:=8) bx.nd (cT (fq 40 (uE hr)) (aq iB hr rfl (qa (ah 0) (qa aj aa))) aj (aF _))) (qs (ay (i:=9) bx.nd (jR aa)) (qs (nK PassesOwn.never rfl (DM rfl J.uz (qa (ah 1) aa)) (qg (i:=10) bx.nd) (qs (vp (a0B (ah 2) (XN (Tn iP) (GO (aB aA (ah 6) (aB r8 aj (ah 10)))) a2q)) (VN (ah 5) (ah 4))) (qs (ay (i:=11) bx.nd (Pz Nr (qa (ah 5) aa))) (qs (cz (qw (zJ (jO (ah 8)) (ur (aP DY (ah 10) aj (aF _))))) (cA (ay (i:=11) bx.nd (cG (ah 7) (aB iP (aB aA (ah 10) (ah 6)) aj)))) bC) (qs (ay (i:=12) bx.nd aj) (qs (jc PassesOwn.never (qw (rV (aP Mp (ah 11) (ah 9) (by rfl)) (qS (aP Mp (ah 11) (PB EG hr rfl) (by rfl))))) (qs (VL (i:=12) bx.nd aj M1) (cA (ay (i:=11) bx.nd (T6 (XN WI (XN (Tn aA) Nr (GO (cG (ah 2) (aB iP (ah 12) aj)))) (GO (cG (ah 2) (aB iP (aB aA (ah 10) (ah 12)) aj))))))))) (cA (cB (rW (ah 9) (qa (ah 11) aa)))))))))) (cA (aK (ah 9)))))))))))))),fun ds S kk hc hd h=>?_⟩;obtain⟨d,m,rfl,hm8,hd,h⟩:=h;have hlt:=hd.lt;refine⟨_,rfl,d,8,rfl,hd,by first | decide | omega,fun r1 cr1 mr1 hr1=>?_⟩;refine⟨_,rfl,_,rfl,d,_,rfl,hd.qd,by omega,fun r2 cr2 mr2 hr2=>?_⟩;rw[Rv];refine⟨_,rfl,(1+(r1:Int)),rfl,by omega,by omega,?_⟩;have e1:(1+(r1:Int)).toNat=r1+1:=by omega
 rw[e1];refine X6 (n:=r1+1) hd (fun y=>∃x,y=T.str x/\CM x) (by omega) (fun i c9 m9 k' hk=>?_) fun ys c9 m9 hl hp=>?_
 .refine⟨_,rfl,_,rfl,d,26,rfl,hd.qd,by first | decide | omega,fun r cr mr hr=>?_⟩;rw[Rv];have h26:r<26:=by omega
  exact⟨uD,_,N2 h26,_,rfl,hk _ _ _ ⟨_,rfl,Gw h26⟩⟩
 obtain⟨ss,rfl,hsl,hs1⟩:=ex_map hp;rw[List.length_map] at hl;rw[eU];refine⟨_,rfl,d,26,rfl,hd.qd.up,by first | decide | omega,fun r3 cr3 mr3 hr3=>?_⟩;rw[GS (by rw[eU];exact hlt),Rv];refine⟨sz 12,_,rfl,d,3,rfl,hd.qd.up,by first | decide | omega,fun r4 cr4 mr4 hr4=>?_⟩;rw[GS (by rw[eU];exact hlt),Rv];refine⟨rfl,?_⟩;generalize hal:xor false (decide (V.int (r4:Int)=V.int 1))=al;refine⟨_,rfl,sz 0,?_⟩;rw[List.length_append,eU,List.append_assoc];generalize cr4=c;generalize mr4=m0;refine⟨_,rfl,(m:Int),rfl,by omega,by omega,?_⟩;rw[Int.toNat_natCast];refine Aj (fun i Z S'=>∃y z w,∃(bs:List T)(ss ns:List Str),Z=[some (D.ob d),some (D.int m),some (D.str Yv),some (D.int (1+(r1:Int))),some (D.int r2),some (D.ob (S.length+0)),some (D.int r3),some (D.t (lsN nC)),some (D.bl al),some (D.ob (S.length+1)),y,z,w]/\S'=qd S d c m0++[O.lst bs,O.lst (ns.map T.sn)]/\Paired IsT bs ss/\ss.length=r1+1/\(∀x∈ss,CM x)/\ns.length=i/\ns.Nodup/\∀x∈ns,isNm x=true) ⟨_,_,_,_,ss,[],rfl,rfl,Gz ss,by omega,hs1,rfl,.nil,fun _ h=>absurd h List.not_mem_nil⟩ ?_ ?_
 .rintro i x Z S' N hx ⟨y,z,w,bs,ss,ns,rfl,rfl,hbs,hsl,hs1,hnl,hnd,hnm⟩ hN;have hbl:bs.length=ss.length:=Paired.length hbs;have hi:i<m:=by
   have:=(List.getElem?_eq_some_iff.mp hx).1;simpa using this
  rw[List.getElem?_map,List.getElem?_range hi] at hx;cases hx;refine⟨trivial,_,rfl,_,rfl,_,rfl,.inl ⟨by decide,by decide⟩,(by show(0:Int)<26;decide),uD,_,AA _,_,rfl,_,rfl,S.length+0,r2,_,_,rfl,rfl,rfl,cK (q:=0) eU,by omega,?_⟩;obtain⟨bs',ss',hss,a2a,hon,a5W,Xq⟩:∃(bs':List T)(ss':List Str),(qd S d c m0++[O.lst bs,O.lst (ns.map T.sn)]).set (S.length+0) (O.lst (bs.set r2 (T.sn ⟨#[97+(((r3:Int)+5*(i:Int)) % 26).toNat]⟩)))=qd S d c m0++[O.lst bs',O.lst (ns.map T.sn)]/\Paired IsT bs' ss'/\(∀y,bs'=[y]->∃z,y=T.sn z)/\ss'.length=r1+1/\∀x∈ss',CM x:=by
   refine⟨bs.set r2 _,ss.set r2 ⟨#[97+(((r3:Int)+5*(i:Int)) % 26).toNat]⟩,?_,GA _ _ hbs,WB (by omega),by rw[List.length_set];exact hsl,fun x hx=>?_⟩
   .rw[<- eU (S:=S) (d:=d) (c:=c) (m:=m0),gp];rfl
   .rcases List.mem_or_eq_of_mem_set hx with hx | rfl
    .exact hs1 x hx
    .exact vQ _
  rw[hss];have hjo:=Xg Xq (by omega) (by omega);refine⟨rfl,_,rfl,bs',ss',gW (cK (q:=0) eU),a2a,hon,?_,?_⟩
  .rw[A4 ss' fun x hx=>(Xq x hx).len];show _+_*0<=_;omega
  dsimp only[dB];refine a4C (fun Z S'=>∃w0,Z=[some (D.ob d),some (D.int m),some (D.str Yv),some (D.int (1+(r1:Int))),some (D.int r2),some (D.ob (S.length+0)),some (D.int r3),some (D.t (lsN nC)),some (D.bl al),some (D.ob (S.length+1)),some (D.int i),some (D.sn w0),w]/\S'=qd S d c m0++[O.lst bs',O.lst (ns.map T.sn)]/\YV w0) (fun Nn hNn=>?_) ?_
  .show FA _ _ _ _ _;refine Ul al (decide ((i:Int)<12)) (fun k' hk=>⟨_,rfl,_,rfl,hk⟩) (fun k' hk=>⟨_,rfl,_,rfl,hk⟩) ?_;cases hb:(al&&decide ((i:Int)<12)) with
   |true=>
    obtain⟨x0,hx0,ex0⟩:=Q8 ((i:Int)+(r3:Int));exact⟨_,rfl,_,rfl,_,rfl,(by show(0:Int)<12;decide),_,_,rfl,ex0,hNn _ _ ⟨x0,rfl,rfl,hx0⟩⟩
   |false=>exact hNn _ _ ⟨_,rfl,rfl,hjo⟩
  rintro Z S' ⟨w0,rfl,rfl,hw0⟩;refine⟨fun mm Z S'=>∃(t:Nat)(w:Str),mm=30 - t/\Z=[some (D.ob d),some (D.int m),some (D.str Yv),some (D.int (1+(r1:Int))),some (D.int r2),some (D.ob (S.length+0)),some (D.int r3),some (D.t (lsN nC)),some (D.bl al),some (D.ob (S.length+1)),some (D.int i),some (D.sn w),some (D.int t)]/\S'=qd S d c m0++[O.lst bs',O.lst (ns.map T.sn)]/\YV w/\t<=10/\(1<=t->w=zt i t)/\∀s,s+1<t->zt i (s+1)∈ns,⟨30,0,w0,rfl,rfl,rfl,hw0,by omega,fun h=>absurd h (by decide),fun s h=>absurd h (by omega)⟩,?_⟩;rintro mm Z S' ⟨t,w,rfl,rfl,rfl,hw,ht,hz,hm⟩;have ht8:t<=9:=by
   have:=Ur (k:=(i:Int)) (xs:=ns) (n:=t - 1) (by omega) fun s hs=>hm s (by omega);omega
  refine a4T (decide (w∈ns)) (decide (w∈sr)) (fun k' hk=>⟨_,rfl,_,rfl,_,_,_,rfl,rfl,KN (cK (q:=1) eU),Ni ns,_,congrArg D.bl (by rw[Bool.false_xor,M5 (f:=V.sn) (fun _ _=>rfl)]),hk⟩) (fun k' hk=>⟨_,rfl,rfl,_,_,_,rfl,rfl,rfl,Ak sr,_,congrArg D.bl (by rw[Bool.false_xor,M5 (f:=V.str) (fun _ _=>rfl)]),hk⟩) ?_;cases hb:(decide (w∈ns)||decide (w∈sr)) with
  |true=>
   refine⟨fun Z' S'=>∃m',m' < 30 - t/\_,fun Z' S' h=>h,?_⟩;refine⟨(t:Int),rfl,1,rfl,_,rfl,_,rfl,(by show(0:Int)<26;decide),uD,_,AA _,sz 2,_,rfl,_,rfl,_,rfl,(by show(0:Int)<26;decide),uD,_,AA _,(by show 0<2;decide),(by show 0<1;decide),sz 3,30 - (t+1),by omega,t+1,zt i (t+1),rfl,rfl,rfl,a4h _ _,by omega,fun _=>rfl,fun s hs=>?_⟩;by_cases e:s+1=t
   .have hw2:=hz (by omega);rw[e,<- hw2];rcases Bool.or_eq_true_iff.mp hb with h | h
    .exact of_decide_eq_true h
    .exact absurd (of_decide_eq_true h) (by rw[hw2];exact C2 _ _)
   .exact hm s (by omega)
  |false=>
   have hb:=Bool.or_eq_false_iff.mp hb;have hwn:w∉ns:=of_decide_eq_false hb.1;refine⟨_,rfl,⟨rfl,_,gW (cK (q:=1) eU)⟩,_,rfl,_,cK (q:=1) eU,Oi (by rw[List.length_map];omega),?_⟩;have es:(qd S d c m0++[O.lst bs',O.lst (ns.map T.sn)]).set (S.length+1) (O.lst (ns.map T.sn++[T.sn w]))=qd S d c m0++[O.lst bs',O.lst ((ns++[w]).map T.sn)]:=by
    rw[<- eU (S:=S) (d:=d) (c:=c) (m:=m0),gp,List.map_append];rfl
   rw[es];refine hN _ _ ⟨_,_,_,bs',ss',ns++[w],rfl,rfl,a2a,a5W,Xq,by rw[List.length_append,hnl];rfl,?_,fun x hx=>?_⟩
   .rw[List.nodup_append];exact⟨hnd,by simp,fun a ha b hb=>by rw[List.mem_singleton.mp hb];exact fun z=>hwn (z ▸ ha)⟩
   .rcases List.mem_append.mp hx with hx | hx
    .exact hnm x hx
    .rw[List.mem_singleton.mp hx];exact a08 hw (of_decide_eq_false hb.2)
 .rintro Z S' ⟨y,z,w,bs,ss,ns,rfl,rfl,hbs,hsl,hs1,hnl,hnd,hnm⟩;rw[List.length_map,List.length_range] at hnl;exact⟨trivial,_,rfl,G8 (X8 hc) eU rfl (h ns c m0 hnl hnd hnm)⟩
noncomputable abbrev zz:Stmt:=top 59
theorem tZ:au ["words","at","name","rest","word","place"] ["words","at"] (ai zz):=fB
theorem Qv (F:dg K "read_let" "read_let" zz f fd)(J:Fx K mg A)(MQ:RZ P w K mg base k A)(aZ:cY P w K mg base k A)(av:aM P w K mg base k)(cE:fh P w K mg base k):aL P w K mg base c5 (k+1) f fd ["words","at"] (bR K (HC A isLt)):=by
 refine cj F tZ fun AT B outer s H E hr=>?_;rw[show ao zz=[_,_,_,_,_,_] from rfl];refine⟨_,(qs (cB (aq av hr rfl (qa (iN (cT DZ (aJ ck (by rfl) J.cu PySem.boot_len (qa (ah 0) aa)) aj (aF _)) (iN (aq cE hr rfl (qa (cG (ah 0) aj) aa)) (nv (cT (fq 40 (uE hr)) (cG (ah 0) aj) ak (aF _))))) (qa (ah 1) aa)))) (qs (ay (i:=2) tZ.nd (cG (ah 0) aj)) (qs (ay (i:=3) tZ.nd (iH false (ah 0) (br aj) bS)) (qs (nK PassesOwn.never rfl (qi (bq (qa ak (qa ak aa)))) (qg (i:=4) tZ.nd) (cA (cz (aP Mp (ah 4) (ah 3) (by rfl)) d8 bC))) (qs (cz (qw (zJ (aP DZ (aJ ck (by rfl) J.cu PySem.boot_len (qa (ah 3) aa)) aj (aF _)) (ur (aP (fq 40 (uE hr)) (cG (ah 3) aj) ak (aF _))))) d8 bC) (cA (aK (sS MQ hr rfl (qa (ah 1) (qa (ah 2) (qa (aq aZ hr rfl (qa (ah 3) (qa (ah 1) aa))) aa))))))))))),fun ds S kk hc hd h=>?_⟩;obtain⟨x,i,rfl,hk0,ok,h⟩:=h;cases x with
 |lt x a=>
  unfold SX.ok at ok;have ka:=ok.2.ok;have la:1<=a.w.length:=by show 1<=(gQ a.p a.r).length;rw[uP];omega
  have ln:3<((SX.lt x a).AU.map T.str).length:=by rw[List.length_map];show 3<a.w.length+3;omega
  refine⟨_,rfl,_,rfl,true,congrArg D.bl (decide_eq_true (by exact_mod_cast ln)),_,rfl,_,_,rfl,aY (j:=1) rfl,x,rfl,by have:=b4 ok.1;omega,true,congrArg D.bl ok.1,_,rfl,_,_,rfl,aY (j:=2) rfl,rfl,_,rfl,_,congrArg (fun b=>[D.bl b,D.int i]) (seq rfl),?_⟩;refine⟨_,rfl,_,_,rfl,aY (j:=1) rfl,?_⟩;dsimp only[dB];refine⟨_,rfl,3,rfl,_,rfl,?_⟩;rw[if_neg (by decide),show(3:Int)=((3:Nat):Int) from rfl,yu,<- List.map_drop,show(SX.lt x a).AU.drop 3=a.w from rfl];dsimp only[dB];refine⟨_,rfl,sz 2,a1Z ⟨trivial,?_⟩⟩;refine⟨_,rfl,_,rfl,Xo (ws:=a.w) rfl ⟨false,congrArg D.bl (show(false ^^ decide (("div":Str)∈a.w))=false by rw[decide_eq_false (fun z=>(ok.2.wd _ z).kw "div" (by symm) rfl)];rfl),trivial,?_⟩⟩;refine⟨_,rfl,_,rfl,Xo (ws:=a.w) rfl ⟨false,congrArg D.bl (show(false ^^ decide (("mod":Str)∈a.w))=false by rw[decide_eq_false (fun z=>(ok.2.wd _ z).kw "mod" (by symm) rfl)];rfl),trivial,?_⟩⟩;have hr1:∀z:Str,a.w[1]?=some z->z≠("at":Str):=fun z hz=>(ok.2.wd z (List.mem_of_getElem? hz)).kw "at";have done:∀E Z,Z[1]?=some (some (D.int i))->Z[2]?=some (some (D.str x))->Z[3]?=some (some (D.lst (a.w.map T.str)))->E=endsF S kk->(uN (qL A.i6 (CV A.i6 ["at","name","total"]) (bD (dF 1) (bD (dF 2) (bD (uO (KW A) (bD (dF 3) (bD (dF 1) bQ))) bQ))))) E Z S:=fun E Z e1 e2 e3 eE=>by
   subst eE;refine⟨_,e1,_,e2,_,e3,_,e1,a.p,a.r,a.ws,_,rfl,ka.len,ka.fst,ka.pl,ka.pc,ka.bd,_,[.int i,.str x,xx A (xw a.ws)],rfl,rfl,aI,made (iQ ?_)⟩;unfold SX.st ZK at h;exact h
  by_cases h2:1<a.w.length
  .obtain⟨z,hz⟩:∃z,a.w[1]?=some z:=⟨a.w[1],List.getElem?_eq_getElem h2⟩
   refine⟨_,rfl,_,rfl,true,congrArg D.bl (decide_eq_true (by rw[List.length_map];exact_mod_cast h2)),?_⟩;dsimp only;rw[if_pos rfl];refine⟨_,rfl,_,T.str z,rfl,aY (j:=1) (by rw[List.getElem?_map,hz];rfl),rfl,false,congrArg D.bl (Ba (hr1 z hz)),?_⟩;exact done _ _ rfl rfl rfl rfl
  .refine⟨_,rfl,_,rfl,false,congrArg D.bl (decide_eq_false (by rw[List.length_map];exact_mod_cast h2)),?_⟩;exact done _ _ rfl rfl rfl rfl
 |_=>cases hk0
noncomputable abbrev DI:Stmt:=kK
theorem O6:au ["truth","at"] ["truth","at"] (ai DI):=xZ
theorem Qx {j:Nat}{fI:Addr}{bm:List Value}{fdI:FuncData}(XC:xH K A.az fI bm)(hj:j+1<=k)(FI:aL P w K mg base c5 j fI fdI ["self","at"] (K3 A.az))(bI:L2.Binds K fdI ["self","at"] [])(F:dg K "refuse_unless" "refuse_unless" DI f fd)(J:Fx K mg A) :aL P w K mg base (qE P w A.az) (k+1) f fd ["truth","at"] (CY K u5):=by
 refine An F O6 fun AT B outer s H g hr=>?_;rw[show ao DI=[_] from rfl];refine⟨_,(cA (cz (qT (jO (ah 0))) (cA (Lu XC FI (hr.mono hj) rfl J.jm bI VD (qa (ah 1) aa))) bC)),fun ds S kk hc hd hg h=>?_⟩;obtain⟨b,n,rfl,hn,h1,h2⟩:=h;refine⟨_,rfl,_,rfl,?_⟩;cases b with
 |true=>exact iQ (h1 rfl)
 |false=>exact⟨_,rfl,n,rfl,hn,hg,h2 rfl⟩
noncomputable abbrev zu:Stmt:=vh
theorem Lj:au ["self"] ["self"] (ai zu):=FO
theorem Mf (F:dg K "take" "Rows.take" zu f fd)(J:Fx K mg A)(aT:uH P w K mg base A.az k "refuse_unless" ["truth","at"] u5):aL P w K mg base (qE P w A.az) (k+1) f fd ["self"] (CY K (yY A)):=by
 refine An F Lj fun AT B outer s H g hr=>?_;rw[show ao zu=[_,_,_] from rfl];refine⟨_,(qs (cB (cH aT dM hr rfl (qa (cT DY (bM (ah 0) rfl) (aJ ck (by rfl) J.cu PySem.boot_len (qa (bM (ah 0) rfl) aa)) (aF _)) (qa (bM (ah 0) rfl) aa)))) (qs (aU (ah 0) (aB aA (bM (ah 0) rfl) aj) rfl) (cA (aK (cG (bM (ah 0) rfl) (aB BI (bM (ah 0) rfl) aj)))))),fun ds S kk hc hd hg h=>?_⟩;obtain⟨n,R,i,rfl,h1,hi,hor⟩:=h;have lt:=AW h1;refine⟨_,rfl,_,_,_,_,aG h1,rfl,_,rfl,_,_,_,_,aG h1,rfl,_,rfl,_,rfl,_,_,_,_,aG h1,rfl,hg,_,_,rfl,by omega,fun hb=>?_,fun hb=>?_⟩
 .have li:i<R.length:=by simpa using hb
  rcases hor with⟨ws,hw,h⟩ | ⟨hl,_⟩
  .refine⟨_,rfl,_,_,_,_,aG h1,rfl,_,rfl,n,_,_,_,rfl,h1,J.fV,by decide,?_⟩;refine⟨_,rfl,_,_,_,_,aG (eT lt),rfl,_,rfl,_,_,_,_,aG (eT lt),rfl,_,_,rfl,?_,iQ h⟩;show oM (R.map fun ws=>T.lst (ws.map T.str)) ((i:Int)+1 - 1)=_;rw[Int.add_sub_cancel];exact aY (j:=i) (by rw[List.getElem?_map,hw];rfl)
  .omega
 .have li:¬ i<R.length:=by simpa using hb
  rcases hor with⟨ws,hw,h⟩ | ⟨hl,h⟩
  .exact absurd (List.getElem?_eq_some_iff.mp hw).1 li
  .exact h
noncomputable abbrev uf:Stmt:=inClass (top 51) 3
theorem Be:au ["self","word","at"] ["self","word"] (ai uf):=fB
theorem Mg (F:dg K "take_just" "Rows.take_just" uf f fd)(J:Fx K mg A)(aT:uH P w K mg base A.az k "refuse_unless" ["truth","at"] u5)(uJ:C0 P w K mg base A.az k A.cO "take" ["self"] (yY A)):aL P w K mg base (qE P w A.az) (k+1) f fd ["self","word"] (CY K (xY A)):=by
 refine An F Be fun AT B outer s H g hr=>?_;rw[show ao uf=[_,_] from rfl];refine⟨_,(qs (ay (i:=2) Be.nd (bM (ah 0) rfl)) (cA (cB (cH aT dM hr rfl (qa (cT (a00 (uE hr)) (vv (ah 0) uJ dM hr) (eB (qa (ah 1) aa)) (aF _)) (qa (ah 2) aa)))))),fun ds S kk hc hd hg h=>?_⟩;obtain⟨n,R,i,w,rfl,h1,hi,hor⟩:=h;have lt:=AW h1;refine⟨_,rfl,_,_,_,_,aG h1,rfl,?_⟩;dsimp only[dB];rcases hor with⟨hw,h⟩ | ⟨hl,h⟩ | ⟨z,hw,hz,h⟩
 .refine⟨_,rfl,_,_,aG h1,by symm,hg,n,R,i,rfl,h1,hi,.inl ⟨_,hw,?_⟩⟩;refine⟨_,rfl,_,rfl,sz 1,_,_,rfl,rfl,_,rfl,Jd hg h1,_,_,rfl,by omega,fun _=>iQ h,fun e=>?_⟩;rw[decide_eq_true rfl] at e;cases e
 .exact⟨_,rfl,_,_,aG h1,by symm,hg,n,R,i,rfl,h1,hi,.inr ⟨hl,h⟩⟩
 .refine⟨_,rfl,_,_,aG h1,by symm,hg,n,R,i,rfl,h1,hi,.inl ⟨_,hw,?_⟩⟩;refine⟨_,rfl,_,rfl,sz 1,_,_,rfl,rfl,_,rfl,Jd hg h1,_,_,rfl,by omega,fun e=>?_,fun _=>h⟩;rw[decide_eq_false hz] at e;cases e
noncomputable abbrev zD:Stmt:=top 53
theorem ze:au ["source","at","answers"] ["source"] (ai zD):=fB
theorem QB (F:dg K "read_answers" "read_answers" zD f fd)(J:Fx K mg A)(av:aM P w K mg base k)(cE:fh P w K mg base k)(k7:oB P w K mg base k A)(c7:fP P w K mg base k A):aL P w K mg base c5 (k+1) f fd ["source"] (bR K (SG A)):=by
 refine cj F ze fun AT B outer s H E hr=>?_;rw[show ao zD=[_,_,_,_,_] from rfl];refine⟨_,(qs (cz (aP (mF 40 (uE hr)) (bT (ah 0) c7 hr) ak (aF _)) (cA (aK (eB aa))) bC) (qs (ay (i:=1) ze.nd (bM (ah 0) rfl)) (qs (ay (i:=2) ze.nd (iH false (bT (ah 0) k7 hr) (br aj) bS)) (qs (cB (aq av hr rfl (qa (iN (cT DZ (aJ ck (by rfl) J.cu PySem.boot_len (qa (ah 2) aa)) aj (aF _)) (nv (aJ (CF rfl) (by rfl) J.CG boot_all (qa (ie (bY ["word"] [] [] rfl (by symm) (by symm) (by with_unfolding_all rfl) (by exact trivial) (by rfl) rfl (by rfl)) rfl (qi (ah 2)) (fun _ _ _ _=>(qx (i:=0) (show List.Nodup (["word"]:List Str) by symm))) (fun _ _ _ _=>fJ) (fun _ _ _ _=>(aq cE hr rfl (qa (ah 0) aa)))) aa)))) (qa (ah 1) aa)))) (cA (aK (ah 2))))))),fun ds S kk hc hd h=>?_⟩;obtain⟨n,R,i,ks,rfl,src,TU,h⟩:=h;have h1:=src.at_;have lt:=AW h1;by_cases ha:(b9 ks).head?=some .an
 .rw[if_pos ha] at h;cases ks with
  |nil=>cases ha
  |cons p ks=>
  have hp:p.1=.an:=by simpa using ha
  obtain⟨q1,q2,q3,q4⟩:=src.hd1;rw[hp] at q3;obtain⟨ans,e,h0,hn,hl⟩:=q3;have hw:R[i]?=some (("answers":Str)::ans):=by rw[q1,e]
  refine⟨_,rfl,0,_,_,by decide,aG h1,by symm,n,R,i,rfl,h1,(fun hl=>src.ne hl),rfl,false,congrArg D.bl (xF ((src.cm (q:=.an) (by decide) TU).mpr ha)),?_⟩;dsimp only;rw[if_neg (by decide)];refine⟨_,rfl,_,_,_,_,aG h1,rfl,?_⟩;dsimp only[dB];refine⟨_,rfl,0,_,_,by decide,aG h1,by symm,n,R,i,_,rfl,h1,hw,1,rfl,_,rfl,?_⟩;rw[if_neg (by decide),List.map_cons,lE];dsimp only[dB];have hl0:0<ans.length:=List.length_pos_iff.mpr h0;refine⟨_,rfl,_,rfl,true,congrArg D.bl (decide_eq_true (by simpa using hl0)),?_⟩;rw[if_pos rfl];refine⟨_,rfl,vZ (jY T.str (fun x=>T.bl (isNm x)) trivial (nI (by omega)) (fun x hx k' hk=>?_) ?_)⟩
  .exact⟨_,rfl,x,rfl,by have:=b4 (hn x hx);omega,_,rfl,hk⟩
  refine⟨ans.map isNm,by rw[List.map_map];rfl,_,rfl,_,congrArg (fun b=>[D.bl b,D.int i]) (by show(ans.map isNm).all _root_.id=true;rw[List.all_map,List.all_eq_true];exact hn),_,rfl,iQ (h _ (by rw[List.length_map];exact hl))⟩
 .rw[if_neg ha] at h;refine⟨_,rfl,0,_,_,by decide,aG h1,by symm,n,R,i,rfl,h1,(fun hl=>src.ne hl),rfl,true,congrArg D.bl (xT fun e=>ha ((src.cm (q:=.an) (by decide) TU).mp e)),?_⟩;dsimp only;rw[if_pos rfl];refine⟨[],rfl,sz 0,iQ ?_⟩;have:=h [] (by simp);rw[Nat.add_zero,set_same h1] at this;exact this
noncomputable abbrev zq:Stmt:=top 54
theorem zd:au ["source","word","found","at"] ["source","word"] (ai zq):=fB
theorem Qq (F:dg K "read_writings" "read_writings" zq f fd)(J:Fx K mg A)(c7:fP P w K mg base k A)(fM:jv P w K mg base k A)(k7:oB P w K mg base k A):aL P w K mg base c5 (k+1) f fd ["source","word"] (bR K (SE A)):=by
 refine cj F zd fun AT B outer s H E hr=>?_;rw[show ao zq=[_,_,_] from rfl];refine⟨_,(qs (ay (i:=2) zd.nd (jR aa)) (qs (jc PassesOwn.never (aP (fq 40 (uE hr)) (bT (ah 0) c7 hr) (ah 1) (aF _)) (qs (ay (i:=3) zd.nd (bM (ah 0) rfl)) (cA (cB (rW (ah 2) (qa (bq (qa (ah 3) (qa (aq fM hr rfl (qa (iH false (bT (ah 0) k7 hr) (br aj) bS) (qa (ah 3) aa))) aa))) aa)))))) (cA (aK (ah 2))))),fun ds S kk hc hd h=>?_⟩;obtain⟨n,R,i,ks,q,rfl,hq,src,TU,h⟩:=h;have h1:=src.at_;have lt:=AW h1;have hq2:q∈fwQ:=by simp at hq;rcases hq with rfl | rfl | rfl<;>decide
 have hqo:q≠.ot:=by simp at hq;rcases hq with rfl | rfl | rfl<;>decide
 have cle:=lF q (b9 ks);rw[List.length_map] at cle;have kl:ks.length<=100:=by have:=src.len;have:=src.max;omega
 have e0:S=S.set n (ez A R i):=(set_same h1).symm;refine⟨[],rfl,sz 0,?_⟩;dsimp only[dB];refine⟨fun m Z S'=>∃(z:Option D)(j:Nat)(l1:List (Int×xj)),j<=cnt q (b9 ks)/\m=cnt q (b9 ks) - j/\l1.length=j/\Z=[some (D.ob n),some (D.str (sX q)),some (D.ob (S.length+0)),z]/\S'=S.set n (ez A R (i+j))++[O.lst (l1.map (atT A))],⟨_,_,0,[],Nat.zero_le _,rfl,rfl,rfl,?_⟩,?_⟩
 .show S++[O.lst []]=S.set n (ez A R i)++[O.lst []];rw[<- e0]
 rintro m Z S' ⟨z,j,l1,hj,rfl,hl1,rfl,rfl⟩;have dJ:Src A (S.set n (ez A R (i+j))++[O.lst (l1.map (atT A))]) n R (i+j) (ks.drop j):=src.go (by omega) (gA lt);by_cases hjc:j=cnt q (b9 ks)
 .have hh:(b9 (ks.drop j)).head?≠some q:=by rw[bK,hjc];exact NK
  have Eg:yi (b9 (ks.drop j))=true:=by rw[bK,hjc];exact TU
  refine⟨_,rfl,0,_,_,by decide,aG (gA lt),by symm,n,R,_,rfl,gA lt,(fun hl=>dJ.ne hl),_,rfl,rfl,false,congrArg D.bl (Ba fun e=>hh ((dJ.cm hq2 Eg).mp e)),?_⟩;dsimp only;rw[if_neg (by decide)];rw[<- hjc] at h;exact⟨_,rfl,G8 (G6 hc) xA rfl (h l1 (by omega))⟩
 .have hjl:j<cnt q (b9 ks):=by omega
  have hh:(b9 (ks.drop j)).head?=some q:=by rw[bK];exact NL hjl
  have Eg:yi (b9 (ks.drop j))=true:=WR hh hqo;cases e:ks.drop j with
  |nil=>rw[e] at hh;cases hh
  |cons p r=>
  rw[e] at dJ hh;have hp:p.1=q:=by simpa using hh
  obtain⟨q1,q2,q3,q4⟩:=dJ.hd1;rw[hp] at q3;obtain⟨c,ec,ok⟩:=Ln (by simp at hq;rcases hq with rfl | rfl | rfl<;>decide) q3;rw[e] at Eg;refine⟨_,rfl,0,_,_,by decide,aG (gA lt),by symm,n,R,_,rfl,gA lt,(fun hl=>dJ.ne hl),_,rfl,rfl,true,congrArg D.bl (seq ((dJ.cm hq2 Eg).mpr hh)),?_⟩;dsimp only;rw[if_pos rfl];refine⟨fun Z' S'=>∃z,Z'=[some (D.ob n),some (D.str (sX q)),some (D.ob (S.length+0)),z]/\S'=S.set n (ez A R (i+(j+1)))++[O.lst ((l1++[(((i+j:Nat):Int),c.cd)]).map (atT A))],?_,?_⟩
  .rintro Z' S' ⟨z,rfl,rfl⟩;exact⟨cnt q (b9 ks) - (j+1),by omega,z,j+1,_,hjl,rfl,by rw[List.length_append,hl1];rfl,rfl,rfl⟩
  refine⟨_,rfl,_,_,_,_,aG (gA lt),rfl,?_⟩;dsimp only[dB];refine⟨_,rfl,⟨rfl,_,gW (cK (q:=0) xA)⟩,_,rfl,_,rfl,0,_,_,by decide,aG (gA lt),by symm,n,R,_,_,rfl,gA lt,q1,1,rfl,_,rfl,?_⟩;rw[if_neg (by decide),sA lt,ec];unfold Oh;rw[List.map_cons,lE];refine⟨_,rfl,c,_,rfl,ok.1,ok.2,ok.b,by have:=ok.ln;omega,_,rfl,sz 2,_,cK (q:=0) xA,Oi (by rw[List.length_map,hl1];omega),?_⟩;rw[<- xA (S:=S) (n:=n) (o:=ez A R (i+j+1)),gp];refine⟨_,rfl,?_⟩;rw[List.map_append];rfl
noncomputable abbrev ua:Stmt:=top 55
theorem Bc:au ["source","steps"] ["source"] (ai ua):=fB
theorem BA {Q:List Kd->Rs}{fu:Nat}(F:dg K "read_steps" "read_steps" ua f fd)(J:Fx K mg A)(c7:fP P w K mg base k A)(A2:uH P w K mg base A.az k "read_step" ["source"] (ZQ A Q)):aL P w K mg base (qE P w A.az) (k+1) f fd ["source"] (CY K (uX A (sM Q fu))):=by
 refine An F Bc fun AT B outer s H g hr=>?_;rw[show ao ua=[_,_,_] from rfl];refine⟨_,(qs (ay (i:=1) Bc.nd (jR aa)) (qs (jc PassesOwn.leaving (aP Gs (bT (ah 0) c7 hr) (bq (qa ak (qa ak aa))) (by rfl)) (cA (cB (rW (ah 1) (qa (cH A2 dM hr rfl (qa (ah 0) aa)) aa))))) (cA (aK (ah 1))))),fun ds S kk hc hd hg h=>?_⟩;obtain⟨n,R,i,ks,rfl,src,h⟩:=h;have h1:=src.at_;have lt:=AW h1;have kl:ks.length<=100:=by have:=src.len;have:=src.max;omega
 have e0:S=S.set n (ez A R i):=(set_same h1).symm;refine⟨[],rfl,sz 0,?_⟩;dsimp only[dB];refine⟨fun m Z S'=>∃(j f:Nat)(l1:List T),j<=ks.length/\m=ks.length - j/\(l1=[]↔j=0)/\l1.length<=j/\Z=[some (D.ob n),some (D.ob (S.length+0))]/\S'=S.set n (ez A R (i+j))++[O.lst l1]/\sM Q fu (b9 ks)=(sM Q f (b9 (ks.drop j))).sh j,⟨_,0,fu,[],Nat.zero_le _,rfl,by simp,Nat.le_refl _,rfl,?_,?_⟩,?_⟩
 .show S++[O.lst []]=S.set n (ez A R i)++[O.lst []];rw[<- e0]
 .show sM Q fu (b9 ks)=(sM Q fu (b9 ks)).sh 0;cases sM Q fu (b9 ks)<;>simp[Rs.sh]
 rintro m Z S' ⟨j,f,l1,hj,rfl,hl1,hl2,rfl,rfl,he⟩;have dJ:Src A (S.set n (ez A R (i+j))++[O.lst l1]) n R (i+j) (ks.drop j):=src.go hj (gA lt);rw[he] at h;have Eg:yi (b9 (ks.drop j))=true:=by
  cases f with
  |zero=>exact h.elim
  |succ f=>
   cases e:b9 (ks.drop j) with
   |nil=>rfl
   |cons a r=>
    rw[e] at h;cases a<;>first | rfl | exact h.elim
 cases f with
 |zero=>exact h.elim
 |succ f=>
 rw[U3] at h he;cases hee:Rj (b9 (ks.drop j)) with
 |true=>
  rw[hee,if_pos rfl] at h;have hin:(R.getD (i+j) []).headD ""∈[("end":Str),"else"]:=(Nq dJ Eg).mpr hee;refine⟨_,rfl,0,_,_,by decide,aG (gA lt),by symm,n,R,_,rfl,gA lt,(fun hl=>dJ.ne hl),_,rfl,sz 2,_,_,_,rfl,rfl,rfl,rfl,false,congrArg D.bl (by show(true ^^ Je (V.str _) ([("end":Str),"else"].map V.str))=false;rw[gI,decide_eq_true hin];rfl),?_⟩;dsimp only;rw[if_neg (by decide)];have h:∀l:List T,(l=[]↔j=0)->l.length<=100->kk (.lst l) (S.set n (ez A R (i+j))):=h;exact⟨_,rfl,G8 (G6 hc) xA rfl (h l1 hl1 (by omega))⟩
 |false=>
  rw[hee,if_neg (by decide)] at h he;have hin:¬(R.getD (i+j) []).headD ""∈[("end":Str),"else"]:=fun z=>by rw[(Nq dJ Eg).mp z] at hee;cases hee
  refine⟨_,rfl,0,_,_,by decide,aG (gA lt),by symm,n,R,_,rfl,gA lt,(fun hl=>dJ.ne hl),_,rfl,sz 2,_,_,_,rfl,rfl,rfl,rfl,true,congrArg D.bl (by show(true ^^ Je (V.str _) ([("end":Str),"else"].map V.str))=true;rw[gI,decide_eq_false hin];rfl),?_⟩;dsimp only;rw[if_pos rfl];have IK:(S.set n (ez A R (i+j))++[O.lst l1])[0]?=some g.m:=mkA (Jd hg h1);cases hs:Dy Q (b9 (ks.drop j)) with
  |ok m=>
   rw[hs] at h he;obtain⟨m1,m2⟩:=U4 hs;rw[List.length_map,List.length_drop] at m1;refine⟨fun Z' S'=>∃t:T,Z'=[some (D.ob n),some (D.ob (S.length+0))]/\S'=S.set n (ez A R (i+(j+m)))++[O.lst (l1++[t])],?_,?_⟩
   .rintro Z' S' ⟨t,rfl,rfl⟩;refine⟨ks.length - (j+m),by omega,j+m,f,l1++[t],by omega,rfl,⟨fun z=>by simp at z,fun z=>by omega⟩,by simp;omega,rfl,rfl,?_⟩;rw[he,bK,bK,<- List.drop_drop];dsimp only;cases sM Q f (((b9 ks).drop j).drop m)<;>simp[Rs.sh,Nat.add_assoc]
   refine⟨_,rfl,⟨rfl,_,gW (cK (q:=0) xA)⟩,_,rfl,IK,n,R,i+j,ks.drop j,rfl,dJ,?_⟩;rw[hs];intro t;rw[sA lt];refine⟨_,cK (q:=0) xA,Oi (by omega),?_⟩;rw[<- xA (S:=S) (n:=n) (o:=ez A R (i+j+m)),gp];exact⟨t,rfl,by rw[Nat.add_assoc];rfl⟩
  |er m=>
   rw[hs] at h;refine⟨fun _ _=>False,fun _ _ z=>z.elim,_,rfl,⟨rfl,_,gW (cK (q:=0) xA)⟩,_,rfl,IK,n,R,i+j,ks.drop j,rfl,dJ,?_⟩;rw[hs];have h:g.x ((i+(j+m):Nat):Int):=h;rw[<- Nat.add_assoc] at h;exact h
  |uk=>rw[hs] at h;exact h.elim
noncomputable abbrev uc:Stmt:=top 56
theorem u7:au ["source","at","words"] ["source"] (ai uc):=fB
theorem BB {Q:List Kd->Rs}(F:dg K "read_step" "read_step" uc f fd)(J:Fx K mg A)(aT:uH P w K mg base A.az k "refuse_unless" ["truth","at"] u5)(xo:uH P w K mg base A.az k "read_repeat" ["source","condition","at"] (ZS A Q))(fM:jv P w K mg base k A)(xr:uH P w K mg base A.az k "read_choose" ["source","condition","at"] (Z0 A Q))(CB:xN P w K mg base k A)(ED:AG P w K mg base k A)(EE:AI P w K mg base k A)(uJ:C0 P w K mg base A.az k A.cO "take" ["self"] (yY A)):aL P w K mg base (qE P w A.az) (k+1) f fd ["source"] (CY K (ZQ A Q)):=by
 refine An F u7 fun AT B outer s H g hr=>?_;rw[show ao uc=[_,_,_,_,_,_,_,_,_,_] from rfl];refine⟨_,(qs (ay (i:=1) u7.nd (bM (ah 0) rfl)) (qs (ay (i:=2) u7.nd (vv (ah 0) uJ dM hr)) (qs (cz (aP (fq 40 (uE hr)) (cG (ah 2) aj) ak (aF _)) (cA (aK (aq EE hr rfl (qa (ah 2) (qa (ah 1) aa))))) bC) (qs (cz (aP (fq 40 (uE hr)) (cG (ah 2) aj) ak (aF _)) (cA (aK (aq ED hr rfl (qa (ah 2) (qa (ah 1) aa))))) bC) (qs (cz (aP (fq 40 (uE hr)) (cG (ah 2) aj) ak (aF _)) (cA (aK (aq CB hr rfl (qa (ah 2) (qa (ah 1) aa))))) bC) (qs (cz (aP (fq 40 (uE hr)) (cG (ah 2) aj) ak (aF _)) d8 bC) (qs (cz (aP (fq 40 (uE hr)) (cG (ah 2) aj) ak (aF _)) (cA (aK (cH xr dM hr rfl (qa (ah 0) (qa (aq fM hr rfl (qa (iH false (ah 2) (br aj) bS) (qa (ah 1) aa))) (qa (ah 1) aa)))))) bC) (qs (cz (aP (fq 40 (uE hr)) (cG (ah 2) aj) ak (aF _)) (cA (aK (cH xo dM hr rfl (qa (ah 0) (qa (aq fM hr rfl (qa (iH false (ah 2) (br aj) bS) (qa (ah 1) aa))) (qa (ah 1) aa)))))) bC) (qs (cB (cH aT dM hr rfl (qa (cT (fq 40 (uE hr)) (cG (ah 2) aj) ak (aF _)) (qa (ah 1) aa)))) (cA VJ)))))))))),fun ds S kk hc hd hg h=>?_⟩;obtain⟨n,R,i,ks,rfl,src,h⟩:=h;have h1:=src.at_;have lt:=AW h1;have il:=src.il;refine⟨_,rfl,_,_,_,_,aG h1,rfl,?_⟩;dsimp only[dB];cases ks with
 |nil=>exact⟨_,rfl,_,_,aG h1,by symm,hg,n,R,i,rfl,h1,by omega,.inr ⟨src.hd0.2,h⟩⟩
 |cons p ks=>
 obtain⟨q1,q2,q3,q4⟩:=src.hd1;obtain⟨kq,w⟩:=p;dsimp only at q1 q3;refine⟨_,rfl,_,_,aG h1,by symm,hg,n,R,i,rfl,h1,by omega,.inl ⟨_,q1,?_⟩⟩;dsimp only[dB];have IK:=Jd (o:=ez A R (i+1)) hg h1;have dJ:Src A (S.set n (ez A R (i+1))) n R (i+1) ks:=src.go (m:=1) (by simp) (eT lt);by_cases hk:kq∈erK
 .obtain⟨ws,rfl⟩:=Bm q3 (T7 hk).1 (T7 hk).2;have no:=a2i kq hk;rw[show b9 ((kq,_)::ks)=kq::b9 ks from rfl,XF hk] at h;refine⟨_,rfl,_,_,rfl,qm,rfl,false,congrArg D.bl (Ba (no "let" (by symm))),_,rfl,_,_,rfl,qm,rfl,false,congrArg D.bl (Ba (no "put" (by symm))),_,rfl,_,_,rfl,qm,rfl,false,congrArg D.bl (Ba (no "row" (by symm))),_,rfl,_,_,rfl,qm,rfl,false,congrArg D.bl (Ba (no "claim" (by symm))),_,rfl,_,_,rfl,qm,rfl,false,congrArg D.bl (Ba (no "if" (by symm))),_,rfl,_,_,rfl,qm,rfl,false,congrArg D.bl (Ba (no "while" (by symm))),_,rfl,_,_,rfl,qm,rfl,_,rfl,IK,_,_,rfl,by omega,fun e=>?_,fun _=>h⟩;rw[Ba (no "call" (by symm))] at e;cases e
 cases kq with
 |st=>
  obtain⟨x,rfl,ok,hx⟩:=q3;have h:∀t:T,kk (.t t) (S.set n (ez A R (i+1))):=h;cases x with
  |lt x a=>exact⟨_,rfl,_,_,rfl,qm,rfl,true,Tf,_,rfl,_,rfl,.lt x a,i,rfl,trivial,ok,iQ (h _)⟩
  |pt r p s=>exact⟨_,rfl,_,_,rfl,qm,rfl,false,HJ,_,rfl,_,_,rfl,qm,rfl,true,Tf,_,rfl,_,rfl,.pt r p s,i,rfl,trivial,ok,iQ (h _)⟩
  |mq r z=>exact⟨_,rfl,_,_,rfl,qm,rfl,false,HJ,_,rfl,_,_,rfl,qm,rfl,false,HJ,_,rfl,_,_,rfl,qm,rfl,true,Tf,_,rfl,_,rfl,.mq r z,i,rfl,trivial,ok,iQ (h _)⟩
  |_=>rcases hx with z | z | z<;>cases z
 |iF=>
  obtain⟨c,rfl,ok⟩:=Ln (q:=.iF) (by decide) q3;refine⟨_,rfl,_,_,rfl,qm,rfl,false,HJ,_,rfl,_,_,rfl,qm,rfl,false,HJ,_,rfl,_,_,rfl,qm,rfl,false,HJ,_,rfl,_,_,rfl,qm,rfl,false,HJ,_,rfl,_,_,rfl,qm,rfl,true,Tf,_,rfl,_,rfl,1,rfl,_,rfl,?_⟩;rw[if_neg (by decide)];unfold Oh;rw[List.map_cons,lE];refine⟨_,rfl,c,_,rfl,ok.1,ok.2,ok.b,by have:=ok.ln;omega,_,rfl,IK,n,R,i+1,ks,_,_,rfl,dJ,?_⟩;exact vn h fun j S' z t=>iQ (z t)
 |wh=>
  obtain⟨c,rfl,ok⟩:=Ln (q:=.wh) (by decide) q3;refine⟨_,rfl,_,_,rfl,qm,rfl,false,HJ,_,rfl,_,_,rfl,qm,rfl,false,HJ,_,rfl,_,_,rfl,qm,rfl,false,HJ,_,rfl,_,_,rfl,qm,rfl,false,HJ,_,rfl,_,_,rfl,qm,rfl,false,HJ,_,rfl,_,_,rfl,qm,rfl,true,Tf,_,rfl,_,rfl,1,rfl,_,rfl,?_⟩;rw[if_neg (by decide)];unfold Oh;rw[List.map_cons,lE];refine⟨_,rfl,c,_,rfl,ok.1,ok.2,ok.b,by have:=ok.ln;omega,_,rfl,IK,n,R,i+1,ks,_,_,rfl,dJ,?_⟩;exact vn h fun j S' z t=>iQ (z t)
 |ot=>exact h.elim
 |en=>exact h.elim
 |el=>exact h.elim
 |_=>exact absurd (by decide) hk
noncomputable abbrev uo:Stmt:=top 57
theorem pK:au ["source","condition","at","then","other"] ["source","condition","at"] (ai uo):=fB
theorem BD {Q:List Kd->Rs}(F:dg K "read_choose" "read_choose" uo f fd)(J:Fx K mg A)(vX:EY P w K mg base k A)(ff:C0 P w K mg base A.az k A.cO "take_just" ["self","word"] (xY A))(c7:fP P w K mg base k A)(aT:uH P w K mg base A.az k "refuse_unless" ["truth","at"] u5)(dZ:uH P w K mg base A.az k "read_steps" ["source"] (uX A Q)):aL P w K mg base (qE P w A.az) (k+1) f fd ["source","condition","at"] (CY K (Z0 A Q)):=by
 refine An F pK fun AT B outer s H g hr=>?_;rw[show ao uo=[_,_,_,_,_] from rfl];refine⟨_,(qs (ay (i:=3) pK.nd (cH dZ dM hr rfl (qa (ah 0) aa))) (qs (ay (i:=4) pK.nd (eB aa)) (qs (cz (aP (fq 40 (uE hr)) (bT (ah 0) c7 hr) ak (aF _)) (qs (cB (uu (ah 0) ff dM hr (qa ak aa))) (qs (ay (i:=4) pK.nd (cH dZ dM hr rfl (qa (ah 0) aa))) (cA (cB (cH aT dM hr rfl (qa (cT DZ (aJ ck (by rfl) J.cu PySem.boot_len (qa (ah 4) aa)) aj (aF _)) (qa (bM (ah 0) rfl) aa))))))) bC) (qs (cB (uu (ah 0) ff dM hr (qa ak aa))) (cA (aK (sS vX hr rfl (qa (ah 2) (qa (ah 1) (qa (ah 3) (qa (ah 4) aa))))))))))),fun ds S kk hc hd hg h=>?_⟩;obtain⟨n,R,i,ks,c,a,rfl,src,h⟩:=h;have h1:=src.at_;have lt:=AW h1;refine⟨_,rfl,hg,n,R,i,ks,rfl,src,?_⟩;unfold chs at h;cases hQ:Q (b9 ks) with
 |uk=>rw[hQ] at h;exact h
 |er m=>rw[hQ] at h;exact h
 |ok m=>
 rw[hQ] at h;intro l hl1 hl2;dsimp only[dB];refine⟨[],rfl,sz 0,?_⟩;dsimp only[dB];dsimp only at h;have IK:=Jd (o:=ez A R (i+m)) hg h1;cases e:(b9 ks).drop m with
 |nil=>rw[e] at h;exact h.elim
 |cons q r=>
 have ml:m<=ks.length:=by have:=gM e;rw[List.length_map] at this;omega
 have dJ:Src A (S.set n (ez A R (i+m))) n R (i+m) (ks.drop m):=src.go ml (eT lt);have e2:b9 (ks.drop m)=q::r:=by rw[bK];exact e
 have fin:∀(S':aS)(l2:List T),(∀t:T,kk (.t t) S')->(uN (qL A.bL (FJ A) (bD (dF 2) (bD (dF 1) (bD (dF 3) (bD (dF 4) bQ)))))) (endsF S kk) [some (D.ob n),some (.t c),some (D.int a),some (D.lst l),some (D.lst l2)] S':=fun S' l2 h=>
  ⟨_,rfl,_,rfl,_,rfl,_,rfl,_,a,c,_,_,l,l2,rfl,aI,rfl,rfl,made (iQ (h _))⟩
 cases q with
 |en=>
  rw[e] at h;have no:yi (b9 (ks.drop m))=true:=by rw[e2];rfl
  refine⟨_,rfl,0,_,_,by decide,aG (eT lt),by symm,n,R,i+m,rfl,eT lt,(fun hl=>dJ.ne hl),rfl,false,congrArg D.bl (Ba fun z=>by have:=(dJ.cm (q:=.el) (by decide) no).mp z;rw[e2] at this;cases this),?_⟩;dsimp only;rw[if_neg (by decide)];refine⟨_,rfl,_,_,aG (eT lt),by symm,IK,uw (kk:=fun _ S'=>∀t:T,kk (.t t) S') dJ ?_ fun S' z=>?_⟩
  .rw[e2];show ∀t:T,kk (.t t) ((S.set n _).set n (ez A R (i+m+1)));rw[List.set_set];exact h
  .exact fin S' [] z
 |el=>
  rw[e] at h;have no:yi (b9 (ks.drop m))=true:=by rw[e2];rfl
  have il:=dJ.il;obtain⟨w,nO,e3,e4,p1,p2,uU⟩:=dJ.tl e2;have p2:w=[("else":Str)]:=p2;have uU:=uU (S.set n (ez A R (i+m+1))) (eT lt);have hg3:=Jd (o:=ez A R (i+m+1)) hg h1;refine⟨_,rfl,0,_,_,by decide,aG (eT lt),by symm,n,R,i+m,rfl,eT lt,(fun hl=>dJ.ne hl),rfl,true,congrArg D.bl (seq ((dJ.cm (q:=.el) (by decide) no).mpr (by rw[e2];rfl))),?_⟩;dsimp only;rw[if_pos rfl];refine⟨_,rfl,_,_,aG (eT lt),by symm,IK,n,R,i+m,_,rfl,eT lt,by omega,.inl ⟨by rw[p1,p2],?_⟩⟩;rw[List.set_set];refine⟨_,rfl,hg3,n,R,i+m+1,nO,rfl,uU,?_⟩;rw[e4];have h:Res A n R i S (fun _ S'=>∀t:T,kk (.t t) S') g.x (match Q r with
    |.ok j=>if j=0 then .er (m+1) else Al (m+1) r j
    |.er j=>.er (m+1+j)
    |.uk=>.uk):=h
  cases hQ2:Q r with
  |uk=>rw[hQ2] at h;exact h
  |er j=>
   rw[hQ2] at h;show g.x ((i+m+1+j:Nat):Int);rw[show i+m+1+j=i+(m+1+j) by omega];exact h
  |ok j=>
   rw[hQ2] at h;intro l2 hz hl3;dsimp only[dB];rw[List.set_set,List.set_set];dsimp only at h;have hg4:=Jd (o:=ez A R (i+m+1+j)) hg h1;have jl:j<=nO.length:=by
    by_cases hj:j=0
    .omega
    .rw[if_neg hj,uy] at h;cases e5:r.drop j with
     |nil=>rw[e5] at h;exact h.elim
     |cons x y=>have:=gM e5;rw[<- e4,List.length_map] at this;omega
   have DB:Src A (S.set n (ez A R (i+m+1+j))) n R (i+m+1+j) (nO.drop j):=uU.go jl (eT lt);have il4:=DB.il;refine⟨_,rfl,_,rfl,_,rfl,_,_,_,_,aG (eT lt),rfl,hg4,_,_,rfl,by omega,fun hb=>?_,fun hb=>?_⟩
   .have hj:j≠0:=fun z=>by rw[hz.mpr z] at hb;cases hb
    rw[if_neg hj,uy] at h;refine⟨_,rfl,_,_,aG (eT lt),by symm,hg4,uw (kk:=fun _ S'=>∀t:T,kk (.t t) S') DB ?_ fun S' z=>fin S' l2 z⟩;rw[bK,e4,show i+m+1+j=i+(m+1+j) by omega];exact vn h fun _ _ z=>z
   .have hj:j=0:=hz.mp (by cases l2 with | nil=>rfl | cons _ _=>simp at hb);rw[if_pos hj] at h;rw[hj];exact h
 |_=>rw[e] at h;exact h.elim
noncomputable abbrev ud:Stmt:=top 58
theorem i8:au ["source","condition","at","keeps","falls","place","body"] ["source","condition","at"] (ai ud):=fB
theorem BC {Q:List Kd->Rs}(F:dg K "read_repeat" "read_repeat" ud f fd)(J:Fx K mg A)(vV:EV P w K mg base k A)(ff:C0 P w K mg base A.az k A.cO "take_just" ["self","word"] (xY A))(dZ:uH P w K mg base A.az k "read_steps" ["source"] (uX A Q))(c7:fP P w K mg base k A)(aZ:cY P w K mg base k A)(k7:oB P w K mg base k A)(eW:iS P w K mg base k A):aL P w K mg base (qE P w A.az) (k+1) f fd ["source","condition","at"] (CY K (ZS A Q)):=by
 refine An F i8 fun AT B outer s H g hr=>?_;rw[show ao ud=[_,_,_,_,_,_] from rfl];refine⟨_,(qs (ay (i:=3) i8.nd (aq eW hr rfl (qa (ah 0) (qa ak aa)))) (qs (ay (i:=4) i8.nd a0A) (qs (cz (aP (fq 40 (uE hr)) (bT (ah 0) c7 hr) ak (aF _)) (qs (ay (i:=5) i8.nd (bM (ah 0) rfl)) (cA (ay (i:=4) i8.nd (bq (qa (ah 5) (qa (aq aZ hr rfl (qa (iH false (bT (ah 0) k7 hr) (br aj) bS) (qa (ah 5) aa))) aa)))))) bC) (qs (ay (i:=6) i8.nd (cH dZ dM hr rfl (qa (ah 0) aa))) (qs (cB (uu (ah 0) ff dM hr (qa ak aa))) (cA (aK (sS vV hr rfl (qa (ah 2) (qa (ah 1) (qa (ah 3) (qa (ah 4) (qa (ah 6) aa))))))))))))),fun ds S kk hc hd hg h=>?_⟩;obtain⟨n,R,i,ks,c,a,rfl,src,h⟩:=h;have h1:=src.at_;have lt:=AW h1;have il:=src.il;unfold rpt at h;cases ho:yi ((b9 ks).drop (cnt .ho (b9 ks))) with
 |false=>rw[ho,if_pos rfl] at h;exact h.elim
 |true=>
 rw[ho,if_neg (by decide)] at h;refine⟨_,rfl,n,R,i,ks,.ho,rfl,by decide,src,ho,fun hs hl=>?_⟩;dsimp only[dB];have cl:=lF .ho (b9 ks);rw[List.length_map] at cl;generalize cnt .ho (b9 ks)=j at ho h cl;have dJ:Src A (S.set n (ez A R (i+j))) n R (i+j) (ks.drop j):=src.go cl (eT lt);have no:yi (b9 (ks.drop j))=true:=by rw[bK];exact ho
 have fin:∀(S':aS)(z:Option D)(f:T)(l2:List T),(∀t:T,kk (.t t) S')->(uN (qL A.bB (A9 A) (bD (dF 2) (bD (dF 1) (bD (dF 3) (bD (dF 4) (bD (dF 6) bQ))))))) (endsF S kk) [some (D.ob n),some (.t c),some (D.int a),some (D.lst (hs.map (atT A))),some (.t f),z,some (D.lst l2)] S':=fun S' z f l2 h=>
  ⟨_,rfl,_,rfl,_,rfl,_,rfl,_,rfl,_,a,c,f,_,_,hs,l2,rfl,aI,rfl,hl,rfl,made (iQ (h _))⟩
 have bod:∀(z:Option D)(f:T)(b:Nat)(nO:Ks)(r:List Kd)(o:O),b9 nO=r->Src A (S.set n (ez A R (i+b))) n R (i+b) nO->Res A n R i S (fun _ S'=>∀t:T,kk (.t t) S') g.x (bdy Q b r)->
   pG (xW (Kz g (uX A Q) (bD (dF 0) bQ)) (dB 6)) (pG (Kv (Dr g A.cO "take_just" (xY A) (dF 0) (bD (yS (D.str "end")) bQ))) (uN (qL A.bB (A9 A) (bD (dF 2) (bD (dF 1) (bD (dF 3) (bD (dF 4) (bD (dF 6) bQ)))))))) (endsF S kk) [some (D.ob n),some (.t c),some (D.int a),some (D.lst (hs.map (atT A))),some (.t f),z,none] (S.set n (ez A R (i+b))):=fun z f b nO r o er s3 h=>by
  subst er;have hg3:=Jd (o:=ez A R (i+b)) hg h1;refine⟨_,rfl,hg3,n,R,i+b,nO,rfl,s3,?_⟩;unfold bdy at h;cases hQ:Q (b9 nO) with
  |uk=>rw[hQ] at h;exact h
  |er m=>
   rw[hQ] at h;show g.x ((i+b+m:Nat):Int);rw[Nat.add_assoc];exact h
  |ok m=>
   rw[hQ] at h;intro l2 hz hl3;dsimp only at h;rw[uy] at h;rw[List.set_set];have hg4:=Jd (o:=ez A R (i+b+m)) hg h1;have ml:m<=nO.length:=by
    cases e5:(b9 nO).drop m with
    |nil=>rw[e5] at h;exact h.elim
    |cons x y=>have:=gM e5;rw[List.length_map] at this;omega
   have DB:Src A (S.set n (ez A R (i+b+m))) n R (i+b+m) (nO.drop m):=s3.go ml (eT lt);refine⟨_,rfl,_,_,aG (eT lt),by symm,hg4,uw (kk:=fun _ S'=>∀t:T,kk (.t t) S') DB ?_ fun S' z'=>fin S' z f l2 z'⟩;rw[bK,Nat.add_assoc];exact vn h fun _ _ z=>z
 have hb2:(b9 (ks.drop j)).head?=some .fa∨(b9 (ks.drop j)).head?≠some .fa:=Classical.em _;rcases hb2 with hb2 | hb2
 .cases e:(b9 ks).drop j with
  |nil=>rw[bK,e] at hb2;cases hb2
  |cons x r=>
  have ex:x=.fa:=by rw[bK,e] at hb2;simpa using hb2
  subst ex;rw[e] at h;obtain⟨w,nO,e3,e4,p1,p2,uU⟩:=dJ.tl (show b9 (ks.drop j)=_ by rw[bK];exact e);obtain⟨s,rfl,sok⟩:=p2;have ks':=sok.ok;have uU:=uU (S.set n (ez A R (i+j+1))) (eT lt);refine⟨_,rfl,0,_,_,by decide,aG (eT lt),by symm,n,R,i+j,rfl,eT lt,(fun hl=>dJ.ne hl),rfl,true,congrArg D.bl (seq ((dJ.cm (q:=.fa) (by decide) no).mpr hb2)),?_⟩;dsimp only;rw[if_pos rfl];refine⟨_,rfl,_,_,_,_,aG (eT lt),rfl,?_⟩;dsimp only[dB];refine⟨_,rfl,_,rfl,0,_,_,by decide,aG (eT lt),by symm,n,R,_,_,rfl,eT lt,p1,1,rfl,_,rfl,?_⟩;rw[if_neg (by decide),List.set_set,List.map_cons,lE];refine⟨_,rfl,s.p,s.r,s.ws,_,rfl,ks'.len,ks'.fst,ks'.pl,ks'.pc,ks'.bd,_,rfl,sz 2,?_⟩;exact bod _ _ (j+1) nO r (ez A R 0) e4 uU h
 .refine⟨_,rfl,0,_,_,by decide,aG (eT lt),by symm,n,R,i+j,rfl,eT lt,(fun hl=>dJ.ne hl),rfl,false,congrArg D.bl (Ba fun z=>hb2 ((dJ.cm (q:=.fa) (by decide) no).mp z)),?_⟩;dsimp only;rw[if_neg (by decide)];refine bod _ _ j (ks.drop j) _ (ez A R 0) (bK ks j) dJ ?_;rw[bK] at hb2;cases e:(b9 ks).drop j with
  |nil=>rw[e] at h;exact h
  |cons x r=>
   rw[e] at h hb2;cases x<;>first | exact absurd rfl hb2 | exact h
noncomputable abbrev gm:Stmt:=inClass (top 37) 0
theorem vf:au ["self","at","name","params","answers","needs","gives","steps"] ["self","at","name","params","answers","needs","gives","steps"] (ai gm):=fB
theorem vI (F:dg K "__init__" "Helper.__init__" gm f fd)(J:Fx K mg A)(j4:qu P w K mg base k A):aL P w K mg base c5 (k+1) f fd ["self","at","name","params","answers","needs","gives","steps"] (bR K (K8 A)):=by
 refine cj F vf fun AT B outer s H E hr=>?_;rw[show ao gm=[_,_,_,_,_,_,_] from rfl];refine⟨_,(qs (aU (ah 0) (ah 1) rfl) (qs (aU (ah 0) (ah 2) rfl) (qs (aU (ah 0) (cU eV (by rfl) J.eX boot_tuple (qa (ah 3) aa)) rfl) (qs (aU (ah 0) (cU eV (by rfl) J.eX boot_tuple (qa (ah 4) aa)) rfl) (qs (aU (ah 0) (aq j4 hr rfl (qa (ah 5) aa)) rfl) (qs (aU (ah 0) (aq j4 hr rfl (qa (ah 6) aa)) rfl) (cA (aU (ah 0) (cU eV (by rfl) J.eX boot_tuple (qa (ah 7) aa)) rfl)))))))),fun ds S kk hc hd h=>?_⟩;obtain⟨i,a,nm,d1,d2,d3,d4,d5,q1,q2,q5,hs,gs,rfl,h1,e1,e2,e3,e4,e5,l3,l4,hk⟩:=h;have hz:=(List.getElem?_eq_some_iff.mp h1).1;refine⟨_,rfl,_,rfl,_,_,_,_,rfl,h1,J.gF,by decide,_,rfl,_,rfl,_,_,_,_,rfl,eT hz,J.eG,by decide,?_⟩;rw[List.set_set];refine⟨_,rfl,_,rP (jC h1 e1),_,rfl,_,_,_,_,rfl,eT hz,J.dw,by decide,?_⟩;rw[List.set_set];refine⟨_,rfl,_,rP (jC h1 e2),_,rfl,_,_,_,_,rfl,eT hz,J.cW,by decide,?_⟩;rw[List.set_set];refine⟨_,rfl,_,_,rfl,jC h1 e3,l3,_,rfl,_,_,_,_,rfl,eT hz,J.dR,by decide,?_⟩;rw[List.set_set];refine⟨_,rfl,_,_,rfl,jC h1 e4,l4,_,rfl,_,_,_,_,rfl,eT hz,J.dS,by decide,?_⟩;rw[List.set_set];refine⟨_,rfl,_,rP (jC h1 e5),_,rfl,_,_,_,_,rfl,eT hz,J.dQ,by decide,?_⟩;rw[List.set_set];exact .inr (.inr (.inr (hk _ [.int a,.str nm,.tup q1,.tup q2,.tup (hs.map (atT A)),.tup (gs.map (atT A)),.tup q5])))
noncomputable abbrev fG:Stmt:=inClass (top 38) 0
theorem sQ:au ["self","helpers"] ["self","helpers"] (ai fG):=fB
theorem sU (F:dg K "__init__" "Program.__init__" fG f fd)(J:Fx K mg A) :aL P w K mg base c5 (k+1) f fd ["self","helpers"] (bR K (K1 A)):=by
 refine cj F sQ fun AT B outer s H E hr=>?_;rw[show ao fG=[_] from rfl];refine⟨_,(cA (aU (ah 0) (cU eV (by rfl) J.eX boot_tuple (qa (ah 1) aa)) rfl)),fun ds S kk hc hd h=>?_⟩;obtain⟨i,d,hs,rfl,h1,e1,hk⟩:=h;exact⟨_,rfl,_,rP e1,_,rfl,_,_,_,_,rfl,h1,J.cJ,by decide,.inr (.inr (.inr (hk _ [.tup hs])))⟩
noncomputable abbrev ug:Stmt:=top 52
theorem ic:au ["source","at","words","answers","needs","gives","steps"] ["source"] (ai ug):=fB
theorem Mh {Q:List Kd->Rs}(F:dg K "read_helper" "read_helper" ug f fd)(J:Fx K mg A)(vW:EW P w K mg base k A)(ff:C0 P w K mg base A.az k A.cO "take_just" ["self","word"] (xY A))(dZ:uH P w K mg base A.az k "read_steps" ["source"] (uX A Q))(eW:iS P w K mg base k A)(wJ:rF P w K mg base k A)(aT:uH P w K mg base A.az k "refuse_unless" ["truth","at"] u5)(jZ:qq P w K mg base k)(cE:fh P w K mg base k)(uJ:C0 P w K mg base A.az k A.cO "take" ["self"] (yY A)):aL P w K mg base (qE P w A.az) (k+1) f fd ["source"] (CY K (ZZ A Q)):=by
 refine An F ic fun AT B outer s H g hr=>?_;rw[show ao ug=[_,_,_,_,_,_,_,_,_,_] from rfl];refine⟨_,(qs (ay (i:=1) ic.nd (bM (ah 0) rfl)) (qs (ay (i:=2) ic.nd (vv (ah 0) uJ dM hr)) (qs (cB (cH aT dM hr rfl (qa (iN (cT (fq 40 (uE hr)) (cG (ah 2) aj) ak (aF _)) (iN (cT DZ (aJ ck (by rfl) J.cu PySem.boot_len (qa (ah 2) aa)) aj (aF _)) (nv (aq cE hr rfl (qa (cG (ah 2) aj) aa))))) (qa (ah 1) aa)))) (qs (cB (cH aT dM hr rfl (qa (aJ (CF rfl) (by rfl) J.CG boot_all (qa (ie (bY ["word"] [] [] rfl (by symm) (by symm) (by with_unfolding_all rfl) (by exact trivial) (by rfl) rfl (by rfl)) rfl (qi (iH false (ah 2) (br aj) bS)) (fun _ _ _ _=>(qx (i:=0) (show List.Nodup (["word"]:List Str) by symm))) (fun _ _ _ _=>fJ) (fun _ _ _ _=>(aq jZ hr rfl (qa (ah 0) aa)))) aa)) (qa (ah 1) aa)))) (qs (ay (i:=3) ic.nd (aq wJ hr rfl (qa (ah 0) aa))) (qs (ay (i:=4) ic.nd (aq eW hr rfl (qa (ah 0) (qa ak aa)))) (qs (ay (i:=5) ic.nd (aq eW hr rfl (qa (ah 0) (qa ak aa)))) (qs (ay (i:=6) ic.nd (cH dZ dM hr rfl (qa (ah 0) aa))) (qs (cB (uu (ah 0) ff dM hr (qa ak aa))) (cA (aK (sS vW hr rfl (qa (ah 1) (qa (cG (ah 2) aj) (qa (iH false (ah 2) (br aj) bS) (qa (ah 3) (qa (ah 4) (qa (ah 5) (qa (ah 6) aa))))))))))))))))))),fun ds S kk hc hd hg h=>?_⟩;obtain⟨n,R,i,ks,rfl,src,h⟩:=h;have h1:=src.at_;have lt:=AW h1;have il:=src.il;refine⟨_,rfl,_,_,_,_,aG h1,rfl,?_⟩;dsimp only[dB];cases ks with
 |nil=>exact⟨_,rfl,_,_,aG h1,by symm,hg,n,R,i,rfl,h1,by omega,.inr ⟨src.hd0.2,h⟩⟩
 |cons p ks=>
 obtain⟨q1,q2,q3,q4⟩:=src.hd1;obtain⟨kq,w⟩:=p;dsimp only at q1 q3;refine⟨_,rfl,_,_,aG h1,by symm,hg,n,R,i,rfl,h1,by omega,.inl ⟨_,q1,?_⟩⟩;dsimp only[dB];have IK:=Jd (o:=ez A R (i+1)) hg h1;have dJ:Src A (S.set n (ez A R (i+1))) n R (i+1) ks:=src.go (m:=1) (by simp) (eT lt);by_cases TU:kq=.ot
 .subst TU;exact h.elim
 by_cases hk:kq=.hp
 .subst hk;obtain⟨nm,ps,rfl,hnm,hps,GI⟩:=q3;refine⟨_,rfl,_,_,rfl,qm,rfl,true,Tf,_,rfl,_,rfl,true,congrArg D.bl (decide_eq_true (by simp;omega)),_,rfl,_,_,rfl,aY (j:=1) rfl,nm,rfl,by have:=b4 hnm;omega,_,rfl,IK,_,_,rfl,by omega,fun _=>?_,fun e=>by rw[hnm] at e;cases e⟩;refine⟨_,rfl,2,rfl,_,rfl,?_⟩;have c2:mG ((("helper":Str)::nm::ps).map T.str) (some 2) none=ps.map T.str:=by
   rw[show(2:Int)=((2:Nat):Int) from rfl,yu,<- List.map_drop];rfl
  rw[if_neg (by decide),c2];refine vZ (jY T.str (fun x=>T.bl (iI x)) trivial (nI (by omega)) (fun z hz k' hk=>?_) ?_)
  .exact⟨_,rfl,z,rfl,by have:=(hps z hz).2;omega,_,rfl,hk⟩
  have al:(ps.map iI).all _root_.id=true:=by rw[List.all_map,List.all_eq_true];exact fun z hz=>(hps z hz).1
  refine⟨ps.map iI,by rw[List.map_map];rfl,_,rfl,IK,_,_,rfl,by omega,fun _=>?_,fun e=>by have e:(ps.map iI).all _root_.id=false:=e;rw[al] at e;cases e⟩;have h:Res A n R i S (fun _ S'=>∀t:T,kk (.t t) S') g.x (if yi (b9 ks)=false then .uk else(match b9 ks with
   |.an::r'=>hl2 Q 2 r'
   |r=>hl2 Q 1 r)):=h
  cases ho:yi (b9 ks) with
  |false=>rw[ho,if_pos rfl] at h;exact h.elim
  |true=>
  rw[ho,if_neg (by decide)] at h;refine⟨_,rfl,n,R,i+1,ks,rfl,dJ,ho,fun la hla=>?_⟩;rw[List.set_set];dsimp only[dB];obtain⟨ja,rs,nO,jl,e3,uU,h⟩:∃(ja:Nat)(rs:List Kd)(nO:Ks),(if(b9 ks).head?=some .an then 1 else 0)=ja/\b9 nO=rs/\Src A (S.set n (ez A R (i+1+ja))) n R (i+1+ja) nO/\Res A n R i S (fun _ S'=>∀t:T,kk (.t t) S') g.x (hl2 Q (1+ja) rs):=by
   by_cases ha:(b9 ks).head?=some .an
   .cases ks with
    |nil=>cases ha
    |cons p ks=>
     obtain⟨a',w'⟩:=p;have:a'=.an:=by simpa using ha
     subst this;exact⟨1,_,ks,by rw[if_pos ha],rfl,dJ.go (m:=1) (by simp) (eT lt),h⟩
   .refine⟨0,_,ks,by rw[if_neg ha],rfl,dJ,?_⟩;cases e:b9 ks with
    |nil=>rw[e] at h;exact h
    |cons x r=>
     rw[e] at h ha;cases x<;>first | exact absurd rfl ha | exact h
  rw[jl];subst e3;unfold hl2 at h;cases ho2:yi ((b9 nO).drop (cnt .nd (b9 nO))) with
  |false=>rw[ho2,if_pos rfl] at h;exact h.elim
  |true=>
  rw[ho2,if_neg (by decide)] at h;refine⟨_,rfl,n,R,i+1+ja,nO,.nd,rfl,by decide,uU,ho2,fun ln hln=>?_⟩;rw[List.set_set];dsimp only[dB];have cl2:=lF .nd (b9 nO);rw[List.length_map] at cl2;generalize cnt .nd (b9 nO)=c1 at ho2 h cl2;have DB:Src A (S.set n (ez A R (i+1+ja+c1))) n R (i+1+ja+c1) (nO.drop c1):=uU.go cl2 (eT lt);rw[<- bK] at h;unfold hl3 at h;cases ho3:yi ((b9 (nO.drop c1)).drop (cnt .gv (b9 (nO.drop c1)))) with
  |false=>rw[ho3,if_pos rfl] at h;exact h.elim
  |true=>
  rw[ho3,if_neg (by decide)] at h;refine⟨_,rfl,n,R,i+1+ja+c1,nO.drop c1,.gv,rfl,by decide,DB,ho3,fun lg hlg=>?_⟩;rw[List.set_set];dsimp only[dB];have cl3:=lF .gv (b9 (nO.drop c1));rw[List.length_map] at cl3;generalize cnt .gv (b9 (nO.drop c1))=c3 at ho3 h cl3;have Vd:Src A (S.set n (ez A R (i+1+ja+c1+c3))) n R (i+1+ja+c1+c3) ((nO.drop c1).drop c3):=DB.go cl3 (eT lt);rw[<- bK] at h;generalize (nO.drop c1).drop c3=ks5 at h Vd;have hg5:=Jd (o:=ez A R (i+1+ja+c1+c3)) hg h1;refine⟨_,rfl,hg5,n,R,_,ks5,rfl,Vd,?_⟩;unfold bdy at h;have ei:∀m:Nat,i+1+ja+c1+c3+m=i+(1+ja+c1+c3+m):=fun m=>by omega
  cases hQ:Q (b9 ks5) with
  |uk=>rw[hQ] at h;exact h
  |er m=>
   rw[hQ] at h;show g.x ((i+1+ja+c1+c3+m:Nat):Int);rw[ei];exact h
  |ok m=>
   rw[hQ] at h;intro l2 hz hl3;dsimp only at h;rw[uy] at h;rw[List.set_set];dsimp only[dB];have hg6:=Jd (o:=ez A R (i+1+ja+c1+c3+m)) hg h1;have ml:m<=ks5.length:=by
    cases e5:(b9 ks5).drop m with
    |nil=>rw[e5] at h;exact h.elim
    |cons x y=>have:=gM e5;rw[List.length_map] at this;omega
   have a4z:Src A (S.set n (ez A R (i+1+ja+c1+c3+m))) n R (i+1+ja+c1+c3+m) (ks5.drop m):=Vd.go ml (eT lt);refine⟨_,rfl,_,_,aG (eT lt),by symm,hg6,uw (kk:=fun _ S'=>∀t:T,kk (.t t) S') a4z ?_ fun S' z'=>?_⟩
   .rw[bK,ei];exact vn h fun _ _ z=>z
   .refine⟨_,rfl,_,rfl,_,_,rfl,aY (j:=1) rfl,_,rfl,2,rfl,_,rfl,?_⟩;rw[if_neg (by decide),c2];exact⟨_,rfl,_,rfl,_,rfl,_,rfl,_,_,_,_,_,_,_,_,_,_,_,ln,lg,rfl,aI,rfl,rfl,rfl,rfl,rfl,hln,hlg,fun ns l=>made (iQ (z' _))⟩
 .obtain⟨y,ws,rfl,hy⟩:=a17 q3 TU hk;rw[show b9 ((kq,_)::ks)=kq::b9 ks from rfl,Xs TU hk] at h;exact⟨_,rfl,_,_,rfl,qm,rfl,false,congrArg D.bl (Ba hy),_,rfl,IK,_,_,rfl,by omega,(fun e=>by cases e),fun _=>h⟩
noncomputable abbrev uh:Stmt:=top 45
theorem kJ:au ["text","rows","behind","source","helpers"] ["text"] (ai uh):=fB
theorem Mi (F:dg K "read" "read" uh f fd)(J:Fx K mg A)(q8:CN P w K mg base k A)(aT:uH P w K mg base A.az k "refuse_unless" ["truth","at"] u5)(mS:uH P w K mg base A.az k "read_helper" ["source"] (ZZ A F2))(Ea:Oa P w K mg base k A):aL P w K mg base (qE P w A.az) (k+1) f fd ["text"] (CY K (SD)):=by
 refine An F kJ fun AT B outer s H g hr=>?_;rw[show ao uh=[_,_,_,_,_,_,_] from rfl];refine⟨_,(qs (ay (i:=1) kJ.nd (F9 true (ah 0) (qa ak aa))) (qs (ay (i:=2) kJ.nd (a0x (ah 1))) (qs (ay (i:=3) kJ.nd (Tc Ea hr rfl (qa (ah 1) aa))) (qs (ay (i:=4) kJ.nd (jR (qa (cH mS dM hr rfl (qa (ah 3) aa)) aa))) (qs (jc PassesOwn.leaving (aP DY (bM (ah 3) rfl) (aJ ck (by rfl) J.cu PySem.boot_len (qa (ah 1) aa)) (aF _)) (cA (cB (rW (ah 4) (qa (cH mS dM hr rfl (qa (ah 3) aa)) aa))))) (qs (cB (cH aT dM hr rfl (qa (cT (fq 40 (uE hr)) (ah 2) ak (aF _)) (qa (bM (ah 3) rfl) aa)))) (cA (aK (sS q8 hr rfl (qa (ah 4) aa)))))))))),fun ds S kk hc hd hg h=>?_⟩;obtain⟨t,xs,b,ks,rfl,tx,h⟩:=h;have hx:=tx.ln;have tl:=tx.len;refine⟨_,rfl,rfl,rfl,by rw[sizeLine_eq];omega,?_⟩;unfold newL;rw[if_pos rfl,tx.sp];dsimp only[dB];refine⟨_,rfl,⟨rfl,_,gW aI⟩,xs.map T.str,T.str b,by rw[aI,List.map_append];rfl,?_⟩;rw[cF];dsimp only[dB];refine⟨_,rfl,_,_,xs,rfl,aI,Se (show xq (S++[O.lst (xs.map T.str)]) (.ob S.length)=_ from gW aI),by omega,tx.bd,rfl,?_⟩;have lk:ks.length=xs.length:=by have:=congrArg List.length tx.ws;simpa using this.symm
 rw[cF,tx.ws];dsimp only[dB];have e0:(S++[O.lst (xs.map T.str)]).length=S.length+1:=by simp
 have g0:∀(o:O)(loc:aS),(((S++[O.lst (xs.map T.str)])++[o])++loc)[S.length]?=some (O.lst (xs.map T.str)):=fun o loc=>by simp
 have hgA:∀(o:O)(loc:aS),(((S++[O.lst (xs.map T.str)])++[o])++loc)[0]?=some g.m:=fun o loc=>mkA (mkA (mkA hg));have a6b:∀(o:O)(loc:aS)(y:T),(∀t:T,kk (.t t) S)->closes S.length (.t y) (((S++[O.lst (xs.map T.str)])++[o])++loc) kk:=fun o loc y z=>by rw[List.append_assoc,List.append_assoc];exact RC hc (z _)
 have R0:(ks.map (·.2)).length=ks.length:=List.length_map ..;have okk:=tx.ok;generalize S++[O.lst (xs.map T.str)]=T0 at *;generalize eR:ks.map (·.2)=R at *;have src:∀(j:Nat),j<=ks.length->∀(loc:aS),Src A ((T0++[ez A R j])++loc) T0.length R j (ks.drop j):=fun j hj loc=>⟨by simp,by rw[<- eR,List.map_drop],fun p hp=>okk p (List.mem_of_mem_drop hp),by rw[List.length_drop];omega,by omega⟩
 have ZM:=src 0 (Nat.zero_le _) [];rw[List.append_nil,List.drop_zero] at ZM;have hg0:=hgA (ez A R 0) [];rw[List.append_nil] at hg0;refine⟨_,rfl,hg0,T0.length,R,0,ks,rfl,ZM,?_⟩;unfold prs at h;cases h0:GI F2 (b9 ks) with
 |uk=>rw[SV h0] at h;exact h.elim
 |er m=>rw[SY h0] at h;show g.x ((0+m:Nat):Int);rw[Nat.zero_add];exact h
 |ok m0=>
 rw[DK h0] at h;have l0:=(Eh h0).1;rw[List.length_map] at l0;intro t0;rw[cF,Nat.zero_add];refine⟨_,rfl,sz 1,?_⟩;dsimp only[dB];refine⟨fun m Z S'=>∃(j f:Nat)(l1:List T),j<=ks.length/\m=ks.length - j/\l1.length<=j/\Z=[some (D.str t),some (D.ob S.length),some (D.str b),some (D.ob T0.length),some (D.ob (T0.length+1))]/\S'=(T0++[ez A R j])++[O.lst l1]/\(Yu F2 (decide (b="")) 3 ((b9 ks).drop m0)).sh m0=(Yu F2 (decide (b="")) f (b9 (ks.drop j))).sh j,⟨_,m0,3,[t0],l0,rfl,(Eh h0).2,by rw[show(T0++[ez A R m0]).length=T0.length+1 by simp];rfl,rfl,by rw[bK]⟩,?_⟩;rintro m Z S' ⟨j,f,l1,hj,rfl,hl1,rfl,rfl,he⟩;have g1:((T0++[ez A R j])++[O.lst l1])[T0.length]?=some (ez A R j):=(src j hj _).at_;have gh:((T0++[ez A R j])++[O.lst l1])[T0.length+1]?=some (O.lst l1):=by simp
 rw[he] at h;by_cases hjl:j=ks.length
 .refine⟨_,rfl,_,_,_,_,aG g1,rfl,_,rfl,_,gW (g0 _ _),false,congrArg D.bl (decide_eq_false (by rw[List.length_map];omega)),?_⟩;dsimp only;rw[if_neg (by decide)];have em:(b9 (ks.drop j)).isEmpty=true:=by rw[hjl,List.drop_length];rfl
  unfold Yu at h;rw[if_pos em] at h;refine⟨_,rfl,rfl,_,rfl,_,_,_,_,aG g1,rfl,hgA _ _,_,_,rfl,by omega,fun hb=>?_,fun hb=>?_⟩
  .have hb:decide (b="")=true:=by
    have hb:xor false (decide (V.str b=V.str ""))=true:=hb;rw[qM,Bool.false_xor] at hb;exact hb
   rw[hb,if_pos rfl] at h;refine⟨_,rfl,_,_,l1,rfl,aI,Se (show xq ((T0++[ez A R j])++[O.lst l1]) (.ob (T0.length+1))=_ from gW gh),fun ns l=>made (a6b _ _ _ h)⟩
  .have hb:decide (b="")=false:=by
    have hb:xor false (decide (V.str b=V.str ""))=false:=hb;rw[qM,Bool.false_xor] at hb;exact hb
   rw[hb,if_neg (by decide)] at h;exact h
 .have em:(b9 (ks.drop j)).isEmpty=false:=by
   cases e:b9 (ks.drop j) with
   |nil=>have:=congrArg List.length e;rw[List.length_map,List.length_drop] at this;simp at this;omega
   |cons _ _=>rfl
  refine⟨_,rfl,_,_,_,_,aG g1,rfl,_,rfl,_,gW (g0 _ _),true,congrArg D.bl (decide_eq_true (by rw[List.length_map];omega)),?_⟩;dsimp only;rw[if_pos rfl];unfold Yu at h;rw[em,if_neg (by decide)] at h;cases f with
  |zero=>exact h.elim
  |succ f=>
  cases hs:GI F2 (b9 (ks.drop j)) with
  |ok m=>
   rw[DK hs] at h;obtain⟨m1,m2⟩:=Eh hs;rw[List.length_map,List.length_drop] at m1;refine⟨fun Z' S'=>∃t':T,Z'=[some (D.str t),some (D.ob S.length),some (D.str b),some (D.ob T0.length),some (D.ob (T0.length+1))]/\S'=(T0++[ez A R (j+m)])++[O.lst (l1++[t'])],?_,?_⟩
   .rintro Z' S' ⟨t',rfl,rfl⟩;refine⟨ks.length - (j+m),by omega,j+m,f,l1++[t'],by omega,rfl,by simp;omega,rfl,rfl,?_⟩;rw[he,bK,bK,<- List.drop_drop];unfold Yu;rw[bK] at em hs;rw[em,if_neg (by decide),DK hs,Z5];rfl
   refine⟨_,rfl,⟨rfl,_,gW gh⟩,_,rfl,hgA _ _,T0.length,R,j,ks.drop j,rfl,src j hj _,?_⟩;rw[hs];intro t';rw[OZ];refine⟨l1,by simp,Oi (by omega),?_⟩;exact⟨t',rfl,by simp⟩
  |er m=>
   rw[SY hs] at h;refine⟨fun _ _=>False,fun _ _ z=>z.elim,_,rfl,⟨rfl,_,gW gh⟩,_,rfl,hgA _ _,T0.length,R,j,ks.drop j,rfl,src j hj _,?_⟩;rw[hs];exact h
  |uk=>rw[SV hs] at h;exact h.elim
noncomputable abbrev pP:Stmt:=top 82
theorem qP:au ["_law_text","e","_law_others"] ["_law_text"] (ai pP):=fB
theorem Ic {W fI fW:Addr}{Uk Jh:List Value}(XT:XTx K mg A.az W fI fW Uk Jh (x5 A))(F:dg K "_law_refused" "_law_refused" pP f fd)(J:Fx K mg A)(UP:uH P w K mg base A.az k "read" ["text"] (SD)):aL P w K mg base c5 (k+1) f fd ["_law_text"] (bR K gS):=by
 refine cj F qP fun AT B outer s H E hr=>?_;rw[show ao pP=[_,_] from rfl];refine⟨_,(qs (Pr (i:=1) rfl rfl XT.ct XT.cw XT.hin rfl XT.mgW qP.nd rfl rfl (fun pn xe g hp=>(cA (cB (cH UP hp hr rfl (qa (ah 0) aa))))) (fun a dx oe pn hc hd hn=>(qs (ay (i:=2) qP.nd (aJ (NT (K:=K) (cs:=x5 A) rfl XT.xi List.mem_cons_self hc hd hn) (by rfl) J.ee boot_isinstance (qa (ah 1) (qa (bq (qa (jQ (d9 (v:=.ref A.nZ) rfl J.p8 rfl)) (qa (jQ (d9 (v:=.ref A.nY) rfl J.p7 rfl)) (qa (jQ (d9 (v:=.ref A.iG) rfl J.jq rfl)) (qa (jQ (d9 (v:=.ref A.iE) rfl J.jj rfl)) (qa (jQ (d9 (v:=.ref A.iC) rfl J.ji rfl)) aa)))))) aa)))) (qs (cz (qw (rV (qT (jO (aJ (CD (K:=K) (c:=.ref A.az) (u:=.ref A.az) rfl XT.xi List.mem_cons_self hc hd hn rfl fun v h=>h) (by rfl) J.ee boot_isinstance (qa (ah 1) (qa (jQ (d9 (v:=.ref A.az) rfl J.jm rfl)) aa))))) (rV (qT (jO (aJ (CD (K:=K) (c:=.ty "ValueError") (u:=.type "ValueError") rfl XT.xi List.mem_cons_self hc hd hn rfl fun v h=>h) (by rfl) J.ee boot_isinstance (qa (ah 1) (qa (jQ (Gk (v:=.ty "ValueError") rfl J.ql PyProof.Rows.Boot.«ValueError» rfl)) aa))))) (rV (jO (ah 2)) (qS (jO (aJ (Yk (K:=K) (c:=.ty "bool") rfl trivial rfl) (by rfl) J.ee boot_isinstance (qa (Te XT.xi List.mem_cons_self hc hd hn XT.hd XT.hf (ah 1) rfl) (qa (jQ (Gk (v:=.ty "bool") rfl J.Yp boot_bool rfl)) aa))))))))) d8 bC) (cA (aK (Te XT.xi List.mem_cons_self hc hd hn XT.hd XT.hf (ah 1) rfl))))))) (cA (aK (yf aj)))),fun ds S kk hc hd h=>?_⟩;obtain⟨t,xs,b,ks,o,rfl,rfl,tx,h⟩:=h;refine⟨o,rfl,fun n=>∀o',kk (.int n) [o'],fun Y G=>⟨_,rfl,rfl,t,xs,b,ks,rfl,tx,h.mono (fun h t'=>iQ (h _)) fun n z=>z⟩,fun n hx a dx=>?_⟩;refine⟨_,rfl,_,rfl,sz 5,rfl,rfl,⟨n,BP⟩,false,XT.k5,?_⟩;dsimp only[dB];refine⟨_,rfl,rfl,rfl,⟨n,BP⟩,true,XT.kN,_,rfl,?_⟩;refine⟨_,rfl,rfl,rfl,⟨n,BP⟩,true,XT.kV,_,rfl,?_⟩;refine⟨_,rfl,_,rfl,?_⟩;refine⟨_,rfl,rfl,n,BP,rfl,_,false,rfl,XT.kb,_,rfl,?_⟩;refine⟨_,rfl,rfl,n,BP,iQ (hx _)⟩
noncomputable abbrev pO:Stmt:=top 80
theorem fU:au ["_law_names_here","_law_x","_law_y","_law_a","_law_rows_here"] ["_law_names_here"] (ai pO):=fB
theorem Ib (F:dg K "_law_rows" "_law_rows" pO f fd)(J:Fx K mg A) :aL P w K mg base c5 (k+1) f fd ["_law_names_here"] (bR K K9):=by
 refine cj F fU fun AT B outer s H E hr=>?_;rw[show ao pO=[_,_,_,_,_] from rfl];refine⟨_,(qs (vp (iH false (ah 0) bS (br aj)) (VO (n:=3) rfl (F8 (qg (i:=1) fU.nd) (F8 (qg (i:=2) fU.nd) (F8 (qg (i:=3) fU.nd) lY))))) (qs (ay (i:=4) fU.nd (eB (qa (aB aA (aB aA (aB aA ak (jP (ah 1))) ak) (jP (ah 3))) (qa (aB aA ak (jP (ah 2))) (qa (aB aA (aB aA ak (jP (ah 1))) ak) (qa (aB aA (aB aA (aB aA (aB aA ak (jP (ah 2))) ak) (jP (ah 1))) ak) aa)))))) (qs (ay (i:=4) fU.nd (aB aA (ah 4) (eB (qa (aB aA (aB aA ak (jP (ah 2))) ak) (qa (aB aA (aB aA (aB aA ak (jP (ah 2))) ak) (jP (ah 1))) (qa (aB aA (aB aA (aB aA ak (jP (ah 2))) ak) (jP (ah 1))) (qa (aB aA (aB aA (aB aA ak (jP (ah 1))) ak) (jP (ah 2))) aa))))))) (qs (ay (i:=4) fU.nd (aB aA (ah 4) (eB (qa (aB aA (aB aA (aB aA (aB aA ak (jP (ah 2))) ak) (jP (ah 2))) ak) (qa ak (qa (aB aA (aB aA ak (jP (ah 2))) ak) (qa (aB aA (aB aA ak (jP (ah 3))) ak) (qa ak aa)))))))) (cA (aK (aB aA (ah 4) (eB (qa ak (qa ak (qa ak aa))))))))))),fun ds S kk hc hd h=>?_⟩;obtain⟨x,y,a,rfl,hx,hy,ha,h⟩:=h;have lx:=b4 hx;have ly:=b4 hy;have la:=b4 ha;have e0:(" #":Str).length<=10:=by symm
 have e1:(" + 1":Str).length<=10:=by symm
 have e2:(" - ":Str).length<=10:=by symm
 have e3:(" < ":Str).length<=10:=by symm
 have e4:(" < 1":Str).length<=10:=by symm
 have e5:(" < 1 or ":Str).length<=10:=by symm
 have e6:(" = ":Str).length<=10:=by symm
 have e7:(" = 0":Str).length<=10:=by symm
 have e8:(" = 1":Str).length<=10:=by symm
 have e9:(" at 0 = 2":Str).length<=10:=by symm
 have e10:("answers ":Str).length<=10:=by symm
 have e11:("else":Str).length<=10:=by symm
 have e12:("end":Str).length<=10:=by symm
 have e13:("falls ":Str).length<=10:=by symm
 have e14:("gives ":Str).length<=10:=by symm
 have e15:("helper f ":Str).length<=10:=by symm
 have e16:("holds ":Str).length<=10:=by symm
 have e17:("if ":Str).length<=10:=by symm
 have YL:("let ":Str).length<=10:=by symm
 have e19:("needs ":Str).length<=10:=by symm
 have e20:("put ":Str).length<=10:=by symm
 have e21:("row q = 3":Str).length<=10:=by symm
 have e22:("while ":Str).length<=10:=by symm
 have x0:x.length<=10:=Nat.le_trans lx (by decide);have y0:y.length<=10:=Nat.le_trans ly (by decide);have a0:a.length<=10:=Nat.le_trans la (by decide);refine⟨_,rfl,3,rfl,_,rfl,?_⟩;rw[if_neg (by decide)];refine⟨[T.sn x,T.sn y,T.sn a],rfl,rfl,_,_,rfl,_,_,rfl,_,_,rfl,rfl,?_⟩;dsimp only[dB];refine⟨_,rfl,_,rfl,gY e15 x0,gY (le_app e15 x0) e0,_,rfl,_,rfl,gY (le_app (le_app e15 x0) e0) a0,_,rfl,_,rfl,gY e10 y0,_,rfl,_,rfl,gY e19 x0,gY (le_app e19 x0) e4,_,rfl,_,rfl,gY e14 y0,gY (le_app e14 y0) e5,_,rfl,_,rfl,gY (le_app (le_app e14 y0) e5) x0,gY (le_app (le_app (le_app e14 y0) e5) x0) e4,_,rfl,sz 4,?_⟩;dsimp only[dB];refine⟨_,rfl,_,rfl,_,rfl,gY YL y0,gY (le_app YL y0) e8,_,rfl,_,rfl,gY e22 y0,gY (le_app e22 y0) e3,_,rfl,_,rfl,gY (le_app (le_app e22 y0) e3) x0,_,rfl,_,rfl,gY e16 y0,gY (le_app e16 y0) e3,_,rfl,_,rfl,gY (le_app (le_app e16 y0) e3) x0,_,rfl,_,rfl,gY e13 x0,gY (le_app e13 x0) e2,_,rfl,_,rfl,gY (le_app (le_app e13 x0) e2) y0,_,rfl,sz 4,_,_,rfl,rfl,sz 8,?_⟩;dsimp only[dB];refine⟨_,rfl,_,rfl,_,rfl,gY YL y0,gY (le_app YL y0) e6,_,rfl,_,rfl,gY (le_app (le_app YL y0) e6) y0,gY (le_app (le_app (le_app YL y0) e6) y0) e1,_,rfl,_,rfl,gY e17 y0,gY (le_app e17 y0) e7,_,rfl,_,rfl,gY e20 a0,gY (le_app e20 a0) e9,_,rfl,sz 5,_,_,rfl,rfl,sz 13,?_⟩;dsimp only[dB];refine⟨_,rfl,_,rfl,sz 3,_,_,rfl,rfl,sz 16,iQ h⟩
noncomputable abbrev pS:Stmt:=top 81
theorem HH:au ["_law_rows_here"] ["_law_rows_here"] (ai pS):=fB
theorem Ih (F:dg K "_law_laid" "_law_laid" pS f fd)(J:Fx K mg A) :aL P w K mg base c5 (k+1) f fd ["_law_rows_here"] (bR K yZ):=by
 refine cj F HH fun AT B outer s H E hr=>?_;rw[show ao pS=[_] from rfl];refine⟨_,(cA (aK (VR ak (qa (ie (bY ["_law_row"] [] [] rfl (by symm) (by symm) (by with_unfolding_all rfl) (by exact trivial) (by rfl) rfl (by rfl)) rfl (qi (ah 0)) (fun _ _ _ _=>(qx (i:=0) (show List.Nodup (["_law_row"]:List Str) by symm))) (fun _ _ _ _=>fJ) (fun _ _ _ _=>(aB aA (ah 0) ak))) aa)))),fun ds S kk hc hd h=>?_⟩;obtain⟨xs,rfl,hl,hb,h⟩:=h;refine⟨rfl,_,rfl,vZ (jY T.str (fun x=>T.str (x++("\n":Str))) trivial (nI (by omega)) (fun z hz k' hk=>?_) ?_)⟩
 .exact⟨_,rfl,sL (by rw[show("\n":Str).length=1 by symm];have:=hb z hz;omega),_,rfl,hk⟩
 have ls:=Dw (l:=xs.map (·++("\n":Str))) (M:=100001) fun x hx=>by
  obtain⟨z,hz,rfl⟩:=List.mem_map.mp hx;rw[tF,show("\n":Str).length=1 by symm];have:=hb z hz;omega
 rw[List.length_map] at ls;refine⟨xs.map (·++("\n":Str)),by rw[List.map_map];rfl,?_,iQ h⟩;rw[List.length_map,show("":Str).length=0 by symm];omega
noncomputable abbrev uq:Stmt:=top 83
theorem di:au ["_law_x","_law_less","_law_found"] ["_law_x"] (ai uq):=fB
seal L2.PI QI in
theorem Ml (F:dg K "_law_out_of_place" "_law_out_of_place" uq f fd)(J:Fx K mg A) :aL P w K mg base c5 (k+1) f fd ["_law_x"] (bR K K2):=by
 refine cj F di fun AT B outer s H E hr=>?_;rw[show ao uq=[_,_,_,_,_,_,_,_,_,_,_,_] from rfl];refine⟨_,(qs (ay (i:=1) di.nd (aB aA (ah 0) ak)) (qs (Pu (i:=2) di.nd (bY ["_law_place"] [] [] rfl (by symm) (by symm) (by with_unfolding_all rfl) (by exact trivial) (by rfl) rfl (by rfl)) rfl (qi (VS (xs:=[1,2,3,4,5,6,7,8,9,10,11,12,13,14,15]) rfl)) (fun _ _ _ _=>(qx (i:=0) (show List.Nodup (["_law_place"]:List Str) by symm))) (fun _ _ _ _=>fJ) (fun _ _ _ _=>(bq (qa (ah 0) (qa ak aa))))) (qs (ay (i:=2) di.nd (aB aA (ah 2) (eB (qa (bq (qa aj (qa (aB aA (aB aA ak (ah 0)) ak) aa))) (qa (bq (qa aj (qa ak aa))) (qa (bq (qa aj (qa (aB aA ak (ah 1)) aa))) (qa (bq (qa aj (qa (aB aA ak (ah 0)) aa))) aa))))))) (qs (ay (i:=2) di.nd (aB aA (ah 2) (eB (qa (bq (qa aj (qa ak aa))) aa)))) (qs (ay (i:=2) di.nd (aB aA (ah 2) (eB (qa (bq (qa aj (qa (aB aA ak (ah 0)) aa))) (qa (bq (qa aj (qa (aB aA ak (ah 1)) aa))) (qa (bq (qa aj (qa (aB aA ak (ah 1)) aa))) (qa (bq (qa aj (qa (aB aA ak (ah 0)) aa))) aa))))))) (qs (ay (i:=2) di.nd (aB aA (ah 2) (eB (qa (bq (qa aj (qa ak aa))) aa)))) (qs (ay (i:=2) di.nd (aB aA (ah 2) (eB (qa (bq (qa aj (qa (aB aA ak (ah 1)) aa))) (qa (bq (qa aj (qa (aB aA ak (ah 0)) aa))) (qa (bq (qa aj (qa (aB aA ak (ah 1)) aa))) (qa (bq (qa aj (qa (aB aA ak (ah 0)) aa))) aa))))))) (qs (ay (i:=2) di.nd (aB aA (ah 2) (eB (qa (bq (qa aj (qa (aB aA ak (ah 1)) aa))) aa)))) (qs (ay (i:=2) di.nd (aB aA (ah 2) (eB (qa (bq (qa aj (qa ak aa))) (qa (bq (qa aj (qa (aB aA ak (ah 1)) aa))) (qa (bq (qa aj (qa ak aa))) (qa (bq (qa aj (qa ak aa))) (qa (bq (qa aj (qa (aB aA ak (ah 1)) aa))) aa)))))))) (qs (ay (i:=2) di.nd (aB aA (ah 2) (eB (qa (bq (qa aj (qa (aB aA ak (ah 0)) aa))) aa)))) (qs (ay (i:=2) di.nd (aB aA (ah 2) (eB (qa (bq (qa aj (qa (aB aA (aB aA ak (ah 0)) ak) aa))) (qa (bq (qa aj (qa ak aa))) (qa (bq (qa aj (qa ak aa))) (qa (bq (qa aj (qa (aB aA ak (ah 1)) aa))) aa))))))) (cA (aK (aB aA (ah 2) (eB (qa (bq (qa aj (qa (aB aA ak (ah 1)) aa))) (qa (bq (qa aj (qa ak aa))) aa))))))))))))))))),fun ds S kk hc hd h=>?_⟩;obtain⟨x,rfl,hx,h⟩:=h;have lx:=b4 hx;have x0:x.length<=10:=Nat.le_trans lx (by decide);have a1:("let ":Str).length<=10:=by symm
 have a2:(" = 1":Str).length<=10:=by symm
 have a3:("needs ":Str).length<=10:=by symm
 have a4:("answers ":Str).length<=10:=by symm
 have a5:("gives ":Str).length<=10:=by symm
 have a6:("holds ":Str).length<=10:=by symm
 have a7:("falls ":Str).length<=10:=by symm
 have a8:("if ":Str).length<=10:=by symm
 have a9:(" < 1":Str).length<=10:=by symm
 have ls:=le_app x0 a9;refine⟨_,rfl,gY x0 a9,?_⟩;dsimp only[dB];refine⟨sz 15,vZ (jY T.int (fun i=>T.tup [T.int i,T.str "helper g"]) trivial (nI (by decide)) (fun z hz k' hk=>?_) ?_)⟩
 .exact⟨_,rfl,_,rfl,sz 2,_,rfl,hk⟩
 dsimp only[dB];refine⟨_,rfl,_,rfl,gY a1 x0,gY (le_app a1 x0) a2,_,rfl,sz 2,_,rfl,sz 2,_,rfl,gY a3 ls,_,rfl,sz 2,_,rfl,gY a4 x0,_,rfl,sz 2,_,rfl,sz 4,_,_,rfl,rfl,sz 19,?_⟩;dsimp only[dB];refine⟨_,rfl,_,rfl,sz 2,_,rfl,sz 1,_,_,rfl,rfl,sz 20,?_⟩;dsimp only[dB];refine⟨_,rfl,_,rfl,gY a4 x0,_,rfl,sz 2,_,rfl,gY a3 ls,_,rfl,sz 2,_,rfl,gY a5 ls,_,rfl,sz 2,_,rfl,gY a4 x0,_,rfl,sz 2,_,rfl,sz 4,_,_,rfl,rfl,sz 24,?_⟩;dsimp only[dB];refine⟨_,rfl,_,rfl,sz 2,_,rfl,sz 1,_,_,rfl,rfl,sz 25,?_⟩;dsimp only[dB];refine⟨_,rfl,_,rfl,gY a6 ls,_,rfl,sz 2,_,rfl,gY a7 x0,_,rfl,sz 2,_,rfl,gY a6 ls,_,rfl,sz 2,_,rfl,gY a7 x0,_,rfl,sz 2,_,rfl,sz 4,_,_,rfl,rfl,sz 29,?_⟩;dsimp only[dB];refine⟨_,rfl,_,rfl,gY a6 ls,_,rfl,sz 2,_,rfl,sz 1,_,_,rfl,rfl,sz 30,?_⟩;dsimp only[dB];refine⟨_,rfl,_,rfl,sz 2,_,rfl,gY a3 ls,_,rfl,sz 2,_,rfl,sz 2,_,rfl,sz 2,_,rfl,gY a6 ls,_,rfl,sz 2,_,rfl,sz 5,_,_,rfl,rfl,sz 35,?_⟩;dsimp only[dB];refine⟨_,rfl,_,rfl,gY a7 x0,_,rfl,sz 2,_,rfl,sz 1,_,_,rfl,rfl,sz 36,?_⟩;dsimp only[dB];refine⟨_,rfl,_,rfl,gY a1 x0,gY (le_app a1 x0) a2,_,rfl,sz 2,_,rfl,sz 2,_,rfl,sz 2,_,rfl,gY a5 ls,_,rfl,sz 2,_,rfl,sz 4,_,_,rfl,rfl,sz 40,?_⟩;dsimp only[dB];refine⟨_,rfl,_,rfl,gY a8 ls,_,rfl,sz 2,_,rfl,sz 2,_,rfl,sz 2,_,_,rfl,rfl,sz 42,iQ h⟩
noncomputable abbrev pQ:Stmt:=top 84
theorem qQ:au ["_law_cell","_law_x","_law_some"] ["_law_cell","_law_x"] (ai pQ):=fB
seal L2.wQ L2.N7 L2.Yz L2.EN yF YT Yy EM in
theorem Ie (F:dg K "_law_no_form" "_law_no_form" pQ f fd)(J:Fx K mg A) :aL P w K mg base c5 (k+1) f fd ["_law_cell","_law_x"] (bR K K4):=by
 refine cj F qQ fun AT B outer s H E hr=>?_;rw[show ao pQ=[_,_,_] from rfl];refine⟨_,(Sy (iJ (Ll (i:=2) qQ.nd (XJ (x:="let = 1") (xs:=["x","","claim @ <","end 1","let @ = 1 +","while","helper F","let @ = 01"," end"]) rfl)) (iJ (Lm (ay (i:=2) qQ.nd (aB aA (ah 2) (DN (xs:=["if (@ < 1)","row #@ = 1","put @ at 1","call","answers","needs @","holds","falls","else @"]) rfl)))) (Vb (Z7 (a2p (GO (cG (ah 2) (aB iP (ah 0) (aJ ck (by rfl) J.cu PySem.boot_len (qa (ah 2) aa))))) (Yw XM (a6Z (qa (ah 1) aa))))))))),fun ds S kk hc hd h=>?_⟩;obtain⟨c,x,rfl,hx,h⟩:=h;have lx:=b4 hx;refine⟨sz 10,?_⟩;dsimp only[dB];refine⟨_,rfl,sz 9,_,_,rfl,rfl,sz 19,?_⟩;dsimp only[dB];obtain⟨t,ht,et⟩:=WL c;have ne:("@":Str)≠x:=fun e=>by rw[<- e] at hx;revert hx;symm
 have YH:=(zV t ht).1.2;exact⟨_,rfl,_,rfl,_,rfl,_,rfl,(by show(0:Int)<19;decide),_,_,rfl,et,rfl,_,rfl,_,_,rfl,ne,by omega,by omega,iQ (h _ (a0e ht)),iQ (h _ (Vv ht hx))⟩
noncomputable abbrev nu:Stmt:=top 85
theorem eY:au ["_law_script","_law_names_here","_law_rows_here","_law_ahead","_law_good","_law_some","_law_k","_law_cell","_law_place","_law_wrong","_law_more","_law_cut","_law_far","_law_many"] ["_law_script"] (ai nu):=fB
theorem WE (F:dg K "law" "law" nu f fd)(J:Fx K mg A)(aV:tK P w K mg base k)(gc:AL P w K mg base k)(xE:tL P w K mg base k)(iX:tM P w K mg base k)(EF:AJ P w K mg base k)(CC:xO P w K mg base k)(nX:lN P w K mg base k):aL P w K mg base c5 (k+1) f fd ["_law_script"] (bR K K6):=by
 refine cj F eY fun AT B outer s H E hr=>?_;rw[show ao nu=[_,_,_,_,_,_,_,_,_,_] from rfl];refine⟨_,(qs (ay (i:=1) eY.nd (aq CC hr rfl (qa (jR (qa (aq iX hr rfl (qa (ah 0) (qa aj aa))) (qa aj aa))) (qa aj aa)))) (qs (ay (i:=2) eY.nd (aq EF hr rfl (qa (ah 1) aa))) (qs (ay (i:=3) eY.nd (aB r8 (ah 2) (aB iP (aq iX hr rfl (qa (ah 0) (qa aj aa))) aj))) (qs (ay (i:=4) eY.nd (aq gc hr rfl (qa (aB aA (ah 3) (ah 2)) aa))) (qs (cz (aP (mF 40 (uE hr)) (aq aV hr rfl (qa (ah 4) aa)) (yf aj) (aF _)) d8 bC) (qs (ay (i:=5) eY.nd (aq nX hr rfl (qa (jP (cG (ah 1) aj)) aa))) (qs (nK PassesOwn.never rfl (DM rfl J.uz (qa aj aa)) (qg (i:=6) eY.nd) (qs (ay (i:=7) eY.nd (aq iX hr rfl (qa (ah 0) (qa (aB aA aj (ah 6)) aa)))) (qs (vp (cG (ah 5) (aB iP (ah 7) (aJ ck (by rfl) J.cu PySem.boot_len (qa (ah 5) aa)))) (vq (n:=2) rfl (F8 (qg (i:=8) eY.nd) (F8 (qg (i:=9) eY.nd) lY)))) (qs (ay (i:=10) eY.nd (aB aA (aB aA (ah 3) (iH false (ah 2) bS (br (ah 8)))) (eB (qa (ah 9) aa)))) (qs (cz (aP (mF 40 (uE hr)) (aq aV hr rfl (qa (aq gc hr rfl (qa (aB aA (ah 10) (iH false (ah 2) (br (ah 8)) bS)) aa)) aa)) (aB aA (aJ ck (by rfl) J.cu PySem.boot_len (qa (ah 3) aa)) (ah 8)) (aF _)) d8 bC) (qs (ay (i:=11) eY.nd (iH false (ah 2) (br (ah 8)) (br (aB iP (aB vK (ah 7) aj) aj)))) (qs (cz (aP (mF 40 (uE hr)) (aq aV hr rfl (qa (aq gc hr rfl (qa (aB aA (ah 10) (ah 11)) aa)) aa)) (aB aA (aJ ck (by rfl) J.cu PySem.boot_len (qa (ah 3) aa)) (ah 8)) (aF _)) d8 bC) (qs (cz (aP (mF 40 (uE hr)) (aq aV hr rfl (qa (iH false (aq gc hr rfl (qa (aB aA (ah 10) (ah 11)) aa)) bS (br (yf aj))) aa)) (aB aA (aJ ck (by rfl) J.cu PySem.boot_len (qa (ah 3) aa)) (ah 8)) (aF _)) d8 bC) (qs (ay (i:=12) eY.nd (aB aA (ah 8) (aB iP (aB vK (ah 7) aj) (aB BI aj (ah 8))))) (qs (ay (i:=10) eY.nd (aB aA (aB aA (ah 10) (iH false (ah 2) (br (ah 8)) (br (ah 12)))) (eB (qa (aq xE hr rfl (qa (aB vK (ah 7) aj) (qa (cG (ah 1) aj) aa))) aa)))) (qs (cz (aP (mF 40 (uE hr)) (aq aV hr rfl (qa (aq gc hr rfl (qa (aB aA (ah 10) (iH false (ah 2) (br (ah 12)) bS)) aa)) aa)) (aB aA (aJ ck (by rfl) J.cu PySem.boot_len (qa (ah 3) aa)) (ah 8)) (aF _)) d8 bC) (qs (ay (i:=13) eY.nd (aB aA aj (aB iP (aB vK (ah 7) aj) aj))) (cA (cz (aP (mF 40 (uE hr)) (aq aV hr rfl (qa (aq gc hr rfl (qa (aB aA (ah 3) (iH false (ah 2) bS (br (ah 13)))) aa)) aa)) (aB aA (aJ ck (by rfl) J.cu PySem.boot_len (qa (ah 3) aa)) (ah 13)) (aF _)) d8 bC)))))))))))))) (qs (cz (qw (rV (aP (mF 40 (uE hr)) (aq aV hr rfl (qa (iH false (ah 4) bS (br (yf aj))) aa)) (aB aA (aJ ck (by rfl) J.cu PySem.boot_len (qa (ah 3) aa)) aj) (aF _)) (qS (aP (mF 40 (uE hr)) (aq aV hr rfl (qa (aB aA (ah 4) (jP (cG (ah 1) aj))) aa)) (aB aA (aJ ck (by rfl) J.cu PySem.boot_len (qa (ah 3) aa)) aj) (aF _))))) d8 bC) (qs (cz (qw (rV (aP (mF 40 (uE hr)) (aq aV hr rfl (qa (aB aA (ah 4) ak) aa)) (aB aA (aJ ck (by rfl) J.cu PySem.boot_len (qa (ah 3) aa)) aj) (aF _)) (qS (aP (mF 40 (uE hr)) (aq aV hr rfl (qa (aB aA ak (ah 4)) aa)) aj (aF _))))) d8 bC) (cA (aK (iN (cT (fq 40 (uE hr)) (aq aV hr rfl (qa ak aa)) aj (aF _)) (iN (cT (fq 40 (uE hr)) (aq aV hr rfl (qa ak aa)) aj (aF _)) (nv (cT (fq 40 (uE hr)) (aq aV hr rfl (qa (ah 4) aa)) (yf aj) (aF _)))))))))))))))),fun ds S kk hc hd h=>?_⟩;obtain⟨l,rfl,rfl,h⟩:=h;refine⟨_,rfl,l,0,rfl,fun c0=>⟨_,rfl,sz 2,0,3,rfl,by decide,⟨_,_,rfl⟩,fun ns c m hl nd hnm=>?_⟩⟩;obtain⟨x,y,a,rfl⟩:=Kg hl;rw[show qd ([]++[O.lst [T.v (V.int c0),T.v (V.int 0)]]) 0 c m=[O.lst [T.int c,T.int m]] from rfl];generalize O.lst [T.int c,T.int m]=o;have hx:=hnm x (by simp);have hy:=hnm y (by simp);have ha:=hnm a (by simp)
 try dsimp only[dB]
 refine⟨_,rfl,x,y,a,rfl,hx,hy,ha,?_⟩;rw[show((gR x y a).map (·.2)).map T.str=tl (gR x y a) from rfl];have gk:(gR x y a).map (·.1)=gK:=a6n x y a;have lg:(gR x y a).length=16:=rfl;have gl:LL 16 (gR x y a):=⟨a2g hx hy ha,by rw[lg];decide,by decide⟩
 generalize gR x y a=G at gk lg gl
 try dsimp only[dB]
 refine⟨_,rfl,_,rfl,l,1,rfl,fun c1=>⟨(by show(0:Int)<2;decide),tl G,rfl,?_,?_,?_,?_⟩⟩
 .have:=Int.emod_nonneg c1 (show(2:Int)≠0 by decide);omega
 .have:=Int.emod_lt_of_pos c1 (show(0:Int)<2 by decide);omega
 .have:=Int.emod_lt_of_pos c1 (show(0:Int)<2 by decide);have h2:(c1 % 2).toNat<=1:=by omega
  have:=Nat.mul_le_mul_left (tl G).length h2;rw[gP,lg] at this ⊢;exact sL (by omega)
 obtain⟨b,eb⟩:=rep2 c1 (tl G);rw[eb];obtain⟨AH,eA,hak,hal,all⟩:∃AH,(if b=true then tl G else[])=tl AH/\AH.map (·.1)=kC b/\AH.length=(kC b).length/\LL 16 AH:=by
  cases b with
  |true=>exact⟨G,rfl,gk,lg,gl⟩
  |false=>exact⟨[],rfl,rfl,rfl,⟨fun _ h=>absurd h List.not_mem_nil,by decide,by decide⟩⟩
 rw[eA];clear eb eA;have M9:LL 32 (AH++G):=all.app gl (by decide);have Xd:(AH++G).map (·.1)=kC b++gK:=by rw[List.map_append,hak,gk]
 obtain⟨c1',cM,c15,c16,cN,cZ⟩:=NO b
 try dsimp only[dB]
 refine⟨_,rfl,_,rfl,_,_,rfl,rfl,all.sz gl,?_⟩;rw[<- jF]
 try dsimp only[bQ]
 refine qX M9 ?_
 try dsimp only[dB]
 refine⟨_,rfl,?_⟩
 try dsimp only[bQ]
 refine Tr M9 rfl (by rw[Xd];exact c1') fun o1=>?_;refine⟨rfl,false,congrArg D.bl (xI rfl),?_⟩
 try dsimp only
 rw[if_neg (by decide)];refine⟨_,rfl,_,_,rfl,aY (j:=0) rfl,x,rfl,x,rfl,hx,?_⟩
 try dsimp only[dB]
 have hOT:∀cl:Int,∃(j p:Nat)(k:Kd)(w:Str),j<42/\oK[j]?=some (p,k)/\RK k w/\oM ((oR x).map oT) (cl % (((oR x).map oT).length:Int))=some (T.tup [T.int p,T.str w]):=fun cl=>by
  obtain⟨j,p,k,w,h1,h2,h3,h4⟩:=a02 x cl;exact⟨j,p,k,w,h1,h2,a01 hx _ h3,h4⟩
 have lOT:((oR x).map oT).length=42:=rfl;generalize (oR x).map oT=OT at hOT lOT;refine⟨(4:Int),rfl,by decide,by decide,?_⟩;rw[show(4:Int).toNat=4 from rfl];refine Aj (fun i Z S'=>∃(z6 z7 z8 z9 z10 z11 z12 YY:Option D)(o':O),Z=[some (D.t (T.Bb (List.map T.int l))),some (D.t (lsN [x,y,a])),some (D.lst (tl G)),some (D.lst (tl AH)),some (D.str (jL (AH++G))),some (D.lst OT),z6,z7,z8,z9,z10,z11,z12,YY]/\S'=[o']) ⟨_,_,_,_,_,_,_,_,_,rfl,rfl⟩ ?_ ?_
 .rintro i xk Z S' Nn hxk ⟨z6,z7,z8,z9,z10,z11,z12,YY,o',rfl,rfl⟩ hN;have hi:i<4:=by
   have:=(List.getElem?_eq_some_iff.mp hxk).1;simpa using this
  rw[List.getElem?_map,List.getElem?_range hi] at hxk;cases hxk;refine⟨trivial,_,rfl,_,rfl,l,2+i,rfl,fun cl=>?_⟩;obtain⟨j,p,k,w,hj,hjk,rkw,eat⟩:=hOT cl;obtain⟨k1,k2,k3,a9U,hkn⟩:=RD b hj hjk
  try dsimp only[dB]
  refine⟨_,rfl,_,rfl,_,rfl,_,rfl,(by rw[lOT];decide),_,_,rfl,eat,_,rfl,rfl,_,_,rfl,_,_,rfl,rfl,?_⟩
  try dsimp only[dB]
  refine⟨_,rfl,_,rfl,_,rfl,(p:Int),rfl,_,rfl,?_⟩;rw[if_neg (by decide),T9,tV];refine⟨_,_,rfl,rfl,all.sz (gl.take p),_,rfl,_,rfl,sz 1,?_⟩;rw[<- jF];have mAT:LL 32 (AH++G.take p):=all.app (gl.take p) (by decide);refine⟨_,_,rfl,rfl,mAT.nI,?_⟩;rw[Ka _ k w];have TX:LL 33 ((AH++G.take p)++[(k,w)]):=mAT.app (LL.one (p:=(k,w)) rkw) (by decide);have kMR:((AH++G.take p)++[(k,w)]).map (·.1)=Jc b p k:=by unfold Jc;rw[List.map_append,List.map_append,hak,List.map_take,gk];rfl
  have neM:(AH++G.take p)++[(k,w)]≠[]:=List.append_ne_nil_of_right_ne_nil _ (List.cons_ne_nil _ _);have nMR:∀q∈(AH++G.take p)++[(k,w)],q.1∉[Kd.ot,.nl]:=fun q hq=>by
   rcases List.mem_append.mp hq with hq | hq
   .rcases List.mem_append.mp hq with hq | hq
    .have:q.1∈kC b:=by rw[<- hak];exact List.mem_map.mpr ⟨q,hq,rfl⟩
     exact Cc _ (by revert this;cases b;simp[kC];exact fun h=>h)
    .have:q.1∈gK:=by rw[<- gk];exact List.mem_map.mpr ⟨q,List.mem_of_mem_take hq,rfl⟩
     exact Cc _ this
   .rw[List.mem_singleton.mp hq];exact hkn
  generalize (AH++G.take p)++[(k,w)]=MR at TX kMR neM nMR
  try dsimp only[dB]
  show pG _ _ _ [some (D.t (T.Bb (List.map T.int l))),some (D.t (lsN [x,y,a])),some (D.lst (tl G)),some (D.lst (tl AH)),some (D.str (jL (AH++G))),some (D.lst OT),some (D.int i),some (D.int cl),some (D.int p),some (D.str w),some (D.lst (tl MR)),z11,z12,YY] _;refine⟨_,rfl,_,rfl,_,rfl,(p:Int),rfl,_,rfl,?_⟩;rw[if_neg (by decide),yu,tW];refine⟨_,_,rfl,rfl,TX.sz (gl.drop p),?_⟩;rw[<- jF];have h1:LL 49 (MR++G.drop p):=TX.app (gl.drop p) (by decide)
  try dsimp only[bQ]
  refine qX h1 ?_
  try dsimp only[bQ]
  refine yk h1 rfl (by rw[List.map_append,kMR,List.map_drop,gk];exact k1) fun o2=>?_;refine⟨_,rfl,_,rfl,_,rfl,rfl,false,congrArg D.bl (xI (by rw[gP,hal];push_cast;rfl)),?_⟩
  try dsimp only
  rw[if_neg (by decide)];obtain⟨c,ec,hc⟩:=WO (c:=cl / 61) (m:=17) (by decide);refine⟨_,rfl,_,rfl,(p:Int),rfl,_,rfl,⟨by decide,by decide⟩,(by show(0:Int)<17;decide),(c:Int),congrArg D.int ec,_,rfl,?_⟩;rw[if_neg (by decide),NB,tV,tW];have h2:LL 49 (MR++(G.take c).drop p):=TX.app ((gl.take c).drop p) (by decide);have kk2:(MR++(G.take c).drop p).map (·.1)=Jc b p k++(gK.take c).drop p:=by rw[List.map_append,kMR,List.map_drop,List.map_take,gk]
  obtain⟨k21,k22⟩:=k2 c hc
  try dsimp only[dB]
  refine⟨_,rfl,_,rfl,_,_,rfl,rfl,TX.sz ((gl.take c).drop p),?_⟩;rw[<- jF]
  try dsimp only[bQ]
  refine qX h2 ?_
  try dsimp only[bQ]
  refine yk h2 rfl (by rw[kk2];exact k21) fun o3=>?_;refine⟨_,rfl,_,rfl,_,rfl,rfl,false,congrArg D.bl (xI (by rw[gP,hal];push_cast;rfl)),?_⟩
  try dsimp only
  rw[if_neg (by decide)];refine⟨_,rfl,_,rfl,_,_,rfl,rfl,TX.sz ((gl.take c).drop p),?_⟩;rw[<- jF]
  try dsimp only[bQ]
  refine qX h2 ?_;refine⟨-1,rfl,h2.jz (n:=0) (by decide),?_⟩
  try dsimp only[bQ]
  refine ME h2 (fun z=>neM (List.append_eq_nil_iff.mp z).1) (fun q hq=>?_) rfl (by rw[kk2];exact k22) fun o4=>?_
  .rcases List.mem_append.mp hq with hq | hq
   .exact nMR q hq
   .have:q.1∈gK:=by rw[<- gk];exact List.mem_map.mpr ⟨q,List.mem_of_mem_take (List.mem_of_mem_drop hq),rfl⟩
    exact Cc _ this
  refine⟨_,rfl,_,rfl,_,rfl,rfl,false,congrArg D.bl (xI (by rw[gP,hal];push_cast;rfl)),?_⟩
  try dsimp only
  rw[if_neg (by decide)];have e17:(17:Int) - (p:Int)=((17 - p:Nat):Int):=by omega
  obtain⟨q,eq,hq⟩:=WO (c:=cl / 1200) (m:=17 - p) (by omega);refine⟨_,rfl,_,rfl,⟨by decide,by decide⟩,_,rfl,(by omega),?_⟩;rw[e17,eq]
  try dsimp only[dB]
  refine⟨_,rfl,_,rfl,_,rfl,(p:Int),rfl,_,rfl,((p+q:Nat):Int),rfl,_,rfl,?_⟩;rw[if_neg (by decide),NB,tV,tW];refine⟨_,_,rfl,rfl,TX.sz ((gl.take (p+q)).drop p),_,rfl,⟨by decide,by decide⟩,_,rfl,_,_,rfl,aY (j:=0) rfl,cl / 30000,x,rfl,hx,fun tn rkn=>⟨_,rfl,sz 1,?_⟩⟩;rw[<- jF];have hM2:LL 49 (MR++(G.take (p+q)).drop p):=TX.app ((gl.take (p+q)).drop p) (by decide);refine⟨_,_,rfl,rfl,hM2.nI,?_⟩;rw[Ka _ .ot tn];have hM3:LL 50 ((MR++(G.take (p+q)).drop p)++[(Kd.ot,tn)]):=hM2.app (LL.one (p:=(Kd.ot,tn)) rkn) (by decide);have kM3:((MR++(G.take (p+q)).drop p)++[(Kd.ot,tn)]).map (·.1)=(Jc b p k++(gK.take (p+q)).drop p)++[Kd.ot]:=by rw[List.map_append,List.map_append,kMR,List.map_drop,List.map_take,gk];rfl
  generalize (MR++(G.take (p+q)).drop p)++[(Kd.ot,tn)]=M3 at hM3 kM3
  try dsimp only[dB]
  show pG _ _ _ [some (D.t (T.Bb (List.map T.int l))),some (D.t (lsN [x,y,a])),some (D.lst (tl G)),some (D.lst (tl AH)),some (D.str (jL (AH++G))),some (D.lst OT),some (D.int i),some (D.int cl),some (D.int p),some (D.str w),some (D.lst (tl M3)),_,some (D.int ((p+q:Nat):Int)),YY] _;refine⟨_,rfl,_,rfl,_,rfl,((p+q:Nat):Int),rfl,_,rfl,?_⟩;rw[if_neg (by decide),yu,tW];refine⟨_,_,rfl,rfl,hM3.sz (gl.drop (p+q)),?_⟩;rw[<- jF];have h3:LL 66 (M3++G.drop (p+q)):=hM3.app (gl.drop (p+q)) (by decide)
  try dsimp only[bQ]
  refine qX h3 ?_
  try dsimp only[bQ]
  refine yk h3 rfl (by rw[List.map_append,kM3,List.map_drop,gk];exact k3 q hq) fun o5=>?_;refine⟨_,rfl,_,rfl,_,rfl,rfl,false,congrArg D.bl (xI (by rw[gP,hal];push_cast;rfl)),?_⟩
  try dsimp only
  rw[if_neg (by decide)];obtain⟨mm,em,hm⟩:=WO (c:=cl / 7) (m:=15) (by decide);refine⟨_,rfl,⟨by decide,by decide⟩,(by show(0:Int)<15;decide),?_⟩;have em:cl / 7 % 15=(mm:Int):=em;rw[em]
  try dsimp only[dB]
  refine⟨_,rfl,_,rfl,_,rfl,((1+mm:Nat):Int),rfl,_,rfl,?_⟩;rw[if_neg (by decide),T9,tV];refine⟨_,_,rfl,rfl,all.sz (gl.take _),?_⟩;rw[<- jF];have h4:LL 32 (AH++G.take (1+mm)):=all.app (gl.take _) (by decide)
  try dsimp only[bQ]
  refine qX h4 ?_
  try dsimp only[bQ]
  refine yk h4 rfl (by rw[List.map_append,hak,List.map_take,gk];rw[Nat.add_comm 1 mm];exact cM mm hm) fun o6=>?_;refine⟨_,rfl,_,rfl,_,rfl,rfl,false,congrArg D.bl (xI (by rw[gP,hal];push_cast;omega)),?_⟩
  try dsimp only
  rw[if_neg (by decide)];exact hN _ _ ⟨_,_,_,_,_,_,_,_,_,rfl,rfl⟩
 rintro Z S' ⟨z6,z7,z8,z9,z10,z11,z12,YY,o',rfl,rfl⟩;refine⟨trivial,?_⟩;have nAG:∀q∈AH++G,q.1∉[Kd.ot,.nl]:=fun q hq=>by
  have:q.1∈kC b++gK:=by rw[<- Xd];exact List.mem_map.mpr ⟨q,hq,rfl⟩
  rcases List.mem_append.mp this with h | h
  .exact Cc _ (by revert h;cases b;simp[kC];exact fun h=>h)
  .exact Cc _ h
 have xl:=b4 hx;refine⟨_,rfl,-1,rfl,M9.jz (n:=0) (by decide),?_⟩
 try dsimp only[bQ]
 refine ME M9 (fun z=>by have e:=congrArg List.length z;rw[List.length_append,lg] at e;simp at e) nAG rfl (by rw[Xd];exact c15) fun o1=>?_;refine⟨_,rfl,_,rfl,rfl,false,congrArg D.bl (xI (by rw[gP,hal];push_cast;rfl)),?_⟩
 try dsimp only
 rw[if_neg (by decide)];refine⟨_,rfl,_,rfl,_,_,rfl,aY (j:=0) rfl,x,rfl,M9.jz (Nat.le_trans xl (by decide)),?_⟩
 try dsimp only[bQ]
 refine Q5 M9 hx rfl (by rw[Xd];exact c16) fun o2=>?_;refine⟨_,rfl,_,rfl,rfl,false,congrArg D.bl (xI (by rw[gP,hal];push_cast;rfl)),?_⟩
 try dsimp only
 rw[if_neg (by decide)];have nl1:("\n":Str).length<=100:=by symm
 refine⟨_,rfl,M9.jz nl1,?_⟩
 try dsimp only[bQ]
 refine a1k M9 (by decide) rfl (by rw[Xd];exact cN) fun o3=>?_;refine⟨_,rfl,_,rfl,rfl,false,congrArg D.bl (xI (by rw[gP,hal];push_cast;rfl)),?_⟩
 try dsimp only
 rw[if_neg (by decide)];refine⟨_,rfl,by rw[Nat.add_comm];exact M9.jz nl1,?_⟩
 try dsimp only[bQ]
 refine W3 M9 (by decide) rfl (by rw[Xd];exact cZ) fun o4=>?_;refine⟨rfl,false,congrArg D.bl (xI rfl),?_⟩
 try dsimp only
 rw[if_neg (by decide)];dsimp only[Kp,uN,KC,xu,uO,bD,bQ,yS];refine Q4 rfl fun o5=>?_;refine⟨rfl,true,congrArg D.bl (ieq rfl),?_⟩;rw[if_pos rfl];refine W2 rfl fun o6=>?_;refine⟨rfl,true,congrArg D.bl (ieq rfl),?_⟩;rw[if_pos rfl];refine⟨_,rfl,?_⟩;refine Tr M9 rfl (by rw[Xd];exact c1') fun o7=>?_;refine⟨rfl,?_⟩;rw[show xor false (decide (V.int (-1)=V.int (-1)))=true from ieq rfl];exact iQ (h _)
variable {fI fW:Addr}{Uk Jh:List Value}{W:Addr}
noncomputable abbrev t9:Stmt:=inClass (top 2) 0
theorem Li:au ["self","words"] ["self","words"] (ai t9):=fB
theorem Me (F:dg K "__init__" "WritError.__init__" t9 fW fd)(XT:XTx K mg A.az W fI fW Uk Jh (x5 A)):aL P w K mg base c5 (k+1) fW fd ["self","words"] (ZN A.az):=by
 refine F.ok Li (fun vs H Q E ⟨a,v,e,_⟩=>by rw[e];rfl) ?_;rintro AT B outer s H vs Q E hr ⟨a,v,e,ha,hk⟩;subst e;rw[show ao t9=[_] from rfl];exact⟨_,zM (zN (LR XT.ct rfl XT.mgV XT.gv (jS (pv 0) (jS (pv 1) qW)))),_,rfl,_,rfl,a,v,rfl,ha,hk⟩
variable {fI fW:Addr}{Uk Jh:List Value}{W:Addr}
noncomputable abbrev pM:Stmt:=inClass (top 4) 0
theorem HF:au ["self","at"] ["self","at"] (ai pM):=fB
theorem Ia {fdW:FuncData}(F:dg K "__init__" "NoText.__init__" pM fI fd)(XT:XTx K mg A.az W fI fW Uk Jh (x5 A))(FW:aL P w K mg base c5 k fW fdW ["self","words"] (ZN A.az))(bW:L2.Binds K fdW ["self","words"] []):aL P w K mg base c5 (k+1) fI fd ["self","at"] (K3 A.az):=by
 refine F.ok HF (fun vs H Q E ⟨a,v,e,_⟩=>by rw[e];rfl) ?_;rintro AT B outer s H vs Q E hr ⟨a,n,e,hn,ha,hk⟩;subst e;rw[show ao pM=[_,_] from rfl];refine⟨_,Bu (zN (Gj rfl XT.mgW XT.g1 XT.g2 XT.g3 XT.g4 XT.g5 FW hr bW rX (jS (pv 0) (jS (P8 (LK (V8 (pv 1) (LK V9)))) qW)))) (zM (PN XT.st (pv 0) (pv 1) rfl)),?_⟩;obtain⟨l1,l2⟩:=Rh hn;have e1:("row ":Str).length<=100:=by symm
 have e2:(" is of no form, or can't stand where it is":Str).length<=100:=by symm
 have e0:(Str.empty++("row ":Str)).length<=100:=by symm
 have e3:(Str.ofString (toString n)).length<=30:=by rw[PySem.ofString_length];exact l1
 have z3:=le_app e0 e3;have z4:=le_app z3 e2;refine⟨_,rfl,sL (by omega),_,rfl,.inl ⟨n,rfl,l2,sL (by omega),sL (by omega),sL (by omega),a,_,rfl,ha,?_⟩⟩;exact⟨_,rfl,_,rfl,a,rfl,ha,fun dx h1 h2=>hk dx h1 h2⟩
end
structure mR (K:PySem.W.Frag)(C:Addr):Prop where
 pg:PySem.W.plainGet K C Str.empty=true
 hd:PySem.W.hasDictIn K C=true
 po:PySem.W.plainOver K C=true
 sa:PySem.W.findIn K (.ref C) "__setattr__"=some (some (.builtin "object.__setattr__"))
 mi:PySem.W.makesIn K C=true
 kc:PySem.W.keepIn K (.ref C)=true
 ca:PySem.W.findIn K (.ref C) "__class__"=some (some (.builtin "object.__class__"))
 cm:PySem.W.mroIn K C (.type "object")=some true
theorem mR.ok {K:PySem.W.Frag}{C:Addr}(q:mR K C)(cg:PySem.W.specialIn K (.builtin "object.__class__") "__get__"=some (some (.builtin "getset_descriptor.__get__")))(ct:PySem.W.takesIn K (.builtin "object.__class__")=some true):fk K C []:=⟨⟨q.pg,q.hd,q.po,q.sa⟩,fun _ h=>absurd h List.not_mem_nil,q.ca,cg,ct,q.cm⟩
def FnAt (K:PySem.W.Frag)(f:Addr)(x qual:Str)(st:Stmt):Prop:=∃fd,dg K x qual st f fd/\PySem.W.keepIn K (.ref f)=true
noncomputable def FnAt.fd {K:PySem.W.Frag}{f:Addr}{x qual:Str}{st:Stmt}(h:FnAt K f x qual st):FuncData:=Classical.choose h
theorem FnAt.F {K:PySem.W.Frag}{f:Addr}{x qual:Str}{st:Stmt}(h:FnAt K f x qual st):dg K x qual st f h.fd:=(Classical.choose_spec h).1
theorem FnAt.k {K:PySem.W.Frag}{f:Addr}{x qual:Str}{st:Stmt}(h:FnAt K f x qual st):PySem.W.keepIn K (.ref f)=true:=(Classical.choose_spec h).2
section
variable {P:Program}{w:World}{K:PySem.W.Frag}{mg:Str->Option Value}{base:Heap}{k:Nat}{f:Addr}{fd:FuncData}{ps:List Str}{sp Z2:ef}{A:Ad}
theorem Xz {s s':Sp}(h:∀vs H Q E,s' vs H Q E->s vs H Q E)(F:aL P w K mg base c5 k f fd ps s):aL P w K mg base c5 k f fd ps s':=
 ⟨fun vs H Q E q=>F.len vs H Q E (h vs H Q E q),fun A outer s H args us vs Q E hr he hb hv q=>F.run A outer s H args us vs Q E hr he hb hv (h _ _ _ _ q)⟩
theorem a2m {s':Sp}(h:∀vs H Q E,s' vs H Q E->bR K sp vs H Q E)(F:aL P w K mg base c5 k f fd ps (bR K sp)):aL P w K mg base c5 k f fd ps s':=Xz h F
theorem a2l (h:∀ds S k,¬ sp ds S k):aL P w K mg base c5 k f fd ps (bR K sp):=
 ⟨(by rintro vs H Q E ⟨_,S,ds,kk,_,_,q,_⟩;exact(h ds S kk q).elim),(by rintro A outer s H args us vs Q E hr he hb hv ⟨_,S,ds,kk,_,_,q,_⟩;exact(h ds S kk q).elim)⟩
theorem _root_.Hw.Dn.u {x:Str}{j:Nat}{s:Sp}(h:Dn P w K mg base j x ps s)(l:autoParam (j<=k) zn):Dn P w K mg base k x ps s:=Dn.up h l
theorem Ms.u {n j:Nat}{m:Str}{cl:Nat->Addr}{s:Nat->ef}(h:Ms P w K mg base j n cl m ps s)(l:autoParam (j<=k) zn):Ms P w K mg base k n cl m ps s:=Ms.up h l
theorem kB.u {x:Str}{C:Addr}{j:Nat}(h:kB P w K mg base j C x ps sp)(l:autoParam (j<=k) zn):kB P w K mg base k C x ps sp:=kB.up h l
theorem dA {x y qual:Str}{st:Stmt}{s:Sp}(l:FnAt K f y qual st)(a:mg x=some (.ref f))(b:Binds K l.fd ps [])(o:aL P w K mg base c5 k f l.fd ps s):Dn P w K mg base k x ps s:=⟨f,l.fd,o,a,l.k,b⟩
theorem Cm.up {x m:Str}{j:Nat}(h:Cm P w K mg base j x m ps sp)(l:j<=k):Cm P w K mg base k x m ps sp:=let⟨C,f,fd,F,a⟩:=h.ok;⟨⟨C,f,fd,F.mono l,a⟩⟩
theorem Cm.u {x m:Str}{j:Nat}(h:Cm P w K mg base j x m ps sp)(l:autoParam (j<=k) zn):Cm P w K mg base k x m ps sp:=Cm.up h l
theorem a06:∀ds S k,¬ ZX ds S k:=fun _ _ _ h=>h
theorem dU {C:Addr}{x y qual:Str}{st:Stmt}{s:xh}(l:FnAt K f y qual st)(a:mg x=some (.ref f))(b:Binds K l.fd ps [])(o:aL P w K mg base (qE P w C) k f l.fd ps (CY K s)):uH P w K mg base C k x ps s:=⟨f,l.fd,o,a,l.k,b⟩
theorem muA {C c:Addr}{m:Str}{s:xh}(o:aL P w K mg base (qE P w C) k f fd ps (CY K s))(a:PySem.W.findIn K (.ref c) m=some (some (.ref f)))(i:PySem.W.isFn K (.ref f)=true)(h:PySem.W.keepIn K (.ref f)=true)(b:Binds K fd ps []):C0 P w K mg base C k c m ps s:=⟨f,fd,o,⟨a,i,h⟩,b⟩
theorem uH.u {C:Addr}{x:Str}{j:Nat}{s:xh}(h:uH P w K mg base C j x ps s)(l:autoParam (j<=k) zn):uH P w K mg base C k x ps s:=uH.up h l
theorem C0.u {C c:Addr}{m:Str}{j:Nat}{s:xh}(h:C0 P w K mg base C j c m ps s)(l:autoParam (j<=k) zn):C0 P w K mg base C k c m ps s:=C0.up h l
theorem a2k {C:Addr}:aL P w K mg base (qE P w C) k f fd ps (CY K (uX A F0)):=
 ⟨(by rintro vs H Q E ⟨_,S,ds,kk,g,_,_,_,⟨_,_,_,_,_,_,q⟩,_⟩;exact q.elim),(by rintro A outer s H args us vs Q E hr he hb hv ⟨_,S,ds,kk,g,_,_,_,⟨_,_,_,_,_,_,q⟩,_⟩;exact q.elim)⟩
theorem A3:∀l:List (Str×Tok),Vals ((l.map (·.1)).map V.str) (l.map fun p=>Value.str p.1 p.2)
 |[]=>.nil
 |p::l=>.cons ⟨p.2,rfl⟩ (A3 l)
theorem tupK {a:Addr}{od:Option Addr}{n:Nat}{sl:Array (Option Value)}{l:List (Str×Tok)}(h:K.lookup a=some ⟨.type "tuple",od,.seq (l.map fun p=>Value.str p.1 p.2).toArray n,sl⟩)(hl:decide (l.length<=100)=true):∀H:Hp,lM K H a ((l.map (·.1)).map V.str):=fun H=>
 .inr ⟨_,_,n,h,rfl,rfl,nI (by have:=of_decide_eq_true hl;simp;omega),by simpa using A3 l,Mx⟩
theorem W6:∀vs H Q E,FH K vs H Q E->bR K K6 vs H Q E:=(by
 rintro vs H Q E ⟨a,ns,e,hs,_,h⟩;refine⟨[],[],[.t (.Bb (ns.map T.int))],fun d _=>d=.bl true,⟨rfl,.nil,fun n a o h=>by cases h⟩,?_,⟨ns,rfl,rfl,fun _=>rfl⟩,fun v H' u=>?_⟩
 .rw[e];refine .cons ?_ .nil;show Rp _ _ _ _;unfold Rp;rw[Pf];exact⟨a,_,rfl,hs,aW.ofInts ns⟩
 .obtain⟨Y',S',d,_,_,r,rfl⟩:=u;rw[aE r];exact h H')
end
theorem kS4 {K:PySem.W.Frag}{A:Ad}(h0:PySem.W.kitOne K (.ref (Ue A 0)) (.ref A.bE)=some false)(h1:PySem.W.kitOne K (.ref (Ue A 1)) (.ref A.bE)=some false)(h2:PySem.W.kitOne K (.ref (Ue A 2)) (.ref A.bE)=some true)(h3:PySem.W.kitOne K (.ref (Ue A 3)) (.ref A.bE)=some true):∀j,j<4->PySem.W.kitOne K (.ref (Ue A j)) (.ref A.bE)=some (decide (2<=j)):=fun j hj=>by
 match j,hj with
 |0,_=>exact h0
 |1,_=>exact h1
 |2,_=>exact h2
 |3,_=>exact h3
end L3
namespace Hw
open PySem L2 PyProof.Rows
abbrev NG (K:PySem.W.Frag)(x:Str)(a:Addr):Prop:=PySem.W.nsIn K mainGlobals x=some (some (.ref a))
abbrev NZ (K:PySem.W.Frag)(x:Str):Prop:=PySem.W.nsIn K mainGlobals x=some none
abbrev NF (K:PySem.W.Frag)(c:Addr)(x:Str):Prop:=PySem.W.findIn K (.ref c) x=some none
abbrev NM (K:PySem.W.Frag)(c:Addr)(x:Str)(f:Addr):Prop:=PySem.W.findIn K (.ref c) x=some (some (.ref f))
theorem Rm {K:PySem.W.Frag}{x qual:Str}{st:Stmt}{f:Addr}{oc:Value}{od an:Option Addr}{osl:Array (Option Value)}{kV doc pm AT ct:Value}{A:Arguments}{B:List Stmt}{S:Scope}(l:K.lookup f=some ⟨oc,od,.func (PySem.W.fnOf x qual A B S .none kV doc pm an AT ct),osl⟩)(e:(A,B,S)=(g7 st,ao st,ai st))(c:PySem.W.codeIn K AT qual=true)(k:PySem.W.keepIn K (.ref f)=true):dg K x qual st f (PySem.W.fnOf x qual (g7 st) (ao st) (ai st) .none kV doc pm an AT ct):=by
 obtain⟨e1,e2⟩:=Prod.mk.inj e;obtain⟨e2,e3⟩:=Prod.mk.inj e2;rw[e1,e2,e3] at l;exact Xy l c k
theorem a8d {K:PySem.W.Frag}{x qual:Str}{st:Stmt}{f:Addr}{oc:Value}{od an:Option Addr}{osl:Array (Option Value)}{kV doc pm AT ct:Value}{A:Arguments}{B:List Stmt}{S:Scope}(l:K.lookup f=some ⟨oc,od,.func (PySem.W.fnOf x qual A B S .none kV doc pm an AT ct),osl⟩)(e:(A,B,S)=(g7 st,ao st,ai st))(c:PySem.W.codeIn K AT qual=true)(k:PySem.W.keepIn K (.ref f)=true):L3.FnAt K f x qual st:=⟨_,Rm l e c k,k⟩
noncomputable def zv:List Str->(Nat->Value)->List Value
 |[],_=>[]
 |_::r,g=>g 0::zv r fun n=>g (n+1)
theorem YX (ps:List Str):∀us:List Value,us.length=ps.length->∃g,us=zv ps g:=by
 induction ps with
 |nil=>exact fun us h=>⟨fun _=>.none,List.eq_nil_of_length_eq_zero h⟩
 |cons p ps ih=>
  intro us h;cases us with
  |nil=>cases h
  |cons a r=>
   obtain⟨g,e⟩:=ih r (Nat.succ.inj h);exact⟨fun n=>n.casesOn a fun m=>g m,by rw[e];rfl⟩
theorem _root_.L2.dg.bb {K:PySem.W.Frag}{x qual:Str}{st:Stmt}{f:Addr}{fd:FuncData}{ps:List Str}(F:dg K x qual st f fd)(h:autoParam (∀(kV doc pm:Value)(an:Option Addr)(AT ct:Value)(g:Nat->Value),bindArgs (PySem.W.fnOf x qual (g7 st) (ao st) (ai st) .none kV doc pm an AT ct) ⟨zv ps g,[]⟩=pure (ps.zip (zv ps g))) kn):Binds K fd ps []:=F.binds fun kV doc pm an AT ct us e=>by
 obtain⟨g,rfl⟩:=YX ps us e;exact h kV doc pm an AT ct g
open PySem.W (findIn keepIn fnOf codeIn kitOne nsIn mg_of isFn plainGet hasDictIn plainOver makesIn mg_none_of mroIn)
theorem all_mk {l:PySem.W.OpenLaw}{w:World}{K:PySem.W.Frag}{h:Heap}{mg:Str->Option Value}{fa iY bf cy bE dY gO i6 iZ fN bL bB bu cX cO aX az bP nZ nY iG iE iC Sp f1 f2 f3 f4 f5 f6 f7 f8 f9 f10 f11 f12 f13 f14 f15 f16 f17 f18 f19 f20 f21 f22 f23 f24 f25 f26 f27 f28 f29 f30 f31 f32 f33 f34 f35 f36 f37 f38 f39 f40 f41 f42 f43 f44 f45 f46 f47 f48 f49 f50 f51 f52 f53 f54 f55 f56 f57 f58 f59 f60 f61:Addr}{sG:Addr}{zT:Option Addr}{BO:Nat}{zb:Array (Option Value)}{pC pB pA pe o9 o8 oZ oY oX oW ng nc m8 m5 mZ mY mX mW mV mU mT:Tok}{N5:Addr}{QL:Option Addr}{WQ:Nat}{OW:Array (Option Value)}{Fj Fi Fg Ff Fe Fd:Tok}{JF Sf:Str}{E9:Addr}{JW qI E5:List Value}{AX J0:Bool}{JB:List Str}{E7:Option Bool}{JT:Option Addr}{JR JP JN JL JJ:Option Value}{JG Sg:Str}{Fb:Addr}{JX nG E6:List Value}{AY J1:Bool}{JC:List Str}{E8:Option Bool}{JU:Option Addr}{JS JQ JO JM JK:Option Value}{tcd:ClassData}{tD1 tD2 tD3:Tok}(X:K.In h)(G:h.Ns mainGlobals mg)(hfa:mg "law"=some (.ref fa))
  {a4Y a2L:Option Addr} {a4A:Array (Option Value)} {a4Z a1V a2u a0J Yj a2w:Value} {A59:Arguments} {B59:List Stmt} {S59:Scope}
  (B0:NG K "Sum" iY)
  (Bq:L3.mR K iY)
  (gx:NF K iY "terms")
  (fL:NF K iY "number")
  (jr:NG K "Compare" bf)
  (je:L3.mR K bf)
  (eK:NF K bf "one")
  (dW:NF K bf "sign")
  (dz:NF K bf "other")
  (lu:NG K "Turned" cy)
  (kO:L3.mR K cy)
  (b5:NF K cy "condition")
  (ia:NG K "Several" bE)
  (p9:NG K "Every" dY)
  (pW:L3.mR K dY)
  (b7:NF K dY "conditions")
  (wg:NG K "Some" gO)
  (vA:L3.mR K gO)
  (cI:NF K gO "conditions")
  (Cb:NG K "Let" i6)
  (Bs:L3.mR K i6)
  (kY:NF K i6 "at")
  (ir:NF K i6 "name")
  (gE:NF K i6 "total")
  (Ca:NG K "Put" iZ)
  (Br:L3.mR K iZ)
  (kX:NF K iZ "at")
  (jf:NF K iZ "row")
  (gC:NF K iZ "place")
  (gB:NF K iZ "total")
  (wk:NG K "Make" fN)
  (vC:L3.mR K fN)
  (jg:NF K fN "at")
  (ig:NF K fN "row")
  (gD:NF K fN "size")
  (lD:NG K "Choose" bL)
  (kT:L3.mR K bL)
  (gG:NF K bL "at")
  (b8:NF K bL "condition")
  (eL:NF K bL "then")
  (dX:NF K bL "other")
  (lB:NG K "Repeat" bB)
  (kQ:L3.mR K bB)
  (gz:NF K bB "at")
  (b6:NF K bB "condition")
  (dO:NF K bB "keeps")
  (dP:NF K bB "falls")
  (eF:NF K bB "body")
  (lC:NG K "Helper" bu)
  (kR:L3.mR K bu)
  (gF:NF K bu "at")
  (eG:NF K bu "name")
  (dw:NF K bu "params")
  (cW:NF K bu "answers")
  (dR:NF K bu "needs")
  (dS:NF K bu "gives")
  (dQ:NF K bu "steps")
  (jk:NG K "Program" cX)
  (jd:L3.mR K cX)
  (cJ:NF K cX "helpers")
  (wj:NG K "Rows" cO)
  (vB:L3.mR K cO)
  (gy:NF K cO "rows")
  (fV:NF K cO "at")
  (lA:NG K "Tokens" aX)
  (kP:L3.mR K aX)
  (dj:NF K aX "tokens")
  (cV:NF K aX "place")
  (gw:NF K aX "at")
  (Ek:nsIn K mainGlobals "Step"=some (some (.ref Sp)))
  (UJ:PySem.W.findCls K (.ref Sp) (.type "type") "__init__"=some (.val (.ref f16)))
  (kE:PySem.W.specialIn K (.builtin "object.__class__") "__get__"=some (some (.builtin "getset_descriptor.__get__")))
  (kD:PySem.W.takesIn K (.builtin "object.__class__")=some true)
  (UI:PySem.W.specialIn K (.ref Sp) "__getattribute__"=some (some (.builtin "type.__getattribute__")))
  (UH:PySem.W.readsIn K Sp (.type "type")=true)
  (a1:NG K "refuse_unless" f1)
  (l1:L3.FnAt K f1 "refuse_unless" "refuse_unless" L3.kK)
  (a2:NG K "are_figures" f2)
  (l2:L3.FnAt K f2 "are_figures" "are_figures" L3.zG)
  (a3:NG K "is_name" f3)
  (l3:L3.FnAt K f3 "is_name" "is_name" L3.zF)
  (a4:NG K "is_thing" f4)
  (l4:L3.FnAt K f4 "is_thing" "is_thing" L3.zE)
  (a5:NG K "is_figure_row" f5)
  (l5:L3.FnAt K f5 "is_figure_row" "is_figure_row" L3.zH)
  (a6:NG K "term_of" f6)
  (l6:L3.FnAt K f6 "term_of" "term_of" L3.zo)
  (a7:NG K "signed_terms" f7)
  (l7:L3.FnAt K f7 "signed_terms" "signed_terms" L3.FT)
  (a8:NG K "sum_of_words" f8)
  (l8:L3.FnAt K f8 "sum_of_words" "sum_of_words" L3.FQ)
  (EJ:NM K iY "__init__" f9)
  (i9:isFn K (.ref f9)=true)
  (l9:L3.FnAt K f9 "__init__" "Sum.__init__" L3.jJ)
  (a10:NG K "sum_of" f10)
  (l10:L3.FnAt K f10 "sum_of" "sum_of" L3.pL)
  (lJ:NM K bf "__init__" f11)
  (i11:isFn K (.ref f11)=true)
  (l11:L3.FnAt K f11 "__init__" "Compare.__init__" L3.fH)
  (ou:NM K cy "__init__" f12)
  (i12:isFn K (.ref f12)=true)
  (l12:L3.FnAt K f12 "__init__" "Turned.__init__" L3.gi)
  (AE:NM K i6 "__init__" f13)
  (i13:isFn K (.ref f13)=true)
  (l13:L3.FnAt K f13 "__init__" "Let.__init__" L3.jM)
  (AD:NM K iZ "__init__" f14)
  (i14:isFn K (.ref f14)=true)
  (l14:L3.FnAt K f14 "__init__" "Put.__init__" L3.jK)
  (wO:NM K fN "__init__" f15)
  (i15:isFn K (.ref f15)=true)
  (l15:L3.FnAt K f15 "__init__" "Make.__init__" L3.iM)
  (l16:L3.FnAt K f16 "__init__" "Step.__init__" L3.iL)
  (rB:NM K dY "__init__" f17)
  (wN:NM K gO "__init__" f17)
  (i17:isFn K (.ref f17)=true)
  (YI:L3.FnAt K f17 "__init__" "Several.__init__" L3.fF)
  (oq:NM K bL "__init__" f18)
  (i18:isFn K (.ref f18)=true)
  (l18:L3.FnAt K f18 "__init__" "Choose.__init__" L3.gn)
  (om:NM K bB "__init__" f19)
  (i19:isFn K (.ref f19)=true)
  (l19:L3.FnAt K f19 "__init__" "Repeat.__init__" L3.gj)
  (a20:NG K "as_pairs" f20)
  (YH:L3.FnAt K f20 "as_pairs" "as_pairs" L3.jI)
  (oj:NM K aX "coming" f21)
  (i21:isFn K (.ref f21)=true)
  (l21:L3.FnAt K f21 "coming" "Tokens.coming" L3.zp)
  (oi:NM K aX "take" f22)
  (i22:isFn K (.ref f22)=true)
  (l22:L3.FnAt K f22 "take" "Tokens.take" L3.zj)
  (oh:NM K aX "take_just" f23)
  (i23:isFn K (.ref f23)=true)
  (l23:L3.FnAt K f23 "take_just" "Tokens.take_just" L3.zl)
  (n9:NM K aX "take_until" f24)
  (i24:isFn K (.ref f24)=true)
  (l24:L3.FnAt K f24 "take_until" "Tokens.take_until" L3.zh)
  (a25:NG K "tokens_of" f25)
  (l25:L3.FnAt K f25 "tokens_of" "tokens_of" L3.zk)
  (n8:NM K aX "__init__" f26)
  (i26:isFn K (.ref f26)=true)
  (l26:L3.FnAt K f26 "__init__" "Tokens.__init__" L3.zm)
  (a27:NG K "read_comparison" f27)
  (l27:L3.FnAt K f27 "read_comparison" "read_comparison" L3.zC)
  (a28:NG K "read_bracketed" f28)
  (Om:L3.FnAt K f28 "read_bracketed" "read_bracketed" L3.FU)
  (a29:NG K "read_part" f29)
  (MK:L3.FnAt K f29 "read_part" "read_part" L3.ue)
  (a30:NG K "read_condition" f30)
  (MJ:L3.FnAt K f30 "read_condition" "read_condition" L3.um)
  (a31:NG K "condition_of" f31)
  (l31:L3.FnAt K f31 "condition_of" "condition_of" L3.FY)
  (wM:NM K cO "__init__" f32)
  (i32:isFn K (.ref f32)=true)
  (l32:L3.FnAt K f32 "__init__" "Rows.__init__" L3.zA)
  (wL:NM K cO "coming" f33)
  (i33:isFn K (.ref f33)=true)
  (l33:L3.FnAt K f33 "coming" "Rows.coming" L3.zB)
  (qp:NM K cO "take" f34)
  (i34:isFn K (.ref f34)=true)
  (Tz:L3.FnAt K f34 "take" "Rows.take" L3.vh)
  (a35:NG K "read_make" f35)
  (l35:L3.FnAt K f35 "read_make" "read_make" L3.zy)
  (a36:NG K "read_put" f36)
  (l36:L3.FnAt K f36 "read_put" "read_put" L3.zx)
  (a37:NG K "_law_mixed" f37)
  (l37:L3.FnAt K f37 "_law_mixed" "_law_mixed" L3.lW)
  (a38:NG K "_law_cell_at" f38)
  (l38:L3.FnAt K f38 "_law_cell_at" "_law_cell_at" L3.iK)
  (a39:NG K "_law_next" f39)
  (l39:L3.FnAt K f39 "_law_next" "_law_next" L3.pR)
  (a40:NG K "_law_kept" f40)
  (l40:L3.FnAt K f40 "_law_kept" "_law_kept" L3.pU)
  (a41:NG K "_law_names" f41)
  (l41:L3.FnAt K f41 "_law_names" "_law_names" L3.lV)
  (a42:NG K "read_let" f42)
  (l42:L3.FnAt K f42 "read_let" "read_let" L3.zz)
  (wK:NM K cO "take_just" f43)
  (i43:isFn K (.ref f43)=true)
  (l43:L3.FnAt K f43 "take_just" "Rows.take_just" L3.uf)
  (a44:NG K "read_answers" f44)
  (l44:L3.FnAt K f44 "read_answers" "read_answers" L3.zD)
  (a45:NG K "read_writings" f45)
  (l45:L3.FnAt K f45 "read_writings" "read_writings" L3.zq)
  (a46:NG K "read_steps" f46)
  (Ol:L3.FnAt K f46 "read_steps" "read_steps" L3.ua)
  (a47:NG K "read_step" f47)
  (Tw:L3.FnAt K f47 "read_step" "read_step" L3.uc)
  (a48:NG K "read_choose" f48)
  (Tv:L3.FnAt K f48 "read_choose" "read_choose" L3.uo)
  (a49:NG K "read_repeat" f49)
  (Tu:L3.FnAt K f49 "read_repeat" "read_repeat" L3.ud)
  (n6:NM K bu "__init__" f50)
  (i50:isFn K (.ref f50)=true)
  (l50:L3.FnAt K f50 "__init__" "Helper.__init__" L3.gm)
  (lI:NM K cX "__init__" f51)
  (i51:isFn K (.ref f51)=true)
  (l51:L3.FnAt K f51 "__init__" "Program.__init__" L3.fG)
  (a52:NG K "read_helper" f52)
  (l52:L3.FnAt K f52 "read_helper" "read_helper" L3.ug)
  (a53:NG K "read" f53)
  (l53:L3.FnAt K f53 "read" "read" L3.uh)
  (a54:NG K "_law_refused" f54)
  (l54:L3.FnAt K f54 "_law_refused" "_law_refused" L3.pP)
  (a55:NG K "_law_rows" f55)
  (l55:L3.FnAt K f55 "_law_rows" "_law_rows" L3.pO)
  (a56:NG K "_law_laid" f56)
  (l56:L3.FnAt K f56 "_law_laid" "_law_laid" L3.pS)
  (a57:NG K "_law_out_of_place" f57)
  (l57:L3.FnAt K f57 "_law_out_of_place" "_law_out_of_place" L3.uq)
  (a58:NG K "_law_no_form" f58)
  (l58:L3.FnAt K f58 "_law_no_form" "_law_no_form" L3.pQ)
  (a59:NG K "law" f59)
  (l59:K.lookup f59=some ⟨a4Z,a4Y,.func (fnOf "law" "law" A59 B59 S59 .none a1V a2u a0J a2L Yj a2w),a4A⟩)
  (Us:(A59,B59,S59)=(g7 L3.nu,ao L3.nu,ai L3.nu))
  (c59:codeIn K Yj "law"=true)
  (k59:keepIn K (.ref f59)=true)
  (l60:L3.FnAt K f60 "__init__" "WritError.__init__" L3.t9)
  (l61:L3.FnAt K f61 "__init__" "NoText.__init__" L3.pM)
  (jm:NG K "NoText" az)
  (gJ:NG K "WritError" bP)
  (p8:NG K "Fault" nZ)
  (p7:NG K "NoRun" nY)
  (jq:NG K "NoSense" iG)
  (jj:NG K "TooHard" iE)
  (ji:NG K "TooMany" iC)
  (JD:K.lookup bP=some (excClassObj JF Sf bP E9 JW qI AX JB E5 J0 E7 JT JR JP JN JL JJ "ValueError.__new__"))
  (C6:PySem.W.nsOkIn K E9=true)
  (C8:nsIn K E9 "__init__"=some (some (.ref f60)))
  (De:isFn K (.ref f60)=true)
  (Dc:keepIn K (.ref bP)=true)
  (Jz:qI.contains (.type "ValueError")=true)
  (J2:qI.contains (.type "AttributeError")=false)
  (JH:qI.contains (.type "NameError")=false)
  (JY:qI.contains (.type "BaseException")=true)
  (JE:K.lookup az=some (excClassObj JG Sg az Fb JX nG AY JC E6 J1 E8 JU JS JQ JO JM JK "ValueError.__new__"))
  (C7:PySem.W.nsOkIn K Fb=true)
  (C9:nsIn K Fb "__init__"=some (some (.ref f61)))
  (Df:isFn K (.ref f61)=true)
  (Dd:keepIn K (.ref az)=true)
  (JA:nG.contains (.type "ValueError")=true)
  (J3:nG.contains (.type "AttributeError")=false)
  (JI:nG.contains (.type "NameError")=false)
  (JZ:nG.contains (.type "BaseException")=true)
  (Uu:PySem.W.specialIn K (.ref bP) "__getattribute__"=some (some (.builtin "type.__getattribute__")))
  (Ut:PySem.W.readsIn K bP (.type "type")=true)
  (Uv:PySem.W.findCls K (.ref bP) (.type "type") "__init__"=some (.val (.ref f60)))
  (Uw:PySem.W.findCls K (.type "ValueError") (.type "type") "__init__"=some (.val (.builtin "ValueError.__init__")))
  (Jt:(Value.ref az::nG).contains (.ref bP)=true)
  (Ju:findIn K (.ref az) "__getattribute__"=some (some (.builtin "BaseException.__getattribute__")))
  (Js:findIn K (.ref az) "__getattr__"=some none)
  (Jw:findIn K (.ref az) "__class__"=some (some (.builtin "object.__class__")))
  (Jr:mroIn K az (.type "object")=some true)
  (Jx:PySem.W.subIn K (.ref az) (.type "BaseException")=some true)
  (Jv:PySem.W.clsIn K az=some tcd)
  (Ux:((PySem.W.clsIn K az).any fun cd=>PySem.W.fS cd.mro)=true)
  (Uy:PySem.W.takerIn K az "at"=some none)
  (Jy:(PySem.W.clsIn K az).any (·.hasDict)=true)
  (Uz:findIn K (.ref az) "__setattr__"=some (some (.builtin "object.__setattr__")))
  (UG:hasDictIn K az=true)
  (UE:findIn K (.ref az) "at"=some none)
  (UC:kitOne K (.ref az) (.ref az)=some true)
  (UB:kitOne K (.ref az) (.type "ValueError")=some true)
  (UA:kitOne K (.type "int") (.type "bool")=some false)
  (UD:PySem.W.kitAny K (.ref az) [.ref nZ,.ref nY,.ref iG,.ref iE,.ref iC]=some false)
  (Jm:NZ K "len")
  (yH:NZ K "tuple")
  (C3:NZ K "list")
  (uI:NZ K "sorted")
  (Jo:NZ K "int")
  (Jl:NZ K "str")
  (jA:NZ K "isinstance")
  (yI:NZ K "range")
  (Jq:NZ K "abs")
  (Jp:NZ K "all")
  (jB:NZ K "ValueError")
  (C4:NZ K "bool")
  (d1:nsIn K mainGlobals "MOST_LETTERS"=some (some (.int 8 tD1)))
  (d2:nsIn K mainGlobals "MOST_FIGURES"=some (some (.int 9 tD2)))
  (d3:nsIn K mainGlobals "GREATEST"=some (some (.int 999999999 tD3)))
  (kS0:kitOne K (.ref bf) (.ref bE)=some false)
  (kS1:kitOne K (.ref cy) (.ref bE)=some false)
  (kS2:kitOne K (.ref dY) (.ref bE)=some true)
  (kS3:kitOne K (.ref gO) (.ref bE)=some true)
  (jG:nsIn K mainGlobals "KEPT_WORDS"=some (some (.ref sG)))
  (jE:K.lookup sG=some ⟨.type "tuple",zT,.seq #[.str "helper" pC,.str "answers" pB,.str "needs" pA,.str "gives" pe,.str "end" o9,.str "let" o8,.str "div" oZ,.str "mod" oY,.str "put" oX,.str "row" oW,.str "at" ng,.str "if" nc,.str "else" m8,.str "while" m5,.str "holds" mZ,.str "falls" mY,.str "call" mX,.str "claim" mW,.str "and" mV,.str "or" mU,.str "not" mT] BO,zb⟩)
  (yQ:nsIn K mainGlobals "SIGNS"=some (some (.ref N5)))
  (yL:K.lookup N5=some ⟨.type "tuple",QL,.seq #[.str "<" Fj,.str "<=" Fi,.str "=" Fg,.str "!=" Ff,.str ">=" Fe,.str ">" Fd] WQ,OW⟩)
 :∃fd:FuncData,(∀(s:Shared)(v:Value),BindsTo s fd ⟨[v],[]⟩ [("_law_script",v)])/\∀base:Heap,K.In base->base.Ns mainGlobals mg->aL l.prog w K mg base c5 80 fa fd ["_law_script"] (FH K):=by
 have e:=hfa.symm.trans (mg_of X G a59);cases e
 let A:L3.Ad:=⟨iY,bf,cy,bE,dY,gO,i6,iY,iY,iZ,fN,iY,iY,bL,bB,bu,cX,cO,aX,az,bP,nZ,nY,iG,iE,iC⟩
 have kS:∀j,j<4->kitOne K (.ref (L3.Ue A j)) (.ref A.bE)=some (decide (2<=j)):=L3.kS4 kS0 kS1 kS2 kS3;have J:L3.Fx K mg A:=⟨mg_none_of X G Jm,mg_none_of X G yH,mg_none_of X G C3,mg_none_of X G uI,mg_none_of X G Jo,mg_none_of X G Jl,mg_none_of X G jA,mg_none_of X G yI,mg_none_of X G Jq,mg_none_of X G Jp,mg_none_of X G jB,mg_none_of X G C4,mg_of X G B0,Bq.ok kE kD,gx,fL,mg_of X G jr,je.ok kE kD,eK,dW,dz,mg_of X G lu,kO.ok kE kD,b5,mg_of X G ia,mg_of X G p9,pW.ok kE kD,b7,mg_of X G wg,vA.ok kE kD,cI,mg_of X G Cb,Bs.ok kE kD,kY,ir,gE,mg_of X G Ca,Br.ok kE kD,kX,jf,gC,gB,mg_of X G wk,vC.ok kE kD,jg,ig,gD,mg_of X G lD,kT.ok kE kD,gG,b8,eL,dX,mg_of X G lB,kQ.ok kE kD,gz,b6,dO,dP,eF,mg_of X G lC,kR.ok kE kD,gF,eG,dw,cW,dR,dS,dQ,mg_of X G jk,jd.ok kE kD,cJ,mg_of X G wj,vB.ok kE kD,gy,fV,mg_of X G lA,kP.ok kE kD,dj,cV,gw,⟨_,mg_of X G d1⟩,⟨_,mg_of X G d2⟩,⟨_,mg_of X G d3⟩,kS,mg_of X G jm,mg_of X G gJ,mg_of X G p8,mg_of X G p7,mg_of X G jq,mg_of X G jj,mg_of X G ji⟩
 have XT:L3.XTx K mg az bP f61 f60 nG qI (L3.x5 A):=⟨⟨⟨JG,Sg,Fb,JX,AY,JC,E6,J1,E8,JU,JS,JQ,JO,JM,JK,JE,C7,C9⟩,Df,Dd,JA,J3,JI,JZ⟩,⟨⟨JF,Sf,E9,JW,AX,JB,E5,J0,E7,JT,JR,JP,JN,JL,JJ,JD,C6,C8⟩,De,Dc,Jz,J2,JH,JY⟩,Jt,J.gJ,J.ql,Uu,Ut,Uv,rfl,l60.k,Uw,⟨Ux,Uy,Jy,Uz⟩,⟨Ju,Js,Jw,kE,kD,Jr,Jx,by rw[Jv];rfl⟩,UG,UE,UC,UB,UA,UD⟩
 have F59:=Rm (st:=L3.nu) l59 Us c59 k59;refine⟨fnOf "law" "law" (g7 L3.nu) (ao L3.nu) (ai L3.nu) .none a1V a2u a0J a2L Yj a2w,fun s v=>.of_eq rfl,fun base _ _=>?_⟩;have R6:L3.kB l.prog w K mg base 2 iY "Sum" ["self","terms","number"] ((L3.DF A)):=⟨1,by decide,Gv (L3.BF (P:=l.prog) (w:=w) (base:=base) (k:=0) l9.F J ) Bq.mi EJ i9 Bq.kc l9.F.bb,J.MO,J.B0⟩
 have E3:=L3.dA l10 (mg_of X G a10) l10.F.bb (L3.H8 (k:=2) l10.F J R6.u);have cP:L3.Cm l.prog w K mg base 1 "Step" "__init__" ["self","at"] (L3.uY K):=⟨⟨Sp,f16,_,L3.zR (P:=l.prog) (w:=w) (base:=base) (k:=0) l16.F J ,mg_of X G Ek,UI,UH,UJ,l16.k,l16.F.bb⟩⟩
 have qD:=L3.dA YH (mg_of X G a20) YH.F.bb (L3.BE (P:=l.prog) (w:=w) (base:=base) (k:=0) YH.F J );have CS:L3.kB l.prog w K mg base 2 bf "Compare" ["self","one","sign","other"] ((L3.CV A.bf ["one","sign","other"])):=⟨1,by decide,Gv (L3.sV (P:=l.prog) (w:=w) (base:=base) (k:=0) l11.F J ) je.mi lJ i11 je.kc l11.F.bb,J.q9,J.jr⟩
 have oH:L3.kB l.prog w K mg base 2 cy "Turned" ["self","condition"] ((L3.CV A.cy ["condition"])):=⟨1,by decide,Gv (L3.vG (P:=l.prog) (w:=w) (base:=base) (k:=0) l12.F J ) kO.mi ou i12 kO.kc l12.F.bb,J.vS,J.lu⟩
 have R8:L3.kB l.prog w K mg base 3 i6 "Let" ["self","at","name","total"] ((L3.CV A.i6 ["at","name","total"])):=⟨2,by decide,Gv (L3.BH (k:=1) l13.F J cP.u) Bs.mi AE i13 Bs.kc l13.F.bb,J.MQ,J.Cb⟩
 have R7:L3.kB l.prog w K mg base 3 iZ "Put" ["self","at","row","place","total"] ((L3.CV A.iZ ["at","row","place","total"])):=⟨2,by decide,Gv (L3.BG (k:=1) l14.F J cP.u) Br.mi AD i14 Br.kc l14.F.bb,J.MP,J.Ca⟩
 have Oe:L3.kB l.prog w K mg base 3 fN "Make" ["self","at","row","size"] ((L3.CV A.fN ["at","row","size"])):=⟨2,by decide,Gv (L3.zS (k:=1) l15.F J cP.u) vC.mi wO i15 vC.kc l15.F.bb,J.Eb,J.wk⟩
 have wZ:L3.kB l.prog w K mg base 3 bL "Choose" ["self","at","condition","then","other"] ((L3.FJ A)):=⟨2,by decide,Gv (L3.vJ (k:=1) l18.F J cP.u) kT.mi oq i18 kT.kc l18.F.bb,J.vX,J.lD⟩
 have wY:L3.kB l.prog w K mg base 3 bB "Repeat" ["self","at","condition","keeps","falls","body"] ((L3.A9 A)):=⟨2,by decide,Gv (L3.vH (k:=1) l19.F J qD.u cP.u) kQ.mi om i19 kQ.kc l19.F.bb,J.vV,J.lB⟩
 have E2:L3.kB l.prog w K mg base 3 bu "Helper" ["self","at","name","params","answers","needs","gives","steps"] ((L3.K8 A)):=⟨2,by decide,Gv (L3.vI (k:=1) l50.F J qD.u) kR.mi n6 i50 kR.kc l50.F.bb,J.vW,J.lC⟩
 have CQ:L3.kB l.prog w K mg base 2 cX "Program" ["self","helpers"] ((L3.K1 A)):=⟨1,by decide,Gv (L3.sU (P:=l.prog) (w:=w) (base:=base) (k:=0) l51.F J ) jd.mi lI i51 jd.kc l51.F.bb,J.q8,J.jk⟩
 have rM:L3.kB l.prog w K mg base 2 dY "Every" ["self","conditions"] ((L3.uZ A.dY)):=⟨1,by decide,Gv (L3.ki (P:=l.prog) (w:=w) (base:=base) (k:=0) J.b7 YI.F J ) pW.mi rB i17 pW.kc YI.F.bb,J.Ac,J.p9⟩
 have wX:L3.kB l.prog w K mg base 2 gO "Some" ["self","conditions"] ((L3.uZ A.gO)):=⟨1,by decide,Gv (L3.ki (P:=l.prog) (w:=w) (base:=base) (k:=0) J.cI YI.F J ) vA.mi wN i17 vA.kc YI.F.bb,J.D9,J.wg⟩
 have aD:=L3.dA l1 (mg_of X G a1) l1.F.bb (L3.H9 (P:=l.prog) (w:=w) (base:=base) (k:=0) l1.F J );have tT:=L3.dA l2 (mg_of X G a2) l2.F.bb (L3.QF (P:=l.prog) (w:=w) (base:=base) (k:=0) l2.F J );have fj:=L3.dA l3 (mg_of X G a3) l3.F.bb (L3.QD (P:=l.prog) (w:=w) (base:=base) (k:=0) l3.F J (mg_of X G jG) (L3.tupK (l:=[("helper",pC),("answers",pB),("needs",pA),("gives",pe),("end",o9),("let",o8),("div",oZ),("mod",oY),("put",oX),("row",oW),("at",ng),("if",nc),("else",m8),("while",m5),("holds",mZ),("falls",mY),("call",mX),("claim",mW),("and",mV),("or",mU),("not",mT)]) jE (by rfl)));have qB:=L3.dA l4 (mg_of X G a4) l4.F.bb (L3.QC (k:=1) l4.F J fj.u);have qC:=L3.dA l5 (mg_of X G a5) l5.F.bb (L3.QH (k:=1) l5.F J tT.u);have CT:=L3.dA l6 (mg_of X G a6) l6.F.bb (L3.Qo (k:=2) l6.F J aD.u qB.u qC.u);have rN:=L3.dA l7 (mg_of X G a7) l7.F.bb (L3.WD (k:=1) l7.F J aD.u);have bZ:=L3.dA l8 (mg_of X G a8) l8.F.bb (L3.WC (k:=3) l8.F J E3.u aD.u rN.u CT.u);have xP:=L3.dA l25 (mg_of X G a25) l25.F.bb (L3.Ql (k:=1) l25.F J aD.u);have E1:L3.kB l.prog w K mg base 4 aX "Tokens" ["self","words","at"] ((L3.KR A)):=⟨3,by decide,Gv (L3.Qn (k:=2) l26.F J xP.u) kP.mi n8 i26 kP.kc l26.F.bb,J.vU,J.lA⟩
 have bX:L3.Ms l.prog w K mg base 1 1 ((fun _=>A.aX)) "coming" ["self"] ((fun _=>L3.KU A)):=fun j hj=>YF (L3.Qp (P:=l.prog) (w:=w) (base:=base) (k:=0) l21.F J ) oj i21 l21.k l21.F.bb;have oG:L3.Ms l.prog w K mg base 2 1 ((fun _=>A.aX)) "take" ["self"] ((fun _=>L3.KP A)):=fun j hj=>YF (L3.Qk (k:=1) l22.F J bX.u) oi i22 l22.k l22.F.bb;have bG:L3.Ms l.prog w K mg base 3 1 ((fun _=>A.aX)) "take_just" ["self","token"] ((fun _=>L3.KQ A)):=fun j hj=>YF (L3.Qm (k:=2) l23.F J aD.u oG.u) oh i23 l23.k l23.F.bb;have rL:L3.Ms l.prog w K mg base 3 1 ((fun _=>A.aX)) "take_until" ["self","ends"] ((fun _=>L3.KO A K)):=fun j hj=>YF (L3.Qj (k:=2) l24.F J bX.u oG.u) n9 i24 l24.k l24.F.bb;have eg:=L3.dA l27 (mg_of X G a27) l27.F.bb (L3.Qz (k:=4) l27.F J CS.u bZ.u rL.u oG.u (mg_of X G yQ) (L3.tupK (l:=[("<",Fj),("<=",Fi),("=",Fg),("!=",Ff),(">=",Fe),(">",Fd)]) yL (by rfl)));have lQ:Dn l.prog w K mg base 1 "read_bracketed" ["source"] (L3.bR K ((L3.FF A 0):L3.ef)):=L3.dA Om (mg_of X G a28) Om.F.bb (L3.a2l L3.a06);have w6:=L3.dA MK (mg_of X G a29) MK.F.bb (L3.vE (k:=5) (n:=0) MK.F J eg.u bX.u aD.u lQ.u oH.u bG.u);have mO:=L3.dA MJ (mg_of X G a30) MJ.F.bb (L3.vF (k:=6) (n:=0) MJ.F J rM.u wX.u bX.u w6.u bG.u aD.u);have mQ:=L3.dA Om (mg_of X G a28) Om.F.bb (L3.Mj (k:=7) (n:=0) Om.F J bG.u mO.u);have lP:Dn l.prog w K mg base 8 "read_bracketed" ["source"] (L3.bR K (L3.FF A 1)):=mQ;have w5:=L3.dA MK (mg_of X G a29) MK.F.bb (L3.vE (k:=8) (n:=1) MK.F J eg.u bX.u aD.u lP.u oH.u bG.u);have mL:=L3.dA MJ (mg_of X G a30) MJ.F.bb (L3.vF (k:=9) (n:=1) MJ.F J rM.u wX.u bX.u w5.u bG.u aD.u);have mP:=L3.dA Om (mg_of X G a28) Om.F.bb (L3.Mj (k:=10) (n:=1) Om.F J bG.u mL.u);have lO:Dn l.prog w K mg base 11 "read_bracketed" ["source"] (L3.bR K (L3.FF A 2)):=mP;have w4:=L3.dA MK (mg_of X G a29) MK.F.bb (L3.vE (k:=11) (n:=2) MK.F J eg.u bX.u aD.u lO.u oH.u bG.u);have mK:=L3.dA MJ (mg_of X G a30) MJ.F.bb (L3.vF (k:=12) (n:=2) MJ.F J rM.u wX.u bX.u w4.u bG.u aD.u);have gf:=L3.dA l31 (mg_of X G a31) l31.F.bb (L3.WG (k:=13) l31.F J aD.u bX.u mK.u E1.u);have Od:L3.kB l.prog w K mg base 2 cO "Rows" ["self","rows"] ((L3.KZ A)):=⟨1,by decide,Gv (L3.Qw (P:=l.prog) (w:=w) (base:=base) (k:=0) l32.F J ) vB.mi wM i32 vB.kc l32.F.bb,J.Ea,J.wj⟩
 have cQ:L3.Ms l.prog w K mg base 1 1 ((fun _=>A.cO)) "coming" ["self"] ((fun _=>L3.K0 A)):=fun j hj=>YF (L3.Qy (P:=l.prog) (w:=w) (base:=base) (k:=0) l33.F J ) wL i33 l33.k l33.F.bb;have j9:L3.Ms l.prog w K mg base 2 1 ((fun _=>A.cO)) "take" ["self"] ((fun _=>L3.KY A)):=fun j hj=>YF (L3.Qs (k:=1) Tz.F J aD.u) qp i34 Tz.k Tz.F.bb;have rO:=L3.dA l44 (mg_of X G a44) l44.F.bb (L3.QB (k:=2) l44.F J aD.u fj.u j9.u cQ.u);have fQ:=L3.dA l45 (mg_of X G a45) l45.F.bb (L3.Qq (k:=14) l45.F J cQ.u gf.u j9.u);have qA:=L3.dA l42 (mg_of X G a42) l42.F.bb (L3.Qv (k:=4) l42.F J R8.u bZ.u aD.u fj.u);have qz:=L3.dA l36 (mg_of X G a36) l36.F.bb (L3.Qt (k:=4) l36.F J R7.u bZ.u aD.u fj.u);have nE:=L3.dA l35 (mg_of X G a35) l35.F.bb (L3.Qu (k:=4) l35.F J Oe.u bZ.u aD.u fj.u);have D_w:=L3.Me (P:=l.prog) (w:=w) (base:=base) (A:=A) (k:=0) l60.F XT;have a7z:=L3.Ia (k:=1) l61.F XT D_w l60.F.bb;have bh:=L3.dU l1 (mg_of X G a1) l1.F.bb (L3.Qx (P:=l.prog) (w:=w) (base:=base) (k:=3) XT.ct (by decide) a7z l61.F.bb l1.F J );have qv:=L3.muA (L3.Mf (k:=4) Tz.F J bh.u) qp i34 Tz.k Tz.F.bb;have eO:=L3.muA (L3.Mg (k:=5) l43.F J bh.u qv.u) wK i43 l43.k l43.F.bb;have ko:L3.uH l.prog w K mg base A.az 1 "read_steps" ["source"] (L3.uX A L3.F0):=L3.dU Ol (mg_of X G a46) Ol.F.bb L3.a2k;have rK:=L3.dU Tv (mg_of X G a48) Tv.F.bb (L3.BD (k:=6) (Q:=L3.F0) Tv.F J wZ.u eO.u cQ.u bh.u ko.u);have rH:=L3.dU Tu (mg_of X G a49) Tu.F.bb (L3.BC (k:=15) (Q:=L3.F0) Tu.F J wY.u eO.u ko.u cQ.u bZ.u j9.u fQ.u);have wW:=L3.dU Tw (mg_of X G a47) Tw.F.bb (L3.BB (k:=16) (Q:=L3.F0) Tw.F J bh.u rH.u gf.u rK.u nE.u qz.u qA.u qv.u);have kj:=L3.dU Ol (mg_of X G a46) Ol.F.bb (L3.BA (k:=17) (Q:=L3.F0) (fu:=40) Ol.F J cQ.u wW.u);have rJ:=L3.dU Tv (mg_of X G a48) Tv.F.bb (L3.BD (k:=18) (Q:=L3.F1) Tv.F J wZ.u eO.u cQ.u bh.u kj.u);have rG:=L3.dU Tu (mg_of X G a49) Tu.F.bb (L3.BC (k:=18) (Q:=L3.F1) Tu.F J wY.u eO.u kj.u cQ.u bZ.u j9.u fQ.u);have wV:=L3.dU Tw (mg_of X G a47) Tw.F.bb (L3.BB (k:=19) (Q:=L3.F1) Tw.F J bh.u rG.u gf.u rJ.u nE.u qz.u qA.u qv.u);have tO:=L3.dU Ol (mg_of X G a46) Ol.F.bb (L3.BA (k:=20) (Q:=L3.F1) (fu:=40) Ol.F J cQ.u wV.u);have tP:=L3.dU l52 (mg_of X G a52) l52.F.bb (L3.Mh (k:=21) (Q:=L3.F2) l52.F J E2.u eO.u tO.u fQ.u rO.u bh.u qB.u fj.u qv.u);have Oc:=L3.dU l53 (mg_of X G a53) l53.F.bb (L3.Mi (k:=22) l53.F J CQ.u bh.u tP.u Od.u);have nF:=L3.dA l37 (mg_of X G a37) l37.F.bb (L3.DW (P:=l.prog) (w:=w) (base:=base) (k:=0) l37.F J );have tS:=L3.dA l38 (mg_of X G a38) l38.F.bb (L3.zQ (k:=1) l38.F J nF.u);have AO:=L3.dA l39 (mg_of X G a39) l39.F.bb (L3.Ig (k:=1) l39.F J nF.u);have AR:=L3.dA l40 (mg_of X G a40) l40.F.bb (L3.Ii (P:=l.prog) (w:=w) (base:=base) (k:=0) l40.F J );have xQ:=L3.dA l41 (mg_of X G a41) l41.F.bb (L3.DV (k:=2) l41.F J AR.u AO.u);have AN:=L3.dA l55 (mg_of X G a55) l55.F.bb (L3.Ib (P:=l.prog) (w:=w) (base:=base) (k:=0) l55.F J );have AQ:=L3.dA l56 (mg_of X G a56) l56.F.bb (L3.Ih (P:=l.prog) (w:=w) (base:=base) (k:=0) l56.F J );have lR:=L3.dA l57 (mg_of X G a57) l57.F.bb (L3.Ml (P:=l.prog) (w:=w) (base:=base) (k:=0) l57.F J );have tR:=L3.dA l58 (mg_of X G a58) l58.F.bb (L3.Ie (P:=l.prog) (w:=w) (base:=base) (k:=0) l58.F J );have tQ:=L3.dA l54 (mg_of X G a54) l54.F.bb (L3.Ic (k:=23) XT l54.F J Oc.u);exact L3.a2m L3.W6 ((L3.WE (k:=24) F59 J tQ.u AQ.u tR.u tS.u AN.u xQ.u lR.u).mono (by decide:25<=80))
theorem walk {l:PySem.W.OpenLaw}{q:Program}{loose:List Str}{XP:(Str->Option Value)->Heap->Prop}{YP:World->Heap->Prop}{d:DefRec}{K:Params->PySem.W.Frag}(hn:l.most=some 63)(hdf:d.params.defaults=[])
  (hY:∀(w:World)(h:Heap),YP w h->(K w.params).In h)
  (F:∀(w:World)(mg:Str->Option Value)(fa:Addr)(h:Heap),(K w.params).In h->h.Ns mainGlobals mg->mg d.name=some (.ref fa)->
   ∃fd:FuncData,(∀(s:Shared)(u:Value),BindsTo s fd ⟨[u],[]⟩ [("_law_script",u)])/\∀base:Heap,(K w.params).In base->base.Ns mainGlobals mg->aL l.prog w (K w.params) mg base c5 80 fa fd ["_law_script"] (FH (K w.params))) :
  PySem.W.WalkO q loose XP YP l.row.toRowW d [] (fun f vs=>PySem.call f vs):=
 L2.OB (n:=63) (k:=80) (x:="_law_script") (CX:=fun _=>c5) (sp:=fun w=>FH (K w.params)) hn (by decide) hdf ⟨rfl,by decide,by decide⟩ hY F (fun _ _ a ns hl _ hS=>⟨a,ns,rfl,hS,hl,fun _=>rfl⟩) fun _ _ _ _ _ z=>z
end Hw
open PySem PySem.W PyProof.Rows
set_option maxRecDepth 100000 in
set_option maxHeartbeats 0 in
theorem PySem.Challenge.cw_holdwright_k15_rows_out_of_place_holds : PySem.Challenge.rw_holdwright_k15_rows_out_of_place.Holds := by
 refine Hd ?_
 k_fill
 refine Hw.walk (l:=PySem.Challenge.rw_holdwright_k15_rows_out_of_place) rfl rfl (fun w h QR=>QR) ?F
 case F=>
  intro w mg fa h KX G hmg;refine' Hw.all_mk KX G hmg ?B0 ?Bq ?gx ?fL ?jr ?je ?eK ?dW ?dz ?lu ?kO ?b5 ?ia ?p9 ?pW ?b7 ?wg ?vA ?cI ?Cb ?Bs ?kY ?ir ?gE ?Ca ?Br ?kX ?jf ?gC ?gB ?wk ?vC ?jg ?ig ?gD ?lD ?kT ?gG ?b8 ?eL ?dX ?lB ?kQ ?gz ?b6 ?dO ?dP ?eF ?lC ?kR ?gF ?eG ?dw ?cW ?dR ?dS ?dQ ?jk ?jd ?cJ ?wj ?vB ?gy ?fV ?lA ?kP ?dj ?cV ?gw ?Ek ?UJ ?kE ?kD ?UI ?UH ?a1 ?l1 ?a2 ?l2 ?a3 ?l3 ?a4 ?l4 ?a5 ?l5 ?a6 ?l6 ?a7 ?l7 ?a8 ?l8 ?EJ ?i9 ?l9 ?a10 ?l10 ?lJ ?i11 ?l11 ?ou ?i12 ?l12 ?AE ?i13 ?l13 ?AD ?i14 ?l14 ?wO ?i15 ?l15 ?l16 ?rB ?wN ?i17 ?YI ?oq ?i18 ?l18 ?om ?i19 ?l19 ?a20 ?YH ?oj ?i21 ?l21 ?oi ?i22 ?l22 ?oh ?i23 ?l23 ?n9 ?i24 ?l24 ?a25 ?l25 ?n8 ?i26 ?l26 ?a27 ?l27 ?a28 ?Om ?a29 ?MK ?a30 ?MJ ?a31 ?l31 ?wM ?i32 ?l32 ?wL ?i33 ?l33 ?qp ?i34 ?Tz ?a35 ?l35 ?a36 ?l36 ?a37 ?l37 ?a38 ?l38 ?a39 ?l39 ?a40 ?l40 ?a41 ?l41 ?a42 ?l42 ?wK ?i43 ?l43 ?a44 ?l44 ?a45 ?l45 ?a46 ?Ol ?a47 ?Tw ?a48 ?Tv ?a49 ?Tu ?n6 ?i50 ?l50 ?lI ?i51 ?l51 ?a52 ?l52 ?a53 ?l53 ?a54 ?l54 ?a55 ?l55 ?a56 ?l56 ?a57 ?l57 ?a58 ?l58 ?a59 ?l59 ?Us ?c59 ?k59 ?l60 ?l61 ?jm ?gJ ?p8 ?p7 ?jq ?jj ?ji ?JD ?C6 ?C8 ?De ?Dc ?Jz ?J2 ?JH ?JY ?JE ?C7 ?C9 ?Df ?Dd ?JA ?J3 ?JI ?JZ ?Uu ?Ut ?Uv ?Uw ?Jt ?Ju ?Js ?Jw ?Jr ?Jx ?Jv ?Ux ?Uy ?Jy ?Uz ?UG ?UE ?UC ?UB ?UA ?UD ?Jm ?yH ?C3 ?uI ?Jo ?Jl ?jA ?yI ?Jq ?Jp ?jB ?C4 ?d1 ?d2 ?d3 ?kS0 ?kS1 ?kS2 ?kS3 ?jG ?jE ?yQ ?yL
  (case B0|jr|lu|ia|p9|wg|Cb|Ca|wk|lD|lB|lC|jk|wj|lA=>(show nsIn _ _ _=_;k_is))
  (case Ek=>k_is)
  (case jm|gJ|p8|p7|jq|jj|ji=>(show nsIn _ _ _=_;k_is))
  (case UJ=>k_is)
  (case gx|fL|eK|dW|dz|b5|b7|cI|kY|ir|gE|kX|jf|gC|gB|jg|ig|gD|gG|b8|eL|dX|gz|b6|dO|dP|eF|gF|eG|dw|cW|dR|dS|dQ|cJ|gy|fV|dj|cV|gw=>(show findIn _ _ _=_;k_is))
  (case a1|a2|a3|a4|a5|a6|a7|a8=>(show nsIn _ _ _=_;k_is))
  (case EJ=>(show findIn _ _ _=_;k_is))
  (case a10=>(show nsIn _ _ _=_;k_is))
  (case lJ|ou|AE|AD|wO|rB|wN|oq|om=>(show findIn _ _ _=_;k_is))
  (case a20=>(show nsIn _ _ _=_;k_is))
  (case oj|oi|oh|n9=>(show findIn _ _ _=_;k_is))
  (case a25=>(show nsIn _ _ _=_;k_is))
  (case n8=>(show findIn _ _ _=_;k_is))
  (case a27|a28|a29|a30|a31=>(show nsIn _ _ _=_;k_is))
  (case wM|wL|qp=>(show findIn _ _ _=_;k_is))
  (case a35|a36|a37|a38|a39|a40|a41|a42=>(show nsIn _ _ _=_;k_is))
  (case wK=>(show findIn _ _ _=_;k_is))
  (case a44|a45|a46|a47|a48|a49=>(show nsIn _ _ _=_;k_is))
  (case n6|lI=>(show findIn _ _ _=_;k_is))
  (case a52|a53|a54|a55|a56|a57|a58|a59|Jm|yH|C3|uI|Jo|Jl|jA|yI|Jq|Jp|jB|C4=>(show nsIn _ _ _=_;k_is))
  (case kE|kD|UI|UH|i9|i11|i12|i13|i14|i15|i17|i18|i19|i21|i22|i23|i24|i26|i32|i33|i34|i43|i50|i51|l59|c59|k59|JD|C8|De|Dc|JE|C9|Df|Dd|Uu|Ut|Uv|Uw|Ju|Js|Jw|Jr|Jx|Jv|Uy|Uz|UG|UE|d1|d2|d3|jG|jE|yQ|yL=>k_is)
  (case Bq|je|kO|pW|vA|Bs|Br|vC|kT|kQ|kR|jd|vB|kP=>(refine⟨?_,?_,?_,?_,?_,?_,?_,?_⟩<;>k_is))
  (case l1|l2|l3|l4|l5|l6|l7|l8|l9|l10|l11|l12|l13|l14|l15|l16|YI|l18|l19|YH|l21|l22|l23|l24|l25|l26|l27|Om|MK|MJ|l31|l32|l33|Tz|l35|l36|l37|l38|l39|l40|l41|l42|l43|l44|l45|Ol|Tw|Tv|Tu|l50|l51|l52|l53|l54|l55|l56|l57|l58|l60|l61=>(refine' Hw.a8d ?ya ?yb ?yc ?yd;(case ya=>k_is);(case yb=>kernel_rfl);(case yc|yd=>k_is)))
  (case UC|UB|UA|UD|kS0|kS1|kS2|kS3=>kit_is)
  (case Us|C6|Jz|J2|JH|JY|C7|JA|J3|JI|JZ|Jt|Ux|Jy=>kernel_rfl)
#print axioms PySem.Challenge.cw_holdwright_k15_rows_out_of_place_holds
