import PyProof.Rows.All
import Wide.All
import OpenK.KLine
import OpenK.KWalk
import KE.KNestM
import KE.RegKIsAll
import KE.KxBytes
import KE.KItem
import KE.KDictOf
import KE.KDictSum
import KE.LcSums
import KE.KxText
import Wide.FinOn
import Lean
import PyProof.EqAt
import PyProof.EqKinds
import PyProof.TupleCall
import PySem.Spec
import PyProof.NeKinds
import KE.KDictList
import KE.KPairComp
import PyProof.DictWalks
import PyProof.ExcClass3
import PyProof.ExcInit
import PyProof.ExcBaseAll.ValueError
import OpenK.KMore
import PyProof.RaisesMany
import PyProof.FString5
import PyProof.StrLawsIn
import PyProof.Rows.SetFrom
import PyProof.ExcAttrAll.ValueError
import KE.KIsAll
import PyProof.RulesAs
import KE.KIntText
import PyProof.Rows.StrNews2
import PyProof.Rows.Range3
import PyProof.StrLawsTight
import PyProof.StrLawsChain
import PyProof.Rows.StrPins
import PyProof.Rows.StrCut
import PyProof.Rows.StrMadeLen
import PyProof.Rows.StrBin
import PySem.Challenge.RW_holdwright_k13_whole_read
set_option Elab.async false
set_option linter.all false
set_option compiler.extract_closed false
set_option genSizeOf false
set_option maxRecDepth 100000
namespace Hq
open PySem PySem.W
noncomputable def d1 (l:List Obj):List Obj:=@List.rec Obj (fun _=>List Obj) [] (fun _ t _=>t) l
noncomputable def d4 (l:List Obj):List Obj:=d1 (d1 (d1 (d1 l)))
noncomputable def d32 (l:List Obj):List Obj:=d4 (d4 (d4 (d4 (d4 (d4 (d4 (d4 l)))))))
noncomputable def gB (l:List Obj) (k:Nat):List Obj:=@Nat.rec (fun _=>List Obj) l (fun _ r=>d32 r) k
noncomputable def gA (i:Nat):List Obj→Option Obj:=@Nat.rec (fun _=>List Obj→Option Obj) (fun l=>@List.rec Obj (fun _=>Option Obj) none (fun x _ _=>some x) l) (fun _ ih l=>ih (d1 l)) i
def nF (o:Option Obj):Option Obj:=match o with|some ⟨_,_,.freed,_⟩=>none|o=>o
noncomputable def gQ (h:Heap) (a:Addr):Option Obj:=nF (gA (Nat.mod a 32) (gB h.objs.toList (Nat.div a 32)))
def d1_eq (l:List Obj):d1 l=l.drop 1:=by cases l<;>rfl
def d32_eq (l:List Obj):d32 l=l.drop 32:=by
 unfold d32 d4;simp only [d1_eq,List.drop_drop]
theorem gB_eq (l:List Obj):∀ k,gB l k=l.drop (32*k)
 |0=>rfl
 |k+1=>by
  show d32 (gB l k)=_;rw [gB_eq l k,d32_eq,List.drop_drop,Nat.mul_succ]
theorem gA_eq:∀ (i:Nat) (l:List Obj),gA i l=l[i]?
 |0,l=>by cases l<;>rfl
 |i+1,l=>by
  show gA i (d1 l)=_;rw [gA_eq i,d1_eq,List.getElem?_drop,Nat.add_comm]
def gQ_eq:gQ=Heap.get?:=by
 funext h a;show nF (gA (a%32) (gB h.objs.toList (a/32)))=nF h.objs[a]?;rw [gA_eq,gB_eq,List.getElem?_drop,Nat.div_add_mod,Array.getElem?_toList]
noncomputable def hk (K:Params→Frag) (as:List Addr) (e:∀ P,as=(K P).map (·.1)):Hook:=⟨List (Option Obj),fun s=>as.map (gQ s.heap),fun w=>(K w.params).map fun p=>some p.2,InK K,fun w s x=>InK.of e w s (by rw [gQ_eq] at x; exact x),InK.keeps⟩
end Hq
local macro_rules|`(tactic|symm)=>`(tactic|decide +kernel)
local macro_rules|`(tactic|o_head (kHook $k $a $e))=>`(tactic|o_head (Hq.hk $k $a $e))
namespace PySem.W.Fast
noncomputable def te13052408679150730464:=0
noncomputable def te4110290226886642065:=0
noncomputable def te5369427470323729400:=0
noncomputable def te12305933238918452080:=0
noncomputable def te16555476440528808052:=0
noncomputable def te4868988410673395695:=0
noncomputable def te5452508617037859911:=0
noncomputable def te11152381544001756331:=0
end PySem.W.Fast
set_option maxHeartbeats 0 in
open_top Hd for PySem.Challenge.rw_holdwright_k13_whole_read
noncomputable section
def zAzi (h:True:=by rfl):True:=h
def zi:=zAzi._auto_1
def zAzn (h:True:=by decide):True:=h
def zn:=zAzn._auto_1
def zAzr (h:True:=by first | exact .inl rfl | exact .inr rfl | assumption):True:=h
def zr:=zAzr._auto_1
def zAjp (h:True:=by symm):True:=h
def jp:=zAjp._auto_1
def zAkf (h:True:=by intro _;rfl):True:=h
def kf:=zAkf._auto_1
def zAkl (h:True:=by intros;rfl):True:=h
def kl:=zAkl._auto_1
def zAkm (h:True:=by first | exact Or.inl rfl | exact Or.inr rfl):True:=h
def km:=zAkm._auto_1
def zAkn (h:True:=by with_unfolding_all rfl):True:=h
def kn:=zAkn._auto_1
def zAva (h:True:=by lia):True:=h
def va:=zAva._auto_1
def zAvb (h:True:=by intro _ _;rfl):True:=h
def vb:=zAvb._auto_1
open PySem.W (instObj methodObj Frag lookIn plainGet hasDictIn findIn handedIn plainGet_of isFn plainOver takerIn makesIn emptyDict keepIn specialIn takesIn mroIn kitOne kitx_list kitx_dict callWith_K callWith_K0 cellsFrom_some fnOf codeIn OpenLaw WalkO readsIn findCls methodCall_KW nsIn)
def jaa:=@if_neg
def jab:=@if_pos
def jac:=@congrArg
def jad:=@List.length_map
def jae:=@List.mem_cons
def jaf:=@List.map_cons
def jag:=@List.length_append
def jah:=@decide_eq_true
def jai:=@decide_eq_false
def jaj:=@List.mem_cons_of_mem
def jak:=@List.mem_cons_self
def jal:=@List.mem_singleton
def jam:=@List.length_cons
def jan:=@List.mem_append
def jao:=@List.set_set
def jap:=@List.mem_map
def jaq:=@Nat.le_refl
def jar:=@List.getElem?_eq_some_iff
def jas:=@List.map_map
def jat:=@PySem.wpAny_bind
def jau:=@List.map_append
def jav:=@List.size_toArray
def jaw:=@PySem.boot_len
def jax:=@List.append_assoc
def jay:=@Nat.le_trans
def jaz:=@PyProof.Rows.boot_tuple
def jaA:=@Bool.false_ne_true
def jaB:=@List.not_mem_nil
def jaC:=@PySem.wpAny_pure
def jaD:=@List.append_nil
def jaE:=@PySem.Heap.lt_size
def jaF:=@List.getElem?_map
def jaG:=@List.flatten_cons
def jaH:=@of_decide_eq_true
def jaI:=@PySem.Heap.get?_push_of_some
def jaJ:=@List.getElem?_set_self
def jaK:=@List.getElem?_eq_getElem
def jaL:=@List.getElem?_append_left
def jaM:=@Bool.and_eq_true
def jaN:=@Nat.zero_le
def jaO:=@PySem.PassesOwn.never
def jaP:=@List.length_set
def jaQ:=@PySem.wpAny_mono
def jaR:=@Nat.lt_of_lt_of_le
def jaS:=@List.cons_append
def jaT:=@Bool.false_xor
def jaU:=@List.map_nil
def jaV:=@PySem.Heap.get?_push_size
def jaW:=@Nat.ne_of_lt
def jaX:=@List.getElem?_append_right
def jaY:=@decide_eq_decide
def jaZ:=@PySem.Paired.length
def ja0:=@List.length_pos_iff
def ja1:=@List.getElem?_set_ne
def ja2:=@Option.some.inj
def ja3:=@PySem.sizeLine_eq
def ja4:=@List.mem_append_right
def ja5:=@List.mem_of_getElem?
def ja6:=@beq_iff_eq
def ja7:=@Ne.symm
def ja8:=@List.all_eq_true
def ja9:=@List.sum_cons
def jba:=@PySem.StrLaws.glued_eq_join
def jbb:=@List.length_nil
def jbc:=@PySem.call_meets
def jbd:=@List.length_eq_zero_iff
def jbe:=@List.length_singleton
def jbf:=@List.replicate_succ
def jbg:=@decide_eq_true_eq
def jbh:=@List.nodup_cons
def jbi:=@List.any_cons
def jbj:=@PySem.W.mg_none_of
def jbk:=@or_false
def jbl:=@of_decide_eq_false
def jbm:=@PySem.W.kia_one
def jbn:=@List.find?_cons
def jbo:=@Bool.true_xor
def jbp:=@List.map_drop
def jbq:=@List.filterMap_cons
def jbr:=@List.pairwise_cons
def jbs:=@PySem.wpAny_truthy_bool
def jbt:=@List.length_range
def jbu:=@Nat.not_lt_zero
def jbv:=@Nat.lt_irrefl
def jbw:=@List.mem_append_left
def jbx:=@List.getElem?_range
def jby:=@List.flatten_append
def jbz:=@Int.toNat_natCast
def jbA:=@List.nodup_append
def jbB:=@List.mem_filter
def jbC:=@List.getD_eq_getElem?_getD
def jbD:=@List.drop_eq_getElem_cons
def jbE:=@Nat.add_sub_cancel_left
def jbF:=@List.take_of_length_le
def jbG:=@PySem.mem_of_lookup
def jbH:=@List.map_congr_left
def jbI:=@Int.emod_lt_of_pos
def jbJ:=@Nat.le_max_right
def jbK:=@List.flatten_nil
def jbL:=@PySem.wpAny_passesOwn
def jbM:=@List.nil_append
def jbN:=@Int.emod_nonneg
def jbO:=@Nat.le_max_left
def jbP:=@List.all_map
def jbQ:=@Nat.mul_succ
def jbR:=@List.sum_nil
def jbS:=@PySem.F.plainAttrs_str
def jbT:=@List.find?_cons_of_neg
def jbU:=@Nat.lt_succ_of_lt
def jbV:=@List.length_take
def jbW:=@List.any_eq_true
def jbX:=@List.take_left
def jbY:=@List.drop_left
def jbZ:=@Nat.add_assoc
def jb0:=@List.getElem?_replicate
def jb1:=@List.length_replicate
def jb2:=@List.getElem?_eq_none
def jb3:=@PySem.StrLaws.strSub_toList
def jb4:=@Bool.or_eq_false_iff
def jb5:=@beq_eq_false_iff_ne
def jb6:=@Array.length_toList
def jb7:=@List.map_eq_nil_iff
def jb8:=@Nat.mul_le_mul_left
def jb9:=@PySem.wpAny_Call_Name_kw
def jca:=@List.zip_cons_cons
def jcb:=@PySem.wpAny_newObj_type
def jcc:=@Bool.not_eq_true'
def jcd:=@Nat.lt_succ_self
def jce:=@Bool.or_eq_true
def jcf:=@List.mem_or_eq_of_mem_set
def jcg:=@List.filterMap_cons_some
def jch:=@PySem.wpAny_getItem_str_slice
def jci:=@PySem.F.plainAttrs_list
def jcj:=@List.filter_cons_of_pos
def jck:=@List.filter_cons_of_neg
def jcl:=@decide_eq_false_iff_not
def jcm:=@PySem.Heap.get?_update_other
def jcn:=@PySem.Calls.callWith_builtin
def jco:=@List.find?_cons_of_pos
def jcp:=@List.cons_lt_cons_iff
def jcq:=@List.mem_iff_getElem?
def jcr:=@Nat.mul_le_mul_right
def jcs:=@Bool.and_eq_true_iff
def jct:=@Int.toNat_of_nonneg
def jcu:=@List.takeWhile_cons
def jcv:=@PyProof.Rows.slot_tuple_getitem
def jcw:=@PyProof.Rows.callWith_type1
abbrev jcy:=List (PySem.Addr×PySem.Obj)
abbrev jcz:=PySem.Value->PySem.Shared->Prop
abbrev jcA:=Array (Option PySem.Value)
abbrev jcB:=List PySem.Str
abbrev jcC:=List PySem.Value
abbrev jcD:=List PySem.Addr
abbrev jcE:=List PySem.Expr
abbrev jcF:=Option PySem.Addr
abbrev jcG:=Option PySem.Value
abbrev jcH:=List Nat
def M{α:Sort u}{a:α}:a=a:=.refl a
namespace L2
open PySem PySem.Spec PyProof.Rows
abbrev Key:=Sum Int Str
def Ak:Key->Value->Bool
 |.inl k,v=>Value.isInt k v
 |.inr x,v=>Value.isStrOf x v
def a7I (w:World):Key->Int
 |.inl k=>hashInt k
 |.inr x=>hashStr w x
theorem cN:∀{k:Key}{v:Value},Ak k v=true->(∃i t,k=Sum.inl i/\v=Value.int i t)\/(∃x t,k=Sum.inr x/\v=Value.str x t)
 |.inl i,v,h=>by
  obtain⟨t,e⟩:=Value.isInt_shape (k:=i) (v:=v) h;exact .inl ⟨i,t,M,e⟩
 |.inr x,v,h=>by
  obtain⟨t,e⟩:=Value.isStrOf_shape (x:=x) (v:=v) h;exact .inr ⟨x,t,M,e⟩
def Oa (i:Int)(t:Tok):Ak (.inl i) (.int i t)=true:=by simp[Ak,Value.isInt]
def N9 (x:Str)(t:Tok):Ak (.inr x) (.str x t)=true:=by simp[Ak,Value.isStrOf]
def a1x (a b:Int):decide ((Sum.inl a:Key)=Sum.inl b)=(a==b):=by
 by_cases e:a=b
 .subst e;simp
 .have h:¬(Sum.inl a:Key)=Sum.inl b:=λq=>e (Sum.inl.inj q);rw[jai h];exact(jb5.mpr e).symm
def a1u (a b:Str):decide ((Sum.inr a:Key)=Sum.inr b)=decide (a=b):=by
 by_cases e:a=b
 .subst e;simp
 .have h:¬(Sum.inr a:Key)=Sum.inr b:=λq=>e (Sum.inr.inj q);rw[jai h,jai e]
def a1w (a:Int)(b:Str):decide ((Sum.inl a:Key)=Sum.inr b)=false:=jai (λq=>nomatch q)
def a1v (a:Str)(b:Int):decide ((Sum.inr a:Key)=Sum.inl b)=false:=jai (λq=>nomatch q)
def cL (prog:Program)(w:World):PySem.KeyKind prog w Key where
 is:=Ak
 hash:=a7I w
 inj:=λv a b ha hb=>by
  rcases cN ha with⟨i,t,rfl,rfl⟩ | ⟨x,t,rfl,rfl⟩
  .rcases cN hb with⟨j,u,rfl,e⟩ | ⟨y,u,rfl,e⟩
   .injection e with e1 _;rw[e1]
   .exact nomatch e
  .rcases cN hb with⟨j,u,rfl,e⟩ | ⟨y,u,rfl,e⟩
   .exact nomatch e
   .injection e with e1 _;rw[e1]
 byValue:=λk v h=>by
  rcases cN h with⟨i,t,rfl,rfl⟩ | ⟨x,t,rfl,rfl⟩<;>rfl
 pyHash:=λhv h=>by
  rcases cN hv with⟨i,t,rfl,rfl⟩ | ⟨x,t,rfl,rfl⟩
  .exact wpAny_pyHash_int h
  .exact wpAny_pyHash_str h
 eqBool:=λhu hv h=>by
  rcases cN hu with⟨i,t,rfl,rfl⟩ | ⟨x,t,rfl,rfl⟩
  .rcases cN hv with⟨j,u,rfl,rfl⟩ | ⟨y,u,rfl,rfl⟩
   .rw[a1x] at h;exact wpAny_eqBool_int h
   .rw[a1w] at h;exact SeqAt.EqAt.int_str i t y u _ _ _ _ h
  .rcases cN hv with⟨j,u,rfl,rfl⟩ | ⟨y,u,rfl,rfl⟩
   .rw[a1v] at h;exact SeqAt.EqAt.str_int x t j u _ _ _ _ h
   .rw[a1u] at h;exact wpAny_eqBool_str h
 «strs»:=λk x t v h=>by
  rcases cN h with⟨i,u,rfl,e⟩ | ⟨y,u,rfl,e⟩
  .exact nomatch e
  .injection e with e1 _
   subst e1;cases v<;>rfl
def GS (prog:Program)(w:World)(i:Int)(t:Tok):(cL prog w).is (.inl i) (.int i t)=true:=Oa i t
def GR (prog:Program)(w:World)(x:Str)(t:Tok):(cL prog w).is (.inr x) (.str x t)=true:=N9 x t
inductive V where
 |dD | bl (b:Bool) | int (i:Int) | str (x:Str) | OO (b:Array UInt8) | sn (x:Str) | ref (a:Addr) | ty (n:String)
 deriving DecidableEq
set_option genInjectivity false
def RelV:V->Value->Prop
 |.dD,u=>u=Value.none
 |.bl b,u=>u=Value.bool b
 |.int i,u=>∃t,u=Value.int i t
 |.str x,u=>∃t,u=Value.str x t
 |.OO b,u=>∃t,u=Value.bytes b t
 |.sn x,u=>∃t,t≠0/\u=Value.str x t
 |.ref a,u=>u=Value.ref a
 |.ty n,u=>u=Value.type n
abbrev Vals:List V->jcC->Prop:=Paired RelV
def OE (x:V):Prop:=match x with | .sn _=>False | _=>True
def Vals.length {xs:List V}{us:jcC}(r:Vals xs us):xs.length=us.length:=jaZ r
theorem Vals.get:∀{xs:List V}{us:jcC}{i:Nat}{x:V},Vals xs us->xs[i]?=some x->∃u,us[i]?=some u/\RelV x u
 |_,_,_,_,.nil,e=>by simp at e
 |_,_,0,_,.cons r _,e=>by simp at e;subst e;exact⟨_,M,r⟩
 |_,_,i+1,x,.cons _ t,e=>by
  obtain⟨u,b,a⟩:=Vals.get (i:=i) (x:=x) t (by simpa using e);exact⟨u,by simpa using b,a⟩
theorem Vals.set {x:V}{u:Value}(r:RelV x u):∀{xs:List V}{us:jcC}(i:Nat),Vals xs us->Vals (xs.set i x) (us.set i u)
 |_,_,_,.nil=>.nil
 |_,_,0,.cons _ t=>.cons r t
 |_,_,i+1,.cons q t=>.cons q (Vals.set r i t)
theorem Vals.append:∀{xs ys:List V}{us ws:jcC},Vals xs us->Vals ys ws->Vals (xs++ys) (us++ws)
 |_,_,_,_,.nil,s=>s
 |_,_,_,_,.cons r t,s=>.cons r (Vals.append t s)
theorem Vals.take:∀{xs:List V}{us:jcC}(n:Nat),Vals xs us->Vals (xs.take n) (us.take n)
 |_,_,0,_=>.nil
 |_,_,_+1,.nil=>.nil
 |_,_,n+1,.cons r t=>.cons r (Vals.take n t)
theorem Vals.drop:∀{xs:List V}{us:jcC}(n:Nat),Vals xs us->Vals (xs.drop n) (us.drop n)
 |_,_,0,r=>r
 |_,_,_+1,.nil=>.nil
 |_,_,n+1,.cons _ t=>Vals.drop n t
def nN:Option V->jcG->Prop
 |some v,some u=>RelV v u
 |none,none=>True
 |_,_=>False
def KV {κ:Type}:List (κ×V)->List (κ×Value)->Prop:=Paired λ(p:κ×V) (q:κ×Value)=>p.1=q.1/\RelV p.2 q.2
def kV:Key->V
 |.inl i=>.int i
 |.inr x=>.str x
inductive HO where
 |lst (xs:List V)
 |tup (xs:List V)
 |dK (kvs:List (Key×V)) | dT (kvs:List (List Key×V))
 |set (S:Int->Bool) (n:Nat)
 |ins (C dx:Addr) (fs:List (Str×V))
 |own (x:Addr)
 |xd (fs:List (Str×V))
 |met (f x:Addr)
 |rng (lo hi:Int)
 |vE (o:Obj) (u:HO)
 |XR (ps:Array Value)
 |ext (φ:Heap->Prop)
abbrev Hp:=Addr->Option HO
def upd (H:Hp)(a:Addr)(o:HO):Hp:=λb=>if b=a then some o else H b
def f9 {H:Hp}{a:Addr}{o:HO}:upd H a o a=some o:=by unfold upd;rw[jab rfl]
def aU {H:Hp}{a b:Addr}{o:HO}(h:b≠a):upd H a o b=H b:=by unfold upd;rw[jaa h]
def GO {H:Hp}{a b:Addr}{o u:HO}(h:H a=some o)(h':H b=some u)(d:o≠u):a≠b:=by
 intro e;subst e;rw[h] at h';exact d (ja2 h')
def bU {H:Hp}{a b:Addr}{o:HO}(h:H a=some o)(h':H b=none):a≠b:=by
 intro e;subst e;rw[h] at h';cases h'
section
variable (P:Program)(w:World)
def dG (H:Hp)(h:Heap)(a:Addr):HO->Prop
 |.lst c=>c.length<=sizeLine/\∃(d:jcC)(n:Nat),Vals c d/\h.get? a=some {cls:=.type "list",data:=.seq d.toArray n }
 |.tup c=>c.length<=sizeLine/\∃d:jcC,Vals c d/\IsTup h a d.toArray
 |.dK b=>b.length<=sizeLine/\(a==sysModules)=false/\∃i,KV b i/\h.DictOf (cL P w) a i
 |.dT b=>b.length<=sizeLine/\(a==sysModules)=false/\∃c:List (List Key×Addr×Value),
   Paired (λ(p:List Key×V) (q:List Key×Addr×Value)=>p.1=q.1/\H q.2.1=some (.tup (p.1.map kV))/\RelV p.2 q.2.2) b c/\
   ∃o g l,h.get? a=some o/\o.ExactDict/\o.data=.dict g l/\g.toList=c.map (entryOfKey (tupleKind (cL P w)))/\(c.map (·.1)).Nodup
 |.set S n=>h.SetOf (intKind P w) a S n
 |.ins C e fs=>H e=some (.own a)/\fs.length<=1000/\e≠a/\h.get? a=some (instObj C e)/\
   ∃mA,h.Ns1 e mA/\(∀f,nN (fs.lookup f) (mA f))/\PySem.Within mA (fs.map (·.1))
 |.own _=>∃o,h.get? a=some o
 |.xd fs=>∃mA,h.Ns1 a mA/\∀f,nN (fs.lookup f) (mA f)
 |.rng k m=>∃t u v,h.get? a=some {cls:=.type "range",data:=.fields #[.int k t,.int m u,.int 1 v] }
 |.vE o u=>h.get? a=some o/\dG H h a u
 |.XR j=>h.get? a=some {cls:=.none,data:=.fields j }
 |.met f x=>h.get? a=some (methodObj (.ref f) (.ref x))
 |.ext φ=>φ h/\(∃o,h.get? a=some o)/\∀h1 h2:Heap,φ h1->(∀o,h1.get? a=some o->h2.get? a=some o)->φ h2
def sy (H:Hp)(h:Heap):Prop:=∀a o,H a=some o->dG P w H h a o
end
section
variable {P:Program}{w:World}{H H':Hp}{h h':Heap}{a:Addr}{o:HO}
def dG.lt (x:dG P w H h a o):a<h.objs.size:=by
 cases o with
 |lst c=>obtain⟨_,_,_,_,e⟩:=x;exact jaE e
 |tup c=>obtain⟨_,_,_,p⟩:=x;exact p.lt
 |dK b=>obtain⟨_,_,_,_,o,_,_,e,_⟩:=x;exact jaE e
 |dT b=>obtain⟨_,_,_,_,o,_,_,e,_⟩:=x;exact jaE e
 |set S n=>obtain⟨o,_,_,_,e,_⟩:=x;exact jaE e
 |ins C g fs=>obtain⟨_,_,_,e,_⟩:=x;exact jaE e
 |own y=>obtain⟨_,e⟩:=x;exact jaE e
 |xd fs=>obtain⟨_,⟨_,_,_,e,_⟩,_⟩:=x;exact jaE e
 |rng i j=>obtain⟨_,_,_,e⟩:=x;exact jaE e
 |vE k u=>obtain⟨e,_⟩:=x;exact jaE e
 |XR d=>exact jaE (show h.get? a=some _ from x)
 |met f y=>exact jaE (show h.get? a=some _ from x)
 |ext φ=>obtain⟨_,⟨_,e⟩,_⟩:=x;exact jaE e
theorem Paired.a1e {α β:Type}{F G:α->β->Prop}:∀{l₁:List α}{l₂:List β},Paired F l₁ l₂->(∀a b,F a b->G a b)->Paired G l₁ l₂
 |_,_,.nil,_=>.nil
 |_,_,.cons r t,f=>.cons (f _ _ r) (Paired.a1e t f)
theorem dG.stay (x:dG P w H h a o)(k:∀b u,(b=a\/H b=some (.own a))->h.get? b=some u->h'.get? b=some u)
  (I:∀b,H b=some (.own a)->H' b=some (.own a)) (F:∀b xs,H b=some (.tup xs)->H' b=some (.tup xs)):dG P w H' h' a o:=by
 induction o with
 |lst xs=>obtain⟨z,m,n,r,e⟩:=x;exact⟨z,m,n,r,k _ _ (.inl M) e⟩
 |tup xs=>obtain⟨z,m,r,g,e,c⟩:=x;exact⟨z,m,r,g,k _ _ (.inl M) e,c⟩
 |dK l=>obtain⟨z,y,E,r,g,j,i,e,c⟩:=x;exact⟨z,y,E,r,g,j,i,k _ _ (.inl M) e,c⟩
 |dT l=>
  obtain⟨z,y,xs,r,g,j,i,e,c⟩:=x;exact⟨z,y,xs,Paired.a1e r λp q z=>⟨z.1,F _ _ z.2.1,z.2.2⟩,g,j,i,k _ _ (.inl M) e,c⟩
 |set S n=>obtain⟨g,j,i,t,e,c⟩:=x;exact⟨g,j,i,t,k _ _ (.inl M) e,c⟩
 |ins C J fs=>
  obtain⟨d,z,D,e,mA,⟨s,j,i,B,c⟩,r⟩:=x;exact⟨I _ d,z,D,k _ _ (.inl M) e,mA,⟨s,j,i,k _ _ (.inr d) B,c⟩,r⟩
 |own y=>obtain⟨g,e⟩:=x;exact⟨g,k _ _ (.inl M) e⟩
 |xd fs=>obtain⟨mA,⟨s,j,i,e,c⟩,r⟩:=x;exact⟨mA,⟨s,j,i,k _ _ (.inl M) e,c⟩,r⟩
 |rng K L=>obtain⟨t,u,v,e⟩:=x;exact⟨t,u,v,k _ _ (.inl M) e⟩
 |vE g u G=>obtain⟨e,q⟩:=x;exact⟨k _ _ (.inl M) e,G q⟩
 |XR A=>
  have e:h.get? a=some {cls:=.none,data:=.fields A }:=x;show h'.get? a=some {cls:=.none,data:=.fields A };exact k a _ (.inl M) e
 |met f y=>
  have e:h.get? a=some (methodObj (.ref f) (.ref y)):=x;show h'.get? a=some (methodObj (.ref f) (.ref y));exact k a _ (.inl M) e
 |ext φ=>obtain⟨p,⟨o,e⟩,st⟩:=x;exact⟨st _ _ p λo q=>k _ _ (.inl M) q,⟨o,k _ _ (.inl M) e⟩,st⟩
def sy.lt (x:sy P w H h)(e:H a=some o):a<h.objs.size:=(x a o e).lt
def sy.fresh (x:sy P w H h)(e:h.objs.size<=a):H a=none:=by
 cases q:H a with
 |none=>rfl
 |some u=>exact absurd (jaR (x.lt q) e) (jbv _)
theorem sy.kept (x:sy P w H h)(k:∀b u,h.get? b=some u->h'.get? b=some u):sy P w H h':=λa o e=>
 (x a o e).stay (λb u _ q=>k b u q) (λ_ q=>q) λ_ _ q=>q
theorem sy.laid (x:sy P w H h)(k:∀b u,h.get? b=some u->h'.get? b=some u)(g:h.objs.size<=a)(new:dG P w (upd H a o) h' a o):sy P w (upd H a o) h':=λb u e=>by
 have f:=x.fresh g;by_cases d:b=a
 .subst d;rw[f9] at e;cases e;exact new
 .rw[aU d] at e;exact(x b u e).stay (λc v _ q=>k c v q) (λc q=>by rw[aU (bU q f)];exact q) λc i q=>by rw[aU (bU q f)];exact q
end
def Rd (H:Hp)(a:Addr)(u:HO):Prop:=H a=some u\/∃o,H a=some (.vE o u)
theorem Rd.ok {P:Program}{w:World}{H:Hp}{h:Heap}{a:Addr}{u:HO}(r:Rd H a u)(x:sy P w H h):dG P w H h a u:=by
 rcases r with r | ⟨o,r⟩
 .exact x a u r
 .obtain⟨_,q⟩:=x a _ r;exact q
def Mut:Option HO->Prop
 |some (.lst _)=>True
 |some (.dK _)=>True
 |some (.dT _)=>True
 |some (.set _ _)=>True
 |some (.ins _ _ _)=>True
 |some (.ext _)=>True
 |_=>False
section
variable {P:Program}{w:World}{H:Hp}{h h':Heap}{x e:Addr}{o':HO}
theorem sy.write (ok:sy P w H h)(j:Mut (H x))(n:e=x\/H e=some (.own x))(k:∀b u,b≠e->h.get? b=some u->h'.get? b=some u)(m:∃u,h'.get? e=some u)
  (new:dG P w (upd H x o') h' x o'):sy P w (upd H x o') h':=λb u q=>by
 have d:∀c y,H c=some (.own y)->c≠x:=λc y r z=>by subst z;rw[r] at j;exact j
 have l:∀c i,H c=some (.tup i)->c≠x:=λc i r z=>by subst z;rw[r] at j;exact j
 by_cases g:b=x
 .subst g;rw[f9] at q;cases q;exact new
 .rw[aU g] at q;by_cases a:b=e
  .have q':H b=some (.own x):=by
    rcases n with z | z
    .exact absurd (a.trans z) g
    .rw[a];exact z
   rw[q] at q';cases q';obtain⟨v,o⟩:=m;exact⟨v,by rw[a];exact o⟩
  .refine(ok b u q).stay (λc v f r=>k c v ?_ r) (λc r=>by rw[aU (d c b r)];exact r) λc i r=>by rw[aU (l c i r)];exact r
   rcases f with rfl | f
   .exact a
   .rintro rfl;rcases n with z | z
    .exact d c b f z
    .rw[f] at z;cases z;exact g rfl
end
structure Un (fs ex:List Addr)(H H':Hp)(h h':Heap):Prop where
 keep:∀b o,h.get? b=some o->H b=none->b∉fs->b∉ex->h'.get? b=some o
 slot:∀b o,h.get? b=some o->H b=none->b∈fs->b∉ex->∃sl,h'.get? b=some {o with slots:=sl }
 free:∀b o,h.get? b=some o->H b=none->b∉ex->H' b=none
 there:∀b o,h.get? b=some o->b∉ex->∃o',h'.get? b=some o'
 tups:∀b xs,H b=some (.tup xs)->H' b=some (.tup xs)
 By:∀b o u,H b=some (.vE o u)->H' b=some (.vE o u)
 C8:∀b ps,H b=some (.XR ps)->∃more,H' b=some (.XR (ps++more))
section
variable {fs fs' ex ex':jcD}{H H1 H2:Hp}{h h1 h2 h':Heap}{a x e:Addr}{o:HO}
def Un.any (u:Un fs ex H H1 h h1){b:Addr}{a:Obj}(q:h.get? b=some a)(n:H b=none)(c:b∉ex):∃sl,h1.get? b=some {a with slots:=sl }:=by
 by_cases d:b∈fs
 .exact u.slot b a q n d c
 .exact⟨a.slots,u.keep b a q n d c⟩
theorem Un.kept (k:∀b u,h.get? b=some u->h'.get? b=some u):Un fs ex H H h h':=
 ⟨λb a q _ _ _=>k b a q,λb a q _ _ _=>⟨a.slots,k b a q⟩,λ_ _ _ n _=>n,λb a q _=>⟨a,k b a q⟩,λ_ _ q=>q,λ_ _ _ q=>q,λ_ c q=>⟨#[],by rw[q];simp⟩⟩
def Un.refl:Un fs ex H H h h:=Un.kept λ_ _ q=>q
theorem Un.laid (k:∀b u,h.get? b=some u->h'.get? b=some u)(hp:h.objs.size<=a)(hn:H a=none):Un fs ex H (upd H a o) h h' where
 keep:=λb u q _ _ _=>k b u q
 slot:=λb u q _ _ _=>⟨u.slots,k b u q⟩
 free:=λb u q n _=>by rw[aU (jaW (jaR (jaE q) hp))];exact n
 there:=λb u q _=>⟨u,k b u q⟩
 tups:=λb xs q=>by rw[aU (bU q hn)];exact q
 By:=λb u xs q=>by rw[aU (bU q hn)];exact q
 C8:=λb ps q=>⟨#[],by rw[aU (bU q hn),q];simp⟩
def Un.write (c:Mut (H x))(l:e=x\/H e=some (.own x))(k:∀b u,b≠e->h.get? b=some u->h'.get? b=some u)(d:∃u,h'.get? e=some u):Un fs ex H (upd H x o) h h':=by
 have g:∀b,H b=none->b≠x:=λb n z=>by subst z;rw[n] at c;exact c
 have i:∀b,H b=none->b≠e:=λb n z=>by
  subst z;rcases l with r | r
  .exact g b n r
  .rw[n] at r;cases r
 have f:∀b u,H b=some u->¬ Mut (some u)->b≠x:=λb u q nm z=>by subst z;rw[q] at c;exact nm c
 refine⟨λb u q n _ _=>k b u (i b n) q,λb u q n _ _=>⟨u.slots,k b u (i b n) q⟩,λb u q n _=>by rw[aU (g b n)];exact n,λb u q _=>?_,
  λb j q=>by rw[aU (f b _ q λz=>z)];exact q,λb u j q=>by rw[aU (f b _ q λz=>z)];exact q,λb m q=>⟨#[],by rw[aU (f b _ q λz=>z),q];simp⟩⟩
 by_cases a:b=e
 .subst a;exact d
 .exact⟨u,k b u a q⟩
end
def trk (h:Heap)(H:Hp):jcD:=(List.range h.objs.size).filter λa=>(H a).isSome
def EC (h:Heap)(H:Hp):Heap:=PySem.W.hideAll h (trk h H)
def Oo (h:Heap)(H:Hp):(EC h H).objs.size=h.objs.size:=PySem.W.hideAll_size _ _
theorem SD {h:Heap}{H:Hp}{b:Addr}{o:Obj}(e:h.get? b=some o)(n:H b=none):(EC h H).get? b=some o:=
 PySem.W.hideAll_get _ e λa=>by
  have q:(H b).isSome=true:=(jbB.mp a).2;rw[n] at q;simp at q
def WD {h:Heap}{H:Hp}{b:Addr}{o:Obj}(e:(EC h H).get? b=some o):h.get? b=some o/\H b=none:=by
 have a:h.get? b=some o:=PySem.W.of_hideAll (trk h H) e;refine⟨a,?_⟩;cases q:H b with
 |none=>rfl
 |some x=>
  have c:b∈trk h H:=jbB.mpr ⟨List.mem_range.mpr (jaE a),by simp[q]⟩;have z:(EC h H).get? b=none:=PySem.W.hideAll_none (trk h H) c;rw[z] at e;cases e
structure Mod (K:Frag)(mg:Str->Option Value)(base:Heap):Prop where
 kin:K.In base
 glob:base.Ns mainGlobals mg
 blt:∃mb,base.Ns builtinsNs mb/\∀x:Str,x≠"__name__"->mb x=bootBuiltins x
 nolimit:base.NoLimit
structure Cx where
 prog:Program
 w:World
 K:Frag
 mg:Str->Option Value
 base:Heap
 A:Around
 N:List Str
 s₀:Shared
 H₀:Hp
 env:Env
 outer:List Env
 stack:List Env
 ex:List Addr
 fn:Str->Bool
 calm:Bool
 pn:List (Addr×Obj)
 xe:Value->Shared->Prop
def frs (l:List Env):jcD:=l.filterMap (·.frame)
abbrev Cx.fs (X:Cx):jcD:=frs X.outer
def Vis (a:Scope)(x:Str):Prop:=a.names.lookup x=some .local\/a.names.lookup x=some .cell\/a.names.lookup x=some .free
def Loc (a:Scope)(x:Str):Prop:=a.names.lookup x=some .local\/a.names.lookup x=some .cell
def Look (a:Env)(h:Heap)(m:Str->jcG)(x:Str)(u:Value):Prop:=
 (a.kindOf x=some .local/\m x=some u)\/((a.kindOf x=some .cell\/a.kindOf x=some .free)/\∃c,a.cells.lookup x=some c/\h.IsCell c (some u))
structure Cx.Ok (X:Cx):Prop where
 mod:Mod X.K X.mg X.base
 kind:X.env.scope.kind=.function
 glob:X.env.globals=mainGlobals
 blt:X.env.builtins=builtinsNs
 above:X.s₀.heap.objs.size<=X.env.locals
 inj:∀x y c,X.env.cells.lookup x=some c->X.env.cells.lookup y=some c->x=y
 has:∀x,(X.env.kindOf x=some .cell\/X.env.kindOf x=some .free)->∃c,X.env.cells.lookup x=some c
 cab:∀x c,X.fn x=true->X.env.cells.lookup x=some c->X.s₀.heap.objs.size<=c
 hd:X.calm=true->X.A.handled=none
 frames:X.A.frames=some X.stack
 stk:X.stack=X.outer\/(X.stack=X.env::X.outer/\X.env.frame=some X.env.locals)
 exf:∀b∈X.ex,b≠X.env.locals/\∀x c,X.env.cells.lookup x=some c->c≠b
 bs:∀b o,X.base.get? b=some o->X.s₀.heap.get? b=some o/\X.H₀ b=none
 Xr:X.base.objs.size<=X.s₀.heap.objs.size
 RP:∀b o,X.base.get? b=some o->b∉X.ex
 S6:∀b∈X.ex,b∉X.fs
 xA:X.s₀.heap.FunFrames X.base X.outer
 frf:∀b∈X.fs,X.H₀ b=none
structure Inv (X:Cx)(vy:List (Addr×Obj))(U:List (Option V))(H:Hp)(s:Shared):Prop where
 ok:X.Ok
 os:s.os=X.s₀.os
 bare:AllBare s.gens
 base:Un X.fs X.ex X.H₀ H X.s₀.heap s.heap
 loc:∃m,s.heap.Ns X.env.locals m/\∀(i:Nat)(x:Str)(v:V),X.N[i]?=some x->U[i]?=some (some v)->Vis X.env.scope x->∃u,RelV v u/\Look X.env s.heap m x u
 cell:∀x c,X.env.cells.lookup x=some c->∃v,s.heap.IsCell c v
 free:H X.env.locals=none
 nA:∀x c,X.env.cells.lookup x=some c->H c=none
 pin:∀p∈X.pn++vy,s.heap.get? p.1=some p.2/\H p.1=none/\p.1≠X.env.locals/\p.1∉X.fs/\∀v,p.2.data≠.cell v
 hok:sy X.prog X.w H s.heap
 len:U.length=X.N.length
section
variable {X:Cx}{vy:jcy}{U:List (Option V)}{H H':Hp}{s:Shared}{h':Heap}
theorem Cx.Ok.a7u (ok:X.Ok){b:Addr}{o:Obj}(e:X.base.get? b=some o):b∉X.fs:=λa=>by
 have:=(ok.xA.mem a).1;rw[e] at this;cases this
theorem Inv.bs (I:Inv X vy U H s):∀b o,X.base.get? b=some o->s.heap.get? b=some o/\H b=none:=λb o e=>
 ⟨I.base.keep b o (I.ok.bs b o e).1 (I.ok.bs b o e).2 (I.ok.a7u e) (I.ok.RP b o e),I.base.free b o (I.ok.bs b o e).1 (I.ok.bs b o e).2 (I.ok.RP b o e)⟩
def Inv.bk (I:Inv X vy U H s):∀b o,X.base.get? b=some o->s.heap.get? b=some o:=λb o e=>(I.bs b o e).1
def Inv.mod (I:Inv X vy U H s):Mod X.K X.mg X.base:=I.ok.mod
def Inv.uN (I:Inv X vy U H s):X.K.In s.heap:=I.ok.mod.kin.keeps I.bk
def Inv.lt (I:Inv X vy U H s):X.env.locals<s.heap.objs.size:=let⟨_,hn,_⟩:=I.loc;hn.lt
def Inv.sz (I:Inv X vy U H s):X.s₀.heap.objs.size<=s.heap.objs.size:=jay I.ok.above (Nat.le_of_lt I.lt)
theorem Inv.a4t (I:Inv X vy U H s){a:Addr}(h:s.heap.objs.size<=a):a∉X.fs:=λc=>by
 obtain⟨_,o,b,_⟩:=I.ok.xA.mem c;exact absurd (jaR (jaE b) (jay I.sz h)) (jbv _)
theorem Inv.cne (I:Inv X vy U H s):∀x c,X.env.cells.lookup x=some c->c≠X.env.locals:=λx c e z=>by
 obtain⟨v,o,f,d⟩:=I.cell x c e;obtain⟨m,⟨g,i,h,b,a,_⟩,_⟩:=I.loc;rw[z,b] at f;cases f;rw[a] at d;cases d
def Inv.xA (I:Inv X vy U H s):s.heap.FunFrames X.base X.outer:=by
 have all:∀(l:List Env),(∀b∈frs l,b∈X.fs)->X.s₀.heap.FunFrames X.base l->s.heap.FunFrames X.base l:=by
  intro l
  induction l with
  |nil=>intro _ _;trivial
  |cons h r g=>
   intro f n;obtain⟨hk,⟨L,o,c,i,m,j⟩,k⟩:=n;have a:L∈X.fs:=f L (by unfold frs;rw[jbq,c];exact jak);obtain⟨p,e⟩:=I.base.slot L o m (I.ok.frf L a) a λz=>I.ok.S6 L z a;exact⟨hk,⟨L,_,c,i,e,j⟩,g (λb d=>f b (by unfold frs;rw[jbq,c];exact jaj _ d)) k⟩
 exact all X.outer (λ_ d=>d) I.ok.xA
def Inv.stack (I:Inv X vy U H s):s.heap.FunFrames X.base X.stack:=by
 rcases I.ok.stk with e | ⟨e,a⟩
 .rw[e];exact I.xA
 .rw[e];obtain⟨m,b,_⟩:=I.loc;refine .cons (by rw[I.ok.kind];decide) a b ?_ I.xA;exact Heap.get?_none_of_le (jay I.ok.Xr I.ok.above)
theorem Inv.Df (I:Inv X vy U H s):∀b∈frs X.stack,b∈X.env.locals::X.fs:=λb a=>by
 rcases I.ok.stk with e | ⟨e,c⟩
 .rw[e] at a;exact jaj _ a
 .rw[e] at a;unfold frs at a;rw[jbq,c] at a;exact a
theorem Inv.Lu (I:Inv X vy U H s):∀b∈frs X.stack,H b=none:=λb a=>by
 rcases jae.mp (I.Df b a) with e | a
 .rw[e];exact I.free
 .obtain⟨_,o,ho,_⟩:=I.ok.xA.mem a;exact I.base.free b o ho (I.ok.frf b a) λz=>I.ok.S6 b z a
theorem Inv.step {g':Array GenState}{t':Nat}{d':Drawn}{ch:jcD}(I:Inv X vy U H s)
  (j:∀b∈ch,(b∈X.ex\/X.s₀.heap.objs.size<=b)/\b≠X.env.locals/\(∀x c,X.env.cells.lookup x=some c->c≠b)/\∀p∈X.pn++vy,p.1≠b)
  (h:∀b o,b≠X.env.locals->b∉X.fs->b∉ch->s.heap.get? b=some o->H b=none->h'.get? b=some o)
  (B:∀b o,b≠X.env.locals->b∈X.fs->b∉ch->s.heap.get? b=some o->H b=none->∃sl,h'.get? b=some {o with slots:=sl }) (f:∀b o,b∉ch->s.heap.get? b=some o->H b=none->H' b=none)
  (C:∀b o,b∉ch->s.heap.get? b=some o->∃o',h'.get? b=some o')
  (G:∀b xs,H b=some (.tup xs)->H' b=some (.tup xs)) (Q:∀b o u,H b=some (.vE o u)->H' b=some (.vE o u)) (V:∀b ps,H b=some (.XR ps)->∃more,H' b=some (.XR (ps++more)))
  (W:∀m,s.heap.Ns X.env.locals m->h'.Ns X.env.locals m) (K:sy X.prog X.w H' h') (S:AllBare g') :
  Inv X vy U H' {s with heap:=h',gens:=g',drawn:=d',toks:=t' }:=by
 have J:∀b o,X.s₀.heap.get? b=some o->b≠X.env.locals:=λb o e=>jaW (jaR (jaE e) I.ok.above);have y:∀b o,X.s₀.heap.get? b=some o->b∉X.ex->b∉ch:=λb o e a D=>by
  rcases(j b D).1 with z | z
  .exact a z
  .exact absurd (jaR (jaE e) z) (jbv _)
 have g:∀x c,X.env.cells.lookup x=some c->∀v,s.heap.IsCell c v->h'.IsCell c v:=(by
  rintro x c e v ⟨o,E,N⟩;have t:c∉ch:=λz=>(j c z).2.2.1 x c e rfl;by_cases P:c∈X.fs
  .obtain⟨sl,q⟩:=B c o (I.cne x c e) P t E (I.nA x c e);exact⟨_,q,N⟩
  .exact⟨o,h c o (I.cne x c e) P t E (I.nA x c e),N⟩)
 refine⟨I.ok,I.os,S,⟨λb o e n D a=>?_,λb o e n D a=>?_,λb o e n a=>?_,λb o e a=>?_,λb xs e=>G b xs (I.base.tups b xs e),λb o xs e=>Q b o xs (I.base.By b o xs e),λb ps e=>?_⟩,?_,λx c e=>?_,?_,λx c e=>?_,λp O=>?_,K,I.len⟩
 .exact h b o (J b o e) D (y b o e a) (I.base.keep b o e n D a) (I.base.free b o e n a)
 .obtain⟨sl,A⟩:=I.base.slot b o e n D a;obtain⟨L,F⟩:=B b _ (J b o e) D (y b o e a) A (I.base.free b o e n a);exact⟨L,F⟩
 .obtain⟨o',A⟩:=I.base.there b o e a;exact f b o' (y b o e a) A (I.base.free b o e n a)
 .obtain⟨o',A⟩:=I.base.there b o e a;exact C b o' (y b o e a) A
 .obtain⟨m1,A⟩:=I.base.C8 b ps e;obtain⟨R,F⟩:=V b _ A;exact⟨m1++R,by rw[F,Array.append_assoc]⟩
 .obtain⟨m,hn,hl⟩:=I.loc;refine⟨m,W m hn,λi x v A F T=>?_⟩;obtain⟨u,r,l⟩:=hl i x v A F T;refine⟨u,r,?_⟩;rcases l with l | ⟨k,c,e,z⟩
  .exact .inl l
  .exact .inr ⟨k,c,e,g x c e _ z⟩
 .obtain⟨v,z⟩:=I.cell x c e;exact⟨v,g x c e v z⟩
 .obtain⟨m,⟨o,_,_,E,_⟩,_⟩:=I.loc;exact f _ o (λz=>(j _ z).2.1 M) E I.free
 .obtain⟨v,o,E,N⟩:=I.cell x c e;exact f c o (λz=>(j c z).2.2.1 x c e M) E (I.nA x c e)
 .obtain⟨e,n,ne,nf,d⟩:=I.pin p O;have t:p.1∉ch:=λz=>(j p.1 z).2.2.2 p O rfl;exact⟨h p.1 p.2 ne nf t e n,f p.1 p.2 t e n,ne,nf,d⟩
def Inv.un {t':Nat}(I:Inv X vy U H s)(u:Un X.fs [] H H' s.heap h')(c:sy X.prog X.w H' h'):Inv X vy U H' {s with heap:=h',toks:=t' }:=by
 obtain⟨m,⟨o,p,v,h,r⟩,_⟩:=id I.loc;obtain⟨l,i⟩:=u.any h I.free (by simp);exact I.step (g':=s.gens) (d':=s.drawn) (ch:=[]) (λ_ z=>nomatch z) (λb o _ g _ e n=>u.keep b o e n g (by simp)) (λb o _ g _ e n=>u.slot b o e n g (by simp)) (λb o _ e n=>u.free b o e n (by simp)) (λb o _ e=>u.there b o e (by simp)) u.tups u.By u.C8 (λq k=>by
  obtain⟨t,f,d,a,j⟩:=k;rw[h] at a;cases a;exact⟨_,f,d,i,j⟩) c I.bare
theorem Inv.call {g':Array GenState}{t':Nat}{d':Drawn}{ch:jcD}(I:Inv X vy U H s)(u:Un (frs X.stack) ch H H' s.heap h')(h:sy X.prog X.w H' h')(t:AllBare g')
  (f:∀b∈ch,(b∈X.ex\/X.s₀.heap.objs.size<=b)/\b≠X.env.locals/\(∀x c,X.env.cells.lookup x=some c->c≠b)/\∀p∈X.pn++vy,p.1≠b) :
  Inv X vy U H' {s with heap:=h',gens:=g',drawn:=d',toks:=t' }:=by
 obtain⟨m,⟨o,A,D,k,r⟩,_⟩:=id I.loc;obtain⟨y,g⟩:=u.any k I.free λz=>(f _ z).2.1 rfl;exact I.step (ch:=ch) f (λb o g q a e n=>u.keep b o e n (λz=>(jae.mp (I.Df b z)).elim g q) a) (λb o _ _ a e n=>u.any e n a) (λb o a e n=>u.free b o e n a) (λb o a e=>u.there b o e a) u.tups u.By u.C8 (λB v=>by
  obtain⟨C,j,i,d,l⟩:=v;rw[k] at d;cases d;exact⟨_,j,i,g,l⟩) h t
theorem Inv.turned {t':Nat}{a:Addr}(I:Inv X vy U H s)(k:∀b o,b≠a->s.heap.get? b=some o->h'.get? b=some o)(t:H a=none)(g:a≠X.env.locals)
  (h:a∈X.ex\/X.s₀.heap.objs.size<=a) (l:∀x c,X.env.cells.lookup x=some c->c≠a) (i:∀p∈X.pn++vy,p.1≠a):Inv X vy U H {s with heap:=h',toks:=t' }:=by
 have f:∀b u,H b=some u->b≠a:=λb u e z=>by rw[z,t] at e;cases e
 refine I.step (g':=s.gens) (d':=s.drawn) (ch:=[a]) (λb j=>?_) (λb o _ _ d e _=>k b o (λz=>d (by simp[z])) e) (λb o _ _ d e _=>⟨o.slots,k b o (λz=>d (by simp[z])) e⟩) (λ_ _ _ _ n=>n)
  (λb o d e=>⟨o,k b o (λz=>d (by simp[z])) e⟩) (λ_ _ e=>e) (λ_ _ _ e=>e) (λb y e=>⟨#[],by rw[e];simp⟩) (λm w=>?_) (λb u e=>?_) I.bare
 .have e:b=a:=by simpa using j
  subst e;exact⟨h,g,l,i⟩
 .obtain⟨o,es,ep,ho,r⟩:=w;exact⟨o,es,ep,k _ o (ja7 g) ho,r⟩
 .refine(I.hok b u e).stay (λc v d q=>k c v ?_ q) (λ_ q=>q) λ_ _ q=>q;rcases d with z | z
  .rw[z];exact f b u e
  .exact f c _ z
def Inv.tok (I:Inv X vy U H s)(t:Nat):Inv X vy U H {s with toks:=t }:=I.un (h':=s.heap) (t':=t) Un.refl I.hok
def Inv.kept {t':Nat}(I:Inv X vy U H s)(k:∀b u,s.heap.get? b=some u->h'.get? b=some u):Inv X vy U H {s with heap:=h',toks:=t' }:=I.un (Un.kept k) (I.hok.kept k)
theorem Inv.laid {a:Addr}{o:HO}{t':Nat}(I:Inv X vy U H s)(k:∀b u,s.heap.get? b=some u->h'.get? b=some u)(c:s.heap.objs.size<=a)(new:dG X.prog X.w (upd H a o) h' a o) :
  Inv X vy U (upd H a o) {s with heap:=h',toks:=t' }:=I.un (Un.laid k c (I.hok.fresh c)) (I.hok.laid k c new)
theorem Inv.write {x e:Addr}{o:HO}{t':Nat}(I:Inv X vy U H s)(c:Mut (H x))(d:e=x\/H e=some (.own x))(k:∀b u,b≠e->s.heap.get? b=some u->h'.get? b=some u)(a:∃u,h'.get? e=some u)
  (new:dG X.prog X.w (upd H x o) h' x o):Inv X vy U (upd H x o) {s with heap:=h',toks:=t' }:=I.un (Un.write c d k a) (I.hok.write c d k a new)
theorem Inv.weak {a:List (Option V)}(I:Inv X vy U H s)(d:a.length=U.length)(w:∀(i:Nat) v,a[i]?=some (some v)->U[i]?=some (some v)):Inv X vy a H s:=
 ⟨I.ok,I.os,I.bare,I.base,let⟨m,hn,hl'⟩:=I.loc;⟨m,hn,λi x v b c e=>hl' i x v b (w i v c) e⟩,I.cell,I.free,I.nA,I.pin,I.hok,d.trans I.len⟩
theorem Inv.yh {zD:jcy}(I:Inv X vy U H s)(h:∀p∈zD,s.heap.get? p.1=some p.2/\H p.1=none/\p.1≠X.env.locals/\p.1∉X.fs/\∀v,p.2.data≠.cell v):Inv X zD U H s:=
 ⟨I.ok,I.os,I.bare,I.base,I.loc,I.cell,I.free,I.nA,λp a=>(jan.mp a).elim (λz=>I.pin p (jbw _ z)) (h p),I.hok,I.len⟩
def GN {N:jcB}(d:N.Nodup){i j:Nat}{x:Str}(a:N[i]?=some x)(b:N[j]?=some x):i=j:=by
 obtain⟨g,e⟩:=jar.mp a;obtain⟨f,c⟩:=jar.mp b;exact(List.getElem_inj d).mp (e.trans c.symm)
theorem Ck {jcx:Model}{A:Around}{E:jcz}{i:Nat}{x:Str}{v:V}{u:Value}{Q:Unit->Shared->Prop}(I:Inv X vy U H s)(hN:X.N.Nodup)(D:X.N[i]?=some x)(t:Loc X.env.scope x)(r:RelV v u)
  (h:∀s',Inv X vy (U.set i (some v)) H s'->(∃a,Heap.SameBut a s.heap s'.heap/\(a=X.env.locals\/X.env.cells.lookup x=some a))->Q () s') (hf:autoParam (X.fn x=true\/X.env.scope.names.lookup x=some .local) zr):wpAny jcx A (storeName X.env x u) Q E s:=by
 obtain⟨m,hn,hl⟩:=id I.loc;have K:(X.env.scope.kind ==.class||(X.env.scope.kind ==.module&&X.env.locals !=X.env.globals))=false:=by rw[I.ok.kind];rfl
 have Dσ:i<U.length:=by rw[I.len];exact(jar.mp D).1
 have cne:=I.cne;have tracked:∀{a:Addr}{G:Heap},(∃o,s.heap.get? a=some o/\H a=none)->Heap.SameBut a s.heap G->sy X.prog X.w H G:=λ{a G} ha f b ob e=>by
  obtain⟨_,_,B⟩:=ha;refine(I.hok b ob e).stay (λc P l q=>(f.2 c ?_).trans q) (λ_ q=>q) λ_ _ q=>q;rintro rfl;rcases l with rfl | l
  .rw[B] at e;cases e
  .rw[B] at l;cases l
 rcases t with hk | hk
 .refine wpAny_storeName_local hk hn (λG T f=>?_) K;obtain⟨oL,_,_,Y,_⟩:=id hn;refine h _ ⟨I.ok,I.os,I.bare,⟨λb o e n F t=>?_,λb o e n F t=>?_,I.base.free,λb o e t=>?_,I.base.tups,I.base.By,I.base.C8⟩,⟨_,T,λj y S g C e3=>?_⟩,λy c e=>?_,I.free,I.nA,λp W=>?_,tracked ⟨oL,Y,I.free⟩ f,by simpa using I.len⟩ ⟨_,f,.inl M⟩
  .exact(f.2 b (jaW (jaR (jaE e) I.ok.above))).trans (I.base.keep b o e n F t)
  .obtain⟨sl,g⟩:=I.base.slot b o e n F t;exact⟨sl,(f.2 b (jaW (jaR (jaE e) I.ok.above))).trans g⟩
  .obtain⟨o',g⟩:=I.base.there b o e t;exact⟨o',(f.2 b (jaW (jaR (jaE e) I.ok.above))).trans g⟩
  .by_cases hj:j=i
   .subst hj;rw[D] at g;cases g;rw[jaJ Dσ] at C;cases C;exact⟨u,r,.inl ⟨hk,by simp⟩⟩
   .rw[ja1 (ja7 hj)] at C;obtain⟨Z,r',q⟩:=hl j y S g C e3;refine⟨Z,r',?_⟩;rcases q with⟨k,e⟩ | ⟨k,c,e,z⟩
    .refine .inl ⟨k,?_⟩;have:y≠x:=λe=>hj (GN hN g (e ▸ D));simp[this,e]
    .exact .inr ⟨k,c,e,z.sameBut f (cne y c e)⟩
  .obtain⟨P,z⟩:=I.cell y c e;exact⟨P,z.sameBut f (cne y c e)⟩
  .obtain⟨e,n,ne,nf,d⟩:=I.pin p W;exact⟨(f.2 p.1 ne).trans e,n,ne,nf,d⟩
 .have hfn:X.fn x=true:=by
   rcases hf with z | z
   .exact z
   .rw[z] at hk;cases hk
  obtain⟨c,l⟩:=I.ok.has x (.inl hk);obtain⟨P,z⟩:=I.cell x c l;refine wpAny_storeName_cell I.ok.kind hk l z (λG J f=>?_);obtain⟨oc,L,R⟩:=id z;refine h {s with heap:=G } ⟨I.ok,I.os,I.bare,⟨λb o e n F t=>?_,λb o e n F t=>?_,I.base.free,λb o e t=>?_,I.base.tups,I.base.By,I.base.C8⟩,⟨m,hn.sameBut f (ja7 (cne x c l)),λj y S g C e3=>?_⟩,λy O e=>?_,I.free,I.nA,λp W=>?_,tracked ⟨oc,L,I.nA x c l⟩ f,by simpa using I.len⟩ ⟨c,f,.inr l⟩
  .exact(f.2 b (jaW (jaR (jaE e) (I.ok.cab x c hfn l)))).trans (I.base.keep b o e n F t)
  .obtain⟨sl,g⟩:=I.base.slot b o e n F t;exact⟨sl,(f.2 b (jaW (jaR (jaE e) (I.ok.cab x c hfn l)))).trans g⟩
  .obtain⟨o',g⟩:=I.base.there b o e t;exact⟨o',(f.2 b (jaW (jaR (jaE e) (I.ok.cab x c hfn l)))).trans g⟩
  .by_cases hj:j=i
   .subst hj;rw[D] at g;cases g;rw[jaJ Dσ] at C;cases C;exact⟨u,r,.inr ⟨.inl hk,c,l,J⟩⟩
   .rw[ja1 (ja7 hj)] at C;obtain⟨Z,r',q⟩:=hl j y S g C e3;refine⟨Z,r',?_⟩;rcases q with q | ⟨k,O,e,z'⟩
    .exact .inl q
    .refine .inr ⟨k,O,e,z'.sameBut f ?_⟩;rintro rfl;exact hj (GN hN g (I.ok.inj _ _ _ e l ▸ D))
  .by_cases hcc:O=c
   .subst hcc;exact⟨_,J⟩
   .obtain⟨w2,z2⟩:=I.cell y O e;exact⟨w2,z2.sameBut f hcc⟩
  .obtain⟨e,n,ne,nf,d⟩:=I.pin p W;refine⟨(f.2 p.1 ?_).trans e,n,ne,nf,d⟩;intro q;rw[q,L] at e;have q':oc=p.2:=ja2 e;exact d P (by rw[<- q'];exact R)
theorem yD {jcx:Model}{A:Around}{E:jcz}{i:Nat}{x:Str}{v:V}{u:Value}{Q:Unit->Shared->Prop}(I:Inv X vy U H s)(b:X.N.Nodup)(d:X.N[i]?=some x)(c:Loc X.env.scope x)(r:RelV v u)
  (h:∀s',Inv X vy (U.set i (some v)) H s'->Q () s') (a:autoParam (X.fn x=true\/X.env.scope.names.lookup x=some .local) zr):wpAny jcx A (storeName X.env x u) Q E s:=
 Ck I b d c r (λs' e _=>h s' e) a
theorem Inv.a5F {a:Shared}{ch:jcD}(I:Inv X vy U H s)(h:a.os=s.os)(u:Un (frs X.stack) ch H H' s.heap a.heap)(d:sy X.prog X.w H' a.heap)(i:AllBare a.gens)
  (f:∀b∈ch,(b∈X.ex\/X.s₀.heap.objs.size<=b)/\b≠X.env.locals/\(∀x c,X.env.cells.lookup x=some c->c≠b)/\∀p∈X.pn++vy,p.1≠b):Inv X vy U H' a:=by
 obtain⟨j,g',d',t',g⟩:=a;have e:g=s.os:=h;subst e;exact I.call (g':=g') (t':=t') (d':=d') u d i f
end
abbrev XK:=Value->jcF->Hp->Prop
abbrev St:=List (Option V)
abbrev VK:=V->Hp->Prop
abbrev TE:=St->Hp->VK->Prop
abbrev TT:=St->Hp->(Bool->Hp->Prop)->Prop
abbrev TA:=St->Hp->(List V->Hp->Prop)->Prop
structure Ends where
 nx:St->Hp->Prop
 rt:VK
 bk:St->Hp->Prop:=λ_ _=>False
 ct:St->Hp->Prop:=λ_ _=>False
abbrev TS:=Ends->St->Hp->Prop
def EP (X:Cx)(b:jcy)(U:St)(Q:VK)(u:Value)(c:Shared):Prop:=∃v a,Inv X b U a c/\RelV v u/\Q v a
def TP (X:Cx)(c:jcy)(U:St)(Q:Bool->Hp->Prop)(b:Bool)(d:Shared):Prop:=∃a,Inv X c U a d/\Q b a
def AP (X:Cx)(c:jcy)(U:St)(Q:List V->Hp->Prop)(us:jcC)(d:Shared):Prop:=∃a b,Inv X c U b d/\Vals a us/\Q a b
def SP (X:Cx)(c:jcy)(D:Ends)(f:Flow)(d:Shared):Prop:=
 match f with
 |.next=>∃b a,Inv X c b a d/\D.nx b a
 |.brk=>∃b a,Inv X c b a d/\D.bk b a
 |.cont=>∃b a,Inv X c b a d/\D.ct b a
 |.ret u=>∃v b a,Inv X c b a d/\RelV v u/\D.rt v a
def PE (X:Cx)(e:Expr)(t:TE):Prop:=
 ∀(vy:jcy) (s:Shared) (U:St) (H:Hp) (Q:VK),Inv X vy U H s->t U H Q->wpAny (model X.prog X.w) X.A (eval e X.env) (EP X vy U Q) X.xe s
def PT (X:Cx)(e:Expr)(t:TT):Prop:=
 ∀(vy:jcy) (s:Shared) (U:St) (H:Hp) (Q:Bool->Hp->Prop),Inv X vy U H s->t U H Q->wpAny (model X.prog X.w) X.A (isTrue e X.env (eval e X.env)) (TP X vy U Q) X.xe s
def PW (X:Cx)(e:Expr)(t:TT):Prop:=
 ∀(whole:Sem Value)(vy:jcy) (s:Shared) (U:St) (H:Hp) (Q:Bool->Hp->Prop),Inv X vy U H s->t U H Q->wpAny (model X.prog X.w) X.A (isTrue e X.env whole) (TP X vy U Q) X.xe s
def PW.pt {X:Cx}{e:Expr}{t:TT}(h:PW X e t):PT X e t:=h _
def PA (X:Cx)(a:jcE)(t:TA):Prop:=
 ∀(pos:Pos)(vy:jcy) (s:Shared) (U:St) (H:Hp) (Q:List V->Hp->Prop),Inv X vy U H s->t U H Q->wpAny (model X.prog X.w) X.A (spliced (backTo pos (starEach a X.env))) (AP X vy U Q) X.xe s
def PS (X:Cx)(st:Stmt)(t:TS):Prop:=
 ∀(vy:jcy) (s:Shared) (U:St) (H:Hp) (D:Ends),Inv X vy U H s->t D U H->wpAny (model X.prog X.w) X.A (exec st X.env) (SP X vy D) X.xe s
def Fc (X:Cx)(st:List Stmt)(t:TS):Prop:=
 ∀(vy:jcy) (s:Shared) (U:St) (H:Hp) (D:Ends),Inv X vy U H s->t D U H->wpAny (model X.prog X.w) X.A (execs st X.env) (SP X vy D) X.xe s
def cU {α:Type}{t:Sem α}{Q b:α->Shared->Prop}{jcx:Model}{A:Around}{E:jcz}{s:Shared}(h:wpAny jcx A t Q E s)(c:∀a s,Q a s->b a s):wpAny jcx A t b E s:=jaQ h c λ_ _ x=>x
section
variable {X:Cx}
def a6L (i:Nat):TE:=λU H Q=>∃v,U[i]?=some (some v)/\Q v H
def tC (v:V):TE:=λ_ H Q=>Q v H
def a0D {i:Nat}{x:Str}{d:Pos}(n:X.N[i]?=some x)(j:Vis X.env.scope x)(f:autoParam ((x==("__debug__":Str))=false) zn)(b:autoParam ((x==("__classdict__":Str))=false) zn):PE X (.Name x d) (a6L i):=by
 intro o s U H Q I h;obtain⟨v,e,h⟩:=h;obtain⟨m,k,p⟩:=I.loc;obtain⟨u,r,l⟩:=p i x v n e j;have fin:EP X o U Q u s:=⟨v,H,I,r,h⟩
 rcases l with⟨hk,q⟩ | ⟨hk,c,g,a⟩
 .exact wpAny_Name (wpAny_loadName_local I.ok.kind hk k q fin) f
 .rcases hk with hk | hk
  .exact wpAny_Name (wpAny_loadName_cell I.ok.kind hk g a fin) f
  .exact wpAny_Name (wpAny_loadName_free I.ok.kind hk g a fin b) f
def Rc {i j pos}:PE X (.Constant (.int i) j pos) (tC (.int i)):=λ_ _ _ H _ I h=>wpAny_Constant_int ⟨.int i,H,I.tok _,⟨_,M⟩,h⟩
def a4g {b j pos}:PE X (.Constant (.bool b) j pos) (tC (.bl b)):=λ_ _ _ H _ I h=>Constant_bool ⟨.bl b,H,I,M,h⟩
def a0H {j pos}:PE X (.Constant .none j pos) (tC .dD):=λ_ _ _ H _ I h=>Constant_none ⟨.dD,H,I,M,h⟩
def Jq {x j pos}:PE X (.Constant (.str x) j pos) (tC (.str x)):=λ_ _ _ H _ I h=>Calls.Constant_str ⟨.str x,H,I.tok _,⟨_,M⟩,h⟩
def Gl (X:Cx)(x:Str):Prop:=X.env.kindOf x=some .globalImplicit
theorem tT {E:jcz}{c:jcy}{s:Shared}{U:St}{H:Hp}{x:Str}{u:Value}{a:Pos}{Q:jcz}(I:Inv X c U H s)(d:Gl X x)(e:X.mg x=some u)(h:Q u s)
  (b:autoParam ((x==("__debug__":Str))=false) zn):wpAny (model X.prog X.w) X.A (eval (.Name x a) X.env) Q E s:=
 Calls.Name_function_global I.ok.kind d (Calls.loadGlobal_global (by rw[I.ok.glob];exact I.mod.glob.keeps I.bk) e h) b
theorem Ew {E:jcz}{d:jcy}{s:Shared}{U:St}{H:Hp}{x:Str}{u:Value}{a:Pos}{Q:jcz}(I:Inv X d U H s)(e:Gl X x)(i:X.mg x=none)(g:bootBuiltins x=some u)(h:Q u s)
  (j:autoParam (x≠"__name__") zn) (b:autoParam ((x==("__debug__":Str))=false) zn):wpAny (model X.prog X.w) X.A (eval (.Name x a) X.env) Q E s:=by
 obtain⟨k,f,c⟩:=I.mod.blt;exact Calls.Name_function_global I.ok.kind e (Calls.loadGlobal_builtin (by rw[I.ok.glob];exact I.mod.glob.keeps I.bk) i (by rw[I.ok.blt];exact f.keeps I.bk) ((c x j).trans g) h) b
theorem jq {x:Str}{v:V}{u:Value}{a:Pos}(c:Gl X x)(d:X.mg x=some u)(r:RelV v u)(b:autoParam ((x==("__debug__":Str))=false) zn):PE X (.Name x a) (tC v):=
 λ_ _ _ H _ I h=>tT I c d ⟨v,H,I,r,h⟩ b
variable {a b:Expr}{ta tb:TE}{pos:Pos}
def tB (t:TE):TT:=λU H Q=>t U H λx a=>∃c,x=.bl c/\Q c a
def a0m {e:Expr}{t:TE}(h:PE X e t)(f:autoParam (∀whole,isTrue e X.env whole=(do let v <- whole;standAt e.pos;holding [v] (truthy v))) kf):PT X e (tB t):=by
 intro i s U H Q I a;refine isTrue_plain (cU (h i s U H _ I a) ?_) (f _);rintro v k ⟨x,g,b,c,j⟩;obtain⟨d,rfl,q⟩:=j;cases c;exact jbs ⟨g,b,q⟩
variable {tA tB':TT}{rest:jcE}
def a6Y (t u:TT):TT:=λU H Q=>t U H λc a=>if c=true then u U a Q else Q false a
def tOr (t u:TT):TT:=λU H Q=>t U H λc a=>if c=true then Q true a else u U a Q
def a6Q (t:TT):TT:=λU H Q=>t U H λc a=>Q (!c) a
def VN (b:PT X a tA):PW X (.BoolOp .And [a] pos) tA:=by
 intro f d s U H Q I h;refine isTrue_and (cU (b d s U H Q I h) λc g e=>?_);cases c with
 |true=>exact isTrue_and_nil e
 |false=>exact e
def a0h (b:PT X a tA):PW X (.BoolOp .Or [a] pos) tA:=by
 intro f d s U H Q I h;refine isTrue_or (cU (b d s U H Q I h) λc g e=>?_);cases c with
 |false=>exact isTrue_or_nil e
 |true=>exact e
def a0l (k:PT X a tA)(l:PW X (.BoolOp .And (b::rest) pos) tB'):PW X (.BoolOp .And (a::b::rest) pos) (a6Y tA tB'):=by
 intro i f s U H Q I h;refine isTrue_and (cU (k f s U H _ I h) ?_);rintro c j ⟨e,d,g⟩;cases c with
 |true=>exact l i f j U e Q d g
 |false=>exact⟨e,d,g⟩
def a39 (k:PT X a tA)(l:PW X (.BoolOp .Or (b::rest) pos) tB'):PW X (.BoolOp .Or (a::b::rest) pos) (tOr tA tB'):=by
 intro i f s U H Q I h;refine isTrue_or (cU (k f s U H _ I h) ?_);rintro c j ⟨e,d,g⟩;cases c with
 |true=>exact⟨e,d,g⟩
 |false=>exact l i f j U e Q d g
def a0n (b:PT X a tA):PT X (.UnaryOp .Not a pos) (a6Q tA):=by
 intro e s U H Q I h;exact isTrue_not (b e s U H (λc d=>Q (!c) d) I h)
def a3D (b d:TE):TE:=λU H Q=>b U H λx a=>∃c,x=.bl c/\if c=true then d U a Q else Q (.bl false) a
def a6P (b d:TE):TE:=λU H Q=>b U H λx a=>∃c,x=.bl c/\if c=true then Q (.bl true) a else d U a Q
def a3l (a:TE):TE:=λU H Q=>a U H λx b=>∃c,x=.bl c/\Q (.bl (!c)) b
def a0F {op}{t:TE}(h:PE X a t):PE X (.BoolOp op [a] pos) t:=λb s U H Q I c=>BoolOp_one (h b s U H Q I c)
def a0L (i:PE X a ta)(l:PE X (.BoolOp .And (b::rest) pos) tb):PE X (.BoolOp .And (a::b::rest) pos) (a3D ta tb):=by
 intro g s U H Q I h;refine BoolOp_and (cU (i g s U H _ I h) ?_);rintro v k ⟨x,f,e,j,d⟩;obtain⟨c,rfl,d⟩:=d;cases j;refine jbs ?_;cases c with
 |true=>exact l g k U f Q e d
 |false=>exact⟨.bl false,f,e,M,d⟩
def a4c (i:PE X a ta)(l:PE X (.BoolOp .Or (b::rest) pos) tb):PE X (.BoolOp .Or (a::b::rest) pos) (a6P ta tb):=by
 intro g s U H Q I h;refine BoolOp_or (cU (i g s U H _ I h) ?_);rintro v k ⟨x,f,e,j,d⟩;obtain⟨c,rfl,d⟩:=d;cases j;refine jbs ?_;cases c with
 |false=>exact l g k U f Q e d
 |true=>exact⟨.bl true,f,e,M,d⟩
def a0G (d:PE X a ta):PE X (.UnaryOp .Not a pos) (a3l ta):=by
 intro i s U H Q I h;refine UnaryOp_ (cU (d i s U H _ I h) ?_);rintro v j ⟨x,g,e,f,b⟩;obtain⟨c,rfl,b⟩:=b;cases f;exact not_of (jbs ⟨.bl (!c),g,e,M,b⟩)
def tIf (t:TT)(b d:TE):TE:=λU H Q=>t U H λc a=>if c=true then b U a Q else d U a Q
def Rf {c:Expr}(l:PT X c tA)(k:PE X a ta)(m:PE X b tb):PE X (.IfExp c a b pos) (tIf tA ta tb):=by
 intro e s U H Q I h;refine wpAny_IfExp (cU (l e s U H _ I h) ?_);rintro d i ⟨g,f,j⟩;cases d with
 |true=>exact k e i U g Q f j
 |false=>exact m e i U g Q f j
end
def nM (K:Frag)(H:Hp)(a:Addr)(xs:List V):Prop:=
 Rd H a (.lst xs)\/
  ∃(o:Obj)(b:Array Value)(n:Nat),K.lookup a=some o/\o.cls=.type "list"/\o.dict=none/\o.data=.seq b n/\b.size<=sizeLine/\Vals xs b.toList/\∀x∈xs,OE x
def nO (K:Frag)(H:Hp)(a:Addr)(xs:List V):Prop:=
 Rd H a (.tup xs)\/
  ∃(o:Obj)(b:Array Value)(n:Nat),K.lookup a=some o/\o.cls=.type "tuple"/\o.data=.seq b n/\b.size<=sizeLine/\Vals xs b.toList/\∀x∈xs,OE x
noncomputable def a8F:Value->Option V
 |.none=>some .dD
 |.bool b=>some (.bl b)
 |.int i _=>some (.int i)
 |.str x _=>some (.str x)
 |.bytes b _=>some (.OO b)
 |.ref a=>some (.ref a)
 |.type n=>some (.ty n)
 |_=>none
def RelV.abs {x:V}{u:Value}(n:OE x)(r:RelV x u):a8F u=some x:=by
 cases x with
 |dD=>cases r;rfl
 |bl _=>cases r;rfl
 |int _=>obtain⟨t,rfl⟩:=r;rfl
 |str _=>obtain⟨t,rfl⟩:=r;rfl
 |OO _=>obtain⟨t,rfl⟩:=r;rfl
 |sn _=>exact n.elim
 |ref _=>cases r;rfl
 |ty _=>cases r;rfl
theorem Vals.inj:∀{xs ys:List V}{us:jcC},(∀x∈xs,OE x)->(∀x∈ys,OE x)->Vals xs us->Vals ys us->xs=ys
 |_,_,_,_,_,.nil,.nil=>rfl
 |_,_,_,n,m,.cons r t,.cons a b=>by rw[ja2 ((r.abs (n _ (jak ..))).symm.trans (a.abs (m _ (jak ..)))),Vals.inj (λx h=>n x (jaj _ h)) (λx h=>m x (jaj _ h)) t b]
section
variable {X:Cx}{vy:jcy}{U:St}{H:Hp}{s:Shared}{a:Addr}{xs ys:List V}
def nM.of {K:Frag}(h:H a=some (.lst xs)):nM K H a xs:=.inl (.inl h)
def nO.of {K:Frag}(h:H a=some (.tup xs)):nO K H a xs:=.inl (.inl h)
def Inv.list (I:Inv X vy U H s)(h:nM X.K H a xs):∃AC:jcC,Vals xs AC/\PlainL s.heap a AC.toArray/\xs.length<=sizeLine:=by
 rcases h with h | ⟨o,AC,n,hk,c,d,b,f,r,_⟩
 .obtain⟨z,AC,n,r,e⟩:=h.ok I.hok;exact⟨AC,r,⟨_,n,e,M,M,M⟩,z⟩
 .refine⟨AC.toList,r,⟨o,n,I.uN a o hk,c,d,by simpa using b⟩,?_⟩;have e:=r.length;simp only[jb6] at e;lia
def Inv.tuple (I:Inv X vy U H s)(h:nO X.K H a xs):∃AC:jcC,Vals xs AC/\IsTup s.heap a AC.toArray/\xs.length<=sizeLine:=by
 rcases h with h | ⟨o,AC,n,hk,c,b,d,r,_⟩
 .obtain⟨z,AC,r,p⟩:=h.ok I.hok;exact⟨AC,r,p,z⟩
 .refine⟨AC.toList,r,⟨o,I.uN a o hk,c,n,by simpa using b⟩,?_⟩;have e:=r.length;simp only[jb6] at e;lia
def Rd.uL (h:Rd H a (.lst xs))(h':Rd H a (.lst ys)):xs=ys:=by
 rcases h with h | ⟨o,h⟩<;>rcases h' with h' | ⟨b,h'⟩<;>rw[h] at h'<;>cases h'<;>rfl
def Rd.uT (h:Rd H a (.tup xs))(h':Rd H a (.tup ys)):xs=ys:=by
 rcases h with h | ⟨o,h⟩<;>rcases h' with h' | ⟨b,h'⟩<;>rw[h] at h'<;>cases h'<;>rfl
def Inv.noK (I:Inv X vy U H s){o:Obj}{u:HO}(h:X.K.lookup a=some o)(h':Rd H a u):False:=by
 have z:=(I.bs a o (I.ok.mod.kin a o h)).2;rcases h' with h' | ⟨b,h'⟩<;>rw[h'] at z<;>cases z
def Inv.RZ (I:Inv X vy U H s)(h:nM X.K H a xs)(h':nM X.K H a ys):xs=ys:=by
 rcases h with h | ⟨o,k,n,hk,_,_,e,_,r,m⟩<;>rcases h' with h' | ⟨j,d,i,b,_,_,c,_,g,f⟩
 .exact h.uL h'
 .exact(I.noK b h).elim
 .exact(I.noK hk h').elim
 .rw[hk] at b;cases b;rw[e] at c;cases c;exact Vals.inj m f r g
def Inv.Nh (I:Inv X vy U H s)(h:nO X.K H a xs)(h':nO X.K H a ys):xs=ys:=by
 rcases h with h | ⟨o,k,n,hk,_,e,_,r,m⟩<;>rcases h' with h' | ⟨j,d,i,b,_,c,_,g,f⟩
 .exact h.uT h'
 .exact(I.noK b h).elim
 .exact(I.noK hk h').elim
 .rw[hk] at b;cases b;rw[e] at c;cases c;exact Vals.inj m f r g
end
noncomputable abbrev Cx.A1 (X:Cx)(E:jcz):Cx:={X with xe:=E }
abbrev Cx.nox (X:Cx):Cx:=X.A1 λ_ _=>False
theorem Cx.Ok.A1 {X:Cx}(ok:X.Ok)(E:jcz):(X.A1 E).Ok:=
 ⟨ok.mod,ok.kind,ok.glob,ok.blt,ok.above,ok.inj,ok.has,ok.cab,ok.hd,ok.frames,ok.stk,ok.exf,ok.bs,ok.Xr,ok.RP,ok.S6,ok.xA,ok.frf⟩
theorem Cx.Ok.nT {X:Cx}{E:jcz}(ok:(X.A1 E).Ok):X.Ok:=
 ⟨ok.mod,ok.kind,ok.glob,ok.blt,ok.above,ok.inj,ok.has,ok.cab,ok.hd,ok.frames,ok.stk,ok.exf,ok.bs,ok.Xr,ok.RP,ok.S6,ok.xA,ok.frf⟩
section
variable {X:Cx}{vy:jcy}{U:St}{H:Hp}{s:Shared}{E:jcz}
def Inv.A1 (I:Inv X vy U H s)(E:jcz):Inv (X.A1 E) vy U H s:=⟨I.ok.A1 E,I.os,I.bare,I.base,I.loc,I.cell,I.free,I.nA,I.pin,I.hok,I.len⟩
def Inv.nT (I:Inv (X.A1 E) vy U H s):Inv X vy U H s:=⟨I.ok.nT,I.os,I.bare,I.base,I.loc,I.cell,I.free,I.nA,I.pin,I.hok,I.len⟩
def SP.nT {D:Ends}{f:Flow}{c:Shared}(h:SP (X.A1 E) vy D f c):SP X vy D f c:=by
 cases f with
 |next=>obtain⟨a,b,I,q⟩:=h;exact⟨a,b,I.nT,q⟩
 |brk=>obtain⟨a,b,I,q⟩:=h;exact⟨a,b,I.nT,q⟩
 |cont=>obtain⟨a,b,I,q⟩:=h;exact⟨a,b,I.nT,q⟩
 |ret u=>obtain⟨v,a,b,I,r,q⟩:=h;exact⟨v,a,b,I.nT,r,q⟩
theorem Fc.nox {st:List Stmt}{t:TS}(h:Fc X.nox st t):Fc X st t:=λa s U H D I b=>
 jaQ (h a s U H D (I.A1 _) b) (λ_ _ q=>q.nT) λ_ _ z=>False.elim z
end
section
variable {X:Cx}{st:Stmt}{rest:List Stmt}{t u:TS}{e:Expr}{te:TE}{pos:Pos}
def a3o:TS:=λD U H=>D.nx U H
def a6N (t u:TS):TS:=λD U H=>t {D with nx:=u D } U H
def VS:Fc X [] a3o:=λ_ _ U H _ I h=>wpAny_execs_nil ⟨U,H,I,h⟩
def Q3 (g:PS X st t)(d:Fc X rest u):Fc X (st::rest) (a6N t u):=by
 intro a s U H D I h;refine wpAny_execs_cons (cU (g a s U H {D with nx:=u D } I h) λf c q=>?_);cases f with
 |next=>
  obtain⟨e,i,b,q⟩:=q;exact d a c e i D b q
 |ret v=>exact q
 |brk=>exact q
 |cont=>exact q
def VR (b:PS X st t):Fc X [st] t:=by
 intro a s U H D I h;refine wpAny_execs_cons (cU (b a s U H D I h) λf c q=>?_);cases f with
 |next=>exact wpAny_execs_nil q
 |ret v=>exact q
 |brk=>exact q
 |cont=>exact q
def Inv.quiet {a:jcy}{U:St}{H:Hp}{s:Shared}(I:Inv X a U H s):interactive X.env=false:=by simp[interactive,I.ok.kind]
def a3u (te:TE):TS:=λD U H=>te U H λ_ a=>D.nx U a
def VT (b:PE X e te)(hs:autoParam (swapsWith e none pos.line X.env=pure false) zi):PS X (.Expr e pos) (a3u te):=by
 intro d s U H D I h;exact wpAny_Expr_any (cU (b d s U H _ I h) (by rintro v i ⟨x,c,a,g,f⟩;exact⟨U,c,a,f⟩)) I.quiet hs
def a6O (te:TE):TS:=λD U H=>te U H D.rt
def a0q (c:PE X e te):PS X (.Return (some e) pos) (a6O te):=by
 intro f s U H D I h;exact wpAny_Return_some (cU (c f s U H _ I h) (by rintro v i ⟨x,d,a,b,g⟩;exact⟨x,U,d,a,b,g⟩))
def a6R (c:TT)(t u:TS):TS:=λD U H=>c U H λb a=>if b=true then t D U a else u D U a
def a4a {c:Expr}{a b:List Stmt}{j:TT}(m:PT X c j)(l:Fc X a t)(n:Fc X b u):PS X (.If c a b pos) (a6R j t u):=by
 intro e s U H D I h;refine wpAny_If (cU (m e s U H _ I h) ?_);rintro d i ⟨g,f,k⟩;cases d with
 |true=>exact l e i U g D f k
 |false=>exact n e i U g D f k
def Zh:TS:=λ_ _ _=>False
def Nz {a:List Stmt}:Fc X a Zh:=λ_ _ _ _ _ _ h=>h.elim
end
abbrev TG:=V->St->Hp->(St->Hp->Prop)->Prop
abbrev UG:=List V->St->Hp->(St->Hp->Prop)->Prop
def PG (X:Cx)(a:Expr)(t:TG):Prop:=
 ∀(vy:jcy) (s:Shared) (U:St) (H:Hp) (v:V) (u:Value) (Q:St->Hp->Prop),Inv X vy U H s->RelV v u->t v U H Q->
  wpAny (model X.prog X.w) X.A (assign a X.env u) (λ_ d=>∃b c,Inv X vy b c d/\Q b c) X.xe s
def YV (X:Cx)(d:jcE)(t:UG):Prop:=
 ∀(vy:jcy) (s:Shared) (U:St) (H:Hp) (vs:List V) (us:jcC) (Q:St->Hp->Prop),Inv X vy U H s->Vals vs us->t vs U H Q->
  wpAny (model X.prog X.w) X.A (assignInOrder ((assignEach d X.env).map (·.2)) us) (λ_ c=>∃a b,Inv X vy a b c/\Q a b) X.xe s
abbrev Uh:=V->V->V->Hp->(Hp->Prop)->Prop
def a2z (X:Cx)(t:Uh):Prop:=
 ∀(vy:jcy) (s:Shared) (U:St) (H:Hp) (o i v:V) (ov iv u:Value) (Q:Hp->Prop),Inv X vy U H s->RelV o ov->RelV i iv->RelV v u->t o i v H Q->
  wpAny (model X.prog X.w) X.A (setItem ov iv u) (λ_ b=>∃a,Inv X vy U a b/\Q a) X.xe s
abbrev TIp:=V->V->Hp->VK->Prop
def PIp (X:Cx)(a:Operator)(t:TIp):Prop:=
 ∀(vy:jcy) (s:Shared) (U:St) (H:Hp) (x y:V) (v u:Value) (Q:VK),Inv X vy U H s->RelV x v->RelV y u->t x y H Q->
  wpAny (model X.prog X.w) X.A (inplaceOp a v u) (EP X vy U Q) X.xe s
section
variable {X:Cx}{pos:Pos}
def SM (i:Nat):TG:=λv U H Q=>Q (U.set i (some v)) H
def LX {i:Nat}{x:Str}(b:X.N.Nodup)(d:X.N[i]?=some x)(c:Loc X.env.scope x)(a:autoParam (X.fn x=true\/X.env.scope.names.lookup x=some .local) zr):PG X (.Name x pos) (SM i):=by
 intro g s U H v u Q I r h;exact wpAny_assign_Name (yD I b d c r (λf e=>⟨_,H,e,h⟩) a)
def a8n:UG:=λa U H Q=>a=[]/\Q U H
def a5l (t:TG)(u:UG):UG:=λa U H Q=>∃v r,a=v::r/\t v U H λb c=>u r b c Q
def LW:YV X [] a8n:=by
 intro b s U H a c Q I r h;obtain⟨e,h⟩:=h;subst e;cases r;exact assignInOrder_nil ⟨U,H,I,h⟩
theorem Gj {e:Expr}{a:jcE}{t:TG}{u:UG}(f:PG X e t)(k:YV X a u)
  (hs:autoParam ((assignEach (e::a) X.env).map (·.2)=assign e X.env::(assignEach a X.env).map (·.2)) zi):YV X (e::a) (a5l t u):=by
 intro b s U H n m Q I r h;obtain⟨v,o,c,h⟩:=h;subst c;cases r with
 |cons r d=>
  rw[hs];refine assignInOrder_cons (cU (f b s U H _ _ _ I r h) ?_);rintro _ j ⟨σ1,i,g,l⟩;exact k b j σ1 i _ _ Q g d l
def a8l (K:Frag)(n:Nat)(t:UG):TG:=λv U H Q=>∃a b,v=.ref a/\nO K H a b/\b.length=n/\t b U H Q
theorem Ra {c:jcE}{k:Nat}{t:UG}{n:Nat}(l:X.calm=true)(h:YV X c t)
  (p:autoParam ((assignEach c X.env).length=n) zi) (d:autoParam ((assignEach c X.env).findIdx? (·.1)=none) zi):PG X (.Tuple c k pos) (a8l X.K n t):=by
 intro g s U H v u Q I r f;obtain⟨a,x,j,w,A,f⟩:=f;subst j;cases r;obtain⟨C,i,y,B⟩:=I.tuple w;refine assign_Tuple_tuple (I.ok.hd l) y (by simp[p,<- A,i.length]) d λz m=>?_;have q:Inv X g U H {s with heap:=z }:=I.kept (t':=s.toks) λb o e=>m b o (jaW (jaE e)) e;exact h g _ U H x _ Q q (by simpa using i) f
def a8m (e c:TE)(t:Uh):TG:=λv U H Q=>e U H λo b=>c U b λi d=>t o i v d λa=>Q U a
theorem a0C {o i:Expr}{b c:TE}{t:Uh}(z:PE X o b)(A:PE X i c)(hs:a2z X t)
  (g:autoParam (∀v,assign (.Subscript o i pos) X.env v=(do
   let ov <- holding [v] (eval o X.env)
   let iv <- holding [v,ov] (eval i X.env)
   standAt pos
   holding [v,ov,iv] (setItem ov iv v)
   release [v,ov,iv] [])) kf):PG X (.Subscript o i pos) (a8m b c t):=by
 intro a s U H v u Q I r h;rw[g];refine jat (wpAny_holding (cU (z a s U H _ I h) ?_));rintro ov w ⟨x,n,k,l,C⟩;refine jat (wpAny_holding (cU (A a w U n _ k C) ?_));rintro iv j ⟨y,f,B,e,p⟩;refine jat (wpAny_standAt (jat (wpAny_holding (cU (hs a j U f x y v ov iv u _ B l e r p) ?_))));rintro _ D ⟨d,m,q⟩;exact wpAny_release ⟨U,d,m,q⟩
def Zl (te:TE)(g:TG):TS:=λD U H=>te U H λx a=>g x U a D.nx
theorem a0u {a e:Expr}{te:TE}{g:TG}(j:PE X e te)(m:PG X a g)(hs:autoParam (swapsWithSole [a] e pos.line X.env=pure false) zi)(d:autoParam (swappedStores [a] e X.env=pure none) zi)
  (c:autoParam ((assignEach [a] X.env).map (·.2)=[assign a X.env]) zi):PS X (.Assign [a] e pos) (Zl te g):=by
 intro b s U H D I h;refine wpAny_Assign_stores (cU (j b s U H _ I h) ?_) hs d;rintro v l ⟨x,k,f,i,n⟩;rw[c];exact cU (m b l U k x v _ f i n) λ_ o q=>q
theorem a0p {i:Nat}{x:Str}{e:Expr}{te:TE}{a:Pos}(k:X.N.Nodup)(m:X.N[i]?=some x)(c:Loc X.env.scope x)(g:PE X e te)(hs:autoParam (swapsWith e (some (.Name x a)) pos.line X.env=pure false) zi)(b:autoParam (X.fn x=true\/X.env.scope.names.lookup x=some .local) zr) :
  PS X (.Assign [.Name x a] e pos) (Zl te (SM i)):=by
 intro l s U H D I h;refine wpAny_Assign_Name (cU (g l s U H _ I h) ?_) hs;rintro v q ⟨y,j,d,f,o⟩;exact yD d k m c f (λp n=>⟨_,j,n,o⟩) b
def a6X (i:Nat)(te:TE)(b:TIp):TS:=λD U H=>∃x,U[i]?=some (some x)/\te U H λy a=>b x y a λz c=>D.nx (U.set i (some z)) c
theorem a0t {i:Nat}{x:Str}{e:Expr}{te:TE}{g:Operator}{n:TIp}{b:Pos}(G:X.N.Nodup)(p:X.N[i]?=some x)(f:Loc X.env.scope x)(R:PE X e te)(T:PIp X g n)(q:autoParam (X.fn x=true\/X.env.scope.names.lookup x=some .local) zr) :
  PS X (.AugAssign (.Name x b) g e pos) (a6X i te n):=by
 intro j s U H D I h;obtain⟨v,M,h⟩:=h;obtain⟨m,V,K⟩:=I.loc;have d:Vis X.env.scope x:=by rcases f with k | k;exact .inl k;exact .inr (.inl k)
 obtain⟨u,r,l⟩:=K i x v p M d;refine wpAny_AugAssign_Name ?_;have o:wpAny (model X.prog X.w) X.A (eval e X.env) (λw s₂=>wpAny (model X.prog X.w) X.A (inplaceOp g u w) (λr s₃=>wpAny (model X.prog X.w) X.A (storeName X.env x r) (λ_=>SP X j D .next) X.xe s₃) X.xe s₂) X.xe s:=by
  refine cU (R j s U H _ I h) ?_;rintro w S ⟨y,E,B,Q,L⟩;refine cU (T j S U E v y u w _ B r Q L) ?_;rintro z Z ⟨zv,t,J,P,F⟩;exact yD J G p f P (λY C=>⟨_,t,C,F⟩) q
 rcases l with⟨hk,W⟩ | ⟨hk,c,O,a⟩
 .exact wpAny_loadName_local I.ok.kind hk V W o
 .rcases hk with hk | hk
  .exact wpAny_loadName_cell I.ok.kind hk O a o
  .rcases f with k | k
   .have:X.env.scope.names.lookup x=some .free:=hk;rw[k] at this;cases this
   .have:X.env.scope.names.lookup x=some .free:=hk;rw[k] at this;cases this
def a3A (e l te:TE)(f:V->V->Hp->VK->Prop)(a:TIp)(g:Uh):TS:=λD U H=>e U H λo h=>l U h λi d=>f o i d λx c=>te U c λy b=>a x y b λz k=>g o i z k λj=>D.nx U j
def a5U (X:Cx)(t:V->V->Hp->VK->Prop):Prop:=
 ∀(vy:jcy) (s:Shared) (U:St) (H:Hp) (o i:V) (ov iv:Value) (Q:VK),Inv X vy U H s->RelV o ov->RelV i iv->t o i H Q->
  wpAny (model X.prog X.w) X.A (getItem ov iv) (EP X vy U Q) X.xe s
theorem VW {o i e:Expr}{m g te:TE}{f:V->V->Hp->VK->Prop}{b:TIp}{q:Uh}{n:Operator}{c:Pos}(ho:PE X o m)(hi:PE X i g)(Q:a5U X f)(he:PE X e te)(G:PIp X n b)(hs:a2z X q)
  (B:autoParam (∀ov iv new,augStore i ov iv new=(do holding [new,ov,iv] (setItem ov iv new);release [new,ov,iv] [];pure .next)) kl):PS X (.AugAssign (.Subscript o i c) n e pos) (a3A m g te f b q):=by
 intro a s U H D I h;refine wpAny_AugAssign_SubscriptAny (cU (ho a s U H _ I h) ?_) B;rintro ov s1 ⟨j,L,E,p,R⟩;refine cU (hi a s1 U L _ E R) ?_;rintro iv Z ⟨k,z,P,l,M⟩;refine cU (Q a Z U z j k ov iv _ P p l M) ?_;rintro d J ⟨w,T,K,Y,q3⟩;refine cU (he a J U T _ K q3) ?_;rintro v W ⟨A,r,O,t,u⟩;refine cU (G a W U r w A d v _ O Y t u) ?_;rintro new s5 ⟨y,N,F,S,C⟩;exact cU (hs a s5 U N j k y ov iv new _ F p l S C) (by rintro _ s6 ⟨H6,x,q6⟩;exact⟨U,H6,x,q6⟩)
def ipI (f:Int->Int->Int):TIp:=λx y H Q=>∃i j,x=.int i/\y=.int j/\Q (.int (f i j)) H
def Sv:PIp X .Add (ipI λi j=>i+j):=by
 intro f s U H x y v u Q I d b h;obtain⟨i,j,a,c,q⟩:=h;subst a;subst c;obtain⟨t,rfl⟩:=d;obtain⟨e,rfl⟩:=b;exact iadd_int ⟨.int _,H,I.tok _,⟨_,M⟩,q⟩
end
section
variable {X:Cx}{pos:Pos}
def Zg (c:TT)(e:TS):TS:=λD U H=>∃W:Nat->St->Hp->Prop,(∃m,W m U H)/\∀m U H,W m U H->
 c U H λb d=>if b=true then ∃N:St->Hp->Prop,(∀U' H',N U' H'->∃a,a < m/\W a U' H')/\e {D with nx:=N,ct:=N,bk:=D.nx } U d else D.nx U d
def Q4 {c:Expr}{a:List Stmt}{r:TT}{C:TS}(u:PassesOwn (model X.prog X.w) X.A X.env X.xe)(K:PT X c r)(O:Fc X a C):PS X (.While c a [] pos) (Zg r C):=by
 intro o s U H D I h;obtain⟨W,⟨m0,J⟩,d⟩:=h;refine wpAny_While (codeAny_whileLoop (λn E=>∃z t,Inv X o z t E/\W n z t) ?_ m0 ⟨U,H,I,J⟩);rintro n M ⟨σ1,x,G,F⟩;refine jbL u (cU (K o M σ1 x _ G (d n σ1 x F)) ?_);rintro b L ⟨q,B,g⟩;cases b with
 |true=>
  obtain⟨N,y,g⟩:=g;rw[jab rfl];refine jbL u (cU (O o L σ1 q _ B g) λf P i=>?_);cases f with
  |next=>
   obtain⟨σ3,e,j,k⟩:=i;obtain⟨m,p,l⟩:=y σ3 e k;exact⟨m,p,σ3,e,j,l⟩
  |cont=>
   obtain⟨σ3,e,j,k⟩:=i;obtain⟨m,p,l⟩:=y σ3 e k;exact⟨m,p,σ3,e,j,l⟩
  |brk=>exact i
  |ret v=>exact i
 |false=>
  rw[jaa jaA];exact wpAny_execs_nil ⟨σ1,q,B,g⟩
end
structure It where
 go:Nat->Hp->Prop
 Ib:Nat->Hp->V->Hp->Prop
 stop:Nat->Hp->Prop
def ux (X:Cx)(a:jcy)(H:Hp)(b:Addr):Prop:=
 H b=none/\b≠X.env.locals/\b∉X.fs/\(b∈X.ex\/X.s₀.heap.objs.size<=b)/\(∀x c,X.env.cells.lookup x=some c->c≠b)/\∀p∈X.pn++a,p.1≠b
def Inv.G5 {X:Cx}{d:jcy}{U:St}{H H':Hp}{s:Shared}{b:Addr}(I:Inv X d U H s)(a:s.heap.objs.size<=b)(g:H' b=none):ux X d H' b:=by
 refine⟨g,Nat.ne_of_gt (jaR I.lt a),I.a4t a,.inr (jay I.sz a),λx c e z=>?_,λp f z=>?_⟩
 .obtain⟨v,q⟩:=I.cell x c e;exact absurd (jaR q.lt (by rw[z];exact a)) (jbv _)
 .exact absurd (jaR (jaE (I.pin p f).1) (by rw[z];exact a)) (jbv _)
structure Turn (P:Program)(w:World)(K:Frag)(tg:Expr)(J:It)(fp:List Addr)(it:Addr)(tn:Nat->Heap->Prop):Prop where
 mem:it∈fp
 obj:∀i h,tn i h->∀b∈fp,∃o,h.get? b=some o/\∀v,o.data≠.cell v
 keep:∀i h h',tn i h->(∀b∈fp,∀o,h.get? b=some o->h'.get? b=some o)->tn i h'
 item:∀(X:Cx),X.prog=P->X.w=w->X.K=K->X.calm=true->∀(i:Nat)(vy:List (Addr×Obj)) (s:Shared) (U:St) (H:Hp) (E:Value->Shared->Prop),Inv X vy U H s->(∀b∈fp,ux X vy H b)->tn i s.heap->J.go i H->
  wpAny (model P w) X.A (pyNext (.ref it)) (λr s1=>∃u,r=some u/\
   wpAny (model P w) X.A (letOwnedTupleGo tg (.ref it) u) (λ_ s2=>∃x H',Inv X vy U H' s2/\RelV x u/\J.Ib i H x H'/\tn (i+1) s2.heap/\∀b∈fp,H' b=none) E s1) E s
 done:∀(X:Cx),X.prog=P->X.w=w->X.K=K->X.calm=true->∀(i:Nat)(vy:List (Addr×Obj)) (s:Shared) (U:St) (H:Hp) (E:Value->Shared->Prop),Inv X vy U H s->(∀b∈fp,ux X vy H b)->tn i s.heap->J.stop i H->
  wpAny (model P w) X.A (pyNext (.ref it)) (λr s1=>r=none/\Inv X vy U H s1) E s
 self:∀(A:Around)(i:Nat)(s:Shared)(Q:Value->Shared->Prop)(E:Value->Shared->Prop),tn i s.heap->Q (.ref it) s->wpAny (model P w) A (pyIter (.ref it)) Q E s
abbrev TI:=St->Hp->(It->Hp->Prop)->Prop
def PIE (X:Cx)(c:jcy)(U:St)(e:Expr)(R:It->Hp->Prop)(a:Value)(d:Shared):Prop:=
 ∃(it:Addr)(fp:jcD)(tn:Nat->Heap->Prop)(J:It)(H':Hp),a=.ref it/\Inv X c U H' d/\Turn X.prog X.w X.K e J fp it tn/\tn 0 d.heap/\(∀b∈fp,ux X c H' b)/\R J H'
def PI (X:Cx)(b a:Expr)(d:TI):Prop:=
 ∀(vy:jcy) (s:Shared) (U:St) (H:Hp) (R:It->Hp->Prop),Inv X vy U H s->d U H R->
  wpAny (model X.prog X.w) X.A (eval a X.env) (λv c=>wpAny (model X.prog X.w) X.A (pyIter v) (PIE X vy U b R) X.xe c) X.xe s
theorem wI {jcx:Model}{A:Around}{E:jcz}{s:Shared}{b:Expr}{c:Addr}{u:Value}{o:Obj}{n:String}{vs:Array Value}{Q:Unit->Shared->Prop}(f:s.heap.get? c=some o)(d:o.cls=.type n)(e:o.data=.fields vs)
  (g:["enumerate","zip","dict_itemiterator","dict_reverseitemiterator","odict_iterator","itertools.zip_longest","itertools.pairwise"].contains n=false) (a:Q () s):wpAny jcx A (letOwnedTupleGo b (.ref c) u) Q E s:=by
 unfold letOwnedTupleGo;cases b<;>first
  |exact jaC a
  |(cases u<;>first
    |exact jaC a
    |(
      refine jat (wpAny_load f ?_);rw[d,e];show wpAny jcx A (if(["enumerate","zip","dict_itemiterator","dict_reverseitemiterator","odict_iterator","itertools.zip_longest","itertools.pairwise"].contains n&&vs[0]? ==some (rawInt _))=true then _ else _) Q E s;rw[jaa (by intro h;rw[g,Bool.false_and] at h;cases h)];exact jaC a))
def Itl (K:Frag)(a:Addr):It:=
 ⟨λi H=>∃b x,nM K H a b/\b[i]?=some x,λi H x c=>c=H/\∀b,nM K H a b->b[i]?=some x,λi H=>∃b,nM K H a b/\b.length<=i⟩
def Itt (K:Frag)(a:Addr):It:=
 ⟨λi H=>∃b x,nO K H a b/\b[i]?=some x,λi H x c=>c=H/\∀b,nO K H a b->b[i]?=some x,λi H=>∃b,nO K H a b/\b.length<=i⟩
def Itr (a:Int)(n:Nat):It:=⟨λi _=>i<n,λi H x b=>b=H/\x=.int (a+i),λi _=>n<=i⟩
theorem Nf {P:Program}{w:World}{K:Frag}{tg:Expr}(a it:Addr):Turn P w K tg (Itl K a) [it] it (λi h=>h.IsListIter it a i) where
 mem:=by simp
 obj:=λi h st b hb=>by
  have e:b=it:=by simpa using hb
  subst e;obtain⟨o,e,c,d⟩:=st;exact⟨o,e,λv z=>by rw[d] at z;cases z⟩
 keep:=λi h h' st k=>st.at λo e=>k it (by simp) o e
 item:=by
  intro X hP hw hK hc i vy s U H E I hf st hg;subst hP hw hK;obtain⟨xs,x,hq,hx⟩:=hg;obtain⟨AC,rv,p,hz⟩:=I.list hq;obtain⟨u,hu,ru⟩:=rv.get hx;obtain⟨f0,f1,f2,f3,f4,f5⟩:=hf it (by simp);refine wpAny_pyNext_list_item st p.isList (x:=u) (by simpa using hu) λh' st' sb=>?_;have I1:Inv X vy U H {s with heap:=h' }:=I.turned (t':=s.toks) (λb o hb e=>(sb.2 b hb).trans e) f0 f1 f3 f4 f5;obtain⟨o,e,c,d⟩:=id st';exact⟨u,M,wI (s:={s with heap:=h' }) e c d (by decide) ⟨x,H,I1,ru,⟨M,λys hy=>by rw[I.RZ hy hq];exact hx⟩,st',λb hb=>(hf b hb).1⟩⟩
 done:=by
  intro X hP hw hK hc i vy s U H E I hf st hg;subst hP hw hK;obtain⟨xs,hq,hx⟩:=hg;obtain⟨AC,rv,p,hz⟩:=I.list hq;obtain⟨f0,f1,f2,f3,f4,f5⟩:=hf it (by simp);have hl:=rv.length;exact wpAny_pyNext_list_end (I.ok.hd hc) st p.isList (by simp;lia) λh' eb=>⟨M,I.turned (t':=s.toks) (λb o hb e=>eb b o hb e) f0 f1 f3 f4 f5⟩
 self:=λ_ _ _ _ _ st h=>wpAny_pyIter_listiter st h
theorem Ie {P:Program}{w:World}{K:Frag}{tg:Expr}(a it:Addr):Turn P w K tg (Itt K a) [it] it (λi h=>h.IsTupleIter it a i) where
 mem:=by simp
 obj:=λi h st b hb=>by
  have e:b=it:=by simpa using hb
  subst e;obtain⟨o,e,c,d⟩:=st;exact⟨o,e,λv z=>by rw[d] at z;cases z⟩
 keep:=λi h h' st k=>st.at λo e=>k it (by simp) o e
 item:=by
  intro X hP hw hK hc i vy s U H E I hf st hg;subst hP hw hK;obtain⟨xs,x,hq,hx⟩:=hg;obtain⟨AC,rv,p,hz⟩:=I.tuple hq;obtain⟨u,hu,ru⟩:=rv.get hx;obtain⟨f0,f1,f2,f3,f4,f5⟩:=hf it (by simp);refine wpAny_pyNext_tuple_item st (show s.heap.IsTuple a AC.toArray from p) (x:=u) (by simpa using hu) λh' st' sb=>?_;have I1:Inv X vy U H {s with heap:=h' }:=I.turned (t':=s.toks) (λb o hb e=>(sb.2 b hb).trans e) f0 f1 f3 f4 f5;obtain⟨o,e,c,d⟩:=id st';exact⟨u,M,wI (s:={s with heap:=h' }) e c d (by decide) ⟨x,H,I1,ru,⟨M,λys hy=>by rw[I.Nh hy hq];exact hx⟩,st',λb hb=>(hf b hb).1⟩⟩
 done:=by
  intro X hP hw hK hc i vy s U H E I hf st hg;subst hP hw hK;obtain⟨xs,hq,hx⟩:=hg;obtain⟨AC,rv,p,hz⟩:=I.tuple hq;obtain⟨f0,f1,f2,f3,f4,f5⟩:=hf it (by simp);have hl:=rv.length;exact wpAny_pyNext_tuple_end (I.ok.hd hc) st (show s.heap.IsTuple a AC.toArray from p) (by simp;lia) λh' eb=>⟨M,I.turned (t':=s.toks) (λb o hb e=>eb b o hb e) f0 f1 f3 f4 f5⟩
 self:=λ_ _ _ _ _ st h=>wpAny_pyIter_tupleiter st h
theorem Ig {P:Program}{w:World}{K:Frag}{tg:Expr}(it:Addr)(lo:Int)(n:Nat):Turn P w K tg (Itr lo n) [it] it (λi h=>IsRangeIter h it (lo+(i:Nat)*1) ((n:Int) - (i:Nat)) 1) where
 mem:=by simp
 obj:=λi h st b hb=>by
  have e:b=it:=by simpa using hb
  subst e;exact⟨_,st,λv z=>by
   have z':Data.fields _=Data.cell v:=z;cases z'⟩
 keep:=λi h h' st k=>k it (by simp) _ st
 item:=by
  intro X hP hw hK hc i vy s U H E I hf st hg;subst hP hw hK;obtain⟨f0,f1,f2,f3,f4,f5⟩:=hf it (by simp);have W:=Walks.range (prog:=X.prog) (w:=X.w) (I.ok.hd hc) it lo 1 n;refine W.item i s _ _ hg st λv h' tk hv st' kk=>?_;obtain⟨t,rfl⟩:=hv;have I1:Inv X vy U H {s with heap:=h',toks:=tk }:=I.turned (λb o hb e=>kk b o (by simpa using hb) e) f0 f1 f3 f4 f5;refine⟨_,M,wI (s:={s with heap:=h',toks:=tk }) (n:="range_iterator") st' rfl rfl (by decide) ⟨.int (lo+i),H,I1,⟨t,?_⟩,⟨M,M⟩,st',λb hb=>(hf b hb).1⟩⟩;rw[Int.mul_one]
 done:=by
  intro X hP hw hK hc i vy s U H E I hf st hg;subst hP hw hK;obtain⟨f0,f1,f2,f3,f4,f5⟩:=hf it (by simp);exact wpAny_pyNext_range_end (I.ok.hd hc) st (by have:n<=i:=hg;lia) λh' eb=>⟨M,I.turned (t':=s.toks) (λb o hb e=>eb b o hb e) f0 f1 f3 f4 f5⟩
 self:=λ_ _ _ _ _ st h=>wpAny_pyIter_rangeiter st h
section
variable {X:Cx}{tg:Expr}
theorem QC {f:jcy}{U:St}{H:Hp}{s:Shared}{R:It->Hp->Prop}{E:jcz}{a c:Int}{t u v:Tok}{tk:Nat}(I:Inv X f U H s)(h:-(2 ^ 62)<=a)(l:a<2 ^ 62)(i:-(2 ^ 62)<=c)(j:c<2 ^ 62)
  (q:R (Itr a (c - a).toNat) H):wpAny (model X.prog X.w) X.A (pyIter (.ref s.heap.objs.size)) (PIE X f U tg R) E {s with heap:=s.heap.push {cls:=.type "range",data:=.fields #[.int a t,.int c u,.int 1 v] },toks:=tk }:=by
 refine wpAny_pyIter_range (IsRange.new ..) (small_one h l i j) ?_;have d:Inv X f U H {s with heap:=s.heap.push {cls:=.type "range",data:=.fields #[.int a t,.int c u,.int 1 v] },toks:=tk }:=I.kept λb o e=>jaI _ e;refine⟨(s.heap.push {cls:=.type "range",data:=.fields #[.int a t,.int c u,.int 1 v] }).objs.size,[(s.heap.push {cls:=.type "range",data:=.fields #[.int a t,.int c u,.int 1 v] }).objs.size],_,_,H,M,
  d.kept (t':=tk) λb o e=>jaI _ e,Ig _ a (c - a).toNat,?_,λb k=>?_,q⟩
 .have e1:a+((0:Nat):Int)*1=a:=by simp
  have g:(((c - a).toNat:Nat):Int) - ((0:Nat):Int)=Builtin.Range.rangeSize a c 1:=by rw[rangeSize_one];split<;>lia
  show IsRangeIter _ _ (a+((0:Nat):Int)*1) ((((c - a).toNat:Nat):Int) - ((0:Nat):Int)) 1;rw[e1,g];exact jaV _ rfl
 .have e:b=(s.heap.push {cls:=.type "range",data:=.fields #[.int a t,.int c u,.int 1 v] }).objs.size:=by simpa using k
  subst e;exact d.G5 (jaq _) (d.hok.fresh (jaq _))
def a48 (a:TA):TI:=λU H R=>a U H λb c=>∃j:Int,b=[.int j]/\-(2 ^ 62)<=j/\j<2 ^ 62/\R (Itr 0 j.toNat) c
def NC {a:Expr}{d:TA}{p b:Pos}(n:Gl X "range")(o:X.mg "range"=none)(g:PA X [a] d)(hs:autoParam (starEach [a] X.env=[(false,eval a X.env)]) zi):PI X tg (.Call (.Name "range" p) [a] [] b) (a48 d):=by
 intro m s U H R I h;refine Call_ (Ew I n o boot_range (jcw (cU (g b m s U H _ I h) ?_) hs M));rintro u x ⟨v,w,k,i,c⟩;obtain⟨j,e,c,l,q⟩:=c;subst e;cases i with
 |cons r f=>
  cases f;obtain⟨t,rfl⟩:=r;exact call_range_1 (QC k (by lia) (by lia) c l (by simpa using q))
def a6T (f:TI)(g:TG)(e:TS):TS:=λD U H=>f U H λJ c=>∃W:Nat->Nat->St->Hp->Prop,(∃m,W 0 m U c)/\∀i m U H,W i m U H->
 (J.stop i H/\D.nx U H)\/(J.go i H/\∃N:St->Hp->Prop,(∀U' H',N U' H'->∃a,a < m/\W (i+1) a U' H')/\∀x H',J.Ib i H x H'->g x U H' λb d=>e {D with nx:=N,ct:=N,bk:=D.nx } b d)
def zC (a:jcD)(h:Heap):jcy:=a.filterMap λb=>(h.get? b).map λo=>(b,o)
def mU {a:jcD}{h:Heap}{b:Addr}{o:Obj}(c:b∈a)(e:h.get? b=some o):(b,o)∈zC a h:=List.mem_filterMap.mpr ⟨b,c,by rw[e];rfl⟩
def NY {a:jcD}{h:Heap}{p:Addr×Obj}(c:p∈zC a h):p.1∈a/\h.get? p.1=some p.2:=by
 obtain⟨b,f,e⟩:=List.mem_filterMap.mp c;cases q:h.get? b with
 |none=>rw[q] at e;cases e
 |some o=>
  rw[q] at e;have d:(b,o)=p:=ja2 e;subst d;exact⟨f,q⟩
theorem Inv.pinned {a:jcy}{U:St}{H:Hp}{s:Shared}{c:jcD}(I:Inv X a U H s)(k:∀b∈c,ux X a H b)(l:∀b∈c,∃o,s.heap.get? b=some o/\∀v,o.data≠.cell v):Inv X (a++zC c s.heap) U H s:=
 I.yh λp j=>(jan.mp j).elim (λz=>I.pin p (ja4 _ z)) λz=>by
  obtain⟨g,e⟩:=NY z;obtain⟨h,m,i,_⟩:=k p.1 g;obtain⟨o,f,d⟩:=l p.1 g;rw[e] at f;cases f;exact⟨e,h,m,i,d⟩
def Inv.sJ {a pl:jcy}{U:St}{H:Hp}{s:Shared}(I:Inv X (a++pl) U H s):Inv X a U H s:=I.yh λp b=>I.pin p (ja4 _ (jbw _ b))
theorem a0r {a:Expr}{q:List Stmt}{wi:TI}{g:TG}{tb:TS}{Y:Pos}(G:PassesOwn (model X.prog X.w) X.A X.env X.xe)(hc:X.calm=true)(hi:PI X tg a wi)(hg:PG X tg g)(l:Fc X q tb)
  (hs:autoParam (∀x,foldedSetIterable a X.env x=pure x) kf):PS X (.For tg a q [] Y) (a6T wi g tb):=by
 intro y s U H D I h;refine wpAny_For (cU (hi y s U H _ I h) λv s1 h1=>cU h1 λitv s2 h2=>?_) hs;obtain⟨it,L,tn,J,H2,e,I2,T,V,f2,W,⟨m0,w0⟩,B⟩:=h2;subst e;have Q:∀{p:Hp},(∀b∈L,p b=none)->∀b∈L,ux X y p b:=λhn b l=>⟨hn b l,(f2 b l).2⟩
 refine codeAny_forLoop_any (λn Z=>∃i C p,Inv X y C p Z/\tn i Z.heap/\(∀b∈L,p b=none)/\W i n C p) ?_ m0 ⟨0,U,H2,I2,V,λb l=>(f2 b l).1,w0⟩;rintro n s3 ⟨i,σ3,M,I3,st3,K,w3⟩;rcases B i n σ3 M w3 with⟨E,qn⟩ | ⟨go,N,hN,step⟩
 .refine jbL G (cU (T.done X rfl rfl rfl hc i y s3 σ3 M X.xe I3 (Q K) st3 E) ?_);rintro r s4 ⟨R,I4⟩;subst R;exact wpAny_execs_nil ⟨σ3,M,I4,qn⟩
 .refine jbL G (cU (T.item X rfl rfl rfl hc i y s3 σ3 M X.xe I3 (Q K) st3 go) ?_);rintro r s4 ⟨u,R,h4⟩;subst R;refine jbL G (cU h4 ?_);rintro _ s5 ⟨x,H5,I5,r5,y5,z,S⟩;have P:=I5.pinned (Q S) (T.obj _ _ z);refine jbL G (cU (hg _ s5 σ3 H5 x u _ P r5 (step x H5 y5)) ?_);rintro _ s6 ⟨σ6,H6,I6,q6⟩;refine jbL G (cU (l _ s6 σ6 H6 _ I6 q6) λf O t=>?_);have j:∀{σ7:St}{k:Hp},Inv X (y++zC L s5.heap) σ7 k O->N σ7 k->∃m,m<n/\∃i C p,Inv X y C p O/\tn i O.heap/\(∀b∈L,p b=none)/\W i m C p:=λ{σ7 k} c F=>by
   obtain⟨m',hm,w7⟩:=hN σ7 k F;refine⟨m',hm,i+1,σ7,k,c.sJ,T.keep _ _ _ z λb l o e=>(c.pin (b,o) (ja4 _ (ja4 _ (mU l e)))).1,λb l=>?_,w7⟩;obtain⟨o,e,d⟩:=T.obj _ _ z b l;exact(c.pin (b,o) (ja4 _ (ja4 _ (mU l e)))).2.1
  cases f with
  |next=>obtain⟨σ7,k,c,F⟩:=t;exact j c F
  |cont=>obtain⟨σ7,k,c,F⟩:=t;exact j c F
  |brk=>obtain⟨σ7,k,c,t⟩:=t;exact⟨σ7,k,c.sJ,t⟩
  |ret v=>obtain⟨x7,σ7,k,c,r7,t⟩:=t;exact⟨x7,σ7,k,c.sJ,r7,t⟩
end
abbrev R2:=V->V->Hp->VK->Prop
def lA (X:Cx)(f:Value->Value->Sem Value)(r:R2):Prop:=
 ∀(vy:jcy) (s:Shared) (U:St) (H:Hp) (x y:V) (v u:Value) (Q:VK),Inv X vy U H s->RelV x v->RelV y u->r x y H Q->
  wpAny (model X.prog X.w) X.A (f v u) (EP X vy U Q) X.xe s
def UnR (X:Cx)(f:Value->Sem Value)(r:V->Hp->VK->Prop):Prop:=
 ∀(vy:jcy) (s:Shared) (U:St) (H:Hp) (x:V) (v:Value) (Q:VK),Inv X vy U H s->RelV x v->r x H Q->
  wpAny (model X.prog X.w) X.A (f v) (EP X vy U Q) X.xe s
def fL (X:Cx)(f:Value)(r:List V->Hp->VK->Prop):Prop:=
 ∀(vy:jcy) (s:Shared) (U:St) (H:Hp) (xs:List V) (us:jcC) (Q:VK),Inv X vy U H s->Vals xs us->r xs H Q->
  wpAny (model X.prog X.w) X.A (call f us) (EP X vy U Q) X.xe s
def tOp (r:R2)(d c:TE):TE:=λU H Q=>d U H λx a=>c U a λy b=>r x y b Q
def tUn (r:V->Hp->VK->Prop)(a:TE):TE:=λU H Q=>a U H λx b=>r x b Q
def rI (C:Int->Int->Prop)(g:Int->Int->V):R2:=λx y H Q=>∃i j,x=.int i/\y=.int j/\C i j/\Q (g i j) H
def X7 (g:Int->Int->V):R2:=λx y H Q=>∃i j,x=.int i/\y=.int j/\Q (g i j) H
def rU (g:Int->V):V->Hp->VK->Prop:=λx H Q=>∃i,x=.int i/\Q (g i) H
section
variable {X:Cx}{a b c:Expr}{ta tb tc:TE}{pos:Pos}
theorem a2p (g:PE X a ta)(m:PE X b tb){c:jcy}{s:Shared}{U:St}{H:Hp}{R:V->V->Hp->Prop}(I:Inv X c U H s)
  (h:ta U H λx H1=>tb U H1 λy H2=>R x y H2) {Q:jcz} {f:Value->Value->Sem Value}
  (d:∀v u s2 x y H2,Inv X c U H2 s2->RelV x v->RelV y u->R x y H2->wpAny (model X.prog X.w) X.A (f v u) Q X.xe s2) :
  wpAny (model X.prog X.w) X.A (eval a X.env) (λv s₁=>wpAny (model X.prog X.w) X.A (eval b X.env) (λu s₂=>wpAny (model X.prog X.w) X.A (f v u) Q X.xe s₂) X.xe s₁) X.xe s:=by
 refine cU (g c s U H _ I h) ?_;rintro v k ⟨x,H1,i,j,o⟩;refine cU (m c k U H1 _ i o) ?_;rintro u s2 ⟨y,H2,n,e,l⟩;exact d v u s2 x y H2 n j e l
def a4d {c:Operator}{r:R2}(i:lA X (binaryOp c) r)(e:PE X a ta)(g:PE X b tb):PE X (.BinOp a c b pos) (tOp r ta tb):=by
 intro k s U H Q I h;exact wpAny_BinOp (a2p e g I h λv u f x y d l j m q=>i k f U d x y v u Q l j m q)
def a4b {c:UnaryOp}{r:V->Hp->VK->Prop}(j:UnR X (unaryOp c) r)(f:PE X a ta):PE X (.UnaryOp c a pos) (tUn r ta):=by
 intro b s U H Q I h;exact UnaryOp_ (cU (f b s U H _ I h) (by rintro v i ⟨x,g,d,e,k⟩;exact j b i U g x v Q d e k))
theorem opI {f:Value->Value->Sem Value}{C:Int->Int->Prop}{g:Int->Int->Int}
  (a:∀(i j:Int)(t u:Tok)(s:Shared)(Q:jcz)(E:jcz),C i j->Q (.int (g i j) s.toks) {s with toks:=s.toks+1 }->wpAny (model X.prog X.w) X.A (f (.int i t) (.int j u)) Q E s) :
  lA X f (rI C λi j=>.int (g i j)):=by
 intro k s U H x y v u Q I d e h;obtain⟨i,j,rfl,rfl,b,q⟩:=h;obtain⟨t,rfl⟩:=d;obtain⟨c,rfl⟩:=e;exact a i j t c s _ _ b ⟨.int (g i j),H,I.tok _,⟨_,M⟩,q⟩
theorem a4o {f:Value->Value->Sem Value}{g:Int->Int->Int}
  (a:∀(i j:Int)(t u:Tok)(s:Shared)(Q:jcz)(E:jcz),Q (.int (g i j) s.toks) {s with toks:=s.toks+1 }->wpAny (model X.prog X.w) X.A (f (.int i t) (.int j u)) Q E s) :
  lA X f (X7 λi j=>.int (g i j)):=by
 intro e s U H x y v u Q I c d h;obtain⟨i,j,rfl,rfl,q⟩:=h;obtain⟨t,rfl⟩:=c;obtain⟨b,rfl⟩:=d;exact a i j t b s _ _ ⟨.int (g i j),H,I.tok _,⟨_,M⟩,q⟩
theorem a0W {f:Value->Value->Sem Value}{g:Int->Int->Bool}
  (a:∀(i j:Int)(t u:Tok)(s:Shared)(Q:jcz)(E:jcz),Q (.bool (g i j)) s->wpAny (model X.prog X.w) X.A (f (.int i t) (.int j u)) Q E s) :
  lA X f (X7 λi j=>.bl (g i j)):=by
 intro e s U H x y v u Q I c d h;obtain⟨i,j,rfl,rfl,q⟩:=h;obtain⟨t,rfl⟩:=c;obtain⟨b,rfl⟩:=d;exact a i j t b s _ _ ⟨.bl (g i j),H,I,M,q⟩
def a50 (i j:Int):Prop:=0<j/\j<1073741824
def XN (i j:Int):Prop:=(-(2 ^ 64)<i/\i<2 ^ 64)\/(-(2 ^ 64)<j/\j<2 ^ 64)
theorem XN.ok {i j:Int}(h:XN i j):IntMulOk i j:=by
 rcases h with⟨b,a⟩ | ⟨b,a⟩
 .exact .of_left (intBits_le_64 b a)
 .exact .of_right (intBits_le_64 b a)
def a0V:lA X (binaryOp .Add) (X7 λi j=>.int (i+j)):=a4o λ_ _ _ _ _ _ _ q=>add_int q
def a0P:lA X (binaryOp .Sub) (X7 λi j=>.int (i - j)):=a4o λ_ _ _ _ _ _ _ q=>sub_int q
def a0S:lA X (binaryOp .Mult) (rI XN λi j=>.int (i*j)):=opI λ_ _ _ _ _ _ _ a q=>mul_int q a.ok
theorem Wc:lA X (binaryOp .FloorDiv) (rI a50 λi j=>.int (i / j)):=opI λi j _ _ _ _ _ a q=>by
 have c:(0:Int)<j:=a.1;have b:j<1073741824:=a.2;exact floordiv_int (by lia) (by rw[Int.fdiv_eq_ediv_of_nonneg i (by lia)];exact q) (.inl (PyProof.noPylong_small (by lia)))
theorem a0T:lA X (binaryOp .Mod) (rI (λ_ j=>0<j) λi j=>.int (i % j)):=opI λi j _ _ _ _ _ a q=>by
 have b:(0:Int)<j:=a;exact mod_int' (by lia) (by rw[Int.fmod_eq_emod_of_nonneg i (by lia)];exact q)
theorem unI {f:Value->Sem Value}{g:Int->Int}
  (a:∀(i:Int)(t:Tok)(s:Shared)(Q:jcz)(E:jcz),Q (.int (g i) s.toks) {s with toks:=s.toks+1 }->wpAny (model X.prog X.w) X.A (f (.int i t)) Q E s) :
  UnR X f (rU λi=>.int (g i)):=by
 intro c s U H x v Q I b h;obtain⟨i,rfl,q⟩:=h;obtain⟨t,rfl⟩:=b;exact a i t s _ _ ⟨.int (g i),H,I.tok _,⟨_,M⟩,q⟩
def Za:UnR X (unaryOp .USub) (rU λi=>.int (-i)):=unI λ_ _ _ _ _ q=>neg_int q
end
noncomputable def ZP:V->V->Bool
 |.dD,.dD=>true | .dD,.int _=>true | .int _,.dD=>true | .dD,.bl _=>true | .bl _,.dD=>true | .dD,.str _=>true | .str _,.dD=>true
 |.int _,.int _=>true | .bl _,.bl _=>true | .str _,.str _=>true | .OO _,.OO _=>true
 |.int _,.str _=>true | .str _,.int _=>true | .bl _,.str _=>true | .str _,.bl _=>true
 |_,_=>false
def rEq:R2:=λx y H Q=>ZP x y=true/\Q (.bl (decide (x=y))) H
def rNe:R2:=λx y H Q=>ZP x y=true/\Q (.bl (!decide (x=y))) H
def Mz {i j:Int}:decide (V.int i=V.int j)=(i==j):=by
 rw[Bool.eq_iff_iff];simp
def Tg {i j:Bool}:decide (V.bl i=V.bl j)=(i==j):=by
 rw[Bool.eq_iff_iff];simp
def My {i j:Str}:decide (V.str i=V.str j)=(i==j):=by
 rw[Bool.eq_iff_iff];simp
def MA {i j:Array UInt8}:decide (V.OO i=V.OO j)=(i.toList==j.toList):=by
 rw[Bool.eq_iff_iff];cases i;cases j;simp
section
variable {X:Cx}{a b c:Expr}{ta tb tc:TE}{pos:Pos}
def bY {b:jcy}{U:St}{H:Hp}{s:Shared}{Q:VK}{k a:Bool}(I:Inv X b U H s)(q:Q (.bl k) H)(e:k=a):EP X b U Q (.bool a) s:=by
 subst e;exact⟨.bl k,H,I,M,q⟩
def a4n:lA X (compareOp .Eq) rEq:=by
 intro e s U H x y v u Q I d a h;obtain⟨c,q⟩:=h;cases x with
 |dD=>
  cases d;cases y with
  |dD=>cases a;exact PySem.EqNone.eq_none_none (bY I q (by simp))
  |bl j=>cases a;exact PySem.EqNone.eq_none_bool (bY I q (by simp))
  |int j=>obtain⟨b,rfl⟩:=a;exact PySem.EqNone.eq_none_int (bY I q (by simp))
  |str j=>obtain⟨b,rfl⟩:=a;exact PySem.EqNone.eq_none_str (bY I q (by simp))
  |_=>exact absurd (show false=true from c) jaA
 |bl i=>
  cases d;cases y with
  |dD=>cases a;exact PySem.EqNone.eq_bool_none (bY I q (by simp))
  |bl j=>cases a;exact eq_bool (bY I q Tg)
  |str j=>obtain⟨b,rfl⟩:=a;exact PySem.EqMixed.eq_bool_str (bY I q (by simp))
  |_=>exact absurd (show false=true from c) jaA
 |int i=>
  obtain⟨t,rfl⟩:=d;cases y with
  |dD=>cases a;exact PySem.EqNone.eq_int_none (bY I q (by simp))
  |int j=>obtain⟨b,rfl⟩:=a;exact eq_int (bY I q Mz)
  |str j=>obtain⟨b,rfl⟩:=a;exact PySem.EqMixed.eq_int_str (bY I q (by simp))
  |_=>exact absurd (show false=true from c) jaA
 |str i=>
  obtain⟨t,rfl⟩:=d;cases y with
  |dD=>cases a;exact PySem.EqNone.eq_str_none (bY I q (by simp))
  |bl j=>cases a;exact PySem.EqMixed.eq_str_bool (bY I q (by simp))
  |int j=>obtain⟨b,rfl⟩:=a;exact PySem.EqMixed.eq_str_int (bY I q (by simp))
  |str j=>obtain⟨b,rfl⟩:=a;exact eq_str (bY I q My)
  |_=>exact absurd (show false=true from c) jaA
 |OO i=>
  obtain⟨t,rfl⟩:=d;cases y with
  |OO j=>obtain⟨b,rfl⟩:=a;exact PySem.W.eq_bytes (bY I q MA)
  |_=>exact absurd (show false=true from c) jaA
 |_=>cases y<;>exact absurd (show false=true from c) jaA
def a4j:lA X (compareOp .NotEq) rNe:=by
 intro e s U H x y v u Q I d a h;obtain⟨c,q⟩:=h;cases x with
 |dD=>
  cases d;cases y with
  |dD=>cases a;exact PySem.EqNone.ne_none_none (bY I q (by simp))
  |bl j=>cases a;exact PySem.EqNone.ne_none_bool (bY I q (by simp))
  |int j=>obtain⟨b,rfl⟩:=a;exact PySem.EqNone.ne_none_int (bY I q (by simp))
  |str j=>obtain⟨b,rfl⟩:=a;exact PySem.EqNone.ne_none_str (bY I q (by simp))
  |_=>exact absurd (show false=true from c) jaA
 |bl i=>
  cases d;cases y with
  |dD=>cases a;exact PySem.EqNone.ne_bool_none (bY I q (by simp))
  |bl j=>cases a;exact ne_bool (bY I q (jac not Tg))
  |str j=>obtain⟨b,rfl⟩:=a;exact PySem.EqMixed.ne_bool_str (bY I q (by simp))
  |_=>exact absurd (show false=true from c) jaA
 |int i=>
  obtain⟨t,rfl⟩:=d;cases y with
  |dD=>cases a;exact PySem.EqNone.ne_int_none (bY I q (by simp))
  |int j=>obtain⟨b,rfl⟩:=a;exact ne_int (bY I q (jac not Mz))
  |str j=>obtain⟨b,rfl⟩:=a;exact PySem.EqMixed.ne_int_str (bY I q (by simp))
  |_=>exact absurd (show false=true from c) jaA
 |str i=>
  obtain⟨t,rfl⟩:=d;cases y with
  |dD=>cases a;exact PySem.EqNone.ne_str_none (bY I q (by simp))
  |bl j=>cases a;exact PySem.EqMixed.ne_str_bool (bY I q (by simp))
  |int j=>obtain⟨b,rfl⟩:=a;exact PySem.EqMixed.ne_str_int (bY I q (by simp))
  |str j=>obtain⟨b,rfl⟩:=a;exact ne_str (bY I q (jac not My))
  |_=>exact absurd (show false=true from c) jaA
 |OO i=>
  obtain⟨t,rfl⟩:=d;cases y with
  |OO j=>obtain⟨b,rfl⟩:=a;exact PySem.W.ne_bytes (bY I q (jac not MA))
  |_=>exact absurd (show false=true from c) jaA
 |_=>cases y<;>exact absurd (show false=true from c) jaA
def a4k:lA X (compareOp .Lt) (X7 λi j=>.bl (decide (i<j))):=a0W λ_ _ _ _ _ _ _ q=>lt_int q
def a4l:lA X (compareOp .LtE) (X7 λi j=>.bl (decide (i<=j))):=a0W λ_ _ _ _ _ _ _ q=>le_int q
def a4m:lA X (compareOp .Gt) (X7 λi j=>.bl (decide (j<i))):=a0W λ_ _ _ _ _ _ _ q=>gt_int q
def Wb:lA X (compareOp .IsNot) (λx y H Q=>y=.dD/\Q (.bl (!decide (x=.dD))) H):=by
 intro c s U H x y v u Q I a b h;obtain⟨rfl,q⟩:=h;cases b;refine isnot_none_gen (bY I q ?_);cases x<;>first
  |(cases a;rfl)
  |(obtain⟨t,rfl⟩:=a;rfl)
  |(obtain⟨t,_,rfl⟩:=a;rfl)
def lA.or {f:Value->Value->Sem Value}{r a:R2}(h:lA X f r)(h':lA X f a):lA X f (λx y H Q=>r x y H Q\/a x y H Q):=by
 intro c s U H x y v u Q I b d q;rcases q with q | q
 .exact h c s U H x y v u Q I b d q
 .exact h' c s U H x y v u Q I b d q
def au (b:Expr){a:CmpOp}(h:autoParam (a≠.In) zn)(c:autoParam (a≠.NotIn) zn):behindInMarks a b=false:=by
 have e:(a==CmpOp.In)=false:=by cases a<;>first | rfl | exact absurd rfl h
 have d:(a==CmpOp.NotIn)=false:=by cases a<;>first | rfl | exact absurd rfl c
 cases b<;>simp[behindInMarks,e,d]
def V7 {c:CmpOp}{r:R2}(i:lA X (compareOp c) r)(e:PE X a ta)(g:PE X b tb)(m:behindInMarks c b=false):PE X (.Compare a [c] [b] pos) (tOp r ta tb):=by
 intro k s U H Q I h;exact wpAny_Compare1 (a2p e g I h λv u f x y d l j n q=>i k f U d x y v u Q l j n q) m
def Pb (t:TE):TT:=λU H Q=>t U H λx a=>∃k,x=.bl k/\Q k a
def VQ {d:CmpOp}{r:R2}(D:lA X (compareOp d) r)(l:PE X a ta)(C:PE X b tb)(G:behindInMarks d b=false):PT X (.Compare a [d] [b] pos) (Pb (tOp r ta tb)):=by
 intro f s U H Q I h;refine wpAny_isTrue_Compare1 (cU (l f s U H _ I h) ?_) G;rintro v B ⟨x,t,o,q,F⟩;refine cU (C f B U t _ o F) ?_;rintro u n ⟨y,j,E,i,w⟩;refine cU (D f n U j x y v u _ E q i w) ?_;rintro c J ⟨z,g,p,m,k,e,A⟩;subst e;cases m;exact jbs ⟨g,p,A⟩
def Il (r g:R2)(f e h:TE):TE:=λU H Q=>f U H λx c=>e U c λy d=>r x y d λz a=>∃k,z=.bl k/\
 (if k=true then h U a λi b=>g y i b Q else Q (.bl false) a)
theorem Ri {i f:CmpOp}{r p:R2}(W:lA X (compareOp i) r)(j:lA X (compareOp f) p)(B:PE X a ta)(V:PE X b tb)(N:PE X c tc)
  (Z:autoParam (lastMarks [i,f] [b,c]=false) kn):PE X (.Compare a [i,f] [b,c] pos) (Il r p ta tb tc):=by
 intro g s U H Q I h;refine Compare_chain (cU (B g s U H _ I h) ?_) Z;rintro v T ⟨x,E,C,S,L⟩;refine chain_link (cU (V g T U E _ C L) ?_);rintro u R ⟨y,A,J,n,F⟩;refine cU (W g R U A x y v u _ J S n F) ?_;rintro d D ⟨z,m,l,P,k,e,o⟩;subst e;cases P;refine jbs ?_;cases k with
 |false=>exact ite_ff ⟨.bl false,m,l,M,o⟩
 |true=>exact ite_tt (chain_last (cU (N g D U m _ l o) (by rintro Y O ⟨K,q,G,t,w⟩;exact j g O U q y K u Y Q G n t w)))
theorem Q2 {i f:CmpOp}{r p:R2}(ho:lA X (compareOp i) r)(j:lA X (compareOp f) p)(C:PE X a ta)(hb:PE X b tb)(S:PE X c tc)
  (hm:autoParam (lastMarks [i,f] [b,c]=false) kn):PT X (.Compare a [i,f] [b,c] pos) (Pb (Il r p ta tb tc)):=by
 intro g s U H Q I h;refine isTrue_chain (cU (C g s U H _ I h) ?_) hm;rintro v s1 ⟨x,J,F,Z,P⟩;refine test_link (cU (hb g s1 U J _ F P) ?_);rintro u Y ⟨y,A,N,n,K⟩;refine cU (ho g Y U A x y v u _ N Z n K) ?_;rintro d G ⟨z,m,l,W,k,e,o⟩;subst e;cases W;refine jbs ?_;cases k with
 |false=>
  obtain⟨k',e',T⟩:=o;cases e';exact ite_ff ⟨m,l,T⟩
 |true=>
  refine ite_tt (test_last (cU (S g G U m _ l o) ?_));rintro w' V ⟨O,q,M,t,w⟩;refine cU (j g V U q y O u w' _ M n t w) ?_;rintro d' s5 ⟨z2,L,E,R,k2,B,D⟩;subst B;cases R;exact jbs ⟨L,E,D⟩
def rH:(sizeLine:Nat)<2 ^ 63:=by rw[ja3];decide
def Jw:lA X (binaryOp .Add) (λx y H Q=>∃i j,x=.str i/\y=.str j/\i.length+j.length<=sizeLine/\Q (.str (i++j)) H):=by
 intro e s U H x y v u Q I c d h;obtain⟨i,j,rfl,rfl,a,q⟩:=h;obtain⟨t,rfl⟩:=c;obtain⟨b,rfl⟩:=d;exact add_str (λb tk=>⟨.str (i++j),H,I.tok _,⟨_,M⟩,q⟩) a
def vals1 {x:V}{us:jcC}(r:Vals [x] us):∃u,us=[u]/\RelV x u:=by
 cases r with
 |cons a b=>cases b;exact⟨_,M,a⟩
def vals2 {x y:V}{us:jcC}(r:Vals [x,y] us):∃u w',us=[u,w']/\RelV x u/\RelV y w':=by
 cases r with
 |cons a d=>
  cases d with
  |cons c b=>cases b;exact⟨_,_,M,a,c⟩
def TR:fL X (.builtin "abs") (λxs H Q=>∃i,xs=[.int i]/\Q (.int (if i<0 then -i else i)) H):=by
 intro b s U H xs a Q I r h;obtain⟨i,rfl,q⟩:=h;obtain⟨u,rfl,t,rfl⟩:=vals1 r;exact call_abs_int λu tk=>⟨.int (if i<0 then -i else i),H,I.tok _,⟨_,M⟩,q⟩
def OB:fL X (.type "int") (λxs H Q=>(∃i,xs=[.int i]/\Q (.int i) H)\/∃k,xs=[.bl k]/\Q (.int (if k then 1 else 0)) H):=by
 intro a s U H xs b Q I r h;rcases h with⟨i,rfl,q⟩ | ⟨k,rfl,q⟩
 .obtain⟨u,rfl,t,rfl⟩:=vals1 r;exact call_int_int ⟨.int i,H,I,⟨_,M⟩,q⟩
 .obtain⟨u,rfl,r1⟩:=vals1 r;cases r1;exact call_int_bool ⟨.int (if k then 1 else 0),H,I.tok _,⟨_,M⟩,q⟩
def EU:fL X (.type "str") (λxs H Q=>∃i,xs=[.int i]/\i.natAbs.log2<1920/\Q (.str (toString i)) H):=by
 intro c s U H xs b Q I r h;obtain⟨i,rfl,a,q⟩:=h;obtain⟨u,rfl,t,rfl⟩:=vals1 r;exact PySem.P.str_of_int a ⟨.str _,H,I.tok _,⟨_,M⟩,q⟩
end
structure Ky (h:Heap)(x dx C:Addr)(mA:Str->Option Value):Prop where
 obj:h.get? x=some (instObj C dx)
 ns:h.Ns1 dx mA
 ne:dx≠x
def N6 {h:Heap}{c:Addr}{mA:Str->jcG}(n:h.Ns1 c mA):∃od,h.get? c=some od/\∀name,lookIn name od=some (mA name):=by
 obtain⟨o,d,l,i,f,hk,_,k⟩:=n;refine⟨o,i,λname=>?_⟩;have e:=k name;unfold nsFind findBy at e;rw[<- Array.find?_toList] at e;unfold lookIn;rw[f];dsimp only;split
 .rename_i y q;rw[q] at e;exact jac some e
 .rename_i q;rw[q] at e;have a:d.toList.any (·.refKey)=false:=by
   rw[List.any_eq_false];intro y g;obtain⟨z,t,b⟩:=hk y (Array.mem_toList_iff.mp g);simp[DictEntry.refKey,b]
  have j:¬ d.toList.any (·.refKey)=true:=by rw[a];exact jaA
  rw[jaa j];exact jac some e
theorem Ky.look {h:Heap}{x a C:Addr}{mA:Str->jcG}(I:Ky h x a C mA):∃od,PySem.W.InstAt h x (instObj C a) C (some od)/\∀name,lookIn name od=some (mA name):=
 let⟨od,ho,hl⟩:=N6 I.ns
 ⟨od,⟨I.obj,M,M,ho⟩,hl⟩
section
variable {prog:Program}{w:World}{A:Around}{E:jcz}{s:Shared}{K:Frag}{x dx C f:Addr}{mA:Str->jcG}{name:Str}{v:Value}
theorem get_map {a:Bool}{Q:jcz}(X:K.In s.heap)(I:Ky s.heap x dx C mA)(d:plainGet K C name=true)(c:hasDictIn K C=true)
  (f:findIn K (.ref C) name=some none) (e:mA name=some v) (b:handedIn v=true) (h:Q v {s with toks:=s.toks+1 }) :
  wpAny (model prog w) A (getAttr (.ref x) name a) Q E s:=by
 obtain⟨i,J,g⟩:=I.look;exact PySem.W.get_value X J (plainGet_of d).1 (PySem.W.findObj_own c f rfl (by rw[g,e])) b h
theorem SI {pl:Sem Bool}{Q:Value×jcC->Shared->Prop}(X:K.In s.heap)(I:Ky s.heap x dx C mA)(a:plainGet K C name=true)
  (b:findIn K (.ref C) name=some (some (.ref f))) (d:isFn K (.ref f)=true) (e:mA name=none) (h:Q (.ref f,[.ref x]) s) :
  wpAny (model prog w) A (getMethod (.ref x) name pl) Q E s:=by
 obtain⟨c,J,g⟩:=I.look;exact PySem.W.method_fn X J (plainGet_of a).1 (plainGet_of a).2 b (ja6.mp d) (by show(lookIn name c).map (·.isSome)=some false;rw[g,e];rfl) h
theorem Ve {j:jcB}{Q:Unit->Shared->Prop}(X:K.In s.heap)(I:Ky s.heap x dx C mA)
  (hs:findIn K (.ref C) "__setattr__"=some (some (.builtin "object.__setattr__"))) (o:plainOver K C=true) (q:takerIn K C name=some none) (l:hasDictIn K C=true)
  (n:PySem.Within mA j) (hsz:j.length<=sizeLine)
  (h:∀h',Ky h' x dx C (λy=>if y=name then some v else mA y)->Heap.SameBut dx s.heap h'->Q () {s with heap:=h',toks:=s.toks+2 }) :
  wpAny (model prog w) A (setAttr (.ref x) name v) Q E s:=by
 obtain⟨z,J,B⟩:=I.look;refine PySem.W.set_plain X J hs (PySem.W.osa_open (s:={s with toks:=s.toks+1 }) (r:=none) X J o q λb=>?_);obtain⟨cd,k,e⟩:=PySem.W.any_some l;have m:s.heap.get? x=some ⟨.ref C,some dx,.plain,#[]⟩:=I.obj;refine jat (jaC (jat (jat (wpAny_loadPart m (jat (PySem.W.Looks.here (s:={s with toks:=s.toks+1 }) (PySem.W.looks_clsIn X k) ?_))))));rw[e];refine jaC (a:=some dx) (jat (jaC (jat ?_)));refine wpAny_nsSet1 (s:={s with toks:=s.toks+1 }) I.ns λh' c d=>?_;obtain⟨u,t,p,g,i,f⟩:=c.count (PySem.Within.cons name v n);refine jat (wpAny_lookBehind g (by rw[i];exact pastItsLine_dict (jay f (by rw[jam];lia))) ?_);exact jaC (h _ ⟨(d.2 _ (ja7 I.ne)).trans I.obj,c,I.ne⟩ d)
theorem RV {R:Result->Shared->Prop}{vs:jcC}{kw:List (Str×Value)}(X:K.In s.heap)(c:makesIn K C=true)
  (b:findIn K (.ref C) "__init__"=some (some (.ref f))) (a:PySem.W.typeIn K (.ref f)=some (.type "function"))
  (h:codeAny (model prog w) (A.under (.builtin "type.__call__" ⟨.ref C::vs,kw⟩)) (.call (.ref f) ⟨.ref (s.heap.objs.size+1)::vs,kw⟩) (PySem.W.InitBack (s.heap.objs.size+1) R)
   {s with heap:=(s.heap.push emptyDict).push (instObj C s.heap.objs.size) }) :
  codeAny (model prog w) A (.call (.ref C) ⟨vs,kw⟩) R s:=by
 obtain⟨i,g,d,t,e⟩:=s;exact PySem.W.make_core (PySem.W.makes_of X c) (PySem.W.looks_findIn X b) (λself=>PySem.W.bind_fn X self a) (.inl M) h
end
def nJ (f:Str)(v:V):List (Str×V)->List (Str×V)
 |[]=>[(f,v)]
 |(g,x)::r=>if g=f then(g,v)::r else(g,x)::nJ f v r
theorem wF (f g:Str)(v:V):∀fs:List (Str×V),(nJ f v fs).lookup g=if g=f then some v else fs.lookup g
 |[]=>by
  show List.lookup g [(f,v)]=_;by_cases h:g=f
  .have hb:(g==f)=true:=ja6.mpr h;simp only[List.lookup,hb,jab h]
  .have hb:(g==f)=false:=jb5.mpr h;simp only[List.lookup,hb,jaa h]
 |(k,x)::r=>by
  have a:=wF f g v r;rw[show nJ f v ((k,x)::r)=(if k=f then(k,v)::r else(k,x)::nJ f v r) from rfl];by_cases hk:k=f
  .rw[jab hk];by_cases h:g=k
   .have hb:(g==k)=true:=ja6.mpr h;simp only[List.lookup,hb,jab (h.trans hk)]
   .have hb:(g==k)=false:=jb5.mpr h;simp only[List.lookup,hb,jaa (λe:g=f=>h (e.trans hk.symm))]
  .rw[jaa hk];by_cases h:g=k
   .have hb:(g==k)=true:=ja6.mpr h;simp only[List.lookup,hb,jaa (λe:g=f=>hk (h.symm.trans e))]
   .have hb:(g==k)=false:=jb5.mpr h;simp only[List.lookup,hb];exact a
theorem vC (f:Str)(v:V):∀fs:List (Str×V),f∈(nJ f v fs).map (·.1)/\∀g,g∈fs.map (·.1)->g∈(nJ f v fs).map (·.1)
 |[]=>⟨by simp[nJ],λg h=>by simp at h⟩
 |(k,x)::r=>by
  obtain⟨a,b⟩:=vC f v r;rw[show nJ f v ((k,x)::r)=(if k=f then(k,v)::r else(k,x)::nJ f v r) from rfl];by_cases hk:k=f
  .rw[jab hk];subst hk;exact⟨by simp,λg h=>by simpa using h⟩
  .rw[jaa hk];refine⟨?_,λg h=>?_⟩
   .rw[jaf];exact jaj _ a
   .rw[jaf] at h ⊢;rcases jae.mp h with e | e
    .exact jae.mpr (.inl e)
    .exact jaj _ (b g e)
theorem wG (f:Str)(v:V):∀fs:List (Str×V),(nJ f v fs).length<=fs.length+1
 |[]=>by simp[nJ]
 |(k,x)::r=>by
  have a:=wG f v r;rw[show nJ f v ((k,x)::r)=(if k=f then(k,v)::r else(k,x)::nJ f v r) from rfl];by_cases hk:k=f
  .rw[jab hk,jam,jam];lia
  .rw[jaa hk,jam,jam];lia
def nN.some_of {v:V}{o:jcG}(r:nN (some v) o):∃u,o=some u/\RelV v u:=by
 cases o with
 |none=>exact(show False from r).elim
 |some u=>exact⟨u,M,r⟩
def nN.none_of {o:jcG}(r:nN none o):o=none:=by
 cases o with
 |none=>rfl
 |some u=>exact(show False from r).elim
def Oq {v:V}{u:Value}(r:RelV v u):handedIn u=true:=by
 cases v with
 |dD=>cases(show u=Value.none from r);rfl
 |bl b=>cases(show u=Value.bool b from r);rfl
 |int i=>obtain⟨t,e⟩:=(show ∃t,u=Value.int i t from r);cases e;rfl
 |str x=>obtain⟨t,e⟩:=(show ∃t,u=Value.str x t from r);cases e;rfl
 |OO b=>obtain⟨t,e⟩:=(show ∃t,u=Value.bytes b t from r);cases e;rfl
 |sn x=>obtain⟨t,_,e⟩:=(show ∃t,t≠0/\u=Value.str x t from r);cases e;rfl
 |ref a=>cases(show u=Value.ref a from r);rfl
 |ty n=>cases(show u=Value.type n from r);rfl
section
variable {P:Program}{w:World}{H H':Hp}{h h':Heap}{a C dx:Addr}{fs fs':List (Str×V)}
def yl (b:sy P w H h)(e:H a=some (.ins C dx fs)):∃mA,Ky h a dx C mA/\(∀f,nN (fs.lookup f) (mA f))/\PySem.Within mA (fs.map (·.1))/\fs.length<=1000/\H dx=some (.own a):=by
 obtain⟨d,z,g,c,mA,n,r,q⟩:=(show dG P w H h a (.ins C dx fs) from b a _ e)
 exact⟨mA,⟨c,n,g⟩,r,q,z,d⟩
end
structure XM (K:Frag)(C:Addr):Prop where
 pg:plainGet K C Str.empty=true
 hd:hasDictIn K C=true
 po:plainOver K C=true
 sa:findIn K (.ref C) "__setattr__"=some (some (.builtin "object.__setattr__"))
def XM.get {K:Frag}{C:Addr}(c:XM K C)(f:Str):plainGet K C f=true:=c.pg
def lB (K:Frag)(C:Addr)(f:Str):Prop:=findIn K (.ref C) f=some none
def lB.a3f {K:Frag}{C:Addr}{f:Str}(n:lB K C f):takerIn K C f=some none:=by
 unfold takerIn;rw[show findIn K (.ref C) f=some none from n];rfl
structure Meth (K:Frag)(C:Addr)(m:Str)(f:Addr):Prop where
 at_:findIn K (.ref C) m=some (some (.ref f))
 fn:isFn K (.ref f)=true
 kp:keepIn K (.ref f)=true
section
variable {X:Cx}{vy:jcy}{U:St}{H:Hp}{s:Shared}{a C dx:Addr}{fs:List (Str×V)}{f:Str}{v:V}{A:Around}{E:jcz}
theorem JU {b:Bool}{Q:jcz}(I:Inv X vy U H s)(e:H a=some (.ins C dx fs))(c:XM X.K C)(n:lB X.K C f)(l:fs.lookup f=some v)
  (h:∀u s',Inv X vy U H s'->RelV v u->Q u s'):wpAny (model X.prog X.w) A (getAttr (.ref a) f b) Q E s:=by
 obtain⟨mA,O,r,_,_,_⟩:=yl I.hok e;obtain⟨u,g,d⟩:=nN.some_of (v:=v) (o:=mA f) (by rw[<- l];exact r f);exact get_map I.uN O (c.get f) c.hd n g (Oq d) (h u _ (I.tok _) d)
theorem An {m:Str}{g:Addr}{pl:Sem Bool}{Q:Value×jcC->Shared->Prop}(I:Inv X vy U H s)(e:H a=some (.ins C dx fs))(c:XM X.K C)(k:Meth X.K C m g)(l:fs.lookup m=none)
  (h:Q (.ref g,[.ref a]) s):wpAny (model X.prog X.w) A (getMethod (.ref a) m pl) Q E s:=by
 obtain⟨mA,O,r,_,_,_⟩:=yl I.hok e;have b:mA m=none:=nN.none_of (by rw[<- l];exact r m);exact SI I.uN O (c.get m) k.at_ k.fn b h
theorem IF {y:V}{u:Value}{Q:Unit->Shared->Prop}(I:Inv X vy U H s)(e:H a=some (.ins C dx fs))(c:XM X.K C)(n:lB X.K C f)(D:fs.length<1000)(t:RelV y u)
  (h:∀s',Inv X vy U (upd H a (.ins C dx (nJ f y fs))) s'->Q () s'):wpAny (model X.prog X.w) A (setAttr (.ref a) f u) Q E s:=by
 obtain⟨mA,O,r,j,_,i⟩:=yl I.hok e;have k:(fs.map (·.1)).length<=sizeLine:=by rw[jad,ja3];lia
 refine Ve I.uN O c.sa c.po n.a3f c.hd j k λB d l=>h _ ?_;have m:∃o,B.get? dx=some o:=let⟨o,_,_,e',_⟩:=d.ns;⟨o,e'⟩;refine I.write (x:=a) (e:=dx) (by rw[e];exact True.intro) (.inr i) (λb q p z=>(l.2 b p).trans z) m ?_;refine⟨by rw[aU O.ne];exact i,?_,O.ne,d.obj,_,d.ns,λg=>?_,λg v=>?_⟩
 .have:=wG f y fs;lia
 .show nN ((nJ f y fs).lookup g) (if g=f then some u else mA g);rw[wF];by_cases q:g=f
  .rw[jab q,jab q];exact t
  .rw[jaa q,jaa q];exact r g
 .by_cases q:g=f
  .rw[q];exact(vC f y fs).1
  .refine(vC f y fs).2 g (j g λz=>v ?_);show(if g=f then some u else mA g)=none;rw[jaa q];exact z
theorem Inv.made (I:Inv X vy U H s):Inv X vy U (upd (upd H s.heap.objs.size (.own (s.heap.objs.size+1))) (s.heap.objs.size+1) (.ins C s.heap.objs.size []))
  {s with heap:=(s.heap.push emptyDict).push (instObj C s.heap.objs.size) }:=by
 have c:(s.heap.push emptyDict).get? s.heap.objs.size=some emptyDict:=jaV s.heap rfl;have h:((s.heap.push emptyDict).push (instObj C s.heap.objs.size)).get? (s.heap.objs.size+1)=some (instObj C s.heap.objs.size):=by
  have:=jaV (s.heap.push emptyDict) (o:=instObj C s.heap.objs.size) rfl;rwa[Heap.size_push] at this
 have j:(s.heap.push emptyDict).Ns s.heap.objs.size (λ_=>none):=⟨emptyDict,#[],_,c,M,(λe i=>absurd i (by simp)),λ_=>rfl⟩
 have f:=I.laid (a:=s.heap.objs.size) (o:=.own (s.heap.objs.size+1)) (h':=s.heap.push emptyDict) (t':=s.toks) (λb u q=>jaI _ q) (jaq _) ⟨_,c⟩;refine f.laid (a:=s.heap.objs.size+1) (o:=.ins C s.heap.objs.size []) (t':=s.toks) (λb u q=>jaI _ q) (Nat.le_of_eq (Heap.size_push _ _)) ?_;have d:s.heap.objs.size≠s.heap.objs.size+1:=jaW (jcd _);refine⟨by rw[aU d,f9],jaN _,d,h,λ_=>none,(Heap.Ns1.of_empty j).at λo q=>jaI _ q,λ_=>True.intro,λy g=>absurd rfl g⟩
theorem Xs {prog:Program}{w:World}{a:Env}{e:Expr}{f:Str}{b:Pos}{s:Shared}{Q:jcz}(c:attributeBase e f a (eval e a)=eval e a)
  (h:wpAny (model prog w) A (eval e a) (λo s₁=>wpAny (model prog w) A (getAttr o f true) Q E s₁) E s):wpAny (model prog w) A (eval (.Attribute e f b) a) Q E s:=
 Attribute_any_ h (by rw[arm_eval_Attribute,c])
end
def a6U (K:Frag)(d:TE)(f:Str):TE:=λU H Q=>d U H λx b=>∃a C c fs v,x=.ref a/\b a=some (.ins C c fs)/\XM K C/\lB K C f/\fs.lookup f=some v/\Q v b
def a69 (K:Frag)(g d:TE)(f:Str):TS:=λD U H=>d U H λy e=>g U e λx b=>∃a C c fs,x=.ref a/\b a=some (.ins C c fs)/\XM K C/\lB K C f/\fs.length<1000/\
 D.nx U (upd b a (.ins C c (nJ f y fs)))
section
variable {X:Cx}{o e value:Expr}{f:Str}{pos pos' tpos:Pos}{ta tv:TE}
def a0I (r:PE X e ta)(k:attributeBase e f X.env (eval e X.env)=eval e X.env):PE X (.Attribute e f pos) (a6U X.K ta f):=by
 intro o s U H Q I h;refine Xs k (cU (r o s U H _ I h) ?_);rintro u y ⟨x,j,i,m,a,C,t,fs,v,g,b,c,n,l,q⟩;subst g;obtain rfl:u=Value.ref a:=m;exact JU i b c n l λz w p d=>⟨v,j,p,d,q⟩
def a0s (e:PE X o ta)(t:PE X value tv)(hs:swapsWith value (some (.Attribute o f pos')) pos.line X.env=pure false):PS X (.Assign [.Attribute o f pos'] value pos) (a69 X.K ta tv f):=by
 intro b s U H D I h;refine plainObj_wpAny_Assign_Attribute (cU (t b s U H _ I h) ?_) hs;rintro u v ⟨y,j,g,z,q⟩;refine cU (e b v U j _ g q) ?_;rintro p F ⟨x,A,m,w,a,C,B,fs,r,d,c,n,l,k⟩;subst r;obtain rfl:p=Value.ref a:=w;exact IF m d c n l z λE i=>⟨U,_,i,k⟩
end
section
variable {X:Cx}{vy:jcy}{U:St}{H:Hp}{s:Shared}{A:Around}{E:jcz}{Q:jcz}{c:Value}{b:Bool}
inductive vP (K:Frag) (H:Hp):V->Value->Prop where
 |dD:vP K H .dD (.type "NoneType")
 |bl (x:Bool):vP K H (.bl x) (.type "bool")
 |int (i:Int):vP K H (.int i) (.type "int")
 |str (x:Str):vP K H (.str x) (.type "str")
 |lst {a:Addr} {xs:List V} (e:H a=some (.lst xs)):vP K H (.ref a) (.type "list")
 |vE {a:Addr} {o:Obj} {xs:List V} (e:H a=some (.vE o (.lst xs))):vP K H (.ref a) (.type "list")
 |tup {a:Addr} {xs:List V} (e:H a=some (.tup xs)):vP K H (.ref a) (.type "tuple")
 |dK {a:Addr} {kvs:List (Key×V)} (e:H a=some (.dK kvs)):vP K H (.ref a) (.type "dict")
 |dT {a:Addr} {kvs:List (List Key×V)} (e:H a=some (.dT kvs)):vP K H (.ref a) (.type "dict")
 |ins {a C dx:Addr} {fs:List (Str×V)} (e:H a=some (.ins C dx fs)) (cl:XM K C) (ha:findIn K (.ref C) "__class__"=some (some (.builtin "object.__class__")))
   (hn:specialIn K (.builtin "object.__class__") "__get__"=some (some (.builtin "getset_descriptor.__get__"))) (htk:takesIn K (.builtin "object.__class__")=some true)
   (hm:mroIn K C (.type "object")=some true):vP K H (.ref a) (.ref C)
theorem Oh {x:V}{u t:Value}(I:Inv X vy U H s)(f:RelV x u)(G:vP X.K H x t)(e:kitOne X.K t c=some b)(h:∀tk,Q (.bool b) {s with toks:=tk }) :
  wpAny (model X.prog X.w) A (call (.builtin "isinstance") [u,c]) Q E s:=by
 cases G with
 |dD=>cases(show u=Value.none from f);exact jbm PySem.W.kitx_none I.uN True.intro e (λz=>nomatch z) h
 |bl y=>cases(show u=Value.bool y from f);exact jbm PySem.W.kitx_bool I.uN True.intro e (λz=>nomatch z) h
 |int i=>obtain⟨t,q⟩:=(show ∃t,u=Value.int i t from f);cases q;exact jbm PySem.W.kitx_int I.uN True.intro e (λz=>nomatch z) h
 |str y=>obtain⟨t,q⟩:=(show ∃t,u=Value.str y t from f);cases q;exact jbm PySem.W.kitx_str I.uN True.intro e (λz=>nomatch z) h
 | @lst a k d=>
  cases(show u=Value.ref a from f);obtain⟨_,_,n,_,g⟩:=(show dG X.prog X.w H s.heap a (.lst k) from I.hok a _ d)
  exact jbm kitx_list I.uN ⟨_,g,M⟩ e (λz=>nomatch z) h
 | @vE a D k d=>
  cases(show u=Value.ref a from f);obtain⟨_,_,_,n,_,g⟩:=(show dG X.prog X.w H s.heap a (.vE D (.lst k)) from I.hok a _ d)
  exact jbm kitx_list I.uN ⟨_,g,M⟩ e (λz=>nomatch z) h
 | @tup a k d=>
  cases(show u=Value.ref a from f);obtain⟨_,_,_,p⟩:=(show dG X.prog X.w H s.heap a (.tup k) from I.hok a _ d)
  obtain⟨o,g,l,_⟩:=p;exact jbm PySem.W.kitx_tuple I.uN ⟨o,g,l⟩ e (λz=>nomatch z) h
 | @dK a j d=>
  cases(show u=Value.ref a from f);obtain⟨_,_,P,_,p⟩:=(show dG X.prog X.w H s.heap a (.dK j) from I.hok a _ d)
  obtain⟨o,r,B,g,l,_⟩:=p;exact jbm kitx_dict I.uN ⟨o,g,l.1⟩ e (λz=>nomatch z) h
 | @dT a j d=>
  cases(show u=Value.ref a from f);obtain⟨_,_,k,_,o,r,B,g,l,_⟩:=(show dG X.prog X.w H s.heap a (.dT j) from I.hok a _ d)
  exact jbm kitx_dict I.uN ⟨o,g,l.1⟩ e (λz=>nomatch z) h
 | @ins a C N fs d cl v F m L=>
  cases(show u=Value.ref a from f);obtain⟨mA,O,_⟩:=yl I.hok d;obtain⟨R,J,_⟩:=O.look;exact jbm (PySem.W.kitx_own (cl.get _) cl.hd v F m L) I.uN J e (λz=>nomatch z) h
end
structure dP (k:Nat)(A:Around):Prop where
 hd:A.handled=none
 dp:A.depth+3*k+5<recursionLimit
 un:A.units+16*k+200<cLine
def dP.mono {j k:Nat}{A:Around}(r:dP k A)(h:j<=k):dP j A:=⟨r.hd,by have:=r.dp;lia,by have:=r.un;lia⟩
def dP.m {j k:Nat}{A:Around}(r:dP k A)(h:j<=k:=by first | decide | lia):dP j A:=r.mono h
theorem dP.deeper {k:Nat}{A:Around}(r:dP (k+1) A)(a:Env):dP k (A.deeper a):=
 ⟨r.hd,by have:=r.dp;show A.depth+1+3*k+5<_;lia,by have:=r.un;show A.units+3+16*k+200<_;lia⟩
def JK {A:Around}{C:Addr}{us:jcC}{kw:List (Str×Value)}:(A.under (.builtin "type.__call__" ⟨.ref C::us,kw⟩)).depth=A.depth+1:=by
 first | rfl | simp[Around.under,Code.weight,Code.isCreation,Code.isGuard,Code.isCaller,Code.frames,Code.isFrame,guardIds]
def JJ {A:Around}{C:Addr}{us:jcC}{kw:List (Str×Value)}:(A.under (.builtin "type.__call__" ⟨.ref C::us,kw⟩)).units=A.units+1:=by
 first | rfl | simp[Around.under,Code.cUnits,Code.frames,Code.isFrame]
theorem dP.make {k:Nat}{A:Around}(r:dP (k+1) A)(C:Addr)(us:jcC)(kw:List (Str×Value)):dP k (A.under (.builtin "type.__call__" ⟨.ref C::us,kw⟩)):=
 ⟨r.hd,by have:=r.dp;rw[JK];lia,by have:=r.un;rw[JJ];lia⟩
def dP.depth {k:Nat}{A:Around}(r:dP k A):A.depth<recursionLimit:=by have:=r.dp;lia
def dP.units {k:Nat}{A:Around}(r:dP k A):A.units+64<cLine:=by have:=r.un;lia
def a3n:TA:=λ_ H Q=>Q [] H
def XX (d:TE)(a:TA):TA:=λU H Q=>d U H λx b=>a U b λe c=>Q (x::e) c
section
variable {X:Cx}{e:Expr}{es:jcE}{te:TE}{t:TA}{pos:Pos}
def Rn:PA X [] a3n:=λ_ _ _ _ H Q I h=>Calls.spliced_nil ⟨[],H,I,.nil,h⟩
def L1 (f:PE X e te)(m:PA X es t)(hs:autoParam (starEach (e::es) X.env=(false,eval e X.env)::starEach es X.env) zi):PA X (e::es) (XX te t):=by
 intro a b s U H Q I h;rw[hs];show wpAny _ _ (spliced ((false,eval e X.env)::backTo a (starEach es X.env))) _ _ s;refine Calls.spliced_cons (cU (f b s U H _ I h) ?_);rintro u l ⟨x,j,i,g,p⟩;exact cU (m a b l U j _ i p) (by rintro q r ⟨n,d,o,c,k⟩;exact⟨x::n,d,o,.cons g c,k⟩)
def a6M (t:TA):TE:=λU H Q=>t U H λa b=>a.length<=sizeLine/\∀p,b p=none->Q (.ref p) (upd b p (.tup a))
def a3r (t:TA):TE:=λU H Q=>t U H λa b=>a.length<=sizeLine/\∀p,b p=none->Q (.ref p) (upd b p (.lst a))
def a0E {x1}(h:PA X es t):PE X (.Tuple es x1 pos) (a6M t):=by
 intro k s U H Q I i;refine wpAny_Tuple_spliced (cU (h pos k s U H _ I i) ?_);rintro g a ⟨j,d,c,r,z,q⟩;refine⟨by rw[<- r.length];exact z,?_⟩;have f:d a.heap.objs.size=none:=c.hok.fresh (jaq _);refine⟨.ref a.heap.objs.size,upd d a.heap.objs.size (.tup j),c.laid (t':=a.toks) (λb u e=>jaI _ e) (jaq _) ?_,M,q _ f⟩;exact⟨z,g,r,⟨_,jaV _ M,M,_,M⟩⟩
def Jr (h:PA X es t):PE X (.List es pos) (a3r t):=by
 intro k s U H Q I i;refine wpAny_List_spliced (cU (h pos k s U H _ I i) ?_);rintro g a ⟨j,d,c,r,z,q⟩;refine⟨by rw[<- r.length];exact z,?_⟩;have f:d a.heap.objs.size=none:=c.hok.fresh (jaq _);refine⟨.ref a.heap.objs.size,upd d a.heap.objs.size (.lst j),c.laid (t':=a.toks) (λb u e=>jaI _ e) (jaq _) ?_,M,q _ f⟩;exact⟨z,g,0,r,jaV _ M⟩
end
abbrev Sp:=List V->Hp->VK->XK->Prop
abbrev Na:=List Env->Hp->Shared->XK->Value->Shared->Prop
structure KA (P:Program)(w:World)(K:Frag)(mg:Str->Option Value)(base:Heap)(A:Around)(outer:List Env)(s:Shared)(H:Hp):Prop where
 frames:A.frames=some outer
 mod:Mod K mg base
 bs:∀b o,base.get? b=some o->s.heap.get? b=some o/\H b=none
 Xr:base.objs.size<=s.heap.objs.size
 xA:s.heap.FunFrames base outer
 frf:∀b∈frs outer,H b=none
 hok:sy P w H s.heap
 bare:AllBare s.gens
def CE (a:List Env)(P:Program)(w:World)(H:Hp)(s:Shared)(Q:VK)(u:Value)(b:Shared):Prop:=
 ∃v c,b.os=s.os/\AllBare b.gens/\Un (frs a) [] H c s.heap b.heap/\sy P w c b.heap/\RelV v u/\Q v c
def CR (CX:Na)(a:List Env)(P:Program)(w:World)(H:Hp)(s:Shared)(Q:VK)(E:XK)(r:Result)(b:Shared):Prop:=
 match r with
 |.ok (.ret u)=>CE a P w H s Q u b
 |.ok _=>False
 |.error e=>CX a H s E e b
structure gi (P:Program)(w:World)(K:Frag)(mg:Str->Option Value)(base:Heap)(CX:Na)(k:Nat)(f:Addr)(fd:FuncData)(ps:List Str)(sp:Sp):Prop where
 len:∀vs H Q E,sp vs H Q E->vs.length=ps.length
 run:∀(A:Around)(outer:List Env)(s:Shared)(H:Hp)(args:Args)(us:List Value)(vs:List V) (Q:VK) (E:XK),dP k A->KA P w K mg base A outer s H->BindsTo s fd args (ps.zip us)->Vals vs us->sp vs H Q E->
  codeAny (model P w) A (.call (.ref f) args) (CR CX outer P w H s Q E) s
theorem gi.mono {P:Program}{w:World}{K:Frag}{e:Str->jcG}{a:Heap}{CX:Na}{j k:Nat}{f:Addr}{g:FuncData}{d:jcB}{sp:Sp}(F:gi P w K e a CX j f g d sp)(h:j<=k) :
  gi P w K e a CX k f g d sp:=⟨F.len,λA b s H c m i Q E l=>F.run A b s H c m i Q E (l.mono h)⟩
theorem KA.make {P:Program}{w:World}{K:Frag}{c:Str->jcG}{b:Heap}{A:Around}{a:List Env}{s:Shared}{H:Hp}(e:KA P w K c b A a s H)(C:Addr)(us:jcC)(kw:List (Str×Value)) :
  KA P w K c b (A.under (.builtin "type.__call__" ⟨.ref C::us,kw⟩)) a s H:=⟨by first | exact e.frames | (simpa[Around.under,Code.envs,Code.isFrame,pushEnvs] using e.frames),e.mod,e.bs,e.Xr,e.xA,e.frf,e.hok,e.bare⟩
section
variable {X:Cx}{vy:jcy}{U:St}{H:Hp}{s s':Shared}
theorem Inv.a5q (I:Inv X vy U H s):KA X.prog X.w X.K X.mg X.base X.A X.stack s H:=
 ⟨I.ok.frames,I.ok.mod,I.bs,jay I.ok.Xr I.sz,I.stack,I.Lu,I.hok,I.bare⟩
def Inv.after {Q:VK}{u:Value}(I:Inv X vy U H s)(h:CE X.stack X.prog X.w H s Q u s'):EP X vy U Q u s':=by
 obtain⟨v,j,f,a,un,c,r,q⟩:=h;obtain⟨i,g,d,t,e⟩:=s';obtain rfl:e=s.os:=f;exact⟨v,j,I.call (h':=i) (g':=g) (d':=d) (t':=t) (ch:=[]) un c a (λb z=>absurd z (by simp)),r,q⟩
end
def Pj (sp:Sp)(c:List V)(E:XK)(t:TA):TE:=λU H Q=>t U H λa b=>sp (a++c) b Q E
def XT (C:Addr)(sp:Sp)(d:List V)(E:XK)(t:TA):TE:=λU H Q=>t U H λb a=>∀x dx,a x=none->a dx=none->dx≠x->
 sp (.ref x::(b++d)) (upd (upd a dx (.own x)) x (.ins C dx [])) (λv c=>v=.dD/\Q (.ref x) c) E
def Binds (K:Frag)(c:FuncData)(b:jcB)(a:jcC):Prop:=
 ∀(s:Shared)(us:jcC),K.In s.heap->(us++a).length=b.length->BindsTo s c ⟨us,[]⟩ (b.zip (us++a))
theorem Binds.all {K:Frag}{c:FuncData}{a:jcB}(h:∀us:jcC,us.length=a.length->bindArgs c ⟨us,[]⟩=pure (a.zip us)):Binds K c a []:=λs us _ b=>by
 rw[jaD] at b ⊢;exact .of_eq (h us b)
def Passes (CX:Na)(X:Cx)(E:XK):Prop:=∀(vy:jcy) (U:St) (H:Hp) (s:Shared) (e:Value) (s':Shared),Inv X vy U H s->CX X.stack H s E e s'->X.xe e s'
section
variable {X:Cx}{CX:Na}{k:Nat}{f C:Addr}{fd:FuncData}{ps:jcB}{sp:Sp}{AZ:List V}{ds:jcC}{E:XK}{x m:Str}{p pos BM:Pos}{e o:Expr}{es:jcE}{ta:TE}{t:TA}
theorem zA {b:jcy}{U:St}{H:Hp}{s:Shared}{Q:VK}{us:jcC}{vs:List V}(F:gi X.prog X.w X.K X.mg X.base CX k f fd ps sp)(j:dP k X.A)(m:Binds X.K fd ps ds)(g:Vals AZ ds)(l:Passes CX X E)
  (I:Inv X b U H s) (r:Vals vs us) (h:sp (vs++AZ) H Q E):wpAny (model X.prog X.w) X.A (call (.ref f) us) (EP X b U Q) X.xe s:=by
 have c:Vals (vs++AZ) (us++ds):=r.append g;have n:(us++ds).length=ps.length:=by rw[<- c.length];exact F.len _ _ _ _ h
 refine wpAny_call (codeAny_mono (F.run X.A X.stack s H ⟨us,[]⟩ (us++ds) (vs++AZ) Q E j I.a5q (m s us I.uN n) c h) λr d a=>?_);cases r with
 |error e=>exact l b U H s e d I a
 |ok i=>
  cases i with
  |ret u=>exact I.after a
  |next=>exact False.elim a
  |brk=>exact False.elim a
  |cont=>exact False.elim a
theorem V9 (F:gi X.prog X.w X.K X.mg X.base CX k f fd ps sp)(j:dP k X.A)(n:Gl X x)(u:X.mg x=some (.ref f))(hk:keepIn X.K (.ref f)=true)(l:Binds X.K fd ps ds)(i:Vals AZ ds)(d:Passes CX X E)
  (g:PA X (e::es) t) (b:autoParam ((x==("__debug__":Str))=false) zn) (o:autoParam (starEach (e::es) X.env=(false,eval e X.env)::starEach es X.env) zi) (a:autoParam ((backTo pos (starEach es X.env)).any (·.1)=false) zi) :
  PE X (.Call (.Name x p) (e::es) [] pos) (Pj sp AZ E t):=by
 intro m s U H Q I h;refine jb9 (tT I n u ?_ b);refine callWith_K (h₀:=X.base) I.ok.mod.kin hk (cU (g pos m s U H _ I h) ?_) o a;rintro v B ⟨y,z,c,r,q⟩;refine⟨c.uN,?_⟩;exact zA F j l i d c r q
theorem Rl (F:gi X.prog X.w X.K X.mg X.base CX k f fd ps sp)(c:dP k X.A)(g:Gl X x)(i:X.mg x=some (.ref f))(hk:keepIn X.K (.ref f)=true)(e:Binds X.K fd ps ds)(b:Vals AZ ds)(d:Passes CX X E)
  (a:autoParam ((x==("__debug__":Str))=false) zn):PE X (.Call (.Name x p) [] [] pos) (Pj sp AZ E a3n):=by
 intro j s U H Q I h;refine jb9 (tT I g i ?_ a);exact callWith_K0 I.uN hk (zA (us:=[]) F c e b d I .nil h)
structure Mk (K:Frag)(C f:Addr):Prop where
 makes:makesIn K C=true
 init:findIn K (.ref C) "__init__"=some (some (.ref f))
 fn:isFn K (.ref f)=true
 kp:keepIn K (.ref C)=true
theorem Qx {c:jcy}{U:St}{H:Hp}{s:Shared}{Q:VK}{us:jcC}{vs:List V}(jcx:Mk X.K C f)(F:gi X.prog X.w X.K X.mg X.base CX k f fd ps sp)(t:dP (k+1) X.A)(y:Binds X.K fd ps ds)(p:Vals AZ ds)
  (l:Passes CX X E) (I:Inv X c U H s) (r:Vals vs us)
  (h:∀x dx,H x=none->H dx=none->dx≠x->sp (.ref x::(vs++AZ)) (upd (upd H dx (.own x)) x (.ins C dx [])) (λv H2=>v=.dD/\Q (.ref x) H2) E) :
  wpAny (model X.prog X.w) X.A (call (.ref C) us) (EP X c U Q) X.xe s:=by
 have g:=h (s.heap.objs.size+1) s.heap.objs.size (I.hok.fresh (Nat.le_succ _)) (I.hok.fresh (jaq _)) (jaW (jcd _));have b:=Inv.made (C:=C) I;have d:Vals (V.ref (s.heap.objs.size+1)::(vs++AZ)) (Value.ref (s.heap.objs.size+1)::(us++ds)):=.cons rfl (r.append p);have z:(Value.ref (s.heap.objs.size+1)::us++ds).length=ps.length:=by
  have e:=d.length;rw[F.len _ _ _ _ g] at e;exact e.symm
 refine wpAny_call (RV (f:=f) I.uN jcx.makes jcx.init (ja6.mp jcx.fn) (codeAny_mono (F.run _ X.stack _ _ ⟨Value.ref (s.heap.objs.size+1)::us,[]⟩ (Value.ref (s.heap.objs.size+1)::(us++ds)) _ _ E (t.make C us [])
  (b.a5q.make C us []) (y _ (Value.ref (s.heap.objs.size+1)::us) b.uN z) d g) λr j a=>?_))
 cases r with
 |error e=>exact l c U _ _ e j b a
 |ok q=>
  cases q with
  |ret u=>
   obtain⟨v,m,n,B,i,o⟩:=b.after a;subst i;exact⟨B,⟨V.ref (s.heap.objs.size+1),m,n,M,o⟩⟩
  |next=>exact False.elim a
  |brk=>exact False.elim a
  |cont=>exact False.elim a
theorem V3 (jcx:Mk X.K C f)(F:gi X.prog X.w X.K X.mg X.base CX k f fd ps sp)(j:dP (k+1) X.A)(n:Gl X x)(u:X.mg x=some (.ref C))(l:Binds X.K fd ps ds)(i:Vals AZ ds)(d:Passes CX X E)
  (g:PA X (e::es) t) (b:autoParam ((x==("__debug__":Str))=false) zn) (o:autoParam (starEach (e::es) X.env=(false,eval e X.env)::starEach es X.env) zi) (a:autoParam ((backTo pos (starEach es X.env)).any (·.1)=false) zi) :
  PE X (.Call (.Name x p) (e::es) [] pos) (XT C sp AZ E t):=by
 intro m s U H Q I h;refine jb9 (tT I n u ?_ b);refine callWith_K (h₀:=X.base) I.ok.mod.kin jcx.kp (cU (g pos m s U H _ I h) ?_) o a;rintro v B ⟨y,z,c,r,q⟩;refine⟨c.uN,?_⟩;exact Qx jcx F j l i d c r q
end
section
variable {X:Cx}{CX:Na}{k:Nat}{f C:Addr}{fd:FuncData}{ps ks:jcB}{sp:Sp}{E:XK}{x m:Str}{p pos BM kpos:Pos}{e o:Expr}{es:jcE}{kws:List Keyword}{te ta:TE}{t tk:TA}{nm:Option Str}
variable {g:jcC->jcC->jcC}{gV:List V->List V->List V}
end
structure ak (N P:List Str)(sc:Scope):Prop where
 kind:sc.kind=.function
 co:sc.isCoroutine=false
 gen:sc.isGenerator=false
 nd:N.Nodup
 pre:N.take P.length=P
 par:∀x∈P,sc.names.lookup x=some .local\/sc.names.lookup x=some .cell
 a06:∀y∈sc.names,y.2≠.free
def cB {N P:jcB}{h:Scope}(a:autoParam (h.kind=.function) zi)(b:autoParam (h.isCoroutine=false) zi)(c:autoParam (h.isGenerator=false) zi)(d:autoParam (N.Nodup) jp)(e:autoParam (N.take P.length=P) zi)(f:autoParam (∀x∈P,h.names.lookup x=some .local\/h.names.lookup x=some .cell) jp)(g:autoParam (∀y∈h.names,y.2≠.free) jp):ak N P h:=⟨a,b,c,d,e,f,g⟩
theorem CO {a:Str->Option NameKind}{x:Str}:∀{binds:List (Str×Value)} {m:Str->jcG},(∀v,(x,v)∉binds)->bindL a binds m x=m x
 |[],_,_=>rfl
 |(n,v)::r,m,h=>by
  unfold bindL;rw[CO λw b=>h w (jaj _ b)];split
  .have:x≠n:=by rintro rfl;exact h v jak
   simp[this]
  .rfl
theorem CQ {a:Str->Option NameKind}{x:Str}:∀{binds:List (Str×Value)} {m:Str->jcG},(∀v,(x,v)∉binds)->bindC a binds m x=m x
 |[],_,_=>rfl
 |(n,v)::r,m,h=>by
  unfold bindC;rw[CQ λw b=>h w (jaj _ b)];split
  .rfl
  .have:x≠n:=by rintro rfl;exact h v jak
   simp[this]
theorem CP {a:Str->Option NameKind}{x:Str}{v:Value}:∀{P:jcB}{vs:jcC}{i:Nat}{m:Str->jcG},P.Nodup->P[i]?=some x->vs[i]?=some v->a x=some .local->
  bindL a (P.zip vs) m x=some v
 |[],_,_,_,_,h,_,_=>by simp at h
 |_::_,[],_,_,_,_,h,_=>by simp at h
 |p::P,w::vs,0,m,nd,h1,h2,hk=>by
  simp at h1 h2;subst h1;subst h2;show bindL a ((p,w)::P.zip vs) m p=_;unfold bindL;rw[CO λv b=>(jbh.mp nd).1 (List.of_mem_zip b).1,jab hk];simp
 |p::P,w::vs,i+1,m,nd,h1,h2,hk=>by
  show bindL a ((p,w)::P.zip vs) m x=_;unfold bindL;exact CP (i:=i) (jbh.mp nd).2 (by simpa using h1) (by simpa using h2) hk
theorem CS {a:Str->Option NameKind}{x:Str}{v:Value}:∀{P:jcB}{vs:jcC}{i:Nat}{m:Str->jcG},P.Nodup->P[i]?=some x->vs[i]?=some v->a x≠some .local->
  bindC a (P.zip vs) m x=some v
 |[],_,_,_,_,h,_,_=>by simp at h
 |_::_,[],_,_,_,_,h,_=>by simp at h
 |p::P,w::vs,0,m,nd,h1,h2,hk=>by
  simp at h1 h2;subst h1;subst h2;show bindC a ((p,w)::P.zip vs) m p=_;unfold bindC;rw[CQ λv b=>(jbh.mp nd).1 (List.of_mem_zip b).1,jaa hk];simp
 |p::P,w::vs,i+1,m,nd,h1,h2,hk=>by
  show bindC a ((p,w)::P.zip vs) m x=_;unfold bindC;exact CS (i:=i) (jbh.mp nd).2 (by simpa using h1) (by simpa using h2) hk
def start (N:jcB)(vs:List V):St:=vs.map some++List.replicate (N.length - vs.length) none
def EM (CX:Na)(P:Program)(w:World)(K:Frag)(mg:Str->jcG)(base:Heap)(N:jcB)(qual:Str)(scope:Scope)(f:Addr)(cd:Value)(A:Around)(outer:List Env)(s:Shared)(H:Hp)(E:XK):Cx where
 prog:=P
 w:=w
 K:=K
 mg:=mg
 base:=base
 A:=A.deeper (envOfC qual scope s.heap.objs.size f cd)
 N:=N
 s₀:=s
 H₀:=H
 env:=envOfC qual scope s.heap.objs.size f cd
 outer:=outer
 stack:=envOfC qual scope s.heap.objs.size f cd::outer
 ex:=[]
 calm:=true
 fn:=λ_=>true
 pn:=[]
 xe:=λe s'=>wpAny (model P w) (A.deeper (envOfC qual scope s.heap.objs.size f cd)) (leaving (envOfC qual scope s.heap.objs.size f cd) e) (λ_ s''=>CX outer H s E e s'') (λe' s''=>CX outer H s E e' s'') s'
def Ht {a:Scope}{n:Nat}{x:Str}(h:a.names.lookup x=some .cell):∃c,(cellsFrom n a.names []).lookup x=some c:=by
 have q:=cellsFrom_some a.names n [] (.inl h);exact Option.isSome_iff_exists.mp q
theorem Ol {CX:Na}{P:Program}{w:World}{K:Frag}{J:Str->jcG}{m:Heap}{N t:jcB}{j:Str}{d:Scope}{f:Addr}{cd:Value}{A:Around}{g:List Env}{s O:Shared}{H:Hp}{E:XK}{us:jcC}{vs:List V}
  (S:ak N t d) (T:A.handled=none) (o:KA P w K J m A g s H) (X:vs.length=t.length) (r:Vals vs us)
  (x:InCallC s s.heap.objs.size (bindL (envOfC j d s.heap.objs.size f cd).kindOf (t.zip us) λ_=>none) (cellsFrom (s.heap.objs.size+1) d.names []) (bindC (envOfC j d s.heap.objs.size f cd).kindOf (t.zip us) λ_=>none) O) :
  Inv (EM CX P w K J m N j d f cd A g s H E) [] (start N vs) H O:=by
 have Q:t.length<=N.length:=by have:=jac List.length S.pre;rw[jbV] at this;lia
 obtain⟨G,tk,rfl,hk⟩:=x.done;have B:∀b:Addr,b∉(EM CX P w K J m N j d f cd A g s H E).ex:=λb z=>absurd (show b∈([]:jcD) from z) (by simp);refine⟨⟨o.mod,S.kind,M,M,jaq _,λy z c G l=>?_,λy C=>?_,λy c _ h=>?_,λ_=>T,Around.frames_deeper o.frames,.inr ⟨M,M⟩,λb z=>absurd z (B b),o.bs,o.Xr,λb _ _=>B b,λb z=>absurd z (B b),o.xA,o.frf⟩,
  M,o.bare,Un.kept hk,⟨_,x.toInCall.ns,λi y v G l W=>?_⟩,λy c h=>⟨_,x.cell y c h⟩,o.hok.fresh (jaq _),λy c h=>?_,λp D=>absurd (show p∈([]:jcy) from D) (by simp),o.hok.kept hk,?_⟩
 .exact name_of_addr x.apart (jbG G) (jbG l)
 .have C:d.names.lookup y=some .cell\/d.names.lookup y=some .free:=C;rcases C with C | C
  .exact Ht C
  .exact absurd rfl (S.a06 _ (jbG C))
 .exact Nat.le_of_lt (x.above y c (jbG h))
 .have I:i<vs.length:=by
   unfold start at l;by_cases I:i<vs.length
   .exact I
   .rw[jaX (by simpa using I)] at l;rw[jb0] at l;split at l<;>cases l
  have R:vs[i]?=some v:=by
   unfold start at l;rw[jaL (by simpa using I),jaF] at l;cases e:vs[i]? with
   |none=>rw[e] at l;cases l
   |some a=>rw[e] at l;cases l;rfl
  obtain⟨u,L,U⟩:=r.get R;have D:t[i]?=some y:=by
   rw[<- S.pre,List.getElem?_take_of_lt (by lia)];exact G
  have F:t.Nodup:=by rw[<- S.pre];exact S.nd.sublist (List.take_sublist _ _)
  refine⟨u,U,?_⟩;rcases S.par y (ja5 D) with k | k
  .exact .inl ⟨k,CP F D L k⟩
  .obtain⟨c,e⟩:=Ht (n:=s.heap.objs.size+1) k;refine .inr ⟨.inl k,c,e,?_⟩;have q:=x.cell y c e;rw[CS F D L (by show d.names.lookup y≠_;rw[k];decide)] at q;exact q
 .exact o.hok.fresh (Nat.le_of_lt (x.above y c (jbG h)))
 .unfold start;show _=N.length;rw[jag,jad,jb1];lia
theorem a5m {CX:Na}{P:Program}{w:World}{K:Frag}{D:Str->jcG}{h:Heap}{k:Nat}{f:Addr}{name d:Str}{g:Arguments}{i:List Stmt}{a:Scope}{X kV z Z l ct oc:Value}{Y od:jcF}
  {R:jcA} {N C:jcB} {sp:Sp} (lk:K.lookup f=some ⟨oc,od,.func (fnOf name d g i a X kV z Z Y l ct),R⟩) (O:codeIn K l d=true) (S:ak N C a)
  (len:∀vs H Q E,sp vs H Q E->vs.length=C.length)
  (m:∀(A:Around)(c:List Env)(s:Shared)(H:Hp)(vs:List V)(Q:VK)(E:XK),dP k (A.deeper (envOfC d a s.heap.objs.size f l))->sp vs H Q E->
   ∃t,Fc (EM CX P w K D h N d a f l A c s H E) i t/\t {nx:=λ_ H'=>Q .dD H',rt:=Q } (start N vs) H) :
  gi P w K D h CX (k+1) f (fnOf name d g i a X kV z Z Y l ct) C sp:=by
 refine⟨len,λA c s H U us vs Q E L B hb r Yw=>?_⟩;have hl:=len _ _ _ _ Yw;have KX:K.In s.heap:=B.mod.kin.keeps λb o e=>(B.bs b o e).1;have M:s.heap.NoLimit:=B.mod.nolimit.keeps λb o e=>(B.bs b o e).1;have j:∀y∈C.zip us,a.names.lookup y.1=some .local\/(a.names.lookup y.1=some .cell/\((cellsFrom (s.heap.objs.size+1) a.names []).lookup y.1).isSome=true):=λ⟨n,v⟩ hy=>by
  rcases S.par n (List.of_mem_zip hy).1 with q | q
  .exact .inl q
  .exact .inr ⟨q,cellsFrom_some _ _ _ (.inl q)⟩
 refine codeAny_call_function L.depth (KX _ _ lk) rfl S.co S.gen rfl (PySem.W.codeRec_of KX O) (hb _ _ _ _ ?_);refine wpAny_newFunctionEnv_cells S.kind j λenv he s1 x=>?_;subst he;refine⟨M.keeps x.toInCall.keep,codeAny_func ?_⟩;obtain⟨t,ht,hq⟩:=m A c s H vs Q E (L.deeper _) Yw;have I:Inv (EM CX P w K D h N d a f l A c s H E) [] (start N vs) H s1:=Ol S L.hd B hl r x;refine jaQ (ht [] s1 (start N vs) H _ I hq) (λfl G p=>?_) λe G p=>p;have fin:∀{F:St}{H':Hp}{v:V}{u:Value},Inv (EM CX P w K D h N d a f l A c s H E) [] F H' G->RelV v u->Q v H'->CE c P w H s Q u G:=
  λ{F H' v u} J T q=>⟨v,H',J.os,J.bare,J.base,J.hok,T,q⟩
 cases fl with
 |ret u=>
  obtain⟨v,F,H',J,T,q⟩:=p;exact fin J T q
 |next=>
  obtain⟨F,H',J,q⟩:=p;exact fin (v:=V.dD) (u:=Value.none) J rfl q
 |brk=>
  obtain⟨_,_,_,q⟩:=p;exact False.elim q
 |cont=>
  obtain⟨_,_,_,q⟩:=p;exact False.elim q
section
variable {X:Cx}{x:Str}{p pos:Pos}{e:Expr}{es:jcE}{t:TA}{id T:String}{r:List V->Hp->VK->Prop}
def tCB (r:List V->Hp->VK->Prop)(t:TA):TE:=λU H Q=>t U H λa b=>r a b Q
theorem Rk (d:fL X (.builtin id) r)(q:Gl X x)(w:X.mg x=none)(i:bootBuiltins x=some (.builtin id))(f:PA X (e::es) t)(u:autoParam (x≠"__name__") zn)(b:autoParam ((x==("__debug__":Str))=false) zn)
  (l:autoParam (starEach (e::es) X.env=(false,eval e X.env)::starEach es X.env) zi) (a:autoParam ((backTo pos (starEach es X.env)).any (·.1)=false) zi):PE X (.Call (.Name x p) (e::es) [] pos) (tCB r t):=by
 intro c s U H Q I h;refine jb9 (Ew I q w i ?_ u b);exact PyProof.Rows.callWith_builtin1 (cU (f pos c s U H _ I h) (by rintro g o ⟨m,n,k,j,v⟩;exact d c o U n m g Q k j v)) l a
theorem NF (d:fL X (.type T) r)(q:Gl X x)(w:X.mg x=none)(i:bootBuiltins x=some (.type T))(f:PA X (e::es) t)(u:autoParam (x≠"__name__") zn)(b:autoParam ((x==("__debug__":Str))=false) zn)
  (l:autoParam (starEach (e::es) X.env=(false,eval e X.env)::starEach es X.env) zi) (a:autoParam ((backTo pos (starEach es X.env)).any (·.1)=false) zi):PE X (.Call (.Name x p) (e::es) [] pos) (tCB r t):=by
 intro c s U H Q I h;refine jb9 (Ew I q w i ?_ u b);exact jcw (cU (f pos c s U H _ I h) (by rintro g o ⟨m,n,k,j,v⟩;exact d c o U n m g Q k j v)) l a
end
end L2
namespace HT
open PySem PyProof.Rows
section
open PySem.SeqAt
open PySem.AutoSeq1 (wpAny_loadPart')
open PySem.MeetsSeq PySem.MeetsSeq2 PySem.MeetsSeq3
end
section
variable {prog:Program}{w:World}{A:Around}{E:jcz}{s:Shared}
theorem Xp {t b:Addr}{vs ws:jcC}{Q:jcz}(r:IsTup s.heap t vs.toArray)(v:IsTup s.heap b ws.toArray)(m:vs≠[])
  (u:ws=[]->Q (.ref t) s) (x:ws≠[]->Q (.ref s.heap.objs.size) {s with heap:=s.heap.push {cls:=.type "tuple",data:=.seq (vs++ws).toArray } })
  (hsz:vs.length+ws.length<=sizeLine):wpAny (model prog w) A (binaryOp .Add (.ref t) (.ref b)) Q E s:=by
 obtain⟨⟨cls,o,data,k⟩,i,l,n,q⟩:=id r;obtain⟨⟨y,c,j,d⟩,a,g,p,f⟩:=id v;simp only at l q g f;subst l q g f;have e:vs.toArray++ws.toArray=(vs++ws).toArray:=by simp
 by_cases h:ws=[]
 .exact concat_meets ⟨_,i,M⟩ ⟨_,a,M⟩ noFill_tuple_add seq_tuple_add PySem.F.slot_tuple_add PySem.F.entry_tuple_add (PySem.F.args_tuple_add_2 _ _)
   (tuple_addW1 t b vs.toArray ws.toArray n p o c k d (by simpa using m) (by simp[h])) ⟨i,a,u h⟩
 .refine concat_meets ⟨_,i,M⟩ ⟨_,a,M⟩ noFill_tuple_add seq_tuple_add PySem.F.slot_tuple_add PySem.F.entry_tuple_add (PySem.F.args_tuple_add_2 _ _)
   (tuple_addW2 t b vs.toArray ws.toArray n p o c k d (by simpa using m) (by simpa using h) (by rw[jav,jav];exact hsz)) ⟨i,a,?_⟩
  rw[e];exact x h
noncomputable def f6 (n d:Nat):Option Int->Nat
 |none=>d
 |some v=>if v<0 then(v+(n:Int)).toNat else min v.toNat n
def zy (n d:Nat):f6 n d none=d:=rfl
def pK (n d k:Nat):f6 n d (some (k:Int))=min k n:=by
 show(if(k:Int)<0 then((k:Int)+(n:Int)).toNat else min (k:Int).toNat n)=min k n;rw[jaa (by lia),jbz]
def ZT (n d:Nat)(b:d<=n)(o:Option Int):f6 n d o<=n:=by
 cases o with
 |none=>exact b
 |some v=>
  show(if v<0 then(v+(n:Int)).toNat else min v.toNat n)<=n;by_cases a:v<0
  .rw[jab a];lia
  .rw[jaa a];exact Nat.min_le_right _ _
def ML (v:Int)(n d:Nat):(if v<0 then max (v+(n:Int)) 0 else min v (n:Int))=((f6 n d (some v):Nat):Int):=by
 show(if v<0 then max (v+(n:Int)) 0 else min v (n:Int))=(((if v<0 then(v+(n:Int)).toNat else min v.toNat n):Nat):Int);by_cases a:v<0
 .simp only[jab a];lia
 .simp only[jaa a];lia
def Kv (b a:Option Int)(n:Nat):Builtin.Slice.sliceAdjust b a 1 (n:Int)=(((f6 n 0 b:Nat):Int),((f6 n n a:Nat):Int)):=by
 have c:¬((1:Int)<0):=by lia
 unfold Builtin.Slice.sliceAdjust;simp only[c,if_false];refine Prod.ext ?_ ?_
 .cases b with
  |none=>rfl
  |some v=>exact ML v n 0
 .cases a with
  |none=>rfl
  |some v=>exact ML v n n
def Jp (i j:Nat):Builtin.Slice.slicePlaces (i:Int) (j:Int) 1=j - i:=by
 unfold Builtin.Slice.slicePlaces;have a:(1:Int) > 0:=by lia
 simp only[a,if_true,Int.ediv_one];split<;>lia
def yT {v:Value}{o:Option Int}{Q:Option Int->Shared->Prop}(p:IsPart v o)(h:Q o s):wpAny (model prog w) A (Builtin.Slice.slicePartIndex v) Q E s:=by
 cases p with
 |none=>exact slicePart_none h
 |int i t=>exact slicePart_int h
theorem u6 {g:Addr}{e f:Value}{a c:Option Int}{n:Nat}{Q:Int×Int×Nat->Shared->Prop}(hs:s.heap.IsSliceOf g e f .none)(pl:IsPart e a)(i:IsPart f c)
  (h:Q (((f6 n 0 a:Nat):Int),1,f6 n n c - f6 n 0 a) s):wpAny (model prog w) A (Builtin.Slice.sliceApplied (.ref g) (pure (n:Int))) Q E s:=by
 obtain⟨k,d,j,b⟩:=id hs;unfold Builtin.Slice.sliceApplied Builtin.Slice.sliceFields;refine jat (jat (wpAny_field d b (x:=e) rfl (jat (wpAny_field d b (x:=f) rfl (jat (wpAny_field d b (x:=.none) rfl (jaC ?_)))))));refine jat (slicePart_none ?_);show wpAny _ _ (if((1:Int)==0)=true then _ else _) _ _ s;rw[jaa (by decide)];refine jat (yT pl (jat (yT i (jat (jaC ?_)))));show wpAny _ _ (match Builtin.Slice.sliceAdjust a c 1 (n:Int) with | (a,c)=>pure (a,(1:Int),Builtin.Slice.slicePlaces a c 1)) _ _ s;rw[Kv a c n];show wpAny _ _ (pure (((f6 n 0 a:Nat):Int),(1:Int),Builtin.Slice.slicePlaces ((f6 n 0 a:Nat):Int) ((f6 n n c:Nat):Int) 1)) _ _ s;rw[Jp];exact jaC h
def Q9 (xs:Array Value)(i k:Nat):((List.range k).filterMap λ(m:Nat)=>xs[((i:Int)+(m:Int)*1).toNat]?).toArray=((xs.toList.drop i).take k).toArray:=by
 have e:(λ(m:Nat)=>xs[((i:Int)+(m:Int)*1).toNat]?)=λm=>xs[i+m]?:=by
  funext m;have:((i:Int)+(m:Int)*1).toNat=i+m:=by lia
  rw[this]
 rw[e];have:=pick_run xs i k;rw[List.filterMap_map] at this;have a:((λx=>xs[x]?) ∘ λx=>i+x)=λm=>xs[i+m]?:=rfl;rw[a] at this;rw[this]
theorem tW {t f:Addr}{a:Array Value}{l n:Value}{b c:Option Int}{Q:jcz}(d:IsTup s.heap t a)(hs:s.heap.IsSliceOf f l n .none)(pl:IsPart l b)(r:IsPart n c)
  (p:¬(f6 a.size 0 b=0/\f6 a.size a.size c=a.size))
  (h:Q (.ref s.heap.objs.size) {s with heap:=s.heap.push {cls:=.type "tuple",data:=.seq ((a.toList.drop (f6 a.size 0 b)).take (f6 a.size a.size c - f6 a.size 0 b)).toArray } })
  (hsz:a.size<=sizeLine):wpAny (model prog w) A (getItem (.ref t) (.ref f)) Q E s:=by
 have e:sizeOk (.seq ((a.toList.drop (f6 a.size 0 b)).take (f6 a.size a.size c - f6 a.size 0 b)).toArray):=by
  show((a.toList.drop (f6 a.size 0 b)).take (f6 a.size a.size c - f6 a.size 0 b)).toArray.size<=sizeLine;rw[jav,jbV,List.length_drop,jb6];lia
 have y:f6 a.size a.size c<=a.size:=ZT _ _ (jaq _) c;obtain⟨o,g,i,u⟩:=id hs;have j:s.TypeIs (.ref f) "slice":=⟨o,g,i⟩
 unfold getItem
 try with_reducible refine wpAny_holding ?_
 first | refine jat (jaC ?_) | skip
 refine jat (wpAny_sequenceKey d.typeIs (by decide) ?_);refine jat (wpAny_callSpecial?_slot (name:=Str.ofString "__getitem__") d.typeIs jcv
  (wpAny_call_entry jcv d.typeIs entry_tuple_getitem ?_ (args_tuple_getitem _ _)))
 show wpAny _ _ (Builtin.Tuple.tupleItemsOf (.ref t) >>=_) _ _ s;refine jat (tupleItemsOf_ d ?_);refine jat (wpAny_typeOf j ?_);rw[jab (by decide)];refine jat (u6 hs pl r ?_);have k:¬((((f6 a.size 0 b:Nat):Int)==0&&(1:Int)==1&&(f6 a.size a.size c - f6 a.size 0 b)==a.size)=true):=by
  intro q;rw[jaM,jaM] at q;have v:((f6 a.size 0 b:Nat):Int)=0:=eq_of_beq q.1.1;have x:f6 a.size a.size c - f6 a.size 0 b=a.size:=eq_of_beq q.2;exact p ⟨by lia,by lia⟩
 show wpAny _ _ (if(((f6 a.size 0 b:Nat):Int)==0&&(1:Int)==1&&(f6 a.size a.size c - f6 a.size 0 b)==a.size)=true then _ else _) _ _ s;rw[jaa k,Q9]
 first
  |exact jat (m:=Builtin.Tuple.tupleExact _) (jcb (jaC ⟨_,M,jaC h⟩) e)
  |exact jat (m:=Builtin.Tuple.tupleExact _) (jcb (jat (jaC (jaC ⟨_,M,jaC h⟩))) e)
  |exact jat (jat (m:=Builtin.Tuple.tupleExact _) (jcb (jaC (jaC ⟨_,M,jaC h⟩)) e))
  |exact jat (jat (m:=Builtin.Tuple.tupleExact _) (jcb (jaC ⟨_,M,jaC h⟩) e))
end
end HT
namespace L2
open PySem PySem.Spec PyProof.Rows
abbrev TO:=St->Hp->(Option Int->Hp->Prop)->Prop
def PO (X:Cx)(e:Option Expr)(t:TO):Prop:=
 ∀(vy:jcy) (s:Shared) (U:St) (H:Hp) (Q:Option Int->Hp->Prop),Inv X vy U H s->t U H Q->
  wpAny (model X.prog X.w) X.A (evalPart e X.env) (λu b=>∃o a,Inv X vy U a b/\IsPart u o/\Q o a) X.xe s
def UZ:TO:=λ_ H Q=>Q none H
def a3i (t:TE):TO:=λU H Q=>t U H λx a=>∃i,x=.int i/\Q (some i) a
section
variable {X:Cx}{e:Expr}{te:TE}{lo hi:Option Expr}{tl th:TO}{pos p2:Pos}
def VZ:PO X none UZ:=by
 intro a s U H Q I h;rw[evalPart_none];exact jaC ⟨none,H,I,.none,h⟩
def VY (h:PE X e te):PO X (some e) (a3i te):=by
 intro f s U H Q I a;rw[evalPart_some];refine cU (h f s U H _ I a) ?_;rintro u j ⟨x,d,c,b,g⟩;obtain⟨i,rfl,q⟩:=g;obtain⟨t,rfl⟩:=b;exact⟨some i,d,c,.int i t,q⟩
def Xz (X:Cx)(r:V->Option Int->Option Int->Hp->VK->Prop):Prop:=
 ∀(vy:jcy) (s:Shared) (U:St) (H:Hp) (x:V) (v vl vu:Value) (lo hi:Option Int) (sl:Addr) (Q:VK),Inv X vy U H s->RelV x v->s.heap.IsSliceOf sl vl vu .none->IsPart vl lo->IsPart vu hi->r x lo hi H Q->
  ∃T id,typeLookup (.type T) "__getitem__"=pure (some (.builtin id))/\s.TypeIs v T/\wpAny (model X.prog X.w) X.A (getItem v (.ref sl)) (EP X vy U Q) X.xe s
def Xz.or {r f:V->Option Int->Option Int->Hp->VK->Prop}(h:Xz X r)(h':Xz X f):Xz X (λx lo hi H Q=>r x lo hi H Q\/f x lo hi H Q):=by
 intro i s U H x v d j lo hi b Q I g a c e q;rcases q with q | q
 .exact h i s U H x v d j lo hi b Q I g a c e q
 .exact h' i s U H x v d j lo hi b Q I g a c e q
def tSl (r:V->Option Int->Option Int->Hp->VK->Prop)(te:TE)(d th:TO):TE:=λU H Q=>te U H λx b=>d U b λl c=>th U c λu a=>r x l u a Q
def Rb {r:V->Option Int->Option Int->Hp->VK->Prop}(t:Xz X r)(J:PE X e te)(C:PO X lo tl)(M:PO X hi th):PE X (.Subscript e (.Slice lo hi none p2) pos) (tSl r te tl th):=by
 intro c s U H Q I h;refine Subscript_ (cU (J c s U H _ I h) ?_);rintro v L ⟨x,n,k,G,D⟩;refine wpAny_Slice (cU (C c L U n _ k D) ?_);rintro d F ⟨l,i,z,j,o⟩;refine cU (M c F U i _ z o) ?_;rintro f a ⟨u,g,m,p,K⟩;rw[evalPart_none];refine jaC ?_;have B:Inv X c U g {a with heap:=a.heap.push {cls:=.type "slice",data:=.fields #[d,f,.none] } }:=m.kept (t':=a.toks) λb O q=>jaI _ q;obtain⟨T,id,E,N,y⟩:=t c {a with heap:=a.heap.push {cls:=.type "slice",data:=.fields #[d,f,.none] } } U g x v d f l u a.heap.objs.size Q B G (Heap.IsSliceOf.new ..) j p K;show wpAny (model X.prog X.w) X.A (subscriptTail e (.Slice lo hi none p2) v (.ref a.heap.objs.size)) (EP X c U Q) X.xe {a with heap:=a.heap.push {cls:=.type "slice",data:=.fields #[d,f,.none] } };exact tail_any (ops:=[.ref a.heap.objs.size,v]) N E y (by with_unfolding_all rfl)
def Ho (xs:List V)(a b:Option Int):List V:=(xs.drop (HT.f6 xs.length 0 a)).take (HT.f6 xs.length xs.length b - HT.f6 xs.length 0 a)
def wK (xs:List V)(b a:Option Int):(Ho xs b a).length<=xs.length:=by
 unfold Ho;rw[jbV,List.length_drop];lia
def a7c (K:Frag):V->Option Int->Option Int->Hp->VK->Prop:=λx d c H Q=>∃a b,x=.ref a/\nO K H a b/\
 ¬(HT.f6 b.length 0 d=0/\HT.f6 b.length b.length c=b.length)/\∀p,H p=none->Q (.ref p) (upd H p (.tup (Ho b d c)))
def ZI:Xz X (a7c X.K):=by
 intro y s U H x v w z e f u Q I p j l n h;obtain⟨a,d,rfl,k,m,q⟩:=h;cases p;obtain⟨t,r,i,g⟩:=I.tuple k;have c:t.toArray.size=d.length:=by rw[jav];exact r.length.symm
 refine⟨"tuple",_,jcv.lookup,i.typeIs,?_⟩;refine HT.tW i j l n (by rw[c];exact m) ?_ (by rw[c];exact g);rw[c];refine⟨.ref s.heap.objs.size,_,I.laid (t':=s.toks) (o:=.tup (Ho d e f)) (λb A q=>jaI _ q) (jaq _) ?_,M,q _ (I.hok.fresh (jaq _))⟩;exact⟨jay (wK d e f) g,_,(r.drop (HT.f6 d.length 0 e)).take (HT.f6 d.length d.length f - HT.f6 d.length 0 e),IsTup.new _ _⟩
def a3Y (K:Frag):R2:=λx y H Q=>∃a b d c,x=.ref a/\y=.ref b/\nO K H a d/\nO K H b c/\d≠[]/\d.length+c.length<=sizeLine/\
 (c=[]->Q (.ref a) H)/\(c≠[]->∀p,H p=none->Q (.ref p) (upd H p (.tup (d++c))))
def Vals.dZ {xs:List V}{us:jcC}(r:Vals xs us):us=[]↔xs=[]:=by
 cases r with
 |nil=>simp
 |cons _ _=>simp
def We:lA X (binaryOp .Add) (a3Y X.K):=by
 intro B s U H x y v u Q I r A h;obtain⟨a,b,k,l,rfl,rfl,g,p,n,e,m,j⟩:=h;cases r;cases A;obtain⟨C,d,i,_⟩:=I.tuple g;obtain⟨f,c,t,_⟩:=I.tuple p;refine HT.Xp i t (λz=>n (d.dZ.mp z)) (λz=>⟨.ref a,H,I,M,m (c.dZ.mp z)⟩) (λz=>?_) (by rw[<- d.length,<- c.length];exact e);refine⟨.ref s.heap.objs.size,_,I.laid (t':=s.toks) (o:=.tup (k++l)) (λb D q=>jaI _ q) (jaq _) ?_,M,j (λw=>z (c.dZ.mpr w)) _ (I.hok.fresh (jaq _))⟩;exact⟨by rw[jag];exact e,_,d.append c,IsTup.new _ _⟩
end
noncomputable def Og (n:Nat)(i:Int):Option Nat:=if 0<=i then(if i<n then some i.toNat else none) else if -(n:Int)<=i then some (i+n).toNat else none
def jY {α:Type}(xs:List α)(i:Int):Option α:=(Og xs.length i).bind λj=>xs[j]?
def Mj {n:Nat}{i:Int}{j:Nat}(h:Og n i=some j):seqIndex? i n=some j/\j<n/\-(n:Int)<=i/\i<n:=by
 unfold Og at h;by_cases b:0<=i
 .rw[jab b] at h;by_cases a:i<n
  .rw[jab a] at h;have e:i.toNat=j:=ja2 h;exact⟨by rw[seqIndex_of b a,e],by lia,by lia,a⟩
  .rw[jaa a] at h;cases h
 .rw[jaa b] at h;by_cases a:-(n:Int)<=i
  .rw[jab a] at h;have e:(i+n).toNat=j:=ja2 h;exact⟨by rw[seqIndex_neg (by lia) a,e],by lia,a,by lia⟩
  .rw[jaa a] at h;cases h
def E6 {α:Type}{xs:List α}{i:Int}{v:α}(h:jY xs i=some v):∃j,seqIndex? i xs.length=some j/\xs[j]?=some v/\j<xs.length/\-(xs.length:Int)<=i/\i<xs.length:=by
 unfold jY at h;cases e:Og xs.length i with
 |none=>rw[e] at h;cases h
 |some j=>
  rw[e] at h;obtain⟨b,a,c,d⟩:=Mj e;exact⟨j,b,h,a,c,d⟩
def bK {α:Type}{xs:List α}{j:Nat}{v:α}(h:xs[j]?=some v):jY xs (j:Int)=some v:=by
 have a:j<xs.length:=(jar.mp h).1;have e:Og xs.length (j:Int)=some j:=by
  unfold Og;rw[jab (by lia),jab (by lia)];simp
 unfold jY;rw[e];exact h
def M7 (b:Expr):Prop:=∀o i,subscripted b false o i=operate [o,i] (getItem o i)
def UJ (X:Cx)(r:R2):Prop:=
 ∀(value slice:Expr)(vy:jcy) (s:Shared) (U:St) (H:Hp) (x y:V) (v u:Value) (Q:VK),Inv X vy U H s->RelV x v->RelV y u->r x y H Q->
  subscripted slice false v u=operate [v,u] (getItem v u)->wpAny (model X.prog X.w) X.A (subscriptTail value slice v u) (EP X vy U Q) X.xe s
def uP (X:Cx)(id:String)(r:V->List V->Hp->VK->Prop):Prop:=
 ∀(vy:jcy) (s:Shared) (U:St) (H:Hp) (x:V) (xs:List V) (v:Value) (us:jcC) (Q:VK),Inv X vy U H s->RelV x v->Vals xs us->r x xs H Q->
  wpAny (model X.prog X.w) X.A (call (.builtin id) (v::us)) (EP X vy U Q) X.xe s
section
variable {X:Cx}{a b:Expr}{ta tb:TE}{pos:Pos}
def UJ.or {r d:R2}(h:UJ X r)(h':UJ X d):UJ X (λx y H Q=>r x y H Q\/d x y H Q):=by
 intro a b f s U H x y v u Q I e g q c;rcases q with q | q
 .exact h a b f s U H x y v u Q I e g q c
 .exact h' a b f s U H x y v u Q I e g q c
def uP.or {id:String}{r b:V->List V->Hp->VK->Prop}(h:uP X id r)(h':uP X id b):uP X id (λx xs H Q=>r x xs H Q\/b x xs H Q):=by
 intro c s U H x xs v e Q I d a q;rcases q with q | q
 .exact h c s U H x xs v e Q I d a q
 .exact h' c s U H x xs v e Q I d a q
def a4e {r:R2}(f:UJ X r)(d:PE X a ta)(g:PE X b tb)(hs:M7 b):PE X (.Subscript a b pos) (tOp r ta tb):=by
 intro j s U H Q I h;exact Subscript_ (a2p d g I h λv u e x y c k i l q=>f a b j e U c x y v u Q k i l q (hs _ _))
def a3V (K:Frag):R2:=λx y H Q=>∃p a i v,x=.ref p/\y=.int i/\nM K H p a/\jY a i=some v/\Q v H
def a3T (K:Frag):R2:=λx y H Q=>∃p a i v,x=.ref p/\y=.int i/\nO K H p a/\jY a i=some v/\Q v H
def a3U:R2:=λx y H Q=>∃z i c,x=.str z/\y=.int i/\z.length<=sizeLine/\jY z.cps.toList i=some c/\Q (.str ⟨#[c]⟩) H
def W5:UJ X (a3V X.K):=by
 intro e d l s U H x y v u Q I D G h f;obtain⟨p,N,i,z,rfl,rfl,n,F,q⟩:=h;cases D;obtain⟨t,rfl⟩:=G;obtain⟨E,r,b,J⟩:=I.list n;obtain⟨j,a,o,L,C,B⟩:=E6 F;obtain⟨w,k,c⟩:=r.get o;have A:=r.length;have O:=rH;have fin:EP X l U Q w s:=⟨z,H,I,c,q⟩
 by_cases g:0<=i
 .have hj:i.toNat=j:=by
   rw[seqIndex_of g B] at a;exact ja2 a
  exact item_listR b.isList g (by lia) (by rw[hj];simpa using k) fin f
 .have hj:(i+(E.toArray.size:Int)).toNat=j:=by
   rw[seqIndex_neg (by lia) C] at a;rw[jav,<- A];exact ja2 a
  exact subscriptTail_builtinR (x:=w) b.isList.typeIs slot_list_getitem.lookup
   (wpAny_getItem_list_neg (Q:=λr m=>r=w/\EP X l U Q r m) b.isList (by lia) (by rw[jav]<;>lia) (by lia) (by rw[hj];simpa using k) ⟨M,fin⟩) f
def a1G:UJ X (a3T X.K):=by
 intro c b e s U H x y v u Q I A C h f;obtain⟨p,F,i,z,rfl,rfl,l,B,q⟩:=h;cases A;obtain⟨t,rfl⟩:=C;obtain⟨L,r,d,D⟩:=I.tuple l;obtain⟨j,k,m,E,J,G⟩:=E6 B;obtain⟨w,o,a⟩:=r.get m;have n:=r.length;have N:=rH;have fin:EP X e U Q w s:=⟨z,H,I,a,q⟩
 exact subscriptTail_builtinR (x:=w) d.typeIs slot_tuple_getitem.lookup
  (getItem_tuple (j:=j) (Q:=λr g=>r=w/\EP X e U Q r g) d (by lia) (by lia) (by rw[jav,<- n];exact k) (by simpa using o) ⟨M,fin⟩) f
def a1H:UJ X a3U:=by
 intro b a C s U H x y v u Q I o r h e;obtain⟨z,i,c,rfl,rfl,w,p,q⟩:=h;obtain⟨t,rfl⟩:=o;obtain⟨B,rfl⟩:=r;obtain⟨j,d,g,A,n,l⟩:=E6 p;have k:z.cps.toList.length=z.length:=by simp[Str.length]
 rw[k] at d n l;have D:=rH;exact tail_any (typeIs_str s z t) slot_str_getitem.lookup (getItem_str (c:=c) (by
  have m:decide (i < -(2 ^ 63:Int))=false:=jai (by lia);have f:decide (i ≥ 2 ^ 63)=false:=jai (by lia);rw[m,f,Bool.or_false]) (by rw[d];simpa using g) ⟨.str ⟨#[c]⟩,H,I.tok _,⟨_,M⟩,q⟩) e
def rIx (K:Frag):R2:=λx y H Q=>a3V K x y H Q\/a3T K x y H Q\/a3U x y H Q
def a1I:UJ X (rIx X.K):=W5.or (a1G.or a1H)
def JI (a:jcC)(n j:Nat)(u:Value):Obj.mapSeq (·.setIfInBounds j u) {cls:=.type "list",data:=.seq a.toArray n }={cls:=.type "list",data:=.seq (a.set j u).toArray n }:=by
 simp[Obj.mapSeq]
theorem Inv.lst {a:jcy}{U:St}{H:Hp}{s:Shared}{p:Addr}{xs:List V}(I:Inv X a U H s)(h:H p=some (.lst xs)) :
  ∃(AC:jcC)(n:Nat),Vals xs AC/\s.heap.get? p=some {cls:=.type "list",data:=.seq AC.toArray n }/\xs.length<=sizeLine:=by
 obtain⟨z,AC,n,r,e⟩:=I.hok p _ h;exact⟨AC,n,r,e,z⟩
theorem Inv.a1h {d:jcy}{U:St}{H:Hp}{s:Shared}{p:Addr}{xs ys:List V}{g its':jcC}{n a:Nat}{f:Obj->Obj}(I:Inv X d U H s)(h:H p=some (.lst xs))
  (j:s.heap.get? p=some {cls:=.type "list",data:=.seq g.toArray n }) (c:f {cls:=.type "list",data:=.seq g.toArray n }={cls:=.type "list",data:=.seq its'.toArray a }) (r:Vals ys its') (hz:ys.length<=sizeLine) (t:Nat) :
  Inv X d U (upd H p (.lst ys)) {s with heap:=s.heap.update p f,toks:=t }:=by
 have e:(s.heap.update p f).get? p=some {cls:=.type "list",data:=.seq its'.toArray a }:=by
  rw[Heap.get?_update_self f j (by rw[c]<;>rfl),c]
 refine I.write (x:=p) (e:=p) (by rw[h];trivial) (.inl M) (λb u i q=>(jcm _ _ (ja7 i)).trans q) ⟨_,e⟩ ?_;exact⟨hz,its',a,r,e⟩
def a3R:V->V->V->Hp->(Hp->Prop)->Prop:=λo i v H Q=>∃p a k j,o=.ref p/\i=.int k/\H p=some (.lst a)/\Og a.length k=some j/\Q (upd H p (.lst (a.set j v)))
def set_list:a2z X a3R:=by
 intro z s U H o i v E F u Q I A x C h;obtain⟨p,y,k,j,rfl,rfl,f,B,q⟩:=h;cases A;obtain⟨t,rfl⟩:=x;obtain⟨m,n,r,c,w⟩:=I.lst f;obtain⟨a,D,e,l⟩:=Mj B;have b:=r.length;have G:=rH;have g:Inv X z U (upd H p (.lst (y.set j v))) {s with heap:=s.heap.update p (Obj.mapSeq (·.setIfInBounds j u)) }:=
  I.a1h f c (JI m n j u) (r.set C j) (by rw[jaP];exact w) s.toks
 by_cases d:0<=k
 .have hk:k.toNat=j:=by
   rw[seqIndex_of d l] at a;exact ja2 a
  exact PySem.W.ki_setAt c d (by lia) (by rw[jav,<- b];exact l) (by rw[hk];exact⟨_,g,q⟩)
 .have hk:(k+(m.toArray.size:Int)).toNat=j:=by
   rw[seqIndex_neg (by lia) e] at a;rw[jav,<- b];exact ja2 a
  exact PySem.W.ki_setBack c (by lia) (by rw[jav,<- b];exact e) (by lia) (by rw[hk];exact⟨_,g,q⟩)
def DA (a b:Option Int)(n:Nat):(sliceBounds a b none n).1=((HT.f6 n 0 a:Nat):Int)/\(sliceBounds a b none n).2.1=((HT.f6 n n b:Nat):Int)/\(sliceBounds a b none n).2.2=1:=by
 refine⟨?_,?_,M⟩
 .cases a with
  |none=>simp[sliceBounds,HT.f6]
  |some i=>
   simp only[sliceBounds,HT.f6,Option.getD_none,show(1:Int) > 0 by decide,if_true];by_cases h:i<0
   .simp only[h,if_true]<;>lia
   .simp only[h,if_false]<;>lia
 .cases b with
  |none=>simp[sliceBounds,HT.f6]
  |some i=>
   simp only[sliceBounds,HT.f6,Option.getD_none,show(1:Int) > 0 by decide,if_true];by_cases h:i<0
   .simp only[h,if_true]<;>lia
   .simp only[h,if_false]<;>lia
def A3 (a:jcC)(b c:Option Int):slicePick a.toArray b c none=((a.drop (HT.f6 a.length 0 b)).take (HT.f6 a.length a.length c - HT.f6 a.length 0 b)).toArray:=by
 obtain⟨e,d,f⟩:=DA b c a.toArray.size;unfold slicePick;rw[e,d,f];simp only[sliceRange_one,pick_run,jav]<;>rfl
def a7e (K:Frag):V->Option Int->Option Int->Hp->VK->Prop:=λx d c H Q=>∃a b,x=.ref a/\nM K H a b/\∀p,H p=none->Q (.ref p) (upd H p (.lst (Ho b d c)))
def Va:Xz X (a7e X.K):=by
 intro u s U H x v t w e f p Q I n j l m h;obtain⟨a,c,rfl,k,q⟩:=h;cases n;obtain⟨y,r,g,i⟩:=I.list k;have d:=r.length;refine⟨"list",_,slot_list_getitem.lookup,g.isList.typeIs,?_⟩;refine wpAny_getItem_list_slice g.isList j l m .none (by simp) ?_ (by rw[jav]<;>lia);rw[A3,<- d];refine⟨.ref s.heap.objs.size,_,I.laid (t':=s.toks) (o:=.lst (Ho c e f)) (λb z q=>jaI _ q) (jaq _) ?_,M,q _ (I.hok.fresh (jaq _))⟩;exact⟨jay (wK c e f) i,_,0,(r.drop (HT.f6 c.length 0 e)).take (HT.f6 c.length c.length f - HT.f6 c.length 0 e),jaV _ M⟩
noncomputable def fY:V->Bool
 |.dD=>true
 |.bl _=>true
 |.int _=>true
 |.str _=>true
 |.sn _=>true
 |_=>false
noncomputable def CG:V->V->Bool
 |.dD,.dD=>true
 |.bl a,.bl b=>a==b
 |.bl a,.int b=>(if a then 1 else 0)==b
 |.int a,.bl b=>a==(if b then 1 else 0)
 |.int a,.int b=>a==b
 |.str a,.str b=>a==b
 |.str a,.sn b=>a==b
 |.sn a,.str b=>a==b
 |.sn a,.sn b=>a==b
 |_,_=>false
def S7 {A:Around}{s:Shared}{y x:V}{u v:Value}(f:RelV y u)(c:RelV x v)(g:fY y=true)(e:fY x=true):SeqAt.EqAt A s u v (CG y x):=by
 cases y with
 |dD=>
  cases f;cases x with
  |dD=>cases c;exact SeqAt.EqAt.same _
  |bl b=>cases c;exact SeqAt.EqAt.none_bool b
  |int b=>obtain⟨t,rfl⟩:=c;exact SeqAt.EqAt.none_int b t
  |str b=>obtain⟨t,rfl⟩:=c;exact SeqAt.EqAt.none_str b t
  |sn b=>obtain⟨t,_,rfl⟩:=c;exact SeqAt.EqAt.none_str b t
  |_=>exact absurd (show false=true from e) jaA
 |bl a=>
  cases f;cases x with
  |dD=>cases c;exact SeqAt.EqAt.bool_none a
  |bl b=>cases c;exact SeqAt.EqAt.bool_bool a b
  |int b=>obtain⟨t,rfl⟩:=c;exact SeqAt.EqAt.bool_int a b t
  |str b=>obtain⟨t,rfl⟩:=c;exact SeqAt.EqAt.bool_str a b t
  |sn b=>obtain⟨t,_,rfl⟩:=c;exact SeqAt.EqAt.bool_str a b t
  |_=>exact absurd (show false=true from e) jaA
 |int a=>
  obtain⟨d,rfl⟩:=f;cases x with
  |dD=>cases c;exact SeqAt.EqAt.int_none a d
  |bl b=>cases c;exact SeqAt.EqAt.int_bool a d b
  |int b=>obtain⟨t,rfl⟩:=c;exact SeqAt.EqAt.int_int a d b t
  |str b=>obtain⟨t,rfl⟩:=c;exact SeqAt.EqAt.int_str a d b t
  |sn b=>obtain⟨t,_,rfl⟩:=c;exact SeqAt.EqAt.int_str a d b t
  |_=>exact absurd (show false=true from e) jaA
 |str a=>
  obtain⟨d,rfl⟩:=f;cases x with
  |dD=>cases c;exact SeqAt.EqAt.str_none a d
  |bl b=>cases c;exact SeqAt.EqAt.str_bool a d b
  |int b=>obtain⟨t,rfl⟩:=c;exact SeqAt.EqAt.str_int a d b t
  |str b=>obtain⟨t,rfl⟩:=c;exact SeqAt.EqAt.str_str a d b t
  |sn b=>obtain⟨t,_,rfl⟩:=c;exact SeqAt.EqAt.str_str a d b t
  |_=>exact absurd (show false=true from e) jaA
 |sn a=>
  obtain⟨d,_,rfl⟩:=f;cases x with
  |dD=>cases c;exact SeqAt.EqAt.str_none a d
  |bl b=>cases c;exact SeqAt.EqAt.str_bool a d b
  |int b=>obtain⟨t,rfl⟩:=c;exact SeqAt.EqAt.str_int a d b t
  |str b=>obtain⟨t,rfl⟩:=c;exact SeqAt.EqAt.str_str a d b t
  |sn b=>obtain⟨t,_,rfl⟩:=c;exact SeqAt.EqAt.str_str a d b t
  |_=>exact absurd (show false=true from e) jaA
 |_=>exact absurd (show false=true from g) jaA
def G8 (x:V)(u:Value):Bool:=match u with
 |.none=>CG .dD x
 |.bool b=>CG (.bl b) x
 |.int i _=>CG (.int i) x
 |.str z _=>CG (.str z) x
 |_=>false
def J4 {x y:V}{u:Value}(r:RelV y u)(f:fY y=true):G8 x u=CG y x:=by
 cases y with
 |dD=>cases r;rfl
 |bl b=>cases r;rfl
 |int i=>obtain⟨t,rfl⟩:=r;rfl
 |str z=>obtain⟨t,rfl⟩:=r;rfl
 |sn z=>obtain⟨t,_,rfl⟩:=r;cases x<;>rfl
 |_=>exact absurd (show false=true from f) jaA
theorem uq {x:V}:∀{xs:List V}{us:jcC},Vals xs us->xs.all fY=true->us.any (G8 x)=xs.any λy=>CG y x
 |_,_,.nil,_=>rfl
 |y::xs,u::us,.cons r t,f=>by
  rw[List.all_cons,jaM] at f;rw[jbi,jbi,J4 r f.1,uq t f.2]
theorem lJ {A:Around}{s:Shared}{x:V}{v:Value}(c:RelV x v)(b:fY x=true):∀{xs:List V}{us:jcC},Vals xs us->xs.all fY=true->∀u∈us,SeqAt.EqAt A s u v (G8 x u)
 |_,_,.nil,_=>λu a=>by cases a
 |y::xs,u::us,.cons r t,f=>λd a=>by
  rw[List.all_cons,jaM] at f;rcases jae.mp a with rfl | a
  .rw[J4 r f.1];exact S7 r c f.1 b
  .exact lJ c b t f.2 d a
def H8 (x:V)(xs:List V):Bool:=xs.any λy=>CG y x
def rIn (K:Frag)(b:Bool):R2:=λx y H Q=>∃p a,y=.ref p/\(nM K H p a\/nO K H p a)/\fY x=true/\a.all fY=true/\Q (.bl (if b then !H8 x a else H8 x a)) H
def Cu:lA X (compareOp .In) (rIn X.K false):=by
 intro g s U H x y v u Q I d e h;obtain⟨p,f,rfl,a,c,fs,q⟩:=h;cases e;rcases a with a | a
 .obtain⟨AC,r,pl,hz⟩:=I.list a;refine SeqAt.in_listAt (G8 x) pl.isList (λw b=>lJ d c r fs w (by simpa using b)) ⟨.bl _,H,I,M,?_⟩;rw[show AC.toArray.any (G8 x)=AC.any (G8 x) by simp,uq r fs];exact q
 .obtain⟨AC,r,pl,hz⟩:=I.tuple a;refine SeqAt.in_tupleAt (G8 x) pl (λw b=>lJ d c r fs w (by simpa using b)) ⟨.bl _,H,I,M,?_⟩;rw[show AC.toArray.any (G8 x)=AC.any (G8 x) by simp,uq r fs];exact q
def tO:lA X (compareOp .NotIn) (rIn X.K true):=by
 intro g s U H x y v u Q I d e h;obtain⟨p,f,rfl,a,c,fs,q⟩:=h;cases e;rcases a with a | a
 .obtain⟨AC,r,pl,hz⟩:=I.list a;refine SeqAt.notIn_listAt (G8 x) pl.isList (λw b=>lJ d c r fs w (by simpa using b)) ⟨.bl _,H,I,M,?_⟩;rw[show AC.toArray.any (G8 x)=AC.any (G8 x) by simp,uq r fs];exact q
 .obtain⟨AC,r,pl,hz⟩:=I.tuple a;refine SeqAt.notIn_tupleAt (G8 x) pl (λw b=>lJ d c r fs w (by simpa using b)) ⟨.bl _,H,I,M,?_⟩;rw[show AC.toArray.any (G8 x)=AC.any (G8 x) by simp,uq r fs];exact q
def EY:fL X (.builtin "len") (λxs H Q=>∃p ys,xs=[.ref p]/\(nM X.K H p ys\/nO X.K H p ys)/\Q (.int ys.length) H):=by
 intro e s U H xs d Q I r h;obtain⟨p,ys,rfl,b,q⟩:=h;obtain⟨u,rfl,c⟩:=vals1 r;cases c;have f:=rH;rcases b with b | b
 .obtain⟨AC,r',pl,hz⟩:=I.list b;have a:=r'.length;exact Calls.call_len_list pl.isList (by simp only[jav]<;>lia) ⟨.int ys.length,H,I.tok _,⟨s.toks+1,by rw[jav,a]⟩,q⟩
 .obtain⟨AC,r',pl,hz⟩:=I.tuple b;have a:=r'.length;exact len_tuple pl (by simp only[jav]<;>lia) ⟨.int ys.length,H,I.tok _,⟨s.toks+1,by rw[jav,a]⟩,q⟩
def EX:fL X (.builtin "len") (λxs H Q=>∃z,xs=[.str z]/\z.length<=sizeLine/\Q (.int z.length) H):=by
 intro c s U H xs b Q I r h;obtain⟨z,rfl,a,q⟩:=h;obtain⟨u,rfl,t,rfl⟩:=vals1 r;have d:=rH;exact len_str (by lia) ⟨.int z.length,H,I.tok _,⟨_,M⟩,q⟩
def fL.or {f:Value}{r b:List V->Hp->VK->Prop}(h:fL X f r)(h':fL X f b):fL X f (λxs H Q=>r xs H Q\/b xs H Q):=by
 intro c s U H xs d Q I a q;rcases q with q | q
 .exact h c s U H xs d Q I a q
 .exact h' c s U H xs d Q I a q
def EW:fL X (.type "list") (λxs H Q=>∃p ys,xs=[.ref p]/\(nM X.K H p ys\/nO X.K H p ys)/\∀l,H l=none->Q (.ref l) (upd H l (.lst ys))):=by
 intro y s U H xs z Q I r h;obtain⟨p,ys,rfl,j,q⟩:=h;obtain⟨u,rfl,x⟩:=vals1 r;cases x;have fin:∀(c:jcC),Vals ys c->ys.length<=sizeLine->∀(a:Heap)(d:Nat),(∀b o',s.heap.get? b=some o'->a.get? b=some o')->
   a.get? s.heap.objs.size=some {cls:=.type "list",dict:=none,data:=.seq c.toArray d,slots:=#[] }->EP X y U Q (.ref s.heap.objs.size) {s with heap:=a }:=λc f g a d i e=>
  ⟨.ref s.heap.objs.size,_,I.laid (t':=s.toks) i (jaq _) (show dG X.prog X.w _ a _ (.lst ys) from⟨g,c,d,f,e⟩),M,q _ (I.hok.fresh (jaq _))⟩
 rcases j with j | j
 .obtain⟨c,f,pl,g⟩:=I.list j;have k:=f.length;obtain⟨o,v,m,n,t⟩:=pl.isList;exact call_list_seq p (.inl M) v m t (λa d i e=>fin c f g a d i e) (by simp only[jav]<;>lia)
 .obtain⟨c,f,pl,g⟩:=I.tuple j;have k:=f.length;obtain⟨o,v,m,n,t⟩:=pl;exact call_list_seq p (.inr M) v m t (λa d i e=>fin c f g a d i e) (by simp only[jav]<;>lia)
def BD:fL X (.type "tuple") (λxs H Q=>∃p ys,xs=[.ref p]/\((nM X.K H p ys/\∀l,H l=none->Q (.ref l) (upd H l (.tup ys)))\/(nO X.K H p ys/\Q (.ref p) H))):=by
 intro g s U H xs m Q I r h;obtain⟨p,ys,rfl,h⟩:=h;obtain⟨u,rfl,j⟩:=vals1 r;cases j;rcases h with⟨c,q⟩ | ⟨c,q⟩
 .obtain⟨AC,r',pl,hz⟩:=I.list c;have f:=r'.length;refine call_tuple_list pl.isList (λa i=>?_) (by simp only[jav]<;>lia);have d:Inv X g U H {s with heap:=a }:=I.kept (t':=s.toks) i;have k:Inv X g U (upd H a.objs.size (.tup ys)) {s with heap:=a.push {cls:=.type "tuple",data:=.seq AC.toArray } }:=
   d.laid (t':=s.toks) (λb o e=>jaI _ e) (jaq _) (show dG X.prog X.w _ _ _ (.tup ys) from⟨hz,AC,r',IsTup.new _ _⟩)
  exact⟨.ref a.objs.size,_,k,M,q _ (d.hok.fresh (jaq _))⟩
 .obtain⟨AC,r',pl,hz⟩:=I.tuple c;exact call_tuple_same pl ⟨.ref p,H,I,M,q⟩
def tyV (K:Frag)(T:String)(x:V)(H:Hp):Prop:=match x with
 |.str _=>T="str"
 |.int _=>T="int"
 |.ref p=>(T="list"/\∃b,nM K H p b)\/(T="tuple"/\∃o,K.lookup p=some o/\o.cls=.type "tuple"/\o.dict=none)\/
   (T="dict"/\((∃a,H p=some (.dK a))\/∃a,H p=some (.dT a)))\/(T="set"/\∃S n,H p=some (.set S n))
 |_=>False
theorem O0 {l:jcy}{U:St}{H:Hp}{s:Shared}{T:String}{x:V}{v:Value}(I:Inv X l U H s)(r:RelV x v)(d:tyV X.K T x H) :
  s.TypeIs v T/\∀a,v=.ref a->∃ob,s.heap.get? a=some ob/\ob.dict=none:=by
 cases x with
 |str z=>
  obtain⟨t,rfl⟩:=r;cases(show T="str" from d);exact⟨typeIs_str s z t,λ_ e=>nomatch e⟩
 |int i=>
  obtain⟨t,rfl⟩:=r;cases(show T="int" from d);exact⟨typeIs_int s i t,λ_ e=>nomatch e⟩
 |ref p=>
  cases r;rcases d with⟨rfl,m,k⟩ | ⟨rfl,o,hk,j,h⟩ | ⟨rfl,hk⟩ | ⟨rfl,S,n,hk⟩
  .obtain⟨AC,_,pl,_⟩:=I.list k;refine⟨pl.isList.typeIs,λa e=>?_⟩;cases e;obtain⟨o,n,e,c,h,_⟩:=pl;exact⟨o,e,h⟩
  .refine⟨⟨o,I.uN p o hk,j⟩,λa e=>?_⟩;cases e;exact⟨o,I.uN _ o hk,h⟩
  .have z:∃o,s.heap.get? p=some o/\o.ExactDict:=by
    rcases hk with⟨f,hk⟩ | ⟨f,hk⟩
    .obtain⟨_,_,_,_,o,_,_,e,b,_⟩:=I.hok p _ hk;exact⟨o,e,b⟩
    .obtain⟨_,_,_,_,o,_,_,e,b,_⟩:=I.hok p _ hk;exact⟨o,e,b⟩
   obtain⟨o,e,b⟩:=z;refine⟨⟨o,e,b.1⟩,λa g=>?_⟩;cases g;exact⟨o,e,b.2.1⟩
  .obtain⟨o,_,_,_,e,b,_⟩:=I.hok p _ hk;refine⟨⟨o,e,b.1⟩,λa g=>?_⟩;cases g;exact⟨o,e,b.2.1⟩
 |_=>exact False.elim d
def a3z (K:Frag)(T:String)(r:V->List V->Hp->VK->Prop)(b:TE):TE:=λU H Q=>b U H λx a=>tyV K T x a/\r x [] a Q
def tBM (K:Frag)(T:String)(r:V->List V->Hp->VK->Prop)(c:TE)(t:TA):TE:=λU H Q=>c U H λx a=>tyV K T x a/\t U a λd b=>r x d b Q
variable {o e:Expr}{es:jcE}{to:TE}{t:TA}{name:Str}{BM cpos:Pos}{T id:String}{r:V->List V->Hp->VK->Prop}
theorem a0K (g:PlainAttrs T)(a:Slot T name id)(b:typeOf (.builtin id)=pure (.type "method_descriptor"))(q:uP X id r)(l:PE X o to)
  (t:autoParam (attributeBase o name X.env (eval o X.env)=eval o X.env) zi) (f:autoParam ((BM.endLine==cpos.line)=true) zi):PE X (.Call (.Attribute o name BM) [] [] cpos) (a3z X.K T r to):=by
 intro e s U H Q I h;refine wpAny_Call_method0_late t f (cU (l e s U H _ I h) ?_);rintro v k ⟨x,j,c,d,n,p⟩;obtain⟨i,m⟩:=O0 c d n;exact⟨T,id,g,a,b,i,m,jcn rfl (PySem.evalArgs_none (q e k U j x [] v [] Q c d .nil p))⟩
theorem a4f (n:PlainAttrs T)(b:Slot T name id)(d:typeOf (.builtin id)=pure (.type "method_descriptor"))(J:uP X id r)(C:PE X o to)(p:PA X (e::es) t)
  (L:autoParam (attributeBase o name X.env (eval o X.env)=eval o X.env) zi)
  (c:autoParam (((backTo cpos (starEach (e::es) X.env)).all (λx=>!x.1)&&(backToKw cpos (keywordEach [] X.env)).all (λx=>x.1.isSome)
  &&decide ((e::es).length+([]:List Keyword).length+(if([]:List Keyword).isEmpty then 0 else 1)<30))=true) zi)
  (k:autoParam ((BM.endLine==cpos.line)=true) zi) (hs:autoParam (starEach (e::es) X.env=(false,eval e X.env)::starEach es X.env) zi) (a:autoParam ((backTo cpos (starEach es X.env)).any (·.1)=false) zi) :
  PE X (.Call (.Attribute o name BM) (e::es) [] cpos) (tBM X.K T r to t):=by
 intro f s U H Q I h;refine wpAny_Call_method_late L c k rfl (cU (C f s U H _ I h) ?_);rintro v B ⟨x,z,i,j,E,G⟩;obtain⟨q,D⟩:=O0 i j E;refine⟨T,id,n,b,d,q,D,?_⟩;have g:=p cpos f B U z _ i G;rw[hs] at g ⊢;refine jcn (by show(false||(backTo cpos (starEach es X.env)).any (·.1))=false;rw[a]<;>rfl) (Calls.evalArgs_plain ?_);exact cU g (by rintro u w ⟨y,m,F,l,A⟩;exact J f w U m x y v u Q F j l A)
end
def MtM (X:Cx)(id:String)(r:V->List V->Hp->VK->Prop):Prop:=
 ∀(vy:jcy) (s:Shared) (U:St) (H:Hp) (x:V) (xs:List V) (v:Value) (us:jcC) (Q:VK),Inv X vy U H s->RelV x v->Vals xs us->r x xs H Q->
  wpAny (model X.prog X.w) X.A (call (.builtin id) (v::us)) (EP X vy U Q) X.xe s
def Vals.one:∀{x:V}{us:jcC},Vals [x] us->∃u,us=[u]/\RelV x u:=by
 intro x us h;cases h with
 |cons r t=>cases t;exact⟨_,M,r⟩
theorem Vals.zero:∀{us:jcC},Vals [] us->us=[]
 |_,.nil=>rfl
def Vals.dropLast {xs:List V}{us:jcC}(h:Vals xs us):Vals xs.dropLast us.dropLast:=by
 induction h with
 |nil=>exact .nil
 |cons r t a=>
  cases t with
  |nil=>exact .nil
  |cons q b=>exact .cons r a
theorem Vals.rep {xs:List V}{us:jcC}(h:Vals xs us):∀k:Nat,Vals (List.replicate k xs).flatten (List.replicate k us).flatten
 |0=>.nil
 |k+1=>by
  rw[jbf,jbf,jaG,jaG];exact Vals.append h (Vals.rep h k)
def J3 {α:Type}(l:List α):l.eraseIdx (l.length - 1)=l.dropLast:=by
 induction l with
 |nil=>rfl
 |cons a r c=>
  cases r with
  |nil=>rfl
  |cons b r=>
   have e:(a::b::r).length - 1=((b::r).length - 1)+1:=by
    have f:(a::b::r).length=r.length+2:=rfl;have d:(b::r).length=r.length+1:=rfl;lia
   rw[e,List.eraseIdx_cons_succ,c]
   all_goals rfl
theorem foldl_rep (a:jcC):∀(k:Nat)(acc:jcC),
  List.foldl (λx1 x2=>x1++x2) acc.toArray (List.replicate k a.toArray)=(acc++(List.replicate k a).flatten).toArray
 |0,acc=>by simp
 |k+1,acc=>by
  have e:acc.toArray++a.toArray=(acc++a).toArray:=by simp
  have b:(acc++a)++(List.replicate k a).flatten=acc++(List.replicate (k+1) a).flatten:=by
   rw[jbf,jaG,jax]
  rw[<- b,<- foldl_rep a k (acc++a),<- e,jbf,List.foldl_cons]
section
variable {X:Cx}{vy:jcy}{U:St}{H:Hp}{s:Shared}{l b:Addr}{xs ys zs:List V}
theorem Inv.WO {a its':jcC}{n:Nat}{f:Array Value->Array Value}{t':Nat}(I:Inv X vy U H s)(g:H l=some (.lst xs))
  (e:s.heap.get? l=some {cls:=.type "list",data:=.seq a.toArray n }) (b:f a.toArray=its'.toArray) (h:Vals ys its') (hz:ys.length<=sizeLine) :
  Inv X vy U (upd H l (.lst ys)) {s with heap:=s.heap.update l (Obj.mapSeq f),toks:=t' }:=by
 have q:=PySem.IsL.update e f;rw[b] at q;refine I.write (x:=l) (e:=l) (by rw[g];exact trivial) (.inl M) (λi u d c=>(jcm s.heap (Obj.mapSeq f) (ja7 d)).trans c) ⟨_,q⟩ ?_;exact⟨hz,its',_,h,q⟩
theorem Inv.a1j {a:jcC}{t':Nat}(I:Inv X vy U H s)(b:Vals ys a)(hz:ys.length<=sizeLine) :
  Inv X vy U (upd H s.heap.objs.size (.lst ys)) {s with heap:=s.heap.push {cls:=.type "list",data:=.seq a.toArray },toks:=t' }:=
 I.laid (λ_ _ q=>jaI _ q) (jaq _) ⟨hz,a,0,b,jaV _ M⟩
def Inv.fresh (I:Inv X vy U H s):H s.heap.objs.size=none:=I.hok.fresh (jaq _)
def Inv.Eu (I:Inv X vy U H s)(a:H l=some (.lst xs)):xs.length<=sizeLine/\∃(AC:jcC)(n:Nat),Vals xs AC/\xs.length=AC.length/\s.heap.get? l=some {cls:=.type "list",data:=.seq AC.toArray n }:=by
 obtain⟨z,AC,n,r,e⟩:=I.hok l _ a;exact⟨z,AC,n,r,r.length,e⟩
def zZ {n:Nat}(h:n<=sizeLine):Builtin.List.listTooLong n=false:=by
 unfold Builtin.List.listTooLong;exact jai (by lia)
end
section
variable {X:Cx}
def VC:V->List V->Hp->VK->Prop:=λx b H Q=>∃l a y,x=.ref l/\b=[y]/\H l=some (.lst a)/\a.length<sizeLine/\Q .dD (upd H l (.lst (a++[y])))
def N5:MtM X "list.append" VC:=by
 intro m s U H x j v i Q I d f h;obtain⟨l,k,y,rfl,rfl,a,g,q⟩:=h;cases d;obtain⟨u,rfl,c⟩:=f.one;obtain⟨z,b,n,r,o,e⟩:=I.Eu a;refine jbc F.slot_list_append ⟨_,e,M⟩ F.entry_list_append (F.args_list_append_2 _ _) (PySem.list_append l b.toArray n u (by rw[jav];lia)) ⟨e,?_⟩;refine⟨.dD,_,I.WO (its':=b++[u]) a e (by simp) (r.append (.cons c .nil)) ?_,M,q⟩;rw[jag,jbe];lia
def VA:V->List V->Hp->VK->Prop:=λx d H Q=>∃l b a c,x=.ref l/\d=[.ref b]/\H l=some (.lst a)/\H b=some (.lst c)/\a.length+c.length<=sizeLine/\Q .dD (upd H l (.lst (a++c)))
def N4:MtM X "list.extend" VA:=by
 intro G s U H x B v E Q I p w h;obtain⟨l,b,C,J,rfl,rfl,f,o,y,q⟩:=h;cases p;obtain⟨u,rfl,g⟩:=w.one;cases g;obtain⟨z,c,n,r,D,e⟩:=I.Eu f;obtain⟨A,a,j,k,t,i⟩:=I.Eu o;have d:c.toArray.size+a.toArray.size<=sizeLine:=by rw[jav,jav];lia
 have m:¬(!c.toArray.isEmpty&&Builtin.List.listTooLong (c.toArray.size+a.toArray.size))=true:=by
  rw[zZ d,Bool.and_false];exact jaA
 refine jbc F.slot_list_extend ⟨_,e,M⟩ F.entry_list_extend (F.args_list_extend_2 _ _)
  (AutoSeq1.list_extend_list_list_0 l c.toArray n b a.toArray j m (by rw[jav];lia) (by lia)) ⟨e,i,?_⟩
 refine⟨.dD,_,I.WO (its':=c++a) f e (by simp) (r.append k) ?_,M,q⟩;rw[jag];lia
def a7h:V->List V->Hp->VK->Prop:=λx b H Q=>∃l a y,x=.ref l/\b=[]/\H l=some (.lst a)/\a[a.length - 1]?=some y/\Q y (upd H l (.lst a.dropLast))
def a1c:MtM X "list.pop" a7h:=by
 intro w s U H x p v o Q I j m h;obtain⟨l,t,y,rfl,rfl,d,i,q⟩:=h;cases j;have c:=m.zero;subst c;obtain⟨z,a,n,r,k,e⟩:=I.Eu d;obtain⟨u,g,f⟩:=r.get i;have b:a.toArray[a.toArray.size - 1]?=some u:=by
  show a.toArray[a.length - 1]?=some u;rw[<- Array.getElem?_toList,<- k];exact g
 refine jbc F.slot_list_pop ⟨_,e,M⟩ F.entry_list_pop (F.args_list_pop_1 _) (MeetsSeq.list_pop_last l a.toArray n u b (by rw[jav];lia)) ⟨e,?_⟩;refine⟨y,_,I.WO (its':=a.dropLast) d e ?_ r.dropLast ?_,f,q⟩
 .show a.toArray.eraseIdxIfInBounds (a.toArray.size - 1)=a.dropLast.toArray;rw[jav,List.eraseIdxIfInBounds_toArray,J3]
 .rw[List.length_dropLast];lia
def a7l:R2:=λx y H Q=>∃l b a c,x=.ref l/\y=.ref b/\H l=some (.lst a)/\H b=some (.lst c)/\a.length+c.length<=sizeLine/\∀p,H p=none->Q (.ref p) (upd H p (.lst (a++c)))
def Rv:lA X (binaryOp .Add) a7l:=by
 intro C s U H x y v u Q I k o h;obtain⟨l,b,A,D,rfl,rfl,i,j,p,q⟩:=h;cases k;cases o;obtain⟨z,c,n,r,B,e⟩:=I.Eu i;obtain⟨t,a,w,g,m,f⟩:=I.Eu j;refine PySem.P.add_list e f ?_ (by rw[jav,jav];lia);have d:c.toArray++a.toArray=(c++a).toArray:=by simp
 rw[d];exact⟨.ref _,_,I.a1j (t':=s.toks) (r.append g) (by rw[jag];lia),M,q _ I.fresh⟩
def a7g:R2:=λx y H Q=>∃l k a,x=.ref l/\y=.int k/\H l=some (.lst a)/\-(2 ^ 63)<=k/\k<2 ^ 63/\a.length*k.toNat<=sizeLine/\
 ∀p,H p=none->Q (.ref p) (upd H p (.lst (List.replicate k.toNat a).flatten))
def len_rep {α:Type}(xs:List α)(k:Nat):(List.replicate k xs).flatten.length=k*xs.length:=by
 induction k with
 |zero=>simp
 |succ k a=>rw[jbf,jaG,jag,a,Nat.succ_mul,Nat.add_comm]
def a0Q:lA X (binaryOp .Mult) a7g:=by
 intro N s U H x y v u Q I G J h;obtain⟨l,k,K,rfl,rfl,D,A,B,o,q⟩:=h;cases G;obtain⟨t,rfl⟩:=J;obtain⟨z,b,n,r,C,e⟩:=I.Eu D;have f:b.toArray.size*k.toNat<=sizeLine:=by rw[jav,<- C];exact o
 have d:¬ b.toArray.size*k.toNat > (2 ^ 63 - 1) / 8:=by
  have:(sizeLine:Nat)<=(2 ^ 63 - 1) / 8:=by decide
  lia
 have g:¬(!Builtin.List.listFitsIndex k)=true:=by
  rw[fitsIndex_both A B];exact jaA
 have E:¬ Builtin.List.listTooLong (b.toArray.size*k.toNat)=true:=by
  rw[zZ f];exact jaA
 have c:List.foldl (λi j=>i++j) #[] (List.replicate (if b.toArray.isEmpty=true then 0 else k.toNat) b.toArray)=(List.replicate k.toNat b).flatten.toArray:=by
  have p:∀m:Nat,List.foldl (λi j=>i++j) #[] (List.replicate m b.toArray)=(List.replicate m b).flatten.toArray:=λm=>by
   have:=foldl_rep b m [];rw[jbM] at this;exact this
  rw[p];cases b with
  |nil=>simp
  |cons a L=>rw[jaa (by simp)]
 refine wpAny_binaryOp_repeat_ref (T:="list") (U:="int") (by decide) ⟨_,e,M⟩ (λw=>typeIs_int w k t) noFill_list_mul F.fills_int_mul F.slot_int_rmul repeat_list F.slot_int_index.lookup
  (jbc F.slot_int_rmul (typeIs_int s k t) F.entry_int_rmul (F.args_int_rmul_2 _ _) (int___rmul___int_list k t l b.toArray n)
   ⟨e,M,⟨_,e,M⟩,jbc F.slot_list_mul ⟨_,e,M⟩ F.entry_list_mul (F.args_list_mul_2 _ _) (AutoListH.list___mul___list_int_3 l b.toArray n k t g d E) ⟨e,?_⟩⟩)
 rw[c];exact⟨.ref _,_,I.a1j (t':=s.toks) (r.rep k.toNat) (by rw[len_rep,Nat.mul_comm];exact o),M,q _ I.fresh⟩
end
section
variable {prog:Program}{w:World}{A:Around}{E:jcz}{s:Shared}
end
section
variable {X:Cx}
end
end L2
namespace Att
open PySem PySem.W PySem.Calls PyProof.Rows
def xy {P:Params}{h:Heap}:∀(ns:List Int)(vs:jcC),WellAll P h vs (ns.map WData.int)->IntsAre vs ns:=by
 intro ns
 induction ns with
 |nil=>
  intro vs w;rw[jaU] at w;cases w;exact .nil
 |cons n ns c=>
  intro vs w;rw[jaf] at w;cases w with
  |cons a b=>
   cases a;exact .cons _ _ (c _ b)
theorem Nq {l:OpenLaw}{n:Nat}(x:l.most=some n){P:Params}{h:Heap}{args:List WData}{c:jcC}
  (b:l.row.toRowW.claim.pre args=true) (j:WellAll P h c args) :
  ∃a vs ns,c=[Value.ref a]/\args=[WData.list (ns.map WData.int)]/\h.get? a=some {cls:=.type "list",data:=.seq vs.toArray }/\IntsAre vs ns/\ns.length<=n:=by
 have k:WShape.hasAll [] args [.list .int]=true:=(pre_splitW b).1;have m:l.pre.holds [] {args:=args }=true:=(pre_splitW b).2;obtain⟨d,r,rfl,s,v⟩:=hasAllW_cons k;obtain rfl:=hasAllW_nil v;obtain⟨y,rfl,t⟩:=hasW_list s;obtain⟨ns,rfl⟩:=items_int t;have e:ns.length<=n:=by
  unfold OpenLaw.pre at m;have g:(WTm.not (.lt (.lit (.int (n:Int))) (.len (.arg 0)))).holds [] {args:=[.list (ns.map .int)] }=true:=by
   have g:=(holds_andW m).1;rw[x] at g;exact g
  have i:=condW_of g (w_not (w_lt w_lit (w_len_list (w_arg M))));rw[jad] at i;refine Nat.le_of_not_lt λq=>?_;have p:(n:Int)<((ns.length:Nat):Int):=by lia
  first
   |(rw[jah p] at i;exact absurd i (by decide))
   |(simp at i;lia)
 cases j with
 |cons o u=>
  cases u;cases o with
  |list w f=>exact⟨_,_,ns,M,M,w,xy ns _ f,e⟩
theorem NB (l:OpenLaw)(args:List WData):l.row.toRowW.claim.post args (.bool true) args=true:=
 postW_of (r:=l.row.toRowW) (X:=(true==true))
  (show WShape.has [] (.bool true) .bool=true by first | rfl | decide | simp[WShape.has,WShape.arms,WShape.armsAll])
  (show(WTm.eq .res (.lit (.bool true))).value [] {args:=args,res:=some (.bool true),after:=args }=some (.bool (true==true)) from w_eq_bool (w_res M) w_lit) rfl
theorem HE {l:OpenLaw}{n:Nat}{q:Program}{b:jcB}{E:(Str->jcG)->Heap->Prop}{C:World->Heap->Prop}{d:DefRec}
  (J:l.most=some n) (p:d.params.defaults=[])
  (call:∀(w:World)(s₀ s₁:Shared)(k u:Str->jcG)(i:Addr)(o:Obj)(t cd c:Value)(a:Addr) (vs:jcC) (m:List Int),
   Ground q b [] E w s₀ k u s₁.heap->C w s₁.heap->
   s₁.heap.get? i=some o->o.data=.func (docDef d.name d.params d.body d.scope t cd c)->s₁.heap.CodeRec cd d.name->k d.name=some (.ref i)->
   s₁.heap.get? a=some {cls:=.type "list",data:=.seq vs.toArray }->IntsAre vs m->m.length<=n->s₁.gens=#[]->
   codeAny (model l.prog w) callerA (.call (.ref i) ⟨[.ref a],[]⟩) (λr s'=>r=.ok (.ret (.bool true))/\OldK s₁.heap s'.heap/\s'.os=s₁.os/\AllBare s'.gens) s₁) :
  WalkO q b E C l.row.toRowW d [] (λf vs=>PySem.call f vs):=by
 intro w s₀ s₁ k u G F i o t cd c H kV R P v B y O z D U h A S x N;obtain rfl:H=.none:=Dflts.none B p;obtain rfl:kV=.none:=Dflts.noKw B;obtain⟨a,vs,m,rfl,rfl,g,e,j⟩:=Nq J h x;refine enter_call (codeAny_mono (call w s₀ s₁ k u i o t cd c a vs m G F R (fd_plain P) v y g e j O) λr s' K=>?_);obtain⟨rfl,L,I,Q⟩:=K;exact⟨.inl ⟨.bool true,.bool true,[],M,λ_=>rfl,.bool true,NB l _,λ_=>⟨List.Pairwise.nil,λ_ T=>(nomatch T)⟩⟩,L,I,Q⟩
section
variable {prog:Program}{w:World}{A:Around}{E:jcz}{s:Shared}{K:Frag}
end
end Att
namespace L2
open PySem PySem.Spec PyProof.Rows
theorem Cf:∀{vs:jcC}{ns:List Int},IntsAre vs ns->Vals (ns.map V.int) vs
 |_,_,.nil=>.nil
 |_,_,.cons n t h=>.cons ⟨t,M⟩ (Cf h)
def a2A (H:Hp):Prop:=∀b,H b=none\/∃o a,H b=some (.vE o (.lst a))
theorem R7 {P:Program}{w:World}{K:Frag}{t N:Str->jcG}{CX:Na}{k:Nat}{S a:Addr}{U:FuncData}{x:Str}{sp:Sp}{s₁:Shared}{vs:jcC}{G:List Int}
  (KX:K.In s₁.heap) (B:s₁.heap.Ns mainGlobals t) (c:s₁.heap.Ns builtinsNs N) (L:∀x:Str,x≠"__name__"->N x=bootBuiltins x) (l:s₁.heap.NoLimit) (hg:s₁.gens=#[])
  (I:s₁.heap.get? a=some {cls:=.type "list",data:=.seq vs.toArray }) (hi:IntsAre vs G) (X:G.length<=sizeLine) (hr:dP k callerA)
  (F:∀base:Heap,K.In base->base.Ns mainGlobals t->gi P w K t base CX k S U [x] sp) (j:∀(s:Shared)(u:Value),BindsTo s U ⟨[u],[]⟩ [(x,u)])
  (Yw:∀H:Hp,a2A H->nM K H a (G.map V.int)->sp [.ref a] H (λv _=>v=.bl true) λ_ _ _=>False)
  (T:∀H e s',CX [] H s₁ (λ_ _ _=>False) e s'->False) :
  codeAny (model P w) callerA (.call (.ref S) ⟨[.ref a],[]⟩) (λr s'=>r=.ok (.ret (.bool true))/\OldK s₁.heap s'.heap/\s'.os=s₁.os/\AllBare s'.gens) s₁:=by
 have rv:=Cf hi;have J:=hi.length;have g:∀H:Hp,a2A H->nM K H a (G.map V.int)->sy P w H s₁.heap->(∀b,H b≠none->b=a)->(H a≠none->K.lookup a=none)->
   codeAny (model P w) callerA (.call (.ref S) ⟨[.ref a],[]⟩) (λr s'=>r=.ok (.ret (.bool true))/\OldK s₁.heap s'.heap/\s'.os=s₁.os/\AllBare s'.gens) s₁:=by
  intro H hO hS p Z hK;have W:∀{b:Addr}{o:Obj},s₁.heap.get? b=some o->H b=none->(EC s₁.heap H).get? b=some o:=λe n=>SD e n;have O:∀{b:Addr}{o:Obj}{D:Array DictEntry}{y:Nat},s₁.heap.get? b=some o->o.data=.dict D y->H b=none:=λ{b o D y} e d=>by
   cases q:H b with
   |none=>rfl
   |some u=>
    have R:b=a:=Z b (by rw[q];simp);subst R;rw[I] at e;cases e;have d':Data.seq vs.toArray _=Data.dict D y:=d;cases d'
  have f:∀{b:Addr}{m:Str->jcG},s₁.heap.Ns b m->(EC s₁.heap H).Ns b m:=λ{b m} ⟨o,D,y,e,d,r⟩=>⟨o,D,y,W e (O e d),d,r⟩
  have A:K.In (EC s₁.heap H):=λb o e=>W (KX b o e) (by
   cases q:H b with
   |none=>rfl
   |some u=>
    have R:b=a:=Z b (by rw[q];simp);subst R;rw[hK (by rw[q];simp)] at e;cases e)
  have hM:Mod K t (EC s₁.heap H):=⟨A,f B,⟨N,f c,L⟩,let⟨mc,h1,h2⟩:=l;⟨mc,f h1,h2⟩⟩
  have e0:KA P w K t (EC s₁.heap H) callerA [] s₁ H:=⟨M,hM,λb o e=>WD e,Nat.le_of_eq (Oo _ _),trivial,λb c=>absurd (show b∈([]:jcD) from c) (by simp),p,.of_eq hg⟩
  refine codeAny_mono ((F _ A (f B)).run callerA [] s₁ H ⟨[.ref a],[]⟩ [.ref a] [.ref a] _ _ hr e0 (j s₁ (.ref a)) (.cons rfl .nil) (Yw H hO hS)) λr s' h=>?_;cases r with
  |error e=>exact(T H e s' h).elim
  |ok fl=>
   cases fl with
   |next=>exact False.elim h
   |brk=>exact False.elim h
   |cont=>exact False.elim h
   |ret u=>
    obtain⟨v,H',os,E,un,Q,r',q⟩:=h;have q':v=.bl true:=q;subst q';obtain rfl:u=Value.bool true:=r';refine⟨M,OldK.of_keep λb o e=>?_,os,E⟩;cases q:H b with
    |none=>exact un.keep b o e q (by intro z;exact absurd (show b∈([]:jcD) from z) (by simp)) (by simp)
    |some u=>
     rcases hO b with z | ⟨ob,xs,z⟩
     .rw[q] at z;cases z
     .have z2:=un.By b ob _ z;obtain⟨Y,_⟩:=p b _ z;obtain⟨e2,_⟩:=Q b _ z2;rw[e] at Y;cases Y;exact e2
 cases hk:K.lookup a with
 |some o=>
  have e:=KX a o hk;rw[I] at e;cases e;refine g (λ_=>none) (λ_=>.inl M) (.inr ⟨_,vs.toArray,_,hk,M,M,M,by rw[jav,J];exact X,by simpa using rv,λx hx=>by obtain⟨i,_,rfl⟩:=jap.mp hx;trivial⟩) (λb u z=>by have C:(none:Option HO)=some u:=z;cases C) (λb z=>absurd rfl z) λz=>absurd rfl z
 |none=>
  refine g (λb=>if b=a then some (.vE {cls:=.type "list",data:=.seq vs.toArray } (.lst (G.map V.int))) else none) (λb=>?_) (.inl (.inr ⟨{cls:=.type "list",data:=.seq vs.toArray },jab M⟩)) (λb u z=>?_) (λb z=>?_) λ_=>hk
  .by_cases c:b=a
   .exact .inr ⟨_,_,jab c⟩
   .exact .inl (jaa c)
  .by_cases c:b=a
   .have C:=(jab c).symm.trans z;cases C;subst c;exact⟨I,by rw[jad];exact X,vs,_,rv,I⟩
   .have C:=(jaa c).symm.trans z;cases C
  .by_cases c:b=a
   .exact c
   .exact absurd (jaa c) z
theorem UN {l:OpenLaw}{n k:Nat}{q:Program}{i:jcB}{X:(Str->jcG)->Heap->Prop}{D:World->Heap->Prop}{d:DefRec}{K:Params->Frag}{CX:World->Na}{sp:World->Sp}{x:Str}
  (L:l.most=some n) (A:n<=sizeLine) (z:d.params.defaults=[]) (N:dP k callerA)
  (J:∀(w:World)(h:Heap),D w h->(K w.params).In h)
  (F:∀(w:World)(m:Str->jcG)(r:Addr)(h:Heap),(K w.params).In h->h.Ns mainGlobals m->m d.name=some (.ref r)->
   ∃fd:FuncData,(∀(s:Shared)(u:Value),BindsTo s fd ⟨[u],[]⟩ [(x,u)])/\
    ∀base:Heap,(K w.params).In base->base.Ns mainGlobals m->gi l.prog w (K w.params) m base (CX w) k r fd [x] (sp w))
  (S:∀(w:World)(H:Hp)(a:Addr)(t:List Int),t.length<=n->a2A H->nM (K w.params) H a (t.map V.int)->sp w [.ref a] H (λv _=>v=.bl true) λ_ _ _=>False)
  (C:∀(w:World)(H:Hp)(s:Shared)(e:Value)(y:Shared),CX w [] H s (λ_ _ _=>False) e y->False) :
  WalkO q i X D l.row.toRowW d [] (λf vs=>PySem.call f vs):=by
 refine Att.HE L z λw s₀ s₁ m Z r o Y cd R a vs t G I ho hd Q B p j c O=>?_;have E:=J w _ I;obtain⟨fd,U,P⟩:=F w m r _ E G.T.g B;exact R7 E G.T.g G.T.b G.T.builtins G.T.nolimit O p j (jay c A) N P U (λH W M=>S w H a t c W M) λH e y=>C w H s₁ e y
def inClass (s:Stmt)(j:Nat):Stmt:=match s with
 |.ClassDef _ _ _ a _ _ _ _ _ _ _=>a.getD j (.Pass ⟨0,0,0,0⟩)
 |_=>.Pass ⟨0,0,0,0⟩
def d9 (s:Stmt):Arguments:=match s with
 |.FunctionDef _ a _ _ _ _ _ _ _ _=>a
 |_=>{posonlyargs:=[],args:=[],vararg:=none,kwonlyargs:=[],kw_defaults:=[],kwarg:=none,defaults:=[] }
def bQ (s:Stmt):List Stmt:=match s with
 |.FunctionDef _ _ b _ _ _ _ _ _ _=>b
 |_=>[]
def af (s:Stmt):Scope:=match s with
 |.FunctionDef _ _ _ _ _ _ a _ _ _=>a
 |_=>{kind:=.function,names:=[],isGenerator:=false,isCoroutine:=false }
abbrev yw:Na:=λ_ _ _ _ _ _=>False
abbrev E0:XK:=λ_ _ _=>False
def zE {X:Cx}:Passes yw X E0:=λ_ _ _ _ _ _ _ h=>h.elim
structure bW (K:Frag)(x qual:Str)(st:Stmt)(f:Addr)(fd:FuncData):Prop where
 ex:∃(oc:Value)(od:Option Addr)(kV doc pm:Value)(an:Option Addr)(AT ct:Value)(osl:Array (Option Value)),
  fd=fnOf x qual (d9 st) (bQ st) (af st) .none kV doc pm an AT ct/\K.lookup f=some ⟨oc,od,.func fd,osl⟩/\codeIn K AT qual=true
 kp:keepIn K (.ref f)=true
section
variable {P:Program}{w:World}{K:Frag}{mg:Str->jcG}{base:Heap}
theorem bW.ok {x b:Str}{st:Stmt}{f:Addr}{i:FuncData}{N e:jcB}{k:Nat}{sp:Sp}(F:bW K x b st f i)(S:ak N e (af st))(len:∀vs H Q E,sp vs H Q E->vs.length=e.length)
  (c:∀(d:Value)(A:Around)(a:List Env)(s:Shared)(H:Hp)(vs:List V)(Q:VK) (E:XK),dP k (A.deeper (envOfC b (af st) s.heap.objs.size f d))->sp vs H Q E->
   ∃t,Fc (EM yw P w K mg base N b (af st) f d A a s H E).nox (bQ st) t/\t {nx:=λ_ H'=>Q .dD H',rt:=Q } (start N vs) H):gi P w K mg base yw (k+1) f i e sp:=by
 obtain⟨v,y,kV,j,u,p,d,r,m,rfl,l,g⟩:=F.ex;refine a5m l g S len λA a s H vs Q E o n=>?_;obtain⟨t,h,q⟩:=c d A a s H vs Q E o n;exact⟨t,h.nox,q⟩
theorem bW.binds {x a:Str}{st:Stmt}{f:Addr}{j:FuncData}{c:jcB}(F:bW K x a st f j)
  (h:∀(kV b g:Value)(d:jcF)(i e:Value)(us:jcC),us.length=c.length->bindArgs (fnOf x a (d9 st) (bQ st) (af st) .none kV b g d i e) ⟨us,[]⟩=pure (c.zip us)):Binds K j c []:=by
 obtain⟨n,o,kV,b,g,d,i,e,l,rfl,m,k⟩:=F.ex;exact .all (h kV b g d i e)
theorem a1W {x a:Str}{st:Stmt}{f:Addr}{j:Value}{od h:jcF}{d:jcA}{kV b g e i:Value}(l:K.lookup f=some ⟨j,od,.func (fnOf x a (d9 st) (bQ st) (af st) .none kV b g h e i),d⟩)
  (c:codeIn K e a=true) (k:keepIn K (.ref f)=true):bW K x a st f (fnOf x a (d9 st) (bQ st) (af st) .none kV b g h e i):=⟨⟨j,od,kV,b,g,h,e,i,d,M,l,c⟩,k⟩
end
def qK {A:Around}{k:Nat}(a:dP k A):A.units+1<cLine:=Nat.lt_of_le_of_lt (Nat.add_le_add_left (by decide:1<=64) _) a.units
def Np {n:Nat}(h:n<=1000):n<sizeLine:=Nat.lt_of_le_of_lt h (by decide)
section
variable {X:Cx}
end
section
variable {κ:Type} [DecidableEq κ]
def sI (kvs:List (κ×V))(k:κ):Option V:=(kvs.find? λa=>decide (a.1=k)).map (·.2)
noncomputable def putK (kvs:List (κ×V))(k:κ)(v:V):List (κ×V):=
 if(kvs.any λa=>decide (a.1=k))=true then kvs.map (λa=>if a.1=k then(a.1,v) else a) else kvs++[(k,v)]
def sG {p:κ×V}{r:List (κ×V)}{k:κ}(e:p.1=k):sI (p::r) k=some p.2:=by simp[sI,jbn,e]
def sH {p:κ×V}{r:List (κ×V)}{k:κ}(e:¬ p.1=k):sI (p::r) k=sI r k:=by simp[sI,jbn,e]
theorem FG (k:κ):∀kvs:List (κ×V),(kvs.any λkv=>decide (kv.1=k))=(sI kvs k).isSome
 |[]=>rfl
 |p::r=>by
  rw[jbi];by_cases e:p.1=k
  .simp only[sG e,jah e,Bool.true_or,Option.isSome_some]
  .rw[sH e,jai e,Bool.false_or];exact FG k r
def oX (kvs:List (κ×V))(k:κ)(v:V):(putK kvs k v).length<=kvs.length+1:=by
 unfold putK;split
 .rw[jad];lia
 .rw[jag,jam,jbb];lia
def nN.Oi {o:Option V}{u:jcG}(r:nN o u):o.isSome=u.isSome:=by
 cases o with
 |none=>cases u with
  |none=>rfl
  |some _=>exact(show False from r).elim
 |some _=>cases u with
  |none=>exact(show False from r).elim
  |some _=>rfl
def nN.getD {o:Option V}{u:jcG}{d:V}{d':Value}(r:nN o u)(a:RelV d d'):RelV (o.getD d) (u.getD d'):=by
 cases o with
 |none=>cases u with
  |none=>exact a
  |some _=>exact(show False from r).elim
 |some _=>cases u with
  |none=>exact(show False from r).elim
  |some _=>exact r
def KV.val {kvs:List (κ×V)}{vs:List (κ×Value)}(r:KV kvs vs)(k:κ):nN (sI kvs k) (valueAt vs k):=by
 unfold KV at r
 induction r with
 |nil=>exact True.intro
 | @cons p q f qs h t d=>
  obtain⟨a,c⟩:=h;by_cases e:p.1=k
  .have e':q.1=k:=a.symm.trans e;have b:valueAt (q::qs) k=some q.2:=by simp[valueAt,jbn,e']
   rw[sG e,b];exact c
  .have e':¬ q.1=k:=λz=>e (a.trans z);have b:valueAt (q::qs) k=valueAt qs k:=by simp[valueAt,jbn,e']
   rw[sH e,b];exact d
def KV.any {kvs:List (κ×V)}{vs:List (κ×Value)}(r:KV kvs vs)(k:κ):(kvs.any λkv=>decide (kv.1=k))=vs.any λkv=>decide (kv.1=k):=by
 unfold KV at r
 induction r with
 |nil=>rfl
 |cons h t a=>rw[jbi,jbi,a,h.1]
theorem KV.repl {kvs:List (κ×V)}{vs:List (κ×Value)}(r:KV kvs vs)(k:κ){y:V}{u:Value}(d:RelV y u) :
  KV (kvs.map λkv=>if kv.1=k then(kv.1,y) else kv) (vs.map λkv=>if kv.1=k then(kv.1,u) else kv):=by
 unfold KV at r ⊢
 induction r with
 |nil=>exact .nil
 | @cons p q f qs h t c=>
  rw[jaf,jaf];refine .cons ?_ c;obtain⟨a,b⟩:=h;by_cases e:p.1=k
  .rw[jab e,jab (a.symm.trans e)];exact⟨a,d⟩
  .rw[jaa e,jaa (λz=>e (a.trans z))];exact⟨a,b⟩
def KV.put {kvs:List (κ×V)}{vs:List (κ×Value)}(r:KV kvs vs)(k:κ){y:V}{u:Value}(a:RelV y u):KV (putK kvs k y) (stored vs k u):=by
 unfold putK stored;rw[r.any k];by_cases e:(vs.any λb=>decide (b.1=k))=true
 .rw[jab e,jab e];exact r.repl k a
 .rw[jaa e,jaa e];exact Paired.snoc r ⟨M,a⟩
def KV.keys {kvs:List (κ×V)}{vs:List (κ×Value)}(r:KV kvs vs):kvs.map (·.1)=vs.map (·.1):=by
 unfold KV at r
 induction r with
 |nil=>rfl
 |cons h t a=>rw[jaf,jaf,a,h.1]
def KV.length {kvs:List (κ×V)}{vs:List (κ×Value)}(r:KV kvs vs):kvs.length=vs.length:=jaZ r
end
def GW {P:Program}{w:World}{k:Key}{u:Value}(r:RelV (kV k) u):(cL P w).is k u=true:=by
 cases k with
 |inl i=>obtain⟨t,e⟩:=(show ∃t,u=Value.int i t from r);subst e;exact GS P w i t
 |inr x=>obtain⟨t,e⟩:=(show ∃t,u=Value.str x t from r);subst e;exact GR P w x t
theorem CC {P:Program}{w:World}:∀{ks:List Key}{us:jcC},Vals (ks.map kV) us->ItemsAre (cL P w) ks us
 |[],_,r=>by rw[jaU] at r;cases r;exact .nil
 |k::ks,_,r=>by
  rw[jaf] at r;cases r with
  |cons h t=>exact .cons (GW h) (CC t)
abbrev KT (H:Hp):List (List Key×V)->List (List Key×Addr×Value)->Prop:=Paired λp q=>p.1=q.1/\H q.2.1=some (.tup (p.1.map kV))/\RelV p.2 q.2.2
def KT.val {H:Hp}{kvs:List (List Key×V)}{xs:List (List Key×Addr×Value)}(r:KT H kvs xs)(k:List Key):nN (sI kvs k) ((atKey xs k).map (·.2)):=by
 induction r with
 |nil=>exact True.intro
 | @cons p q f qs h t d=>
  obtain⟨a,_,c⟩:=h;by_cases e:p.1=k
  .have e':q.1=k:=a.symm.trans e;have b:atKey (q::qs) k=some q.2:=by simp[atKey,jbn,e']
   rw[sG e,b];exact c
  .have e':¬ q.1=k:=λz=>e (a.trans z);have b:atKey (q::qs) k=atKey qs k:=by simp[atKey,jbn,e']
   rw[sH e,b];exact d
theorem KT.repl {H:Hp}{kvs:List (List Key×V)}{xs:List (List Key×Addr×Value)}(r:KT H kvs xs)(k:List Key){y:V}{u:Value}(f:RelV y u) :
  KT H (kvs.map λkv=>if kv.1=k then(kv.1,y) else kv) (xs.map (putAt k u)):=by
 induction r with
 |nil=>exact .nil
 | @cons p q g qs h t c=>
  rw[jaf,jaf];refine .cons ?_ c;obtain⟨a,b,d⟩:=h;unfold putAt;by_cases e:p.1=k
  .rw[jab e,jab (a.symm.trans e)];exact⟨a,b,f⟩
  .rw[jaa e,jaa (λz=>e (a.trans z))];exact⟨a,b,d⟩
theorem KT.put {H:Hp}{kvs:List (List Key×V)}{xs:List (List Key×Addr×Value)}(r:KT H kvs xs)(k:List Key){b:Addr}{y:V}{u:Value}(c:H b=some (.tup (k.map kV)))(a:RelV y u) :
  KT H (putK kvs k y) (storedH xs k b u):=by
 have e:(kvs.any λd=>decide (d.1=k))=(atKey xs k).isSome:=by
  rw[FG,(r.val k).Oi,Option.isSome_map]
 unfold putK storedH;rw[e];by_cases q:(atKey xs k).isSome=true
 .rw[jab q,jab q];exact r.repl k a
 .rw[jaa q,jaa q];exact Paired.snoc r ⟨M,c,a⟩
theorem KT.keeps {H H':Hp}{kvs:List (List Key×V)}{xs:List (List Key×Addr×Value)}(r:KT H kvs xs)(a:∀b ys,H b=some (.tup ys)->H' b=some (.tup ys)):KT H' kvs xs:=
 Paired.a1e r λ_ _ z=>⟨z.1,a _ _ z.2.1,z.2.2⟩
section
variable {P:Program}{w:World}{H:Hp}{h:Heap}{a:Addr}
def X5 {u:HO}(ok:sy P w H h)(e:Rd H a u):dG P w H h a u:=e.ok ok
theorem uc {kvs:List (Key×V)}(ok:sy P w H h)(e:Rd H a (.dK kvs)):kvs.length<=sizeLine/\(a==sysModules)=false/\∃vs,KV kvs vs/\h.DictOf (cL P w) a vs:=
 show dG P w H h a (.dK kvs) from X5 ok e
def YE {kvs:List (Key×V)}(ok:sy P w H h)(e:H a=some (.dK kvs)):kvs.length<=sizeLine/\(a==sysModules)=false/\∃vs,KV kvs vs/\h.DictOf (cL P w) a vs:=uc ok (.inl e)
def Ey {b:List Key}(ok:sy P w H h)(e:H a=some (.tup (b.map kV))):(tupleKind (cL P w)).is h b a:=by
 obtain⟨_,d,r,o,f,c,n,g⟩:=(show dG P w H h a (.tup (b.map kV)) from ok a _ e)
 exact⟨o,d.toArray,n,f,c,g,by simpa using CC r⟩
theorem Hg {kvs:List (List Key×V)}(ok:sy P w H h)(e:Rd H a (.dT kvs)):kvs.length<=sizeLine/\(a==sysModules)=false/\
  ∃xs,KT H kvs xs/\h.DictOfH (tupleKind (cL P w)) a xs:=by
 obtain⟨z,y,xs,r,o,d,n,g,k,i,j,s⟩:=(show dG P w H h a (.dT kvs) from X5 ok e)
 refine⟨z,y,xs,r,o,d,n,g,k,i,j,λx b=>?_,s⟩;have all:∀{l:List (List Key×V)} {m:List (List Key×Addr×Value)},KT H l m->∀x∈m,(tupleKind (cL P w)).is h x.1 x.2.1:=by
  intro l m q
  induction q with
  |nil=>intro x b;exact nomatch b
  | @cons p q u qs c t f=>
   intro x b;rcases jae.mp b with e | b
   .subst e;exact Ey ok (by rw[<- c.1];exact c.2.1)
   .exact f x b
 exact all r x b
theorem a5t {kvs:List (List Key×V)}(ok:sy P w H h)(e:H a=some (.dT kvs)):kvs.length<=sizeLine/\(a==sysModules)=false/\
  ∃xs,KT H kvs xs/\h.DictOfH (tupleKind (cL P w)) a xs:=Hg ok (.inl e)
end
def FA (H:Hp)(a:Addr)(y:V)(r:Option V):Prop:=
 (∃c k,Rd H a (.dK c)/\y=kV k/\r=sI c k)\/∃c k b,Rd H a (.dT c)/\y=.ref b/\H b=some (.tup (k.map kV))/\r=sI c k
def Uv (H:Hp)(a:Addr)(y v:V)(H':Hp):Prop:=
 (∃c k,H a=some (.dK c)/\y=kV k/\c.length<sizeLine/\H'=upd H a (.dK (putK c k v)))\/
 ∃c k b,H a=some (.dT c)/\y=.ref b/\H b=some (.tup (k.map kV))/\c.length<sizeLine/\H'=upd H a (.dT (putK c k v))
def FA.k {H:Hp}{a:Addr}{kvs:List (Key×V)}{k:Key}(e:H a=some (.dK kvs)):FA H a (kV k) (sI kvs k):=.inl ⟨kvs,k,.inl e,M,M⟩
def Uv.k {H:Hp}{a:Addr}{kvs:List (Key×V)}{k:Key}{v:V}(e:H a=some (.dK kvs))(b:kvs.length<sizeLine):Uv H a (kV k) v (upd H a (.dK (putK kvs k v))):=.inl ⟨kvs,k,e,M,b,M⟩
section
variable {X:Cx}{vy:jcy}{U:St}{H:Hp}{s:Shared}{a:Addr}{y v:V}{u r:Value}{o:Option V}{A:Around}{E:jcz}
def Inv.big (I:Inv X vy U H s):sysModules<s.heap.objs.size:=by
 have h:mainGlobals<s.heap.objs.size:=(I.mod.glob.keeps I.bk).lt;exact Nat.lt_trans (by decide) h
theorem Ow {Q:jcz}(C:A.units+1<cLine)(I:Inv X vy U H s)(g:FA H a y (some v))(q:RelV y u)(h:∀w' s',Inv X vy U H s'->RelV v w'->Q w' s') :
  wpAny (model X.prog X.w) A (getItem (.ref a) u) Q E s:=by
 rcases g with⟨i,k,e,j,l⟩ | ⟨i,k,b,e,j,r,l⟩
 .subst j;obtain⟨z,B,x,d,n⟩:=uc I.hok e;obtain⟨w',m,c⟩:=nN.some_of (v:=v) (o:=valueAt x k) (by rw[l];exact d.val k);exact wpAny_getItem_of (GW q) n.mapOf m (h w' _ (I.tok _) c)
 .subst j;cases(show u=Value.ref b from q);obtain⟨z,B,D,d,n⟩:=Hg I.hok e;obtain⟨w',m,c⟩:=nN.some_of (v:=v) (o:=(atKey D k).map (·.2)) (by rw[l];exact d.val k);obtain⟨p,t,f⟩:=Option.map_eq_some_iff.mp m;refine wpAny_getItem_heap (tupleKind_room_in1 C) (Ey I.hok r) n t ?_;rw[f];exact h w' _ (I.tok _) c
theorem EL {h':Heap}{t':Nat}{c:HO}(I:Inv X vy U H s)(d:Mut (H a))(hs:Heap.SameBut a s.heap h')(g:∃q,h'.get? a=some q)(new:dG X.prog X.w (upd H a c) h' a c) :
  Inv X vy U (upd H a c) {s with heap:=h',toks:=t' }:=
 I.write (x:=a) (e:=a) d (.inl M) (λb q f z=>(hs.2 b f).trans z) g new
theorem Tf {P:Program}{w:World}{H':Hp}{h':Heap}{kvs:List (Key×V)}{vs:List (Key×Value)}(z:kvs.length<=sizeLine)(c:(a==sysModules)=false)(b:KV kvs vs)(d:h'.DictOf (cL P w) a vs) :
  dG P w H' h' a (.dK kvs):=⟨z,c,vs,b,d⟩
theorem Ov {H':Hp}{Q:Unit->Shared->Prop}(S:A.units+1<cLine)(I:Inv X vy U H s)(g:Uv H a y v H')(G:RelV y u)(J:RelV v r)(h:∀s',Inv X vy U H' s'->Q () s') :
  wpAny (model X.prog X.w) A (setItem (.ref a) u r) Q E s:=by
 rcases g with⟨d,k,e,t,l,x⟩ | ⟨d,k,b,e,t,C,l,x⟩
 .subst t x;obtain⟨z,B,L,f,o⟩:=YE I.hok e;have m:L.length<=sizeLine:=by rw[<- f.length];exact z
  have p:(putK d k v).length<=sizeLine:=by have:=oX d k v;lia
  refine wpAny_setItem_pairs (hsz:=m) (GW G) o λF j n=>h _ ?_;have V:∃q,F.get? a=some q:=let⟨q,_,_,i,_⟩:=j;⟨q,i⟩;exact EL I (by rw[e];exact True.intro) n V (Tf p B (f.put k J) j)
 .subst t x;cases(show u=Value.ref b from G);obtain⟨z,B,M,f,o⟩:=a5t I.hok e;have m:M.length<=sizeLine:=by rw[<- jaZ f];exact z
  have p:(putK d k v).length<=sizeLine:=by have:=oX d k v;lia
  refine wpAny_setItem_heap (hsz:=m) (tupleKind_room_in1 S) (Ey I.hok C) o λF j n=>h _ ?_;obtain⟨q,R,O,i,N,K,T,_,P⟩:=j;refine EL I (by rw[e];exact True.intro) n ⟨q,i⟩ ⟨p,B,_,(f.put k C J).keeps λc W D=>?_,q,R,O,i,N,K,T,P⟩;rw[aU (GO D e (λz=>nomatch z))];exact D
end
section
variable {X:Cx}{vy:jcy}{U:St}{H:Hp}{s:Shared}{a:Addr}{kvs:List (Key×V)}{k:Key}{u:Value}{A:Around}{E:jcz}
end
def XC (i:Expr):Prop:=∀ov iv,subscripted i false ov iv=operate [ov,iv] (getItem ov iv)
theorem U4 {prog:Program}{w:World}{A:Around}{E:jcz}{s:Shared}{c:Env}{b a:Expr}{d:Pos}{T id:String}{Q:jcz}
  (f:typeLookup (.type T) "__getitem__"=pure (some (.builtin id))) (hs:XC a)
  (h:wpAny (model prog w) A (eval b c) (λo s₁=>wpAny (model prog w) A (eval a c) (λi s₂=>s₂.TypeIs o T/\wpAny (model prog w) A (getItem o i) Q E s₂) E s₁) E s) :
  wpAny (model prog w) A (eval (.Subscript b a d) c) Q E s:=by
 refine Subscript_ (jaQ h (λo s₁ h₁=>jaQ h₁ (λi s₂ h₂=>?_) λ_ _ x=>x) λ_ _ x=>x);obtain⟨e,h₂⟩:=h₂;unfold subscriptTail;refine jat ?_;rw[getitemInPython_of_ne e.not_modules];refine jat (wpAny_specialOf e f ?_);have fin:wpAny (model prog w) A (subscripted a false o i) (λr s₃=>wpAny (model prog w) A (letTemporaryGo b o r >>=λ_=>pure r) Q E s₃) E s₂:=by
  rw[hs o i];exact wpAny_operating (jaQ h₂ (λr s₃ h₃=>jat (wpAny_letTemporaryGo (jaC h₃))) λ_ _ x=>x)
 first
  |exact jaC (jat fin)
  |exact jat (jaC (jat fin))
  |exact jat fin
def Hi {X:Cx}{d:jcy}{U:St}{H:Hp}{s:Shared}{a:Addr}{y:V}{o:Option V}(I:Inv X d U H s)(g:FA H a y o):s.TypeIs (.ref a) "dict":=by
 rcases g with⟨c,k,e,_,_⟩ | ⟨c,k,b,e,_,_,_⟩
 .obtain⟨_,_,vs,_,dd⟩:=uc I.hok e;exact dd.typeIs
 .obtain⟨_,_,xs,_,dd⟩:=Hg I.hok e;exact dd.typeIs
def a3w (d e:TE):TE:=λU H Q=>d U H λx c=>e U c λy b=>∃a v,x=.ref a/\FA b a y (some v)/\Q v b
def a3O (f h c:TE):TS:=λD U H=>c U H λv e=>f U e λx g=>h U g λy d=>∃a b,x=.ref a/\Uv d a y v b/\D.nx U b
section
variable {X:Cx}{o i e value:Expr}{pos pos' tpos:Pos}{td ty tv:TE}
def LZ (p:X.A.units+1<cLine)(q:PE X o td)(t:PE X i ty)(hs:XC i):PE X (.Subscript o i pos) (a3w td ty):=by
 intro c s U H Q I h;refine U4 PySem.F.slot_dict_getitem.lookup hs (cU (q c s U H _ I h) ?_);rintro u n ⟨x,l,j,r,w⟩;refine cU (t c n U l _ j w) ?_;rintro D B ⟨y,e,d,z,a,v,f,g,m⟩;subst f;obtain rfl:u=Value.ref a:=r;exact⟨Hi d g,Ow p d g z λE C k b=>⟨v,e,k,b,m⟩⟩
theorem VU (B:X.A.units+1<cLine)(F:PE X o td)(G:PE X i ty)(q:PE X value tv)(hs:swapsWith value (some (.Subscript o i pos')) pos.line X.env=pure false) :
  PS X (.Assign [.Subscript o i pos'] value pos) (a3O td ty tv):=by
 intro b s U H D I h;refine wpAny_Assign_Subscript (cU (q b s U H _ I h) ?_) hs;rintro r z ⟨v,j,e,J,n⟩;refine cU (F b z U j _ e n) ?_;rintro u t ⟨x,d,m,E,k⟩;refine cU (G b t U d _ m k) ?_;rintro N K ⟨y,L,f,C,a,c,p,g,w⟩;subst p;obtain rfl:u=Value.ref a:=E;exact Ov B f g C J λM l=>⟨U,c,l,w⟩
end
theorem Hh {P:Program}{w:World}{H:Hp}(h:Heap)(a:sysModules<h.objs.size):dG P w H (h.push {cls:=.type "dict",data:=.dict #[] }) h.objs.size (.dK []):=
 ⟨jaN _,jb5.mpr (ja7 (jaW a)),[],.nil,Heap.DictOf.new h⟩
def Zi:TE:=λ_ H Q=>∀p,H p=none->Q (.ref p) (upd H p (.dK []))
section
variable {X:Cx}{pos:Pos}
theorem Rg:PE X (.Dict [] [] pos) Zi:=λb s U H Q I h=>
 wpAny_Dict_empty ⟨.ref s.heap.objs.size,_,I.laid (a:=s.heap.objs.size) (o:=.dK []) (t':=s.toks) (λ_ _ q=>jaI _ q) (jaq _) (Hh s.heap I.big),M,h _ (I.hok.fresh (jaq _))⟩
end
def Ii:List (TE×TE)->St->Hp->(List (V×V)->Hp->Prop)->Prop
 |[],_,H,Q=>Q [] H
 |(tk,e)::r,U,H,Q=>tk U H λx c=>e U c λy d=>Ii r U d λa b=>Q ((x,y)::a) b
abbrev VV:List (V×V)->List (Value×Value)->Prop:=Paired λp q=>RelV p.1 q.1/\RelV p.2 q.2
def PPs (X:Cx)(b:Pos)(keys:List (Option Expr))(a:jcE)(g:List (TE×TE)):Prop:=
 ∀(vy:jcy) (s:Shared) (U:St) (H:Hp) (Q:List (V×V)->Hp->Prop),Inv X vy U H s->Ii g U H Q->
  wpAny (model X.prog X.w) X.A (evalPairs (pairTrees keys a X.env b)) (λe f=>∃c d,Inv X vy U d f/\VV c e/\Q c d) X.xe s
def VX {X:Cx}{a:Pos}:PPs X a [] [] []:=λb s U H Q I h=>pairTrees_nil_walk ⟨[],H,I,.nil,h⟩
theorem Q5 {X:Cx}{a:Pos}{k v:Expr}{e:List (Option Expr)}{vs:jcE}{tk f:TE}{d:List (TE×TE)}(hk:PE X k tk)(l:PE X v f)(w:PPs X a e vs d) :
  PPs X a (some k::e) (v::vs) ((tk,f)::d):=λc s U H Q I h=>
 pairTrees_cons_walk (cU (hk c s U H _ I h) (by rintro u t ⟨x,q,n,z,B⟩;exact cU (l c t U q _ n B) (by rintro E m ⟨y,j,A,C,r⟩;exact   cU (w c m U j _ A r) (by rintro F D ⟨g,i,o,b,p⟩;exact⟨(x,y)::g,i,o,.cons ⟨z,C⟩ b,p⟩))))
def Ac (kvs a:List (Key×V)):List (Key×V):=a.foldl (λb c=>putK b c.1 c.2) kvs
def KV.merge:∀{more:List (Key×V)} {rs:List (Key×Value)} {kvs:List (Key×V)} {vs:List (Key×Value)},KV more rs->KV kvs vs->KV (Ac kvs more) (merged vs rs):=by
 intro more rs kvs vs r;unfold KV at r
 induction r generalizing kvs vs with
 |nil=>intro q;exact q
 | @cons p q c qs h t b=>
  intro a;have e:KV (putK kvs p.1 p.2) (stored vs q.1 q.2):=by
   have:=a.put p.1 h.2;rw[<- h.1];exact this
  exact b e
theorem qH:∀(more kvs:List (Key×V)),(Ac kvs more).length<=kvs.length+more.length
 |[],kvs=>by show kvs.length<=kvs.length+0;lia
 |p::r,kvs=>by
  have b:=qH r (putK kvs p.1 p.2);have a:=oX kvs p.1 p.2;show(Ac (putK kvs p.1 p.2) r).length<=_;rw[jam];lia
theorem AA {P:Program}{w:World}:∀{kvs:List (Key×V)} {ws:List (Value×Value)},VV (kvs.map λkv=>(kV kv.1,kv.2)) ws->∃rs,Carries (cL P w) ws rs/\KV kvs rs
 |[],_,r=>by rw[jaU] at r;cases r;exact⟨[],True.intro,.nil⟩
 |p::kvs,_,r=>by
  rw[jaf] at r;cases r with
  | @cons a b e bs h t=>
   obtain⟨rs,c,q⟩:=AA (P:=P) (w:=w) t;obtain⟨f,d⟩:=b;exact⟨(p.1,d)::rs,⟨GW h.1,M,c⟩,.cons ⟨M,h.2⟩ q⟩
def a3v (e:List (TE×TE)):TE:=λU H Q=>∀p,H p=none->Ii e U (upd H p (.dK [])) λd b=>b p=some (.dK [])/\∃a:List (Key×V),d=a.map (λc=>(kV c.1,c.2))/\a.length<=15/\Q (.ref p) (upd b p (.dK (Ac [] a)))
theorem V5 {X:Cx}{g:Pos}{keys:List (Option Expr)}{b:jcE}{k:List (TE×TE)}(h:PPs X g keys b k)(f:keys.all (·.isSome)=true)(D:keys.length=b.length)(t:keys≠[])
  (i:keys.length<=15):PE X (.Dict keys b g) (a3v k):=by
 intro G s U H Q I q;have J:=I.hok.fresh (jaq s.heap.objs.size);have y:=I.laid (a:=s.heap.objs.size) (o:=.dK []) (h':=s.heap.push {cls:=.type "dict",data:=.dict #[] }) (t':=s.toks) (λ_ _ q=>jaI _ q) (jaq _) (Hh s.heap I.big);refine wpAny_Dict_walk (knd:=cL X.prog X.w) f D t i (cU (h G _ U _ _ y (q _ J)) ?_);rintro O S ⟨L,N,l,j,e,d,C,R,A⟩;subst C;obtain⟨p,c,u⟩:=AA (P:=X.prog) (w:=X.w) j;obtain⟨z,E,B,F,x⟩:=YE l.hok e;cases F;refine⟨p,c,x,λh' m r=>⟨.ref s.heap.objs.size,_,?_,M,A⟩⟩;have n:(Ac [] d).length<=sizeLine:=by
  have v:=qH d [];rw[jbb] at v;rw[ja3];lia
 have K:∃q,h'.get? s.heap.objs.size=some q:=let⟨q,_,_,hq,_⟩:=m;⟨q,hq⟩;exact EL l (by rw[e];exact True.intro) r K (Tf n E (u.merge .nil) m)
structure M2 (X:Cx)(o:Expr)(m:Str)(BM:Pos)(e f:Expr)(cpos:Pos):Prop where
 base:attributeBase o m X.env (eval o X.env)=eval o X.env
 few:((backTo cpos (starEach [e,f] X.env)).all (λx=>!x.1)&&(backToKw cpos (keywordEach [] X.env)).all (λx=>x.1.isSome)
 &&decide (([e,f]:List Expr).length+([]:List Keyword).length+(if([]:List Keyword).isEmpty then 0 else 1)<30))=true
 line:(BM.endLine==cpos.line)=true
 trees:backTo cpos (starEach [e,f] X.env)=[(false,eval e X.env),(false,eval f X.env)]
def IsD (H:Hp)(a:Addr):Prop:=(∃b,Rd H a (.dK b))\/∃b,Rd H a (.dT b)
theorem a1L {X:Cx}{h:jcy}{U:St}{H:Hp}{s:Shared}{a:Addr}(I:Inv X h U H s)(d:IsD H a) :
  s.TypeIs (.ref a) "dict"/\(∀b,Value.ref a=.ref b->∃ob,s.heap.get? b=some ob/\ob.dict=none)/\(a==sysModules)=false:=by
 rcases d with⟨c,e⟩ | ⟨c,e⟩
 .obtain⟨_,hd,vs,_,dd⟩:=uc I.hok e;refine⟨dd.typeIs,λb q=>?_,hd⟩;cases q;obtain⟨ob,_,_,g,f,_⟩:=dd;exact⟨ob,g,f.2.1⟩
 .obtain⟨_,hd,xs,_,dd⟩:=Hg I.hok e;refine⟨dd.typeIs,λb q=>?_,hd⟩;cases q;obtain⟨ob,_,_,g,f,_⟩:=dd;exact⟨ob,g,f.2.1⟩
section
variable {X:Cx}{vy:jcy}{U:St}{H:Hp}{s:Shared}{a:Addr}{y d:V}{u r:Value}{o:Option V}{A:Around}{E:jcz}
theorem a2c {Q:jcz}(t:A.units+1<cLine)(I:Inv X vy U H s)(g:FA H a y o)(p:RelV y u)(n:RelV d r)(h:∀w' s',Inv X vy U H s'->RelV (o.getD d) w'->Q w' s') :
  wpAny (model X.prog X.w) A (call (.builtin "dict.get") [.ref a,u,r]) Q E s:=by
 rcases g with⟨i,k,e,j,l⟩ | ⟨i,k,b,e,j,q,l⟩
 .subst j;obtain⟨z,m,x,c,f⟩:=uc I.hok e;refine call_meetsIn PySem.F.slot_dict_get f.typeIs PySem.F.entry_dict_get (PySem.F.args_dict_get_3 _ _ _) (meets_dict_get_default (cL X.prog X.w) a (GW p) m r) ⟨_,f.mapOf,h _ _ (I.tok _) ?_⟩;rw[l];exact(c.val k).getD n
 .subst j;cases(show u=Value.ref b from p);obtain⟨z,m,v,c,f⟩:=Hg I.hok e;refine call_meetsIn PySem.F.slot_dict_get f.typeIs PySem.F.entry_dict_get (PySem.F.args_dict_get_3 _ _ _) (meetsH_dict_get_default (tupleKind (cL X.prog X.w)) a b m r) ⟨tupleKind_room_in1 t,k,v,Ey I.hok q,f,h _ _ (I.tok _) ?_⟩;rw[l];exact(c.val k).getD n
end
def Zk (d f g:TE):TE:=λU H Q=>d U H λx c=>∃a,x=.ref a/\IsD c a/\f U c λy e=>g U e λz b=>∃o,FA b a y o/\Q (o.getD z) b
section
variable {X:Cx}{o e f:Expr}{BM cpos:Pos}{td ty tx:TE}
def Rh (K:X.A.units+1<cLine)(L:PE X o td)(N:PE X e ty)(j:PE X f tx)(m:M2 X o "get" BM e f cpos):PE X (.Call (.Attribute o "get" BM) [e,f] [] cpos) (Zk td ty tx):=by
 intro c s U H Q I h;refine wpAny_Call_method m.base m.few m.line PySem.F.plainAttrs_dict PySem.F.slot_dict_get PySem.F.type_dict_get (cU (L c s U H _ I h) ?_);rintro u J ⟨x,p,i,M,a,C,d,v⟩;subst C;obtain rfl:u=Value.ref a:=M;obtain⟨w,l,_⟩:=a1L i d;refine⟨w,l,?_⟩;rw[m.trees];refine jcn rfl (Calls.evalArgs_plain (Calls.spliced_cons (cU (N c J U p _ i v) ?_)));rintro T D ⟨y,k,t,O,q⟩;refine Calls.spliced_cons (cU (j c D U k _ t q) ?_);rintro V P ⟨z,B,n,G,R,g,E⟩;refine Calls.spliced_nil ?_;exact a2c K n g O G λW S r b=>⟨_,B,r,b,E⟩
end
section
variable {X:Cx}{vy:jcy}{U:St}{H:Hp}{s:Shared}{a:Addr}{kvs:List (Key×V)}{A:Around}{E:jcz}
end
section
variable {X:Cx}{vy:jcy}{U:St}{H:Hp}{s:Shared}{a:Addr}{y:V}{u:Value}{A:Around}{E:jcz}
end
section
variable {X:Cx}
end
section
variable {κ:Type} [DecidableEq κ]
end
end L2
set_option maxHeartbeats 4000000
namespace L2
open PySem PySem.Spec PyProof.Rows
abbrev a05:Value->Shared->Prop:=λ_ _=>False
noncomputable abbrev CI (X:Cx)(sc:Scope)(N:jcB)(cl:List (Str×Addr))(C:Addr)(s:Shared)(H:Hp)(fp:jcD)(xx:jcz):Cx:=
 {X with N:=N,s₀:=s,H₀:=H,env:=compEnvC sc cl C X.env,outer:=X.stack,ex:=fp,fn:=λ_=>false,pn:=[],xe:=xx }
abbrev BC (X:Cx)(sc:Scope)(N:jcB)(cl:List (Str×Addr))(C:Addr)(s:Shared)(H:Hp)(fp:jcD):Cx:=CI X sc N cl C s H fp a05
def Ext (U a:St):Prop:=a.length=U.length/\∀(i:Nat) v,U[i]?=some (some v)->a[i]?=some (some v)
def Ln (b:jcE)(a:Env):Sem Bool:=forIn b true λc r=>if r=true then do let ok <- isTrue c a (eval c a);pure (ForInStep.yield ok) else pure (ForInStep.yield r)
def UH (X:Cx)(a:jcE)(t:TT):Prop:=
 ∀(vy:jcy) (s:Shared) (U:St) (H:Hp) (Q:Bool->Hp->Prop),Inv X vy U H s->t U H Q->wpAny (model X.prog X.w) X.A (Ln a X.env) (TP X vy U Q) X.xe s
def U1:TT:=λ_ H Q=>Q true H
def VP {X:Cx}:UH X [] U1:=λa s U H Q I h=>wpAny_tests_nil ⟨H,I,h⟩
def VO {X:Cx}{c:Expr}{t:TT}(b:PT X c t):UH X [c] t:=λa s U H Q I h=>wpAny_tests_one (b a s U H Q I h)
section
variable {prog:Program}{w:World}{A:Around}{R:Result->Shared->Prop}{s:Shared}
theorem J9 {g b d:Expr}{p:jcE}{c:Scope}{l:Pos}{o i:Value}{a:Env}(J:Nat->Shared->Prop)
  (j:∀n s,J n s->wpAny (model prog w) A (pyNext o) (λr s1=>match r with
   |none=>R (.ok .next) s1
   |some v=>wpAny (model prog w) A (letOwnedTupleGo b o v) (λ_ s2=>wpAny (model prog w) A (assign b a v) (λ_ s3=>
     wpAny (model prog w) A (Ln p a) (λok s4=>if ok=true then wpAny (model prog w) A (eval g a) (λx s5=>
       wpAny (model prog w) A (call (.builtin "list.append") [i,x]) (λ_ s6=>∃m,m<n/\J m s6) (notedBy (model prog w) A a λe s'=>R (.error e) s') s5) (notedBy (model prog w) A a λe s'=>R (.error e) s') s4
      else ∃m,m<n/\J m s4) (notedBy (model prog w) A a λe s'=>R (.error e) s') s3) (notedBy (model prog w) A a λe s'=>R (.error e) s') s2) (notedBy (model prog w) A a λe s'=>R (.error e) s') s1) (notedBy (model prog w) A a λe s'=>R (.error e) s') s) (n:Nat) (h:J n s) :
  codeAny (model prog w) A (.compLoop (.ListComp g [⟨b,d,p,0⟩] c l) 0 o i a) R s:=by
 refine codeAny_loop rfl J (λk s' hk=>?_) n h;show wpAny (model prog w) A ((compTurn (.ListComp g [⟨b,d,p,0⟩] c l) 0 o i a).onRaise (λx=>do noteFrame x a;theTreesLotGoes x)) _ _ s';refine wpAny_noted ?_;have no:∀(e:Value)(s2:Shared),notedBy (model prog w) A a (λe s'=>R (.error e) s') e s2->notedBy (model prog w) A a (λe s'=>R (.error e) s') e s2:=λ_ _ f=>f;rw[compTurn_list];refine jat (wpAny_standAt (jat (jaQ (j k s' hk) (λr s1 t=>?_) no)));cases r with
 |none=>exact jaC t
 |some v=>
  refine jat (jaQ t (λ_ s2 u=>?_) no);refine jat (jaQ u (λ_ s3 z=>?_) no);refine jat (jaQ z (λok s4 q=>?_) no);cases ok with
  |false=>exact jaC ⟨M,q⟩
  |true=>exact jat (jat (jaQ q (λx s5 B=>jat (jaQ B (λ_ s6 y=>jaC (jaC ⟨M,y⟩)) no)) no))
end
def MX (J:It)(g:TG)(tt:TT)(te:TE)(σ0:St)(W:Nat->Nat->List V->Hp->Prop)(R:List V->Hp->Prop):Prop:=
 ∀i m ys H,W i m ys H->(J.stop i H/\R ys H)\/(J.go i H/\∃F:List V->Hp->Prop,(∀ys' H',F ys' H'->∃c,c < m/\W (i+1) c ys' H')/\∀x H',J.Ib i H x H'->g x σ0 H' λa f=>Ext σ0 a/\tt a f λb d=>
  if b=true then te a d λv e=>ys.length<sizeLine/\F (ys++[v]) e else F ys d)
structure lC (X:Cx)(sc:Scope)(cl:List (Str×Addr))(own:Nat)(N:List Str)(fr:List Nat):Prop where
 kind:sc.kind=.function
 names:∀x∈sc.names,x.2=.local->sc.names.lookup x.1=some .local
 vz:∀x∈sc.names,x.2≠.cell
 clos:closureFor sc X.env=pure cl
 cells:∀x c,cl.lookup x=some c->X.env.cells.lookup x=some c
 has:∀x,((relabel sc X.env).names.lookup x=some .cell\/(relabel sc X.env).names.lookup x=some .free)->∃c,cl.lookup x=some c
 len:N.length=own+fr.length
 fro:∀(i:Nat) j,fr[i]?=some j->∃x,N[own+i]?=some x/\X.N[j]?=some x/\(X.env.kindOf x=some .cell\/X.env.kindOf x=some .free)/\((relabel sc X.env).names.lookup x=some .cell\/(relabel sc X.env).names.lookup x=some .free)
def Uy (a:Env):List (Str×Addr)->Prop
 |[]=>True
 |p::r=>a.cells.lookup p.1=some p.2/\Uy a r
theorem Uy.mem {a:Env}:∀{cl:List (Str×Addr)},Uy a cl->∀p∈cl,a.cells.lookup p.1=some p.2
 |[],_,_,h=>nomatch h
 |_::_,h,p,b=>by
  rcases jae.mp b with rfl | b
  .exact h.1
  .exact h.2.mem p b
def Bv (k:Option NameKind):Bool:=match k with
 |some .cell=>true
 |some .free=>true
 |_=>false
def Ml {k:Option NameKind}(h:Bv k=true):k=some .cell\/k=some .free:=by
 cases k with
 |none=>cases h
 |some k=>cases k<;>first | exact .inl rfl | exact .inr rfl | cases h
noncomputable def G4 (X:Cx)(a:Scope):jcB->jcH->Bool
 |[],[]=>true
 |x::ns,j::fr=>decide (X.N[j]?=some x)&&Bv (X.env.kindOf x)&&Bv ((relabel a X.env).names.lookup x)&&G4 X a ns fr
 |_,_=>false
theorem G3 {X:Cx}{a:Scope}:∀{ns:jcB}{fr:jcH},G4 X a ns fr=true->ns.length=fr.length/\∀(i:Nat) j,fr[i]?=some j->∃x,ns[i]?=some x/\X.N[j]?=some x/\Bv (X.env.kindOf x)=true/\Bv ((relabel a X.env).names.lookup x)=true
 |[],[],_=>⟨M,λi j h=>by simp at h⟩
 |[],_::_,h=>by cases h
 |_::_,[],h=>by cases h
 |x::ns,j::fr,h=>by
  have h:(decide (X.N[j]?=some x)&&Bv (X.env.kindOf x)&&Bv ((relabel a X.env).names.lookup x)&&G4 X a ns fr)=true:=h;rw[jaM,jaM,jaM] at h;obtain⟨⟨⟨d,c⟩,f⟩,b⟩:=h;obtain⟨l,g⟩:=G3 b;refine⟨by simp[l],λi k e=>?_⟩;cases i with
  |zero=>cases e;exact⟨x,M,jaH d,c,f⟩
  |succ i=>exact g i k e
theorem Ox {X:Cx}{sc:Scope}{cl:List (Str×Addr)}(NL YB:jcB)(fr:jcH)(kind:sc.kind=.function)(names:(sc.names.all λx=>x.2 !=.local||sc.names.lookup x.1==some .local)=true)
  (vz:(sc.names.all λx=>x.2 !=.cell)=true) (clos:closureFor sc X.env=pure cl) (cells:Uy X.env cl) (has:((relabel sc X.env).names.all λy=>!Bv (some y.2)||(cl.lookup y.1).isSome)=true)
  (len:YB.length=fr.length) (fro:G4 X sc YB fr=true):lC X sc cl NL.length (NL++YB) fr where
 kind:=kind
 names:=λx hx hl=>by
  have:=ja8.mp names x hx;rw[hl] at this;simpa using this
 vz:=λx hx=>by simpa using ja8.mp vz x hx
 clos:=clos
 cells:=λx c h=>cells.mem (x,c) (jbG h)
 has:=λx h=>by
  obtain⟨k,hk,e⟩:∃k,(relabel sc X.env).names.lookup x=some k/\Bv (some k)=true:=by
   rcases h with h | h
   .exact⟨_,h,M⟩
   .exact⟨_,h,M⟩
  have:=ja8.mp has (x,k) (jbG hk);rw[e] at this;exact Option.isSome_iff_exists.mp (by simpa using this)
 len:=by rw[jag,len]
 fro:=λi j e=>by
  obtain⟨_,g⟩:=G3 fro;obtain⟨x,e1,e2,e3,e4⟩:=g i j e;refine⟨x,?_,e2,Ml e3,Ml e4⟩;rw[jaX (Nat.le_add_right _ _),jbE];exact e1
def Cn (a:Nat)(b:jcH)(U:St):St:=List.replicate a none++b.map λj=>(U[j]?).join
section
variable {X:Cx}{sc:Scope}{cl:List (Str×Addr)}{own:Nat}{N:jcB}{fr:jcH}
def Zv {U:St}{i:Nat}{v:V}(h:(Cn own fr U)[i]?=some (some v)):∃k j,i=own+k/\fr[k]?=some j/\U[j]?=some (some v):=by
 unfold Cn at h;by_cases a:i<own
 .rw[jaL (by simpa using a),jb0,jab a] at h;cases h
 .rw[jaX (by simpa using a),jb1,jaF] at h;cases e:fr[i - own]? with
  |none=>rw[e] at h;cases h
  |some j=>
   rw[e] at h;have h:(U[j]?).join=some v:=ja2 h;refine⟨i - own,j,by lia,e,?_⟩;cases q:U[j]? with
   |none=>rw[q] at h;cases h
   |some o=>rw[q] at h;exact jac some h
theorem Ks {xx:jcz}{V:jcy}{U:St}{H:Hp}{s:Shared}{A:jcD}{r:Heap}{T:Str->jcG}{t:Nat}{C D:Addr}{od:Obj}(S:lC X sc cl own N fr)(I:Inv X V U H s)(f:∀b∈A,ux X V H b)
  (P:∀b∈A,∃o,s.heap.get? b=some o) (n:∀b o,s.heap.get? b=some o->r.get? b=some o) (O:s.heap.objs.size<=C) (K:r.Ns C T) (G:s.heap.objs.size<=D) (J:D≠C) (ho:r.get? D=some od) (F:∀v,od.data≠.cell v) :
  Inv (CI X sc N cl C s H A xx) [(D,od)] (Cn own fr U) H {s with heap:=r,toks:=t }:=by
 have U3:∀b∈A,b<s.heap.objs.size:=λb d=>let⟨o,e⟩:=P b d;jaE e;refine⟨⟨I.ok.mod,S.kind,I.ok.glob,I.ok.blt,O,λx y c a b=>I.ok.inj x y c (S.cells x c a) (S.cells y c b),S.has,(λx c z=>nomatch z),I.ok.hd,I.ok.frames,.inl M,λb d=>?_,I.bs,jay I.ok.Xr I.sz,λb o e d=>?_,λb d B=>?_,I.stack,I.Lu⟩,
  M,I.bare,Un.kept n,⟨T,K,λi x v w Y e3=>?_⟩,λx c e=>?_,I.hok.fresh O,λx c e=>I.nA x c (S.cells x c e),λp E=>?_,I.hok.kept n,?_⟩
 .exact⟨jaW (jaR (U3 b d) O),λx c e=>(f b d).2.2.2.2.1 x c (S.cells x c e)⟩
 .rcases(f b d).2.2.2.1 with z | z
  .exact I.ok.RP b o e z
  .exact absurd (jaR (jaE e) (jay I.ok.Xr z)) (jbv _)
 .rcases jae.mp (I.Df b B) with z | z
  .exact(f b d).2.1 z
  .exact(f b d).2.2.1 z
 .obtain⟨k,j,rfl,ej,eσ⟩:=Zv Y;obtain⟨y,n1,Z,h,Q⟩:=S.fro k j ej;have w:N[own+k]?=some x:=w;rw[n1] at w;cases w;obtain⟨m,hn,hl⟩:=I.loc;obtain⟨u,W,l⟩:=hl j x v Z eσ (by rcases h with z | z;exact .inr (.inl z);exact .inr (.inr z));refine⟨u,W,.inr ⟨Q,?_⟩⟩;obtain⟨c,R⟩:=S.has x Q;refine⟨c,R,?_⟩;rcases l with⟨q,_⟩ | ⟨_,c',e',z⟩
  .rcases h with h | h<;>(rw[h] at q;cases q)
  .have:=S.cells x c R;rw[e'] at this;cases this;obtain⟨o,L,g⟩:=z;exact⟨o,n _ _ L,g⟩
 .obtain⟨v,o,L,g⟩:=I.cell x c (S.cells x c e);exact⟨v,o,n _ _ L,g⟩
 .have E:p=(D,od):=by simpa using E
  subst E;refine⟨ho,I.hok.fresh G,J,λB=>?_,F⟩;have:D∈X.env.locals::X.fs:=I.Df D B;rcases jae.mp this with z | z
  .exact absurd (jaR I.lt G) (by rw[z];exact jbv _)
  .exact I.a4t G z
 .unfold Cn;rw[jag,jb1,jad];exact S.len.symm
theorem Ku {t:jcz}{g pl:jcy}{U τ:St}{H H':Hp}{s f:Shared}{j:jcD}{C D:Addr}{ys:List V}{h:jcC}{n:Nat}(I:Inv X g U H s)(i:∀b∈j,ux X g H b)(y:s.heap.objs.size<=C)(v:s.heap.objs.size<=D)
  (B:Inv (CI X sc N cl C s H j t) pl τ H' f) (x:H' D=none) (w:f.heap.get? D=some {cls:=.type "list",data:=.seq h.toArray n }) (r:Vals ys h) (hz:ys.length<=sizeLine) :
  Inv X g U (upd H' D (.lst ys)) f:=by
 have p:∀b o,s.heap.get? b=some o->b≠D:=λb o e=>jaW (jaR (jaE e) v);have a:∀b u,H' b=some u->b≠D:=λb u e=>bU e x;refine I.a5F (ch:=j) B.os ⟨B.base.keep,B.base.slot,λb o e q m=>?_,B.base.there,λb k e=>?_,λb o u e=>?_,λb l e=>?_⟩ (λb u e=>?_) B.bare λb d=>?_
 .rw[aU (p b o e)];exact B.base.free b o e q m
 .have:=B.base.tups b k e;rw[aU (a _ _ this)];exact this
 .have:=B.base.By b o u e;rw[aU (a _ _ this)];exact this
 .obtain⟨mo,this⟩:=B.base.C8 b l e;exact⟨mo,by rw[aU (a _ _ this)];exact this⟩
 .by_cases d:b=D
  .subst d;rw[f9] at e;cases e;exact⟨hz,h,n,r,w⟩
  .rw[aU d] at e;exact(B.hok b u e).stay (λ_ _ _ q=>q) (λc q=>by rw[aU (a _ _ q)];exact q) λc k q=>by rw[aU (a _ _ q)];exact q
 .obtain⟨_,f1,_,f3,f4,f5⟩:=i b d;exact⟨f3,f1,f4,f5⟩
end
section
variable {X:Cx}{sc:Scope}{cl:List (Str×Addr)}{own:Nat}{N:jcB}{fr:jcH}
def Inv.Q7 {a zD:jcy}{U:St}{H:Hp}{s:Shared}(I:Inv X a U H s)(h:∀p∈zD,p∈a):Inv X zD U H s:=I.yh λp b=>I.pin p (ja4 _ (h p b))
theorem Ka {elt tg L:Expr}{cs:jcE}{pos:Pos}{g:TG}{tt:TT}{te:TE}{vy:jcy}{U:St}{H:Hp}{s:Shared}{it:Addr}{d:jcD}{tn:Nat->Heap->Prop}{J:It}{RR:Value->Addr->Result->Shared->Prop}
  (S:lC X sc cl own N fr) (hc:X.calm=true) (I:Inv X vy U H s) (T:Turn X.prog X.w X.K tg J d it tn) (st:tn 0 s.heap) (hfp:∀b∈d,ux X vy H b)
  (hg:∀D C,PG (CI X sc N cl C s H d (λe s'=>notedBy (model X.prog X.w) X.A (compEnvC sc cl C X.env) (λe s''=>RR (.ref D) C (.error e) s'') e s')) tg g) (ht:∀D C,UH (CI X sc N cl C s H d (λe s'=>notedBy (model X.prog X.w) X.A (compEnvC sc cl C X.env) (λe s''=>RR (.ref D) C (.error e) s'') e s')) cs tt) (he:∀D C,s.heap.objs.size<=C->PE (CI X sc N cl C s H d (λe s'=>notedBy (model X.prog X.w) X.A (compEnvC sc cl C X.env) (λe s''=>RR (.ref D) C (.error e) s'') e s')) elt te)
  {W:Nat->Nat->List V->Hp->Prop} {R:List V->Hp->Prop} (w0:∃m,W 0 m [] H) (walk:MX J g tt te (Cn own fr U) W R)
  (fin:∀D C H' ys s' m,s'.heap.Ns C m->H' D=none->ux X vy (upd H' D (.lst ys)) C->Inv X vy U (upd H' D (.lst ys)) s'->R ys H'->RR (.ref D) C (.ok .next) s') :
  wpAny (model X.prog X.w) X.A (newList []) (λacc s3=>wpAny (model X.prog X.w) X.A (newFunctionEnv sc X.env.globals cl [] X.env.qual none .none (some X.env)) (λcenv s4=>
   codeAny (model X.prog X.w) X.A (.compStart (.ListComp elt [⟨tg,L,cs,0⟩] sc pos) 0 (.ref it) acc {cenv with scope:=relabel sc X.env }) (RR acc cenv.locals) s4) X.xe s3) X.xe s:=by
 refine jcb (wpAny_newFunctionEnv S.vz (by intro y hy;simp at hy) (λh1 hns G=>?_) S.kind);dsimp only at hns G ⊢;generalize hH:s.heap.push {cls:=.type "list",dict:=none,data:=.seq ([]:jcC).toArray }=h at hns G ⊢;have sC:h.objs.size=s.heap.objs.size+1:=by rw[<- hH,Heap.size_push]
 have E:s.heap.objs.size≠h.objs.size:=by lia
 have kp:∀b o,s.heap.get? b=some o->h1.get? b=some o:=λb o e=>by
  have l:=jaE e;exact G.extBut b o (jaW (by rw[sC];exact jbU l)) (jaI _ (hH ▸ jaI _ e))
 have hD1:h1.get? s.heap.objs.size=some {cls:=.type "list",data:=.seq ([]:jcC).toArray }:=G.extBut _ _ E (jaI _ (hH ▸ jaV _ M));have U3:∀b∈d,b<s.heap.objs.size:=λb a=>let⟨o,e,_⟩:=T.obj 0 _ st b a;jaE e;generalize hCC:h.objs.size=C at *;generalize hDD:s.heap.objs.size=D at *;have I1:∀t,Inv (CI X sc N cl C s H d (λe s'=>notedBy (model X.prog X.w) X.A (compEnvC sc cl C X.env) (λe s''=>RR (.ref D) C (.error e) s'') e s')) [(D,{cls:=.type "list",data:=.seq ([]:jcC).toArray })] (Cn own fr U) H {s with heap:=h1,toks:=t }:=λt=>
  Ks S I hfp (λb a=>let⟨o,e,_⟩:=T.obj 0 _ st b a;⟨o,e⟩) kp (by lia) hns (by lia) E hD1 (by intro v z;cases z)
 have st1:tn 0 h1:=T.keep 0 _ _ st λb a o e=>kp b o e;have fpo:∀{H':Hp}{s':Shared}{τ:St}{pl:jcy} {od:Obj},Inv (CI X sc N cl C s H d (λe s'=>notedBy (model X.prog X.w) X.A (compEnvC sc cl C X.env) (λe s''=>RR (.ref D) C (.error e) s'') e s')) pl τ H' s'->(∀p∈pl,p.1=D)->(∀b∈d,H' b=none)->∀b∈d,ux (CI X sc N cl C s H d (λe s'=>notedBy (model X.prog X.w) X.A (compEnvC sc cl C X.env) (λe s''=>RR (.ref D) C (.error e) s'') e s')) pl H' b:=λ{H' s' τ pl od} B hpl hn b a=>by
  have q:=U3 b a;refine⟨hn b a,(B.ok.exf b a).1,B.ok.S6 b a,.inl a,(B.ok.exf b a).2,λp h=>?_⟩;have h:p∈pl:=by simpa using h
  rw[hpl p h];exact(jaW q).symm
 have O:∀t,codeAny (model X.prog X.w) X.A (.compLoop (.ListComp elt [⟨tg,L,cs,0⟩] sc pos) 0 (.ref it) (.ref D) (compEnvC sc cl C X.env)) (RR (.ref D) C) {s with heap:=h1,toks:=t }:=by
  intro t;obtain⟨m0,w0⟩:=w0;refine J9 (λn s'=>∃i ys j k H',Inv (CI X sc N cl C s H d (λe s'=>notedBy (model X.prog X.w) X.A (compEnvC sc cl C X.env) (λe s''=>RR (.ref D) C (.error e) s'') e s')) [(D,{cls:=.type "list",data:=.seq (List.toArray j) k })] (Cn own fr U) H' s'/\tn i s'.heap/\(∀b∈d,H' b=none)/\Vals ys j/\ys.length<=sizeLine/\W i n ys H') ?_ m0
   ⟨0,[],[],_,H,I1 t,st1,λb a=>(hfp b a).1,.nil,jaN _,w0⟩
  rintro n s2 ⟨i,ys,j,k,H2,B2,st2,fr2,rv,hz,w2⟩;have pD:=B2.pin (D,{cls:=.type "list",data:=.seq (List.toArray j) k }) (ja4 _ (jal.mpr M));rcases walk i n ys H2 w2 with⟨stop,rr⟩ | ⟨go,nx,hnx,tk⟩
  .refine jaQ (T.done (CI X sc N cl C s H d (λe s'=>notedBy (model X.prog X.w) X.A (compEnvC sc cl C X.env) (λe s''=>RR (.ref D) C (.error e) s'') e s')) rfl rfl rfl hc i _ s2 _ H2 (notedBy (model X.prog X.w) X.A (compEnvC sc cl C X.env) λe s'=>RR (.ref D) C (.error e) s') B2 (fpo (od:=default) B2 (by simp) fr2) st2 stop) (λr s3 ⟨hr,B3⟩=>?_) λ_ _ z=>z;subst hr;obtain⟨m3,n3,_⟩:=B3.loc;have Z:=B3.pin (D,{cls:=.type "list",data:=.seq (List.toArray j) k }) (ja4 _ (jal.mpr M));refine fin D C H2 ys s3 m3 n3 Z.2.1 ?_ (Ku I hfp (by lia) (by lia) B3 Z.2.1 Z.1 rv hz) rr;exact I.G5 (by lia) (by rw[aU (ja7 E)];exact B3.free)
  .refine jaQ (T.item (CI X sc N cl C s H d (λe s'=>notedBy (model X.prog X.w) X.A (compEnvC sc cl C X.env) (λe s''=>RR (.ref D) C (.error e) s'') e s')) rfl rfl rfl hc i _ s2 _ H2 (notedBy (model X.prog X.w) X.A (compEnvC sc cl C X.env) λe s'=>RR (.ref D) C (.error e) s') B2 (fpo (od:=default) B2 (by simp) fr2) st2 go) (λr s3 ⟨u,hr,g3⟩=>?_) λ_ _ z=>z;subst hr;refine jaQ g3 (?_) λ_ _ z=>z;rintro _ s4 ⟨x,H4,B4,rx,y4,st4,fr4⟩;have B5:=B4.pinned (fpo (od:=default) B4 (by simp) fr4) (T.obj _ _ st4);refine jaQ (hg D C _ s4 _ H4 x u _ B5 rx (tk x H4 y4)) (?_) λ_ _ z=>z;rintro _ s5 ⟨σ5,H5,B6,ex,q5⟩;refine jaQ (ht D C _ s5 σ5 H5 _ B6 q5) (?_) λ_ _ z=>z;rintro b s6 ⟨H6,B7,q6⟩;have P:∀{H':Hp}{s':Shared},Inv (CI X sc N cl C s H d (λe s'=>notedBy (model X.prog X.w) X.A (compEnvC sc cl C X.env) (λe s''=>RR (.ref D) C (.error e) s'') e s')) ([(D,{cls:=.type "list",data:=.seq (List.toArray j) k })]++zC d s4.heap) σ5 H' s'->tn (i+1) s'.heap/\∀b∈d,H' b=none:=λ{H' s'} B=>by
    refine⟨T.keep _ _ _ st4 λb a o e=>(B.pin (b,o) (ja4 _ (ja4 _ (mU a e)))).1,λb a=>?_⟩;obtain⟨o,e,_⟩:=T.obj _ _ st4 b a;exact(B.pin (b,o) (ja4 _ (ja4 _ (mU a e)))).2.1
   cases b with
   |false=>
    obtain⟨m',hm,w'⟩:=hnx _ _ q6;obtain⟨t7,f7⟩:=P B7;exact⟨m',hm,i+1,ys,j,k,H6,(B7.sJ).weak ex.1.symm ex.2,t7,f7,rv,hz,w'⟩
   |true=>
    refine jaQ (he D C (by lia) _ s6 σ5 H6 _ B7 q6) (λQ Y ⟨v7,H7,B8,r7,hz7,q7⟩=>?_) λ_ _ z=>z;obtain⟨m',hm,w'⟩:=hnx _ _ q7;obtain⟨t8,f8⟩:=P B8;have f:=B8.pin (D,{cls:=.type "list",data:=.seq (List.toArray j) k }) (ja4 _ (jbw _ (jal.mpr M)));have lz:j.length=ys.length:=rv.length.symm;refine jbc F.slot_list_append ⟨_,f.1,M⟩ F.entry_list_append (F.args_list_append_2 _ _) (PySem.list_append D j.toArray k Q (by rw[jav];lia)) ⟨f.1,?_⟩;have q:=PySem.IsL.update f.1 (·.push Q);have eo:j.toArray.push Q=(j++[Q]).toArray:=by simp
    have B9:Inv (CI X sc N cl C s H d (λe s'=>notedBy (model X.prog X.w) X.A (compEnvC sc cl C X.env) (λe s''=>RR (.ref D) C (.error e) s'') e s')) [] (Cn own fr U) H7 {Y with heap:=Y.heap.update D (Obj.mapSeq (·.push Q)) }:=
     Inv.turned (t':=Y.toks) (((B8.Q7 (zD:=[]) (by intro p h;simp at h)).weak ex.1.symm ex.2)) (λb o a e=>(jcm _ _ (ja7 a)).trans e) f.2.1 E (.inr (by show s.heap.objs.size<=D;lia)) (λy c e z=>by
      have:=B8.cell y c e;obtain⟨v,o,Yy,h2'⟩:=this;have Yy:Y.heap.get? c=some o:=Yy;rw[z,f.1] at Yy;cases Yy;cases h2') (by intro p h;simp at h)
    have B10:∀o',(Y.heap.update D (Obj.mapSeq (·.push Q))).get? D=some o'->(∀v,o'.data≠.cell v)->Inv (CI X sc N cl C s H d (λe s'=>notedBy (model X.prog X.w) X.A (compEnvC sc cl C X.env) (λe s''=>RR (.ref D) C (.error e) s'') e s')) [(D,o')] (Cn own fr U) H7 {Y with heap:=Y.heap.update D (Obj.mapSeq (·.push Q)) }:=λo' e1 e2=>
     Inv.yh B9 λp h=>by
      have h:p=(D,o'):=by simpa using h
      subst h;exact⟨e1,f.2.1,E,f.2.2.2.1,e2⟩
    rw[eo] at q;refine⟨m',hm,i+1,ys++[v7],j++[Q],_,H7,B10 _ q (by intro v z;cases z),T.keep _ _ _ t8 λb a o e=>(jcm _ _ (Nat.ne_of_gt (U3 b a))).trans e,f8,rv.append (.cons r7 .nil),by rw[jag,jbe];lia,w'⟩
 exact codeAny_compStart_list (O _) (T.self _ 0 _ _ _ st1 (O _))
section
variable {C:Addr}{s0:Shared}{H0:Hp}{fp:jcD}{a:jcz}
def Inv.zx {b:jcz}{c:jcy}{U:St}{H:Hp}{s:Shared}(I:Inv (CI X sc N cl C s0 H0 fp b) c U H s):Inv (CI X sc N cl C s0 H0 fp a) c U H s:=⟨{I.ok with },I.os,I.bare,I.base,I.loc,I.cell,I.free,I.nA,I.pin,I.hok,I.len⟩
def PG.zx {b:Expr}{g:TG}(h:PG (BC X sc N cl C s0 H0 fp) b g):PG (CI X sc N cl C s0 H0 fp a) b g:=λc s U H v u Q I r q=>jaQ (h c s U H v u Q I.zx r q) (λ_ _ z=>let⟨U',H',J,q'⟩:=z;⟨U',H',J.zx,q'⟩) λ_ _ z=>z.elim
def UH.zx {b:jcE}{t:TT}(h:UH (BC X sc N cl C s0 H0 fp) b t):UH (CI X sc N cl C s0 H0 fp a) b t:=λc s U H Q I q=>jaQ (h c s U H Q I.zx q) (λ_ _ z=>let⟨H',J,q'⟩:=z;⟨H',J.zx,q'⟩) λ_ _ z=>z.elim
def PE.zx {e:Expr}{t:TE}(h:PE (BC X sc N cl C s0 H0 fp) e t):PE (CI X sc N cl C s0 H0 fp a) e t:=λb s U H Q I q=>jaQ (h b s U H Q I.zx q) (λ_ _ z=>let⟨v,H',J,q'⟩:=z;⟨v,H',J.zx,q'⟩) λ_ _ z=>z.elim
end
theorem CK {a f c:Expr}{k:jcE}{h:Pos}{g:TG}{tt:TT}{te:TE}{e:jcy}{U:St}{H:Hp}{s:Shared}{j:Addr}{d:jcD}{l:Nat->Heap->Prop}{J:It}{RR:Value->Addr->Result->Shared->Prop}
  (S:lC X sc cl own N fr) (n:X.calm=true) (I:Inv X e U H s) (T:Turn X.prog X.w X.K f J d j l) (st:l 0 s.heap) (i:∀b∈d,ux X e H b)
  (o:∀C s H,PG (BC X sc N cl C s H d) f g) (p:∀C s H,UH (BC X sc N cl C s H d) k tt) (q:∀C s H,PE (BC X sc N cl C s H d) a te)
  {W:Nat->Nat->List V->Hp->Prop} {R:List V->Hp->Prop} (r:∃m,W 0 m [] H) (walk:MX J g tt te (Cn own fr U) W R)
  (fin:∀D C H' ys s' m,s'.heap.Ns C m->H' D=none->ux X e (upd H' D (.lst ys)) C->Inv X e U (upd H' D (.lst ys)) s'->R ys H'->RR (.ref D) C (.ok .next) s') :
  wpAny (model X.prog X.w) X.A (newList []) (λacc s3=>wpAny (model X.prog X.w) X.A (newFunctionEnv sc X.env.globals cl [] X.env.qual none .none (some X.env)) (λcenv s4=>
   codeAny (model X.prog X.w) X.A (.compStart (.ListComp a [⟨f,c,k,0⟩] sc h) 0 (.ref j) acc {cenv with scope:=relabel sc X.env }) (RR acc cenv.locals) s4) X.xe s3) X.xe s:=Ka S n I T st i (λ_ C=>(o C s H).zx) (λ_ C=>(p C s H).zx) (λ_ C _=>(q C s H).zx) r walk fin
def Lq (a:Nat)(f:jcH)(e:TI)(g:TG)(tt:TT)(te:TE):TE:=λU H Q=>e U H λJ c=>∃W:Nat->Nat->List V->Hp->Prop,(∃m,W 0 m [] c)/\
 MX J g tt te (Cn a f U) W λd b=>∀p,b p=none->Q (.ref p) (upd b p (.lst d))
theorem V6 {c d a:Expr}{n:jcE}{k:Pos}{l:TI}{g:TG}{tt:TT}{te:TE}(S:lC X sc cl own N fr)(R:X.calm=true)(hi:PI X d a l)(G:∀C s H fp,PG (BC X sc N cl C s H fp) d g)
  (ht:∀C s H fp,UH (BC X sc N cl C s H fp) n tt) (he:∀C s H fp,PE (BC X sc N cl C s H fp) c te) (hs:autoParam (∀x,foldedSetIterable a X.env x=pure x) kf) :
  PE X (.ListComp c [⟨d,a,n,0⟩] sc k) (Lq own fr l g tt te):=by
 intro p s U H Q I h;rw[eval_ListComp];refine wpAny_comprehension_free (use:=none) rfl hs S.clos S.kind S.names (cU (hi p s U H _ I h) λv s1 y=>cU y λt s2 E=>?_);obtain⟨it,fp,tn,J,H2,e,F,T,f,z,W,K,walk⟩:=E;subst e;refine CK (RR:=λj C=>compPost (model X.prog X.w) X.A X.xe none (EP X p U Q) j C) S R F T f z (λC s H=>G C s H fp) (λC s H=>ht C s H fp) (λC s H=>he C s H fp) K walk ?_;intro D C H' ys r m hn B O L u;obtain⟨q,f1,Y,P,V,f5⟩:=O;exact⟨m,hn,λh' i=>⟨.ref D,_,Inv.turned (t':=r.toks) L (λb o Z e=>i.extBut b o Z e) q f1 P V f5,M,u D B⟩⟩
theorem LV {d n c:Expr}{p:jcE}{j f k:Pos}{L:TI}{g:TG}{tt:TT}{te:TE}{i:Nat}{y:Str}(hN:X.N.Nodup)(G:X.N[i]?=some y)(hy:Loc X.env.scope y)(S:lC X sc cl own N fr)(hc:X.calm=true)(hi:PI X n c L)
  (hg:∀C s H fp,PG (BC X sc N cl C s H fp) n g) (ht:∀C s H fp,UH (BC X sc N cl C s H fp) p tt) (he:∀C s H fp,PE (BC X sc N cl C s H fp) d te)
  (r:autoParam (swapsWith (.ListComp d [⟨n,c,p,0⟩] sc j) (some (.Name y k)) f.line X.env=pure true) zi) (hs:autoParam (∀x,foldedSetIterable c X.env x=pure x) kf)
  (Z:autoParam (X.fn y=true\/X.env.scope.names.lookup y=some .local) zr) :
  PS X (.Assign [.Name y k] (.ListComp d [⟨n,c,p,0⟩] sc j) f) (Zl (Lq own fr L g tt te) (SM i)):=by
 intro F s U H K I h;rw[exec_Assign_Name_used _ _ _ _ r];refine jat (wpAny_standAt (jat ?_));show wpAny _ X.A (do let _ <- comprehension (.ListComp d [⟨n,c,p,0⟩] sc j) sc X.env _ (newList []) false (eval c X.env) (some (assign (.Name y k) X.env))) _ _ s;refine jat (cU (wpAny_comprehension_free (use:=some (assign (.Name y k) X.env)) (Q:=λ_ l=>SP X F K .next l) rfl hs S.clos S.kind S.names
  (cU (hi F s U H _ I h) λv s1 h1=>cU h1 λY M h2=>?_)) λ_ l hq=>jaC (jaC hq))
 obtain⟨it,fp,tn,J,H2,e,t,T,u,f2,W,w0,walk⟩:=h2;subst e;refine CK (RR:=λE C=>compPost (model X.prog X.w) X.A X.xe (some (assign (.Name y k) X.env)) (λ_ l=>SP X F K .next l) E C) S hc t T u f2 (λC s H=>hg C s H fp) (λC s H=>ht C s H fp) (λC s H=>he C s H fp) w0 walk ?_;intro D C H' ys l m hn hD fC I' rr;obtain⟨R,P,f2',f3,O,f5⟩:=fC;show wpAny _ X.A (assign (.Name y k) X.env (.ref D)) _ _ _;refine wpAny_assign_Name (Ck I' hN G hy (v:=.ref D) rfl (?_) Z);rintro M t ⟨a,sb,ha⟩;have V:C≠a:=by
  rcases ha with z | z
  .rw[z];exact P
  .exact λq=>O y a z q.symm
 exact⟨m,hn.sameBut sb V,λh' B=>⟨_,_,Inv.turned (t':=M.toks) t (λb o hb e=>B.extBut b o hb e) R P f3 O f5,rr D hD⟩⟩
end
def a71 (K:Frag)(d:TE):TI:=λU H R=>d U H λx b=>∃a,x=.ref a/\(((∃c,nM K b a c)/\R (Itl K a) b)\/((∃c,nO K b a c)/\R (Itt K a) b))
def a0A {X:Cx}{m l:Expr}{k:TE}(u:PE X l k):PI X m l (a71 X.K k):=by
 intro j s U H R I h;refine cU (u j s U H _ I h) ?_;rintro v c ⟨x,g,d,n,w⟩;obtain⟨a,e,q⟩:=w;subst e;cases n;have i:∀b∈[c.heap.objs.size],ux X j g b:=λb r=>by
  have e:b=c.heap.objs.size:=by simpa using r
  subst e;exact d.G5 (jaq _) (d.hok.fresh (jaq _))
 rcases q with⟨⟨t,f⟩,q⟩ | ⟨⟨t,f⟩,q⟩
 .obtain⟨AC,rv,p,hz⟩:=d.list f;refine wpAny_pyIter_list p.isList ?_;exact⟨c.heap.objs.size,[c.heap.objs.size],_,_,g,M,d.kept (t':=c.toks) λb o e=>jaI _ e,Nf a _,⟨_,jaV _ M,M,M⟩,i,q⟩
 .obtain⟨AC,rv,p,hz⟩:=d.tuple f;refine wpAny_pyIter_tuple (show c.heap.IsTuple a AC.toArray from p) ?_;exact⟨c.heap.objs.size,[c.heap.objs.size],_,_,g,M,d.kept (t':=c.toks) λb o e=>jaI _ e,Ie a _,⟨_,jaV _ M,M,M⟩,i,q⟩
end L2
namespace Hw
open PySem PySem.Spec
def lt (a b:Str):Bool:=ltCps a.cps.toList b.cps.toList
theorem YR:∀a:jcH,ltCps a a=false
 |[]=>rfl
 |x::r=>by simp[ltCps,YR r]
theorem MS:∀a b c:jcH,ltCps a b=true->ltCps b c=true->ltCps a c=true
 |[],[],_,h,_=>by simp[ltCps] at h
 |[],_::_,[],_,h=>by simp[ltCps] at h
 |[],_::_,_::_,_,_=>rfl
 |_::_,[],_,h,_=>by simp[ltCps] at h
 |_::_,_::_,[],_,h=>by simp[ltCps] at h
 |x::a,y::b,z::c,h,g=>by
  simp only[ltCps,jce,jaM,jbg,ja6] at h g ⊢;rcases h with h | ⟨h,d⟩<;>rcases g with g | ⟨g,e⟩
  .left;lia
  .left;lia
  .left;lia
  .right;exact⟨by lia,MS a b c d e⟩
theorem YQ:∀a b:jcH,ltCps a b=true\/a=b\/ltCps b a=true
 |[],[]=>.inr (.inl M)
 |[],_::_=>.inl rfl
 |_::_,[]=>.inr (.inr M)
 |x::a,y::b=>by
  simp only[ltCps,jce,jaM,jbg,ja6,List.cons.injEq];rcases Nat.lt_trichotomy x y with h | h | h
  .exact .inl (.inl h)
  .rcases YQ a b with g | g | g
   .exact .inl (.inr ⟨h,g⟩)
   .exact .inr (.inl ⟨h,g⟩)
   .exact .inr (.inr (.inr ⟨h.symm,g⟩))
  .exact .inr (.inr (.inl h))
def vA (a:Str):lt a a=false:=YR _
def lt_trans {a b c:Str}:lt a b=true->lt b c=true->lt a c=true:=MS _ _ _
def Et (a b:Str):lt a b=true\/a=b\/lt b a=true:=by
 rcases YQ a.cps.toList b.cps.toList with h | h | h
 .exact .inl h
 .refine .inr (.inl ?_);obtain⟨⟨x⟩⟩:=a;obtain⟨⟨y⟩⟩:=b;have h:x=y:=h;rw[h]
 .exact .inr (.inr h)
def a4J {a b:Str}(h:lt a b=true):a≠b:=λe=>by rw[e,vA] at h;cases h
def not_lt_trans {a b c:Str}(h:lt b a=false)(g:lt c b=false):lt c a=false:=by
 rcases Et c a with e | e | e
 .rcases Et b a with k | k | k
  .rw[h] at k;cases k
  .rw[k] at g;rw[g] at e;cases e
  .rw[lt_trans e k] at g;cases g
 .rw[e];exact vA a
 .cases q:lt c a with
  |false=>rfl
  |true=>have:=lt_trans e q;rw[vA] at this;cases this
abbrev Ps:=List (Str×Int)
end Hw
namespace L2
open PySem PySem.Spec PyProof.Rows
section
variable {X:Cx}
theorem wk:∀(p:Str)(l:jcB),risingS p l=true->(p::l).Pairwise λa b=>Hw.lt b a=false
 |p,[],_=>by simp
 |p,x::r,h=>by
  have h:(!ltCps x.cps.toList p.cps.toList&&risingS x r)=true:=h;rw[jaM,jcc] at h;have d:=wk x r h.2;refine jbr.mpr ⟨λy c=>?_,d⟩;rcases jae.mp c with rfl | c
  .exact h.1
  .exact Hw.not_lt_trans h.1 ((jbr.mp d).1 y c)
theorem Dy:∀(l:jcB),sortedS l=true->l.Pairwise λa b=>Hw.lt b a=false
 |[],_=>.nil
 |x::r,h=>wk x r h
theorem yC:∀{ss:jcB}{us:jcC},StrsAre us ss->Vals (ss.map V.str) us
 |_,_,.nil=>.nil
 |_,_,.cons x t h=>.cons ⟨t,M⟩ (yC h)
def wC:∀{ss:jcB}{us:jcC},Vals (ss.map V.str) us->StrsAre us ss:=by
 intro ss
 induction ss with
 |nil=>intro us r;rw[jaU] at r;cases r;exact .nil
 |cons x ss c=>
  intro us r;rw[jaf] at r;cases r with
  |cons a b=>
   obtain⟨t,e⟩:=a;subst e;exact .cons x t (c b)
theorem we:∀{xs:List V}{us:jcC},xs.length=us.length->(∀(i:Nat) x,xs[i]?=some x->∃u,us[i]?=some u/\RelV x u)->Vals xs us
 |[],[],_,_=>.nil
 |[],_::_,h,_=>by simp at h
 |_::_,[],h,_=>by simp at h
 |x::xs,u::us,h,g=>by
  obtain⟨v,e,r⟩:=g 0 x rfl;cases e;exact .cons r (we (by simpa using h) λi y a=>g (i+1) y a)
def dG.here {P:Program}{w:World}{H:Hp}{h:Heap}{a:Addr}{o:HO}(x:dG P w H h a o):∃u,h.get? a=some u:=by
 cases o with
 |lst c=>obtain⟨_,_,_,_,e⟩:=x;exact⟨_,e⟩
 |tup c=>obtain⟨_,_,_,o,e,_⟩:=x;exact⟨_,e⟩
 |dK b=>obtain⟨_,_,_,_,o,_,_,e,_⟩:=x;exact⟨_,e⟩
 |dT b=>obtain⟨_,_,_,_,o,_,_,e,_⟩:=x;exact⟨_,e⟩
 |set S n=>obtain⟨o,_,_,_,e,_⟩:=x;exact⟨_,e⟩
 |ins C g fs=>obtain⟨_,_,_,e,_⟩:=x;exact⟨_,e⟩
 |own y=>obtain⟨_,e⟩:=x;exact⟨_,e⟩
 |xd fs=>obtain⟨_,⟨_,_,_,e,_⟩,_⟩:=x;exact⟨_,e⟩
 |rng i j=>obtain⟨_,_,_,e⟩:=x;exact⟨_,e⟩
 |vE k u=>obtain⟨e,_⟩:=x;exact⟨_,e⟩
 |XR d=>exact⟨_,(show h.get? a=some _ from x)⟩
 |met f y=>exact⟨_,(show h.get? a=some _ from x)⟩
 |ext φ=>obtain⟨_,⟨_,e⟩,_⟩:=x;exact⟨_,e⟩
theorem Inv.a4M {i:jcy}{U:St}{H:Hp}{s:Shared}{h':Heap}{a:Addr}{o:HO}{t':Nat}(I:Inv X i U H s)(k:∀b u,s.heap.get? b=some u->h'.get? b=some u)(f:∀b u,s.heap.get? b=some u->b≠a)(new:dG X.prog X.w (upd H a o) h' a o) :
  H a=none/\Inv X i U (upd H a o) {s with heap:=h',toks:=t' }:=by
 have d:H a=none:=by
  cases q:H a with
  |none=>rfl
  |some u=>obtain⟨v,e⟩:=(I.hok a u q).here;exact absurd rfl (f a v e)
 refine⟨d,I.un ⟨λb u e _ _ _=>k b u e,λb u e _ _ _=>⟨u.slots,k b u e⟩,λb u e n _=>by rw[aU (f b u e)];exact n,λb u e _=>⟨u,k b u e⟩,λb h e=>by rw[aU (bU e d)];exact e,λb u h e=>by rw[aU (bU e d)];exact e,λb j e=>⟨#[],by rw[aU (bU e d),e];simp⟩⟩ λb u e=>?_⟩;by_cases g:b=a
 .subst g;rw[f9] at e;cases e;exact new
 .rw[aU g] at e;exact(I.hok b u e).stay (λc v _ q=>k c v q) (λc q=>by rw[aU (bU q d)];exact q) λc h q=>by rw[aU (bU q d)];exact q
theorem EV (hc:X.calm=true):fL X (.builtin "sorted") (λxs H Q=>∃p kvs ss,xs=[.ref p]/\H p=some (.dK kvs)/\kvs.map (·.1)=List.map (Sum.inr:Str->Key) ss/\kvs.length<64/\
  ∀l ys,H l=none->List.Perm ys ss->ys.Pairwise (λa b=>Hw.lt b a=false)->Q (.ref l) (upd H l (.lst (ys.map V.str)))):=by
 intro vy s U H xs us Q I r h;obtain⟨p,kvs,ss,rfl,hp,hk,G,q⟩:=h;obtain⟨u,rfl,Z⟩:=vals1 r;cases Z;obtain⟨T,lo,S,v,dd⟩:=uc I.hok (.inl hp);obtain⟨ep,E⟩:=dd.dictAt;have g:=v.length;refine Calls.call_function_entry kind_sorted plain_sorted entry_sorted (args_sorted1 _) ?_;unfold Builtin.«sorted»;refine jat (m:=checkCount "sorted" 1 1 _) (jaC (jat (PySem.W.kdu_collect (A:=X.A.in1) (PySem.W.kdl_dict (knd:=cL X.prog X.w) (kvs:=S) (ep:=ep) lo) (I.ok.hd hc) E (by rw[<- g];exact T) λh' tk c J d=>?_)));have C:StrsAre c.toList ss:=by
  refine wC (we ?_ λi x B=>?_)
  .have:(kvs.map (·.1)).length=(List.map (Sum.inr:Str->Key) ss).length:=by rw[hk]
   rw[jad,jad] at this;have el:c.toList.length=kvs.length:=by rw[jb6,d.1,<- g]
   rw[jad,el,this]
  .rw[jaF] at B;cases e:ss[i]? with
   |none=>rw[e] at B;cases B
   |some y=>
    rw[e] at B;cases B;have hi:i<c.size:=by
     have O:i<ss.length:=(jar.mp e).1;have:(kvs.map (·.1)).length=(List.map (Sum.inr:Str->Key) ss).length:=by rw[hk]
     rw[jad,jad] at this;rw[d.1];lia
    obtain⟨k,x,hv,K⟩:=d.2 i c[i] (by simp);have D:(S.map (·.1))[i]?=some (Sum.inr y):=by rw[<- v.keys,hk,jaF,e];rfl
    rw[jaF,hv] at D;have D:k=Sum.inr y:=ja2 D;subst D;rcases cN (show Ak (Sum.inr y) c[i]=true from K) with⟨_,_,z,_⟩ | ⟨z,t,z1,Y⟩
    .cases z
    .cases z1;exact⟨c[i],by simp,t,Y⟩
 have n:c.toList.length<64:=by rw[jb6,d.1,<- g];exact G
 refine jat (wpAny_newList ?_ (by
   have:64<=sizeLine:=by rw[ja3];decide
   lia))
 have N:(h'.push (seqObj "list" c.toList.toArray 0)).get? h'.objs.size=some (seqObj "list" c.toList.toArray 0):=jaV _ rfl;refine jat (wpAny_holding (wpAny_call_entry slot_list_sort ⟨_,N,M⟩ entry_list_sort (list_sort_treeK (s:={s with heap:=h'.push (seqObj "list" c.toList.toArray 0),toks:=tk }) strKind_oneLt N C.keysOf (λv1 v2 P e=>keyKind_strs (by rw[<- e];exact C)) n λj a1 a2=>⟨_,M,?_⟩) (args_list_sort _)));obtain⟨f,b1,R,b3⟩:=sorted_out_str C a1 a2;obtain⟨e,he⟩:=sortedHeap_at (out:=(arrOf j).map (·.2)) N;have F:(f.map V.str).length<=sizeLine:=by
  have O:64<=sizeLine:=by rw[ja3];decide
  have h2:(f.map V.str).length=c.toList.length:=by rw[jad,R.length_eq,<- StrsAre.length C]
  rw[h2];exact jay (Nat.le_of_lt n) O
 have L:=I.a4M (h':=sortedHeap (h'.push (seqObj "list" c.toList.toArray 0)) h'.objs.size c.toList ((arrOf j).map (·.2))) (a:=h'.objs.size) (o:=.lst (f.map V.str)) (t':=tk)
  (λb u q=>by
   have l:=jaE (J b u q);rw[sortedHeap_old (jaW l) (by rw[Heap.size_push];exact jbU l)];exact jaI _ (J b u q))
  (λb u q=>jaW (jaE (J b u q)))
  ⟨F,((arrOf j).map (·.2)).toList,e,yC b1,by rw[Array.toArray_toList];exact he⟩
 exact jaC ⟨_,M,.ref h'.objs.size,_,L.2,M,q _ f L.1 R (Dy _ b3)⟩
def Kz (K:Frag)(H:Hp):Nat->V->V->Prop
 |0,x,y=>fY x=true/\x=y
 |n+1,x,y=>(fY x=true/\x=y)\/∃a b c d,x=.ref a/\y=.ref b/\((nM K H a c/\nM K H b d)\/(nO K H a c/\nO K H b d))/\Paired (Kz K H n) c d
def G7 {x:V}(h:fY x=true):CG x x=true:=by
 cases x with
 |dD=>rfl
 |bl b=>simp[CG]
 |int i=>simp[CG]
 |str z=>simp[CG]
 |sn z=>simp[CG]
 |_=>cases h
theorem Gq {F:V->V->Prop}:∀{xs ys:List V},Paired F xs ys->∀{i:Nat}{x y:V},xs[i]?=some x->ys[i]?=some y->F x y
 |_,_,.nil,_,_,_,e,_=>by simp at e
 |_,_,.cons r t,0,_,_,e,a=>by simp at e a;rw[<- e,<- a];exact r
 |_,_,.cons r t,i+1,_,_,e,a=>Gq t (by simpa using e) (by simpa using a)
theorem iw {K:Frag}{n:Nat}{H:Hp}{A:Around}{s:Shared}{xs ys:List V}{us vs:jcC}(p:Paired (Kz K H n) xs ys)(r:Vals xs us)(g:Vals ys vs)
  (i:∀x y u v,RelV x u->RelV y v->Kz K H n x y->SeqAt.EqAt A s u v true):∀(j:Nat)(h1:j<us.toArray.size)(h2:j<vs.toArray.size),SeqAt.EqAt A s us.toArray[j] vs.toArray[j] true:=by
 intro j h1 h2;have l:=r.length;have m:=g.length;simp only[jav] at h1 h2;have c:xs[j]?=some xs[j]:=jaK (by lia);have d:ys[j]?=some ys[j]:=jaK (by lia);obtain⟨u,f,h⟩:=r.get c;obtain⟨v,e,k⟩:=g.get d;have b:us.toArray[j]=u:=by
  rw[jaK h1] at f;simpa using f
 have a:vs.toArray[j]=v:=by
  rw[jaK h2] at e;simpa using e
 rw[b,a];exact i _ _ u v h k (Gq p c d)
def o8 (n:Nat):((List.range n).all λ_=>true)=true:=by rw[ja8];intro _ _;rfl
def like_eq {D:jcy}{U:St}{H:Hp}{s:Shared}(I:Inv X D U H s):∀(n:Nat)(A:Around),A.units+n<cLine->∀x y u v,RelV x u->RelV y v->Kz X.K H n x y->SeqAt.EqAt A s u v true:=by
 intro n;have c:∀(A:Around)(x y:V)(u v:Value),RelV x u->RelV y v->fY x=true/\x=y->SeqAt.EqAt A s u v true:=by
  rintro A x y u v d g ⟨f,rfl⟩;have:=S7 (A:=A) (s:=s) d g f f;rw[G7 f] at this;exact this
 induction n with
 |zero=>intro A C x y u v d g h;exact c A x y u v d g h
 |succ n B=>
  intro A C x y u v d g h;rcases h with h | ⟨a,b,t,w,rfl,rfl,h,p⟩
  .exact c A x y u v d g h
  .cases d;cases g;have k:=B A.in1 (by show A.units+1+n<cLine;lia);by_cases i:a=b
   .subst i;exact SeqAt.EqAt.same _
   .refine .of_refs i ?_;have E:t.length=w.length:=jaZ p;rcases h with⟨l,o⟩ | ⟨l,o⟩
    .obtain⟨us,r1,p1,_⟩:=I.list l;obtain⟨m,j,q,_⟩:=I.list o;have r:=r1.length;have z:=j.length;have:=SeqAt.RcAt.lists (A:=A) (e:=λ_=>true) p1.isList q.isList (by simp only[jav];lia) (by lia) (iw p r1 j k);rw[o8] at this;exact this
    .obtain⟨us,r1,p1,_⟩:=I.tuple l;obtain⟨m,j,q,_⟩:=I.tuple o;have r:=r1.length;have z:=j.length;have:=SeqAt.RcAt.tuples (A:=A) (e:=λ_=>true) (show s.heap.IsTuple a us.toArray from p1) (show s.heap.IsTuple b m.toArray from q) (by lia) (iw p r1 j k);have e:(us.toArray.size==m.toArray.size)=true:=by simp only[jav,ja6];lia
     rw[o8,e] at this;exact this
def X6 (K:Frag)(n:Nat)(k:Bool):R2:=λx y H Q=>∃a b c d,x=.ref a/\y=.ref b/\((nM K H a c/\nM K H b d)\/(nO K H a c/\nO K H b d))/\Paired (Kz K H n) c d/\Q (.bl k) H
def a0U (n:Nat)(z:X.A.units+1+n<cLine):lA X (compareOp .Eq) (X6 X.K n true):=by
 intro t s U H x y v u Q I r w h;obtain⟨a,b,l,m,rfl,rfl,h,p,q⟩:=h;cases r;cases w;have d:=like_eq I n X.A.in1 (by show X.A.units+1+n<cLine;lia);have B:l.length=m.length:=jaZ p;have fin:EP X t U Q (.bool true) s:=⟨.bl true,H,I,M,q⟩
 rcases h with⟨f,i⟩ | ⟨f,i⟩
 .obtain⟨us,r1,p1,_⟩:=I.list f;obtain⟨g,c,j,_⟩:=I.list i;have k:=r1.length;have o:=c.length;exact SeqAt.eq_listAt (e:=λ_=>true) p1.isList j.isList (by simp only[jav];lia) (by lia) (iw p r1 c d) (by rw[o8];exact fin)
 .obtain⟨us,r1,p1,_⟩:=I.tuple f;obtain⟨g,c,j,_⟩:=I.tuple i;have k:=r1.length;have o:=c.length;have e:(us.toArray.size==g.toArray.size)=true:=by simp only[jav,ja6];lia
  exact SeqAt.eq_tupleAt (e:=λ_=>true) (show s.heap.IsTuple a us.toArray from p1) (show s.heap.IsTuple b g.toArray from j) (by lia) (iw p r1 c d) (by rw[o8,e];exact fin)
def a0R (n:Nat)(z:X.A.units+1+n<cLine):lA X (compareOp .NotEq) (X6 X.K n false):=by
 intro t s U H x y v u Q I r w h;obtain⟨a,b,l,m,rfl,rfl,h,p,q⟩:=h;cases r;cases w;have d:=like_eq I n X.A.in1 (by show X.A.units+1+n<cLine;lia);have B:l.length=m.length:=jaZ p;have fin:EP X t U Q (.bool false) s:=⟨.bl false,H,I,M,q⟩
 rcases h with⟨f,i⟩ | ⟨f,i⟩
 .obtain⟨us,r1,p1,_⟩:=I.list f;obtain⟨g,c,j,_⟩:=I.list i;have k:=r1.length;have o:=c.length;exact SeqAt.RcNeAt.lists (A:=X.A) (e:=λ_=>true) p1.isList j.isList (by simp only[jav];lia) (by lia) (iw p r1 c d) _ _ _ _ (by rw[o8];exact fin)
 .obtain⟨us,r1,p1,_⟩:=I.tuple f;obtain⟨g,c,j,_⟩:=I.tuple i;have k:=r1.length;have o:=c.length;have e:(us.toArray.size==g.toArray.size)=true:=by simp only[jav,ja6];lia
  exact SeqAt.RcNeAt.tuples (A:=X.A) (e:=λ_=>true) (show s.heap.IsTuple a us.toArray from p1) (show s.heap.IsTuple b g.toArray from j) (by lia) (iw p r1 c d) _ _ _ _ (by rw[o8,e];exact fin)
def rJoin:V->List V->Hp->VK->Prop:=λx c H Q=>∃a p b,x=.str a/\c=[.ref p]/\H p=some (.lst (List.map V.str b))/\(b.map (·.length)).sum+b.length*a.length<=16777216/\Q (.str (Txt.join a b)) H
def WL:uP X "str.join" rJoin:=by
 intro n s U H x l v j Q I e g h;obtain⟨f,p,i,rfl,rfl,d,a,q⟩:=h;obtain⟨t,rfl⟩:=e;obtain⟨u,rfl,b⟩:=g.one;cases b;obtain⟨o,r,c,_⟩:=I.list (nM.of d);exact join_list c.isList (by simpa using wC r) a λm k=>⟨.str _,H,I.tok _,⟨_,M⟩,q⟩
def a7k (K:Frag)(c:V):List V->Hp->VK->Prop:=λa H Q=>∃x t u b,a=[x,c]/\vP K H x t/\RelV c u/\kitOne K t u=some b/\Q (.bl b) H
def RelV.a7W {c:V}{u d:Value}(e:match c with | .ref _=>True | .ty _=>True | _=>False)(r:RelV c u)(b:RelV c d):u=d:=by
 cases c with
 |ref a=>cases r;cases b;rfl
 |ty n=>cases r;cases b;rfl
 |_=>exact e.elim
def TN {c:V}(a:match c with | .ref _=>True | .ty _=>True | _=>False):fL X (.builtin "isinstance") (a7k X.K c):=by
 intro m s U H l j Q I r h;obtain⟨x,t,u,b,rfl,ty,e,f,q⟩:=h;obtain⟨i,k,rfl,g,d⟩:=vals2 r;rw[RelV.a7W a d e];exact Oh I g ty f λtk=>⟨.bl b,H,I.tok _,M,q⟩
def a3X (K:Frag):R2:=λx y H Q=>∃a b c d,x=.ref a/\y=.ref b/\nO K H a c/\nO K H b d/\c.length+d.length<=sizeLine/\
 (c=[]->Q (.ref b) H)/\(c≠[]->d=[]->Q (.ref a) H)/\(c≠[]->d≠[]->∀p,H p=none->Q (.ref p) (upd H p (.tup (c++d))))
def Wd:lA X (binaryOp .Add) (a3X X.K):=by
 intro T s U H x y v u Q I t A h;obtain⟨a,b,m,J,rfl,rfl,l,r,B,P,N,G⟩:=h;by_cases e:m=[]
 .cases t;cases A;obtain⟨w,R,D,_⟩:=I.tuple l;obtain⟨d,Y,W,_⟩:=I.tuple r;obtain⟨⟨cls,C,o,O⟩,z,p,n,q⟩:=id D;obtain⟨⟨L,j,k,i⟩,f,g,E,c⟩:=id W;simp only at p q g c;subst p q g c;have V:w=[]:=R.dZ.mpr e;refine concat_meets ⟨_,z,M⟩ ⟨_,f,M⟩ noFill_tuple_add seq_tuple_add PySem.F.slot_tuple_add PySem.F.entry_tuple_add (PySem.F.args_tuple_add_2 _ _)
   (tuple_addW0 a b w.toArray d.toArray n E C j O i (by simp[V])) ⟨z,f,?_⟩
  exact⟨.ref b,H,I,M,P e⟩
 .exact We T s U H _ _ v u Q I t A ⟨a,b,m,J,M,M,l,r,e,B,N e,λS=>G e S⟩
def a7j (K:Frag):R2:=λx y H Q=>∃p a k v,x=.ref p/\y=.int (k:Nat)/\nM K H p a/\a[k]?=some v/\Q v H
def SJ:a5U X (a7j X.K):=by
 intro u s U H o i m n Q I j d h;obtain⟨p,g,k,v,rfl,rfl,f,b,q⟩:=h;cases j;obtain⟨t,rfl⟩:=d;obtain⟨x,r,c,l⟩:=I.list f;obtain⟨w,e,a⟩:=r.get b;have hk:k<g.length:=(jar.mp b).1;have y:=rH;exact wpAny_getItem_list c.isList (by lia) (by lia) (by simpa using e) ⟨v,H,I,a,q⟩
end
end L2
namespace Hw
open PySem L2
def Dn (P:Program)(w:World)(K:Frag)(b:Str->jcG)(a:Heap)(k:Nat)(x:Str)(c:jcB)(sp:Sp):Prop:=
 ∃(f:Addr)(d:FuncData),gi P w K b a yw k f d c sp/\b x=some (.ref f)/\keepIn K (.ref f)=true/\Binds K d c []
def Mt (P:Program)(w:World)(K:Frag)(d:Str->jcG)(a:Heap)(k:Nat)(C:Addr)(m:Str)(b:jcB)(sp:Sp):Prop:=
 ∃(f:Addr)(c:FuncData),gi P w K d a yw k f c b sp/\Meth K C m f/\Binds K c b []
def Mr (P:Program)(w:World)(K:Frag)(d:Str->jcG)(a:Heap)(k:Nat)(C:Addr)(b:jcB)(sp:Sp):Prop:=
 ∃(f:Addr)(c:FuncData),gi P w K d a yw k f c b sp/\Mk K C f/\Binds K c b []
def line (n:Nat)(h:n<=100000):n<sizeLine:=by rw[ja3];lia
def szl (n:Nat)(h:autoParam (n<=100000) zn):n<=sizeLine:=Nat.le_of_lt (line n h)
end Hw
namespace L2
open PySem PySem.Spec PyProof.Rows
section
variable {X:Cx}{K:Frag}
noncomputable def strsOf:jcE->Option (jcB)
 |[]=>some []
 |.Constant (.str x) _ _::r=>(strsOf r).map (x::·)
 |_=>none
def XS (xs:jcB):TA:=λ_ H Q=>Q (xs.map V.str) H
theorem L0:∀{es:jcE}{xs:jcB},strsOf es=some xs->PA X es (XS xs)
 |[],xs,h=>by
  cases h;exact Rn
 |e::r,xs,h=>by
  unfold strsOf at h;split at h
  .rename_i he;cases he
  .rename_i x j pos r' he;cases he;cases q:strsOf r with
   |none=>rw[q] at h;cases h
   |some b=>
    rw[q] at h;cases h;have a:=L0 q;exact L1 Jq a rfl
  .cases h
def Ym:Expr->Option (jcB)
 |.List a _=>strsOf a
 |_=>none
def V2 {xs:jcB}:∀{e:Expr},Ym e=some xs->PE X e (a3r (XS xs)):=by
 intro e h;cases e<;>first|exact Jr (L0 h)|exact(Option.some_ne_none _ h.symm).elim
end
end L2
namespace Hw
open PySem L2
noncomputable def a4O:jcB:=["helper","answers","needs","gives","end","let","div","mod","put","row","at","if","else"]
noncomputable def a4N:jcB:=["while","holds","falls","call","claim","and","or","not"]
def qI:jcB:=a4O++a4N
def Lz (K:Frag):Sp:=λc H Q _=>∃(a:Addr)(b:List Int),c=[.ref a]/\nM K H a (b.map V.int)/\b.length<=63/\∀H',Q (.bl true) H'
end Hw
namespace L2
open PySem PySem.Spec PyProof.Rows
section
variable {X:Cx}{K:Frag}
def a7d:V->Option Int->Option Int->Hp->VK->Prop:=λx b a H Q=>∃z,x=.str z/\z.length<=sizeLine/\Q (.str (Txt.slice z b a)) H
def ZJ:Xz X a7d:=by
 intro o s U H x v r w c f p Q I n b m e h;obtain⟨z,rfl,g,q⟩:=h;obtain⟨t,rfl⟩:=n;have fin:(Txt.slice z c f).length<=sizeLine/\∀a k,EP X o U Q (.str (Txt.slice z c f) a) {s with toks:=k }:=⟨jay (Txt.slice_le z _ _) g,λa k=>⟨.str _,H,I.tok _,⟨_,M⟩,q⟩⟩
 refine⟨"str",_,PySem.F.slot_str_getitem.lookup,typeIs_str _ _ _,?_⟩;cases m with
 |none=>cases e with
  |none=>exact jch (l:=none) (u:=none) (st:=none) b rfl (post_val_or_str fin)
  |int j a=>exact jch (l:=none) (u:=some (j,a)) (st:=none) b rfl (post_val_or_str fin)
 |int i d=>cases e with
  |none=>exact jch (l:=some (i,d)) (u:=none) (st:=none) b rfl (post_val_or_str fin)
  |int j a=>exact jch (l:=some (i,d)) (u:=some (j,a)) (st:=none) b rfl (post_val_or_str fin)
def Z6 (K:Frag):R2:=λx y H Q=>∃a b c,x=.ref a/\y=.ref b/\nO K H a c/\nO K H b []/\Q (.bl (decide (c=[]))) H
def Ru (o:X.A.units<cLine):lA X (compareOp .Eq) (Z6 X.K):=by
 intro D s U H x y v u Q I r w h;obtain⟨a,b,f,rfl,rfl,i,p,q⟩:=h;cases r;cases w;obtain⟨c,g,k,_⟩:=I.tuple i;obtain⟨C,n,t,_⟩:=I.tuple p;cases n;refine SeqAt.eq_tupleAt (e:=λ_=>true) (show s.heap.IsTuple a c.toArray from k) (show s.heap.IsTuple b ([]:jcC).toArray from t) o (λj B m=>absurd m (by simp)) ?_;have e:((List.range (min c.toArray.size ([]:jcC).toArray.size)).all (λ_=>true)&&c.toArray.size==([]:jcC).toArray.size)=decide (f=[]):=by
  have l:=g.length;rw[o8,Bool.true_and];by_cases d:f=[]
  .subst d;cases g;simp
  .rw[jai d];have:c≠[]:=λz=>d (by rw[z] at l;exact jbd.mp l);cases c with
   |nil=>exact absurd rfl this
   |cons _ _=>simp
 rw[e];exact⟨.bl _,H,I,M,q⟩
abbrev TJ:=St->Hp->Str->(Str->Hp->Prop)->Prop
def PJ (X:Cx)(a:jcE)(t:TJ):Prop:=
 ∀(vy:jcy) (s:Shared) (U:St) (H:Hp) (acc:Str) (Q:Str->Hp->Prop),Inv X vy U H s->t U H acc Q->
  wpAny (model X.prog X.w) X.A (joinParts acc (evalEach a X.env)) (EP X vy U λv b=>∃x,v=.str x/\Q x b) X.xe s
def a7U:TJ:=λ_ H a Q=>a.length<=sizeLine/\Q a H
def a7T (c:Str)(t:TJ):TJ:=λU H a Q=>(a++c).length<=sizeLine/\t U H (a++c) Q
def a7S (te:TE)(t:TJ):TJ:=λU H a Q=>te U H λx b=>(∃i,x=.int i/\i.natAbs.log2<1920/\(a++(toString i:Str)).length<=sizeLine/\t U b (a++(toString i:Str)) Q)\/(∃y,x=.str y/\y.length<=sizeLine/\(a++y).length<=sizeLine/\t U b (a++y) Q)
def a0y:PJ X [] a7U:=by
 intro b s U H a Q I h;exact joinParts_nil ⟨.str a,H,I.tok _,⟨_,M⟩,a,M,h.2⟩ h.1
def a0x {c:Str}{j:Nat}{a:Pos}{d:jcE}{t:TJ}(h:PJ X d t):PJ X (.Constant (.str c) j a::d) (a7T c t):=by
 intro f s U H b Q I e;show wpAny _ _ (joinParts b (eval (.Constant (.str c) j a) X.env::evalEach d X.env)) _ _ s;refine joinParts_cons (Calls.Constant_str ⟨e.1,?_⟩);exact h f _ U H (b++c) Q (I.tok _) e.2
def a0w {e:Expr}{a:Pos}{c:jcE}{te:TE}{t:TJ}(m:PE X e te)(h:PJ X c t):PJ X (.FormattedValue e (-1) none a::c) (a7S te t):=by
 intro f s U H d Q I l;show wpAny _ _ (joinParts d (eval (.FormattedValue e (-1) none a) X.env::evalEach c X.env)) _ _ s;refine joinParts_cons (FormattedValue_plain (cU (m f s U H _ I l) ?_));rintro v u ⟨x,k,g,j,r⟩;rcases r with⟨i,rfl,p,b,q⟩ | ⟨y,rfl,o,b,q⟩
 .obtain⟨t',rfl⟩:=j;exact formatField_int_small p ⟨b,h f _ U k _ Q (g.tok _) q⟩
 .obtain⟨t',rfl⟩:=j;exact formatField_str (λn tk=>⟨b,h f _ U k _ Q (g.tok _) q⟩) o
def tFs (t:TJ):TE:=λU H Q=>t U H Str.empty λx a=>Q (.str x) a
def V4 {d c:Expr}{a:jcE}{b:Pos}{t:TJ}(h:PJ X (d::c::a) t):PE X (.JoinedStr (d::c::a) b) (tFs t):=by
 intro i s U H Q I f;refine JoinedStr_many (cU (h i s U H Str.empty _ I f) ?_);rintro u k ⟨v,g,j,r,x,e,q⟩;subst e;exact⟨.str x,g,j,r,q⟩
end
end L2
namespace HT
open PySem PySem.Spec PyProof.Rows
section
variable {prog:Program}{w:World}{A:Around}{E:jcz}{s:Shared}
end
end HT
namespace L2
open PySem PySem.Spec PyProof.Rows
section
variable {X:Cx}{K:Frag}
end
section
variable {X:Cx}{K:Frag}
def Frz (d:Addr)(a:Obj)(kvs:List (Key×V))(H H':Hp):Prop:=H' d=some (.vE a (.dK kvs))/\∀b,b≠d->H' b=H b
theorem Inv.frozen {i:jcy}{U:St}{H:Hp}{s:Shared}{d:Addr}{kvs:List (Key×V)}(I:Inv X i U H s)(e:Rd H d (.dK kvs)) :
  ∃(ob:Obj)(H':Hp),Frz d ob kvs H H'/\Inv X i U H' s/\s.heap.get? d=some ob:=by
 rcases e with e | ⟨ob,e⟩
 .have ok:=I.hok d _ e;obtain⟨ob,a⟩:=ok.here;refine⟨ob,upd H d (.vE ob (.dK kvs)),⟨f9,λb g=>aU g⟩,?_,a⟩;have h:∀b f,H b=some (.tup f)->b≠d:=λb f z=>GO z e (by intro w;cases w);have no:∀b x,H b=some (.own x)->b≠d:=λb x z=>GO z e (by intro w;cases w);have:=I.un (h':=s.heap) (t':=s.toks) (H':=upd H d (.vE ob (.dK kvs))) ⟨λb u q _ _ _=>q,λb u q _ _ _=>⟨u.slots,q⟩,λb u q n _=>by rw[aU (bU e n).symm];exact n,λb u q _=>⟨u,q⟩,
   λb f z=>by rw[aU (h b f z)];exact z,λb u f z=>by rw[aU (GO z e (by intro w;cases w))];exact z,λb j z=>⟨#[],by rw[aU (GO z e (by intro w;cases w)),z];simp⟩⟩ λb u z=>by
   by_cases g:b=d
   .subst g;rw[f9] at z;cases z;exact⟨a,ok.stay (λ_ _ _ q=>q) (λc q=>by rw[aU (no c _ q)];exact q) λc f q=>by rw[aU (h c f q)];exact q⟩
   .rw[aU g] at z;exact(I.hok b u z).stay (λ_ _ _ q=>q) (λc q=>by rw[aU (no c _ q)];exact q) λc f q=>by rw[aU (h c f q)];exact q
  exact this
 .obtain⟨a,_⟩:=I.hok d _ e;exact⟨ob,H,⟨e,λ_ _=>rfl⟩,I,a⟩
theorem Inv.held {m:jcy}{U:St}{H:Hp}{s:Shared}{d:Addr}{c:Obj}{kvs:List (Key×V)}(I:Inv X m U H s)(e:H d=some (.vE c (.dK kvs))) :
  (d==sysModules)=false/\kvs.length<=sizeLine/\s.heap.get? d=some c/\∃vs es ep,KV kvs vs/\c.data=.dict es ep/\s.heap.DictAt (cL X.prog X.w) d vs ep:=by
 obtain⟨b,_⟩:=I.hok d _ e;obtain⟨g,j,vs,f,i⟩:=uc I.hok (.inr ⟨c,e⟩);obtain⟨ep,a⟩:=i.dictAt;obtain⟨o,es,l,n,k,_⟩:=id a;have h:=l.symm.trans b;cases h;exact⟨j,g,b,vs,es,ep,f,k,a⟩
theorem KV.at {κ:Type}:∀{kvs:List (κ×V)} {vs:List (κ×Value)},KV kvs vs->∀{i:Nat}{k:κ}{x:V},kvs[i]?=some (k,x)->∃u,vs[i]?=some (k,u)/\RelV x u
 |_,_,.nil,_,_,_,e=>by simp at e
 |_,_,.cons (b:=q) r t,0,k,x,e=>by
  simp at e;obtain⟨c,a⟩:=r;rw[e] at c a;exact⟨q.2,by simp;exact Prod.ext c.symm M,a⟩
 |_,_,.cons r t,i+1,k,x,e=>by
  obtain⟨u,c,a⟩:=KV.at t (i:=i) (k:=k) (x:=x) (by simpa using e);exact⟨u,by simpa using c,a⟩
def KV.len {κ:Type}{kvs:List (κ×V)}{vs:List (κ×Value)}(r:KV kvs vs):kvs.length=vs.length:=jaZ r
def Vx {P:Program}{w:World}{k:Key}{v:Value}(h:(cL P w).is k v=true):RelV (kV k) v:=by
 rcases cN h with⟨i,t,rfl,rfl⟩ | ⟨x,t,rfl,rfl⟩
 .exact⟨t,M⟩
 .exact⟨t,M⟩
def FF (p d:Addr):HO:=.ext λh=>h.IsValuesView p d
def a3g (O:Addr->Addr->HO)(c:TE):TE:=λU H Q=>c U H λx a=>∃d b,x=.ref d/\Rd a d (.dK b)/\∀p,a p=none->Q (.ref p) (upd a p (O p d))
def Xf {h:jcy}{U:St}{H:Hp}{s:Shared}{d:Addr}{kvs:List (Key×V)}(I:Inv X h U H s)(e:Rd H d (.dK kvs)):s.TypeIs (.ref d) "dict"/\∀a,Value.ref d=.ref a->∃ob,s.heap.get? a=some ob/\ob.dict=none:=by
 obtain⟨_,_,i,c,b⟩:=uc I.hok e;refine⟨b.typeIs,λa z=>?_⟩;cases z;obtain⟨o,k,j,g,f,_⟩:=b;exact⟨o,g,f.2.1⟩
variable {o e:Expr}{to:TE}{BM cpos:Pos}
def ND (f:PE X o to)(B:autoParam (attributeBase o "values" X.env (eval o X.env)=eval o X.env) zi)(j:autoParam ((BM.endLine==cpos.line)=true) zi):PE X (.Call (.Attribute o "values" BM) [] [] cpos) (a3g FF to):=by
 intro A s U H Q I h;refine wpAny_Call_method0_late B j (cU (f A s U H _ I h) ?_);rintro v e ⟨x,C,a,y,d,l,u,i,t⟩;subst u;cases y;obtain⟨c,g⟩:=Xf a i;obtain⟨_,p,n,z,m⟩:=uc a.hok i;refine⟨"dict","dict.values",PySem.F.plainAttrs_dict,PySem.F.slot_dict_values,PySem.F.type_dict_values,c,g,jcn rfl (PySem.evalArgs_none ?_)⟩;refine call_meetsIn PySem.F.slot_dict_values c PySem.F.entry_dict_values (PySem.F.args_dict_values_1 _) (meets_dict_values (cL X.prog X.w) d p) ⟨⟨n,m⟩,?_⟩;refine⟨.ref e.heap.objs.size,_,a.laid (t':=e.toks) (o:=FF e.heap.objs.size d) (λb D q=>jaI _ q) (jaq _) ?_,M,t _ (a.hok.fresh (jaq _))⟩;exact⟨⟨_,jaV _ M,M,M⟩,⟨_,jaV _ M⟩,λc g ⟨o,f,r⟩ k=>⟨o,k o f,r⟩⟩
theorem J2 (l b:Addr)(xs ys:Array Value)(n m:Nat)(i:jcF)(e:jcA)(o:¬(!xs.isEmpty&&Builtin.List.listTooLong (xs.size+ys.size))=true)(f:xs.size<=sizeLine)(k:xs.size+ys.size<=sizeLine+1) :
  Meets (Builtin.«list.extend» ⟨[.ref l,.ref b],[]⟩) (λ_ R s=>s.heap.get? l=some ⟨.type "list",none,.seq xs n,#[]⟩/\s.heap.get? b=some ⟨.type "tuple",i,.seq ys m,e⟩/\
   R (.ok (.ret Value.none)) {s with heap:=s.heap.update l (Obj.mapSeq λx=>x++ys),toks:=s.toks }):=
 .of_wp λa w A R s h=>by
  obtain⟨t,g,d,tk,p⟩:=s;obtain⟨c,j,h⟩:=h;have y:=PySem.AutoSeq1.idx_int;have v:=PySem.AutoSeq1.sub_tuple_tuple;have u:=PySem.AutoSeq1.sub_list_list;have q:=PySem.AutoSeq1.sub_tuple_list;have r:=PySem.AutoSeq1.sub_list_tuple;have z:(xs++ys).size<=sizeLine+1:=by
   rw[Array.size_append];exact k
  wp_walk using(wpAny_updateSeq c rfl (hz:=f) (_hz':=z)),PySem.AutoSeq1.wpAny_loadPart' c,PySem.AutoSeq1.wpAny_loadPart' j
  exact⟨_,M,h⟩
def QD (K:Frag):V->List V->Hp->VK->Prop:=λx d H Q=>∃l b a c,x=.ref l/\d=[.ref b]/\H l=some (.lst a)/\nO K H b c/\a.length+c.length<=sizeLine/\Q .dD (upd H l (.lst (a++c)))
def JH:MtM X "list.extend" (QD X.K):=by
 intro J s U H x R v V Q I G N h;obtain⟨l,b,S,W,rfl,rfl,m,D,O,q⟩:=h;cases G;obtain⟨u,rfl,t⟩:=N.one;cases t;obtain⟨z,g,n,r,T,e⟩:=I.Eu m;obtain⟨a,k,p,P⟩:=I.tuple D;have L:=k.length;have i:g.toArray.size+a.toArray.size<=sizeLine:=by rw[jav,jav];lia
 have B:¬(!g.toArray.isEmpty&&Builtin.List.listTooLong (g.toArray.size+a.toArray.size))=true:=by
  rw[zZ i,Bool.and_false];exact jaA
 have C:∀d c f,s.heap.get? b=some {cls:=.type "tuple",dict:=c,data:=.seq a.toArray d,slots:=f }->wpAny (model X.prog X.w) X.A (call (.builtin "list.extend") [.ref l,.ref b]) (EP X J U Q) X.xe s:=λd c f y=>by
  refine jbc F.slot_list_extend ⟨_,e,M⟩ F.entry_list_extend (F.args_list_extend_2 _ _)
   (J2 l b g.toArray a.toArray n d c f B (by rw[jav];lia) (by lia)) ⟨e,y,?_⟩
  refine⟨.dD,_,I.WO (its':=g++a) m e (by simp) (r.append k) ?_,M,q⟩;rw[jag];lia
 obtain⟨⟨cls,c,data,f⟩,E,j,d,o⟩:=id p;simp only at j o;subst j o;exact C d c f E
def Z5 (K:Frag):R2:=λx y H Q=>∃a b c,x=.ref a/\y=.ref b/\nM K H a c/\nM K H b []/\Q (.bl (!decide (c=[]))) H
def Rt (k:X.A.units<cLine):lA X (compareOp .NotEq) (Z5 X.K):=by
 intro D s U H x y v u Q I t w h;obtain⟨a,b,n,rfl,rfl,m,r,q⟩:=h;cases t;cases w;obtain⟨g,i,f,_⟩:=I.list m;obtain⟨C,p,l,_⟩:=I.list r;cases p;have d:=i.length;by_cases c:n=[]
 .rw[jah c] at q;subst c;cases i;exact SeqAt.RcNeAt.lists (A:=X.A) (e:=λ_=>true) f.isList l.isList rfl k (λj B o=>absurd o (by simp)) _ _ _ _ ⟨.bl false,H,I,M,q⟩
 .rw[jai c] at q;have:g≠[]:=λz=>c (by rw[z] at d;exact jbd.mp d);refine SeqAt.RcNeAt.lists_lengths (A:=X.A) f.isList l.isList ?_ k _ _ _ _ ⟨.bl true,H,I,M,q⟩;cases g with
  |nil=>exact absurd rfl this
  |cons _ _=>simp
end
def Itv (d:Addr)(a:Obj)(kvs:List (Key×V)):It:=
 ⟨λi H=>H d=some (.vE a (.dK kvs))/\i<kvs.length,λi H x b=>b=H/\∃k,kvs[i]?=some (k,x),λi H=>H d=some (.vE a (.dK kvs))/\kvs.length<=i⟩
theorem Nb {P:Program}{w:World}{K:Frag}{tg:Expr}(d it:Addr)(ob:Obj)(kvs:List (Key×V))(es:Array DictEntry)(ep:Nat)(hob:ob.data=.dict es ep) :
  Turn P w K tg (Itv d ob kvs) [it] it (λi h=>h.IsValIter it d i kvs.length ep) where
 mem:=by simp
 obj:=λi h st b hb=>by
  have e:b=it:=by simpa using hb
  subst e;obtain⟨o,e,c,dd⟩:=st;exact⟨o,e,λv z=>by rw[dd] at z;cases z⟩
 keep:=λi h h' st k=>st.at λo e=>k it (by simp) o e
 item:=by
  intro X hP hw hK hc i vy s U H E I hf st hg;subst hP hw hK;obtain⟨hd,hi⟩:=hg;obtain⟨lo,hz,Sy,vs,es',ep',rel,hdat,hat⟩:=I.held hd;rw[hob] at hdat;cases hdat;obtain⟨f0,f1,f2,f3,f4,f5⟩:=hf it (by simp);have hl:=rel.len;obtain⟨⟨k,v⟩,hkv⟩:∃p,kvs[i]?=some p:=⟨kvs[i],by simp[hi]⟩
  obtain⟨u,hu,ru⟩:=rel.at hkv;rw[hl] at st;refine wpAny_pyNext_values_item st hat hu λh' st' sb=>?_;have I1:Inv X vy U H {s with heap:=h' }:=I.turned (t':=s.toks) (λb o hb e=>(sb.2 b hb).trans e) f0 f1 f3 f4 f5;obtain⟨o,e,c,dd⟩:=id st';exact⟨u,M,wI (s:={s with heap:=h' }) e c dd (by decide) ⟨v,H,I1,ru,⟨M,k,hkv⟩,by rw[hl];exact st',λb hb=>(hf b hb).1⟩⟩
 done:=by
  intro X hP hw hK hc i vy s U H E I hf st hg;subst hP hw hK;obtain⟨hd,hi⟩:=hg;obtain⟨lo,hz,Sy,vs,es',ep',rel,hdat,hat⟩:=I.held hd;rw[hob] at hdat;cases hdat;obtain⟨f0,f1,f2,f3,f4,f5⟩:=hf it (by simp);have hl:=rel.len;rw[hl] at st;exact wpAny_pyNext_values_end (I.ok.hd hc) st hat (List.getElem?_eq_none_iff.mpr (by lia)) λh' eb=>⟨M,I.turned (t':=s.toks) (λb o hb e=>eb b o hb e) f0 f1 f3 f4 f5⟩
 self:=λ_ _ _ _ _ st h=>wpAny_pyIter_valiter st h
section
variable {X:Cx}{e:Expr}{te:TE}
def a47 (te:TE):TI:=λU H R=>te U H λx b=>∃p d a,x=.ref p/\b p=some (FF p d)/\Rd b d (.dK a)/\∀ob H2,Frz d ob a b H2->R (Itv d ob a) H2
def V0 {w:Expr}(D:PE X e te):PI X w e (a47 te):=by
 intro G s U H R I h;refine cU (D G s U H _ I h) ?_;rintro v c ⟨x,L,m,C,p,d,g,A,r,z,q⟩;subst A;cases C;obtain⟨n,k,l,f,E⟩:=m.frozen z;obtain⟨N,J,O,K,y,t,j,a,i⟩:=f.held l.1;have B:c.heap.IsValuesView p d:=(m.hok p _ r).1;have u:=j.len;refine wpAny_pyIter_values B i ?_;exact⟨c.heap.objs.size,[c.heap.objs.size],_,_,k,M,f.kept (t':=c.toks) λb o e=>jaI _ e,Nb d _ n g y t a,⟨_,jaV _ M,M,by rw[u];rfl⟩,λb F=>by
  have e:b=c.heap.objs.size:=by simpa using F
  subst e;exact f.G5 (jaq _) (f.hok.fresh (jaq _)),q n k l⟩
end
end L2
namespace Hw
open PySem L2
def abc:Str:="abcdefghijklmnopqrstuvwxyz"
def Xw:abc.cps.toList=(List.range 26).map (97+·):=by symm
def p8:abc.length<=sizeLine:=Nat.le_of_lt (line _ (by symm))
def Ue {r:Nat}(h:r<26):jY abc.cps.toList (r:Int)=some (97+r):=bK (by rw[Xw,jaF,jbx h];rfl)
def uw (i:Int):jY abc.cps.toList (i % 26)=some (97+(i % 26).toNat):=by
 have a:=jbN i (show(26:Int)≠0 by decide);have b:=jbI i (show(0:Int)<26 by decide);have e:i % 26=((i % 26).toNat:Int):=(jct a).symm;have:=Ue (r:=(i % 26).toNat) (by lia);rw[<- e] at this;exact this
noncomputable def qJ:jcB:=["lets","ifs","order","rows","att","notes","calls","ends","outlet","bend","motor","modes"]
def Od:qJ.length=12:=rfl
noncomputable abbrev a5E (c:Nat):Str:=⟨#[c]⟩
def zw (a b:Nat):Str:=(("z":Str)++a5E a)++a5E b
def p7 (a b:Str):(a++b).cps.toList=a.cps.toList++b.cps.toList:=PySem.W.KT.app_list a b
def jv (a b:Str):(a++b).length=a.length+b.length:=by
 have h:∀x:Str,x.length=x.cps.toList.length:=λx=>by simp[Str.length]
 rw[h,h,h,p7,jag]
def CY (a b:Nat):(zw a b).cps.toList=[122,a,b]:=by
 unfold zw;rw[p7,p7];rfl
def OR (a b:Nat):(zw a b).length=3:=by
 unfold zw;rw[jv,jv];rfl
def zt (k:Int)(t:Nat):Str:=zw (97+((t:Int) % 26).toNat) (97+((k+t) % 26).toNat)
def YW {k:Int}{s t:Nat}(hs:s<26)(a:t<26)(h:zt k s=zt k t):s=t:=by
 have e:(zt k s).cps.toList=(zt k t).cps.toList:=by rw[h]
 unfold zt at e;rw[CY,CY] at e;have:=(List.cons.inj (List.cons.inj e).2).1;lia
theorem Q8:∀(n:Nat)(f:Nat->Str)(xs:jcB),(∀s,s<n->f s∈xs)->(∀s t,s<n->t<n->f s=f t->s=t)->n<=xs.length
 |0,_,_,_,_=>jaN _
 |n+1,f,xs,h,inj=>by
  have m:=h n (jcd n);have c:=Q8 n f (xs.erase (f n)) (λs a=>by
   have b:f s≠f n:=λe=>jaW a (inj s n (jbU a) (jcd n) e);exact(List.mem_erase_of_ne b).mpr (h s (jbU a))) λs t a d=>inj s t (jbU a) (jbU d)
  rw[List.length_erase_of_mem m] at c;have:0<xs.length:=List.length_pos_of_mem m;lia
theorem OS {k:Int}{xs:jcB}{n:Nat}(c:n<=20)(h:∀s,s<n->zt k (s+1)∈xs):n<=xs.length:=
 Q8 n (λs=>zt k (s+1)) xs h λs t a b e=>by have:=YW (by lia) (by lia) e;lia
def mW (w:Str)(xs:jcB):H8 (.str w) (xs.map V.str)=decide (w∈xs):=by
 unfold H8;rw[List.any_map];by_cases h:w∈xs
 .rw[jah h,jbW];exact⟨w,h,by simp[CG]⟩
 .rw[jai h,List.any_eq_false];intro y a;simp only[Function.comp,CG,ja6];intro e;exact h (e ▸ a)
def pV (xs:jcB):(xs.map V.str).all fY=true:=by rw[jbP,ja8];intro _ _;rfl
theorem FL:∀ss:jcB,(∀a∈ss,a.length=1)->(ss.map (·.length)).sum=ss.length
 |[],_=>rfl
 |a::r,h=>by
  rw[jaf,ja9,FL r λb c=>h b (jaj _ c),jam,h a (jak ..)];lia
noncomputable abbrev cp (x:Str):jcH:=x.cps.toList
def dB {a b:Str}(h:cp a=cp b):a=b:=PyProof.Rows.ext_toList h
def bJ (x:Str):x.length=(cp x).length:=by simp[Str.length]
theorem MF:∀ss:jcB,cp (Str.join (Str.ofString "") ss)=(ss.map cp).flatten
 |[]=>rfl
 |[x]=>by simp[Str.join]
 |x::y::r=>by
  show cp (x++Str.ofString ""++Str.join (Str.ofString "") (y::r))=_;rw[cp,p7,p7];have a:=MF (y::r);rw[show(Str.join (Str.ofString "") (y::r)).cps.toList=cp (Str.join (Str.ofString "") (y::r)) from M,a];have z:(Str.ofString "").cps.toList=[]:=by decide
  rw[z,jaD];rfl
def Av (ss:jcB):cp (Txt.join (Str.ofString "") ss)=(ss.map cp).flatten:=by
 show cp (Builtin.Str.glued (Str.ofString "") ss)=_;rw[jba];exact MF ss
noncomputable def jc (i:Int):Int:=if i<0 then -i else i
def HH (i:Int):(jc i).natAbs=i.natAbs:=by unfold jc;split<;>lia
def Small (i:Int):Prop:=-(2 ^ 60)<i/\i<2 ^ 60
def Small.log {i:Int}(h:Small i):(jc i).natAbs.log2<1920:=by
 rw[HH];have b:i.natAbs<2 ^ 64:=by have:=h.1;have:=h.2;lia
 by_cases a:i.natAbs=0
 .rw[a];decide
 .exact jaR ((Nat.log2_lt a).mpr b) (by decide)
def Small.a7x {i:Int}(h:Small i):(jc i).natAbs.log2<64:=by
 rw[HH];have b:i.natAbs<2 ^ 64:=by have:=h.1;have:=h.2;lia
 by_cases a:i.natAbs=0
 .rw[a];decide
 .exact(Nat.log2_lt a).mpr b
def dQ (i:Int):Str:=Str.ofString (toString (jc i))
def oR {i:Int}(h:Small i):(dQ i).length<=65:=by
 unfold dQ;rw[ofString_length];exact int_text_length_le (k:=64) (by decide) h.a7x
def eG (t:Str)(w:Int):Str:=if jc w=1 then t else(dQ w++Str.ofString "*")++t
def Ce {t:Str}{w:Int}(h:Small w):(eG t w).length<=t.length+66:=by
 unfold eG;split
 .lia
 .rw[jv,jv];have:=oR h;have z:(Str.ofString "*").length=1:=by decide
  lia
def gR (w:Int):Str:=if w<0 then Str.ofString " - " else Str.ofString " + "
def jA (w:Int):(gR w).length=3:=by unfold gR;split<;>decide
def DC (w:Int):(cp (gR w)).length=3:=by rw[<- bJ];exact jA w
abbrev Qs:=List (Int×Str)
def cY (a:Ps)(n:Int):Qs:=(a.map λp=>(p.2,eG p.1 p.2))++if n≠0\/a=[] then[(n,dQ n)] else[]
def NH (a:Ps)(n:Int):cY a n≠[]:=by
 unfold cY;cases a with
 |nil=>simp
 |cons p r=>simp
def dW (a:Qs):jcH:=(a.map λp=>cp (gR p.1)++cp p.2).flatten
def Gs:Qs->jcH
 |[]=>[]
 |p::r=>(if p.1<0 then[45] else[])++cp p.2++dW r
def SQ (p:Int×Str)(r:Qs):(dW (p::r)).take 3=cp (gR p.1)/\Gs (p::r)=(if p.1<0 then[45] else[])++(dW (p::r)).drop 3:=by
 have e:dW (p::r)=cp (gR p.1)++(cp p.2++dW r):=by
  unfold dW;rw[jaf,jaG,jax]
 have l:=DC p.1;constructor
 .rw[e,List.take_append_of_le_length (by lia),jbF (by lia)]
 .rw[e,List.drop_append_of_le_length (by lia),List.drop_of_length_le (by lia),jbM,Gs,jax]
def xZ {w:Int}:gR w=Str.ofString " - "↔w<0:=by
 unfold gR;constructor
 .intro h;by_cases a:w<0
  .exact a
  .rw[jaa a] at h;exact absurd h (by symm)
 .intro h;rw[jab h]
def Qi {x:Str}(h:3<=x.length):cp (Txt.slice x none (some 3))=(cp x).take 3:=by
 have:=StrLaws.sliceText_to (x:=x) (j:=3) ⟨by decide,by rw[bJ] at h;have h:3<=x.cps.toList.length:=h;lia⟩;have e:Txt.slice x none (some 3)=StrLaws.sliceText x none (some 3):=rfl;rw[e,this];simp
def yS {x:Str}(h:3<=x.length):cp (Txt.slice x (some 3) none)=(cp x).drop 3:=by
 have:=StrLaws.sliceText_from (x:=x) (i:=3) ⟨by decide,by rw[bJ] at h;have h:3<=x.cps.toList.length:=h;lia⟩
 have e:Txt.slice x (some 3) none=StrLaws.sliceText x (some 3) none:=rfl;rw[e,this];show(((cp x).drop 3).take _)=_;rw[jbF];rw[List.length_drop];show x.cps.toList.length - 3<=_;lia
def Short (a:Ps):Prop:=a.length<=20/\∀p∈a,Small p.2/\p.1.length<=100
section
variable {C:Addr}{H H':Hp}{tl pq q0 q1 hq du u0 u1 sl sa sb:Addr}{xs:jcB}{ps0 t0 t1:Ps}{h0 h1:Int}
end
def iS (c:Ps)(n:Int):∃q r,cY c n=q::r:=by
 cases h:cY c n with
 |nil=>exact absurd h (NH c n)
 |cons a b=>exact⟨a,b,M⟩
theorem jr {b:Ps}{n:Int}(h:Short b)(d:Small n):∀q∈cY b n,q.2.length<=166:=λq a=>by
 unfold cY at a;rcases jan.mp a with z | z
 .obtain⟨p,hp,rfl⟩:=jap.mp z;obtain⟨c,e⟩:=h.2 p hp;have:=Ce (t:=p.1) c;show(eG p.1 p.2).length<=166;lia
 .split at z
  .rw[jal.mp z];have:=oR d;show(dQ n).length<=166;lia
  .cases z
def zG {a:Ps}{n:Int}(h:Short a):(cY a n).length<=21:=by
 unfold cY;rw[jag,jad];have:=h.1;split
 .simp;lia
 .simp;lia
def Aq (r:Qs)(q:Int×Str):dW (r++[q])=dW r++(cp (gR q.1)++cp q.2):=by
 unfold dW;rw[jau,jby];simp
section
variable {H H':Hp}{z:Addr}{o:HO}
end
section
variable {H0 H H':Hp}{d tl ro:Addr}{xs:jcB}{t0:Ps}{n0:Int}
end
end Hw
namespace L2
open PySem PySem.Spec PyProof.Rows Hw
section
variable {X:Cx}{k:Nat}{m:Str}{pos BM:Pos}{o e:Expr}{es:jcE}{ta:TE}{t:TA}{ul:Cz}{ps:jcB}{sp:Nat->Sp}
end
end L2
namespace Hw
open PySem L2
end Hw
namespace L2
open PySem PySem.Spec PyProof.Rows Hw
section
variable {X:Cx}{K:Frag}
def TQ (y:X.calm=true):fL X (.builtin "all") (λxs H Q=>∃(p:Addr)(bs:List Bool),xs=[.ref p]/\nM X.K H p (bs.map V.bl)/\Q (.bl (bs.all id)) H):=by
 intro J s U H xs F Q I r h;obtain⟨p,bs,rfl,m,q⟩:=h;obtain⟨u,rfl,d⟩:=vals1 r;cases d;obtain⟨c,k,f,C⟩:=I.list m;have B:p<s.heap.objs.size:=let⟨o,_,e,_⟩:=f;jaE e;have g:=k.length;rw[jad] at g;refine call_all_walk (wpAny_pyIter_list f.isList ?_);have W:=Walks.list (prog:=X.prog) (w:=X.w) (A:=X.A.in1) (I.ok.hd y) s.heap.objs.size p (jaW B) c.toArray;refine⟨s.heap.objs.size,_,_,_,_,_,(λi=>(bs[i]?).getD true),M,W,⟨⟨_,jaV _ M,M,M⟩,f.isList.at λo e=>jaI _ e⟩,λi v D G E a z=>?_,λt tk hk=>?_⟩
 .have a:c.toArray[i]?=some v:=a;have a:c[i]?=some v:=by simpa using a
  have n:i<c.length:=(jar.mp a).1;obtain⟨u,j,d⟩:=k.get (i:=i) (x:=.bl ((bs[i]?).getD true)) (by rw[jaF,jaK (by lia)];rfl);rw[a] at j;cases j;cases d;exact jbs z
 .have kp:∀b o,s.heap.get? b=some o->t.get? b=some o:=λb o e=>
   hk b o (λl=>absurd (jaE e) (by rw[jal.mp l];exact jbv _)) (jaI _ e)
  have e:((List.range c.toArray.size).all λi=>(bs[i]?).getD true)=bs.all id:=by rw[jav,<- g];exact LSm.range_all bs
  rw[e];exact⟨.bl (bs.all id),H,I.kept (t':=tk) kp,M,q⟩
end
end L2
namespace Hw
open PySem L2
end Hw
namespace L2
open PySem PySem.Spec PyProof.Rows Hw
section
variable {X:Cx}{x:Str}{D:Addr}{kvs:List (Key×V)}{i:Expr}{ty:TE}{p pos:Pos}
end
end L2
namespace Hw
open PySem L2
end Hw
namespace L2
open PySem PySem.Spec PyProof.Rows Hw
section
variable {X:Cx}
def a0o {a:List Stmt}{h₀:ExceptHandler}{hs:List ExceptHandler}{b:Pos}{t:TS}(d:∀e s,¬ X.xe e s)(g:Fc X a t):PS X (.Try a (h₀::hs) [] [] b) t:=by
 intro i s U H D I h;refine wpAny_Try_except (jaQ (g i s U H D I h) (λf c q=>?_) λe c z=>(d e c z).elim);cases f with
 |next=>exact jaC q
 |brk=>exact q
 |cont=>exact q
 |ret u=>exact q
end
end L2
namespace Hw
open PySem L2
end Hw
namespace L2
open PySem PySem.Spec PyProof.Rows Hw
section
variable {X:Cx}
def VB (K:Frag):R2:=λx y H Q=>∃a b c,x=.ref a/\y=.ref b/\nM K H a c/\nM K H b []/\Q (.bl (decide (c=[]))) H
def NP (k:X.A.units<cLine):lA X (compareOp .Eq) (VB X.K):=by
 intro D s U H x y v u Q I t w h;obtain⟨a,b,n,rfl,rfl,m,r,q⟩:=h;cases t;cases w;obtain⟨g,i,f,_⟩:=I.list m;obtain⟨C,p,l,_⟩:=I.list r;cases p;have d:=i.length;by_cases c:n=[]
 .rw[jah c] at q;subst c;cases i;exact SeqAt.RcAt.lists (A:=X.A) (e:=λ_=>true) f.isList l.isList rfl k (λj B o=>absurd o (by simp)) _ _ _ _ ⟨.bl true,H,I,M,q⟩
 .rw[jai c] at q;have:g≠[]:=λz=>c (by rw[z] at d;exact jbd.mp d);refine SeqAt.RcAt.lists_lengths (A:=X.A) f.isList l.isList ?_ k _ _ _ _ ⟨.bl false,H,I,M,q⟩;cases g with
  |nil=>exact absurd rfl this
  |cons _ _=>simp
end
end L2
namespace Hw
open PySem L2
section
variable {ul:Cz}{H0 H H':Hp}{d tl sd hd p pf:Addr}{xs:jcB}{vt:V}{c c':Cd}{kvs kh:List (Key×V)}{S:Sb}
end
end Hw
namespace PySem
section
variable {prog:Program}{w:World}{A:Around}{E:jcz}{h:Heap}{g:Array GenState}{d:Drawn}{t:Nat}{os:OsState}
variable {nm q:Str}{C N:Addr}{bs bm:jcC}{hdct:Bool}{sn:jcB}{sub:jcC}{ab:Bool}{col:Option Bool}{dd:jcF}{k0 k1 k2 k3 k5:jcG}
end
end PySem
namespace PySem
section
variable {jcx:Model}{A:Around}{E:jcz}{s:Shared}{base:Heap}{env:Env}{outer:List Env}{L a C:Addr}{oe:Obj}{vs:Array Value}
end
end PySem
namespace L2
open PySem PySem.Spec PyProof.Rows
section
variable {P:Program}{w:World}{K:Frag}{mg:Str->jcG}{base:Heap}{N:jcB}{qual:Str}{scope:Scope}{f C:Addr}{cd:Value}{A:Around}{outer:List Env}{s:Shared}{H:Hp}{E:XK}
end
section
variable {X:Cx}{CX:Na}{k:Nat}{f C D fI:Addr}{fd:FuncData}{ps:jcB}{sp:Sp}{E:XK}{x m:Str}{p pos BM:Pos}{e o:Expr}{es:jcE}{t:TA}{bm:jcC}
def a3x (sp:Sp)(E:XK)(d:TE)(t:TA):TE:=λU H Q=>d U H λ_ b=>t U b λa c=>sp (a++[]) c Q E
theorem V8 {pl:Sem Bool}(B:Gl X x)(G:X.mg x=some (.ref D))(j:specialIn X.K (.ref D) "__getattribute__"=some (some (.builtin "type.__getattribute__")))(y:readsIn X.K D (.type "type")=true)
  (l:findCls X.K (.ref D) (.type "type") m=some (.val (.ref f))) (q:handedIn (.ref f)=true) (hk:keepIn X.K (.ref f)=true) (F:gi X.prog X.w X.K X.mg X.base CX k f fd ps sp) (u:dP k X.A) (v:Binds X.K fd ps [])
  (g:Passes CX X E) (i:PA X (e::es) t) (b:autoParam (starEach (e::es) X.env=(false,eval e X.env)::starEach es X.env) zi) (a:autoParam ((backTo pos (starEach es X.env)).any (·.1)=false) zi) (c:autoParam ((x==("__debug__":Str))=false) zn)
  (C:autoParam (eval (.Call (.Attribute (.Name x p) m BM) (e::es) [] pos) X.env=(do
   let ov <- eval (.Name x p) X.env
   standAt BM.atName
   let(f,first) <- holding [ov] (getMethod ov m pl)
   callWith pos f first (backTo pos (starEach (e::es) X.env)) (backToKw pos (keywordEach [] X.env)))) zi) :
  PE X (.Call (.Attribute (.Name x p) m BM) (e::es) [] pos) (a3x sp E (tC (.ref D)) t):=by
 intro z s U H Q I h;refine methodCall_KW (pl:=pl) (tT I B G ?_ c) C;refine PySem.W.method_cls I.uN j (PySem.W.cls_value I.uN y l q ?_);have n:=I.tok (s.toks+1);refine callWith_K (first:=[]) (h₀:=X.base) I.ok.mod.kin hk (cU (i pos z _ U H _ n h) ?_) b a;rintro L M ⟨N,J,d,r,o⟩;refine⟨d.uN,?_⟩;exact zA F u v .nil g d r o
end
def Its (x:Str):It:=⟨λi _=>i<x.cps.size,λi H v a=>a=H/\∃c,x.cps[i]?=some c/\v=.str ⟨#[c]⟩,λi _=>x.cps.size<=i⟩
theorem Nd {P:Program}{w:World}{K:Frag}{tg:Expr}(x:Str)(t:Tok)(it:Addr):Turn P w K tg (Its x) [it] it (λi h=>h.IsStrIter it "str_ascii_iterator" x t i) where
 mem:=by simp
 obj:=λi h st b hb=>by
  have e:b=it:=by simpa using hb
  subst e;obtain⟨o,e,c,d⟩:=st;exact⟨o,e,λv z=>by rw[d] at z;cases z⟩
 keep:=λi h h' st k=>let⟨o,ho,r⟩:=st;⟨o,k it (by simp) o ho,r⟩
 item:=by
  intro X hP hw hK hc i vy s U H E I hf st hg;subst hP hw hK;have hg:i<x.cps.size:=hg;obtain⟨f0,f1,f2,f3,f4,f5⟩:=hf it (by simp);refine wpAny_pyNext_ascii_item st (c:=x.cps[i]) (by simp[hg]) λh' st' sb=>?_;have I1:Inv X vy U H {s with heap:=h',toks:=s.toks+1 }:=I.turned (t':=s.toks+1) (λb o hb e=>(sb.2 b hb).trans e) f0 f1 f3 f4 f5;obtain⟨o,e,c,d⟩:=id st';exact⟨_,M,wI (s:={s with heap:=h',toks:=s.toks+1 }) e c d (by decide) ⟨.str ⟨#[x.cps[i]]⟩,H,I1,⟨_,M⟩,⟨M,_,by simp[hg],M⟩,st',λb hb=>(hf b hb).1⟩⟩
 done:=by
  intro X hP hw hK hc i vy s U H E I hf st hg;subst hP hw hK;have hg:x.cps.size<=i:=hg;obtain⟨f0,f1,f2,f3,f4,f5⟩:=hf it (by simp);exact wpAny_pyNext_ascii_end (I.ok.hd hc) st (by simp[hg]) λh' eb=>⟨M,I.turned (t':=s.toks) (λb o hb e=>eb b o hb e) f0 f1 f3 f4 f5⟩
 self:=λ_ _ _ _ _ st h=>wpAny_pyIter_striter_ascii st h
theorem Nc {P:Program}{w:World}{K:Frag}{tg:Expr}(x:Str)(t:Tok)(it:Addr):Turn P w K tg (Its x) [it] it (λi h=>h.IsStrIter it "str_iterator" x t i) where
 mem:=by simp
 obj:=λi h st b hb=>by
  have e:b=it:=by simpa using hb
  subst e;obtain⟨o,e,c,d⟩:=st;exact⟨o,e,λv z=>by rw[d] at z;cases z⟩
 keep:=λi h h' st k=>let⟨o,ho,r⟩:=st;⟨o,k it (by simp) o ho,r⟩
 item:=by
  intro X hP hw hK hc i vy s U H E I hf st hg;subst hP hw hK;have hg:i<x.cps.size:=hg;obtain⟨f0,f1,f2,f3,f4,f5⟩:=hf it (by simp);refine wpAny_pyNext_wide_item st (c:=x.cps[i]) (by simp[hg]) λh' st' sb=>?_;have I1:Inv X vy U H {s with heap:=h',toks:=s.toks+1 }:=I.turned (t':=s.toks+1) (λb o hb e=>(sb.2 b hb).trans e) f0 f1 f3 f4 f5;obtain⟨o,e,c,d⟩:=id st';exact⟨_,M,wI (s:={s with heap:=h',toks:=s.toks+1 }) e c d (by decide) ⟨.str ⟨#[x.cps[i]]⟩,H,I1,⟨_,M⟩,⟨M,_,by simp[hg],M⟩,st',λb hb=>(hf b hb).1⟩⟩
 done:=by
  intro X hP hw hK hc i vy s U H E I hf st hg;subst hP hw hK;have hg:x.cps.size<=i:=hg;obtain⟨f0,f1,f2,f3,f4,f5⟩:=hf it (by simp);exact wpAny_pyNext_wide_end (I.ok.hd hc) st (by simp[hg]) λh' eb=>⟨M,I.turned (t':=s.toks) (λb o hb e=>eb b o hb e) f0 f1 f3 f4 f5⟩
 self:=λ_ _ _ _ _ st h=>wpAny_pyIter_striter_wide st h
section
variable {X:Cx}{tg:Expr}
def a70 (a:TE):TI:=λU H R=>a U H λx b=>∃z,x=.str z/\R (Its z) b
def a0z {l:Expr}{i:TE}(m:PE X l i):PI X tg l (a70 i):=by
 intro k s U H R I h;refine cU (m k s U H _ I h) ?_;rintro v a ⟨x,g,c,j,n⟩;obtain⟨z,e,q⟩:=n;subst e;obtain⟨t,rfl⟩:=j;cases f:z.cps.all (· < 128)
 .refine wpAny_pyIter_wide f ?_;refine⟨a.heap.objs.size,[a.heap.objs.size],_,_,g,M,c.kept (t':=a.toks) λb o e=>jaI _ e,Nc z t _,⟨_,jaV _ M,M,M⟩,λb d=>?_,q⟩;have e:b=a.heap.objs.size:=by simpa using d
  subst e;exact c.G5 (jaq _) (c.hok.fresh (jaq _))
 .refine wpAny_pyIter_ascii f ?_;refine⟨a.heap.objs.size,[a.heap.objs.size],_,_,g,M,c.kept (t':=a.toks) λb o e=>jaI _ e,Nd z t _,⟨_,jaV _ M,M,M⟩,λb d=>?_,q⟩;have e:b=a.heap.objs.size:=by simpa using d
  subst e;exact c.G5 (jaq _) (c.hok.fresh (jaq _))
def NO:lA X (compareOp .LtE) (λx y H Q=>∃i j,x=.str i/\y=.str j/\Q (.bl (!(decide (j.cps.toList<i.cps.toList)))) H):=by
 intro d s U H x y v u Q I a b h;obtain⟨i,j,rfl,rfl,q⟩:=h;obtain⟨t,rfl⟩:=a;obtain⟨c,rfl⟩:=b;exact P.le_str (bY I q M)
end
end L2
namespace PySem
open L2
section
variable {prog:Program}{w:World}{A:Around}{E:jcz}{s:Shared}
end
end PySem
namespace PySem
open L2 PyProof.Rows
section
variable {prog:Program}{w:World}{A:Around}{R:Result->Shared->Prop}{I:Addr}{fp wr:jcD}{G:Array GenState->Array GenState->Prop}{n:Nat}{P:Nat->Value->Prop}{St:Nat->Shared->Prop}
end
section
variable {prog:Program}{w:World}{A:Around}{E:jcz}{s:Shared}
end
end PySem
namespace PySem
open L2 PyProof.Rows
namespace F
end F
section
variable {prog:Program}{w:World}{A:Around}{E:jcz}{s:Shared}{I a tp:Addr}{i n ep:Nat}{es:Array (Int×Value)}{t:SetTable}
end
end PySem
namespace PySem
open L2 PyProof.Rows
section
variable {prog:Program}{w:World}{A:Around}{E:jcz}{s:Shared}{I a tp:Addr}{i n ep:Nat}{es:Array (Int×Value)}{t:SetTable}
end
end PySem
namespace PySem
open L2 PyProof.Rows
section
variable {jcx:Model}{A:Around}{E:jcz}{s:Shared}
end
section
variable {prog:Program}{w:World}{A:Around}{E:jcz}{s:Shared}{I a tp:Addr}{i n ep:Nat}{es:Array (Int×Value)}{t:SetTable}
end
end PySem
namespace PySem
open L2 PyProof.Rows
section
variable {prog:Program}{w:World}{A:Around}{E:jcz}{s:Shared}{I a tp:Addr}{i n ep:Nat}{es:Array (Int×Value)}{t:SetTable}
end
end PySem
namespace PySem
open L2 PyProof.Rows
section
variable {prog:Program}{w:World}{A:Around}{E:jcz}{s:Shared}{a:Addr}
end
end PySem
namespace PySem
open L2 PyProof.Rows
section
variable {prog:Program}{w:World}{A:Around}{E:jcz}{s:Shared}{a:Addr}{zs:jcB}
end
end PySem
namespace L2
open PySem PySem.Spec PyProof.Rows Hw
section
variable {X:Cx}
end
end L2
namespace Hw
open PySem L2
def qc (c:Nat):Bool:=decide (97<=c)&&decide (c<=122)
def isNm (z:Str):Bool:=(decide (1<=z.length)&&decide (z.length<=8))&&!(decide (z∈qI))&&z.cps.toList.all qc
def a7G (c:Nat):(!(decide (((⟨#[c]⟩:Str)).cps.toList<(("a":Str)).cps.toList)))=decide (97<=c):=by
 show(!(decide ([c] < [97])))=_;have e:([c] < [97])↔(c<97):=by rw[jcp];simp
 by_cases h:97<=c
 .rw[jah h,jai (λz=>absurd (e.mp z) (by lia))];rfl
 .rw[jai h,jah (e.mpr (by lia))];rfl
def a7F (c:Nat):(!(decide ((("z":Str)).cps.toList<((⟨#[c]⟩:Str)).cps.toList)))=decide (c<=122):=by
 show(!(decide ([122] < [c])))=_;have e:([122] < [c])↔(122<c):=by rw[jcp];simp
 by_cases h:c<=122
 .rw[jah h,jai (λz=>absurd (e.mp z) (by lia))];rfl
 .rw[jai h,jah (e.mpr (by lia))];rfl
def RL {xs:jcB}:∀x∈xs.map V.str,OE x:=λx h=>by obtain⟨y,_,rfl⟩:=jap.mp h;trivial
end Hw
namespace L2
open PySem PySem.Spec PyProof.Rows Hw
section
variable {X:Cx}
end
end L2
namespace Hw
open PySem L2
def Gf {ys:jcB}(h:ys.Pairwise (λa b=>lt b a=false))(n:ys.Nodup):ys.Pairwise (λa b=>lt a b=true):=by
 unfold List.Nodup at n;exact(h.and n).imp λ{a b} ⟨d,c⟩=>by
  rcases Et a b with z | z | z
  .exact z
  .exact absurd z c
  .rw[d] at z;cases z
theorem pL:∀{xs ys:jcB},xs.Pairwise (λa b=>lt a b=true)->ys.Pairwise (λa b=>lt a b=true)->(∀x,x∈xs↔x∈ys)->xs=ys
 |[],[],_,_,_=>rfl
 |[],y::_,_,_,h=>absurd ((h y).mpr (jak ..)) (λz=>nomatch z)
 |x::_,[],_,_,h=>absurd ((h x).mp (jak ..)) (λz=>nomatch z)
 |x::xs,y::ys,p,q,h=>by
  obtain⟨f,i⟩:=jbr.mp p;obtain⟨d,g⟩:=jbr.mp q;have e:x=y:=by
   rcases jae.mp ((h x).mp (jak ..)) with z | z
   .exact z
   .rcases jae.mp ((h y).mpr (jak ..)) with u | u
    .exact u.symm
    .have:=lt_trans (f y u) (d x z);rw[vA] at this;cases this
  subst e;have t:xs=ys:=pL i g λz=>by
   constructor
   .intro c;rcases jae.mp ((h z).mp (jaj _ c)) with u | u
    .subst u;have:=f z c;rw[vA] at this;cases this
    .exact u
   .intro c;rcases jae.mp ((h z).mpr (jaj _ c)) with u | u
    .subst u;have:=d z c;rw[vA] at this;cases this
    .exact u
  rw[t]
theorem join_le (a:Str):∀(ss:jcB),(∀x∈ss,x.length<=(Str.join a ss).length)/\(ss.map (·.length)).sum<=(Str.join a ss).length
 |[]=>⟨(λx h=>nomatch h),jaN _⟩
 |[x]=>⟨λy h=>by rw[jal.mp h];exact jaq _,by simp[Str.join]⟩
 |x::y::r=>by
  have b:=join_le a (y::r);have e:(Str.join a (x::y::r)).length=x.length+a.length+(Str.join a (y::r)).length:=by
   show((x++a)++Str.join a (y::r)).length=_;rw[jv,jv]
  refine⟨λz c=>?_,?_⟩
  .rcases jae.mp c with q | q
   .rw[q,e];lia
   .have:=b.1 z q;lia
  .rw[e,jaf,ja9];have:=b.2;lia
end Hw
namespace L2
open PySem PySem.Spec PyProof.Rows Hw
section
variable {X:Cx}
end
end L2
namespace Hw
open PySem L2
end Hw
namespace PySem.W
open PySem PySem.Spec PySem.Calls PyProof.Rows
section
variable {prog:Program}{w:World}{A:Around}{E:jcz}{K:Frag}{x D:Addr}{ox:Obj}
end
end PySem.W
namespace L2
open PySem PySem.Spec PyProof.Rows
section
variable {X:Cx}{a C:Addr}{oe:Obj}
end
end L2
namespace PySem
section
variable {jcx:Model}{A:Around}{E:jcz}
variable {nm q nm' q':Str}{C N W N':Addr}{bs bm bs' bm':jcC}{hdct a9o:Bool}{sn sn':jcB}{sub sub':jcC}{ab ab':Bool}{col col':Option Bool}{dd YF:jcF}{k0 k1 k2 k3 k5 j0 j1 j2 j3 j5:jcG}{newId newId':String}
end
section
variable {jcx:Model}{A:Around}{E:jcz}{s:Shared}{base:Heap}{env:Env}{outer:List Env}{L a C:Addr}{oe:Obj}{vs:Array Value}
end
end PySem
namespace L2
open PySem PySem.Spec PyProof.Rows
section
variable {X:Cx}{pn:jcy}{xe:jcz}{vy zD:jcy}{U:St}{H:Hp}{s:Shared}{a:Addr}
end
section
variable {X:Cx}{C W fI fW:Addr}{bm bmW:jcC}{xc n:Str}{i:Nat}{np hpos pos:Pos}{body:List Stmt}{b₀:Stmt}{suite:List Stmt}{tb:XK->TS}{ts:Addr->TS}
end
end L2
namespace Hw
open PySem L2
end Hw
namespace L2
open PySem PySem.Spec PyProof.Rows Hw
section
variable {X:Cx}{C:Addr}{k:Nat}{m:Str}{pos BM:Pos}{o:Expr}{ta:TE}{ul:Cz}{ps:jcB}{sp:Nat->Sp}{E:XK}
end
end L2
namespace Hw
open PySem L2
section
variable {xs:jcB}{H H' H'':Hp}{d l P:Addr}{us:List V}{cs:List Cd}
end
end Hw
namespace L2
open PySem PySem.Spec PyProof.Rows
end L2
namespace Hw
open PySem L2
end Hw
namespace L2
open PySem PySem.Spec PyProof.Rows Hw
section
variable {X:Cx}{k:Nat}{m:Str}{pos BM:Pos}{o:Expr}{ta:TE}{QR:Cy}{ps:jcB}{sp:Nat->Sp}
end
end L2
namespace Hw
open PySem L2
end Hw
namespace L2
open PySem PySem.Spec PyProof.Rows
def notStar:Expr->Bool
 |.Starred ..=>false
 |_=>true
def iF {e:Expr}{b:jcE}{a:Env}(h:notStar e=true):starEach (e::b) a=(false,eval e a)::starEach b a:=by
 cases e<;>first | rfl | cases h
theorem iO {a:Pos}{b:Env}:∀{es:jcE},es.all notStar=true->(backTo a (starEach es b)).any (·.1)=false
 |[],_=>rfl
 |e::es,h=>by
  have h:(notStar e&&es.all notStar)=true:=h;rw[jaM] at h;rw[iF h.1];show(false||(backTo a (starEach es b)).any (·.1))=false;rw[iO h.2];rfl
theorem FQ {a:Pos}{b:Env}:∀{es:jcE},es.all notStar=true->(backTo a (starEach es b)).all (λx=>!x.1)=true
 |[],_=>rfl
 |e::es,h=>by
  have h:(notStar e&&es.all notStar)=true:=h;rw[jaM] at h;rw[iF h.1];show(true&&(backTo a (starEach es b)).all (λx=>!x.1))=true;rw[FQ h.2];rfl
section
variable {X:Cx}{CX:Na}{k:Nat}{f C:Addr}{fd:FuncData}{ps:jcB}{sp:Sp}{AZ:List V}{ds:jcC}{E:XK}{x:Str}{p pos:Pos}{e:Expr}{es:jcE}{te:TE}{t:TA}
def Ro (a:PE X e te)(b:PA X es t)(h:autoParam (notStar e=true) zi):PA X (e::es) (XX te t):=L1 a b (iF h)
theorem Rj (F:gi X.prog X.w X.K X.mg X.base CX k f fd ps sp)(c:dP k X.A)(i:Gl X x)(m:X.mg x=some (.ref f))(hk:keepIn X.K (.ref f)=true)(g:Binds X.K fd ps ds)(b:Vals AZ ds)(d:Passes CX X E)
  (j:PA X (e::es) t) (l:autoParam (notStar e=true) zi) (h:autoParam (es.all notStar=true) zi) (a:autoParam ((x==("__debug__":Str))=false) zn):PE X (.Call (.Name x p) (e::es) [] pos) (Pj sp AZ E t):=
 V9 F c i m hk g b d j a (iF l) (iO h)
theorem Gn (jcx:Mk X.K C f)(F:gi X.prog X.w X.K X.mg X.base CX k f fd ps sp)(c:dP (k+1) X.A)(i:Gl X x)(m:X.mg x=some (.ref C))(d:Binds X.K fd ps ds)(b:Vals AZ ds)(g:Passes CX X E)
  (j:PA X (e::es) t) (l:autoParam (notStar e=true) zi) (h:autoParam (es.all notStar=true) zi) (a:autoParam ((x==("__debug__":Str))=false) zn):PE X (.Call (.Name x p) (e::es) [] pos) (XT C sp AZ E t):=
 V3 jcx F c i m d b g j a (iF l) (iO h)
theorem NG {id:String}{r:List V->Hp->VK->Prop}(b:fL X (.builtin id) r)(d:Gl X x)(i:X.mg x=none)(h:bootBuiltins x=some (.builtin id))(f:PA X (e::es) t)(g:autoParam (notStar e=true) zi)(c:autoParam (es.all notStar=true) zi)(j:autoParam (x≠"__name__") zn)(a:autoParam ((x==("__debug__":Str))=false) zn) :
  PE X (.Call (.Name x p) (e::es) [] pos) (tCB r t):=Rk b d i h f j a (iF g) (iO c)
theorem Js {T:String}{r:List V->Hp->VK->Prop}(b:fL X (.type T) r)(d:Gl X x)(j:X.mg x=none)(f:bootBuiltins x=some (.type T))(g:PA X (e::es) t)(h:autoParam (notStar e=true) zi)(c:autoParam (es.all notStar=true) zi)(i:autoParam (x≠"__name__") zn)(a:autoParam ((x==("__debug__":Str))=false) zn) :
  PE X (.Call (.Name x p) (e::es) [] pos) (tCB r t):=NF b d j f g i a (iF h) (iO c)
theorem a0J {T id:String}{name:Str}{r:V->List V->Hp->VK->Prop}{o:Expr}{d:TE}{f a:Pos}(j:PlainAttrs T)(b:Slot T name id)(c:typeOf (.builtin id)=pure (.type "method_descriptor"))(m:uP X id r)(k:PE X o d)(l:PA X (e::es) t)
  (h:autoParam (notStar e=true) zi) (g:autoParam (es.all notStar=true) zi) (p:autoParam (es.length<20) zn) (n:autoParam (attributeBase o name X.env (eval o X.env)=eval o X.env) zi) (i:autoParam ((f.endLine==a.line)=true) zi) :
  PE X (.Call (.Attribute o name f) (e::es) [] a) (tBM X.K T r d t):=
 a4f j b c m k l n (by
  rw[FQ (show(e::es).all notStar=true by show(notStar e&&es.all notStar)=true;rw[h,g];rfl)];show(true&&true&&decide (es.length+1+0+0<30))=true;rw[jah (by lia)];rfl) i (iF h) (iO g)
end
end L2
namespace Hw
open PySem L2
section
variable {H0 H H':Hp}{d p q a1 a2 a3 a4:Addr}{o:Own}{us:List V}{hs:List Hl}
end
end Hw
namespace L2
open PySem PySem.Spec PyProof.Rows
end L2
namespace Hw
open PySem L2
end Hw
namespace PySem
open Sem (wp)
open Builtin
section
variable {prog:Program}{w:World}{A:Around}{E:jcz}{h:Heap}{g:Array GenState}{d:Drawn}{t:Nat}{os:OsState}{K:W.Frag}{C x:Addr}{o:Obj}
end
end PySem
namespace L2
open PySem PySem.Spec PyProof.Rows
end L2
namespace Hw
open PySem L2
section
variable {QR:Cy}{G G':Hp}{tt pg pc pb pl:Addr}{us ws:List V}{hs:List Hl}{c:Cd}{h0:Hl}{u0:V}
end
end Hw
namespace PySem
open L2
section
variable {prog:Program}{w:World}{A:Around}{E:jcz}{s:Shared}
end
end PySem
namespace L2
open PySem PySem.Spec PyProof.Rows Hw
section
variable {X:Cx}
end
end L2
namespace PySem
open L2 PyProof.Rows
section
variable {prog:Program}{w:World}{A:Around}{E:jcz}{s:Shared}
end
end PySem
namespace L2
open PySem PySem.Spec PyProof.Rows Hw
section
variable {X:Cx}
end
end L2
namespace PySem
section
variable {jcx:Model}{A:Around}{E:jcz}{s:Shared}{base:Heap}{env:Env}{outer:List Env}{L a C T:Addr}{z:Value}
end
end PySem
namespace L2
open PySem PySem.Spec PyProof.Rows
section
variable {P:Program}{w:World}{K:Frag}{mg:Str->jcG}{base:Heap}{N:jcB}{qual:Str}{scope:Scope}{f TM:Addr}{cd:Value}{A:Around}{outer:List Env}{s:Shared}{H:Hp}{E:XK}
end
section
variable {P:Program}{w:World}{K:Frag}{mg:Str->jcG}{base:Heap}{N0:jcB}{qual:Str}{scope:Scope}{f00 TM:Addr}{cd:Value}{A:Around}{outer:List Env}{s0:Shared}{H00:Hp}{E:XK}{sc:Scope}{cl:List (Str×Addr)}{own:Nat}{N:jcB}{fr:jcH}
end
end L2
namespace Hw
open PySem L2
end Hw
namespace L2
open PySem PySem.Spec PyProof.Rows Hw
section
variable {X:Cx}{k:Nat}{m:Str}{pos BM:Pos}{o:Expr}{ta:TE}{QR:Cy}{ps:jcB}{sp:Nat->Sp}
def Vy:V->List V->Hp->VK->Prop:=λx c H Q=>∃a b,x=.str a/\c=[.str b]/\Q (.bl (Txt.startswith a b)) H
def N1:uP X "str.startswith" Vy:=by
 intro j s U H x i v f Q I d e h;obtain⟨a,b,rfl,rfl,q⟩:=h;obtain⟨t,rfl⟩:=d;obtain⟨u,rfl,c⟩:=e.one;obtain⟨g,rfl⟩:=c;exact PySem.SC.startswith ⟨.bl _,H,I,M,q⟩
end
end L2
namespace Hw
open PySem L2
section
variable {QR:Cy}{H:Hp}{s:cD}{p:Addr}
end
section
variable {QR:Cy}{H H':Hp}
end
section
variable {ul:Cz}{Bk Db:Addr}{H H':Hp}{b F:Addr}{pg:V}{ds:List V}{dd:List Dt}
end
section
variable {N:jcB}{QR:Cy}{H:Hp}{s:cD}{p:Addr}
end
end Hw
namespace PySem
open L2
end PySem
namespace PySem
open L2
section
variable {prog:Program}{w:World}{A:Around}{E:jcz}{s:Shared}
end
end PySem
namespace PySem
open L2
section
variable {prog:Program}{w:World}{A:Around}{E:jcz}{s:Shared}
end
end PySem
namespace L2
open PySem PySem.Spec PyProof.Rows Hw
section
variable {X:Cx}
end
end L2
namespace PySem
open Sem (wp)
section
variable {prog:Program}{w:World}{A:Around}{E:jcz}{s:Shared}
end
end PySem
namespace L2
open PySem PySem.Spec PyProof.Rows Hw
section
variable {X:Cx}
end
section
variable {X:Cx}{l:Expr}{tl:TE}{p pos:Pos}
end
end L2
namespace PySem
open Sem (wp)
section
variable {prog:Program}{w:World}{A:Around}{E:jcz}{s:Shared}{z ti tw i1 i2:Addr}{f1 f2:jcD}{n1 n2 k:Nat}{P1 P2:Nat->Value->Prop}{S1 S2:Nat->Heap->Prop}{a b:Value}
end
end PySem
namespace PySem
section
variable {prog:Program}{w:World}{A:Around}{E:jcz}{s:Shared}
end
end PySem
namespace L2
open PySem PySem.Spec PyProof.Rows Hw
section
variable {X:Cx}
end
section
variable {X:Cx}{l m:Expr}{p pos:Pos}
end
end L2
namespace Hw
open PySem L2
end Hw
namespace L2
open PySem PySem.Spec PyProof.Rows Hw
end L2
namespace Hw
open PySem L2
end Hw
namespace L2
open PySem PySem.Spec PyProof.Rows Hw
def mtM {P:Program}{w:World}{K:Frag}{j:Str->jcG}{g:Heap}{k:Nat}{m:Str}{C f:Addr}{i:FuncData}{h:jcB}{sp:Sp}(a:gi P w K j g yw k f i h sp)(b:findIn K (.ref C) m=some (some (.ref f)))(e:isFn K (.ref f)=true)(c:keepIn K (.ref f)=true)(d:Binds K i h []):Mt P w K j g k C m h sp:=⟨f,i,a,⟨b,e,c⟩,d⟩
def mrM {P:Program}{w:World}{K:Frag}{j:Str->jcG}{g:Heap}{k:Nat}{C f:Addr}{i:FuncData}{h:jcB}{sp:Sp}(a:gi P w K j g yw k f i h sp)(m:makesIn K C=true)(b:findIn K (.ref C) "__init__"=some (some (.ref f)))(e:isFn K (.ref f)=true)(c:keepIn K (.ref C)=true)(d:Binds K i h []):Mr P w K j g k C h sp:=⟨f,i,a,⟨m,b,e,c⟩,d⟩
end L2
namespace Hw
open PySem L2
end Hw
namespace L2
open PySem PySem.Spec PyProof.Rows Hw
end L2
namespace Hw
open PySem L2
end Hw
namespace L3
open PySem L2
inductive T where
 |v (x:V) | tup (l:List T) | lst (l:List T) | Cq (l:List T) | ins (C:Addr) (ns:List Str) (l:List T)
inductive D where
 |t (x:T) | ob (n:Nat)
inductive O where
 |lst (l:List T) | rN (l:List (Key×T)) | Au (ob:Obj) (kvs:List (Key×V)) (l:List (Key×T)) | gh (Y:List Addr) (G:Hp) | ins (C:Addr) (ns:List Str) (l:List D)
abbrev aI:=List O
abbrev Sl:=List (Option D)
noncomputable abbrev T.int (i:Int):T:=.v (.int i)
noncomputable abbrev T.str (x:Str):T:=.v (.str x)
abbrev T.bl (b:Bool):T:=.v (.bl b)
abbrev T.dD:T:=.v .dD
abbrev D.int (i:Int):D:=.t (.v (.int i))
abbrev D.str (x:Str):D:=.t (.v (.str x))
abbrev D.bl (b:Bool):D:=.t (.v (.bl b))
abbrev D.dD:D:=.t (.v .dD)
abbrev D.tup (l:List T):D:=.t (.tup l)
abbrev D.lst (l:List T):D:=.t (.lst l)
def D.iD:D->Option Int
 |.t (.v (.int i))=>some i
 |_=>none
def D.sD:D->Option Str
 |.t (.v (.str i))=>some i
 |_=>none
def D.tD:D->Option (List T)
 |.t (.tup i)=>some i
 |_=>none
def D.CD {d:D}{i:Int}(h:d.iD=some i):d=.int i:=by
 cases d with
 |ob n=>cases h
 |t x=>cases x with
  |v x=>cases x with
   |int j=>cases h;rfl
   |_=>cases h
  |_=>cases h
def D.LI {d:D}{i:Str}(h:d.sD=some i):d=.str i:=by
 cases d with
 |ob n=>cases h
 |t x=>cases x with
  |v x=>cases x with
   |str j=>cases h;rfl
   |_=>cases h
  |_=>cases h
def D.XW {d:D}{i:List T}(h:d.tD=some i):d=.tup i:=by
 cases d with
 |ob n=>cases h
 |t x=>cases x with
  |tup j=>cases h;rfl
  |_=>cases h
def S8 {α:Type}{o:Option α}{n:Prop}{f:α->Prop}(h:o.elim n f):n\/∃a,o=some a/\f a:=by
 cases o with
 |none=>exact .inl h
 |some a=>exact .inr ⟨a,M,h⟩
def Le (G b:Hp):Prop:=∀a o,G a=some o->b a=some o
def Le.refl (G:Hp):Le G G:=λ_ _ h=>h
def Le.trans {A B C:Hp}(h:Le A B)(k:Le B C):Le A C:=λa o e=>k a o (h a o e)
theorem a3Q {G b:Hp}(h:Le G b){a:Addr}{u:HO}:Rd G a u->Rd b a u
 |.inl e=>.inl (h _ _ e)
 |.inr ⟨o,e⟩=>.inr ⟨o,h _ _ e⟩
theorem Iq {K:Frag}{G b:Hp}(h:Le G b){a:Addr}{xs:List V}:nM K G a xs->nM K b a xs
 |.inl e=>.inl (a3Q h e)
 |.inr e=>.inr e
structure AU (K:Frag)(C:Addr)(ns:List Str):Prop where
 cls:XM K C
 no:∀f∈ns,lB K C f
 ca:findIn K (.ref C) "__class__"=some (some (.builtin "object.__class__"))
 cg:specialIn K (.builtin "object.__class__") "__get__"=some (some (.builtin "getset_descriptor.__get__"))
 ct:takesIn K (.builtin "object.__class__")=some true
 cm:mroIn K C (.type "object")=some true
mutual
def Rp (K:Frag)(G:Hp):T->V->Prop
 |.v x,w=>w=x
 |.tup l,w=>∃a b,w=.ref a/\G a=some (.tup b)/\bS K G l b
 |.lst l,w=>∃a b,w=.ref a/\G a=some (.lst b)/\bS K G l b
 |.Cq l,w=>∃a b,w=.ref a/\nM K G a b/\bS K G l b
 |.ins C c l,w=>∃a d b,w=.ref a/\G a=some (.ins C d (c.zip b))/\c.length=b.length/\AU K C c/\bS K G l b
def bS (K:Frag)(G:Hp):List T->List V->Prop
 |[],a=>a=[]
 |x::r,a=>∃v b,a=v::b/\Rp K G x v/\bS K G r b
end
mutual
theorem Rp.le {K:Frag}{G g:Hp}(h:Le G g):∀{x:T}{w:V},Rp K G x w->Rp K g x w
 |.v x,w,e=>by unfold Rp at *;exact e
 |.tup l,w,e=>by
  unfold Rp at *;obtain⟨a,b,c,d,f⟩:=e;exact⟨a,b,c,h _ _ d,bS.le h f⟩
 |.lst l,w,e=>by
  unfold Rp at *;obtain⟨a,b,c,d,f⟩:=e;exact⟨a,b,c,h _ _ d,bS.le h f⟩
 |.Cq l,w,e=>by
  unfold Rp at *;obtain⟨a,b,c,d,f⟩:=e;exact⟨a,b,c,Iq h d,bS.le h f⟩
 |.ins C m l,w,e=>by
  unfold Rp at *;obtain⟨a,j,b,c,d,f,i,k⟩:=e;exact⟨a,j,b,c,h _ _ d,f,i,bS.le h k⟩
theorem bS.le {K:Frag}{G a:Hp}(h:Le G a):∀{l:List T}{vs:List V},bS K G l vs->bS K a l vs
 |[],vs,e=>by unfold bS at *;exact e
 |x::r,vs,e=>by
  unfold bS at *;obtain⟨v,d,b,c,f⟩:=e;exact⟨v,d,b,Rp.le h c,bS.le h f⟩
end
section
variable {K:Frag}{G:Hp}
def bS.nil:bS K G [] []:=by unfold bS;rfl
def bS.cons {x:T}{v:V}{l:List T}{vs:List V}(h:Rp K G x v)(r:bS K G l vs):bS K G (x::l) (v::vs):=by
 unfold bS;exact⟨v,vs,M,h,r⟩
theorem bS.len:∀{l:List T}{vs:List V},bS K G l vs->l.length=vs.length
 |[],vs,e=>by unfold bS at e;rw[e];rfl
 |x::r,vs,e=>by
  unfold bS at e;obtain⟨v,c,a,_,b⟩:=e;rw[a,jam,jam,b.len]
theorem bS.app:∀{l m:List T}{vs ws:List V},bS K G l vs->bS K G m ws->bS K G (l++m) (vs++ws)
 |[],m,vs,ws,e,k=>by unfold bS at e;rw[e];exact k
 |x::r,m,vs,ws,e,k=>by
  unfold bS at e;obtain⟨v,d,a,b,c⟩:=e;rw[a];exact .cons b (c.app k)
theorem bS.get:∀{l:List T}{vs:List V}{i:Nat}{x:T},bS K G l vs->l[i]?=some x->∃v,vs[i]?=some v/\Rp K G x v
 |[],vs,i,x,e,k=>by simp at k
 |y::r,vs,0,x,e,k=>by
  unfold bS at e;obtain⟨v,f,a,b,c⟩:=e;simp at k;subst k;exact⟨v,by rw[a];rfl,b⟩
 |y::r,vs,i+1,x,e,k=>by
  unfold bS at e;obtain⟨v,f,a,b,c⟩:=e;obtain⟨u,g,d⟩:=c.get (i:=i) (x:=x) (by simpa using k);exact⟨u,by rw[a];simpa using g,d⟩
theorem bS.tk:∀{l:List T}{vs:List V}(n:Nat),bS K G l vs->bS K G (l.take n) (vs.take n)
 |_,_,0,_=>by simp;exact .nil
 |[],vs,n+1,e=>by unfold bS at e;rw[e];simp;exact .nil
 |y::r,vs,n+1,e=>by
  unfold bS at e;obtain⟨v,d,a,b,c⟩:=e;rw[a,List.take_succ_cons,List.take_succ_cons];exact .cons b (c.tk n)
theorem bS.dp:∀{l:List T}{vs:List V}(n:Nat),bS K G l vs->bS K G (l.drop n) (vs.drop n)
 |_,_,0,e=>by simpa using e
 |[],vs,n+1,e=>by unfold bS at e;rw[e];simp;exact .nil
 |y::r,vs,n+1,e=>by
  unfold bS at e;obtain⟨v,d,a,c,b⟩:=e;rw[a,List.drop_succ_cons,List.drop_succ_cons];exact b.dp n
theorem bS.Aa:∀{ns:jcB}{vs:List V}{f:Str},f∉ns->(ns.zip vs).lookup f=none
 |[],vs,f,_=>by simp
 |n::ns,[],f,_=>by simp
 |n::ns,v::vs,f,h=>by
  rw[jca,List.lookup_cons];have q:(f==n)=false:=by
   cases q:(f==n) with
   |false=>rfl
   |true=>exact absurd (jae.mpr (.inl (eq_of_beq q))) h
  rw[q];exact bS.Aa λz=>h (jaj _ z)
end
theorem pP:∀{l:jcD}{i j:Nat}{a:Addr},l.Nodup->l[i]?=some a->l[j]?=some a->i=j
 |[],_,_,_,_,h,_=>by simp at h
 |x::r,0,0,_,_,_,_=>rfl
 |x::r,0,j+1,a,nd,h,k=>by
  simp at h k;subst h;exact absurd (ja5 k) (jbh.mp nd).1
 |x::r,i+1,0,a,nd,h,k=>by
  simp at h k;subst k;exact absurd (ja5 h) (jbh.mp nd).1
 |x::r,i+1,j+1,a,nd,h,k=>jac (·+1) (pP (l:=r) (jbh.mp nd).2 (by simpa using h) (by simpa using k))
def res (Y:jcD)(H:Hp):Hp:=λa=>if a∈Y then none else H a
def jd (K:Frag)(Y:jcD)(G:Hp):D->V->Prop
 |.t x,w=>Rp K G x w
 |.ob n,w=>∃a,Y[n]?=some a/\w=.ref a
def fT (K:Frag)(Y:jcD)(G:Hp):List D->List V->Prop:=Paired (jd K Y G)
def Kw (K:Frag)(Y:jcD)(G:Hp)(h:Option HO):O->Prop
 |.lst l=>∃c,h=some (.lst c)/\bS K G l c
 |.rN l=>∃b,h=some (.dK b)/\Paired (λ(p:Key×T) (q:Key×V)=>p.1=q.1/\Rp K G p.2 q.2) l b
 |.Au f b l=>h=some (.vE f (.dK b))/\Paired (λ(p:Key×T) (q:Key×V)=>p.1=q.1/\Rp K G p.2 q.2) l b
 |.ins C d l=>∃e c,h=some (.ins C e (d.zip c))/\d.length=c.length/\AU K C d/\fT K Y G l c
 |.gh ρ0 g=>(∃u,h=some u)/\(∀(n:Nat)(a:Addr),ρ0[n]?=some a->Y[n]?=some a)/\Le g G
structure R3 (K:Frag)(Y:List Addr)(S:aI)(H:Hp):Prop where
 len:Y.length=S.length
 nd:Y.Nodup
 ok:∀(n:Nat)(a:Addr)(o:O),Y[n]?=some a->S[n]?=some o->Kw K Y (res Y H) (H a) o
structure Gr (Y:List Addr)(H:Hp)(Y':List Addr)(H':Hp):Prop where
 ext:∃e,Y'=Y++e
 le:Le (res Y H) (res Y' H')
def Gr.refl {Y:jcD}{H:Hp}:Gr Y H Y H:=⟨⟨[],by simp⟩,Le.refl _⟩
def Gr.trans {Y g d:jcD}{H H' c:Hp}(a:Gr Y H g H')(b:Gr g H' d c):Gr Y H d c:=by
 obtain⟨e,rfl⟩:=a.ext;obtain⟨f,rfl⟩:=b.ext;exact⟨⟨e++f,by simp⟩,a.le.trans b.le⟩
theorem Gr.at {Y b:jcD}{H H':Hp}(a:Gr Y H b H'){n:Nat}{x:Addr}(h:Y[n]?=some x):b[n]?=some x:=by
 obtain⟨e,rfl⟩:=a.ext;have c:n<Y.length:=(jar.mp h).1;rw[jaL c];exact h
section
variable {K:Frag}{Y Y':jcD}{G G' H H':Hp}
theorem jd.le' (f:∀(n:Nat)(a:Addr),Y[n]?=some a->Y'[n]?=some a)(h:Le G G'):∀{d:D}{w:V},jd K Y G d w->jd K Y' G' d w
 |.t x,w,e=>Rp.le h e
 |.ob n,w,⟨a,b,c⟩=>⟨a,f n a b,c⟩
def jd.gr (g:Gr Y H Y' H'){d:D}{w:V}(e:jd K Y (res Y H) d w):jd K Y' (res Y' H') d w:=jd.le' (λ_ _=>g.at) g.le e
theorem dY {α β:Type}{F c:α->β->Prop}(h:∀a b,F a b->c a b):∀{l:List α}{m:List β},Paired F l m->Paired c l m
 |_,_,.nil=>.nil
 |_,_,.cons r t=>.cons (h _ _ r) (dY h t)
def fT.gr (g:Gr Y H Y' H'){l:List D}{w:List V}(e:fT K Y (res Y H) l w):fT K Y' (res Y' H') l w:=dY (λ_ _=>jd.gr g) e
theorem fT.t:∀{l:List T}{vs:List V},fT K Y G (l.map .t) vs->bS K G l vs
 |[],_,.nil=>.nil
 |_::_,_,.cons r t=>.cons r (fT.t t)
theorem fT.of:∀{l:List T}{vs:List V},bS K G l vs->fT K Y G (l.map .t) vs
 |[],vs,e=>by unfold bS at e;subst e;exact .nil
 |x::r,vs,e=>by
  unfold bS at e;obtain⟨v,d,a,b,c⟩:=e;subst a;exact .cons b (fT.of c)
theorem Kw.le' (f:∀(n:Nat)(a:Addr),Y[n]?=some a->Y'[n]?=some a)(h:Le G G'){x:Option HO}:∀{o:O},Kw K Y G x o->Kw K Y' G' x o
 |.lst l,⟨d,b,c⟩=>⟨d,b,c.le h⟩
 |.rN l,⟨d,b,c⟩=>⟨d,b,dY (λ_ _ z=>⟨z.1,z.2.le h⟩) c⟩
 |.Au j d l,⟨b,c⟩=>⟨b,dY (λ_ _ z=>⟨z.1,z.2.le h⟩) c⟩
 |.gh ρ0 m,⟨b,c,e⟩=>⟨b,λn a z=>f n a (c n a z),e.trans h⟩
 |.ins C k l,⟨i,d,b,c,e,g⟩=>⟨i,d,b,c,e,dY (λ_ _=>jd.le' f h) g⟩
theorem Kw.some {x:Option HO}:∀{o:O},Kw K Y G x o->∃u,x=some u
 |.lst l,⟨b,a,c⟩=>⟨_,a⟩
 |.rN l,⟨b,a,c⟩=>⟨_,a⟩
 |.Au f b l,⟨a,c⟩=>⟨_,a⟩
 |.gh _ _,⟨a,_⟩=>a
 |.ins C g l,⟨e,b,a,c,h,d⟩=>⟨_,a⟩
def res_some {a:Addr}{o:HO}(h:res Y H a=some o):a∉Y/\H a=some o:=by
 unfold res at h;split at h
 .cases h
 .exact⟨by assumption,h⟩
def oJ {a:Addr}{o:HO}(n:a∉Y)(h:H a=some o):res Y H a=some o:=by unfold res;rw[jaa n];exact h
def Vv:res [] H=H:=by funext a;unfold res;rw[jaa (by simp)]
end
section
variable {K:Frag}{Y:jcD}{S:aI}{H:Hp}
def R3.tracked (r:R3 K Y S H){a:Addr}(h:a∈Y):∃u,H a=some u:=by
 obtain⟨n,b⟩:=jcq.mp h;have c:n<S.length:=by rw[<- r.len];exact(jar.mp b).1
 exact(r.ok n a S[n] b (jaK c)).some
theorem R3.fresh (r:R3 K Y S H){p:Addr}(h:H p=none):p∉Y:=λz=>by
 obtain⟨u,e⟩:=r.tracked z;rw[h] at e;cases e
def R3.new (r:R3 K Y S H){p:Addr}{o:HO}(h:H p=none):R3 K Y S (upd H p o)/\Gr Y H Y (upd H p o)/\res Y (upd H p o) p=some o:=by
 have d:=r.fresh h;have le:Le (res Y H) (res Y (upd H p o)):=λa u e=>by
  obtain⟨c,b⟩:=res_some e;refine oJ c ?_;rw[aU (bU b h)];exact b
 refine⟨⟨r.len,r.nd,λn a u c b=>?_⟩,⟨⟨[],by simp⟩,le⟩,oJ d f9⟩;have q:=r.ok n a u c b;obtain⟨x,f⟩:=q.some;rw[aU (bU f h)];exact q.le' (λ_ _ z=>z) le
def R3.push (r:R3 K Y S H){p:Addr}{o:HO}{u:O}(h:H p=none)(k:Kw K (Y++[p]) (res Y H) (some o) u):R3 K (Y++[p]) (S++[u]) (upd H p o)/\Gr Y H (Y++[p]) (upd H p o):=by
 have g:=r.fresh h;have le:Le (res Y H) (res (Y++[p]) (upd H p o)):=λa u e=>by
  obtain⟨c,d⟩:=res_some e;have f:=bU d h;refine oJ (λz=>?_) ?_
  .rcases jan.mp z with z | z
   .exact c z
   .exact f (jal.mp z)
  .rw[aU f];exact d
 have m:∀(n:Nat)(a:Addr),Y[n]?=some a->(Y++[p])[n]?=some a:=λn a e=>by
  rw[jaL (jar.mp e).1];exact e
 refine⟨⟨by simp[r.len],?_,λn a x c d=>?_⟩,⟨⟨[p],M⟩,le⟩⟩
 .rw[jbA];refine⟨r.nd,by simp,λa j b l=>?_⟩;rw[jal.mp l];exact λz=>g (z ▸ j)
 .by_cases hn:n<Y.length
  .rw[jaL hn] at c;rw[jaL (by rw[<- r.len];exact hn)] at d;have q:=r.ok n a x c d;obtain⟨y,i⟩:=q.some;rw[aU (bU i h)];exact q.le' m le
  .have hn':n=Y.length:=by
    have:=(jar.mp c).1;rw[jag,jbe] at this;lia
   subst hn';rw[jaX (jaq _),Nat.sub_self] at c;rw[jaX (by rw[r.len];exact jaq _),r.len,Nat.sub_self] at d;cases c;cases d;rw[f9];exact k.le' (λ_ _ z=>z) le
def R3.put (r:R3 K Y S H){n:Nat}{a:Addr}{o:HO}{u:O}(g:Y[n]?=some a)(h:Kw K Y (res Y H) (some o) u):R3 K Y (S.set n u) (upd H a o)/\Gr Y H Y (upd H a o):=by
 have k:a∈Y:=ja5 g;have le:Le (res Y H) (res Y (upd H a o)):=λb u e=>by
  obtain⟨c,f⟩:=res_some e;refine oJ c ?_;rw[aU (λz=>c (by rw[z];exact k))];exact f
 refine⟨⟨by rw[jaP];exact r.len,r.nd,λm b x c f=>?_⟩,⟨⟨[],by simp⟩,le⟩⟩;by_cases d:n=m
 .subst d;rw[g] at c;cases c;have j:n<S.length:=by rw[<- r.len];exact(jar.mp g).1
  rw[jaJ j] at f;cases f;rw[f9];exact h.le' (λ_ _ z=>z) le
 .rw[ja1 d] at f;have i:b≠a:=λz=>by
   subst z;exact d (pP r.nd g c)
  rw[aU i];exact(r.ok m b x c f).le' (λ_ _ z=>z) le
end
abbrev KD:=D->aI->Prop
abbrev KS:=Sl->aI->Prop
abbrev cZ:=Sl->aI->KD->Prop
abbrev nG:=Sl->aI->(Bool->aI->Prop)->Prop
abbrev rT:=Sl->aI->(List D->aI->Prop)->Prop
structure jV where
 nx:KS
 rt:KD
 bk:KS:=λ_ _=>False
 ct:KS:=λ_ _=>False
abbrev nL:=jV->Sl->aI->Prop
section
variable (K:Frag)(Y:jcD)(H:Hp)
def up (k:KD):VK:=λv b=>∃a c d,Gr Y H a b/\R3 K a c b/\jd K a (res a b) d v/\k d c
def upT (k:Bool->aI->Prop):Bool->Hp->Prop:=λb d=>∃c a,Gr Y H c d/\R3 K c a d/\k b a
def upA (k:List D->aI->Prop):List V->Hp->Prop:=λv b=>∃a c d,Gr Y H a b/\R3 K a c b/\fT K a (res a b) d v/\k d c
def uO (G:Hp)(Z:Sl)(U:St):Prop:=Z.length=U.length/\∀(i:Nat) d,Z[i]?=some (some d)->∃v,U[i]?=some (some v)/\jd K Y G d v
def K9 (k:KS):St->Hp->Prop:=λU b=>∃a c Z,Gr Y H a b/\R3 K a c b/\uO K a (res a b) Z U/\k Z c
structure Fd (E:jV)(D:Ends):Prop where
 nx:∀U H',K9 K Y H E.nx U H'->D.nx U H'
 rt:∀v H',up K Y H E.rt v H'->D.rt v H'
 bk:∀U H',K9 K Y H E.bk U H'->D.bk U H'
 ct:∀U H',K9 K Y H E.ct U H'->D.ct U H'
end
section
variable (K:Frag)
def li (t:cZ):TE:=λU H Q=>∃Y S Z k,R3 K Y S H/\uO K Y (res Y H) Z U/\t Z S k/\∀v H',up K Y H k v H'->Q v H'
def UA (t:nG):TT:=λU H Q=>∃Y S Z k,R3 K Y S H/\uO K Y (res Y H) Z U/\t Z S k/\∀v H',upT K Y H k v H'->Q v H'
def liA (t:rT):TA:=λU H Q=>∃Y S Z k,R3 K Y S H/\uO K Y (res Y H) Z U/\t Z S k/\∀v H',upA K Y H k v H'->Q v H'
def liS (t:nL):TS:=λD U H=>∃Y S Z E,R3 K Y S H/\uO K Y (res Y H) Z U/\t E Z S/\Fd K Y H E D
end
section
variable {K:Frag}{Y Y':jcD}{H H':Hp}
theorem uO.gr (g:Gr Y H Y' H'){Z:Sl}{U:St}(r:uO K Y (res Y H) Z U):uO K Y' (res Y' H') Z U:=
 ⟨r.1,λi d e=>let⟨v,e1,e2⟩:=r.2 i d e;⟨v,e1,e2.gr g⟩⟩
def uO.set {G:Hp}{Z:Sl}{U:St}(r:uO K Y G Z U){d:D}{v:V}(h:jd K Y G d v)(i:Nat):uO K Y G (Z.set i (some d)) (U.set i (some v)):=by
 refine⟨by simp[r.1],λj e q=>?_⟩;by_cases a:i=j
 .subst a;have b:i<Z.length:=by
   have:=(jar.mp q).1;simpa using this
  rw[jaJ b] at q;cases q;exact⟨v,by rw[jaJ (by rw[<- r.1];exact b)],h⟩
 .rw[ja1 a] at q;rw[ja1 a];exact r.2 j e q
def up.gr (g:Gr Y H Y' H'){k:KD}{v:V}{a:Hp}:up K Y' H' k v a->up K Y H k v a:=λ⟨r,s,d,b,x⟩=>⟨r,s,d,g.trans b,x⟩
def upT.gr (g:Gr Y H Y' H'){k:Bool->aI->Prop}{v:Bool}{a:Hp}:upT K Y' H' k v a->upT K Y H k v a:=λ⟨r,s,b,x⟩=>⟨r,s,g.trans b,x⟩
def K9.gr (g:Gr Y H Y' H'){k:KS}{v:St}{a:Hp}:K9 K Y' H' k v a->K9 K Y H k v a:=λ⟨r,s,d,b,x⟩=>⟨r,s,d,g.trans b,x⟩
theorem Fd.gr (g:Gr Y H Y' H'){E:jV}{D:Ends}(u:Fd K Y H E D):Fd K Y' H' E D:=
 ⟨λU a h=>u.nx U a (h.gr g),λU a h=>u.rt U a (h.gr g),λU a h=>u.bk U a (h.gr g),λU a h=>u.ct U a (h.gr g)⟩
end
def QE (X:Cx)(e:Expr)(t:cZ):Prop:=PE X e (li X.K t)
def QT (X:Cx)(e:Expr)(t:nG):Prop:=PT X e (UA X.K t)
def QW (X:Cx)(e:Expr)(t:nG):Prop:=PW X e (UA X.K t)
def QA (X:Cx)(e:jcE)(t:rT):Prop:=PA X e (liA X.K t)
def QS (X:Cx)(e:Stmt)(t:nL):Prop:=PS X e (liS X.K t)
def OQ (X:Cx)(e:List Stmt)(t:nL):Prop:=Fc X e (liS X.K t)
section
variable {X:Cx}{e:Expr}
def cW {t t':TE}(h:PE X e t)(m:∀U H Q,t' U H Q->t U H Q):PE X e t':=λa s U H Q I q=>h a s U H Q I (m _ _ _ q)
def LU {t t':TT}(h:PT X e t)(m:∀U H Q,t' U H Q->t U H Q):PT X e t':=λa s U H Q I q=>h a s U H Q I (m _ _ _ q)
def Yd {t t':TT}(h:PW X e t)(m:∀U H Q,t' U H Q->t U H Q):PW X e t':=λw a s U H Q I q=>h w a s U H Q I (m _ _ _ q)
def Yh {a:jcE}{t t':TA}(h:PA X a t)(m:∀U H Q,t' U H Q->t U H Q):PA X a t':=λp b s U H Q I q=>h p b s U H Q I (m _ _ _ q)
def lH {st:Stmt}{t t':TS}(h:PS X st t)(m:∀D U H,t' D U H->t D U H):PS X st t':=λa s U H D I q=>h a s U H D I (m _ _ _ q)
def Jo {st:List Stmt}{t t':TS}(h:Fc X st t)(m:∀D U H,t' D U H->t D U H):Fc X st t':=λa s U H D I q=>h a s U H D I (m _ _ _ q)
end
theorem bS.put {K:Frag}{G:Hp}{x:T}{v:V}(h:Rp K G x v):∀{l:List T}{vs:List V}{j:Nat},bS K G l vs->bS K G (l.set j x) (vs.set j v)
 |[],vs,j,e=>by unfold bS at e;subst e;exact .nil
 |y::r,vs,0,e=>by
  unfold bS at e;obtain⟨w,d,a,c,b⟩:=e;subst a;exact .cons h b
 |y::r,vs,j+1,e=>by
  unfold bS at e;obtain⟨w,d,a,c,b⟩:=e;subst a;exact .cons c (bS.put h b)
section
variable {K:Frag}{Y:jcD}{S:aI}{H:Hp}{k:KD}{Q:VK}
def kZ:Le (res Y H) H:=λa o e=>(res_some e).2
theorem fin {d:D}{v:V}(R:R3 K Y S H)(hk:∀v H',up K Y H k v H'->Q v H')(r:jd K Y (res Y H) d v)(q:k d S):Q v H:=hk _ _ ⟨Y,S,d,.refl,R,r,q⟩
def SS {l:List T}{vs:List V}(R:R3 K Y S H)(hk:∀v H',up K Y H k v H'->Q v H')(r:bS K (res Y H) l vs)(q:k (.tup l) S)(p:Addr)(a:H p=none):Q (.ref p) (upd H p (.tup vs)):=by
 obtain⟨b,g,e⟩:=R.new (o:=.tup vs) a;refine hk _ _ ⟨Y,S,.tup l,g,b,?_,q⟩;show Rp _ _ _ _;unfold Rp;exact⟨p,vs,M,e,r.le g.le⟩
def EF {l:List T}{vs:List V}(R:R3 K Y S H)(hk:∀v H',up K Y H k v H'->Q v H')(r:bS K (res Y H) l vs)(q:k (.lst l) S)(p:Addr)(a:H p=none):Q (.ref p) (upd H p (.lst vs)):=by
 obtain⟨b,g,e⟩:=R.new (o:=.lst vs) a;refine hk _ _ ⟨Y,S,.lst l,g,b,?_,q⟩;show Rp _ _ _ _;unfold Rp;exact⟨p,vs,M,e,r.le g.le⟩
def a13 {o:O}{h:HO}(R:R3 K Y S H)(hk:∀v H',up K Y H k v H'->Q v H')(p:Addr)(a:H p=none)(r:Kw K (Y++[p]) (res Y H) (some h) o)(q:k (.ob S.length) (S++[o])):Q (.ref p) (upd H p h):=by
 obtain⟨b,g⟩:=R.push a r;exact hk _ _ ⟨_,_,.ob S.length,g,b,⟨p,by rw[<- R.len];simp,M⟩,q⟩
theorem SW {l:List T}{vs:List V}(R:R3 K Y S H)(hk:∀v H',up K Y H k v H'->Q v H')(r:bS K (res Y H) l vs)(q:k (.ob S.length) (S++[.lst l]))(p:Addr)(a:H p=none):Q (.ref p) (upd H p (.lst vs)):=
 a13 (o:=.lst l) R hk p a ⟨vs,M,r⟩ q
def SV {n:Nat}{a:Addr}{o:O}{h:HO}{d:D}{v:V}(R:R3 K Y S H)(hk:∀v H',up K Y H k v H'->Q v H')(c:Y[n]?=some a)(r:Kw K Y (res Y H) (some h) o)(b:jd K Y (res Y H) d v)(q:k d (S.set n o)):Q v (upd H a h):=by
 obtain⟨e,g⟩:=R.put c r;exact hk _ _ ⟨_,_,d,g,e,b.gr g,q⟩
end
noncomputable def lq (S:aI):D->Option (List T)
 |.t (.lst l)=>some l
 |.ob n=>match S[n]? with
  |some (.lst l)=>some l
  |_=>none
 |_=>none
def sq (S:aI):D->Option (List T)
 |.t (.tup l)=>some l
 |.t (.Cq l)=>some l
 |d=>lq S d
section
variable {K:Frag}{Y:jcD}{S:aI}{H:Hp}
theorem dU (R:R3 K Y S H):∀{d:D}{v:V}{l:List T},jd K Y (res Y H) d v->lq S d=some l->∃a vs,v=.ref a/\H a=some (.lst vs)/\bS K (res Y H) l vs
 |.t (.lst h),v,l,r,e=>by
  have e:some h=some l:=e;cases e;have r:Rp _ _ _ _:=r;unfold Rp at r;obtain⟨a,vs,b,c,j⟩:=r;exact⟨a,vs,b,kZ _ _ c,j⟩
 |.t (.Cq _),_,_,_,e=>nomatch e
 |.t (.v _),_,_,_,e=>nomatch e
 |.t (.tup _),_,_,_,e=>nomatch e
 |.t (.ins _ _ _),_,_,_,e=>nomatch e
 |.ob n,v,l,⟨a,f,r⟩,e=>by
  have e:(match S[n]? with | some (.lst l)=>some l | _=>none)=some l:=e;cases q:S[n]? with
  |none=>rw[q] at e;cases e
  |some o=>
   rw[q] at e;cases o with
   |lst m=>
    have e:some m=some l:=e;cases e;obtain⟨vs,g,i⟩:=R.ok n a _ f q;exact⟨a,vs,r,g,i⟩
   |rN m=>cases e
   |Au _ _ m=>cases e
   |gh _ _=>cases e
   |ins C k m=>cases e
def yH (R:R3 K Y S H){d:D}{v:V}{l:List T}(r:jd K Y (res Y H) d v)(e:sq S d=some l):∃a vs,v=.ref a/\(nM K H a vs\/nO K H a vs)/\bS K (res Y H) l vs:=by
 unfold sq at e;split at e
 .cases e;have r:Rp _ _ _ _:=r;unfold Rp at r;obtain⟨a,vs,c,b,f⟩:=r;exact⟨a,vs,c,.inr (.of (kZ _ _ b)),f⟩
 .cases e;have r:Rp _ _ _ _:=r;unfold Rp at r;obtain⟨a,vs,c,b,f⟩:=r;exact⟨a,vs,c,.inl (Iq kZ b),f⟩
 .obtain⟨a,vs,h1,h2,h3⟩:=dU R r e;exact⟨a,vs,h1,.inl (.of h2),h3⟩
def fN {v:V}{l:List T}(r:jd K Y (res Y H) (.tup l) v):∃a vs,v=.ref a/\H a=some (.tup vs)/\bS K (res Y H) l vs:=by
 have r:Rp _ _ _ _:=r;unfold Rp at r;obtain⟨a,vs,c,b,d⟩:=r;exact⟨a,vs,c,kZ _ _ b,d⟩
def aM {G:Hp}{x w:V}(r:jd K Y G (.t (.v x)) w):w=x:=by
 have r:Rp _ _ _ _:=r;unfold Rp at r;exact r
def bz {G:Hp}{x:V}:jd K Y G (.t (.v x)) x:=by show Rp _ _ _ _;unfold Rp;rfl
end
section
variable {X:Cx}{a b e:Expr}{ta tb:cZ}{pos:Pos}
def lE {α:Type}:Option α->(α->Prop)->Prop
 |some a,f=>f a
 |none,_=>False
def oe {α:Type}{o:Option α}{a:α}{f:α->Prop}(h:o=some a)(hk:f a):lE o f:=by rw[h];exact hk
def oQ {α:Type}{o:Option α}{f:α->Prop}(h:lE o f):∃a,o=some a/\f a:=by
 cases o with
 |none=>exact h.elim
 |some a=>exact⟨a,M,h⟩
def cnd:Bool->Prop->Prop
 |true,p=>p
 |false,_=>False
def Ax {b:Bool}{p:Prop}(h:cnd b p):b=true/\p:=by
 cases b with
 |true=>exact⟨M,h⟩
 |false=>exact h.elim
def Xx (Z:Sl)(i:Nat)(S:aI)(k:KD):Prop:=lE Z[i]? λo=>lE o λd=>k d S
def Xx.of {Z:Sl}{i:Nat}{S:aI}{k:KD}(h:Xx Z i S k):∃d,Z[i]?=some (some d)/\k d S:=by
 obtain⟨o,e,h⟩:=oQ h;obtain⟨d,rfl,h⟩:=oQ h;exact⟨d,e,h⟩
def cE (i:Nat):cZ:=λZ S k=>Xx Z i S k
def wj (d:D):cZ:=λ_ S k=>k d S
theorem q_v (i:Nat){x:Str}{b:Pos}(h:autoParam (X.N[i]?=some x) zi)(g:Vis X.env.scope x:=by first | exact Or.inl rfl | exact Or.inr (Or.inl M) | exact Or.inr (Or.inr M))(j:autoParam ((x==("__debug__":Str))=false) zn)
  (a:autoParam ((x==("__classdict__":Str))=false) zn):QE X (.Name x b) (cE i):=
 cW (a0D h g j a) (by
  rintro U H Q ⟨Y,S,Z,k,R,D,q,hk⟩;obtain⟨d,e,q⟩:=q.of;obtain⟨v,c,f⟩:=D.2 i d e;exact⟨v,c,fin R hk f q⟩)
def vo {v:V}(h:PE X e (tC v)):QE X e (wj (.t (.v v))):=cW h (by rintro U H Q ⟨Y,S,Z,k,R,D,q,hk⟩;exact fin R hk bz q)
def aB {i j pos}:QE X (.Constant (.int i) j pos) (wj (.int i)):=vo Rc
def QM {b j pos}:QE X (.Constant (.bool b) j pos) (wj (.bl b)):=vo a4g
def wm {j pos}:QE X (.Constant .none j pos) (wj .dD):=vo a0H
def ay {x j pos}:QE X (.Constant (.str x) j pos) (wj (.str x)):=vo Jq
abbrev vR:=D->D->aI->KD->Prop
def liR (K:Frag)(r:vR):R2:=λx y H Q=>∃Y S a b k,R3 K Y S H/\jd K Y (res Y H) a x/\jd K Y (res Y H) b y/\r a b S k/\∀v H',up K Y H k v H'->Q v H'
def wR (X:Cx)(f:Value->Value->Sem Value)(r:vR):Prop:=lA X f (liR X.K r)
def gB {f:Value->Value->Sem Value}{r a:R2}(h:lA X f r)(m:∀x y H Q,a x y H Q->r x y H Q):lA X f a:=λc s U H x y v u Q I b d q=>h c s U H x y v u Q I b d (m _ _ _ _ q)
def nU (r:vR)(b d:cZ):cZ:=λZ S k=>b Z S λx c=>d Z c λy a=>r x y a k
def yi {r:vR}:∀U H Q,li X.K (nU r ta tb) U H Q->tOp (liR X.K r) (li X.K ta) (li X.K tb) U H Q:=(by rintro U H Q ⟨Y,S,Z,k,R,D,q,hk⟩;exact  ⟨Y,S,Z,_,R,D,q,(by rintro v p ⟨l,g,d1,b,e,m,h⟩;exact⟨l,g,Z,_,e,D.gr b,h,(by rintro w o ⟨n,c,d,a,R2,j,f⟩;exact   ⟨n,c,d1,d,k,R2,m.gr a,j,f,λz i u=>hk z i (u.gr (b.trans a))⟩)⟩)⟩)
def aY {c:Operator}{r:vR}(d:wR X (binaryOp c) r)(e:QE X a ta)(f:QE X b tb):QE X (.BinOp a c b pos) (nU r ta tb):=cW (a4d d e f) yi
def cV {c:CmpOp}{r:vR}(d:wR X (compareOp c) r)(e:QE X a ta)(g:QE X b tb)(f:behindInMarks c b=false):QE X (.Compare a [c] [b] pos) (nU r ta tb):=cW (V7 d e g f) yi
inductive BlR (d:D) (S:aI) (k:Bool->aI->Prop):Prop
 |mk (b:Bool) (h:d=.bl b) (hk:k b S)
def uU (t:cZ):nG:=λZ S k=>t Z S λd a=>BlR d a k
theorem uS {t:cZ}{t':TE}(m:∀U H Q,li X.K t U H Q->t' U H Q):∀U H Q,UA X.K (uU t) U H Q->Pb t' U H Q:=(by rintro U H Q ⟨Y,S,Z,k,R,D,q,hk⟩;exact  m _ _ _ ⟨Y,S,Z,_,R,D,q,(by
  rintro v i ⟨a,f,d1,h,c,d,b,e,g⟩;subst e;exact⟨b,aM d,hk _ _ ⟨a,f,h,c,g⟩⟩)⟩)
def aA {c:CmpOp}{r:vR}(d:wR X (compareOp c) r)(e:QE X a ta)(g:QE X b tb)(f:behindInMarks c b=false):QT X (.Compare a [c] [b] pos) (uU (nU r ta tb)):=LU (VQ d e g f) (uS yi)
end
inductive HG (a b:D) (S:aI) (k:KD):Prop
 |mk (l m:List T) (h:lq S a=some l) (h1:lq S b=some m) (h2:l.length+m.length<=sizeLine) (hk:k (.lst (l++m)) S)
def Xv:vR:=λa b S k=>a.iD.elim (a.sD.elim (a.tD.elim (HG a b S k) λx=>b.tD.elim (HG a b S k) λy=>x.length+y.length<=sizeLine/\k (.tup (x++y)) S) λx=>b.sD.elim (HG a b S k) λy=>x.length+y.length<=sizeLine/\k (.str (x++y)) S) λi=>b.iD.elim (HG a b S k) λj=>k (.int (i+j)) S
def Zo:vR
 |.t (.v (.int i)),.t (.v (.int j)),S,k=>k (.int (i - j)) S
 |_,_,_,_=>False
def a4z:vR:=λa b S k=>b.iD.elim False λj=>a.iD.elim (∃l,lq S a=some l/\-(2 ^ 63)<=j/\j<2 ^ 63/\l.length*j.toNat<=sizeLine/\k (.lst (List.replicate j.toNat l).flatten) S) λi=>XN i j/\k (.int (i*j)) S
def SY:vR
 |.t (.v (.int i)),.t (.v (.int j)),S,k=>a50 i j/\k (.int (i / j)) S
 |_,_,_,_=>False
def a1d:vR
 |.t (.v (.int i)),.t (.v (.int j)),S,k=>0<j/\k (.int (i % j)) S
 |_,_,_,_=>False
def Hr (f:Int->Int->Bool):vR
 |.t (.v (.int i)),.t (.v (.int j)),S,k=>k (.bl (f i j)) S
 |_,_,_,_=>False
mutual
def Fl:Nat->T->Prop
 |_,.v x=>fY x=true
 |0,_=>False
 |n+1,.tup l=>Uk n l
 |n+1,.lst l=>Uk n l
 |_+1,_=>False
def Uk:Nat->List T->Prop
 |_,[]=>True
 |n,x::r=>Fl n x/\Uk n r
end
def ScR (x y:V)(p:Prop):Prop:=cnd (ZP x y) p
def eq3 (n:Nat)(c:Bool):vR
 |.t (.v x),.t (.v y),S,k=>ScR x y (k (.bl (xor c (decide (x=y)))) S)
 |.t (.tup l),.t (.tup m),S,k=>(l=m/\Uk n l/\k (.bl (!c)) S)\/(m=[]/\k (.bl (xor c (decide (l=[])))) S)
 |a,b,S,k=>∃l m,lq S a=some l/\lq S b=some m/\((l=m/\Uk n l/\k (.bl (!c)) S)\/(m=[]/\k (.bl (xor c (decide (l=[])))) S))
def a1K (a:Bool):vR
 |.t (.v x),.t (.v .dD),S,k=>k (.bl (xor a (decide (x=.dD)))) S
 |.t _,.t (.v .dD),S,k=>k (.bl a) S
 |.ob _,.t (.v .dD),S,k=>k (.bl a) S
 |_,_,_,_=>False
def flT:T->Option V
 |.v x=>if fY x=true then some x else none
 |_=>none
def BB:List T->Option (List V)
 |[]=>some []
 |x::r=>match flT x,BB r with
  |some v,some a=>some (v::a)
  |_,_=>none
inductive in3 (neg:Bool) (a b:D) (S:aI) (k:KD):Prop
 |mk (x:V) (l:List T) (vs:List V) (h:a=.t (.v x)) (h1:fY x=true) (h2:sq S b=some l) (h3:BB l=some vs) (hk:k (.bl (xor neg (H8 x vs))) S)
section
variable {X:Cx}
theorem bS.rep {K:Frag}{G:Hp}{l:List T}{vs:List V}(r:bS K G l vs):∀n:Nat,bS K G (List.replicate n l).flatten (List.replicate n vs).flatten
 |0=>.nil
 |n+1=>by
  rw[jbf,jbf,jaG,jaG];exact r.app (bS.rep r n)
def bS.dZ {K:Frag}{G:Hp}{l:List T}{vs:List V}(r:bS K G l vs):vs=[]↔l=[]:=by
 have:=r.len;constructor
 .intro e;subst e;exact jbd.mp this
 .intro e;subst e;exact jbd.mp this.symm
theorem Ar {K:Frag}{G:Hp}:∀{l:List T}{us vs:List V},BB l=some vs->bS K G l us->us=vs/\vs.all fY=true
 |[],us,vs,e,r=>by
  unfold bS at r;have e:some []=some vs:=e;cases e;exact⟨r,M⟩
 |x::l,us,vs,e,r=>by
  unfold bS at r;obtain⟨v,j,f,d,i⟩:=r;cases x with
  |v y=>
   by_cases a:fY y=true
   .have q1:flT (.v y)=some y:=jab a;cases c:BB l with
    |none=>unfold BB at e;rw[q1,c] at e;cases e
    |some b=>
     unfold BB at e;rw[q1,c] at e;have e:some (y::b)=some vs:=e;cases e;obtain⟨g,h⟩:=Ar c i;subst g;unfold Rp at d;subst d;exact⟨f,by rw[List.all_cons,a,h];rfl⟩
   .have q1:flT (.v y)=none:=jaa a;unfold BB at e;rw[q1] at e;cases e
  |_=>unfold BB at e;cases e
end
section
variable {K:Frag}{H:Hp}{G:Hp}
mutual
theorem a1k (le:Le G H):∀(n:Nat){x:T}{v w:V},Fl n x->Rp K G x v->Rp K G x w->Kz K H n v w
 |n,.v y,v,w,f,d,c=>by
  unfold Rp at d c;unfold Fl at f;subst d;subst c;cases n with
  |zero=>exact⟨f,M⟩
  |succ n=>exact .inl ⟨f,M⟩
 |n+1,.tup l,v,w,f,d,c=>by
  unfold Rp at d c;unfold Fl at f;obtain⟨a,k,g,h,o⟩:=d;obtain⟨b,m,j,i,e⟩:=c;exact .inr ⟨a,b,k,m,g,j,.inr ⟨.of (le _ _ h),.of (le _ _ i)⟩,rJ le n f o e⟩
 |n+1,.lst l,v,w,f,d,c=>by
  unfold Rp at d c;unfold Fl at f;obtain⟨a,k,g,h,o⟩:=d;obtain⟨b,m,j,i,e⟩:=c;exact .inr ⟨a,b,k,m,g,j,.inl ⟨.of (le _ _ h),.of (le _ _ i)⟩,rJ le n f o e⟩
 |n+1,.Cq l,v,w,f,d,c=>by unfold Fl at f;exact f.elim
 |n+1,.ins C p l,v,w,f,d,c=>by unfold Fl at f;exact f.elim
 |0,.tup l,v,w,f,d,c=>by unfold Fl at f;exact f.elim
 |0,.lst l,v,w,f,d,c=>by unfold Fl at f;exact f.elim
 |0,.Cq l,v,w,f,d,c=>by unfold Fl at f;exact f.elim
 |0,.ins C p l,v,w,f,d,c=>by unfold Fl at f;exact f.elim
theorem rJ (le:Le G H):∀(n:Nat){l:List T}{vs ws:List V},Uk n l->bS K G l vs->bS K G l ws->Paired (Kz K H n) vs ws
 |n,[],vs,ws,f,b,a=>by
  unfold bS at b a;subst b;subst a;exact .nil
 |n,x::l,vs,ws,f,b,a=>by
  unfold bS at b a;unfold Uk at f;obtain⟨v,k,d,e,i⟩:=b;obtain⟨w,j,h,g,c⟩:=a;subst d;subst h;exact .cons (a1k le n f.1 e g) (rJ le n f.2 i c)
end
end
section
variable {X:Cx}
def a2Z {A G:Prop}(h:A->G)(m:(A->G)->G):G:=m h
def aO:wR X (binaryOp .Add) Xv:=by
 refine gB ((a0V.or (Jw.or (Wd.or Rv)))) ?_;rintro x y H Q ⟨Y,S,a,b,k,R,f,g,q,hk⟩;refine a2Z (A:=HG a b S k) ?_ λo=>?_
 .rintro⟨l,m,h1,h2,h3,h4⟩;obtain⟨t,u,n,s,c⟩:=dU R f h1;obtain⟨C,B,r,v,d⟩:=dU R g h2;exact .inr (.inr (.inr ⟨t,C,u,B,n,r,s,v,by rw[<- c.len,<- d.len];exact h3,λp w=>EF R hk (c.app d) h4 p w⟩))
 rcases S8 q with q | ⟨i,e,q⟩
 .rcases S8 q with q | ⟨x,e,q⟩
  .rcases S8 q with q | ⟨x,e,q⟩
   .exact o q
   rcases S8 q with q | ⟨y,h,q⟩
   .exact o q
   cases D.XW e;cases D.XW h;obtain⟨t,u,n,s,c⟩:=fN f;obtain⟨C,B,r,v,d⟩:=fN g;refine .inr (.inr (.inl ⟨t,C,u,B,n,r,.of s,.of v,by rw[<- c.len,<- d.len];exact q.1,λz=>?_,λ_ z=>?_,λ_ _ p w=>SS R hk (c.app d) q.2 p w⟩))
   .have z:=c.dZ.mp z;subst z;rw[<- r];exact fin R hk g q.2
   .have z:=d.dZ.mp z;subst z;rw[<- n];refine fin R hk f ?_;have:=q.2;rwa[jaD] at this
  rcases S8 q with q | ⟨y,h,q⟩
  .exact o q
  cases D.LI e;cases D.LI h;exact .inr (.inl ⟨_,_,aM f,aM g,q.1,fin R hk bz q.2⟩)
 rcases S8 q with q | ⟨j,h,q⟩
 .exact o q
 cases D.CD e;cases D.CD h;exact .inl ⟨_,_,aM f,aM g,fin R hk bz q⟩
def Cv:wR X (binaryOp .Sub) Zo:=by
 refine gB a0P ?_;rintro x y H Q ⟨Y,S,a,b,k,R,c,d,q,hk⟩;unfold Zo at q;split at q
 .exact⟨_,_,aM c,aM d,fin R hk bz q⟩
 .exact q.elim
def GH:wR X (binaryOp .Mult) a4z:=by
 refine gB (a0S.or a0Q) ?_;rintro x y H Q ⟨Y,S,a,b,k,R,c,d,q,hk⟩;rcases S8 q with q | ⟨j,o,m⟩
 .exact q.elim
 cases D.CD o;rcases S8 m with⟨l,f,r,g,n,s⟩ | ⟨i,e,q⟩
 .obtain⟨p1,vs,e1,e2,e3⟩:=dU R c f;exact .inr ⟨p1,_,vs,e1,aM d,e2,r,g,by rw[<- e3.len];exact n,λp h=>EF R hk (e3.rep _) s p h⟩
 cases D.CD e;exact .inl ⟨_,_,aM c,aM d,q.1,fin R hk bz q.2⟩
def vv:wR X (binaryOp .FloorDiv) SY:=by
 refine gB Wc ?_;rintro x y H Q ⟨Y,S,a,b,k,R,c,d,q,hk⟩;unfold SY at q;split at q
 .exact⟨_,_,aM c,aM d,q.1,fin R hk bz q.2⟩
 .exact q.elim
def GI:wR X (binaryOp .Mod) a1d:=by
 refine gB a0T ?_;rintro x y H Q ⟨Y,S,a,b,k,R,c,d,q,hk⟩;unfold a1d at q;split at q
 .exact⟨_,_,aM c,aM d,q.1,fin R hk bz q.2⟩
 .exact q.elim
def RH {c:CmpOp}{f:Int->Int->Bool}(h:lA X (compareOp c) (X7 λi j=>.bl (f i j))):wR X (compareOp c) (Hr f):=by
 refine gB h ?_;rintro x y H Q ⟨Y,S,a,b,k,R,d,e,q,hk⟩;unfold Hr at q;split at q
 .exact⟨_,_,aM d,aM e,fin R hk bz q⟩
 .exact q.elim
def zY:wR X (compareOp .Lt) (Hr λi j=>decide (i<j)):=RH a4k
def RG:wR X (compareOp .LtE) (Hr λi j=>decide (i<=j)):=RH a4l
def qh:wR X (compareOp .Gt) (Hr λi j=>decide (j<i)):=RH a4m
def Vz (K:Frag):R2:=λx y H Q=>∃a b c,x=.ref a/\y=.ref b/\nO K H a c/\nO K H b []/\Q (.bl (!decide (c=[]))) H
def NN (o:X.A.units<cLine):lA X (compareOp .NotEq) (Vz X.K):=by
 intro D s U H x y v u Q I r w h;obtain⟨a,b,f,rfl,rfl,i,p,q⟩:=h;cases r;cases w;obtain⟨c,g,k,_⟩:=I.tuple i;obtain⟨C,n,t,_⟩:=I.tuple p;cases n;refine SeqAt.RcNeAt.tuples (A:=X.A) (e:=λ_=>true) (show s.heap.IsTuple a c.toArray from k) (show s.heap.IsTuple b ([]:jcC).toArray from t) o (λj B m=>absurd m (by simp)) _ _ _ _ ?_;have e:(!((List.range (min c.toArray.size ([]:jcC).toArray.size)).all (λ_=>true)&&c.toArray.size==([]:jcC).toArray.size))=!decide (f=[]):=by
  have l:=g.length;rw[o8,Bool.true_and];by_cases d:f=[]
  .subst d;cases g;simp
  .rw[jai d];have:c≠[]:=λz=>d (by rw[z] at l;exact jbd.mp l);cases c with
   |nil=>exact absurd rfl this
   |cons _ _=>simp
 rw[e];exact⟨.bl _,H,I,M,q⟩
def cA (n:Nat)(D:X.A.units+1+n<cLine):wR X (compareOp .Eq) (eq3 n false):=by
 have o:X.A.units<cLine:=by lia
 refine gB (a4n.or ((a0U n D).or ((Ru o).or (NP o)))) ?_;rintro x y H Q ⟨Y,S,a,b,k,R,v,B,q,hk⟩;unfold eq3 at q;split at q
 .rw[aM v,aM B];refine .inl ⟨(Ax q).1,fin R hk bz ?_⟩;have:=(Ax q).2;rwa[jaT] at this
 .obtain⟨f,g,j,d,h⟩:=fN v;obtain⟨p,u,r,e,i⟩:=fN B;rcases q with⟨z,t,c⟩ | ⟨z,c⟩
  .subst z;exact .inr (.inl ⟨f,p,g,u,j,r,.inr ⟨.of d,.of e⟩,rJ kZ n t h i,fin R hk bz c⟩)
  .subst z;have w:=i.dZ.mpr rfl;subst w;refine .inr (.inr (.inl ⟨f,p,g,j,r,.of d,.of e,?_⟩));rw[jaT] at c;rw[jaY.mpr h.dZ];exact fin R hk bz c
 .obtain⟨l,m,t,c,q⟩:=q;obtain⟨f,g,j,d,h⟩:=dU R v t;obtain⟨p,u,r,e,i⟩:=dU R B c;rcases q with⟨z,C,s⟩ | ⟨z,s⟩
  .subst z;exact .inr (.inl ⟨f,p,g,u,j,r,.inl ⟨.of d,.of e⟩,rJ kZ n C h i,fin R hk bz s⟩)
  .subst z;have w:=i.dZ.mpr rfl;subst w;refine .inr (.inr (.inr ⟨f,p,g,j,r,.of d,.of e,?_⟩));rw[jaT] at s;rw[jaY.mpr h.dZ];exact fin R hk bz s
def j4 (n:Nat)(D:X.A.units+1+n<cLine):wR X (compareOp .NotEq) (eq3 n true):=by
 have o:X.A.units<cLine:=by lia
 refine gB (a4j.or ((a0R n D).or ((NN o).or (Rt o)))) ?_;rintro x y H Q ⟨Y,S,a,b,k,R,v,B,q,hk⟩;unfold eq3 at q;split at q
 .rw[aM v,aM B];refine .inl ⟨(Ax q).1,fin R hk bz ?_⟩;have:=(Ax q).2;rwa[jbo] at this
 .obtain⟨f,g,j,d,h⟩:=fN v;obtain⟨p,u,r,e,i⟩:=fN B;rcases q with⟨z,t,c⟩ | ⟨z,c⟩
  .subst z;exact .inr (.inl ⟨f,p,g,u,j,r,.inr ⟨.of d,.of e⟩,rJ kZ n t h i,fin R hk bz c⟩)
  .subst z;have w:=i.dZ.mpr rfl;subst w;refine .inr (.inr (.inl ⟨f,p,g,j,r,.of d,.of e,?_⟩));rw[jbo] at c;rw[jaY.mpr h.dZ];exact fin R hk bz c
 .obtain⟨l,m,t,c,q⟩:=q;obtain⟨f,g,j,d,h⟩:=dU R v t;obtain⟨p,u,r,e,i⟩:=dU R B c;rcases q with⟨z,C,s⟩ | ⟨z,s⟩
  .subst z;exact .inr (.inl ⟨f,p,g,u,j,r,.inl ⟨.of d,.of e⟩,rJ kZ n C h i,fin R hk bz s⟩)
  .subst z;have w:=i.dZ.mpr rfl;subst w;refine .inr (.inr (.inr ⟨f,p,g,j,r,.of d,.of e,?_⟩));rw[jbo] at s;rw[jaY.mpr h.dZ];exact fin R hk bz s
def WG {K:Frag}{G:Hp}{x:T}{w:V}(h:∀y,x≠.v y)(r:Rp K G x w):w≠.dD:=by
 cases x with
 |v y=>exact absurd rfl (h y)
 |tup l=>unfold Rp at r;obtain⟨a,b,e,_⟩:=r;rw[e];exact λz=>nomatch z
 |lst l=>unfold Rp at r;obtain⟨a,b,e,_⟩:=r;rw[e];exact λz=>nomatch z
 |Cq l=>unfold Rp at r;obtain⟨a,b,e,_⟩:=r;rw[e];exact λz=>nomatch z
 |ins C d l=>unfold Rp at r;obtain⟨a,c,b,e,_⟩:=r;rw[e];exact λz=>nomatch z
theorem W7 {K:Frag}{Y:jcD}{S:aI}{H:Hp}{k:KD}{Q:VK}{c:Bool}{a b:D}{x y:V}(R:R3 K Y S H)(hk:∀v H',up K Y H k v H'->Q v H')(d:jd K Y (res Y H) a x)(f:jd K Y (res Y H) b y)
  (q:a1K c a b S k):y=.dD/\Q (.bl (xor c (decide (x=.dD)))) H:=by
 unfold a1K at q;split at q
 .rw[aM d];exact⟨aM f,fin R hk bz q⟩
 .rename_i h;refine⟨aM f,?_⟩;rw[jai (WG (λz e=>h z (by rw[e])) (show Rp _ _ _ _ from d)),Bool.xor_false];exact fin R hk bz q
 .obtain⟨p,_,e⟩:=d;refine⟨aM f,?_⟩;rw[jai (by rw[e];exact λz=>nomatch z),Bool.xor_false];exact fin R hk bz q
 .exact q.elim
theorem Er:wR X (compareOp .IsNot) (a1K true):=gB Wb (by
 rintro x y H Q ⟨Y,S,a,b,k,R,c,d,q,hk⟩;have:=W7 R hk c d q;rwa[jbo] at this)
def Bt:wR X (compareOp .In) (in3 false):=by
 refine gB Cu ?_;rintro x y H Q ⟨Y,S,a,b,k,R,i,j,⟨z,l,s,e,n,g,m,q⟩,hk⟩;subst e;obtain⟨p,f,c,d,r⟩:=yH R j g;obtain⟨o,h⟩:=Ar m r;subst o;rw[aM i];rw[jaT] at q;exact⟨p,f,c,d,n,h,fin R hk bz q⟩
def yj:wR X (compareOp .NotIn) (in3 true):=by
 refine gB tO ?_;rintro x y H Q ⟨Y,S,a,b,k,R,i,j,⟨z,l,s,e,n,g,m,q⟩,hk⟩;subst e;obtain⟨p,f,c,d,r⟩:=yH R j g;obtain⟨o,h⟩:=Ar m r;subst o;rw[aM i];rw[jbo] at q;exact⟨p,f,c,d,n,h,fin R hk bz q⟩
end
end L3
namespace L3
open PySem L2 Hw
section
variable {X:Cx}{a b c e:Expr}{ta tb:cZ}{tA tB:nG}{rest:jcE}{pos:Pos}
def Lr (t u:nG):nG:=λZ S k=>t Z S λc a=>if c=true then u Z a k else k false a
def Ni (t u:nG):nG:=λZ S k=>t Z S λc a=>if c=true then k true a else u Z a k
def a3m (t:nG):nG:=λZ S k=>t Z S λc a=>k (!c) a
theorem jN (j:QT X a tA)(l:QW X (.BoolOp .And (b::rest) pos) tB):QW X (.BoolOp .And (a::b::rest) pos) (Lr tA tB):=
 Yd (a0l j l) (by rintro U H Q ⟨Y,S,Z,k,R,D,q,hk⟩;exact⟨Y,S,Z,_,R,D,q,(by
  rintro c m ⟨e,g,d,f,h⟩;cases c with
  |true=>exact⟨e,g,Z,k,f,D.gr d,h,λz i u=>hk z i (u.gr d)⟩
  |false=>exact hk _ _ ⟨e,g,d,f,h⟩)⟩)
theorem tN (j:QT X a tA)(l:QW X (.BoolOp .Or (b::rest) pos) tB):QW X (.BoolOp .Or (a::b::rest) pos) (Ni tA tB):=
 Yd (a39 j l) (by rintro U H Q ⟨Y,S,Z,k,R,D,q,hk⟩;exact⟨Y,S,Z,_,R,D,q,(by
  rintro c m ⟨e,g,d,f,h⟩;cases c with
  |false=>exact⟨e,g,Z,k,f,D.gr d,h,λz i u=>hk z i (u.gr d)⟩
  |true=>exact hk _ _ ⟨e,g,d,f,h⟩)⟩)
def iJ (b:QT X a tA):QW X (.BoolOp .And [a] pos) tA:=VN b
def mR (b:QT X a tA):QW X (.BoolOp .Or [a] pos) tA:=a0h b
def qw (h:QW X e tA):QT X e tA:=h.pt
theorem D5 (d:QT X a tA):QT X (.UnaryOp .Not a pos) (a3m tA):=
 LU (a0n d) (by rintro U H Q ⟨Y,S,Z,k,R,D,q,hk⟩;exact⟨Y,S,Z,_,R,D,q,(by rintro c i ⟨b,f,h,e,g⟩;exact hk _ _ ⟨b,f,h,e,g⟩)⟩)
def Pk (b d:cZ):cZ:=λZ S k=>b Z S λx a=>∃c,x=.bl c/\if c=true then d Z a k else k (.bl false) a
def a3j (b d:cZ):cZ:=λZ S k=>b Z S λx a=>∃c,x=.bl c/\if c=true then k (.bl true) a else d Z a k
def Pe (a:cZ):cZ:=λZ S k=>a Z S λx b=>∃c,x=.bl c/\k (.bl (!c)) b
def oK {op}{t:cZ}(h:QE X a t):QE X (.BoolOp op [a] pos) t:=a0F h
theorem kg (m:QE X a ta)(o:QE X (.BoolOp .And (b::rest) pos) tb):QE X (.BoolOp .And (a::b::rest) pos) (Pk ta tb):=
 cW (a0L m o) (by rintro U H Q ⟨Y,S,Z,k,R,D,q,hk⟩;exact⟨Y,S,Z,_,R,D,q,(by
  rintro v p ⟨g,i,d,f,h,n,c,e,j⟩;subst e;refine⟨c,aM n,?_⟩;cases c with
  |true=>exact⟨g,i,Z,k,h,D.gr f,j,λz l u=>hk z l (u.gr f)⟩
  |false=>exact hk _ _ ⟨g,i,.bl false,f,h,bz,j⟩)⟩)
theorem a33 (m:QE X a ta)(o:QE X (.BoolOp .Or (b::rest) pos) tb):QE X (.BoolOp .Or (a::b::rest) pos) (a3j ta tb):=
 cW (a4c m o) (by rintro U H Q ⟨Y,S,Z,k,R,D,q,hk⟩;exact⟨Y,S,Z,_,R,D,q,(by
  rintro v p ⟨g,i,d,f,h,n,c,e,j⟩;subst e;refine⟨c,aM n,?_⟩;cases c with
  |false=>exact⟨g,i,Z,k,h,D.gr f,j,λz l u=>hk z l (u.gr f)⟩
  |true=>exact hk _ _ ⟨g,i,.bl true,f,h,bz,j⟩)⟩)
theorem a34 (f:QE X a ta):QE X (.UnaryOp .Not a pos) (Pe ta):=
 cW (a0G f) (by rintro U H Q ⟨Y,S,Z,k,R,D,q,hk⟩;exact⟨Y,S,Z,_,R,D,q,(by
  rintro v m ⟨b,i,d,l,h,g,c,e,j⟩;subst e;exact⟨c,aM g,hk _ _ ⟨b,i,.bl (!c),l,h,bz,j⟩⟩)⟩)
def a3s (t:nG)(b d:cZ):cZ:=λZ S k=>t Z S λc a=>if c=true then b Z a k else d Z a k
theorem Jl (j:QT X c tA)(l:QE X a ta)(m:QE X b tb):QE X (.IfExp c a b pos) (a3s tA ta tb):=
 cW (Rf j l m) (by rintro U H Q ⟨Y,S,Z,k,R,D,q,hk⟩;exact⟨Y,S,Z,_,R,D,q,(by
  rintro c n ⟨f,h,d,g,i⟩;cases c with
  |true=>exact⟨f,h,Z,k,g,D.gr d,i,λz e u=>hk z e (u.gr d)⟩
  |false=>exact⟨f,h,Z,k,g,D.gr d,i,λz e u=>hk z e (u.gr d)⟩)⟩)
def vn {t:cZ}(h:QE X e t)(a:autoParam (∀whole,isTrue e X.env whole=(do let v <- whole;standAt e.pos;holding [v] (truthy v))) kf):QT X e (uU t):=LU (a0m h a) (uS λ_ _ _ z=>z)
def bR:rT:=λ_ S k=>k [] S
def br (c:cZ)(a:rT):rT:=λZ S k=>c Z S λx e=>a Z e λd b=>k (x::d) b
variable {es:jcE}{te:cZ}{t:rT}
def ah:QA X [] bR:=Yh Rn (by rintro U H Q ⟨Y,S,Z,k,R,D,q,hk⟩;exact hk _ _ ⟨Y,S,[],.refl,R,.nil,q⟩)
theorem qa (j:QE X e te)(p:QA X es t)(h:autoParam (notStar e=true) zi):QA X (e::es) (br te t):=
 Yh (Ro j p h) (by rintro U H Q ⟨Y,S,Z,k,R,D,q,hk⟩;exact⟨Y,S,Z,_,R,D,q,(by rintro v x ⟨i,r,d,b,m,l,s⟩;exact   ⟨i,r,Z,_,m,D.gr b,s,(by rintro w u ⟨o,c,f,a,R2,g,n⟩;exact hk _ _ ⟨o,c,d::f,b.trans a,R2,.cons (l.gr a) g,n⟩)⟩)⟩)
def ts?:List D->Option (List T)
 |[]=>some []
 |.t x::r=>match ts? r with
  |some l=>some (x::l)
  |none=>none
 |.ob _::_=>none
theorem C5 {K:Frag}{Y:jcD}{G:Hp}:∀{ds:List D}{l:List T}{vs:List V},ts? ds=some l->fT K Y G ds vs->bS K G l vs
 |[],l,_,e,.nil=>by
  have e:some []=some l:=e;cases e;exact .nil
 |.t x::r,l,_,e,.cons h t=>by
  cases q:ts? r with
  |none=>unfold ts? at e;rw[q] at e;cases e
  |some m=>
   unfold ts? at e;rw[q] at e;have e:some (x::m)=some l:=e;cases e;exact .cons h (C5 q t)
 |.ob n::r,l,_,e,.cons h t=>by cases(show none=some l from e)
def Fb (a:List D)(f:List T->Prop):Prop:=lE (ts? a) λl=>cnd (Nat.ble l.length 1000) (f l)
def Fb.of {a:List D}{f:List T->Prop}(h:Fb a f):∃l,ts? a=some l/\l.length<=sizeLine/\f l:=by
 obtain⟨l,e,h⟩:=oQ h;obtain⟨b,h⟩:=Ax h;exact⟨l,e,jay (Nat.le_of_ble_eq_true b) (by rw[ja3];decide),h⟩
def Lo (t:rT):cZ:=λZ S k=>t Z S λb a=>Fb b λl=>k (.tup l) a
def FJ (t:rT):cZ:=λZ S k=>t Z S λb a=>Fb b λl=>k (.lst l) a
def Lp (t:rT):cZ:=λZ S k=>t Z S λb a=>Fb b λl=>k (.ob a.length) (a++[.lst l])
theorem bC {x1}(h:QA X es t):QE X (.Tuple es x1 pos) (Lo t):=
 cW (a0E h) (by rintro U H Q ⟨Y,S,Z,k,R,D,q,hk⟩;exact⟨Y,S,Z,_,R,D,q,(by
  rintro m n ⟨j,o,i,g,f,d,a⟩;obtain⟨l,e,z,a⟩:=a.of;have b:=C5 e d;exact⟨by rw[<- b.len];exact z,SS f (λv c u=>hk v c (u.gr g)) b a⟩)⟩)
theorem bD (h:QA X es t):QE X (.List es pos) (FJ t):=
 cW (Jr h) (by rintro U H Q ⟨Y,S,Z,k,R,D,q,hk⟩;exact⟨Y,S,Z,_,R,D,q,(by
  rintro m n ⟨j,o,i,g,f,d,a⟩;obtain⟨l,e,z,a⟩:=a.of;have b:=C5 e d;exact⟨by rw[<- b.len];exact z,EF f (λv c u=>hk v c (u.gr g)) b a⟩)⟩)
theorem dH (h:QA X es t):QE X (.List es pos) (Lp t):=
 cW (Jr h) (by rintro U H Q ⟨Y,S,Z,k,R,D,q,hk⟩;exact⟨Y,S,Z,_,R,D,q,(by
  rintro m n ⟨j,o,i,g,f,d,a⟩;obtain⟨l,e,z,a⟩:=a.of;have b:=C5 e d;exact⟨by rw[<- b.len];exact z,SW f (λv c u=>hk v c (u.gr g)) b a⟩)⟩)
end
noncomputable def iq (S:aI):D->Option (Addr×jcB×List D)
 |.t (.ins C a l)=>some (C,a,l.map .t)
 |.ob n=>match S[n]? with
  |some (.ins C a l)=>some (C,a,l)
  |_=>none
 |_=>none
def fT.len {K:Frag}{Y:jcD}{G:Hp}{l:List D}{vs:List V}(r:fT K Y G l vs):l.length=vs.length:=jaZ r
theorem fT.look {K:Frag}{Y:jcD}{G:Hp}:∀{ns:jcB}{l:List D}{vs:List V}{f:Str}{x:D},fT K Y G l vs->(ns.zip l).lookup f=some x->∃v,(ns.zip vs).lookup f=some v/\jd K Y G x v
 |[],l,vs,f,x,_,k=>by simp at k
 |n::ns,[],vs,f,x,_,k=>by simp at k
 |n::ns,y::l,_,f,x,.cons (b:=v) (l₂:=vr) e2 e3,k=>by
  rw[jca,List.lookup_cons] at k;rw[jca,List.lookup_cons];cases q:(f==n) with
  |true=>rw[q] at k;cases k;exact⟨v,M,e2⟩
  |false=>rw[q] at k;exact fT.look e3 k
section
variable {K:Frag}{Y:jcD}{S:aI}{H:Hp}
theorem EA (R:R3 K Y S H):∀{d:D}{v:V}{C:Addr}{ns:jcB}{l:List D},jd K Y (res Y H) d v->iq S d=some (C,ns,l)->
  ∃a dx vs,v=.ref a/\H a=some (.ins C dx (ns.zip vs))/\ns.length=vs.length/\AU K C ns/\fT K Y (res Y H) l vs
 |.t (.ins c b s),v,C,ns,l,r,e=>by
  have e:some (c,b,s.map D.t)=some (C,ns,l):=e;cases e;have r:Rp _ _ _ _:=r;unfold Rp at r;obtain⟨a,dx,vs,f,g,x,p,j⟩:=r;exact⟨a,dx,vs,f,kZ _ _ g,x,p,fT.of j⟩
 |.t (.v _),_,_,_,_,_,e=>nomatch e
 |.t (.tup _),_,_,_,_,_,e=>nomatch e
 |.t (.lst _),_,_,_,_,_,e=>nomatch e
 |.t (.Cq _),_,_,_,_,_,e=>nomatch e
 |.ob n,v,C,ns,l,⟨a,h,r⟩,e=>by
  have e:(match S[n]? with | some (.ins C ns l)=>some (C,ns,l) | _=>none)=some (C,ns,l):=e;cases q:S[n]? with
  |none=>rw[q] at e;cases e
  |some o=>
   rw[q] at e;cases o with
   |ins c b m=>
    have e:some (c,b,m)=some (C,ns,l):=e;cases e;obtain⟨dx,vs,i,w,k,u⟩:=R.ok n a _ h q;exact⟨a,dx,vs,r,i,w,k,u⟩
   |rN m=>cases e
   |Au _ _ m=>cases e
   |gh _ _=>cases e
   |lst m=>cases e
end
section
variable {X:Cx}{o e:Expr}{es:jcE}{ta tv:cZ}{t:rT}{f m:Str}{pos BM pos':Pos}
def a2B (f:Str)(d:D)(S:aI)(k:KD):Prop:=lE (iq S d) λp=>lE ((p.2.1.zip p.2.2).lookup f) λx=>k x S
def a2B.of {f:Str}{d:D}{S:aI}{k:KD}(h:a2B f d S k):∃C ns l x,iq S d=some (C,ns,l)/\(ns.zip l).lookup f=some x/\k x S:=by
 obtain⟨⟨C,ns,l⟩,e,h⟩:=oQ h;obtain⟨x,a,h⟩:=oQ h;exact⟨C,ns,l,x,e,a,h⟩
def XU (a:cZ)(f:Str):cZ:=λZ S k=>a Z S λd b=>a2B f d b k
theorem GU {α:Type}:∀{ns:jcB}{l:List α}{f:Str}{x:α},(ns.zip l).lookup f=some x->f∈ns
 |[],l,f,x,h=>by simp at h
 |n::ns,[],f,x,h=>by simp at h
 |n::ns,y::l,f,x,h=>by
  rw[jca,List.lookup_cons] at h;cases q:(f==n) with
  |true=>exact jae.mpr (.inl (eq_of_beq q))
  |false=>rw[q] at h;exact jaj _ (GU h)
theorem a35 (z:QE X e ta)(A:attributeBase e f X.env (eval e X.env)=eval e X.env):QE X (.Attribute e f pos) (XU ta f):=
 cW (a0I z A) (by rintro U H Q ⟨Y,S,Z,k,R,D,q,hk⟩;exact⟨Y,S,Z,_,R,D,q,(by
  rintro v E ⟨u,p,d,r,c,y,b⟩;obtain⟨C,G,l,x,n,h,b⟩:=b.of;obtain⟨a,j,B,t,m,F,g,o⟩:=EA c y n;obtain⟨w,i,s⟩:=fT.look o h;exact⟨a,C,j,_,w,t,m,g.cls,g.no f (GU h),i,hk _ _ ⟨u,p,x,r,c,s,b⟩⟩)⟩)
abbrev lV:=List D->aI->KD->Prop
def uM (K:Frag)(sp:lV):Sp:=λb H Q _=>∃Y S a k,R3 K Y S H/\fT K Y (res Y H) a b/\sp a S k/\∀v H',up K Y H k v H'->Q v H'
def iX (sp:lV)(t:rT):cZ:=λZ S k=>t Z S λb a=>sp b a k
variable {k:Nat}{x:Str}{ps:jcB}{sp:lV}{p:Pos}{C:Addr}
theorem R6 {K:Frag}{Y a:jcD}{e:aI}{H b:Hp}{d:KD}{Q:VK}{E:XK}{c:List D}{vs:List V}(i:Gr Y H a b)(g:R3 K a e b)(f:fT K a (res a b) c vs)(h:sp c e d)(hk:∀v H',up K Y H d v H'->Q v H'):uM K sp vs b Q E:=
 ⟨a,e,c,d,g,f,h,λv H' u=>hk v H' (u.gr i)⟩
theorem aa (F:Dn X.prog X.w X.K X.mg X.base k x ps (uM X.K sp))(j:dP k X.A)(n:Gl X x)(b:QA X (e::es) t)(c:autoParam (notStar e=true) zi)(m:autoParam (es.all notStar=true) zi)(a:autoParam ((x==("__debug__":Str))=false) zn) :
  QE X (.Call (.Name x p) (e::es) [] pos) (iX sp t):=by
 obtain⟨f,y,F,r,hk,l⟩:=F;refine cW (Rj F j n r hk l .nil zE b c m a) ?_;rintro U H Q ⟨Y,S,Z,k,R,D,q,hk⟩;refine⟨Y,S,Z,_,R,D,q,?_⟩;rintro v i ⟨u,z,d,s,h,g,o⟩;show uM X.K sp (v++[]) i Q E0;rw[jaD];exact R6 s h g o hk
def VH (F:Dn X.prog X.w X.K X.mg X.base k x ps (uM X.K sp))(b:dP k X.A)(d:Gl X x)(a:autoParam ((x==("__debug__":Str))=false) zn):QE X (.Call (.Name x p) [] [] pos) (iX sp bR):=by
 obtain⟨f,g,F,e,hk,c⟩:=F;exact cW (Rl F b d e hk c .nil zE a) (by rintro U H Q ⟨Y,S,Z,k,R,D,q,hk⟩;exact⟨Y,S,[],k,R,.nil,q,hk⟩)
def Ms (P:Program)(w:World)(K:Frag)(b:Str->jcG)(a:Heap)(k:Nat)(n:Nat)(cl:Nat->Addr)(m:Str)(c:jcB)(sp:Nat->lV):Prop:=
 ∀j,j<n->Mt P w K b a k (cl j) m c (uM K (sp j))
inductive a5W (n:Nat) (cl:Nat->Addr) (m:Str) (sp:Nat->lV) (t:rT) (Z:Sl) (d:D) (S:aI) (k:KD):Prop
 |mk (j:Nat) (ns:List Str) (l:List D) (h:j<n) (h1:iq S d=some (cl j,ns,l)) (h2:ns.contains m=false) (hk:t Z S λds S2=>sp j (d::ds) S2 k)
def Ij (n:Nat)(cl:Nat->Addr)(m:Str)(sp:Nat->lV)(a:cZ)(t:rT):cZ:=λZ S k=>a Z S λd b=>a5W n cl m sp t Z d b k
variable {n:Nat}{cl:Nat->Addr}{ZG:Nat->lV}
theorem Aa {a:jcB}{vs:List V}(h:a.contains m=false):(a.zip vs).lookup m=none:=bS.Aa (by
 intro z;rw[List.contains_iff_mem.mpr z] at h;cases h)
theorem k6 {pl:Sem Bool}(he:QE X o ta)(jcx:Ms X.prog X.w X.K X.mg X.base k n cl m ps ZG)(W:dP k X.A)(M:QA X (e::es) t)(N:autoParam (notStar e=true) zi)(h2:autoParam (es.all notStar=true) zi)
  (ht:autoParam (eval (.Call (.Attribute o m BM) (e::es) [] pos) X.env=(do
   let ov <- eval o X.env
   standAt BM.atName
   let(f,first) <- holding [ov] (getMethod ov m pl)
   callWith pos f first (backTo pos (starEach (e::es) X.env)) (backToKw pos (keywordEach [] X.env)))) zi) :
  QE X (.Call (.Attribute o m BM) (e::es) [] pos) (Ij n cl m ZG ta t):=by
 rintro E s U H Q I ⟨Y,S,Z,k,R,D,q,hk⟩;refine methodCall_KW (pl:=pl) (cU (he E s U H _ I ⟨Y,S,Z,_,R,D,q,λv b z=>z⟩) ?_) ht;rintro u s1 ⟨x,P,i,rx,Y1,S1,d,B,p,C,j,ns,l,hj,T,c,q1⟩;obtain⟨a,dx,vs,e1,L,e3,O,e5⟩:=EA p C T;subst e1;obtain rfl:u=Value.ref a:=rx;obtain⟨f,fd,F,G,hb⟩:=jcx j hj;refine An i L O.cls G (Aa c) ?_;refine callWith_K (first:=[.ref a]) (h₀:=X.base) I.ok.mod.kin G.kp (cU (M pos E s1 U P _ i ⟨Y1,S1,Z,_,p,D.gr B,q1,λv b z=>z⟩) ?_) (iF N) (iO h2);rintro us s2 ⟨ws,H2,y,r,Y2,J,ds,g,R2,r2,V⟩;refine⟨y.uN,zA (us:=.ref a::us) (vs:=.ref a::ws) F W hb .nil zE y (.cons rfl r) ?_⟩;rw[jaD];exact⟨Y2,J,d::ds,k,R2,.cons (C.gr g) r2,V,λv b u=>hk v b (u.gr (B.trans g))⟩
theorem aF {pl:Sem Bool}(L:QE X o ta)(jcx:Ms X.prog X.w X.K X.mg X.base k n cl m ps ZG)(y:dP k X.A)
  (T:autoParam (eval (.Call (.Attribute o m BM) [] [] pos) X.env=(do
   let ov <- eval o X.env
   standAt BM.atName
   let(f,first) <- holding [ov] (getMethod ov m pl)
   callWith pos f first (backTo pos (starEach [] X.env)) (backToKw pos (keywordEach [] X.env)))) zi) :
  QE X (.Call (.Attribute o m BM) [] [] pos) (Ij n cl m ZG ta bR):=by
 rintro N s U H Q I ⟨Y,S,Z,k,R,D,q,hk⟩;refine methodCall_KW (pl:=pl) (cU (L N s U H _ I ⟨Y,S,Z,_,R,D,q,λv e z=>z⟩) ?_) T;rintro u s1 ⟨x,H1,b,O,J,B,d,E,g,h,j,ns,l,P,t,c,C⟩;obtain⟨a,V,vs,G,p,e3,r,W⟩:=EA g h t;subst G;obtain rfl:u=Value.ref a:=O;obtain⟨f,fd,F,i,M⟩:=jcx j P;refine An b p r.cls i (Aa c) ?_;refine callWith_K0 (first:=[.ref a]) b.uN i.kp (zA (us:=[.ref a]) (vs:=[.ref a]) F y M .nil zE b (.cons rfl .nil) ?_);exact⟨J,B,[d],k,g,.cons h .nil,C,λv e u=>hk v e (u.gr E)⟩
end
def clD (n:Nat):D->Prop
 |.t _=>True
 |.ob m=>m<n
def ES (n:Nat):O->Prop
 |.ins _ _ l=>∀d∈l,clD n d
 |.gh ρ0 _=>ρ0.length<=n
 |_=>True
section
variable {K:Frag}{Y e:jcD}{S:aI}{H:Hp}{G G':Hp}
theorem oM {α β:Type}{F:α->β->Prop}:∀{l:List α}{m:List β},Paired F l m->∀a∈l,∃b,F a b
 |_,_,.nil,a,h=>nomatch h
 |_,_,.cons r t,a,h=>by
  rcases jae.mp h with rfl | h
  .exact⟨_,r⟩
  .exact oM t a h
def jd.cl {d:D}{w:V}(r:jd K Y G d w):clD Y.length d:=by
 cases d with
 |t x=>trivial
 |ob n=>obtain⟨a,h,_⟩:=r;exact(jar.mp h).1
theorem Kw.cl {h:Option HO}:∀{o:O},Kw K Y G h o->ES Y.length o
 |.lst l,_=>trivial
 |.rN l,_=>trivial
 |.Au _ _ l,_=>trivial
 |.gh ρ0 _,⟨_,e,_⟩=>Nat.le_of_not_lt λz=>absurd (jar.mp (e Y.length _ (jaK z))).1 (jbv _)
 |.ins C f l,⟨c,b,_,_,_,r⟩=>λd a=>let⟨_,q⟩:=oM r d a;q.cl
theorem R3.cl (r:R3 K Y S H):∀o∈S,ES S.length o:=λo b=>by
 obtain⟨n,a⟩:=jcq.mp b;have c:n<Y.length:=by rw[r.len];exact(jar.mp a).1
 rw[<- r.len];exact(r.ok n Y[n] o (jaK c) a).cl
def jd.pop (le:Le G G'){d:D}{w:V}(r:jd K (Y++e) G d w)(c:clD Y.length d):jd K Y G' d w:=by
 cases d with
 |t x=>exact Rp.le le r
 |ob n=>
  obtain⟨a,h,q⟩:=r;refine⟨a,?_,q⟩;rw[jaL (show n<Y.length from c)] at h;exact h
theorem wA {α β:Type}{F c:α->β->Prop}:∀{l:List α}{m:List β},(∀a∈l,∀b,F a b->c a b)->Paired F l m->Paired c l m
 |_,_,_,.nil=>.nil
 |_,_,h,.cons r t=>.cons (h _ jak _ r) (wA (λa d b=>h a (jaj _ d) b) t)
theorem Kw.pop (le:Le G G'){h:Option HO}:∀{o:O},Kw K (Y++e) G h o->ES Y.length o->Kw K Y G' h o
 |.lst l,⟨g,d,f⟩,_=>⟨g,d,f.le le⟩
 |.rN l,⟨g,d,f⟩,_=>⟨g,d,dY (λ_ _ z=>⟨z.1,z.2.le le⟩) f⟩
 |.Au q g l,⟨d,f⟩,_=>⟨d,dY (λ_ _ z=>⟨z.1,z.2.le le⟩) f⟩
 |.gh ρ0 p,⟨d,f,i⟩,c=>⟨d,λn a z=>by
   have l:n<Y.length:=jaR (jar.mp z).1 c;have:=f n a z;rwa[jaL l] at this,i.trans le⟩
 |.ins C r l,⟨j,g,d,f,i,m⟩,c=>⟨j,g,d,f,i,wA (λa k b z=>z.pop le (c a k)) m⟩
theorem mQ:Le (res (Y++e) H) (res Y H):=λa o h=>by
 obtain⟨c,b⟩:=res_some h;exact oJ (λz=>c (jbw _ z)) b
def R3.pop {i:aI}(r:R3 K (Y++e) (S++i) H)(f:Y.length=S.length)(c:∀o∈S,ES S.length o):R3 K Y S H:=by
 refine⟨f,(jbA.mp r.nd).1,λn a o d b=>?_⟩;have g:=(jar.mp d).1;have h:=(jar.mp b).1;have q:=r.ok n a o (by rw[jaL g];exact d) (by rw[jaL h];exact b);exact q.pop mQ (by rw[f];exact c o (ja5 b))
end
section
variable {X:Cx}{o e:Expr}{es:jcE}{ta tv:cZ}{t:rT}{f m x:Str}{pos BM pos' p:Pos}{k:Nat}{ps:jcB}{sp:lV}{C:Addr}
structure Mkr (P:Program)(w:World)(K:Frag)(mg:Str->Option Value)(base:Heap)(k:Nat)(C:Addr)(x:Str)(ps:List Str)(sp:lV):Prop where
 mr:Mr P w K mg base k C ps (uM K sp)
 ok:AU K C []
 mg:mg x=some (.ref C)
def Yl (C:Addr)(b:aI)(k:KD)(d:D)(c:aI):Prop:=d=.dD/\∃a l,c=b++[.ins C a (l.map .t)]/\k (.t (.ins C a l)) b
def uV (C:Addr)(sp:lV)(t:rT):cZ:=λZ S k=>t Z S λb a=>sp (.ob a.length::b) (a++[.ins C [] []]) (Yl C a k)
def Pg (C:Addr)(sp:lV)(t:rT):cZ:=λZ S k=>t Z S λc a=>sp (.ob a.length::c) (a++[.ins C [] []]) λd b=>d=.dD/\k (.ob a.length) b
theorem Ae {K:Frag}{Y:jcD}{S:aI}{H:Hp}(R:R3 K Y S H)(ok:AU K C []){x a:Addr}(f:H x=none)(e:H a=none)(g:a≠x) :
  R3 K (Y++[x]) (S++[.ins C [] []]) (upd (upd H a (.own x)) x (.ins C a []))/\Gr Y H (Y++[x]) (upd (upd H a (.own x)) x (.ins C a [])):=by
 obtain⟨c,h,_⟩:=R.new (o:=.own x) e;have b:upd H a (.own x) x=none:=by rw[aU (ja7 g)];exact f
 obtain⟨R2,d⟩:=c.push (o:=.ins C a []) (u:=.ins C [] []) b ⟨a,[],M,M,ok,.nil⟩;exact⟨R2,h.trans d⟩
theorem a0c (F:Mkr X.prog X.w X.K X.mg X.base k C x ps sp)(E:dP (k+1) X.A)(J:Gl X x)(s:QA X (e::es) t)(u:autoParam (notStar e=true) zi)(I:autoParam (es.all notStar=true) zi)(i:autoParam ((x==("__debug__":Str))=false) zn) :
  QE X (.Call (.Name x p) (e::es) [] pos) (uV C sp t):=by
 obtain⟨f,fd,L,hM,hb⟩:=F.mr;refine cW (Gn hM L E J F.mg hb .nil zE s u I i) ?_;rintro U H Q ⟨Y,S,Z,k,R,D,q,hk⟩;refine⟨Y,S,Z,_,R,D,q,λvs B ⟨b,c,ds,T,a,r1,O⟩ y dy n g r=>?_⟩;obtain⟨R2,j⟩:=Ae a F.ok n g r;refine⟨b++[y],c++[.ins C [] []],.ob c.length::ds,_,R2,.cons ⟨y,by rw[<- a.len];simp,M⟩ ?_,O,?_⟩
 .rw[jaD];exact r1.gr j
 .rintro v H3 ⟨ρ3,S3,d,g3,wQ,r3,rfl,ns,l,rfl,q3⟩;refine⟨aM r3,?_⟩;have hρ:ρ3=b++[y]:=by
   obtain⟨ex,m⟩:=g3.ext;have:=wQ.len;rw[m] at this;simp only[jag,jbe] at this;have l0:=a.len;have:ex=[]:=jbd.mp (by lia);rw[m,this,jaD]
  subst hρ;have R4:R3 X.K b c H3:=wQ.pop a.len a.cl;have G:Gr b B b H3:=⟨⟨[],by simp⟩,(j.le.trans g3.le).trans mQ⟩
  refine hk _ _ ⟨b,c,.t (.ins C ns l),T.trans G,R4,?_,q3⟩;obtain⟨o,N,z,h4,P,W⟩:=wQ.ok c.length y (.ins C ns (l.map .t)) (by rw[<- a.len];simp) (by simp);show Rp _ _ _ _;unfold Rp;have V:y∉b:=a.fresh n;exact⟨y,o,N,M,oJ V z,h4,P,(fT.t W).le mQ⟩
theorem VF (F:Mkr X.prog X.w X.K X.mg X.base k C x ps sp)(m:dP (k+1) X.A)(o:Gl X x)(j:QA X (e::es) t)(l:autoParam (notStar e=true) zi)(n:autoParam (es.all notStar=true) zi)(g:autoParam ((x==("__debug__":Str))=false) zn) :
  QE X (.Call (.Name x p) (e::es) [] pos) (Pg C sp t):=by
 obtain⟨f,L,r,G,J⟩:=F.mr;refine cW (Gn G r m o F.mg J .nil zE j l n g) ?_;rintro U H Q ⟨Y,S,Z,k,R,D,q,hk⟩;refine⟨Y,S,Z,_,R,D,q,λN O ⟨B,c,z,u,b,E,s⟩ y P I a i=>?_⟩;obtain⟨R2,h⟩:=Ae b F.ok I a i;refine⟨B++[y],c++[.ins C [] []],.ob c.length::z,_,R2,.cons ⟨y,by rw[<- b.len];simp,M⟩ ?_,s,?_⟩
 .rw[jaD];exact E.gr h
 .rintro v H3 ⟨ρ3,S3,d,g3,wQ,r3,rfl,q3⟩;refine⟨aM r3,hk _ _ ⟨ρ3,S3,.ob c.length,(u.trans h).trans g3,wQ,⟨y,?_,M⟩,q3⟩⟩;exact g3.at (by rw[<- b.len];simp)
def pN (f:Str):jcB->jcB
 |[]=>[f]
 |g::r=>if g=f then g::r else g::pN f r
def pD {α:Type}(f:Str)(y:α):jcB->List α->List α
 |[],_=>[y]
 |_::_,[]=>[]
 |g::r,x::l=>if g=f then y::l else x::pD f y r l
theorem Gi (f:Str)(y:V):∀{ns:jcB}{vs:List V},ns.length=vs.length->nJ f y (ns.zip vs)=(pN f ns).zip (pD f y ns vs)/\(pN f ns).length=(pD f y ns vs).length
 |[],[],_=>⟨M,M⟩
 |[],_::_,h=>by simp at h
 |_::_,[],h=>by simp at h
 |g::ns,v::vs,h=>by
  have a:ns.length=vs.length:=by simpa using h
  obtain⟨b,c⟩:=Gi f y a;rw[jca];unfold nJ pN pD;by_cases e:g=f
  .rw[jab e,jab e,jab e];exact⟨M,by simpa using a⟩
  .rw[jaa e,jaa e,jaa e,b];exact⟨M,by simpa using c⟩
theorem Rr {K:Frag}{Y:jcD}{G:Hp}{d:D}{v:V}(r:jd K Y G d v):∀{ns:jcB}{l:List D}{vs:List V},fT K Y G l vs->fT K Y G (pD f d ns l) (pD f v ns vs)
 |[],_,_,_=>by unfold pD;exact .cons r .nil
 |_::_,[],_,.nil=>by unfold pD;exact .nil
 |g::ns,_::_,_,.cons h t=>by
  unfold pD;by_cases e:g=f
  .rw[jab e,jab e];exact .cons r t
  .rw[jaa e,jaa e];exact .cons h (Rr r t)
theorem Rq {g:Str}:∀{ns:jcB},g∈pN f ns->g=f\/g∈ns
 |[],h=>.inl (jal.mp h)
 |n::ns,h=>by
  unfold pN at h;by_cases e:n=f
  .rw[jab e] at h;exact .inr h
  .rw[jaa e] at h;rcases jae.mp h with h | h
   .exact .inr (jae.mpr (.inl h))
   .rcases Rq h with h | h
    .exact .inl h
    .exact .inr (jaj _ h)
inductive a5P (K:Frag) (f:Str) (x y:D) (Z:Sl) (S:aI) (nx:KS):Prop
 |mk (n:Nat) (C:Addr) (ns:List Str) (l:List D) (h:x=.ob n) (h1:S[n]?=some (.ins C ns l)) (h2:lB K C f) (h3:ns.length<1000) (hk:nx Z (S.set n (.ins C (pN f ns) (pD f y ns l))))
def a3N (K:Frag)(b d:cZ)(f:Str):nL:=λE Z S=>d Z S λy c=>b Z c λx a=>a5P K f x y Z a E.nx
theorem aW {b:Expr}(i:QE X o ta)(W:QE X b tv)(hs:swapsWith b (some (.Attribute o f pos')) pos.line X.env=pure false):QS X (.Assign [.Attribute o f pos'] b pos) (a3N X.K ta tv f):=
 lH (a0s i W hs) (by rintro D U H ⟨Y,S,Z,E,R,m,q,V⟩;exact⟨Y,S,Z,_,R,m,q,(by rintro v H1 ⟨T,N,d,p,A,r1,O⟩;exact⟨T,N,Z,_,A,m.gr p,O,(by
  rintro w H2 ⟨Y2,S2,d2,j,R2,Q,n,C,h,l,y,J,r,h4,F⟩;subst y;obtain⟨a,i,e⟩:=Q;obtain⟨k,s,P,x,c,B⟩:=R2.ok n a _ i J;refine⟨a,C,k,h.zip s,e,P,c.cls,r,by rw[List.length_zip];lia,?_⟩;obtain⟨G,I⟩:=Gi f v x;rw[G];obtain⟨R4,t⟩:=R2.put (o:=.ins C k ((pN f h).zip (pD f v h s))) (u:=.ins C (pN f h) (pD f d h l)) i
   ⟨k,_,M,I,⟨c.cls,λg L=>by rcases Rq L with z | z;rw[z];exact r;exact c.no g z,c.ca,c.cg,c.ct,c.cm⟩,Rr (r1.gr j) B⟩
  exact V.nx _ _ ⟨Y2,_,Z,(p.trans j).trans t,R4,(m.gr (p.trans j)).gr t,F⟩)⟩)⟩)
end
abbrev M6:=List D->aI->KD->Prop
def liC (K:Frag)(r:M6):List V->Hp->VK->Prop:=λb H Q=>∃Y S a k,R3 K Y S H/\fT K Y (res Y H) a b/\r a S k/\∀v H',up K Y H k v H'->Q v H'
def Call3 (X:Cx)(f:Value)(r:M6):Prop:=fL X f (liC X.K r)
def iL {X:Cx}{f:Value}{r a:List V->Hp->VK->Prop}(h:fL X f r)(m:∀vs H Q,a vs H Q->r vs H Q):fL X f a:=λc s U H b e Q I d q=>h c s U H b e Q I d (m _ _ _ q)
def fT.one {K:Frag}{Y:jcD}{G:Hp}{d:D}{vs:List V}(r:fT K Y G [d] vs):∃v,vs=[v]/\jd K Y G d v:=by
 cases r with
 |cons h t=>cases t;exact⟨_,M,h⟩
def fT.two {K:Frag}{Y:jcD}{G:Hp}{d e:D}{vs:List V}(r:fT K Y G [d,e] vs):∃v w,vs=[v,w]/\jd K Y G d v/\jd K Y G e w:=by
 cases r with
 |cons h t=>
  cases t with
  |cons a b=>cases b;exact⟨_,_,M,h,a⟩
def SqR (S:aI)(d:D)(f:List T->Prop):Prop:=lE (sq S d) f
def WQ:M6
 |[d],S,k=>d.sD.elim (SqR S d λl=>k (.int l.length) S) λz=>z.length<=sizeLine/\k (.int z.length) S
 |_,_,_=>False
def Ih:M6
 |[d],S,k=>SqR S d λl=>k (.tup l) S
 |_,_,_=>False
def Yn:M6
 |[d],S,k=>SqR S d λl=>k (.lst l) S
 |_,_,_=>False
def a43:M6
 |[.t (.v (.int i))],S,k=>k (.int i) S
 |[.t (.v (.bl b))],S,k=>k (.int (if b then 1 else 0)) S
 |_,_,_=>False
def a3I:M6
 |[.t (.v (.int i))],S,k=>i.natAbs.log2<1920/\k (.str (toString i)) S
 |_,_,_=>False
def a2u (f:List Bool->Bool):M6
 |[d],S,k=>∃bs:List Bool,lq S d=some (bs.map T.bl)/\k (.bl (f bs)) S
 |_,_,_=>False
section
variable {X:Cx}{x:Str}{p pos BM cpos:Pos}{e o:Expr}{es:jcE}{t:rT}{to:cZ}{id ty:String}{r:M6}
theorem bS.bls {K:Frag}{G:Hp}:∀{ns:List Bool}{vs:List V},bS K G (ns.map T.bl) vs->vs=ns.map V.bl
 |[],vs,r=>by unfold bS at r;exact r
 |n::ns,vs,r=>by
  rw[jaf] at r;unfold bS at r;obtain⟨v,d,b,a,c⟩:=r;unfold Rp at a;rw[b,a,bS.bls c];rfl
theorem bS.strs {K:Frag}{G:Hp}:∀{ns:jcB}{vs:List V},bS K G (ns.map T.str) vs->vs=ns.map V.str
 |[],vs,r=>by unfold bS at r;exact r
 |n::ns,vs,r=>by
  rw[jaf] at r;unfold bS at r;obtain⟨v,d,b,a,c⟩:=r;unfold Rp at a;rw[b,a,bS.strs c];rfl
theorem bS.ofStrs {K:Frag}{G:Hp}:∀(ns:jcB),bS K G (ns.map T.str) (ns.map V.str)
 |[]=>.nil
 |n::ns=>.cons (by unfold Rp;rfl) (bS.ofStrs ns)
def Im (r:M6)(t:rT):cZ:=λZ S k=>t Z S λb a=>r b a k
def MR:∀U H Q,li X.K (Im r t) U H Q->tCB (liC X.K r) (liA X.K t) U H Q:=(by rintro U H Q ⟨Y,S,Z,k,R,D,q,hk⟩;exact  ⟨Y,S,Z,_,R,D,q,(by rintro v i ⟨b,f,d,h,e,c,g⟩;exact⟨b,f,d,k,e,c,g,λw a u=>hk w a (u.gr h)⟩)⟩)
theorem aH (b:Call3 X (.builtin id) r)(d:Gl X x)(i:X.mg x=none)(h:bootBuiltins x=some (.builtin id))(f:QA X (e::es) t)(g:autoParam (notStar e=true) zi)(c:autoParam (es.all notStar=true) zi)(j:autoParam (x≠"__name__") zn)(a:autoParam ((x==("__debug__":Str))=false) zn) :
  QE X (.Call (.Name x p) (e::es) [] pos) (Im r t):=cW (NG b d i h f g c j a) MR
theorem aD (b:Call3 X (.type ty) r)(d:Gl X x)(i:X.mg x=none)(h:bootBuiltins x=some (.type ty))(f:QA X (e::es) t)(g:autoParam (notStar e=true) zi)(c:autoParam (es.all notStar=true) zi)(j:autoParam (x≠"__name__") zn)(a:autoParam ((x==("__debug__":Str))=false) zn) :
  QE X (.Call (.Name x p) (e::es) [] pos) (Im r t):=cW (Js b d i h f g c j a) MR
def ck:Call3 X (.builtin "len") WQ:=by
 refine iL (EX.or EY) ?_;rintro i H Q ⟨Y,S,h,k,R,d,q,hk⟩;unfold WQ at q;split at q
 .obtain⟨v,rfl,rv⟩:=d.one;rcases S8 q with q | ⟨z,f,q⟩
  .obtain⟨l,h1,h2⟩:=oQ q;obtain⟨a,e,b,c,g⟩:=yH R rv h1;refine .inr ⟨a,e,by rw[b],c,?_⟩;rw[<- g.len];exact fin R hk bz h2
  .cases D.LI f;rw[aM rv];exact .inl ⟨_,M,q.1,fin R hk bz q.2⟩
 .exact q.elim
theorem O5 {K:Frag}{Y:jcD}{S:aI}{H:Hp}(R:R3 K Y S H):∀{d:D}{v:V}{l:List T},jd K Y (res Y H) d v->sq S d=some l->
  (∃a vs,v=.ref a/\nM K H a vs/\bS K (res Y H) l vs)\/(d=.tup l/\∃a vs,v=.ref a/\nO K H a vs)
 |.t (.tup m),v,l,r,e=>by
  have e:some m=some l:=e;cases e;obtain⟨a,vs,b,c,f⟩:=fN r;exact .inr ⟨M,a,vs,b,.of c⟩
 |.t (.Cq m),v,l,r,e=>by
  have e:some m=some l:=e;cases e;have r:Rp _ _ _ _:=r;unfold Rp at r;obtain⟨a,vs,b,c,f⟩:=r;exact .inl ⟨a,vs,b,Iq kZ c,f⟩
 |.t (.lst m),v,l,r,e=>by
  obtain⟨a,vs,b,c,f⟩:=dU R r (show lq S (.t (.lst m))=some l from e);exact .inl ⟨a,vs,b,.of c,f⟩
 |.t (.v _),_,_,_,e=>nomatch e
 |.t (.ins _ _ _),_,_,_,e=>nomatch e
 |.ob n,v,l,r,e=>by
  obtain⟨a,vs,b,c,f⟩:=dU R r (show lq S (.ob n)=some l from e);exact .inl ⟨a,vs,b,.of c,f⟩
def bf:Call3 X (.type "tuple") Ih:=by
 refine iL BD ?_;rintro n H Q ⟨Y,S,m,k,R,h,q,hk⟩;unfold Ih at q;split at q
 .obtain⟨v,rfl,e⟩:=h.one;obtain⟨l,g,f⟩:=oQ q;rcases O5 R e g with⟨a,d,b,c,j⟩ | ⟨i,a,d,b,c⟩
  .exact⟨a,d,by rw[b],.inl ⟨c,SS R hk j f⟩⟩
  .subst i;refine⟨a,d,by rw[b],.inr ⟨c,?_⟩⟩;rw[<- b];exact fin R hk e f
 .exact q.elim
def rR:Call3 X (.type "list") Yn:=by
 refine iL EW ?_;rintro j H Q ⟨Y,S,i,k,R,e,q,hk⟩;unfold Yn at q;split at q
 .obtain⟨v,rfl,rv⟩:=e.one;obtain⟨l,d,g⟩:=oQ q;obtain⟨a,f,b,c,h⟩:=yH R rv d;exact⟨a,f,by rw[b],c,EF R hk h g⟩
 .exact q.elim
def AH:Call3 X (.type "int") a43:=by
 refine iL OB ?_;rintro b H Q ⟨Y,S,c,k,R,a,q,hk⟩;unfold a43 at q;split at q
 .obtain⟨v,rfl,rv⟩:=a.one;rw[aM rv];exact .inl ⟨_,M,fin R hk bz q⟩
 .obtain⟨v,rfl,rv⟩:=a.one;rw[aM rv];exact .inr ⟨_,M,fin R hk bz q⟩
 .exact q.elim
def TV:Call3 X (.type "str") a3I:=by
 refine iL EU ?_;rintro b H Q ⟨Y,S,c,k,R,a,q,hk⟩;unfold a3I at q;split at q
 .obtain⟨v,rfl,rv⟩:=a.one;rw[aM rv];exact⟨_,M,q.1,fin R hk bz q.2⟩
 .exact q.elim
def a5H {f:List Bool->Bool}(h:fL X (.builtin id) (λxs H Q=>∃(p:Addr)(bs:List Bool),xs=[.ref p]/\nM X.K H p (bs.map V.bl)/\Q (.bl (f bs)) H)):Call3 X (.builtin id) (a2u f):=by
 refine iL h ?_;rintro n H Q ⟨Y,S,l,k,R,e,q,hk⟩;unfold a2u at q;split at q
 .obtain⟨v,rfl,rv⟩:=e.one;obtain⟨i,d,g⟩:=q;obtain⟨a,m,c,b,j⟩:=dU R rv d;rw[j.bls] at b;exact⟨a,i,by rw[c],.of b,fin R hk bz g⟩
 .exact q.elim
def CM (a:X.calm=true):Call3 X (.builtin "all") (a2u λbs=>bs.all _root_.id):=a5H (TQ a)
noncomputable def tyT:T->jcG
 |.v .dD=>some (.type "NoneType")
 |.v (.bl _)=>some (.type "bool")
 |.v (.int _)=>some (.type "int")
 |.v (.str _)=>some (.type "str")
 |.tup _=>some (.type "tuple")
 |.lst _=>some (.type "list")
 |.ins C _ _=>some (.ref C)
 |_=>none
def tyD (S:aI):D->jcG
 |.t x=>tyT x
 |.ob n=>match S[n]? with
  |some (.lst _)=>some (.type "list")
  |some (.ins C _ _)=>some (.ref C)
  |some (.rN _)=>some (.type "dict")
  |some (.Au _ _ _)=>none
  |some (.gh _ _)=>none
  |none=>none
def UQ {K:Frag}{Y:jcD}{S:aI}{H:Hp}(R:R3 K Y S H){d:D}{v:V}{u:Value}(r:jd K Y (res Y H) d v)(e:tyD S d=some u):vP K H v u:=by
 cases d with
 |t x=>
  have e:tyT x=some u:=e;cases x with
  |v y=>
   rw[aM r];cases y with
   |dD=>cases e;exact .dD
   |bl b=>cases e;exact .bl b
   |int i=>cases e;exact .int i
   |str z=>cases e;exact .str z
   |_=>cases e
  |tup l=>obtain⟨a,k,c,f,p⟩:=fN r;cases e;rw[c];exact .tup f
  |lst l=>obtain⟨a,k,c,f,p⟩:=dU R r rfl;cases e;rw[c];exact .lst f
  |Cq l=>cases e
  |ins C A l=>obtain⟨a,s,k,c,f,p,j,B⟩:=EA R r rfl;cases e;rw[c];exact .ins f j.cls j.ca j.cg j.ct j.cm
 |ob n=>
  have e:(match S[n]? with | some (.lst _)=>some (Value.type "list") | some (.ins C _ _)=>some (.ref C) | some (.rN _)=>some (.type "dict") | some (.Au _ _ _)=>none | some (.gh _ _)=>none | none=>none)=some u:=e;obtain⟨a,w,rfl⟩:=r;cases q:S[n]? with
  |none=>rw[q] at e;cases e
  |some o=>
   rw[q] at e;have z:=R.ok n a o w q;cases o with
   |lst l=>obtain⟨k,g,m⟩:=z;cases e;exact .lst g
   |rN l=>obtain⟨k,g,m⟩:=z;cases e;exact .dK g
   |Au _ _ l=>cases e
   |gh _ _=>cases e
   |ins C A l=>obtain⟨s,k,g,m,h,E⟩:=z;cases e;exact .ins g h.cls h.ca h.cg h.ct h.cm
def a4Z (K:Frag)(c:V)(u:Value):M6
 |[d,.t (.v a)],S,k=>a=c/\∃t b,tyD S d=some t/\kitOne K t u=some b/\k (.bl b) S
 |_,_,_=>False
def MU {c:V}{u:Value}(a:match c with | .ref _=>True | .ty _=>True | _=>False)(d:RelV c u):Call3 X (.builtin "isinstance") (a4Z X.K c u):=by
 refine iL (TN a) ?_;rintro j H Q ⟨Y,S,i,k,R,f,q,hk⟩;unfold a4Z at q;split at q
 .obtain⟨v,w,rfl,rv,rw'⟩:=f.two;obtain⟨rfl,t,b,e,h,g⟩:=q;rw[aM rw'];exact⟨v,t,u,b,M,UQ R rv e,d,h,fin R hk bz g⟩
 .exact q.elim
end
abbrev M5:=D->List D->aI->KD->Prop
def N8 (K:Frag)(r:M5):V->List V->Hp->VK->Prop:=λv b H Q=>∃Y S d a k,R3 K Y S H/\jd K Y (res Y H) d v/\fT K Y (res Y H) a b/\r d a S k/\∀v H',up K Y H k v H'->Q v H'
def xq (S:aI):D->Option (List T)
 |.t (.tup l)=>some l
 |d=>lq S d
def a2t:M5
 |.ob n,[.t x],S,k=>∃l,S[n]?=some (.lst l)/\l.length<sizeLine/\k .dD (S.set n (.lst (l++[x])))
 |_,_,_,_=>False
def ext3:M5
 |.ob n,[d],S,k=>∃l m,S[n]?=some (.lst l)/\xq S d=some m/\l.length+m.length<=sizeLine/\k .dD (S.set n (.lst (l++m)))
 |_,_,_,_=>False
def U5:M5
 |.t (.v (.str a)),[.t (.v (.str b))],S,k=>k (.bl (Txt.startswith a b)) S
 |_,_,_,_=>False
def So:M5
 |.t (.v (.str a)),[d],S,k=>∃b:jcB,lq S d=some (b.map T.str)/\(b.map (·.length)).sum+b.length*a.length<=16777216/\k (.str (Txt.join a b)) S
 |_,_,_,_=>False
section
variable {X:Cx}{x:Str}{p pos BM cpos:Pos}{e o i value:Expr}{es:jcE}{t:rT}{to ti tv:cZ}{id ty:String}{r:M5}
def qG {r a:V->List V->Hp->VK->Prop}(h:uP X id r)(m:∀v vs H Q,a v vs H Q->r v vs H Q):uP X id a:=λc s U H x b u e Q I d f q=>h c s U H x b u e Q I d f (m _ _ _ _ q)
def tyM (S:aI)(a:String):D->Prop
 |.t (.v (.str _))=>a="str"
 |d=>a="list"/\∃l,lq S d=some l
def sW (f:String)(r:M5)(e:cZ)(t:rT):cZ:=λZ S k=>e Z S λd a=>tyM a f d/\t Z a λc b=>r d c b k
def Lh {K:Frag}{Y:jcD}{S:aI}{H:Hp}(R:R3 K Y S H){d:D}{v:V}(r:jd K Y (res Y H) d v)(e:tyM S ty d):tyV K ty v H:=by
 unfold tyM at e;split at e
 .rw[aM r];exact e
 .obtain⟨e1,l,e2⟩:=e;obtain⟨a,b,f,c,g⟩:=dU R r e2;rw[f];exact .inl ⟨e1,b,.of c⟩
def WK:∀U H Q,li X.K (sW ty r to t) U H Q->tBM X.K ty (N8 X.K r) (li X.K to) (liA X.K t) U H Q:=(by rintro U H Q ⟨Y,S,Z,k,R,D,q,hk⟩;exact  ⟨Y,S,Z,_,R,D,q,(by rintro v y ⟨o,i,d,c,b,e,g,j⟩;exact⟨Lh b e g,o,i,Z,_,b,D.gr c,j,(by rintro x s ⟨p,f,m,a,R2,n,h⟩;exact   ⟨p,f,d,m,k,R2,e.gr a,n,h,λw l u=>hk w l (u.gr (c.trans a))⟩)⟩)⟩)
def RU:∀U H Q,li X.K (sW ty r to bR) U H Q->a3z X.K ty (N8 X.K r) (li X.K to) U H Q:=(by rintro U H Q ⟨Y,S,Z,k,R,D,q,hk⟩;exact  ⟨Y,S,Z,_,R,D,q,(by rintro v j ⟨e,g,d,i,b,a,f,h⟩;exact⟨Lh b a f,e,g,d,[],k,b,a,.nil,h,λw c u=>hk w c (u.gr i)⟩)⟩)
theorem D9 {name:Str}(d:PlainAttrs ty)(a:Slot ty name id)(b:typeOf (.builtin id)=pure (.type "method_descriptor"))(k:uP X id (N8 X.K r))(f:QE X o to)(h:QA X (e::es) t)
  (i:autoParam (notStar e=true) zi) (g:autoParam (es.all notStar=true) zi) (j:autoParam (es.length<20) zn) (l:autoParam (attributeBase o name X.env (eval o X.env)=eval o X.env) zi) (c:autoParam ((BM.endLine==cpos.line)=true) zi) :
  QE X (.Call (.Attribute o name BM) (e::es) [] cpos) (sW ty r to t):=cW (a0J d a b k f h i g j l c) WK
def a4I:uP X "list.append" (N8 X.K a2t):=by
 refine qG N5 ?_;rintro v m H Q ⟨Y,S,d,j,k,R,h,f,q,hk⟩;unfold a2t at q;split at q
 .obtain⟨l,h1,h2,h3⟩:=q;obtain⟨a,e,rfl⟩:=h;obtain⟨w,rfl,b⟩:=f.one;obtain⟨i,g,c⟩:=R.ok _ a _ e h1;exact⟨a,i,w,M,M,g,by rw[<- c.len];exact h2,SV R hk e (o:=.lst (l++[_])) ⟨_,M,c.app (.cons b .nil)⟩ bz h3⟩
 .exact q.elim
def a4H:uP X "list.extend" (N8 X.K ext3):=by
 refine qG (uP.or N4 JH) λv A H Q ⟨Y,S,d,B,k,R,z,u,q,hk⟩=>?_;unfold ext3 at q;split at q
 .obtain⟨l,m,h1,c,h3,h4⟩:=q;obtain⟨a,p,rfl⟩:=z;obtain⟨w,rfl,f⟩:=u.one;obtain⟨s,r,h⟩:=R.ok _ a _ p h1;rename_i x _;cases x with
  |ob g=>
   obtain⟨b,j,n,i,e⟩:=dU R f (show lq S (.ob g)=some m from c);exact .inl ⟨a,b,s,j,M,by rw[n],r,i,by rw[<- h.len,<- e.len];exact h3,SV R hk p (o:=.lst (l++m)) ⟨_,M,h.app e⟩ bz h4⟩
  |t y=>
   cases y with
   |lst g=>
    obtain⟨b,j,n,i,e⟩:=dU R f (show lq S (.t (.lst g))=some m from c);exact .inl ⟨a,b,s,j,M,by rw[n],r,i,by rw[<- h.len,<- e.len];exact h3,SV R hk p (o:=.lst (l++m)) ⟨_,M,h.app e⟩ bz h4⟩
   |tup g=>
    have c:some g=some m:=c;injection c with c
    subst c;obtain⟨b,j,n,i,e⟩:=fN f;exact .inr ⟨a,b,s,j,M,by rw[n],r,.of i,by rw[<- h.len,<- e.len];exact h3,SV R hk p (o:=.lst (l++g)) ⟨_,M,h.app e⟩ bz h4⟩
   |Cq g=>cases c
   |v _=>cases c
   |ins _ _ _=>cases c
 .exact q.elim
def a4C:uP X "str.startswith" (N8 X.K U5):=by
 refine qG N1 ?_;rintro v c H Q ⟨Y,S,d,e,k,R,b,a,q,hk⟩;unfold U5 at q;split at q
 .obtain⟨w,rfl,rw'⟩:=a.one;rw[aM b,aM rw'];exact⟨_,_,M,M,fin R hk bz q⟩
 .exact q.elim
def a1g:uP X "str.join" (N8 X.K So):=by
 refine qG WL ?_;rintro v l H Q ⟨Y,S,d,i,k,R,g,e,q,hk⟩;unfold So at q;split at q
 .obtain⟨ss,h1,h2,h3⟩:=q;obtain⟨w,rfl,b⟩:=e.one;obtain⟨a,j,f,c,h⟩:=dU R b h1;rw[aM g];rw[h.strs] at c;exact⟨_,a,ss,M,by rw[f],c,h2,fin R hk bz h3⟩
 .exact q.elim
theorem dJ (a:QE X o to)(c:QA X [e] t)(d:autoParam (notStar e=true) zi)(f:autoParam (attributeBase o "append" X.env (eval o X.env)=eval o X.env) zi)(b:autoParam ((BM.endLine==cpos.line)=true) zi) :
  QE X (.Call (.Attribute o "append" BM) [e] [] cpos) (sW "list" a2t to t):=D9 jci PySem.F.slot_list_append PySem.F.type_list_append a4I a c d rfl (by decide) f b
theorem LP (a:QE X o to)(c:QA X [e] t)(d:autoParam (notStar e=true) zi)(f:autoParam (attributeBase o "extend" X.env (eval o X.env)=eval o X.env) zi)(b:autoParam ((BM.endLine==cpos.line)=true) zi) :
  QE X (.Call (.Attribute o "extend" BM) [e] [] cpos) (sW "list" ext3 to t):=D9 jci PySem.F.slot_list_extend PySem.F.type_list_extend a4H a c d rfl (by decide) f b
theorem Yb (a:QE X o to)(c:QA X [e] t)(d:autoParam (notStar e=true) zi)(f:autoParam (attributeBase o "startswith" X.env (eval o X.env)=eval o X.env) zi)(b:autoParam ((BM.endLine==cpos.line)=true) zi) :
  QE X (.Call (.Attribute o "startswith" BM) [e] [] cpos) (sW "str" U5 to t):=D9 jbS PySem.F.slot_str_startswith PySem.F.type_str_startswith a4C a c d rfl (by decide) f b
theorem dO (a:QE X o to)(c:QA X [e] t)(d:autoParam (notStar e=true) zi)(f:autoParam (attributeBase o "join" X.env (eval o X.env)=eval o X.env) zi)(b:autoParam ((BM.endLine==cpos.line)=true) zi) :
  QE X (.Call (.Attribute o "join" BM) [e] [] cpos) (sW "str" So to t):=D9 jbS PySem.F.slot_str_join PySem.F.type_str_join a1g a c d rfl (by decide) f b
end
def IxL (a:D)(i:Int)(S:aI)(k:KD):Prop:=lE (sq S a) λl=>lE (L2.jY l i) λx=>k (.t x) S
def IxL.of {a:D}{i:Int}{S:aI}{k:KD}(h:IxL a i S k):∃l x,sq S a=some l/\L2.jY l i=some x/\k (.t x) S:=by
 obtain⟨l,e,h⟩:=oQ h;obtain⟨x,b,h⟩:=oQ h;exact⟨l,x,e,b,h⟩
def W6:vR:=λa b S k=>b.iD.elim False λi=>a.sD.elim (IxL a i S k) λz=>z.length<=sizeLine/\∃c,jY z.cps.toList i=some c/\k (.str ⟨#[c]⟩) S
section
variable {X:Cx}{a b e:Expr}{ta tb te:cZ}{pos p2:Pos}
theorem bS.jY {K:Frag}{G:Hp}{l:List T}{vs:List V}{i:Int}{x:T}(r:bS K G l vs)(h:L2.jY l i=some x):∃v,L2.jY vs i=some v/\Rp K G x v:=by
 unfold L2.jY at h ⊢;rw[<- r.len];cases q:Og l.length i with
 |none=>rw[q] at h;cases h
 |some j=>rw[q] at h;exact r.get h
def a4Y:UJ X (liR X.K W6):=by
 intro f e O s U H x y v u Q I N P ⟨Y,S,a,b,k,R,B,n,q,hk⟩ E;refine a1I f e O s U H x y v u Q I N P ?_ E;rcases S8 q with q | ⟨i,M,G⟩
 .exact q.elim
 cases D.CD M;rcases S8 G with L | ⟨z,F,j,c,m,h⟩
 .obtain⟨l,x',j,m,h⟩:=L.of;obtain⟨p,A,r,g,J⟩:=yH R B j;obtain⟨w,C,o⟩:=J.jY m;rcases g with g | g
  .exact .inl ⟨p,A,_,w,r,aM n,g,C,fin R hk (d:=.t x') o h⟩
  .exact .inr (.inl ⟨p,A,_,w,r,aM n,g,C,fin R hk (d:=.t x') o h⟩)
 cases D.LI F;exact .inr (.inr ⟨_,_,c,aM B,aM n,j,m,fin R hk bz h⟩)
def iR (c:QE X a ta)(d:QE X b tb)(hs:autoParam (M7 b) vb):QE X (.Subscript a b pos) (nU W6 ta tb):=cW (a4e a4Y c d hs) yi
def k8 (l:List T)(a b:Option Int):List T:=(l.drop (HT.f6 l.length 0 a)).take (HT.f6 l.length l.length b - HT.f6 l.length 0 a)
def bS.cut {K:Frag}{G:Hp}{l:List T}{vs:List V}(r:bS K G l vs)(b a:Option Int):bS K G (k8 l b a) (Ho vs b a):=by
 unfold k8 Ho;rw[<- r.len];exact(r.dp _).tk _
abbrev TO3:=Sl->aI->(Option Int->aI->Prop)->Prop
def liO (K:Frag)(t:TO3):TO:=λU H Q=>∃Y S Z k,R3 K Y S H/\uO K Y (res Y H) Z U/\t Z S k/\∀o H',(∃a b,Gr Y H a H'/\R3 K a b H'/\k o b)->Q o H'
def QO (X:Cx)(e:Option Expr)(t:TO3):Prop:=PO X e (liO X.K t)
def Pf:TO3:=λ_ S k=>k none S
def PtR (d:D)(f:Int->Prop):Prop:=lE d.iD f
def tPt (t:cZ):TO3:=λZ S k=>t Z S λd a=>PtR d λi=>k (some i) a
def Ye {o:Option Expr}{t t':TO}(h:PO X o t)(m:∀U H Q,t' U H Q->t U H Q):PO X o t':=λa s U H Q I q=>h a s U H Q I (m _ _ _ q)
def bx:QO X none Pf:=Ye VZ (by rintro U H Q ⟨Y,S,Z,k,R,D,q,hk⟩;exact hk _ _ ⟨Y,S,.refl,R,q⟩)
theorem aQ (h:QE X e te):QO X (some e) (tPt te):=Ye (VY h) (by rintro U H Q ⟨Y,S,Z,k,R,D,q,hk⟩;exact⟨Y,S,Z,_,R,D,q,(by
 rintro v l ⟨b,g,d,j,f,c,a⟩;obtain⟨i,e,a⟩:=oQ a;cases L3.D.CD e;exact⟨i,aM c,hk _ _ ⟨b,g,j,f,a⟩⟩)⟩)
def sl3 (c:Bool):D->Option Int->Option Int->aI->KD->Prop
 |.t (.v (.str z)),b,a,S,k=>z.length<=sizeLine/\k (.str (Txt.slice z b a)) S
 |.t (.tup l),b,a,S,k=>¬(HT.f6 l.length 0 b=0/\HT.f6 l.length l.length a=l.length)/\k (.tup (k8 l b a)) S
 |d,b,a,S,k=>∃l,lq S d=some l/\(if c then k (.ob S.length) (S++[.lst (k8 l b a)]) else k (.lst (k8 l b a)) S)
def a7A (K:Frag)(r:D->Option Int->Option Int->aI->KD->Prop):V->Option Int->Option Int->Hp->VK->Prop:=λv a b H Q=>∃Y S d k,R3 K Y S H/\jd K Y (res Y H) d v/\r d a b S k/\∀v H',up K Y H k v H'->Q v H'
def a3J (j:Bool):Xz X (a7A X.K (sl3 j)):=by
 intro u s U H x v p w c e n Q I t m o r ⟨Y,S,d,k,R,h,q,hk⟩;refine(ZJ.or (ZI.or Va)) u s U H x v p w c e n Q I t m o r ?_;unfold sl3 at q;split at q
 .exact .inl ⟨_,aM h,q.1,fin R hk bz q.2⟩
 .obtain⟨a,i,f,g,b⟩:=fN h;refine .inr (.inl ⟨a,i,f,.of g,by rw[<- b.len];exact q.1,SS R hk (b.cut c e) q.2⟩)
 .obtain⟨l,h1,h2⟩:=q;obtain⟨a,i,f,g,b⟩:=dU R h h1;refine .inr (.inr ⟨a,i,f,.of g,?_⟩);cases j with
  |true=>exact SW R hk (b.cut c e) h2
  |false=>exact EF R hk (b.cut c e) h2
def Pd (e:Bool)(te:cZ)(b th:TO3):cZ:=λZ S k=>te Z S λx c=>b Z c λl a=>th Z a λu d=>sl3 e x l u d k
theorem dX (f:Bool){c i:Option Expr}{h th:TO3}(A:QE X e te)(x:QO X c h)(E:QO X i th):QE X (.Subscript e (.Slice c i none p2) pos) (Pd f te h th):=
 cW (Rb (a3J f) A x E) (by rintro U H Q ⟨Y,S,Z,k,R,D,q,hk⟩;exact⟨Y,S,Z,_,R,D,q,(by rintro v G ⟨y,r,d,b,n,z,t⟩;exact⟨y,r,Z,_,n,D.gr b,t,(by rintro o F ⟨C,l,a,R2,p⟩;exact   ⟨C,l,Z,_,R2,D.gr (b.trans a),p,(by rintro J I ⟨ρ3,s,g,m,B⟩;exact⟨ρ3,s,d,k,m,z.gr (a.trans g),B,λw j u=>hk w j (u.gr ((b.trans a).trans g))⟩)⟩)⟩)⟩)
end
abbrev vQ:=D->Sl->aI->KS->Prop
abbrev BI:=List T->Sl->aI->KS->Prop
def liG (K:Frag)(g:vQ):TG:=λv U H Q=>∃Y S Z d k,R3 K Y S H/\uO K Y (res Y H) Z U/\jd K Y (res Y H) d v/\g d Z S k/\∀U' H',K9 K Y H k U' H'->Q U' H'
def a7C (K:Frag)(g:BI):UG:=λa U H Q=>∃Y S Z l k,R3 K Y S H/\uO K Y (res Y H) Z U/\bS K (res Y H) l a/\g l Z S k/\∀U' H',K9 K Y H k U' H'->Q U' H'
def QG (X:Cx)(a:Expr)(g:vQ):Prop:=PG X a (liG X.K g)
def QGs (X:Cx)(a:jcE)(g:BI):Prop:=YV X a (a7C X.K g)
def d8 (i:Nat):vQ:=λd Z S k=>k (Z.set i (some d)) S
def YA:BI:=λl Z S k=>l=[]/\k Z S
def SK (g:vQ)(a:BI):BI:=λl Z S k=>∃x r,l=x::r/\g (.t x) Z S λδ1 b=>a r δ1 b k
def Yz (n:Nat)(a:BI):vQ:=λd Z S k=>∃l,d=.tup l/\l.length=n/\a l Z S k
section
variable {X:Cx}{pos:Pos}{tg e c:Expr}{es:jcE}{te:cZ}{g:vQ}{gs:BI}
def Gk {t t':TG}(h:PG X tg t)(m:∀v U H Q,t' v U H Q->t v U H Q):PG X tg t':=λa s U H v u Q I r q=>h a s U H v u Q I r (m _ _ _ _ q)
def Ea {t t':UG}(h:YV X es t)(m:∀v U H Q,t' v U H Q->t v U H Q):YV X es t':=λa s U H v u Q I r q=>h a s U H v u Q I r (m _ _ _ _ q)
theorem qg {i:Nat}{x:Str}(b:X.N.Nodup)(f:autoParam (X.N[i]?=some x) zi)(c:autoParam (Loc X.env.scope x) km)(a:autoParam (X.fn x=true\/X.env.scope.names.lookup x=some .local) zr):QG X (.Name x pos) (d8 i):=
 Gk (LX b f c a) (by rintro v U H Q ⟨Y,S,Z,d,k,R,e,g,q,hk⟩;exact hk _ _ ⟨Y,S,Z.set i (some d),.refl,R,e.set g i,q⟩)
theorem gW:QGs X [] YA:=Ea LW (by
 rintro v U H Q ⟨Y,S,Z,l,k,R,b,a,⟨e,q⟩,hk⟩;subst e;unfold bS at a;exact⟨a,hk _ _ ⟨Y,S,Z,.refl,R,b,q⟩⟩)
theorem rC (i:QG X e g)(m:QGs X es gs)(hs:autoParam ((assignEach (e::es) X.env).map (·.2)=assign e X.env::(assignEach es X.env).map (·.2)) zi):QGs X (e::es) (SK g gs):=
 Ea (Gj i m hs) (by
  rintro v U H Q ⟨Y,S,Z,l,k,R,n,a,⟨x,r,e,q⟩,hk⟩;subst e;unfold bS at a;obtain⟨w,h,z,d,s⟩:=a;refine⟨w,h,z,Y,S,Z,.t x,_,R,n,d,q,(by rintro σ1 B ⟨A,o,δ1,b,j,f,p⟩;exact⟨A,o,δ1,r,k,j,f,s.le b.le,p,λy c u=>hk y c (u.gr b)⟩)⟩)
theorem jP {r n:Nat}(g:X.calm=true)(h:QGs X es gs)(m:autoParam ((assignEach es X.env).length=n) zi)(b:autoParam ((assignEach es X.env).findIdx? (·.1)=none) zi):QG X (.Tuple es r pos) (Yz n gs):=
 Gk (Ra g h m b) (by
  rintro v U H Q ⟨Y,S,Z,d,k,R,p,j,⟨l,e,s,q⟩,hk⟩;subst e;obtain⟨a,o,f,i,c⟩:=fN j;exact⟨a,o,f,.of i,by rw[<- c.len];exact s,Y,S,Z,l,k,R,p,c,q,hk⟩)
def qV:nL:=λE Z S=>E.nx Z S
def fV (t u:nL):nL:=λE Z S=>t {E with nx:=λδ1 a=>u E δ1 a } Z S
def sX (te:cZ)(g:vQ):nL:=λE Z S=>te Z S λd a=>g d Z a E.nx
def Dc (te:cZ):nL:=λE Z S=>te Z S λ_ a=>E.nx Z a
def Ci (te:cZ):nL:=λE Z S=>te Z S E.rt
def Cj (c:nG)(t u:nL):nL:=λE Z S=>c Z S λb a=>if b=true then t E Z a else u E Z a
def a3p:nL:=λ_ _ _=>False
variable {st:Stmt}{rest a b:List Stmt}{t u:nL}{tc:nG}
def aK:OQ X [] qV:=Jo VS (by rintro D U H ⟨Y,S,Z,E,R,a,q,b⟩;exact b.nx _ _ ⟨Y,S,Z,.refl,R,a,q⟩)
def qs (d:QS X st t)(g:OQ X rest u):OQ X (st::rest) (fV t u):=Jo (Q3 d g) (by rintro D U H ⟨Y,S,Z,E,R,f,q,a⟩;exact  ⟨Y,S,Z,_,R,f,q,⟨(by rintro σ1 k ⟨b,h,δ1,j,e,c,i⟩;exact⟨b,h,δ1,E,e,c,i,a.gr j⟩),a.rt,a.bk,a.ct⟩⟩)
def aS (a:QS X st t):OQ X [st] t:=VR a
def VD {a:List Stmt}:OQ X a a3p:=Jo Nz (by rintro D U H ⟨Y,S,Z,E,R,b,q,c⟩;exact q)
def bM (h:QE X e te)(hs:autoParam (swapsWith e none pos.line X.env=pure false) zi):QS X (.Expr e pos) (Dc te):=lH (VT h hs) (by rintro D U H ⟨Y,S,Z,E,R,a,q,f⟩;exact  ⟨Y,S,Z,_,R,a,q,(by rintro v l ⟨c,i,d,b,g,k,j⟩;exact f.nx _ _ ⟨c,i,Z,b,g,a.gr b,j⟩)⟩)
def ao (a:QE X e te):QS X (.Return (some e) pos) (Ci te):=lH (a0q a) (by rintro D U H ⟨Y,S,Z,E,R,b,q,c⟩;exact⟨Y,S,Z,_,R,b,q,c.rt⟩)
theorem aX (k:QT X c tc)(l:OQ X a t)(m:OQ X b u):QS X (.If c a b pos) (Cj tc t u):=lH (a4a k l m) (by rintro D U H ⟨Y,S,Z,E,R,e,q,g⟩;exact  ⟨Y,S,Z,_,R,e,q,(by
  rintro v n ⟨f,i,d,h,j⟩;cases v with
  |true=>exact⟨f,i,Z,E,h,e.gr d,j,g.gr d⟩
  |false=>exact⟨f,i,Z,E,h,e.gr d,j,g.gr d⟩)⟩)
theorem aj {i:Nat}{x:Str}{a:Pos}(n:X.N.Nodup)(m:QE X e te)(o:autoParam (X.N[i]?=some x) zi)(g:autoParam (Loc X.env.scope x) km)(hs:autoParam (swapsWith e (some (.Name x a)) pos.line X.env=pure false) zi)(f:autoParam (X.fn x=true\/X.env.scope.names.lookup x=some .local) zr) :
  QS X (.Assign [.Name x a] e pos) (sX te (d8 i)):=lH (a0p n o g m hs f) (by rintro D U H ⟨Y,S,Z,E,R,b,q,j⟩;exact  ⟨Y,S,Z,_,R,b,q,(by rintro v s ⟨h,p,d,c,l,k,r⟩;exact j.nx _ _ ⟨h,p,Z.set i (some d),c,l,(b.gr c).set k i,r⟩)⟩)
theorem rB (l:QE X e te)(m:QG X tg g)(hs:autoParam (swapsWithSole [tg] e pos.line X.env=pure false) zi)(i:autoParam (swappedStores [tg] e X.env=pure none) zi)(h:autoParam ((assignEach [tg] X.env).map (·.2)=[assign tg X.env]) zi) :
  QS X (.Assign [tg] e pos) (sX te g):=lH (a0u l m hs i h) (by rintro D U H ⟨Y,S,Z,E,R,a,q,f⟩;exact  ⟨Y,S,Z,_,R,a,q,(by rintro v s ⟨c,n,d,b,k,j,o⟩;exact⟨c,n,Z,d,E.nx,k,a.gr b,j,o,λp r u=>f.nx _ _ (u.gr b)⟩)⟩)
def a3C (i:Nat)(te:cZ)(f:Int->Int->Int):nL:=λE Z S=>∃a,Z[i]?=some (some (.int a))/\te Z S λd c=>∃b,d=.int b/\E.nx (Z.set i (some (.int (f a b)))) c
theorem Z8 {i:Nat}{x:Str}{h:Operator}{f:Int->Int->Int}{c:Pos}(z:X.N.Nodup)(y:QE X e te)(A:PIp X h (ipI f))(B:autoParam (X.N[i]?=some x) zi)(n:autoParam (Loc X.env.scope x) km)(l:autoParam (X.fn x=true\/X.env.scope.names.lookup x=some .local) zr) :
  QS X (.AugAssign (.Name x c) h e pos) (a3C i te f):=lH (a0t z B n y A l) λD U H ⟨Y,S,Z,E,R,g,⟨a,o,q⟩,s⟩=>by
 obtain⟨v,m,p⟩:=g.2 i _ o;refine⟨v,m,Y,S,Z,_,R,g,q,?_⟩;rintro w G ⟨r,C,d,j,t,u,b,k,F⟩;subst k;exact⟨a,b,aM p,aM u,s.nx _ _ ⟨r,C,_,j,t,(g.gr j).set (d:=.int (f a b)) bz i,F⟩⟩
def a3B (k h te:cZ)(f:Int->Int->Int):nL:=λE Z S=>k Z S λo m=>h Z m λi e=>∃(n j:Nat)(l:List T)(a:Int),o=.ob n/\i=.int (j:Nat)/\e[n]?=some (.lst l)/\l[j]?=some (.int a)/\
 te Z e λd g=>∃b c,d=.int b/\g[n]?=some (.lst c)/\j<c.length/\E.nx Z (g.set n (.lst (c.set j (.int (f a b)))))
theorem VE {o i:Expr}{A x:cZ}{B:Operator}{f:Int->Int->Int}{c:Pos}(ho:QE X o A)(hi:QE X i x)(he:QE X e te)(k:PIp X B (ipI f))
  (I:autoParam (∀ov iv new,augStore i ov iv new=(do holding [new,ov,iv] (setItem ov iv new);release [new,ov,iv] [];pure .next)) kl):QS X (.AugAssign (.Subscript o i c) B e pos) (a3B A x te f):=
 lH (VW ho hi SJ he k set_list I) (by rintro D U H ⟨Y,S,Z,E,R,m,q,eu⟩;exact⟨Y,S,Z,_,R,m,q,(by rintro v1 H1 ⟨Y1,S1,d1,g,L,r1,q1⟩;exact⟨Y1,S1,Z,_,L,m.gr g,q1,(by
  rintro v2 H2 ⟨T,S2,d2,h,R2,z,n,j,l,a,J,h2,h3,h4,q2⟩;subst J h2;obtain⟨p,k,G⟩:=r1.gr h;obtain⟨vs,e2,O⟩:=R2.ok n p _ k h3;obtain⟨w,e4,C⟩:=O.get h4;refine⟨p,vs,j,w,G,aM z,.of e2,e4,T,S2,Z,_,R2,m.gr (g.trans h),q2,?_⟩;rintro v3 H3 ⟨ρ3,S3,d3,s,t,Q,b,F,N,h6,h7,q3⟩;subst N;have P:w=V.int a:=by unfold Rp at C;exact C
  refine⟨a,b,P,aM Q,?_⟩;have d:=s.at k;obtain⟨r,f1,v⟩:=t.ok n p _ d h6;refine⟨p,r,j,j,G,aM z,f1,?_,?_⟩
  .unfold Og;rw[jab (by lia),jab (by rw[<- v.len];lia)];simp
  .have key:bS X.K (res ρ3 H3) (F.set j (.int (f a b))) (r.set j (.int (f a b))):=bS.put (by unfold Rp;rfl) v;obtain⟨W,y⟩:=t.put (o:=.lst (r.set j (.int (f a b)))) (u:=.lst (F.set j (.int (f a b)))) d ⟨_,M,key⟩;exact eu.nx _ _ ⟨ρ3,_,Z,((g.trans h).trans s).trans y,W,(m.gr ((g.trans h).trans s)).gr y,q3⟩)⟩)⟩)
end
abbrev OD:=Sl->aI->(List D->(aI->Prop)->aI->Prop)->Prop
structure UI (K:Frag)(J:It)(AC:List D)(G:aI->Prop)(ρ0:List Addr)(H0:Hp):Prop where
 go:∀i Y S H,Gr ρ0 H0 Y H->R3 K Y S H->G S->i<AC.length->J.go i H
 Ib:∀i x Y S H H' d,Gr ρ0 H0 Y H->R3 K Y S H->G S->AC[i]?=some d->J.Ib i H x H'->∃Y',Gr Y H Y' H'/\R3 K Y' S H'/\jd K Y' (res Y' H') d x
 stop:∀i Y S H,Gr ρ0 H0 Y H->R3 K Y S H->G S->AC.length<=i->i<=AC.length->J.stop i H
def liI (K:Frag)(w:OD):TI:=λU H R=>∃Y S Z k,R3 K Y S H/\uO K Y (res Y H) Z U/\w Z S k/\∀J H',(∃a b c G,Gr Y H a H'/\R3 K a b H'/\UI K J c G a H'/\k c G b)->R J H'
def QI (X:Cx)(b a:Expr)(w:OD):Prop:=PI X b a (liI X.K w)
def JP (d:D)(a:aI)(k:List D->(aI->Prop)->aI->Prop):Prop:=(∃l,(d=.tup l\/d=.lst l)/\k (l.map .t) (λ_=>True) a)\/(∃n l,d=.ob n/\a[n]?=some (.lst l)/\k (l.map .t) (λS=>S[n]?=some (.lst l)) a)
def iSq (te:cZ):OD:=λZ S k=>te Z S λd a=>JP d a k
def a72 (t:rT):OD:=λZ S k=>t Z S λa b=>∃j:Int,a=[.int j]/\-(2 ^ 62)<=j/\j<2 ^ 62/\k ((List.range j.toNat).map λ(i:Nat)=>D.int i) (λ_=>True) b
section
variable {X:Cx}{tg iter e:Expr}{te:cZ}{pos p:Pos}
def Ct {t t':TI}(h:PI X tg iter t)(m:∀U H R,t' U H R->t U H R):PI X tg iter t':=λa s U H R I q=>h a s U H R I (m _ _ _ q)
theorem Sk {K:Frag}{Y:jcD}{H:Hp}{a:Addr}{l:List T}{vs:List V}(h:res Y H a=some (.lst vs))(r:bS K (res Y H) l vs):UI K (Itl K a) (l.map .t) (λ_=>True) Y H where
 go:=λi Y1 S1 H1 g R _ hi=>by
  have e:=(res_some (g.le _ _ h)).2;have hl:i<vs.length:=by rw[<- r.len];simpa using hi
  exact⟨vs,vs[i],.of e,jaK hl⟩
 Ib:=λi x Y1 S1 H1 H' d g R _ hd y=>by
  obtain⟨rfl,y⟩:=y;have e:=(res_some (g.le _ _ h)).2;rw[jaF] at hd;cases q:l[i]? with
  |none=>rw[q] at hd;cases hd
  |some z=>
   rw[q] at hd;cases hd;obtain⟨v,e1,e2⟩:=r.get q;have:=y vs (.of e);rw[e1] at this;cases this;exact⟨Y1,.refl,R,e2.le g.le⟩
 stop:=λi Y1 S1 H1 g R _ hi _=>by
  have e:=(res_some (g.le _ _ h)).2;exact⟨vs,.of e,by rw[<- r.len];simpa using hi⟩
theorem W0 {K:Frag}{Y:jcD}{H:Hp}{a:Addr}{l:List T}{vs:List V}(h:res Y H a=some (.tup vs))(r:bS K (res Y H) l vs):UI K (Itt K a) (l.map .t) (λ_=>True) Y H where
 go:=λi Y1 S1 H1 g R _ hi=>by
  have e:=(res_some (g.le _ _ h)).2;have hl:i<vs.length:=by rw[<- r.len];simpa using hi
  exact⟨vs,vs[i],.of e,jaK hl⟩
 Ib:=λi x Y1 S1 H1 H' d g R _ hd y=>by
  obtain⟨rfl,y⟩:=y;have e:=(res_some (g.le _ _ h)).2;rw[jaF] at hd;cases q:l[i]? with
  |none=>rw[q] at hd;cases hd
  |some z=>
   rw[q] at hd;cases hd;obtain⟨v,e1,e2⟩:=r.get q;have:=y vs (.of e);rw[e1] at this;cases this;exact⟨Y1,.refl,R,e2.le g.le⟩
 stop:=λi Y1 S1 H1 g R _ hi _=>by
  have e:=(res_some (g.le _ _ h)).2;exact⟨vs,.of e,by rw[<- r.len];simpa using hi⟩
theorem a1E {K:Frag}{Y:jcD}{H:Hp}{n:Nat}{a:Addr}{l:List T}(ha:Y[n]?=some a):UI K (Itl K a) (l.map .t) (λS=>S[n]?=some (.lst l)) Y H where
 go:=λi Y1 S1 H1 g R hS hi=>by
  obtain⟨vs,e,r⟩:=R.ok n a _ (g.at ha) hS;have hl:i<vs.length:=by rw[<- r.len];simpa using hi
  exact⟨vs,vs[i],.of e,jaK hl⟩
 Ib:=λi x Y1 S1 H1 H' d g R hS hd y=>by
  obtain⟨rfl,y⟩:=y;obtain⟨vs,e,r⟩:=R.ok n a _ (g.at ha) hS;rw[jaF] at hd;cases q:l[i]? with
  |none=>rw[q] at hd;cases hd
  |some z=>
   rw[q] at hd;cases hd;obtain⟨v,e1,e2⟩:=r.get q;have:=y vs (.of e);rw[e1] at this;cases this;exact⟨Y1,.refl,R,e2⟩
 stop:=λi Y1 S1 H1 g R hS hi _=>by
  obtain⟨vs,e,r⟩:=R.ok n a _ (g.at ha) hS;exact⟨vs,.of e,by rw[<- r.len];simpa using hi⟩
theorem qi (s:QE X iter te):QI X tg iter (iSq te):=Ct (a0A s) (by rintro U H Q ⟨Y,S,Z,k,R,D,q,hk⟩;exact⟨Y,S,Z,_,R,D,q,(by
 rintro v t ⟨o,p,d,r,i,b,f⟩;rcases f with⟨l,rfl | rfl,f⟩ | ⟨n,l,rfl,h,f⟩
 .have b:Rp _ _ _ _:=b;unfold Rp at b;obtain⟨a,g,m,c,j⟩:=b;exact⟨a,m,.inr ⟨⟨g,.of (res_some c).2⟩,hk _ _ ⟨o,p,_,_,r,i,W0 c j,f⟩⟩⟩
 .have b:Rp _ _ _ _:=b;unfold Rp at b;obtain⟨a,g,m,c,j⟩:=b;exact⟨a,m,.inl ⟨⟨g,.of (res_some c).2⟩,hk _ _ ⟨o,p,_,_,r,i,Sk c j,f⟩⟩⟩
 .obtain⟨a,ha,e⟩:=b;obtain⟨g,c,j⟩:=i.ok n a _ ha h;exact⟨a,e,.inl ⟨⟨g,.of c⟩,hk _ _ ⟨o,p,_,_,r,i,a1E ha,f⟩⟩⟩)⟩)
theorem W3 {K:Frag}{Y:jcD}{H:Hp}{n:Nat}:UI K (Itr 0 n) ((List.range n).map λ(i:Nat)=>D.int i) (λ_=>True) Y H where
 go:=λi Y1 S1 H1 g R _ hi=>by show i<n;simpa using hi
 Ib:=λi x Y1 S1 H1 H' d g R _ hd y=>by
  obtain⟨rfl,y⟩:=y;rw[jaF] at hd;cases q:(List.range n)[i]? with
  |none=>rw[q] at hd;cases hd
  |some z=>
   rw[q] at hd;cases hd;have:=jbx (n:=n) (i:=i) (by have:=(jar.mp q).1;simpa using this);rw[this] at q;cases q;subst y;refine⟨Y1,.refl,R,?_⟩;show Rp _ _ _ _;unfold Rp;rw[Int.zero_add]
 stop:=λi Y1 S1 H1 g R _ hi _=>by show n<=i;simpa using hi
theorem jO {a:Expr}{t:rT}(m:Gl X "range")(r:X.mg "range"=none)(f:QA X [a] t)(hs:autoParam (starEach [a] X.env=[(false,eval a X.env)]) zi):QI X tg (.Call (.Name "range" p) [a] [] pos) (a72 t):=
 Ct (NC m r f hs) (by rintro U H Q ⟨Y,S,Z,k,R,D,q,hk⟩;exact⟨Y,S,Z,_,R,D,q,(by
  rintro v u ⟨c,n,d,s,i,h,j,e,g,l,o⟩;subst e;obtain⟨w,rfl,b⟩:=h.one;rw[aM b];exact⟨j,M,g,l,hk _ _ ⟨c,n,_,_,s,i,W3,o⟩⟩)⟩)
def BA (G:aI->Prop)(g:vQ)(a:nL):List D->nL
 |[]=>λE Z S=>G S/\E.nx Z S
 |x::r=>λE Z S=>G S/\g x Z S λδ1 b=>a {E with nx:=BA G g a r E,ct:=BA G g a r E,bk:=E.nx } δ1 b
def a3t (w:OD)(g:vQ)(c:nL):nL:=λE Z S=>w Z S λa G b=>BA G g c a E Z b
variable {g:vQ}{tb:nL}{body:List Stmt}
theorem eY {w:OD}(hp:PassesOwn (model X.prog X.w) X.A X.env X.xe)(hc:X.calm=true)(hi:QI X tg iter w)(hg:QG X tg g)(hb:OQ X body tb)(hs:autoParam (∀x,foldedSetIterable iter X.env x=pure x) kf) :
  QS X (.For tg iter body [] pos) (a3t w g tb):=lH (a0r hp hc hi hg hb hs) λD U H ⟨Y,S,Z,E,R,P,q,F⟩=>⟨Y,S,Z,_,R,P,q,λJ O ⟨C,S1,b,G,t,R1,I,q1⟩=>by
 refine⟨λi m Q j=>m=b.length - i/\i<=b.length/\∃a c h,Gr C O a j/\R3 X.K a c j/\uO X.K a (res a j) h Q/\BA G g tb (b.drop i) E h c,⟨b.length,by simp,jaN _,C,S1,Z,.refl,R1,P.gr t,q1⟩,?_⟩;rintro i m Q j ⟨rfl,hi,a,c,h,l,p,n,k⟩;by_cases f:i<b.length
 .rw[jbD f] at k;obtain⟨V,k⟩:=k;refine .inr ⟨I.go i a c j l p V f,_,λU2 L z=>z,λx L y=>?_⟩;obtain⟨Y2,r,R2,r2⟩:=I.Ib i x a c j L b[i] l p V (jaK f) y;refine⟨Y2,c,h,b[i],_,R2,n.gr r,r2,k,λσ3 H3 ⟨ρ3,S3,δ3,W,wQ,B,q3⟩=>⟨ρ3,S3,δ3,_,wQ,B,q3,?_⟩⟩;have N:=((t.trans l).trans r).trans W;have o:∀σ4 d,K9 X.K ρ3 H3 (BA G g tb (b.drop (i+1)) E) σ4 d->∃T,T < b.length - i/\(T=b.length - (i+1)/\i+1<=b.length/\∃a c h,Gr C O a d/\R3 X.K a c d/\uO X.K a (res a d) h σ4/\BA G g tb (b.drop (i+1)) E h c):=
   (by rintro σ4 d ⟨ρ4,S4,δ4,g4,R4,s,q4⟩;exact⟨b.length - (i+1),by lia,M,f,ρ4,S4,δ4,((l.trans r).trans W).trans g4,R4,s,q4⟩)
  exact⟨o,λv d u=>F.rt v d (u.gr N),λσ4 d u=>F.nx σ4 d (u.gr N),o⟩
 .have e:b.drop i=[]:=List.drop_eq_nil_of_le (by lia);rw[e] at k;exact .inl ⟨I.stop i a c j l p k.1 (by lia) (by lia),F.nx _ _ ⟨a,c,h,t.trans l,p,n,k.2⟩⟩⟩
end
def SmS (a:Nat)(U b:St):Prop:=b.length=U.length/\∀i:Nat,a<=i->b[i]?=U[i]?
def liX (K:Frag)(a:Nat)(g:vQ):TG:=λv U H Q=>∃Y S Z d k,R3 K Y S H/\uO K Y (res Y H) Z U/\jd K Y (res Y H) d v/\g d Z S k/\∀U' H',K9 K Y H k U' H'->SmS a U U'->Q U' H'
def a7z (K:Frag)(a:Nat)(g:BI):UG:=λb U H Q=>∃Y S Z l k,R3 K Y S H/\uO K Y (res Y H) Z U/\bS K (res Y H) l b/\g l Z S k/\∀U' H',K9 K Y H k U' H'->SmS a U U'->Q U' H'
def QX (X:Cx)(a:Nat)(b:Expr)(g:vQ):Prop:=PG X b (liX X.K a g)
def QXs (X:Cx)(a:Nat)(b:jcE)(g:BI):Prop:=YV X b (a7z X.K a g)
section
variable {X:Cx}{pos:Pos}{tg e:Expr}{es:jcE}{g:vQ}{gs:BI}{own:Nat}
theorem qx {i:Nat}{x:Str}(e:X.N.Nodup)(g:autoParam (X.N[i]?=some x) zi)(h:autoParam (i<own) zn)(b:autoParam (Loc X.env.scope x) km)(a:autoParam (X.fn x=true\/X.env.scope.names.lookup x=some .local) zr):QX X own (.Name x pos) (d8 i):=
 Gk (LX e g b a) λv U H Q ⟨Y,S,Z,d,k,R,f,c,q,hk⟩=>hk _ _ ⟨Y,S,Z.set i (some d),.refl,R,f.set c i,q⟩ ⟨by simp,λj l=>ja1 (by lia)⟩
theorem D4:QXs X own [] YA:=Ea LW (by
 rintro v U H Q ⟨Y,S,Z,l,k,R,b,a,⟨e,q⟩,hk⟩;subst e;unfold bS at a;exact⟨a,hk _ _ ⟨Y,S,Z,.refl,R,b,q⟩ ⟨M,λ_ _=>rfl⟩⟩)
theorem qxs (o:QX X own e g)(s:QXs X own es gs)(hs:autoParam ((assignEach (e::es) X.env).map (·.2)=assign e X.env::(assignEach es X.env).map (·.2)) zi):QXs X own (e::es) (SK g gs):=
 Ea (Gj o s hs) (by
  rintro v U H Q ⟨Y,S,Z,l,k,R,y,b,⟨x,r,e,q⟩,hk⟩;subst e;unfold bS at b;obtain⟨w,n,D,j,B⟩:=b;refine⟨w,n,D,Y,S,Z,.t x,_,R,y,j,q,λσ1 F ⟨E,z,δ1,c,p,m,A⟩ d=>⟨E,z,δ1,r,k,p,m,B.le c.le,A,λC h u a=>hk C h (u.gr c) ⟨a.1.trans d.1,λi f=>(a.2 i f).trans (d.2 i f)⟩⟩⟩)
theorem Ji {r n:Nat}(g:X.calm=true)(h:QXs X own es gs)(m:autoParam ((assignEach es X.env).length=n) zi)(b:autoParam ((assignEach es X.env).findIdx? (·.1)=none) zi):QX X own (.Tuple es r pos) (Yz n gs):=
 Gk (Ra g h m b) (by
  rintro v U H Q ⟨Y,S,Z,d,k,R,p,j,⟨l,e,s,q⟩,hk⟩;subst e;obtain⟨a,o,f,i,c⟩:=fN j;exact⟨a,o,f,.of i,by rw[<- c.len];exact s,Y,S,Z,l,k,R,p,c,q,hk⟩)
end
def st3 (a:Nat)(b:jcH)(Z:Sl):Sl:=List.replicate a none++b.map λj=>(Z[j]?).join
def ff (G:aI->Prop)(g:vQ)(tt:nG)(te:cZ)(δ0:Sl):List D->aI->List T->(List T->aI->Prop)->Prop
 |[],S,a,k=>G S/\k a S
 |x::r,S,a,k=>G S/\g x δ0 S λδ1 e=>tt δ1 e λb c=>if b=true then te δ1 c λd f=>∃y,d=.t y/\a.length<sizeLine/\ff G g tt te δ0 r f (a++[y]) k else ff G g tt te δ0 r c a k
def Ik (a:Nat)(f:jcH)(w:OD)(g:vQ)(tt:nG)(te:cZ):cZ:=λZ S k=>w Z S λc G d=>ff G g tt te (st3 a f Z) c d [] λe b=>k (.lst e) b
def Ph (a:Nat)(f:jcH)(w:OD)(g:vQ)(tt:nG)(te:cZ):cZ:=λZ S k=>w Z S λc G d=>ff G g tt te (st3 a f Z) c d [] λe b=>k (.ob b.length) (b++[.lst e])
def QTs (X:Cx)(a:jcE)(t:nG):Prop:=UH X a (UA X.K t)
def a3E:nG:=λ_ S k=>k true S
theorem uO.Cn {K:Frag}{Y:jcD}{G:Hp}{Z:Sl}{U:St}(r:uO K Y G Z U)(a:Nat)(c:jcH):uO K Y G (st3 a c Z) (Cn a c U):=by
 refine⟨by unfold st3 L2.Cn;simp,λi d h=>?_⟩;unfold st3 at h;unfold L2.Cn;by_cases b:i<a
 .rw[jaL (by simpa using b),jb0,jab b] at h;cases h
 .rw[jaX (by simpa using b),jb1,jaF] at h ⊢;cases e:c[i - a]? with
  |none=>rw[e] at h;cases h
  |some j=>
   rw[e] at h;have h:(Z[j]?).join=some d:=ja2 h;have g:Z[j]?=some (some d):=by
    cases q:Z[j]? with
    |none=>rw[q] at h;cases h
    |some o=>rw[q] at h;exact jac some h
   obtain⟨v,f,k⟩:=r.2 j d g;exact⟨v,by show some ((U[j]?).join)=some (some v);rw[f];rfl,k⟩
def Pz {a:Nat}{d:jcH}{U b:St}(h:SmS a (Cn a d U) b):Ext (Cn a d U) b:=by
 refine⟨h.1,λi v e=>?_⟩;by_cases c:i<a
 .unfold L2.Cn at e;rw[jaL (by simpa using c),jb0,jab c] at e;cases e
 .rw[h.2 i (by lia)];exact e
section
variable {X:Cx}{sc:Scope}{cl:List (Str×Addr)}{own:Nat}{N:jcB}{fr:jcH}{elt tg iter:Expr}{cs:jcE}{pos spos py:Pos}{w:OD}{g:vQ}{tt:nG}{te:cZ}
def aR:QTs X [] a3E:=(by rintro a s U H Q I ⟨Y,S,Z,k,R,D,q,hk⟩;exact VP a s U H Q I (hk _ _ ⟨Y,S,.refl,R,q⟩))
def pM {c:Expr}{t:nG}(a:QT X c t):QTs X [c] t:=VO a
theorem XQ {U:St}{p:Hp}{n:jcD}{C:aI}{Z:Sl}{J:It}{a:List D}{G:aI->Prop}{k:List T->aI->Prop}{R:List V->Hp->Prop}(RS:uO X.K n (res n p) Z U)(R1:R3 X.K n C p)(E:UI X.K J a G n p)
  (q:ff G g tt te (st3 own fr Z) a C [] k) (hR:∀Y2 S2 H2 ys l,Gr n p Y2 H2->R3 X.K Y2 S2 H2->bS X.K (res Y2 H2) l ys->k l S2->R ys H2) :
  ∃W:Nat->Nat->List V->Hp->Prop,(∃m,W 0 m [] p)/\MX J (liX X.K own g) (UA X.K tt) (li X.K te) (Cn own fr U) W R:=by
 refine⟨λi m ys j=>m=a.length - i/\i<=a.length/\∃f h l,Gr n p f j/\R3 X.K f h j/\bS X.K (res f j) l ys/\ff G g tt te (st3 own fr Z) (a.drop i) h l k,⟨a.length,by simp,jaN _,n,C,[],.refl,R1,.nil,q⟩,?_⟩;rintro i m ys j ⟨rfl,hi,f,h,l,o,B,w,r⟩;by_cases c:i<a.length
 .rw[jbD c] at r;obtain⟨P,r⟩:=r;refine .inr ⟨E.go i f h j o B P c,λs H2=>∃Y2 S2 N,Gr n p Y2 H2/\R3 X.K Y2 S2 H2/\bS X.K (res Y2 H2) N s/\ff G g tt te (st3 own fr Z) (a.drop (i+1)) S2 N k,λs H2 z=>⟨a.length - (i+1),by lia,M,c,z⟩,λx H2 y=>?_⟩;obtain⟨Y2,u,R2,r2⟩:=E.Ib i x f h j H2 a[i] o B P (jaK c) y;refine⟨Y2,h,st3 own fr Z,a[i],_,R2,(RS.gr (o.trans u)).Cn own fr,r2,r,λσ3 H3 ⟨ρ3,S3,δ3,F,S,t,q3⟩ sm=>⟨Pz sm,ρ3,S3,δ3,_,S,t,q3,?_⟩⟩;rintro b H4 ⟨ρ4,L,A,O,H⟩;cases b with
  |false=>exact⟨ρ4,L,l,(((o.trans u).trans F).trans A),O,w.le ((u.trans F).trans A).le,H⟩
  |true=>
   refine⟨ρ4,L,δ3,_,O,t.gr A,H,?_⟩;rintro v H5 ⟨ρ5,S5,d,g5,R5,r5,z,Q,hl,Y⟩;subst Q;have I:=((u.trans F).trans A).trans g5;exact⟨by rw[<- w.len];exact hl,ρ5,S5,l++[z],o.trans I,R5,(w.le I.le).app (.cons r5 .nil),Y⟩
 .have e:a.drop i=[]:=List.drop_eq_nil_of_le (by lia);rw[e] at r;exact .inl ⟨E.stop i f h j o B r.1 (by lia) (by lia),hR f h j ys l o B w r.2⟩
def CJ:∀U H Q,li X.K (Ik own fr w g tt te) U H Q->Lq own fr (liI X.K w) (liX X.K own g) (UA X.K tt) (li X.K te) U H Q:=(by rintro U H Q ⟨Y,S,Z,k,R,D,q,hk⟩;exact  ⟨Y,S,Z,_,R,D,q,(by rintro J n ⟨r,p,t,G,a,e,i,h⟩;exact XQ (D.gr a) e i h λs j m o l b R2 c f=>EF R2 (λv d u=>hk v d (u.gr (a.trans b))) c f)⟩)
def Kd:∀U H Q,li X.K (Ph own fr w g tt te) U H Q->Lq own fr (liI X.K w) (liX X.K own g) (UA X.K tt) (li X.K te) U H Q:=(by rintro U H Q ⟨Y,S,Z,k,R,D,q,hk⟩;exact  ⟨Y,S,Z,_,R,D,q,(by rintro J n ⟨r,p,t,G,a,e,i,h⟩;exact XQ (D.gr a) e i h λs j m o l b R2 c f=>SW R2 (λv d u=>hk v d (u.gr (a.trans b))) c f)⟩)
theorem bE (S:lC X sc cl own N fr)(d:X.calm=true)(b:QI X tg iter w)(a:∀C s H fp,QX (BC X sc N cl C s H fp) own tg g)
  (c:∀C s H fp,QTs (BC X sc N cl C s H fp) cs tt) (e:∀C s H fp,QE (BC X sc N cl C s H fp) elt te) (hs:autoParam (∀x,foldedSetIterable iter X.env x=pure x) kf) :
  QE X (.ListComp elt [⟨tg,iter,cs,0⟩] sc pos) (Ik own fr w g tt te):=cW (V6 (g:=liX X.K own g) (tt:=UA X.K tt) (te:=li X.K te) S d b a c e hs) CJ
theorem ye {i:Nat}{y:Str}(r:X.N.Nodup)(S:lC X sc cl own N fr)(j:X.calm=true)(t:QI X tg iter w)(z:∀C s H fp,QX (BC X sc N cl C s H fp) own tg g)
  (h:∀C s H fp,QTs (BC X sc N cl C s H fp) cs tt) (o:∀C s H fp,QE (BC X sc N cl C s H fp) elt te) (b:autoParam (X.N[i]?=some y) zi) (p:autoParam (Loc X.env.scope y) km)
  (a:autoParam (swapsWith (.ListComp elt [⟨tg,iter,cs,0⟩] sc pos) (some (.Name y py)) spos.line X.env=pure true) zi) (hs:autoParam (∀x,foldedSetIterable iter X.env x=pure x) kf)
  (f:autoParam (X.fn y=true\/X.env.scope.names.lookup y=some .local) zr) :
  QS X (.Assign [.Name y py] (.ListComp elt [⟨tg,iter,cs,0⟩] sc pos) spos) (sX (Ik own fr w g tt te) (d8 i)):=
 lH (LV (g:=liX X.K own g) (tt:=UA X.K tt) (te:=li X.K te) r b p S j t z h o a hs f) (by rintro D U H ⟨Y,S,Z,E,R,c,q,l⟩;exact CJ _ _ _ ⟨Y,S,Z,_,R,c,q,(by rintro v B ⟨k,u,d,e,n,m,A⟩;exact l.nx _ _ ⟨k,u,Z.set i (some d),e,n,(c.gr e).set m i,A⟩)⟩)
theorem Gh {i:Nat}{y:Str}(r:X.N.Nodup)(S:lC X sc cl own N fr)(j:X.calm=true)(t:QI X tg iter w)(z:∀C s H fp,QX (BC X sc N cl C s H fp) own tg g)
  (h:∀C s H fp,QTs (BC X sc N cl C s H fp) cs tt) (o:∀C s H fp,QE (BC X sc N cl C s H fp) elt te) (b:autoParam (X.N[i]?=some y) zi) (p:autoParam (Loc X.env.scope y) km)
  (a:autoParam (swapsWith (.ListComp elt [⟨tg,iter,cs,0⟩] sc pos) (some (.Name y py)) spos.line X.env=pure true) zi) (hs:autoParam (∀x,foldedSetIterable iter X.env x=pure x) kf)
  (f:autoParam (X.fn y=true\/X.env.scope.names.lookup y=some .local) zr) :
  QS X (.Assign [.Name y py] (.ListComp elt [⟨tg,iter,cs,0⟩] sc pos) spos) (sX (Ph own fr w g tt te) (d8 i)):=
 lH (LV (g:=liX X.K own g) (tt:=UA X.K tt) (te:=li X.K te) r b p S j t z h o a hs f) (by rintro D U H ⟨Y,S,Z,E,R,c,q,l⟩;exact Kd _ _ _ ⟨Y,S,Z,_,R,c,q,(by rintro v B ⟨k,u,d,e,n,m,A⟩;exact l.nx _ _ ⟨k,u,Z.set i (some d),e,n,(c.gr e).set m i,A⟩)⟩)
end
def closes (L:Nat)(d:D)(b:aI)(k:KD):Prop:=
 (∃a c,b=a++c/\a.length=L/\(∀o∈a,ES L o)/\clD L d/\k d a)\/
 (∃m o a c,d=.ob m/\L<=m/\b=a++c/\a.length=L/\(∀o∈a,ES L o)/\b[m]?=some o/\ES L o/\k (.ob L) (a++[o]))\/
 (∃m l a c,d=.ob m/\L<=m/\b=a++c/\a.length=L/\(∀o∈a,ES L o)/\b[m]?=some (.lst l)/\k (.lst l) a)\/k d b
def yF (N:jcB)(a:List D):Sl:=a.map some++List.replicate (N.length - a.length) none
theorem uO.start {K:Frag}{Y:jcD}{G:Hp}{b:List D}{vs:List V}(r:fT K Y G b vs)(N:jcB):uO K Y G (yF N b) (start N vs):=by
 have j:b.length=vs.length:=fT.len r;refine⟨by unfold yF L2.start;simp[j],λi d h=>?_⟩;unfold yF at h;unfold L2.start;by_cases g:i<b.length
 .rw[jaL (by simpa using g),jaF] at h;rw[jaL (by simpa[<- j] using g),jaF];cases e:b[i]? with
  |none=>rw[e] at h;cases h
  |some x=>
   rw[e] at h;cases h;have n:∀{l:List D}{m:List V}{i:Nat}{x:D},Paired (jd K Y G) l m->l[i]?=some x->∃v,m[i]?=some v/\jd K Y G x v:=by
    intro l m i x r
    induction r generalizing i with
    |nil=>intro e;simp at e
    |cons a t k=>
     intro e;cases i with
     |zero=>simp at e;subst e;exact⟨_,M,a⟩
     |succ i=>obtain⟨v,c,f⟩:=k (i:=i) (by simpa using e);exact⟨v,by simpa using c,f⟩
   obtain⟨v,c,f⟩:=n r e;exact⟨v,by rw[c];rfl,f⟩
 .rw[jaX (by simpa using g),jb0] at h;split at h<;>cases h
def Hs {K:Frag}{Y:jcD}{S:aI}{H:Hp}{k:KD}{v:V}{H':Hp}(R:R3 K Y S H)(h:up K Y H (λd S'=>closes S.length d S' k) v H'):up K Y H k v H':=by
 obtain⟨Z,S',d,g,f,r,c⟩:=h;obtain⟨Q,G⟩:=g.ext;subst G;rcases c with⟨i,L,rfl,j,s,U,q⟩ | ⟨m,o,i,L,rfl,X,rfl,j,s,J,E,q⟩ | ⟨m,l,i,L,rfl,X,rfl,j,s,J,q⟩ | q
 .refine⟨Y,i,d,⟨⟨[],by simp⟩,g.le.trans mQ⟩,f.pop (by rw[R.len,j]) (by rw[j];exact s),r.pop mQ (by rw[R.len];exact U),q⟩
 .obtain⟨a,ha,rfl⟩:=r;have hρ:Y.length=i.length:=by rw[R.len,j]
  have T:R3 K Y i H':=f.pop hρ (by rw[j];exact s);have I:a∉Y:=λz=>by
   obtain⟨n,p⟩:=jcq.mp z;have t:=(jar.mp p).1;have:=pP f.nd (by rw[jaL t];exact p) ha;have:=R.len;lia
  have le:Le (res (Y++Q) H') (res (Y++[a]) H'):=λb o h=>by
   obtain⟨C,F⟩:=res_some h;refine oJ (λz=>C ?_) F;rcases jan.mp z with z | z
   .exact jbw _ z
   .rw[jal.mp z];exact ja5 ha
  have pre:∀(n:Nat)(b:Addr),Y[n]?=some b->(Y++[a])[n]?=some b:=λn b e=>by
   rw[jaL (jar.mp e).1];exact e
  refine⟨Y++[a],i++[o],.ob S.length,⟨⟨[a],M⟩,g.le.trans le⟩,⟨by simp[hρ],?_,λn b u A w=>?_⟩,⟨a,by rw[<- R.len];simp,M⟩,q⟩
  .rw[jbA];refine⟨T.nd,by simp,λx O y W=>?_⟩;rw[jal.mp W];exact λz=>I (z ▸ O)
  .by_cases p:n<Y.length
   .rw[jaL p] at A;have B:n<i.length:=by lia
    rw[jaL B] at w;have P:=f.ok n b u (by rw[jaL p];exact A) (by rw[jaL B];exact w);exact(P.pop le (by rw[R.len];exact s u (ja5 w))).le' pre (Le.refl _)
   .have t:=(jar.mp A).1;rw[jag,jbe] at t;have D:n=Y.length:=by lia
    subst D;rw[jaX (jaq _),Nat.sub_self] at A;rw[jaX (by lia),hρ,Nat.sub_self] at w;cases A;cases w;exact((f.ok m a o ha J).pop le (by rw[R.len];exact E)).le' pre (Le.refl _)
 .obtain⟨a,ha,rfl⟩:=r;have hρ:Y.length=i.length:=by rw[R.len,j]
  have I:a∉Y:=λz=>by
   obtain⟨n,p⟩:=jcq.mp z;have t:=(jar.mp p).1;have:=pP f.nd (by rw[jaL t];exact p) ha;have:=R.len;lia
  obtain⟨N,C,F⟩:=f.ok m a _ ha J;refine⟨Y,i,.lst l,⟨⟨[],by simp⟩,g.le.trans mQ⟩,f.pop hρ (by rw[j];exact s),?_,q⟩;show Rp _ _ _ _;unfold Rp;exact⟨a,N,M,oJ I C,F.le mQ⟩
 .exact⟨_,S',d,g,f,r,q⟩
def endsF (S:aI)(k:KD):jV:={nx:=λ_ a=>closes S.length .dD a k,rt:=λd a=>closes S.length d a k }
def vL {S a:aI}{x:T}{k:KD}(c:∀o∈S,ES S.length o)(h:k (.t x) S):closes S.length (.t x) (S++a) k:=.inl ⟨S,a,M,M,c,trivial,h⟩
def cK {S:aI}{x:T}{k:KD}(c:∀o∈S,ES S.length o)(h:k (.t x) S):closes S.length (.t x) S k:=.inr (.inr (.inr h))
theorem Xk {S a:aI}{j:Nat}{l:List T}{k:KD}(c:∀o∈S,ES S.length o)(e:a[j]?=some (.lst l))(h:k (.lst l) S):closes S.length (.ob (S.length+j)) (S++a) k:=
 .inr (.inr (.inl ⟨_,l,S,a,M,by lia,M,M,c,by rw[jaX (by lia),jbE];exact e,h⟩))
def aZ {S a:aI}{j:Nat}:(S++a)[S.length+j]?=a[j]?:=by rw[jaX (by lia),jbE]
def cM {S a:aI}{j:Nat}{o:O}:(S++a).set (S.length+j) o=S++a.set j o:=by rw[List.set_append_right _ _ (by lia),jbE]
def Cl (S:aI):Prop:=∀o∈S,ES S.length o
section
variable {P:Program}{w:World}{K:Frag}{mg:Str->jcG}{base:Heap}
inductive DfR (X:Cx) (b:List Stmt) (N:List Str) (sp:lV):Prop
 |mk (t:nL) (h:OQ X b t) (h2:∀ds S kk,Cl S->(∀d∈ds,clD S.length d)->sp ds S kk->t (endsF S kk) (yF N ds) S)
theorem EK {x b:Str}{st:Stmt}{f:Addr}{j:FuncData}{N h:jcB}{k:Nat}{sp:lV}(F:bW K x b st f j)(S:ak N h (af st))(len:∀ds S k,sp ds S k->ds.length=h.length)
  (I:∀(c:Value)(A:Around)(a:List Env)(s:Shared)(H:Hp)(E:XK),dP k (A.deeper (PyProof.Rows.envOfC b (af st) s.heap.objs.size f c))->
   DfR (EM yw P w K mg base N b (af st) f c A a s H E).nox (bQ st) N sp):gi P w K mg base yw (k+1) f j h (uM K sp):=by
 refine F.ok S (λp H Q E ⟨Y,S,ds,g,R,e,q,_⟩=>by rw[<- fT.len e];exact len ds S g q) ?_;rintro c A a s H p Q E r ⟨Y,S,ds,g,R,e,q,hk⟩;obtain⟨t,n,B⟩:=I c A a s H E r;refine⟨_,n,Y,S,yF N ds,endsF S g,R,uO.start e N,B ds S g R.cl (λd G=>?_) q,?_⟩
 .obtain⟨v,z⟩:=oM e d G;rw[<- R.len];exact z.cl
 .refine⟨(by rintro U i ⟨l,m,J,o,C,y,D⟩;exact hk _ _ (Hs R ⟨l,m,.dD,o,C,bz,D⟩)),λv i u=>hk _ _ (Hs R u),(by rintro U i ⟨_,_,_,_,_,_,z⟩;exact z),(by rintro U i ⟨_,_,_,_,_,_,z⟩;exact z)⟩
end
end L3
namespace PySem
open L2
section
variable {m:Nat}{ow:Array (Option Nat)}
end
end PySem
namespace PySem
open L2
section
variable {prog:Program}{w:World}{A:Around}{E:jcz}{s:Shared}
end
end PySem
namespace L2
open PySem PySem.Spec PyProof.Rows Hw
section
variable {X:Cx}
end
end L2
namespace L3
open PySem L2 Hw
def Ob:D->Option Key
 |.t (.v (.str x))=>some (Sum.inr x)
 |.t (.v (.int i))=>some (Sum.inl i)
 |_=>none
def i7 (l:List (Key×T))(k:Key):Option T:=(l.find? λp=>decide (p.1=k)).map (·.2)
def dput (l:List (Key×T))(k:Key)(v:T):List (Key×T):=if(l.any λp=>decide (p.1=k))=true then l.map (λp=>if p.1=k then(p.1,v) else p) else l++[(k,v)]
abbrev YT (K:Frag)(G:Hp):List (Key×T)->List (Key×V)->Prop:=Paired λp q=>p.1=q.1/\Rp K G p.2 q.2
section
variable {K:Frag}{G:Hp}
def tV {Y:jcD}{d:D}{v:V}{k:Key}(r:jd K Y G d v)(h:Ob d=some k):v=kV k:=by
 unfold Ob at h;split at h
 .cases h;exact aM r
 .cases h;exact aM r
 .cases h
def t9 {l:List (Key×T)}{kvs:List (Key×V)}(r:YT K G l kvs)(k:Key):(∀x,i7 l k=some x->∃v,sI kvs k=some v/\Rp K G x v)/\(i7 l k=none->sI kvs k=none):=by
 induction r with
 |nil=>exact⟨(λx h=>nomatch h),λ_=>rfl⟩
 | @cons p q b qs h t c=>
  by_cases e:p.1=k
  .have e':q.1=k:=h.1 ▸ e;have a:i7 (p::b) k=some p.2:=by unfold i7;simp[jbn,e]
   rw[a,sG e'];exact⟨λx z=>by cases z;exact⟨_,M,h.2⟩,λz=>nomatch z⟩
  .have e':¬ q.1=k:=λz=>e (h.1.trans z);have a:i7 (p::b) k=i7 b k:=by unfold i7;simp[jbn,e]
   rw[a,sH e'];exact c
def Xu {l:List (Key×T)}{kvs:List (Key×V)}(r:YT K G l kvs)(k:Key):(l.any λp=>decide (p.1=k))=(kvs.any λp=>decide (p.1=k)):=by
 induction r with
 |nil=>rfl
 | @cons p q b qs h t a=>rw[jbi,jbi,a,h.1]
def WN {l:List (Key×T)}{kvs:List (Key×V)}(r:YT K G l kvs)(k:Key){x:T}{v:V}(h:Rp K G x v):YT K G (l.map λp=>if p.1=k then(p.1,x) else p) (kvs.map λp=>if p.1=k then(p.1,v) else p):=by
 induction r with
 |nil=>exact .nil
 | @cons p q c qs a t b=>
  rw[jaf,jaf];refine .cons ?_ b;by_cases e:p.1=k
  .rw[jab e,jab (a.1 ▸ e)];exact⟨a.1,h⟩
  .rw[jaa e,jaa (λz=>e (a.1.trans z))];exact a
theorem rE {α β:Type}{F:α->β->Prop}:∀{l l':List α}{m m':List β},Paired F l m->Paired F l' m'->Paired F (l++l') (m++m')
 |_,_,_,_,.nil,h=>h
 |_,_,_,_,.cons r t,h=>.cons r (rE t h)
def Td {l:List (Key×T)}{kvs:List (Key×V)}(r:YT K G l kvs)(k:Key){x:T}{v:V}(h:Rp K G x v):YT K G (dput l k x) (putK kvs k v):=by
 unfold dput putK;rw[Xu r k];by_cases e:(kvs.any λp=>decide (p.1=k))=true
 .rw[jab e,jab e];exact WN r k h
 .rw[jaa e,jaa e];exact rE r (.cons ⟨M,h⟩ .nil)
end
inductive a5u (a b:D) (S:aI) (k:KD):Prop
 |mk (n:Nat) (l:List (Key×T)) (key:Key) (x:T) (h:a=.ob n) (h1:S[n]?=some (.rN l)) (h2:Ob b=some key) (h3:i7 l key=some x) (hk:k (.t x) S)
section
variable {X:Cx}{o i e f value:Expr}{to ti te tx tv:cZ}{pos pos' BM cpos:Pos}{t:rT}
theorem Jm (L:X.A.units+1<cLine)(N:QE X o to)(O:QE X i ti)(hs:autoParam (XC i) vb):QE X (.Subscript o i pos) (nU a5u to ti):=
 cW (LZ L N O hs) (by rintro U H Q ⟨Y,S,Z,k,R,D,q,hk⟩;exact⟨Y,S,Z,_,R,D,q,(by rintro v V ⟨I,B,d1,d,r,J,C⟩;exact⟨I,B,Z,_,r,D.gr d,C,(by
  rintro w P ⟨K,f,T,c,R2,G,n,l,b,x,j,z,p,M,y⟩;subst j;obtain⟨a,h,F⟩:=J.gr c;obtain⟨e,g,E⟩:=R2.ok n a _ h z;obtain⟨u,s,m⟩:=(t9 E b).1 x M;exact⟨a,u,F,by rw[tV G p,<- s];exact FA.k g,hk _ _ ⟨K,f,.t x,d.trans c,R2,m,y⟩⟩)⟩)⟩)
def Zj:cZ:=λ_ S k=>k (.ob S.length) (S++[.rN []])
def QL:QE X (.Dict [] [] pos) Zj:=cW Rg λU H Q ⟨Y,S,Z,k,R,D,q,hk⟩ p a=>a13 R hk p a (o:=.rN []) ⟨[],M,.nil⟩ q
def ZU (e d g:cZ):nL:=λE Z S=>g Z S λy f=>e Z f λo c=>d Z c λi b=>∃n l a x,o=.ob n/\b[n]?=some (.rN l)/\Ob i=some a/\y=.t x/\l.length<sizeLine/\E.nx Z (b.set n (.rN (dput l a x)))
theorem D6 (hu:X.A.units+1<cLine)(ho:QE X o to)(hi:QE X i ti)(T:QE X value tv)(hs:autoParam (swapsWith value (some (.Subscript o i pos')) pos.line X.env=pure false) zi):QS X (.Assign [.Subscript o i pos'] value pos) (ZU to ti tv):=
 lH (VU hu ho hi T hs) (by rintro D U H ⟨Y,S,Z,E,R,e,q,P⟩;exact⟨Y,S,Z,_,R,e,q,(by rintro v H1 ⟨O,G,d1,f,B,V,J⟩;exact⟨O,G,Z,_,B,e.gr f,J,(by rintro w H2 ⟨Y2,r,d2,d,R2,N,C⟩;exact   ⟨Y2,r,Z,_,R2,e.gr (f.trans d),C,(by
   rintro z H3 ⟨ρ3,S3,d3,g,h,Q,n,l,b,x,t,F,y,h4,K,W⟩;subst t h4;obtain⟨a,j,L⟩:=N.gr g;obtain⟨c,s,p⟩:=h.ok n a _ j F;have I:c.length<sizeLine:=by rw[<- jaZ p];exact K
   obtain⟨R4,m⟩:=h.put (o:=.dK (putK c b v)) (u:=.rN (dput l b x)) j ⟨_,M,Td p b (V.gr (d.trans g))⟩;refine⟨a,_,L,by rw[tV Q y];exact Uv.k s I,P.nx _ _ ⟨ρ3,_,Z,((f.trans d).trans g).trans m,R4,(e.gr ((f.trans d).trans g)).gr m,W⟩⟩)⟩)⟩)⟩)
def U0 (f e h:cZ):cZ:=λZ S k=>f Z S λo b=>∃n g,o=.ob n/\b[n]?=some (.rN g)/\e Z b λi d=>h Z d λz c=>∃l a,c[n]?=some (.rN l)/\Ob i=some a/\k (match i7 l a with | some x=>.t x | none=>z) c
theorem LR (hu:X.A.units+1<cLine)(ho:QE X o to)(he:QE X e te)(F:QE X f tx)(m:M2 X o "get" BM e f cpos):QE X (.Call (.Attribute o "get" BM) [e,f] [] cpos) (U0 to te tx):=
 cW (Rh hu ho he F m) (by rintro U H Q ⟨Y,S,Z,k,R,D,q,hk⟩;exact⟨Y,S,Z,_,R,D,q,(by
  rintro v H1 ⟨Y1,P,d1,p,B,r1,n,l0,J,O,T⟩;subst J;obtain⟨a,y,W⟩:=r1;obtain⟨i,I,e3⟩:=B.ok n a _ y O;refine⟨a,W,.inl ⟨i,.inl I⟩,Y1,P,Z,_,B,D.gr p,T,λw H2 ⟨Y2,G,d2,h,R2,r2,N⟩=>⟨Y2,G,Z,_,R2,D.gr (p.trans h),N,?_⟩⟩;rintro z H3 ⟨ρ3,E,V,r,j,r3,l,b,K,h4,g⟩;obtain⟨d,f1,C⟩:=j.ok n a _ ((h.trans r).at y) K;refine⟨sI d b,by rw[tV (r2.gr r) h4];exact FA.k f1,?_⟩;have s:=(p.trans h).trans r;cases c:i7 l b with
  |none=>rw[c] at g;rw[(t9 C b).2 c];exact hk _ _ ⟨ρ3,E,V,s,j,r3,g⟩
  |some x=>
   rw[c] at g;obtain⟨u,L,i2⟩:=(t9 C b).1 x c;rw[L];exact hk _ _ ⟨ρ3,E,.t x,s,j,i2,g⟩)⟩)
end
noncomputable def vD (x:Str):jcB->jcB
 |[]=>[x]
 |y::r=>if lt x y=true then x::y::r else if x=y then y::r else y::vD x r
def su:jcB->jcB:=List.foldr vD []
theorem Am {x z:Str}:∀{l:jcB},z∈vD x l↔z=x\/z∈l
 |[]=>by simp[vD]
 |y::r=>by
  unfold vD;by_cases h:lt x y=true
  .rw[jab h,jae]
  .rw[jaa h];by_cases e:x=y
   .subst e;rw[jab M,jae];constructor
    .intro q;exact .inr q
    .rintro(q | q)
     .exact .inl q
     .exact q
   .rw[jaa e,jae,Am,jae];constructor
    .rintro(q | q | q)
     .exact .inr (.inl q)
     .exact .inl q
     .exact .inr (.inr q)
    .rintro(q | q | q)
     .exact .inr (.inl q)
     .exact .inl q
     .exact .inr (.inr q)
theorem gM {z:Str}:∀{l:jcB},z∈su l↔z∈l
 |[]=>Iff.rfl
 |x::r=>by
  show z∈vD x (su r)↔_;rw[Am,gM,jae]
theorem Mm {x:Str}:∀{l:jcB},l.Pairwise (λa b=>lt a b=true)->(vD x l).Pairwise λa b=>lt a b=true
 |[],_=>by unfold vD;simp
 |y::r,h=>by
  unfold vD;by_cases e:lt x y=true
  .rw[jab e];refine jbr.mpr ⟨λz c=>?_,h⟩;rcases jae.mp c with rfl | c
   .exact e
   .exact lt_trans e ((jbr.mp h).1 z c)
  .rw[jaa e];by_cases q:x=y
   .rw[jab q];exact h
   .rw[jaa q];refine jbr.mpr ⟨λz c=>?_,Mm (jbr.mp h).2⟩;rcases Am.mp c with rfl | c
    .rcases Et z y with a | a | a
     .exact absurd a e
     .exact absurd a q
     .exact a
    .exact(jbr.mp h).1 z c
theorem uY:∀(l:jcB),(su l).Pairwise λa b=>lt a b=true
 |[]=>.nil
 |x::r=>Mm (uY r)
def Zw {l ys:jcB}(h:ys.Pairwise (λa b=>lt b a=false))(n:ys.Nodup)(m:∀x,x∈ys↔x∈l):ys=su l:=pL (Gf h n) (uY l) λx=>(m x).trans gM.symm
def Ip {l m:jcB}(h:∀x,x∈l↔x∈m):su l=su m:=pL (uY l) (uY m) λx=>(gM.trans (h x)).trans gM.symm
def Qg:M6
 |[.ob n],S,k=>∃l a,S[n]?=some (.rN l)/\l.map (·.1)=List.map (Sum.inr:Str->Key) a/\a.Nodup/\l.length<64/\k (.lst ((su a).map T.str)) S
 |_,_,_=>False
section
variable {X:Cx}{e f:Expr}{te tf:cZ}{p1 p2 p3 p4 p5 pos pos':Pos}
def R8 {K:Frag}{G:Hp}{l:List (Key×T)}{kvs:List (Key×V)}(r:YT K G l kvs):kvs.map (·.1)=l.map (·.1):=by
 induction r with
 |nil=>rfl
 |cons h t a=>rw[jaf,jaf,a,h.1]
def MT (g:X.calm=true):Call3 X (.builtin "sorted") Qg:=by
 refine iL (EV g) ?_;rintro o H Q ⟨Y,S,n,k,R,i,q,hk⟩;unfold Qg at q;split at q
 .obtain⟨l,ss,h1,h2,h3,h4,h5⟩:=q;obtain⟨v,rfl,a,h,rfl⟩:=i.one;obtain⟨b,f,c⟩:=R.ok _ a _ h h1;refine⟨a,b,ss,M,f,by rw[R8 c];exact h2,by rw[<- jaZ c];exact h4,λj p m d e=>?_⟩;rw[Zw e (d.nodup_iff.mpr h3) (λx=>d.mem_iff)];exact EF R hk (bS.ofStrs _) h5 j m
 .exact q.elim
end
theorem GY (x:Str):∀l:jcB,(vD x l).length<=l.length+1
 |[]=>by simp[vD]
 |y::r=>by
  unfold vD;split
  .simp
  .split
   .simp
   .have:=GY x r;simp only[jam];lia
theorem s8:∀l:jcB,(su l).length<=l.length
 |[]=>jaq _
 |x::r=>by
  have b:=GY x (su r);have a:=s8 r;show(vD x (su r)).length<=r.length+1;lia
def uE {k:Nat}{A:Around}(a:dP k A):A.units+1+40<cLine:=by have:=a.un;lia
section
variable {P:Program}{w:World}{K:Frag}{mg:Str->jcG}{base:Heap}{j k:Nat}{x m:Str}{C:Addr}{ps:jcB}
def Dn.up {sp:Sp}(h:Dn P w K mg base j x ps sp)(l:j<=k):Dn P w K mg base k x ps sp:=let⟨f,fd,F,a⟩:=h;⟨f,fd,F.mono l,a⟩
def Mt.up {sp:Sp}(h:Mt P w K mg base j C m ps sp)(l:j<=k):Mt P w K mg base k C m ps sp:=let⟨f,fd,F,a⟩:=h;⟨f,fd,F.mono l,a⟩
def Ms.up {n:Nat}{cl:Nat->Addr}{sp:Nat->lV}(h:Ms P w K mg base j n cl m ps sp)(l:j<=k):Ms P w K mg base k n cl m ps sp:=λi a=>Mt.up (h i a) l
def M9 (P:Program)(w:World)(K:Frag)(b:Str->jcG)(a:Heap)(k:Nat)(C:Addr)(x:Str)(c:jcB)(sp:lV):Prop:=∃j,j<k/\Mkr P w K b a j C x c sp
def M9.up {sp:lV}(h:M9 P w K mg base j C x ps sp)(l:j<=k):M9 P w K mg base k C x ps sp:=let⟨i,a,b⟩:=h;⟨i,jaR a l,b⟩
end
section
variable {X:Cx}{o e i:Expr}{es:jcE}{ta te:cZ}{t:rT}{f m x:Str}{pos BM p:Pos}{k:Nat}{ps:jcB}{sp:lV}{C:Addr}
theorem qe (F:M9 X.prog X.w X.K X.mg X.base k C x ps sp)(g:dP k X.A)(c:Gl X x)(d:QA X (e::es) t)(f:autoParam (notStar e=true) zi)(b:autoParam (es.all notStar=true) zi)(a:autoParam ((x==("__debug__":Str))=false) zn) :
  QE X (.Call (.Name x p) (e::es) [] pos) (uV C sp t):=let⟨_,hj,F⟩:=F;a0c F (g.mono hj) c d f b a
theorem Yc (F:M9 X.prog X.w X.K X.mg X.base k C x ps sp)(g:dP k X.A)(c:Gl X x)(d:QA X (e::es) t)(f:autoParam (notStar e=true) zi)(b:autoParam (es.all notStar=true) zi)(a:autoParam ((x==("__debug__":Str))=false) zn) :
  QE X (.Call (.Name x p) (e::es) [] pos) (Pg C sp t):=let⟨_,hj,F⟩:=F;VF F (g.mono hj) c d f b a
structure Cm (P:Program)(w:World)(K:Frag)(mg:Str->Option Value)(base:Heap)(k:Nat)(x m:Str)(ps:List Str)(sp:lV):Prop where
 ok:∃(C f:Addr)(fd:FuncData),gi P w K mg base yw k f fd ps (uM K sp)/\mg x=some (.ref C)/\specialIn K (.ref C) "__getattribute__"=some (some (.builtin "type.__getattribute__"))/\readsIn K C (.type "type")=true/\
  findCls K (.ref C) (.type "type") m=some (.val (.ref f))/\keepIn K (.ref f)=true/\Binds K fd ps []
theorem mT {pl:Sem Bool}(F:Cm X.prog X.w X.K X.mg X.base k x m ps sp)(o:dP k X.A)(u:Gl X x)(b:QA X (e::es) t)(c:autoParam (notStar e=true) zi)(s:autoParam (es.all notStar=true) zi)(a:autoParam ((x==("__debug__":Str))=false) zn)
  (y:autoParam (eval (.Call (.Attribute (.Name x p) m BM) (e::es) [] pos) X.env=(do
   let ov <- eval (.Name x p) X.env
   standAt BM.atName
   let(f,first) <- holding [ov] (getMethod ov m pl)
   callWith pos f first (backTo pos (starEach (e::es) X.env)) (backToKw pos (keywordEach [] X.env)))) zi) :
  QE X (.Call (.Attribute (.Name x p) m BM) (e::es) [] pos) (iX sp t):=by
 obtain⟨C,f,I,F,B,n,g,j,hk,r⟩:=F.ok;refine cW (V8 u B n g j rfl hk F o r zE b (iF c) (iO s) a y) ?_;rintro U H Q ⟨Y,S,Z,k,R,D,q,hk⟩;refine⟨Y,S,Z,_,R,D,q,?_⟩;rintro v l ⟨G,J,d,E,h,i,z⟩;show uM X.K sp (v++[]) l Q E0;rw[jaD];exact R6 E h i z hk
def a09:D->aI->KD->Prop
 |.t (.v (.int i)),S,k=>k (.int (-i)) S
 |_,_,_=>False
def a3q (t:cZ):cZ:=λZ S k=>t Z S λd a=>a09 d a k
theorem zB (h:QE X e te):QE X (.UnaryOp .USub e pos) (a3q te):=cW (a4b Za h) (by rintro U H Q ⟨Y,S,Z,k,R,D,q,hk⟩;exact⟨Y,S,Z,_,R,D,q,(by
 rintro v j ⟨c,b,d,i,g,f,a⟩
 replace a:a09 d b k:=a
 unfold a09 at a;split at a
 .exact⟨_,aM f,hk _ _ ⟨c,b,_,i,g,bz,a⟩⟩
 .exact a.elim)⟩)
def D8 {xs:jcB}(h:Ym e=some xs):QE X e (λ_ S k=>xs.length<=sizeLine/\k (.lst (xs.map T.str)) S):=cW (V2 h) (by rintro U H Q ⟨Y,S,Z,k,R,D,q,hk⟩;exact⟨by rw[jad];exact q.1,EF R hk (bS.ofStrs xs) q.2⟩)
def Z7 {a:List Stmt}{h₀:ExceptHandler}{hs:List ExceptHandler}{t:nL}(b:OQ X a t)(c:∀e s,¬ X.xe e s):QS X (.Try a (h₀::hs) [] [] pos) t:=a0o c b
end
section
variable {G:aI->Prop}{g:vQ}{tb:nL}{tt:nG}{te:cZ}{δ0:Sl}
theorem pU {E:jV}{Z:Sl}{S:aI}{a:List D}(I:Nat->Sl->aI->Prop)(c:I 0 Z S)
  (hs:∀i x Z S (N:KS),a[i]?=some x->I i Z S->(∀Z' S',I (i+1) Z' S'->N Z' S')->G S/\g x Z S λδ1 S1=>tb {E with nx:=N,ct:=N,bk:=E.nx } δ1 S1)
  (j:∀Z S,I a.length Z S->G S/\E.nx Z S):BA G g tb a E Z S:=by
 have f:∀(n i:Nat)(Z:Sl)(S:aI),a.length - i=n->i<=a.length->I i Z S->BA G g tb (a.drop i) E Z S:=by
  intro n
  induction n with
  |zero=>
   intro i Z S e k h;have:i=a.length:=by lia
   subst this;rw[List.drop_length];exact j Z S h
  |succ n d=>
   intro i Z S e k h;have b:i<a.length:=by lia
   rw[jbD b];exact hs i a[i] Z S _ (jaK b) h λZ' S' l=>d (i+1) Z' S' (by lia) b l
 have:=f _ 0 Z S rfl (jaN _) c;rwa[List.drop_zero] at this
def elem (g:vQ)(tt:nG)(te:cZ)(δ0:Sl)(x:D)(S:aI)(k:Option T->aI->Prop):Prop:=
 g x δ0 S λδ1 c=>tt δ1 c λb a=>if b=true then te δ1 a λd e=>∃y,d=.t y/\k (some y) e else k none a
def a5N (ys:List T):Option T->List T
 |some y=>ys++[y]
 |none=>ys
theorem Tu {k:List T->aI->Prop}{ys:List T}{S:aI}{a:List D}(I:Nat->List T->aI->Prop)(j:I 0 ys S)
  (hs:∀i x ys S (d:Option T->aI->Prop),a[i]?=some x->I i ys S->(∀o S',I (i+1) (a5N ys o) S'->d o S')->G S/\ys.length<sizeLine/\elem g tt te δ0 x S d)
  (q:∀ys S,I a.length ys S->G S/\k ys S):ff G g tt te δ0 a S ys k:=by
 have m:∀(n i:Nat)(ys:List T)(S:aI),a.length - i=n->i<=a.length->I i ys S->ff G g tt te δ0 (a.drop i) S ys k:=by
  intro n
  induction n with
  |zero=>
   intro i ys S e r h;have:i=a.length:=by lia
   subst this;rw[List.drop_length];exact q ys S h
  |succ n c=>
   intro i ys S e r h;have b:i<a.length:=by lia
   rw[jbD b];obtain⟨l,s,p⟩:=hs i a[i] ys S (λo S'=>match o with | some y=>ys.length<sizeLine/\ff G g tt te δ0 (a.drop (i+1)) S' (ys++[y]) k | none=>ff G g tt te δ0 (a.drop (i+1)) S' ys k) (jaK b) h λo S' f=>by
    cases o with
    |none=>exact c (i+1) ys S' (by lia) b f
    |some y=>exact⟨(hs i a[i] ys S (λ_ _=>True) (jaK b) h λ_ _ _=>trivial).2.1,c (i+1) (ys++[y]) S' (by lia) b f⟩
   exact⟨l,p⟩
 have:=m _ 0 ys S rfl (jaN _) j;rwa[List.drop_zero] at this
end
abbrev Sm:=List (Str×Int)×Int
def wt (l:List (Str×Int))(x:Str):Int:=((l.filter λp=>decide (p.1=x)).map (·.2)).sum
def norm (l:List (Str×Int)):List (Str×Int):=((su (l.map (·.1))).map λx=>(x,wt l x)).filter λp=>decide (p.2≠0)
def sumOf (l:List (Str×Int))(n:Int):Sm:=(norm l,n)
def pT (p:Str×Int):T:=.tup [.str p.1,.int p.2]
def yy (x:Str):wt [] x=0:=rfl
def fM (p:Str×Int)(l:List (Str×Int))(x:Str):wt (p::l) x=(if p.1=x then p.2 else 0)+wt l x:=by
 unfold wt;by_cases h:p.1=x
 .rw[jcj (by simpa using h),jaf,ja9,jab h]
 .rw[jck (by simpa using h),jaa h];lia
def OX (l m:List (Str×Int))(x:Str):wt (l++m) x=wt l x+wt m x:=by
 induction l with
 |nil=>rw[yy];simp
 |cons p r a=>rw[jaS,fM,fM,a];lia
def lZ {l:List (Str×Int)}{x:Str}(h:x∉l.map (·.1)):wt l x=0:=by
 induction l with
 |nil=>rfl
 |cons p r a=>
  rw[jaf,jae,not_or] at h;rw[fM,jaa (λe=>h.1 e.symm),a h.2];rfl
structure AN (l:List (Str×Int))(d:List (Key×T)):Prop where
 val:∀x,i7 d (.inr x)=if x∈l.map (·.1) then some (.int (wt l x)) else none
 keys:∃ss:List Str,d.map (·.1)=ss.map Sum.inr/\ss.Nodup/\∀x,x∈ss↔x∈l.map (·.1)
 len:d.length<=l.length
def Hf (d:List (Key×T))(a b:Key)(v:T):i7 (dput d a v) b=if a=b then some v else i7 d b:=by
 unfold dput;by_cases h:(d.any λp=>decide (p.1=a))=true
 .rw[jab h]
  induction d with
  |nil=>simp at h
  |cons p r f=>
   rw[jaf];unfold i7 at f ⊢;by_cases e:p.1=a
   .rw[jab e];by_cases q:a=b
    .subst q;rw[jab rfl];simp[jbn,e]
    .rw[jaa q];have j:¬ p.1=b:=λz=>q (e ▸ z);rw[jbT (by simpa using j),jbT (by simpa using j)];by_cases g:(r.any λp=>decide (p.1=a))=true
     .rw[f g,jaa q]
     .have:r.map (λp=>if p.1=a then(p.1,v) else p)=r:=by
       have i:∀z∈r,¬ z.1=a:=λz c e=>g (jbW.mpr ⟨z,c,by simpa using e⟩);have:∀(r:List (Key×T)),(∀z∈r,¬ z.1=a)->r.map (λp=>if p.1=a then(p.1,v) else p)=r:=by
        intro r
        induction r with
        |nil=>intro _;rfl
        |cons z s f=>intro c;rw[jaf,jaa (c z jak),f λy k=>c y (jaj _ k)]
       exact this r i
      rw[this]
   .rw[jaa e];have g:(r.any λp=>decide (p.1=a))=true:=by
     rw[jbi,jai e,Bool.false_or] at h;exact h
    by_cases q:p.1=b
    .have:¬ a=b:=λz=>e (q.trans z.symm);rw[jaa this,jco (by simpa using q),jco (by simpa using q)]
    .rw[jbT (by simpa using q),jbT (by simpa using q)];exact f g
 .rw[jaa h];unfold i7;have i:∀z∈d,¬ z.1=a:=λz c e=>h (jbW.mpr ⟨z,c,by simpa using e⟩);by_cases q:a=b
  .subst q;rw[jab M,List.find?_append];have:d.find? (λp=>decide (p.1=a))=none:=List.find?_eq_none.mpr λz c=>by simpa using i z c
   rw[this];simp
  .rw[jaa q,List.find?_append];have:([(a,v)]:List (Key×T)).find? (λp=>decide (p.1=b))=none:=by simp[jbn,q]
   rw[this];simp
def CH (d:List (Key×T))(a:Key)(v:T):(a∈d.map (·.1)->(dput d a v).map (·.1)=d.map (·.1))/\(a∉d.map (·.1)->(dput d a v).map (·.1)=d.map (·.1)++[a]):=by
 unfold dput;by_cases h:(d.any λp=>decide (p.1=a))=true
 .obtain⟨z,c,e⟩:=jbW.mp h;have b:a∈d.map (·.1):=jap.mpr ⟨z,c,by simpa using e⟩;refine⟨λ_=>?_,λz=>absurd b z⟩;rw[jab h,jas];refine jbH λp _=>?_;show(if p.1=a then(p.1,v) else p).1=p.1;split<;>rfl
 .have b:a∉d.map (·.1):=λb=>by
   obtain⟨z,c,e⟩:=jap.mp b;exact h (jbW.mpr ⟨z,c,by simpa using e⟩)
  refine⟨λz=>absurd z b,λ_=>?_⟩;rw[jaa h,jau];rfl
def AN.nil:AN [] []:=⟨λx=>by simp[i7],⟨[],M,.nil,λx=>by simp⟩,jaq _⟩
def AN.snoc {l:List (Str×Int)}{d:List (Key×T)}(h:AN l d)(x:Str)(w:Int){i:Int}(n:i=wt l x+w):AN (l++[(x,w)]) (dput d (.inr x) (.int i)):=by
 obtain⟨c,p,g,f⟩:=h.keys;refine⟨λy=>?_,?_,?_⟩
 .rw[Hf,h.val y,jau,OX,fM,yy];by_cases e:x=y
  .subst e;rw[jab M,jab (by simp),jab M,n];congr 3;lia
  .have:¬(Sum.inr x:Key)=Sum.inr y:=λz=>e (Sum.inr.inj z);rw[jaa this,jaa e];by_cases m:y∈l.map (·.1)
   .rw[jab m,jab (jbw _ m)];congr 3;lia
   .rw[jaa m,jaa];intro z;rcases jan.mp z with z | z
    .exact m z
    .simp at z;exact e z.symm
 .obtain⟨k1,k2⟩:=CH d (.inr x) (.int i);rw[p] at k1 k2;by_cases m:(Sum.inr x:Key)∈c.map Sum.inr
  .have mx:x∈c:=by
    obtain⟨y,j,e⟩:=jap.mp m;rw[<- Sum.inr.inj e];exact j
   refine⟨c,k1 m,g,λy=>?_⟩;rw[f y,jau,jan];constructor
   .exact .inl
   .rintro(z | z)
    .exact z
    .simp at z;subst z;exact(f y).mp mx
  .have mx:x∉c:=λz=>m (jap.mpr ⟨x,z,M⟩);refine⟨c++[x],by rw[k2 m];simp,?_,λy=>?_⟩
   .rw[jbA];refine⟨g,by simp,λa o b k=>?_⟩;rw[jal.mp k];exact λz=>mx (z ▸ o)
   .rw[jau,jan,jan,f y];simp
 .have:(dput d (.inr x) (.int i)).length<=d.length+1:=by
   unfold dput;split
   .simp
   .simp
  have:=h.len;simp;lia
def sz (n:Nat)(h:autoParam (n<=1000) zn):n<=sizeLine:=jay h (by rw[ja3];decide)
def cH {n:Nat}(h:n<=1000):n<=sizeLine:=sz n h
def nq {n:Nat}(h:n<=1000):n<sizeLine:=Np h
def av {S:aI}{o:O}:(S++[o])[S.length]?=some o:=by simp
def bO {S:aI}{o a:O}:(S++[o]).set S.length a=S++[a]:=by simp
def made {S:aI}{C:Addr}{a:jcB}{l:List T}{o:O}{k:KD}(h:k (.t (.ins C a l)) S):Yl C S k .dD ((S++[o]).set S.length (.ins C a (l.map .t))):=⟨M,a,l,bO,h⟩
def WI (l:List (Str×Int)):(su (l.map (·.1))).filterMap (λx=>if wt l x≠0 then some (pT (x,wt l x)) else none)=(norm l).map pT:=by
 unfold norm;generalize su (l.map (·.1))=r
 induction r with
 |nil=>rfl
 |cons a r b=>
  rw[jaf];by_cases h:wt l a≠0
  .rw[jcg (f:=λx=>if wt l x≠0 then some (pT (x,wt l x)) else none) (jab h),b,jcj (by simpa using h)];rfl
  .rw[List.filterMap_cons_none (f:=λx=>if wt l x≠0 then some (pT (x,wt l x)) else none) (jaa h),b,jck (by simpa using h)]
def RN (l:List (Str×Int)):(norm l).length<=l.length:=by
 unfold norm;have b:=List.length_filter_le (λp:Str×Int=>decide (p.2≠0)) ((su (l.map (·.1))).map λx=>(x,wt l x));have a:=s8 (l.map (·.1));rw[jad] at b a;lia
def gC {a b:Int}:decide (V.int a=V.int b)=decide (a=b):=by
 rw[jaY];exact⟨λh=>V.int.inj h,λh=>by rw[h]⟩
def De {a b:Str}:decide (V.str a=V.str b)=decide (a=b):=by
 rw[jaY];exact⟨λh=>V.str.inj h,λh=>by rw[h]⟩
section
variable {S loc:aI}{d:D}{l:List T}
def Mb (h:lq S d=some l):lq (S++loc) d=some l:=by
 cases d with
 |t x=>cases x<;>exact h
 |ob n=>
  have h:(match S[n]? with | some (.lst l)=>some l | _=>none)=some l:=h;show(match(S++loc)[n]? with | some (.lst l)=>some l | _=>none)=some l;cases q:S[n]? with
  |none=>rw[q] at h;cases h
  |some o=>
   rw[jaL (jar.mp q).1,q];rw[q] at h;exact h
def sF (h:xq S d=some l):d=.tup l\/lq S d=some l:=by
 cases d with
 |ob n=>exact .inr h
 |t x=>
  cases x with
  |tup m=>left;have h:some m=some l:=h;injection h with h;rw[h]
  |_=>exact .inr h
def XO (h:xq S d=some l):xq (S++loc) d=some l:=by
 rcases sF h with rfl | h
 .rfl
 .cases d with
  |ob n=>exact Mb h
  |t x=>
   cases x with
   |tup m=>cases h
   |_=>exact h
def qm (h:xq S d=some l):sq S d=some l:=by
 rcases sF h with rfl | h
 .rfl
 .cases d with
  |ob n=>exact h
  |t x=>
   cases x with
   |tup m=>cases h
   |Cq m=>cases h
   |_=>exact h
def uo {n:Nat}{o:O}(h:S[n]?=some o):(S++loc)[n]?=some o:=by rw[jaL (jar.mp h).1];exact h
def Ss {k:List D->(aI->Prop)->aI->Prop}(h:xq S d=some l)(hk:∀G:aI->Prop,(∀loc,G (S++loc))->k (l.map .t) G (S++loc)):JP d (S++loc) k:=by
 rcases sF h with rfl | h
 .exact .inl ⟨l,.inl M,hk _ λ_=>trivial⟩
 .cases d with
  |t x=>
   cases x with
   |lst m=>
    have h:some m=some l:=h;injection h with h
    subst h;exact .inl ⟨m,.inr M,hk _ λ_=>trivial⟩
   |_=>cases h
  |ob n=>
   have a:(match S[n]? with | some (.lst l)=>some l | _=>none)=some l:=h;cases q:S[n]? with
   |none=>rw[q] at a;cases a
   |some o=>
    rw[q] at a;cases o with
    |lst m=>
     have a:some m=some l:=a;injection a with a
     subst a;exact .inr ⟨n,m,M,uo q,hk _ λloc=>uo q⟩
    |_=>cases a
def Su {k:List D->(aI->Prop)->aI->Prop}(h:xq S d=some l)(hk:∀G:aI->Prop,(∀loc,G (S++loc))->k (l.map .t) G S):JP d S k:=by
 have:=Ss (loc:=[]) (k:=k) h (by simpa using hk);simpa using this
def dM {k:List D->(aI->Prop)->aI->Prop}(hk:k (l.map .t) (λ_=>True) S):JP (.tup l) S k:=.inl ⟨l,.inl M,hk⟩
def ia {k:List D->(aI->Prop)->aI->Prop}(hk:k (l.map .t) (λ_=>True) S):JP (.lst l) S k:=.inl ⟨l,.inr M,hk⟩
end
theorem rQ {α:Type}{G:aI->Prop}{g:vQ}{tt:nG}{te:cZ}{δ0:Sl}{k:List T->aI->Prop}{S:aI}{l:List α}(c:α->T)(f:α->Option T)(h:G S)(n:l.length<=sizeLine)(hs:∀x∈l,∀k':Option T->aI->Prop,k' (f x) S->elem g tt te δ0 (.t (c x)) S k')
  (hk:k (l.filterMap f) S):ff G g tt te δ0 ((l.map c).map .t) S [] k:=by
 have p:∀(r:List α)(b:List T),b.length+r.length<=sizeLine->(∀x∈r,∀k':Option T->aI->Prop,k' (f x) S->elem g tt te δ0 (.t (c x)) S k')->k (b++r.filterMap f) S->ff G g tt te δ0 ((r.map c).map .t) S b k:=by
  intro r
  induction r with
  |nil=>intro b _ _ q;rw[List.filterMap_nil,jaD] at q;exact⟨h,q⟩
  |cons a r j=>
   intro b m hs q;rw[jam] at m;refine⟨h,hs a jak (λo i=>match o with | some y=>b.length<sizeLine/\ff G g tt te δ0 ((r.map c).map .t) i (b++[y]) k | none=>ff G g tt te δ0 ((r.map c).map .t) i b k) ?_⟩;cases e:f a with
   |none=>exact j b (by lia) (λx d=>hs x (jaj _ d)) (by rw[List.filterMap_cons_none e] at q;exact q)
   |some y=>exact⟨by lia,j (b++[y]) (by simp;lia) (λx d=>hs x (jaj _ d)) (by rw[jcg e] at q;simpa using q)⟩
 exact p l [] (by simpa using n) hs (by simpa using hk)
def Xd {α β:Type}(f:α->β)(l:List α):l.filterMap (λx=>some (f x))=l.map f:=by
 induction l with
 |nil=>rfl
 |cons a r b=>rw[jcg (f:=λx=>some (f x)) M,b];rfl
theorem cG {α:Type}{G:aI->Prop}{g:vQ}{tt:nG}{te:cZ}{δ0:Sl}{k:List T->aI->Prop}{S:aI}{l:List α}(c f:α->T)(b:G S)(a:l.length<=sizeLine)(hs:∀x∈l,∀k':Option T->aI->Prop,k' (some (f x)) S->elem g tt te δ0 (.t (c x)) S k')
  (hk:k (l.map f) S):ff G g tt te δ0 ((l.map c).map .t) S [] k:=rQ c (λx=>some (f x)) b a hs (by rw[Xd];exact hk)
theorem nB {α:Type}{G:aI->Prop}{g:vQ}{b:nL}{E:jV}{Z:Sl}{S:aI}{l:List α}(c:α->T)(I:List α->Sl->aI->Prop)(d:I [] Z S)
  (hs:∀pre x post Z S (N:KS),l=pre++x::post->I pre Z S->(∀Z' S',I (pre++[x]) Z' S'->N Z' S')->G S/\g (.t (c x)) Z S λδ1 S1=>b {E with nx:=N,ct:=N,bk:=E.nx } δ1 S1)
  (f:∀Z S,I l Z S->G S/\E.nx Z S):BA G g b ((l.map c).map .t) E Z S:=by
 have k:∀(r pre:List α)(Z:Sl)(S:aI),l=pre++r->I pre Z S->BA G g b ((r.map c).map .t) E Z S:=by
  intro r
  induction r with
  |nil=>intro pre Z S e h;rw[jaD] at e;subst e;exact f Z S h
  |cons a r i=>intro pre Z S e h;exact hs pre a r Z S _ e h λZ' S' j=>i (pre++[a]) Z' S' (by rw[e];simp) j
 exact k l [] Z S rfl d
def ln1 {l:List T}(h:l.length=1):∃a,l=[a]:=by
 match l,h with
 |[a],_=>exact⟨a,M⟩
def ln2 {l:List T}(h:l.length=2):∃a b,l=[a,b]:=by
 match l,h with
 |[a,b],_=>exact⟨a,b,M⟩
def ln3 {l:List T}(h:l.length=3):∃a b c,l=[a,b,c]:=by
 match l,h with
 |[a,b,c],_=>exact⟨a,b,c,M⟩
def ln4 {l:List T}(h:l.length=4):∃a b c d,l=[a,b,c,d]:=by
 match l,h with
 |[a,b,c,d],_=>exact⟨a,b,c,d,M⟩
def ln5 {l:List T}(h:l.length=5):∃a b c d e,l=[a,b,c,d,e]:=by
 match l,h with
 |[a,b,c,d,e],_=>exact⟨a,b,c,d,e,M⟩
def eZ {S:aI}{i:Nat}{o:O}(h:i<S.length):(S.set i o)[i]?=some o:=jaJ h
def oW {S loc:aI}{j:Nat}{l:List T}(h:loc[j]?=some (.lst l)):lq (S++loc) (.ob (S.length+j))=some l:=by
 show(match(S++loc)[S.length+j]? with | some (.lst l)=>some l | _=>none)=some l;rw[aZ,h]
inductive Dw (C:Addr) (ns:List Str) (ds:List D) (S:aI) (k:KD):Prop
 |mk (n:Nat) (l:List T):ds=.ob n::l.map .t->l.length=ns.length->S[n]?=some (.ins C [] [])->k .dD (S.set n (.ins C ns (l.map .t)))->Dw C ns ds S k
inductive nu (K:Frag) (ds:List D) (S:aI) (k:KD):Prop
 |mk (n:Nat) (x:T) (C:Addr):ds=[.ob n,.t x]->S[n]?=some (.ins C [] [])->lB K C "at"->k .dD (S.set n (.ins C ["at"] ([x].map .t)))->nu K ds S k
def set_same {S:aI}{f:Nat}{o:O}(h:S[f]?=some o):S.set f o=S:=by
 obtain⟨b,a⟩:=jar.mp h;rw[<- a];exact List.set_getElem_self b
def dw {S a:aI}{d:D}{k:KD}(h:k d a):closes S.length d a k:=.inr (.inr (.inr h))
def aN {S:aI}{b:Nat}{C:Addr}{a:jcB}{l:List D}(h:S[b]?=some (.ins C a l)):iq S (.ob b)=some (C,a,l):=by
 show(match S[b]? with | some (.ins C a l)=>some (C,a,l) | _=>none)=_;rw[h]
def fX {S:aI}{b:Nat}{l:List T}(h:S[b]?=some (.lst l)):sq S (.ob b)=some l:=by
 unfold sq;show(match S[b]? with | some (.lst l)=>some l | _=>none)=_;rw[h]
def bG {S:aI}{b:Nat}{l:List T}(h:S[b]?=some (.lst l)):lq S (.ob b)=some l:=by
 show(match S[b]? with | some (.lst l)=>some l | _=>none)=_;rw[h]
def jy {S:aI}{i:Nat}{C:Addr}{g a:jcB}{l b:List D}(c:S[i]?=some (.ins C g l)){d:D}{m:List T}(h:xq S d=some m):xq (S.set i (.ins C a b)) d=some m:=by
 rcases sF h with rfl | h
 .rfl
 .have key:lq (S.set i (.ins C a b)) d=some m:=by
   unfold lq at h ⊢;split at h
   .exact h
   .rename_i n hq;have f:n≠i:=λe=>by subst e;rw[c] at h;cases h
    show(match(S.set i (O.ins C a b))[n]? with | some (.lst l)=>some l | _=>none)=some m;rw[ja1 (ja7 f)];exact h
   .cases h
  unfold xq;split
  .unfold lq at key;cases key
  .exact key
def NZ {l:jcB}:∀{m:jcB},l.Nodup->(∀x∈l,x∈m)->l.length<=m.length:=by
 induction l with
 |nil=>intro m _ _;exact jaN _
 |cons a r g=>
  intro m i d;obtain⟨h,f⟩:=jbh.mp i;have c:=d a jak;have:=g (m:=m.erase a) f λx b=>(List.mem_erase_of_ne λ(e:x=a)=>h (e ▸ b)).mpr (d x (jaj _ b));rw[List.length_erase_of_mem c] at this;have:=List.length_pos_of_mem c;rw[jam];lia
def ieq {a b:Int}(h:a=b):xor false (decide (V.int a=V.int b))=true:=by rw[gC,jah h];rfl
def ine {a b:Int}(h:a≠b):xor false (decide (V.int a=V.int b))=false:=by rw[gC,jai h];rfl
def seq {a b:Str}(h:a=b):xor false (decide (V.str a=V.str b))=true:=by rw[De,jah h];rfl
def LC {a b:Str}(h:a≠b):xor false (decide (V.str a=V.str b))=false:=by rw[De,jai h];rfl
def qF1 {a b:Str}(h:autoParam (a≠b) jp):D.bl (xor false (decide (V.str a=V.str b)))=D.bl false:=jac D.bl (LC h)
def qT1 {a b:Str}(h:autoParam (a=b) zi):D.bl (xor false (decide (V.str a=V.str b)))=D.bl true:=jac D.bl (seq h)
def qF2 {a b:Int}(h:autoParam (a≠b) va):D.bl (xor false (decide (V.int a=V.int b)))=D.bl false:=jac D.bl (ine h)
def qT2 {a b:Int}(h:autoParam (a=b) va):D.bl (xor false (decide (V.int a=V.int b)))=D.bl true:=jac D.bl (ieq h)
def a7Z {a b:Int}(h:a=b):xor true (decide (V.int a=V.int b))=false:=by rw[gC,jah h];rfl
def a7X {a b:Int}(h:a≠b):xor true (decide (V.int a=V.int b))=true:=by rw[gC,jai h];rfl
def P7:lV:=λ_ _ _=>False
def cP {S loc:aI}{L q:Nat}(h:S.length=L):(S++loc)[L+q]?=loc[q]?:=by subst h;exact aZ
theorem a2l {S:aI}{j:Nat}{l:List T}(c:Cl S):∀o∈S.set j (.lst l),ES S.length o:=λo a=>by
 rcases jcf a with h | rfl
 .exact c o h
 .trivial
def bN (S:aI)(d:Nat)(c m:Int):aI:=S.set d (.lst [.int c,.int m])
def Dq (S:aI)(d:Nat):Prop:=∃c m:Int,S[d]?=some (.lst [.int c,.int m])
section
variable {S loc:aI}{d:Nat}{a b c m:Int}
def Dq.lt (h:Dq S d):d<S.length:=by obtain⟨_,_,e⟩:=h;exact(jar.mp e).1
def a17 (h:d<S.length):(bN S d c m)[d]?=some (.lst [.int c,.int m]):=jaJ h
theorem Dq.bN (h:Dq S d):Dq (bN S d c m) d:=⟨c,m,a17 h.lt⟩
def cF:L3.bN (L3.bN S d a b) d c m=L3.bN S d c m:=jao ..
def bB:(bN S d c m).length=S.length:=jaP
def mX (h:d<S.length):bN (S++loc) d c m=bN S d c m++loc:=List.set_append_left _ _ h
def Dq.up (h:Dq S d):Dq (S++loc) d:=let⟨c,m,e⟩:=h;⟨c,m,uo e⟩
def Dq.self (h:Dq S d):∃c m,S=L3.bN S d c m:=let⟨c,m,e⟩:=h;⟨c,m,(set_same e).symm⟩
def rG {x:D}{N:jcB}(a:Dq S d)(h:lq S x=some (N.map T.str)):lq (bN S d c m) x=some (N.map T.str):=by
 cases x with
 |t x=>cases x<;>exact h
 |ob n=>
  obtain⟨g,m0,b⟩:=a;have h:(match S[n]? with | some (.lst l)=>some l | _=>none)=some (N.map T.str):=h;have f:n≠d:=λe=>by
   subst e;rw[b] at h;cases N with
   |nil=>cases h
   |cons y r=>have h:=ja2 h;cases h
  show(match(L3.bN S d c m)[n]? with | some (.lst l)=>some l | _=>none)=some (N.map T.str);unfold bN;rw[ja1 (ja7 f)];exact h
def Kf (a:Cl S):∀o∈bN S d c m,ES S.length o:=a2l a
def YO {x:T}{k:KD}(a:Cl S)(h:k (.t x) (bN S d c m)):closes S.length (.t x) (bN S d c m++loc) k:=.inl ⟨_,_,M,bB,Kf a,trivial,h⟩
theorem vK {n:Nat}{g:vQ}{tt:nG}{te:cZ}{δ0:Sl}{k:List T->aI->Prop}(p:Dq S d)(P:T->Prop)(q:n<=1000)
  (hs:∀(i:Nat) c m (e:Option T->aI->Prop),(∀y c' m',P y->e (some y) (bN S d c' m'))->elem g tt te δ0 (.int i) (bN S d c m) e)
  (hk:∀ys c m,ys.length=n->(∀y∈ys,P y)->k ys (bN S d c m)):ff (λ_=>True) g tt te δ0 ((List.range n).map λ(i:Nat)=>D.int i) (bN S d a b) [] k:=by
 refine Tu (λi ys f=>ys.length=i/\(∀y∈ys,P y)/\∃c m,f=L3.bN S d c m) ⟨M,λ_ h=>absurd h jaB,a,b,M⟩ ?_ ?_
 .rintro i x ys f e hx ⟨hl,hp,c,m,rfl⟩ hk';rw[jaF] at hx;have o:i<n:=by
   rcases Nat.lt_or_ge i n with h | h
   .exact h
   .rw[jb2 (by rw[jbt];exact h)] at hx;cases hx
  rw[jbx o] at hx;cases hx;refine⟨trivial,nq (by lia),hs i c m e λy c' m' l=>hk' _ _ ⟨by simp[a5N,hl],λz j=>?_,c',m',M⟩⟩;rcases jan.mp (show z∈ys++[y] from j) with h | h
  .exact hp z h
  .rw[jal.mp h];exact l
 .rintro ys f ⟨hl,hp,c,m,rfl⟩;rw[jad,jbt] at hl;exact⟨trivial,hk ys c m hl hp⟩
end
def Bu (l:jcB):T:=.lst (l.map T.str)
inductive P8  (ds:List D) (S:aI) (k:KD):Prop
 |mk (c j:Int):ds=[.int c,.int j]->(∀r:Int,0<=r->r<2147483399->k (.int r) S)->P8 ds S k
inductive IC  (ds:List D) (S:aI) (k:KD):Prop
 |mk (l:List Int) (j:Nat):ds=[.t (.Cq (l.map T.int)),.int j]->(∀r:Int,k (.int r) S)->IC ds S k
inductive ZE  (ds:List D) (S:aI) (k:KD):Prop
 |mk (d:Nat) (n:Int):ds=[.ob d,.int n]->Dq S d->0<n->(∀(r:Nat) c m,(r:Int)<n->k (.int r) (bN S d c m))->ZE ds S k
theorem ex_map {α β:Type}{f:α->β}{P:α->Prop}:∀{ys:List β},(∀y∈ys,∃x,y=f x/\P x)->∃xs:List α,ys=xs.map f/\xs.length=ys.length/\∀x∈xs,P x
 |[],_=>⟨[],M,M,λ_ h=>absurd h jaB⟩
 |y::r,h=>by
  obtain⟨x,e,p⟩:=h y jak;obtain⟨xs,b,c,d⟩:=ex_map (ys:=r) λz a=>h z (jaj _ a);exact⟨x::xs,by rw[e,b];rfl,by rw[jam,jam,c],λz a=>by
   rcases jae.mp a with rfl | a
   .exact p
   .exact d z a⟩
section
variable {S:aI}{x:D}{l:List T}{k:KD}
def yo {n:Nat}{a:Bool}(h:lq S x=some l)(hk:k (.bl (xor a (decide (l=[])))) S):eq3 n a x (.lst []) S k:=by
 cases x with
 |ob i=>exact⟨l,[],h,M,.inr ⟨M,hk⟩⟩
 |t x=>
  cases x with
  |lst m=>exact⟨l,[],h,M,.inr ⟨M,hk⟩⟩
  |_=>cases h
def a1m (h:lq S x=some l)(hk:k (.int l.length) S):WQ [x] S k:=by
 cases x with
 |ob i=>
  have h:(match S[i]? with | some (.lst l)=>some l | _=>none)=some l:=h;exact oe h hk
 |t x=>
  cases x with
  |lst m=>cases h;exact hk
  |_=>cases h
def Yr {i:Int}{y:T}(h:lq S x=some l)(e:jY l i=some y)(hk:k (.t y) S):W6 x (.int i) S k:=by
 cases x with
 |ob j=>
  have h:(match S[j]? with | some (.lst l)=>some l | _=>none)=some l:=h;exact oe h (oe e hk)
 |t x=>
  cases x with
  |lst m=>cases h;exact oe e hk
  |_=>cases h
end
def ja {N:jcB}{r:Nat}(h:(r:Int)<N.length):∃y,y∈N/\jY (N.map T.str) (r:Int)=some (T.str y):=by
 have h:r<N.length:=by lia
 exact⟨N[r],List.getElem_mem h,bK (by rw[jaF,jaK h];rfl)⟩
def a4K {S:aI}{d:D}{l:List T}(h:lq S d=some l):xq S d=some l:=by
 cases d with
 |ob i=>exact h
 |t x=>
  cases x with
  |lst m=>exact h
  |_=>cases h
def Es {a:jcB}(h:a≠[]):xor true (decide (a.map T.str=[]))=true:=by
 rw[jai (λe=>h (jb7.mp e))];rfl
theorem a5B {L j:Nat}{a b:aI}{o:O}{k:KD}(c:∀o∈a,ES L o)(d:a.length=L)(e:b[j]?=some o)(f:ES L o)(h:k (.ob L) (a++[o])):closes L (.ob (L+j)) (a++b) k:=
 .inr (.inl ⟨_,o,a,b,M,by lia,M,d,c,by rw[cP d];exact e,f,h⟩)
theorem ki:∀l:jcB,BB (l.map T.str)=some (l.map V.str)
 |[]=>rfl
 |a::r=>by
  show(match flT (T.str a),BB (r.map T.str) with | some v,some b=>some (v::b) | _,_=>none)=_;rw[ki r];rfl
def a1M {w:Str}{xs:jcB}{b:Bool}(h:decide (w∈xs)=b):xor false (H8 (V.str w) (xs.map V.str))=b:=by rw[mW,h];cases b<;>rfl
def a3L {l:List T}(h:l≠[]):HT.f6 l.length 0 (some 1)=1:=by
 have:=HT.pK l.length 0 1;have e:HT.f6 l.length 0 (some 1)=min 1 l.length:=this;rw[e];have:=ja0.mpr h;lia
def o4 {l:List T}(h:l≠[]):¬(HT.f6 l.length 0 (some 1)=0/\HT.f6 l.length l.length none=l.length):=by rw[a3L h];rintro⟨h,_⟩;cases h
def cJ {x:T}{l:List T}:k8 (x::l) (some 1) none=l:=by
 unfold k8;rw[a3L (by simp),HT.zy];simp
def jZ {α:Type}{x:α}{l:List α}:jY (x::l) 0=some x:=bK (j:=0) rfl
def Ma {α:Type}{f:α->T}{l:List α}(h:l=[]):xor true (decide (l.map f=[]))=false:=by subst h;rfl
def Ab {α:Type}{f:α->T}{l:List α}(h:l≠[]):xor true (decide (l.map f=[]))=true:=by
 rw[jai (λe=>h (jb7.mp e))];rfl
theorem ym {n:Nat}:∀{l:List T},(∀x∈l,Fl n x)->Uk n l
 |[],_=>by simp[Uk]
 |x::r,h=>by
  unfold Uk;exact⟨h x jak,ym λy a=>h y (jaj _ a)⟩
def a11 {n:Nat}{x:V}(h:fY x=true):Fl n (.v x):=by cases n<;>(unfold Fl;exact h)
def cR {n:Nat}{l:List T}(h:∀x∈l,Fl n x):Fl (n+1) (.tup l):=by unfold Fl;exact ym h
def bV {n:Nat}(x:Str):Fl n (.str x):=a11 rfl
def e8 {n:Nat}(x:Int):Fl n (.int x):=a11 rfl
theorem a5n {n:Nat}(p:Str×Int):Fl (n+1) (pT p):=cR λx a=>by
 rcases jae.mp a with rfl | a
 .exact bV _
 .rw[jal.mp a];exact e8 _
theorem a8w {P:Program}{w:World}{K:Frag}{g:Str->jcG}{b:Heap}{x a:Str}{st:Stmt}{f:Addr}{i:FuncData}{N d:jcB}{k:Nat}{sp:lV}(F:bW K x a st f i)(S:ak N d (af st))
  (j:∀(e:Value)(A:Around)(c:List Env)(s:Shared)(H:Hp)(E:XK),dP k (A.deeper (PyProof.Rows.envOfC a (af st) s.heap.objs.size f e))->
   DfR (EM yw P w K g b N a (af st) f e A c s H E).nox (bQ st) N sp)
  (len:∀ds S k,sp ds S k->ds.length=d.length):gi P w K g b yw (k+1) f i d (uM K sp):=EK F S len j
abbrev Xy:=Sl->aI->Str->(Str->aI->Prop)->Prop
def liJ (K:Frag)(t:Xy):TJ:=λU H a Q=>∃Y S Z k,R3 K Y S H/\uO K Y (res Y H) Z U/\t Z S a k/\∀x H',(∃b c,Gr Y H b H'/\R3 K b c H'/\k x c)->Q x H'
def QJ (X:Cx)(a:jcE)(t:Xy):Prop:=PJ X a (liJ X.K t)
def a4X:Xy:=λ_ S a k=>a.length<=sizeLine/\k a S
def a4W (c:Str)(t:Xy):Xy:=λZ S a k=>(a++c).length<=sizeLine/\t Z S (a++c) k
def jv3 (d:D)(a:Str)(k:Str->Prop):Prop:=match d with
 |.t (.v (.int i))=>i.natAbs.log2<1920/\(a++(toString i:Str)).length<=sizeLine/\k (a++(toString i:Str))
 |.t (.v (.str y))=>y.length<=sizeLine/\(a++y).length<=sizeLine/\k (a++y)
 |_=>False
def a4V (te:cZ)(t:Xy):Xy:=λZ S b k=>te Z S λd c=>jv3 d b λa=>t Z c a k
def a6S (t:Xy):cZ:=λZ S k=>t Z S Str.empty λx a=>k (.str x) a
section
variable {X:Cx}{e v1 v2:Expr}{es:jcE}{te:cZ}{t:Xy}{pos:Pos}{c:Str}{j:Nat}
def Q6 {t t':TJ}(h:PJ X es t)(m:∀U H a Q,t' U H a Q->t U H a Q):PJ X es t':=λb s U H a Q I q=>h b s U H a Q I (m _ _ _ _ q)
def D7:QJ X [] a4X:=Q6 a0y (by rintro U H a Q ⟨Y,S,Z,k,R,D,q,hk⟩;exact⟨q.1,hk _ _ ⟨Y,S,.refl,R,q.2⟩⟩)
def Jk (h:QJ X es t):QJ X (.Constant (.str c) j pos::es) (a4W c t):=Q6 (a0x h) (by rintro U H a Q ⟨Y,S,Z,k,R,D,q,hk⟩;exact⟨q.1,Y,S,Z,k,R,D,q.2,hk⟩)
theorem Jj (p:QE X e te)(h:QJ X es t):QJ X (.FormattedValue e (-1) none pos::es) (a4V te t):=Q6 (a0w p h) (by rintro U H a Q ⟨Y,S,Z,k,R,D,q,hk⟩;exact  ⟨Y,S,Z,_,R,D,q,(by
  rintro v r ⟨m,l,d,c,n,o,b⟩
  replace b:jv3 d a λa=>t Z l a k:=b
  unfold jv3 at b;split at b
  .exact .inl ⟨_,aM o,b.1,b.2.1,m,l,Z,k,n,D.gr c,b.2.2,(by rintro x j ⟨f,i,g,z⟩;exact hk x j ⟨f,i,c.trans g,z⟩)⟩
  .exact .inr ⟨_,aM o,b.1,b.2.1,m,l,Z,k,n,D.gr c,b.2.2,(by rintro x j ⟨f,i,g,z⟩;exact hk x j ⟨f,i,c.trans g,z⟩)⟩
  .exact b.elim)⟩)
def VG (h:QJ X (d::v2::es) t):QE X (.JoinedStr (d::v2::es) pos) (a6S t):=cW (V4 h) (by rintro U H Q ⟨Y,S,Z,k,R,D,q,hk⟩;exact  ⟨Y,S,Z,_,R,D,q,(by rintro x e ⟨b,c,g,a,z⟩;exact hk _ _ ⟨b,c,_,g,a,bz,z⟩)⟩)
end
def a5O:M6
 |[.t (.v (.int i))],S,k=>k (.int (jc i)) S
 |_,_,_=>False
def CN {X:Cx}:Call3 X (.builtin "abs") a5O:=by
 refine iL TR ?_;rintro b H Q ⟨Y,S,c,k,R,a,q,hk⟩;unfold a5O at q;split at q
 .obtain⟨v,rfl,rv⟩:=a.one;rw[aM rv];exact⟨_,M,fin R hk bz q⟩
 .exact q.elim
def a6K (c:nG)(e:nL):nL:=λE Z S=>∃W:Nat->Sl->aI->Prop,(∃m,W m Z S)/\∀m Z S,W m Z S->
 c Z S λb d=>if b=true then ∃N:KS,(∀Z' S',N Z' S'->∃a,a < m/\W a Z' S')/\e {E with nx:=N,ct:=N,bk:=E.nx } Z d else E.nx Z d
section
variable {X:Cx}{c o i e:Expr}{body:List Stmt}{tc:nG}{tb:nL}{to ti te:cZ}{pos:Pos}
theorem lG (G:PassesOwn (model X.prog X.w) X.A X.env X.xe)(O:QT X c tc)(Q:OQ X body tb):QS X (.While c body [] pos) (a6K tc tb):=
 lH (Q4 G O Q) λD U H ⟨Y,S,Z,E,R,L,⟨W,⟨m0,M⟩,q⟩,n⟩=>by
  refine⟨λm d a=>∃g p y,Gr Y H g a/\R3 X.K g p a/\uO X.K g (res g a) y d/\W m y p,⟨m0,Y,S,Z,.refl,R,L,M⟩,?_⟩;rintro m σ1 V ⟨P,r,δ1,t,F,k,B⟩;refine⟨P,r,δ1,_,F,k,q m δ1 r B,λb i ⟨e,o,f,R2,h⟩=>?_⟩;cases b with
  |true=>
   obtain⟨N,J,h⟩:=h;have j:=t.trans f;have x:∀d a,K9 X.K e i N d a->K9 X.K e i N d a:=λ_ _ z=>z;exact⟨K9 X.K e i N,λσ3 H3 ⟨ρ3,s,δ3,T,C,l,I⟩=>let⟨m',hm,w3⟩:=J δ3 s I;⟨m',hm,ρ3,s,δ3,j.trans T,C,l,w3⟩,
    e,o,δ1,_,R2,k.gr f,h,⟨x,λv a u=>n.rt v a (u.gr j),λd a u=>n.nx d a (u.gr j),x⟩⟩
  |false=>exact n.nx _ _ ⟨e,o,δ1,t.trans f,R2,k.gr f,h⟩
def a5j (c b:cZ):vQ:=λd Z S k=>c Z S λo e=>b Z e λi a=>∃(n j:Nat)(l:List T)(x:T),o=.ob n/\i=.int j/\d=.t x/\a[n]?=some (.lst l)/\j<l.length/\k Z (a.set n (.lst (l.set j x)))
theorem a0a (T:QE X o to)(V:QE X i ti)
  (y:autoParam (∀v,assign (.Subscript o i pos) X.env v=(do
   let ov <- holding [v] (eval o X.env)
   let iv <- holding [v,ov] (eval i X.env)
   standAt pos
   holding [v,ov,iv] (setItem ov iv v)
   release [v,ov,iv] [])) kf):QG X (.Subscript o i pos) (a5j to ti):=
 Gk (a0C T V set_list y) (by rintro v U H Q ⟨Y,S,Z,d,k,R,e,L,q,hk⟩;exact⟨Y,S,Z,_,R,e,q,(by rintro v1 H1 ⟨J,E,d1,m,B,N,F⟩;exact⟨J,E,Z,_,B,e.gr m,F,(by
  rintro v2 t ⟨s,W,d2,f,R2,I,n,j,l,x,z,D,A,P,h5,C⟩;subst z D A;obtain⟨p,g,G⟩:=N.gr f;obtain⟨b,w,r⟩:=R2.ok n p _ g P;have a:=m.trans f;have c:bS X.K (res s t) (l.set j x) (b.set j v):=bS.put (L.gr a) r;obtain⟨O,h⟩:=R2.put (o:=.lst (b.set j v)) (u:=.lst (l.set j x)) g ⟨_,M,c⟩;refine⟨p,b,j,j,G,aM I,w,?_,hk _ _ ⟨s,_,Z,a.trans h,O,(e.gr a).gr h,C⟩⟩;unfold Og;rw[jab (by lia),jab (by rw[<- r.len];lia)];simp)⟩)⟩)
def a8E:vR:=λa b S k=>∃l m,lq S a=some l/\lq S b=some m/\l.length+m.length<=sizeLine/\k (.ob S.length) (S++[.lst (l++m)])
def JF:wR X (binaryOp .Add) a8E:=by
 refine gB Rv ?_;rintro x y H Q ⟨Y,S,a,b,k,R,r,s,⟨l,m,h,u,i,t⟩,hk⟩;obtain⟨j,n,f,g,d⟩:=dU R r h;obtain⟨e,w,v,o,c⟩:=dU R s u;exact⟨j,e,n,w,f,v,g,o,by rw[<- d.len,<- c.len];exact i,λp q=>SW R hk (d.app c) t p q⟩
end
structure Ad where
 (j6 dN fj bZ iA lT um fq i8 xF nF i9 lU fR fk fQ cO jU dR a6s a2n a8C a8B a5K a5J a5I:Addr)
inductive bT where
 |cmp (a:Sm) (s:Str) (b:Sm) | neg (c:bT) | con (k:Bool) (cs:List bT)
inductive cD where
 |lt (a:Int) (x:Str) (s:Sm) | dv (a:Int) (x wd:Str) (s b:Sm) | ft (a:Int) (x r:Str) (p:Sm) | pt (a:Int) (r:Str) (p s:Sm) | mq (a:Int) (r:Str) (z:Sm) | cm (a:Int) (c:bT) | cl (a:Int) (ns:List Str) (hp:Str) (g:List Sm)
 |ch (a:Int) (c:bT) (t e:List cD) | rp (a:Int) (c:bT) (hs:List (Int×bT)) (f:Option (Int×Sm)) (b:List cD)
structure gE where
 (at_:Int) (name:Str) (params answers:List Str) (needs gives:List (Int×bT)) (steps:List cD)
noncomputable def clS (A:Ad):Nat->Addr
 |0=>A.um | 1=>A.fq | 2=>A.i8 | 3=>A.xF | 4=>A.nF | 5=>A.i9 | 6=>A.lU | 7=>A.fR | _=>A.fk
def clX (A:Ad):Nat->Addr
 |9=>A.fQ | 10=>A.j6 | j=>clS A j
noncomputable def pH:bT->Nat
 |.cmp _ _ _=>0 | .neg _=>1 | .con true _=>2 | .con false _=>3
noncomputable def ET (A:Ad):Nat->Addr
 |0=>A.dN | 1=>A.fj | 2=>A.iA | _=>A.lT
noncomputable def kd:cD->Nat
 |.lt ..=>0 | .dv ..=>1 | .ft ..=>2 | .pt ..=>3 | .mq ..=>4 | .cm ..=>5 | .cl ..=>6 | .ch ..=>7 | .rp ..=>8
def nX (l:jcB):T:=.tup (l.map T.str)
def g9 (s:Sm):T:=.tup [.tup (s.1.map pT),.int s.2]
section
variable (A:Ad)
def nI (s:Sm):T:=.ins A.j6 ["terms","number"] [.tup (s.1.map pT),.int s.2]
mutual
noncomputable def gI:bT->T
 |.cmp a s b=>.ins A.dN ["one","sign","other"] [nI A a,.str s,nI A b]
 |.neg c=>.ins A.fj ["condition"] [gI c]
 |.con k d=>.ins (if k=true then A.iA else A.lT) ["conditions"] [.tup (Xl d)]
noncomputable def Xl:List bT->List T
 |[]=>[]
 |c::r=>gI c::Xl r
end
def atT (p:Int×bT):T:=.tup [.int p.1,gI A p.2]
def faT:Option (Int×Sm)->T
 |none=>.dD
 |some p=>.tup [.int p.1,nI A p.2]
mutual
noncomputable def iG:cD->T
 |.lt a x s=>.ins A.um ["at","name","total"] [.int a,.str x,nI A s]
 |.dv a x h s b=>.ins A.fq ["at","name","word","total","by"] [.int a,.str x,.str h,nI A s,nI A b]
 |.ft a x r p=>.ins A.i8 ["at","name","row","place"] [.int a,.str x,.str r,nI A p]
 |.pt a r p s=>.ins A.xF ["at","row","place","total"] [.int a,.str r,nI A p,nI A s]
 |.mq a r z=>.ins A.nF ["at","row","size"] [.int a,.str r,nI A z]
 |.cm a c=>.ins A.i9 ["at","condition"] [.int a,gI A c]
 |.cl a j i g=>.ins A.lU ["at","names","helper","given"] [.int a,nX j,.str i,.tup (g.map (nI A))]
 |.ch a c t e=>.ins A.fR ["at","condition","then","other"] [.int a,gI A c,.tup (yG t),.tup (yG e)]
 |.rp a c d f b=>.ins A.fk ["at","condition","keeps","falls","body"] [.int a,gI A c,.tup (d.map (atT A)),faT A f,.tup (yG b)]
noncomputable def yG:List cD->List T
 |[]=>[]
 |c::r=>iG c::yG r
end
def Om (h:gE):T:=.ins A.fQ ["at","name","params","answers","needs","gives","steps"] [.int h.at_,.str h.name,nX h.params,nX h.answers,.tup (h.needs.map (atT A)),.tup (h.gives.map (atT A)),.tup (yG A h.steps)]
def OM (hs:List gE):T:=.ins A.cO ["helpers"] [.tup (hs.map (Om A))]
end
mutual
noncomputable def gD:bT->T
 |.cmp a s b=>.tup [.str "compare",g9 a,.str s,g9 b]
 |.neg c=>.tup [.str "not",gD c]
 |.con k d=>.tup (.str (if k=true then "and" else "or")::Kg d)
noncomputable def Kg:List bT->List T
 |[]=>[]
 |c::r=>gD c::Kg r
end
def M0 (p:Int×bT):T:=.tup [.int p.1,gD p.2]
def faR:Option (Int×Sm)->T
 |none=>.dD
 |some p=>.tup [.int p.1,g9 p.2]
mutual
noncomputable def iZ:cD->T
 |.lt a x s=>.tup [.str "let",.int a,.str x,g9 s]
 |.dv a x h s b=>.tup [.str "divide",.int a,.str x,.str h,g9 s,g9 b]
 |.ft a x r p=>.tup [.str "fetch",.int a,.str x,.str r,g9 p]
 |.pt a r p s=>.tup [.str "put",.int a,.str r,g9 p,g9 s]
 |.mq a r z=>.tup [.str "make",.int a,.str r,g9 z]
 |.cm a c=>.tup [.str "claim",.int a,gD c]
 |.cl a j i g=>.tup [.str "call",.int a,nX j,.str i,.tup (g.map g9)]
 |.ch a c t e=>.tup [.str "choose",.int a,gD c,.tup (A2 t),.tup (A2 e)]
 |.rp a c d f b=>.tup [.str "repeat",.int a,gD c,.tup (d.map M0),faR f,.tup (A2 b)]
noncomputable def A2:List cD->List T
 |[]=>[]
 |c::r=>iZ c::A2 r
end
def EB (h:gE):T:=.tup [.str "helper",.int h.at_,.str h.name,nX h.params,nX h.answers,.tup (h.needs.map M0),.tup (h.gives.map M0),.tup (A2 h.steps)]
def faD:Option (Int×Sm)->T
 |none=>.dD
 |some p=>g9 p.2
mutual
noncomputable def iP:cD->T
 |.lt _ x s=>.tup [.str "let",.str x,g9 s]
 |.dv _ x d s b=>.tup [.str "divide",.str x,.str d,g9 s,g9 b]
 |.ft _ x r p=>.tup [.str "fetch",.str x,.str r,g9 p]
 |.pt _ r p s=>.tup [.str "put",.str r,g9 p,g9 s]
 |.mq _ r z=>.tup [.str "make",.str r,g9 z]
 |.cm _ c=>.tup [.str "claim",gD c]
 |.cl _ i h g=>.tup [.str "call",nX i,.str h,.tup (g.map g9)]
 |.ch _ c t e=>.tup [.str "choose",gD c,.tup (wV t),.tup (wV e)]
 |.rp _ c a f b=>.tup [.str "repeat",gD c,.tup (a.map λp=>gD p.2),faD f,.tup (wV b)]
noncomputable def wV:List cD->List T
 |[]=>[]
 |c::r=>iP c::wV r
end
def jW (h:gE):T:=.tup [.str h.name,nX h.params,nX h.answers,.tup (h.needs.map λp=>gD p.2),.tup (h.gives.map λp=>gD p.2),.tup (wV h.steps)]
theorem lO (A:Ad):∀l:List bT,Xl A l=l.map (gI A)
 |[]=>rfl
 |c::r=>by rw[Xl,lO A r];rfl
theorem ue:∀l:List bT,Kg l=l.map gD
 |[]=>rfl
 |c::r=>by rw[Kg,ue r];rfl
theorem eO (A:Ad):∀l:List cD,yG A l=l.map (iG A)
 |[]=>rfl
 |c::r=>by rw[yG,eO A r];rfl
theorem gK:∀l:List cD,A2 l=l.map iZ
 |[]=>rfl
 |c::r=>by rw[A2,gK r];rfl
theorem gc:∀l:List cD,wV l=l.map iP
 |[]=>rfl
 |c::r=>by rw[wV,gc r];rfl
mutual
def bT.dep:bT->Nat
 |.cmp _ _ _=>0
 |.neg c=>c.dep+1
 |.con _ a=>vI a+1
def vI:List bT->Nat
 |[]=>0
 |c::r=>max c.dep (vI r)
end
mutual
def bT.sz:bT->Nat
 |.cmp _ _ _=>1
 |.neg c=>c.sz+1
 |.con _ a=>Ls a+1
def Ls:List bT->Nat
 |[]=>0
 |c::r=>c.sz+Ls r
end
mutual
def cD.dp:cD->Nat
 |.ch _ _ t e=>max (jX t) (jX e)+1
 |.rp _ _ _ _ b=>jX b+1
 |_=>1
def jX:List cD->Nat
 |[]=>0
 |c::r=>max c.dp (jX r)
end
theorem pX {c:bT}:∀{l:List bT},c∈l->c.dep<=vI l
 |d::r,h=>by
  unfold vI;rcases jae.mp h with rfl | h
  .exact jbO _ _
  .exact jay (pX h) (jbJ _ _)
theorem k7 {c:cD}:∀{l:List cD},c∈l->c.dp<=jX l
 |d::r,h=>by
  unfold jX;rcases jae.mp h with rfl | h
  .exact jbO _ _
  .exact jay (k7 h) (jbJ _ _)
def Zm (c:bT):1<=c.sz:=by cases c<;>(unfold bT.sz;lia)
theorem mh:∀l:List bT,l.length<=Ls l
 |[]=>jaq _
 |c::r=>by unfold Ls;rw[jam];have:=Zm c;have:=mh r;lia
theorem uW {c:bT}:∀{l:List bT},c∈l->c.sz<=Ls l
 |d::r,h=>by
  unfold Ls;rcases jae.mp h with rfl | h
  .lia
  .have:=uW h;lia
def fu (c:bT):pH c<4:=by
 cases c with
 |cmp a s b=>show 0<4;decide
 |neg c=>show 1<4;decide
 |con k d=>cases k<;>(first | (show 2<4;decide) | (show 3<4;decide))
def Mg (s:cD):kd s<9:=by cases s<;>simp[kd]
def Xo (A:Ad)(a b:Sm)(s:Str):gI A (.cmp a s b)=.ins A.dN ["one","sign","other"] [nI A a,.str s,nI A b]:=by rw[gI]
def Xn (A:Ad)(q:Bool)(a:List bT):gI A (.con q a)=.ins (if q=true then A.iA else A.lT) ["conditions"] [.tup (a.map (gI A))]:=by rw[gI,lO]
def Xm (A:Ad)(c:bT):gI A (.neg c)=.ins A.fj ["condition"] [gI A c]:=by rw[gI]
def yt (a b:Sm)(s:Str):gD (.cmp a s b)=.tup [.str "compare",g9 a,.str s,g9 b]:=by rw[gD]
def yq (c:bT):gD (.neg c)=.tup [.str "not",gD c]:=by rw[gD]
def yr (q:Bool)(a:List bT):gD (.con q a)=.tup (.str (if q=true then "and" else "or")::a.map gD):=by rw[gD,ue]
def lM (A:Ad)(S:aI)(c:bT):∃ns l,iq S (.t (gI A c))=some (ET A (pH c),ns,l)/\ns.contains "told"=false/\ns.contains "text"=false:=by
 cases c with
 |cmp a s b=>exact⟨_,_,by unfold gI;rfl,by symm,by symm⟩
 |neg c=>exact⟨_,_,by unfold gI;rfl,by symm,by symm⟩
 |con k d=>
  cases k with
  |true=>exact⟨_,_,by unfold gI;rfl,by symm,by symm⟩
  |false=>exact⟨_,_,by unfold gI;rfl,by symm,by symm⟩
def Yt (A:Ad)(S:aI)(s:cD):∃ns l,iq S (.t (iG A s))=some (clS A (kd s),ns,l)/\ns.contains "told"=false/\ns.contains "as_rows"=false:=by
 cases s<;>exact⟨_,_,by unfold iG;rfl,by symm,by symm⟩
def OZ (A:Ad)(S:aI)(c:bT):tyD S (.t (gI A c))=some (.ref (ET A (pH c))):=by
 cases c with
 |cmp a s b=>unfold gI;rfl
 |neg c=>unfold gI;rfl
 |con k d=>cases k<;>(unfold gI;rfl)
def ig (s:Sm):Str:=⟨(Gs (cY s.1 s.2)).toArray⟩
def Dz {x:Str}{s:Sm}(h:cp x=Gs (cY s.1 s.2)):x=ig s:=dB (by rw[h];simp[cp,ig])
mutual
def pZ:bT->Str
 |.cmp a s b=>(((ig a++(" ":Str))++s)++(" ":Str))++ig b
 |.neg c=>(("not (":Str)++pZ c)++(")":Str)
 |.con k d=>Txt.join (if k=true then(" and ":Str) else(" or ":Str)) (uQ d)
def uQ:List bT->jcB
 |[]=>[]
 |c::r=>(if 2<=pH c then(("(":Str)++pZ c)++(")":Str) else pZ c)::uQ r
end
def HX (c:bT):Str:=if 2<=pH c then(("(":Str)++pZ c)++(")":Str) else pZ c
theorem jz:∀l:List bT,uQ l=l.map HX
 |[]=>rfl
 |c::r=>by rw[uQ,jz r];rfl
noncomputable def pre (w:Str)(c:bT):Str:=w++pZ c
def qM (a:jcB)(b:Str):Str:=(Txt.join "" (a.map λx=>x++(" ":Str))++(if a=[] then("":Str) else "= "))++b
def AB (b:jcB)(a:Str)(g:List Sm):Str:=("call ":Str)++(if g=[] then qM b a else(qM b a++(" ":Str))++Txt.join ", " (g.map ig))
def EG:Option (Int×Sm)->jcB
 |none=>[]
 |some p=>[("falls ":Str)++ig p.2]
mutual
noncomputable def rws:cD->jcB
 |.lt _ x s=>[((("let ":Str)++x)++(" = ":Str))++ig s]
 |.dv _ x d s b=>[(((((("let ":Str)++x)++(" = ":Str))++ig s)++(" ":Str))++d)++(" ":Str)++ig b]
 |.ft _ x r p=>[((((("let ":Str)++x)++(" = ":Str))++r)++(" at ":Str))++ig p]
 |.pt _ r p s=>[((((("put ":Str)++r)++(" at ":Str))++ig p)++(" = ":Str))++ig s]
 |.mq _ r z=>[((("row ":Str)++r)++(" = ":Str))++ig z]
 |.cm _ c=>[pre "claim " c]
 |.cl _ i h g=>[AB i h g]
 |.ch _ c t e=>(pre "if " c::aJ t)++(if e=[] then[] else("else":Str)::aJ e)++[("end":Str)]
 |.rp _ c a f b=>(pre "while " c::a.map λp=>pre "holds " p.2)++EG f++aJ b++[("end":Str)]
noncomputable def aJ:List cD->jcB
 |[]=>[]
 |c::r=>rws c++aJ r
end
def aL (h:gE):jcB:=(Txt.join " " ([("helper":Str),h.name]++h.params)::(if h.answers=[] then[] else[Txt.join " " ([("answers":Str)]++h.answers)]))++h.needs.map (λp=>pre "needs " p.2)++h.gives.map (λp=>pre "gives " p.2)++aJ h.steps++[("end":Str)]
def US (a:jcB):Str:=Txt.join "" (a.map λr=>r++("\n":Str))
def Gm (hs:List gE):Str:=US (hs.map aL).flatten
mutual
noncomputable def lay (n:Nat):cD->cD
 |.lt _ x s=>.lt n x s
 |.dv _ x d s b=>.dv n x d s b
 |.ft _ x r p=>.ft n x r p
 |.pt _ r p s=>.pt n r p s
 |.mq _ r z=>.mq n r z
 |.cm _ c=>.cm n c
 |.cl _ i h g=>.cl n i h g
 |.ch _ c t e=>.ch n c (dg (n+1) t) (dg (n+1+(aJ t).length+(if e=[] then 0 else 1)) e)
 |.rp _ c a f b=>.rp n c (eS (n+1) a) (f.map λp=>(((n+1+a.length:Nat):Int),p.2)) (dg (n+1+a.length+(EG f).length) b)
noncomputable def dg (n:Nat):List cD->List cD
 |[]=>[]
 |c::r=>lay n c::dg (n+(rws c).length) r
noncomputable def eS (n:Nat):List (Int×bT)->List (Int×bT)
 |[]=>[]
 |p::r=>((n:Int),p.2)::eS (n+1) r
end
noncomputable def E7 (h:gE):Nat:=if h.answers=[] then 0 else 1
def JN (n:Nat)(h:gE):gE:=⟨n,h.name,h.params,h.answers,eS (n+1+E7 h) h.needs,eS (n+1+E7 h+h.needs.length) h.gives,dg (n+1+E7 h+h.needs.length+h.gives.length) h.steps⟩
def bH (n:Nat):List gE->List gE
 |[]=>[]
 |h::r=>JN n h::bH (n+(aL h).length) r
abbrev Nw (x:Str):Prop:=x.length<=8/\isNm x=true
abbrev Tw (x:Str):Prop:=x.length<=9/\∃n,isNm n=true/\(x=n\/x=("#":Str)++n)
noncomputable def X4:jcB:=["<","<=","=","!=",">=",">"]
abbrev Wk (v:Int):Prop:=-3<=v/\v<=17
abbrev Nk (v:Int):Prop:=-9<=v/\v<=999999998
structure lY (s:Sm):Prop where
 nm:norm s.1=s.1
 len:s.1.length<=3
 th:∀p∈s.1,Tw p.1/\Wk p.2/\p.2≠0
 nk:Nk s.2
def lY.sh {s:Sm}(h:lY s):∀p∈s.1,Small p.2/\p.1.length<=100:=λp a=>⟨⟨by have:=h.th p a;lia,by have:=h.th p a;lia⟩,by have:=h.th p a;lia⟩
def lY.num {s:Sm}(h:lY s):Small s.2:=⟨by have:=h.nk;lia,by have:=h.nk;lia⟩
def lY.short {s:Sm}(h:lY s):Short s.1:=⟨by have:=h.len;lia,h.sh⟩
mutual
def sE:bT->Prop
 |.cmp a s b=>lY a/\lY b/\(s.length<=2/\s∈X4)
 |.neg c=>sE c
 |.con _ d=>AW d/\2<=d.length/\d.length<=3
def AW:List bT->Prop
 |[]=>True
 |c::r=>sE c/\AW r
end
structure AV (c:bT):Prop where
 g:sE c
 dep:c.dep<3
 sz:c.sz<=9
theorem yp {c:bT}:∀{l:List bT},AW l->c∈l->sE c
 |d::r,h,m=>by
  unfold AW at h;rcases jae.mp m with rfl | m
  .exact h.1
  .exact yp h.2 m
theorem TH:∀{l:List bT},(∀c∈l,sE c)->AW l
 |[],_=>by unfold AW;trivial
 |c::r,h=>by unfold AW;exact⟨h c jak,TH λx a=>h x (jaj _ a)⟩
mutual
def dF:cD->Prop
 |.lt _ x s=>Nw x/\lY s
 |.dv _ x a s b=>Nw x/\(a.length<=3/\(a="div"\/a="mod"))/\lY s/\lY b
 |.ft _ x r p=>Nw x/\Nw r/\lY p
 |.pt _ r p s=>Nw r/\lY p/\lY s
 |.mq _ r z=>Nw r/\lY z
 |.cm _ c=>AV c
 |.cl _ h i g=>h.length<=8/\(∀x∈h,Nw x)/\Nw i/\g.length<=8/\∀s∈g,lY s
 |.ch _ c t e=>AV c/\gY t/\gY e/\t.length<=10/\e.length<=10
 |.rp _ c d f b=>AV c/\d.length<=10/\(∀p∈d,AV p.2)/\(∀p,f=some p->lY p.2)/\gY b/\b.length<=10
def gY:List cD->Prop
 |[]=>True
 |c::r=>dF c/\gY r
end
theorem gJ {c:cD}:∀{l:List cD},gY l->c∈l->dF c
 |d::r,h,m=>by
  unfold gY at h;rcases jae.mp m with rfl | m
  .exact h.1
  .exact gJ h.2 m
theorem yE:∀{l:List cD},(∀c∈l,dF c)->gY l
 |[],_=>by unfold gY;trivial
 |c::r,h=>by unfold gY;exact⟨h c jak,yE λx a=>h x (jaj _ a)⟩
structure xG (h:gE):Prop where
 nm:Nw h.name
 pl:h.params.length<=8/\h.answers.length<=8/\h.needs.length<=8/\h.gives.length<=8/\h.steps.length<=10
 ps:∀x∈h.params,Tw x
 an:∀x∈h.answers,Nw x
 nd:∀p∈h.needs,AV p.2
 gv:∀p∈h.gives,AV p.2
 st:gY h.steps
theorem vF {jcx:Nat}:∀{l:Qs},(∀q∈l,q.2.length<=jcx)->(dW l).length<=(jcx+3)*l.length
 |[],_=>jaN _
 |q::r,h=>by
  have c:=h q jak;have b:=vF (l:=r) λx a=>h x (jaj _ a);have e:dW (q::r)=cp (gR q.1)++(cp q.2++dW r):=by
   unfold dW;rw[jaf,jaG,jax]
  have l:=DC q.1;have d:(cp q.2).length=q.2.length:=(bJ q.2).symm;rw[e,jag,jag,jam,jbQ];lia
def bA {s:Sm}(h:lY s):(ig s).length<=700:=by
 have e:(ig s).length=(Gs (cY s.1 s.2)).length:=by simp[ig,Str.length]
 rw[e];have a:=jr h.short h.num;have b:(cY s.1 s.2).length<=4:=by
  unfold cY;rw[jag,jad];have:=h.len;split
  .simp;lia
  .simp;lia
 obtain⟨q,r,d⟩:=iS s.1 s.2;rw[d] at a b ⊢;have g:=vF (jcx:=166) (l:=r) λx c=>a x (jaj _ c);have f:(cp q.2).length<=166:=by rw[<- bJ];exact a q jak
 rw[jam] at b;unfold Gs;rw[jag,jag];have i:(if q.1<0 then[45] else([]:jcH)).length<=1:=by split<;>simp
 lia
def aV (a b:Str):(a++b).length=a.length+b.length:=jv a b
def RI {x:Str}(h:Nw x):Tw x:=⟨by lia,x,h.2,.inl M⟩
def nwH {x:Str}(h:Nw x):Tw (("#":Str)++x):=⟨by rw[aV];show 1+_<=9;lia,x,h.2,.inr M⟩
theorem Qj (a:Str):∀ss:jcB,(Str.join a ss).length<=(ss.map (·.length)).sum+ss.length*a.length
 |[]=>by simp[Str.join,Str.length,Str.empty]
 |[x]=>by simp[Str.join]
 |x::y::r=>by
  show(x++a++Str.join a (y::r)).length<=_;have b:=Qj a (y::r);rw[aV,aV,jaf,ja9,jam,Nat.succ_mul];lia
def oZ (a:Str)(ss:jcB):(Txt.join a ss).length<=(ss.map (·.length)).sum+ss.length*a.length:=by
 show(Builtin.Str.glued a ss).length<=_;rw[jba];exact Qj a ss
theorem fZ {jcx:Nat}:∀{l:jcB},(∀x∈l,x.length<=jcx)->(l.map (·.length)).sum<=jcx*l.length
 |[],_=>jaN _
 |a::l,h=>by
  have d:=h a jak;have c:=fZ λx b=>h x (jaj _ b);rw[jaf,ja9,jam,jbQ];lia
mutual
theorem mY:∀(c:bT),sE c->c.sz<=100->(pZ c).length<=1500*c.sz
 |.cmp a s b,h,_=>by
  unfold sE at h;have o:=bA h.1;have l:=bA h.2.1;have i:=h.2.2;have z:(" ":Str).length=1:=by symm
  unfold pZ bT.sz;rw[aV,aV,aV,aV,z];lia
 |.neg c,h,e=>by
  unfold sE at h;unfold bT.sz at e;have g:=mY c h (by lia);have z:("not (":Str).length=5:=by symm
  have f:(")":Str).length=1:=by symm
  unfold pZ bT.sz;rw[aV,aV,z,f];lia
 |.con k d,h,e=>by
  unfold sE at h;unfold bT.sz at e;have g:=nQ d h.1 (by lia);have l:=mh d;have i:=oZ (if k=true then(" and ":Str) else(" or ":Str)) (uQ d);have j:(if k=true then(" and ":Str) else(" or ":Str)).length<=5:=by split<;>symm
  have m:(uQ d).length=d.length:=by rw[jz,jad]
  have n:(uQ d).length*(if k=true then(" and ":Str) else(" or ":Str)).length<=d.length*5:=by rw[m];exact jb8 _ j
  unfold pZ;show _<=1500*(Ls d+1);lia
theorem nQ:∀(l:List bT),AW l->Ls l<=100->((uQ l).map (·.length)).sum<=1500*Ls l+2*l.length
 |[],_,_=>by unfold uQ;simp
 |c::r,h,hz=>by
  unfold AW at h;unfold Ls at hz;have b:=mY c h.1 (by lia);have d:=nQ r h.2 (by lia);have z:("(":Str).length=1:=by symm
  have a:(")":Str).length=1:=by symm
  unfold uQ Ls;rw[jaf,ja9,jam];have:(if 2<=pH c then(("(":Str)++pZ c)++(")":Str) else pZ c).length<=(pZ c).length+2:=by
   split
   .rw[aV,aV,z,a];lia
   .lia
  lia
end
def iK {c:bT}(h:AV c):(pZ c).length<=13500:=by
 have:=mY c h.g (by have:=h.sz;lia);have:=h.sz;lia
def pO {w:Str}{c:bT}(h:AV c)(a:w.length<=20):(pre w c).length<=13520:=by
 have:=iK h;unfold pre;rw[aV];lia
mutual
theorem Vs:∀(s:cD)(n:Nat),rws (lay n s)=rws s
 |.lt ..,n=>by unfold lay;unfold rws;rfl
 |.dv ..,n=>by unfold lay;unfold rws;rfl
 |.ft ..,n=>by unfold lay;unfold rws;rfl
 |.pt ..,n=>by unfold lay;unfold rws;rfl
 |.mq ..,n=>by unfold lay;unfold rws;rfl
 |.cm ..,n=>by unfold lay;unfold rws;rfl
 |.cl ..,n=>by unfold lay;unfold rws;rfl
 |.ch a c t e,n=>by
  unfold lay;unfold rws;rw[oG t,oG e];have:∀m,dg m e=[]↔e=[]:=λm=>by
   cases e with
   |nil=>simp[dg]
   |cons x r=>simp[dg]
  by_cases h:e=[]
  .rw[jab ((this _).mpr h),jab h]
  .rw[jaa λz=>h ((this _).mp z),jaa h]
 |.rp a c i f b,n=>by
  unfold lay;unfold rws;rw[oG b];have g:∀(l:List (Int×bT)) (m:Nat),(eS m l).map (λp=>pre "holds " p.2)=l.map λp=>pre "holds " p.2:=by
   intro l
   induction l with
   |nil=>intro m;unfold eS;rfl
   |cons p r d=>intro m;unfold eS;rw[jaf,jaf,d]
  rw[g];cases f with
  |none=>rfl
  |some p=>rfl
theorem oG:∀(l:List cD)(n:Nat),aJ (dg n l)=aJ l
 |[],n=>by unfold dg;rfl
 |c::r,n=>by
  unfold dg;unfold aJ;rw[Vs c,oG r]
end
mutual
theorem a18:∀(s:cD)(n:Nat),(lay n s).dp=s.dp
 |.lt ..,n=>by unfold lay;unfold cD.dp;rfl
 |.dv ..,n=>by unfold lay;unfold cD.dp;rfl
 |.ft ..,n=>by unfold lay;unfold cD.dp;rfl
 |.pt ..,n=>by unfold lay;unfold cD.dp;rfl
 |.mq ..,n=>by unfold lay;unfold cD.dp;rfl
 |.cm ..,n=>by unfold lay;unfold cD.dp;rfl
 |.cl ..,n=>by unfold lay;unfold cD.dp;rfl
 |.ch a c t e,n=>by unfold lay;unfold cD.dp;rw[ua t,ua e]
 |.rp a c d f b,n=>by unfold lay;unfold cD.dp;rw[ua b]
theorem ua:∀(l:List cD)(n:Nat),jX (dg n l)=jX l
 |[],n=>by unfold dg;rfl
 |c::r,n=>by unfold dg;unfold jX;rw[a18 c,ua r]
end
theorem iT:∀(l:List cD)(n:Nat),(dg n l).length=l.length
 |[],n=>by unfold dg;rfl
 |c::r,n=>by unfold dg;rw[jam,jam,iT r]
theorem jR:∀(l:List (Int×bT)) (n:Nat),(eS n l).length=l.length
 |[],n=>by unfold eS;rfl
 |c::r,n=>by unfold eS;rw[jam,jam,jR r]
theorem tU {P:bT->Prop}:∀(l:List (Int×bT)) (n:Nat),(∀p∈l,P p.2)->∀p∈eS n l,P p.2
 |[],n,h=>by unfold eS;exact h
 |c::r,n,h=>λp a=>by
  unfold eS at a;rcases jae.mp a with rfl | a
  .exact h c jak
  .exact tU r (n+1) (λq b=>h q (jaj _ b)) p a
theorem Ai {β:Type}(g:bT->β):∀(l:List (Int×bT)) (n:Nat),(eS n l).map (λp=>g p.2)=l.map λp=>g p.2
 |[],n=>by unfold eS;rfl
 |c::r,n=>by unfold eS;rw[jaf,jaf,Ai g r]
mutual
theorem a5k:∀(s:cD)(n:Nat),dF s->dF (lay n s)
 |.lt ..,n,h=>by unfold lay;unfold dF at *;exact h
 |.dv ..,n,h=>by unfold lay;unfold dF at *;exact h
 |.ft ..,n,h=>by unfold lay;unfold dF at *;exact h
 |.pt ..,n,h=>by unfold lay;unfold dF at *;exact h
 |.mq ..,n,h=>by unfold lay;unfold dF at *;exact h
 |.cm ..,n,h=>by unfold lay;unfold dF at *;exact h
 |.cl ..,n,h=>by unfold lay;unfold dF at *;exact h
 |.ch a c t e,n,h=>by
  unfold lay;unfold dF at *;exact⟨h.1,Ao t _ h.2.1,Ao e _ h.2.2.1,by rw[iT];exact h.2.2.2.1,by rw[iT];exact h.2.2.2.2⟩
 |.rp a c g f b,n,h=>by
  unfold lay;unfold dF at *;refine⟨h.1,by rw[jR];exact h.2.1,tU g _ h.2.2.1,λp d=>?_,Ao b _ h.2.2.2.2.1,by rw[iT];exact h.2.2.2.2.2⟩;cases f with
  |none=>cases d
  |some q=>cases d;exact h.2.2.2.1 q rfl
theorem Ao:∀(l:List cD)(n:Nat),gY l->gY (dg n l)
 |[],n,h=>by unfold dg;exact h
 |c::r,n,h=>by
  unfold dg;unfold gY at *;exact⟨a5k c n h.1,Ao r _ h.2⟩
end
theorem a1T {h:gE}(g:xG h)(n:Nat):xG (JN n h):=
 ⟨g.nm,⟨g.pl.1,g.pl.2.1,by show(eS _ _).length<=8;rw[jR];exact g.pl.2.2.1,by show(eS _ _).length<=8;rw[jR];exact g.pl.2.2.2.1,by show(dg _ _).length<=10;rw[iT];exact g.pl.2.2.2.2⟩,g.ps,g.an,tU _ _ g.nd,tU _ _ g.gv,Ao _ _ g.st⟩
def JQ (h:gE)(n:Nat):aL (JN n h)=aL h:=by
 unfold aL JN;rw[Ai (pre "needs "),Ai (pre "gives "),oG]
theorem jM:∀l m:List cD,aJ (l++m)=aJ l++aJ m
 |[],m=>by rw[aJ];rfl
 |c::r,m=>by rw[jaS,aJ,aJ,jM,jax]
theorem Aj:∀(l m:List cD)(n:Nat),dg n (l++m)=dg n l++dg (n+(aJ l).length) m
 |[],m,n=>by rw[dg,aJ];simp
 |c::r,m,n=>by rw[jaS,dg,dg,Aj,aJ,jag,jaS,jbZ]
theorem GV:∀(l m:List (Int×bT)) (n:Nat),eS n (l++m)=eS n l++eS (n+l.length) m
 |[],m,n=>by rw[eS];simp
 |c::r,m,n=>by rw[jaS,eS,eS,GV,jam,jaS,show n+1+r.length=n+(r.length+1) by lia]
theorem vB:∀(l m:List gE)(n:Nat),bH n (l++m)=bH n l++bH (n+((l.map aL).flatten).length) m
 |[],m,n=>by rw[bH];simp
 |c::r,m,n=>by rw[jaS,bH,bH,vB,jaf,jaG,jag,jaS,jbZ]
theorem rL:∀(l:List gE)(n:Nat),(bH n l).map aL=l.map aL
 |[],n=>by rw[bH]
 |c::r,n=>by rw[bH,jaf,jaf,JQ,rL]
theorem LJ {c:cD}:∀{l:List cD},c∈l->(rws c).length<=(aJ l).length
 |d::r,h=>by
  unfold aJ;rw[jag];rcases jae.mp h with rfl | h
  .lia
  .have:=LJ h;lia
mutual
theorem LO:∀(s:cD),dF s->∀r∈rws s,r.length<=25000
 |.lt a x s,h=>λr d=>by
  unfold dF at h;unfold rws at d;have:=bA h.2;have j:("let ":Str).length=4:=by symm
  have i:(" = ":Str).length=3:=by symm
  rw[jal.mp d,aV,aV,aV,j,i];lia
 |.dv a x J s b,h=>λr d=>by
  unfold dF at h;unfold rws at d;have:=bA h.2.2.1;have:=bA h.2.2.2;have j:("let ":Str).length=4:=by symm
  have i:(" = ":Str).length=3:=by symm
  have k:(" ":Str).length=1:=by symm
  rw[jal.mp d,aV,aV,aV,aV,aV,aV,aV,j,i,k];lia
 |.ft a x v p,h=>λr d=>by
  unfold dF at h;unfold rws at d;have:=bA h.2.2;have j:("let ":Str).length=4:=by symm
  have i:(" = ":Str).length=3:=by symm
  have k:(" at ":Str).length=4:=by symm
  rw[jal.mp d,aV,aV,aV,aV,aV,j,i,k];lia
 |.pt a v p s,h=>λr d=>by
  unfold dF at h;unfold rws at d;have:=bA h.2.1;have:=bA h.2.2;have j:("put ":Str).length=4:=by symm
  have i:(" = ":Str).length=3:=by symm
  have k:(" at ":Str).length=4:=by symm
  rw[jal.mp d,aV,aV,aV,aV,aV,j,i,k];lia
 |.mq a v z,h=>λr d=>by
  unfold dF at h;unfold rws at d;have:=bA h.2;have j:("row ":Str).length=4:=by symm
  have i:(" = ":Str).length=3:=by symm
  rw[jal.mp d,aV,aV,aV,j,i];lia
 |.cm a c,h=>λr d=>by
  unfold dF at h;unfold rws at d;rw[jal.mp d];exact jay (pO h (by symm)) (by decide)
 |.cl a m n g,h=>λr d=>by
  unfold dF at h;obtain⟨G,w,H,K,A⟩:=h;unfold rws at d;rw[jal.mp d];have j:(" ":Str).length=1:=by symm
  have i:(", ":Str).length=2:=by symm
  have k:("call ":Str).length=5:=by symm
  have D:(Str.ofString "").length=0:=by symm
  have B:=oZ "" (m.map λx=>x++(" ":Str));have E:=fZ (jcx:=101) (l:=m.map λx=>x++(" ":Str)) λx o=>by
   obtain⟨y,q,rfl⟩:=jap.mp o;have:=w y q;rw[aV,j];lia
  have u:=oZ ", " (g.map ig);have C:=fZ (jcx:=700) (l:=g.map ig) λx o=>by
   obtain⟨y,q,rfl⟩:=jap.mp o;exact bA (A y q)
  rw[D,Nat.mul_zero] at B;rw[jad] at E u C;rw[i] at u;have I:(qM m n).length<=1000:=by
   unfold qM;have:(if m=[] then("":Str) else "= ").length<=2:=by split<;>symm
   rw[aV,aV];lia
  unfold AB;rw[aV,k];split
  .lia
  .rw[aV,aV,j];lia
 |.ch a c t e,h=>λr d=>by
  unfold dF at h;unfold rws at d;have j:("else":Str).length<=25000:=by symm
  have i:("end":Str).length<=25000:=by symm
  rcases jan.mp d with d | d
  .rcases jan.mp d with d | d
   .rcases jae.mp d with rfl | d
    .exact jay (pO h.1 (by symm)) (by decide)
    .exact oH t h.2.1 r d
   .split at d
    .cases d
    .rcases jae.mp d with rfl | d
     .exact j
     .exact oH e h.2.2.1 r d
  .rw[jal.mp d];exact i
 |.rp a c F f b,h=>λr d=>by
  unfold dF at h;unfold rws at d;have i:("end":Str).length<=25000:=by symm
  have k:("falls ":Str).length=6:=by symm
  rcases jan.mp d with d | d
  .rcases jan.mp d with d | d
   .rcases jan.mp d with d | d
    .rcases jae.mp d with rfl | d
     .exact jay (pO h.1 (by symm)) (by decide)
     .obtain⟨p,n,rfl⟩:=jap.mp d;exact jay (pO (h.2.2.1 p n) (by symm)) (by decide)
    .cases f with
     |none=>cases d
     |some p=>
      have:=bA (h.2.2.2.1 p M);have e:r=("falls ":Str)++ig p.2:=jal.mp d;rw[e,aV,k];lia
   .exact oH b h.2.2.2.2.1 r d
  .rw[jal.mp d];exact i
theorem oH:∀(l:List cD),gY l->∀r∈aJ l,r.length<=25000
 |[],_=>λr a=>by unfold aJ at a;cases a
 |c::l,h=>λr a=>by
  unfold gY at h;unfold aJ at a;rcases jan.mp a with a | a
  .exact LO c h.1 r a
  .exact oH l h.2 r a
end
theorem lN {h:gE}(g:xG h):∀r∈aL h,r.length<=25000:=λr a=>by
 obtain⟨f,m,j,k,i⟩:=g.pl;have e:(" ":Str).length=1:=by symm
 have jn:∀l:jcB,(∀x∈l,x.length<=100)->l.length<=10->(Txt.join " " l).length<=25000:=λl d c=>by
  have:=oZ " " l;have:=fZ d;rw[e] at *;lia
 unfold aL at a;rcases jan.mp a with a | a
 .rcases jan.mp a with a | a
  .rcases jan.mp a with a | a
   .rcases jan.mp a with a | a
    .rcases jae.mp a with rfl | a
     .refine jn _ (λx b=>?_) (by simp;lia);rcases jan.mp b with b | b
      .rcases jae.mp b with rfl | b
       .symm
       .rw[jal.mp b];have:=g.nm;lia
      .have:=g.ps x b;lia
     .split at a
      .cases a
      .rw[jal.mp a];refine jn _ (λx b=>?_) (by simp;lia);rcases jan.mp b with b | b
       .rw[jal.mp b];symm
       .have:=g.an x b;lia
    .obtain⟨p,hp,rfl⟩:=jap.mp a;exact jay (pO (g.nd p hp) (by symm)) (by decide)
   .obtain⟨p,hp,rfl⟩:=jap.mp a;exact jay (pO (g.gv p hp) (by symm)) (by decide)
  .exact oH _ g.st r a
 .rw[jal.mp a];symm
section
variable (K:Frag)(A:Ad)
inductive Iu  (ds:List D) (S:aI) (k:KD):Prop
 |mk (n:Nat) (d:D) (l:List (Str×Int)) (m:Int):ds=[.ob n,d,.int m]->S[n]?=some (.ins A.j6 [] [])->xq S d=some (l.map pT)->l.length<64->k .dD (S.set n (.ins A.j6 ["terms","number"] ([.tup (l.map pT),.int m].map .t)))->Iu ds S k
inductive Dj  (ds:List D) (S:aI) (k:KD):Prop
 |mk (d:D) (l:List (Str×Int)) (m:Int):ds=[d,.int m]->xq S d=some (l.map pT)->l.length<64->k (.t (nI A (sumOf l m))) S->Dj ds S k
inductive Dk (C:Addr) (ds:List D) (S:aI) (k:KD):Prop
 |mk (n:Nat) (d:D) (l:List T):ds=[.ob n,d]->S[n]?=some (.ins C [] [])->xq S d=some l->k .dD (S.set n (.ins C ["conditions"] ([.tup l].map .t)))->Dk C ds S k
inductive Dr  (ds:List D) (S:aI) (k:KD):Prop
 |mk (d:D) (l:List (Int×bT)):ds=[d]->xq S d=some (l.map (atT A))->l.length<=100->k (.tup (l.map (atT A))) S->Dr ds S k
inductive LB  (ds:List D) (S:aI) (k:KD):Prop
 |mk (i:Nat) (a:Int) (d1 d2:D) (ns:List Str) (hp:Str) (g:List Sm):ds=[.ob i,.int a,d1,.str hp,d2]->S[i]?=some (.ins A.lU [] [])->xq S d1=some (ns.map T.str)->xq S d2=some (g.map (nI A))->k .dD (S.set i (.ins A.lU ["at","names","helper","given"] ([.int a,nX ns,.str hp,.tup (g.map (nI A))].map .t)))->LB ds S k
inductive Qd  (ds:List D) (S:aI) (k:KD):Prop
 |mk (i:Nat) (a:Int) (c:T) (d1 d2:D) (t e:List T):ds=[.ob i,.int a,.t c,d1,d2]->S[i]?=some (.ins A.fR [] [])->xq S d1=some t->xq S d2=some e->k .dD (S.set i (.ins A.fR ["at","condition","then","other"] ([.int a,c,.tup t,.tup e].map .t)))->Qd ds S k
inductive Ly  (ds:List D) (S:aI) (k:KD):Prop
 |mk (i:Nat) (a:Int) (c f:T) (d1 d2:D) (hs:List (Int×bT)) (b:List T):ds=[.ob i,.int a,.t c,d1,.t f,d2]->S[i]?=some (.ins A.fk [] [])->xq S d1=some (hs.map (atT A))->hs.length<=100->xq S d2=some b->k .dD (S.set i (.ins A.fk ["at","condition","keeps","falls","body"] ([.int a,c,.tup (hs.map (atT A)),f,.tup b].map .t)))->Ly ds S k
inductive Qa  (ds:List D) (S:aI) (k:KD):Prop
 |mk (i:Nat) (d1 d2 d3 d4 d5:D) (h:gE):ds=[.ob i,.int h.at_,.str h.name,d1,d2,d3,d4,d5]->S[i]?=some (.ins A.fQ [] [])->xq S d1=some (h.params.map T.str)->xq S d2=some (h.answers.map T.str)->xq S d3=some (h.needs.map (atT A))->xq S d4=some (h.gives.map (atT A))->xq S d5=some (yG A h.steps)->h.needs.length<=100->h.gives.length<=100->k .dD (S.set i (.ins A.fQ ["at","name","params","answers","needs","gives","steps"] ([.int h.at_,.str h.name,nX h.params,nX h.answers,.tup (h.needs.map (atT A)),.tup (h.gives.map (atT A)),.tup (yG A h.steps)].map .t)))->Qa ds S k
inductive P6  (ds:List D) (S:aI) (k:KD):Prop
 |mk (i:Nat) (d:D) (hs:List gE):ds=[.ob i,d]->S[i]?=some (.ins A.cO [] [])->xq S d=some (hs.map (Om A))->k .dD (S.set i (.ins A.cO ["helpers"] ([.tup (hs.map (Om A))].map .t)))->P6 ds S k
inductive xV  (ds:List D) (S:aI) (k:KD):Prop
 |mk (a:Sm):ds=[.t (nI A a)]->k (.t (g9 a)) S->xV ds S k
inductive gP (n j:Nat) (ds:List D) (S:aI) (k:KD):Prop
 |mk (c:bT):ds=[.t (gI A c)]->pH c=j->c.dep<n->c.sz<=40->k (.t (gD c)) S->gP n j ds S k
inductive Dg  (ds:List D) (S:aI) (k:KD):Prop
 |mk (l:List (Int×bT)):ds=[.tup (l.map (atT A))]->l.length<=100->(∀p∈l,AV p.2)->k (.tup (l.map M0)) S->Dg ds S k
inductive Tx (n:Nat):T->T->Nat->Prop
 |s (s:cD) (h:dF s) (d:s.dp<n):Tx n (iG A s) (iZ s) (kd s)
 |h (x:gE) (h:xG x) (d:jX x.steps+1<n):Tx n (Om A x) (EB x) 9
 |m (s:Sm) (d:0<n):Tx n (nI A s) (g9 s) 10
inductive pG (n j:Nat) (ds:List D) (S:aI) (k:KD):Prop
 |mk (x y:_):ds=[.t x]->Tx A n x y j->k (.t y) S->pG n j ds S k
inductive gO (n j:Nat) (ds:List D) (S:aI) (k:KD):Prop
 |mk (s:cD):ds=[.t (iG A s)]->kd s=j->dF s->s.dp<n+1->k (.t (iZ s)) S->gO n j ds S k
inductive yQ (n:Nat) (ds:List D) (S:aI) (k:KD):Prop
 |mk (h:gE):ds=[.t (Om A h)]->xG h->jX h.steps+1<n+1->k (.t (EB h)) S->yQ n ds S k
inductive xW (n:Nat) (ds:List D) (S:aI) (k:KD):Prop
 |mk (l:List (T×T)):ds=[.tup (l.map (·.1))]->l.length<=100->(∀p∈l,∃j,Tx A n p.1 p.2 j)->k (.tup (l.map (·.2))) S->xW n ds S k
inductive yJ  (ds:List D) (S:aI) (k:KD):Prop
 |mk (hs:List gE):ds=[.t (OM A hs)]->hs.length<=100->(∀h∈hs,xG h/\jX h.steps<=8)->k (.tup (hs.map EB)) S->yJ ds S k
inductive Di  (ds:List D) (S:aI) (k:KD):Prop
 |mk (t:Str) (w:Int):ds=[.str t,.int w]->Small w->t.length<=100->k (.str (eG t w)) S->Di ds S k
def uv (w:Int):Str:=if w<0 then "-" else ""
inductive Qf  (ds:List D) (S:aI) (k:KD):Prop
 |mk (w:Int):ds=[.int w]->k (.str (uv w)) S->Qf ds S k
inductive Qe  (ds:List D) (S:aI) (k:KD):Prop
 |mk (w:Int):ds=[.int w]->k (.str (gR w)) S->Qe ds S k
inductive Dh  (ds:List D) (S:aI) (k:KD):Prop
 |mk (s:Sm):ds=[.t (nI A s)]->lY s->k (.str (ig s)) S->Dh ds S k
inductive gQ (n j:Nat) (ds:List D) (S:aI) (k:KD):Prop
 |mk (c:bT):ds=[.t (gI A c)]->pH c=j->c.dep<n->sE c->c.sz<=9->k (.str (pZ c)) S->gQ n j ds S k
inductive yI (n:Nat) (ds:List D) (S:aI) (k:KD):Prop
 |mk (c:bT):ds=[.t (gI A c)]->c.dep<n->sE c->c.sz<=9->k (.str (HX c)) S->yI n ds S k
inductive gj (n j:Nat) (ds:List D) (S:aI) (k:KD):Prop
 |mk (s:cD):ds=[.t (iG A s)]->kd s=j->dF s->s.dp<n->(rws s).length<=1000->k (.lst ((rws s).map T.str)) S->gj n j ds S k
inductive xX (n:Nat) (ds:List D) (S:aI) (k:KD):Prop
 |mk (l:List cD):ds=[.tup (yG A l)]->gY l->jX l<n->(aJ l).length<=1000->k (.lst ((aJ l).map T.str)) S->xX n ds S k
inductive Dl  (ds:List D) (S:aI) (k:KD):Prop
 |mk (w:Str) (l:List (Int×bT)):ds=[.str w,.tup (l.map (atT A))]->l.length<=10->(∀p∈l,AV p.2)->w.length<=10->k (.lst (l.map λp=>T.str ((w++(" ":Str))++pZ p.2))) S->Dl ds S k
inductive yR  (ds:List D) (S:aI) (k:KD):Prop
 |mk (h:gE):ds=[.t (Om A h)]->xG h->jX h.steps<=8->(aL h).length<=1000->k (.lst ((aL h).map T.str)) S->yR ds S k
inductive yK  (ds:List D) (S:aI) (k:KD):Prop
 |mk (hs:List gE):ds=[.t (OM A hs)]->(∀h∈hs,xG h/\jX h.steps<=8)->((hs.map aL).flatten).length<=600->k (.lst (((hs.map aL).flatten).map T.str)) S->yK ds S k
inductive PC  (ds:List D) (S:aI) (k:KD):Prop
 |mk (rs:List Str):ds=[.lst (rs.map T.str)]->rs.length<=600->(∀r∈rs,r.length<=25000)->k (.str (US rs)) S->PC ds S k
inductive uZ  (ds:List D) (S:aI) (k:KD):Prop
 |mk (hs:List gE):ds=[.t (OM A hs)]->(∀h∈hs,xG h/\jX h.steps<=8)->((hs.map aL).flatten).length<=600->k (.str (Gm hs)) S->uZ ds S k
def Uj (x:Str):Prop:=Nw x/\x.cps.toList≠[]
noncomputable def oY:jcB:=(["helper","answers","needs","gives","end","let","div","mod","put","row","at","if","else"]:jcB)++(["while","holds","falls","call","claim","and","or","not"]:jcB)
def P9:lV:=λa S k=>a=[]/\k (.t (Bu oY)) S
inductive Iz  (ds:List D) (S:aI) (k:KD):Prop
 |mk (d:Nat) (x:D) (N:List Str):ds=[.ob d,x]->Dq S d->lq S x=some (N.map T.str)->N.length<=100->(∀x∈N,Tw x)->(∀s c m,lY s->k (.t (g9 s)) (bN S d c m))->Iz ds S k
def H9:Nat->Nat
 |0=>1 | 1=>4 | _=>9
inductive tE (n:Nat) (ds:List D) (S:aI) (k:KD):Prop
 |mk (d:Nat) (x:D) (N:List Str):n<3->ds=[.ob d,x,.int n]->Dq S d->lq S x=some (N.map T.str)->N.length<=100->(∀x∈N,Tw x)->(∀e c m,sE e->e.dep<=n->e.sz<=H9 n->k (.t (gD e)) (bN S d c m))->tE n ds S k
def F0:Nat->lV
 |0=>P7
 |n+1=>tE n
structure M8 (ws N ms us:List Str):Prop where
 w:ws≠[]/\ws.length<=100/\∀x∈ws,Nw x
 n:N≠[]/\N.length<=100/\∀x∈N,Tw x
 m:ms.length<=100/\∀x∈ms,Nw x
 u:us≠[]/\us.length<=100/\∀x∈us,Nw x
def Ju (ws N a us:jcB):T:=.tup [Bu ws,Bu N,Bu a,Bu us]
structure HlC (h:gE):Prop where
 nm:Nw h.name
 pl:h.params.length<=8/\h.answers.length<=8
 ps:∀x∈h.params,x.cps.toList≠[]/\x.length<=100
def Cs:Nat->Nat
 |0=>1 | 1=>7 | _=>31
inductive yM  (ds:List D) (S:aI) (k:KD):Prop
 |mk (hs:List gE):ds=[.lst (hs.map jW)]->hs.length<=100->(∀h∈hs,HlC h)->(∀l:List gE,(∀h∈l,h∈hs)->l.length<=hs.length->k (.lst (l.map jW)) S)->yM ds S k
inductive Dv  (ds:List D) (S:aI) (k:KD):Prop
 |mk (d:Nat) (ws N ms us:List Str) (h:gE):ds=[.ob d,.t (Ju ws N ms us),.t (jW h)]->Dq S d->M8 ws N ms us->HlC h->(∀s c m,dF s->s.dp=1->(rws s).length=1->k (.t (iP s)) (bN S d c m))->Dv ds S k
inductive Du (n:Nat) (ds:List D) (S:aI) (k:KD):Prop
 |mk (d:Nat) (ws N ms us:List Str) (hs:List gE):n<3->ds=[.ob d,.t (Ju ws N ms us),.int n,.lst (hs.map jW)]->Dq S d->M8 ws N ms us->hs.length<=100->(∀h∈hs,HlC h)->(∀s c m,dF s->s.dp<=n+1->(rws s).length<=Cs n->k (.t (iP s)) (bN S d c m))->Du n ds S k
inductive s9 (n:Nat) (ds:List D) (S:aI) (k:KD):Prop
 |mk (d j:Nat) (ws N ms us:List Str) (hs:List gE):n<3->ds=[.ob d,.t (Ju ws N ms us),.int j,.int n,.lst (hs.map jW)]->j<=10->Dq S d->M8 ws N ms us->hs.length<=100->(∀h∈hs,HlC h)->(∀l c m,gY l->l.length=j->jX l<=n+1->(aJ l).length<=j*Cs n->k (.tup (wV l)) (bN S d c m))->s9 n ds S k
def Cp:Nat->lV
 |0=>P7
 |n+1=>s9 n
structure XD (h:gE)(d r:Nat):Prop where
 g:xG h
 c:HlC h
 dp:jX h.steps<=d
 rw:(aL h).length<=r
inductive u5  (ds:List D) (S:aI) (k:KD):Prop
 |mk (d j:Nat) (nm:Str) (ns:List Str) (hs:List gE):ds=[.ob d,.str nm,.t (Bu ns),.int j,.lst (hs.map jW)]->Dq S d->Uj nm->ns.length=8->ns.Nodup->(∀x∈ns,Uj x)->j<=2->hs.length<=100->(∀h∈hs,HlC h)->(∀h c m,XD h 3 70->k (.t (jW h)) (bN S d c m))->u5 ds S k
inductive yP  (ds:List D) (S:aI) (k:KD):Prop
 |mk (d:Nat):ds=[.ob d]->Dq S d->(∀h c m,XD h 6 70->k (.t (jW h)) (bN S d c m))->yP ds S k
inductive Ds  (ds:List D) (S:aI) (k:KD):Prop
 |mk (s:Sm):ds=[.t (g9 s)]->lY s->k (.str (ig s)) S->Ds ds S k
inductive mj (n:Nat) (ds:List D) (S:aI) (k:KD):Prop
 |mk (c:bT):ds=[.t (gD c)]->c.dep<n->sE c->c.sz<=9->k (.str (pZ c)) S->mj n ds S k
inductive xY  (ds:List D) (S:aI) (k:KD):Prop
 |mk (r:Nat) (x:Str) (R:List Str):ds=[.ob r,.str x]->S[r]?=some (.lst (R.map T.str))->R.length<=1000->k (.int R.length) (S.set r (.lst ((R++[x]).map T.str)))->xY ds S k
inductive yN (n:Nat) (ds:List D) (S:aI) (k:KD):Prop
 |mk (r:Nat) (s:cD) (R:List Str):ds=[.t (iP s),.ob r]->S[r]?=some (.lst (R.map T.str))->dF s->s.dp<n->R.length+(rws s).length<=1000->k (.t (iZ (lay R.length s))) (S.set r (.lst ((R++rws s).map T.str)))->yN n ds S k
inductive tu (n:Nat) (ds:List D) (S:aI) (k:KD):Prop
 |mk (r:Nat) (s:cD) (R:List Str):ds=[.t (iP s),.ob r]->7<=kd s->S[r]?=some (.lst (R.map T.str))->dF s->s.dp<n->R.length+(rws s).length<=1000->k (.t (iZ (lay R.length s))) (S.set r (.lst ((R++rws s).map T.str)))->tu n ds S k
inductive Iw  (ds:List D) (S:aI) (k:KD):Prop
 |mk (l:List Int):ds=[.t (.Cq (l.map T.int))]->S=[]->(∀S',k (.bl true) S')->Iw ds S k
end
def a42 (A:Ad)(S:aI){n j:Nat}{x y:T}(h:Tx A n x y j):∃ns l,iq S (.t x)=some (clX A j,ns,l)/\ns.contains "told"=false/\j<11:=by
 cases h with
 |s s h=>
  obtain⟨ns,l,a,b,_⟩:=Yt A S s;have hk:=Mg s;refine⟨ns,l,?_,b,by lia⟩;rw[a];have:clX A (kd s)=clS A (kd s):=by cases s<;>rfl
  rw[this]
 |h x d c=>exact⟨_,_,M,by symm,by decide⟩
 |m s=>exact⟨_,_,M,by symm,by decide⟩
def bh (a b:Str):cp (a++b)=cp a++cp b:=p7 a b
def kj (x:Str):Str.empty++x=x:=dB (by rw[bh];rfl)
theorem YL (a:Str):∀(l:jcB)(x:Str),cp (Str.join a (x::l))=cp x++(l.map λy=>cp a++cp y).flatten
 |[],x=>by simp[Str.join]
 |y::r,x=>by
  show cp (x++a++Str.join a (y::r))=_;rw[bh,bh,YL a r y];simp
def nD (a:Str)(l:jcB)(x:Str):cp (Txt.join a (x::l))=cp x++(l.map λy=>cp a++cp y).flatten:=by
 show cp (Builtin.Str.glued a (x::l))=_;rw[jba];exact YL a l x
def qT (q:Int×Str):T:=.tup [.int q.1,.str q.2]
def F1 {s:Sm}{q:Int×Str}{r:Qs}(e:cY s.1 s.2=q::r):Txt.join "" ((uv q.1++q.2)::r.map λp=>gR p.1++p.2)=ig s:=by
 apply Dz;have a:=Av ((uv q.1++q.2)::r.map λp=>gR p.1++p.2);rw[a,e];unfold Gs dW;have h:cp (uv q.1)=(if q.1<0 then[45] else[]):=by unfold uv;split<;>symm
 rw[jaf,jaG,bh,h,jas];congr 3;funext p;exact bh _ _
def zF (l:List (Str×Int))(n:Int):cY l n=(l.map λp=>(p.2,eG p.1 p.2))++(if(!decide (n=0)||decide (l.length=0))=true then[(n,dQ n)] else[]):=by
 unfold cY;congr 1;by_cases h:n=0
 .by_cases h2:l=[]
  .rw[jab (.inr h2),jab (by simp[h2])]
  .rw[jaa (by rintro(z | z)<;>contradiction),jaa (by simp[h,h2])]
 .rw[jab (.inl h),jab (by simp[h])]
def Jv {t u:nG}{Z:Sl}{S:aI}{k:Bool->aI->Prop}(a b:Bool)(d:∀k',k' a S->t Z S k')(c:∀k',k' b S->u Z S k')(hk:k (a||b) S):Ni t u Z S k:=by
 refine d _ ?_;cases a with
 |true=>exact hk
 |false=>exact c _ hk
def ur {t u:nG}{Z:Sl}{S:aI}{k:Bool->aI->Prop}(a b:Bool)(d:∀k',k' a S->t Z S k')(c:∀k',k' b S->u Z S k')(hk:k (a&&b) S):Lr t u Z S k:=by
 refine d _ ?_;cases a with
 |false=>exact hk
 |true=>exact c _ hk
def qL:cp (" ":Str)=[32]:=by symm
def nE:cp ("=":Str)=[61]:=by symm
def MH:cp ("at":Str)=[97,116]:=by symm
def vJ:cp ("let":Str)=[108,101,116]:=by symm
def pY:cp ("let ":Str)=[108,101,116,32]:=by symm
def k9:cp (" = ":Str)=[32,61,32]:=by symm
def EO:cp (" at ":Str)=[32,97,116,32]:=by symm
def Tp:cp ("put":Str)=[112,117,116]:=by symm
def MD:cp ("put ":Str)=[112,117,116,32]:=by symm
def To:cp ("row":Str)=[114,111,119]:=by symm
def MC:cp ("row ":Str)=[114,111,119,32]:=by symm
def Xj:cp ("call":Str)=[99,97,108,108]:=by symm
def Tq:cp ("call ":Str)=[99,97,108,108,32]:=by symm
def a2j:cp ("= ":Str)=[61,32]:=by symm
def J8:cp ("":Str)=[]:=by symm
theorem j_lt (x t:Str):Txt.join " " [("let":Str),x,"=",t]=((("let ":Str)++x)++(" = ":Str))++t:=dB (by
 rw[nD];simp only[bh,qL,nE,vJ,pY,k9,jaf,jaU,jaG,jbK];simp)
theorem a7P (x t:Str):Txt.join " " [("row":Str),x,"=",t]=((("row ":Str)++x)++(" = ":Str))++t:=dB (by
 rw[nD];simp only[bh,qL,nE,To,MC,k9,jaf,jaU,jaG,jbK];simp)
theorem a7R (x s a b:Str):Txt.join " " [("let":Str),x,"=",s,a,b]=(((((("let ":Str)++x)++(" = ":Str))++s)++(" ":Str))++a)++(" ":Str)++b:=dB (by
 rw[nD];simp only[bh,qL,nE,vJ,pY,k9,jaf,jaU,jaG,jbK];simp)
theorem a7Q (x r p:Str):Txt.join " " [("let":Str),x,"=",r,"at",p]=((((("let ":Str)++x)++(" = ":Str))++r)++(" at ":Str))++p:=dB (by
 rw[nD];simp only[bh,qL,nE,vJ,pY,k9,MH,EO,jaf,jaU,jaG,jbK];simp)
theorem a7O (r p s:Str):Txt.join " " [("put":Str),r,"at",p,"=",s]=((((("put ":Str)++r)++(" at ":Str))++p)++(" = ":Str))++s:=dB (by
 rw[nD];simp only[bh,qL,nE,Tp,MD,k9,MH,EO,jaf,jaU,jaG,jbK];simp)
theorem FZ:∀ns:jcB,[32]++(ns.map λx=>cp x++[32]).flatten=(ns.map λx=>[32]++cp x).flatten++[32]
 |[]=>rfl
 |x::r=>by
  have a:=FZ r;rw[jaf,jaG,jaf,jaG];simp only[jax] at a ⊢;rw[a]
def fh (a:jcB)(b:Str)(g:List Sm):jcB:=((if 0<a.length then([("call":Str)]++a)++[("=":Str)] else[("call":Str)])++[b])++(if 0<g.length then[Txt.join ", " (g.map ig)] else[])
theorem Sq (a:jcB)(b:Str)(g:List Sm):Txt.join " " (fh a b g)=AB a b g:=dB (by
 have i:cp (qM a b)=(a.map λx=>cp x++[32]).flatten++((if a=[] then[] else[61,32])++cp b):=by
  unfold qM;rw[bh,bh,Av,jas];have:(cp ∘ λx:Str=>x++(" ":Str))=λx=>cp x++[32]:=by funext x;show cp (x++(" ":Str))=_;rw[bh,qL]
  rw[this,jax];congr 2;split
  .exact J8
  .exact a2j
 have j:cp (AB a b g)=[99,97,108,108]++(([32]++cp (qM a b))++(if g=[] then[] else[32]++cp (Txt.join ", " (g.map ig)))):=by
  unfold AB;rw[bh,Tq];split
  .simp
  .rw[bh,bh,qL];simp
 rw[j,i];unfold fh;have d:∀(l:jcB),cp (Txt.join " " (("call":Str)::l))=[99,97,108,108]++(l.map λy=>[32]++cp y).flatten:=λl=>by rw[nD,Xj,qL]
 have f:=FZ a;have e:(([32]++(a.map λx=>cp x++[32]).flatten++((if a=[] then[] else[61,32])++cp b)):jcH)=((if 0<a.length then(a.map λy=>[32]++cp y).flatten++[32,61] else[])++([32]++cp b)):=by
  rw[f];by_cases h:a=[]
  .subst h;simp
  .rw[jaa h,jab (ja0.mpr h)];simp
 rw[<- jax [32],e];by_cases h:0<a.length
 .rw[jab h,jab h];by_cases c:0<g.length
  .rw[jab c,jaa (by rintro rfl;simp at c)];have:=d (((a++[("=":Str)])++[b])++[Txt.join ", " (g.map ig)]);simp only[jau,jby,jaf,jaU,jaG,jbK,nE] at this;simpa using this
  .rw[jaa c,jab (jbd.mp (by lia))];have:=d ((a++[("=":Str)])++[b]);simp only[jau,jby,jaf,jaU,jaG,jbK,nE] at this;simpa using this
 .rw[jaa h,jaa h];by_cases c:0<g.length
  .rw[jab c,jaa (by rintro rfl;simp at c)];have:=d ([b]++[Txt.join ", " (g.map ig)]);simpa using this
  .rw[jaa c,jab (jbd.mp (by lia))];have:=d [b];simpa using this)
def UO:Str.ofString "holds"++Str.ofString " "=Str.ofString "holds ":=by symm
def K7:Str.ofString "needs"++Str.ofString " "=Str.ofString "needs ":=by symm
def K8:Str.ofString "gives"++Str.ofString " "=Str.ofString "gives ":=by symm
def w_and:(Str.ofString " "++Str.ofString "and")++Str.ofString " "=Str.ofString " and ":=by symm
def w_or:(Str.ofString " "++Str.ofString "or")++Str.ofString " "=Str.ofString " or ":=by symm
def iY {n:Nat}(h:n<=1000000):n<=sizeLine:=jay h (by rw[ja3];decide)
def p9 {n:Nat}(h:n<=1000000):n<=sizeLine:=iY h
theorem Tt {α:Type}{G:aI->Prop}{g:vQ}{tt:nG}{te:cZ}{δ0:Sl}{k:List T->aI->Prop}{S:aI}{l:List α}(c:α->T)(I:List α->List T->aI->Prop)(d:I [] [] S)(q:∀pre ys S',I pre ys S'->ys.length<sizeLine)
  (hs:∀pre x post ys S' (b:Option T->aI->Prop),l=pre++x::post->I pre ys S'->(∀y M4,I (pre++[x]) (ys++[y]) M4->b (some y) M4)->G S'/\elem g tt te δ0 (.t (c x)) S' b)
  (m:∀ys S',I l ys S'->G S'/\k ys S'):ff G g tt te δ0 ((l.map c).map .t) S [] k:=by
 have j:∀(r pre:List α)(ys:List T)(S':aI),l=pre++r->I pre ys S'->ff G g tt te δ0 ((r.map c).map .t) S' ys k:=by
  intro r
  induction r with
  |nil=>intro pre ys S' e h;rw[jaD] at e;subst e;exact m ys S' h
  |cons a r f=>
   intro pre ys S' e h;obtain⟨i,n⟩:=hs pre a r ys S' (λo M4=>match o with | some y=>ys.length<sizeLine/\ff G g tt te δ0 ((r.map c).map .t) M4 (ys++[y]) k | none=>ff G g tt te δ0 ((r.map c).map .t) M4 ys k) e h
    λy M4 p=>⟨q pre ys S' h,f (pre++[a]) (ys++[y]) M4 (by rw[e];simp) p⟩
   exact⟨i,n⟩
 exact j l [] [] S rfl d
def Qk (w:Int):jY [T.str (Str.ofString " + "),T.str (Str.ofString " - ")] (if decide (w<0)=true then 1 else 0)=some (T.str (gR w)):=by
 unfold gR;by_cases h:w<0
 .rw[jab h,jah h];rfl
 .rw[jaa h,jai h];rfl
def JW {x:Str}{pre:List (Str×Int)}{t:Str}{w:Int}(h:cp x=dW (pre.map λp=>(p.2,eG p.1 p.2))):cp ((x++gR w)++eG t w)=dW ((pre++[(t,w)]).map λp=>(p.2,eG p.1 p.2)):=by
 rw[bh,bh,h,jau,jaf,jaU,Aq,jax]
def Mu {x:Str}{l:Qs}(h:cp x=dW l)(hs:∀q∈l,q.2.length<=166):x.length<=169*l.length:=by
 rw[bJ,h];exact vF hs
def FN {s:Sm}{x:Str}(h:cp x=dW (cY s.1 s.2)):3<=x.length/\∃w:Int,Txt.slice x none (some 3)=gR w/\(w<0->Str.ofString "-"++Txt.slice x (some 3) none=ig s)/\(¬ w<0->Txt.slice x (some 3) none=ig s):=by
 obtain⟨q,r,e⟩:=iS s.1 s.2;rw[e] at h;obtain⟨d,c⟩:=SQ q r;have a:3<=x.length:=by
  rw[bJ,h];have:=DC q.1;rw[<- d,jbV] at this;lia
 refine⟨a,q.1,?_,λb=>?_,λb=>?_⟩
 .exact dB (by rw[Qi a,h,d])
 .refine Dz ?_;rw[bh,yS a,h,e,c,jab b];rfl
 .refine Dz ?_;rw[yS a,h,e,c,jaa b];rfl
def hk0:decide (Str.ofString "compare"∈[Str.ofString "and",Str.ofString "or"])=decide (2<=0):=by symm
def hk1:decide (Str.ofString "not"∈[Str.ofString "and",Str.ofString "or"])=decide (2<=1):=by symm
def hk2:decide (Str.ofString "and"∈[Str.ofString "and",Str.ofString "or"])=decide (2<=2):=by symm
def hk3:decide (Str.ofString "or"∈[Str.ofString "and",Str.ofString "or"])=decide (2<=3):=by symm
def a1U (c:bT):∃(w:Str)(l:List T),gD c=.tup (.str w::l)/\decide (w∈[Str.ofString "and",Str.ofString "or"])=decide (2<=pH c):=by
 cases c with
 |cmp a s b=>exact⟨_,_,yt a b s,hk0⟩
 |neg c=>exact⟨_,_,yq c,hk1⟩
 |con q d=>
  cases q with
  |true=>exact⟨_,_,yr true d,hk2⟩
  |false=>exact⟨_,_,yr false d,hk3⟩
def a44 {c:nG}{a b:nL}{E:jV}{Z:Sl}{S:aI}(v:Bool)(g:∀k',k' v S->c Z S k')(P:Prop)(f:v=true->P->a E Z S)(e:v=false->P->b E Z S)(d:P):Cj c a b E Z S:=by
 refine g _ ?_;cases v with
 |true=>exact f rfl d
 |false=>exact e rfl d
def HF (h:gE):jcB:=if h.answers=[] then[] else[Txt.join " " ([("answers":Str)]++h.answers)]
def uu (h:gE):(HF h).length=E7 h:=by unfold HF E7;split<;>rfl
def pS (h:gE):aL h=([Txt.join " " ([("helper":Str),h.name]++h.params)]++HF h)++h.needs.map (λp=>pre "needs " p.2)++h.gives.map (λp=>pre "gives " p.2)++aJ h.steps++[("end":Str)]:=by unfold aL HF;rfl
def a1J {S:aI}{n:Nat}{l:List T}{k:List D->(aI->Prop)->aI->Prop}(h:S[n]?=some (.lst l))(hk:k (l.map .t) (λS=>S[n]?=some (.lst l)) S):JP (.ob n) S k:=.inr ⟨n,l,M,h,hk⟩
theorem MO {L j:Nat}{a b:aI}{l:List T}{k:KD}(c:∀o∈a,ES L o)(d:a.length=L)(e:b[j]?=some (.lst l))(h:k (.lst l) a):closes L (.ob (L+j)) (a++b) k:=
 .inr (.inr (.inl ⟨_,l,a,b,M,by lia,M,d,c,by rw[cP d];exact e,h⟩))
def Oc:∀x∈oY,x.cps.toList.head?≠some 122:=by symm
def yx (k:Int)(t:Nat):zt k t∉oY:=λh=>Oc _ h (by unfold zt;rw[CY];rfl)
def GL {ss:jcB}{w:Str->Int}(h:∀x∈ss,w x≠0):norm ((su ss).map λx=>(x,w x))=(su ss).map λx=>(x,w x):=by
 have i:((su ss).map λx=>(x,w x)).map (·.1)=su ss:=by rw[jas];exact List.map_id' _
 have j:su (su ss)=su ss:=Ip λx=>gM;have f:(su ss).Nodup:=(uY ss).imp λ{a b} d=>a4J d;have q:∀(l:jcB),l.Nodup->∀x∈l,wt (l.map λx=>(x,w x)) x=w x:=by
  intro l
  induction l with
  |nil=>intro _ x c;cases c
  |cons a r k=>
   intro f x c;obtain⟨g,n⟩:=jbh.mp f;rw[jaf,fM];rcases jae.mp c with rfl | c
   .have:wt (r.map λx=>(x,w x)) x=0:=lZ (by rw[jas];simpa using g);rw[jab M,this];simp
   .have:¬ a=x:=λe=>g (e ▸ c);rw[jaa this,k n x c];simp
 unfold norm;rw[i,j];have o:(su ss).map (λx=>(x,wt ((su ss).map λx=>(x,w x)) x))=(su ss).map λx=>(x,w x):=jbH λx c=>by rw[q _ f x c]
 rw[o,List.filter_eq_self];intro p m;obtain⟨x,c,rfl⟩:=jap.mp m;exact jah (h x (gM.mp c))
structure HJ (N:List Str)(d:List (Key×T))(ss:List Str)(w:Str->Int):Prop where
 keys:d.map (·.1)=ss.map Sum.inr
 nd:ss.Nodup
 mem:∀x∈ss,x∈N
 val:∀x∈ss,i7 d (Sum.inr x)=some (.int (w x))/\w x≠0/\Wk (w x)
def HJ.nil {N:jcB}:HJ N [] [] λ_=>0:=⟨M,.nil,λ_ h=>absurd h jaB,λ_ h=>absurd h jaB⟩
def HJ.put {N:jcB}{d:List (Key×T)}{ss:jcB}{w:Str->Int}(h:HJ N d ss w){x:Str}{v:Int}(l:x∈N)(n:v≠0)(hs:Wk v):∃ss',HJ N (dput d (Sum.inr x) (.int v)) ss' (λy=>if y=x then v else w y)/\(dput d (Sum.inr x) (.int v)).length<=d.length+1:=by
 obtain⟨i,g⟩:=CH d (Sum.inr x) (.int v);rw[h.keys] at i g;have j:(dput d (Sum.inr x) (T.int v)).length<=d.length+1:=by unfold dput;split<;>simp
 have f:∀y,(y=x\/y∈ss)->i7 (dput d (Sum.inr x) (.int v)) (Sum.inr y)=some (.int (if y=x then v else w y))/\(if y=x then v else w y)≠0/\Wk (if y=x then v else w y):=λy c=>by
  rw[Hf];by_cases e:y=x
  .subst e;rw[jab M,jab rfl];exact⟨M,n,hs⟩
  .rw[jaa e,jaa (λz=>e (Sum.inr.inj z).symm)];exact h.val y (c.resolve_left e)
 by_cases m:x∈ss
 .refine⟨ss,⟨i (jap.mpr ⟨x,m,M⟩),h.nd,h.mem,λy c=>f y (.inr c)⟩,j⟩
 .have mx:(Sum.inr x:Key)∉ss.map Sum.inr:=λz=>by
   obtain⟨y,c,e⟩:=jap.mp z;exact m (Sum.inr.inj e ▸ c)
  refine⟨ss++[x],⟨by rw[g mx];simp,?_,λy c=>?_,λy c=>?_⟩,j⟩
  .rw[jbA];exact⟨h.nd,by simp,λa o b k=>by rw[jal.mp k];exact λz=>m (z ▸ o)⟩
  .rcases jan.mp c with c | c
   .exact h.mem y c
   .rw[jal.mp c];exact l
  .rcases jan.mp c with c | c
   .exact f y (.inr c)
   .exact f y (.inl (jal.mp c))
def HJ.sm {N:jcB}{d:List (Key×T)}{ss:jcB}{w:Str->Int}(h:HJ N d ss w)(g:d.length<=3)(c:∀x∈N,Tw x){n:Int}(e:Nk n):lY ((su ss).map (λx=>(x,w x)),n):=by
 have f:ss.length<=3:=by have:=jac List.length h.keys;rw[jad,jad] at this;lia
 refine⟨GL λx a=>(h.val x a).2.1,?_,λp b=>?_,e⟩
 .have:=s8 ss;show((su ss).map _).length<=3;rw[jad];lia
 .obtain⟨x,a,rfl⟩:=jap.mp b;have a:=gM.mp a;exact⟨c x (h.mem x a),(h.val x a).2.2,(h.val x a).2.1⟩
def ZO {r:Nat}(h:(r:Int)<7):∃v:Nat,jY [T.int 0,.int 1,.int 1,.int 1,.int 2,.int 2,.int 3] (r:Int)=some (T.int (v:Int))/\v<=3:=by
 match r,h with
 |0,_=>exact⟨0,M,by decide⟩
 |1,_=>exact⟨1,M,by decide⟩
 |2,_=>exact⟨1,M,by decide⟩
 |3,_=>exact⟨1,M,by decide⟩
 |4,_=>exact⟨2,M,by decide⟩
 |5,_=>exact⟨2,M,by decide⟩
 |6,_=>exact⟨3,M,by decide⟩
 |n+7,h=>lia
def a16 {r:Nat}(h:(r:Int)<8):∃v:Int,jY [T.int 1,.int 1,.int 1,.int (-1),.int (-1),.int 2,.int (-3),.int 17] (r:Int)=some (T.int v)/\v≠0/\Wk v:=by
 match r,h with
 |0,_=>exact⟨_,M,by decide,by decide,by decide⟩
 |1,_=>exact⟨_,M,by decide,by decide,by decide⟩
 |2,_=>exact⟨_,M,by decide,by decide,by decide⟩
 |3,_=>exact⟨_,M,by decide,by decide,by decide⟩
 |4,_=>exact⟨_,M,by decide,by decide,by decide⟩
 |5,_=>exact⟨_,M,by decide,by decide,by decide⟩
 |6,_=>exact⟨_,M,by decide,by decide,by decide⟩
 |7,_=>exact⟨_,M,by decide,by decide,by decide⟩
 |n+8,h=>lia
def a63 {a b:Int}(f:Nk a)(g:Nk b)(i:Int):∃v:Int,jY [T.int 0,.int 0,.int 1,.int (-1),.int a,.int b] (i % 6)=some (T.int v)/\Nk v:=by
 have d:=jbN i (show(6:Int)≠0 by decide);have h:=jbI i (show(0:Int)<6 by decide);have e:i % 6=((i % 6).toNat:Int):=(jct d).symm;rw[e];have c:(i % 6).toNat<6:=by lia
 generalize (i % 6).toNat=r at c
 match r,c with
 |0,_=>exact⟨_,M,by decide,by decide⟩
 |1,_=>exact⟨_,M,by decide,by decide⟩
 |2,_=>exact⟨_,M,by decide,by decide⟩
 |3,_=>exact⟨_,M,by decide,by decide⟩
 |4,_=>exact⟨_,M,f⟩
 |5,_=>exact⟨_,M,g⟩
def SH {p:Str}(h:p.cps.toList≠[]):∃c,jY p.cps.toList 0=some c/\xor false (decide (V.str ⟨#[c]⟩=V.str (Str.ofString "#")))=decide (p.cps.toList.head?=some 35):=by
 cases e:p.cps.toList with
 |nil=>exact absurd e h
 |cons c r=>
  refine⟨c,by simp[jY,Og],?_⟩;rw[jaT,List.head?_cons];refine jaY.mpr ⟨λq=>?_,λq=>?_⟩
  .have q2:(⟨#[c]⟩:Str)=Str.ofString "#":=by injection q
   have b:(Str.ofString "#").cps.toList=[35]:=by symm
   have a:[c]=[35]:=by rw[<- b,<- q2]
   rw[List.cons.inj a |>.1]
  .have:c=35:=ja2 q;subst this;exact jac V.str (by symm)
def a1Z {α β:Type}(f:α->β)(P:α->Prop) [DecidablePred P] (l:List α):∃l':List α,l.filterMap (λx=>if P x then some (f x) else none)=l'.map f/\(∀x∈l',x∈l)/\l'.length<=l.length:=by
 induction l with
 |nil=>exact⟨[],M,λ_ h=>h,jaq _⟩
 |cons a r c=>
  obtain⟨l',e,h,d⟩:=c;by_cases q:P a
  .exact⟨a::l',by simp only[jbq,jab q,e,jaf],λx b=>by rcases jae.mp b with rfl | b;exact jak;exact jaj _ (h x b),by simp;lia⟩
  .exact⟨l',by simp only[jbq,jaa q,e],λx b=>jaj _ (h x b),by simp;lia⟩
def Xg (ws:jcB)(n:Nat):∃ns:jcB,k8 (ws.map T.str) none (some (n:Int))=ns.map T.str/\ns.length<=n/\∀x∈ns,x∈ws:=by
 refine⟨(ws.drop (HT.f6 ws.length 0 none)).take (HT.f6 ws.length ws.length (some (n:Int)) - HT.f6 ws.length 0 none),?_,?_,λx a=>List.mem_of_mem_drop (List.mem_of_mem_take a)⟩
 .unfold k8;rw[jad,List.map_take,jbp]
 .rw[jbV];have:HT.f6 ws.length ws.length (some (n:Int))<=n:=by rw[HT.pK];lia
  lia
def RM (x:Str){v:Int}(h:v≠0):norm [(x,v)]=[(x,v)]:=by
 have:=GL (ss:=[x]) (w:=λ_=>v) λ_ _=>h;exact this
def Qh {x:Str}(h:Tw x):lY ([(x,1)],0):=⟨RM x (by decide),by show 1<=3;decide,λp a=>by rw[jal.mp a];exact⟨h,show Wk 1 from⟨by decide,by decide⟩,by show(1:Int)≠0;decide⟩,show Nk 0 from⟨by decide,by decide⟩⟩
def ID {v:Int}(h:Nk v):lY ([],v):=⟨by rfl,by show 0<=3;decide,λp a=>absurd a jaB,h⟩
def Pu (a:Int)(x:Str)(s:Sm):iP (.lt a x s)=.tup [.str "let",.str x,g9 s]:=by rw[iP]
def Zt (a:Int)(x c:Str)(s b:Sm):iP (.dv a x c s b)=.tup [.str "divide",.str x,.str c,g9 s,g9 b]:=by rw[iP]
def Zs (a:Int)(x r:Str)(p:Sm):iP (.ft a x r p)=.tup [.str "fetch",.str x,.str r,g9 p]:=by rw[iP]
def Zq (a:Int)(r:Str)(p s:Sm):iP (.pt a r p s)=.tup [.str "put",.str r,g9 p,g9 s]:=by rw[iP]
def Zr (a:Int)(r:Str)(z:Sm):iP (.mq a r z)=.tup [.str "make",.str r,g9 z]:=by rw[iP]
def Px (a:Int)(c:bT):iP (.cm a c)=.tup [.str "claim",gD c]:=by rw[iP]
def Zu (a:Int)(c:jcB)(b:Str)(g:List Sm):iP (.cl a c b g)=.tup [.str "call",nX c,.str b,.tup (g.map g9)]:=by rw[iP]
def Py (a:Int)(c:bT)(t e:List cD):iP (.ch a c t e)=.tup [.str "choose",gD c,.tup (wV t),.tup (wV e)]:=by rw[iP]
def Pr (a:Int)(c:bT)(hs:List (Int×bT))(f:Option (Int×Sm))(b:List cD):iP (.rp a c hs f b)=.tup [.str "repeat",gD c,.tup (hs.map λp=>gD p.2),faD f,.tup (wV b)]:=by rw[iP]
def a46 {c:nG}{a b:nL}{E:jV}{Z:Sl}{S:aI}(v:Bool)(f:∀k',k' v S->c Z S k')(e:v=true->a E Z S)(d:v=false->b E Z S):Cj c a b E Z S:=by
 refine a44 v f True (λh _=>e h) (λh _=>d h) trivial
theorem Te {n:Nat}:∀{l:List cD},(∀s∈l,s.dp<=n)->jX l<=n
 |[],_=>jaN _
 |a::r,h=>by unfold jX;exact Nat.max_le.mpr ⟨h a jak,Te λx b=>h x (jaj _ b)⟩
theorem LK {n:Nat}:∀{l:List cD},(∀s∈l,(rws s).length<=n)->(aJ l).length<=l.length*n
 |[],_=>jaN _
 |a::r,h=>by
  have d:=h a jak;have c:=LK λx b=>h x (jaj _ b);unfold aJ;rw[jag,jam,Nat.succ_mul];lia
def a45 {c:nG}{a r:nL}{E:jV}{Z:Sl}{S:aI}(v:Bool)(e:∀k',k' v S->c Z S k')(d:v=true->a {E with nx:=λδ1 S1=>r E δ1 S1 } Z S)(b:v=false->r E Z S):fV (Cj c a qV) r E Z S:=a46 v e d b
def Sx {a b c:Int}:xor false (H8 (V.int a) [V.int b,V.int c])=(decide (a=b)||decide (a=c)):=by
 have e:∀b:Int,CG (V.int b) (V.int a)=decide (a=b):=λb=>by
  unfold CG;by_cases h:a=b
  .subst h;simp
  .rw[jai h];simp;lia
 rw[jaT];unfold H8;rw[jbi,jbi,List.any_nil,e,e,Bool.or_false]
def nn_b (b:jcB):xor true (decide (b.map T.str=[]))=decide (b≠[]):=by
 cases b with
 |nil=>rfl
 |cons a r=>rfl
def a7v (hs:List gE):xor true (decide (hs.map jW=[]))=decide (hs≠[]):=by
 cases hs with
 |nil=>rfl
 |cons a r=>rfl
def a62 {r:Nat}(h:(r:Int)<6):∃v:Int,jY [T.int 2,.int 3,.int (-2),.int 1,.int 7,.int 0] (r:Int)=some (T.int v)/\Nk v:=by
 match r,h with
 |0,_=>exact⟨_,M,by decide,by decide⟩
 |1,_=>exact⟨_,M,by decide,by decide⟩
 |2,_=>exact⟨_,M,by decide,by decide⟩
 |3,_=>exact⟨_,M,by decide,by decide⟩
 |4,_=>exact⟨_,M,by decide,by decide⟩
 |5,_=>exact⟨_,M,by decide,by decide⟩
 |n+6,h=>lia
def a2r {a b:Sm}{i:Int}(h:i=0\/i=1)(c:lY a)(d:lY b):∃s:Sm,jY [g9 a,g9 b] i=some (g9 s)/\lY s:=by
 rcases h with rfl | rfl
 .exact⟨a,M,c⟩
 .exact⟨b,M,d⟩
def a2q {a b c:Sm}{i:Int}(h:i=0\/i=1\/i=2)(d:lY a)(f:lY b)(e:lY c):∃s:Sm,jY [g9 a,g9 b,g9 c] i=some (g9 s)/\lY s:=by
 rcases h with rfl | rfl | rfl
 .exact⟨a,M,d⟩
 .exact⟨b,M,f⟩
 .exact⟨c,M,e⟩
def a2s {s:Sm}{i:Int}(h:i=0\/i=1)(hs:lY s):∃f:Option (Int×Sm),jY [T.dD,g9 s] i=some (faD f)/\∀p,f=some p->lY p.2:=by
 rcases h with rfl | rfl
 .exact⟨none,M,λp h=>by cases h⟩
 .exact⟨some (0,s),M,λp h=>by cases h;exact hs⟩
def Vt (n:Nat):1<=Cs n:=by
 match n with
 |0=>decide
 |1=>decide
 |n+2=>exact(by decide:1<=31)
def Oz {e:bT}(h:sE e)(d:e.dep<=1)(z:e.sz<=H9 1):AV e:=⟨h,by lia,by have:H9 1=4:=rfl;lia⟩
def Z0 {a:Int}{c:bT}{t e:List cD}{p:Nat}(h:p<2)(f:(aJ t).length<=2*Cs p)(g:(aJ e).length<=2*Cs p):(rws (.ch a c t e)).length<=Cs (p+1):=by
 unfold rws;have:(if e=[] then[] else("else":Str)::aJ e).length<=(aJ e).length+1:=by split<;>simp
 rw[jag,jag,jam,jbe]
 match p,h with
 |0,_=>have b:Cs 0=1:=rfl;have d:Cs (0+1)=7:=rfl;lia
 |1,_=>have b:Cs 1=7:=rfl;have d:Cs (1+1)=31:=rfl;lia
def ZZ {a:Int}{c:bT}{hs:List (Int×bT)}{f:Option (Int×Sm)}{b:List cD}{p:Nat}(h:p<2)(g:hs.length<=2)(i:(aJ b).length<=2*Cs p):(rws (.rp a c hs f b)).length<=Cs (p+1):=by
 unfold rws;have:(EG f).length<=1:=by cases f<;>simp[EG]
 rw[jag,jag,jag,jam,jad,jbe]
 match p,h with
 |0,_=>have d:Cs 0=1:=rfl;have e:Cs (0+1)=7:=rfl;lia
 |1,_=>have d:Cs 1=7:=rfl;have e:Cs (1+1)=31:=rfl;lia
def a7r {t u:nG}{Z:Sl}{S:aI}{k:Bool->aI->Prop}(a:∀k',k' true S->t Z S k')(hk:k true S):Ni t u Z S k:=by
 refine a _ ?_;exact hk
def a8D {α:Type}(f:α->T){N:List α}{r:Nat}(h:(r:Int)<N.length):∃y,y∈N/\jY (N.map f) (r:Int)=some (f y):=by
 have a:r<N.length:=by lia
 refine⟨N[r],List.getElem_mem a,?_⟩;unfold jY;have e:Og (N.map f).length (r:Int)=some r:=by
  unfold Og;rw[jad];simp;lia
 rw[e];simp[a]
def a4u {us:jcB}(h:us≠[]):xor false (decide (us.map T.str=[]))=false:=by
 cases us with
 |nil=>exact absurd rfl h
 |cons a r=>rfl
def S9 {a:jcB}(h:a.length=8):∃a0 a1 a2 a3 a4 a5 a6 a7,a=[a0,a1,a2,a3,a4,a5,a6,a7]:=by
 match a,h with
 |[a0,a1,a2,a3,a4,a5,a6,a7],_=>exact⟨_,_,_,_,_,_,_,_,M⟩
section
variable {a0 a1 a2 a3 a4 a5 a6 a7:Str}{r:Nat}
def a2e (h:(r:Int)<3):∃ps:jcB,k8 ([a0,a1,a2,a3,a4,a5,a6,a7].map T.str) none (some (r:Int))=ps.map T.str/\ps.length<=2/\∀x∈ps,x∈[a0,a1]:=by
 match r,h with
 |0,_=>exact⟨[],M,by decide,λx h=>by cases h⟩
 |1,_=>exact⟨[a0],M,by simp,λx h=>by simp at h;simp[h]⟩
 |2,_=>exact⟨[a0,a1],M,by simp,λx h=>h⟩
 |n+3,h=>lia
def a2d (h:(r:Int)<3):∃ps:jcB,k8 ([a0,a1,a2,a3,a4,a5,a6,a7].map T.str) (some 6) (some (6+(r:Int)))=ps.map T.str/\ps.length<=2/\∀x∈ps,x∈[a6,a7]:=by
 match r,h with
 |0,_=>exact⟨[],M,by decide,λx h=>by cases h⟩
 |1,_=>exact⟨[a6],M,by simp,λx h=>by simp at h;simp[h]⟩
 |2,_=>exact⟨[a6,a7],M,by simp,λx h=>h⟩
 |n+3,h=>lia
def a2g (h:(r:Int)<3):∃ps:jcB,k8 ([a0,a1,a2,a3,a4,a5,a6,a7].map T.str) (some 3) (some (3+(r:Int)))=ps.map T.str/\ps.length<=2/\∀x∈ps,x∈[a3,a4]:=by
 match r,h with
 |0,_=>exact⟨[],M,by decide,λx h=>by cases h⟩
 |1,_=>exact⟨[a3],M,by simp,λx h=>by simp at h;simp[h]⟩
 |2,_=>exact⟨[a3,a4],M,by simp,λx h=>h⟩
 |n+3,h=>lia
def Tj:k8 ([a0,a1,a2,a3,a4,a5,a6,a7].map T.str) none (some 6)=[a0,a1,a2,a3,a4,a5].map T.str:=rfl
def a2h:k8 ([a0,a1,a2,a3,a4,a5,a6,a7].map T.str) (some 6) (some 8)=[a6,a7].map T.str:=rfl
end
def a10 (d:jcB)(l:jcB):∃l':jcB,l.filterMap (λx=>if x∈d then none else some (T.str x))=l'.map T.str/\(∀x∈l',x∈l)/\l'.length<=l.length/\∀x∈l,x∉d->x∈l':=by
 induction l with
 |nil=>exact⟨[],M,λ_ h=>h,jaq _,λ_ h=>absurd h jaB⟩
 |cons a r g=>
  obtain⟨l',e,h,i,f⟩:=g;by_cases q:a∈d
  .exact⟨l',by simp only[jbq,jab q,e],λx b=>jaj _ (h x b),by simp;lia,λx b c=>by
    rcases jae.mp b with rfl | b
    .exact absurd q c
    .exact f x b c⟩
  .exact⟨a::l',by simp only[jbq,jaa q,e,jaf],λx b=>by rcases jae.mp b with rfl | b;exact jak;exact jaj _ (h x b),by simp;lia,λx b c=>by
    rcases jae.mp b with rfl | b
    .exact jak
    .exact jaj _ (f x b c)⟩
def Xe (c:jcB)(l:jcB):∃l':jcB,l.filterMap (λx=>if("#":Str)++x∈c then none else some (T.str x))=l'.map T.str/\(∀x∈l',x∈l)/\l'.length<=l.length:=by
 induction l with
 |nil=>exact⟨[],M,λ_ h=>h,jaq _⟩
 |cons a r d=>
  obtain⟨l',e,h,f⟩:=d;by_cases q:("#":Str)++a∈c
  .exact⟨l',by simp only[jbq,jab q,e],λx b=>jaj _ (h x b),by simp;lia⟩
  .exact⟨a::l',by simp only[jbq,jaa q,e,jaf],λx b=>by rcases jae.mp b with rfl | b;exact jak;exact jaj _ (h x b),by simp;lia⟩
def SE (x:Str):(("#":Str)++x).length=1+x.length:=by rw[aV];rfl
theorem SG (x:Str):(("#":Str)++x).cps.toList≠[]:=λh=>by
 have b:=SE x;have a:(("#":Str)++x).length=(("#":Str)++x).cps.toList.length:=by simp[Str.length]
 rw[h] at a;simp at a;lia
theorem JX {n:Nat}(s:Sm):Fl (n+3) (g9 s):=cR λx a=>by
 rcases jae.mp a with rfl | a
 .exact cR λy b=>by obtain⟨p,_,rfl⟩:=jap.mp b;exact a5n p
 .rw[jal.mp a];exact e8 _
mutual
theorem vG:∀(c:bT){n:Nat},c.dep+4<=n->Fl n (gD c)
 |.cmp a s b,n,h=>by
  obtain⟨m,rfl⟩:∃m,n=m+4:=⟨n - 4,by lia⟩
  rw[yt];refine cR λx d=>?_;rcases jae.mp d with rfl | d
  .exact bV _
  rcases jae.mp d with rfl | d
  .exact JX _
  rcases jae.mp d with rfl | d
  .exact bV _
  .rw[jal.mp d];exact JX _
 |.neg c,n,h=>by
  unfold bT.dep at h;obtain⟨m,rfl⟩:∃m,n=m+1:=⟨n - 1,by lia⟩
  rw[yq];refine cR λx d=>?_;rcases jae.mp d with rfl | d
  .exact bV _
  .rw[jal.mp d];exact vG c (by lia)
 |.con q e,n,h=>by
  unfold bT.dep at h;obtain⟨m,rfl⟩:∃m,n=m+1:=⟨n - 1,by lia⟩
  rw[gD];refine cR λx d=>?_;rcases jae.mp d with rfl | d
  .exact bV _
  .exact Mv e (by lia) x d
theorem Mv:∀(l:List bT){n:Nat},vI l+4<=n->∀x∈Kg l,Fl n x
 |[],n,h=>λx a=>by rw[Kg] at a;exact(jaB a).elim
 |c::r,n,h=>λx a=>by
  unfold vI at h;rw[Kg] at a;rcases jae.mp a with rfl | a
  .exact vG c (by have:=jbO c.dep (vI r);lia)
  .exact Mv r (by have:=jbJ c.dep (vI r);lia) x a
end
def tZ {n:Nat}(s:Sm)(h:3<=n):Fl n (g9 s):=by
 obtain⟨m,rfl⟩:∃m,n=m+3:=⟨n - 3,by lia⟩
 exact JX s
def SR {n:Nat}(l:jcB)(h:1<=n):Fl n (nX l):=by
 obtain⟨m,rfl⟩:∃m,n=m+1:=⟨n - 1,by lia⟩
 exact cR λx a=>by obtain⟨y,_,rfl⟩:=jap.mp a;exact bV y
def a5o {n:Nat}{p:Int×bT}(h:AV p.2)(b:7<=n):Fl n (M0 p):=by
 obtain⟨m,rfl⟩:∃m,n=m+1:=⟨n - 1,by lia⟩
 refine cR λx a=>?_;rcases jae.mp a with rfl | a
 .exact e8 _
 .rw[jal.mp a];exact vG _ (by have:=h.dep;lia)
def JZ {n:Nat}{l:List (Int×bT)}(h:∀p∈l,AV p.2)(c:8<=n):Fl n (.tup (l.map M0)):=by
 obtain⟨m,rfl⟩:∃m,n=m+1:=⟨n - 1,by lia⟩
 exact cR λx b=>by obtain⟨p,a,rfl⟩:=jap.mp b;exact a5o (h p a) (by lia)
mutual
theorem a12:∀(s:cD){n:Nat},dF s->2*s.dp+8<=n->Fl n (iZ s)
 |.lt a x s,n,g,h=>by
  unfold iZ;obtain⟨m,rfl⟩:∃m,n=m+1:=⟨n - 1,by lia⟩
  refine cR λx d=>?_;simp only[jae,jaB,jbk] at d;rcases d with rfl | rfl | rfl | rfl
  .exact bV _
  .exact e8 _
  .exact bV _
  .exact tZ _ (by lia)
 |.dv a x l s b,n,g,h=>by
  unfold iZ;obtain⟨m,rfl⟩:∃m,n=m+1:=⟨n - 1,by lia⟩
  refine cR λx d=>?_;simp only[jae,jaB,jbk] at d;rcases d with rfl | rfl | rfl | rfl | rfl | rfl
  .exact bV _
  .exact e8 _
  .exact bV _
  .exact bV _
  .exact tZ _ (by lia)
  .exact tZ _ (by lia)
 |.ft a x r p,n,g,h=>by
  unfold iZ;obtain⟨m,rfl⟩:∃m,n=m+1:=⟨n - 1,by lia⟩
  refine cR λx d=>?_;simp only[jae,jaB,jbk] at d;rcases d with rfl | rfl | rfl | rfl | rfl
  .exact bV _
  .exact e8 _
  .exact bV _
  .exact bV _
  .exact tZ _ (by lia)
 |.pt a r p s,n,g,h=>by
  unfold iZ;obtain⟨m,rfl⟩:∃m,n=m+1:=⟨n - 1,by lia⟩
  refine cR λx d=>?_;simp only[jae,jaB,jbk] at d;rcases d with rfl | rfl | rfl | rfl | rfl
  .exact bV _
  .exact e8 _
  .exact bV _
  .exact tZ _ (by lia)
  .exact tZ _ (by lia)
 |.mq a r z,n,g,h=>by
  unfold iZ;obtain⟨m,rfl⟩:∃m,n=m+1:=⟨n - 1,by lia⟩
  refine cR λx d=>?_;simp only[jae,jaB,jbk] at d;rcases d with rfl | rfl | rfl | rfl
  .exact bV _
  .exact e8 _
  .exact bV _
  .exact tZ _ (by lia)
 |.cm a c,n,g,h=>by
  unfold iZ;unfold dF at g;obtain⟨m,rfl⟩:∃m,n=m+1:=⟨n - 1,by lia⟩
  refine cR λx d=>?_;simp only[jae,jaB,jbk] at d;rcases d with rfl | rfl | rfl
  .exact bV _
  .exact e8 _
  .exact vG _ (by have:=g.dep;lia)
 |.cl a v j o,n,g,h=>by
  unfold iZ;obtain⟨m,rfl⟩:∃m,n=m+2:=⟨n - 2,by lia⟩
  refine cR λx d=>?_;simp only[jae,jaB,jbk] at d;rcases d with rfl | rfl | rfl | rfl | rfl
  .exact bV _
  .exact e8 _
  .exact SR _ (by lia)
  .exact bV _
  .exact cR λy i=>by obtain⟨p,j,rfl⟩:=jap.mp i;exact tZ _ (by lia)
 |.ch a c t e,n,g,h=>by
  unfold iZ;unfold dF at g;unfold cD.dp at h;have q:=jbO (jX t) (jX e);have u:=jbJ (jX t) (jX e);obtain⟨m,rfl⟩:∃m,n=m+2:=⟨n - 2,by lia⟩
  refine cR λx d=>?_;simp only[jae,jaB,jbk] at d;rcases d with rfl | rfl | rfl | rfl | rfl
  .exact bV _
  .exact e8 _
  .exact vG _ (by have:=g.1.dep;lia)
  .exact cR (tY t g.2.1 (by lia))
  .exact cR (tY e g.2.2.1 (by lia))
 |.rp a c k f b,n,g,h=>by
  unfold iZ;unfold dF at g;unfold cD.dp at h;obtain⟨m,rfl⟩:∃m,n=m+2:=⟨n - 2,by lia⟩
  refine cR λx d=>?_;simp only[jae,jaB,jbk] at d;rcases d with rfl | rfl | rfl | rfl | rfl | rfl
  .exact bV _
  .exact e8 _
  .exact vG _ (by have:=g.1.dep;lia)
  .exact JZ g.2.2.1 (by lia)
  .cases f with
   |none=>exact a11 rfl
   |some p=>
    refine cR λy i=>?_;rcases jae.mp i with rfl | i
    .exact e8 _
    .rw[jal.mp i];exact tZ _ (by lia)
  .exact cR (tY b g.2.2.2.2.1 (by lia))
theorem tY:∀(l:List cD){n:Nat},gY l->2*jX l+8<=n->∀x∈A2 l,Fl n x
 |[],n,g,h=>λx a=>by rw[A2] at a;exact(jaB a).elim
 |c::r,n,g,h=>λx a=>by
  unfold jX at h;unfold gY at g;rw[A2] at a;have d:=jbO c.dp (jX r);have b:=jbJ c.dp (jX r);rcases jae.mp a with rfl | a
  .exact a12 c g.1 (by lia)
  .exact tY r g.2 (by lia) x a
end
theorem JY {l:List gE}(h:∀x∈l,xG x/\jX x.steps<=8):Uk 40 (l.map EB):=ym λx a=>by
 obtain⟨y,b,rfl⟩:=jap.mp a;obtain⟨g,d⟩:=h y b;refine cR (n:=39) λx a=>?_;simp only[jae,jaB,jbk] at a;rcases a with rfl | rfl | rfl | rfl | rfl | rfl | rfl | rfl
 .exact bV _
 .exact e8 _
 .exact bV _
 .exact SR _ (by lia)
 .exact SR _ (by lia)
 .exact JZ g.nd (by lia)
 .exact JZ g.gv (by lia)
 .exact cR (n:=38) (tY _ g.st (by lia))
def EH {S:aI}{d j:Nat}{c m:Int}(h:j≠d):(bN S d c m)[j]?=S[j]?:=by
 unfold bN;rw[ja1 (ja7 h)]
def LY (n:Nat)(hs:List gE):Gm (bH n hs)=Gm hs:=by unfold Gm;rw[rL]
structure PgW (hs:List gE):Prop where
 l:hs.length<=3
 g:∀h∈hs,xG h/\jX h.steps<=8
 r:((hs.map aL).flatten).length<=600
theorem LN {jcx:Nat}:∀{l:List gE},(∀h∈l,(aL h).length<=jcx)->((l.map aL).flatten).length<=jcx*l.length
 |[],_=>jaN _
 |a::r,h=>by
  have d:=h a jak;have c:=LN λx b=>h x (jaj _ b);rw[jaf,jaG,jag,jam,jbQ];lia
theorem PgW.of {hs:List gE}(l:hs.length<=3)(h:∀x∈hs,XD x 6 70):PgW hs:=⟨l,λx a=>⟨(h x a).g,by have:=(h x a).dp;lia⟩,by
 have:=LN λx a=>(h x a).rw;have:70*hs.length<=210:=by lia
 lia⟩
theorem Mf:∀(l:List gE)(n:Nat),(∀h∈l,xG h/\jX h.steps<=8)->∀h∈bH n l,xG h/\jX h.steps<=8
 |[],n,_=>λh a=>by rw[bH] at a;exact(jaB a).elim
 |c::r,n,g=>λh a=>by
  rw[bH] at a;rcases jae.mp a with rfl | a
  .exact⟨a1T (g c jak).1 n,by show jX (dg _ _)<=8;rw[ua];exact(g c jak).2⟩
  .exact Mf r _ (λx b=>g x (jaj _ b)) h a
theorem pQ:∀(l:List gE)(n:Nat),(bH n l).length=l.length
 |[],n=>by rw[bH]
 |c::r,n=>by rw[bH,jam,jam,pQ r]
theorem PgW.lay {hs:List gE}(h:PgW hs)(n:Nat):PgW (bH n hs):=⟨by rw[pQ];exact h.l,Mf hs n h.g,by rw[rL];exact h.r⟩
def XD.up {h:gE}(w:XD h 3 70):XD h 6 70:=⟨w.g,w.c,by have:=w.dp;lia,w.rw⟩
end L3
namespace L2
open PySem PySem.Spec PyProof.Rows PySem.Builtin PySem.Builtin.Str
section
variable {X:Cx}
theorem wg:∀l:List (Str×Tok),Vals ((l.map (·.1)).map V.str) (strValues l)
 |[]=>.nil
 |p::r=>.cons ⟨p.2,M⟩ (wg r)
def FY {x y:Str}:(Txt.split x y).length<=x.length+2:=by
 unfold Txt.split;split
 .show 1<=_;lia
 .split
  .show 1<=_;lia
  .rw[length_partsBetween];have a:=StrLaws.occ_length_le x y 0 x.length (x.length+1);lia
def Z4:V->List V->Hp->VK->Prop:=λx c H Q=>∃a b,x=.str a/\c=[.str b]/\(b.length==0)=false/\a.length+2<=sizeLine/\∀p,H p=none->Q (.ref p) (upd H p (.lst ((Txt.split a b).map V.str)))
def RT:uP X "str.split" Z4:=by
 intro j s U H x w v r Q I i n h;obtain⟨a,b,rfl,rfl,f,o,q⟩:=h;obtain⟨t,rfl⟩:=i;obtain⟨u,rfl,g⟩:=n.one;obtain⟨d,rfl⟩:=g;have fin:∀(l:List (Str×Tok)) (k:Nat),l.map (·.1)=Txt.split a b->EP X j U Q (.ref s.heap.objs.size) {s with heap:=s.heap.push {cls:=.type "list",data:=.seq (strValues l).toArray },toks:=k }:=λl k e=>by
  refine⟨.ref s.heap.objs.size,_,I.a1j (ys:=(Txt.split a b).map V.str) (e ▸ wg l) ?_,M,q _ I.fresh⟩;rw[jad];have:=FY (x:=a) (y:=b);lia
 have m:(partsBetween a (occurrences a b 0 a.length (a.length+1)) b.length).length<=sizeLine:=by
  have p:=StrLaws.occ_length_le a b 0 a.length (a.length+1);rw[length_partsBetween];lia
 cases c:(decide (a.length<b.length)||decide (strKind a<strKind b))
 .cases hf:(occurrences a b 0 a.length (a.length+1)).isEmpty
  .refine jbc F.slot_str_split (typeIs_str _ _ _) F.entry_str_split (F.args_str_split_2 _ _) (meets_str_split_sep a b t d c f hf (by lia) m) ?_;show wants _ _ _ {s with toks:=_,heap:=s.heap.push {cls:=.type "list",data:=.seq (strsFrom s.toks (partsBetween a (occurrences a b 0 a.length (a.length+1)) b.length)).toArray } };rw[strsFrom_eq];exact fin (numbered s.toks _) _ ((numbered_texts _ _).trans ((jaa (ne_true_of_eq_false c)).trans (jaa (ne_true_of_eq_false hf))).symm)
  .exact jbc F.slot_str_split (typeIs_str _ _ _) F.entry_str_split (F.args_str_split_2 _ _) (meets_str_split_not_found a b t d c f hf) (fin [(a,t)] s.toks ((jaa (ne_true_of_eq_false c)).trans (jab hf)).symm)
 .exact jbc F.slot_str_split (typeIs_str _ _ _) F.entry_str_split (F.args_str_split_2 _ _) (meets_str_split_cannot_occur a b t d c) (fin [(a,t)] s.toks (jab c).symm)
def a3S:V->List V->Hp->VK->Prop:=λx c H Q=>∃a b,x=.str a/\c=[.str b]/\(b.length==0)=false/\a.length<=sizeLine/\∀p,H p=none->Q (.ref p) (upd H p (.tup [.str (Txt.partition a b).1,.str (Txt.partition a b).2.1,.str (Txt.partition a b).2.2]))
def WJ:uP X "str.partition" a3S:=by
 intro z s U H x B v C Q I y A h;obtain⟨a,b,rfl,rfl,w,m,q⟩:=h;obtain⟨t,rfl⟩:=y;obtain⟨u,rfl,n⟩:=A.one;obtain⟨p,rfl⟩:=n;refine jbc F.slot_str_partition (typeIs_str _ _ _) F.entry_str_partition (F.args_str_partition_2 _ _) (meets_str_partition a b t p w m) ?_;have fin:∀(d f c:Str)(j l g:Tok)(k:Nat),Txt.partition a b=(d,f,c)->EP X z U Q (.ref s.heap.objs.size) {s with heap:=s.heap.push {cls:=.type "tuple",data:=.seq [.str d j,.str f l,.str c g].toArray },toks:=k }:=λd f c j l g k e=>by
  rw[e] at q;refine⟨.ref s.heap.objs.size,_,?_,M,q _ I.fresh⟩;refine I.laid (λb o e=>jaI _ e) (jaq _) ⟨by simp only[jam,jbb];rw[ja3];decide,[.str d j,.str f l,.str c g],.cons ⟨_,M⟩ (.cons ⟨_,M⟩ (.cons ⟨_,M⟩ .nil)),?_⟩;exact⟨_,jaV s.heap M,M,0,M⟩
 unfold Txt.partition at fin;revert fin;cases occurrences a b 0 a.length 1 with
 |nil=>intro fin;exact fin _ _ _ _ _ _ _ rfl
 |cons i r=>intro fin;exact fin _ _ _ _ _ _ _ rfl
def a7i:V->List V->Hp->VK->Prop:=λx c H Q=>∃a b,x=.str a/\c=[.str b]/\a.length<=sizeLine/\Q (.str (Txt.lstripChars a b)) H
def N3:uP X "str.lstrip" a7i:=by
 intro m s U H x j v g Q I e f h;obtain⟨a,b,rfl,rfl,c,q⟩:=h;obtain⟨t,rfl⟩:=e;obtain⟨u,rfl,d⟩:=f.one;obtain⟨i,rfl⟩:=d;exact SC.lstripChars (λl k=>⟨.str _,H,I.tok _,⟨_,M⟩,q⟩) c
def a7f:V->List V->Hp->VK->Prop:=λx c H Q=>∃a b,x=.str a/\c=[.str b]/\a.length<=sizeLine/\Q (.str (Txt.rstripChars a b)) H
def N2:uP X "str.rstrip" a7f:=by
 intro m s U H x j v g Q I e f h;obtain⟨a,b,rfl,rfl,c,q⟩:=h;obtain⟨t,rfl⟩:=e;obtain⟨u,rfl,d⟩:=f.one;obtain⟨i,rfl⟩:=d;exact SC.rstripChars (λl k=>⟨.str _,H,I.tok _,⟨_,M⟩,q⟩) c
def OA:fL X (.type "int") (λvs H Q=>∃(x:Str)(n:Int),vs=[.str x]/\PySem.intText? x=some n/\x.length<=640/\Q (.int n) H):=by
 intro f s U H e d Q I r h;obtain⟨x,n,rfl,b,c,q⟩:=h;obtain⟨u,rfl,a⟩:=r.one;obtain⟨t,rfl⟩:=a;exact PySem.W.KIN.call_text b c ⟨.int n,H,I.tok _,⟨_,M⟩,q⟩
def a3W:V->List V->Hp->VK->Prop:=λx b H Q=>∃(l:Addr)(a:List V)(y z:V)(j:Nat),x=.ref l/\b=[y]/\H l=some (.lst a)/\fY y=true/\a.all fY=true/\a[j]?=some z/\CG z y=true/\(∀i,i<j->∀c,a[i]?=some c->CG c y=false)/\Q (.int j) H
def Mw {y:V}{xs:List V}{us:jcC}(r:Vals xs us)(f:xs.all fY=true){i:Nat}{z:V}(e:xs[i]?=some z)(c:i<us.length):G8 y us[i]=CG z y:=by
 obtain⟨u,a,b⟩:=r.get e;rw[jaK c] at a;cases a;exact J4 b (ja8.mp f z (ja5 e))
def WM:uP X "list.index" a3W:=by
 intro O s U H x K v N Q I C E h;obtain⟨l,f,y,z,j,rfl,rfl,B,t,a,i,c,d,q⟩:=h;cases C;obtain⟨u,rfl,o⟩:=E.one;obtain⟨G,k,n,r,L,e⟩:=I.Eu B;have A:j<f.length:=(jar.mp i).1;have J:sizeLine<2 ^ 62:=by rw[ja3];decide
 refine jbc PySem.F.slot_list_index ⟨_,e,M⟩ PySem.F.entry_list_index (PySem.F.args_list_index_2 _ _) (SeqAt.list_indexAt l k.toArray n none #[] u (G8 y) j (by simp;lia) (by lia) ?_ (λm D b=>?_)) ⟨e,λw p=>lJ o t r a w (by simpa using p),?_⟩
 .simp only[List.getElem_toArray];rw[Mw r a i];exact c
 .have hm':m<k.length:=by simpa using D
  have g:m<f.length:=by lia
  simp only[List.getElem_toArray];rw[Mw r a (jaK g)];exact d m b _ (jaK g)
 .exact⟨.int _,H,I.tok _,⟨_,M⟩,q⟩
end
end L2
namespace L3
open PySem L2 Hw
def newL (a:Bool)(l:List T)(S:aI)(k:KD):Prop:=if a then k (.ob S.length) (S++[.lst l]) else k (.lst l) S
def Ir (c:Bool):M5
 |.t (.v (.str a)),[.t (.v (.str b))],S,k=>(b.length==0)=false/\a.length+2<=sizeLine/\newL c ((Txt.split a b).map T.str) S k
 |_,_,_,_=>False
def part3:M5
 |.t (.v (.str a)),[.t (.v (.str b))],S,k=>(b.length==0)=false/\a.length<=sizeLine/\k (.tup [.str (Txt.partition a b).1,.str (Txt.partition a b).2.1,.str (Txt.partition a b).2.2]) S
 |_,_,_,_=>False
def a1i:M5
 |.t (.v (.str a)),[.t (.v (.str b))],S,k=>a.length<=sizeLine/\k (.str (Txt.lstripChars a b)) S
 |_,_,_,_=>False
def Z1:M5
 |.t (.v (.str a)),[.t (.v (.str b))],S,k=>a.length<=sizeLine/\k (.str (Txt.rstripChars a b)) S
 |_,_,_,_=>False
def a0v:M5
 |.ob n,[],S,k=>∃l x,S[n]?=some (.lst (l++[x]))/\k (.t x) (S.set n (.lst l))
 |_,_,_,_=>False
def a1N:M5
 |d,[.t (.v (.str x))],S,k=>∃(a b:jcB),lq S d=some ((a++x::b).map T.str)/\x∉a/\k (.int a.length) S
 |_,_,_,_=>False
def Yu:M6
 |[.t (.v (.str x))],S,k=>∃n:Int,PySem.intText? x=some n/\x.length<=640/\k (.int n) S
 |_,_,_=>False
section
variable {X:Cx}{x:Str}{p pos BM cpos:Pos}{e o i value:Expr}{es:jcE}{t:rT}{to ti tv:cZ}{id ty:String}{r:M5}
def m_split (b:Bool):uP X "str.split" (N8 X.K (Ir b)):=by
 refine qG RT ?_;rintro v g H Q ⟨Y,S,d,f,k,R,e,c,q,hk⟩;unfold Ir at q;split at q
 .obtain⟨h1,h2,h3⟩:=q;obtain⟨w,rfl,a⟩:=c.one;rw[aM e,aM a];refine⟨_,_,M,M,h1,h2,?_⟩;cases b with
  |true=>exact SW R hk (bS.ofStrs _) h3
  |false=>exact EF R hk (bS.ofStrs _) h3
 .exact q.elim
def a1f:uP X "str.partition" (N8 X.K part3):=by
 refine qG WJ ?_;rintro v f H Q ⟨Y,S,d,e,k,R,c,b,q,hk⟩;unfold part3 at q;split at q
 .obtain⟨h1,h2,h3⟩:=q;obtain⟨w,rfl,a⟩:=b.one;rw[aM c,aM a];exact⟨_,_,M,M,h1,h2,SS R hk (bS.ofStrs [_,_,_]) h3⟩
 .exact q.elim
def a4F:uP X "str.lstrip" (N8 X.K a1i):=by
 refine qG N3 ?_;rintro v c H Q ⟨Y,S,d,e,k,R,b,a,q,hk⟩;unfold a1i at q;split at q
 .obtain⟨w,rfl,rw'⟩:=a.one;rw[aM b,aM rw'];exact⟨_,_,M,M,q.1,fin R hk bz q.2⟩
 .exact q.elim
def a4D:uP X "str.rstrip" (N8 X.K Z1):=by
 refine qG N2 ?_;rintro v c H Q ⟨Y,S,d,e,k,R,b,a,q,hk⟩;unfold Z1 at q;split at q
 .obtain⟨w,rfl,rw'⟩:=a.one;rw[aM b,aM rw'];exact⟨_,_,M,M,q.1,fin R hk bz q.2⟩
 .exact q.elim
theorem bS.snoc {K:Frag}{G:Hp}{x:T}:∀{l:List T}{vs:List V},bS K G (l++[x]) vs->∃us v,vs=us++[v]/\bS K G l us/\Rp K G x v
 |[],vs,r=>by
  rw[jbM] at r;unfold bS at r;obtain⟨v,f,b,c,a⟩:=r;unfold bS at a;exact⟨[],v,by rw[b,a];rfl,by unfold bS;rfl,c⟩
 |y::l,vs,r=>by
  rw[jaS] at r;unfold bS at r;obtain⟨v,f,b,c,a⟩:=r;obtain⟨us,w,g,d,e⟩:=bS.snoc a;exact⟨v::us,w,by rw[b,g];rfl,by unfold bS;exact⟨v,us,M,c,d⟩,e⟩
def a4E:uP X "list.pop" (N8 X.K a0v):=by
 refine qG a1c ?_;rintro v r H Q ⟨Y,S,d,n,k,R,h,e,q,hk⟩;unfold a0v at q;split at q
 .obtain⟨l,x,h1,h2⟩:=q;obtain⟨a,b,rfl⟩:=h;cases e;obtain⟨p,f,g⟩:=R.ok _ a _ b h1;obtain⟨i,c,rfl,m,j⟩:=bS.snoc g;refine⟨a,i++[c],c,M,M,f,?_,?_⟩
  .rw[jag,jbe,Nat.add_sub_cancel,jaX (jaq _),Nat.sub_self];rfl
  .rw[List.dropLast_concat];exact SV R hk b (o:=.lst l) ⟨_,M,m⟩ (d:=.t x) j h2
 .exact q.elim
def a4G:uP X "list.index" (N8 X.K a1N):=by
 refine qG WM ?_;rintro v z H Q ⟨Y,S,d,t,k,R,m,h,q,hk⟩;unfold a1N at q;split at q
 .rename_i x;obtain⟨a,b,l,r,n⟩:=q;obtain⟨w,rfl,f⟩:=h.one;obtain⟨p,u,j,g,s⟩:=dU R m l;rw[s.strs] at g;rw[aM f];refine⟨p,_,.str _,.str _,a.length,j,M,g,M,?_,?_,G7 M,?_,fin R hk bz n⟩
  .exact pV _
  .rw[jau,jaX (by simp)];simp
  .intro i hi c hc;rw[jau,jaL (by simpa using hi),jaF] at hc;obtain⟨y,o,rfl⟩:=Option.map_eq_some_iff.mp hc;have:y≠x:=λe=>r (e ▸ ja5 o);show(y==_)=false;exact beq_false_of_ne this
 .exact q.elim
def a2m:Call3 X (.type "int") Yu:=by
 refine iL OA ?_;rintro c H Q ⟨Y,S,d,k,R,b,q,hk⟩;unfold Yu at q;split at q
 .obtain⟨n,h1,h2,h3⟩:=q;obtain⟨w,rfl,a⟩:=b.one;rw[aM a];exact⟨_,n,M,h1,h2,fin R hk bz h3⟩
 .exact q.elim
theorem yf (a:Bool)(b:QE X o to)(f:QA X [e] t)(g:autoParam (notStar e=true) zi)(c:autoParam (attributeBase o "split" X.env (eval o X.env)=eval o X.env) zi)(d:autoParam ((BM.endLine==cpos.line)=true) zi) :
  QE X (.Call (.Attribute o "split" BM) [e] [] cpos) (sW "str" (Ir a) to t):=D9 jbS PySem.F.slot_str_split PySem.F.type_str_split (m_split a) b f g rfl (by decide) c d
theorem a0b (a:QE X o to)(c:QA X [e] t)(d:autoParam (notStar e=true) zi)(f:autoParam (attributeBase o "partition" X.env (eval o X.env)=eval o X.env) zi)(b:autoParam ((BM.endLine==cpos.line)=true) zi) :
  QE X (.Call (.Attribute o "partition" BM) [e] [] cpos) (sW "str" part3 to t):=D9 jbS PySem.F.slot_str_partition PySem.F.type_str_partition a1f a c d rfl (by decide) f b
theorem QH (a:QE X o to)(c:QA X [e] t)(d:autoParam (notStar e=true) zi)(f:autoParam (attributeBase o "lstrip" X.env (eval o X.env)=eval o X.env) zi)(b:autoParam ((BM.endLine==cpos.line)=true) zi) :
  QE X (.Call (.Attribute o "lstrip" BM) [e] [] cpos) (sW "str" a1i to t):=D9 jbS PySem.F.slot_str_lstrip PySem.F.type_str_lstrip a4F a c d rfl (by decide) f b
theorem QF (a:QE X o to)(c:QA X [e] t)(d:autoParam (notStar e=true) zi)(f:autoParam (attributeBase o "rstrip" X.env (eval o X.env)=eval o X.env) zi)(b:autoParam ((BM.endLine==cpos.line)=true) zi) :
  QE X (.Call (.Attribute o "rstrip" BM) [e] [] cpos) (sW "str" Z1 to t):=D9 jbS PySem.F.slot_str_rstrip PySem.F.type_str_rstrip a4D a c d rfl (by decide) f b
theorem a31 (a:QE X o to)(b:autoParam (attributeBase o "pop" X.env (eval o X.env)=eval o X.env) zi)(c:autoParam ((BM.endLine==cpos.line)=true) zi) :
  QE X (.Call (.Attribute o "pop" BM) [] [] cpos) (sW "list" a0v to bR):=cW (a0K jci PySem.F.slot_list_pop PySem.F.type_list_pop a4E a b c) RU
theorem QK (a:QE X o to)(c:QA X [e] t)(d:autoParam (notStar e=true) zi)(f:autoParam (attributeBase o "index" X.env (eval o X.env)=eval o X.env) zi)(b:autoParam ((BM.endLine==cpos.line)=true) zi) :
  QE X (.Call (.Attribute o "index" BM) [e] [] cpos) (sW "list" a1N to t):=D9 jci PySem.F.slot_list_index PySem.F.type_list_index a4G a c d rfl (by decide) f b
end
def Dd (r e:vR)(f j g:cZ):cZ:=λZ S k=>f Z S λx i=>j Z i λy d=>r x y d λz a=>∃b,z=.bl b/\(if b=true then g Z a λh c=>e y h c k else k (.bl false) a)
def WR:vR
 |.t (.v (.str i)),.t (.v (.str j)),S,k=>k (.bl (!(decide (j.cps.toList<i.cps.toList)))) S
 |_,_,_,_=>False
section
variable {X:Cx}{a b c:Expr}{ta tb tc:cZ}{pos:Pos}
def L6:wR X (compareOp .LtE) WR:=by
 refine gB NO ?_;rintro x y H Q ⟨Y,S,a,b,k,R,c,d,q,hk⟩;unfold WR at q;split at q
 .exact⟨_,_,aM c,aM d,fin R hk bz q⟩
 .exact q.elim
theorem Az {r m:vR}:∀U H Q,li X.K (Dd r m ta tb tc) U H Q->Il (liR X.K r) (liR X.K m) (li X.K ta) (li X.K tb) (li X.K tc) U H Q:=(by rintro U H Q ⟨Y,S,Z,k,R,D,q,hk⟩;exact  ⟨Y,S,Z,_,R,D,q,(by rintro v N ⟨E,B,d1,i,t,G,C⟩;exact⟨E,B,Z,_,t,D.gr i,C,(by rintro w M ⟨I,s,f,c,R2,j,x⟩;exact   ⟨I,s,d1,f,_,R2,G.gr c,j,x,(by
   rintro z P ⟨ρ3,h,O,n,d,F,b,e,l⟩;subst e;refine⟨b,aM F,?_⟩;have a:=i.trans (c.trans n);cases b with
   |false=>exact hk _ _ ⟨ρ3,h,.bl false,a,d,bz,l⟩
   |true=>exact⟨ρ3,h,Z,_,d,D.gr a,l,(by rintro T L ⟨ρ4,y,d4,g,J,o,p⟩;exact⟨ρ4,y,f,d4,k,J,j.gr (n.trans g),o,p,λz A u=>hk z A (u.gr (a.trans g))⟩)⟩)⟩)⟩)⟩)
theorem LS {e d:CmpOp}{r g:vR}(j:wR X (compareOp e) r)(f:wR X (compareOp d) g)(k:QE X a ta)(i:QE X b tb)(h:QE X c tc)
  (l:autoParam (lastMarks [e,d] [b,c]=false) kn):QE X (.Compare a [e,d] [b,c] pos) (Dd r g ta tb tc):=cW (Ri j f k i h l) Az
theorem Gg {e d:CmpOp}{r g:vR}(j:wR X (compareOp e) r)(f:wR X (compareOp d) g)(k:QE X a ta)(i:QE X b tb)(h:QE X c tc)
  (l:autoParam (lastMarks [e,d] [b,c]=false) kn):QT X (.Compare a [e,d] [b,c] pos) (uU (Dd r g ta tb tc)):=LU (Q2 j f k i h l) (uS Az)
end
end L3
namespace L2
open PySem PySem.Spec PyProof.Rows
def Itq (a:Int)(n:Nat):It:=⟨λi _=>i<n,λi H x b=>b=H/\x=.int (a+i*2),λi _=>n<=i⟩
theorem O4 {P:Program}{w:World}{K:Frag}{tg:Expr}(it:Addr)(lo:Int)(n:Nat):Turn P w K tg (Itq lo n) [it] it (λi h=>IsRangeIter h it (lo+(i:Nat)*2) ((n:Int) - (i:Nat)) 2) where
 mem:=by simp
 obj:=λi h st b hb=>by
  obtain rfl:b=it:=by simpa using hb
  exact⟨_,st,λv z=>by
   have z':Data.fields _=Data.cell v:=z;cases z'⟩
 keep:=λi h h' st k=>k it (by simp) _ st
 item:=by
  intro X hP hw hK hc i vy s U H E I hf st hg;subst hP hw hK;obtain⟨f0,f1,f2,f3,f4,f5⟩:=hf it (by simp);refine(Walks.range (prog:=X.prog) (w:=X.w) (I.ok.hd hc) it lo 2 n).item i s _ _ hg st λv h' tk hv st' kk=>?_;obtain⟨t,rfl⟩:=hv;have I1:Inv X vy U H {s with heap:=h',toks:=tk }:=I.turned (λb o hb e=>kk b o (by simpa using hb) e) f0 f1 f3 f4 f5;exact⟨_,M,wI (s:={s with heap:=h',toks:=tk }) (n:="range_iterator") st' rfl rfl (by decide) ⟨.int (lo+i*2),H,I1,⟨t,M⟩,⟨M,M⟩,st',λb hb=>(hf b hb).1⟩⟩
 done:=by
  intro X hP hw hK hc i vy s U H E I hf st hg;subst hP hw hK;obtain⟨f0,f1,f2,f3,f4,f5⟩:=hf it (by simp);exact wpAny_pyNext_range_end (I.ok.hd hc) st (by have:n<=i:=hg;lia) λh' eb=>⟨M,I.turned (t':=s.toks) (λb o hb e=>eb b o hb e) f0 f1 f3 f4 f5⟩
 self:=λ_ _ _ _ _ st h=>wpAny_pyIter_rangeiter st h
section
variable {X:Cx}{tg:Expr}
def a73 (a:TA):TI:=λU H R=>a U H λb c=>∃i j:Int,b=[.int i,.int j,.int 2]/\(0<=i/\i<2 ^ 50/\0<=j/\j<2 ^ 50)/\R (Itq i ((j - i+1) / 2).toNat) c
theorem a0B {a b c:Expr}{x:TA}{p k:Pos}(B:Gl X "range")(F:X.mg "range"=none)(z:PA X [a,b,c] x)(hs:autoParam (starEach [a,b,c] X.env=[(false,eval a X.env),(false,eval b X.env),(false,eval c X.env)]) zi)(g:autoParam (starEach [b,c] X.env=[(false,eval b X.env),(false,eval c X.env)]) zi) :
  PI X tg (.Call (.Name "range" p) [a,b,c] [] k) (a73 x):=by
 intro y s U H R I h;refine Call_ (Ew I B F boot_range (jcw (cU (z k y s U H _ I h) λL d ⟨J,n,A,C,w⟩=>?_) (by rw[hs,g]) (by rw[g];rfl)));obtain⟨i,j,e,⟨w,K,N,G⟩,q⟩:=w;subst e;cases C with
 |cons r f=>
 cases f with
 |cons D f=>
 cases f with
 |cons l f=>
 cases f;obtain⟨t,rfl⟩:=r;obtain⟨u,rfl⟩:=D;obtain⟨v,rfl⟩:=l;have m:Builtin.Range.rangeSize i j 2=(((j - i+1) / 2).toNat:Nat):=by
  unfold Builtin.Range.rangeSize;rw[jab (by decide)];split<;>lia
 refine call_range_3 (by decide) ?_ (Or.inl (PyProof.noPylong_small (by lia)));refine wpAny_pyIter_range (IsRange.new ..) ?_ ?_
 .unfold Builtin.Range.small;rw[m];simp only[Builtin.Range.rangeFitsLong,jaM,jce,jbg,ja6,show(2:Int) > 0 by decide,if_true];lia
 .have I2:Inv X y U n {d with heap:=d.heap.push {cls:=.type "range",data:=.fields #[.int i t,.int j u,.int 2 v] },toks:=d.toks }:=A.kept λb o e=>jaI _ e;refine⟨_,[(d.heap.push {cls:=.type "range",data:=.fields #[.int i t,.int j u,.int 2 v] }).objs.size],_,_,n,M,
   I2.kept (t':=d.toks) λb o e=>jaI _ e,O4 _ i ((j - i+1) / 2).toNat,?_,λb E=>?_,q⟩
  .show IsRangeIter _ _ (i+((0:Nat):Int)*2) ((((j - i+1) / 2).toNat:Int) - ((0:Nat):Int)) 2;rw[show i+((0:Nat):Int)*2=i by simp,show((((j - i+1) / 2).toNat:Int) - ((0:Nat):Int))=Builtin.Range.rangeSize i j 2 by rw[m];simp];exact jaV _ rfl
  .obtain rfl:b=(d.heap.push {cls:=.type "range",data:=.fields #[.int i t,.int j u,.int 2 v] }).objs.size:=by simpa using E
   exact I2.G5 (jaq _) (I2.hok.fresh (jaq _))
end
end L2
namespace L3
open PySem L2 Hw
section
variable {X:Cx}{tg iter e:Expr}{te:cZ}{pos p:Pos}
def iSg (te:cZ):OD:=λZ S k=>te Z S λd a=>∃z:Str,d=.str z/\k (z.cps.toList.map λc=>D.str ⟨#[c]⟩) (λ_=>True) a
theorem W2 {K:Frag}{Y:jcD}{H:Hp}{z:Str}:UI K (Its z) (z.cps.toList.map λc=>D.str ⟨#[c]⟩) (λ_=>True) Y H where
 go:=λi Y1 S1 H1 g R _ hi=>by show i<z.cps.size;simpa using hi
 Ib:=λi x Y1 S1 H1 H' d g R _ hd y=>by
  obtain⟨rfl,c,hc,rfl⟩:=y;rw[jaF,Array.getElem?_toList,hc] at hd;cases hd;exact⟨Y1,.refl,R,bz⟩
 stop:=λi Y1 S1 H1 g R _ hi _=>by show z.cps.size<=i;simpa using hi
theorem X8 (f:QE X iter te):QI X tg iter (iSg te):=Ct (a0z f) (by rintro U H Q ⟨Y,S,Z,k,R,D,q,hk⟩;exact⟨Y,S,Z,_,R,D,q,(by
 rintro v j ⟨a,g,d,i,c,b,z,e,h⟩;subst e;exact⟨z,aM b,hk _ _ ⟨a,g,_,_,i,c,W2,h⟩⟩)⟩)
def iB2 (t:rT):OD:=λZ S k=>t Z S λa b=>∃i j:Int,a=[.int i,.int j,.int 2]/\(0<=i/\i<2 ^ 50/\0<=j/\j<2 ^ 50)/\k ((List.range ((j - i+1) / 2).toNat).map λ(m:Nat)=>D.int (i+m*2)) (λ_=>True) b
theorem W4 {K:Frag}{Y:jcD}{H:Hp}{lo:Int}{n:Nat}:UI K (Itq lo n) ((List.range n).map λ(i:Nat)=>D.int (lo+i*2)) (λ_=>True) Y H where
 go:=λi Y1 S1 H1 g R _ hi=>by show i<n;simpa using hi
 Ib:=λi x Y1 S1 H1 H' d g R _ hd y=>by
  obtain⟨rfl,rfl⟩:=y;rw[jaF] at hd;cases q:(List.range n)[i]? with
  |none=>rw[q] at hd;cases hd
  |some z=>
   rw[q] at hd;cases hd;have:=jbx (n:=n) (i:=i) (by have:=(jar.mp q).1;simpa using this);rw[this] at q;cases q;exact⟨Y1,.refl,R,bz⟩
 stop:=λi Y1 S1 H1 g R _ hi _=>by show n<=i;simpa using hi
theorem Z9 {a b c:Expr}{t:rT}(s:Gl X "range")(F:X.mg "range"=none)(m:QA X [a,b,c] t)(hs:autoParam (starEach [a,b,c] X.env=[(false,eval a X.env),(false,eval b X.env),(false,eval c X.env)]) zi)(h:autoParam (starEach [b,c] X.env=[(false,eval b X.env),(false,eval c X.env)]) zi) :
  QI X tg (.Call (.Name "range" p) [a,b,c] [] pos) (iB2 t):=
 Ct (a0B s F m hs h) λU H Q ⟨Y,S,Z,k,R,D,q,hk⟩=>⟨Y,S,Z,_,R,D,q,λv g ⟨f,u,d,A,o,C,i,j,e,n,w⟩=>by
  subst e;obtain⟨x,y,z,rfl,B,E,l⟩:∃x y z,v=[x,y,z]/\jd X.K f (res f g) (.int i) x/\jd X.K f (res f g) (.int j) y/\jd X.K f (res f g) (.int 2) z:=by
   cases C with
   |cons a r=>cases r with
    |cons b r=>cases r with
     |cons c r=>cases r;exact⟨_,_,_,M,a,b,c⟩
  exact⟨i,j,by rw[aM B,aM E,aM l],n,hk _ _ ⟨f,u,_,_,A,o,W4,w⟩⟩⟩
end
section
variable {X:Cx}{pos p1 p2:Pos}
theorem iU (z:Str):∀ss:jcB,H8 (.str z) (ss.map V.str)=decide (z∈ss)
 |[]=>rfl
 |s::r=>by
  have a:=iU z r;unfold H8 at a ⊢;rw[jaf,jbi,a];show((s==z)||decide (z∈r))=_;by_cases e:s=z
  .subst e;simp
  .rw[beq_false_of_ne e,Bool.false_or];exact jaY.mpr ⟨λh=>jaj _ h,λh=>(jae.mp h).resolve_left λw=>e w.symm⟩
def inK (b:Bool)(a:Addr)(ss:jcB):vR:=λx y S k=>∃z,x=.str z/\y=.t (.v (.ref a))/\k (.bl (xor b (decide (z∈ss)))) S
def a4r {a:Addr}{ss:jcB}(h:∀H:Hp,nO X.K H a (ss.map V.str)):wR X (compareOp .In) (inK false a ss):=by
 refine gB Cu ?_;rintro x y H Q ⟨Y,S,d,b,k,R,e,f,⟨z,c,g,q⟩,hk⟩;subst c g;rw[aM e,aM f];refine⟨a,_,M,.inr (h H),M,pV ss,?_⟩;rw[iU];exact fin R hk bz (by rw[jaT] at q;exact q)
def tD1 (c:Str)(n:Int):cZ:=λ_ S k=>k (.ob S.length) (S++[.rN [(Sum.inr c,.int n)]])
def UP {H:Hp}{p:Addr}{o a:HO}:upd (upd H p o) p a=upd H p a:=by
 funext b;unfold upd;split<;>rfl
theorem a7n {c:Str}{n:Int}{d b:Nat}:QE X (.Dict [some (.Constant (.str c) d p1)] [.Constant (.int n) b p2] pos) (tD1 c n):=
 cW (V5 (Q5 Jq Rc VX) rfl rfl (by simp) (by show 1<=15;decide)) λU H Q ⟨Y,S,Z,k,R,D,q,hk⟩ p a=>by
  refine⟨jab M,[(Sum.inr c,.int n)],M,by show 1<=15;decide,?_⟩;rw[UP];refine a13 R hk p a (o:=.rN [(Sum.inr c,.int n)]) ⟨_,M,.cons ⟨M,?_⟩ .nil⟩ q;unfold Rp;rfl
end
end L3
namespace L2
open PySem PySem.Spec PyProof.Rows
def Itk (d:Addr)(a:Obj)(kvs:List (Key×V)):It:=
 ⟨λi H=>H d=some (.vE a (.dK kvs))/\i<kvs.length,λi H x b=>b=H/\∃k v,kvs[i]?=some (k,v)/\x=kV k,λi H=>H d=some (.vE a (.dK kvs))/\kvs.length<=i⟩
theorem Ng {P:Program}{w:World}{K:Frag}{tg:Expr}(d it:Addr)(ob:Obj)(kvs:List (Key×V))(es:Array DictEntry)(ep:Nat)(hob:ob.data=.dict es ep) :
  Turn P w K tg (Itk d ob kvs) [it] it (λi h=>h.IsKeyIter it d i kvs.length ep) where
 mem:=by simp
 obj:=λi h st b hb=>by
  obtain rfl:b=it:=by simpa using hb
  obtain⟨o,e,c,dd⟩:=st;exact⟨o,e,λv z=>by rw[dd] at z;cases z⟩
 keep:=λi h h' st k=>st.at λo e=>k it (by simp) o e
 item:=by
  intro X hP hw hK hc i vy s U H E I hf st hg;subst hP hw hK;obtain⟨hd,hi⟩:=hg;obtain⟨lo,hz,Sy,vs,es',ep',rel,hdat,hat⟩:=I.held hd;rw[hob] at hdat;cases hdat;obtain⟨f0,f1,f2,f3,f4,f5⟩:=hf it (by simp);have hl:=rel.len;obtain⟨⟨k,v⟩,hkv⟩:∃p,kvs[i]?=some p:=⟨kvs[i],by simp[hi]⟩
  obtain⟨u,hu,ru⟩:=rel.at hkv;rw[hl] at st;refine wpAny_pyNext_dict_item st hat hu λkey h' hk st' sb=>?_;have I1:Inv X vy U H {s with heap:=h' }:=I.turned (t':=s.toks) (λb o hb e=>(sb.2 b hb).trans e) f0 f1 f3 f4 f5;obtain⟨o,e,c,dd⟩:=id st';exact⟨key,M,wI (s:={s with heap:=h' }) e c dd (by decide) ⟨kV k,H,I1,Vx hk,⟨M,k,v,hkv,M⟩,by rw[hl];exact st',λb hb=>(hf b hb).1⟩⟩
 done:=by
  intro X hP hw hK hc i vy s U H E I hf st hg;subst hP hw hK;obtain⟨hd,hi⟩:=hg;obtain⟨lo,hz,Sy,vs,es',ep',rel,hdat,hat⟩:=I.held hd;rw[hob] at hdat;cases hdat;obtain⟨f0,f1,f2,f3,f4,f5⟩:=hf it (by simp);have hl:=rel.len;rw[hl] at st;exact wpAny_pyNext_dict_end (I.ok.hd hc) st hat (List.getElem?_eq_none_iff.mpr (by lia)) λh' eb=>⟨M,I.turned (t':=s.toks) (λb o hb e=>eb b o hb e) f0 f1 f3 f4 f5⟩
 self:=λ_ _ _ _ _ st h=>wpAny_pyIter_keyiter st h
section
variable {X:Cx}{e:Expr}{te:TE}
def a49 (te:TE):TI:=λU H R=>te U H λx b=>∃d a,x=.ref d/\Rd b d (.dK a)/\∀ob H2,Frz d ob a b H2->R (Itk d ob a) H2
def V1 {u:Expr}(B:PE X e te):PI X u e (a49 te):=by
 intro E s U H R I h;refine cU (B E s U H _ I h) ?_;rintro v f ⟨x,J,n,A,d,g,z,y,q⟩;subst z;cases A;obtain⟨m,k,l,c,C⟩:=n.frozen y;obtain⟨p,F,K,G,w,r,j,a,i⟩:=c.held l.1;have t:=j.len;refine wpAny_pyIter_dict p i ?_;exact⟨f.heap.objs.size,[f.heap.objs.size],_,_,k,M,c.kept (t':=f.toks) λb o e=>jaI _ e,Ng d _ m g w r a,⟨_,jaV _ M,M,by rw[t];rfl⟩,λb D=>by
  obtain rfl:b=f.heap.objs.size:=by simpa using D
  exact c.G5 (jaq _) (c.hok.fresh (jaq _)),q m k l⟩
end
end L2
namespace L3
open PySem L2 Hw
def R9:Key->T
 |.inl i=>.int i
 |.inr x=>.str x
def dq (S:aI)(n:Nat)(l:List (Key×T)):Prop:=S[n]?=some (.rN l)\/∃b a,S[n]?=some (.Au b a l)
def Vw {K:Frag}{Y:jcD}{G:Hp}(k:Key):jd K Y G (.t (R9 k)) (kV k):=by cases k<;>exact bz
theorem vp {α β:Type}{F:α->β->Prop}:∀{l:List α}{m:List β},Paired F l m->∀{i:Nat}{p:α},l[i]?=some p->∃q,m[i]?=some q/\F p q
 |_,_,.nil,_,_,h=>by simp at h
 |_,_,.cons r t,0,p,h=>by cases h;exact⟨_,M,r⟩
 |_,_,.cons r t,i+1,p,h=>vp t (i:=i) h
def J5 {K:Frag}{Y:jcD}{S:aI}{H:Hp}{n:Nat}{a:Addr}{l:List (Key×T)}(R:R3 K Y S H)(b:Y[n]?=some a)(h:dq S n l):∃kvs,Rd H a (.dK kvs)/\YT K (res Y H) l kvs:=by
 rcases h with h | ⟨c,kvs,h⟩
 .obtain⟨kvs,e1,e2⟩:=R.ok n a _ b h;exact⟨kvs,.inl e1,e2⟩
 .obtain⟨e1,e2⟩:=R.ok n a _ b h;exact⟨kvs,.inr ⟨c,e1⟩,e2⟩
def a2a:vR:=λa b S k=>∃n l c x,a=.ob n/\dq S n l/\Ob b=some c/\i7 l c=some x/\k (.t x) S
def iKy (te:cZ):OD:=λZ S k=>te Z S λd a=>∃n l,d=.ob n/\dq a n l/\∀ob kvs,k (l.map λp=>D.t (R9 p.1)) (λS=>S[n]?=some (.Au ob kvs l)) (a.set n (.Au ob kvs l))
def iVl (te:cZ):OD:=λZ S k=>te Z S λd a=>∃n l,d=.ob n/\dq a n l/\∀ob kvs,k (l.map λp=>D.t p.2) (λS=>S[n]?=some (.Au ob kvs l)) (a.set n (.Au ob kvs l))
section
variable {X:Cx}{tg iter o i:Expr}{te to ti:cZ}{pos BM cpos:Pos}
theorem LQ (L:X.A.units+1<cLine)(O:QE X o to)(P:QE X i ti)(hs:autoParam (XC i) vb):QE X (.Subscript o i pos) (nU a2a to ti):=
 cW (LZ L O P hs) (by rintro U H Q ⟨Y,S,Z,k,R,D,q,hk⟩;exact⟨Y,S,Z,_,R,D,q,(by rintro v W ⟨I,B,d1,e,r,J,C⟩;exact⟨I,B,Z,_,r,D.gr e,C,(by
  rintro w T ⟨K,f,V,d,R2,G,n,l,b,x,j,z,p,N,y⟩;subst j;obtain⟨a,h,F⟩:=J.gr d;obtain⟨c,g,E⟩:=J5 R2 h z;obtain⟨u,s,m⟩:=(t9 E b).1 x N;exact⟨a,u,F,by rw[tV G p,<- s];exact .inl ⟨c,b,g,M,M⟩,hk _ _ ⟨K,f,.t x,e.trans d,R2,m,y⟩⟩)⟩)⟩)
theorem Sn {K:Frag}{Y:jcD}{H:Hp}{n:Nat}{a:Addr}{ob:Obj}{kvs:List (Key×V)}{l:List (Key×T)}(ha:Y[n]?=some a):UI K (Itk a ob kvs) (l.map λp=>D.t (R9 p.1)) (λS=>S[n]?=some (.Au ob kvs l)) Y H where
 go:=λi Y1 S1 H1 g R hS hi=>by
  obtain⟨e1,e2⟩:=R.ok n a _ (g.at ha) hS;exact⟨e1,by rw[<- jaZ e2];simpa using hi⟩
 Ib:=λi x Y1 S1 H1 H' d g R hS hd y=>by
  obtain⟨rfl,k,v,hkv,rfl⟩:=y;obtain⟨e1,e2⟩:=R.ok n a _ (g.at ha) hS;rw[jaF] at hd;cases q:l[i]? with
  |none=>rw[q] at hd;cases hd
  |some p=>
   rw[q] at hd;cases hd;obtain⟨q',f1,f2,f3⟩:=vp e2 q;rw[hkv] at f1;cases f1;have f2:p.1=k:=f2;exact⟨Y1,.refl,R,by show jd _ _ _ (.t (R9 p.1)) _;rw[f2];exact Vw k⟩
 stop:=λi Y1 S1 H1 g R hS hi _=>by
  obtain⟨e1,e2⟩:=R.ok n a _ (g.at ha) hS;exact⟨e1,by rw[<- jaZ e2];simpa using hi⟩
theorem Sj {K:Frag}{Y:jcD}{H:Hp}{n:Nat}{a:Addr}{ob:Obj}{kvs:List (Key×V)}{l:List (Key×T)}(ha:Y[n]?=some a):UI K (Itv a ob kvs) (l.map λp=>D.t p.2) (λS=>S[n]?=some (.Au ob kvs l)) Y H where
 go:=λi Y1 S1 H1 g R hS hi=>by
  obtain⟨e1,e2⟩:=R.ok n a _ (g.at ha) hS;exact⟨e1,by rw[<- jaZ e2];simpa using hi⟩
 Ib:=λi x Y1 S1 H1 H' d g R hS hd y=>by
  obtain⟨rfl,k,hkv⟩:=y;obtain⟨e1,e2⟩:=R.ok n a _ (g.at ha) hS;rw[jaF] at hd;cases q:l[i]? with
  |none=>rw[q] at hd;cases hd
  |some p=>
   rw[q] at hd;cases hd;obtain⟨q',f1,f2,f3⟩:=vp e2 q;rw[hkv] at f1;cases f1;exact⟨Y1,.refl,R,f3⟩
 stop:=λi Y1 S1 H1 g R hS hi _=>by
  obtain⟨e1,e2⟩:=R.ok n a _ (g.at ha) hS;exact⟨e1,by rw[<- jaZ e2];simpa using hi⟩
def SN {d:Addr}{a:Obj}{kvs:List (Key×V)}{H H':Hp}(f:Frz d a kvs H H'):H'=upd H d (.vE a (.dK kvs)):=by
 funext b;unfold upd;by_cases e:b=d
 .subst e;rw[jab rfl];exact f.1
 .rw[jaa e];exact f.2 b e
theorem a30 (x:QE X iter te):QI X tg iter (iKy te):=Ct (V1 x) (by rintro U H Q ⟨Y,S,Z,k,R,D,q,hk⟩;exact⟨Y,S,Z,_,R,D,q,(by
 rintro v A ⟨t,B,d,r,h,w,n,l,e,j,p⟩;subst e;obtain⟨a,c,e⟩:=w;obtain⟨b,s,i⟩:=J5 h c j;refine⟨a,b,e,s,λg z f=>?_⟩;obtain⟨y,m⟩:=h.put (o:=.vE g (.dK b)) (u:=.Au g b l) c ⟨M,i⟩;rw[SN f];exact hk _ _ ⟨t,_,_,_,r.trans m,y,Sn c,p g b⟩)⟩)
theorem a3Z (I:QE X o to)(J:autoParam (attributeBase o "values" X.env (eval o X.env)=eval o X.env) zi)(t:autoParam ((BM.endLine==cpos.line)=true) zi):QI X tg (.Call (.Attribute o "values" BM) [] [] cpos) (iVl to):=
 Ct (V0 (ND I J t)) (by rintro U H Q ⟨Y,S,Z,k,R,D,q,hk⟩;exact⟨Y,S,Z,_,R,D,q,(by
  rintro v y ⟨E,L,d,C,s,F,n,l,e,x,B⟩;subst e;obtain⟨a,h,e⟩:=F;obtain⟨b,c,w⟩:=J5 s h x;refine⟨a,b,e,c,λp r=>?_⟩;obtain⟨R2,j,N⟩:=s.new (o:=FF p a) r;have m:a≠p:=λz=>by
   subst z;rcases c with c | ⟨g,c⟩<;>(rw[r] at c;cases c)
  have i:Rd (upd y p (FF p a)) a (.dK b):=by
   rcases c with c | ⟨g,c⟩
   .exact .inl (by unfold upd;rw[jaa m];exact c)
   .exact .inr ⟨g,by unfold upd;rw[jaa m];exact c⟩
  refine⟨p,a,b,M,by unfold upd;rw[jab rfl],i,λg K f=>?_⟩;obtain⟨G,A⟩:=R2.put (o:=.vE g (.dK b)) (u:=.Au g b l) h ⟨M,dY (λ_ _ z=>⟨z.1,z.2.le j.le⟩) w⟩;rw[SN f];exact hk _ _ ⟨E,_,_,_,(C.trans j).trans A,G,Sj h,B g b⟩)⟩)
end
end L3
namespace Hw
open PySem L2 PySem.Builtin PySem.Builtin.Str
def Tr (a b:Str):cp (a++b)=cp a++cp b:=by show(a.cps++b.cps).toList=_;simp[cp]
theorem EN (c:Nat):∀(l:jcB)(x y:Str),cp (Str.join ⟨#[c]⟩ (x::y::l))=cp x++c::cp (Str.join ⟨#[c]⟩ (y::l)):=λl x y=>by
 show cp (x++(⟨#[c]⟩:Str)++Str.join ⟨#[c]⟩ (y::l))=_;rw[Tr,Tr,jax];rfl
theorem vH {c:Nat}:∀{a b r s:jcH},c∉a->c∉b->a++c::r=b++c::s->a=b/\r=s
 |[],[],r,s,_,_,e=>by cases e;exact⟨M,M⟩
 |[],y::b,r,s,_,hb,e=>by cases e;exact(hb (jak ..)).elim
 |x::a,[],r,s,ha,_,e=>by cases e;exact(ha (jak ..)).elim
 |x::a,y::b,r,s,ha,hb,e=>by
  rw[jaS,jaS] at e;injection e with e1 e2
  obtain⟨f,d⟩:=vH (λh=>ha (jaj _ h)) (λh=>hb (jaj _ h)) e2;exact⟨by rw[e1,f],d⟩
theorem GX {c:Nat}:∀{ps ws:jcB},ps≠[]->ws≠[]->(∀p∈ps,c∉cp p)->(∀p∈ws,c∉cp p)->cp (Str.join ⟨#[c]⟩ ps)=cp (Str.join ⟨#[c]⟩ ws)->ps=ws
 |[],_,h,_,_,_,_=>(h M).elim
 |_::_,[],_,h,_,_,_=>(h M).elim
 |[p],[w],_,_,_,_,e=>by rw[dB (a:=p) (b:=w) e]
 |[p],w::v::r,_,_,hp,_,e=>by
  rw[EN] at e;exact(hp p (jak ..) (by show c∈cp (Str.join ⟨#[c]⟩ [p]);rw[e];simp)).elim
 |p::q::r,[w],_,_,_,hw,e=>by
  rw[EN] at e;exact(hw w (jak ..) (by show c∈cp (Str.join ⟨#[c]⟩ [w]);rw[<- e];simp)).elim
 |p::q::r,w::v::s,_,_,hp,hw,e=>by
  rw[EN,EN] at e;obtain⟨g,f⟩:=vH (hp p (jak ..)) (hw w (jak ..)) e;rw[dB g,GX (by simp) (by simp) (λz d=>hp z (jaj _ d)) (λz d=>hw z (jaj _ d)) f]
def FT (x y:Str):Txt.split x y≠[]:=by
 unfold Txt.split;split
 .simp
 .split
  .simp
  .intro h;have:=jac List.length h;rw[PySem.length_partsBetween] at this;simp at this
def qW {c:Nat}{ws:jcB}(b:ws≠[])(h:∀p∈ws,c∉cp p):Txt.split (Txt.join ⟨#[c]⟩ ws) ⟨#[c]⟩=ws:=by
 have e:Txt.join ⟨#[c]⟩ ws=Str.join ⟨#[c]⟩ ws:=jba ..;rw[e];exact GX (FT _ _) b (λp a=>StrLaws.split_free _ c p a) h (jac cp (StrLaws.join_split (Str.join ⟨#[c]⟩ ws) ⟨#[c]⟩))
theorem rP (s:Str):∀(l:jcB)(x y:Str),cp (Str.join s (x::y::l))=cp x++(cp s++cp (Str.join s (y::l))):=λl x y=>by
 show cp (x++s++Str.join s (y::l))=_;rw[Tr,Tr,jax]
theorem CB {c d:Nat}:∀{ps ws:jcB},ps≠[]->ws≠[]->(∀p∈ps,c∉cp p)->(∀p∈ws,c∉cp p)->cp (Str.join ⟨#[c,d]⟩ ps)=cp (Str.join ⟨#[c,d]⟩ ws)->ps=ws
 |[],_,h,_,_,_,_=>(h M).elim
 |_::_,[],_,h,_,_,_=>(h M).elim
 |[p],[w],_,_,_,_,e=>by rw[dB (a:=p) (b:=w) e]
 |[p],w::v::r,_,_,hp,_,e=>by
  rw[rP] at e;exact(hp p (jak ..) (by show c∈cp (Str.join ⟨#[c,d]⟩ [p]);rw[e];simp)).elim
 |p::q::r,[w],_,_,_,hw,e=>by
  rw[rP] at e;exact(hw w (jak ..) (by show c∈cp (Str.join ⟨#[c,d]⟩ [w]);rw[<- e];simp)).elim
 |p::q::r,w::v::s,_,_,hp,hw,e=>by
  rw[rP,rP] at e;obtain⟨i,g⟩:=vH (c:=c) (r:=d::_) (s:=d::_) (hp p (jak ..)) (hw w (jak ..)) e;injection g with _ g
  rw[dB i,CB (by simp) (by simp) (λz f=>hp z (jaj _ f)) (λz f=>hw z (jaj _ f)) g]
def Uc {x:Str}{c d i:Nat}(e:(cp x)[i]?=some c)(b:(cp x)[i+1]?=some d):StrLaws.At x ⟨#[c,d]⟩ x.length i:=by
 have g:i<(cp x).length:=(jar.mp e).1;have a:i+1<(cp x).length:=(jar.mp b).1;have f:i+1<x.cps.size:=by simpa[cp] using a
 refine⟨by show i+2<=x.cps.size;lia,?_⟩;unfold subAt;apply ja6.mpr;apply Array.ext';show(x.cps.extract i (i+2)).toList=[c,d];rw[Array.toList_extract,List.extract_eq_take_drop,jbE];show List.take 2 (List.drop i (cp x))=[c,d];rw[jbD g,jbD a,(jar.mp e).2,(jar.mp b).2];rfl
def Fol (c d:Nat)(l:jcH):Prop:=∀j,l[j]?=some c->l[j+1]?=some d
theorem G6 {c d:Nat}(a:d≠c):∀{ws:jcB},(∀p∈ws,c∉cp p)->Fol c d (cp (Str.join ⟨#[c,d]⟩ ws))
 |[],_,j,h=>by cases h
 |[w],b,j,h=>(b w (jak ..) (ja5 h)).elim
 |w::v::r,b,j,h=>by
  have f:=G6 a (ws:=v::r) λp e=>b p (jaj _ e);rw[rP] at h ⊢;rcases Nat.lt_or_ge j (cp w).length with l | l
  .rw[jaL l] at h;exact(b w (jak ..) (ja5 h)).elim
  .rw[jaX l] at h;rw[jaX (by lia),show j+1 - (cp w).length=(j - (cp w).length)+1 by lia];generalize j - (cp w).length=m at h ⊢
   match m,h with
   |0,_=>rfl
   |1,h=>injection h with h;exact(a h).elim
   |m+2,h=>exact f m h
def rD (x:Str){c d:Nat}(h:Fol c d (cp x))(a b:Nat)(l:b<=x.length)(i:∀k,a<=k->k<b->¬ StrLaws.At x ⟨#[c,d]⟩ x.length k):c∉cp (strSub x a b):=by
 intro g;unfold cp at g;rw[jb3] at g;obtain⟨j,e⟩:=List.getElem?_of_mem g;have f:j<b - a:=by
  have:=(jar.mp e).1;rw[jbV] at this;lia
 rw[List.getElem?_take_of_lt f,List.getElem?_drop] at e;exact i (a+j) (by lia) (by lia) (Uc e (h _ e))
theorem wu (x:Str){c d:Nat}(i:Fol c d (cp x)):∀(cuts:jcH)(a f:Nat),StrLaws.ChainG x ⟨#[c,d]⟩ x.length a cuts f->(∀k,f<=k->¬ StrLaws.At x ⟨#[c,d]⟩ x.length k)->∀p∈StrLaws.partsFrom x (⟨#[c,d]⟩:Str).length a cuts,c∉cp p
 |[],a,f,h,j,p,b=>by
  have e:f=a:=h;subst e;rw[jal.mp b];exact rD x i f x.length (jaq _) λk l _=>j k l
 |z::r,a,f,h,j,p,b=>by
  rcases jae.mp b with rfl | g
  .exact rD x i a z (by have:=h.2.1.1;lia) h.2.2.1
  .exact wu x i r _ f h.2.2.2 j p g
def FW (x:Str){c d:Nat}(a:Fol c d (cp x))(m:c<256)(r:d<256):∀p∈Txt.split x ⟨#[c,d]⟩,c∉cp p:=by
 obtain⟨f,e,i⟩:=StrLaws.occ_tight x ⟨#[c,d]⟩ (by show 1<=2;lia);unfold Txt.split;split
 .rename_i hk;intro p b;rw[jal.mp b];intro t;obtain⟨j,g⟩:=List.getElem?_of_mem t;have n:=Uc g (a _ g);rw[jce,jbg,jbg] at hk;rcases hk with h | h
  .have:=n.1;lia
  .have hs:PySem.Builtin.Str.strKind ⟨#[c,d]⟩<=PySem.Builtin.Str.strKind x:=by
    unfold PySem.Builtin.Str.strKind;have s:(#[c,d]:Array Nat).all (· < 256)=true:=by simp[m,r]
    simp only[s,if_true];split
    .lia
    .split<;>lia
   lia
 .split
  .rename_i he;intro p b;rw[jal.mp b];have o:occurrences x ⟨#[c,d]⟩ 0 x.length (x.length+1)=[]:=List.isEmpty_iff.mp he;rw[o] at e;have l:f=0:=e;subst l;rw[<- StrLaws.sub_whole x];exact rD x a 0 x.length (jaq _) λk q _=>i k q
  .rw[StrLaws.partsBetween_eq];exact wu x a _ 0 f e i
def FU {c d:Nat}{ws:jcB}(b:ws≠[])(h:∀p∈ws,c∉cp p)(a:d≠c)(f:c<256)(g:d<256):Txt.split (Txt.join ⟨#[c,d]⟩ ws) ⟨#[c,d]⟩=ws:=by
 have e:Txt.join ⟨#[c,d]⟩ ws=Str.join ⟨#[c,d]⟩ ws:=jba ..;rw[e];exact CB (FT _ _) b (FW _ (G6 a h) f g) h (jac cp (StrLaws.join_split (Str.join ⟨#[c,d]⟩ ws) ⟨#[c,d]⟩))
def m6 {x:Str}{c i:Nat}:StrLaws.At x ⟨#[c]⟩ x.length i↔(cp x)[i]?=some c:=by
 unfold StrLaws.At subAt;constructor
 .intro⟨h1,b⟩;have b:=eq_of_beq b;have a:(x.cps.extract i (i+1))[0]?=some c:=by rw[show x.cps.extract i (i+1)=#[c] from b];rfl
  rw[Array.getElem?_extract] at a;split at a
  .simpa[cp] using a
  .cases a
 .intro h;have d:i<(cp x).length:=(jar.mp h).1;have e:i<x.cps.size:=by simpa[cp] using d
  refine⟨by show i+1<=x.cps.size;lia,?_⟩;apply ja6.mpr;apply Array.ext';show(x.cps.extract i (i+1)).toList=[c];rw[Array.toList_extract,List.extract_eq_take_drop,jbE];show List.take 1 (List.drop i (cp x))=[c];rw[jbD d,(jar.mp h).2];simp
def NK {x:Str}{c:Nat}(h:c∉cp x):Txt.partition x ⟨#[c]⟩=(x,Str.empty,Str.empty):=by
 unfold Txt.partition;rcases StrLaws.occ_head x ⟨#[c]⟩ 1 (jaq 1) with⟨a,d⟩ | ⟨i,r,a,b,d⟩
 .rw[a]
 .exact(h (ja5 (m6.mp b))).elim
def NJ {a b:Str}{c:Nat}(h:c∉cp a):Txt.partition (a++⟨#[c]⟩++b) ⟨#[c]⟩=(a,⟨#[c]⟩,b):=by
 have e:cp (a++⟨#[c]⟩++b)=cp a++c::cp b:=by rw[Tr,Tr,jax];rfl
 have f:(cp (a++(⟨#[c]⟩:Str)++b))[(cp a).length]?=some c:=by rw[e,jaX (jaq _),Nat.sub_self];rfl
 unfold Txt.partition;rcases StrLaws.occ_head (a++⟨#[c]⟩++b) ⟨#[c]⟩ 1 (jaq 1) with⟨j,g⟩ | ⟨i,r,j,n,g⟩
 .exact(g _ (m6.mpr f)).elim
 .rw[j];have k:i=(cp a).length:=by
   have d:=m6.mp n;rcases Nat.lt_trichotomy i (cp a).length with l | l | l
   .rw[e,jaL l] at d;exact(h (ja5 d)).elim
   .exact l
   .exact(g _ l (m6.mpr f)).elim
  subst k;have o:strSub (a++⟨#[c]⟩++b) 0 (cp a).length=a:=dB (by
   unfold cp;rw[jb3];show List.take _ (List.drop 0 (cp (a++(⟨#[c]⟩:Str)++b)))=cp a;rw[e,List.drop_zero,Nat.sub_zero,jbX])
  have m:strSub (a++⟨#[c]⟩++b) ((cp a).length+1) (a++(⟨#[c]⟩:Str)++b).length=b:=dB (by
   unfold cp;rw[jb3];show List.take _ (List.drop _ (cp (a++(⟨#[c]⟩:Str)++b)))=cp b;rw[bJ,e,show cp a++c::cp b=(cp a++[c])++cp b by simp,List.drop_left' (by simp)];exact jbF (by simp;lia))
  show(strSub _ 0 _,_,strSub _ ((cp a).length+1) _)=_;rw[o,m]
def JL {c:Nat}{x r:Str}{n:Nat}(e:cp x=List.replicate n c++cp r)(h:(cp r).head?≠some c):Txt.lstripChars x ⟨#[c]⟩=r:=by
 unfold Txt.lstripChars;rw[PyProof.Rows.stripBy_eq];have a:∀k:Nat,(#[c]:Array Nat).contains k=(k==c):=λk=>by simp;rfl
 have t:((cp x).takeWhile λk=>(#[c]:Array Nat).contains k).length=n:=by
  rw[e];clear e
  induction n with
  |zero=>
   rw[List.replicate_zero,jbM];cases q:cp r with
   |nil=>rfl
   |cons y l=>
    rw[q] at h;have:y≠c:=λw=>h (by rw[w];rfl);rw[jcu,a,beq_false_of_ne this];rfl
  |succ n b=>rw[jbf,jaS,jcu,a];simp only[beq_self_eq_true,if_true,jam];rw[b]
 refine dB ?_;unfold cp;rw[jb3];show List.take _ (List.drop (((cp x).takeWhile λk=>(#[c]:Array Nat).contains k).length) (cp x))=cp r;rw[t,e,List.drop_left' (by simp)];refine jbF ?_;show(cp r).length<=x.length - _;rw[bJ,e];show _<=_ - ((cp x).takeWhile λk=>(#[c]:Array Nat).contains k).length;rw[t];simp
def Jh {c:Nat}{x r:Str}{n:Nat}(e:cp x=cp r++List.replicate n c)(h:(cp r).getLast?≠some c):Txt.rstripChars x ⟨#[c]⟩=r:=by
 unfold Txt.rstripChars;rw[PyProof.Rows.stripBy_eq];have a:∀k:Nat,(#[c]:Array Nat).contains k=(k==c):=λk=>by simp;rfl
 have t:((cp x).reverse.takeWhile λk=>(#[c]:Array Nat).contains k).length=n:=by
  rw[e,List.reverse_append,List.reverse_replicate];rw[List.getLast?_eq_head?_reverse] at h;clear e;generalize (cp r).reverse=z at h
  induction n with
  |zero=>
   rw[List.replicate_zero,jbM];cases z with
   |nil=>rfl
   |cons y l=>
    have:y≠c:=λw=>h (by rw[w];rfl);rw[jcu,a,beq_false_of_ne this];rfl
  |succ n b=>rw[jbf,jaS,jcu,a];simp only[beq_self_eq_true,if_true,jam];rw[b]
 refine dB ?_;unfold cp;rw[jb3];show List.take (x.length - ((List.drop 0 (cp x)).reverse.takeWhile λk=>(#[c]:Array Nat).contains k).length - 0) (List.drop 0 (cp x))=cp r;rw[List.drop_zero,t,bJ,e,Nat.sub_zero];rw[jag,jb1,Nat.add_sub_cancel,jbX]
end Hw
namespace L3
open PySem L2 Hw
noncomputable def xC (c:Nat):Bool:=decide (48<=c)&&decide (c<=57)
def J0 (z:Str):Bool:=z.cps.toList.all xC
def xB (z:Str):Bool:=(decide (1<=z.length)&&decide (z.length<=9))&&!(decide ((cp z).head?=some 48)&&decide (z≠"0"))&&J0 z
def lK (z:Str):Bool:=isNm z||(Txt.startswith z "#"&&isNm (Txt.slice z (some 1) none))
inductive IA  (ds:List D) (S:aI) (k:KD):Prop
 |mk (z:Str):ds=[.str z]->z.length<=1000->k (.bl (J0 z)) S->IA ds S k
inductive IB  (ds:List D) (S:aI) (k:KD):Prop
 |mk (z:Str):ds=[.str z]->z.length<=1000->k (.bl (xB z)) S->IB ds S k
inductive U9  (ds:List D) (S:aI) (k:KD):Prop
 |mk (z:Str):ds=[.str z]->z.length<=1000->k (.bl (isNm z)) S->U9 ds S k
inductive Zy  (ds:List D) (S:aI) (k:KD):Prop
 |mk (z:Str):ds=[.str z]->z.length<=1000->k (.bl (lK z)) S->Zy ds S k
inductive U7  (ds:List D) (S:aI) (k:KD):Prop
 |mk (a:D):ds=[.bl true,a]->k .dD S->U7 ds S k
def le_0 (c:Nat):(!(decide (((⟨#[c]⟩:Str)).cps.toList<(("0":Str)).cps.toList)))=decide (48<=c):=by
 show(!(decide ([c] < [48])))=_;have e:([c] < [48])↔(c<48):=by rw[jcp];simp
 by_cases h:48<=c
 .rw[jah h,jai (λz=>absurd (e.mp z) (by lia))];rfl
 .rw[jai h,jah (e.mpr (by lia))];rfl
def a7H (c:Nat):(!(decide ((("9":Str)).cps.toList<((⟨#[c]⟩:Str)).cps.toList)))=decide (c<=57):=by
 show(!(decide ([57] < [c])))=_;have e:([57] < [c])↔(57<c):=by rw[jcp];simp
 by_cases h:c<=57
 .rw[jah h,jai (λz=>absurd (e.mp z) (by lia))];rfl
 .rw[jai h,jah (e.mpr (by lia))];rfl
def M1 (f:Nat->Bool)(l:jcH):(l.map f).all _root_.id=l.all f:=by rw[jbP];rfl
theorem MI {G:aI->Prop}{g:vQ}{tt:nG}{te:cZ}{δ0:Sl}{k:List T->aI->Prop}{S:aI}{z:Str}(f:Nat->T)(a:G S)(b:z.length<=sizeLine)(hs:∀c∈cp z,∀k':Option T->aI->Prop,k' (some (f c)) S->elem g tt te δ0 (.str ⟨#[c]⟩) S k')
  (hk:k ((cp z).map f) S):ff G g tt te δ0 (z.cps.toList.map λc=>D.str ⟨#[c]⟩) S [] k:=by
 have:=cG (G:=G) (g:=g) (tt:=tt) (te:=te) (δ0:=δ0) (k:=k) (S:=S) (l:=cp z) (λc=>T.str ⟨#[c]⟩) f a (by rw[<- bJ];exact b) hs hk;rw[jas] at this;exact this
theorem chI {i m j:Int}{Z:Sl}{S:aI}{k:KD}(h:k (.bl (decide (i<=m)&&decide (m<=j))) S) :
  Hr (λi j=>decide (i<=j)) (.int i) (.int m) S (λz S3=>∃b,z=.bl b/\if b=true then wj (.int j) Z S3 (λw S4=>Hr (λi j=>decide (i<=j)) (.int m) w S4 k) else k (.bl false) S3):=by
 refine⟨_,M,?_⟩;by_cases e:i<=m
 .rw[jab (jah e)];rw[jah e,Bool.true_and] at h;exact h
 .rw[jaa (by simp[e])];rw[jai e,Bool.false_and] at h;exact h
theorem chS {a y b:Str}{Z:Sl}{S:aI}{k:KD}(h:k (.bl ((!(decide (y.cps.toList<a.cps.toList)))&&(!(decide (b.cps.toList<y.cps.toList))))) S) :
  WR (.str a) (.str y) S (λz S3=>∃b',z=.bl b'/\if b'=true then wj (.str b) Z S3 (λw S4=>WR (.str y) w S4 k) else k (.bl false) S3):=by
 refine⟨_,M,?_⟩;by_cases e:y.cps.toList<a.cps.toList
 .rw[jaa (by simp[e])];rw[jah e] at h;exact h
 .rw[jab (by simp[e])];rw[jai e] at h;exact h
def Pp:(⟨#[42]⟩:Str)="*":=by symm
def Jt {x:Str}(h:42∉cp x):Txt.partition x "*"=(x,Str.empty,Str.empty):=by rw[<- Pp];exact NK h
def NI {f t:Str}(h:42∉cp f):Txt.partition (f++"*"++t) "*"=(f,("*":Str),t):=by rw[<- Pp];exact NJ h
def jv {x f t:Str}(e:x=f++"*"++t):x.length=f.length+1+t.length:=by rw[e,<- Pp];simp only[bJ,Tr,jag];rfl
noncomputable def jj (n:Bool):Str:=if n then "-" else "+"
def ie (p:Bool×Str)(r:List (Bool×Str)):jcB:=(if p.1 then("-":Str)++p.2 else p.2)::(r.map λq=>[jj q.1,q.2]).flatten
def Nm (q:Bool×Str):T:=.tup [.str (jj q.1),.str q.2]
def Ou (r:List (Bool×Str)):(r.map λq=>[jj q.1,q.2]).flatten.length=2*r.length:=by
 induction r with
 |nil=>rfl
 |cons a r b=>rw[jaf,jaG,jag,b];simp;lia
def uX (p:Bool×Str)(r:List (Bool×Str)):(ie p r).length=2*r.length+1:=by unfold ie;rw[jam,Ou]
theorem CF:∀{r:List (Bool×Str)} {i:Nat} {q:Bool×Str},r[i]?=some q->(r.map λq=>[jj q.1,q.2]).flatten[2*i]?=some (jj q.1)/\(r.map λq=>[jj q.1,q.2]).flatten[2*i+1]?=some q.2
 |[],_,_,h=>by cases h
 |a::r,0,q,h=>by cases h;exact⟨M,M⟩
 |a::r,i+1,q,h=>by
  have:=CF (r:=r) (i:=i) (q:=q) h;rw[jaf,jaG];show([jj a.1,a.2]++_)[2*(i+1)]?=_/\([jj a.1,a.2]++_)[2*(i+1)+1]?=_;rw[jaX (by simp;lia),jaX (by simp;lia)];exact this
def Zn {p:Bool×Str}{r:List (Bool×Str)}{i:Nat}{q:Bool×Str}(h:r[i]?=some q):(ie p r)[1+i*2]?=some (jj q.1)/\(ie p r)[1+i*2+1]?=some q.2:=by
 obtain⟨b,a⟩:=CF h;unfold ie;rw[show 1+i*2=2*i+1 by lia];exact⟨b,a⟩
def tX (p:Bool×Str):Str:=if p.1 then("-":Str)++p.2 else p.2
def a5v {x:Str}(h:1<=x.length):cp (Txt.slice x (some 1) none)=(cp x).drop 1:=by
 have:=StrLaws.sliceText_from (x:=x) (i:=1) ⟨by decide,by rw[bJ] at h;have h:1<=x.cps.toList.length:=h;lia⟩
 have e:Txt.slice x (some 1) none=StrLaws.sliceText x (some 1) none:=rfl;rw[e,this];show(((cp x).drop 1).take _)=_;rw[jbF];rw[List.length_drop];show x.cps.toList.length - 1<=_;lia
def Pq (x:Str):Txt.startswith (("-":Str)++x) "-"=true:=by
 have e:(⟨#[45]⟩:Str)="-":=by symm
 rw[<- e];obtain⟨b,a⟩:=m6.mpr (show(cp ((⟨#[45]⟩:Str)++x))[0]?=some 45 by rw[Tr];rfl);show(decide (0+_<=_)&&Builtin.Str.subAt _ _ 0)=true;rw[jaM];exact⟨jah b,a⟩
theorem Vd {Z:Sl}{S:aI}{k:KD}{p:Bool×Str}(a:Z[2]?=some (some (D.str (tX p))))(b:p.2.length<=100)(hs:Txt.startswith p.2 "-"=false)(h:k (.t (Nm p)) S) :
  a3s (uU (sW "str" U5 (cE 2) (br (wj (D.str "-")) bR))) (Lo (br (wj (D.str "-")) (br (Pd false (cE 2) (tPt (wj (D.int 1))) Pf) bR))) (Lo (br (wj (D.str "+")) (br (cE 2) bR))) Z S k:=by
 obtain⟨n,x⟩:=p;refine oe a ⟨M,_,M,?_⟩;cases n with
 |true=>
  have e:tX (true,x)=("-":Str)++x:=rfl;rw[e,jab (Pq x)];have l:(("-":Str)++x).length=x.length+1:=by simp only[bJ,Tr,jag];rw[show(cp "-").length=1 by symm];lia
  refine oe a ⟨cH (by rw[e,l];simp at b;lia),?_⟩;show k (.tup [.str "-",.str (Txt.slice (tX (true,x)) (some 1) none)]) S;have c:Txt.slice (tX (true,x)) (some 1) none=x:=dB (by rw[e,a5v (by rw[l];lia),Tr];rw[show cp "-"=[45] by symm];rfl);rw[c];exact h
 |false=>
  have e:tX (false,x)=x:=rfl;rw[e,jaa (by rw[hs];decide)];exact oe a h
def ZL (n:Bool):H8 (V.str (jj n)) [V.str (Str.ofString "+"),V.str (Str.ofString "-")]=true:=by cases n<;>symm
inductive PU  (ds:List D) (S:aI) (k:KD):Prop
 |mk (p:Bool×Str) (r:List (Bool×Str)) (a:D):ds=[.lst ((ie p r).map T.str),a]->r.length<=20->p.2.length<=100->Txt.startswith p.2 "-"=false->k (.lst ((p::r).map Nm)) S->PU ds S k
inductive Ug:Str->Str->Int->Prop
 |nm {x:Str} (h:lK x=true):Ug x x 1
 |num {x:Str} {w:Int} (h:lK x=false) (hf:xB x=true) (hs:42∉cp x) (hi:PySem.intText? x=some w):Ug x "" w
 |mul {x f t:Str} {w:Int} (e:x=f++"*"++t) (h:lK x=false) (hf:xB f=true) (hs:42∉cp f) (ht:lK t=true) (hi:PySem.intText? f=some w):Ug x t w
inductive Zx  (ds:List D) (S:aI) (k:KD):Prop
 |mk (x t:Str) (w:Int) (a:D):ds=[.str x,a]->Ug x t w->x.length<=100->k (.tup [.str t,.int w]) S->Zx ds S k
def Pc (q:Bool×Str)(a:Str×Int):Prop:=q.2.length<=100/\∃w:Int,Ug q.2 a.1 w/\a.2=(if q.1 then -w else w)
def z0 (ws:List (Str×Int)):List (Str×Int):=("",0)::ws
theorem wz {α β:Type}{F:α->β->Prop}:∀{pre post:List α}{x:α}{ws:List β},Paired F (pre++x::post) ws->∃a b c,ws=a++b::c/\Paired F pre a/\F x b/\Paired F post c
 |[],post,x,_,.cons r t=>⟨[],_,_,M,.nil,r,t⟩
 |y::pre,post,x,_,.cons r t=>by
  obtain⟨a,b,c,e,f,d,g⟩:=wz t;exact⟨_::a,b,c,by rw[e];rfl,.cons r f,d,g⟩
def X0:(false ^^ decide (V.str (jj false)=V.str (Str.ofString "+")))=true:=by symm
def X3:¬(false ^^ decide (V.str (jj true)=V.str (Str.ofString "+")))=true:=by symm
theorem Mx (f:Str->Int):∀(d:List (Key×T)) (ss:jcB),d.map (·.1)=ss.map Sum.inr->ss.Nodup->(∀x∈ss,i7 d (Sum.inr x)=some (.int (f x)))->d=ss.map λx=>(Sum.inr x,T.int (f x))
 |[],[],_,_,_=>rfl
 |[],_::_,h,_,_=>by simp at h
 |_::_,[],h,_,_=>by simp at h
 |(k,v)::d,x::ss,h,nd,hv=>by
  rw[jaf,jaf] at h;injection h with a h2
  have a:k=Sum.inr x:=a;subst a;rw[jbh] at nd;have e:v=.int (f x):=by
   have:=hv x (jak ..);unfold i7 at this;rw[jco (by simp)] at this;injection this
  rw[jaf,<- e];congr 1;refine Mx f d ss h2 nd.2 λy b=>?_;have:=hv y (jaj _ b);have c:¬((Sum.inr x:Key)=Sum.inr y):=λz=>nd.1 (by injection z with z;rw[z];exact b);unfold i7 at this ⊢;rw[jbT (by simpa using c)] at this;exact this
def a5s {l:List (Str×Int)}{d:List (Key×T)}(h:AN l d):∃ss:jcB,ss.Nodup/\(∀x,x∈ss↔x∈l.map (·.1))/\d=ss.map λx=>(Sum.inr x,T.int (wt l x)):=by
 obtain⟨ss,e,a,b⟩:=h.keys;exact⟨ss,a,b,Mx _ _ _ e a λx c=>by rw[h.val x,jab ((b x).mp c)]⟩
theorem As (f:Str->Int):∀{ss:jcB}{x:Str},x∈ss->i7 (ss.map λx=>((Sum.inr x:Key),T.int (f x))) (Sum.inr x)=some (.int (f x))
 |y::ss,x,h=>by
  rw[jaf];unfold i7;by_cases e:y=x
  .subst e;rw[jco (by simp)];rfl
  .rw[jbT (by simpa using e)];exact As f ((jae.mp h).resolve_left λz=>e z.symm)
def RO {l m:List (Str×Int)}(h:∀x,x∈l.map (·.1)↔x∈m.map (·.1))(w:∀x∈m.map (·.1),wt l x=wt m x):norm l=norm m:=by
 unfold norm;rw[Ip h];congr 1;exact jbH λx a=>by rw[w x (gM.mp a)]
theorem OV (f:Str->Int):∀{ss:jcB},ss.Nodup->∀{x:Str},x∈ss->wt (ss.map λy=>(y,f y)) x=f x
 |y::ss,nd,x,h=>by
  rw[jbh] at nd;rw[jaf,fM];by_cases e:y=x
  .subst e;rw[jab M,lZ (by rw[jas];simpa using nd.1)];simp
  .rw[jaa e,OV f nd.2 ((jae.mp h).resolve_left λz=>e z.symm)];simp
theorem C0 {x:Str}(a:x≠""):∀ws:List (Str×Int),wt (ws.filter λp=>decide (p.1≠("":Str))) x=wt ws x
 |[]=>rfl
 |p::ws=>by
  by_cases e:p.1=("":Str)
  .rw[jck (by simp[e]),C0 a ws,fM,jaa (λz=>a (z.symm.trans e))];simp
  .rw[jcj (by simp[e]),fM,fM,C0 a ws]
def qd (ws:List (Str×Int)):Sm:=(norm (ws.filter λp=>decide (p.1≠("":Str))),wt ws "")
def ZH {ws:List (Str×Int)}{ss:jcB}(c:ss.Nodup)(mem:∀x,x∈ss↔x∈(z0 ws).map (·.1)):sumOf ((ss.filter λx=>decide (x≠("":Str))).map λx=>(x,wt (z0 ws) x)) (wt (z0 ws) "")=qd ws:=by
 have b:∀x,wt (z0 ws) x=wt ws x:=λx=>by unfold z0;rw[fM];split<;>simp
 unfold sumOf qd;rw[b];congr 1;have hk:∀x,x∈(ws.filter λp=>decide (p.1≠("":Str))).map (·.1)↔x∈ss.filter λx=>decide (x≠("":Str)):=λx=>by
  rw[jbB,mem x,jap];unfold z0;rw[jaf,jae,jap];constructor
  .rintro⟨p,hp,rfl⟩;rw[jbB] at hp;exact⟨.inr ⟨p,hp.1,M⟩,hp.2⟩
  .rintro⟨h | ⟨p,hp,rfl⟩,hne⟩
   .exact(jaH hne h).elim
   .exact⟨p,jbB.mpr ⟨hp,hne⟩,M⟩
 have e:((ss.filter λx=>decide (x≠("":Str))).map λx=>(x,wt (z0 ws) x)).map (·.1)=ss.filter λx=>decide (x≠("":Str)):=by rw[jas];exact List.map_id _
 refine RO (λx=>by rw[e,hk]) λx d=>?_;have a:=(hk x).mp d;rw[OV (λx=>wt (z0 ws) x) (c.filter _) a,C0 (jaH (jbB.mp a).2),b]
inductive Co (A:Ad) (ds:List D) (S:aI) (k:KD):Prop
 |mk (p:Bool×Str) (r:List (Bool×Str)) (ws:List (Str×Int)) (a:D):ds=[.lst ((ie p r).map T.str),a]->r.length<=20->p.2.length<=100->Txt.startswith p.2 "-"=false->Paired Pc (p::r) ws->(∀x,-999999999<=wt (z0 ws) x/\wt (z0 ws) x<=999999999)->k (.t (nI A (qd ws))) S->Co A ds S k
structure Sw where
 (p:Bool×Str) (r:List (Bool×Str)) (ws:List (Str×Int))
structure SwOk (s:Sw):Prop where
 len:s.r.length<=20
 fst:s.p.2.length<=100
 pl:Txt.startswith s.p.2 "-"=false
 pc:Paired Pc (s.p::s.r) s.ws
 bd:∀x,-999999999<=wt (z0 s.ws) x/\wt (z0 s.ws) x<=999999999
 sp:∀x∈ie s.p s.r,32∉cp x
 cm:∀x∈ie s.p s.r,44∉cp x
def Sw.txt (s:Sw):Str:=Txt.join " " (ie s.p s.r)
inductive LA (A:Ad) (ds:List D) (S:aI) (k:KD):Prop
 |mk (W:List Str) (l:List Sw) (a:D):ds=[.lst (W.map T.str),a]->((W=[]/\l=[])\/(W≠[]/\l≠[]/\(∀s∈l,SwOk s)/\Txt.join " " W=Txt.join ", " (l.map Sw.txt)))->(l.length<=20/\(W.map (·.length)).sum+W.length<=100000)->k (.lst (l.map λs=>nI A (qd s.ws))) S->LA A ds S k
def a66:(⟨#[44,32]⟩:Str)=", ":=by symm
def a3M:(⟨#[32]⟩:Str)=" ":=by symm
theorem Mh {c:Nat}(a:c≠32):∀{ws:jcB},(∀x∈ws,c∉cp x)->c∉cp (Txt.join " " ws)
 |[],_=>by rw[show cp (Txt.join " " [])=[] by symm];simp
 |[x],h=>by
  have e:Txt.join " " [x]=Str.join " " [x]:=jba ..;rw[e];exact h x (jak ..)
 |x::y::r,h=>by
  have e:Txt.join " " (x::y::r)=Str.join " " (x::y::r):=jba ..;have d:Txt.join " " (y::r)=Str.join " " (y::r):=jba ..;have f:=Mh a (ws:=y::r) λz b=>h z (jaj _ b);rw[e,rP,<- d];intro g;rcases jan.mp g with m | m
  .exact h x (jak ..) m
  .rcases jan.mp m with m | m
   .rw[show cp " "=[32] by symm] at m;exact a (jal.mp m)
   .exact f m
def Ot {l:List Sw}(b:l≠[])(ok:∀s∈l,SwOk s):Txt.split (Txt.join ", " (l.map Sw.txt)) ", "=l.map Sw.txt:=by
 rw[<- a66];refine FU (by simpa using b) (λx c=>?_) (by decide) (by decide) (by decide);obtain⟨s,a,rfl⟩:=jap.mp c;exact Mh (by decide) (ok s a).cm
def Po {s:Sw}(ok:SwOk s):Txt.split s.txt " "=ie s.p s.r:=by
 unfold Sw.txt;rw[<- a3M];exact qW (by unfold ie;simp) ok.sp
def JG {l:List T}{S:aI}{k:KD}(h:k (.lst l) S):newL false l S k:=by unfold newL;rw[jaa (by decide)];exact h
def Io {s:Sw}{l:List Sw}(hs:s∈l){n:Nat}(h:(Txt.join ", " (l.map Sw.txt)).length<=n):s.txt.length<=n:=by
 have e:Txt.join ", " (l.map Sw.txt)=Str.join ", " (l.map Sw.txt):=jba ..;rw[e] at h;exact jay ((join_le ", " (l.map Sw.txt)).1 _ (jap.mpr ⟨s,hs,M⟩)) h
def okC (c:Nat):Bool:=qc c||xC c||decide (c=35)||decide (c=42)||decide (c=43)||decide (c=45)
structure o9 (x:Str):Prop where
 ne:cp x≠[]
 ok:∀c∈cp x,okC c=true
 nk:x∉qI
 len:x.length<=30
def o9.no {x:Str}(h:o9 x){c:Nat}(a:autoParam (okC c=false) jp):c∉cp x:=λz=>by rw[h.ok c z] at a;cases a
theorem o9.nw {x:Str}(h:o9 x)(y:Str)(a:autoParam ((cp y).any (λc=>!okC c)=true) jp):x≠y:=λz=>by
 subst z;rw[jbW] at a;obtain⟨c,d,b⟩:=a;rw[h.ok c d] at b;cases b
def o9.kw {x:Str}(h:o9 x)(y:Str)(a:autoParam (y∈qI) jp):x≠y:=λz=>h.nk (z ▸ a)
structure A0 (s:Sw):Prop where
 ok:SwOk s
 wd:∀x∈ie s.p s.r,o9 x
def jn:jcB->jcH
 |[]=>[]
 |[a]=>cp a
 |a::b::r=>cp a++32::jn (b::r)
def fO (a b:Str)(r:jcB):jn (a::b::r)=cp a++32::jn (b::r):=rfl
theorem pR:∀ws:jcB,cp (Txt.join " " ws)=jn ws
 |[]=>by symm
 |[x]=>by
  have e:Txt.join " " [x]=Str.join " " [x]:=jba ..;rw[e];rfl
 |x::y::r=>by
  have e:Txt.join " " (x::y::r)=Str.join " " (x::y::r):=jba ..;have a:Txt.join " " (y::r)=Str.join " " (y::r):=jba ..;rw[e,rP,<- a,pR (y::r),fO,show cp " "=[32] by symm];rfl
theorem mV:∀{l m:jcB},l≠[]->m≠[]->jn (l++m)=jn l++32::jn m
 |[],_,h,_=>(h M).elim
 |[a],[],_,h=>(h M).elim
 |[a],b::m,_,_=>rfl
 |a::b::l,m,_,h=>by
  have c:=mV (l:=b::l) (m:=m) (by simp) h;rw[jaS] at c;rw[jaS,jaS,fO,fO,c];simp
def Al {a:Str}{m:jcB}(h:m≠[]):jn (a::m)=cp a++32::jn m:=mV (l:=[a]) (by simp) h
def PB {x:Str}{ws:jcB}(e:cp x=jn ws)(a:ws≠[])(h:∀w∈ws,32∉cp w):Txt.split x " "=ws:=by
 have:x=Txt.join " " ws:=dB (by rw[e,pR]);rw[this,<- a3M];exact qW a h
def j7 (p:Bool×Str)(r:List (Bool×Str)):ie p r≠[]:=by unfold ie;simp
def nW (s:Sw):cp s.txt=jn (ie s.p s.r):=pR _
inductive CW where
 |cmp (a:Sw) (s:Str) (b:Sw) | neg (c:CW) | con (k:Bool) (cs:List CW)
noncomputable def ic:CW->Bool
 |.con _ _=>true
 |_=>false
def wH (k:Bool):Str:=if k then "and" else "or"
mutual
def CW.cd:CW->bT
 |.cmp a s b=>.cmp (qd a.ws) s (qd b.ws)
 |.neg c=>.neg c.cd
 |.con k d=>.con k (UD d)
def UD:List CW->List bT
 |[]=>[]
 |c::r=>c.cd::UD r
end
mutual
def CW.dep:CW->Nat
 |.cmp _ _ _=>0
 |.neg c=>c.dep+1
 |.con _ a=>rO a+1
def rO:List CW->Nat
 |[]=>0
 |c::r=>max c.dep (rO r)
end
mutual
def CW.ok:CW->Prop
 |.cmp a s b=>A0 a/\A0 b/\s∈X4
 |.neg c=>c.ok
 |.con _ d=>JE d/\2<=d.length/\d.length<=3
def JE:List CW->Prop
 |[]=>True
 |c::r=>c.ok/\JE r
end
mutual
def uR:CW->jcB
 |.cmp a s b=>ie a.p a.r++s::ie b.p b.r
 |.neg c=>("not":Str)::("(":Str)::(uR c++[(")":Str)])
 |.con k d=>(qF k d).tail
def qF (k:Bool):List CW->jcB
 |[]=>[]
 |d::r=>wH k::((if ic d=true then("(":Str)::(uR d++[(")":Str)]) else uR d)++qF k r)
end
def xU (d:CW):jcB:=if ic d=true then("(":Str)::(uR d++[(")":Str)]) else uR d
def iN (k:Bool)(d:CW)(r:List CW):qF k (d::r)=wH k::(xU d++qF k r):=by rw[qF];rfl
def Lm (k:Bool)(d:CW)(r:List CW):uR (.con k (d::r))=xU d++qF k r:=by rw[uR,iN];rfl
theorem MQ:∀l:List CW,UD l=l.map CW.cd
 |[]=>rfl
 |c::r=>by rw[UD,MQ r];rfl
theorem L5 {c:CW}:∀{l:List CW},JE l->c∈l->c.ok
 |d::r,h,m=>by
  unfold JE at h;rcases jae.mp m with rfl | m
  .exact h.1
  .exact L5 h.2 m
theorem Hj {c:CW}:∀{l:List CW},c∈l->c.dep<=rO l
 |d::r,h=>by
  unfold rO;rcases jae.mp h with rfl | h
  .exact jbO _ _
  .exact jay (Hj h) (jbJ _ _)
abbrev BW:=Nat×Str×Nat
def lD (b:BW):Str:=⟨(List.replicate b.1 40++(cp b.2.1++List.replicate b.2.2 41)).toArray⟩
def bw (x:Str):BW:=(0,x,0)
def FD:List BW->List BW
 |[]=>[]
 |(o,x,c)::r=>(o+1,x,c)::r
def cls:List BW->List BW
 |[]=>[]
 |[(o,x,c)]=>[(o,x,c+1)]
 |a::b::r=>a::cls (b::r)
def yz (l:List BW):jcB:=(l.map λb=>List.replicate b.1 ("(":Str)++b.2.1::List.replicate b.2.2 (")":Str)).flatten
mutual
def l7:CW->List BW
 |.cmp a s b=>(ie a.p a.r++s::ie b.p b.r).map bw
 |.neg c=>bw ("not":Str)::cls (FD (l7 c))
 |.con k d=>(AX k d).tail
def AX (k:Bool):List CW->List BW
 |[]=>[]
 |d::r=>bw (wH k)::((if ic d=true then cls (FD (l7 d)) else l7 d)++AX k r)
end
def Ic (d:CW):List BW:=if ic d=true then cls (FD (l7 d)) else l7 d
def nS (k:Bool)(d:CW)(r:List CW):AX k (d::r)=bw (wH k)::(Ic d++AX k r):=by rw[AX];rfl
def C2 (k:Bool)(d:CW)(r:List CW):l7 (.con k (d::r))=Ic d++AX k r:=by rw[l7,nS];rfl
theorem Ay:∀{l:List BW},l≠[]->cls l≠[]
 |[],h=>(h M).elim
 |[(o,x,c)],_=>by simp[cls]
 |a::b::r,_=>by simp[cls]
theorem oN:∀{l:List BW},l≠[]->FD l≠[]
 |[],h=>(h M).elim
 |(o,x,c)::r,_=>by simp[FD]
mutual
theorem qU:∀{c:CW},c.ok->l7 c≠[]
 |.cmp a s b,_=>by rw[l7];simp
 |.neg c,_=>by rw[l7];simp
 |.con k [],h=>by unfold CW.ok at h;have:=h.2.1;simp at this
 |.con k (d::r),h=>by
  rw[C2];unfold CW.ok at h;obtain⟨h,_⟩:=h;unfold JE at h;have:=qU h.1;unfold Ic;split
  .intro z;exact Ay (oN this) (List.append_eq_nil_iff.mp z).1
  .intro z;exact this (List.append_eq_nil_iff.mp z).1
end
def Ll (l m:List BW):yz (l++m)=yz l++yz m:=by unfold yz;simp
def eN (a:BW)(m:List BW):yz (a::m)=(List.replicate a.1 ("(":Str)++a.2.1::List.replicate a.2.2 (")":Str))++yz m:=rfl
theorem Lk:∀{l:List BW},l≠[]->yz (FD l)=("(":Str)::yz l
 |[],h=>(h M).elim
 |(o,x,c)::r,_=>by rw[FD,eN,eN,jbf];rfl
theorem C6:∀{l:List BW},l≠[]->yz (cls l)=yz l++[(")":Str)]
 |[],h=>(h M).elim
 |[(o,x,c)],_=>by
  rw[cls,eN,eN,List.replicate_succ'];simp[yz]
 |a::b::r,_=>by rw[cls,eN,eN,C6 (by simp)];simp
theorem O7:∀l:jcB,yz (l.map bw)=l
 |[]=>rfl
 |a::r=>by rw[jaf,eN,O7 r];rfl
mutual
theorem Lj:∀{c:CW},c.ok->yz (l7 c)=uR c
 |.cmp a s b,_=>by rw[l7,O7,uR]
 |.neg c,h=>by
  unfold CW.ok at h;have n:=qU h;rw[l7,eN,C6 (oN n),Lk n,Lj h,uR];rfl
 |.con k f,h=>by
  unfold CW.ok at h;have:=O6 k h.1
  match f,h,this with
  |[],h,_=>have:=h.2.1;simp at this
  |d::r,h,this=>
   rw[nS,iN,eN] at this;rw[C2,Lm];have e:wH k::yz (Ic d++AX k r)=wH k::(xU d++qF k r):=this;injection e
theorem O6 (k:Bool):∀{l:List CW},JE l->yz (AX k l)=qF k l
 |[],_=>by rw[AX,qF];rfl
 |d::r,h=>by
  unfold JE at h;rw[AX,qF,eN,Ll,O6 k h.2];have e:yz (if ic d=true then cls (FD (l7 d)) else l7 d)=(if ic d=true then("(":Str)::(uR d++[(")":Str)]) else uR d):=by
   have n:=qU h.1;split
   .rw[C6 (oN n),Lk n,Lj h.1];rfl
   .exact Lj h.1
  rw[e];rfl
end
def jw (l:List BW):jcH:=jn (l.map lD)
def iy (b:BW):cp (lD b)=List.replicate b.1 40++(cp b.2.1++List.replicate b.2.2 41):=by simp[cp,lD]
def MG (x:Str):cp (lD (bw x))=cp x:=by rw[iy];simp[bw]
def Z3 (x:Str):lD (bw x)=x:=dB (MG x)
def a1D {l m:List BW}(h:l≠[])(k:m≠[]):jw (l++m)=jw l++32::jw m:=by unfold jw;rw[jau];exact mV (by simpa using h) (by simpa using k)
def a4S (l:jcB):jw (l.map bw)=jn l:=by
 unfold jw;rw[jas];congr 1
 conv=>rhs;rw[<- List.map_id l]
 exact jbH λx _=>Z3 x
def a4T {a c:Str}{x:jcH}(e:cp c=x++cp a)(r:jcB):jn (c::r)=x++jn (a::r):=by
 cases r with
 |nil=>exact e
 |cons b r=>rw[fO,fO,e,jax]
theorem Si:∀{l:List BW},l≠[]->jw (FD l)=40::jw l
 |[],h=>(h M).elim
 |(o,x,c)::r,_=>by
  unfold jw;rw[FD,jaf,jaf];exact a4T (x:=[40]) (by rw[iy,iy,jbf];rfl) _
theorem JO:∀{l:List BW},l≠[]->jw (cls l)=jw l++[41]
 |[],h=>(h M).elim
 |[(o,x,c)],_=>by
  show cp (lD (o,x,c+1))=cp (lD (o,x,c))++[41];rw[iy,iy,List.replicate_succ'];simp
 |a::b::r,_=>by
  have d:=JO (l:=b::r) (by simp);unfold jw at d ⊢;rw[cls,jaf,Al (by simpa using Ay (l:=b::r) (by simp)),d];show _=jn (lD a::lD b::r.map lD)++[41];rw[fO];simp
mutual
def HY:CW->Str
 |.cmp a s b=>(((a.txt++(" ":Str))++s)++(" ":Str))++b.txt
 |.neg c=>(("not (":Str)++HY c)++(")":Str)
 |.con k d=>Txt.join (if k=true then(" and ":Str) else(" or ":Str)) (Ze d)
def Ze:List CW->jcB
 |[]=>[]
 |d::r=>(if ic d=true then(("(":Str)++HY d)++(")":Str) else HY d)::Ze r
end
def txP (d:CW):Str:=if ic d=true then(("(":Str)++HY d)++(")":Str) else HY d
theorem Li:∀l:List CW,Ze l=l.map txP
 |[]=>rfl
 |d::r=>by rw[Ze,Li r];rfl
def a2i:cp ("not (":Str)=[110,111,116,32,40]:=by symm
def YN:cp (")":Str)=[41]:=by symm
def a5z:cp ("(":Str)=[40]:=by symm
def ME (k:Bool):cp (if k=true then(" and ":Str) else(" or ":Str))=32::(cp (wH k)++[32]):=by cases k<;>symm
def Xh:cp ("not":Str)=[110,111,116]:=by symm
mutual
theorem Hq:∀{c:CW},c.ok->cp (HY c)=jw (l7 c)
 |.cmp a s b,_=>by
  rw[HY,l7,a4S,mV (j7 _ _) (by simp),Al (j7 _ _),bh,bh,bh,bh,nW,nW,qL];simp
 |.neg c,h=>by
  unfold CW.ok at h;have n:=qU h;have e:jw (l7 (.neg c))=cp "not"++32::jw (cls (FD (l7 c))):=by
   rw[l7];unfold jw;rw[jaf,Al (by simpa using Ay (oN n)),MG]
  rw[e,JO (oN n),Si n,HY,bh,bh,Hq h,a2i,YN,Xh];simp
 |.con k i,h=>by
  unfold CW.ok at h;have t:=Tn k h.1
  match i,h,t with
  |[],h,_=>have:=h.2.1;simp at this
  |d::r,h,t=>
   rw[HY,Li,jaf,nD,C2];unfold JE at h;rw[t.1 d (jak ..)];have f:=t.2;rw[jaf,jaG] at f;rw[nS] at f;have n:=t.1 d (jak ..);have e:jw (bw (wH k)::(Ic d++AX k r))=cp (wH k)++32::jw (Ic d++AX k r):=by
    unfold jw;have g:Ic d≠[]:=by
     have q:=qU h.1.1;unfold Ic;split
     .exact Ay (oN q)
     .exact q
    rw[jaf,Al (by simp[g]),MG]
   rw[e,ME,n] at f;simp at f;rw[f,ME,jas];simp[Function.comp_def]
theorem Tn (k:Bool):∀{l:List CW},JE l->(∀d∈l,cp (txP d)=jw (Ic d))/\32::jw (AX k l)=(if l=[] then[32] else[])++(l.map λd=>cp (if k=true then(" and ":Str) else(" or ":Str))++cp (txP d)).flatten
 |[],_=>⟨λ_ h=>absurd h jaB,by rw[AX];rfl⟩
 |d::r,h=>by
  unfold JE at h;obtain⟨g,c⟩:=Tn k h.2;have n:=qU h.1;have b:Ic d≠[]:=by
   unfold Ic;split
   .exact Ay (oN n)
   .exact n
  have e:cp (txP d)=jw (Ic d):=by
   unfold txP Ic;split
   .rw[bh,bh,Hq h.1,JO (oN n),Si n,a5z,YN];rfl
   .exact Hq h.1
  refine⟨λx a=>?_,?_⟩
  .rcases jae.mp a with rfl | a
   .exact e
   .exact g x a
  rw[jaa (by simp),jbM,jaf,jaG,nS,e,ME];have i:jw (bw (wH k)::(Ic d++AX k r))=cp (wH k)++32::jw (Ic d++AX k r):=by
   unfold jw;rw[jaf,Al (by simp[b]),MG]
  rw[i];cases r with
  |nil=>rw[AX];simp
  |cons f r=>
   rw[jaa (by simp),jbM] at c;have j:AX k (f::r)≠[]:=by rw[nS];simp
   rw[a1D b j,c,ME];simp
end
def a5Z (K:Frag)(e:D)(xs:jcB):Prop:=e=.tup (xs.map T.str)\/∃a,e=.t (.v (.ref a))/\∀H:Hp,nO K H a (xs.map V.str)
def inU (K:Frag)(a:Bool):vR:=λx y S k=>∃z b,x=.str z/\a5Z K y b/\k (.bl (xor a (decide (z∈b)))) S
def RE {X:Cx}:wR X (compareOp .NotIn) (inU X.K true):=by
 refine gB tO ?_;rintro x y H Q ⟨Y,S,d,b,k,R,g,c,⟨z,e,f,i,q⟩,hk⟩;subst f;rw[aM g];rcases i with rfl | ⟨a,rfl,h⟩
 .obtain⟨a,vs,e1,e2,e3⟩:=fN c;rw[e3.strs] at e2;refine⟨a,_,e1,.inr (.of e2),M,pV e,?_⟩;rw[iU];exact fin R hk bz (by rw[jbo] at q;exact q)
 .rw[aM c];refine⟨a,_,M,.inr (h H),M,pV e,?_⟩;rw[iU];exact fin R hk bz (by rw[jbo] at q;exact q)
section
variable {S loc:aI}{n:Nat}{o o':O}
def gA (h:n<S.length):(S.set n o++loc)[n]?=some o:=by rw[jaL (by simpa using h),jaJ h]
def sA (h:n<S.length):(S.set n o++loc).set n o'=S.set n o'++loc:=by rw[List.set_append_left _ _ (by simpa using h),jao]
def HZ (h:S[n]?=some o):n<S.length:=(jar.mp h).1
def Cw:(S.set n o).length=S.length:=jaP ..
end
section
variable {ts l r:jcB}{i:Nat}{w:Str}
def Tc (h:ts.drop i=w::r):ts.getD i ""=w/\ts.drop (i+1)=r:=by
 have e:=jac (λl=>l[0]?) h;simp at e;refine⟨by rw[jbC,e];rfl,?_⟩;rw[<- List.tail_drop,h];rfl
def dr0 (h:ts.drop i=[]):ts.getD i ""="":=by
 have:=List.drop_eq_nil_iff.mp h;rw[jbC,jb2 this];rfl
def drL (h:ts.drop i=l++r):ts.drop (i+l.length)=r:=by rw[<- List.drop_drop,h,jbY]
end
section
variable (A:Ad)
def uK (b:jcB)(i:Nat)(a:Int):O:=.ins A.dR ["tokens","place","at"] [.lst (b.map T.str),.int i,.int a]
inductive PN  (ds:List D) (S:aI) (k:KD):Prop
 |mk (n ts i a:_):ds=[.ob n]->S[n]?=some (uK A ts i a)->k (.str (ts.getD i "")) S->PN ds S k
inductive PK  (ds:List D) (S:aI) (k:KD):Prop
 |mk (n ts i a:_):ds=[.ob n]->S[n]?=some (uK A ts i a)->k (.str (ts.getD i "")) (S.set n (uK A ts (i+1) a))->PK ds S k
inductive PL  (ds:List D) (S:aI) (k:KD):Prop
 |mk (n ts i a w:_):ds=[.ob n,.str w]->S[n]?=some (uK A ts i a)->ts.getD i ""=w->k .dD (S.set n (uK A ts (i+1) a))->PL ds S k
inductive PF (K:Frag) (ds:List D) (S:aI) (k:KD):Prop
 |mk (n:Nat) (e:D) (xs ts:List Str) (i:Nat) (a:Int) (l r:List Str):ds=[.ob n,e]->a5Z K e xs->S[n]?=some (uK A ts i a)->ts.drop i=l++r->(∀x∈l,x≠""/\x∉xs)->((∀x r',r=x::r'->x=""\/x∈xs))->l.length<=900->k (.lst (l.map T.str)) (S.set n (uK A ts (i+l.length) a))->PF K ds S k
structure Ux (b:BW):Prop where
 ne:cp b.2.1≠[]
 o:40∉cp b.2.1
 c:41∉cp b.2.1
 l1:b.1<=100
 l2:b.2.2<=100
 l3:b.2.1.length<=100
inductive PD  (ds:List D) (S:aI) (k:KD):Prop
 |mk (bs:List BW) (a:D):ds=[.lst ((bs.map lD).map T.str),a]->(∀b∈bs,Ux b)->bs.length<=1000->k (.lst ((yz bs).map T.str)) S->PD ds S k
inductive PM  (ds:List D) (S:aI) (k:KD):Prop
 |mk (n:Nat) (bs:List BW) (a:Int):ds=[.ob n,.lst ((bs.map lD).map T.str),.int a]->S[n]?=some (.ins A.dR [] [])->(∀b∈bs,Ux b)->bs.length<=1000->k .dD (S.set n (uK A (yz bs) 0 a))->PM ds S k
def M3 (r:jcB):Prop:=r.head?=none\/r.head?=some ")"
def HK (r:jcB):Prop:=r.head?=none\/∃x∈[("and":Str),"or",")"],r.head?=some x
inductive U8 (m:Nat) (ds:List D) (S:aI) (k:KD):Prop
 |mk (n:Nat) (ts:List Str) (i:Nat) (a:Int) (c:CW) (r:List Str):ds=[.ob n]->S[n]?=some (uK A ts i a)->c.ok->c.dep<=m->ts.drop i=uR c++r->M3 r->k (.t (gI A c.cd)) (S.set n (uK A ts (i+(uR c).length) a))->U8 m ds S k
inductive ZC (m:Nat) (ds:List D) (S:aI) (k:KD):Prop
 |mk (n:Nat) (ts:List Str) (i:Nat) (a:Int) (c:CW) (r:List Str):ds=[.ob n]->S[n]?=some (uK A ts i a)->c.ok->c.dep<=m->((ic c=true->c.dep<m))->ts.drop i=xU c++r->HK r->k (.t (gI A c.cd)) (S.set n (uK A ts (i+(xU c).length) a))->ZC m ds S k
inductive ZD (m:Nat) (ds:List D) (S:aI) (k:KD):Prop
 |mk (n:Nat) (ts:List Str) (i:Nat) (a:Int) (c:CW) (r:List Str):ds=[.ob n]->S[n]?=some (uK A ts i a)->c.ok->c.dep<=m->ts.drop i=("(":Str)::(uR c++(")":Str)::r)->k (.t (gI A c.cd)) (S.set n (uK A ts (i+(uR c).length+2) a))->ZD m ds S k
def XZ:Nat->lV
 |0=>P7
 |m+1=>ZD A m
inductive Zz  (ds:List D) (S:aI) (k:KD):Prop
 |mk (n:Nat) (ts:List Str) (i:Nat) (a:Int) (x y:Sw) (s:Str) (r:List Str):ds=[.ob n]->S[n]?=some (uK A ts i a)->A0 x->A0 y->s∈X4->ts.drop i=(ie x.p x.r++s::ie y.p y.r)++r->HK r->k (.t (gI A (.cmp (qd x.ws) s (qd y.ws)))) (S.set n (uK A ts (i+(ie x.p x.r++s::ie y.p y.r).length) a))->Zz ds S k
inductive ZF  (ds:List D) (S:aI) (k:KD):Prop
 |mk (c:CW) (a:Int):ds=[.lst (((l7 c).map lD).map T.str),.int a]->c.ok->c.dep<=2->(∀b∈l7 c,Ux b)->(l7 c).length<=1000->k (.t (gI A c.cd)) S->ZF ds S k
end
theorem MN {S:aI}{n:Nat}{A:Ad}{f:jcB}{i:Nat}{a:Int}(c:Cl S):∀o∈S.set n (uK A f i a),ES S.length o:=λo e=>by
 rcases jcf e with h | rfl
 .exact c o h
 .intro d b;simp at b;rcases b with rfl | rfl | rfl<;>trivial
def ZN:∀y∈X4,(cp y).any (λc=>!okC c)=true:=by symm
def wd1 {s:Sw}(h:A0 s):∀x∈ie s.p s.r,x≠""/\x∉X4:=λx a=>⟨λz=>(h.wd x a).ne (by rw[z];symm),λz=>(h.wd x a).nw x (ZN x z) M⟩
theorem wd2 {s:Sw}(h:A0 s):∀x∈ie s.p s.r,x≠""/\x∉[("and":Str),"or",")"]:=λx a=>⟨(wd1 h x a).1,λz=>by
 have k:=h.wd x a;simp at z;rcases z with z | z | z
 .exact k.kw "and" (by symm) z
 .exact k.kw "or" (by symm) z
 .exact k.nw ")" (by symm) z⟩
def Nj {s:Sw}(h:A0 s):(ie s.p s.r).length<=41:=by rw[uX];have:=h.ok.len;lia
def a3H (s:Sw):∃l,ie s.p s.r=tX s.p::l:=⟨_,M⟩
def FO {r:jcB}(h:M3 r):HK r:=h.elim .inl λh=>.inr ⟨")",by simp,h⟩
theorem C7 (k:Bool):∀l m:List CW,qF k (l++m)=qF k l++qF k m
 |[],m=>by rw[qF];rfl
 |d::l,m=>by rw[jaS,iN,iN,C7 k l m];simp
def XY {k:Bool}{l:List CW}{r:jcB}(h:M3 r):HK (qF k l++r):=by
 cases l with
 |nil=>rw[qF];exact FO h
 |cons d l=>rw[iN];exact .inr ⟨wH k,by cases k<;>simp[wH],M⟩
def FP {a r:jcB}{i:Nat}{k:Bool}(e:a.drop i=r)(h:M3 r):a.getD i ""≠wH k:=by
 cases r with
 |nil=>rw[dr0 e];cases k<;>symm
 |cons x r=>
  rw[(Tc e).1];rcases h with h | h
  .simp at h
  .simp at h;rw[h];cases k<;>symm
def Tz {S d:aI}{n:Nat}{A:Ad}{b:jcB}{i:Nat}{a:Int}{x:T}{k:KD}(c:Cl S)(h:k (.t x) (S.set n (uK A b i a))):closes S.length (.t x) (S.set n (uK A b i a)++d) k:=.inl ⟨_,_,M,Cw,MN c,trivial,h⟩
theorem Nl {r:jcB}(h:HK r):∀x r',r=x::r'->x=""\/x∈[("and":Str),"or",")"]:=λx r' e=>by
 subst e;rcases h with h | ⟨y,a,h⟩
 .cases h
 .injection h with h;rw[h];exact .inr a
def IE (c:CW):(2<=pH c.cd)↔ic c=true:=by
 cases c with
 |cmp a s b=>simp[CW.cd,pH,ic]
 |neg c=>simp[CW.cd,pH,ic]
 |con k d=>cases k<;>simp[CW.cd,pH,ic]
def O8 {c:CW}(h:ic c=false):xU c=uR c:=by unfold xU;rw[jaa (by rw[h];decide)]
def a3d {c:CW}(h:ic c=true):xU c=("(":Str)::(uR c++[(")":Str)]):=by unfold xU;rw[jab h]
def N7:Nat->Nat
 |0=>83
 |d+1=>3*N7 d+2
theorem Ag:∀{a b:Nat},a<=b->N7 a<=N7 b
 |0,0,_=>jaq _
 |0,b+1,_=>by have:=Ag (a:=0) (b:=b) (jaN _);show N7 0<=3*N7 b+2;lia
 |a+1,0,h=>by lia
 |a+1,b+1,h=>by have:=Ag (a:=a) (b:=b) (by lia);show 3*N7 a+2<=3*N7 b+2;lia
theorem ER:∀l:List BW,(cls l).length=l.length
 |[]=>rfl
 |[_]=>rfl
 |a::b::r=>by rw[cls,jam,ER (b::r)];rfl
theorem L4:∀l:List BW,(FD l).length=l.length
 |[]=>rfl
 |_::_=>rfl
structure Ia (n:Nat)(b:BW):Prop where
 ne:cp b.2.1≠[]
 o:40∉cp b.2.1
 c:41∉cp b.2.1
 sp:32∉cp b.2.1
 nl:10∉cp b.2.1
 l1:b.1<=n
 l2:b.2.2<=n
 l3:b.2.1.length<=30
def Ia.up {n m:Nat}{b:BW}(h:Ia n b)(l:n<=m):Ia m b:=⟨h.ne,h.o,h.c,h.sp,h.nl,jay h.l1 l,jay h.l2 l,h.l3⟩
theorem Xq {n:Nat}:∀{l:List BW},(∀b∈l,Ia n b)->∀b∈FD l,Ia (n+1) b
 |[],h=>λb a=>by cases a
 |(o,x,c)::r,h=>λb a=>by
  rw[FD] at a;rcases jae.mp a with rfl | a
  .have:=h _ (jak ..);exact⟨this.ne,this.o,this.c,this.sp,this.nl,Nat.succ_le_succ this.l1,Nat.le_succ_of_le this.l2,this.l3⟩
  .exact(h b (jaj _ a)).up (Nat.le_succ _)
theorem MY {n m:Nat}:∀{l:List BW},(∀b∈l,Ia m b)->(∀b∈l,b.2.2<=n)->n+1<=m->∀b∈cls l,Ia m b
 |[],h,_,_=>λb d=>by cases d
 |[(o,x,c)],h,k,l=>λb d=>by
  rw[cls,jal] at d;subst d;have:=h _ (jak ..);have q:=k _ (jak ..);exact⟨this.ne,this.o,this.c,this.sp,this.nl,this.l1,jay (Nat.succ_le_succ q) l,this.l3⟩
 |a::b'::r,h,k,l=>λb d=>by
  rw[cls] at d;rcases jae.mp d with rfl | d
  .exact h _ (jak ..)
  .exact MY (λz e=>h z (jaj _ e)) (λz e=>k z (jaj _ e)) l b d
theorem a0O {n:Nat}:∀{l:List BW},(∀b∈l,b.2.2<=n)->∀b∈FD l,b.2.2<=n
 |[],h=>λb a=>by cases a
 |(o,x,c)::r,h=>λb a=>by
  rw[FD] at a;rcases jae.mp a with rfl | a
  .exact h (o,x,c) (jak ..)
  .exact h b (jaj _ a)
def Ua {n:Nat}{l:List BW}(h:∀b∈l,Ia n b):∀b∈cls (FD l),Ia (n+1) b:=MY (Xq h) (a0O λb a=>(h b a).l2) (jaq _)
def TZ {x:Str}(h:o9 x)(n:Nat):Ia n (bw x):=⟨h.ne,h.no,h.no,h.no,h.no,jaN _,jaN _,h.len⟩
def E5 (x:Str)(n:Nat)(h:(decide (cp x≠[])&&!((cp x).contains 40)&&!((cp x).contains 41)&&!((cp x).contains 32)&&!((cp x).contains 10)&&decide (x.length<=30))=true):Ia n (bw x):=by
 simp only[jaM,jbg,jcc,List.contains_eq_mem,jcl] at h;obtain⟨⟨⟨⟨⟨d,a⟩,e⟩,f⟩,c⟩,b⟩:=h;exact⟨d,a,e,f,c,jaN _,jaN _,b⟩
def ZM:∀x∈X4,(decide (cp x≠[])&&!((cp x).contains 40)&&!((cp x).contains 41)&&!((cp x).contains 32)&&!((cp x).contains 10)&&decide (x.length<=30))=true:=by symm
def a1s (k:Bool):(decide (cp (wH k)≠[])&&!((cp (wH k)).contains 40)&&!((cp (wH k)).contains 41)&&!((cp (wH k)).contains 32)&&!((cp (wH k)).contains 10)&&decide ((wH k).length<=30))=true:=by cases k<;>symm
mutual
theorem xT:∀{c:CW},c.ok->(∀b∈l7 c,Ia c.dep b)/\(l7 c).length<=N7 c.dep
 |.cmp x s y,h=>by
  unfold CW.ok at h;rw[l7,CW.dep];constructor
  .intro b d;obtain⟨w,a,rfl⟩:=jap.mp d;rcases jan.mp a with a | a
   .exact TZ (h.1.wd w a) _
   .rcases jae.mp a with rfl | a
    .exact E5 _ _ (ZM _ h.2.2)
    .exact TZ (h.2.1.wd w a) _
  .have e:=Nj h.1;have g:=Nj h.2.1;rw[jad,jag,jam];show _<=83;lia
 |.neg c,h=>by
  unfold CW.ok at h;obtain⟨e,g⟩:=xT h;rw[l7,CW.dep];constructor
  .intro b d;rcases jae.mp d with rfl | d
   .exact E5 _ _ (by symm)
   .exact Ua e b d
  .rw[jam,ER,L4];show _<=3*N7 c.dep+2;lia
 |.con k f,h=>by
  unfold CW.ok at h;obtain⟨e,g⟩:=K6 k h.1;rw[l7,CW.dep];refine⟨λb d=>e b (List.mem_of_mem_tail d),?_⟩;rw[List.length_tail];show _<=3*N7 (rO f)+2;have i:=h.2.2;have:(N7 (rO f)+1)*f.length<=(N7 (rO f)+1)*3:=jb8 _ i;lia
theorem K6 (k:Bool):∀{l:List CW},JE l->(∀b∈AX k l,Ia (rO l+1) b)/\(AX k l).length<=(N7 (rO l)+1)*l.length
 |[],_=>by rw[AX];exact⟨(λb a=>absurd a jaB),jaN _⟩
 |d::r,h=>by
  unfold JE at h;obtain⟨c,o⟩:=xT h.1;obtain⟨j,n⟩:=K6 k h.2;rw[AX,rO];have f:=jbO d.dep (rO r);have g:=jbJ d.dep (rO r);constructor
  .intro b a;rcases jae.mp a with rfl | a
   .exact E5 _ _ (a1s k)
   .rcases jan.mp a with a | a
    .split at a
     .exact(Ua c b a).up (by lia)
     .exact(c b a).up (by lia)
    .exact(j b a).up (by lia)
  .have e:(if ic d=true then cls (FD (l7 d)) else l7 d).length=(l7 d).length:=by
    split
    .rw[ER,L4]
    .rfl
   rw[jam,jag,e,jam];have m:=Ag f;have i:=jcr r.length (Nat.succ_le_succ (Ag g));rw[jbQ];simp only[Nat.succ_eq_add_one] at i;lia
end
def OL (c:CW):Prop:=c.ok/\c.dep<=2
def OL.bw {c:CW}(h:OL c):∀b∈l7 c,Ia 2 b:=λb a=>((xT h.1).1 b a).up h.2
theorem OL.b {c:CW}(h:OL c):∀b∈l7 c,Ux b:=λb a=>by
 have q:=h.bw b a;have f:=q.l1;have e:=q.l2;have d:=q.l3;exact⟨q.ne,q.o,q.c,by lia,by lia,by lia⟩
theorem OL.ln {c:CW}(h:OL c):(l7 c).length<=755:=jay (xT h.1).2 (Ag h.2)
def QB {n:Nat}{b:BW}(h:Ia n b):32∉cp (lD b)/\10∉cp (lD b):=by
 rw[iy];constructor<;>intro z<;>rcases jan.mp z with z | z
 .rw[List.mem_replicate] at z;lia
 .rcases jan.mp z with z | z
  .exact h.sp z
  .rw[List.mem_replicate] at z;lia
 .rw[List.mem_replicate] at z;lia
 .rcases jan.mp z with z | z
  .exact h.nl z
  .rw[List.mem_replicate] at z;lia
def ud (l:List T)(n:Nat):k8 l (some (n:Int)) none=l.drop n:=by
 unfold k8;rw[HT.pK,HT.zy,jbF (by simp)];rcases Nat.le_total n l.length with h | h
 .rw[Nat.min_eq_left h]
 .rw[Nat.min_eq_right h,List.drop_length,List.drop_eq_nil_of_le h]
def YH (l:List T)(n:Nat):k8 l none (some (n:Int))=l.take n:=by
 unfold k8;rw[HT.pK,HT.zy,List.drop_zero,Nat.sub_zero];rcases Nat.le_total n l.length with h | h
 .rw[Nat.min_eq_left h]
 .rw[Nat.min_eq_right h,List.take_length,jbF h]
def a2f (l:List T){m n:Nat}(h:m<=n)(a:n<=l.length):k8 l (some (m:Int)) (some (n:Int))=(l.drop m).take (n - m):=by
 unfold k8;rw[HT.pK,HT.pK,Nat.min_eq_left a,Nat.min_eq_left (jay h a)]
theorem Bw {a:Bool}{x:Str}{ws:jcB}{d:D}{S:aI}{k:KD}(b:sq S d=some (ws.map T.str))(h:k (.bl (xor a (decide (x∈ws)))) S):in3 a (.str x) d S k:=
 ⟨_,_,_,M,M,b,ki ws,by rw[iU];exact h⟩
def a8s {n:Nat}{l:jcB}{S:aI}{k:KD}(b:0<n)(h:k (.bl true) S):eq3 n false (.lst (l.map T.str)) (.lst (l.map T.str)) S k:=⟨_,_,M,M,.inl ⟨M,ym λx a=>by obtain⟨y,_,rfl⟩:=jap.mp a;exact bV y,h⟩⟩
section
variable (A:Ad)
def j9 (R:List (jcB))(i:Nat):O:=.ins A.jU ["rows","at"] [.lst (R.map λa=>T.lst (a.map T.str)),.int i]
inductive PX  (ds:List D) (S:aI) (k:KD):Prop
 |mk (n:Nat) (d:D) (xs:List Str):ds=[.ob n,d]->S[n]?=some (.ins A.jU [] [])->xq S d=some (xs.map T.str)->xs.length<=1000->(∀x∈xs,x.length<=100000)->k .dD (S.set n (j9 A (xs.map λx=>Txt.split x " ") 0))->PX ds S k
inductive PY  (ds:List D) (S:aI) (k:KD):Prop
 |mk (n R i:_):ds=[.ob n]->S[n]?=some (j9 A R i)->((i<R.length->R.getD i []≠[]))->k (.str ((R.getD i []).headD "")) S->PY ds S k
inductive PV  (ds:List D) (S:aI) (k:KD):Prop
 |mk (n R i ws:_):ds=[.ob n]->S[n]?=some (j9 A R i)->R[i]?=some ws->k (.lst (ws.map T.str)) (S.set n (j9 A R (i+1)))->PV ds S k
inductive Lx  (ds:List D) (S:aI) (k:KD):Prop
 |mk (n R i w:_):ds=[.ob n,.str w]->S[n]?=some (j9 A R i)->R[i]?=some [w]->k .dD (S.set n (j9 A R (i+1)))->Lx ds S k
def FE:Nat->List CW->List (Int×bT)
 |_,[]=>[]
 |i,c::r=>((i:Int),c.cd)::FE (i+1) r
def wU (w:Str)(c:CW):jcB:=w::(l7 c).map lD
inductive ZA  (ds:List D) (S:aI) (k:KD):Prop
 |mk (n:Nat) (R:List (List Str)) (i:Nat) (w:Str) (l:List CW) (y:Str) (ys:List Str) (r:List (List Str)):ds=[.ob n,.str w]->S[n]?=some (j9 A R i)->R.drop i=l.map (wU w)++(y::ys)::r->y≠w->(∀c∈l,OL c)->l.length<=100->k (.lst ((FE i l).map (atT A))) (S.set n (j9 A R (i+l.length)))->ZA ds S k
end
inductive SX where
 |lt (x:Str) (a:Sw) | dv (x wd:Str) (a b:Sw) | ft (x r:Str) (p:Sw) | pt (r:Str) (p s:Sw) | mq (r:Str) (z:Sw) | cm (c:CW) | cl (ns:List Str) (hp:Str) (g:List Sw)
def SX.st (i:Nat):SX->cD
 |.lt x a=>.lt i x (qd a.ws)
 |.dv x d a b=>.dv i x d (qd a.ws) (qd b.ws)
 |.ft x r p=>.ft i x r (qd p.ws)
 |.pt r p s=>.pt i r (qd p.ws) (qd s.ws)
 |.mq r z=>.mq i r (qd z.ws)
 |.cm c=>.cm i c.cd
 |.cl f e g=>.cl i f e (g.map λs=>qd s.ws)
abbrev Sw.w (s:Sw):jcB:=ie s.p s.r
def ON:jcB->jcB
 |[]=>[]
 |[x]=>[x++(",":Str)]
 |x::y::r=>x::ON (y::r)
def wJ:List Sw->jcB
 |[]=>[]
 |[s]=>s.w
 |s::t::r=>ON s.w++wJ (t::r)
def UC (a:jcB):jcB:=if a=[] then[] else a++[("=":Str)]
def SX.qo:SX->jcB
 |.lt x a=>("let":Str)::x::("=":Str)::a.w
 |.dv x d a b=>("let":Str)::x::("=":Str)::(a.w++d::b.w)
 |.ft x r p=>("let":Str)::x::("=":Str)::r::("at":Str)::p.w
 |.pt r p s=>("put":Str)::r::("at":Str)::(p.w++("=":Str)::s.w)
 |.mq r z=>("row":Str)::r::("=":Str)::z.w
 |.cm c=>wU "claim" c
 |.cl f e g=>("call":Str)::(UC f++e::wJ g)
def SX.ok:SX->Prop
 |.lt x a=>isNm x=true/\A0 a
 |.dv x d a b=>isNm x=true/\(d="div"\/d="mod")/\A0 a/\A0 b
 |.ft x r p=>isNm x=true/\isNm r=true/\A0 p
 |.pt r p s=>isNm r=true/\A0 p/\A0 s
 |.mq r z=>isNm r=true/\A0 z
 |.cm c=>OL c
 |.cl e f g=>(∀x∈e,isNm x=true)/\e.length<=10/\isNm f=true/\g.length<=10/\∀s∈g,A0 s
section
variable (A:Ad)
inductive Dp (P:SX->Prop) (ds:List D) (S:aI) (k:KD):Prop
 |mk (x:SX) (i:Nat):ds=[.lst (x.qo.map T.str),.int i]->P x->x.ok->k (.t (iG A (x.st i))) S->Dp P ds S k
def isLet:SX->Prop
 |.lt ..=>True | .dv ..=>True | .ft ..=>True | _=>False
def Ys:SX->Prop
 |.pt ..=>True | _=>False
def a40:SX->Prop
 |.mq ..=>True | _=>False
def a41:SX->Prop
 |.cl ..=>True | _=>False
end
theorem C1:∀(l:List CW)(i:Nat),(FE i l).length=l.length
 |[],_=>rfl
 |c::r,i=>by rw[FE,jam,C1 r,jam]
theorem K5:∀(l m:List CW)(i:Nat),FE i (l++m)=FE i l++FE (i+l.length) m
 |[],m,i=>by rw[FE];rfl
 |c::r,m,i=>by rw[jaS,FE,FE,K5 r m,jaS,jam,show i+1+r.length=i+(r.length+1) by lia]
section
variable {R l r:List (jcB)}{i:Nat}{w:jcB}
def D3 (h:R.drop i=w::r):R[i]?=some w/\R.getD i []=w/\R.drop (i+1)=r:=by
 have e:=jac (λl=>l[0]?) h;simp at e;refine⟨e,by rw[jbC,e];rfl,?_⟩;rw[<- List.tail_drop,h];rfl
def Qy (h:R.drop i=l++r):R.drop (i+l.length)=r:=by rw[<- List.drop_drop,h,jbY]
end
theorem MM {S:aI}{n:Nat}{A:Ad}{R:List (jcB)}{i:Nat}(b:Cl S):∀o∈S.set n (j9 A R i),ES S.length o:=λo c=>by
 rcases jcf c with h | rfl
 .exact b o h
 .intro d a;simp at a;rcases a with rfl | rfl<;>trivial
def wD {x:Str}(h:isNm x=true):o9 x:=by
 unfold isNm at h;simp only[jaM,jbg,jcc,jcl] at h;obtain⟨⟨⟨a,f⟩,d⟩,b⟩:=h;refine⟨λz=>?_,λc e=>?_,d,by lia⟩
 .rw[bJ,z] at a;simp at a
 .rw[ja8] at b;unfold okC;rw[b c e];rfl
def jQ {x:Str}(h:isNm x=true):x.length<=8:=by
 unfold isNm at h;simp only[jaM,jbg] at h;exact h.1.1.2
theorem Ke:∀{l:jcB},l≠[]->ON l≠[]
 |[],h=>(h M).elim
 |[x],_=>by simp[ON]
 |x::y::r,_=>by simp[ON]
theorem Tv:∀{l:jcB},l≠[]->jn (ON l)=jn l++[44]
 |[],h=>(h M).elim
 |[x],_=>by
  show cp (x++(",":Str))=cp x++[44];rw[bh,show cp (",":Str)=[44] by symm]
 |x::y::r,_=>by rw[ON,Al (Ke (by simp)),Tv (by simp),fO];simp
def a5A:cp (", ":Str)=[44,32]:=by symm
theorem JS:∀{l:List Sw},l≠[]->wJ l≠[]
 |[],h=>(h M).elim
 |[s],_=>j7 _ _
 |s::t::r,_=>by rw[wJ];intro z;exact Ke (j7 _ _) (List.append_eq_nil_iff.mp z).1
theorem JT:∀l:List Sw,jn (wJ l)=cp (Txt.join ", " (l.map Sw.txt))
 |[]=>by symm
 |[s]=>by rw[wJ,jaf,nD,nW];simp
 |s::t::r=>by
  rw[wJ,mV (Ke (j7 _ _)) (JS (by simp)),Tv (j7 _ _),JT (t::r),jaf,jaf,nD,nD,a5A,nW s];simp
theorem MJ:∀{l:jcB}{x:Str},x∈ON l->x∈l\/∃y∈l,x=y++(",":Str)
 |[y],x,h=>.inr ⟨y,by simp,by simpa[ON] using h⟩
 |y::z::r,x,h=>by
  rw[ON] at h;rcases jae.mp h with rfl | h
  .exact .inl (by simp)
  .rcases MJ h with h | ⟨w,h1,h2⟩
   .exact .inl (jaj _ h)
   .exact .inr ⟨w,jaj _ h1,h2⟩
theorem Mp:∀{l:List Sw}{x:Str},x∈wJ l->(∃s∈l,x∈s.w)\/∃s∈l,∃y∈s.w,x=y++(",":Str)
 |[s],x,h=>.inl ⟨s,by simp,h⟩
 |s::t::r,x,h=>by
  rw[wJ] at h;rcases jan.mp h with h | h
  .rcases MJ h with h | ⟨w,h1,h2⟩
   .exact .inl ⟨s,by simp,h⟩
   .exact .inr ⟨s,by simp,w,h1,h2⟩
  .rcases Mp h with⟨u,h1,h2⟩ | ⟨u,h1,y,h2,h3⟩
   .exact .inl ⟨u,jaj _ h1,h2⟩
   .exact .inr ⟨u,jaj _ h1,y,h2,h3⟩
theorem MK:∀l:jcB,(ON l).length=l.length
 |[]=>rfl
 |[_]=>rfl
 |x::y::r=>by rw[ON,jam,MK (y::r)];rfl
theorem Mq:∀{l:List Sw},(∀s∈l,A0 s)->(wJ l).length<=41*l.length
 |[],_=>jaN _
 |[s],h=>by have:=Nj (h s (by simp));rw[wJ];simpa using this
 |s::t::r,h=>by
  have c:=Nj (h s (by simp));have b:=Mq (l:=t::r) λu a=>h u (jaj _ a);rw[wJ,jag,MK];show(ie s.p s.r).length+_<=41*((t::r).length+1);lia
theorem JR {l:List Sw}(h:∀s∈l,A0 s):∀x∈wJ l,x≠("=":Str)/\32∉cp x/\10∉cp x/\x.length<=31:=λx d=>by
 rcases Mp d with⟨s,a,f⟩ | ⟨s,a,y,b,rfl⟩
 .have k:=(h s a).wd x f;exact⟨k.nw "=",k.no,k.no,by have:=k.len;lia⟩
 .have k:=(h s a).wd y b;have e:cp (y++(",":Str))=cp y++[44]:=by rw[bh,show cp (",":Str)=[44] by symm]
  refine⟨λz=>?_,λz=>?_,λz=>?_,?_⟩
  .have:44∈cp ("=":Str):=by rw[<- z,e];simp
   revert this;symm
  .rw[e] at z;rcases jan.mp z with z | z
   .exact(k.no (c:=32)) z
   .simp at z
  .rw[e] at z;rcases jan.mp z with z | z
   .exact(k.no (c:=10)) z
   .simp at z
  .have:=k.len;rw[bJ] at this ⊢;rw[e];simp;exact this
def Y7 (x:SX):∃y ys,x.qo=y::ys/\y∉[("end":Str),"else"]:=by
 cases x<;>exact⟨_,_,M,by symm⟩
end L3
namespace L3
open PySem L2 Hw PyProof.Rows
section
variable {X:Cx}{o e:Expr}{to:cZ}{t:rT}{BM cpos:Pos}
end
def NmW (x:Str):Prop:=1<=x.length/\x.length<=8/\(cp x).all qc=true
def HL (x:Str):Prop:=∃c,x=⟨#[c]⟩/\qc c=true
def Yi {x:Str}(h:NmW x)(k:x∉oY):isNm x=true:=by
 unfold isNm;rw[jah h.1,jah h.2.1,jai (show x∉qI from k),show x.cps.toList.all qc=true from h.2.2];rfl
def Me {r:Nat}(h:r<26):HL ⟨#[97+r]⟩:=⟨_,M,by unfold qc;rw[jah (by lia),jah (by lia)];rfl⟩
def Ah (i:Int):HL ⟨#[97+(i % 26).toNat]⟩:=Me (by have:=jbN i (show(26:Int)≠0 by decide);have:=jbI i (show(0:Int)<26 by decide);lia)
def HL.len {x:Str}(h:HL x):x.length=1:=by obtain⟨c,rfl,_⟩:=h;rfl
def a2S (k:Int)(t:Nat):NmW (zt k t):=by
 refine⟨by unfold zt;rw[OR];decide,by unfold zt;rw[OR];decide,?_⟩;obtain⟨f,b,c⟩:=Ah (t:Int);obtain⟨e,a,d⟩:=Ah (k+t);unfold zt;show(zw _ _).cps.toList.all qc=true;rw[CY];injection b with b
 injection b with b
 injection b with b
 injection a with a
 injection a with a
 injection a with a
 rw[b,a];simp[c,d];decide
def WV (i:Int):∃x,NmW x/\jY (qJ.map T.str) (i % 12)=some (T.str x):=by
 have b:=jbN i (show(12:Int)≠0 by decide);have c:=jbI i (show(0:Int)<12 by decide);have e:i % 12=((i % 12).toNat:Int):=(jct b).symm;have a:(i % 12).toNat<qJ.length:=by rw[Od];lia
 have hk:∀x∈qJ,1<=x.length/\x.length<=8/\(cp x).all qc=true:=by symm
 refine⟨qJ[(i % 12).toNat],hk _ (List.getElem_mem a),?_⟩;have:=bK (xs:=qJ.map T.str) (j:=(i % 12).toNat) (v:=T.str qJ[(i % 12).toNat]) (by rw[jaF,jaK a];rfl);rw[<- e] at this;exact this
theorem YM:∀ss:jcB,cp (Txt.join "" ss)=(ss.map cp).flatten
 |[]=>by symm
 |x::r=>by
  rw[nD,jaf,jaG,show cp ("":Str)=[] by symm];rfl
def a1F {ss:jcB}(h:∀x∈ss,HL x)(b:0<ss.length)(i:ss.length<=8):NmW (Txt.join "" ss):=by
 have e:=YM ss;have a:(cp (Txt.join "" ss)).length=ss.length:=by
  rw[e];clear e b i
  induction ss with
  |nil=>rfl
  |cons x r g=>
   obtain⟨c,rfl,_⟩:=h x (jak ..);have:=g λy d=>h y (jaj _ d);rw[jaf,jaG,jag,this];show 1+r.length=r.length+1;lia
 refine⟨by rw[bJ,a];lia,by rw[bJ,a];lia,?_⟩;rw[e,List.all_flatten,jbP,ja8];intro x f;obtain⟨c,rfl,s⟩:=h x f;show[c].all qc=true;simp[s]
inductive Iv  (ds:List D) (S:aI) (k:KD):Prop
 |mk (d m:Nat):ds=[.ob d,.int m]->m<=8->Dq S d->(∀(ns:List Str) c m',ns.length=m->ns.Nodup->(∀x∈ns,isNm x=true)->k (.t (Bu ns)) (bN S d c m'))->Iv ds S k
structure SmL (N:List Str)(s:Sm):Prop where
 nm:norm s.1=s.1
 len:s.1.length<=3
 mem:∀p∈s.1,p.1∈N/\-3<=p.2/\p.2<=17/\p.2≠0
 lo:-9<=s.2
 hi:s.2<=999999998
structure OP (x:Str):Prop where
 th:lK x=true
 wd:o9 x
 len:x.length<=9
 ne:x≠""
def a4w {x:Str}(h:isNm x=true):OP x:=⟨by unfold lK;rw[h];rfl,wD h,by have:=jQ h;lia,λz=>by rw[z] at h;revert h;symm⟩
def Xi:cp ("#":Str)=[35]:=by symm
def W9 {x:Str}(h:isNm x=true):OP (("#":Str)++x):=by
 have l:=jQ h;have e:cp (("#":Str)++x)=35::cp x:=by rw[bh,Xi];rfl
 have ln:(("#":Str)++x).length=x.length+1:=by rw[bJ,bJ,e];simp
 have k:=wD h;refine⟨?_,⟨by rw[e];simp,λc a=>?_,λz=>?_,by lia⟩,by lia,λz=>?_⟩
 .unfold lK;have b:Txt.startswith (("#":Str)++x) "#"=true:=by
   have f:(⟨#[35]⟩:Str)="#":=by symm
   rw[<- f];obtain⟨g,d⟩:=m6.mpr (show(cp ((⟨#[35]⟩:Str)++x))[0]?=some 35 by rw[Tr];rfl);show(decide (0+_<=_)&&Builtin.Str.subAt _ _ 0)=true;rw[jaM];exact⟨jah g,d⟩
  have i:Txt.slice (("#":Str)++x) (some 1) none=x:=dB (by rw[a5v (by lia),e];rfl);rw[b,i,h];simp
 .rw[e] at a;rcases jae.mp a with rfl | a
  .decide
  .exact k.ok c a
 .have:∀y∈qI,(cp y).head?≠some 35:=by symm
  exact this _ z (by rw[e];rfl)
 .have:=jac cp z;rw[e,J8] at this;cases this
def J7 (m:Nat):jcH:=(Nat.toDigits 10 m).map Char.toNat
def yu (v:Int):jc v=((v.natAbs:Nat):Int):=by unfold jc;split<;>lia
def Aw (v:Int):cp (dQ v)=J7 v.natAbs:=by
 unfold dQ J7;rw[yu];exact PySem.W.KIN.signs_num _
theorem EJ (m:Nat):∀c∈J7 m,xC c=true:=λc g=>by
 obtain⟨f,d,e⟩:=jap.mp g;have a:=Nat.isDigit_of_mem_toDigits (b:=10) (by decide) (by decide) d;have r:48<=f.toNat/\f.toNat<=57:=by
  unfold Char.isDigit at a;simp only[jaM,jbg] at a;have i:=a.1;have h:=a.2;exact⟨by simpa using UInt32.le_iff_toNat_le.mp i,by simpa using UInt32.le_iff_toNat_le.mp h⟩
 unfold xC;rw[<- e,jah r.1,jah r.2];rfl
theorem J6 (m:Nat):J7 m≠[]:=λz=>by
 have h:=PySem.toDigits_len_ge 10 m;rw[jb7.mp z] at h;exact absurd h (by decide)
def EI {m:Nat}(h:m<=999999999):(J7 m).length<=9:=by
 unfold J7;rw[jad];exact PySem.toDigits_len_pow (by decide) (by decide) (by lia)
def a19 (m:Nat):1<=m->(J7 m).head?≠some 48:=by
 induction m using Nat.strongRecOn with
 |_ m c=>
  intro f;by_cases h:m<10
  .unfold J7;rw[Nat.toDigits_of_lt_base h];have:∀d:Nat,d<10->1<=d->([Nat.digitChar d].map Char.toNat).head?≠some 48:=by decide
   exact this m h f
  .have hm:m % 10<10:=Nat.mod_lt m (by decide);have t:Nat.toDigits 10 (m / 10)++Nat.toDigits 10 (m % 10)=Nat.toDigits 10 (10*(m / 10)+m % 10):=Nat.toDigits_append_toDigits (by decide) (by lia) hm;rw[Nat.div_add_mod] at t;have q:=c (m / 10) (by lia) (by lia);have b:=J6 (m / 10);unfold J7 at q b ⊢;rw[<- t,jau];cases e:(Nat.toDigits 10 (m / 10)).map Char.toNat with
   |nil=>exact absurd e b
   |cons a r=>rw[e] at q;exact q
def t6 {c:Nat}(h:xC c=true):okC c=true/\qc c=false/\c≠42/\c≠35/\c≠45:=by
 unfold xC at h;simp only[jaM,jbg] at h;refine⟨by unfold okC xC;rw[jah h.1,jah h.2];simp,by unfold qc;rw[jai (by lia)];rfl,by lia,by lia,by lia⟩
def sY {x:Str}{c:Nat}(h:(cp x).head?≠some c):Txt.startswith x ⟨#[c]⟩=false:=by
 cases q:Txt.startswith x ⟨#[c]⟩ with
 |false=>rfl
 |true=>
  have q:(decide (0+_<=_)&&Builtin.Str.subAt _ _ 0)=true:=q;rw[jaM] at q;have:=(m6 (x:=x) (c:=c) (i:=0)).mp ⟨jaH q.1,q.2⟩;exact absurd (by rw[List.head?_eq_getElem?];exact this) h
structure E9 (x:Str):Prop where
 wd:o9 x
 len:x.length<=20
 hd:∃c r,cp x=c::r/\xC c=true
def E9.nm {x:Str}(h:E9 x):isNm x=false:=by
 obtain⟨c,r,e,a⟩:=h.hd;unfold isNm;rw[show x.cps.toList=c::r from e,List.all_cons,(t6 a).2.1];simp
def E9.th {x:Str}(h:E9 x):lK x=false:=by
 obtain⟨c,r,e,a⟩:=h.hd;unfold lK;rw[h.nm,show("#":Str)=⟨#[35]⟩ by symm,sY (by rw[e];intro z;injection z with z;exact(t6 a).2.2.2.1 z)];rfl
def E9.mi {x:Str}(h:E9 x):Txt.startswith x "-"=false:=by
 obtain⟨c,r,e,a⟩:=h.hd;rw[show("-":Str)=⟨#[45]⟩ by symm];exact sY (by rw[e];intro z;injection z with z;exact(t6 a).2.2.2.2 z)
def CA:∀y∈qI,∀c∈cp y,xC c=false:=by symm
def RJ {v:Int}(i:-999999999<=v)(h:v<=999999999):E9 (dQ v):=by
 have e:=Aw v;have l:=EI (m:=v.natAbs) (by lia);have j:(dQ v).length<=9:=by rw[bJ,e];exact l
 have f:=J6 v.natAbs;obtain⟨c,r,a⟩:∃c r,J7 v.natAbs=c::r:=by
  cases q:J7 v.natAbs with
  |nil=>exact absurd q f
  |cons c r=>exact⟨c,r,M⟩
 have b:=EJ v.natAbs;refine⟨⟨by rw[e];exact f,λd g=>(t6 (b d (by rw[<- e];exact g))).1,λz=>?_,by lia⟩,by lia,c,r,by rw[e,a],b c (by rw[a];simp)⟩;have:=CA _ z c (by rw[e,a];simp);rw[b c (by rw[a];simp)] at this;cases this
def RK (v:Int):J0 (dQ v)=true:=by
 unfold J0;rw[show(dQ v).cps.toList=J7 v.natAbs from Aw v,ja8];exact EJ _
def GK {v:Int}(g:-999999999<=v)(f:v<=999999999):xB (dQ v)=true:=by
 have e:=Aw v;have l:=EI (m:=v.natAbs) (by lia);have d:(dQ v).length=(J7 v.natAbs).length:=by rw[bJ,e]
 have c:1<=(J7 v.natAbs).length:=by
  have:=J6 v.natAbs;cases q:J7 v.natAbs with
  |nil=>exact absurd q this
  |cons a r=>simp
 have b:(decide ((cp (dQ v)).head?=some 48)&&decide (dQ v≠"0"))=false:=by
  by_cases q:v.natAbs=0
  .have:dQ v="0":=by unfold dQ;rw[yu,q];symm
   rw[this];symm
  .rw[jai (by rw[e];exact a19 _ (by lia))];rfl
 unfold xB;rw[d,jah c,jah l,b,RK];rfl
theorem GJ (v:Int):42∉cp (dQ v):=λz=>by
 rw[Aw] at z;exact(t6 (EJ _ _ z)).2.2.1 rfl
def L7 {v:Int}(b:-999999999<=v)(a:v<=999999999):PySem.intText? (dQ v)=some (jc v):=PySem.W.KIN.num_reads (by rw[yu];lia) (by rw[yu];lia)
def a1b {v:Int}{t:Str}(i:-999999999<=v)(h:v<=999999999)(f:OP t):E9 ((dQ v++("*":Str))++t):=by
 have k:=RJ i h;obtain⟨c,r,g,b⟩:=k.hd;have l:=EI (m:=v.natAbs) (by lia);have e:cp ((dQ v++("*":Str))++t)=cp (dQ v)++42::cp t:=by rw[bh,bh,show cp ("*":Str)=[42] by symm];simp
 have j:((dQ v++("*":Str))++t).length<=19:=by
  have:=f.len;rw[bJ] at this;rw[bJ,e,jag,Aw,jam];lia
 refine⟨⟨by rw[e];simp,λd a=>?_,λz=>?_,by lia⟩,by lia,c,r++42::cp t,by rw[e,g];rfl,b⟩
 .rw[e] at a;rcases jan.mp a with a | a
  .exact k.wd.ok d a
  .rcases jae.mp a with rfl | a
   .decide
   .exact f.wd.ok d a
 .have:=CA _ z c (by rw[e,g];simp);rw[b] at this;cases this
def PcB (p:Str×Int):Prop:=(p.1=""\/OP p.1)/\-999999999<=p.2/\p.2<=999999999
structure Pw (p:Str×Int)(q:Bool×Str):Prop where
 sg:q.1=decide (p.2<0)
 pc:Pc q p
 wd:o9 q.2
 len:q.2.length<=20
 mi:Txt.startswith q.2 "-"=false
def ZK (v:Int):v=(if decide (v<0)=true then -(jc v) else jc v):=by
 unfold jc;by_cases h:v<0
 .rw[jah h,jab M,jab h];lia
 .rw[jai h,jaa (by decide),jaa h]
def a0j {v:Int}(h:PcB ("",v)):Pw ("",v) (decide (v<0),dQ v):=by
 have k:E9 (dQ v):=RJ h.2.1 h.2.2;exact⟨M,⟨by have:=k.len;show(dQ v).length<=100;lia,jc v,.num k.th (GK h.2.1 h.2.2) (GJ v) (L7 h.2.1 h.2.2),ZK v⟩,k.wd,k.len,k.mi⟩
def a0k {t:Str}{v:Int}(c:OP t)(b:-999999999<=v)(a:v<=999999999):Pw (t,v) (decide (v<0),(dQ v++("*":Str))++t):=by
 have k:=a1b b a c;exact⟨M,⟨by have:=k.len;show((dQ v++("*":Str))++t).length<=100;lia,jc v,.mul rfl k.th (GK b a) (GJ v) c.th (L7 b a),ZK v⟩,k.wd,k.len,k.mi⟩
def a3e {t:Str}(b:OP t):Txt.startswith t "-"=false:=by
 rw[show("-":Str)=⟨#[45]⟩ by symm];refine sY λz=>?_;have h:=b.th;unfold lK isNm at h;rw[jce] at h;obtain⟨r,e⟩:∃r,cp t=45::r:=by
  cases q:cp t with
  |nil=>rw[q] at z;cases z
  |cons a r=>rw[q] at z;injection z with z;exact⟨r,by rw[z]⟩
 rcases h with h | h
 .simp only[jaM] at h;have:=h.2;rw[show t.cps.toList=45::r from e] at this;simp[qc] at this
 .rw[jaM,show("#":Str)=⟨#[35]⟩ by symm,sY (by rw[e];simp)] at h;cases h.1
theorem a0i {t:Str}{v:Int}(a:OP t)(h:jc v=1):Pw (t,v) (decide (v<0),t):=
 ⟨M,⟨by have:=a.len;show t.length<=100;lia,1,.nm a.th,by have:=ZK v;rw[h] at this;exact this⟩,a.wd,by have:=a.len;show t.length<=20;lia,a3e a⟩
def PcE (P:List (Str×Int))(s:Sm):Prop:=∀x,wt P x=if x="" then s.2 else wt s.1 x
def WH {l m:List (Str×Int)}(h:∀x,wt l x=wt m x):norm l=norm m:=by
 have c:∀l:List (Str×Int),norm l=((su (l.map (·.1))).filter λx=>decide (wt l x≠0)).map λx=>(x,wt l x):=λl=>by
  unfold norm;rw[List.filter_map];rfl
 have up:∀l:List (Str×Int),((su (l.map (·.1))).filter λx=>decide (wt l x≠0)).Pairwise λa b=>lt a b=true:=λl=>(uY _).filter _;have mem:∀(l:List (Str×Int)) (x:Str),x∈((su (l.map (·.1))).filter λx=>decide (wt l x≠0))↔wt l x≠0:=λl x=>by
  rw[jbB];constructor
  .rintro⟨_,h⟩;exact jaH h
  .intro h;refine⟨gM.mpr ?_,jah h⟩;by_cases q:x∈l.map (·.1)
   .exact q
   .exact absurd (lZ q) h
 rw[c,c,pL (up l) (up m) λx=>by rw[mem,mem,h]];exact jbH λx _=>by rw[h]
def a0M {N:jcB}{P:List (Str×Int)}{s:Sm}(h:PcE P s)(hs:SmL N s)(c:∀x∈N,OP x):qd P=s:=by
 unfold qd;have d:wt P ""=s.2:=by rw[h ""];rfl
 have z:wt s.1 ""=0:=lZ λq=>by
  obtain⟨p,a,e⟩:=jap.mp q;exact(c _ (hs.mem p a).1).ne e
 have b:norm (P.filter λp=>decide (p.1≠("":Str)))=s.1:=by
  rw[<- hs.nm];refine WH λx=>?_;by_cases e:x=""
  .subst e;rw[z];exact lZ λq=>by
    obtain⟨p,a,e⟩:=jap.mp q;exact jaH (jbB.mp a).2 e
  .rw[C0 e,h x,jaa e]
 rw[b,d]
def x9 (q:Int×Str):Bool×Str:=(decide (q.1<0),q.2)
abbrev PwQ (p:Str×Int)(q:Int×Str):Prop:=q.1=p.2/\Pw p (x9 q)
def a5y (v:Int):cp (gR v)=32::(cp (jj (decide (v<0)))++[32]):=by
 unfold gR jj;by_cases h:v<0
 .rw[jab h,jah h];symm
 .rw[jaa h,jai h];symm
theorem Mi (a:Str):∀r:List (Int×Str),jn (a::((r.map x9).map λq=>[jj q.1,q.2]).flatten)=cp a++dW r
 |[]=>by show cp a=cp a++[];rw[jaD]
 |q::r=>by
  have b:=Mi q.2 r;rw[jaf,jaf,jaG];show jn (a::jj (x9 q).1::(x9 q).2::_)=_;rw[fO,fO];show cp a++32::(cp (jj (x9 q).1)++32::jn (q.2::((r.map x9).map λq=>[jj q.1,q.2]).flatten))=_;rw[b];show _=cp a++((cp (gR q.1)++cp q.2)++dW r);rw[a5y];show _=cp a++((32::(cp (jj (x9 q).1)++[32])++cp q.2)++dW r);simp
def Wa (q:Int×Str)(r:List (Int×Str))(ws:List (Str×Int)):Gs (q::r)=cp (Sw.txt ⟨x9 q,r.map x9,ws⟩):=by
 rw[nW];show _=jn (tX (x9 q)::((r.map x9).map λq=>[jj q.1,q.2]).flatten);rw[Mi];show(if q.1<0 then[45] else[])++cp q.2++dW r=cp (if decide (q.1<0)=true then("-":Str)++q.2 else q.2)++dW r;by_cases h:q.1<0
 .rw[jab h,jah h,jab M,bh,show cp ("-":Str)=[45] by symm]
 .rw[jaa h,jai h,jaa (by decide)];rfl
theorem SO {α β:Type}{F:α->β->Prop}{G:β->α->Prop}(h:∀a b,F a b->G b a):∀{l:List α}{m:List β},Paired F l m->Paired G m l
 |_,_,.nil=>.nil
 |_,_,.cons r t=>.cons (h _ _ r) (SO h t)
theorem Gp {α β γ:Type}{F:α->γ->Prop}(g:β->γ):∀{l:List α}{m:List β},Paired (λa b=>F a (g b)) l m->Paired F l (m.map g)
 |_,_,.nil=>.nil
 |_,_,.cons r t=>.cons r (Gp g t)
def Rm {α β:Type}{F:α->β->Prop}{R:β->Prop}(h:∀a b,F a b->R b){l:List α}{m:List β}(p:Paired F l m):∀b∈m,R b:=by
 induction p with
 |nil=>intro b c;exact absurd c jaB
 |cons r t d=>
  intro b c;rcases jae.mp c with rfl | c
  .exact h _ _ r
  .exact d b c
def a2Y {l:List (Str×Int)}(h:∀p∈l,-3<=p.2/\p.2<=17)(x:Str):-3*(l.length:Int)<=wt l x/\wt l x<=17*(l.length:Int):=by
 induction l with
 |nil=>rw[yy];exact⟨by simp,by simp⟩
 |cons p l b=>
  have:=b λq a=>h q (jaj _ a);have k:=h p (jak ..);rw[fM,jam];split<;>(constructor<;>push_cast<;>lia)
def Vc (n:Bool):o9 (jj n):=by
 cases n with
 |true=>exact⟨by symm,by symm,by symm,by symm⟩
 |false=>exact⟨by symm,by symm,by symm,by symm⟩
def Xc {q:Bool×Str}(h:o9 q.2)(l:q.2.length<=20):o9 (tX q):=by
 unfold tX;split
 .have e:cp (("-":Str)++q.2)=45::cp q.2:=by rw[bh,show cp ("-":Str)=[45] by symm];rfl
  have k:∀y∈qI,(cp y).head?≠some 45:=by symm
  refine⟨by rw[e];simp,λc a=>?_,λz=>k _ z (by rw[e];rfl),?_⟩
  .rw[e] at a;rcases jae.mp a with rfl | a
   .decide
   .exact h.ok c a
  .rw[bJ] at l;rw[bJ,e,jam];lia
 .exact h
def a3G {N:jcB}{s:Sm}{P:List (Str×Int)}{q:Int×Str}{r:List (Int×Str)}(d:Paired PwQ P (q::r))(g:PcE P s)(hs:SmL N s)(i:∀x∈N,OP x)(h:P.length<=15):A0 ⟨x9 q,r.map x9,P⟩/\qd P=s:=by
 have k:=a0M g hs i;have len:P.length=r.length+1:=by have:=jaZ d;simpa using this
 have c:Paired Pw P ((q::r).map x9):=Gp x9 (dY (λ_ _ z=>z.2) d);have all:∀b∈(q::r).map x9,o9 b.2/\b.2.length<=20/\Txt.startswith b.2 "-"=false:=Rm (λ_ _ z=>⟨z.wd,z.len,z.mi⟩) c;have e:∀x∈ie (x9 q) (r.map x9),o9 x:=λx a=>by
  rcases jae.mp (show x∈tX (x9 q)::((r.map x9).map λq=>[jj q.1,q.2]).flatten from a) with rfl | a
  .have:=all (x9 q) (by simp);exact Xc this.1 this.2.1
  .obtain⟨l,h,a⟩:=List.mem_flatten.mp a;obtain⟨b,j,rfl⟩:=jap.mp h;rcases jae.mp a with rfl | a
   .exact Vc _
   .rw[jal.mp a];exact(all b (by rw[jaf];exact jaj _ j)).1
 have f:=all (x9 q) (by simp);refine⟨⟨⟨?_,?_,f.2.2,SO (λ_ _ z=>z.pc) c,λx=>?_,λx a=>(e x a).no,λx a=>(e x a).no⟩,e⟩,k⟩
 .show(r.map x9).length<=20;rw[jad];lia
 .have:=f.2.1;show(x9 q).2.length<=100;lia
 .have w0:wt (z0 P) x=wt P x:=by unfold z0;rw[fM];split<;>simp
  show -999999999<=wt (z0 P) x/\wt (z0 P) x<=999999999;rw[w0,g x];split
  .exact⟨by have:=hs.lo;lia,by have:=hs.hi;lia⟩
  .have:=a2Y (λp d=>⟨(hs.mem p d).2.1,(hs.mem p d).2.2.1⟩) x;have:=hs.len;lia
theorem Yq {jcx:Nat}:∀{l:jcB},(∀x∈l,x.length<=jcx)->(jn l).length<=(jcx+1)*l.length
 |[],_=>jaN _
 |[a],h=>by have:=h a (by simp);rw[bJ] at this;show(cp a).length<=(jcx+1)*1;lia
 |a::b::r,h=>by
  have e:=Yq (l:=b::r) λx d=>h x (jaj _ d);have c:=h a (by simp);rw[bJ] at c;rw[fO,jag,jam,jam (a:=a),jbQ];lia
def a2b:∀(c:CW),c.cd.dep=c.dep:=by
 intro c;have:(∀c:CW,c.cd.dep=c.dep):=CW.rec (motive_1:=λc=>c.cd.dep=c.dep) (motive_2:=λl=>vI (UD l)=rO l) (λa s b=>by rw[CW.cd,bT.dep,CW.dep]) (λc d=>by rw[CW.cd,bT.dep,CW.dep,d]) (λk g d=>by rw[CW.cd,bT.dep,CW.dep,d]) (by rw[UD,vI,rO]) (λc r e f=>by rw[UD,vI,rO,e,f]);exact this c
def Vu {n:Nat}{b:BW}(h:Ia n b):(lD b).length<=30+2*n:=by
 have d:=h.l1;have c:=h.l2;have a:=h.l3;rw[bJ] at a;rw[bJ,iy];simp;have:(cp b.2.1).length=b.2.1.cps.size:=by simp[cp]
 lia
def Zb {c:CW}(h:OL c):(HY c).length<=30000:=by
 have l:=h.ln;have:=Yq (l:=(l7 c).map lD) (jcx:=34) λx d=>by
  obtain⟨b,a,rfl⟩:=jap.mp d;exact Vu (h.bw b a)
 rw[jad] at this;rw[bJ,Hq h.1];unfold jw;lia
def Vf {t u:nL}{E:jV}{Z:Sl}{S:aI}(I:KS)(b:∀N:KS,(∀Z S,I Z S->N Z S)->t {E with nx:=N } Z S)(a:∀Z S,I Z S->u E Z S):fV t u E Z S:=b _ a
section
variable {S loc:aI}{d q:Nat}{c m:Int}{o:O}
end
def Oj {w:CW}{e:bT}(h:w.cd=e):ic w=decide (2<=pH e):=by
 have:=IE w;rw[h] at this;by_cases q:2<=pH e
 .rw[jah q];exact this.mp q
 .rw[jai q];exact Bool.eq_false_iff.mpr λz=>q (this.mpr z)
def jn2 {a b:Str}{m:jcB}(h:m≠[]):jn (a::b::m)=cp a++32::(cp b++32::jn m):=by rw[fO,Al h]
def jn3 {a b c:Str}{m:jcB}(h:m≠[]):jn (a::b::c::m)=cp a++32::(cp b++32::(cp c++32::jn m)):=by rw[fO,jn2 h]
def a28 (x:Str)(w:Sw):cp (((("let ":Str)++x)++(" = ":Str))++w.txt)=jn (SX.lt x w).qo:=by
 show _=jn (("let":Str)::x::("=":Str)::w.w);rw[jn3 (j7 _ _),bh,bh,bh,nW,pY,k9,vJ,nE];simp
def a3a (x a:Str)(w v:Sw):cp ((((((("let ":Str)++x)++(" = ":Str))++w.txt)++(" ":Str))++a)++(" ":Str)++v.txt)=jn (SX.dv x a w v).qo:=by
 show _=jn (("let":Str)::x::("=":Str)::(w.w++a::v.w));rw[jn3 (by simp),mV (j7 _ _) (by simp),Al (j7 _ _)];simp only[bh,nW,pY,k9,vJ,nE,qL];simp
def a29 (x r:Str)(w:Sw):cp ((((((("let ":Str)++x)++(" = ":Str))++r)++(" at ":Str)))++w.txt)=jn (SX.ft x r w).qo:=by
 show _=jn (("let":Str)::x::("=":Str)::r::("at":Str)::w.w);rw[jn3 (by simp),jn2 (j7 _ _)];simp only[bh,nW,pY,k9,vJ,nE,EO,MH];simp
def a26 (r:Str)(w v:Sw):cp ((((((("put ":Str)++r)++(" at ":Str))++w.txt)++(" = ":Str)))++v.txt)=jn (SX.pt r w v).qo:=by
 show _=jn (("put":Str)::r::("at":Str)::(w.w++("=":Str)::v.w));rw[jn3 (by simp),mV (j7 _ _) (by simp),Al (j7 _ _)];simp only[bh,nW,MD,k9,Tp,nE,EO,MH];simp
def a27 (r:Str)(w:Sw):cp (((("row ":Str)++r)++(" = ":Str))++w.txt)=jn (SX.mq r w).qo:=by
 show _=jn (("row":Str)::r::("=":Str)::w.w);rw[jn3 (j7 _ _)];simp only[bh,nW,MC,k9,To,nE];simp
def a25 {w:Str}{c:CW}{a:Str}(b:cp a=cp w++[32])(ok:c.ok):cp (a++HY c)=jn (wU w c):=by
 unfold wU;rw[Al (by simpa using qU ok),bh,b,Hq ok];unfold jw;simp
def Y6 {x:SX}(ok:x.ok):∀w∈x.qo,32∉cp w/\10∉cp w:=by
 have e:∀y:Str,((cp y).contains 32||(cp y).contains 10)=false->32∉cp y/\10∉cp y:=λy h=>by
  simp only[jb4,List.contains_eq_mem,jcl] at h;exact h
 have f:∀{s:Sw},A0 s->∀w∈s.w,32∉cp w/\10∉cp w:=λh w d=>⟨(h.wd w d).no,(h.wd w d).no⟩
 have nm:∀{y:Str},isNm y=true->32∉cp y/\10∉cp y:=λh=>⟨(wD h).no,(wD h).no⟩
 intro w d;cases x with
 |lt x a=>
  unfold SX.ok at ok;rcases jae.mp d with rfl | d
  .exact e _ (by symm)
  rcases jae.mp d with rfl | d
  .exact nm ok.1
  rcases jae.mp d with rfl | d
  .exact e _ (by symm)
  exact f ok.2 w d
 |dv x j a b=>
  unfold SX.ok at ok;rcases jae.mp d with rfl | d
  .exact e _ (by symm)
  rcases jae.mp d with rfl | d
  .exact nm ok.1
  rcases jae.mp d with rfl | d
  .exact e _ (by symm)
  rcases jan.mp d with d | d
  .exact f ok.2.2.1 w d
  rcases jae.mp d with rfl | d
  .rcases ok.2.1 with rfl | rfl<;>exact e _ (by symm)
  exact f ok.2.2.2 w d
 |ft x r p=>
  unfold SX.ok at ok;rcases jae.mp d with rfl | d
  .exact e _ (by symm)
  rcases jae.mp d with rfl | d
  .exact nm ok.1
  rcases jae.mp d with rfl | d
  .exact e _ (by symm)
  rcases jae.mp d with rfl | d
  .exact nm ok.2.1
  rcases jae.mp d with rfl | d
  .exact e _ (by symm)
  exact f ok.2.2 w d
 |pt r p s=>
  unfold SX.ok at ok;rcases jae.mp d with rfl | d
  .exact e _ (by symm)
  rcases jae.mp d with rfl | d
  .exact nm ok.1
  rcases jae.mp d with rfl | d
  .exact e _ (by symm)
  rcases jan.mp d with d | d
  .exact f ok.2.1 w d
  rcases jae.mp d with rfl | d
  .exact e _ (by symm)
  exact f ok.2.2 w d
 |mq r z=>
  unfold SX.ok at ok;rcases jae.mp d with rfl | d
  .exact e _ (by symm)
  rcases jae.mp d with rfl | d
  .exact nm ok.1
  rcases jae.mp d with rfl | d
  .exact e _ (by symm)
  exact f ok.2 w d
 |cm c=>
  unfold SX.ok at ok;rcases jae.mp d with rfl | d
  .exact e _ (by symm)
  obtain⟨b,i,rfl⟩:=jap.mp d;exact QB (ok.bw b i)
 |cl l k g=>
  unfold SX.ok at ok;rcases jae.mp d with rfl | d
  .exact e _ (by symm)
  rcases jan.mp d with d | d
  .unfold UC at d;split at d
   .cases d
   .rcases jan.mp d with d | d
    .exact nm (ok.1 w d)
    .rw[jal.mp d];exact e _ (by symm)
  rcases jae.mp d with rfl | d
  .exact nm ok.2.2.1
  exact⟨(JR ok.2.2.2.2 w d).2.1,(JR ok.2.2.2.2 w d).2.2.1⟩
theorem Yp {c:Nat}(d:c≠32):∀{l:jcB},(∀x∈l,c∉cp x)->c∉jn l
 |[],_=>by intro z;cases z
 |[a],h=>h a (by simp)
 |a::b::r,h=>by
  rw[fO];intro z;rcases jan.mp z with z | z
  .exact h a (by simp) z
  .rcases jae.mp z with z | z
   .exact d z
   .exact Yp d (l:=b::r) (λx e=>h x (jaj _ e)) z
structure pe (t:Str)(ws:List Str):Prop where
 e:cp t=jn ws
 ne:ws≠[]
 no:∀w∈ws,32∉cp w/\10∉cp w
 len:t.length<=100000
def pe.sp {t:Str}{ws:jcB}(h:pe t ws):Txt.split t " "=ws:=PB h.e h.ne λw a=>(h.no w a).1
def pe.nl {t:Str}{ws:jcB}(h:pe t ws):10∉cp t:=by rw[h.e];exact Yp (by decide) λw a=>(h.no w a).2
def Z2 {x:SX}{t:Str}(ok:x.ok)(e:cp t=jn x.qo)(l:t.length<=100000):pe t x.qo:=⟨e,by obtain⟨y,a,h,_⟩:=Y7 x;rw[h];simp,Y6 ok,l⟩
end L3
namespace L3
open PySem L2 Hw
def a65 {u:nL}{E:jV}{Z:Sl}{S:aI}{d:D}{i:Nat}(h:u E (Z.set i (some d)) S):fV (sX (wj d) (d8 i)) u E Z S:=h
def ZS {u:nL}{E:jV}{Z:Sl}{S:aI}{i:Nat}(h:u E (Z.set i (some (.ob S.length))) (S++[.lst []])):fV (sX (Lp bR) (d8 i)) u E Z S:=h
def a68 {n i:Nat}{r c:Int}{Z:Sl}{S:aI}{a:KS}(h:a (Z.set i (some (.bl (xor false (decide (V.int r=V.int c)))))) S):wj (.int c) Z S (λy S2=>eq3 n false (.int r) y S2 λd S1=>d8 i d Z S1 a):=h
def rxN:jcB->Str->jcH->Option Nat
 |y::r,x,j::js=>if y=x then some j else rxN r x js
 |_,_,_=>none
noncomputable def rxL:jcH:=[0,1,2,3,4,5,6,7,8,9,10,11,12,13,14,15,16,17,18,19,20,21,22,23,24,25,26,27,28,29]
def rxV (a:Scope)(x:Str):Bool:=match a.names.lookup x with
 |some .local=>true
 |some .cell=>true
 |some .free=>true
 |_=>false
def rxO:Operator->Option vR
 |.Add=>some Xv
 |.Sub=>some Zo
 |.Mult=>some a4z
 |.FloorDiv=>some SY
 |.Mod=>some a1d
 |_=>none
def rxC:Const->Option cZ
 |.int i=>some (wj (.int i))
 |.str x=>some (wj (.str x))
 |.bool b=>some (wj (.bl b))
 |.none=>some (wj .dD)
 |_=>none
noncomputable def rxA (f:Expr->Option cZ):jcE->Option rT
 |[]=>some bR
 |e::r=>(f e).bind λt=>(rxA f r).bind λu=>bif notStar e then some (br t u) else none
noncomputable def Vr (X:Cx):Nat->Expr->Option cZ
 |0,_=>none
 |n+1,e=>match e with
  |.Name x _=>(rxN X.N x rxL).bind λi=>bif rxV X.env.scope x&&!(x==("__debug__":Str))&&!(x==("__classdict__":Str)) then some (cE i) else none
  |.Constant c _ _=>rxC c
  |.Attribute e f _=>(Vr X n e).bind λt=>some (XU t f)
  |.Subscript a b _=>(Vr X n a).bind λt=>(Vr X n b).bind λu=>some (nU W6 t u)
  |.Tuple d _ _=>(rxA (Vr X n) d).bind λt=>some (Lo t)
  |.BinOp a o b _=>(rxO o).bind λr=>(Vr X n a).bind λt=>(Vr X n b).bind λu=>some (nU r t u)
  |_=>none
def ZX {x:Str}{j:Nat}:∀{l:jcB}{js:jcH}{i:Nat},(∀k m,js[k]?=some m->m=i+k)->rxN l x js=some j->∃k,j=i+k/\l[k]?=some x:=by
 intro l
 induction l with
 |nil=>intro js i _ h;cases h
 |cons y r b=>
  intro js i a h;cases js with
  |nil=>cases h
  |cons m js=>
   have h:(if y=x then some m else rxN r x js)=some j:=h;by_cases e:y=x
   .rw[jab e] at h;cases h;exact⟨0,a 0 _ M,by rw[e];rfl⟩
   .rw[jaa e] at h;obtain⟨k,rfl,hk⟩:=b (i:=i+1) (λk n q=>by have:=a (k+1) n q;lia) h;exact⟨k+1,by lia,hk⟩
theorem ZY:∀k m,rxL[k]?=some m->m=0+k:=λk m h=>by
 rw[show rxL=List.range 30 from by decide] at h;obtain⟨_,h⟩:=jar.mp h;rw[List.getElem_range] at h;lia
def ZV {a:Scope}{x:Str}(h:rxV a x=true):Vis a x:=by
 unfold rxV at h;unfold Vis;cases q:a.names.lookup x with
 |none=>rw[q] at h;cases h
 |some k=>
  rw[q] at h;cases k with
  | «local»=>exact .inl rfl
  |cell=>exact .inr (.inl M)
  |free=>exact .inr (.inr M)
  |_=>cases h
def a5L {α:Type}{b:Bool}{x y:α}(h:(bif b then some x else none)=some y):b=true/\x=y:=by
 cases b with
 |true=>cases h;exact⟨M,M⟩
 |false=>cases h
def Uz {α β:Type}{o:Option α}{f:α->Option β}{y:β}(h:o.bind f=some y):∃a,o=some a/\f a=some y:=by
 cases o with
 |none=>cases h
 |some a=>exact⟨a,M,h⟩
section
variable {X:Cx}
def Qv {f:Expr->Option cZ}(a:∀e t,f e=some t->QE X e t):∀{es:jcE}{t:rT},rxA f es=some t->QA X es t:=by
 intro es
 induction es with
 |nil=>intro t h;cases h;exact ah
 |cons e r c=>
  intro t h;obtain⟨u,d,h⟩:=Uz h;obtain⟨v,b,h⟩:=Uz h;obtain⟨g,rfl⟩:=a5L h;exact qa (a _ _ d) (c b) g
def ZW {o:Operator}{r:vR}(h:rxO o=some r):wR X (binaryOp o) r:=by
 cases o with
 |Add=>cases h;exact aO
 |Sub=>cases h;exact Cv
 |Mult=>cases h;exact GH
 |FloorDiv=>cases h;exact vv
 |Mod=>cases h;exact GI
 |_=>cases h
def Qu:∀(n:Nat){e:Expr}{t:cZ},Vr X n e=some t->QE X e t:=by
 intro n
 induction n with
 |zero=>intro e t h;cases h
 |succ n j=>
  intro e t h;cases e with
  |Name x p=>
   obtain⟨i,d,h⟩:=Uz h;obtain⟨g,rfl⟩:=a5L h;obtain⟨k,rfl,hk⟩:=ZX ZY d;rw[jaM,jaM,jcc,jcc] at g;rw[Nat.zero_add];exact q_v k hk (ZV g.1.1) g.1.2 g.2
  |Constant c k p=>
   have h:rxC c=some t:=h;cases c with
   |int i=>cases h;exact aB
   |str i=>cases h;exact ay
   |bool i=>cases h;exact QM
   |none=>cases h;exact wm
   |_=>cases h
  |Attribute e f p=>
   obtain⟨u,d,h⟩:=Uz h;cases h;refine a35 (j d) ?_;cases e with
   |Call _ _ _ _=>cases n<;>cases d
   |_=>rfl
  |Subscript a b p=>
   obtain⟨u,d,h⟩:=Uz h;obtain⟨v,g,h⟩:=Uz h;cases h;refine iR (j d) (j g) ?_;cases b with
   |Slice _ _ _ _=>cases n<;>cases g
   |_=>intro _ _;rfl
  |Tuple m k p=>
   obtain⟨u,d,h⟩:=Uz h;cases h;exact bC (Qv (λ_ _=>j) d)
  |BinOp a o b p=>
   obtain⟨r,l,h⟩:=Uz h;obtain⟨u,d,h⟩:=Uz h;obtain⟨v,g,h⟩:=Uz h;cases h;exact aY (ZW l) (j d) (j g)
  |_=>cases h
def q_r {e:Expr}{t:cZ}(h:autoParam (Vr X 20 e=some t) zi):QE X e t:=Qu 20 h
def ai {a:jcE}{t:rT}(h:autoParam (rxA (Vr X 20) a=some t) zi):QA X a t:=Qv (λ_ _=>Qu 20) h
end
def a3c {t u:T}{f:List T->Prop}(h:f [t,u]):Fb [.t t,.t u] f:=h
def UT {t:T}{f:List T->Prop}(h:f [t]):Fb [.t t] f:=h
section
variable {te:cZ}{u:nL}{E:jV}{Z:Sl}{S:aI}{k:KD}{i:Nat}{t:T}
def Qp (h:u E (Z.set i (some (.ob S.length))) (S++[.lst []])):fV (sX (Lp bR) (d8 i)) u E Z S:=h
def a67 (h:te Z S λd S1=>Fb [d] λl=>u E (Z.set i (some (.ob S1.length))) (S1++[.lst l])):fV (sX (Lp (br te bR)) (d8 i)) u E Z S:=h
def a8t (a:Z[i]?=some (some (.t t)))(h:k (.lst [t]) S):FJ (br (cE i) bR) Z S k:=oe a h
def a8u (h:k (.lst []) S):FJ bR Z S k:=h
def FI {l:List T}{b:Bool}{a:Bool->aI->Prop}(f:Z[i]?=some (some (.lst l)))(c:xor true (decide (l=[]))=b)(hk:a b S):uU (nU (eq3 40 true) (cE i) (FJ bR)) Z S a:=by
 refine oe f ?_;have q:eq3 40 true (.lst l) (.lst []) S λd e=>BlR d e a:=yo rfl ⟨b,jac D.bl c,hk⟩;exact q
def a23 {n:Nat}{z:Int}{l:List T}(c:Z[i]?=some (some (.ob n)))(a:lq S (.ob n)=some l)(b:jY l z=some t)(h:k (.t t) S):nU W6 (cE i) (wj (.int z)) Z S k:=by
 refine oe c ?_;have q:W6 (.ob n) (.int z) S k:=Yr a b h;exact q
def a24 {l:List T}(a:Z[i]?=some (some (.lst l)))(h:k (.bl (xor false (decide (l=[])))) S):nU (eq3 40 false) (cE i) (FJ bR) Z S k:=by
 refine oe a ?_;have q:eq3 40 false (.lst l) (.lst []) S k:=yo rfl h;exact q
def UU {l:List T}(h:k (.tup l) S):Ih [.lst l] S k:=h
end
theorem RQ {x:Str}(h:isNm x=true):Uj x:=⟨⟨jQ h,h⟩,λz=>by
 unfold isNm at h;simp only[jaM,jbg] at h;have:=h.1.1.1;rw[bJ,show cp x=[] from z] at this;simp at this⟩
abbrev sp (x:Str):jcB:=Txt.split x " "
def Cg {x:Str}(h:Tw x):OP x:=by
 obtain⟨_,n,h,rfl | rfl⟩:=h
 .exact a4w h
 .exact W9 h
def VM {p:Str×Int}(a:OP p.1)(b:Wk p.2):PwQ p (p.2,eG p.1 p.2):=by
 refine⟨M,?_⟩;unfold eG;split
 .rename_i h;exact a0i a h
 .exact a0k a (by lia) (by lia)
noncomputable def pcs (s:Sm):List (Str×Int):=s.1++if s.2≠0\/s.1=[] then[(("":Str),s.2)] else[]
def a4h {s:Sm}(h:lY s):Paired PwQ (pcs s) (cY s.1 s.2):=by
 unfold pcs cY;have a:∀l:List (Str×Int),(∀p∈l,OP p.1/\Wk p.2)->∀(r:List (Str×Int)) (q:List (Int×Str)),Paired PwQ r q->Paired PwQ (l++r) ((l.map λp=>(p.2,eG p.1 p.2))++q):=by
  intro l
  induction l with
  |nil=>intro _ r q h;exact h
  |cons p l f=>intro h r q d;exact .cons (VM (h p jak).1 (h p jak).2) (f (λx e=>h x (jaj _ e)) r q d)
 refine a _ (λp b=>⟨Cg (h.th p b).1,(h.th p b).2.1⟩) _ _ ?_;by_cases c:s.2≠0\/s.1=[]
 .rw[jab c,jab c];have:=h.nk;exact .cons ⟨M,a0j ⟨.inl M,by show -999999999<=s.2;lia,by show s.2<=999999999;lia⟩⟩ .nil
 .rw[jaa c,jaa c];exact .nil
theorem a4i {s:Sm}(h:lY s):PcE (pcs s) s:=λx=>by
 have z:wt s.1 ""=0:=lZ λq=>by
  obtain⟨p,a,e⟩:=jap.mp q;exact(Cg (h.th p a).1).ne e
 unfold pcs;rw[OX];by_cases c:s.2≠0\/s.1=[]
 .rw[jab c,fM,yy];by_cases e:x=""
  .subst e;rw[jab M,z];simp
  .rw[jaa e,jaa (λq=>e q.symm)];simp
 .rw[jaa c,yy];have b:s.2=0:=Classical.byContradiction λq=>c (.inl q);by_cases e:x=""
  .subst e;rw[jab M,z,b];rfl
  .rw[jaa e];simp
def nV {s:Sm}(h:lY s):∃w:Sw,A0 w/\qd w.ws=s/\w.txt=ig s:=by
 obtain⟨q,r,e⟩:=iS s.1 s.2;have a:=a4h h;rw[e] at a;have f:(pcs s).length<=15:=by
  have:=h.len;unfold pcs;rw[jag];split
  .simp;lia
  .simp;lia
 obtain⟨d,b⟩:=a3G (N:=s.1.map (·.1)) a (a4i h) ⟨h.nm,h.len,λp a=>⟨jap.mpr ⟨p,a,M⟩,(h.th p a).2.1.1,(h.th p a).2.1.2,(h.th p a).2.2⟩,h.nk.1,h.nk.2⟩ (λx c=>by obtain⟨p,a,rfl⟩:=jap.mp c;exact Cg (h.th p a).1) f;exact⟨_,d,b,Dz (by rw[e,Wa])⟩
mutual
theorem Ti:∀{c:bT},sE c->∃w:CW,w.ok/\w.cd=c/\HY w=pZ c
 |.cmp a s b,h=>by
  unfold sE at h;obtain⟨x,d,f,e⟩:=nV h.1;obtain⟨y,j,g,i⟩:=nV h.2.1;exact⟨.cmp x s y,by unfold CW.ok;exact⟨d,j,h.2.2.2⟩,by rw[CW.cd,f,g],by rw[HY,pZ,e,i]⟩
 |.neg c,h=>by
  unfold sE at h;obtain⟨w,d,f,e⟩:=Ti h;exact⟨.neg w,by unfold CW.ok;exact d,by rw[CW.cd,f],by rw[HY,pZ,e]⟩
 |.con k m,h=>by
  unfold sE at h;obtain⟨l,d,f,e,n⟩:=Th h.1;exact⟨.con k l,by unfold CW.ok;exact⟨d,by lia,by lia⟩,by rw[CW.cd,f],by rw[HY,pZ,e]⟩
theorem Th:∀{l:List bT},AW l->∃ws:List CW,JE ws/\UD ws=l/\Ze ws=uQ l/\ws.length=l.length
 |[],_=>⟨[],by unfold JE;trivial,by rw[UD],by rw[Ze,uQ],M⟩
 |c::r,h=>by
  unfold AW at h;obtain⟨w,f,a,i⟩:=Ti h.1;obtain⟨l,e,b,g,d⟩:=Th h.2;refine⟨w::l,by unfold JE;exact⟨f,e⟩,by rw[UD,a,b],?_,by simp[d]⟩;rw[Ze,uQ,i,g,Oj a];by_cases q:2<=pH c
  .rw[jab q,jab (jah q)]
  .rw[jaa q,jaa (by simpa using q)]
end
def Y5 {w a:Str}{c:CW}(e:cp a=cp w++[32])(h:OL c)(k:32∉cp w/\10∉cp w)(l:a.length<=100):pe (a++HY c) (wU w c):=by
 refine⟨a25 e h.1,by unfold wU;simp,λx d=>?_,?_⟩
 .rcases jae.mp d with rfl | d
  .exact k
  .obtain⟨b,hb,rfl⟩:=jap.mp d;exact QB (h.bw b hb)
 .rw[aV];have:=Zb h;lia
structure YU (w w':Str):Prop where
 e:cp w'=cp w++[32]
 no:32∉cp w/\10∉cp w
 len:w'.length<=100
def gX {c:bT}(h:AV c){w d:Str}(a:YU w d):∃x:CW,OL x/\x.cd=c/\pe (pre d c) (wU w x):=by
 obtain⟨x,f,b,i⟩:=Ti h.g;have r:OL x:=⟨f,by have:=h.dep;rw[<- a2b,b];lia⟩
 exact⟨x,r,b,by unfold pre;rw[<- i];exact Y5 a.e r a.no a.len⟩
theorem yg {w d:Str}(b:YU w d):∀{hs:List (Int×bT)},(∀p∈hs,AV p.2)->∃l:List CW,(∀c∈l,OL c)/\(hs.map λp=>sp (pre d p.2))=l.map (wU w)/\(∀i,FE i l=eS i hs)/\l.length=hs.length
 |[],_=>⟨[],λ_ h=>absurd h jaB,M,λi=>by rw[FE,eS],M⟩
 |p::r,h=>by
  obtain⟨x,f,n,j⟩:=gX (h p jak) b;obtain⟨l,o,e,g,k⟩:=yg b λq m=>h q (jaj _ m);refine⟨x::l,λc a=>?_,by rw[jaf,jaf,e,sp,j.sp],λi=>by rw[FE,eS,n,g],by simp[k]⟩;rcases jae.mp a with rfl | a
  .exact f
  .exact o c a
def Y9:YU "if" "if ":=⟨by symm,by symm,by symm⟩
def Y8:YU "while" "while ":=⟨by symm,by symm,by symm⟩
def a21:YU "holds" "holds ":=⟨by symm,by symm,by symm⟩
def a20:YU "needs" "needs ":=⟨by symm,by symm,by symm⟩
def a22:YU "gives" "gives ":=⟨by symm,by symm,by symm⟩
def a6F:YU "claim" "claim ":=⟨by symm,by symm,by symm⟩
theorem Pn:∀{g:List Sm},(∀s∈g,lY s)->∃ws:List Sw,(∀w∈ws,A0 w)/\(ws.map λw=>qd w.ws)=g/\ws.map Sw.txt=g.map ig/\ws.length=g.length
 |[],_=>⟨[],λ_ h=>absurd h jaB,M,M,M⟩
 |s::r,h=>by
  obtain⟨x,d,k,f⟩:=nV (h s jak);obtain⟨l,m,b,e,i⟩:=Pn λq j=>h q (jaj _ j);refine⟨x::l,λc a=>?_,by rw[jaf,k,b],by rw[jaf,jaf,f,e],by simp[i]⟩;rcases jae.mp a with rfl | a
  .exact d
  .exact m c a
def a5C (a:jcB)(b:Str){g:List Sm}{ws:List Sw}(e:ws.map Sw.txt=g.map ig):cp (AB a b g)=jn (SX.cl a b ws).qo:=by
 have d:fh a b g=(("call":Str)::(UC a++[b]))++(if 0<g.length then[Txt.join ", " (g.map ig)] else[]):=by
  unfold fh UC;by_cases h:a=[]
  .subst h;simp
  .rw[jab (ja0.mpr h),jaa h];simp
 have f:(SX.cl a b ws).qo=(("call":Str)::(UC a++[b]))++wJ ws:=by unfold SX.qo;simp
 rw[<- Sq,pR,d,f];have c:ws.length=g.length:=by have:=jac List.length e;simpa using this
 cases ws with
 |nil=>
  have:g=[]:=jbd.mp (by rw[<- c];rfl);subst this;rfl
 |cons s r=>
  rw[jab (by rw[<- c];simp),mV (by simp) (by simp),mV (by simp) (JS (by simp)),JT,e];rfl
def leaf {s:cD}(h:dF s)(k:kd s<7):∃(x:SX)(t:Str),rws s=[t]/\pe t x.qo/\x.ok/\∀i:Nat,x.st i=lay i s:=by
 have q:=LO s h;have fin:∀(x:SX)(t:Str),rws s=[t]->cp t=jn x.qo->x.ok->(∀i:Nat,x.st i=lay i s)->∃(x:SX)(t:Str),rws s=[t]/\pe t x.qo/\x.ok/\∀i:Nat,x.st i=lay i s:=λx t A C ok E=>
  ⟨x,t,A,Z2 ok C (jay (q t (by rw[A];simp)) (by decide)),ok,E⟩
 clear q;cases s with
 |lt a x s=>
  unfold dF at h;obtain⟨w,d,l,j⟩:=nV h.2;exact fin (.lt x w) _ (by rw[rws]) (by rw[<- j];exact a28 x w) ⟨h.1.2,d⟩ λi=>by rw[SX.st,lay,l]
 |dv a x y s b=>
  unfold dF at h;obtain⟨w,d,l,j⟩:=nV h.2.2.1;obtain⟨v,m,n,o⟩:=nV h.2.2.2;exact fin (.dv x y w v) _ (by rw[rws]) (by rw[<- j,<- o];exact a3a x y w v) ⟨h.1.2,h.2.1.2,d,m⟩ λi=>by rw[SX.st,lay,l,n]
 |ft a x r p=>
  unfold dF at h;obtain⟨w,d,l,j⟩:=nV h.2.2;exact fin (.ft x r w) _ (by rw[rws]) (by rw[<- j];exact a29 x r w) ⟨h.1.2,h.2.1.2,d⟩ λi=>by rw[SX.st,lay,l]
 |pt a r p s=>
  unfold dF at h;obtain⟨w,d,l,j⟩:=nV h.2.1;obtain⟨v,m,n,o⟩:=nV h.2.2;exact fin (.pt r w v) _ (by rw[rws]) (by rw[<- j,<- o];exact a26 r w v) ⟨h.1.2,d,m⟩ λi=>by rw[SX.st,lay,l,n]
 |mq a r z=>
  unfold dF at h;obtain⟨w,d,l,j⟩:=nV h.2;exact fin (.mq r w) _ (by rw[rws]) (by rw[<- j];exact a27 r w) ⟨h.1.2,d⟩ λi=>by rw[SX.st,lay,l]
 |cm a c=>
  unfold dF at h;obtain⟨x,d,l,j⟩:=gX h a6F;exact fin (.cm x) _ (by rw[rws]) j.e d λi=>by rw[SX.st,lay,l]
 |cl a B u g=>
  unfold dF at h;obtain⟨D,d,l,j,H⟩:=Pn h.2.2.2.2;exact fin (.cl B u D) _ (by rw[rws]) (a5C B u j) ⟨λx F=>(h.2.1 x F).2,by lia,h.2.2.1.2,by lia,d⟩ λi=>by rw[SX.st,lay,l]
 |ch a c t e=>exact absurd k (by simp[kd])
 |rp a c G f b=>exact absurd k (by simp[kd])
def Mc (y:Str)(h:((cp y).contains 32||(cp y).contains 10)=false)(l:y.length<=100000):pe y [y]:=by
 simp only[jb4,List.contains_eq_mem,jcl] at h;exact⟨M,by simp,λw a=>by rw[jal.mp a];exact h,l⟩
def pW:pe "end" ["end"]:=Mc _ (by symm) (by symm)
def G9:pe "else" ["else"]:=Mc _ (by symm) (by symm)
def J1 {s:Sm}(h:lY s):∃w:Sw,A0 w/\qd w.ws=s/\pe (("falls ":Str)++ig s) (("falls":Str)::w.w):=by
 obtain⟨w,b,c,d⟩:=nV h;refine⟨w,b,c,?_,by simp,λx a=>?_,?_⟩
 .rw[<- d,bh,nW,Al (j7 _ _),show cp ("falls ":Str)=cp ("falls":Str)++[32] by symm];simp
 .rcases jae.mp a with rfl | a
  .exact(by symm:32∉cp ("falls":Str)/\10∉cp ("falls":Str))
  .exact⟨(b.wd x a).no,(b.wd x a).no⟩
 .have:=bA h;have z:("falls ":Str).length=6:=by symm
  rw[aV,z];lia
def RowW (t:Str):Prop:=∃a,pe t a
theorem rK {s:cD}(h:dF s)(k:kd s<7):∀r∈rws s,RowW r:=λr a=>by
 obtain⟨x,t,e,q,_⟩:=leaf h k;rw[e] at a;rw[jal.mp a];exact⟨_,q⟩
mutual
theorem a3P:∀(s:cD),dF s->∀r∈rws s,RowW r
 |.ch a c t e,h=>λr d=>by
  unfold dF at h;unfold rws at d;rcases jan.mp d with d | d
  .rcases jan.mp d with d | d
   .rcases jae.mp d with rfl | d
    .obtain⟨x,_,_,q⟩:=gX h.1 Y9;exact⟨_,q⟩
    .exact zz t h.2.1 r d
   .split at d
    .cases d
    .rcases jae.mp d with rfl | d
     .exact⟨_,G9⟩
     .exact zz e h.2.2.1 r d
  .rw[jal.mp d];exact⟨_,pW⟩
 |.rp a c g f b,h=>λr d=>by
  unfold dF at h;unfold rws at d;rcases jan.mp d with d | d
  .rcases jan.mp d with d | d
   .rcases jan.mp d with d | d
    .rcases jae.mp d with rfl | d
     .obtain⟨x,_,_,q⟩:=gX h.1 Y8;exact⟨_,q⟩
     .obtain⟨p,hp,rfl⟩:=jap.mp d;obtain⟨x,_,_,q⟩:=gX (h.2.2.1 p hp) a21;exact⟨_,q⟩
    .cases f with
     |none=>cases d
     |some p=>
      rw[jal.mp (show r∈[("falls ":Str)++ig p.2] from d)];obtain⟨w,_,_,q⟩:=J1 (h.2.2.2.1 p M);exact⟨_,q⟩
   .exact zz b h.2.2.2.2.1 r d
  .rw[jal.mp d];exact⟨_,pW⟩
 |.lt ..,h=>rK h (jaH M)
 |.dv ..,h=>rK h (jaH M)
 |.ft ..,h=>rK h (jaH M)
 |.pt ..,h=>rK h (jaH M)
 |.mq ..,h=>rK h (jaH M)
 |.cm ..,h=>rK h (jaH M)
 |.cl ..,h=>rK h (jaH M)
theorem zz:∀(l:List cD),gY l->∀r∈aJ l,RowW r
 |[],_=>λr a=>by unfold aJ at a;cases a
 |c::l,h=>λr a=>by
  unfold gY at h;unfold aJ at a;rcases jan.mp a with a | a
  .exact a3P c h.1 r a
  .exact zz l h.2 r a
end
def OY {l:jcB}(a:l≠[])(h:∀x∈l,32∉cp x/\10∉cp x)(b:(Txt.join " " l).length<=25000):pe (Txt.join " " l) l:=⟨pR l,a,h,by lia⟩
def O3 {x:Str}(h:Tw x):32∉cp x/\10∉cp x:=⟨(Cg h).wd.no,(Cg h).wd.no⟩
def Sz {h:gE}(g:xG h):pe (Txt.join " " ([("helper":Str),h.name]++h.params)) (("helper":Str)::h.name::h.params):=by
 refine OY (by simp) (λx a=>?_) (lN g _ (by unfold aL;simp));rcases jae.mp a with rfl | a
 .exact(by symm:32∉cp ("helper":Str)/\10∉cp ("helper":Str))
 .rcases jae.mp a with rfl | a
  .exact O3 (RI g.nm)
  .exact O3 (g.ps x a)
def Ud {h:gE}(g:xG h)(b:h.answers≠[]):pe (Txt.join " " ([("answers":Str)]++h.answers)) (("answers":Str)::h.answers):=by
 refine OY (by simp) (λx a=>?_) (lN g _ (by unfold aL;rw[jaa b];simp));rcases jae.mp a with rfl | a
 .exact(by symm:32∉cp ("answers":Str)/\10∉cp ("answers":Str))
 .exact O3 (RI (g.an x a))
theorem SA {h:gE}(g:xG h):∀r∈aL h,RowW r:=λr a=>by
 unfold aL at a;rcases jan.mp a with a | a
 .rcases jan.mp a with a | a
  .rcases jan.mp a with a | a
   .rcases jan.mp a with a | a
    .rcases jae.mp a with rfl | a
     .exact⟨_,Sz g⟩
     .split at a
      .cases a
      .rename_i ha;rw[jal.mp a];exact⟨_,Ud g ha⟩
    .obtain⟨p,hp,rfl⟩:=jap.mp a;obtain⟨x,_,_,q⟩:=gX (g.nd p hp) a20;exact⟨_,q⟩
   .obtain⟨p,hp,rfl⟩:=jap.mp a;obtain⟨x,_,_,q⟩:=gX (g.gv p hp) a22;exact⟨_,q⟩
  .exact zz _ g.st r a
 .rw[jal.mp a];exact⟨_,pW⟩
theorem MB:∀rs:jcB,cp (US rs)=(rs.map λr=>cp r++[10]).flatten:=λrs=>by
 unfold US;rw[YM,jas];congr 1;exact jbH λr _=>by show cp (r++("\n":Str))=_;rw[bh,show cp ("\n":Str)=[10] by symm]
theorem O2:∀rs:jcB,US rs=Txt.join "\n" (rs++[("":Str)]):=λrs=>dB (by
 rw[MB];cases rs with
 |nil=>symm
 |cons a r=>
  rw[jaS,nD,show cp ("\n":Str)=[10] by symm];have:∀(a:Str)(r:jcB),((a::r).map λr=>cp r++[10]).flatten=cp a++((r++[("":Str)]).map λy=>[10]++cp y).flatten:=by
   intro a r
   induction r generalizing a with
   |nil=>simp[J8]
   |cons b r c=>rw[jaf,jaG,c b];simp
  exact this a r)
def Nn {b:jcB}(h:∀r∈b,10∉cp r):Txt.split (US b) "\n"=b++[("":Str)]:=by
 rw[O2,show("\n":Str)=⟨#[10]⟩ by symm];refine qW (by simp) λx a=>?_;rcases jan.mp a with a | a
 .exact h x a
 .rw[jal.mp a];symm
section
variable (A:Ad)
inductive PR (d:Nat) (ds:List D) (S:aI) (k:KD):Prop
 |mk (n:Nat) (R:List (List Str)) (i:Nat) (s:cD) (r:List (List Str)):ds=[.ob n]->S[n]?=some (j9 A R i)->R.drop i=(rws s).map sp++r->dF s->s.dp<=d->k (.t (iG A (lay i s))) (S.set n (j9 A R (i+(rws s).length)))->PR d ds S k
inductive Lv (d:Nat) (ds:List D) (S:aI) (k:KD):Prop
 |mk (n:Nat) (R:List (List Str)) (i:Nat) (l:List cD) (y:Str) (r:List (List Str)):ds=[.ob n]->S[n]?=some (j9 A R i)->R.drop i=(aJ l).map sp++[y]::r->(y="end"\/y="else")->gY l->jX l<=d->l.length<=10->k (.lst ((dg i l).map (iG A))) (S.set n (j9 A R (i+(aJ l).length)))->Lv d ds S k
def Lw:Nat->lV
 |0=>P7
 |n+1=>Lv A n
def elR (e:List cD):List (jcB):=if e=[] then[] else[("else":Str)]::(aJ e).map sp
inductive Qc (d:Nat) (ds:List D) (S:aI) (k:KD):Prop
 |mk (n:Nat) (R:List (List Str)) (i:Nat) (a:Int) (c:bT) (t e:List cD) (r:List (List Str)):ds=[.ob n,.t (gI A c),.int i]->S[n]?=some (j9 A R (i+1))->R.drop (i+1)=(aJ t).map sp++(elR e++[("end":Str)]::r)->gY t->gY e->t.length<=10->e.length<=10->(cD.ch a c t e).dp<=d->k (.t (iG A (lay i (.ch a c t e)))) (S.set n (j9 A R (i+(rws (.ch a c t e)).length)))->Qc d ds S k
inductive PZ (d:Nat) (ds:List D) (S:aI) (k:KD):Prop
 |mk (n:Nat) (R:List (List Str)) (i:Nat) (a:Int) (c:bT) (hs:List (Int×bT)) (f:Option (Int×Sm)) (b:List cD) (r:List (List Str)):ds=[.ob n,.t (gI A c),.int i]->S[n]?=some (j9 A R (i+1))->R.drop (i+1)=(hs.map λp=>sp (pre "holds " p.2))++((EG f).map sp++((aJ b).map sp++[("end":Str)]::r))->hs.length<=10->(∀p∈hs,AV p.2)->((∀p,f=some p->lY p.2))->gY b->b.length<=10->(cD.rp a c hs f b).dp<=d->k (.t (iG A (lay i (.rp a c hs f b)))) (S.set n (j9 A R (i+(rws (.rp a c hs f b)).length)))->PZ d ds S k
inductive P5  (ds:List D) (S:aI) (k:KD):Prop
 |mk (n:Nat) (R:List (List Str)) (i:Nat) (h:gE) (y:Str) (ys:List Str) (r:List (List Str)):ds=[.ob n]->S[n]?=some (j9 A R i)->R.drop i=(HF h).map sp++(y::ys)::r->y≠"answers"->xG h->k (.lst (h.answers.map T.str)) (S.set n (j9 A R (i+E7 h)))->P5 ds S k
inductive P4  (ds:List D) (S:aI) (k:KD):Prop
 |mk (n:Nat) (R:List (List Str)) (i:Nat) (h:gE) (r:List (List Str)):ds=[.ob n]->S[n]?=some (j9 A R i)->R.drop i=(aL h).map sp++r->xG h->jX h.steps<=6->k (.t (Om A (JN i h))) (S.set n (j9 A R (i+(aL h).length)))->P4 ds S k
inductive P0  (ds:List D) (S:aI) (k:KD):Prop
 |mk (hs:List gE):ds=[.str (Gm hs)]->hs≠[]->hs.length<=3->(∀h∈hs,xG h/\jX h.steps<=6)->((hs.map aL).flatten).length<=600->k (.t (OM A (bH 0 hs))) S->P0 ds S k
end
noncomputable def hdW:jcB:=["let","put","row","claim","call","if","while"]
def ED:∀y∈hdW,y∉[("end":Str),"else"]/\y≠"needs"/\y≠"gives"/\y≠"holds"/\y≠"falls"/\y≠"answers":=by symm
def a3F (x:SX):∃y ys,x.qo=y::ys/\y∈hdW:=by cases x<;>exact⟨_,_,M,by symm⟩
section
variable {a:Int}{c:bT}{t e b:List cD}{hs:List (Int×bT)}{f:Option (Int×Sm)}{r:List (jcB)}{i:Nat}
def MP:(rws (.ch a c t e)).map sp++r=sp (pre "if " c)::((aJ t).map sp++(elR e++[("end":Str)]::r)):=by
 have b:=pW.sp;have d:=G9.sp;unfold rws elR;by_cases h:e=[]
 .rw[jab h,jab h];simp[sp,b]
 .rw[jaa h,jaa h];simp[sp,b,d]
def LM:(rws (.rp a c hs f b)).map sp++r=sp (pre "while " c)::((hs.map λp=>sp (pre "holds " p.2))++((EG f).map sp++((aJ b).map sp++[("end":Str)]::r))):=by
 have d:=pW.sp;unfold rws;simp[sp,d,Function.comp_def]
def TF:(rws (.ch a c t e)).length=1+(aJ t).length+(if e=[] then 0 else 1)+(aJ e).length+1:=by
 unfold rws;by_cases h:e=[]
 .subst h;rw[jab M,jab M,aJ];simp;lia
 .rw[jaa h,jaa h];simp;lia
def Qz:(rws (.rp a c hs f b)).length=1+hs.length+(EG f).length+(aJ b).length+1:=by unfold rws;simp;lia
def a1o (A:Ad):iG A (lay i (.ch a c t e))=.ins A.fR ["at","condition","then","other"] [.int i,gI A c,.tup ((dg (i+1) t).map (iG A)),.tup ((dg (i+1+(aJ t).length+(if e=[] then 0 else 1)) e).map (iG A))]:=by rw[lay,iG,eO,eO]
def a1n (A:Ad):iG A (lay i (.rp a c hs f b))=.ins A.fk ["at","condition","keeps","falls","body"] [.int i,gI A c,.tup ((eS (i+1) hs).map (atT A)),faT A (f.map λp=>(((i+1+hs.length:Nat):Int),p.2)),.tup ((dg (i+1+hs.length+(EG f).length) b).map (iG A))]:=by rw[lay,iG,eO]
end
def Qw {s:cD}(h:dF s):∃y ys r,(rws s).map sp=(y::ys)::r/\y∈hdW:=by
 by_cases k:kd s<7
 .obtain⟨x,t,e,q,_⟩:=leaf h k;obtain⟨y,ys,g,d⟩:=a3F x;exact⟨y,ys,[],by rw[e,jaf,sp,q.sp,g];rfl,d⟩
 .cases s with
  |ch a c t e=>
   unfold dF at h;obtain⟨x,_,_,q⟩:=gX h.1 Y9;have:=MP (a:=a) (c:=c) (t:=t) (e:=e) (r:=[]);rw[jaD,sp,q.sp] at this;exact⟨_,_,_,this,by symm⟩
  |rp a c hs f b=>
   unfold dF at h;obtain⟨x,_,_,q⟩:=gX h.1 Y8;have:=LM (a:=a) (c:=c) (hs:=hs) (f:=f) (b:=b) (r:=[]);rw[jaD,sp,q.sp] at this;exact⟨_,_,_,this,by symm⟩
  |_=>exact absurd (jaH M) k
def LL {l:List cD}(h:gY l)(y:Str)(r:List (jcB)):∃z zs r',(aJ l).map sp++[y]::r=(z::zs)::r'/\(z=y\/z∈hdW):=by
 cases l with
 |nil=>exact⟨y,[],r,by rw[aJ];rfl,.inl M⟩
 |cons s l=>
  obtain⟨z,zs,r',e,a⟩:=Qw (gJ h jak);exact⟨z,zs,_,by rw[aJ,jau,e];rfl,.inr a⟩
def Zd {b:jcB}(h:∀r∈b,r.length<=25000)(g:b.length<=600):(US b).length+2<=sizeLine:=by
 have:∀l:jcB,(∀r∈l,r.length<=25000)->((l.map λr=>cp r++[10]).flatten).length<=25001*l.length:=by
  intro l
  induction l with
  |nil=>intro _;simp
  |cons a l d=>
   intro h;have e:=h a jak;have f:=d λr c=>h r (jaj _ c);rw[bJ] at e;rw[jaf,jaG,jag,jag,jam (a:=a),jbQ,jbe];lia
 rw[bJ,MB,ja3];have:=this b h;lia
inductive yL  (ds:List D) (S:aI) (k:KD):Prop
 |mk (d:Nat):ds=[.ob d,.int 2]->Dq S d->(∀(hs:List gE) c m,hs.length<=2->0<hs.length->(∀h∈hs,XD h 3 70)->k (.ob S.length) (bN S d c m++[.lst (hs.map jW)]))->yL ds S k
inductive Dm  (ds:List D) (S:aI) (k:KD):Prop
 |mk (l:List Int):ds=[.t (.Cq (l.map T.int))]->S=[]->(∀S',k (.bl true) S')->Dm ds S k
structure PgV (hs:List gE):Prop where
 w:PgW hs
 d:∀h∈hs,xG h/\jX h.steps<=6
 n:hs≠[]
def PgV.of {hs:List gE}(l:hs.length<=3)(n:0<hs.length)(h:∀x∈hs,XD x 6 70):PgV hs:=⟨PgW.of l h,λx a=>⟨(h x a).g,(h x a).dp⟩,λz=>by rw[z] at n;cases n⟩
def U6 {S:aI}{a b c:O}(h:3<=S.length):(((S.set 0 a).set 1 b).set 2 c)[0]?=some a/\(((S.set 0 a).set 1 b).set 2 c)[1]?=some b/\(((S.set 0 a).set 1 b).set 2 c)[2]?=some c/\3<=(((S.set 0 a).set 1 b).set 2 c).length:=by
 refine⟨?_,?_,?_,by simp;lia⟩
 .rw[ja1 (by decide),ja1 (by decide),jaJ (by lia)]
 .rw[ja1 (by decide),jaJ (by simp;lia)]
 .rw[jaJ (by simp;lia)]
def sZ {n:Nat}(h:n<=1000000:=by(try simp only[aV]);lia):n<=sizeLine:=iY h
def nK {a b:Str}(h:autoParam (a≠b) jp):D.bl (xor false (decide (V.str a=V.str b)))=D.bl false:=jac D.bl (LC h)
def eK {a:Str}:D.bl (xor false (decide (V.str a=V.str a)))=D.bl true:=qT1
section
variable {G:aI->Prop}{g:vQ}{tt:nG}{te:cZ}{δ0:Sl}{k:List T->aI->Prop}{F:jcB->aI}{R R2:jcB}{n:Nat}
theorem Ex {w:Str}{l:List (Int×bT)}(q:l.length<=100)(o:R.length=n)(m:R++(l.map λp=>pre w p.2)=R2)(h:∀R,G (F R))
  (hs:∀p∈l,∀(c:jcB)(f:Option T->aI->Prop),c.length<n+l.length->f (some (M0 ((c.length:Int),p.2))) (F (c++[pre w p.2]))->elem g tt te δ0 (.t (gD p.2)) (F c) f)
  (j:k ((eS n l).map M0) (F R2)):ff G g tt te δ0 ((l.map λp=>gD p.2).map .t) (F R) [] k:=by
 subst o m;refine Tt (λp:Int×bT=>gD p.2) (λb e d=>(∃a,l=b++a)/\e=(eS R.length b).map M0/\d=F (R++b.map λp=>pre w p.2)) ⟨⟨_,M⟩,by unfold eS;rfl,by rw[jaU,jaD]⟩ ?_ ?_ ?_
 .rintro b e d ⟨⟨a,ep⟩,rfl,_⟩;have:=jac List.length ep;rw[jag] at this;rw[jad,jR];exact nq (by lia)
 .rintro b p a e d f ee ⟨_,rfl,rfl⟩ hN;have i:b.length<l.length:=by rw[ee];simp
  refine⟨h _,hs p (by rw[ee];simp) _ _ (by rw[jag,jad];lia) (hN _ _ ⟨⟨a,by rw[ee];simp⟩,?_,?_⟩)⟩
  .rw[GV,eS,eS,jau,jag,jad];rfl
  .rw[jau,jax];rfl
 .rintro e d ⟨_,rfl,rfl⟩;exact⟨h _,j⟩
theorem yk {l:List cD}(o:l.length<=100)(m:R.length=n)(j:R++aJ l=R2)(h:∀R,G (F R))
  (hs:∀s∈l,∀(c:jcB)(f:Option T->aI->Prop),c.length+(rws s).length<=n+(aJ l).length->f (some (iZ (lay c.length s))) (F (c++rws s))->elem g tt te δ0 (.t (iP s)) (F c) f)
  (i:k ((dg n l).map iZ) (F R2)):ff G g tt te δ0 ((l.map iP).map .t) (F R) [] k:=by
 subst m j;refine Tt iP (λb e d=>(∃a,l=b++a)/\e=(dg R.length b).map iZ/\d=F (R++aJ b)) ⟨⟨_,M⟩,by unfold dg;rfl,by unfold aJ;rw[jaD]⟩ ?_ ?_ ?_
 .rintro b e d ⟨⟨a,ep⟩,rfl,_⟩;have:=jac List.length ep;rw[jag] at this;rw[jad,iT];exact nq (by lia)
 .rintro b s a e d f ee ⟨_,rfl,rfl⟩ hN;have p:(aJ b).length+(rws s).length<=(aJ l).length:=by rw[ee,jM,aJ];simp only[jag];lia
  refine⟨h _,hs s (by rw[ee];simp) _ _ (by rw[jag];lia) (hN _ _ ⟨⟨a,by rw[ee];simp⟩,?_,?_⟩)⟩
  .rw[Aj,dg,dg,jau,jag];rfl
  .rw[jM,aJ,aJ,jaD,jax]
 .rintro e d ⟨_,rfl,rfl⟩;exact⟨h _,i⟩
end
def WT (n:Nat)(a:Int)(c:bT)(t e:List cD):iZ (lay n (.ch a c t e))=.tup [.str "choose",.int n,gD c,.tup ((dg (n+1) t).map iZ),.tup ((dg (n+1+(aJ t).length+(if e=[] then 0 else 1)) e).map iZ)]:=by rw[lay,iZ,gK,gK]
def WS (n:Nat)(a:Int)(c:bT)(hs:List (Int×bT))(f:Option (Int×Sm))(b:List cD):iZ (lay n (.rp a c hs f b))=.tup [.str "repeat",.int n,gD c,.tup ((eS (n+1) hs).map M0),faR (f.map λp=>(((n+1+hs.length:Nat):Int),p.2)),.tup ((dg (n+1+hs.length+(EG f).length) b).map iZ)]:=by rw[lay,iZ,gK]
inductive yO  (ds:List D) (S:aI) (k:KD):Prop
 |mk (d:D) (hs:List gE):ds=[d]->lq S d=some (hs.map jW)->hs.length<=3->(∀h∈hs,xG h/\jX h.steps<=8)->((hs.map aL).flatten).length<=600->k (.tup [.str (Gm hs),.tup ((bH 0 hs).map EB)]) S->yO ds S k
def jb {l:jcB}(h:∀x∈l,x.length<=100)(a:l.length<=20):(l.map (·.length)).sum+l.length*(Str.ofString " ").length<=16777216:=by
 have:=fZ h;rw[show(Str.ofString " ").length=1 by symm];lia
theorem a5f {x:gE}(g:xG x):∀y∈[("helper":Str),x.name]++x.params,y.length<=100:=λy a=>by
 rcases jan.mp a with a | a
 .rcases jae.mp a with rfl | a
  .symm
  .rw[jal.mp a];have:=g.nm;lia
 .have:=g.ps y a;lia
theorem a5M {x:gE}(g:xG x):∀y∈[("answers":Str)]++x.answers,y.length<=100:=λy a=>by
 rcases jan.mp a with a | a
 .rw[jal.mp a];symm
 .have:=g.an y a;lia
theorem aP {P:Program}{w:World}{K:Frag}{i:Str->jcG}{b:Heap}{x a:Str}{st:Stmt}{f:Addr}{j:FuncData}{N d:jcB}{k:Nat}{sp:lV}(l:List Stmt)(F:bW K x a st f j)(S:ak N d (af st))(e:bQ st=l)
  (m:∀(g:Value)(A:Around)(c:List Env)(s:Shared)(H:Hp)(E:XK),dP k (A.deeper (PyProof.Rows.envOfC a (af st) s.heap.objs.size f g))->
   DfR (EM yw P w K i b N a (af st) f g A c s H E).nox l N sp)
  (len:∀ds S k,sp ds S k->ds.length=d.length:=by intro ds S k h;first | (cases h;subst_vars;rfl) | (repeat (first | (obtain⟨rfl,_⟩:=h;rfl) | obtain⟨_,h⟩:=h))):gi P w K i b yw (k+1) f j d (uM K sp):=a8w F S (by rw[e];exact m) len
theorem cS {X:Cx}{a:Scope}{cl:List (Str×Addr)}(j f:jcB)(g:jcH)(e:autoParam (a.kind=.function) zi)(b:autoParam ((a.names.all λx=>x.2 !=.local||a.names.lookup x.1==some .local)=true) jp)
  (k:autoParam ((a.names.all λx=>x.2 !=.cell)=true) jp) (d:autoParam (closureFor a X.env=pure cl) kn) (c:Uy X.env cl:=by(repeat (first | exact trivial | refine⟨M,?_⟩))) (i:autoParam (((relabel a X.env).names.all λy=>!Bv (some y.2)||(cl.lookup y.1).isSome)=true) zi)
  (len:autoParam (f.length=g.length) zi) (h:autoParam (G4 X a f g=true) zi):lC X a cl j.length (j++f) g:=Ox j f g e b k d c i len h
def xw {x:Str}:[x].Nodup:=by simp
def GP {x y:Str}(h:autoParam (decide ([x,y].Nodup)=true) jp):[x,y].Nodup:=jaH h
def nd3 {x y z:Str}(h:autoParam (decide ([x,y,z].Nodup)=true) jp):[x,y,z].Nodup:=jaH h
structure Bd where
 (p:Program) (w:World) (K:Frag) (mg:Str->Option Value) (b:Heap)
section
variable (P:Bd)(k:Nat)(x m:Str)(ps:jcB)
abbrev eg (s:lV):Prop:=Dn P.p P.w P.K P.mg P.b k x ps (uM P.K s)
abbrev yv (n:Nat)(cl:Nat->Addr)(m:Str)(ps:jcB)(s:Nat->lV):Prop:=Ms P.p P.w P.K P.mg P.b k n cl m ps s
abbrev m8 (C:Addr)(x:Str)(ps:jcB)(s:lV):Prop:=M9 P.p P.w P.K P.mg P.b k C x ps s
abbrev UK (s:lV):Prop:=Cm P.p P.w P.K P.mg P.b k x m ps s
abbrev cy (f:Addr)(fd:FuncData)(ps:jcB)(s:lV):Prop:=gi P.p P.w P.K P.mg P.b yw k f fd ps (uM P.K s)
end
def GZ {c:nG}{a r:nL}{E:jV}{Z:Sl}{S:aI}(v:Bool)(e:∀k',k' v S->c Z S k')(d:v=true->∀E':jV,E'.rt=E.rt->a E' Z S)(b:v=false->r E Z S):fV (Cj c a qV) r E Z S:=a45 v e (λh=>d h _ M) b
end L3
set_option maxHeartbeats 8000000
namespace L3
open PySem L2 Hw PyProof.Rows
structure Uw (K:Frag)(C:Addr):Prop where
 pg:plainGet K C Str.empty=true
 hd:hasDictIn K C=true
 po:plainOver K C=true
 sa:findIn K (.ref C) "__setattr__"=some (some (.builtin "object.__setattr__"))
 mi:makesIn K C=true
 kc:keepIn K (.ref C)=true
 ca:findIn K (.ref C) "__class__"=some (some (.builtin "object.__class__"))
 cm:mroIn K C (.type "object")=some true
def Nfs (K:Frag)(C:Addr):jcB->Prop
 |[]=>True
 |x::r=>findIn K (.ref C) x=some none/\Nfs K C r
structure Kc (K:Frag)(mg:Str->Option Value)(x:Str)(C:Addr)(fs:List Str):Prop where
 g:mg x=some (.ref C)
 q:Uw K C
 k:AU K C []
 n:Nfs K C fs
def top (i:Nat):Stmt:=PySem.Challenge.pw_holdwright_k13_whole_read.main.body.getD i (.Pass ⟨0,0,0,0⟩)
structure Fx (K:Frag)(mg:Str->Option Value)(A:Ad):Prop where
 cu:mg "len"=none
 bg:mg "tuple"=none
 rS:mg "list"=none
 HD:mg "sorted"=none
 wN:mg "int"=none
 Ub:mg "str"=none
 ju:mg "isinstance"=none
 gp:mg "range"=none
 CU:mg "abs"=none
 CT:mg "all"=none
 TX:Kc K mg "Sum" A.j6 ["terms","number"]
 p6:Kc K mg "Compare" A.dN ["one","sign","other"]
 HB:Kc K mg "Turned" A.fj ["condition"]
 vN:Kc K mg "Several" A.bZ []
 MW:Kc K mg "Every" A.iA ["conditions"]
 TY:Kc K mg "Some" A.lT ["conditions"]
 MV:Kc K mg "Let" A.um ["at","name","total"]
 lR:Kc K mg "Divide" A.fq ["at","name","word","total","by"]
 uh:Kc K mg "Fetch" A.i8 ["at","name","row","place"]
 HC:Kc K mg "Put" A.xF ["at","row","place","total"]
 E3:Kc K mg "Make" A.nF ["at","row","size"]
 E4:Kc K mg "Claim" A.i9 ["at","condition"]
 AI:Kc K mg "Call" A.lU ["at","names","helper","given"]
 o7:Kc K mg "Choose" A.fR ["at","condition","then","other"]
 lQ:Kc K mg "Repeat" A.fk ["at","condition","keeps","falls","body"]
 iW:Kc K mg "Helper" A.fQ ["at","name","params","answers","needs","gives","steps"]
 vO:Kc K mg "Program" A.cO ["helpers"]
 E2:Kc K mg "Rows" A.jU ["rows","at"]
 o6:Kc K mg "Tokens" A.dR ["tokens","place","at"]
 jS:∃t,mg "MOST_LETTERS"=some (.int 8 t)
 jT:∃t,mg "MOST_FIGURES"=some (.int 9 t)
 rM:∃t,mg "GREATEST"=some (.int 999999999 t)
 kS:∀j,j<4->kitOne K (.ref (ET A j)) (.ref A.bZ)=some (decide (2<=j))
 kP:kitOne K (.ref A.cO) (.ref A.cO)=some true
 gl:∀(x:Str)(a:Addr),nsIn K mainGlobals x=some (some (.ref a))->mg x=some (.ref a)
abbrev F5 (P:Bd)(A:Ad):Prop:=Fx P.K P.mg A
section
variable (P:Bd)(k:Nat)(A:Ad)(n:Nat)(q:Bool)
abbrev fH:=eg P k "is_name" ["word"] U9
abbrev xO:=eg P k "are_figures" ["word"] IA
abbrev aG:=eg P k "refuse_unless" ["truth","at"] U7
abbrev uA:=eg P k "is_thing" ["word"] Zy
abbrev uB:=eg P k "is_figure_row" ["word"] IB
abbrev KP:=eg P k "sum_of" ["pairs","number"] (Dj A)
abbrev vV:=eg P k "signed_terms" ["words","at"] PU
abbrev HQ:=eg P k "term_of" ["term","at"] Zx
abbrev di:=eg P k "sum_of_words" ["words","at"] (Co A)
abbrev XE:=m8 P k A.j6 "Sum" ["self","terms","number"] (Iu A)
abbrev uC:=eg P k "as_pairs" ["pairs"] (Dr A)
abbrev AJ:=yv P k 11 (clX A) "told" ["self"] (pG A n)
abbrev gF:=yv P k 1 (λ_=>A.j6) "told" ["self"] (λ_=>xV A)
abbrev nc:=yv P k 4 (ET A) "told" ["self"] (gP A n)
abbrev iM:=eg P k "told_each" ["parts"] (xW A n)
abbrev pA:=eg P k "told_pairs" ["pairs"] (Dg A)
abbrev vW:=eg P k "sign_between" ["number"] Qe
abbrev AL:=eg P k "sign_ahead" ["number"] Qf
abbrev BK:=eg P k "term_text" ["thing","weight"] Di
abbrev fG:=yv P k 1 (λ_=>A.j6) "text" ["self"] (λ_=>Dh A)
abbrev rV:=yv P k 4 (ET A) "text" ["self"] (gQ A n)
abbrev nH:=eg P k "text_within" ["condition"] (yI A n)
abbrev kr:=eg P k "rows_of_steps" ["steps"] (xX A n)
abbrev ku:=eg P k "rows_of_pairs" ["word","pairs"] (Dl A)
abbrev AK:=yv P k 9 (clS A) "as_rows" ["self"] (gj A n)
abbrev KG:=yv P k 1 (λ_=>A.fQ) "as_rows" ["self"] (λ_=>yR A)
abbrev vU:=eg P k "text_of_rows" ["rows"] PC
abbrev qj:=eg P k "rows_of_program" ["program"] (yK A)
abbrev qQ:=eg P k "_law_mixed" ["_law_cell","_law_k"] P8
abbrev iC:=eg P k "_law_sum_text" ["_law_one"] Ds
abbrev rZ:=eg P k "_law_laid_block" ["_law_step_here","_law_rows"] (tu n)
abbrev jg:=eg P k "_law_put_row" ["_law_rows","_law_text_here"] xY
abbrev ng:=eg P k "_law_text" ["_law_told"] (mj 3)
abbrev uy:=eg P k "_law_laid_step" ["_law_step_here","_law_rows"] (yN n)
abbrev Fj:=eg P k "_law_kept" [] P9
abbrev c5:=eg P k "_law_next" ["_law_draw","_law_size"] ZE
abbrev pB:=eg P k "_law_sum" ["_law_draw","_law_things"] Iz
abbrev Fg:=eg P k "_law_step" ["_law_draw","_law_own","_law_deep","_law_helpers"] (Du n)
abbrev BR:=eg P k "_law_plain" ["_law_helpers"] yM
abbrev Fo:=eg P k "_law_call" ["_law_draw","_law_own","_law_helper_here"] Dv
abbrev kC:=eg P k "_law_condition" ["_law_draw","_law_things","_law_deep"] (tE 1)
abbrev BQ:=eg P k "_law_steps" ["_law_draw","_law_own","_law_many","_law_deep","_law_helpers"] (Cp n)
abbrev AM:=eg P k "_law_helper" ["_law_draw","_law_name","_law_names_here","_law_many","_law_helpers"] u5
abbrev qP:=eg P k "_law_names" ["_law_draw","_law_many"] Iv
abbrev gZ:=yv P k 1 (λ_=>A.dR) "coming" ["self"] (λ_=>PN A)
abbrev rW:=yv P k 1 (λ_=>A.dR) "take" ["self"] (λ_=>PK A)
abbrev BJ:=eg P k "tokens_of" ["words","at"] PD
abbrev HN:=m8 P k A.dN "Compare" ["self","one","sign","other"] (Dw A.dN ["one","sign","other"])
abbrev vS:=yv P k 1 (λ_=>A.dR) "take_until" ["self","ends"] (λ_=>PF A P.K)
abbrev je:=yv P k 1 (λ_=>A.dR) "take_just" ["self","token"] (λ_=>PL A)
abbrev rX:=eg P k "read_condition" ["source"] (U8 A n)
abbrev qk:=eg P k "read_comparison" ["source"] (Zz A)
abbrev rY:=eg P k "read_bracketed" ["source"] (XZ A n)
abbrev KH:=m8 P k A.fj "Turned" ["self","condition"] (Dw A.fj ["condition"])
abbrev OG:=m8 P k A.iA "Every" ["self","conditions"] (Dk A.iA)
abbrev Ul:=m8 P k A.lT "Some" ["self","conditions"] (Dk A.lT)
abbrev BN:=eg P k "read_part" ["source"] (ZC A n)
abbrev KI:=m8 P k A.dR "Tokens" ["self","words","at"] (PM A)
abbrev iB:=yv P k 1 (λ_=>A.jU) "take" ["self"] (λ_=>PV A)
abbrev g7:=yv P k 1 (λ_=>A.jU) "coming" ["self"] (λ_=>PY A)
abbrev lW:=eg P k "condition_of" ["words","at"] (ZF A)
abbrev Uo:=m8 P k A.nF "Make" ["self","at","row","size"] (Dw A.nF ["at","row","size"])
abbrev XF:=m8 P k A.xF "Put" ["self","at","row","place","total"] (Dw A.xF ["at","row","place","total"])
abbrev XG:=m8 P k A.um "Let" ["self","at","name","total"] (Dw A.um ["at","name","total"])
abbrev OF:=m8 P k A.i8 "Fetch" ["self","at","name","row","place"] (Dw A.i8 ["at","name","row","place"])
abbrev KN:=m8 P k A.fq "Divide" ["self","at","name","word","total","by"] (Dw A.fq ["at","name","word","total","by"])
abbrev Up:=m8 P k A.lU "Call" ["self","at","names","helper","given"] (LB A)
abbrev Fp:=eg P k "given_of" ["words","at"] (LA A)
abbrev BP:=eg P k "read_call" ["words","at"] (Dp A a41)
abbrev xH:=eg P k "read_repeat" ["source","condition","at"] (PZ A n)
abbrev xK:=eg P k "read_choose" ["source","condition","at"] (Qc A n)
abbrev OH:=m8 P k A.i9 "Claim" ["self","at","condition"] (Dw A.i9 ["at","condition"])
abbrev BO:=eg P k "read_make" ["words","at"] (Dp A a40)
abbrev Fe:=eg P k "read_put" ["words","at"] (Dp A Ys)
abbrev Ff:=eg P k "read_let" ["words","at"] (Dp A isLet)
abbrev BL:=eg P k "read_step" ["source"] (PR A n)
abbrev KO:=m8 P k A.fR "Choose" ["self","at","condition","then","other"] (Qd A)
abbrev jf:=yv P k 1 (λ_=>A.jU) "take_just" ["self","word"] (λ_=>Lx A)
abbrev KJ:=m8 P k A.fk "Repeat" ["self","at","condition","keeps","falls","body"] (Ly A)
abbrev kB:=eg P k "read_writings" ["source","word"] (ZA A)
abbrev KL:=m8 P k A.fQ "Helper" ["self","at","name","params","answers","needs","gives","steps"] (Qa A)
abbrev vX:=eg P k "read_answers" ["source"] (P5 A)
abbrev HM:=m8 P k A.cO "Program" ["self","helpers"] (P6 A)
abbrev xJ:=eg P k "read_helper" ["source"] (P4 A)
abbrev Um:=m8 P k A.jU "Rows" ["self","rows"] (PX A)
abbrev Uq:=eg P k "read" ["text"] (P0 A)
abbrev KC:=yv P k 1 (λ_=>A.cO) "told" ["self"] (λ_=>yJ A)
abbrev HP:=eg P k "written" ["program"] (uZ A)
abbrev xN:=eg P k "_law_cell_at" ["_law_script","_law_k"] IC
abbrev Fi:=eg P k "_law_laid" ["_law_helpers"] yO
abbrev BS:=eg P k "_law_chain" ["_law_draw"] yP
abbrev xM:=eg P k "_law_program" ["_law_draw","_law_many"] yL
abbrev uz:=eg P k "_law_all_right" ["_law_script"] Dm
end
section
variable (P:Bd){k:Nat}{f:Addr}{fd:FuncData}{A:Ad}{n:Nat}
seal L2.PE L2.PS L2.Fc L2.PA L2.PT QE QT QA QS OQ QW JP
abbrev zk:Stmt:=top 52
def Nr:ak ["truth","at"] ["truth","at"] (af zk):=cB
def NR (J:F5 P A)(F:bW P.K "refuse_unless" "refuse_unless" zk f fd):cy P (k+1) f fd ["truth","at"] U7:=by
 refine aP [_] F Nr rfl λi B b s H E j=>?_;refine⟨_,(aS (aX (D5 (vn q_r)) VD aK)),?_⟩;rintro d S c g e ⟨a,rfl,h⟩;refine⟨_,M,?_⟩;show(endsF S c).nx _ _;exact dw h
abbrev Jf:Stmt:=top 51
def Vp:ak ["word"] ["word"] (af Jf):=cB
def WB (J:F5 P A)(F:bW P.K "are_figures" "are_figures" Jf f fd):cy P (k+1) f fd ["word"] IA:=by
 refine aP [_] F Vp rfl λm B a s H E n=>?_;refine⟨_,(aS (ao (aH (CM M) (by rfl) J.CT boot_all (qa (bE (cS ["sign"] [] []) rfl (X8 q_r) (λ_ _ _ _=>(qx (i:=0) xw)) (λ_ _ _ _=>aR) (λ_ _ _ _=>(LS L6 L6 ay q_r ay))) ah)))),?_⟩;rintro g S d b l ⟨z,rfl,e,h⟩;refine⟨z,M,MI (λc=>T.bl (xC c)) trivial (cH (by lia)) (λc _ j hk=>?_) ?_⟩
 .refine(chS ?_);rw[le_0,a7H];exact⟨_,M,hk⟩
 .refine⟨(cp z).map xC,?_,cK b ?_⟩
  .rw[jas];rfl
  .show d (D.bl ((List.map xC (cp z)).all _root_.id)) S;rw[M1];exact h
abbrev Je:Stmt:=top 48
def Vo:ak ["word"] ["word"] (af Je):=cB
def WA (J:F5 P A){d:Addr}(g:P.mg "KEPT_WORDS"=some (.ref d))(l:∀H:Hp,nO P.K H d ((["helper","answers","needs","gives","end","let","div","mod","put","row","at","if","else","while","holds","falls","call","claim","and","or","not"]:jcB).map V.str))(F:bW P.K "is_name" "is_name" Je f fd):cy P (k+1) f fd ["word"] U9:=by
 obtain⟨r,n⟩:=J.jS;refine aP [_,_] F Vo rfl λw B a s H E x=>?_;refine⟨_,(qs (aX (qw (tN (D5 (Gg RG RG aB (aH ck (by rfl) J.cu jaw ai) (vo (jq (v:=.int 8) rfl n ⟨_,M⟩)))) (mR (aA (a4r l) q_r (vo (jq (v:=.ref d) rfl g M)) (by rfl))))) (aS (ao QM)) aK) (aS (ao (aH (CM M) (by rfl) J.CT boot_all (qa (bE (cS ["sign"] [] []) rfl (X8 q_r) (λ_ _ _ _=>(qx (i:=0) xw)) (λ_ _ _ _=>aR) (λ_ _ _ _=>(LS L6 L6 ay q_r ay))) ah))))),?_⟩;rintro p S j b u ⟨z,rfl,o,h⟩;refine⟨cH (by lia),chI ⟨_,M,?_⟩⟩
 try dsimp only
 by_cases e:1<=z.length/\z.length<=8
 .rw[jaa (by simp;lia)];refine⟨z,M,M,_,M,?_⟩;show if(xor false (decide (z∈qI)))=true then _ else _
  rw[jaT];by_cases m:z∈qI
  .rw[jab (jah m)];refine cK b ?_;have q:isNm z=false:=by unfold isNm;rw[jah m];simp
   rw[q] at h;exact h
  .rw[jaa (by simp[m])];refine⟨z,M,MI (λc=>T.bl (qc c)) trivial (cH (by lia)) (λc _ t hk=>?_) ?_⟩
   .refine(chS ?_);rw[a7G,a7F];exact⟨_,M,hk⟩
   .refine⟨(cp z).map qc,?_,cK b ?_⟩
    .rw[jas];rfl
    .show j (D.bl ((List.map qc (cp z)).all _root_.id)) S;rw[M1];have q:isNm z=(cp z).all qc:=by unfold isNm;rw[jah e.1,jah e.2,jai m];rfl
     rw[q] at h;exact h
 .rw[jab (by simp;lia)];refine cK b ?_;have q:isNm z=false:=by
   unfold isNm;have:(decide (1<=z.length)&&decide (z.length<=8))=false:=by simp;lia
   rw[this];rfl
  rw[q] at h;exact h
abbrev Jd:Stmt:=top 49
def Vn:ak ["word"] ["word"] (af Jd):=cB
def Wz (J:F5 P A)(g:fH P k)(F:bW P.K "is_thing" "is_thing" Jd f fd):cy P (k+1) f fd ["word"] Zy:=by
 refine aP [_] F Vn rfl λo B b s H E j=>?_;refine⟨_,(aS (ao (a33 (aa g j rfl ai) (oK (kg (Yb q_r ai) (oK (aa g j rfl (qa (dX false q_r (aQ aB) bx) ah)))))))),?_⟩;rintro l S m c n ⟨z,rfl,d,h⟩;refine⟨z,M,d,_,M,?_⟩;by_cases e:isNm z=true
 .rw[jab e];refine cK c ?_;have q:lK z=true:=by unfold lK;rw[e];rfl
  rw[q] at h;exact h
 .rw[jaa e];have i:isNm z=false:=Bool.eq_false_iff.mpr e;refine⟨M,_,M,?_⟩;by_cases a:Txt.startswith z "#"=true
  .rw[jab a];refine⟨cH (by lia),_,M,?_,cK c ?_⟩
   .exact jay (PyProof.Txt.length_slice_le _ _ _) d
   .have q:lK z=isNm (Txt.slice z (some 1) none):=by unfold lK;rw[i,a];rfl
    rw[q] at h;exact h
  .rw[jaa a];refine cK c ?_;have q:lK z=false:=by unfold lK;rw[i,Bool.eq_false_iff.mpr a];rfl
   rw[q] at h;exact h
abbrev Jg:Stmt:=top 50
def Vq:ak ["word"] ["word"] (af Jg):=cB
def WC (J:F5 P A)(p:xO P k)(F:bW P.K "is_figure_row" "is_figure_row" Jg f fd):cy P (k+1) f fd ["word"] IB:=by
 obtain⟨w,t⟩:=J.jT;refine aP [_,_] F Vq rfl λC B d s H E l=>?_;refine⟨_,(qs (aX (qw (tN (D5 (Gg RG RG aB (aH ck (by rfl) J.cu jaw ai) (vo (jq (v:=.int 9) rfl t ⟨_,M⟩)))) (mR (qw (jN (aA (cA 40 (uE l)) q_r ay (au _)) (iJ (aA (j4 40 (uE l)) q_r ay (au _)))))))) (aS (ao QM)) aK) (aS (ao (aa p l rfl ai)))),?_⟩;rintro u S x b y ⟨z,rfl,o,h⟩;refine⟨cH (by lia),chI ⟨_,M,?_⟩⟩
 try dsimp only
 by_cases e:1<=z.length/\z.length<=9
 .rw[jaa (by simp;lia)];obtain⟨c,r,a⟩:∃c r,cp z=c::r:=by
   cases q:cp z with
   |nil=>rw[bJ,q] at e;simp at e
   |cons c r=>exact⟨c,r,M⟩
  refine⟨cH (by lia),c,?_,?_⟩
  .show jY (cp z) 0=some c;rw[a];exact bK (xs:=c::r) (j:=0) rfl
  have g:decide ((cp z).head?=some 48)=decide (c=48):=by rw[a];simp
  refine⟨_,M,?_⟩
  try dsimp only
  have n:xB z=(!(decide (c=48)&&decide (z≠"0"))&&J0 z):=by unfold xB;rw[jah e.1,jah e.2,g];rfl
  by_cases i:c=48
  .subst i;rw[jab (by symm)];refine⟨_,M,?_⟩
   try dsimp only
   by_cases z0:z="0"
   .rw[jaa (by rw[z0];symm)];refine⟨z,M,o,cK b ?_⟩;have q:xB z=J0 z:=by rw[n,z0];rfl
    rw[q] at h;exact h
   .have ne:¬(V.str z=V.str "0"):=λm=>z0 (V.str.inj m);rw[jab (by rw[jai ne];rfl)];refine cK b ?_;have q:xB z=false:=by rw[n];simp[z0]
    rw[q] at h;exact h
  .have ne:¬(V.str ⟨#[c]⟩=V.str "0"):=λm=>i (by have:=jac Str.cps (V.str.inj m);injection this with this;injection this);rw[jaa (by rw[jai ne];decide)];refine⟨z,M,o,cK b ?_⟩;have q:xB z=J0 z:=by rw[n,jai i];rfl
   rw[q] at h;exact h
 .rw[jab (by simp;lia)];refine cK b ?_;have q:xB z=false:=by
   unfold xB;have:(decide (1<=z.length)&&decide (z.length<=9))=false:=by simp;lia
   rw[this];rfl
  rw[q] at h;exact h
abbrev IT:Stmt:=top 68
def x6:ak ["term","at","figures","star","thing"] ["term","at"] (af IT):=cB
def Wl (J:F5 P A)(r:aG P k)(p:uA P k)(q:uB P k)(F:bW P.K "term_of" "term_of" IT f fd):cy P (k+1) f fd ["term","at"] Zx:=by
 refine aP [_,_,_,_] F x6 rfl λC B d s H E c=>?_;refine⟨_,(qs (aX (vn (aa p c rfl ai)) (aS (ao q_r)) aK) (qs (rB (a0b q_r ai) (jP (n:=3) rfl (rC (qg (i:=2) x6.nd) (rC (qg (i:=3) x6.nd) (rC (qg (i:=4) x6.nd) gW))))) (qs (bM (aa r c rfl (qa (kg (aa q c rfl ai) (oK (a33 (cV (cA 40 (uE c)) q_r ay (au _)) (oK (aa p c rfl ai))))) ai))) (aS (ao (bC (qa q_r (qa (aD a2m (by rfl) J.wN boot_int ai) ah)))))))),?_⟩;rintro v S y l z ⟨x,t,u,a,rfl,o,D,h⟩;refine⟨x,M,by lia,_,M,?_⟩;cases o with
 |nm b=>
  rw[jab b];exact(cK l h)
 |num b j g m=>
  rw[jaa (by rw[b];decide)];refine⟨M,M,cH (by lia),?_⟩;rw[Jt g];refine⟨_,M,M,_,_,M,_,_,M,_,_,M,M,?_⟩;refine⟨x,M,by lia,_,M,?_⟩;rw[jab j];refine⟨_,M,?_⟩;rw[jab (show(false ^^ decide (V.str Str.empty=V.str (Str.ofString "")))=true by symm)];refine⟨a,M,?_⟩;exact⟨_,m,(by show x.length<=640;lia),cK l h⟩
 |mul e b j g o m=>
  rename_i f;rw[jaa (by rw[b];decide)];have w:=jv e;refine⟨M,M,cH (by lia),?_⟩;rw[e,NI g];refine⟨_,M,M,_,_,M,_,_,M,_,_,M,M,?_⟩;refine⟨f,M,by lia,_,M,?_⟩;rw[jab j];refine⟨_,M,?_⟩;rw[jaa (show ¬(false ^^ decide (V.str (Str.ofString "*")=V.str (Str.ofString "")))=true by symm)];refine⟨t,M,by lia,a,?_,?_⟩
  .rw[o]
  exact⟨_,m,(by show f.length<=640;lia),cK l h⟩
abbrev Qn:Stmt:=top 67
def DF:ak ["words","at","first","found","place"] ["words","at"] (af Qn):=cB
def a0Y (J:F5 P A)(o:aG P k)(F:bW P.K "signed_terms" "signed_terms" Qn f fd):cy P (k+1) f fd ["words","at"] PU:=by
 refine aP [_,_,_,_,_] F DF rfl λX B e s H E m=>?_;refine⟨_,(qs (bM (aa o m rfl (qa (cV (cA 40 (uE m)) (aY GI (aH ck (by rfl) J.cu jaw ai) aB) aB (au _)) ai))) (qs (aj (i:=2) DF.nd q_r) (qs (aj (i:=3) DF.nd (dH (qa (Jl (vn (Yb q_r ai)) (bC (qa ay (qa (dX false q_r (aQ aB) bx) ah))) q_r) ah))) (qs (eY jaO rfl (Z9 rfl J.gp (qa aB (qa (aH ck (by rfl) J.cu jaw ai) ai))) (qg (i:=4) DF.nd) (qs (bM (aa o m rfl (qa (cV Bt q_r q_r (by rfl)) ai))) (aS (bM (dJ q_r ai))))) (aS (ao q_r)))))),?_⟩;rintro Y S kk L R ⟨p,r,a,rfl,Q,G,z,h⟩;have d:((ie p r).map T.str).length=2*r.length+1:=by rw[jad,uX]
 have u:jY ((ie p r).map T.str) 0=some (T.str (tX p)):=bK (j:=0) (by rfl);have t:∀{i:Nat}{q:Bool×Str},r[i]?=some q->jY ((ie p r).map T.str) (1+(i:Int)*2)=some (T.str (jj q.1))/\jY ((ie p r).map T.str) (1+(i:Int)*2+1)=some (T.str q.2):=λ{i q} b=>by
  obtain⟨C,I⟩:=Zn (p:=p) b;have c:=bK (xs:=(ie p r).map T.str) (j:=1+i*2) (v:=T.str (jj q.1)) (by rw[jaF,C];rfl);have n:=bK (xs:=(ie p r).map T.str) (j:=1+i*2+1) (v:=T.str q.2) (by rw[jaF,I];rfl);exact⟨by simpa using c,by simpa using n⟩
 generalize (ie p r).map T.str=W at d u t R;refine⟨by decide,a,?_,?_⟩
 .have:V.int (((W.length:Nat):Int) % 2)=V.int 1:=by rw[d];congr 1;lia
  show[D.bl (xor false (decide (V.int (((W.length:Nat):Int) % 2)=V.int 1))),a]=[D.bl true,a];rw[jah this];rfl
 refine oe u ?_
 try dsimp only[d8]
 refine a67 (Vd (p:=p) rfl G z ?_)
 try dsimp only[d8]
 refine⟨1,(W.length:Int),M,by rw[d];lia,?_⟩;have U:(((W.length:Int) - 1+1) / 2).toNat=r.length:=by rw[d];lia
 rw[U];refine pU (λi Z g=>∃y,Z=[some (D.lst W),some a,some (D.str (tX p)),some (D.ob (S.length+0)),y]/\g=S++[O.lst ((p::r.take i).map Nm)]) ⟨_,M,M⟩ ?_ ?_
 .rintro i x Z g N hx ⟨y,rfl,rfl⟩ hN;rw[jaF] at hx;have w:i<r.length:=by
   rcases Nat.lt_or_ge i r.length with l | l
   .exact l
   .rw[jb2 (by simpa using l)] at hx;cases hx
  rw[jbx w] at hx;cases hx;have b:=jaK w;obtain⟨c,n⟩:=t b;refine⟨trivial,oe c ⟨_,_,_,M,M,M,M,a,?_,?_⟩⟩
  .rw[ZL];rfl
  refine⟨⟨M,_,oW M⟩,oe c (oe n ⟨_,aZ,nq (by simp;lia),?_⟩)⟩;rw[cM];refine hN _ _ ⟨_,M,?_⟩;show S++[O.lst ((p::r.take i).map Nm++[Nm r[i]])]=_;rw[List.take_add_one,b,<- jaS,jau];rfl
 .rintro Z g ⟨y,rfl,rfl⟩;rw[jad,jbt,List.take_length];exact⟨trivial,Xk L rfl h⟩
abbrev Qm:Stmt:=top 66
def u7:ak ["words","at","weights","sign","term","thing","weight"] ["words","at"] (af Qm):=cB
def a0X (J:F5 P A)(TU:KP P k A)(aq:aG P k)(AE:vV P k)(OC:HQ P k)(F:bW P.K "sum_of_words" "sum_of_words" Qm f fd):cy P (k+1) f fd ["words","at"] (Co A):=by
 obtain⟨Zf,rM⟩:=J.rM;refine aP [_,_,_,_] F u7 rfl λAT B Q s H E g=>?_;refine⟨_,(qs (aj (i:=2) u7.nd a7n) (qs (eY jaO rfl (qi (aa AE g rfl ai)) (jP (n:=2) rfl (rC (qg (i:=3) u7.nd) (rC (qg (i:=4) u7.nd) gW))) (qs (rB (aa OC g rfl ai) (jP (n:=2) rfl (rC (qg (i:=5) u7.nd) (rC (qg (i:=6) u7.nd) gW)))) (aS (D6 (qK g) q_r q_r (aY aO (LR (qK g) q_r q_r aB ⟨M,M,M,M⟩) (Jl (aA (cA 40 (uE g)) q_r ay (au _)) q_r (zB q_r))))))) (qs (bM (aa aq g rfl (qa (aH (CM M) (by rfl) J.CT boot_all (qa (bE (cS ["weight"] [] []) rfl (a3Z q_r) (λ_ _ _ _=>(qx (i:=0) xw)) (λ_ _ _ _=>aR) (λ_ _ _ _=>(cV RG (aH CN (by rfl) J.CU boot_abs ai) (vo (jq (v:=.int 999999999) rfl rM ⟨_,M⟩)) (au _)))) ah)) ai))) (aS (ao (aa TU g rfl (qa (bE (cS ["thing"] ["weights"] [2]) rfl (a30 q_r) (λ_ _ _ _=>(qx (i:=0) GP)) (λ_ _ _ _=>(pM (aA (j4 40 (uE g)) q_r ay (au _)))) (λ_ _ _ _=>(bC (qa q_r (qa (LQ (qK g) q_r q_r) ah))))) (qa (LQ (qK g) q_r ay) ah)))))))),?_⟩;rintro ds S kk hc hd ⟨p,r,ws,a,rfl,Y,hp,hs,I,hb,h⟩;have X:AN [(("":Str),(0:Int))] [((Sum.inr ("":Str):Key),T.int 0)]:=AN.nil.snoc "" 0 rfl;have hlw:ws.length=r.length+1:=by have:=jaZ I;simpa using this.symm
 refine⟨p,r,a,M,Y,hp,hs,ia (nB Nm (λpre Z U=>∃x1 W R x4 l b,Z=[some (D.lst ((ie p r).map T.str)),some a,some (D.ob S.length),x1,W,R,x4]/\U=S++[O.rN l]/\AN (z0 b) l/\Paired Pc pre b/\b=ws.take pre.length) ⟨_,_,_,_,_,[],M,M,X,.nil,M⟩ ?_ ?_)⟩
 .rintro pre ⟨n,x⟩ post Z U N e ⟨x1,W,R,x4,l,b,rfl,rfl,hz,hp1,hp2⟩ hN;rw[e] at I;obtain⟨wa,⟨t,v⟩,wc,rfl,w1,⟨UB,q,tm,C⟩,w3⟩:=wz I;have w:pre.length=wa.length:=jaZ w1;have e1:b=wa:=by rw[hp2,w,jbX]
  subst e1;have L:l.length<sizeLine:=nq (by have:=hz.len;simp[z0] at this hlw;lia);refine⟨trivial,_,M,M,_,_,M,_,_,M,M,?_⟩;refine⟨x,t,q,a,M,tm,UB,?_⟩;refine⟨_,M,M,_,_,M,_,_,M,M,?_⟩;have hsn:∀i:Int,i=wt (z0 b) t+v->AN (z0 (b++[(t,v)])) (dput l (Sum.inr t) (.int i)):=λi hi=>hz.snoc t v hi;have tk:b++[(t,v)]=(b++(t,v)::wc).take (pre++[(n,x)]).length:=by rw[jag,w,show b++(t,v)::wc=(b++[(t,v)])++wc by simp,List.take_left' (by simp)]
  have fin:∀(i:Int)(y1 y2 y3 y4:Option D),i=wt (z0 b) t+v->N [some (D.lst ((ie p r).map T.str)),some a,some (D.ob S.length),y1,y2,y3,y4] (S++[O.rN (dput l (Sum.inr t) (.int i))]):=λi y1 y2 y3 y4 hi=>
   hN _ _ ⟨_,_,_,_,_,_,M,M,hsn i hi,rE hp1 (.cons ⟨UB,q,tm,C⟩ .nil),tk⟩
  refine⟨_,_,M,av,_,_,av,M,_,M,?_⟩
  try dsimp only
  rw[hz.val t];by_cases o:t∈(z0 b).map (·.1)
  .rw[jab o];cases n with
   |false=>
    have d:v=q:=C;rw[jab X0];refine⟨_,_,_,_,M,av,M,M,L,?_⟩;rw[bO];exact fin _ _ _ _ _ (by rw[d])
   |true=>
    have d:v=-q:=C;rw[jaa X3];refine⟨_,_,_,_,M,av,M,M,L,?_⟩;rw[bO];exact fin _ _ _ _ _ (by rw[d])
  .rw[jaa o];cases n with
   |false=>
    have d:v=q:=C;rw[jab X0];refine⟨_,_,_,_,M,av,M,M,L,?_⟩;rw[bO];exact fin _ _ _ _ _ (by rw[d,lZ o])
   |true=>
    have d:v=-q:=C;rw[jaa X3];refine⟨_,_,_,_,M,av,M,M,L,?_⟩;rw[bO];exact fin _ _ _ _ _ (by rw[d,lZ o])
 .rintro Z U ⟨x1,W,R,x4,l,b,rfl,rfl,hz,hp1,hp2⟩;have e1:b=ws:=by rw[hp2,jaZ I,List.take_length]
  subst e1;obtain⟨c,nd,mem,rfl⟩:=a5s hz;have hsl:c.length<=30:=by have:=hz.len;simp[z0] at this;lia
  refine⟨trivial,S.length,_,M,.inl av,λob m=>?_⟩;rw[bO,jas];have hG:(S++[O.Au ob m (c.map λx=>((Sum.inr x:Key),T.int (wt (z0 b) x)))])[S.length]?=some (O.Au ob m (c.map λx=>((Sum.inr x:Key),T.int (wt (z0 b) x)))):=av;have c1:c.map ((λp:Key×T=>D.t p.2) ∘ λx=>((Sum.inr x:Key),T.int (wt (z0 b) x)))=(c.map λx=>T.int (wt (z0 b) x)).map D.t:=by rw[jas];rfl
  rw[c1];refine cG (λx=>T.int (wt (z0 b) x)) (λx=>T.bl (decide (jc (wt (z0 b) x)<=999999999))) hG (cH (by lia)) (λx _ k' hk=>?_) ?_
  .exact⟨_,M,hk⟩
  refine⟨c.map λx=>decide (jc (wt (z0 b) x)<=999999999),?_,a,?_,?_⟩
  .rw[jas];rfl
  .have:(c.map λx=>decide (jc (wt (z0 b) x)<=999999999)).all _root_.id=true:=by
    rw[jbP,ja8];intro x _;obtain⟨b1,b2⟩:=hb x;exact jah (by unfold jc;split<;>lia)
   show[D.bl ((c.map λx=>decide (jc (wt (z0 b) x)<=999999999)).all _root_.id),a]=_;rw[this]
  refine⟨S.length,_,M,.inr ⟨ob,m,av⟩,λj G=>?_⟩;rw[bO,jas];have u:(S++[O.Au j G (c.map λx=>((Sum.inr x:Key),T.int (wt (z0 b) x)))])[S.length]?=some (O.Au j G (c.map λx=>((Sum.inr x:Key),T.int (wt (z0 b) x)))):=av;have c2:c.map ((λp:Key×T=>D.t (R9 p.1)) ∘ λx=>((Sum.inr x:Key),T.int (wt (z0 b) x)))=(c.map T.str).map D.t:=by rw[jas];rfl
  rw[c2];refine rQ T.str (λx=>if x=("":Str) then none else some (pT (x,wt (z0 b) x))) u (cH (by lia)) (λx o k' hk=>?_) ?_
  .refine⟨_,M,?_⟩;by_cases e:x=("":Str)
   .rw[jab e] at hk;rw[jaa (by rw[jah (by rw[e])];decide)];exact hk
   .rw[jaa e] at hk;rw[jab (by rw[jai (λz=>e (V.str.inj z))];rfl)];exact⟨S.length,_,_,_,M,.inr ⟨j,G,av⟩,M,As _ o,_,M,hk⟩
  have m0:("":Str)∈c:=(mem _).mpr (jak ..);have fm:c.filterMap (λx=>if x=("":Str) then none else some (pT (x,wt (z0 b) x)))=((c.filter λx=>decide (x≠("":Str))).map λx=>(x,wt (z0 b) x)).map pT:=by
   clear nd mem hsl hG u c1 c2 m0 hz hd
   induction c with
   |nil=>rfl
   |cons y s ih=>
    by_cases e:y=("":Str)
    .rw[List.filterMap_cons_none (by rw[jab e]),jck (by simp[e]),ih]
    .rw[jcg (by rw[jaa e]),jcj (by simp[e]),ih];rfl
  rw[fm];refine⟨S.length,_,_,_,M,.inr ⟨j,G,av⟩,M,As _ m0,_,_,_,M,M,?_,vL hc (by rw[ZH nd mem];exact h)⟩;have:=List.length_filter_le (λx=>decide (x≠("":Str))) c;rw[jad];lia
abbrev Qq:Stmt:=top 65
def ZR:ak ["words","at"] ["words","at"] (af Qq):=cB
def a01 (J:F5 P A)(t:di P k A)(F:bW P.K "given_of" "given_of" Qq f fd):cy P (k+1) f fd ["words","at"] (LA A):=by
 refine aP [_,_] F ZR rfl λv B b s H E d=>?_;refine⟨_,(qs (aX (aA (cA 40 (uE d)) (aH ck (by rfl) J.cu jaw ai) aB (au _)) (aS (ao (bD ah))) aK) (aS (ao (bE (cS ["given"] ["at"] [1]) rfl (qi (yf false (dO ay ai) ai)) (λ_ _ _ _=>(qx (i:=0) GP)) (λ_ _ _ _=>aR) (λ_ _ _ _=>(aa t d rfl (qa (yf false q_r ai) ai))))))),?_⟩;rintro x S y g C ⟨W,l,a,rfl,q,m,h⟩;refine⟨_,M,?_⟩
 try dsimp only
 rcases q with⟨rfl,rfl⟩ | ⟨n,o,ok,e⟩
 .rw[jab (by symm)];exact(cK g h)
 .have ne:¬(V.int ((W.map T.str).length:Nat)=V.int 0):=λz=>n (by injection z with z;rw[jad] at z;exact List.eq_nil_of_length_eq_zero (by lia));rw[jaa (by rw[jai ne];decide)];have j:(W.map (·.length)).sum+W.length*(" ":Str).length<=100000:=by rw[show(" ":Str).length=1 by symm,Nat.mul_one];exact m.2
  have D:=oZ " " W;refine⟨M,W,M,by lia,M,M,?_,?_⟩
  .rw[ja3];lia
  rw[e,Ot o ok];refine JG (ia ?_);rw[jas (f:=Sw.txt)];refine cG (T.str ∘ Sw.txt) (λs=>nI A (qd s.ws)) trivial (cH (by lia)) (λs c u hk=>?_) ?_
  .have k1:=ok s c;have w:s.txt.length<=200000:=Io c (by rw[<- e];lia);refine⟨M,M,by rw[ja3];lia,JG ⟨s.p,s.r,s.ws,a,?_,k1.len,k1.fst,k1.pl,k1.pc,k1.bd,_,M,hk⟩⟩;rw[Po k1]
  exact cK g h
abbrev q9:Stmt:=inClass (top 5) 0
def F7:ak ["self","terms","number"] ["self","terms","number"] (af q9):=cB
def Gz (J:F5 P A)(F:bW P.K "__init__" "Sum.__init__" q9 f fd):cy P (k+1) f fd ["self","terms","number"] (Iu A):=by
 refine aP [_,_] F F7 rfl λt B a s H E u=>?_;refine⟨_,(qs (aW q_r (aD bf (by rfl) J.bg jaz (qa (bE (cS ["pair"] [] []) rfl (qi q_r) (λ_ _ _ _=>(qx (i:=0) xw)) (λ_ _ _ _=>aR) (λ_ _ _ _=>(aD bf (by rfl) J.bg jaz ai))) ah)) M) (aS (aW q_r q_r M))),?_⟩;rintro h S o j r ⟨i,d,l,m,rfl,b,e,p,c⟩;refine(Su e λG g=>cG pT pT (by simpa using g []) (cH (by lia)) (λx _ q hk=>⟨_,M,hk⟩) ?_);refine⟨i,A.j6,[],[],M,b,J.TX.n.1,by decide,i,_,_,_,M,jaJ (jar.mp b).1,J.TX.n.2.1,by decide,?_⟩;rw[jao];exact .inr (.inr (.inr c))
abbrev zj:Stmt:=top 6
def pI:ak ["pairs","number","weights","thing","weight"] ["pairs","number"] (af zj):=cB
def NQ (J:F5 P A)(h:XE P k A)(F:bW P.K "sum_of" "sum_of" zj f fd):cy P (k+1) f fd ["pairs","number"] (Dj A):=by
 refine aP [_,_,_] F pI rfl λQ B g s H E b=>?_;refine⟨_,(qs (aj (i:=2) pI.nd QL) (qs (eY jaO rfl (qi q_r) (jP (n:=2) rfl (rC (qg (i:=3) pI.nd) (rC (qg (i:=4) pI.nd) gW))) (aS (D6 (qK b) q_r q_r (aY aO (LR (qK b) q_r q_r aB ⟨M,M,M,M⟩) q_r)))) (aS (ao (qe h b rfl (qa (bE (cS ["thing"] ["weights"] [2]) rfl (qi (aH (MT M) (by rfl) J.HD boot_sorted ai)) (λ_ _ _ _=>(qx (i:=0) GP)) (λ_ _ _ _=>(pM (aA (j4 40 (uE b)) (Jm (qK b) q_r q_r) aB (au _)))) (λ_ _ _ _=>(bC (qa q_r (qa (Jm (qK b) q_r q_r) ah))))) ai)))))),?_⟩;rintro R S V C W ⟨d,l,m,rfl,u,t,I⟩;refine(Ss u λG r=>nB pT (λpre Z j=>∃x y a,Z=[some d,some (.int m),some (.ob S.length),x,y]/\j=S++[O.rN a]/\AN pre a) ⟨_,_,_,M,M,.nil⟩ ?_ ?_)
 .rintro pre ⟨x,v⟩ post Z j N rfl ⟨x0,y0,a,rfl,rfl,hz⟩ hN;refine⟨r _,_,M,M,_,_,M,_,_,M,M,?_⟩;have p:a.length<sizeLine:=nq (by have:=hz.len;simp at t;lia);refine⟨_,_,M,av,_,_,av,M,?_⟩;rw[hz.val x];by_cases c:x∈pre.map (·.1)
  .rw[jab c];refine⟨_,_,_,_,M,av,M,M,p,?_⟩;rw[bO];exact hN _ _ ⟨_,_,_,M,M,hz.snoc x v M⟩
  .rw[jaa c];refine⟨_,_,_,_,M,av,M,M,p,?_⟩;rw[bO];exact hN _ _ ⟨_,_,_,M,M,hz.snoc x v (by rw[lZ c])⟩
 .rintro Z j ⟨x0,y0,a,rfl,rfl,hz⟩;refine⟨r _,?_⟩;obtain⟨U,w,z,D⟩:=hz.keys;refine⟨_,_,av,w,z,by have:=hz.len;lia,?_⟩;rw[Ip D];have o:=s8 (l.map (·.1));rw[jad] at o;refine ia (rQ T.str (λx=>if wt l x≠0 then some (pT (x,wt l x)) else none) trivial (cH (by lia)) ?_ ?_)
  .intro x c k' hk;have q:i7 a (Sum.inr x)=some (.int (wt l x)):=by rw[hz.val x,jab (gM.mp c)]
   refine⟨_,_,_,_,M,av,M,q,_,M,?_⟩;rw[gC,jbo];by_cases e:wt l x=0
   .rw[jah e];rw[jaa (by simpa using e)] at hk;exact hk
   .rw[jai e];rw[jab e] at hk;exact⟨_,_,_,_,M,av,M,q,_,M,hk⟩
  .rw[WI];have L:=RN l;exact⟨_,_,norm l,m,M,av,M,by lia,made (vL C I)⟩
abbrev qZ:Stmt:=inClass (top 5) 7
def F6:ak ["self"] ["self"] (af qZ):=cB
def wB (J:F5 P A)(F:bW P.K "told" "Sum.told" qZ f fd):cy P (k+1) f fd ["self"] (xV A):=by
 refine aP [_] F F6 rfl λh B b s H E i=>?_;refine⟨_,(aS (ao q_r)),?_⟩;rintro e S j c g ⟨a,rfl,d⟩;exact(cK c d)
abbrev gU:Stmt:=inClass (top 12) 0
def w6:ak ["self","one","sign","other"] ["self","one","sign","other"] (af gU):=cB
def xu (J:F5 P A)(F:bW P.K "__init__" "Compare.__init__" gU f fd):cy P (k+1) f fd ["self","one","sign","other"] (Dw A.dN ["one","sign","other"]):=by
 refine EK F w6 (λo S p h=>by obtain⟨i,l,rfl,d,c,j⟩:=h;simpa using d) λt B b s H E u=>?_;rw[show bQ gU=[_,_,_] from rfl];refine⟨_,(qs (aW q_r q_r M) (qs (aW q_r q_r M) (aS (aW q_r q_r M)))),?_⟩;rintro o S p q r ⟨i,l,rfl,d,c,j⟩;obtain⟨e,g,m,rfl⟩:∃e g m,l=[e,g,m]:=ln3 d;have a:=(jar.mp c).1;refine⟨_,_,_,_,M,c,J.p6.n.1,by decide,_,_,_,_,M,(jaJ (by first | exact a | (simp only[jaP];exact a))),J.p6.n.2.1,by decide,_,_,_,_,M,(jaJ (by first | exact a | (simp only[jaP];exact a))),J.p6.n.2.2.1,by decide,?_⟩;rw[jao];rw[jao];exact .inr (.inr (.inr j))
abbrev iH:Stmt:=inClass (top 13) 0
def yY:ak ["self","condition"] ["self","condition"] (af iH):=cB
def zL (J:F5 P A)(F:bW P.K "__init__" "Turned.__init__" iH f fd):cy P (k+1) f fd ["self","condition"] (Dw A.fj ["condition"]):=by
 refine EK F yY (λg S j h=>by obtain⟨i,l,rfl,c,b,e⟩:=h;simpa using c) λq B a s H E r=>?_;rw[show bQ iH=[_] from rfl];refine⟨_,(aS (aW q_r q_r M)),?_⟩;rintro g S j o p ⟨i,l,rfl,c,b,e⟩;obtain⟨d,rfl⟩:∃d,l=[d]:=ln1 c;have m:=(jar.mp b).1;refine⟨_,_,_,_,M,b,J.HB.n.1,by decide,?_⟩;exact .inr (.inr (.inr e))
abbrev mG:Stmt:=inClass (top 21) 0
def Ge:ak ["self","at","name","total"] ["self","at","name","total"] (af mG):=cB
def GG (J:F5 P A)(p:UK P k "Step" "__init__" ["self","at"] (nu P.K))(F:bW P.K "__init__" "Let.__init__" mG f fd):cy P (k+1) f fd ["self","at","name","total"] (Dw A.um ["at","name","total"]):=by
 refine EK F Ge (λo S q h=>by obtain⟨i,l,rfl,d,c,j⟩:=h;simpa using d) λv B b s H E r=>?_;rw[show bQ mG=[_,_,_] from rfl];refine⟨_,(qs (bM (mT p r rfl ai)) (qs (aW q_r q_r M) (aS (aW q_r q_r M)))),?_⟩;rintro o S q t u ⟨i,l,rfl,d,c,j⟩;obtain⟨e,g,m,rfl⟩:∃e g m,l=[e,g,m]:=ln3 d;have a:=(jar.mp c).1;refine⟨_,_,_,M,c,J.MV.n.1,_,_,_,_,M,(jaJ (by first | exact a | (simp only[jaP];exact a))),J.MV.n.2.1,by decide,_,_,_,_,M,(jaJ (by first | exact a | (simp only[jaP];exact a))),J.MV.n.2.2.1,by decide,?_⟩;rw[jao];rw[jao];exact .inr (.inr (.inr j))
abbrev iI:Stmt:=inClass (top 22) 0
def zf:ak ["self","at","name","word","total","by"] ["self","at","name","word","total","by"] (af iI):=cB
def zU (J:F5 P A)(r:UK P k "Step" "__init__" ["self","at"] (nu P.K))(F:bW P.K "__init__" "Divide.__init__" iI f fd):cy P (k+1) f fd ["self","at","name","word","total","by"] (Dw A.fq ["at","name","word","total","by"]):=by
 refine EK F zf (λq S t h=>by obtain⟨i,l,rfl,d,c,o⟩:=h;simpa using d) λx B b s H E u=>?_;rw[show bQ iI=[_,_,_,_,_] from rfl];refine⟨_,(qs (bM (mT r u rfl ai)) (qs (aW q_r q_r M) (qs (aW q_r q_r M) (qs (aW q_r q_r M) (aS (aW q_r q_r M)))))),?_⟩;rintro q S t v w ⟨i,l,rfl,d,c,o⟩;obtain⟨j,m,p,e,g,rfl⟩:∃j m p e g,l=[j,m,p,e,g]:=ln5 d;have a:=(jar.mp c).1;refine⟨_,_,_,M,c,J.lR.n.1,_,_,_,_,M,(jaJ (by first | exact a | (simp only[jaP];exact a))),J.lR.n.2.1,by decide,_,_,_,_,M,(jaJ (by first | exact a | (simp only[jaP];exact a))),J.lR.n.2.2.1,by decide,_,_,_,_,M,(jaJ (by first | exact a | (simp only[jaP];exact a))),J.lR.n.2.2.2.1,by decide,_,_,_,_,M,(jaJ (by first | exact a | (simp only[jaP];exact a))),J.lR.n.2.2.2.2.1,by decide,?_⟩;rw[jao];rw[jao];rw[jao];rw[jao];exact .inr (.inr (.inr o))
abbrev jl:Stmt:=inClass (top 23) 0
def A8:ak ["self","at","name","row","place"] ["self","at","name","row","place"] (af jl):=cB
def Bm (J:F5 P A)(q:UK P k "Step" "__init__" ["self","at"] (nu P.K))(F:bW P.K "__init__" "Fetch.__init__" jl f fd):cy P (k+1) f fd ["self","at","name","row","place"] (Dw A.i8 ["at","name","row","place"]):=by
 refine EK F A8 (λp S r h=>by obtain⟨i,l,rfl,d,c,m⟩:=h;simpa using d) λw B b s H E t=>?_;rw[show bQ jl=[_,_,_,_] from rfl];refine⟨_,(qs (bM (mT q t rfl ai)) (qs (aW q_r q_r M) (qs (aW q_r q_r M) (aS (aW q_r q_r M))))),?_⟩;rintro p S r u v ⟨i,l,rfl,d,c,m⟩;obtain⟨g,j,o,e,rfl⟩:∃g j o e,l=[g,j,o,e]:=ln4 d;have a:=(jar.mp c).1;refine⟨_,_,_,M,c,J.uh.n.1,_,_,_,_,M,(jaJ (by first | exact a | (simp only[jaP];exact a))),J.uh.n.2.1,by decide,_,_,_,_,M,(jaJ (by first | exact a | (simp only[jaP];exact a))),J.uh.n.2.2.1,by decide,_,_,_,_,M,(jaJ (by first | exact a | (simp only[jaP];exact a))),J.uh.n.2.2.2.1,by decide,?_⟩;rw[jao];rw[jao];rw[jao];exact .inr (.inr (.inr m))
abbrev mF:Stmt:=inClass (top 24) 0
def Ga:ak ["self","at","row","place","total"] ["self","at","row","place","total"] (af mF):=cB
def GC (J:F5 P A)(q:UK P k "Step" "__init__" ["self","at"] (nu P.K))(F:bW P.K "__init__" "Put.__init__" mF f fd):cy P (k+1) f fd ["self","at","row","place","total"] (Dw A.xF ["at","row","place","total"]):=by
 refine EK F Ga (λp S r h=>by obtain⟨i,l,rfl,d,c,m⟩:=h;simpa using d) λw B b s H E t=>?_;rw[show bQ mF=[_,_,_,_] from rfl];refine⟨_,(qs (bM (mT q t rfl ai)) (qs (aW q_r q_r M) (qs (aW q_r q_r M) (aS (aW q_r q_r M))))),?_⟩;rintro p S r u v ⟨i,l,rfl,d,c,m⟩;obtain⟨g,j,o,e,rfl⟩:∃g j o e,l=[g,j,o,e]:=ln4 d;have a:=(jar.mp c).1;refine⟨_,_,_,M,c,J.HC.n.1,_,_,_,_,M,(jaJ (by first | exact a | (simp only[jaP];exact a))),J.HC.n.2.1,by decide,_,_,_,_,M,(jaJ (by first | exact a | (simp only[jaP];exact a))),J.HC.n.2.2.1,by decide,_,_,_,_,M,(jaJ (by first | exact a | (simp only[jaP];exact a))),J.HC.n.2.2.2.1,by decide,?_⟩;rw[jao];rw[jao];rw[jao];exact .inr (.inr (.inr m))
abbrev j8:Stmt:=inClass (top 25) 0
def DO:ak ["self","at","row","size"] ["self","at","row","size"] (af j8):=cB
def El (J:F5 P A)(p:UK P k "Step" "__init__" ["self","at"] (nu P.K))(F:bW P.K "__init__" "Make.__init__" j8 f fd):cy P (k+1) f fd ["self","at","row","size"] (Dw A.nF ["at","row","size"]):=by
 refine EK F DO (λo S q h=>by obtain⟨i,l,rfl,d,c,j⟩:=h;simpa using d) λv B b s H E r=>?_;rw[show bQ j8=[_,_,_] from rfl];refine⟨_,(qs (bM (mT p r rfl ai)) (qs (aW q_r q_r M) (aS (aW q_r q_r M)))),?_⟩;rintro o S q t u ⟨i,l,rfl,d,c,j⟩;obtain⟨e,g,m,rfl⟩:∃e g m,l=[e,g,m]:=ln3 d;have a:=(jar.mp c).1;refine⟨_,_,_,M,c,J.E3.n.1,_,_,_,_,M,(jaJ (by first | exact a | (simp only[jaP];exact a))),J.E3.n.2.1,by decide,_,_,_,_,M,(jaJ (by first | exact a | (simp only[jaP];exact a))),J.E3.n.2.2.1,by decide,?_⟩;rw[jao];rw[jao];exact .inr (.inr (.inr j))
abbrev jm:Stmt:=inClass (top 26) 0
def Be:ak ["self","at","condition"] ["self","at","condition"] (af jm):=cB
def Bs (J:F5 P A)(o:UK P k "Step" "__init__" ["self","at"] (nu P.K))(F:bW P.K "__init__" "Claim.__init__" jm f fd):cy P (k+1) f fd ["self","at","condition"] (Dw A.i9 ["at","condition"]):=by
 refine EK F Be (λm S p h=>by obtain⟨i,l,rfl,c,b,j⟩:=h;simpa using c) λu B a s H E q=>?_;rw[show bQ jm=[_,_] from rfl];refine⟨_,(qs (bM (mT o q rfl ai)) (aS (aW q_r q_r M))),?_⟩;rintro m S p r t ⟨i,l,rfl,c,b,j⟩;obtain⟨e,g,rfl⟩:∃e g,l=[e,g]:=ln2 c;have d:=(jar.mp b).1;refine⟨_,_,_,M,b,J.E4.n.1,_,_,_,_,M,(jaJ (by first | exact d | (simp only[jaP];exact d))),J.E4.n.2.1,by decide,?_⟩;rw[jao];exact .inr (.inr (.inr j))
abbrev om:Stmt:=inClass (top 20) 0
def DJ:ak ["self","at"] ["self","at"] (af om):=cB
def Eg (J:F5 P A)(F:bW P.K "__init__" "Step.__init__" om f fd):cy P (k+1) f fd ["self","at"] (nu P.K):=by
 refine aP [_] F DJ rfl λl B a s H E m=>?_;refine⟨_,(aS (aW q_r q_r M)),?_⟩;rintro e S h g j ⟨i,x,C,rfl,b,d,c⟩;refine⟨_,_,_,_,M,b,d,by decide,.inr (.inr (.inr c))⟩
abbrev gT:Stmt:=inClass (top 14) 0
def wY:ak ["self","conditions"] ["self","conditions"] (af gT):=cB
def nv {C:Addr}(g:lB P.K C "conditions")(J:F5 P A)(F:bW P.K "__init__" "Several.__init__" gT f fd):cy P (k+1) f fd ["self","conditions"] (Dk C):=by
 refine aP [_] F wY rfl λo B a s H E p=>?_;refine⟨_,(aS (aW q_r (aD bf (by rfl) J.bg jaz ai) M)),?_⟩;rintro h S m j n ⟨i,d,l,rfl,b,e,c⟩;refine(oe (qm e) ⟨_,_,_,_,M,b,g,by decide,.inr (.inr (.inr c))⟩)
abbrev oF:Stmt:=inClass (top 29) 0
def DQ:ak ["self","at","names","helper","given"] ["self","at","names","helper","given"] (af oF):=cB
def Eo (J:F5 P A)(h:UK P k "Step" "__init__" ["self","at"] (nu P.K))(F:bW P.K "__init__" "Call.__init__" oF f fd):cy P (k+1) f fd ["self","at","names","helper","given"] (LB A):=by
 refine aP [_,_,_,_] F DQ rfl λu B d s H E l=>?_;refine⟨_,(qs (bM (mT h l rfl ai)) (qs (aW q_r (aD bf (by rfl) J.bg jaz ai) M) (qs (aW q_r q_r M) (aS (aW q_r (aD bf (by rfl) J.bg jaz ai) M))))),?_⟩;rintro m S p o t ⟨i,a,d1,r,v,q,g,rfl,b,e,j,hk⟩;have c:=(jar.mp b).1;refine⟨_,_,_,M,b,J.AI.n.1,oe (qm (jy b e)) ⟨_,_,_,_,M,eZ c,J.AI.n.2.1,by decide,?_⟩⟩;rw[jao];refine⟨_,_,_,_,M,eZ c,J.AI.n.2.2.1,by decide,?_⟩;rw[jao];refine(oe (qm (jy b j)) ⟨_,_,_,_,M,eZ c,J.AI.n.2.2.2.1,by decide,?_⟩);rw[jao];exact .inr (.inr (.inr hk))
abbrev kY:Stmt:=inClass (top 27) 0
def zh:ak ["self","at","condition","then","other"] ["self","at","condition","then","other"] (af kY):=cB
def zX (J:F5 P A)(j:UK P k "Step" "__init__" ["self","at"] (nu P.K))(F:bW P.K "__init__" "Choose.__init__" kY f fd):cy P (k+1) f fd ["self","at","condition","then","other"] (Qd A):=by
 refine aP [_,_,_,_] F zh rfl λv B g s H E m=>?_;refine⟨_,(qs (bM (mT j m rfl ai)) (qs (aW q_r q_r M) (qs (aW q_r (aD bf (by rfl) J.bg jaz ai) M) (aS (aW q_r (aD bf (by rfl) J.bg jaz ai) M))))),?_⟩;rintro o S q p u ⟨i,a,c,d1,r,t,e,rfl,b,h,l,hk⟩;have d:=(jar.mp b).1;refine⟨_,_,_,M,b,J.o7.n.1,_,_,_,_,M,eZ d,J.o7.n.2.1,by decide,?_⟩;rw[jao];refine(oe (qm (jy b h)) ⟨_,_,_,_,M,eZ d,J.o7.n.2.2.1,by decide,?_⟩);rw[jao];refine(oe (qm (jy b l)) ⟨_,_,_,_,M,eZ d,J.o7.n.2.2.2.1,by decide,?_⟩);rw[jao];exact .inr (.inr (.inr hk))
abbrev kN:Stmt:=inClass (top 28) 0
def yZ:ak ["self","at","condition","keeps","falls","body"] ["self","at","condition","keeps","falls","body"] (af kN):=cB
def zO (J:F5 P A)(q:uC P k A)(o:UK P k "Step" "__init__" ["self","at"] (nu P.K))(F:bW P.K "__init__" "Repeat.__init__" kN f fd):cy P (k+1) f fd ["self","at","condition","keeps","falls","body"] (Ly A):=by
 refine aP [_,_,_,_,_] F yZ rfl λx B g s H E h=>?_;refine⟨_,(qs (bM (mT o h rfl ai)) (qs (aW q_r q_r M) (qs (aW q_r (aa q h rfl ai) M) (qs (aW q_r q_r M) (aS (aW q_r (aD bf (by rfl) J.bg jaz ai) M)))))),?_⟩;rintro r S u t w ⟨i,a,c,f,d1,v,j,b,rfl,e,m,l,p,hk⟩;have d:=(jar.mp e).1;refine⟨_,_,_,M,e,J.lQ.n.1,_,_,_,_,M,eZ d,J.lQ.n.2.1,by decide,?_⟩;rw[jao];refine⟨_,j,M,jy e m,l,_,_,_,_,M,eZ d,J.lQ.n.2.2.1,by decide,?_⟩;rw[jao];refine⟨_,_,_,_,M,eZ d,J.lQ.n.2.2.2.1,by decide,?_⟩;rw[jao];refine(oe (qm (jy e p)) ⟨_,_,_,_,M,eZ d,J.lQ.n.2.2.2.2.1,by decide,?_⟩);rw[jao];exact .inr (.inr (.inr hk))
abbrev kR:Stmt:=inClass (top 36) 0
def zb:ak ["self","at","name","params","answers","needs","gives","steps"] ["self","at","name","params","answers","needs","gives","steps"] (af kR):=cB
def zR (J:F5 P A)(d:uC P k A)(F:bW P.K "__init__" "Helper.__init__" kR f fd):cy P (k+1) f fd ["self","at","name","params","answers","needs","gives","steps"] (Qa A):=by
 refine aP [_,_,_,_,_,_,_] F zb rfl λx B c s H E e=>?_;refine⟨_,(qs (aW q_r q_r M) (qs (aW q_r q_r M) (qs (aW q_r (aD bf (by rfl) J.bg jaz ai) M) (qs (aW q_r (aD bf (by rfl) J.bg jaz ai) M) (qs (aW q_r (aa d e rfl ai) M) (qs (aW q_r (aa d e rfl ai) M) (aS (aW q_r (aD bf (by rfl) J.bg jaz ai) M)))))))),?_⟩;rintro r S u t w ⟨i,d1,v,z,d4,y,h,rfl,a,g,l,q,p,m,o,j,hk⟩;have b:=(jar.mp a).1;refine⟨_,_,_,_,M,a,J.iW.n.1,by decide,_,_,_,_,M,eZ b,J.iW.n.2.1,by decide,?_⟩;rw[jao];refine(oe (qm (jy a g)) ⟨_,_,_,_,M,eZ b,J.iW.n.2.2.1,by decide,?_⟩);rw[jao];refine(oe (qm (jy a l)) ⟨_,_,_,_,M,eZ b,J.iW.n.2.2.2.1,by decide,?_⟩);rw[jao];refine⟨_,_,M,jy a q,o,_,_,_,_,M,eZ b,J.iW.n.2.2.2.2.1,by decide,?_⟩;rw[jao];refine⟨_,_,M,jy a p,j,_,_,_,_,M,eZ b,J.iW.n.2.2.2.2.2.1,by decide,?_⟩;rw[jao];refine(oe (qm (jy a m)) ⟨_,_,_,_,M,eZ b,J.iW.n.2.2.2.2.2.2.1,by decide,?_⟩);rw[jao];exact .inr (.inr (.inr hk))
abbrev jJ:Stmt:=inClass (top 37) 0
def w4:ak ["self","helpers"] ["self","helpers"] (af jJ):=cB
def xm (J:F5 P A)(F:bW P.K "__init__" "Program.__init__" jJ f fd):cy P (k+1) f fd ["self","helpers"] (P6 A):=by
 refine aP [_] F w4 rfl λm B a s H E o=>?_;refine⟨_,(aS (aW q_r (aD bf (by rfl) J.bg jaz ai) M)),?_⟩;rintro g S j h l ⟨i,d,e,rfl,c,b,hk⟩;exact(oe (qm b) ⟨_,_,_,_,M,c,J.vO.n.1,by decide,.inr (.inr (.inr hk))⟩)
abbrev qY:Stmt:=top 30
def F4:ak ["pairs"] ["pairs"] (af qY):=cB
def Gx (J:F5 P A)(F:bW P.K "as_pairs" "as_pairs" qY f fd):cy P (k+1) f fd ["pairs"] (Dr A):=by
 refine aP [_] F F4 rfl λo B a s H E p=>?_;refine⟨_,(aS (ao (aD bf (by rfl) J.bg jaz (qa (bE (cS ["pair"] [] []) rfl (qi q_r) (λ_ _ _ _=>(qx (i:=0) xw)) (λ_ _ _ _=>aR) (λ_ _ _ _=>(aD bf (by rfl) J.bg jaz ai))) ah)))),?_⟩;rintro g S j b n ⟨d,l,rfl,c,q,h⟩;exact(Su c λG e=>cG (atT A) (atT A) (by simpa using e []) (cH (by lia)) (λx _ m hk=>⟨_,M,hk⟩) (cK b h))
abbrev mC:Stmt:=top 32
def A4:ak ["pairs"] ["pairs"] (af mC):=cB
def Bf (J:F5 P A)(c:yv P k 4 (ET A) "told" ["self"] (gP A 3))(F:bW P.K "told_pairs" "told_pairs" mC f fd):cy P (k+1) f fd ["pairs"] (Dg A):=by
 refine aP [_] F A4 rfl λv B b s H E j=>?_;refine⟨_,(aS (ao (aD bf (by rfl) J.bg jaz (qa (bE (cS ["at","condition"] [] []) rfl (qi q_r) (λ_ _ _ _=>(Ji (n:=2) rfl (qxs (qx (i:=0) GP) (qxs (qx (i:=1) GP) D4)))) (λ_ _ _ _=>aR) (λ_ _ _ _=>(bC (qa q_r (qa (aF q_r c j) ah))))) ah)))),?_⟩;rintro p S r d u ⟨l,rfl,q,m,h⟩;refine(dM (cG (atT A) M0 trivial (cH (by lia)) (λx a t hk=>?_) (cK d h)));obtain⟨o,l,e,g,_⟩:=lM A S x.2;have a:=m x a;exact⟨_,M,M,_,_,M,_,_,M,M,pH x.2,o,l,fu x.2,e,g,x.2,M,M,a.dep,by have:=a.sz;lia,_,M,hk⟩
abbrev n8:Stmt:=top 31
def DE:ak ["parts"] ["parts"] (af n8):=cB
def tP (J:F5 P A)(c:AJ P k A n)(F:bW P.K "told_each" "told_each" n8 f fd):cy P (k+1) f fd ["parts"] (xW A n):=by
 refine aP [_] F DE rfl λz B a s H E o=>?_;refine⟨_,(aS (ao (aD bf (by rfl) J.bg jaz (qa (bE (cS ["part"] [] []) rfl (qi q_r) (λ_ _ _ _=>(qx (i:=0) xw)) (λ_ _ _ _=>aR) (λ_ _ _ _=>(aF q_r c o))) ah)))),?_⟩;rintro u S w d C ⟨l,rfl,v,r,h⟩;refine(dM (cG (λp:T×T=>p.1) (λp=>p.2) trivial (cH (by lia)) (λx e y hk=>?_) (cK d h)));obtain⟨j,b⟩:=r x e;obtain⟨t,l,m,q,g⟩:=a42 A S b;exact⟨j,t,l,g,m,q,x.1,x.2,M,b,_,M,hk⟩
abbrev jK:Stmt:=inClass (top 12) 4
def w5:ak ["self"] ["self"] (af jK):=cB
def xo (J:F5 P A)(i:gF P k A)(F:bW P.K "told" "Compare.told" jK f fd):cy P (k+1) f fd ["self"] (gP A (n+1) 0):=by
 refine aP [_] F w5 rfl λt B d s H E e=>?_;refine⟨_,(aS (ao (bC (qa ay (qa (aF q_r i e) (qa q_r (qa (aF q_r i e) ah))))))),?_⟩;rintro m S o j r ⟨c,rfl,g,u,l,h⟩;cases c with
 |cmp a s b=>
  unfold gI;exact⟨0,_,_,by decide,M,by symm,a,M,0,_,_,by decide,M,by symm,b,M,cK j (by unfold gD at h;exact h)⟩
 |neg c=>cases g
 |con q p=>cases q<;>cases g
abbrev kJ:Stmt:=inClass (top 13) 4
def yX:ak ["self"] ["self"] (af kJ):=cB
def zJ (J:F5 P A)(g:nc P k A n)(F:bW P.K "told" "Turned.told" kJ f fd):cy P (k+1) f fd ["self"] (gP A (n+1) 1):=by
 refine aP [_] F yX rfl λy B d s H E p=>?_;refine⟨_,(aS (ao (bC (qa ay (qa (aF q_r g p) ah))))),?_⟩;rintro u S v j x ⟨c,rfl,e,r,i,h⟩;cases c with
 |cmp a s b=>cases e
 |neg c=>
  unfold bT.dep at r;unfold bT.sz at i;obtain⟨t,l,m,o,_⟩:=lM A S c;unfold gI;exact⟨pH c,t,l,fu c,m,o,c,M,M,by lia,by lia,cK j (by unfold gD at h;exact h)⟩
 |con q w=>cases q<;>cases e
abbrev mK:Stmt:=inClass (top 15) 2
def A9:ak ["self"] ["self"] (af mK):=cB
def Bo (J:F5 P A)(j:nc P k A n)(F:bW P.K "told" "Every.told" mK f fd):cy P (k+1) f fd ["self"] (gP A (n+1) 2):=by
 refine aP [_] F A9 rfl λy B d s H E p=>?_;refine⟨_,(aS (ao (aY aO q_r (aD bf (by rfl) J.bg jaz (qa (bE (cS ["condition"] [] []) rfl (qi q_r) (λ_ _ _ _=>(qx (i:=0) xw)) (λ_ _ _ _=>aR) (λ_ _ _ _=>(aF q_r j p))) ah))))),?_⟩;rintro D S G t I ⟨c,rfl,e,v,m,h⟩;cases c with
 |cmp a s b=>cases e
 |neg c=>cases e
 |con q u=>
  cases q with
  |false=>cases e
  |true=>
   unfold bT.dep at v;unfold bT.sz at m;have C:=mh u;unfold gI;rw[lO];refine(dM (cG (gI A) gD trivial (cH (by lia)) (λc g x hk=>?_) ?_))
   .have h1:=pX g;have z:=uW g;obtain⟨r,l,o,w,_⟩:=lM A S c;exact⟨pH c,r,l,fu c,o,w,c,M,M,by lia,by lia,_,M,hk⟩
   .refine⟨cH (by simp;lia),cK t ?_⟩;unfold gD at h;rw[ue] at h;exact h
abbrev oq:Stmt:=inClass (top 16) 2
def DK:ak ["self"] ["self"] (af oq):=cB
def Eh (J:F5 P A)(j:nc P k A n)(F:bW P.K "told" "Some.told" oq f fd):cy P (k+1) f fd ["self"] (gP A (n+1) 3):=by
 refine aP [_] F DK rfl λy B d s H E p=>?_;refine⟨_,(aS (ao (aY aO q_r (aD bf (by rfl) J.bg jaz (qa (bE (cS ["condition"] [] []) rfl (qi q_r) (λ_ _ _ _=>(qx (i:=0) xw)) (λ_ _ _ _=>aR) (λ_ _ _ _=>(aF q_r j p))) ah))))),?_⟩;rintro D S G t I ⟨c,rfl,e,v,m,h⟩;cases c with
 |cmp a s b=>cases e
 |neg c=>cases e
 |con q u=>
  cases q with
  |true=>cases e
  |false=>
   unfold bT.dep at v;unfold bT.sz at m;have C:=mh u;unfold gI;rw[lO];refine(dM (cG (gI A) gD trivial (cH (by lia)) (λc g x hk=>?_) ?_))
   .have h1:=pX g;have z:=uW g;obtain⟨r,l,o,w,_⟩:=lM A S c;exact⟨pH c,r,l,fu c,o,w,c,M,M,by lia,by lia,_,M,hk⟩
   .refine⟨cH (by simp;lia),cK t ?_⟩;unfold gD at h;rw[ue] at h;exact h
abbrev rq:Stmt:=inClass (top 21) 1
def Gb:ak ["self"] ["self"] (af rq):=cB
def GD (J:F5 P A)(o:gF P k A)(F:bW P.K "told" "Let.told" rq f fd):cy P (k+1) f fd ["self"] (gO A n 0):=by
 refine aP [_] F Gb rfl λv B i s H E l=>?_;refine⟨_,(aS (ao (bC (qa ay (qa q_r (qa q_r (qa (aF q_r o l) ah))))))),?_⟩;rintro C S D m G ⟨s,rfl,d,w,j,h⟩;cases s with
 |lt a x s=>
  unfold iZ at h;unfold iG;refine⟨0,_,_,by decide,M,by symm,s,M,cK m h⟩
 |dv a x y s b=>cases d
 |ft a x r p=>cases d
 |pt a r p s=>cases d
 |mq a r z=>cases d
 |cm a c=>cases d
 |cl a I u g=>cases d
 |ch a c t e=>cases d
 |rp a c q f b=>cases d
abbrev kT:Stmt:=inClass (top 22) 1
def zc:ak ["self"] ["self"] (af kT):=cB
def zS (J:F5 P A)(l:gF P k A)(F:bW P.K "told" "Divide.told" kT f fd):cy P (k+1) f fd ["self"] (gO A n 1):=by
 refine aP [_] F zc rfl λv B i s H E j=>?_;refine⟨_,(aS (ao (bC (qa ay (qa q_r (qa q_r (qa q_r (qa (aF q_r l j) (qa (aF q_r l j) ah))))))))),?_⟩;rintro C S D o G ⟨s,rfl,d,w,m,h⟩;cases s with
 |lt a x s=>cases d
 |dv a x y s b=>
  unfold iZ at h;unfold iG;refine⟨0,_,_,by decide,M,by symm,s,M,0,_,_,by decide,M,by symm,b,M,cK o h⟩
 |ft a x r p=>cases d
 |pt a r p s=>cases d
 |mq a r z=>cases d
 |cm a c=>cases d
 |cl a I u g=>cases d
 |ch a c t e=>cases d
 |rp a c q f b=>cases d
abbrev mH:Stmt:=inClass (top 23) 1
def A6:ak ["self"] ["self"] (af mH):=cB
def Bj (J:F5 P A)(o:gF P k A)(F:bW P.K "told" "Fetch.told" mH f fd):cy P (k+1) f fd ["self"] (gO A n 2):=by
 refine aP [_] F A6 rfl λv B i s H E l=>?_;refine⟨_,(aS (ao (bC (qa ay (qa q_r (qa q_r (qa q_r (qa (aF q_r o l) ah)))))))),?_⟩;rintro C S D m G ⟨s,rfl,d,w,j,h⟩;cases s with
 |lt a x s=>cases d
 |dv a x y s b=>cases d
 |ft a x r p=>
  unfold iZ at h;unfold iG;refine⟨0,_,_,by decide,M,by symm,p,M,cK m h⟩
 |pt a r p s=>cases d
 |mq a r z=>cases d
 |cm a c=>cases d
 |cl a I u g=>cases d
 |ch a c t e=>cases d
 |rp a c q f b=>cases d
abbrev rj:Stmt:=inClass (top 24) 1
def F8:ak ["self"] ["self"] (af rj):=cB
def GA (J:F5 P A)(l:gF P k A)(F:bW P.K "told" "Put.told" rj f fd):cy P (k+1) f fd ["self"] (gO A n 3):=by
 refine aP [_] F F8 rfl λv B i s H E j=>?_;refine⟨_,(aS (ao (bC (qa ay (qa q_r (qa q_r (qa (aF q_r l j) (qa (aF q_r l j) ah)))))))),?_⟩;rintro C S D o G ⟨s,rfl,d,w,m,h⟩;cases s with
 |lt a x s=>cases d
 |dv a x y s b=>cases d
 |ft a x r p=>cases d
 |pt a r p s=>
  unfold iZ at h;unfold iG;refine⟨0,_,_,by decide,M,by symm,p,M,0,_,_,by decide,M,by symm,s,M,cK o h⟩
 |mq a r z=>cases d
 |cm a c=>cases d
 |cl a I u g=>cases d
 |ch a c t e=>cases d
 |rp a c q f b=>cases d
abbrev oz:Stmt:=inClass (top 25) 1
def DM:ak ["self"] ["self"] (af oz):=cB
def Ej (J:F5 P A)(o:gF P k A)(F:bW P.K "told" "Make.told" oz f fd):cy P (k+1) f fd ["self"] (gO A n 4):=by
 refine aP [_] F DM rfl λv B i s H E l=>?_;refine⟨_,(aS (ao (bC (qa ay (qa q_r (qa q_r (qa (aF q_r o l) ah))))))),?_⟩;rintro C S D m G ⟨s,rfl,d,w,j,h⟩;cases s with
 |lt a x s=>cases d
 |dv a x y s b=>cases d
 |ft a x r p=>cases d
 |pt a r p s=>cases d
 |mq a r z=>
  unfold iZ at h;unfold iG;refine⟨0,_,_,by decide,M,by symm,z,M,cK m h⟩
 |cm a c=>cases d
 |cl a I u g=>cases d
 |ch a c t e=>cases d
 |rp a c q f b=>cases d
abbrev mO:Stmt:=inClass (top 26) 1
def Bb:ak ["self"] ["self"] (af mO):=cB
def Bq (J:F5 P A)(o:yv P k 4 (ET A) "told" ["self"] (gP A 3))(F:bW P.K "told" "Claim.told" mO f fd):cy P (k+1) f fd ["self"] (gO A n 5):=by
 refine aP [_] F Bb rfl λG B i s H E v=>?_;refine⟨_,(aS (ao (bC (qa ay (qa q_r (qa (aF q_r o v) ah)))))),?_⟩;rintro L S N w O ⟨s,rfl,d,j,q,h⟩;cases s with
 |lt a x s=>cases d
 |dv a x I s b=>cases d
 |ft a x r p=>cases d
 |pt a r p s=>cases d
 |mq a r z=>cases d
 |cm a c=>
  obtain⟨m,l,u,y,_⟩:=lM A S c;unfold dF at j;unfold iZ at h;unfold iG;refine⟨pH c,m,l,fu c,u,y,c,M,M,j.dep,by have:=j.sz;lia,cK w h⟩
 |cl a m D g=>cases d
 |ch a c t e=>cases d
 |rp a c C f b=>cases d
abbrev oB:Stmt:=inClass (top 29) 1
def DP:ak ["self"] ["self"] (af oB):=cB
def Em (J:F5 P A)(o:iM P k A n)(F:bW P.K "told" "Call.told" oB f fd):cy P (k+1) f fd ["self"] (gO A n 6):=by
 refine aP [_] F DP rfl λy B i s H E q=>?_;refine⟨_,(aS (ao (bC (qa ay (qa q_r (qa q_r (qa q_r (qa (aa o q rfl ai) ah)))))))),?_⟩;rintro D S G v I ⟨s,rfl,d,u,j,h⟩;cases s with
 |lt a x s=>cases d
 |dv a x C s b=>cases d
 |ft a x r p=>cases d
 |pt a r p s=>cases d
 |mq a r z=>cases d
 |cm a c=>cases d
 |cl a L l g=>
  unfold dF at u;unfold cD.dp at j;unfold iZ at h;unfold iG;refine⟨g.map (λs=>(nI A s,g9 s)),by rw[jas];rfl,by rw[jad];lia,λp l=>?_,cK v ?_⟩
  .obtain⟨s,_,rfl⟩:=jap.mp l;exact⟨10,.m s (by lia)⟩
  .rw[jas];exact h
 |ch a c t e=>cases d
 |rp a c w f b=>cases d
abbrev kW:Stmt:=inClass (top 27) 1
def zg:ak ["self"] ["self"] (af kW):=cB
def zV (J:F5 P A)(v:iM P k A n)(y:yv P k 4 (ET A) "told" ["self"] (gP A 3))(F:bW P.K "told" "Choose.told" kW f fd):cy P (k+1) f fd ["self"] (gO A n 7):=by
 refine aP [_] F zg rfl λO B o s H E u=>?_;refine⟨_,(aS (ao (bC (qa ay (qa q_r (qa (aF q_r y u) (qa (aa v u rfl ai) (qa (aa v u rfl ai) ah)))))))),?_⟩;rintro R S U I V ⟨s,rfl,d,j,q,h⟩;cases s with
 |lt a x s=>cases d
 |dv a x Q s b=>cases d
 |ft a x r p=>cases d
 |pt a r p s=>cases d
 |mq a r z=>cases d
 |cm a c=>cases d
 |cl a w m g=>cases d
 |ch a c t e=>
  unfold dF at j;obtain⟨j,G,C,N,T⟩:=j;unfold cD.dp at q;unfold iZ at h;unfold iG;obtain⟨w,l,D,L,_⟩:=lM A S c;refine⟨pH c,w,l,fu c,D,L,c,M,M,j.dep,by have:=j.sz;lia,t.map (λs=>(iG A s,iZ s)),by rw[eO,jas];rfl,by rw[jad];lia,(λp m=>by obtain⟨s,i,rfl⟩:=jap.mp m;have:=k7 i;exact⟨_,.s s (gJ G i) (by lia)⟩),e.map (λs=>(iG A s,iZ s)),by rw[eO,jas];rfl,by rw[jad];lia,(λp m=>by obtain⟨s,i,rfl⟩:=jap.mp m;have:=k7 i;exact⟨_,.s s (gJ C i) (by lia)⟩),cK I ?_⟩;rw[gK,gK] at h;rw[jas,jas];exact h
 |rp a c i f b=>cases d
abbrev kL:Stmt:=inClass (top 28) 1
def jC:ak ["self","falls"] ["self"] (af kL):=cB
def zM (J:F5 P A)(N:iM P k A n)(O:pA P k A)(L:yv P k 4 (ET A) "told" ["self"] (gP A 3))(Q:gF P k A)(F:bW P.K "told" "Repeat.told" kL f fd):cy P (k+1) f fd ["self"] (gO A n 8):=by
 refine aP [_,_,_] F jC rfl λV B u s H E q=>?_;refine⟨_,(qs (aj (i:=1) jC.nd wm) (qs (aX (aA Er q_r wm (au _)) (aS (aj (i:=1) jC.nd (bC (qa q_r (qa (aF q_r Q q) ah))))) aK) (aS (ao (bC (qa ay (qa q_r (qa (aF q_r L q) (qa (aa O q rfl ai) (qa q_r (qa (aa N q rfl ai) ah))))))))))),?_⟩;rintro X S Y I Z ⟨s,rfl,j,m,v,h⟩;cases s with
 |lt a x s=>cases j
 |dv a x W s b=>cases j
 |ft a x r p=>cases j
 |pt a r p s=>cases j
 |mq a r z=>cases j
 |cm a c=>cases j
 |cl a w o g=>cases j
 |ch a c t e=>cases j
 |rp a c d f b=>
  unfold dF at m;obtain⟨m,R,y,U,G,T⟩:=m;unfold cD.dp at v;unfold iZ at h;unfold iG;obtain⟨w,l,C,D,_⟩:=lM A S c;rw[gK] at h;cases f with
  |none=>
   refine⟨false,M,pH c,w,l,fu c,C,D,c,M,M,m.dep,by have:=m.sz;lia,d,M,by lia,y,b.map (λs=>(iG A s,iZ s)),by rw[eO,jas];rfl,by rw[jad];lia,(λp o=>by obtain⟨s,d,rfl⟩:=jap.mp o;have:=k7 d;exact⟨_,.s s (gJ G d) (by lia)⟩),cK I ?_⟩;rw[jas];exact h
  |some p=>
   refine⟨true,M,0,_,_,by decide,M,by symm,p.2,M,pH c,w,l,fu c,C,D,c,M,M,m.dep,by have:=m.sz;lia,d,M,by lia,y,b.map (λs=>(iG A s,iZ s)),by rw[eO,jas];rfl,by rw[jad];lia,(λp o=>by obtain⟨s,d,rfl⟩:=jap.mp o;have:=k7 d;exact⟨_,.s s (gJ G d) (by lia)⟩),cK I ?_⟩;rw[jas];exact h
abbrev kO:Stmt:=inClass (top 36) 1
def za:ak ["self"] ["self"] (af kO):=cB
def zP (J:F5 P A)(j:iM P k A n)(e:pA P k A)(F:bW P.K "told" "Helper.told" kO f fd):cy P (k+1) f fd ["self"] (yQ A n):=by
 refine aP [_] F za rfl λw B b s H E c=>?_;refine⟨_,(aS (ao (bC (qa ay (qa q_r (qa q_r (qa q_r (qa q_r (qa (aa e c rfl ai) (qa (aa e c rfl ai) (qa (aa j c rfl ai) ah))))))))))),?_⟩;rintro o S r g v ⟨x,rfl,a,i,h⟩;obtain⟨t,y,m,q,u⟩:=a.pl;refine⟨x.needs,M,by lia,a.nd,x.gives,M,by lia,a.gv,x.steps.map (λs=>(iG A s,iZ s)),by rw[eO,jas];rfl,by rw[jad];lia,(λp l=>by obtain⟨s,d,rfl⟩:=jap.mp l;have:=k7 d;exact⟨_,.s s (gJ a.st d) (by lia)⟩),cK g ?_⟩;rw[jas];unfold EB at h;rw[gK] at h;exact h
abbrev jI:Stmt:=inClass (top 37) 2
def wZ:ak ["self"] ["self"] (af jI):=cB
def xj (J:F5 P A)(e:eg P k "told_each" ["parts"] (xW A 10))(F:bW P.K "told" "Program.told" jI f fd):cy P (k+1) f fd ["self"] (yJ A):=by
 refine aP [_] F wZ rfl λo B a s H E i=>?_;refine⟨_,(aS (ao (aa e i rfl ai))),?_⟩;rintro l S m d n ⟨c,rfl,j,b,h⟩;refine⟨c.map (λx=>(Om A x,EB x)),by rw[jas];rfl,by rw[jad];exact j,(λp g=>?_),cK d ?_⟩
 .obtain⟨x,hx,rfl⟩:=jap.mp g;exact⟨9,.h x (b x hx).1 (by have:=(b x hx).2;lia)⟩
 .rw[jas];exact h
abbrev n9:Stmt:=top 7
def tG:ak ["thing","weight","size"] ["thing","weight"] (af n9):=cB
def Eb (J:F5 P A)(F:bW P.K "term_text" "term_text" n9 f fd):cy P (k+1) f fd ["thing","weight"] Di:=by
 refine aP [_,_,_] F tG rfl λn B b s H E e=>?_;refine⟨_,(qs (aj (i:=2) tG.nd (aH CN (by rfl) J.CU boot_abs ai)) (qs (aX (aA (cA 40 (uE e)) q_r aB (au _)) (aS (ao q_r)) aK) (aS (ao (VG (Jj q_r (Jk (Jj q_r D7)))))))),?_⟩;rintro g S l j m ⟨t,w,rfl,d,o,h⟩;refine(?_);unfold eG at h;by_cases a:jc w=1
 .rw[jab a] at h;exact⟨true,jac D.bl (ieq a),dw h⟩
 .rw[jaa a] at h;have p:=oR d;have c:("*":Str).length=1:=by symm
  refine⟨false,jac D.bl (ine a),d.log,?_,?_,cH (by lia),?_,?_,dw ?_⟩
  .rw[kj];exact cH (by show(dQ w).length<=1000;lia)
  .rw[kj,aV,c];exact cH (by show(dQ w).length+1<=1000;lia)
  .rw[kj,aV,aV,c];exact cH (by show(dQ w).length+1+t.length<=1000;lia)
  .rw[kj,aV,aV,c];exact cH (by show(dQ w).length+1+t.length<=1000;lia)
  .rw[kj];exact h
abbrev mD:Stmt:=top 8
def A5:ak ["number"] ["number"] (af mD):=cB
def Bg (J:F5 P A)(F:bW P.K "sign_ahead" "sign_ahead" mD f fd):cy P (k+1) f fd ["number"] Qf:=by
 refine aP [_] F A5 rfl λi B b s H E j=>?_;refine⟨_,(aS (ao (Jl (aA zY q_r aB (au _)) ay ay))),?_⟩;rintro c S e d g ⟨w,rfl,h⟩;unfold uv at h;by_cases a:w<0
 .rw[jab a] at h;exact⟨true,jac D.bl (jah a),dw h⟩
 .rw[jaa a] at h;exact⟨false,jac D.bl (jai a),dw h⟩
abbrev jG:Stmt:=top 9
def wX:ak ["number"] ["number"] (af jG):=cB
def xg (J:F5 P A)(F:bW P.K "sign_between" "sign_between" jG f fd):cy P (k+1) f fd ["number"] Qe:=by
 refine aP [_] F wX rfl λi B b s H E j=>?_;refine⟨_,(aS (ao (Jl (aA zY q_r aB (au _)) ay ay))),?_⟩;rintro c S e d g ⟨w,rfl,h⟩;unfold gR at h;by_cases a:w<0
 .rw[jab a] at h;exact⟨true,jac D.bl (jah a),dw h⟩
 .rw[jaa a] at h;exact⟨false,jac D.bl (jai a),dw h⟩
abbrev q8:Stmt:=inClass (top 5) 8
def iQ:ak ["self","parts","written","number","part"] ["self"] (af q8):=cB
def Gy (J:F5 P A)(AF:vW P k)(EZ:AL P k)(X:BK P k)(F:bW P.K "text" "Sum.text" q8 f fd):cy P (k+1) f fd ["self"] (Dh A):=by
 refine aP [_,_,_,_,_] F iQ rfl λAT B C s H E v=>?_;refine⟨_,(qs (Gh (i:=1) iQ.nd (cS ["thing","weight"] [] []) rfl (qi q_r) (λ_ _ _ _=>(Ji (n:=2) rfl (qxs (qx (i:=0) GP) (qxs (qx (i:=1) GP) D4)))) (λ_ _ _ _=>aR) (λ_ _ _ _=>(bC (qa q_r (qa (aa X v rfl ai) ah))))) (qs (aX (qw (tN (aA (j4 40 (uE v)) q_r aB (au _)) (mR (aA (cA 40 (uE v)) (aH ck (by rfl) J.cu jaw ai) aB (au _))))) (aS (bM (dJ q_r (qa (bC (qa q_r (qa (aD TV (by rfl) J.Ub boot_str (qa (aH CN (by rfl) J.CU boot_abs ai) ah)) ah))) ah)))) aK) (qs (aj (i:=2) iQ.nd (dH (qa (aY aO (aa EZ v rfl ai) q_r) ah))) (qs (eY jaO rfl (qi (dX false q_r (aQ aB) bx)) (jP (n:=2) rfl (rC (qg (i:=3) iQ.nd) (rC (qg (i:=4) iQ.nd) gW))) (aS (bM (dJ q_r (qa (aY aO (aa AF v rfl ai) q_r) ah))))) (aS (ao (dO ay ai))))))),?_⟩;rintro ds S kk Q hd ⟨a,rfl,d,h⟩;have hl3:=d.len;refine(dM ?_);refine cG pT (λp=>qT (p.2,eG p.1 p.2)) trivial (cH (by lia)) (λx g L hk=>⟨_,M,M,_,_,M,_,_,M,M,x.1,x.2,M,(d.sh x g).1,(d.sh x g).2,_,M,hk⟩) ?_;have w:=zF a.1 a.2
 try dsimp only[d8]
 show Ni _ _ _ _ _;refine Jv (!decide (a.2=0)) (decide (a.1.length=0)) (λL hk=>⟨_,jac D.bl (by rw[gC,jbo]),hk⟩) (λL hk=>(oe (fX av) ⟨_,jac D.bl (by rw[gC,jaT,jad];exact jaY.mpr (by lia)),hk⟩)) ?_;cases R:(!decide (a.2=0)||decide (a.1.length=0)) with
 |true=>
  rw[R,jab rfl] at w;refine⟨⟨M,_,bG av⟩,d.num.log,_,av,nq (by rw[jad];lia),?_⟩;have I:(S++[O.lst (a.1.map λp=>qT (p.2,eG p.1 p.2))]).set S.length (O.lst ((a.1.map λp=>qT (p.2,eG p.1 p.2))++[qT (a.2,dQ a.2)]))=S++[O.lst ((cY a.1 a.2).map qT)]:=by
   rw[bO,w,jau,jas];rfl
  have G:(S++[O.lst (a.1.map λp=>qT (p.2,eG p.1 p.2))]).set S.length (O.lst ((a.1.map λp=>qT (p.2,eG p.1 p.2))++[.tup [.int a.2,.str (toString (jc a.2))]]))=S++[O.lst ((cY a.1 a.2).map qT)]:=I;rw[G];obtain⟨q,r,o⟩:=iS a.1 a.2;have b:=jr d.short d.num;have c:=zG (n:=a.2) d.short;rw[o] at b c;rw[o];rw[jam] at c;have W:=b q jak;have V:(uv q.1).length<=1:=by unfold uv;split<;>symm
  refine(oe (fX av) (oe jZ ⟨q.1,M,oe (fX av) (oe jZ ⟨cH (by lia),?_⟩)⟩));dsimp only[bR];refine UT ?_
  try dsimp only
  rw[jag,jax];refine⟨_,bG (aZ (j:=0)),?_⟩;rw[jaa jaA,jaf,cJ];refine ia ?_;refine nB qT (λpre Z m=>∃y z,Z=[some (D.t (nI A a)),some (D.ob S.length),some (D.ob (S.length+1)),y,z]/\m=S++[O.lst (qT q::r.map qT),O.lst (((uv q.1++q.2)::pre.map λp=>gR p.1++p.2).map T.str)]) ⟨_,_,M,M⟩ ?_ ?_
  .rintro pre p post Z m N e ⟨y,z,rfl,rfl⟩ hN;have u:=b p (jaj _ (by rw[e];simp));have Y:pre.length<=20:=by rw[e,jag] at c;lia
   have U:=jA p.1;refine⟨trivial,_,M,M,_,_,M,_,_,M,M,⟨M,_,bG (aZ (j:=1))⟩,p.1,M,cH (by lia),_,aZ (j:=1),nq (by simp;lia),?_⟩;rw[cM (j:=1)];refine hN _ _ ⟨_,_,M,?_⟩;simp
  .rintro Z m ⟨y,z,rfl,rfl⟩;refine⟨trivial,M,_,bG (aZ (j:=1)),?_,vL Q ?_⟩
   .have:=fZ (jcx:=169) (l:=(uv q.1++q.2)::r.map λp=>gR p.1++p.2) λx g=>by
     rcases jae.mp g with rfl | g
     .rw[aV];lia
     .obtain⟨p,u,rfl⟩:=jap.mp g;have:=b p (jaj _ u);have:=jA p.1;rw[aV];lia
    rw[jam,jad] at this;have z:(Str.ofString "").length=0:=by symm
    rw[z];lia
   .rw[F1 o];exact h
 |false=>
  rw[R,jaa jaA,jaD] at w;have I:S++[O.lst (a.1.map λp=>qT (p.2,eG p.1 p.2))]=S++[O.lst ((cY a.1 a.2).map qT)]:=by rw[w,jas];rfl
  rw[I];obtain⟨q,r,o⟩:=iS a.1 a.2;have b:=jr d.short d.num;have c:=zG (n:=a.2) d.short;rw[o] at b c;rw[o];rw[jam] at c;have W:=b q jak;have V:(uv q.1).length<=1:=by unfold uv;split<;>symm
  refine(oe (fX av) (oe jZ ⟨q.1,M,oe (fX av) (oe jZ ⟨cH (by lia),?_⟩)⟩));dsimp only[bR];refine UT ?_
  try dsimp only
  rw[jag,jax];refine⟨_,bG (aZ (j:=0)),?_⟩;rw[jaa jaA,jaf,cJ];refine ia ?_;refine nB qT (λpre Z m=>∃y z,Z=[some (D.t (nI A a)),some (D.ob S.length),some (D.ob (S.length+1)),y,z]/\m=S++[O.lst (qT q::r.map qT),O.lst (((uv q.1++q.2)::pre.map λp=>gR p.1++p.2).map T.str)]) ⟨_,_,M,M⟩ ?_ ?_
  .rintro pre p post Z m N e ⟨y,z,rfl,rfl⟩ hN;have u:=b p (jaj _ (by rw[e];simp));have Y:pre.length<=20:=by rw[e,jag] at c;lia
   have U:=jA p.1;refine⟨trivial,_,M,M,_,_,M,_,_,M,M,⟨M,_,bG (aZ (j:=1))⟩,p.1,M,cH (by lia),_,aZ (j:=1),nq (by simp;lia),?_⟩;rw[cM (j:=1)];refine hN _ _ ⟨_,_,M,?_⟩;simp
  .rintro Z m ⟨y,z,rfl,rfl⟩;refine⟨trivial,M,_,bG (aZ (j:=1)),?_,vL Q ?_⟩
   .have:=fZ (jcx:=169) (l:=(uv q.1++q.2)::r.map λp=>gR p.1++p.2) λx g=>by
     rcases jae.mp g with rfl | g
     .rw[aV];lia
     .obtain⟨p,u,rfl⟩:=jap.mp g;have:=b p (jaj _ u);have:=jA p.1;rw[aV];lia
    rw[jam,jad] at this;have z:(Str.ofString "").length=0:=by symm
    rw[z];lia
   .rw[F1 o];exact h
abbrev jL:Stmt:=inClass (top 12) 7
def gk:ak ["self","one","sign","other"] ["self"] (af jL):=cB
def xr (J:F5 P A)(j:fG P k A)(F:bW P.K "text" "Compare.text" jL f fd):cy P (k+1) f fd ["self"] (gQ A (n+1) 0):=by
 refine aP [_,_,_,_] F gk rfl λx B g s H E l=>?_;refine⟨_,(qs (aj (i:=1) gk.nd (aF q_r j l)) (qs (aj (i:=2) gk.nd q_r) (qs (aj (i:=3) gk.nd (aF q_r j l)) (aS (ao (VG (Jj q_r (Jk (Jj q_r (Jk (Jj q_r D7))))))))))),?_⟩;rintro p S u r w ⟨c,rfl,m,C,d,o,h⟩;cases c with
 |cmp a s b=>
  unfold sE at d;unfold pZ at h;unfold gI;have y:=bA d.1;have t:=bA d.2.1;have z:=d.2.2;have e:(" ":Str).length=1:=by symm
  refine⟨0,_,_,by decide,M,by symm,a,M,d.1,0,_,_,by decide,M,by symm,b,M,d.2.1,cH (by lia),?_,?_,cH (by lia),?_,?_,cH (by lia),?_,?_,dw ?_⟩
  all_goals rw[kj]
  .exact cH (by lia)
  .rw[aV,e];exact cH (by lia)
  .rw[aV,aV,e];exact cH (by lia)
  .rw[aV,aV,aV,e];exact cH (by lia)
  .rw[aV,aV,aV,aV,e];exact p9 (by lia)
  .rw[aV,aV,aV,aV,e];exact p9 (by lia)
  .exact h
 |neg c=>cases m
 |con q v=>cases q<;>cases m
abbrev kK:Stmt:=inClass (top 13) 7
def n5:ak ["self","inner"] ["self"] (af kK):=cB
def zK (J:F5 P A)(v:rV P k A n)(F:bW P.K "text" "Turned.text" kK f fd):cy P (k+1) f fd ["self"] (gQ A (n+1) 1):=by
 refine aP [_,_] F n5 rfl λI B d s H E t=>?_;refine⟨_,(qs (aj (i:=1) n5.nd (aF q_r v t)) (aS (ao (VG (Jk (Jj q_r (Jk D7))))))),?_⟩;rintro x S z y G ⟨c,rfl,m,u,g,o,h⟩;cases c with
 |cmp a s b=>cases m
 |neg c=>
  unfold sE at g;unfold bT.dep at u;unfold bT.sz at o;unfold pZ at h;unfold gI;obtain⟨w,l,p,_,r⟩:=lM A S c;have C:=mY c g (by lia);have e:("not (":Str).length=5:=by symm
  have j:(")":Str).length=1:=by symm
  refine⟨pH c,w,l,fu c,p,r,c,M,M,by lia,g,by lia,?_,p9 (by lia),?_,?_,?_,dw ?_⟩
  all_goals rw[kj]
  .exact cH (by lia)
  .rw[aV,e];exact p9 (by lia)
  .rw[aV,aV,e,j];exact p9 (by lia)
  .rw[aV,aV,e,j];exact p9 (by lia)
  .exact h
 |con q D=>cases q<;>cases m
abbrev mL:Stmt:=inClass (top 15) 5
def Ba:ak ["self"] ["self"] (af mL):=cB
def Bp (J:F5 P A)(p:nH P k A n)(F:bW P.K "text" "Every.text" mL f fd):cy P (k+1) f fd ["self"] (gQ A (n+1) 2):=by
 refine aP [_] F Ba rfl λw B e s H E t=>?_;refine⟨_,(aS (ao (dO ay (qa (bE (cS ["condition"] [] []) rfl (qi q_r) (λ_ _ _ _=>(qx (i:=0) xw)) (λ_ _ _ _=>aR) (λ_ _ _ _=>(aa p t rfl ai))) ah)))),?_⟩;rintro C S G D I ⟨c,rfl,l,u,g,m,h⟩;cases c with
 |cmp a s b=>cases l
 |neg c=>cases l
 |con q d=>
  cases q with
  |false=>cases l
  |true=>
   unfold sE at g;unfold bT.dep at u;unfold bT.sz at m;unfold pZ at h;have y:=mh d;have r:=nQ d g.1 (by lia);unfold gI;rw[lO];refine⟨M,dM (cG (gI A) (λc=>T.str (HX c)) trivial (cH (by lia)) (λc j v hk=>?_) ?_)⟩
   .have h1:=pX j;have x:=uW j;exact⟨c,M,by lia,yp g.1 j,by lia,_,M,hk⟩
   .refine⟨d.map HX,by rw[jas];rfl,?_,dw ?_⟩
    .rw[jz] at r;have z:(" and ":Str).length<=5:=by symm
     have o:=jb8 (d.map HX).length z;rw[jad] at o ⊢;show _<=16777216;lia
    .rw[jz] at h;exact h
abbrev ou:Stmt:=inClass (top 16) 5
def DL:ak ["self"] ["self"] (af ou):=cB
def Ei (J:F5 P A)(p:nH P k A n)(F:bW P.K "text" "Some.text" ou f fd):cy P (k+1) f fd ["self"] (gQ A (n+1) 3):=by
 refine aP [_] F DL rfl λw B e s H E t=>?_;refine⟨_,(aS (ao (dO ay (qa (bE (cS ["condition"] [] []) rfl (qi q_r) (λ_ _ _ _=>(qx (i:=0) xw)) (λ_ _ _ _=>aR) (λ_ _ _ _=>(aa p t rfl ai))) ah)))),?_⟩;rintro C S G D I ⟨c,rfl,l,u,g,m,h⟩;cases c with
 |cmp a s b=>cases l
 |neg c=>cases l
 |con q d=>
  cases q with
  |true=>cases l
  |false=>
   unfold sE at g;unfold bT.dep at u;unfold bT.sz at m;unfold pZ at h;have y:=mh d;have r:=nQ d g.1 (by lia);unfold gI;rw[lO];refine⟨M,dM (cG (gI A) (λc=>T.str (HX c)) trivial (cH (by lia)) (λc j v hk=>?_) ?_)⟩
   .have h1:=pX j;have x:=uW j;exact⟨c,M,by lia,yp g.1 j,by lia,_,M,hk⟩
   .refine⟨d.map HX,by rw[jas];rfl,?_,dw ?_⟩
    .rw[jz] at r;have z:(" or ":Str).length<=5:=by symm
     have o:=jb8 (d.map HX).length z;rw[jad] at o ⊢;show _<=16777216;lia
    .rw[jz] at h;exact h
abbrev kG:Stmt:=top 18
def nY:ak ["condition","written"] ["condition"] (af kG):=cB
def zH (J:F5 P A)(t:rV P k A n)(F:bW P.K "text_within" "text_within" kG f fd):cy P (k+1) f fd ["condition"] (yI A n):=by
 refine aP [_,_,_] F nY rfl λD B b s H E q=>?_;refine⟨_,(qs (aj (i:=1) nY.nd (aF q_r t q)) (qs (aX (vn (aH (MU (c:=.ref A.bZ) trivial M) (by rfl) J.ju boot_isinstance (qa q_r (qa (vo (jq (v:=.ref A.bZ) rfl J.vN.g M)) ah)))) (aS (ao (VG (Jk (Jj q_r (Jk D7)))))) aK) (aS (ao q_r)))),?_⟩;rintro w S y x C ⟨c,rfl,r,j,m,h⟩;obtain⟨u,l,o,_,p⟩:=lM A S c;have z:=mY c j (by lia);have d:("(":Str).length=1:=by symm
 have e:(")":Str).length=1:=by symm
 refine⟨pH c,u,l,fu c,o,p,c,M,M,r,j,m,M,_,_,OZ A _ c,J.kS _ (fu c),_,M,?_⟩;unfold HX at h;by_cases a:2<=pH c
 .rw[jab a] at h;rw[jah a];refine⟨?_,p9 (by lia),?_,?_,?_,dw ?_⟩
  all_goals rw[kj]
  .exact cH (by lia)
  .rw[aV,d];exact p9 (by lia)
  .rw[aV,aV,d,e];exact p9 (by lia)
  .rw[aV,aV,d,e];exact p9 (by lia)
  .exact h
 .rw[jaa a] at h;rw[jai a];exact(dw h)
abbrev rA:Stmt:=inClass (top 21) 4
def Gd:ak ["self"] ["self"] (af rA):=cB
def GF (J:F5 P A)(l:fG P k A)(F:bW P.K "as_rows" "Let.as_rows" rA f fd):cy P (k+1) f fd ["self"] (gj A (n+1) 0):=by
 refine aP [_] F Gd rfl λC B j s H E q=>?_;refine⟨_,(aS (ao (bD (qa (dO ay (qa (bD (qa ay (qa q_r (qa ay (qa (aF q_r l q) ah))))) ah)) ah)))),?_⟩;rintro I S O L Q ⟨s,rfl,d,i,m,o,h⟩;cases s with
 |lt a x s=>
  unfold dF at i;unfold rws at h;unfold iG;have v:=bA i.2;have N:=i.1;have R:(Str.ofString "let").length<=10:=by symm
  have D:(Str.ofString "=").length<=10:=by symm
  have y:(Str.ofString " ").length=1:=by symm
  refine⟨M,0,_,_,by decide,M,by symm,s,M,i.2,[("let":Str),x,("=":Str),ig s],M,by simp only[jaf,jaU,ja9,jbR,jam,jbb];lia,dw ?_⟩;rw[j_lt];exact h
 |dv a x G s b=>cases d
 |ft a x r p=>cases d
 |pt a r p s=>cases d
 |mq a r z=>cases d
 |cm a c=>cases d
 |cl a T w g=>cases d
 |ch a c t e=>cases d
 |rp a c u f b=>cases d
abbrev kU:Stmt:=inClass (top 22) 4
def zd:ak ["self"] ["self"] (af kU):=cB
def zT (J:F5 P A)(l:fG P k A)(F:bW P.K "as_rows" "Divide.as_rows" kU f fd):cy P (k+1) f fd ["self"] (gj A (n+1) 1):=by
 refine aP [_] F zd rfl λI B j s H E m=>?_;refine⟨_,(aS (ao (bD (qa (dO ay (qa (bD (qa ay (qa q_r (qa ay (qa (aF q_r l m) (qa q_r (qa (aF q_r l m) ah))))))) ah)) ah)))),?_⟩;rintro N S R O T ⟨s,rfl,d,i,o,q,h⟩;cases s with
 |lt a x s=>cases d
 |dv a x u s b=>
  unfold dF at i;unfold rws at h;unfold iG;have w:=bA i.2.2.1;have Q:=bA i.2.2.2;have C:=i.1;have y:=i.2.1;have U:(Str.ofString "let").length<=10:=by symm
  have L:(Str.ofString "=").length<=10:=by symm
  have G:(Str.ofString " ").length=1:=by symm
  refine⟨M,0,_,_,by decide,M,by symm,s,M,i.2.2.1,0,_,_,by decide,M,by symm,b,M,i.2.2.2,[("let":Str),x,("=":Str),ig s,u,ig b],M,by simp only[jaf,jaU,ja9,jbR,jam,jbb];lia,dw ?_⟩;rw[a7R];exact h
 |ft a x r p=>cases d
 |pt a r p s=>cases d
 |mq a r z=>cases d
 |cm a c=>cases d
 |cl a V D g=>cases d
 |ch a c t e=>cases d
 |rp a c v f b=>cases d
abbrev mJ:Stmt:=inClass (top 23) 4
def A7:ak ["self"] ["self"] (af mJ):=cB
def Bl (J:F5 P A)(l:fG P k A)(F:bW P.K "as_rows" "Fetch.as_rows" mJ f fd):cy P (k+1) f fd ["self"] (gj A (n+1) 2):=by
 refine aP [_] F A7 rfl λG B j s H E q=>?_;refine⟨_,(aS (ao (bD (qa (dO ay (qa (bD (qa ay (qa q_r (qa ay (qa q_r (qa ay (qa (aF q_r l q) ah))))))) ah)) ah)))),?_⟩;rintro N S R O T ⟨s,rfl,d,i,m,o,h⟩;cases s with
 |lt a x s=>cases d
 |dv a x L s b=>cases d
 |ft a x r p=>
  unfold dF at i;unfold rws at h;unfold iG;have v:=bA i.2.2;have y:=i.1;have w:=i.2.1;have U:(Str.ofString "let").length<=10:=by symm
  have I:(Str.ofString "=").length<=10:=by symm
  have Q:(Str.ofString "at").length<=10:=by symm
  have D:(Str.ofString " ").length=1:=by symm
  refine⟨M,0,_,_,by decide,M,by symm,p,M,i.2.2,[("let":Str),x,("=":Str),r,("at":Str),ig p],M,by simp only[jaf,jaU,ja9,jbR,jam,jbb];lia,dw ?_⟩;rw[a7Q];exact h
 |pt a r p s=>cases d
 |mq a r z=>cases d
 |cm a c=>cases d
 |cl a V C g=>cases d
 |ch a c t e=>cases d
 |rp a c u f b=>cases d
abbrev rm:Stmt:=inClass (top 24) 3
def F9:ak ["self"] ["self"] (af rm):=cB
def GB (J:F5 P A)(l:fG P k A)(F:bW P.K "as_rows" "Put.as_rows" rm f fd):cy P (k+1) f fd ["self"] (gj A (n+1) 3):=by
 refine aP [_] F F9 rfl λD B j s H E m=>?_;refine⟨_,(aS (ao (bD (qa (dO ay (qa (bD (qa ay (qa q_r (qa ay (qa (aF q_r l m) (qa ay (qa (aF q_r l m) ah))))))) ah)) ah)))),?_⟩;rintro L S R N T ⟨s,rfl,d,i,o,q,h⟩;cases s with
 |lt a x s=>cases d
 |dv a x I s b=>cases d
 |ft a x r p=>cases d
 |pt a r p s=>
  unfold dF at i;unfold rws at h;unfold iG;have v:=bA i.2.1;have Q:=bA i.2.2;have w:=i.1;have U:(Str.ofString "put").length<=10:=by symm
  have G:(Str.ofString "=").length<=10:=by symm
  have O:(Str.ofString "at").length<=10:=by symm
  have C:(Str.ofString " ").length=1:=by symm
  refine⟨M,0,_,_,by decide,M,by symm,p,M,i.2.1,0,_,_,by decide,M,by symm,s,M,i.2.2,[("put":Str),r,("at":Str),ig p,("=":Str),ig s],M,by simp only[jaf,jaU,ja9,jbR,jam,jbb];lia,dw ?_⟩;rw[a7O];exact h
 |mq a r z=>cases d
 |cm a c=>cases d
 |cl a V y g=>cases d
 |ch a c t e=>cases d
 |rp a c u f b=>cases d
abbrev oA:Stmt:=inClass (top 25) 4
def DN:ak ["self"] ["self"] (af oA):=cB
def Ek (J:F5 P A)(l:fG P k A)(F:bW P.K "as_rows" "Make.as_rows" oA f fd):cy P (k+1) f fd ["self"] (gj A (n+1) 4):=by
 refine aP [_] F DN rfl λD B j s H E q=>?_;refine⟨_,(aS (ao (bD (qa (dO ay (qa (bD (qa ay (qa q_r (qa ay (qa (aF q_r l q) ah))))) ah)) ah)))),?_⟩;rintro L S O N Q ⟨s,rfl,d,i,m,o,h⟩;cases s with
 |lt a x s=>cases d
 |dv a x I s b=>cases d
 |ft a x r p=>cases d
 |pt a r p s=>cases d
 |mq a r z=>
  unfold dF at i;unfold rws at h;unfold iG;have v:=bA i.2;have w:=i.1;have R:(Str.ofString "row").length<=10:=by symm
  have G:(Str.ofString "=").length<=10:=by symm
  have C:(Str.ofString " ").length=1:=by symm
  refine⟨M,0,_,_,by decide,M,by symm,z,M,i.2,[("row":Str),r,("=":Str),ig z],M,by simp only[jaf,jaU,ja9,jbR,jam,jbb];lia,dw ?_⟩;rw[a7P];exact h
 |cm a c=>cases d
 |cl a T y g=>cases d
 |ch a c t e=>cases d
 |rp a c u f b=>cases d
abbrev mP:Stmt:=inClass (top 26) 3
def Bc:ak ["self"] ["self"] (af mP):=cB
def Br (J:F5 P A)(w:yv P k 4 (ET A) "text" ["self"] (gQ A 3))(F:bW P.K "as_rows" "Claim.as_rows" mP f fd):cy P (k+1) f fd ["self"] (gj A (n+1) 5):=by
 refine aP [_] F Bc rfl λI B j s H E v=>?_;refine⟨_,(aS (ao (bD (qa (aY aO ay (aF q_r w v)) ah)))),?_⟩;rintro N S Q O T ⟨s,rfl,d,i,o,u,h⟩;cases s with
 |lt a x s=>cases d
 |dv a x L s b=>cases d
 |ft a x r p=>cases d
 |pt a r p s=>cases d
 |mq a r z=>cases d
 |cm a c=>
  unfold dF at i;unfold rws at h;unfold iG;obtain⟨m,l,q,_,C⟩:=lM A S c;have R:=iK i;have y:("claim ":Str).length=6:=by symm
  exact⟨pH c,m,l,fu c,q,C,c,M,M,i.dep,i.g,i.sz,p9 (by rw[y];lia),dw h⟩
 |cl a m G g=>cases d
 |ch a c t e=>cases d
 |rp a c D f b=>cases d
abbrev kX:Stmt:=inClass (top 27) 4
def jE:ak ["self","rows"] ["self"] (af kX):=cB
def zW (J:F5 P A)(y:kr P k A n)(O:yv P k 4 (ET A) "text" ["self"] (gQ A 3))(F:bW P.K "as_rows" "Choose.as_rows" kX f fd):cy P (k+1) f fd ["self"] (gj A (n+1) 7):=by
 refine aP [_,_,_] F jE rfl λX B o s H E v=>?_;refine⟨_,(qs (aj (i:=1) jE.nd (aY aO (bD (qa (aY aO ay (aF q_r O v)) ah)) (aa y v rfl ai))) (qs (aX (aA qh (aH ck (by rfl) J.cu jaw ai) aB (au _)) (aS (aj (i:=1) jE.nd (aY aO (aY aO q_r (bD ai)) (aa y v rfl ai)))) aK) (aS (ao (aY aO q_r (bD ai)))))),?_⟩;rintro Z S kk hc hd ⟨s,rfl,j,m,q,d,h⟩;cases s with
 |lt a x s=>cases j
 |dv a x Y s b=>cases j
 |ft a x r p=>cases j
 |pt a r p s=>cases j
 |mq a r z=>cases j
 |cm a c=>cases j
 |cl a C W g=>cases j
 |ch a c t e=>
  unfold dF at m;obtain⟨m,Q,G,V,l2⟩:=m;unfold cD.dp at q;unfold rws at h d;unfold iG;obtain⟨C,l,I,_,L⟩:=lM A S c;have lc:=iK m;have R:("if ":Str).length=3:=by symm
  have T:(aJ t).length<=1000:=by simp only[jag,jam] at d;lia
  refine⟨pH c,C,l,fu c,I,L,c,M,M,m.dep,m.g,m.sz,p9 (by rw[R];lia),t,M,Q,by lia,T,_,_,M,M,iY (by simp;lia),?_⟩;by_cases w:e=[]
  .subst w;rw[jab M,jaD] at h;refine⟨false,jac D.bl (jai (by unfold yG;decide)),_,_,M,M,iY (by simp;lia),dw ?_⟩;simp at h ⊢;exact h
  .rw[jaa w] at h d;have u:(aJ e).length<=1000:=by simp only[jag,jam] at d;lia
   have N:=ja0.mpr w;refine⟨true,jac D.bl (jah (by rw[eO,jad];lia)),_,_,M,M,iY (by simp;lia),e,M,G,by lia,u,_,_,M,M,iY (by simp;lia),_,_,M,M,iY (by simp;lia),dw ?_⟩;simp at h ⊢;exact h
 |rp a c U f b=>cases j
abbrev kM:Stmt:=inClass (top 28) 4
def n6:ak ["self","rows"] ["self"] (af kM):=cB
def zN (J:F5 P A)(X:kr P k A n)(L:fG P k A)(W:yv P k 4 (ET A) "text" ["self"] (gQ A 3))(Z:ku P k A)(F:bW P.K "as_rows" "Repeat.as_rows" kM f fd):cy P (k+1) f fd ["self"] (gj A (n+1) 8):=by
 refine aP [_,_,_] F n6 rfl λAT B u s H E q=>?_;refine⟨_,(qs (aj (i:=1) n6.nd (aY JF (bD (qa (aY aO ay (aF q_r W q)) ah)) (aa Z q rfl ai))) (qs (aX (aA Er q_r wm (au _)) (aS (bM (dJ q_r (qa (aY aO ay (aF q_r L q)) ah)))) aK) (aS (ao (aY aO (aY aO q_r (aa X q rfl ai)) (bD ai)))))),?_⟩;rintro ds S kk D hd ⟨s,rfl,d,j,w,o,h⟩;cases s with
 |lt a x s=>cases d
 |dv a x wd s b=>cases d
 |ft a x r p=>cases d
 |pt a r p s=>cases d
 |mq a r z=>cases d
 |cm a c=>cases d
 |cl a G y g=>cases d
 |ch a c t e=>cases d
 |rp a c v f b=>
  unfold dF at j;obtain⟨j,I,O,Q,C,l1⟩:=j;unfold cD.dp at w;unfold rws at h o;unfold iG;obtain⟨G,l,R,_,U⟩:=lM A S c;have lc:=iK j;have Y:("while ":Str).length=6:=by symm
  have m:(aJ b).length<=1000:=by simp only[jag,jam] at o;lia
  have V:(v.map λp=>T.str ((Str.ofString "holds"++(" ":Str))++pZ p.2))=(v.map λp=>pre "holds " p.2).map T.str:=by
   rw[jas];refine jbH λp _=>?_;show T.str ((Str.ofString "holds"++Str.ofString " ")++pZ p.2)=T.str (pre "holds " p.2);rw[UO];rfl
  refine⟨pH c,G,l,fu c,R,U,c,M,M,j.dep,j.g,j.sz,p9 (by rw[Y];lia),"holds",v,M,I,O,by symm,_,_,M,M,iY (by simp;lia),?_⟩;rw[V];cases f with
  |none=>
   refine⟨false,M,b,M,C,by lia,m,_,_,bG av,M,iY (by simp;lia),_,_,M,M,iY (by simp;lia),vL D ?_⟩;simp[EG] at h ⊢;exact h
  |some p=>
   have y:=Q p rfl;have lp:=bA y;have N:("falls ":Str).length=6:=by symm
   refine⟨true,M,⟨M,_,bG av⟩,0,_,_,by decide,M,by symm,p.2,M,y,p9 (by rw[N];lia),_,av,nq (by simp;lia),?_⟩;rw[bO];refine⟨b,M,C,by lia,m,_,_,bG av,M,iY (by simp;lia),_,_,M,M,iY (by simp;lia),vL D ?_⟩;simp[EG] at h ⊢;exact h
abbrev i0:Stmt:=top 33
def iu:ak ["steps","rows","step"] ["steps"] (af i0):=cB
def lI (J:F5 P A)(o:AK P k A n)(F:bW P.K "rows_of_steps" "rows_of_steps" i0 f fd):cy P (k+1) f fd ["steps"] (xX A n):=by
 refine aP [_,_,_] F iu rfl λC B b s H E r=>?_;refine⟨_,(qs (aj (i:=1) iu.nd (dH ah)) (qs (eY jaO rfl (qi q_r) (qg (i:=2) iu.nd) (aS (bM (LP q_r (qa (aF q_r o r) ah))))) (aS (ao q_r)))),?_⟩;rintro v S x g G ⟨l,rfl,t,j,a,h⟩;rw[eO];refine(dM (nB (iG A) (λpre Z d=>∃y,Z=[some (D.tup (l.map (iG A))),some (D.ob (S.length+0)),y]/\d=S++[O.lst ((aJ pre).map T.str)]) ⟨_,M,by unfold aJ;rfl⟩ ?_ ?_))
 .rintro pre s post Z d N e ⟨y,rfl,rfl⟩ hN;have c:s∈l:=by rw[e];simp
  have w:=LJ c;have I:=k7 c;have z:(aJ pre).length+(rws s).length<=1000:=by rw[e,jM,aJ] at a;simp only[jag] at a;lia
  obtain⟨u,m,p,_,q⟩:=Yt A (S++[O.lst ((aJ pre).map T.str)]) s;refine⟨trivial,⟨M,_,oW M⟩,kd s,u,m,Mg s,p,q,s,M,M,gJ t c,by lia,by lia,_,_,aZ,M,cH (by simp;lia),?_⟩;rw[cM];refine hN _ _ ⟨_,M,?_⟩;rw[jM,aJ,aJ,jaD,jau];rfl
 .rintro Z d ⟨y,rfl,rfl⟩;exact⟨trivial,Xk g rfl h⟩
abbrev i6:Stmt:=top 34
def u9:ak ["word","pairs"] ["word","pairs"] (af i6):=cB
def vq (J:F5 P A)(o:yv P k 4 (ET A) "text" ["self"] (gQ A 3))(F:bW P.K "rows_of_pairs" "rows_of_pairs" i6 f fd):cy P (k+1) f fd ["word","pairs"] (Dl A):=by
 refine aP [_] F u9 rfl λD B b s H E m=>?_;refine⟨_,(aS (ao (bE (cS ["at","condition"] ["word"] [0]) rfl (qi q_r) (λ_ _ _ _=>(Ji (n:=2) rfl (qxs (qx (i:=0) nd3) (qxs (qx (i:=1) nd3) D4)))) (λ_ _ _ _=>aR) (λ_ _ _ _=>(aY aO q_r (aF q_r o m)))))),?_⟩;rintro r S u t C ⟨w,l,rfl,G,a,v,h⟩;refine(dM (cG (atT A) (λp=>T.str ((w++(" ":Str))++pZ p.2)) trivial (cH (by lia)) (λx d z hk=>?_) (dw h)));have a:=a x d;have y:=iK a;have c:(" ":Str).length=1:=by symm
 obtain⟨q,l,e,_,j⟩:=lM A S x.2;exact⟨_,M,M,_,_,M,_,_,M,M,cH (by rw[c];lia),pH x.2,q,l,fu x.2,e,j,x.2,M,M,a.dep,a.g,a.sz,p9 (by rw[aV,c];lia),_,M,hk⟩
abbrev oE:Stmt:=inClass (top 29) 4
def mz:ak ["self","words"] ["self"] (af oE):=cB
def En (J:F5 P A)(V:fG P k A)(F:bW P.K "as_rows" "Call.as_rows" oE f fd):cy P (k+1) f fd ["self"] (gj A (n+1) 6):=by
 refine aP [_,_,_,_,_] F mz rfl λAT B C s H E hr=>?_;refine⟨_,(qs (aj (i:=1) mz.nd (dH ai)) (qs (aX (aA qh (aH ck (by rfl) J.cu jaw ai) aB (au _)) (aS (aj (i:=1) mz.nd (aY JF (aY aO q_r (aD rR (by rfl) J.rS boot_list ai)) (bD ai)))) aK) (qs (bM (dJ q_r ai)) (qs (aX (aA qh (aH ck (by rfl) J.cu jaw ai) aB (au _)) (aS (bM (dJ q_r (qa (dO ay (qa (bE (cS ["total"] [] []) rfl (qi q_r) (λ_ _ _ _=>(qx (i:=0) xw)) (λ_ _ _ _=>aR) (λ_ _ _ _=>(aF q_r V hr))) ah)) ah)))) aK) (aS (ao (bD (qa (dO ay ai) ah)))))))),?_⟩;rintro ds S Q hc hd ⟨s,rfl,v,N,X,Z,h⟩;cases s with
 |lt a x s=>cases v
 |dv a x wd s b=>cases v
 |ft a x r p=>cases v
 |pt a r p s=>cases v
 |mq a r z=>cases v
 |cm a c=>cases v
 |cl a m o g=>
  unfold dF at N;obtain⟨l1,g1,l2,l3,G⟩:=N;unfold rws at h;rw[<- Sq] at h;unfold iG;have I:(Str.ofString ", ").length=2:=by symm
  have W:(Str.ofString " ").length=1:=by symm
  have z3:(Str.ofString "call").length<=100:=by symm
  have z4:(Str.ofString "=").length<=100:=by symm
  have L:=oZ ", " (g.map ig);have b4:=fZ (jcx:=700) (l:=g.map ig) λx d=>by
   obtain⟨y,hy,rfl⟩:=jap.mp d;exact bA (G y hy)
  rw[I] at L;rw[jad] at L b4;have big:∀x∈fh m o g,x.length<=10000:=λx d=>by
   unfold fh at d;rcases jan.mp d with d | d
   .rcases jan.mp d with d | d
    .split at d
     .rcases jan.mp d with d | d
      .rcases jan.mp d with d | d
       .rw[jal.mp d];lia
       .have:=g1 x d;lia
      .rw[jal.mp d];lia
     .rw[jal.mp d];lia
    .rw[jal.mp d];lia
   .split at d
    .rw[jal.mp d];lia
    .cases d
  have U:(fh m o g).length<=12:=by
   unfold fh;simp only[jag,jam,jbb];split<;>split<;>simp<;>lia
  have R:=fZ big;have fin:∀O,Q (.lst ([Txt.join " " (fh m o g)].map T.str)) S->closes S.length (.lst [T.str (Txt.join " " (fh m o g))]) (S++O) Q:=λO h=>vL hc h;have u:((fh m o g).map (·.length)).sum+(fh m o g).length*(Str.ofString " ").length<=16777216:=by rw[W];lia
  refine(?_);by_cases w:0<m.length
  .refine⟨true,jac D.bl (jah (by rw[jad];lia)),_,_,bG av,M,cH (by simp;lia),_,_,M,M,cH (by simp;lia),?_⟩;rw[jag,jax];refine⟨⟨M,_,bG (aZ (j:=1))⟩,_,aZ (j:=1),nq (by simp;lia),?_⟩;rw[cM];have eW:∀x:Str,([T.str (Str.ofString "call")]++m.map T.str++[T.str (Str.ofString "=")])++[T.str x]=(([("call":Str)]++m++[("=":Str)])++[x]).map T.str:=λx=>by simp
   refine(?_);by_cases q:0<g.length
   .have ew:fh m o g=(([("call":Str)]++m++[("=":Str)])++[o])++[Txt.join ", " (g.map ig)]:=by unfold fh;rw[jab w,jab q]
    refine⟨true,jac D.bl (jah (by rw[jad];lia)),⟨M,_,bG (aZ (j:=1))⟩,M,dM ?_⟩;refine cG (nI A) (λs=>T.str (ig s)) trivial (cH (by lia)) (λx d Y hk=>⟨0,_,_,by decide,M,by symm,x,M,(G x d),_,M,hk⟩) ?_;refine⟨g.map ig,by rw[jas];rfl,by rw[I,jad];lia,_,aZ (j:=1),nq (by simp;lia),?_⟩;rw[cM];refine⟨M,fh m o g,bG ((aZ (j:=1)).trans ?_),u,fin _ h⟩;rw[ew];simp
   .have ew:fh m o g=([("call":Str)]++m++[("=":Str)])++[o]:=by unfold fh;rw[jab w,jaa q,jaD]
    refine⟨false,jac D.bl (jai (by rw[jad];lia)),M,fh m o g,bG ((aZ (j:=1)).trans ?_),u,fin _ h⟩;rw[ew];simp
  .refine⟨false,jac D.bl (jai (by rw[jad];lia)),⟨M,_,bG (av)⟩,_,av,nq (by simp),?_⟩;rw[bO];refine(?_);by_cases q:0<g.length
   .have ew:fh m o g=([("call":Str)]++[o])++[Txt.join ", " (g.map ig)]:=by unfold fh;rw[jaa w,jab q]
    refine⟨true,jac D.bl (jah (by rw[jad];lia)),⟨M,_,bG (av)⟩,M,dM ?_⟩;refine cG (nI A) (λs=>T.str (ig s)) trivial (cH (by lia)) (λx d Y hk=>⟨0,_,_,by decide,M,by symm,x,M,(G x d),_,M,hk⟩) ?_;refine⟨g.map ig,by rw[jas];rfl,by rw[I,jad];lia,_,av,nq (by simp),?_⟩;rw[bO];refine⟨M,fh m o g,bG (av.trans ?_),u,fin _ h⟩;rw[ew];simp
   .have ew:fh m o g=[("call":Str)]++[o]:=by unfold fh;rw[jaa w,jaa q,jaD]
    refine⟨false,jac D.bl (jai (by rw[jad];lia)),M,fh m o g,bG (av.trans ?_),u,fin _ h⟩;rw[ew];simp
 |ch a c t e=>cases v
 |rp a c hs f b=>cases v
abbrev kQ:Stmt:=inClass (top 36) 2
def jD:ak ["self","rows"] ["self"] (af kQ):=cB
def zQ (J:F5 P A)(z:eg P k "rows_of_steps" ["steps"] (xX A 9))(u:ku P k A)(F:bW P.K "as_rows" "Helper.as_rows" kQ f fd):cy P (k+1) f fd ["self"] (yR A):=by
 refine aP [_,_,_,_] F jD rfl λO B g s H E n=>?_;refine⟨_,(qs (aj (i:=1) jD.nd (dH (qa (dO ay (qa (aY aO (bD ai) (aD rR (by rfl) J.rS boot_list ai)) ah)) ah))) (qs (aX (aA qh (aH ck (by rfl) J.cu jaw ai) aB (au _)) (aS (bM (dJ q_r (qa (dO ay (qa (aY aO (bD ai) (aD rR (by rfl) J.rS boot_list ai)) ah)) ah)))) aK) (qs (aj (i:=1) jD.nd (aY JF (aY aO q_r (aa u n rfl ai)) (aa u n rfl ai))) (aS (ao (aY aO (aY aO q_r (aa z n rfl ai)) (bD ai))))))),?_⟩;rintro R S U t Y ⟨x,rfl,a,v,b,h⟩;obtain⟨L,p2,Q,G,N⟩:=a.pl;unfold aL at h b;have r:(Str.ofString " ").length=1:=by symm
 have W:(Str.ofString "helper").length<=100:=by symm
 have Z:(Str.ofString "answers").length<=100:=by symm
 have X:=fZ (jcx:=100) λy q=>(by have:=a.ps y q;lia:y.length<=100)
 have V:=fZ (jcx:=100) λy q=>(by have:=a.an y q;lia:y.length<=100)
 have I:=a.nm;have c:(aJ x.steps).length<=1000:=by simp only[jag] at b;lia
 have e:∀(w:Str)(l:List (Int×bT)),l.map (λp=>T.str ((w++(" ":Str))++pZ p.2))=(l.map λp=>pre (w++(" ":Str)) p.2).map T.str:=λw l=>by rw[jas];rfl
 refine⟨M,_,_,M,M,cH (by simp;lia),[("helper":Str),x.name]++x.params,by rw[jau];rfl,?_,?_⟩
 .simp only[jau,jaf,jaU,List.sum_append,ja9,jbR,jag,jam,jbb];rw[r];lia
 by_cases d:x.answers=[]
 .rw[jab d] at h b;refine⟨false,jac D.bl (jai (by rw[d];decide)),"needs",x.needs,M,by lia,a.nd,by symm,_,_,bG av,M,cH (by simp;lia),"gives",x.gives,M,by lia,a.gv,by symm,_,_,M,M,cH (by simp;lia),?_⟩;rw[jag,jax];refine⟨x.steps,M,a.st,by lia,c,_,_,bG (aZ (j:=1)),M,iY (by simp;lia),_,_,M,M,iY (by simp;lia),vL t ?_⟩;have o:(Str.ofString "needs"++(" ":Str))=("needs ":Str):=K7;have m:(Str.ofString "gives"++(" ":Str))=("gives ":Str):=K8;rw[e,e,o,m];simp at h ⊢;exact h
 .rw[jaa d] at h b;have C:=ja0.mpr d;refine⟨true,jac D.bl (jah (by rw[jad];lia)),⟨M,_,bG av⟩,M,_,_,M,M,cH (by simp;lia),[("answers":Str)]++x.answers,by rw[jau];rfl,?_,_,av,nq (by simp),?_⟩
  .simp only[jau,jaf,jaU,List.sum_append,ja9,jbR,jag,jam,jbb];rw[r];lia
  rw[bO];refine⟨"needs",x.needs,M,by lia,a.nd,by symm,_,_,bG av,M,cH (by simp;lia),"gives",x.gives,M,by lia,a.gv,by symm,_,_,M,M,cH (by simp;lia),?_⟩;rw[jag,jax];refine⟨x.steps,M,a.st,by lia,c,_,_,bG (aZ (j:=1)),M,iY (by simp;lia),_,_,M,M,iY (by simp;lia),vL t ?_⟩;have o:(Str.ofString "needs"++(" ":Str))=("needs ":Str):=K7;have m:(Str.ofString "gives"++(" ":Str))=("gives ":Str):=K8;rw[e,e,o,m];simp at h ⊢;exact h
abbrev gS:Stmt:=top 39
def gu:ak ["program","rows","helper"] ["program"] (af gS):=cB
def rF (J:F5 P A)(m:KG P k A)(F:bW P.K "rows_of_program" "rows_of_program" gS f fd):cy P (k+1) f fd ["program"] (yK A):=by
 refine aP [_,_,_] F gu rfl λu B b s H E n=>?_;refine⟨_,(qs (aj (i:=1) gu.nd (dH ah)) (qs (eY jaO rfl (qi q_r) (qg (i:=2) gu.nd) (aS (bM (LP q_r (qa (aF q_r m n) ah))))) (aS (ao q_r)))),?_⟩;rintro o S p l r ⟨d,rfl,j,a,h⟩;refine(dM (nB (Om A) (λpre Z c=>∃y,Z=[some (D.t (OM A d)),some (D.ob (S.length+0)),y]/\c=S++[O.lst (((pre.map aL).flatten).map T.str)]) ⟨_,M,M⟩ ?_ ?_))
 .rintro pre x post Z c N e ⟨y,rfl,rfl⟩ hN;have g:x∈d:=by rw[e];simp
  have q:((pre.map aL).flatten).length+(aL x).length<=600:=by rw[e] at a;simp only[jau,jaf,jby,jaG,jag] at a;lia
  refine⟨trivial,⟨M,_,oW M⟩,0,_,_,by decide,M,by symm,x,M,(j x g).1,(j x g).2,by lia,_,_,aZ,M,cH (by rw[jad,jad];lia),?_⟩;rw[cM];refine hN _ _ ⟨_,M,?_⟩;simp
 .rintro Z c ⟨y,rfl,rfl⟩;exact⟨trivial,Xk l rfl h⟩
abbrev jF:Stmt:=top 40
def wW:ak ["rows"] ["rows"] (af jF):=cB
def w9 (J:F5 P A)(F:bW P.K "text_of_rows" "text_of_rows" jF f fd):cy P (k+1) f fd ["rows"] PC:=by
 refine aP [_] F wW rfl λt B b s H E u=>?_;refine⟨_,(aS (ao (dO ay (qa (bE (cS ["row"] [] []) rfl (qi q_r) (λ_ _ _ _=>(qx (i:=0) xw)) (λ_ _ _ _=>aR) (λ_ _ _ _=>q_r)) ah)))),?_⟩;rintro j S o m q ⟨d,rfl,v,a,h⟩;have e:("\n":Str).length=1:=by symm
 refine⟨M,ia (cG T.str (λr=>T.str (r++("\n":Str))) trivial (cH (by lia)) (λx c p hk=>⟨p9 (by rw[e];have:=a x c;lia),_,M,hk⟩) ?_)⟩;refine⟨d.map λr=>r++("\n":Str),by rw[jas];rfl,?_,dw h⟩;have:=fZ (jcx:=25001) (l:=d.map λr=>r++("\n":Str)) λx c=>by
  obtain⟨y,g,rfl⟩:=jap.mp c;have:=a y g;rw[aV,e];lia
 rw[jad] at this ⊢;have z:(Str.ofString "").length=0:=by symm
 rw[z];lia
abbrev vd:Stmt:=top 38
def IG:ak ["program"] ["program"] (af vd):=cB
def Jx (J:F5 P A)(j:vU P k)(g:qj P k A)(F:bW P.K "written" "written" vd f fd):cy P (k+1) f fd ["program"] (uZ A):=by
 refine aP [_] F IG rfl λq B c s H E a=>?_;refine⟨_,(aS (ao (aa j a rfl (qa (aa g a rfl ai) ah)))),?_⟩;rintro n S p o t ⟨e,rfl,d,b,h⟩;refine⟨e,M,d,b,_,M,b,λr a=>?_,dw h⟩;obtain⟨l,m,a⟩:=List.mem_flatten.mp a;obtain⟨x,i,rfl⟩:=jap.mp m;exact lN (d x i).1 r a
abbrev vj:Stmt:=top 78
def yW:ak ["_law_cell","_law_k","_law_mix"] ["_law_cell","_law_k"] (af vj):=cB
def JC (J:F5 P A)(F:bW P.K "_law_mixed" "_law_mixed" vj f fd):cy P (k+1) f fd ["_law_cell","_law_k"] P8:=by
 refine aP [_,_] F yW rfl λn B a s H E o=>?_;refine⟨_,(qs (aj (i:=2) yW.nd q_r) (aS (ao q_r))),?_⟩;rintro d S l e m ⟨c,j,rfl,h⟩;refine⟨.inl ⟨by decide,by decide⟩,.inr ⟨by decide,by decide⟩,by decide,?_⟩;have g:=jbN ((c+7919*j+11)*48271) (b:=2147483647) (by decide);have p:=jbI ((c+7919*j+11)*48271) (b:=2147483647) (by decide);exact⟨.inl ⟨by lia,by lia⟩,.inl ⟨by decide,by decide⟩,by decide,dw (h _ (jbN _ (by decide)) (jbI _ (by decide)))⟩
abbrev oj:Stmt:=top 77
def mw:ak ["_law_script","_law_k","_law_cell"] ["_law_script","_law_k"] (af oj):=cB
def Ef (J:F5 P A)(b:qQ P k)(F:bW P.K "_law_cell_at" "_law_cell_at" oj f fd):cy P (k+1) f fd ["_law_script","_law_k"] IC:=by
 refine aP [_,_,_] F mw rfl λo B a s H E c=>?_;refine⟨_,(qs (aj (i:=2) mw.nd aB) (qs (aX (aA zY q_r (aH ck (by rfl) J.cu jaw ai) (au _)) (aS (aj (i:=2) mw.nd q_r)) aK) (aS (ao (aa b c rfl ai))))),?_⟩;rintro e S m g n ⟨l,j,rfl,h⟩;refine(?_);by_cases d:j<l.length
 .exact⟨true,jac D.bl (jah (by rw[jad];lia)),oe (bK (by rw[jaF,jaK d];rfl)) ⟨_,_,M,λr _ _=>dw (h r)⟩⟩
 .exact⟨false,jac D.bl (jai (by rw[jad];lia)),_,_,M,λr _ _=>dw (h r)⟩
abbrev zo:Stmt:=top 79
def Nt:ak ["_law_draw","_law_size"] ["_law_draw","_law_size"] (af zo):=cB
def NU (J:F5 P A)(l:qQ P k)(F:bW P.K "_law_next" "_law_next" zo f fd):cy P (k+1) f fd ["_law_draw","_law_size"] ZE:=by
 refine aP [_,_] F Nt rfl λv B b s H E o=>?_;refine⟨_,(qs (VE q_r aB aB Sv) (aS (ao (aY GI (aY vv (aa l o rfl ai) aB) q_r)))),?_⟩;rintro p S t q u ⟨d,n,rfl,i,j,h⟩;have a:=i.lt;obtain⟨c,m,g⟩:=i;refine⟨d,1,_,_,M,M,g,M,1,_,M,g,by show 1<2;decide,oe (fX (eZ a)) (oe rfl (oe (fX (eZ a)) ⟨_,_,M,λr _ _=>⟨⟨by decide,by decide⟩,j,?_⟩⟩))⟩;have e:((r / 7 % n).toNat:Int)=r / 7 % n:=jct (jbN _ (by lia));rw[<- e];exact dw (h _ _ _ (by rw[e];exact jbI _ j))
abbrev oh:Stmt:=top 93
def DI:ak ["_law_rows","_law_text_here"] ["_law_rows","_law_text_here"] (af oh):=cB
def Ec (J:F5 P A)(F:bW P.K "_law_put_row" "_law_put_row" oh f fd):cy P (k+1) f fd ["_law_rows","_law_text_here"] xY:=by
 refine aP [_,_] F DI rfl λl B a s H E m=>?_;refine⟨_,(qs (bM (dJ q_r ai)) (aS (ao (aY Cv (aH ck (by rfl) J.cu jaw ai) aB)))),?_⟩;rintro d S i g j ⟨r,x,R,rfl,b,n,h⟩;have c:=(jar.mp b).1;refine⟨⟨M,_,bG b⟩,_,b,nq (by rw[jad];lia),?_⟩;refine(oe (fX (eZ c)) (dw ?_));have e:(((R.map T.str++[T.str x]).length:Nat):Int) - 1=(R.length:Int):=by rw[jag,jad,jbe];lia
 rw[e];rw[jau] at h;exact h
abbrev mE:Stmt:=top 84
def cz:ak ["_law_one","_law_terms","_law_number","_law_text_here","_law_thing","_law_times","_law_word"] ["_law_one"] (af mE):=cB
def Bh (J:F5 P A)(F:bW P.K "_law_sum_text" "_law_sum_text" mE f fd):cy P (k+1) f fd ["_law_one"] Ds:=by
 refine aP [_,_,_,_,_,_] F cz rfl λAT B u s H E o=>?_;refine⟨_,(qs (rB q_r (jP (n:=2) rfl (rC (qg (i:=1) cz.nd) (rC (qg (i:=2) cz.nd) gW)))) (qs (aj (i:=3) cz.nd ay) (qs (eY jaO rfl (qi q_r) (jP (n:=2) rfl (rC (qg (i:=4) cz.nd) (rC (qg (i:=5) cz.nd) gW))) (qs (aj (i:=6) cz.nd q_r) (qs (aX (aA (j4 40 (uE o)) (aH CN (by rfl) J.CU boot_abs ai) aB (au _)) (aS (aj (i:=6) cz.nd (aY aO (aY aO (aD TV (by rfl) J.Ub boot_str (qa (aH CN (by rfl) J.CU boot_abs ai) ah)) ay) q_r))) aK) (aS (aj (i:=3) cz.nd (aY aO (aY aO q_r (iR (bD ai) (aD AH (by rfl) J.wN boot_int (qa (cV zY q_r aB (au _)) ah)))) q_r)))))) (qs (aX (qw (tN (aA (j4 40 (uE o)) q_r aB (au _)) (mR (aA (cA 40 (uE o)) q_r q_r (au _))))) (aS (aj (i:=3) cz.nd (aY aO (aY aO q_r (iR (bD ai) (aD AH (by rfl) J.wN boot_int (qa (cV zY q_r aB (au _)) ah)))) (aD TV (by rfl) J.Ub boot_str (qa (aH CN (by rfl) J.CU boot_abs ai) ah))))) aK) (qs (aX (aA (cA 40 (uE o)) (dX false q_r bx (aQ aB)) ay (au _)) (aS (ao (aY aO ay (dX false q_r (aQ aB) bx)))) aK) (aS (ao (dX false q_r (aQ aB) bx)))))))),?_⟩;rintro ds S kk hc hd ⟨s,rfl,c,h⟩;have V:=c.len;have hps:=jr c.short c.num;have Q:∀p∈s.1,(eG p.1 p.2).length<=166:=λp b=>by have:=Ce (t:=p.1) (c.sh p b).1;have:=(c.sh p b).2;lia
 refine⟨_,M,M,_,_,M,_,_,M,M,dM (nB pT (λpre Z Y=>∃x y z w,Z=[some (D.t (g9 s)),some (D.tup (s.1.map pT)),some (D.int s.2),some (D.str x),y,z,w]/\Y=S/\cp x=dW (pre.map λp=>(p.2,eG p.1 p.2))) ⟨_,_,_,_,M,M,by symm⟩ ?_ ?_)⟩
 .rintro pre ⟨t,w⟩ post Z Y N e ⟨x,y,z,w0,rfl,rfl,j⟩ hN;have b:(t,w)∈s.1:=by rw[e];simp
  have hpl:pre.length<=3:=by rw[e,jag] at V;lia
  have U:=Mu j λq O=>by
   obtain⟨p,b,rfl⟩:=jap.mp O;exact Q p (by rw[e];exact jbw _ b)
  rw[jad] at U;have hw:=Q (t,w) b;have I:=jA w;have l:Small w:=(c.sh _ b).1;have C:t.length<=100:=(c.sh _ b).2;have b0p:(t,w).fst.length<=100:=C;have W:=oR l;have zs:(Str.ofString "*").length=1:=by symm
  have fin:=JW (t:=t) (w:=w) j;refine⟨trivial,_,M,M,_,_,M,_,_,M,M,?_⟩;by_cases m:jc w=1
  .have ew:eG t w=t:=by unfold eG;rw[jab m]
   rw[ew] at fin hw;refine⟨false,jac D.bl (a7Z m),oe (Qk w) ⟨cH (by lia),cH (by rw[aV];lia),hN _ _ ⟨_,_,_,_,M,M,fin⟩⟩⟩
  .have ew:eG t w=(dQ w++Str.ofString "*")++t:=by unfold eG;rw[jaa m]
   rw[ew] at fin hw;refine⟨true,jac D.bl (a7X m),l.log,cH (by show(dQ w).length+_<=1000;rw[zs];lia),cH (by rw[aV,zs];show(dQ w).length+1+_<=1000;lia),oe (Qk w) ⟨cH (by lia),cH (by rw[aV];show _+((dQ w++Str.ofString "*")++t).length<=1000;lia),hN _ _ ⟨_,_,_,_,M,M,fin⟩⟩⟩
 rintro Z S0 ⟨x,y,z,w0,rfl,rfl,j⟩;refine⟨trivial,?_⟩;have U:=Mu j λq O=>by
  obtain⟨p,b,rfl⟩:=jap.mp O;exact Q p b
 rw[jad] at U;have W:=oR c.num;have r:=zF s.1 s.2
 try dsimp only[d8]
 show Ni _ _ _ _ _;refine Jv (!decide (s.2=0)) (decide (s.1.length=0)) (λk' hk=>⟨_,jac D.bl (by rw[gC,jbo]),hk⟩) (λk' hk=>(.inr ⟨M,_,jac D.bl (by rw[jaT];exact jaY.mpr (by rw[jb7,jbd])),hk⟩)) ?_;cases hb:(!decide (s.2=0)||decide (s.1.length=0)) with
 |true=>
  rw[hb,jab rfl] at r;have I:=jA s.2;refine(oe (Qk s.2) ⟨cH (by lia),c.num.log,cH (by rw[aV];show _+(dQ s.2).length<=1000;lia),?_⟩);have a:cp ((x++gR s.2)++dQ s.2)=dW (cY s.1 s.2):=by rw[r,bh,bh,j,Aq,jax]
  have g:((x++gR s.2)++dQ s.2).length<=700:=by rw[aV,aV];lia
  generalize X:(x++gR s.2)++dQ s.2=X' at a g;have L:(x++gR s.2)++(toString (jc s.2):Str)=X':=X;rw[L];obtain⟨h3,v,T,G,R⟩:=FN a;refine⟨cH (by lia),?_⟩;rw[T];by_cases d:v<0
  .refine⟨true,jac D.bl (seq (xZ.mpr d)),cH (by lia),cH (by have:=Txt.slice_le X' (some 3) none;have z:(Str.ofString "-").length=1:=(by symm);rw[z];lia),dw ?_⟩;rw[G d];exact h
  .refine⟨false,jac D.bl (LC λz=>d (xZ.mp z)),cH (by lia),dw ?_⟩;rw[R d];exact h
 |false=>
  rw[hb,jaa jaA,jaD] at r;have a:cp x=dW (cY s.1 s.2):=by rw[r];exact j
  have g:x.length<=700:=by lia
  generalize X:x=X' at a g;obtain⟨h3,v,T,G,R⟩:=FN a;refine⟨cH (by lia),?_⟩;rw[T];by_cases d:v<0
  .refine⟨true,jac D.bl (seq (xZ.mpr d)),cH (by lia),cH (by have:=Txt.slice_le X' (some 3) none;have z:(Str.ofString "-").length=1:=(by symm);rw[z];lia),dw ?_⟩;rw[G d];exact h
  .refine⟨false,jac D.bl (LC λz=>d (xZ.mp z)),cH (by lia),dw ?_⟩;rw[R d];exact h
abbrev zl:Stmt:=top 85
def vc:ak ["_law_told","_law_texts","_law_one"] ["_law_told"] (af zl):=cB
def NS (J:F5 P A)(G:eg P k "_law_text" ["_law_told"] (mj n))(R:iC P k)(F:bW P.K "_law_text" "_law_text" zl f fd):cy P (k+1) f fd ["_law_told"] (mj (n+1)):=by
 refine aP [_,_,_,_,_] F vc rfl λAT B r s H E l=>?_;refine⟨_,(qs (aX (aA (cA 40 (uE l)) q_r ay (au _)) (aS (ao (aY aO (aY aO (aY aO (aY aO (aa R l rfl ai) ay) q_r) ay) (aa R l rfl ai)))) aK) (qs (aX (aA (cA 40 (uE l)) q_r ay (au _)) (aS (ao (aY aO (aY aO ay (aa G l rfl ai)) ay))) aK) (qs (aj (i:=1) vc.nd (dH ah)) (qs (eY jaO rfl (qi (dX false q_r (aQ aB) bx)) (qg (i:=2) vc.nd) (aS (bM (dJ q_r (qa (iR (bD (qa (aa G l rfl ai) (qa (aY aO (aY aO ay (aa G l rfl ai)) ay) ah))) (aD AH (by rfl) J.wN boot_int (qa (cV Bt q_r q_r (by rfl)) ah))) ah))))) (aS (ao (dO q_r ai))))))),?_⟩;rintro ds S Q Y hd ⟨c,rfl,o,d,I,h⟩;cases c with
 |cmp a s b=>
  unfold sE at d;unfold pZ at h;have la:=bA d.1;have lb:=bA d.2.1;have ls:=d.2.2;have g:(" ":Str).length=1:=by symm
  rw[yt];exact⟨true,qT1,a,M,d.1,cH (by rw[g];lia),cH (by rw[aV,g];lia),cH (by rw[aV,aV,g];lia),b,M,d.2.1,iY (by rw[aV,aV,aV,g];lia),dw h⟩
 |neg c=>
  unfold sE at d;unfold bT.dep at o;unfold bT.sz at I;unfold pZ at h;have lc:=mY c d (by lia);have g:("not (":Str).length=5:=by symm
  have m:(")":Str).length=1:=by symm
  rw[yq];exact⟨false,qF1,true,qT1,c,M,by lia,d,by lia,iY (by rw[g];lia),iY (by rw[aV,g,m];lia),dw h⟩
 |con q j=>
  unfold sE at d;unfold bT.dep at o;unfold bT.sz at I;unfold pZ at h;have hl:=mh j;have L:=nQ j d.1 (by lia);rw[jz] at h L;have g:("(":Str).length=1:=by symm
  have m:(")":Str).length=1:=by symm
  have z3:(Str.ofString " ").length=1:=by symm
  rw[yr];refine(oe jZ ⟨false,jac D.bl (LC (by cases q<;>symm)),oe jZ ⟨false,jac D.bl (LC (by cases q<;>symm)),o4 (by simp),?_⟩⟩);rw[cJ];refine dM (nB gD (λpre Z t=>∃y,Z=[some (D.tup (.str (if q=true then "and" else "or")::j.map gD)),some (D.ob (S.length+0)),y]/\t=S++[O.lst ((pre.map HX).map T.str)]) ⟨_,M,M⟩ ?_ ?_)
  .rintro pre c post Z t N e ⟨y,rfl,rfl⟩ hN;have C:c∈j:=by rw[e];simp
   have h1:=pX C;have h2:=uW C;have u:=yp d.1 C;have lc:=mY c u (by lia);have U:pre.length<=9:=by have:=jac List.length e;rw[jag] at this;lia
   obtain⟨w,lw,ew,v⟩:=a1U c;refine⟨trivial,⟨M,_,oW M⟩,c,M,by lia,u,by lia,c,M,by lia,u,by lia,iY (by rw[g];lia),iY (by rw[aV,g,m];lia),?_⟩;rw[ew];refine(oe jZ ⟨_,_,_,M,M,M,M,?_⟩);have X:(xor false (H8 (V.str w) [V.str (Str.ofString "and"),V.str (Str.ofString "or")]))=decide (2<=pH c):=a1M (xs:=[Str.ofString "and",Str.ofString "or"]) v;have W:jY [T.str (pZ c),T.str ((Str.ofString "("++pZ c)++Str.ofString ")")] (if decide (2<=pH c)=true then 1 else 0)=some (T.str (HX c)):=by
    unfold HX;by_cases p:2<=pH c
    .rw[jab p,jah p];rfl
    .rw[jaa p,jai p];rfl
   rw[X];refine(oe W ⟨_,aZ,nq (by simp;lia),?_⟩);rw[cM];refine hN _ _ ⟨_,M,?_⟩;simp
  .rintro Z t ⟨y,rfl,rfl⟩;have hx:∀w:Str,w.length<=3->(w.length+1+1)*9<=100:=λw L=>by lia
   refine⟨trivial,oe jZ ⟨?_,?_,M,j.map HX,oW M,?_,vL Y ?_⟩⟩
   .exact cH (by cases q<;>symm)
   .exact cH (by cases q<;>symm)
   .have z:((Str.ofString " "++(if q=true then Str.ofString "and" else Str.ofString "or"))++Str.ofString " ").length<=5:=by cases q<;>symm
    have m:=jb8 (j.map HX).length z;rw[jad] at m ⊢;show _<=16777216;refine jay (Nat.add_le_add_left m _) ?_;lia
   .cases q with
    |true=>
     have x:(Str.ofString " "++Str.ofString "and")++Str.ofString " "=Str.ofString " and ":=w_and;show Q (.str (Txt.join ((Str.ofString " "++Str.ofString "and")++Str.ofString " ") (j.map HX))) S;rw[x];exact h
    |false=>
     have x:(Str.ofString " "++Str.ofString "or")++Str.ofString " "=Str.ofString " or ":=w_or;show Q (.str (Txt.join ((Str.ofString " "++Str.ofString "or")++Str.ofString " ") (j.map HX))) S;rw[x];exact h
abbrev kH:Stmt:=top 94
def bX:ak ["_law_step_here","_law_rows","_law_kind","_law_text_here"] ["_law_step_here","_law_rows"] (af kH):=cB
def oO (J:F5 P A)(vM:rZ P k n)(w:jg P k)(v:iC P k)(cT:ng P k)(F:bW P.K "_law_laid_step" "_law_laid_step" kH f fd):cy P (k+1) f fd ["_law_step_here","_law_rows"] (yN n):=by
 refine aP [_,_,_,_,_,_,_,_,_] F bX rfl λAT B U s H E j=>?_;refine⟨_,(qs (aj (i:=2) bX.nd q_r) (qs (aX (aA (cA 40 (uE j)) q_r ay (au _)) (aS (ao (bC (qa ay (qa (aa w j rfl (qa q_r (qa (aY aO q_r (aa v j rfl ai)) ah))) ai))))) aK) (qs (aX (aA (cA 40 (uE j)) q_r ay (au _)) (qs (aj (i:=3) bX.nd (aY aO q_r (aa v j rfl ai))) (qs (aj (i:=3) bX.nd (aY aO q_r (aa v j rfl ai))) (aS (ao (aY aO (bC (qa ay (qa (aa w j rfl ai) ah))) (dX false q_r (aQ aB) bx)))))) aK) (qs (aX (aA (cA 40 (uE j)) q_r ay (au _)) (qs (aj (i:=3) bX.nd q_r) (qs (aj (i:=3) bX.nd (aY aO q_r (aa v j rfl ai))) (aS (ao (aY aO (bC (qa ay (qa (aa w j rfl ai) ah))) (dX false q_r (aQ aB) bx)))))) aK) (qs (aX (aA (cA 40 (uE j)) q_r ay (au _)) (qs (aj (i:=3) bX.nd (aY aO q_r (aa v j rfl ai))) (qs (aj (i:=3) bX.nd (aY aO q_r (aa v j rfl ai))) (aS (ao (aY aO (bC (qa ay (qa (aa w j rfl ai) ah))) (dX false q_r (aQ aB) bx)))))) aK) (qs (aX (aA (cA 40 (uE j)) q_r ay (au _)) (aS (ao (aY aO (bC (qa ay (qa (aa w j rfl (qa q_r (qa (aY aO q_r (aa v j rfl ai)) ah))) ah))) (dX false q_r (aQ aB) bx)))) aK) (qs (aX (aA (cA 40 (uE j)) q_r ay (au _)) (aS (ao (aY aO (bC (qa ay (qa (aa w j rfl (qa q_r (qa (aY aO ay (aa cT j rfl ai)) ah))) ah))) (dX false q_r (aQ aB) bx)))) aK) (qs (aX (aA (cA 40 (uE j)) q_r ay (au _)) (qs (aj (i:=3) bX.nd (aY aO (aY aO (dO ay (qa (bE (cS ["_law_name"] [] []) rfl (qi q_r) (λ_ _ _ _=>(qx (i:=0) xw)) (λ_ _ _ _=>aR) (λ_ _ _ _=>q_r)) ah)) (iR (bD ai) (aD AH (by rfl) J.wN boot_int (qa (cV (cA 40 (uE j)) q_r q_r (au _)) ah)))) q_r)) (qs (aX (aA (j4 40 (uE j)) q_r q_r (au _)) (aS (aj (i:=3) bX.nd (aY aO q_r (dO ay (qa (bE (cS ["_law_one"] [] []) rfl (qi q_r) (λ_ _ _ _=>(qx (i:=0) xw)) (λ_ _ _ _=>aR) (λ_ _ _ _=>(aa v j rfl ai))) ah))))) aK) (aS (ao (aY aO (bC (qa ay (qa (aa w j rfl ai) ah))) (dX false q_r (aQ aB) bx)))))) aK) (aS (ao (aa vM j rfl ai))))))))))),?_⟩;rintro ds S kk hc hd ⟨r,s,R,rfl,o,d,O,L,h⟩;have u:R.length<=1000:=by lia
 have y1:(Str.ofString " ").length=1:=by symm
 have y2:(Str.ofString " = ").length=3:=by symm
 have y3:(Str.ofString " at ").length=4:=by symm
 have y4:(Str.ofString "let ").length=4:=by symm
 have y5:(Str.ofString "put ").length=4:=by symm
 have y6:(Str.ofString "row ").length=4:=by symm
 have y7:(Str.ofString "claim ").length=6:=by symm
 have Y:(Str.ofString ", ").length=2:=by symm
 have y9:(Str.ofString "call ").length=5:=by symm
 have I:(Str.ofString "").length=0:=by symm
 have y11:(Str.ofString "= ").length=2:=by symm
 cases s with
 |lt a x s=>
  unfold lay at h;unfold iZ rws at h;unfold iP;unfold dF at d;have N:=bA d.2;exact⟨true,eK,sZ,sZ,s,M,d.2,sZ,r,_,R,M,o,u,dw h⟩
 |dv a x wd s b=>
  unfold lay at h;unfold iZ rws at h;unfold iP;unfold dF at d;have N:=bA d.2.2.1;have l2:=bA d.2.2.2;refine⟨false,nK,true,eK,sZ,sZ,s,M,d.2.2.1,sZ,sZ,sZ,sZ,b,M,d.2.2.2,sZ,r,_,R,M,o,u,o4 (by simp),?_⟩;rw[cJ];exact⟨sz 6,dw h⟩
 |ft a x r0 p=>
  unfold lay at h;unfold iZ rws at h;unfold iP;unfold dF at d;have N:=bA d.2.2;refine⟨false,nK,false,nK,true,eK,sZ,sZ,sZ,sZ,p,M,d.2.2,sZ,r,_,R,M,o,u,o4 (by simp),?_⟩;rw[cJ];exact⟨sz 5,dw h⟩
 |pt a r0 p s=>
  unfold lay at h;unfold iZ rws at h;unfold iP;unfold dF at d;have N:=bA d.2.1;have l2:=bA d.2.2;refine⟨false,nK,false,nK,false,nK,true,eK,sZ,sZ,p,M,d.2.1,sZ,sZ,s,M,d.2.2,sZ,r,_,R,M,o,u,o4 (by simp),?_⟩;rw[cJ];exact⟨sz 5,dw h⟩
 |mq a r0 z=>
  unfold lay at h;unfold iZ rws at h;unfold iP;unfold dF at d;have N:=bA d.2;refine⟨false,nK,false,nK,false,nK,false,nK,true,eK,sZ,sZ,z,M,d.2,sZ,r,_,R,M,o,u,o4 (by simp),?_⟩;rw[cJ];exact⟨sz 4,dw h⟩
 |cm a c=>
  unfold lay at h;unfold iZ rws at h;unfold iP;unfold dF at d;have lc:=iK d;refine⟨false,nK,false,nK,false,nK,false,nK,false,nK,true,eK,c,M,d.dep,d.g,d.sz,sZ,r,_,R,M,o,u,o4 (by simp),?_⟩;rw[cJ];exact⟨sz 3,dw h⟩
 |cl a m W g=>
  unfold lay at h;unfold iZ rws at h;unfold iP;unfold dF at d;obtain⟨N,g1,l2,l3,g2⟩:=d;have b1:=oZ "" (m.map λx=>x++(" ":Str));have b2:=fZ (jcx:=101) (l:=m.map λx=>x++(" ":Str)) λx G=>by
   obtain⟨y,X,rfl⟩:=jap.mp G;have:=g1 y X;rw[aV];lia
  have Z:=oZ ", " (g.map ig);have b4:=fZ (jcx:=700) (l:=g.map ig) λx G=>by
   obtain⟨y,X,rfl⟩:=jap.mp G;exact bA (g2 y X)
  rw[I,Nat.mul_zero] at b1;rw[jad] at b2 Z b4;rw[Y] at Z;have eb:jY [T.str (Str.ofString "= "),T.str (Str.ofString "")] (if(xor false (decide (m.map T.str=[])))=true then 1 else 0)=some (T.str (if m=[] then("":Str) else "= ")):=by
   by_cases Q:m=[]
   .rw[jab Q,jah (by rw[Q];rfl)];rfl
   .rw[jaa Q,jai (λz=>Q (jb7.mp z))];rfl
  have hel:(if m=[] then("":Str) else "= ").length<=2:=by split<;>lia
  have hB:(qM m W).length<=1000:=by unfold qM;simp only[aV];lia
  refine⟨false,nK,false,nK,false,nK,false,nK,false,nK,false,nK,true,eK,M,dM ?_⟩;refine cG T.str (λx=>T.str (x++(" ":Str))) trivial (cH (by lia)) (λx G k' hk=>⟨cH (by have:=g1 x G;lia),_,M,hk⟩) ?_;refine⟨m.map λx=>x++(" ":Str),by rw[jas];rfl,by rw[jad];show _+_*(Str.ofString "").length<=16777216;rw[I];lia,?_⟩;refine .inr ⟨M,oe eb ⟨cH (by lia),cH (by simp only[aV];lia),?_⟩⟩;have eB:(Txt.join (Str.ofString "") (m.map λx=>x++(" ":Str))++(if m=[] then("":Str) else "= "))++W=qM m W:=rfl;rw[eB];unfold AB at h;refine .inr ⟨M,?_⟩;by_cases q:g=[]
  .rw[jab q] at h;refine⟨false,jac D.bl (Ma q),sZ,r,_,R,M,o,u,o4 (by simp),?_⟩;rw[cJ];exact⟨sz 5,dw h⟩
  .rw[jaa q] at h;refine⟨true,jac D.bl (Ab q),sZ,M,dM ?_⟩;refine cG g9 (λs=>T.str (ig s)) trivial (cH (by lia)) (λx G k' hk=>⟨x,M,g2 x G,_,M,hk⟩) ?_;refine⟨g.map ig,by rw[jas];rfl,by rw[jad];show _+_*(Str.ofString ", ").length<=16777216;rw[Y];lia,sZ,sZ,r,_,R,M,o,u,o4 (by simp),?_⟩;rw[cJ];exact⟨sz 5,dw h⟩
 |ch a c t e=>
  have C:iP (.ch a c t e)=iP (.ch a c t e):=rfl
  conv at C=>rhs;unfold iP
  rw[C];exact⟨false,nK,false,nK,false,nK,false,nK,false,nK,false,nK,false,nK,r,.ch a c t e,R,by rw[C],jaH M,o,d,O,L,dw h⟩
 |rp a c V f b=>
  have C:iP (.rp a c V f b)=iP (.rp a c V f b):=rfl
  conv at C=>rhs;unfold iP
  rw[C];exact⟨false,nK,false,nK,false,nK,false,nK,false,nK,false,nK,false,nK,r,.rp a c V f b,R,by rw[C],jaH M,o,d,O,L,dw h⟩
abbrev jH:Stmt:=top 95
def b6:ak ["_law_step_here","_law_rows","_law_at","_law_then","_law_other","_law_holds","_law_falls","_law_body"] ["_law_step_here","_law_rows"] (af jH):=cB
def xh (J:F5 P A)(eT:uy P k n)(L:jg P k)(bF:iC P k)(cT:ng P k)(F:bW P.K "_law_laid_block" "_law_laid_block" jH f fd):cy P (k+1) f fd ["_law_step_here","_law_rows"] (tu (n+1)):=by
 refine aP [_,_,_,_,_,_,_,_] F b6 rfl λAT B V s H E u=>?_;refine⟨_,(qs (aX (aA (cA 40 (uE u)) q_r ay (au _)) (qs (aj (i:=2) b6.nd (aa L u rfl (qa q_r (qa (aY aO ay (aa cT u rfl ai)) ah)))) (qs (aj (i:=3) b6.nd (aD bf (by rfl) J.bg jaz (qa (bE (cS ["_law_one"] ["_law_rows"] [1]) rfl (qi q_r) (λ_ _ _ _=>(qx (i:=0) GP)) (λ_ _ _ _=>aR) (λ_ _ _ _=>(aa eT u rfl ai))) ah))) (qs (aX (aA (j4 40 (uE u)) q_r q_r (au _)) (aS (bM (dJ q_r ai))) aK) (qs (aj (i:=4) b6.nd (aD bf (by rfl) J.bg jaz (qa (bE (cS ["_law_one"] ["_law_rows"] [1]) rfl (qi q_r) (λ_ _ _ _=>(qx (i:=0) GP)) (λ_ _ _ _=>aR) (λ_ _ _ _=>(aa eT u rfl ai))) ah))) (qs (bM (dJ q_r ai)) (aS (ao q_r))))))) aK) (qs (aj (i:=2) b6.nd (aa L u rfl (qa q_r (qa (aY aO ay (aa cT u rfl ai)) ah)))) (qs (aj (i:=5) b6.nd (aD bf (by rfl) J.bg jaz (qa (bE (cS ["_law_one"] ["_law_rows"] [1]) rfl (qi q_r) (λ_ _ _ _=>(qx (i:=0) GP)) (λ_ _ _ _=>aR) (λ_ _ _ _=>(bC (qa (aa L u rfl (qa q_r (qa (aY aO ay (aa cT u rfl ai)) ah))) ai)))) ah))) (qs (aj (i:=6) b6.nd wm) (qs (aX (aA Er q_r wm (au _)) (aS (aj (i:=6) b6.nd (bC (qa (aa L u rfl (qa q_r (qa (aY aO ay (aa bF u rfl ai)) ah))) ai)))) aK) (qs (aj (i:=7) b6.nd (aD bf (by rfl) J.bg jaz (qa (bE (cS ["_law_one"] ["_law_rows"] [1]) rfl (qi q_r) (λ_ _ _ _=>(qx (i:=0) GP)) (λ_ _ _ _=>aR) (λ_ _ _ _=>(aa eT u rfl ai))) ah))) (qs (bM (dJ q_r ai)) (aS (ao q_r))))))))),?_⟩;rintro ds S kk hc hd ⟨r,s,R,rfl,W,e0,q,C,x,h⟩;have j:=(jar.mp e0).1;have ls:∀{l:List cD}{m:Nat},gY l->jX l<n->m+(aJ l).length<=1000->∀s∈l,∀(v:jcB)(U:Option T->aI->Prop),v.length+(rws s).length<=m+(aJ l).length->U (some (iZ (lay v.length s))) (S.set r (O.lst ((v++rws s).map T.str)))->yN n [D.t (iP s),D.ob r] (S.set r (O.lst (v.map T.str))) λd S1=>∃t,d=.t t/\U (some t) S1:=λg hd hm s o v U hR hk=>
  ⟨r,s,v,M,eZ j,gJ g o,by have:=k7 o;lia,by lia,by rw[jao];exact⟨_,M,hk⟩⟩
 have Y:∀(v:jcB)(y:Str),(S.set r (O.lst (v.map T.str))).set r (O.lst (v.map T.str++[T.str y]))=S.set r (O.lst ((v++[y]).map T.str)):=λv y=>by rw[jao,jau];rfl
 cases s with
 |ch a c t e=>
  rw[WT] at h;rw[TF] at x;unfold dF at q;obtain⟨q,X,g2,l1,l2⟩:=q;unfold cD.dp at C;have lc:=iK q;have y7:(Str.ofString "if ").length=3:=by symm
  unfold iP;rw[gc,gc];refine⟨true,eK,c,M,q.dep,q.g,q.sz,sZ,r,_,R,M,e0,by lia,dM ?_⟩;refine yk (F:=λR=>S.set r (O.lst (R.map T.str))) (n:=R.length+1) (R2:=R++(pre "if " c::aJ t)) (by lia) (by simp) (by unfold pre;simp) (λ_=>trivial) (ls X (by lia) (by lia)) ?_;dsimp only[bR];refine UU ?_
  try dsimp only[d8]
  show fV _ _ _ [some (D.tup [T.str "choose",gD c,T.tup (t.map iP),T.tup (e.map iP)]),some (D.ob r),some (D.int R.length),some (D.tup ((dg (R.length+1) t).map iZ)),none,none,none,none] _;refine Vf (λZ G=>Z=[some (D.tup [T.str "choose",gD c,T.tup (t.map iP),T.tup (e.map iP)]),some (D.ob r),some (D.int R.length),some (D.tup ((dg (R.length+1) t).map iZ)),none,none,none,none]/\G=S.set r (O.lst ((R++(pre "if " c::aJ t)++(if e=[] then[] else[("else":Str)])).map T.str))) (λN I=>?_) ?_
  .refine .inr ⟨M,?_⟩;by_cases z:e=[]
   .subst z;exact⟨false,M,I _ _ ⟨M,by rw[jab M,jaD]⟩⟩
   .refine⟨true,jac D.bl (Ab z),⟨M,_,bG (eZ j)⟩,_,eZ j,nq (by rw[jaa z] at x;simp;lia),I _ _ ⟨M,by rw[jaa z];exact Y _ _⟩⟩
  rintro Z G ⟨rfl,rfl⟩;refine dM ?_;refine yk (F:=λR=>S.set r (O.lst (R.map T.str))) (n:=R.length+1+(aJ t).length+(if e=[] then 0 else 1)) (R2:=R++((pre "if " c::aJ t)++(if e=[] then[] else("else":Str)::aJ e))) (by lia) (by split<;>simp<;>lia) (by split<;>(rename_i z;simp[z,aJ])) (λ_=>trivial) (ls g2 (by lia) (by lia)) ?_;dsimp only[bR];refine UU ?_;refine⟨⟨M,_,bG (eZ j)⟩,_,eZ j,nq (by split at x<;>simp[*]<;>lia),?_⟩;rw[Y];refine dw ?_;unfold rws at h;rw[<- jax] at h;exact h
 |rp a c o f b=>
  rw[WS] at h;rw[Qz] at x;unfold dF at q;obtain⟨q,lh,gh,gf,X,l1⟩:=q;unfold cD.dp at C;have lc:=iK q;have y7:(Str.ofString "while ").length=6:=by symm
  have y8:(Str.ofString "holds ").length=6:=by symm
  have y9:(Str.ofString "falls ").length=6:=by symm
  unfold iP;rw[gc];refine⟨false,nK,c,M,q.dep,q.g,q.sz,sZ,r,_,R,M,e0,by lia,dM ?_⟩;refine Ex (F:=λR=>S.set r (O.lst (R.map T.str))) (w:="holds ") (n:=R.length+1) (R2:=R++(pre "while " c::o.map λp=>pre "holds " p.2)) (by lia) (by simp) (by unfold pre;simp) (λ_=>trivial) (λp Q v U hR hk=>?_) ?_
  .have hpk:=gh p Q;have lp:=iK hpk;exact⟨p.2,M,hpk.dep,hpk.g,hpk.sz,sZ,r,_,v,M,eZ j,by lia,by rw[jao];exact⟨_,M,hk⟩⟩
  dsimp only[bR];refine UU ?_
  try dsimp only[d8]
  refine a65 ?_;show fV _ _ _ [some (D.tup [T.str "repeat",gD c,T.tup (o.map λp=>gD p.2),faD f,T.tup (b.map iP)]),some (D.ob r),some (D.int R.length),none,none,some (D.tup ((eS (R.length+1) o).map M0)),some .dD,none] _;refine Vf (λZ G=>Z=[some (D.tup [T.str "repeat",gD c,T.tup (o.map λp=>gD p.2),faD f,T.tup (b.map iP)]),some (D.ob r),some (D.int R.length),none,none,some (D.tup ((eS (R.length+1) o).map M0)),some (.t (faR (f.map λp=>(((R.length+1+o.length:Nat):Int),p.2)))),none]/\G=S.set r (O.lst ((R++((pre "while " c::o.map λp=>pre "holds " p.2)++EG f)).map T.str))) (λN I=>?_) ?_
  .cases f with
   |none=>exact⟨false,M,I _ _ ⟨M,by show _=S.set r (O.lst ((R++(_++[])).map T.str));rw[jaD]⟩⟩
   |some p=>
    have Q:=gf p rfl;have lp:=bA Q;refine⟨true,M,p.2,M,Q,sZ,r,_,R++(pre "while " c::o.map λp=>pre "holds " p.2),M,eZ j,by simp;lia,?_⟩;rw[jao];have e1:(R++(pre "while " c::o.map λp=>pre "holds " p.2)).length=R.length+1+o.length:=by simp;lia
    rw[e1];exact I _ _ ⟨M,by rw[jax];rfl⟩
  rintro Z G ⟨rfl,rfl⟩;refine dM ?_;refine yk (F:=λR=>S.set r (O.lst (R.map T.str))) (n:=R.length+1+o.length+(EG f).length) (R2:=R++((pre "while " c::o.map λp=>pre "holds " p.2)++EG f++aJ b)) (by lia) (by simp;lia) (by simp) (λ_=>trivial) (ls X (by lia) (by lia)) ?_;dsimp only[bR];refine UU ?_;refine⟨⟨M,_,bG (eZ j)⟩,_,eZ j,nq (by simp;lia),?_⟩;rw[Y];refine dw ?_;unfold rws at h;rw[<- jax] at h;exact h
 |_=>exact absurd W (jaH M)
abbrev zp:Stmt:=top 96
def c8:ak ["_law_helpers","_law_rows","_law_told","_law_name","_law_params","_law_answers","_law_needs","_law_gives","_law_steps_here","_law_at","_law_asked","_law_given","_law_laid_here"] ["_law_helpers"] (af zp):=cB
def NV (J:F5 P A)(eT:eg P k "_law_laid_step" ["_law_step_here","_law_rows"] (yN 9))(bq:jg P k)(cT:ng P k)(F:bW P.K "_law_laid" "_law_laid" zp f fd):cy P (k+1) f fd ["_law_helpers"] yO:=by
 refine aP [_,_,_,_] F c8 rfl λAT B outer s H E a=>?_;refine⟨_,(qs (aj (i:=1) c8.nd (dH ah)) (qs (aj (i:=2) c8.nd (dH ah)) (qs (eY jaO rfl (qi q_r) (jP (n:=6) rfl (rC (qg (i:=3) c8.nd) (rC (qg (i:=4) c8.nd) (rC (qg (i:=5) c8.nd) (rC (qg (i:=6) c8.nd) (rC (qg (i:=7) c8.nd) (rC (qg (i:=8) c8.nd) gW))))))) (qs (aj (i:=9) c8.nd (aa bq a rfl (qa q_r (qa (dO ay (qa (aY aO (bD ai) (aD rR (by rfl) J.rS boot_list ai)) ah)) ah)))) (qs (aX (aA (j4 40 (uE a)) q_r q_r (au _)) (aS (bM (dJ q_r (qa (dO ay (qa (aY aO (bD ai) (aD rR (by rfl) J.rS boot_list ai)) ah)) ah)))) aK) (qs (aj (i:=10) c8.nd (aD bf (by rfl) J.bg jaz (qa (bE (cS ["_law_one"] ["_law_rows"] [1]) rfl (qi q_r) (λ_ _ _ _=>(qx (i:=0) GP)) (λ_ _ _ _=>aR) (λ_ _ _ _=>(bC (qa (aa bq a rfl (qa q_r (qa (aY aO ay (aa cT a rfl ai)) ah))) ai)))) ah))) (qs (aj (i:=11) c8.nd (aD bf (by rfl) J.bg jaz (qa (bE (cS ["_law_one"] ["_law_rows"] [1]) rfl (qi q_r) (λ_ _ _ _=>(qx (i:=0) GP)) (λ_ _ _ _=>aR) (λ_ _ _ _=>(bC (qa (aa bq a rfl (qa q_r (qa (aY aO ay (aa cT a rfl ai)) ah))) ai)))) ah))) (qs (aj (i:=12) c8.nd (aD bf (by rfl) J.bg jaz (qa (bE (cS ["_law_one"] ["_law_rows"] [1]) rfl (qi q_r) (λ_ _ _ _=>(qx (i:=0) GP)) (λ_ _ _ _=>aR) (λ_ _ _ _=>(aa eT a rfl ai))) ah))) (qs (bM (dJ q_r ai)) (aS (bM (dJ q_r ai)))))))))) (aS (ao (bC (qa (dO ay (qa (bE (cS ["_law_row"] [] []) rfl (qi q_r) (λ_ _ _ _=>(qx (i:=0) xw)) (λ_ _ _ _=>aR) (λ_ _ _ _=>q_r)) ah)) (qa (aD bf (by rfl) J.bg jaz ai) ah)))))))),?_⟩;rintro ds S kk hc hd ⟨d,u,rfl,hd2,a8k,hg,Q,h⟩;refine Qp ?_;refine Qp ?_;rw[jag,jax];refine(Ss (a4K hd2) λG hG=>nB jW (λc Z v=>∃C z2 z3 z4 z5 z6 z7 z8 Y z0,Z=[some d,some (D.ob (S.length+0)),some (D.ob (S.length+1)),C,z2,z3,z4,z5,z6,z7,z8,Y,z0]/\v=S++[O.lst (((c.map aL).flatten).map T.str),O.lst ((bH 0 c).map EB)]) ⟨_,_,_,_,_,_,_,_,_,_,M,M⟩ ?_ ?_)
 .rintro c x post Z v N e ⟨C,z2,z3,z4,z5,z6,z7,z8,Y,z0,rfl,rfl⟩ X;obtain⟨I,gd⟩:=hg x (by rw[e];simp);obtain⟨p1,p2,p3,p4,p5⟩:=I.pl;have h3:((c.map aL).flatten).length+(aL x).length<=600:=by rw[e] at Q;simp only[jau,jaf,jby,jaG,jag] at Q;lia
  have hlr:(bH 0 c).length<=3:=by rw[e,jag] at a8k;rw[pQ];lia
  have eH:=vB c [x] 0;rw[Nat.zero_add] at eH;have q:((c++[x]).map aL).flatten=(c.map aL).flatten++aL x:=by simp
  rw[pS] at h3 q;have er:=X;generalize hR:(c.map aL).flatten=R at h3 eH q;generalize L:(bH 0 c).map EB=tl;have b0o:tl.length<=3:=by rw[<- L,jad];exact hlr
  have hW:∀R b:jcB,(S++[O.lst (R.map T.str),O.lst tl]).set (S.length+0) (O.lst (b.map T.str))=S++[O.lst (b.map T.str),O.lst tl]:=λR b=>by rw[cM];rfl
  have hA:∀(R:jcB)(y:Str),(S++[O.lst (R.map T.str),O.lst tl]).set (S.length+0) (O.lst (R.map T.str++[T.str y]))=S++[O.lst ((R++[y]).map T.str),O.lst tl]:=λR y=>by rw[cM,jau];rfl
  have pk:∀(w:Str)(l:List (Int×bT)) (m:Nat),w.length<=100->(∀p∈l,AV p.2)->m+l.length<=900->∀p∈l,∀(b:jcB)(V:Option T->aI->Prop),b.length<m+l.length->V (some (M0 ((b.length:Int),p.2))) (S++[O.lst ((b++[pre w p.2]).map T.str),O.lst tl])->mj 3 [D.t (gD p.2)] (S++[O.lst (b.map T.str),O.lst tl]) λy U=>Xv (D.str w) y U λy U=>xY [D.ob (S.length+0),y] U λy U=>Fb [y,D.t (gD p.2)] λl=>∃t,D.t (T.tup l)=.t t/\V (some t) U:=λw l m hw hl hm p hp b V hR hk=>by
   have o:=hl p hp;have lp:=iK o;exact⟨p.2,M,o.dep,o.g,o.sz,sZ,S.length+0,_,b,M,aZ,by lia,by rw[hW];exact⟨_,M,hk⟩⟩
  simp only[jag,jam,jbb,jad,uu] at h3;refine⟨hG _,_,M,M,_,_,M,_,_,M,_,_,M,_,_,M,_,_,M,_,_,M,M,M,_,_,M,M,cH (by simp;lia),[("helper":Str),x.name]++x.params,by rw[jau];rfl,jb (a5f I) (by simp;lia),S.length+0,_,R,M,aZ,by lia,?_⟩;rw[hW]
  try dsimp only[d8]
  refine Vf (λZ' v=>Z'=[some d,some (D.ob (S.length+0)),some (D.ob (S.length+1)),some (D.str x.name),some (D.t (nX x.params)),some (D.t (nX x.answers)),some (D.tup (x.needs.map λp=>gD p.2)),some (D.tup (x.gives.map λp=>gD p.2)),some (D.tup (wV x.steps)),some (D.int R.length),z8,Y,z0]/\v=S++[O.lst ((R++([Txt.join " " ([("helper":Str),x.name]++x.params)]++HF x)).map T.str),O.lst tl]) (λN X=>?_) ?_
  .by_cases ha:x.answers=[]
   .have ea:HF x=[]:=by unfold HF;rw[jab ha]
    refine .inr ⟨M,false,jac D.bl (Ma ha),X _ _ ⟨M,by rw[ea,jaD]⟩⟩
   .have ea:HF x=[Txt.join (Str.ofString " ") ([("answers":Str)]++x.answers)]:=by unfold HF;rw[jaa ha]
    refine .inr ⟨M,true,jac D.bl (Ab ha),⟨M,_,bG aZ⟩,M,_,_,M,M,cH (by simp;lia),[("answers":Str)]++x.answers,by rw[jau];rfl,jb (a5M I) (by simp;lia),_,aZ,nq (by simp;lia),X _ _ ⟨M,by rw[hA,ea,jax]⟩⟩
  rintro Z' v ⟨rfl,rfl⟩;generalize eR1:[Txt.join " " ([("helper":Str),x.name]++x.params)]++HF x=R1 at q;have l1:R1.length=1+E7 x:=by rw[<- eR1,jag,uu];rfl
  refine dM ?_;refine Ex (F:=λR=>S++[O.lst (R.map T.str),O.lst tl]) (w:="needs ") (n:=R.length+1+E7 x) (by lia) (by rw[jag];lia) rfl (λ_=>trivial) (pk _ _ _ (by symm) I.nd (by lia)) ?_;dsimp only[bR];refine UU ?_;refine dM ?_;refine Ex (F:=λR=>S++[O.lst (R.map T.str),O.lst tl]) (w:="gives ") (n:=R.length+1+E7 x+x.needs.length) (by lia) (by simp only[jag,jad];lia) rfl (λ_=>trivial) (pk _ _ _ (by symm) I.gv (by lia)) ?_;dsimp only[bR];refine UU ?_;rw[gc];refine dM ?_;refine yk (F:=λR=>S++[O.lst (R.map T.str),O.lst tl]) (n:=R.length+1+E7 x+x.needs.length+x.gives.length) (by lia) (by simp only[jag,jad];lia) rfl (λ_=>trivial) (λs u b V hR hk=>?_) ?_
  .exact⟨S.length+0,s,b,M,aZ,gJ I.st u,by have:=k7 u;lia,by lia,by rw[hW];exact⟨_,M,hk⟩⟩
  dsimp only[bR];refine UU ?_;refine⟨⟨M,_,bG aZ⟩,_,aZ,nq (by simp only[jag,jad];lia),?_⟩;rw[hA];refine⟨⟨M,_,bG (aZ (j:=1))⟩,_,aZ (j:=1),nq (by lia),?_⟩;rw[cM (j:=1)];refine er _ _ ⟨_,_,_,_,_,_,_,_,_,_,M,?_⟩;rw[q,eH,jau (l₂:=bH _ _),L];simp[bH,JN,EB,gK]
 .rintro Z v ⟨C,z2,z3,z4,z5,z6,z7,z8,Y,z0,rfl,rfl⟩;have C:("\n":Str).length=1:=by symm
  have W:∀r∈(u.map aL).flatten,r.length<=25000:=λr a=>by
   obtain⟨l,hl,a⟩:=List.mem_flatten.mp a;obtain⟨x,hx,rfl⟩:=jap.mp hl;exact lN (hg x hx).1 r a
  refine⟨hG _,M,a1J (aZ (j:=0)) ?_⟩;refine cG T.str (λr=>T.str (r++("\n":Str))) (aZ (j:=0)) (cH (by lia)) (λr a V hk=>⟨iY (by rw[C];have:=W r a;lia),_,M,hk⟩) ?_;refine⟨((u.map aL).flatten).map λr=>r++("\n":Str),by rw[jas];rfl,?_,oe (fX (aZ (j:=1))) (vL hc ?_)⟩
  .have:=fZ (jcx:=25001) (l:=((u.map aL).flatten).map λr=>r++("\n":Str)) λx hx=>by
    obtain⟨y,hy,rfl⟩:=jap.mp hx;have:=W y hy;rw[aV,C];lia
   rw[jad] at this ⊢;have z:(Str.ofString "").length=0:=by symm
   rw[z];lia
  .exact h
abbrev zq:Stmt:=top 81
def Cr:ak ["_law_words"] [] (af zq):=cB
def NW (J:F5 P A)(F:bW P.K "_law_kept" "_law_kept" zq f fd):cy P (k+1) f fd [] P9:=by
 refine aP [_,_] F Cr rfl λe B a s H E g=>?_;refine⟨_,(qs (aj (i:=0) Cr.nd (D8 M)) (aS (ao (aY aO q_r (D8 M))))),?_⟩;rintro b S j d c ⟨rfl,h⟩;refine⟨sz 13,sz 8,_,_,M,M,sz 21,dw ?_⟩;unfold Bu oY at h;rw[jau] at h;exact h
abbrev vh:Stmt:=top 80
def b8:ak ["_law_draw","_law_many","_law_some","_law_size","_law_place","_law_base","_law_shift","_law_kept_here","_law_alike","_law_names_here","_law_k","_law_word","_law_turn"] ["_law_draw","_law_many"] (af vh):=cB
def JB (J:F5 P A)(Kp:Fj P k)(az:c5 P k)(F:bW P.K "_law_names" "_law_names" vh f fd):cy P (k+1) f fd ["_law_draw","_law_many"] Iv:=by
 refine aP [_,_,_,_,_,_,_,_,_,_] F b8 rfl λAT B outer s H E G=>?_;refine⟨_,(qs (aj (i:=2) b8.nd ay) (qs (aj (i:=3) b8.nd (aY aO aB (aa az G rfl ai))) (qs (aj (i:=4) b8.nd (aa az G rfl ai)) (qs (Gh (i:=5) b8.nd (cS ["_law_k"] ["_law_some","_law_draw"] [2,0]) rfl (jO rfl J.gp ai) (λ_ _ _ _=>(qx (i:=0) nd3)) (λ_ _ _ _=>aR) (λ_ _ _ _=>(iR q_r (aa az G rfl ai)))) (qs (aj (i:=6) b8.nd (aa az G rfl ai)) (qs (aj (i:=7) b8.nd (D8 M)) (qs (aj (i:=8) b8.nd (cV (cA 40 (uE G)) (aa az G rfl ai) aB (au _))) (qs (aj (i:=9) b8.nd (dH ah)) (qs (eY jaO rfl (jO rfl J.gp ai) (qg (i:=10) b8.nd) (qs (rB q_r (a0a q_r q_r)) (qs (aj (i:=11) b8.nd (dO ay ai)) (qs (aX (qw (jN (vn q_r) (iJ (aA zY q_r aB (au _))))) (aS (aj (i:=11) b8.nd q_r)) aK) (qs (aj (i:=12) b8.nd aB) (qs (lG jaO (qw (tN (aA Bt q_r q_r (by rfl)) (mR (aA Bt q_r (VH Kp G M) (by rfl))))) (qs (Z8 (i:=12) b8.nd aB Sv) (aS (aj (i:=11) b8.nd q_r)))) (aS (bM (dJ q_r ai))))))))) (aS (ao q_r))))))))))),?_⟩;rintro ds S kk hc hd ⟨d,m,rfl,hm8,I,h⟩;have Y:=I.lt;refine⟨d,8,M,I,by first | decide | lia,λC cr1 mr1 hr1=>?_⟩;refine⟨d,_,M,I.bN,by lia,λR cr2 mr2 hr2=>?_⟩;rw[cF];refine⟨(1+(C:Int)),M,by lia,by lia,?_⟩;have e1:(1+(C:Int)).toNat=C+1:=by lia
 rw[e1];refine vK (n:=C+1) I (λy=>∃x,y=T.str x/\HL x) (by lia) (λi c9 m9 W hk=>?_) λys c9 m9 hl hp=>?_
 .refine⟨d,26,M,I.bN,by first | decide | lia,λr cr mr G=>?_⟩;rw[cF];have X:r<26:=by lia
  exact⟨p8,_,Ue X,_,M,hk _ _ _ ⟨_,M,Me X⟩⟩
 obtain⟨u,rfl,Q,v⟩:=ex_map hp;rw[jad] at hl;rw[bB];refine⟨d,26,M,I.bN.up,by first | decide | lia,λU YK Yk AY=>?_⟩;rw[mX (by rw[bB];exact Y),cF];refine⟨sz 12,d,3,M,I.bN.up,by first | decide | lia,λr4 YJ Yj hr4=>?_⟩;rw[mX (by rw[bB];exact Y),cF];refine a68 ?_;generalize hal:xor false (decide (V.int (r4:Int)=V.int 1))=al
 try dsimp only
 refine ZS ?_;rw[jag,bB,jax];generalize YJ=c;generalize Yj=m0;refine⟨(m:Int),M,by lia,by lia,?_⟩;rw[jbz];refine pU (λi Z p=>∃y z w,∃u g:jcB,Z=[some (D.ob d),some (D.int m),some (D.str abc),some (D.int (1+(C:Int))),some (D.int R),some (D.ob (S.length+0)),some (D.int U),some (D.t (Bu qJ)),some (D.bl al),some (D.ob (S.length+1)),y,z,w]/\p=bN S d c m0++[O.lst (u.map T.str),O.lst (g.map T.str)]/\u.length=C+1/\(∀x∈u,HL x)/\g.length=i/\g.Nodup/\∀x∈g,isNm x=true) ⟨_,_,_,u,[],M,M,by lia,v,M,.nil,λ_ h=>absurd h jaB⟩ ?_ ?_
 .rintro i x Z p N l ⟨y,z,w,u,g,rfl,rfl,Q,v,hnl,hnd,hnm⟩ hN;have hi:i<m:=by
   have:=(jar.mp l).1;simpa using this
  rw[jaF,jbx hi] at l;cases l;refine⟨trivial,.inl ⟨by decide,by decide⟩,(by show(0:Int)<26;decide),p8,_,uw _,S.length+0,R,_,_,M,M,M,cP (q:=0) bB,by rw[jad];lia,?_⟩;obtain⟨j,hss,a5d,W8⟩:∃j:jcB,(bN S d c m0++[O.lst (u.map T.str),O.lst (g.map T.str)]).set (S.length+0) (O.lst ((u.map T.str).set R (T.str ⟨#[97+(((U:Int)+5*(i:Int)) % 26).toNat]⟩)))=bN S d c m0++[O.lst (j.map T.str),O.lst (g.map T.str)]/\j.length=C+1/\∀x∈j,HL x:=by
   refine⟨u.set R ⟨#[97+(((U:Int)+5*(i:Int)) % 26).toNat]⟩,?_,by rw[jaP];exact Q,λx l=>?_⟩
   .rw[<- bB (S:=S) (d:=d) (c:=c) (m:=m0),cM,List.map_set];rfl
   .rcases jcf l with l | rfl
    .exact v x l
    .exact Ah _
  rw[hss];have hjo:=a1F W8 (by lia) (by lia);refine⟨M,j,bG (cP (q:=0) bB),?_,?_⟩
  .rw[FL j λx l=>(W8 x l).len];show _+_*0<=_;lia
  try dsimp only[d8]
  show Lr _ _ _ _ _;refine ur al (decide ((i:Int)<12)) (λW hk=>⟨_,M,hk⟩) (λW hk=>⟨_,M,hk⟩) ?_;cases o:(al&&decide ((i:Int)<12)) with
  |true=>
   obtain⟨x0,hx0,ex0⟩:=WV ((i:Int)+(U:Int));refine⟨(by show(0:Int)<12;decide),oe ex0 (?_)⟩;refine⟨λmm Z p=>∃(t:Nat)(w:Str),mm=30 - t/\Z=[some (D.ob d),some (D.int m),some (D.str abc),some (D.int (1+(C:Int))),some (D.int R),some (D.ob (S.length+0)),some (D.int U),some (D.t (Bu qJ)),some (D.bl al),some (D.ob (S.length+1)),some (D.int i),some (D.str w),some (D.int t)]/\p=bN S d c m0++[O.lst (j.map T.str),O.lst (g.map T.str)]/\NmW w/\t<=10/\(1<=t->w=zt i t)/\∀s,s+1<t->zt i (s+1)∈g,⟨30,0,x0,M,M,M,hx0,by lia,λh=>absurd h (by decide),λs h=>absurd h (by lia)⟩,?_⟩;rintro mm Z p ⟨t,w,rfl,rfl,rfl,hw,ht,hz,hm⟩;have ht8:t<=9:=by
    have:=OS (k:=(i:Int)) (xs:=g) (n:=t - 1) (by lia) λs hs=>hm s (by lia);lia
   refine Jv (decide (w∈g)) (decide (w∈oY)) (λW hk=>⟨_,_,_,M,M,fX (cP (q:=1) bB),ki g,_,jac D.bl (by rw[jaT,mW]),hk⟩) (λW hk=>⟨M,_,_,_,M,M,M,ki oY,_,jac D.bl (by rw[jaT,mW]),hk⟩) ?_;cases o:(decide (w∈g)||decide (w∈oY)) with
   |true=>
    refine⟨λZ' p=>∃m',m' < 30 - t/\_,λZ' p h=>h,?_⟩;refine⟨(t:Int),M,1,M,(by show(0:Int)<26;decide),p8,_,uw _,sz 2,(by show(0:Int)<26;decide),p8,_,uw _,sz 3,30 - (t+1),by lia,t+1,zt i (t+1),M,M,M,a2S _ _,by lia,λ_=>rfl,λs hs=>?_⟩;by_cases e:s+1=t
    .have hw2:=hz (by lia);rw[e,<- hw2];rcases Bool.or_eq_true_iff.mp o with h | h
     .exact jaH h
     .exact absurd (jaH h) (by rw[hw2];exact yx _ _)
    .exact hm s (by lia)
   |false=>
    have o:=jb4.mp o;have L:w∉g:=jbl o.1;refine⟨⟨M,_,bG (cP (q:=1) bB)⟩,_,cP (q:=1) bB,nq (by rw[jad];lia),?_⟩;have es:(bN S d c m0++[O.lst (j.map T.str),O.lst (g.map T.str)]).set (S.length+1) (O.lst (g.map T.str++[T.str w]))=bN S d c m0++[O.lst (j.map T.str),O.lst ((g++[w]).map T.str)]:=by
     rw[<- bB (S:=S) (d:=d) (c:=c) (m:=m0),cM,jau];rfl
    rw[es];refine hN _ _ ⟨_,_,_,j,g++[w],M,M,a5d,W8,by rw[jag,hnl];rfl,?_,λx l=>?_⟩
    .rw[jbA];exact⟨hnd,by simp,λa ha b o=>by rw[jal.mp o];exact λz=>L (z ▸ ha)⟩
    .rcases jan.mp l with l | l
     .exact hnm x l
     .rw[jal.mp l];exact Yi hw (jbl o.2)
  |false=>
   refine⟨λmm Z p=>∃(t:Nat)(w:Str),mm=30 - t/\Z=[some (D.ob d),some (D.int m),some (D.str abc),some (D.int (1+(C:Int))),some (D.int R),some (D.ob (S.length+0)),some (D.int U),some (D.t (Bu qJ)),some (D.bl al),some (D.ob (S.length+1)),some (D.int i),some (D.str w),some (D.int t)]/\p=bN S d c m0++[O.lst (j.map T.str),O.lst (g.map T.str)]/\NmW w/\t<=10/\(1<=t->w=zt i t)/\∀s,s+1<t->zt i (s+1)∈g,⟨30,0,_,M,M,M,hjo,by lia,λh=>absurd h (by decide),λs h=>absurd h (by lia)⟩,?_⟩;rintro mm Z p ⟨t,w,rfl,rfl,rfl,hw,ht,hz,hm⟩;have ht8:t<=9:=by
    have:=OS (k:=(i:Int)) (xs:=g) (n:=t - 1) (by lia) λs hs=>hm s (by lia);lia
   refine Jv (decide (w∈g)) (decide (w∈oY)) (λW hk=>⟨_,_,_,M,M,fX (cP (q:=1) bB),ki g,_,jac D.bl (by rw[jaT,mW]),hk⟩) (λW hk=>⟨M,_,_,_,M,M,M,ki oY,_,jac D.bl (by rw[jaT,mW]),hk⟩) ?_;cases o:(decide (w∈g)||decide (w∈oY)) with
   |true=>
    refine⟨λZ' p=>∃m',m' < 30 - t/\_,λZ' p h=>h,?_⟩;refine⟨(t:Int),M,1,M,(by show(0:Int)<26;decide),p8,_,uw _,sz 2,(by show(0:Int)<26;decide),p8,_,uw _,sz 3,30 - (t+1),by lia,t+1,zt i (t+1),M,M,M,a2S _ _,by lia,λ_=>rfl,λs hs=>?_⟩;by_cases e:s+1=t
    .have hw2:=hz (by lia);rw[e,<- hw2];rcases Bool.or_eq_true_iff.mp o with h | h
     .exact jaH h
     .exact absurd (jaH h) (by rw[hw2];exact yx _ _)
    .exact hm s (by lia)
   |false=>
    have o:=jb4.mp o;have L:w∉g:=jbl o.1;refine⟨⟨M,_,bG (cP (q:=1) bB)⟩,_,cP (q:=1) bB,nq (by rw[jad];lia),?_⟩;have es:(bN S d c m0++[O.lst (j.map T.str),O.lst (g.map T.str)]).set (S.length+1) (O.lst (g.map T.str++[T.str w]))=bN S d c m0++[O.lst (j.map T.str),O.lst ((g++[w]).map T.str)]:=by
     rw[<- bB (S:=S) (d:=d) (c:=c) (m:=m0),cM,jau];rfl
    rw[es];refine hN _ _ ⟨_,_,_,j,g++[w],M,M,a5d,W8,by rw[jag,hnl];rfl,?_,λx l=>?_⟩
    .rw[jbA];exact⟨hnd,by simp,λa ha b o=>by rw[jal.mp o];exact λz=>L (z ▸ ha)⟩
    .rcases jan.mp l with l | l
     .exact hnm x l
     .rw[jal.mp l];exact Yi hw (jbl o.2)
 .rintro Z p ⟨y,z,w,u,g,rfl,rfl,Q,v,hnl,hnd,hnm⟩;rw[jad,jbt] at hnl;exact⟨trivial,MO (Kf hc) bB rfl (h g c m0 hnl hnd hnm)⟩
abbrev DZ:Stmt:=top 82
def tL:ak ["_law_draw","_law_things","_law_found","_law_k","_law_number"] ["_law_draw","_law_things"] (af DZ):=cB
def RC (J:F5 P A)(p:c5 P k)(F:bW P.K "_law_sum" "_law_sum" DZ f fd):cy P (k+1) f fd ["_law_draw","_law_things"] Iz:=by
 refine aP [_,_,_,_] F tL rfl λAT B Q s H E l=>?_;refine⟨_,(qs (aj (i:=2) tL.nd QL) (qs (eY jaO rfl (jO rfl J.gp (qa (aY GH (iR (bD ai) (aa p l rfl ai)) (aD AH (by rfl) J.wN boot_int (qa (cV (j4 40 (uE l)) q_r (bD ah) (au _)) ah))) ah)) (qg (i:=3) tL.nd) (aS (D6 (qK l) q_r (iR q_r (aa p l rfl (qa q_r (qa (aH ck (by rfl) J.cu jaw ai) ah)))) (iR (bD (qa aB (qa aB (qa aB (qa (zB aB) (qa (zB aB) (qa aB (qa (zB aB) ai)))))))) (aa p l rfl ai))))) (qs (aj (i:=4) tL.nd (iR (bD (qa aB (qa aB (qa aB (qa (zB aB) (qa (aY Cv (aa p l rfl ai) aB) (qa (aa p l rfl ai) ah))))))) (aY GI (aa p l rfl ai) aB))) (aS (ao (bC (qa (aD bf (by rfl) J.bg jaz (qa (bE (cS ["_law_thing"] ["_law_found"] [2]) rfl (qi (aH (MT M) (by rfl) J.HD boot_sorted ai)) (λ_ _ _ _=>(qx (i:=0) GP)) (λ_ _ _ _=>aR) (λ_ _ _ _=>(bC (qa q_r (qa (Jm (qK l) q_r q_r) ah))))) ah)) ai))))))),?_⟩;rintro ds S kk hc hd ⟨d,x,N,rfl,g,hx,hn,U,h⟩;have q:=g.lt;have AP:∀{a b c m:Int}{n:aI},bN (bN S d a b++n) d c m=bN S d c m++n:=λ{a b c m n}=>by rw[mX (by rw[bB];exact q),cF]
 refine⟨d,7,M,g.up,by first | decide | lia,λr1 cr1 mr1 L=>?_⟩;rw[mX q];obtain⟨v,ev,hv⟩:=ZO L;refine(oe ev (yo (Mb (rG g hx)) ⟨.inr ?_,?_⟩))
 .split<;>exact⟨by decide,by decide⟩
 have hb:∃j:Nat,(v:Int)*(if(xor true (decide (N.map T.str=[])))=true then 1 else 0)=(j:Int)/\j<=3/\(0<j->N≠[]):=by
  cases N with
  |nil=>exact⟨0,by simp,by decide,λh=>absurd h (by decide)⟩
  |cons a r=>exact⟨v,by simp,by lia,λ_ h=>by cases h⟩
 obtain⟨j,ej,hj2,hjN⟩:=hb;refine⟨_,M,?_⟩;rw[ej];refine⟨by lia,by lia,?_⟩;rw[jbz];refine pU (λi Z R=>∃y c m e o w,Z=[some (D.ob d),some x,some (D.ob S.length),y,none]/\R=bN S d c m++[O.rN e]/\HJ N e o w/\e.length<=i) ⟨_,_,_,[],[],_,M,M,.nil,jaq _⟩ ?_ ?_
 .rintro i z Z R Nx hz ⟨y,c,m,e,o,w,rfl,rfl,tb,hl⟩ hN;have hi:=(jar.mp hz).1;rw[jad,jbt] at hi;have X:=hjN (by lia);have hNl:0<N.length:=ja0.mpr X;refine⟨trivial,d,8,M,g.bN.up,by first | decide | lia,λr2 cr2 mr2 u=>?_⟩;rw[AP];obtain⟨v2,ev2,W,Y⟩:=a16 u;refine(oe ev2 (?_));dsimp only[bR,nU,iX,br,Im,cE,Xx,lE];refine a1m (Mb (rG g hx)) ?_;refine⟨d,_,M,g.bN.up,by rw[jad];lia,λr3 G I AY=>?_⟩;rw[AP];rw[jad] at AY;obtain⟨y2,hy2,ey2⟩:=ja AY;obtain⟨V,tb',hl'⟩:=tb.put hy2 W Y;refine Yr (Mb (rG g hx)) ey2 ⟨S.length,e,Sum.inr y2,_,M,?_,M,M,nq (by lia),?_⟩
  .rw[<- bB (S:=S) (d:=d) (c:=G) (m:=I)];exact av
  have es:(bN S d G I++[O.rN e]).set S.length (O.rN (dput e (Sum.inr y2) (T.int v2)))=bN S d G I++[O.rN (dput e (Sum.inr y2) (T.int v2))]:=by
   rw[<- bB (S:=S) (d:=d) (c:=G) (m:=I),bO]
  rw[es];exact hN _ _ ⟨_,_,_,_,V,_,M,M,tb',by lia⟩
 .rintro Z R ⟨y,c,m,e,o,w,rfl,rfl,tb,hl⟩;rw[jad,jbt] at hl;refine⟨trivial,d,19,M,g.bN.up,by first | decide | lia,λr2 cr2 mr2 u=>?_⟩;rw[AP];refine⟨d,999999999,M,g.bN.up,by first | decide | lia,λr3 YK Yk AY=>?_⟩;rw[AP];refine⟨d,12,M,g.bN.up,by first | decide | lia,λr4 YJ Yj hr4=>?_⟩;rw[AP];obtain⟨nm,enm,hnm⟩:=a63 (a:=(r2:Int) - 9) (b:=(r3:Int)) ⟨by lia,by lia⟩ ⟨by lia,by lia⟩ (r4:Int);have C:∀c m,(bN S d c m++[O.rN e])[S.length]?=some (O.rN e):=λc m=>by rw[<- bB (S:=S) (d:=d) (c:=c) (m:=m)];exact av
  refine⟨(by show(0:Int)<6;decide),oe enm ⟨_,o,C _ _,tb.keys,tb.nd,by lia,ia ?_⟩⟩;have hsl:=s8 o;have hsn:o.length<=3:=by have:=jac List.length tb.keys;rw[jad,jad] at this;lia
  refine cG T.str (λx=>pT (x,w x)) trivial (cH (by lia)) (λt ht k' hk=>?_) ?_
  .exact⟨S.length,e,Sum.inr t,_,M,C _ _,M,(tb.val t (gM.mp ht)).1,_,M,hk⟩
  refine(YO hc ?_);have:=h _ YJ Yj (tb.sm (by lia) U hnm);unfold g9 at this;rw[jas] at this;exact this
abbrev kI:Stmt:=top 83
def fB:ak ["_law_draw","_law_things","_law_deep","_law_kind","_law_sign","_law_many","_law_parts"] ["_law_draw","_law_things","_law_deep"] (af kI):=cB
def zI (J:F5 P A)(bu:eg P k "_law_condition" ["_law_draw","_law_things","_law_deep"] (F0 n))(az:c5 P k)(dh:pB P k)(F:bW P.K "_law_condition" "_law_condition" kI f fd):cy P (k+1) f fd ["_law_draw","_law_things","_law_deep"] (tE n):=by
 refine aP [_,_,_,_,_,_] F fB rfl λAT B R s H E g=>?_;refine⟨_,(qs (aj (i:=3) fB.nd (aa az g rfl ai)) (qs (aX (qw (tN (aA (cA 40 (uE g)) q_r aB (au _)) (mR (aA zY q_r aB (au _))))) (qs (aj (i:=4) fB.nd (iR (D8 M) (aa az g rfl ai))) (aS (ao (bC (qa ay (qa (aa dh g rfl ai) (qa q_r (qa (aa dh g rfl ai) ah)))))))) aK) (qs (aX (aA (cA 40 (uE g)) q_r aB (au _)) (aS (ao (bC (qa ay (qa (aa bu g rfl ai) ah))))) aK) (qs (aj (i:=5) fB.nd (aY aO aB (aY GH (aY vv (aa az g rfl ai) aB) (aD AH (by rfl) J.wN boot_int (qa (cV (cA 40 (uE g)) q_r aB (au _)) ah))))) (qs (ye (i:=6) fB.nd (cS ["_law_k"] ["_law_draw","_law_things","_law_deep"] [0,1,2]) rfl (jO rfl J.gp ai) (λ_ _ _ _=>(qx (i:=0) (show List.Nodup (["_law_k","_law_draw","_law_things","_law_deep"]:jcB) by symm))) (λ_ _ _ _=>aR) (λ_ _ _ _=>(aa bu g rfl ai))) (aS (ao (aY aO (bC (qa (iR (bD ai) q_r) ah)) (aD bf (by rfl) J.bg jaz ai))))))))),?_⟩;rintro ds S kk hc hd ⟨d,x,N,hn3,rfl,dq,L,Q,j,h⟩;refine⟨d,8,M,dq,by first | decide | lia,λo cr1 mr1 hr1=>?_⟩
 try dsimp only[d8]
 show Ni _ _ _ _ _;refine Jv (decide (n=0)) (decide ((o:Int)<5)) (λk' hk=>⟨_,jac D.bl (by rw[gC,jaT];exact jaY.mpr (by lia)),hk⟩) (λk' hk=>⟨_,M,hk⟩) ?_;cases O:(decide (n=0)||decide ((o:Int)<5)) with
 |true=>
  refine⟨sz 6,d,6,M,dq.bN,by first | decide | lia,λG cr2 mr2 u=>?_⟩;rw[cF];obtain⟨sg,Y,esg⟩:=ja (N:=["<","<=","=","!=",">=",">"]) (r:=G) (by simpa using u);have hsl:∀s∈(["<","<=","=","!=",">=",">"]:jcB),s.length<=2/\s∈X4:=by symm
  refine(oe esg ⟨d,x,N,M,dq.bN,rG dq L,Q,j,λs1 c m hs1=>?_⟩);rw[cF];refine⟨d,x,N,M,dq.bN,rG dq L,Q,j,λs2 c m Z=>?_⟩;rw[cF];refine(dw ?_);have:=h (.cmp s1 sg s2) c m (by unfold sE;exact⟨hs1,Z,hsl sg Y⟩) (by unfold bT.dep;lia) (by unfold bT.sz;unfold H9;split<;>lia);rw[yt] at this;exact this
 |false=>
  have O:=jb4.mp O;have hn0:n≠0:=jbl O.1;have hr5:¬(o:Int)<5:=jbl O.2;obtain⟨p,rfl⟩:∃p,n=p+1:=⟨n - 1,by lia⟩
  have ep:((p+1:Nat):Int) - 1=(p:Int):=by lia
  have C:H9 p+1<=H9 (p+1)/\1+2*H9 p<=H9 (p+1)/\(p=0->1+3*H9 p<=H9 (p+1)):=by
   match p,hn3 with
   |0,_=>exact⟨by decide,by decide,λ_=>by decide⟩
   |1,_=>exact⟨by decide,by decide,λh=>absurd h (by decide)⟩
   |q+2,h=>lia
  by_cases h5:o=5
  .refine⟨true,qT2,d,x,N,by lia,jac (λz:Int=>[D.ob d,x,D.int z]) ep,dq.bN,rG dq L,Q,j,λe c m b w hz=>?_⟩;rw[cF];refine(dw ?_);have:=h (.neg e) c m (by unfold sE;exact b) (by unfold bT.dep;lia) (by unfold bT.sz;lia);rw[yq] at this;exact this
  .refine⟨false,qF2,d,4,M,dq.bN,by first | decide | lia,λG cr2 mr2 u=>?_⟩;rw[cF];refine⟨⟨by decide,by decide⟩,.inr ?_,?_⟩
   .split<;>exact⟨by decide,by decide⟩
   obtain⟨q,eq,hq⟩:∃q:Nat,2+(G:Int) / 3*(if(xor false (decide (V.int ((p+1:Nat):Int)=V.int 1)))=true then(1:Int) else 0)=(q:Int)/\(q=2\/(q=3/\p=0)):=by
    rw[gC,jaT];by_cases X:p=0
    .rw[jah (by lia)];by_cases h3:G=3
     .exact⟨3,by rw[h3];rfl,.inr ⟨M,X⟩⟩
     .exact⟨2,by rw[jab rfl];lia,.inl M⟩
    .rw[jai (by lia)];exact⟨2,by simp,.inl M⟩
   refine⟨(q:Int),jac (λz:Int=>[D.int z]) eq,by lia,by lia,?_⟩;rw[jbz];refine vK (n:=q) dq (λy=>∃e,y=gD e/\sE e/\e.dep<=p/\e.sz<=H9 p) (by lia) (λi c m k' hk=>?_) λys c m hl hp=>?_
   .refine⟨d,x,N,by lia,jac (λz:Int=>[D.ob d,x,D.int z]) ep,dq.bN,rG dq L,Q,j,λe c m b w hz=>?_⟩;rw[cF];exact⟨_,M,hk _ _ _ ⟨e,M,b,w,hz⟩⟩
   obtain⟨I,rfl,hl2,t⟩:=ex_map hp;rw[jad] at hl;have U:∀l:List bT,(∀e∈l,e.dep<=p)->vI l<=p:=by
    intro l
    induction l with
    |nil=>intro _;exact jaN _
    |cons a r ih=>intro v;unfold vI;exact Nat.max_le.mpr ⟨v a jak,ih λe b=>v e (jaj _ b)⟩
   have hzl:∀l:List bT,(∀e∈l,e.sz<=H9 p)->Ls l<=H9 p*l.length:=by
    intro l
    induction l with
    |nil=>intro _;exact jaN _
    |cons a r ih=>
     intro v;unfold Ls;have X:=v a jak;have h2:=ih λe b=>v e (jaj _ b);rw[jam,jbQ];lia
   have X:=U I λe b=>(t e b).2.1;have h2:=hzl I λe b=>(t e b).2.2;rw[hl] at h2;have hz3:Ls I+1<=H9 (p+1):=by
    rcases hq with rfl | ⟨rfl,h0⟩
    .have:=C.2.1;lia
    .have:=C.2.2 h0;lia
   have hk:∃W:Bool,jY [T.str (Str.ofString "and"),T.str (Str.ofString "or")] ((o:Int) % 2)=some (T.str (if W=true then "and" else "or")):=by
    have:(o:Int) % 2=0\/(o:Int) % 2=1:=by lia
    rcases this with e | e
    .exact⟨true,by rw[e];rfl⟩
    .exact⟨false,by rw[e];rfl⟩
   obtain⟨W,eqb⟩:=hk;refine⟨(by show(0:Int)<2;decide),oe eqb ⟨cH (by simp;lia),dw ?_⟩⟩;have:=h (.con W I) c m (by unfold sE;exact⟨TH λe b=>(t e b).1,by lia,by lia⟩) (by unfold bT.dep;lia) (by unfold bT.sz;exact hz3);rw[yr] at this;exact this
abbrev vg:Stmt:=top 87
def IJ:ak ["_law_helpers"] ["_law_helpers"] (af vg):=cB
def JA (J:F5 P A)(F:bW P.K "_law_plain" "_law_plain" vg f fd):cy P (k+1) f fd ["_law_helpers"] yM:=by
 refine aP [_] F IJ rfl λw B b s H E g=>?_;refine⟨_,(aS (ao (bE (cS ["_law_one"] [] []) rfl (qi q_r) (λ_ _ _ _=>(qx (i:=0) xw)) (λ_ _ _ _=>(pM (aA (cA 40 (uE g)) (bE (cS ["_law_param"] [] []) rfl (qi q_r) (λ_ _ _ _=>(qx (i:=0) xw)) (λ_ _ _ _=>(pM (aA (cA 40 (uE g)) q_r ay (au _)))) (λ_ _ _ _=>q_r)) (bD ah) (au _)))) (λ_ _ _ _=>q_r)))),?_⟩;rintro z S G C I ⟨j,rfl,L,t,h⟩;refine(ia ?_);refine rQ jW (λh=>if h.params.filterMap (λp=>if p.cps.toList.head?=some 35 then some (T.str p) else none)=[] then some (jW h) else none) trivial (cH (by lia)) (λx u v hk=>?_) ?_
 .have hx2:=t x u;have m:=hx2.pl.1;refine(dM ?_);refine rQ T.str (λp=>if p.cps.toList.head?=some 35 then some (T.str p) else none) trivial (cH (by lia)) (λp o y hk2=>?_) ?_
  .obtain⟨q1,q2⟩:=hx2.ps p o;obtain⟨c,r,d⟩:=SH q1;refine⟨cH (by lia),c,r,?_⟩;cases a:decide (p.cps.toList.head?=some 35) with
   |true=>rw[jab (jaH a)] at hk2;exact⟨true,jac D.bl (d.trans a),_,M,hk2⟩
   |false=>rw[jaa (jbl a)] at hk2;exact⟨false,jac D.bl (d.trans a),hk2⟩
  refine a8u ?_;refine(yo rfl ?_);cases a:decide (x.params.filterMap (λp=>if p.cps.toList.head?=some 35 then some (T.str p) else none)=[]) with
  |true=>rw[jab (jaH a)] at hk;exact⟨true,jac D.bl M,_,M,hk⟩
  |false=>rw[jaa (jbl a)] at hk;exact⟨false,jac D.bl M,hk⟩
 obtain⟨l,e,n,q⟩:=a1Z jW (λh=>h.params.filterMap (λp=>if p.cps.toList.head?=some 35 then some (T.str p) else none)=[]) j;rw[e];exact dw (h l n q)
abbrev zu:Stmt:=top 88
def gH:ak ["_law_draw","_law_own","_law_helper_here","_law_names_here","_law_things","_law_makes","_law_uses","_law_answers","_law_given","_law_param"] ["_law_draw","_law_own","_law_helper_here"] (af zu):=cB
def NX (J:F5 P A)(az:c5 P k)(dh:pB P k)(F:bW P.K "_law_call" "_law_call" zu f fd):cy P (k+1) f fd ["_law_draw","_law_own","_law_helper_here"] Dv:=by
 refine aP [_,_,_,_,_,_] F gH rfl λAT B Q s H E G=>?_;refine⟨_,(qs (rB q_r (jP (n:=4) rfl (rC (qg (i:=3) gH.nd) (rC (qg (i:=4) gH.nd) (rC (qg (i:=5) gH.nd) (rC (qg (i:=6) gH.nd) gW)))))) (qs (aj (i:=7) gH.nd q_r) (qs (aX (aA qh (aH ck (by rfl) J.cu jaw ai) (aH ck (by rfl) J.cu jaw ai) (au _)) (aS (ao (bC (qa ay (qa q_r (qa (aa dh G rfl ai) ah)))))) aK) (qs (aj (i:=8) gH.nd (dH ah)) (qs (eY jaO rfl (qi q_r) (qg (i:=9) gH.nd) (aS (aX (aA (cA 40 (uE G)) q_r ay (au _)) (aS (bM (dJ q_r (qa (bC (qa (bC (qa (bC (qa (aY aO ay (iR q_r (aa az G rfl (qa q_r (qa (aH ck (by rfl) J.cu jaw ai) ah))))) ai)) ah)) ai)) ah)))) (aS (bM (dJ q_r (qa (aa dh G rfl ai) ah))))))) (aS (ao (bC (qa ay (qa (aD bf (by rfl) J.bg jaz (qa (dX false q_r bx (aQ (aH ck (by rfl) J.cu jaw ai))) ah)) (qa q_r (qa (aD bf (by rfl) J.bg jaz ai) ah)))))))))))),?_⟩;rintro ds S kk hc hd ⟨d,z,N,ms,us,x,rfl,dq,ok,L,h⟩;have V:=dq.lt;have AP:∀{a b c m:Int}{o:aI},bN (bN S d a b++o) d c m=bN S d c m++o:=λ{a b c m o}=>by rw[mX (by rw[bB];exact V),cF]
 refine⟨_,M,M,_,_,M,_,_,M,_,_,M,_,_,M,M,?_⟩;by_cases q:((z.length:Nat):Int)<(x.answers.length:Nat)
 .obtain⟨w0,hw0,ew0⟩:=ja (N:=z) (r:=0) (by have:=ja0.mpr ok.w.1;lia);refine⟨true,jac D.bl (jah (by rw[jad,jad];exact q)),oe ew0 ⟨d,_,N,M,dq,M,ok.n.2.1,ok.n.2.2,λs c m j=>?_⟩⟩;refine(dw ?_);have:=h (.lt 0 w0 s) c m (by unfold dF;exact⟨ok.w.2.2 w0 hw0,j⟩) (by unfold cD.dp;rfl) (by unfold rws;rfl);rw[Pu] at this;exact this
 refine⟨false,jac D.bl (jai (by rw[jad,jad];exact q)),?_⟩;obtain⟨c0,m0,e0⟩:=dq.self;refine(dM ?_);refine nB T.str (λpre Z U=>∃y c m,∃g:List Sm,Z=[some (D.ob d),some (D.t (Ju z N ms us)),some (D.t (jW x)),some (D.t (Bu z)),some (D.t (Bu N)),some (D.t (Bu ms)),some (D.t (Bu us)),some (D.t (nX x.answers)),some (D.ob S.length),y]/\U=bN S d c m++[O.lst (g.map g9)]/\g.length=pre.length/\∀s∈g,lY s) ⟨_,c0,m0,[],M,by rw[<- e0];rfl,M,λ_ h=>absurd h jaB⟩ ?_ ?_
 .rintro pre p post Z U Nx e ⟨y,c,m,g,rfl,rfl,hl,hg⟩ hN;have hp:p∈x.params:=by rw[e];simp
  have hpre:pre.length<x.params.length:=by rw[e,jag];simp
  have C:=L.pl.1;obtain⟨q1,q2⟩:=L.ps p hp;obtain⟨c1,e1,e2⟩:=SH q1;have I:∀c m,(bN S d c m++[O.lst (g.map g9)])[S.length]?=some (O.lst (g.map g9)):=λc m=>by rw[<- bB (S:=S) (d:=d) (c:=c) (m:=m)];exact av
  have es:∀c m s,(bN S d c m++[O.lst (g.map g9)]).set S.length (O.lst (g.map g9++[g9 s]))=bN S d c m++[O.lst ((g++[s]).map g9)]:=λc m s=>by
   rw[<- bB (S:=S) (d:=d) (c:=c) (m:=m),bO,jau];rfl
  refine⟨trivial,cH (by lia),c1,e1,?_⟩;cases hb:decide (p.cps.toList.head?=some 35) with
  |true=>
   have hup:0<us.length:=ja0.mpr ok.u.1;refine⟨true,jac D.bl (e2.trans hb),⟨M,_,bG (I _ _)⟩,d,_,M,dq.bN.up,by rw[jad];lia,λr2 Y R v=>?_⟩;rw[AP];rw[jad] at v;obtain⟨u,hu,eu⟩:=ja v;have X:=ok.u.2.2 u hu;have hz:=nwH X;refine(oe eu ⟨cH (by show 1+_<=1000;lia),_,I _ _,nq (by rw[jad];lia),?_⟩);have e3:=es Y R ([(("#":Str)++u,1)],0);unfold g9 at e3;refine Eq.mpr (jac _ e3) (hN _ _ ⟨_,_,_,_,M,M,by rw[jag,jag,hl];rfl,λs j=>?_⟩);rcases jan.mp j with j | j
   .exact hg s j
   .rw[jal.mp j];exact Qh hz
  |false=>
   refine⟨false,jac D.bl (e2.trans hb),⟨M,_,bG (I _ _)⟩,d,_,N,M,dq.bN.up,M,ok.n.2.1,ok.n.2.2,λs2 Y R W=>?_⟩;rw[AP];refine⟨_,I _ _,nq (by rw[jad];lia),?_⟩;refine Eq.mpr (jac _ (es Y R s2)) (hN _ _ ⟨_,_,_,_,M,M,by rw[jag,jag,hl];rfl,λs j=>?_⟩);rcases jan.mp j with j | j
   .exact hg s j
   .rw[jal.mp j];exact W
 .rintro Z U ⟨y,c,m,g,rfl,rfl,hl,hg⟩;obtain⟨ns,en,hn1,hn2⟩:=Xg z x.answers.length;refine⟨trivial,?_⟩;refine⟨_,M,?_⟩;rw[jad,en,jaa jaA];have C:=L.pl;refine(oe (fX (l:=g.map g9) (by rw[<- bB (S:=S) (d:=d) (c:=c) (m:=m)];exact av)) (YO hc ?_));have:=h (.cl 0 ns x.name g) c m (by unfold dF;exact⟨by lia,λy hy=>ok.w.2.2 y (hn2 y hy),L.nm,by rw[hl];exact C.1,hg⟩) (by unfold cD.dp;rfl) (by unfold rws;rfl);rw[Zu] at this;exact this
abbrev ve:Stmt:=top 89
def II:ak ["_law_draw","_law_own","_law_many","_law_deep","_law_helpers"] ["_law_draw","_law_own","_law_many","_law_deep","_law_helpers"] (af ve):=cB
def Jy (J:F5 P A)(L:Fg P k n)(F:bW P.K "_law_steps" "_law_steps" ve f fd):cy P (k+1) f fd ["_law_draw","_law_own","_law_many","_law_deep","_law_helpers"] (s9 n):=by
 refine aP [_] F II rfl λR B o s H E g=>?_;refine⟨_,(aS (ao (aD bf (by rfl) J.bg jaz (qa (bE (cS ["_law_k"] ["_law_draw","_law_own","_law_deep","_law_helpers"] [0,1,3,4]) rfl (jO rfl J.gp ai) (λ_ _ _ _=>(qx (i:=0) (show List.Nodup (["_law_k","_law_draw","_law_own","_law_deep","_law_helpers"]:jcB) by symm))) (λ_ _ _ _=>aR) (λ_ _ _ _=>(aa L g rfl ai))) ah)))),?_⟩;rintro U S W V X ⟨d,j,C,N,x,I,a,p,rfl,Y,dq,ok,t,G,h⟩;obtain⟨Q,m0,r⟩:=dq.self;refine⟨(j:Int),M,by lia,by lia,?_⟩;rw[r];refine vK (n:=j) dq (λy=>∃s,y=iP s/\dF s/\s.dp<=n+1/\(rws s).length<=Cs n) (by lia) (λi c m O hk=>?_) λT c m D w=>?_
 .refine⟨d,C,N,x,I,a,p,M,dq.bN,ok,t,G,λs c m u z v=>?_⟩;rw[cF];exact⟨_,M,hk _ _ _ ⟨s,M,u,z,v⟩⟩
 obtain⟨l,rfl,q,b⟩:=ex_map w;rw[<- r];have e:l.length=j:=by rw[q,D]
 have g:=LK λs a=>(b s a).2.2;rw[e] at g;refine(dw ?_);have:=h l c m (yE λs a=>(b s a).1) e (Te λs a=>(b s a).2.1) g;rw[gc] at this;exact this
abbrev zm:Stmt:=top 86
def cj:ak ["_law_draw","_law_own","_law_deep","_law_helpers","_law_names_here","_law_things","_law_makes","_law_uses","_law_kind","_law_name","_law_word","_law_by","_law_thing","_law_sizes","_law_then","_law_other","_law_holds","_law_falls","_law_body","_law_some"] ["_law_draw","_law_own","_law_deep","_law_helpers"] (af zm):=cB
def NT (J:F5 P A)(dh:pB P k)(wM:BR P k)(Kq:Fo P k)(G:c5 P k)(bu:kC P k)(iV:BQ P k n)(F:bW P.K "_law_step" "_law_step" zm f fd):cy P (k+1) f fd ["_law_draw","_law_own","_law_deep","_law_helpers"] (Du n):=by
 refine aP [_,_,_,_,_,_,_,_,_,_,_,_] F cj rfl λAT B outer s H E a=>?_;refine⟨_,(qs (rB q_r (jP (n:=4) rfl (rC (qg (i:=4) cj.nd) (rC (qg (i:=5) cj.nd) (rC (qg (i:=6) cj.nd) (rC (qg (i:=7) cj.nd) gW)))))) (qs (aj (i:=8) cj.nd (aa G a rfl ai)) (qs (aj (i:=9) cj.nd (iR q_r (aa G a rfl (qa q_r (qa (aH ck (by rfl) J.cu jaw ai) ah))))) (qs (aX (aA (cA 40 (uE a)) q_r aB (au _)) (qs (aj (i:=10) cj.nd (iR (bD ai) (aa G a rfl ai))) (qs (aj (i:=11) cj.nd (iR (bD (qa (bC (qa q_r (qa (iR (bD (qa aB (qa aB (qa (zB aB) ai)))) (aa G a rfl ai)) ah))) (qa (aa dh a rfl ai) ah))) (aY vv (aa G a rfl ai) aB))) (aS (ao (bC (qa ay (qa q_r (qa q_r (qa (aa dh a rfl ai) ai))))))))) aK) (qs (aX (qw (jN (aA (cA 40 (uE a)) q_r aB (au _)) (iJ (aA (j4 40 (uE a)) q_r (bD ah) (au _))))) (aS (ao (bC (qa ay (qa q_r (qa (iR q_r (aa G a rfl (qa q_r (qa (aH ck (by rfl) J.cu jaw ai) ah)))) (qa (aa dh a rfl ai) ah))))))) aK) (qs (aX (qw (jN (aA (cA 40 (uE a)) q_r aB (au _)) (iJ (aA (j4 40 (uE a)) q_r (bD ah) (au _))))) (aS (ao (bC (qa ay (qa (iR q_r (aa G a rfl (qa q_r (qa (aH ck (by rfl) J.cu jaw ai) ah)))) (qa (aa dh a rfl ai) (qa (aa dh a rfl ai) ah))))))) aK) (qs (aX (qw (jN (aA (cA 40 (uE a)) q_r aB (au _)) (iJ (aA (j4 40 (uE a)) q_r (bD ah) (au _))))) (qs (aj (i:=12) cj.nd (iR q_r (aa G a rfl (qa q_r (qa (aH ck (by rfl) J.cu jaw ai) ah))))) (qs (aj (i:=13) cj.nd (bD (qa (bC (qa q_r (qa (aa G a rfl ai) ah))) (qa (bC (qa q_r (qa (aY Cv (zB aB) (aa G a rfl ai)) ah))) ai)))) (aS (ao (bC (qa ay (qa (iR q_r (aa G a rfl (qa q_r (qa (aH ck (by rfl) J.cu jaw ai) ah)))) (qa (iR q_r (aY vv (aa G a rfl ai) aB)) ah)))))))) aK) (qs (aX (aA (cA 40 (uE a)) q_r aB (au _)) (aS (ao (bC (qa ay (qa (aa bu a rfl ai) ah))))) aK) (qs (aX (qw (jN (aA Bt q_r q_r (by rfl)) (iJ (aA qh q_r aB (au _))))) (qs (aj (i:=14) cj.nd (aa iV a rfl (qa q_r (qa q_r (qa (aa G a rfl ai) ai))))) (qs (aj (i:=15) cj.nd (aa iV a rfl (qa q_r (qa q_r (qa (aa G a rfl ai) ai))))) (aS (ao (bC (qa ay (qa (aa bu a rfl ai) ai))))))) aK) (qs (aX (qw (jN (aA Bt q_r q_r (by rfl)) (iJ (aA qh q_r aB (au _))))) (qs (aj (i:=16) cj.nd (aD bf (by rfl) J.bg jaz (qa (bE (cS ["_law_k"] ["_law_draw","_law_things"] [0,5]) rfl (jO rfl J.gp (qa (aa G a rfl ai) ah)) (λ_ _ _ _=>(qx (i:=0) nd3)) (λ_ _ _ _=>aR) (λ_ _ _ _=>(aa bu a rfl ai))) ah))) (qs (aj (i:=17) cj.nd (iR (bD (qa wm (qa (aa dh a rfl ai) ah))) (aa G a rfl ai))) (qs (aj (i:=18) cj.nd (aa iV a rfl (qa q_r (qa q_r (qa (aa G a rfl ai) ai))))) (aS (ao (bC (qa ay (qa (aa bu a rfl ai) ai)))))))) aK) (qs (aX (qw (jN (aA Bt q_r q_r (by rfl)) (jN (aA (j4 40 (uE a)) q_r (bD ah) (au _)) (iJ (qw (tN (aA (j4 40 (uE a)) q_r (bD ah) (au _)) (mR (aA (j4 40 (uE a)) (aa wM a rfl ai) (bD ah) (au _))))))))) (qs (aj (i:=19) cj.nd (iR (bD (qa q_r (qa (aa wM a rfl ai) ah))) (aD AH (by rfl) J.wN boot_int (qa (cV (cA 40 (uE a)) q_r (bD ah) (au _)) ah)))) (aS (ao (aa Kq a rfl (qa q_r (qa q_r (qa (iR q_r (aa G a rfl (qa q_r (qa (aH ck (by rfl) J.cu jaw ai) ah)))) ah))))))) aK) (aS (ao (bC (qa ay (qa q_r (qa (aa dh a rfl ai) ah))))))))))))))))),?_⟩;rintro ds S kk hc hd ⟨d,X,N,R,W,Q,hn3,rfl,dq,ok,hh,hC,h⟩;have hwp:0<X.length:=ja0.mpr ok.w.1;have hNp:0<N.length:=ja0.mpr ok.n.1;have hup:0<W.length:=ja0.mpr ok.u.1;refine⟨_,M,M,_,_,M,_,_,M,_,_,M,_,_,M,M,d,14,M,dq,by first | decide | lia,λC cr1 mr1 hr1=>?_⟩;refine⟨d,_,M,dq.bN,by rw[jad];lia,λr2 c2 m2 hr2=>?_⟩;rw[cF];rw[jad] at hr2;obtain⟨x,hx,ex⟩:=ja hr2;have UB:=ok.w.2.2 x hx;refine(oe ex (?_))
 try dsimp only[d8]
 show fV (Cj _ _ qV) _ _ _ _;have fin:∀(s:cD)(c m:Int),dF s->s.dp=1->(rws s).length=1->closes S.length (.t (iP s)) (bN S d c m) kk:=λs c m g e r=>dw (h s c m g (by lia) (by rw[r];exact Vt n));have big:∀(s:cD)(c m:Int),dF s->s.dp<=n+1->(rws s).length<=Cs n->closes S.length (.t (iP s)) (bN S d c m) kk:=λs c m g e r=>dw (h s c m g e r);refine GZ (decide (C=0)) (λj hk=>⟨_,jac D.bl (by rw[gC,jaT];exact jaY.mpr (by lia)),hk⟩) (λT E' O=>?_) λb0=>?_
 .refine⟨d,2,M,dq.bN,by first | decide | lia,λU YK Yk I=>?_⟩;rw[cF];obtain⟨wd,hwd,ewd⟩:=ja (N:=["div","mod"]) (r:=U) (by simpa using I);have hwl:∀s∈(["div","mod"]:jcB),s.length<=3/\(s="div"\/s="mod"):=by symm
  refine(oe ewd ⟨d,6,M,dq.bN,by first | decide | lia,λY YJ Yj V=>?_⟩);rw[cF];obtain⟨v,ev,hv⟩:=a62 V;refine(oe ev ⟨d,_,N,M,dq.bN,M,ok.n.2.1,ok.n.2.2,λs c m L=>?_⟩);rw[cF];refine⟨d,4,M,dq.bN,by first | decide | lia,λr5 cr5 mr5 hr5=>?_⟩;rw[cF];obtain⟨b,eb,hb2⟩:=a2r (i:=(r5:Int) / 3) (by lia) (ID hv) L;refine⟨⟨by decide,by decide⟩,oe eb ⟨d,_,N,M,dq.bN,M,ok.n.2.1,ok.n.2.2,λs2 c m a76=>?_⟩⟩;rw[cF];refine(?_);refine(?_);have:=fin (.dv 0 x wd s2 b) c m (by unfold dF;exact⟨UB,hwl wd hwd,a76,hb2⟩) (by unfold cD.dp;rfl) (by unfold rws;rfl);rw[Zt] at this;rw[O];exact this
 refine GZ (decide (C=1)) (λj hk=>ur (decide (C=1)) true (λj hk=>⟨_,jac D.bl (by rw[gC,jaT];exact jaY.mpr (by lia)),hk⟩) (λj hk=>FI rfl (Es ok.u.1) hk) (by rw[Bool.and_true];exact hk)) (λT E' O=>?_) λb1=>?_
 .refine⟨d,_,M,dq.bN,by rw[jad];lia,λU YK Yk I=>?_⟩;rw[cF];rw[jad] at I;obtain⟨u,hu,eu⟩:=ja I;refine(oe eu ⟨d,_,N,M,dq.bN,M,ok.n.2.1,ok.n.2.2,λp c m hp_=>?_⟩);rw[cF];refine(?_);have:=fin (.ft 0 x u p) c m (by unfold dF;exact⟨UB,ok.u.2.2 u hu,hp_⟩) (by unfold cD.dp;rfl) (by unfold rws;rfl);rw[Zs] at this;rw[O];exact this
 refine GZ (decide (C=2)) (λj hk=>ur (decide (C=2)) true (λj hk=>⟨_,jac D.bl (by rw[gC,jaT];exact jaY.mpr (by lia)),hk⟩) (λj hk=>FI rfl (Es ok.u.1) hk) (by rw[Bool.and_true];exact hk)) (λT E' O=>?_) λb2=>?_
 .refine⟨d,_,M,dq.bN,by rw[jad];lia,λU YK Yk I=>?_⟩;rw[cF];rw[jad] at I;obtain⟨u,hu,eu⟩:=ja I;refine(oe eu ⟨d,_,N,M,dq.bN,M,ok.n.2.1,ok.n.2.2,λp c m hp_=>?_⟩);rw[cF];refine⟨d,_,N,M,dq.bN,M,ok.n.2.1,ok.n.2.2,λs c m L=>?_⟩;rw[cF];refine(?_);have:=fin (.pt 0 u p s) c m (by unfold dF;exact⟨ok.u.2.2 u hu,hp_,L⟩) (by unfold cD.dp;rfl) (by unfold rws;rfl);rw[Zq] at this;rw[O];exact this
 refine GZ (decide (C=3)&&decide (R≠[])) (λj hk=>ur (decide (C=3)) (decide (R≠[])) (λj hk=>⟨_,jac D.bl (by rw[gC,jaT];exact jaY.mpr (by lia)),hk⟩) (λj hk=>FI rfl (nn_b R) hk) hk) (λT E' O=>?_) λb3=>?_
 .have hm0:R≠[]:=jaH (jcs.mp T).2;have hmp:0<R.length:=ja0.mpr hm0;refine⟨d,_,M,dq.bN,by rw[jad];lia,λU YK Yk I=>?_⟩;rw[cF];rw[jad] at I;obtain⟨t,ht,et⟩:=ja I;refine(oe et ⟨d,6,M,dq.bN,by first | decide | lia,λY YJ Yj V=>?_⟩);rw[cF];refine⟨d,2,M,dq.bN,by first | decide | lia,λr5 cr5 mr5 hr5=>?_⟩;rw[cF];refine⟨d,_,M,dq.bN,by rw[jad];lia,λr6 cr6 mr6 hr6=>?_⟩;rw[cF];rw[jad] at hr6;obtain⟨w,hw,ew⟩:=ja hr6;refine(oe ew ⟨d,12,M,dq.bN,by first | decide | lia,λr7 cr7 mr7 hr7=>?_⟩);rw[cF];obtain⟨z,ez,hz⟩:=a2q (i:=(r7:Int) / 5) (by lia) (ID (v:=(Y:Int)) ⟨by lia,by lia⟩) (ID (v:=-1 - (r5:Int)) ⟨by lia,by lia⟩) (Qh (ok.n.2.2 t ht));refine⟨⟨by decide,by decide⟩,oe ez (?_)⟩;refine(?_);have:=fin (.mq 0 w z) cr7 mr7 (by unfold dF;exact⟨ok.m.2 w hw,hz⟩) (by unfold cD.dp;rfl) (by unfold rws;rfl);rw[Zr] at this;rw[O];exact this
 refine GZ (decide (C=4)) (λj hk=>⟨_,jac D.bl (by rw[gC,jaT];exact jaY.mpr (by lia)),hk⟩) (λT E' O=>?_) λb4=>?_
 .refine⟨d,_,N,by decide,M,dq.bN,M,ok.n.2.1,ok.n.2.2,λe c m he ge ze=>?_⟩;rw[cF];have Z:=Oz he ge ze;refine(?_);have:=fin (.cm 0 e) c m (by unfold dF;exact Z) (by unfold cD.dp;rfl) (by unfold rws;rfl);rw[Px] at this;rw[O];exact this
 refine GZ ((decide ((C:Int)=5)||decide ((C:Int)=6))&&decide (0<n)) (λj hk=>ur (decide ((C:Int)=5)||decide ((C:Int)=6)) (decide (0<n)) (λj hk=>⟨_,_,_,M,M,M,M,_,jac D.bl Sx,hk⟩) (λj hk=>⟨_,jac D.bl (jaY.mpr (by lia)),hk⟩) hk) (λT E' O=>?_) λb5=>?_
 .have hn0:0<n:=jaH (jcs.mp T).2;obtain⟨p,rfl⟩:∃p,n=p+1:=⟨n - 1,by lia⟩
  have ep:((p+1:Nat):Int) - 1=(p:Int):=by lia
  refine⟨d,3,M,dq.bN,by first | decide | lia,λU YK Yk I=>?_⟩;rw[cF];refine⟨d,U,X,N,R,W,Q,by lia,jac (λz:Int=>[D.ob d,D.t (Ju X N R W),D.int U,D.int z,D.lst (Q.map jW)]) ep,by lia,dq.bN,ok,hh,hC,λt c m gt lt kt wt=>?_⟩;rw[cF];refine⟨d,3,M,dq.bN,by first | decide | lia,λY YJ Yj V=>?_⟩;rw[cF];refine⟨d,Y,X,N,R,W,Q,by lia,jac (λz:Int=>[D.ob d,D.t (Ju X N R W),D.int Y,D.int z,D.lst (Q.map jW)]) ep,by lia,dq.bN,ok,hh,hC,λo c m go lo ko wo=>?_⟩;rw[cF];refine⟨d,_,N,by decide,M,dq.bN,M,ok.n.2.1,ok.n.2.2,λe c m he ge ze=>?_⟩;rw[cF];have Z:=Oz he ge ze;refine(?_);have:=big (.ch 0 e t o) c m (by unfold dF;exact⟨Z,gt,go,by lia,by lia⟩) (by unfold cD.dp;lia) (Z0 (by lia) (jay wt (jcr _ (by lia))) (jay wo (jcr _ (by lia))));rw[Py] at this;rw[O];exact this
 refine GZ ((decide ((C:Int)=7)||decide ((C:Int)=8))&&decide (0<n)) (λj hk=>ur (decide ((C:Int)=7)||decide ((C:Int)=8)) (decide (0<n)) (λj hk=>⟨_,_,_,M,M,M,M,_,jac D.bl Sx,hk⟩) (λj hk=>⟨_,jac D.bl (jaY.mpr (by lia)),hk⟩) hk) (λT E' O=>?_) λb7=>?_
 .have hn0:0<n:=jaH (jcs.mp T).2;obtain⟨p,rfl⟩:∃p,n=p+1:=⟨n - 1,by lia⟩
  have ep:((p+1:Nat):Int) - 1=(p:Int):=by lia
  refine⟨d,3,M,dq.bN,by first | decide | lia,λU YK Yk I=>?_⟩;rw[cF];refine⟨(U:Int),M,by lia,by lia,?_⟩;rw[jbz];refine vK (n:=U) dq (λy=>∃e,y=gD e/\AV e) (by lia) (λi c m j hk=>?_) λys c m hl hp=>?_
  .refine⟨d,_,N,by decide,M,dq.bN,M,ok.n.2.1,ok.n.2.2,λe c m he ge ze=>?_⟩;rw[cF];have Z:=Oz he ge ze;exact⟨_,M,hk _ _ _ ⟨e,M,Z⟩⟩
  obtain⟨es,rfl,hl2,hes⟩:=ex_map hp;rw[jad] at hl;refine⟨d,_,N,M,dq.bN,M,ok.n.2.1,ok.n.2.2,λs c m L=>?_⟩;rw[cF];refine⟨d,2,M,dq.bN,by first | decide | lia,λY YJ Yj V=>?_⟩;rw[cF];obtain⟨f0,ef,hf⟩:=a2s (i:=(Y:Int)) (by lia) L;refine(oe ef ⟨d,3,M,dq.bN,by first | decide | lia,λr5 cr5 mr5 hr5=>?_⟩);rw[cF];refine⟨d,r5,X,N,R,W,Q,by lia,jac (λz:Int=>[D.ob d,D.t (Ju X N R W),D.int r5,D.int z,D.lst (Q.map jW)]) ep,by lia,dq.bN,ok,hh,hC,λb c m gb lb kb wb=>?_⟩;rw[cF];refine⟨d,_,N,by decide,M,dq.bN,M,ok.n.2.1,ok.n.2.2,λe c m he ge ze=>?_⟩;rw[cF];have Z:=Oz he ge ze;refine(?_);have:=big (.rp 0 e (es.map λx=>(0,x)) f0 b) c m (by unfold dF;exact⟨Z,by rw[jad];lia,λq hq=>by obtain⟨y,hy,rfl⟩:=jap.mp hq;exact hes y hy,hf,gb,by lia⟩) (by unfold cD.dp;lia) (ZZ (by lia) (by rw[jad];lia) (jay wb (jcr _ (by lia))));rw[Pr,jas] at this;rw[O];exact this
 refine GZ ((decide ((C:Int)=9)||decide ((C:Int)=10))&&decide (Q≠[])) (λj hk=>ur (decide ((C:Int)=9)||decide ((C:Int)=10)) (decide (Q≠[])) (λj hk=>⟨_,_,_,M,M,M,M,_,jac D.bl Sx,hk⟩) (λj hk=>ur (decide (Q≠[])) true (λj hk=>FI rfl (a7v Q) hk) (λj hk=>a7r (λj hk=>FI rfl (Es ok.u.1) hk) hk) (by rw[Bool.and_true];exact hk)) hk) (λT E' O=>?_) λb9=>?_
 .have hh0:Q≠[]:=jaH (jcs.mp T).2;have hhp:0<Q.length:=ja0.mpr hh0;refine⟨Q,M,hh,hC,λl _ _=>?_⟩;dsimp only[bR];refine a3c ?_
  try dsimp only
  rw[Im,br];refine a24 rfl ?_;rw[a4u ok.u.1];refine⟨d,_,M,dq.bN,by rw[jad];lia,λU c3 m3 I=>?_⟩;rw[cF];rw[jad] at I;obtain⟨y,hy,ey⟩:=a8D jW I;refine(oe ey ⟨d,X,N,R,W,y,M,dq.bN,ok,hC y hy,λs c m g1 g2 g3=>?_⟩);rw[cF];rw[O];exact fin s c m g1 g2 g3
 refine⟨d,_,N,M,dq.bN,M,ok.n.2.1,ok.n.2.2,λs c m L=>?_⟩;rw[cF];refine(?_);have:=fin (.lt 0 x s) c m (by unfold dF;exact⟨UB,L⟩) (by unfold cD.dp;rfl) (by unfold rws;rfl);rw[Pu] at this;exact this
abbrev qX:Stmt:=top 90
def bP:ak ["_law_draw","_law_name","_law_names_here","_law_many","_law_helpers","_law_params","_law_more","_law_answers","_law_uses","_law_things","_law_known","_law_needs","_law_gives","_law_writes","_law_makes","_law_steps_here"] ["_law_draw","_law_name","_law_names_here","_law_many","_law_helpers"] (af qX):=cB
def Gw (J:F5 P A)(iV:eg P k "_law_steps" ["_law_draw","_law_own","_law_many","_law_deep","_law_helpers"] (s9 2))(bu:kC P k)(X:c5 P k)(F:bW P.K "_law_helper" "_law_helper" qX f fd):cy P (k+1) f fd ["_law_draw","_law_name","_law_names_here","_law_many","_law_helpers"] u5:=by
 refine aP [_,_,_,_,_,_,_,_,_,_,_,_,_,_,_] F bP rfl λAT B outer s H E u=>?_;refine⟨_,(qs (aj (i:=5) bP.nd (aD bf (by rfl) J.bg jaz (qa (dX false q_r bx (aQ (aa X u rfl ai))) ah))) (qs (aj (i:=6) bP.nd (aY vv (aa X u rfl ai) aB)) (qs (aj (i:=5) bP.nd (aY aO q_r (aD bf (by rfl) J.bg jaz (qa (bE (cS ["_law_row"] [] []) rfl (qi (dX false q_r (aQ aB) (aQ q_r))) (λ_ _ _ _=>(qx (i:=0) xw)) (λ_ _ _ _=>aR) (λ_ _ _ _=>q_r)) ah)))) (qs (aj (i:=7) bP.nd (aD bf (by rfl) J.bg jaz (qa (dX false q_r (aQ aB) (aQ (aY aO aB (aa X u rfl ai)))) ah))) (qs (ye (i:=8) bP.nd (cS ["_law_row"] [] []) rfl (qi (dX false q_r (aQ aB) (aQ aB))) (λ_ _ _ _=>(qx (i:=0) xw)) (λ_ _ _ _=>aR) (λ_ _ _ _=>q_r)) (qs (aj (i:=9) bP.nd (aY aO (dX false q_r bx (aQ aB)) (bE (cS ["_law_row"] [] []) rfl (qi q_r) (λ_ _ _ _=>(qx (i:=0) xw)) (λ_ _ _ _=>aR) (λ_ _ _ _=>q_r)))) (qs (aj (i:=10) bP.nd (bE (cS ["_law_param"] [] []) rfl (qi q_r) (λ_ _ _ _=>(qx (i:=0) xw)) (λ_ _ _ _=>aR) (λ_ _ _ _=>q_r))) (qs (aj (i:=6) bP.nd (aa X u rfl ai)) (qs (aj (i:=11) bP.nd (aD bf (by rfl) J.bg jaz (qa (bE (cS ["_law_k"] ["_law_draw","_law_known"] [0,10]) rfl (jO rfl J.gp ai) (λ_ _ _ _=>(qx (i:=0) nd3)) (λ_ _ _ _=>aR) (λ_ _ _ _=>(aa bu u rfl ai))) ah))) (qs (aj (i:=6) bP.nd (aa X u rfl ai)) (qs (aj (i:=12) bP.nd (aD bf (by rfl) J.bg jaz (qa (bE (cS ["_law_k"] ["_law_draw","_law_known","_law_answers"] [0,10,7]) rfl (jO rfl J.gp ai) (λ_ _ _ _=>(qx (i:=0) (show List.Nodup (["_law_k","_law_draw","_law_known","_law_answers"]:jcB) by symm))) (λ_ _ _ _=>aR) (λ_ _ _ _=>(aa bu u rfl (qa q_r (qa (aY aO q_r (aD rR (by rfl) J.rS boot_list ai)) ai))))) ah))) (qs (ye (i:=13) bP.nd (cS ["_law_one"] ["_law_params"] [5]) rfl (qi (dX false q_r bx (aQ aB))) (λ_ _ _ _=>(qx (i:=0) GP)) (λ_ _ _ _=>(pM (aA yj q_r q_r (by rfl)))) (λ_ _ _ _=>q_r)) (qs (ye (i:=14) bP.nd (cS ["_law_row"] ["_law_params"] [5]) rfl (qi q_r) (λ_ _ _ _=>(qx (i:=0) GP)) (λ_ _ _ _=>(pM (aA yj q_r q_r (by rfl)))) (λ_ _ _ _=>q_r)) (qs (aj (i:=15) bP.nd (aa iV u rfl ai)) (aS (ao q_r)))))))))))))))),?_⟩;rintro ds S kk hc hd ⟨d,j,nm,ns,L,rfl,dq,U,hn8,hnd,Z,hj,hh,hC,h⟩;obtain⟨a0,a1,a2,a3,a4,a5,a6,a7,rfl⟩:=S9 hn8;refine⟨d,3,M,dq,by first | decide | lia,λr1 cr1 mr1 hr1=>?_⟩;obtain⟨N,ep0,hp0,a78⟩:=a2e (a0:=a0) (a1:=a1) (a2:=a2) (a3:=a3) (a4:=a4) (a5:=a5) (a6:=a6) (a7:=a7) hr1;refine⟨_,M,?_⟩;rw[ep0,jaa jaA];refine⟨d,3,M,dq.bN,by first | decide | lia,λY cr2 mr2 hr2=>?_⟩;rw[cF];obtain⟨Q,W,hrs,V⟩:=a2d (r:=Y / 2) (a0:=a0) (a1:=a1) (a2:=a2) (a3:=a3) (a4:=a4) (a5:=a5) (a6:=a6) (a7:=a7) (by lia);have er2:((Y / 2:Nat):Int)=(Y:Int) / 2:=by lia
 rw[er2] at W;refine⟨⟨by decide,by decide⟩,_,M,?_⟩;rw[W,jaa jaA];refine ia ?_;have v:∀x∈[a6,a7],Uj x:=λx a=>Z x (by simp at a ⊢;rcases a with rfl | rfl<;>simp);refine cG T.str (λx=>T.str (("#":Str)++x)) trivial (cH (by lia)) (λx a C hk=>?_) ?_
 .have hxw:=v x (V x a);exact⟨cH (by show 1+_<=1000;have:=hxw.1;lia),_,M,hk⟩
 refine⟨cH (by rw[jad,jad];lia),?_⟩;have eps:N.map T.str++Q.map (λx=>T.str (("#":Str)++x))=(N++Q.map λx=>("#":Str)++x).map T.str:=by rw[jau,jas];rfl
 rw[eps];have hpl:(N++Q.map λx=>("#":Str)++x).length<=4:=by rw[jag,jad];lia
 have g:∀x∈N++Q.map (λx=>("#":Str)++x),x.cps.toList≠[]/\Tw x:=λx a=>by
  rcases jan.mp a with a | a
  .have:=Z x (by have:=a78 x a;simp at this;rcases this with rfl | rfl<;>simp);exact⟨this.2,RI this.1⟩
  .obtain⟨y,hy,rfl⟩:=jap.mp a;have:=v y (V y hy);exact⟨SG y,nwH this.1⟩
 generalize N++Q.map (λx=>("#":Str)++x)=ps at hpl g ⊢
 try dsimp only[d8]
 show fV _ _ _ [some (D.ob d),some (D.str nm),some (D.t (Bu [a0,a1,a2,a3,a4,a5,a6,a7])),some (D.int j),some (D.lst (L.map jW)),some (D.tup (ps.map T.str)),some (D.int ((Y:Int) / 2)),none,none,none,none,none,none,none,none,none] _;refine⟨d,3,M,dq.bN,by first | decide | lia,λr3 YK Yk AY=>?_⟩;rw[cF];obtain⟨o,ean,han,a8h⟩:=a2g (a0:=a0) (a1:=a1) (a2:=a2) (a3:=a3) (a4:=a4) (a5:=a5) (a6:=a6) (a7:=a7) AY;refine⟨_,M,?_⟩;rw[ean,jaa jaA];refine⟨_,M,?_⟩;rw[a2h,jaa jaA];refine ia ?_;refine cG T.str T.str trivial (sz 2) (λx a C hk=>⟨_,M,hk⟩) ?_;refine⟨_,M,?_⟩;rw[Tj,jaa jaA];refine(ia ?_);refine cG T.str (λx=>T.str (("#":Str)++x)) trivial (sz 2) (λx a C hk=>?_) ?_
 .have hxw:=v x a;exact⟨cH (by show 1+_<=1000;have:=hxw.1;lia),_,M,hk⟩
 refine⟨_,_,M,M,sz 8,dM ?_⟩;refine cG T.str T.str trivial (cH (by lia)) (λx a C hk=>⟨_,M,hk⟩) ?_;refine⟨d,3,M,dq.bN,by first | decide | lia,λr4 YJ Yj hr4=>?_⟩;rw[cF];refine⟨(r4:Int),M,by lia,by lia,?_⟩;rw[jbz];refine vK (n:=r4) dq (λy=>∃e,y=gD e/\AV e) (by lia) (λi c m C hk=>?_) λys c m hl4 R=>?_
 .refine⟨d,_,ps,by decide,M,dq.bN,M,by lia,λx a=>(g x a).2,λe c m he ge ze=>?_⟩;rw[cF];exact⟨_,M,hk _ _ _ ⟨e,M,Oz he ge ze⟩⟩
 obtain⟨z,rfl,b0A,a8b⟩:=ex_map R;rw[jad] at hl4;dsimp only[bR];refine UU ?_
 try dsimp only[d8]
 show fV _ _ _ [some (D.ob d),some (D.str nm),some (D.t (Bu [a0,a1,a2,a3,a4,a5,a6,a7])),some (D.int j),some (D.lst (L.map jW)),some (D.tup (ps.map T.str)),some (D.int r4),some (D.tup (o.map T.str)),some (D.lst ([a6,a7].map T.str)),some (D.lst ([a0,a1,a2,a3,a4,a5,("#":Str)++a6,("#":Str)++a7].map T.str)),some (D.lst (ps.map T.str)),some (D.tup (z.map gD)),none,none,none,none] _;refine⟨d,3,M,dq.bN,by first | decide | lia,λr5 cr5 mr5 hr5=>?_⟩;rw[cF];have O:∀x∈o,Nw x:=λx a=>by
  have h1:=a8h x a;have:=Z x (by simp at h1 ⊢;rcases h1 with rfl | rfl<;>simp);exact this.1
 refine⟨(r5:Int),M,by lia,by lia,?_⟩;rw[jbz];refine vK (n:=r5) dq (λy=>∃e,y=gD e/\AV e) (by lia) (λi c m C hk=>?_) λys c m hl5 R=>?_
 .refine⟨_,_,M,M,cH (by rw[jad,jad];lia),d,_,ps++o,by decide,M,dq.bN,by rw[jau];rfl,by rw[jag];lia,λx a=>?_,λe c m he ge ze=>?_⟩
  .rcases jan.mp a with a | a
   .exact(g x a).2
   .exact RI (O x a)
  rw[cF];exact⟨_,M,hk _ _ _ ⟨e,M,Oz he ge ze⟩⟩
 obtain⟨G,rfl,b0y,a8e⟩:=ex_map R;rw[jad] at hl5;dsimp only[bR];refine UU ?_
 try dsimp only[d8]
 show fV _ _ _ [some (D.ob d),some (D.str nm),some (D.t (Bu [a0,a1,a2,a3,a4,a5,a6,a7])),some (D.int j),some (D.lst (L.map jW)),some (D.tup (ps.map T.str)),some (D.int r5),some (D.tup (o.map T.str)),some (D.lst ([a6,a7].map T.str)),some (D.lst ([a0,a1,a2,a3,a4,a5,("#":Str)++a6,("#":Str)++a7].map T.str)),some (D.lst (ps.map T.str)),some (D.tup (z.map gD)),some (D.tup (G.map gD)),none,none,none] _;refine⟨_,M,?_⟩;rw[Tj,jaa jaA];refine ia ?_;refine rQ T.str (λx=>if x∈ps then none else some (T.str x)) trivial (sz 6) (λx a C hk=>?_) ?_
 .refine⟨_,_,_,M,M,M,ki ps,?_⟩;rw[mW];cases I:decide (x∈ps) with
  |true=>rw[jab (jaH I)] at hk;exact⟨false,M,hk⟩
  |false=>rw[jaa (jbl I)] at hk;exact⟨true,M,_,M,hk⟩
 obtain⟨ws,ews,a75,b0k,a74⟩:=a10 ps [a0,a1,a2,a3,a4,a5];rw[ews];refine(ia ?_);refine rQ T.str (λx=>if("#":Str)++x∈ps then none else some (T.str x)) trivial (sz 2) (λx a C hk=>?_) ?_
 .have hxw:=v x a;refine⟨cH (by show 1+_<=1000;have:=hxw.1;lia),_,_,_,M,M,M,ki ps,?_⟩;rw[mW];cases I:decide (("#":Str)++x∈ps) with
  |true=>rw[jab (jaH I)] at hk;exact⟨false,M,hk⟩
  |false=>rw[jaa (jbl I)] at hk;exact⟨true,M,_,M,hk⟩
 obtain⟨ms,ems,a8c,b0v⟩:=Xe ps [a6,a7];rw[ems]
 try dsimp only[d8]
 show fV _ _ _ [some (D.ob d),some (D.str nm),some (D.t (Bu [a0,a1,a2,a3,a4,a5,a6,a7])),some (D.int j),some (D.lst (L.map jW)),some (D.tup (ps.map T.str)),some (D.int r5),some (D.tup (o.map T.str)),some (D.lst ([a6,a7].map T.str)),some (D.lst ([a0,a1,a2,a3,a4,a5,("#":Str)++a6,("#":Str)++a7].map T.str)),some (D.lst (ps.map T.str)),some (D.tup (z.map gD)),some (D.tup (G.map gD)),some (D.lst (ws.map T.str)),some (D.lst (ms.map T.str)),none] _;have l6:[a0,a1,a2,a3,a4,a5].length=6:=rfl;have b:∀x∈[a0,a1,a2,a3,a4,a5],Uj x:=λx a=>Z x (by simp at a ⊢;rcases a with q | q | q | q | q | q<;>simp[q]);have OW:M8 ws [a0,a1,a2,a3,a4,a5,("#":Str)++a6,("#":Str)++a7] ms [a6,a7]:=by
  refine⟨⟨λe=>?_,by lia,λx a=>(b x (a75 x a)).1⟩,⟨by simp,by simp,λx a=>?_⟩,⟨by have:[a6,a7].length=2:=rfl;lia,λx a=>(v x (a8c x a)).1⟩,by simp,by simp,λx a=>(v x a).1⟩
  .have nd6:[a0,a1,a2,a3,a4,a5].Nodup:=(jbA.mp (show([a0,a1,a2,a3,a4,a5]++[a6,a7]).Nodup from hnd)).1;have:=NZ (m:=ps) nd6 λx a=>Classical.byContradiction λq=>by have:=a74 x a q;rw[e] at this;cases this
   lia
  .simp only[jae,jaB,jbk] at a;rcases a with q | q | q | q | q | q | q | q
   .rw[q];exact RI (b a0 (by simp)).1
   .rw[q];exact RI (b a1 (by simp)).1
   .rw[q];exact RI (b a2 (by simp)).1
   .rw[q];exact RI (b a3 (by simp)).1
   .rw[q];exact RI (b a4 (by simp)).1
   .rw[q];exact RI (b a5 (by simp)).1
   .rw[q];exact nwH (v a6 (by simp)).1
   .rw[q];exact nwH (v a7 (by simp)).1
 refine⟨d,j,ws,[a0,a1,a2,a3,a4,a5,("#":Str)++a6,("#":Str)++a7],ms,[a6,a7],L,by decide,M,by lia,dq.bN,OW,hh,hC,λl c m g1 g2 g3 g4=>?_⟩;rw[cF];refine(dw ?_);have w:∀(l:List bT),(∀e∈l,AV e)->∀p∈l.map (λe=>((0:Int),e)),AV p.2:=λl h p R=>by obtain⟨y,hy,rfl⟩:=jap.mp R;exact h y hy
 have hrl:Cs 2=31:=rfl;have:=h ⟨0,nm,ps,o,z.map λe=>(0,e),G.map λe=>(0,e),l⟩ c m ⟨⟨U.1,⟨by show ps.length<=8;lia,by show o.length<=8;lia,by show(z.map _).length<=8;rw[jad];lia,by show(G.map _).length<=8;rw[jad];lia,by show l.length<=10;lia⟩,λx a=>(g x a).2,O,w z a8b,w G a8e,g1⟩,⟨U.1,⟨by show ps.length<=8;lia,by show o.length<=8;lia⟩,λx a=>⟨(g x a).1,by have:=(g x a).2;lia⟩⟩,g3,?_⟩
 .unfold jW at this;simp only[jas] at this;exact this
 .rw[pS];have ha:=uu ⟨0,nm,ps,o,z.map λe=>(0,e),G.map λe=>(0,e),l⟩;have I:E7 ⟨0,nm,ps,o,z.map λe=>(0,e),G.map λe=>(0,e),l⟩<=1:=by unfold E7;split<;>lia
  have hc:j*Cs 2<=62:=by rw[hrl];lia
  simp only[jag,jad,jbe];lia
abbrev oi:Stmt:=top 91
def jk:ak ["_law_draw","_law_many","_law_titles","_law_helpers","_law_k"] ["_law_draw","_law_many"] (af oi):=cB
def Ed (J:F5 P A)(V:c5 P k)(Y:AM P k)(R:qP P k)(F:bW P.K "_law_program" "_law_program" oi f fd):cy P (k+1) f fd ["_law_draw","_law_many"] yL:=by
 refine aP [_,_,_,_] F jk rfl λAT B w s H E p=>?_;refine⟨_,(qs (aj (i:=2) jk.nd (aa R p rfl ai)) (qs (aj (i:=3) jk.nd (dH ah)) (qs (eY jaO rfl (jO rfl J.gp (qa (iR (bD ai) (aa V p rfl ai)) ah)) (qg (i:=4) jk.nd) (aS (bM (dJ q_r (qa (aa Y p rfl (qa q_r (qa q_r (qa (aa R p rfl ai) (qa (aa V p rfl ai) (qa (aD rR (by rfl) J.rS boot_list ai) ah)))))) ah))))) (aS (ao q_r))))),?_⟩;rintro ds S kk hc hd ⟨d,rfl,dq,h⟩;have G:=dq.lt;have AP:∀{a b c m:Int}{l:aI},bN (bN S d a b++l) d c m=bN S d c m++l:=λ{a b c m l}=>by rw[mX (by rw[bB];exact G),cF]
 refine⟨d,3,M,by decide,dq,λU c0 m0 X htn g=>?_⟩;have g:=λx o=>RQ (g x o);refine⟨d,4,M,dq.bN.up,by first | decide | lia,λW cr1 mr1 u=>?_⟩;rw[AP];obtain⟨v,ev,hv,hv0⟩:∃v:Nat,jY [T.int 1,.int 1,.int 2,.int 2] (W:Int)=some (T.int (v:Int))/\v<=2/\0<v:=by
  match W,u with
  |0,_=>exact⟨1,M,by decide,by decide⟩
  |1,_=>exact⟨1,M,by decide,by decide⟩
  |2,_=>exact⟨2,M,by decide,by decide⟩
  |3,_=>exact⟨2,M,by decide,by decide⟩
  |n+4,h=>lia
 refine(oe ev ⟨(v:Int),M,by lia,by lia,?_⟩);rw[jbz];refine pU (λi Z C=>∃y c m,∃e:List gE,Z=[some (D.ob d),some (D.int 2),some (D.t (Bu U)),some (D.ob S.length),y]/\C=bN S d c m++[O.lst (e.map jW)]/\e.length=i/\∀h∈e,XD h 3 70) ⟨_,_,_,[],by rw[bB];rfl,M,M,λ_ h=>absurd h jaB⟩ ?_ ?_
 .rintro i z Z C Nx hz ⟨y,c,m,e,rfl,rfl,hl,hg⟩ hN;have hi:i<v:=by
   have:=(jar.mp hz).1;simpa using this
  rw[jaF,jbx hi] at hz;cases hz;have I:∀c m,(bN S d c m++[O.lst (e.map jW)])[S.length]?=some (O.lst (e.map jW)):=λc m=>by rw[<- bB (S:=S) (d:=d) (c:=c) (m:=m)];exact av
  have es:∀c m x,(bN S d c m++[O.lst (e.map jW)]).set S.length (O.lst (e.map jW++[jW x]))=bN S d c m++[O.lst ((e++[x]).map jW)]:=λc m x=>by
   rw[<- bB (S:=S) (d:=d) (c:=c) (m:=m),bO,jau];rfl
  obtain⟨t,ht,et⟩:=ja (N:=U) (r:=i) (by lia);refine⟨trivial,⟨M,_,bG (I _ _)⟩,oe et ⟨d,8,M,by decide,dq.bN.up,λns c1 m1 L Q j=>?_⟩⟩;have j:=λx o=>RQ (j x o);rw[AP];refine⟨d,3,M,dq.bN.up,by decide,λr2 c2 m2 hr2=>?_⟩;rw[AP];refine(oe (fX (I _ _)) ⟨d,r2,t,ns,e,M,dq.bN.up,g t ht,L,Q,j,by lia,by lia,λx o=>(hg x o).c,λx c3 m3 o=>?_⟩);rw[AP];refine⟨_,I _ _,nq (by rw[jad];lia),?_⟩;refine Eq.mpr (jac _ (es c3 m3 x)) (hN _ _ ⟨_,_,_,_,M,M,by rw[jag,hl];rfl,λy q=>?_⟩);rcases jan.mp q with q | q
  .exact hg y q
  .rw[jal.mp q];exact o
 .rintro Z C ⟨y,c,m,e,rfl,rfl,hl,hg⟩;rw[jad,jbt] at hl;refine⟨trivial,?_⟩;show closes S.length (.ob (S.length+0)) _ _;exact a5B (Kf hc) bB rfl trivial (h e c m (by lia) (by lia) hg)
abbrev vm:Stmt:=top 92
def gz:ak ["_law_draw","_law_names_here","_law_step_here","_law_k","_law_condition_here"] ["_law_draw"] (af vm):=cB
def JD (J:F5 P A)(X:c5 P k)(O:eg P k "_law_condition" ["_law_draw","_law_things","_law_deep"] (tE 2))(R:qP P k)(F:bW P.K "_law_chain" "_law_chain" vm f fd):cy P (k+1) f fd ["_law_draw"] yP:=by
 refine aP [_,_,_,_] F gz rfl λAT B o s H E g=>?_;refine⟨_,(qs (aj (i:=1) gz.nd (aa R g rfl ai)) (qs (aj (i:=2) gz.nd (bC (qa ay (qa (aa O g rfl ai) ah)))) (qs (eY jaO rfl (jO rfl J.gp ai) (qg (i:=3) gz.nd) (qs (aj (i:=4) gz.nd (aa O g rfl ai)) (aS (aX (aA (cA 40 (uE g)) (aa X g rfl ai) aB (au _)) (aS (aj (i:=2) gz.nd q_r)) (aS (aj (i:=2) gz.nd q_r)))))) (aS (ao q_r))))),?_⟩;rintro ds S kk hc hd ⟨d,rfl,dq,h⟩;refine⟨d,3,M,by decide,dq,λn c0 m0 hnl W b=>?_⟩;have b:=λx a=>RQ (b x a);have L:∀x∈n,Tw x:=λx a=>RI (b x a).1;refine⟨d,_,n,by decide,M,dq.bN,M,by lia,L,λe c m I C w=>?_⟩;rw[cF];have Q:∀(e:bT),sE e->e.dep<=2->e.sz<=H9 2->AV e:=λe T h2 h3=>⟨T,by lia,by have:H9 2=9:=rfl;lia⟩
 refine⟨(5:Int),M,by decide,by decide,?_⟩;refine pU (λi Z q=>∃y z c m s,Z=[some (D.ob d),some (D.t (Bu n)),some (D.t (iP s)),y,z]/\q=bN S d c m/\dF s/\s.dp<=i+1/\(rws s).length<=3*i+1) ⟨_,_,_,_,.cm 0 e,by rw[Px];rfl,M,by unfold dF;exact Q e I C w,by unfold cD.dp;decide,by unfold rws;show 1<=1;decide⟩ ?_ ?_
 .rintro i z Z q Nx hz ⟨y,z,c,m,s,rfl,rfl,hs,hd1,hr1⟩ hN;refine⟨trivial,d,_,n,by decide,M,dq.bN,M,by lia,L,λe c m I C w=>?_⟩;rw[cF];have u:=Q e I C w;have l:gY [s]:=yE λx a=>by rw[jal.mp a];exact hs
  have G:gY []:=yE λx a=>absurd a jaB;refine⟨d,2,M,dq.bN,by first | decide | lia,λr cr mr g=>?_⟩;rw[cF];by_cases h0:r=0
  .refine⟨true,qT2,?_⟩;refine hN _ _ ⟨_,_,_,_,.ch 0 e [s] [],by rw[Py,gc,gc];rfl,M,by unfold dF;exact⟨u,l,G,by simp,by simp⟩,?_,?_⟩
   .simp[cD.dp,jX];lia
   .simp[rws,aJ];lia
  .refine⟨false,qF2,?_⟩;refine hN _ _ ⟨_,_,_,_,.rp 0 e [(0,e)] none [s],by rw[Pr,gc];rfl,M,by unfold dF;exact⟨u,by simp,λp v=>(by rw[jal.mp v];exact u),λp v=>(by cases v),l,by simp⟩,?_,?_⟩
   .simp[cD.dp,jX];lia
   .simp[rws,aJ,EG];lia
 .rintro Z q ⟨y,z,c,m,s,rfl,rfl,hs,hd1,hr1⟩;rw[jad,jbt] at hd1 hr1;obtain⟨t,Y,U⟩:=ja (N:=n) (r:=2) (by lia);refine⟨trivial,oe U (dw ?_)⟩;have V:((5:Int).toNat)=5:=rfl;rw[V] at hd1 hr1;have j:=b t Y;have:=h ⟨0,t,[],[],[],[],[s]⟩ c m ⟨⟨j.1,⟨by simp,by simp,by simp,by simp,by simp⟩,λx a=>absurd a jaB,λx a=>absurd a jaB,λx a=>absurd a jaB,λx a=>absurd a jaB,yE λx a=>by rw[jal.mp a];exact hs⟩,⟨j.1,⟨by simp,by simp⟩,λx a=>absurd a jaB⟩,by simp[jX];lia,by simp[aL,aJ];lia⟩;unfold jW at this;rw[gc] at this;exact this
abbrev IU:Stmt:=inClass (top 70) 1
def Vi:ak ["self"] ["self"] (af IU):=cB
def Wm (J:F5 P A)(F:bW P.K "coming" "Tokens.coming" IU f fd):cy P (k+1) f fd ["self"] (PN A):=by
 refine aP [_] F Vi rfl λp B d s H E r=>?_;refine⟨_,(aS (ao (Jl (aA zY q_r (aH ck (by rfl) J.cu jaw ai) (au _)) q_r ay))),?_⟩;rintro g S m l o ⟨n,c,i,a,rfl,b,h⟩;refine(oe (aN b) (oe rfl (oe (aN b) ⟨_,M,?_⟩)))
 try dsimp only
 by_cases e:i<c.length
 .rw[jab (by simpa using e)];have q:c.getD i ""=c[i]:=by rw[jbC,jaK e];rfl
  exact(oe (aN b) (oe rfl (oe (aN b) (oe rfl (oe (bK (j:=i) (by rw[jaF,jaK e];rfl)) (dw (by rw[q] at h;exact h)))))))
 .rw[jaa (by simpa using e)];have q:c.getD i ""="":=by rw[jbC,jb2 (by lia)];rfl
  rw[q] at h;exact dw h
abbrev IM:Stmt:=inClass (top 70) 2
def LF:ak ["self","token"] ["self"] (af IM):=cB
def Wg (J:F5 P A)(d:gZ P k A)(F:bW P.K "take" "Tokens.take" IM f fd):cy P (k+1) f fd ["self"] (PK A):=by
 refine aP [_,_,_] F LF rfl λp B c s H E e=>?_;refine⟨_,(qs (aj (i:=1) LF.nd (aF q_r d e)) (qs (aW q_r q_r M) (aS (ao q_r)))),?_⟩;rintro j S m l o ⟨n,g,i,a,rfl,b,h⟩;exact⟨0,_,_,by decide,aN b,by symm,n,g,i,a,M,b,oe (aN b) ⟨n,_,_,_,M,b,J.o6.n.2.1,by decide,dw h⟩⟩
abbrev IQ:Stmt:=inClass (top 70) 3
def Vg:ak ["self","token"] ["self","token"] (af IQ):=cB
def Wi (J:F5 P A)(g:aG P k)(j:rW P k A)(F:bW P.K "take_just" "Tokens.take_just" IQ f fd):cy P (k+1) f fd ["self","token"] (PL A):=by
 refine aP [_] F Vg rfl λt B c s H E e=>?_;refine⟨_,(aS (bM (aa g e rfl (qa (cV (cA 40 (uE e)) (aF q_r j e) q_r (au _)) ai)))),?_⟩;rintro o S q p r ⟨n,m,i,a,w,rfl,d,l,h⟩;have lt:=HZ d;exact⟨0,_,_,by decide,aN d,by symm,n,m,i,a,M,d,oe (aN (eZ lt)) ⟨_,jac (λb=>[D.bl b,D.int a]) (seq l),dw h⟩⟩
abbrev IL:Stmt:=inClass (top 70) 4
def LD:ak ["self","ends","taken"] ["self","ends"] (af IL):=cB
def Wf (J:F5 P A)(I:gZ P k A)(Y:rW P k A)(F:bW P.K "take_until" "Tokens.take_until" IL f fd):cy P (k+1) f fd ["self","ends"] (PF A P.K):=by
 refine aP [_,_,_] F LD rfl λAT B w s H E u=>?_;refine⟨_,(qs (aj (i:=2) LD.nd (dH ah)) (qs (lG jaO (qw (jN (aA (j4 40 (uE u)) (aF q_r I u) ay (au _)) (iJ (aA RE (aF (q_v 0) I u) (q_v 1) (by rfl))))) (aS (bM (dJ q_r (qa (aF q_r Y u) ah))))) (aS (ao q_r)))),?_⟩;rintro ds S kk X hd ⟨n,e,t,c,i,a,l,r,rfl,U,L,y,W,Q,hn,h⟩;have lt:=HZ L;have e0:S=S.set n (uK A c i a):=(set_same L).symm;refine(?_)
 try dsimp only[d8]
 refine⟨λm Z p=>∃b d,l=b++d/\m=d.length/\Z=[some (D.ob n),some e,some (D.ob (S.length+0))]/\p=S.set n (uK A c (i+b.length) a)++[O.lst (b.map T.str)],⟨_,[],l,M,M,M,?_⟩,?_⟩
 .show S++[O.lst []]=S.set n (uK A c i a)++[O.lst []];rw[<- e0]
 rintro m Z p ⟨b,d,rfl,rfl,rfl,rfl⟩;have g:c.drop (i+b.length)=d++r:=drL (l:=b) (by rw[y,jax]);show Lr _ _ _ _ _;generalize j:c.getD (i+b.length) ""=v;refine ur (true ^^ decide (V.str v=V.str (Str.ofString ""))) (true ^^ decide (v∈t)) (λR hk=>⟨0,_,_,by decide,aN (gA lt),by symm,n,c,_,a,M,gA lt,_,M,by rw[j];exact hk⟩) (λR hk=>⟨0,_,_,by decide,aN (gA lt),by symm,n,c,_,a,M,gA lt,_,t,M,U,_,M,by rw[j];exact hk⟩) ?_
 try dsimp only
 cases d with
 |nil=>
  have C:closes S.length (.ob (S.length+0)) (S.set n (uK A c (i+b.length) a)++[O.lst (b.map T.str)]) kk:=MO (MN X) Cw rfl (by rw[jaD] at h;exact h);have G:((true ^^ decide (V.str v=V.str (Str.ofString "")))&&(true ^^ decide (v∈t)))=false:=by
   have:v=""\/v∈t:=by
    cases r with
    |nil=>exact .inl (by rw[<- j];exact dr0 (by simpa using g))
    |cons x r=>
     have q:=(Tc (show c.drop (i+b.length)=x::r by simpa using g)).1;rw[<- j,q];exact Q x r rfl
   rcases this with e | e
   .rw[jah (by rw[e]:V.str v=V.str (Str.ofString ""))];rfl
   .rw[jah e];exact Bool.and_false _
  rw[G,jaa (by decide)];exact(C)
 |cons x d=>
  have q:=(Tc (show c.drop (i+b.length)=x::(d++r) from g)).1;obtain⟨ex,hx⟩:=W x (by simp);rw[j] at q;subst q;have G:((true ^^ decide (V.str v=V.str (Str.ofString "")))&&(true ^^ decide (v∈t)))=true:=by
   rw[jai (λz=>ex (V.str.inj z)),jai hx];rfl
  rw[G,jab rfl];refine⟨λN p=>N=[some (D.ob n),some e,some (D.ob (S.length+0))]/\p=S.set n (uK A c (i+(b++[v]).length) a)++[O.lst ((b++[v]).map T.str)],?_,?_⟩
  .rintro N p ⟨rfl,rfl⟩;exact⟨d.length,by simp,b++[v],d,by simp,M,M,M⟩
  refine⟨⟨M,_,bG (cP (q:=0) Cw)⟩,0,_,_,by decide,aN (gA lt),by symm,n,c,_,a,M,gA lt,?_⟩;rw[sA lt,j];refine⟨_,cP (q:=0) Cw,nq (by simp at hn ⊢;lia),M,?_⟩;rw[jag,jau,<- Cw (S:=S) (n:=n) (o:=uK A c (i+b.length+1) a),cM];rfl
abbrev IP:Stmt:=top 71
def tF:ak ["words","at","found","word","behind","bare"] ["words","at"] (af IP):=cB
def Wh (J:F5 P A)(Q:aG P k)(F:bW P.K "tokens_of" "tokens_of" IP f fd):cy P (k+1) f fd ["words","at"] PD:=by
 refine aP [_,_,_] F tF rfl λAT B l s H E w=>?_;refine⟨_,(qs (aj (i:=2) tF.nd (dH ah)) (qs (eY jaO rfl (qi q_r) (qg (i:=3) tF.nd) (qs (aj (i:=4) tF.nd (QH q_r ai)) (qs (aj (i:=5) tF.nd (QF q_r ai)) (qs (bM (aa Q w rfl (qa (cV (j4 40 (uE w)) q_r ay (au _)) ai))) (qs (bM (LP q_r (qa (aY GH (bD ai) (aY Cv (aH ck (by rfl) J.cu jaw ai) (aH ck (by rfl) J.cu jaw ai))) ah))) (qs (bM (dJ q_r ai)) (aS (bM (LP q_r (qa (aY GH (bD ai) (aY Cv (aH ck (by rfl) J.cu jaw ai) (aH ck (by rfl) J.cu jaw ai))) ah)))))))))) (aS (ao q_r)))),?_⟩;rintro ds S kk hc hd ⟨bs,a,rfl,L,hl,h⟩;refine(?_)
 try dsimp only[d8]
 rw[jas] at hd ⊢;refine(ia (nB (T.str ∘ lD) (λpre Z p=>∃t u j,Z=[some (D.lst (bs.map (T.str ∘ lD))),some a,some (D.ob (S.length+0)),t,u,j]/\p=S++[O.lst ((yz pre).map T.str)]) ⟨_,_,_,M,M⟩ ?_ ?_))
 .rintro pre b post Z p N e ⟨t,u,j,rfl,rfl⟩ hN;have ok:=L b (by rw[e];simp);obtain⟨o,x,c⟩:=b;have U:(lD (o,x,c)).length=o+x.length+c:=by rw[bJ,iy];simp[bJ];lia
  have lb:(lD (0,x,c)).length=x.length+c:=by rw[bJ,iy];simp[bJ]
  have X:=ok.l1;have Y:=ok.l2;have k3:=ok.l3;simp only at X Y k3;have I:Txt.lstripChars (lD (o,x,c)) "("=lD (0,x,c):=by
   rw[show("(":Str)=⟨#[40]⟩ by symm];refine JL (n:=o) (by rw[iy,iy];simp) ?_;rw[iy];have:=ok.ne;have:=ok.o;simp only at *;cases q:cp x with
   |nil=>exact absurd q ok.ne
   |cons d r=>intro z;simp at z;rw[q,z] at this;exact this (jak ..)
  have C:Txt.rstripChars (lD (0,x,c)) ")"=x:=by
   rw[show(")":Str)=⟨#[41]⟩ by symm];refine Jh (n:=c) (by rw[iy];simp) λz=>ok.c ?_;exact List.mem_of_getLast? z
  have y:x≠"":=λz=>ok.ne (by show cp x=[];rw[z];symm);have R:(yz pre).length<=201*pre.length:=by
   have g:∀b∈pre,Ux b:=λb v=>L b (by rw[e];exact jbw _ v);clear e hN U lb I C y
   induction pre with
   |nil=>exact jaN _
   |cons d r ih=>
    have:=ih λb v=>g b (jaj _ v);have q:=g d (jak ..);have q1:=q.l1;have q2:=q.l2;rw[eN,jag,jam];simp;lia
  have G:pre.length<1000:=by have:=jac List.length e;simp at this;lia
  refine⟨trivial,M,cH (by show(lD (o,x,c)).length<=1000;lia),?_⟩
  try dsimp only[d8]
  show fV _ _ _ [some (D.lst (bs.map (T.str ∘ lD))),some a,some (D.ob (S.length+0)),some (D.str (lD (o,x,c))),some (D.str (Txt.lstripChars (lD (o,x,c)) "(")),j] _;rw[I];refine⟨M,cH (by lia),?_⟩
  try dsimp only[d8]
  show fV _ _ _ [some (D.lst (bs.map (T.str ∘ lD))),some a,some (D.ob (S.length+0)),some (D.str (lD (o,x,c))),some (D.str (lD (0,x,c))),some (D.str (Txt.rstripChars (lD (0,x,c)) ")"))] _;rw[C];refine⟨a,jac (λb=>[D.bl b,a]) (by rw[jai (λz=>y (V.str.inj z))];rfl),?_⟩;refine⟨⟨M,_,oW M⟩,cH (by lia),cH (by lia),_,M,by lia,by lia,?_,_,_,aZ,M,?_,?_⟩
  .have:(((lD (o,x,c)).length:Int) - ((lD (0,x,c)).length:Int)).toNat=o:=by lia
   rw[this];exact cH (by simp;lia)
  .have:(((lD (o,x,c)).length:Int) - ((lD (0,x,c)).length:Int)).toNat=o:=by lia
   rw[this];exact iY (by simp;lia)
  have t1:(((lD (o,x,c)).length:Int) - ((lD (0,x,c)).length:Int)).toNat=o:=by lia
  rw[cM,t1];refine⟨⟨M,_,oW M⟩,_,aZ,Nat.lt_of_le_of_lt (m:=300000) (by simp;lia) (by rw[ja3];decide),?_⟩;rw[cM];refine⟨⟨M,_,oW M⟩,cH (by lia),cH (by lia),_,M,by lia,by lia,?_,_,_,aZ,M,?_,?_⟩
  .have:(((lD (0,x,c)).length:Int) - (x.length:Int)).toNat=c:=by lia
   rw[this];exact cH (by simp;lia)
  .have:(((lD (0,x,c)).length:Int) - (x.length:Int)).toNat=c:=by lia
   rw[this];exact iY (by simp;lia)
  have W:(((lD (0,x,c)).length:Int) - (x.length:Int)).toNat=c:=by lia
  rw[cM,W];refine hN _ _ ⟨_,_,_,M,?_⟩;rw[Ll,eN];simp[yz]
 .rintro Z p ⟨t,u,j,rfl,rfl⟩;exact⟨trivial,Xk hc rfl h⟩
abbrev IS:Stmt:=inClass (top 70) 0
def Vh:ak ["self","words","at"] ["self","words","at"] (af IS):=cB
def Wj (J:F5 P A)(i:BJ P k)(F:bW P.K "__init__" "Tokens.__init__" IS f fd):cy P (k+1) f fd ["self","words","at"] (PM A):=by
 refine aP [_,_,_] F Vh rfl λq B b s H E e=>?_;refine⟨_,(qs (aW q_r (aa i e rfl ai) M) (qs (aW q_r aB M) (aS (aW q_r q_r M)))),?_⟩;rintro l S o m p ⟨n,bs,a,rfl,d,g,j,h⟩;have c:=HZ d;refine⟨bs,_,M,g,j,_,_,_,_,M,d,J.o6.n.1,by decide,?_⟩;refine⟨_,_,_,_,M,eZ c,J.o6.n.2.1,by decide,?_⟩;rw[jao];refine⟨_,_,_,_,M,eZ c,J.o6.n.2.2.1,by decide,?_⟩;rw[jao];exact dw h
abbrev Ja:Stmt:=top 75
def x8:ak ["source","one","sign","other"] ["source"] (af Ja):=cB
def Ww (J:F5 P A)(L:HN P k A)(w:di P k A)(C:vS P k A)(Q:rW P k A){u:Addr}(R:P.mg "SIGNS"=some (.ref u))(G:∀H:Hp,nO P.K H u ((["<","<=","=","!=",">=",">"]:jcB).map V.str))(F:bW P.K "read_comparison" "read_comparison" Ja f fd):cy P (k+1) f fd ["source"] (Zz A):=by
 refine aP [_,_,_,_] F x8 rfl λU B m s H E b=>?_;refine⟨_,(qs (aj (i:=1) x8.nd (k6 q_r C b (qa (vo (jq (v:=.ref u) rfl R M)) ah))) (qs (aj (i:=2) x8.nd (aF q_r Q b)) (qs (aj (i:=3) x8.nd (k6 q_r C b ai)) (aS (ao (qe L b rfl (qa (aa w b rfl ai) (qa q_r (qa (aa w b rfl ai) ah))))))))),?_⟩;rintro W S Z X hd ⟨n,j,i,a,x,y,s,r,rfl,o,q,t,D,d,l,h⟩;have lt:=HZ o;have I:j.drop (i+(ie x.p x.r).length)=s::(ie y.p y.r++r):=drL (by rw[d,jax];rfl);obtain⟨N,O⟩:=Tc I;have T:=Nj q;have Y:=Nj t;refine⟨0,_,_,by decide,aN o,by symm,n,_,X4,j,i,a,ie x.p x.r,s::(ie y.p y.r++r),M,.inr ⟨_,M,G⟩,o,by rw[d,jax];rfl,wd1 q,(λz r' e=>by injection e with e;rw[<- e];exact .inr D),by lia,?_⟩;refine⟨0,_,_,by decide,aN (eZ lt),by symm,n,j,_,a,M,eZ lt,?_⟩;rw[jao,N]
 try dsimp only[d8]
 refine⟨0,_,_,by decide,aN (eZ lt),by symm,n,_,["and","or",")"],j,_,a,ie y.p y.r,r,M,.inl M,eZ lt,O,wd2 t,Nl l,by lia,?_⟩;rw[jao];have g:=q.ok;have c:=t.ok;refine(oe (aN (eZ lt)) ⟨x.p,x.r,x.ws,_,M,g.len,g.fst,g.pl,g.pc,g.bd,oe (aN (eZ lt)) ⟨y.p,y.r,y.ws,_,M,c.len,c.fst,c.pl,c.pc,c.bd,_,[nI A (qd x.ws),.str s,nI A (qd y.ws)],M,M,av,made (dw ?_)⟩⟩);rw[Xo] at h;rw[show i+(ie x.p x.r++s::ie y.p y.r).length=i+(ie x.p x.r).length+1+(ie y.p y.r).length by simp;lia] at h;exact h
abbrev Qo:Stmt:=top 74
def Ql:ak ["source","condition"] ["source"] (af Qo):=cB
def a0Z (J:F5 P A)(o:je P k A)(q:rX P k A n)(F:bW P.K "read_bracketed" "read_bracketed" Qo f fd):cy P (k+1) f fd ["source"] (ZD A n):=by
 refine aP [_,_,_,_] F Ql rfl λy B b s H E j=>?_;refine⟨_,(qs (bM (k6 q_r o j ai)) (qs (aj (i:=1) Ql.nd (aa q j rfl ai)) (qs (bM (k6 q_r o j ai)) (aS (ao q_r))))),?_⟩;rintro u S w v x ⟨m,d,i,a,c,r,rfl,g,ok,dp,e,h⟩;have lt:=HZ g;obtain⟨t,l⟩:=Tc e;obtain⟨p,d4⟩:=Tc (drL l);refine⟨0,_,_,by decide,aN g,by symm,m,d,i,a,_,M,g,t,m,d,i+1,a,c,(")":Str)::r,M,eZ lt,ok,dp,l,.inr M,?_⟩;rw[jao]
 try dsimp only[d8]
 refine⟨0,_,_,by decide,aN (eZ lt),by symm,m,d,_,a,_,M,eZ lt,p,?_⟩;rw[jao];refine(dw ?_);rw[show i+(uR c).length+2=i+1+(uR c).length+1 by lia] at h;exact h
abbrev DU:Stmt:=top 73
def F3:ak ["source","inner"] ["source"] (af DU):=cB
def Gu (J:F5 P A)(U:qk P k A)(I:gZ P k A)(R:aG P k)(O:rY P k A n)(W:KH P k A)(T:je P k A)(F:bW P.K "read_part" "read_part" DU f fd):cy P (k+1) f fd ["source"] (ZC A n):=by
 refine aP [_,_,_] F F3 rfl λX B C s H E o=>?_;refine⟨_,(qs (aX (aA (cA 40 (uE o)) (aF q_r I o) ay (au _)) (qs (bM (k6 q_r T o ai)) (aS (ao (qe W o rfl (qa (aa O o rfl ai) ah))))) aK) (qs (aX (aA (cA 40 (uE o)) (aF q_r I o) ay (au _)) (qs (aj (i:=1) F3.nd (aa O o rfl ai)) (qs (bM (aa R o rfl (qa (aH (MU (c:=.ref A.bZ) trivial M) (by rfl) J.ju boot_isinstance (qa q_r (qa (vo (jq (v:=.ref A.bZ) rfl J.vN.g M)) ah))) ai))) (aS (ao q_r)))) aK) (aS (ao (aa U o rfl ai))))),?_⟩;rintro Y S kk Z hd ⟨m,j,i,a,c,r,rfl,e,ok,dp,L,d,z,h⟩;have lt:=HZ e;cases c with
 |cmp x s y=>
  rw[O8 M,uR] at d h;unfold CW.ok at ok;obtain⟨l,Q⟩:=a3H x;have t:j.getD i ""=tX x.p:=(Tc (r:=l++s::ie y.p y.r++r) (by rw[d,Q];rfl)).1;have w:=ok.1.wd (tX x.p) (by rw[Q];exact jak ..);have G:j.getD i ""≠Str.ofString "not":=by rw[t];exact w.kw "not"
  have V:j.getD i ""≠Str.ofString "(":=by rw[t];exact w.nw "("
  exact⟨0,_,_,by decide,aN e,by symm,m,j,i,a,M,e,false,jac D.bl (LC G),0,_,_,by decide,aN e,by symm,m,j,i,a,M,e,false,jac D.bl (LC V),m,j,i,a,x,y,s,r,M,e,ok.1,ok.2.1,ok.2.2,d,z,dw (by unfold CW.cd at h;exact h)⟩
 |neg c=>
  rw[O8 M,uR] at d h;unfold CW.ok at ok;unfold CW.dep at dp;obtain⟨p,rfl⟩:∃p,n=p+1:=⟨n - 1,by lia⟩
  obtain⟨t,N⟩:=Tc (w:=Str.ofString "not") d;refine⟨0,_,_,by decide,aN e,by symm,m,j,i,a,M,e,true,jac D.bl (seq t),0,_,_,by decide,aN e,by symm,m,j,i,a,_,M,e,t,m,j,i+1,a,c,r,M,eZ lt,ok,by lia,by rw[N];simp,?_⟩;rw[jao];refine⟨_,[gI A c.cd],M,M,av,made (dw ?_)⟩;unfold CW.cd at h;rw[Xm] at h;rw[show i+1+(uR c).length+2=i+(Str.ofString "not"::Str.ofString "("::(uR c++[Str.ofString ")"])).length by simp;lia];exact h
 |con q u=>
  have L:=L rfl;rw[a3d rfl] at d h;obtain⟨p,rfl⟩:∃p,n=p+1:=⟨n - 1,by lia⟩
  obtain⟨t,N⟩:=Tc (w:=Str.ofString "(") d;have G:j.getD i ""≠Str.ofString "not":=by rw[t];symm
  refine⟨0,_,_,by decide,aN e,by symm,m,j,i,a,M,e,false,jac D.bl (LC G),0,_,_,by decide,aN e,by symm,m,j,i,a,M,e,true,jac D.bl (seq t),m,j,i,a,.con q u,r,M,e,ok,by lia,by rw[d];simp,?_⟩;refine⟨M,_,_,OZ A _ _,J.kS _ (fu _),oe (aN (eZ lt)) ⟨_,jac (λb=>[D.bl b,D.int a]) (jah ((IE (.con q u)).mpr M)),dw ?_⟩⟩;rw[show i+(uR (.con q u)).length+2=i+(Str.ofString "("::(uR (.con q u)++[Str.ofString ")"])).length by simp;lia];exact h
abbrev DX:Stmt:=top 72
def yV:ak ["source","parts","word"] ["source"] (af DX):=cB
def Gv (J:F5 P A)(WY:OG P k A)(a1y:Ul P k A)(cQ:gZ P k A)(wL:BN P k A n)(eV:je P k A)(aq:aG P k)(F:bW P.K "read_condition" "read_condition" DX f fd):cy P (k+1) f fd ["source"] (U8 A n):=by
 refine aP [_,_,_,_,_] F yV rfl λAT B W s H E I=>?_;refine⟨_,(qs (aj (i:=1) yV.nd (dH (qa (aa wL I rfl ai) ah))) (qs (aj (i:=2) yV.nd (aF q_r cQ I)) (qs (aX (aA yj q_r q_r (by rfl)) (qs (bM (aa aq I rfl (qa (a34 (aH (MU (c:=.ref A.bZ) trivial M) (by rfl) J.ju boot_isinstance (qa q_r (qa (vo (jq (v:=.ref A.bZ) rfl J.vN.g M)) ah)))) ai))) (aS (ao q_r))) aK) (qs (lG jaO (aA (cA 40 (uE I)) (aF q_r cQ I) q_r (au _)) (qs (bM (k6 q_r eV I ai)) (aS (bM (dJ q_r (qa (aa wL I rfl ai) ah)))))) (aS (ao (Jl (aA (cA 40 (uE I)) q_r ay (au _)) (qe WY I rfl ai) (qe a1y I rfl ai)))))))),?_⟩;rintro ds S kk hc hd ⟨m,t,i,a,c,r,rfl,X,ok,dp,w,C,h⟩;have lt:=HZ X;cases y:ic c with
 |false=>
  rw[<- O8 y] at w h;refine⟨m,t,i,a,c,r,M,X,ok,dp,(λz=>by rw[y] at z;cases z),w,FO C,?_⟩;dsimp only[bR];refine UT ?_
  try dsimp only[d8]
  rw[Cw];refine⟨0,_,_,by decide,aN (gA lt),by symm,m,t,_,a,M,gA lt,?_⟩
  try dsimp only[d8]
  have q:∀k,t.getD (i+(xU c).length) ""≠wH k:=λk=>FP (drL w) C;generalize t.getD (i+(xU c).length) ""=v at q;have hb:(true ^^ H8 (V.str v) [V.str (Str.ofString "and"),V.str (Str.ofString "or")])=true:=by
   rw[show[V.str (Str.ofString "and"),V.str (Str.ofString "or")]=([("and":Str),"or"]).map V.str from M,iU,jai (by simp;exact⟨q true,q false⟩)];rfl
  have R:∀o G,lq (S.set m o++O.lst [gI A c.cd]::G) (.ob (S.length+0))=some [gI A c.cd]:=λo G=>bG (cP (q:=0) Cw);refine⟨_,_,_,M,M,M,M,true,jac D.bl hb,?_⟩
  try dsimp only
  rw[jab rfl];refine(?_);rw[fV,Dc,iX,br,Pe,Im,br];refine a23 rfl (R _ []) jZ ?_;refine⟨M,_,_,OZ A _ _,J.kS _ (fu _),_,M,oe (aN (gA lt)) ⟨_,jac (λb=>[D.bl (!b),D.int a]) (jai (λz=>by rw[(IE c).mp z] at y;cases y)),?_⟩⟩;dsimp only[Ci];exact a23 rfl (R _ []) jZ (Tz hc h)
 |true=>
  cases c with
  |cmp _ _ _=>cases y
  |neg _=>cases y
  |con q T=>
   cases T with
   |nil=>unfold CW.ok at ok;have:=ok.2.1;simp at this
   |cons d T=>
    rw[Lm] at w h;unfold CW.ok at ok;unfold CW.dep at dp;obtain⟨Y,U,l3⟩:=ok;have dm:∀e∈d::T,e.ok/\e.dep<n:=λe he=>⟨L5 Y he,by have:=Hj he;lia⟩
    obtain⟨L,p,rfl⟩:∃L p,T=L::p:=by
     cases T with
     |nil=>simp at U
     |cons L p=>exact⟨_,_,M⟩
    have k0:=dm d (jak ..);refine⟨m,t,i,a,d,qF q (L::p)++r,M,X,k0.1,by lia,(λ_=>k0.2),by rw[w,jax],XY C,?_⟩;dsimp only[bR];refine UT ?_
    try dsimp only[d8]
    rw[Cw];refine⟨0,_,_,by decide,aN (gA lt),by symm,m,t,_,a,M,gA lt,?_⟩;have d2:=drL (l:=xU d) (r:=qF q (L::p)++r) (by rw[w,jax]);have q1:t.getD (i+(xU d).length) ""=wH q:=(Tc (r:=xU L++qF q p++r) (by rw[d2,iN];simp)).1;rw[q1]
    try dsimp only[d8]
    have hb:(true ^^ H8 (V.str (wH q)) [V.str (Str.ofString "and"),V.str (Str.ofString "or")])=false:=by cases q<;>symm
    refine⟨_,_,_,M,M,M,M,false,jac D.bl hb,?_⟩
    try dsimp only
    rw[jaa (by decide)];refine⟨λj Z Q=>∃x U,L::p=x++U/\j=U.length/\Z=[some (D.ob m),some (D.ob (S.length+0)),some (D.str (wH q))]/\Q=S.set m (uK A t (i+(xU d++qF q x).length) a)++[O.lst ((d::x).map λc=>gI A c.cd)],⟨_,[],_,M,M,M,by rw[qF,jaD];rfl⟩,?_⟩;rintro j Z Q ⟨x,u,N,rfl,rfl,rfl⟩;have d3:t.drop (i+(xU d++qF q x).length)=qF q u++r:=drL (by rw[w,N,C7];simp);cases u with
    |nil=>
     rw[jaD] at N;subst N;rw[qF] at d3;refine⟨0,_,_,by decide,aN (gA lt),by symm,m,t,_,a,M,gA lt,false,jac D.bl (LC (FP d3 C)),?_⟩
     try dsimp only
     rw[jaa (by decide)];have R:∀o G,xq (S.set m o++O.lst ((d::L::p).map λc=>gI A c.cd)::G) (.ob (S.length+0))=some ((d::L::p).map λc=>gI A c.cd):=λo G=>bG (cP (q:=0) Cw);unfold CW.cd at h;rw[Xn,MQ,jas] at h;cases q with
     |true=>exact⟨true,qT1,_,_,_,M,av,by rw[jax];exact R _ _,made (Tz hc h)⟩
     |false=>exact⟨false,qF1,_,_,_,M,av,by rw[jax];exact R _ _,made (Tz hc h)⟩
    |cons e u=>
     have d4:t.drop (i+(xU d++qF q x).length)=wH q::(xU e++(qF q u++r)):=by rw[d3,iN];simp
     obtain⟨q2,d5⟩:=Tc d4;have ke:=dm e (by rw[N];simp);refine⟨0,_,_,by decide,aN (gA lt),by symm,m,t,_,a,M,gA lt,true,jac D.bl (seq q2),?_⟩
     try dsimp only
     rw[jab rfl];refine⟨λZ' Q=>Z'=[some (D.ob m),some (D.ob (S.length+0)),some (D.str (wH q))]/\Q=S.set m (uK A t (i+(xU d++qF q (x++[e])).length) a)++[O.lst ((d::(x++[e])).map λc=>gI A c.cd)],?_,?_⟩
     .rintro Z' Q ⟨rfl,rfl⟩;exact⟨u.length,by simp,x++[e],u,by rw[N];simp,M,M,M⟩
     refine⟨0,_,_,by decide,aN (gA lt),by symm,m,t,_,a,_,M,gA lt,q2,?_⟩;rw[sA lt];refine⟨⟨M,_,bG (cP (q:=0) Cw)⟩,m,t,_,a,e,qF q u++r,M,gA lt,ke.1,by lia,(λ_=>ke.2),d5,XY C,?_⟩;rw[sA lt];have ll:x.length<=3:=by have:=jac List.length N;simp at this l3;lia
     refine⟨_,cP (q:=0) Cw,nq (by simp;lia),M,?_⟩;have ix:i+(xU d++qF q (x++[e])).length=i+(xU d++qF q x).length+1+(xU e).length:=by rw[C7,iN,qF];simp;lia
     rw[ix,<- Cw (S:=S) (n:=m) (o:=uK A t (i+(xU d++qF q x).length+1+(xU e).length) a),cM];simp
abbrev Qt:Stmt:=top 69
def IK:ak ["words","at","source","condition"] ["words","at"] (af Qt):=cB
def a02 (J:F5 P A)(l:aG P k)(n:gZ P k A)(o:eg P k "read_condition" ["source"] (U8 A 2))(j:KI P k A)(F:bW P.K "condition_of" "condition_of" Qt f fd):cy P (k+1) f fd ["words","at"] (ZF A):=by
 refine aP [_,_,_,_] F IK rfl λw B g s H E d=>?_;refine⟨_,(qs (aj (i:=2) IK.nd (Yc j d rfl ai)) (qs (aj (i:=3) IK.nd (aa o d rfl ai)) (qs (bM (aa l d rfl (qa (cV (cA 40 (uE d)) (aF q_r n d) ay (au _)) ai))) (aS (ao q_r))))),?_⟩;rintro t S u m v ⟨c,a,rfl,ok,dp,p,r,h⟩;refine⟨_,l7 c,a,M,av,p,r,M,?_⟩;rw[bO]
 try dsimp only[d8]
 have e:=Lj ok;refine⟨S.length,yz (l7 c),0,a,c,[],M,av,ok,dp,by rw[e];simp,.inl M,?_⟩;rw[bO]
 try dsimp only[d8]
 have q:(yz (l7 c)).getD (0+(uR c).length) ""=Str.ofString "":=dr0 (by rw[e];simp);refine⟨0,_,_,by decide,aN av,by symm,S.length,_,_,a,M,av,_,jac (λb=>[D.bl b,D.int a]) (seq q),vL m h⟩
abbrev I8:Stmt:=inClass (top 53) 0
def Vl:ak ["self","rows"] ["self","rows"] (af I8):=cB
def Wu (J:F5 P A)(F:bW P.K "__init__" "Rows.__init__" I8 f fd):cy P (k+1) f fd ["self","rows"] (PX A):=by
 refine aP [_,_] F Vl rfl λy B a s H E z=>?_;refine⟨_,(qs (aW q_r (bE (cS ["row"] [] []) rfl (qi q_r) (λ_ _ _ _=>(qx (i:=0) xw)) (λ_ _ _ _=>aR) (λ_ _ _ _=>(yf false q_r ai))) M) (aS (aW q_r aB M))),?_⟩;rintro r S u t w ⟨n,d,c,rfl,b,j,p,m,h⟩;have g:=HZ b;refine(Su j λG o=>cG T.str (λx=>T.lst ((Txt.split x " ").map T.str)) (by simpa using o []) (cH p) (λx q v hk=>?_) ?_)
 .have:=m x q;exact⟨M,M,iY (by lia),JG ⟨_,M,hk⟩⟩
 refine⟨_,_,_,_,M,b,J.E2.n.1,by decide,?_⟩;refine⟨_,_,_,_,M,eZ g,J.E2.n.2.1,by decide,?_⟩;rw[jao];refine dw ?_;have e:(c.map λx=>T.lst ((Txt.split x " ").map T.str))=(c.map λx=>Txt.split x " ").map λl=>T.lst (l.map T.str):=by rw[jas];rfl
 rw[e];exact h
abbrev I9:Stmt:=inClass (top 53) 1
def Vm:ak ["self"] ["self"] (af I9):=cB
def Wv (J:F5 P A)(F:bW P.K "coming" "Rows.coming" I9 f fd):cy P (k+1) f fd ["self"] (PY A):=by
 refine aP [_] F Vm rfl λu B g s H E v=>?_;refine⟨_,(aS (ao (Jl (aA zY q_r (aH ck (by rfl) J.cu jaw ai) (au _)) q_r ay))),?_⟩;rintro o S r p t ⟨n,R,i,rfl,d,b,h⟩;refine(oe (aN d) (oe rfl (oe (aN d) ⟨_,M,?_⟩)))
 try dsimp only
 by_cases e:i<R.length
 .rw[jab (by simpa using e)];have q:R.getD i []=R[i]:=by rw[jbC,jaK e];rfl
  have b:=b e;rw[q] at b h;obtain⟨y,c,l⟩:∃y c,R[i]=y::c:=by
   cases m:R[i] with
   |nil=>exact absurd m b
   |cons y c=>exact⟨y,c,M⟩
  rw[l] at h;refine oe (aN d) (oe rfl (oe (aN d) (oe rfl (oe (a:=T.lst ((y::c).map T.str)) (bK (j:=i) (by rw[jaF,jaK e,l];rfl)) ?_))));dsimp only[wj,W6,D.iD,D.sD,Option.elim,IxL,sq,lq,lE];rw[jaf,jZ];exact dw h
 .rw[jaa (by simpa using e)];have q:R.getD i []=[]:=by rw[jbC,jb2 (by lia)];rfl
  rw[q] at h;exact dw h
abbrev IW:Stmt:=inClass (top 53) 2
def Vj:ak ["self"] ["self"] (af IW):=cB
def Wo (J:F5 P A)(g:aG P k)(F:bW P.K "take" "Rows.take" IW f fd):cy P (k+1) f fd ["self"] (PV A):=by
 refine aP [_,_,_] F Vj rfl λr B c s H E l=>?_;refine⟨_,(qs (bM (aa g l rfl (qa (cV zY q_r (aH ck (by rfl) J.cu jaw ai) (au _)) ai))) (qs (aW q_r q_r M) (aS (ao q_r)))),?_⟩;rintro m S p o q ⟨n,R,i,e,rfl,a,d,h⟩;have lt:=HZ a;have li:i<R.length:=(jar.mp d).1;refine(oe (aN a) (oe rfl (oe (aN a) (oe rfl (oe (aN a) ⟨_,jac (λb=>[D.bl b,D.int i]) (jah (by simpa using li)),?_⟩)))));refine(oe (aN a) ⟨n,_,_,_,M,a,J.E2.n.2.1,by decide,?_⟩);refine(oe (aN (eZ lt)) (oe rfl (oe (aN (eZ lt)) (oe rfl (oe (?_) (dw h))))));show jY (R.map λe=>T.lst (e.map T.str)) ((i:Int)+1 - 1)=_;rw[Int.add_sub_cancel];exact bK (j:=i) (by rw[jaF,d];rfl)
abbrev I0:Stmt:=inClass (top 53) 3
def LH:ak ["self","word","at"] ["self","word"] (af I0):=cB
def Wt (J:F5 P A)(d:aG P k)(g:iB P k A)(F:bW P.K "take_just" "Rows.take_just" I0 f fd):cy P (k+1) f fd ["self","word"] (Lx A):=by
 refine aP [_,_] F LH rfl λp B a s H E c=>?_;refine⟨_,(qs (aj (i:=2) LH.nd q_r) (aS (bM (aa d c rfl (qa (cV (cA 40 (uE c)) (aF q_r g c) (bD ai) (au _)) ai))))),?_⟩;rintro j S m l o ⟨n,R,i,w,rfl,b,e,h⟩;refine(oe (aN b) (?_))
 try dsimp only[d8]
 refine⟨0,_,_,by decide,aN b,by symm,n,R,i,[w],M,b,e,?_⟩;refine a8t (t:=.str w) rfl ?_;exact a8s (by decide) ⟨_,M,dw h⟩
abbrev IV:Stmt:=top 56
def DG:ak ["source","word","found","at"] ["source","word"] (af IV):=cB
def Wn (J:F5 P A)(N:g7 P k A)(L:lW P k A)(X:iB P k A)(F:bW P.K "read_writings" "read_writings" IV f fd):cy P (k+1) f fd ["source","word"] (ZA A):=by
 refine aP [_,_,_] F DG rfl λY B t s H E j=>?_;refine⟨_,(qs (aj (i:=2) DG.nd (dH ah)) (qs (lG jaO (aA (cA 40 (uE j)) (aF q_r N j) q_r (au _)) (qs (aj (i:=3) DG.nd q_r) (aS (bM (dJ q_r (qa (bC (qa q_r (qa (aa L j rfl (qa (dX false (aF q_r X j) (aQ aB) bx) ai)) ah))) ah)))))) (aS (ao q_r)))),?_⟩;rintro ds S kk T hd ⟨n,R,i,w,l,y,p,r,rfl,x,v,W,u,Q,h⟩;have lt:=HZ x;have U:S=S.set n (j9 A R i):=(set_same x).symm;refine(?_)
 try dsimp only[d8]
 refine⟨λm Z e=>∃z a d,l=a++d/\m=d.length/\Z=[some (D.ob n),some (D.str w),some (D.ob (S.length+0)),z]/\e=S.set n (j9 A R (i+a.length))++[O.lst ((FE i a).map (atT A))],⟨_,_,[],l,M,M,M,?_⟩,?_⟩
 .show S++[O.lst []]=S.set n (j9 A R i)++[O.lst []];rw[<- U]
 rintro m Z e ⟨z,a,d,rfl,rfl,rfl,rfl⟩;have C:R.drop (i+a.length)=d.map (wU w)++(y::p)::r:=by
  have:=Qy (l:=a.map (wU w)) (r:=d.map (wU w)++(y::p)::r) (by rw[v];simp);rwa[jad] at this
 cases d with
 |nil=>
  obtain⟨G,g,V⟩:=D3 (show R.drop (i+a.length)=(y::p)::r from C);refine⟨0,_,_,by decide,aN (gA lt),by symm,n,R,_,M,gA lt,(λ_=>by rw[g];simp),false,jac D.bl (LC (by rw[g];exact W)),?_⟩
  try dsimp only
  rw[jaa (by decide)];rw[jaD] at h;exact(MO (MM T) Cw rfl h)
 |cons c d=>
  obtain⟨G,g,V⟩:=D3 (show R.drop (i+a.length)=wU w c::(d.map (wU w)++(y::p)::r) from C);have ok:=u c (by simp);refine⟨0,_,_,by decide,aN (gA lt),by symm,n,R,_,M,gA lt,(λ_=>by rw[g];unfold wU;simp),true,jac D.bl (seq (by rw[g];rfl)),?_⟩
  try dsimp only
  rw[jab rfl];refine⟨λI e=>∃z,I=[some (D.ob n),some (D.str w),some (D.ob (S.length+0)),z]/\e=S.set n (j9 A R (i+(a++[c]).length))++[O.lst ((FE i (a++[c])).map (atT A))],?_,?_⟩
  .rintro I e ⟨z,rfl,rfl⟩;exact⟨d.length,by simp,z,a++[c],d,by simp,M,M,M⟩
  refine(oe (aN (gA lt)) (?_))
  try dsimp only[d8]
  refine⟨⟨M,_,bG (cP (q:=0) Cw)⟩,0,_,_,by decide,aN (gA lt),by symm,n,R,_,_,M,gA lt,G,_,M,?_⟩;rw[jaa (by decide),sA lt];unfold wU;rw[jaf,cJ];have ll:a.length<=100:=by simp at Q;lia
  refine⟨c,_,M,ok.1,ok.2,ok.b,by have:=ok.ln;lia,_,cP (q:=0) Cw,nq (by rw[jad,C1];lia),?_⟩;rw[<- Cw (S:=S) (n:=n) (o:=j9 A R (i+a.length+1)),cM];refine⟨_,M,?_⟩;rw[K5,jag,jau];rfl
abbrev IY:Stmt:=top 63
def Vk:ak ["words","at"] ["words","at"] (af IY):=cB
def Wr (J:F5 P A)(e:Uo P k A)(n:di P k A)(g:aG P k)(l:fH P k)(F:bW P.K "read_make" "read_make" IY f fd):cy P (k+1) f fd ["words","at"] (Dp A a40):=by
 refine aP [_,_] F Vk rfl λu B d s H E a=>?_;refine⟨_,(qs (bM (aa g a rfl (qa (kg (cV qh (aH ck (by rfl) J.cu jaw ai) aB (au _)) (kg (aa l a rfl ai) (oK (cV (cA 40 (uE a)) q_r ay (au _))))) ai))) (aS (ao (qe e a rfl (qa q_r (qa q_r (qa (aa n a rfl (qa (dX false q_r (aQ aB) bx) ai)) ah))))))),?_⟩;rintro o S t q m ⟨x,i,rfl,hk0,ok,h⟩;cases x with
 |mq r z=>
  unfold SX.ok at ok;have c:=ok.2.ok;have ln:3<((SX.mq r z).qo.map T.str).length:=by rw[jad];show 3<(ie z.p z.r).length+3;rw[uX];lia
  unfold SX.qo at ln m ⊢;refine⟨true,jac D.bl (jah (by exact_mod_cast ln)),oe (bK (j:=1) M) ⟨r,M,by have:=jQ ok.1;lia,true,jac D.bl ok.1,oe (bK (j:=2) M) ⟨_,jac (λb=>[D.bl b,D.int i]) (seq M),?_⟩⟩⟩;refine(oe (bK (j:=1) M) ⟨_,M,?_⟩);rw[jaa (by decide),show(3:Int)=((3:Nat):Int) from M,ud];refine⟨z.p,z.r,z.ws,_,M,c.len,c.fst,c.pl,c.pc,c.bd,_,[.int i,.str r,nI A (qd z.ws)],M,M,av,made (dw ?_)⟩;unfold SX.st iG at h;exact h
 |_=>cases hk0
abbrev IX:Stmt:=top 62
def LG:ak ["words","at","place"] ["words","at"] (af IX):=cB
def Wq (J:F5 P A)(l:XF P k A)(m:di P k A)(n:aG P k)(q:fH P k)(F:bW P.K "read_put" "read_put" IX f fd):cy P (k+1) f fd ["words","at"] (Dp A Ys):=by
 refine aP [_,_,_] F LG rfl λI B e s H E a=>?_;refine⟨_,(qs (bM (aa n a rfl (qa (kg (cV qh (aH ck (by rfl) J.cu jaw ai) aB (au _)) (kg (aa q a rfl ai) (kg (cV (cA 40 (uE a)) q_r ay (au _)) (oK (cV Bt ay q_r (by rfl)))))) ai))) (qs (aj (i:=2) LG.nd (QK q_r ai)) (aS (ao (qe l a rfl (qa q_r (qa q_r (qa (aa m a rfl (qa (dX false q_r (aQ aB) (aQ q_r)) ai)) (qa (aa m a rfl (qa (dX false q_r (aQ q_r) bx) ai)) ah))))))))),?_⟩;rintro y S G C L ⟨x,i,rfl,hk0,ok,h⟩;cases x with
 |pt r p s=>
  unfold SX.ok at ok;have c:=ok.2.1.ok;have d:=ok.2.2.ok;have ln:3<((SX.pt r p s).qo.map T.str).length:=by
   rw[jad];show 3<(ie p.p p.r++("=":Str)::ie s.p s.r).length+3;rw[jag,uX];lia
  have t:=wD ok.1;have v:("=":Str)∉("put":Str)::r::("at":Str)::p.w:=λz=>by
   rcases jae.mp z with z | z
   .exact absurd z (by symm)
   rcases jae.mp z with z | z
   .exact t.nw "=" (by symm) z.symm
   rcases jae.mp z with z | z
   .exact absurd z (by symm)
   exact(ok.2.1.wd _ z).nw "=" (by symm) rfl
  have g:(SX.pt r p s).qo=(("put":Str)::r::("at":Str)::p.w)++("=":Str)::s.w:=rfl;refine⟨true,jac D.bl (jah (by exact_mod_cast ln)),oe (bK (j:=1) M) ⟨r,M,by have:=jQ ok.1;lia,true,jac D.bl ok.1,oe (bK (j:=2) M) ⟨true,qT1,?_⟩⟩⟩;refine Bw (ws:=(SX.pt r p s).qo) rfl ⟨_,jac (λb=>[D.bl b,D.int i]) (show(false ^^ decide (("=":Str)∈(SX.pt r p s).qo))=true by rw[g];simp),?_⟩;refine⟨⟨M,_,M⟩,("put":Str)::r::("at":Str)::p.w,s.w,M,v,?_⟩
  try dsimp only[d8]
  refine(oe (bK (j:=1) M) ⟨_,M,?_⟩);have u:(("put":Str)::r::("at":Str)::p.w).length=3+p.w.length:=by simp;lia
  rw[jaa (by decide),show(3:Int)=((3:Nat):Int) from M,a2f _ (by lia) (by rw[jad,g,jag];lia),g,<- jbp,<- List.map_take,List.drop_append_of_le_length (by lia)];have o:((("put":Str)::r::("at":Str)::p.w).drop 3++("=":Str)::s.w).take ((("put":Str)::r::("at":Str)::p.w).length - 3)=p.w:=by
   rw[u];show(p.w++("=":Str)::s.w).take (3+p.w.length - 3)=_;rw[jbE,jbX]
  rw[o];refine⟨p.p,p.r,p.ws,_,M,c.len,c.fst,c.pl,c.pc,c.bd,_,M,?_⟩;rw[jaa (by decide),show((("put":Str)::r::("at":Str)::p.w).length:Int)+1=(((("put":Str)::r::("at":Str)::p.w).length+1:Nat):Int) from M,ud,<- jbp,<- List.drop_drop,jbY];refine⟨s.p,s.r,s.ws,_,M,d.len,d.fst,d.pl,d.pc,d.bd,_,[.int i,.str r,nI A (qd p.ws),nI A (qd s.ws)],M,M,av,made (dw ?_)⟩;unfold SX.st iG at h;exact h
 |_=>cases hk0
abbrev IZ:Stmt:=top 61
def tH:ak ["words","at","name","rest","word","place"] ["words","at"] (af IZ):=cB
def Ws (J:F5 P A)(L:XG P k A)(C:di P k A)(WX:OF P k A)(U:aG P k)(X:fH P k)(Sg:KN P k A)(F:bW P.K "read_let" "read_let" IZ f fd):cy P (k+1) f fd ["words","at"] (Dp A isLet):=by
 refine aP [_,_,_,_,_,_] F tH rfl λAT B I s H E c=>?_;refine⟨_,(qs (bM (aa U c rfl (qa (kg (cV qh (aH ck (by rfl) J.cu jaw ai) aB (au _)) (kg (aa X c rfl ai) (oK (cV (cA 40 (uE c)) q_r ay (au _))))) ai))) (qs (aj (i:=2) tH.nd q_r) (qs (aj (i:=3) tH.nd (dX false q_r (aQ aB) bx)) (qs (eY jaO rfl (qi q_r) (qg (i:=4) tH.nd) (aS (aX (aA Bt q_r q_r (by rfl)) (qs (aj (i:=5) tH.nd (QK q_r ai)) (aS (ao (qe Sg c rfl (qa q_r (qa q_r (qa q_r (qa (aa C c rfl (qa (dX false q_r bx (aQ q_r)) ai)) (qa (aa C c rfl (qa (dX false q_r (aQ q_r) bx) ai)) ah))))))))) aK))) (qs (aX (qw (jN (aA qh (aH ck (by rfl) J.cu jaw ai) aB (au _)) (iJ (aA (cA 40 (uE c)) q_r ay (au _))))) (qs (bM (aa U c rfl (qa (aa X c rfl ai) ai))) (aS (ao (qe WX c rfl (qa q_r (qa q_r (qa q_r (qa (aa C c rfl (qa (dX false q_r (aQ aB) bx) ai)) ah)))))))) aK) (aS (ao (qe L c rfl (qa q_r (qa q_r (qa (aa C c rfl ai) ah))))))))))),?_⟩;rintro ds S Y hc hd ⟨x,i,rfl,hk0,ok,h⟩;cases x with
 |lt x a=>
  unfold SX.ok at ok;have e:=ok.2.ok;have la:1<=a.w.length:=by show 1<=(ie a.p a.r).length;rw[uX];lia
  have ln:3<((SX.lt x a).qo.map T.str).length:=by rw[jad];show 3<a.w.length+3;lia
  refine⟨true,jac D.bl (jah (by exact_mod_cast ln)),oe (bK (j:=1) M) ⟨x,M,by have:=jQ ok.1;lia,true,jac D.bl ok.1,oe (bK (j:=2) M) ⟨_,jac (λb=>[D.bl b,D.int i]) (seq M),?_⟩⟩⟩;refine oe (bK (j:=1) M) ?_
  try dsimp only[lE]
  try dsimp only[d8]
  refine⟨_,M,?_⟩;rw[jaa (by decide),show(3:Int)=((3:Nat):Int) from M,ud,<- jbp,show(SX.lt x a).qo.drop 3=a.w from rfl]
  try dsimp only[d8]
  refine(dM ⟨trivial,?_⟩);refine(Bw (ws:=a.w) rfl ⟨false,jac D.bl (show(false ^^ decide (("div":Str)∈a.w))=false by rw[jai (λz=>(ok.2.wd _ z).kw "div" (by symm) M)];rfl),trivial,?_⟩);refine(Bw (ws:=a.w) rfl ⟨false,jac D.bl (show(false ^^ decide (("mod":Str)∈a.w))=false by rw[jai (λz=>(ok.2.wd _ z).kw "mod" (by symm) M)];rfl),trivial,?_⟩);have d:∀z:Str,a.w[1]?=some z->z≠("at":Str):=λz u=>(ok.2.wd z (ja5 u)).kw "at";have done:∀E Z,Z[1]?=some (some (D.int i))->Z[2]?=some (some (D.str x))->Z[3]?=some (some (D.lst (a.w.map T.str)))->E=endsF S Y->(Ci (uV A.um (Dw A.um ["at","name","total"]) (br (cE 1) (br (cE 2) (br (iX (Co A) (br (cE 3) (br (cE 1) bR))) bR))))) E Z S:=λE Z l N G O=>by
   subst O;refine oe l ?_
   try dsimp only[lE]
   refine oe N ?_
   try dsimp only[lE]
   refine oe G ?_
   try dsimp only[lE]
   refine oe l ?_
   try dsimp only[lE]
   refine⟨a.p,a.r,a.ws,_,M,e.len,e.fst,e.pl,e.pc,e.bd,_,[.int i,.str x,nI A (qd a.ws)],M,M,av,made (dw ?_)⟩;unfold SX.st iG at h;exact h
  by_cases Q:1<a.w.length
  .obtain⟨z,u⟩:∃z,a.w[1]?=some z:=⟨a.w[1],jaK Q⟩
   refine⟨true,jac D.bl (jah (by rw[jad];exact_mod_cast Q)),?_⟩
   try dsimp only
   rw[jab rfl];refine oe (bK (j:=1) (by rw[jaF,u];rfl)) ?_
   try dsimp only[lE]
   refine⟨false,jac D.bl (LC (d z u)),?_⟩;rw[jaa (by decide)];dsimp only[qV];exact done _ _ rfl rfl rfl rfl
  .refine⟨false,jac D.bl (jai (by rw[jad];exact_mod_cast Q)),?_⟩;rw[jaa (by decide)];dsimp only[qV];exact done _ _ rfl rfl rfl rfl
 |dv x g a b=>
  unfold SX.ok at ok;obtain⟨t,o,v,hb⟩:=ok;have e:=v.ok;have n:=hb.ok;have la:1<=a.w.length:=by show 1<=(ie a.p a.r).length;rw[uX];lia
  have ln:3<((SX.dv x g a b).qo.map T.str).length:=by rw[jad];show 3<(a.w++g::b.w).length+3;rw[jag];lia
  refine⟨true,jac D.bl (jah (by exact_mod_cast ln)),oe (bK (j:=1) M) ⟨x,M,by have:=jQ t;lia,true,jac D.bl t,oe (bK (j:=2) M) ⟨_,jac (λb=>[D.bl b,D.int i]) (seq M),?_⟩⟩⟩;refine oe (bK (j:=1) M) ?_
  try dsimp only[lE]
  try dsimp only[d8]
  refine⟨_,M,?_⟩;rw[jaa (by decide),show(3:Int)=((3:Nat):Int) from M,ud,<- jbp,show(SX.dv x g a b).qo.drop 3=a.w++g::b.w from rfl]
  try dsimp only[d8]
  refine(dM ⟨trivial,?_⟩);have q:g∉a.w:=λz=>by
   rcases o with rfl | rfl
   .exact(v.wd _ z).kw "div" (by symm) rfl
   .exact(v.wd _ z).kw "mod" (by symm) rfl
  have done:∀E Z,Z[1]?=some (some (D.int i))->Z[2]?=some (some (D.str x))->Z[3]?=some (some (D.lst ((a.w++g::b.w).map T.str)))->Z[4]?=some (some (D.str g))->Z[5]?=some (some (D.int a.w.length))->E.rt=(endsF S Y).rt->
    Ci (uV A.fq (Dw A.fq ["at","name","word","total","by"]) (br (cE 1) (br (cE 2) (br (cE 4) (br (iX (Co A) (br (Pd false (cE 3) Pf (tPt (cE 5))) (br (cE 1) bR))) (br (iX (Co A) (br (Pd false (cE 3) (tPt (nU Xv (cE 5) (wj (D.int 1)))) Pf) (br (cE 1) bR))) bR)))))) E Z S:=λE Z l N G e4 V O=>by
   refine oe l ?_
   try dsimp only[lE]
   refine oe N ?_
   try dsimp only[lE]
   refine oe e4 ?_
   try dsimp only[lE]
   refine oe G ?_
   try dsimp only[lE]
   refine oe V ?_
   try dsimp only[lE]
   refine⟨_,M,?_⟩;rw[jaa (by decide),YH,<- List.map_take,jbX];refine oe l ?_
   try dsimp only[lE]
   refine⟨a.p,a.r,a.ws,_,M,e.len,e.fst,e.pl,e.pc,e.bd,?_⟩;refine oe G ?_
   try dsimp only[lE]
   refine oe V ?_
   try dsimp only[lE]
   refine⟨_,M,?_⟩;rw[jaa (by decide),show(a.w.length:Int)+1=((a.w.length+1:Nat):Int) from M,ud,<- jbp,<- List.drop_drop,jbY];refine oe l ?_
   try dsimp only[lE]
   refine⟨b.p,b.r,b.ws,_,M,n.len,n.fst,n.pl,n.pc,n.bd,_,[.int i,.str x,.str g,nI A (qd a.ws),nI A (qd b.ws)],M,M,av,made ?_⟩;rw[O];refine dw ?_;unfold SX.st iG at h;exact h
  rcases o with rfl | rfl
  .refine(Bw (ws:=a.w++("div":Str)::b.w) rfl ⟨true,jac D.bl (show(false ^^ decide (("div":Str)∈a.w++("div":Str)::b.w))=true by simp),?_⟩)
   try dsimp only
   rw[jab rfl];refine⟨⟨M,_,M⟩,a.w,b.w,M,q,?_⟩
   try dsimp only[d8]
   exact done _ _ rfl rfl rfl rfl rfl rfl
  .have nb:("div":Str)∉a.w++("mod":Str)::b.w:=λz=>by
    rcases jan.mp z with z | z
    .exact(v.wd _ z).kw "div" (by symm) rfl
    rcases jae.mp z with z | z
    .exact absurd z (by symm)
    .exact(hb.wd _ z).kw "div" (by symm) rfl
   refine(Bw (ws:=a.w++("mod":Str)::b.w) rfl ⟨false,jac D.bl (show(false ^^ decide (("div":Str)∈a.w++("mod":Str)::b.w))=false by rw[jai nb];rfl),trivial,?_⟩);refine(Bw (ws:=a.w++("mod":Str)::b.w) rfl ⟨true,jac D.bl (show(false ^^ decide (("mod":Str)∈a.w++("mod":Str)::b.w))=true by simp),?_⟩)
   try dsimp only
   rw[jab rfl];refine⟨⟨M,_,M⟩,a.w,b.w,M,q,?_⟩
   try dsimp only[d8]
   exact done _ _ rfl rfl rfl rfl rfl rfl
 |ft x r p=>
  unfold SX.ok at ok;obtain⟨t,d,W⟩:=ok;have m:=W.ok;have ln:3<((SX.ft x r p).qo.map T.str).length:=by rw[jad];show 3<p.w.length+5;lia
  refine⟨true,jac D.bl (jah (by exact_mod_cast ln)),oe (bK (j:=1) M) ⟨x,M,by have:=jQ t;lia,true,jac D.bl t,oe (bK (j:=2) M) ⟨_,jac (λb=>[D.bl b,D.int i]) (seq M),?_⟩⟩⟩;refine oe (bK (j:=1) M) ?_
  try dsimp only[lE]
  try dsimp only[d8]
  refine⟨_,M,?_⟩;rw[jaa (by decide),show(3:Int)=((3:Nat):Int) from M,ud,<- jbp,show(SX.ft x r p).qo.drop 3=r::("at":Str)::p.w from rfl]
  try dsimp only[d8]
  have no:∀y:Str,y∈qI->y≠"at"->y∉r::("at":Str)::p.w:=λy hy R z=>by
   rcases jae.mp z with z | z
   .exact(wD d).nk (z ▸ hy)
   rcases jae.mp z with z | z
   .exact R z
   .exact(W.wd _ z).nk hy
  refine(dM ⟨trivial,?_⟩);refine(Bw (ws:=r::("at":Str)::p.w) rfl ⟨false,jac D.bl (show(false ^^ decide (("div":Str)∈r::("at":Str)::p.w))=false by rw[jai (no "div" (by symm) (by symm))];rfl),trivial,?_⟩);refine(Bw (ws:=r::("at":Str)::p.w) rfl ⟨false,jac D.bl (show(false ^^ decide (("mod":Str)∈r::("at":Str)::p.w))=false by rw[jai (no "mod" (by symm) (by symm))];rfl),trivial,?_⟩);refine⟨true,jac D.bl (jah (by rw[jad];show((1:Nat):Int)<((p.w.length+2:Nat):Int);lia)),?_⟩
  try dsimp only
  rw[jab rfl];refine oe (bK (j:=1) M) ?_
  try dsimp only[lE]
  refine⟨true,qT1,?_⟩
  try dsimp only
  rw[jab rfl];refine oe jZ ?_
  try dsimp only[lE]
  refine⟨r,M,by have:=jQ d;lia,_,jac (λb=>[D.bl b,D.int i]) d,?_⟩;refine oe jZ ?_
  try dsimp only[lE]
  refine⟨_,M,?_⟩;rw[jaa (by decide),show(2:Int)=((2:Nat):Int) from M,ud,<- jbp];refine⟨p.p,p.r,p.ws,_,M,m.len,m.fst,m.pl,m.pc,m.bd,_,[.int i,.str x,.str r,nI A (qd p.ws)],M,M,av,made (dw ?_)⟩;unfold SX.st iG at h;exact h
 |_=>cases hk0
abbrev Jb:Stmt:=top 64
def pJ:ak ["words","at","names","rest","place"] ["words","at"] (af Jb):=cB
def Wx (J:F5 P A)(v:Up P k A)(R:Fp P k A)(w:aG P k)(C:fH P k)(F:bW P.K "read_call" "read_call" Jb f fd):cy P (k+1) f fd ["words","at"] (Dp A a41):=by
 refine aP [_,_,_,_,_] F pJ rfl λX B p s H E n=>?_;refine⟨_,(qs (aj (i:=2) pJ.nd (bD ah)) (qs (aj (i:=3) pJ.nd (dX false q_r (aQ aB) bx)) (qs (aX (aA Bt ay q_r (by rfl)) (qs (aj (i:=4) pJ.nd (QK q_r ai)) (qs (aj (i:=2) pJ.nd (dX false q_r bx (aQ q_r))) (qs (aj (i:=3) pJ.nd (dX false q_r (aQ q_r) bx)) (aS (bM (aa w n rfl (qa (kg (cV qh (aH ck (by rfl) J.cu jaw ai) aB (au _)) (oK (aH (CM M) (by rfl) J.CT boot_all (qa (bE (cS ["word"] [] []) rfl (qi q_r) (λ_ _ _ _=>(qx (i:=0) xw)) (λ_ _ _ _=>aR) (λ_ _ _ _=>(aa C n rfl ai))) ah)))) ai))))))) aK) (qs (bM (aa w n rfl (qa (kg (cV qh (aH ck (by rfl) J.cu jaw ai) aB (au _)) (oK (aa C n rfl ai))) ai))) (aS (ao (qe v n rfl (qa q_r (qa q_r (qa q_r (qa (aa R n rfl (qa (dX false q_r (aQ aB) bx) ai)) ah))))))))))),?_⟩;rintro ds S Q hc hd ⟨x,i,rfl,hk0,ok,h⟩;cases x with
 |cl a c g=>
  unfold SX.ok at ok;obtain⟨e,I,m,V,q⟩:=ok;have Y:=Mq q;have y:=JR q;have U:=fZ (l:=wJ g) (jcx:=31) λx u=>(y x u).2.2.2;have done:∀Z,Z[1]?=some (some (D.int i))->Z[2]?=some (some (D.lst (a.map T.str)))->Z[3]?=some (some (D.lst ((c::wJ g).map T.str)))->(fV (Dc (iX U7 (br (Pk (nU (Hr λi j=>decide (j<i)) (Im WQ (br (cE 3) bR)) (wj (D.int 0))) (iX U9 (br (nU W6 (cE 3) (wj (D.int 0))) bR))) (br (cE 1) bR)))) (Ci (uV A.lU (LB A) (br (cE 1) (br (cE 2) (br (nU W6 (cE 3) (wj (D.int 0))) (br (iX (LA A) (br (Pd false (cE 3) (tPt (wj (D.int 1))) Pf) (br (cE 1) bR))) bR))))))) (endsF S Q) Z S:=λZ t L o=>by
   refine oe o ?_
   try dsimp only[lE]
   refine⟨true,jac D.bl (jah (by simp)),?_⟩;rw[jab rfl];refine oe o ?_
   try dsimp only[lE]
   refine oe jZ ?_
   try dsimp only[lE]
   refine⟨c,M,by have:=jQ m;lia,oe t ⟨_,jac (λb=>[D.bl b,D.int i]) m,?_⟩⟩;refine oe t ?_
   try dsimp only[lE]
   refine oe L ?_
   try dsimp only[lE]
   refine oe o ?_
   try dsimp only[lE]
   refine oe jZ ?_
   try dsimp only[lE]
   refine oe o ?_
   try dsimp only[lE]
   refine⟨_,M,?_⟩;rw[jaa (by decide),jaf,cJ];refine oe t ?_
   try dsimp only[lE]
   refine⟨wJ g,g,_,M,?_,⟨by lia,by lia⟩,_,_,_,_,a,c,g.map (λs=>qd s.ws),M,av,M,by rw[jas];rfl,made (dw ?_)⟩
   .cases g with
    |nil=>exact .inl ⟨M,M⟩
    |cons s r=>exact .inr ⟨JS (by simp),by simp,λs G=>(q s G).ok,dB (by rw[pR,JT])⟩
   unfold SX.st iG at h;exact h
  refine(?_)
  try dsimp only[d8]
  refine⟨_,M,?_⟩;rw[jaa (by decide)];unfold SX.qo;rw[jaf,cJ]
  try dsimp only[d8]
  by_cases d:a=[]
  .subst d;have no:("=":Str)∉UC []++c::wJ g:=λz=>by
    rcases jae.mp (show("=":Str)∈c::wJ g from z) with z | z
    .exact(wD m).nw "=" (by symm) z.symm
    .exact(y _ z).1 rfl
   refine(Bw (ws:=UC []++c::wJ g) rfl ⟨false,jac D.bl (show(false ^^ decide (("=":Str)∈UC []++c::wJ g))=false by rw[jai no];rfl),?_⟩);rw[jaa (by decide)];dsimp only[qV];exact done _ rfl rfl rfl
  .have ec:UC a++c::wJ g=a++("=":Str)::(c::wJ g):=by unfold UC;rw[jaa d];simp
   rw[ec];have N:("=":Str)∉a:=λz=>(wD (e _ z)).nw "=" (by symm) rfl;refine(Bw (ws:=a++("=":Str)::(c::wJ g)) rfl ⟨true,jac D.bl (show(false ^^ decide (("=":Str)∈a++("=":Str)::(c::wJ g)))=true by simp),?_⟩)
   try dsimp only
   rw[jab rfl];refine⟨⟨M,_,M⟩,a,c::wJ g,M,N,?_⟩
   try dsimp only[d8]
   refine⟨_,M,?_⟩;rw[jaa (by decide),YH,<- List.map_take,jbX]
   try dsimp only[d8]
   refine⟨_,M,?_⟩;rw[jaa (by decide),show(a.length:Int)+1=((a.length+1:Nat):Int) from M,ud,<- jbp,<- List.drop_drop,jbY]
   try dsimp only[d8]
   have O:0<a.length:=ja0.mpr d;refine⟨true,jac D.bl (jah (by simpa using O)),?_⟩;rw[jab rfl];refine(ia (cG T.str (λx=>T.bl (isNm x)) trivial (cH (by lia)) (λx u W hk=>?_) ?_))
   .exact⟨x,M,by have:=jQ (e x u);lia,_,M,hk⟩
   refine⟨a.map isNm,by rw[jas];rfl,_,jac (λb=>[D.bl b,D.int i]) (by show(a.map isNm).all _root_.id=true;rw[jbP,ja8];exact e),?_⟩
   try dsimp only
   exact done _ rfl rfl rfl
 |_=>cases hk0
abbrev DS:Stmt:=top 58
def yU:ak ["source","at","words"] ["source"] (af DS):=cB
def Rx (J:F5 P A)(X:BP P k A)(w:aG P k)(I:xH P k A n)(u:lW P k A)(C:xK P k A n)(U:OH P k A)(Q:BO P k A)(O:Fe P k A)(T:Ff P k A)(V:iB P k A)(F:bW P.K "read_step" "read_step" DS f fd):cy P (k+1) f fd ["source"] (PR A n):=by
 refine aP [_,_,_,_,_,_,_,_,_,_] F yU rfl λY B q s H E j=>?_;refine⟨_,(qs (aj (i:=1) yU.nd q_r) (qs (aj (i:=2) yU.nd (aF q_r V j)) (qs (aX (aA (cA 40 (uE j)) q_r ay (au _)) (aS (ao (aa T j rfl ai))) aK) (qs (aX (aA (cA 40 (uE j)) q_r ay (au _)) (aS (ao (aa O j rfl ai))) aK) (qs (aX (aA (cA 40 (uE j)) q_r ay (au _)) (aS (ao (aa Q j rfl ai))) aK) (qs (aX (aA (cA 40 (uE j)) q_r ay (au _)) (aS (ao (qe U j rfl (qa q_r (qa (aa u j rfl (qa (dX false q_r (aQ aB) bx) ai)) ah))))) aK) (qs (aX (aA (cA 40 (uE j)) q_r ay (au _)) (aS (ao (aa C j rfl (qa q_r (qa (aa u j rfl (qa (dX false q_r (aQ aB) bx) ai)) ai))))) aK) (qs (aX (aA (cA 40 (uE j)) q_r ay (au _)) (aS (ao (aa I j rfl (qa q_r (qa (aa u j rfl (qa (dX false q_r (aQ aB) bx) ai)) ai))))) aK) (qs (bM (aa w j rfl (qa (cV (cA 40 (uE j)) q_r ay (au _)) ai))) (aS (ao (aa X j rfl ai)))))))))))),?_⟩;rintro Z S kk hc hd ⟨m,R,i,s,r,rfl,o,d,ok,dp,h⟩;have lt:=HZ o;refine oe (aN o) ?_
 try dsimp only[d8]
 by_cases hk:kd s<7
 .obtain⟨x,t,e1,e2,RD,e3⟩:=leaf ok hk;rw[e1] at d;have G:R[i]?=some x.qo:=by rw[<- e2.sp];exact(D3 d).1
  rw[e1,<- e3] at h;refine⟨0,_,_,by decide,aN o,by symm,m,R,i,_,M,o,G,?_⟩
  try dsimp only[d8]
  cases x with
  |lt x a=>
   exact oe jZ ⟨true,eK,.lt x a,i,M,trivial,RD,dw h⟩
  |dv x N a b=>
   exact oe jZ ⟨true,eK,.dv x N a b,i,M,trivial,RD,dw h⟩
  |ft x r p=>
   exact oe jZ ⟨true,eK,.ft x r p,i,M,trivial,RD,dw h⟩
  |pt r p s=>
   exact oe jZ ⟨false,nK,oe jZ ⟨true,eK,.pt r p s,i,M,trivial,RD,dw h⟩⟩
  |mq r z=>
   exact oe jZ ⟨false,nK,oe jZ ⟨false,nK,oe jZ ⟨true,eK,.mq r z,i,M,trivial,RD,dw h⟩⟩⟩
  |cm c=>
   refine oe jZ ⟨false,nK,oe jZ ⟨false,nK,oe jZ ⟨false,nK,oe jZ ⟨true,eK,_,M,?_⟩⟩⟩⟩;rw[jaa (by decide)];unfold SX.qo wU;rw[jaf,cJ];unfold SX.ok at RD;refine⟨c,_,M,RD.1,RD.2,RD.b,by have:=RD.ln;lia,_,[.int i,gI A c.cd],M,M,av,made (dw ?_)⟩;unfold SX.st iG at h;exact h
  |cl W L g=>
   exact oe jZ ⟨false,nK,oe jZ ⟨false,nK,oe jZ ⟨false,nK,oe jZ ⟨false,nK,oe jZ ⟨false,nK,oe jZ ⟨false,nK,oe jZ ⟨_,jac (λb=>[D.bl b,D.int i]) (seq M),.cl W L g,i,M,trivial,RD,dw h⟩⟩⟩⟩⟩⟩⟩
 .cases s with
  |ch a c t e=>
   rw[MP] at d;unfold dF at ok;obtain⟨x,l,rfl,v⟩:=gX ok.1 Y9;rw[sp,v.sp] at d;refine⟨0,_,_,by decide,aN o,by symm,m,R,i,_,M,o,(D3 d).1,?_⟩
   try dsimp only[d8]
   refine oe jZ ⟨false,nK,oe jZ ⟨false,nK,oe jZ ⟨false,nK,oe jZ ⟨false,nK,oe jZ ⟨true,eK,_,M,?_⟩⟩⟩⟩⟩;rw[jaa (by decide)];unfold wU;rw[jaf,cJ];refine⟨x,_,M,l.1,l.2,l.b,by have:=l.ln;lia,m,R,i,a,_,t,e,r,M,eZ lt,(D3 d).2.2,ok.2.1,ok.2.2.1,ok.2.2.2.1,ok.2.2.2.2,dp,?_⟩;rw[jao];exact dw h
  |rp a c y f b=>
   rw[LM] at d;unfold dF at ok;obtain⟨x,l,rfl,v⟩:=gX ok.1 Y8;rw[sp,v.sp] at d;refine⟨0,_,_,by decide,aN o,by symm,m,R,i,_,M,o,(D3 d).1,?_⟩
   try dsimp only[d8]
   refine oe jZ ⟨false,nK,oe jZ ⟨false,nK,oe jZ ⟨false,nK,oe jZ ⟨false,nK,oe jZ ⟨false,nK,oe jZ ⟨true,eK,_,M,?_⟩⟩⟩⟩⟩⟩;rw[jaa (by decide)];unfold wU;rw[jaf,cJ];refine⟨x,_,M,l.1,l.2,l.b,by have:=l.ln;lia,m,R,i,a,_,y,f,b,r,M,eZ lt,(D3 d).2.2,ok.2.1,ok.2.2.1,ok.2.2.2.1,ok.2.2.2.2.1,ok.2.2.2.2.2,dp,?_⟩;rw[jao];exact dw h
  |_=>exact absurd (jaH M) hk
abbrev DR:Stmt:=top 57
def F2:ak ["source","steps"] ["source"] (af DR):=cB
def Rw (J:F5 P A)(I:g7 P k A)(L:BL P k A n)(F:bW P.K "read_steps" "read_steps" DR f fd):cy P (k+1) f fd ["source"] (Lv A n):=by
 refine aP [_,_,_] F F2 rfl λAT B p s H E z=>?_;refine⟨_,(qs (aj (i:=1) F2.nd (dH ah)) (qs (lG jaO (aA yj (aF q_r I z) q_r (by rfl)) (aS (bM (dJ q_r (qa (aa L z rfl ai) ah))))) (aS (ao q_r)))),?_⟩;rintro ds S kk T hd ⟨m,R,i,l,y,r,rfl,x,t,hy,ok,dp,N,h⟩;have lt:=HZ x;have W:S=S.set m (j9 A R i):=(set_same x).symm;refine⟨λq Z e=>∃a b,l=a++b/\q=b.length/\Z=[some (D.ob m),some (D.ob (S.length+0))]/\e=S.set m (j9 A R (i+(aJ a).length))++[O.lst ((dg i a).map (iG A))],⟨_,[],l,M,M,M,?_⟩,?_⟩
 .rw[aJ,dg];show S++[O.lst []]=S.set m (j9 A R i)++[O.lst []];rw[<- W]
 rintro q Z e ⟨a,b,rfl,rfl,rfl,rfl⟩;have j:R.drop (i+(aJ a).length)=(aJ b).map sp++[y]::r:=by
  have:=Qy (l:=(aJ a).map sp) (r:=(aJ b).map sp++[y]::r) (by rw[t,jM];simp);rwa[jad] at this
 cases b with
 |nil=>
  obtain⟨Q,g,Y⟩:=D3 (show R.drop (i+(aJ a).length)=[y]::r from by rw[j,aJ];rfl);refine⟨0,_,_,by decide,aN (gA lt),by symm,m,R,_,M,gA lt,(λ_=>by rw[g];simp),_,_,_,M,M,M,M,false,jac D.bl (by show(true ^^ H8 (V.str _) ([("end":Str),"else"].map V.str))=false;rw[iU,g,jah (show[y].headD ""∈_ from by rcases hy with rfl | rfl<;>simp)];rfl),?_⟩
  try dsimp only
  rw[jaa (by decide)];rw[jaD] at h;exact MO (MM T) Cw rfl h
 |cons c b=>
  have d:=gJ ok (show c∈a++c::b by simp);have u:=jay (k7 (show c∈a++c::b by simp)) dp;rw[aJ,jau,jax] at j;obtain⟨v,C,X,U,w⟩:=Qw d;obtain⟨Q,g,Y⟩:=D3 (show R.drop (i+(aJ a).length)=(v::C)::(X++((aJ b).map sp++[y]::r)) from by rw[j,U];rfl);refine⟨0,_,_,by decide,aN (gA lt),by symm,m,R,_,M,gA lt,(λ_=>by rw[g];simp),_,_,_,M,M,M,M,true,jac D.bl (by show(true ^^ H8 (V.str _) ([("end":Str),"else"].map V.str))=true;rw[iU,g,jai (show(v::C).headD ""∉_ from(ED v w).1)];rfl),?_⟩
  try dsimp only
  rw[jab rfl];refine⟨λG e=>G=[some (D.ob m),some (D.ob (S.length+0))]/\e=S.set m (j9 A R (i+(aJ (a++[c])).length))++[O.lst ((dg i (a++[c])).map (iG A))],?_,?_⟩
  .rintro G e ⟨rfl,rfl⟩;exact⟨b.length,by simp,a++[c],b,by simp,M,M,M⟩
  refine⟨⟨M,_,bG (cP (q:=0) Cw)⟩,m,R,_,c,_,M,gA lt,j,d,u,?_⟩;rw[sA lt];have ll:a.length<=10:=by simp at N;lia
  refine⟨_,cP (q:=0) Cw,nq (by rw[jad,iT];lia),?_⟩;rw[<- Cw (S:=S) (n:=m) (o:=j9 A R (i+(aJ a).length+(rws c).length)),cM];refine⟨M,?_⟩;rw[Aj,jM,jag,jau,dg,dg,aJ,aJ,jaD,jbZ];rfl
abbrev DY:Stmt:=top 59
def tK:ak ["source","condition","at","then","other"] ["source","condition","at"] (af DY):=cB
def RB (J:F5 P A)(U:KO P k A)(L:jf P k A)(O:g7 P k A)(N:aG P k)(I:eg P k "read_steps" ["source"] (Lw A n))(F:bW P.K "read_choose" "read_choose" DY f fd):cy P (k+1) f fd ["source","condition","at"] (Qc A n):=by
 refine aP [_,_,_,_,_] F tK rfl λW B u s H E d=>?_;refine⟨_,(qs (aj (i:=3) tK.nd (aa I d rfl ai)) (qs (aj (i:=4) tK.nd (bD ah)) (qs (aX (aA (cA 40 (uE d)) (aF q_r O d) ay (au _)) (qs (bM (k6 q_r L d ai)) (qs (aj (i:=4) tK.nd (aa I d rfl ai)) (aS (bM (aa N d rfl (qa (cV qh (aH ck (by rfl) J.cu jaw ai) aB (au _)) ai)))))) aK) (qs (bM (k6 q_r L d ai)) (aS (ao (qe U d rfl ai))))))),?_⟩;rintro Y S kk Z hd ⟨m,R,i,a,c,t,e,r,rfl,v,g,C,V,p,x,dp,h⟩;cases n with
 |zero=>unfold cD.dp at dp;lia
 |succ n=>
 have lt:=HZ v;have z:jX t<=n:=by unfold cD.dp at dp;lia
 have T:jX e<=n:=by unfold cD.dp at dp;lia
 rw[a1o,TF] at h;by_cases q:e=[]
 .subst q;have d1:R.drop (i+1)=(aJ t).map sp++[("end":Str)]::r:=by rw[g];unfold elR;rw[jab rfl];rfl
  have j:=Qy (l:=(aJ t).map sp) d1;rw[jad] at j;obtain⟨w,o,y⟩:=D3 j;refine⟨m,R,i+1,t,"end",r,M,v,d1,.inl M,C,z,p,?_⟩
  try dsimp only[d8]
  refine⟨0,_,_,by decide,aN (eZ lt),by symm,m,R,_,M,eZ lt,(λ_=>by rw[o];simp),false,jac D.bl (LC (by rw[o];symm)),?_⟩
  try dsimp only
  rw[jaa (by decide)];refine⟨0,_,_,by decide,aN (eZ lt),by symm,m,R,_,_,M,eZ lt,w,?_⟩;rw[jao];refine⟨_,i,gI A c,_,_,_,[],M,av,M,M,made (dw ?_)⟩;rw[jab M,dg,aJ] at h;rw[show i+1+(aJ t).length+1=i+(1+(aJ t).length+0+0+1) by lia];exact h
 .have d1:R.drop (i+1)=(aJ t).map sp++[("else":Str)]::((aJ e).map sp++[("end":Str)]::r):=by rw[g];unfold elR;rw[jaa q];rfl
  have j:=Qy (l:=(aJ t).map sp) d1;rw[jad] at j;obtain⟨w,o,y⟩:=D3 j;have G:=Qy (l:=(aJ e).map sp) y;rw[jad] at G;obtain⟨Q,p2,X⟩:=D3 G;have lp:0<e.length:=ja0.mpr q;rw[jaa q] at h;refine⟨m,R,i+1,t,"else",_,M,v,d1,.inr M,C,z,p,?_⟩
  try dsimp only[d8]
  refine⟨0,_,_,by decide,aN (eZ lt),by symm,m,R,_,M,eZ lt,(λ_=>by rw[o];simp),true,jac D.bl (seq (by rw[o];rfl)),?_⟩
  try dsimp only
  rw[jab rfl];refine⟨0,_,_,by decide,aN (eZ lt),by symm,m,R,_,_,M,eZ lt,w,?_⟩;rw[jao];refine⟨m,R,_,e,"end",r,M,eZ lt,y,.inl M,V,T,x,?_⟩;rw[jao]
  try dsimp only[d8]
  refine oe (aN (eZ lt)) ⟨_,jac (λb=>[D.bl b,_]) (jah (by rw[jad,iT];lia)),?_⟩;refine⟨0,_,_,by decide,aN (eZ lt),by symm,m,R,_,_,M,eZ lt,Q,?_⟩;rw[jao];refine⟨_,i,gI A c,_,_,_,_,M,av,M,M,made (dw ?_)⟩;rw[show i+1+(aJ t).length+1+(aJ e).length+1=i+(1+(aJ t).length+1+(aJ e).length+1) by lia];rw[jao];exact h
abbrev DT:Stmt:=top 60
def lF:ak ["source","condition","at","keeps","falls","place","body"] ["source","condition","at"] (af DT):=cB
def Ry (J:F5 P A)(Se:KJ P k A)(eX:jf P k A)(fP:eg P k "read_steps" ["source"] (Lw A n))(d7:g7 P k A)(aT:di P k A)(fE:iB P k A)(Z:kB P k A)(F:bW P.K "read_repeat" "read_repeat" DT f fd):cy P (k+1) f fd ["source","condition","at"] (PZ A n):=by
 refine aP [_,_,_,_,_,_] F lF rfl λAT B N s H E d=>?_;refine⟨_,(qs (aj (i:=3) lF.nd (aa Z d rfl ai)) (qs (aj (i:=4) lF.nd wm) (qs (aX (aA (cA 40 (uE d)) (aF q_r d7 d) ay (au _)) (qs (aj (i:=5) lF.nd q_r) (aS (aj (i:=4) lF.nd (bC (qa q_r (qa (aa aT d rfl (qa (dX false (aF q_r fE d) (aQ aB) bx) ai)) ah)))))) aK) (qs (aj (i:=6) lF.nd (aa fP d rfl ai)) (qs (bM (k6 q_r eX d ai)) (aS (ao (qe Se d rfl ai)))))))),?_⟩;rintro ds S kk hc hd ⟨m,R,i,a,c,o,f,b,r,rfl,U,e,lh,kh,V,Y,lb,dp,h⟩;cases n with
 |zero=>unfold cD.dp at dp;lia
 |succ n=>
 have lt:=HZ U;have db:jX b<=n:=by unfold cD.dp at dp;lia
 rw[a1n,Qz] at h;obtain⟨l,k1,k2,k3,O⟩:=yg a21 kh;rw[k2] at e;have x:∀(z:Option D)(j:Nat),R.drop (i+1+j)=(aJ b).map sp++[("end":Str)]::r->j=o.length+(EG f).length->(fV (sX (iX (Lw A (n+1)) (br (cE 0) bR)) (d8 6)) (fV (Dc (Ij 1 (λ_=>A.jU) "take_just" (λ_=>Lx A) (cE 0) (br (wj (D.str "end")) bR))) (Ci (uV A.fk (Ly A) (br (cE 2) (br (cE 1) (br (cE 3) (br (cE 4) (br (cE 6) bR))))))))) (endsF S kk) [some (D.ob m),some (.t (gI A c)),some (D.int i),some (D.lst ((FE (i+1) l).map (atT A))),some (.t (faT A (f.map λp=>(((i+1+o.length:Nat):Int),p.2)))),z,none] (S.set m (j9 A R (i+1+j))):=λz j d1 ej=>by
  have g:=Qy (l:=(aJ b).map sp) d1;rw[jad] at g;obtain⟨I,q,Q⟩:=D3 g;refine⟨m,R,i+1+j,b,"end",r,M,eZ lt,d1,.inl M,Y,db,lb,?_⟩;rw[jao]
  try dsimp only[d8]
  refine⟨0,_,_,by decide,aN (eZ lt),by symm,m,R,_,_,M,eZ lt,I,?_⟩;rw[jao];refine⟨_,i,gI A c,_,_,_,FE (i+1) l,_,M,av,M,by rw[C1];lia,M,made (dw ?_)⟩;rw[k3];subst ej;rw[<- jbZ] at h ⊢;rw[show i+1+o.length+(EG f).length+(aJ b).length+1=i+(1+o.length+(EG f).length+(aJ b).length+1) by lia];exact h
 have nx:∃y C G,(EG f).map sp++((aJ b).map sp++[("end":Str)]::r)=(y::C)::G/\y≠"holds"/\(f=none->y≠"falls"):=by
  cases f with
  |none=>
   obtain⟨y,C,G,L,u⟩:=LL Y "end" r;refine⟨y,C,G,L,?_⟩;rcases u with rfl | u
   .exact⟨by symm,λ_=>by symm⟩
   .exact⟨(ED y u).2.2.2.1,λ_=>(ED y u).2.2.2.2.1⟩
  |some p=>
   obtain⟨w,W,X,T⟩:=J1 (V p M);exact⟨"falls",w.w,_,by show sp (("falls ":Str)++ig p.2)::_=_;rw[sp,T.sp],by symm,λz=>by cases z⟩
 obtain⟨y,C,G,L,u,hf⟩:=nx;have g:=Qy e;rw[jad] at g;obtain⟨I,q,Q⟩:=D3 (g.trans L);refine⟨m,R,i+1,"holds",l,y,C,G,M,U,by rw[e,L],u,k1,by lia,?_⟩
 try dsimp only[d8]
 cases f with
 |none=>
  refine⟨0,_,_,by decide,aN (eZ lt),by symm,m,R,_,M,eZ lt,(λ_=>by rw[q];simp),false,jac D.bl (LC (by rw[q];exact hf M)),?_⟩
  try dsimp only
  rw[jaa (by decide)];exact x _ l.length g O
 |some p=>
  obtain⟨w,W,X,T⟩:=J1 (V p M);have d3:R.drop (i+1+l.length)=(("falls":Str)::w.w)::((aJ b).map sp++[("end":Str)]::r):=by rw[g];show sp (("falls ":Str)++ig p.2)::_=_;rw[sp,T.sp];rfl
  obtain⟨I,q,Q⟩:=D3 d3;have v:=W.ok;refine⟨0,_,_,by decide,aN (eZ lt),by symm,m,R,_,M,eZ lt,(λ_=>by rw[q];simp),true,jac D.bl (seq (by rw[q];rfl)),?_⟩
  try dsimp only
  rw[jab rfl];refine oe (aN (eZ lt)) ?_
  try dsimp only[d8]
  refine⟨0,_,_,by decide,aN (eZ lt),by symm,m,R,_,_,M,eZ lt,I,_,M,?_⟩;rw[jaa (by decide),jao,jaf,cJ];refine⟨w.p,w.r,w.ws,_,M,v.len,v.fst,v.pl,v.pc,v.bd,?_⟩;rw[X,O];have:=x (some (D.int ((i+1+o.length:Nat):Int))) (o.length+1) (by rw[<- jbZ,<- O];exact Q) rfl;rw[<- jbZ] at this;exact this
abbrev Jc:Stmt:=top 55
def DH:ak ["source","at","answers"] ["source"] (af Jc):=cB
def Wy (J:F5 P A)(v:aG P k)(z:fH P k)(L:iB P k A)(w:g7 P k A)(F:bW P.K "read_answers" "read_answers" Jc f fd):cy P (k+1) f fd ["source"] (P5 A):=by
 refine aP [_,_,_,_,_] F DH rfl λO B n s H E l=>?_;refine⟨_,(qs (aX (aA (j4 40 (uE l)) (aF q_r w l) ay (au _)) (aS (ao (bD ah))) aK) (qs (aj (i:=1) DH.nd q_r) (qs (aj (i:=2) DH.nd (dX false (aF q_r L l) (aQ aB) bx)) (qs (bM (aa v l rfl (qa (kg (cV qh (aH ck (by rfl) J.cu jaw ai) aB (au _)) (oK (aH (CM M) (by rfl) J.CT boot_all (qa (bE (cS ["word"] [] []) rfl (qi q_r) (λ_ _ _ _=>(qx (i:=0) xw)) (λ_ _ _ _=>aR) (λ_ _ _ _=>(aa z l rfl ai))) ah)))) ai))) (aS (ao q_r)))))),?_⟩;rintro Q S W U X ⟨m,R,i,a,y,t,r,rfl,d,c,I,g,h⟩;have lt:=HZ d;by_cases e:a.answers=[]
 .have e1:HF a=[]:=by unfold HF;rw[jab e]
  have p:E7 a=0:=by unfold E7;rw[jab e]
  rw[e1] at c;obtain⟨u,j,G⟩:=D3 (show R.drop i=(y::t)::r from c);refine⟨0,_,_,by decide,aN d,by symm,m,R,i,M,d,(λ_=>by rw[j];simp),true,jac D.bl (show(true ^^ decide (V.str _=V.str _))=true by rw[De,jai (by rw[j];exact I)];rfl),?_⟩
  try dsimp only
  rw[jab rfl];rw[e,p,show i+0=i from M,set_same d] at h;exact dw h
 .have e1:HF a=[Txt.join " " ([("answers":Str)]++a.answers)]:=by unfold HF;rw[jaa e]
  have p:E7 a=1:=by unfold E7;rw[jaa e]
  rw[e1,jaf,sp,(Ud g e).sp] at c;obtain⟨u,j,G⟩:=D3 (show R.drop i=(("answers":Str)::a.answers)::((y::t)::r) from c);rw[p] at h;have C:=g.pl.2.1;refine⟨0,_,_,by decide,aN d,by symm,m,R,i,M,d,(λ_=>by rw[j];simp),false,jac D.bl (show(true ^^ decide (V.str _=V.str _))=false by rw[De,jah (by rw[j];rfl)];rfl),?_⟩
  try dsimp only
  rw[jaa (by decide)];refine(oe (aN d) (?_))
  try dsimp only[d8]
  refine⟨0,_,_,by decide,aN d,by symm,m,R,i,_,M,d,u,_,M,?_⟩;rw[jaa (by decide),jaf,cJ]
  try dsimp only[d8]
  have o:0<a.answers.length:=ja0.mpr e;refine⟨true,jac D.bl (jah (by simpa using o)),?_⟩;rw[jab rfl];refine(ia (cG T.str (λx=>T.bl (isNm x)) trivial (cH (by lia)) (λx q N hk=>?_) ?_))
  .exact⟨x,M,by have:=g.an x q;lia,_,M,hk⟩
  refine⟨a.answers.map isNm,by rw[jas];rfl,_,jac (λb=>[D.bl b,D.int i]) (by show(a.answers.map isNm).all _root_.id=true;rw[jbP,ja8];exact λx q=>(g.an x q).2),dw h⟩
abbrev DV:Stmt:=top 54
def jB:ak ["source","at","words","answers","needs","gives","steps"] ["source"] (af DV):=cB
def Rz (J:F5 P A)(Sf:KL P k A)(eX:jf P k A)(fP:eg P k "read_steps" ["source"] (Lv A 6))(W:kB P k A)(AG:vX P k A)(aq:aG P k)(mZ:uA P k)(cC:fH P k)(fE:iB P k A)(F:bW P.K "read_helper" "read_helper" DV f fd):cy P (k+1) f fd ["source"] (P4 A):=by
 refine aP [_,_,_,_,_,_,_,_,_,_] F jB rfl λAT B G s H E e=>?_;refine⟨_,(qs (aj (i:=1) jB.nd q_r) (qs (aj (i:=2) jB.nd (aF q_r fE e)) (qs (bM (aa aq e rfl (qa (kg (cV (cA 40 (uE e)) q_r ay (au _)) (kg (cV qh (aH ck (by rfl) J.cu jaw ai) aB (au _)) (oK (aa cC e rfl ai)))) ai))) (qs (bM (aa aq e rfl (qa (aH (CM M) (by rfl) J.CT boot_all (qa (bE (cS ["word"] [] []) rfl (qi (dX false q_r (aQ aB) bx)) (λ_ _ _ _=>(qx (i:=0) xw)) (λ_ _ _ _=>aR) (λ_ _ _ _=>(aa mZ e rfl ai))) ah)) ai))) (qs (aj (i:=3) jB.nd (aa AG e rfl ai)) (qs (aj (i:=4) jB.nd (aa W e rfl ai)) (qs (aj (i:=5) jB.nd (aa W e rfl ai)) (qs (aj (i:=6) jB.nd (aa fP e rfl ai)) (qs (bM (k6 q_r eX e ai)) (aS (ao (qe Sf e rfl (qa q_r (qa q_r (qa (dX false q_r (aQ aB) bx) ai))))))))))))))),?_⟩;rintro ds S kk hc hd ⟨m,R,i,a,r,rfl,w,q,g,dp,h⟩;have lt:=HZ w;obtain⟨l1,l2,l3,l4,l5⟩:=g.pl;obtain⟨o,n1,n2,n3,I⟩:=yg a20 g.nd;obtain⟨n,v1,v2,v3,v4⟩:=yg a22 g.gv;have e0:(aL a).map sp++r=(("helper":Str)::a.name::a.params)::((HF a).map sp++(o.map (wU "needs")++(n.map (wU "gives")++((aJ a.steps).map sp++[("end":Str)]::r)))):=by
  rw[pS,<- n2,<- v2];simp only[jau,jaf,jaU,jax,List.singleton_append,jas];rw[show sp (Txt.join " " ([("helper":Str),a.name]++a.params))=_ from(Sz g).sp,show sp "end"=_ from pW.sp];rfl
 have eL:(aL a).length=1+E7 a+o.length+n.length+(aJ a.steps).length+1:=by
  rw[pS,I,v4,<- uu];simp;lia
 rw[e0] at q;obtain⟨p1,_,d2⟩:=D3 q;refine oe (aN w) ?_
 try dsimp only[d8]
 refine⟨0,_,_,by decide,aN w,by symm,m,R,i,_,M,w,p1,?_⟩
 try dsimp only[d8]
 refine oe jZ ⟨true,eK,true,jac D.bl (jah (by simp;lia)),oe (bK (j:=1) M) ⟨a.name,M,by have:=g.nm;lia,_,jac (λb=>[D.bl b,D.int i]) g.nm.2,?_⟩⟩;refine⟨_,M,?_⟩;have c2:k8 ((("helper":Str)::a.name::a.params).map T.str) (some 2) none=a.params.map T.str:=by
  rw[show(2:Int)=((2:Nat):Int) from M,ud,<- jbp];rfl
 rw[jaa (by decide),c2];refine ia (cG T.str (λx=>T.bl (lK x)) trivial (cH (by lia)) (λz C k' hk=>?_) ?_)
 .exact⟨z,M,by have:=g.ps z C;lia,_,M,hk⟩
 refine⟨a.params.map lK,by rw[jas];rfl,_,jac (λb=>[D.bl b,D.int i]) (by show(a.params.map lK).all _root_.id=true;rw[jbP,ja8];exact λz C=>(Cg (g.ps z C)).th),?_⟩;obtain⟨p,t,r3,X,d⟩:=LL g.st "end" r;have d:p≠"answers"/\p≠"needs"/\p≠"gives":=by
  rcases d with rfl | d
  .symm
  .have:=ED p d;exact⟨this.2.2.2.2.2,this.2.1,this.2.2.1⟩
 obtain⟨Y,u,Z,e2,v⟩:∃y O V,n.map (wU "gives")++((aJ a.steps).map sp++[("end":Str)]::r)=(y::O)::V/\y≠"answers"/\y≠"needs":=by
  cases n with
  |nil=>exact⟨p,t,r3,X,d.1,d.2.1⟩
  |cons c l=>exact⟨_,_,_,M,by symm⟩
 obtain⟨y1,U,r1,e1,L⟩:∃y O V,o.map (wU "needs")++(n.map (wU "gives")++((aJ a.steps).map sp++[("end":Str)]::r))=(y::O)::V/\y≠"answers":=by
  cases o with
  |nil=>exact⟨Y,u,Z,e2,v.1⟩
  |cons c l=>exact⟨_,_,_,M,by symm⟩
 refine⟨m,R,i+1,a,y1,U,r1,M,eZ lt,by rw[d2,e1],L,g,?_⟩;rw[jao]
 try dsimp only[d8]
 have Q:=Qy (l:=(HF a).map sp) d2;rw[jad,uu] at Q;refine⟨m,R,_,"needs",o,Y,u,Z,M,eZ lt,by rw[Q,e2],v.2,n1,by lia,?_⟩;rw[jao]
 try dsimp only[d8]
 have d4:=Qy (l:=o.map (wU "needs")) Q;rw[jad] at d4;refine⟨m,R,_,"gives",n,p,t,r3,M,eZ lt,by rw[d4,X],d.2.2,v1,by lia,?_⟩;rw[jao]
 try dsimp only[d8]
 have N:=Qy (l:=n.map (wU "gives")) d4;rw[jad] at N;refine⟨m,R,_,a.steps,"end",r,M,eZ lt,N,.inl M,g.st,dp,l5,?_⟩;rw[jao]
 try dsimp only[d8]
 have d6:=Qy (l:=(aJ a.steps).map sp) N;rw[jad] at d6;refine⟨0,_,_,by decide,aN (eZ lt),by symm,m,R,_,_,M,eZ lt,(D3 d6).1,?_⟩;rw[jao];refine oe (bK (j:=1) M) ⟨_,M,?_⟩;rw[jaa (by decide),c2];refine⟨_,_,_,_,_,_,JN i a,M,av,M,M,by rw[n3];rfl,by rw[v3,I];rfl,by rw[eO,I,v4];rfl,by show(eS _ _).length<=100;rw[jR];lia,by show(eS _ _).length<=100;rw[jR];lia,made (dw ?_)⟩;rw[eL] at h;rw[show i+1+E7 a+o.length+n.length+(aJ a.steps).length+1=i+(1+E7 a+o.length+n.length+(aJ a.steps).length+1) by lia];exact h
abbrev DW:Stmt:=top 47
def nZ:ak ["text","rows","behind","source","helpers"] ["text"] (af DW):=cB
def RA (J:F5 P A)(Oe:HM P k A)(aq:aG P k)(qN:xJ P k A)(U:Um P k A)(F:bW P.K "read" "read" DW f fd):cy P (k+1) f fd ["text"] (P0 A):=by
 refine aP [_,_,_,_,_,_,_] F nZ rfl λAT B I s H E d=>?_;refine⟨_,(qs (aj (i:=1) nZ.nd (yf true q_r ai)) (qs (aj (i:=2) nZ.nd (a31 q_r)) (qs (aj (i:=3) nZ.nd (Yc U d rfl ai)) (qs (aj (i:=4) nZ.nd (dH (qa (aa qN d rfl ai) ah))) (qs (lG jaO (aA zY q_r (aH ck (by rfl) J.cu jaw ai) (au _)) (aS (bM (dJ q_r (qa (aa qN d rfl ai) ah))))) (qs (bM (aa aq d rfl (qa (cV (cA 40 (uE d)) q_r ay (au _)) ai))) (aS (ao (qe Oe d rfl ai))))))))),?_⟩;rintro ds S kk hc hd ⟨X,rfl,h0,hl,C,d,h⟩;obtain⟨x,n,rfl⟩:∃x n,X=x::n:=by
  cases X with
  |nil=>exact absurd rfl h0
  |cons x r=>exact⟨x,r,M⟩
 have w:∀r∈((x::n).map aL).flatten,RowW r/\r.length<=25000:=λr d=>by
  obtain⟨l,hl,d⟩:=List.mem_flatten.mp d;obtain⟨y,hy,rfl⟩:=jap.mp hl;exact⟨SA (C y hy).1 r d,lN (C y hy).1 r d⟩
 unfold Gm;generalize v:((x::n).map aL).flatten=xs at d w ⊢;refine⟨M,M,Zd (λr d=>(w r d).2) d,?_⟩;unfold newL;rw[jab M,Nn λr d=>(by obtain⟨ws,q⟩:=(w r d).1;exact q.nl)]
 try dsimp only[d8]
 refine⟨⟨M,_,bG av⟩,xs.map T.str,T.str "",by rw[av,jau];rfl,?_⟩;rw[bO]
 try dsimp only[d8]
 refine⟨_,_,xs,M,av,XO (show xq (S++[O.lst (xs.map T.str)]) (.ob S.length)=_ from bG av),by lia,λz hz=>by have:=(w z hz).2;lia,M,?_⟩;rw[bO]
 try dsimp only[d8]
 have Y:∀(o:O)(a:aI),(((S++[O.lst (xs.map T.str)])++[o])++a)[S.length]?=some (O.lst (xs.map T.str)):=λo a=>by simp
 have W:∀(o:O)(a:aI)(y:T),kk (.t y) S->closes S.length (.t y) (((S++[O.lst (xs.map T.str)])++[o])++a) kk:=λo a y z=>by rw[jax,jax];exact vL hc z
 generalize S++[O.lst (xs.map T.str)]=T0 at *;generalize eR:(xs.map λx=>Txt.split x " ")=R;have dr:∀c g,x::n=c++g->R.drop ((c.map aL).flatten).length=((g.map aL).flatten).map sp:=λc g e=>by
  rw[<- eR,<- v,e,jau,jby,jau]
  conv=>lhs;rw[<- jad (f:=λx:Str=>Txt.split x " ")]
  exact jbY
 have u:∀c y g,x::n=c++y::g->R.drop ((c.map aL).flatten).length=(aL y).map sp++((g.map aL).flatten).map sp:=λc y g e=>by
  rw[dr c (y::g) e,jaf,jaG,jau]
 have G:∀(j:Nat)(a:aI),((T0++[j9 A R j])++a)[T0.length]?=some (j9 A R j):=λj a=>by simp
 have s1:∀(j L:Nat)(a:aI),((T0++[j9 A R j])++a).set T0.length (j9 A R L)=(T0++[j9 A R L])++a:=λj L a=>by simp
 have N:∀(j:Nat)(l:List T),((T0++[j9 A R j])++[O.lst l])[T0.length+1]?=some (O.lst l):=λj l=>by simp
 have sh:∀(j:Nat)(l Q:List T),((T0++[j9 A R j])++[O.lst l]).set (T0.length+1) (O.lst Q)=(T0++[j9 A R j])++[O.lst Q]:=λj l Q=>by simp
 have gx:=C x jak;refine⟨T0.length,R,0,x,_,M,av,u [] x n M,gx.1,gx.2,?_⟩;rw[bO,Nat.zero_add]
 try dsimp only[d8]
 refine⟨λm Z p=>∃c g,x::n=c++g/\m=g.length/\Z=[some (D.str (US xs)),some (D.ob S.length),some (D.str ""),some (D.ob T0.length),some (D.ob (T0.length+1))]/\p=(T0++[j9 A R ((c.map aL).flatten).length])++[O.lst ((bH 0 c).map (Om A))],⟨_,[x],n,M,M,by rw[show(T0++[j9 A R (aL x).length]).length=T0.length+1 by simp];rfl,by rw[bH,bH];simp⟩,?_⟩;rintro m Z p ⟨c,g,e,rfl,rfl,rfl⟩;have V:xs.length=((c.map aL).flatten).length+((g.map aL).flatten).length:=by rw[<- v,e,jau,jby,jag]
 cases g with
 |nil=>
  rw[jaD] at e;have V:xs.length=((c.map aL).flatten).length:=by simpa using V
  refine oe (aN (G _ _)) (oe rfl (oe (bG (Y _ _)) ⟨false,jac D.bl (jai (by rw[jad];lia)),?_⟩))
  try dsimp only
  rw[jaa (by decide)];refine oe (aN (G _ _)) ⟨_,jac (λb=>[D.bl b,_]) (seq M),?_⟩;refine⟨_,_,bH 0 c,M,av,XO (show xq ((T0++[j9 A R _])++[O.lst ((bH 0 c).map (Om A))]) (.ob (T0.length+1))=_ from bG (N _ _)),made (W _ _ _ ?_)⟩;rw[e] at h;exact h
 |cons y g=>
  have gy:=C y (by rw[e];simp);have ly:0<(aL y).length:=by unfold aL;simp
  have hlt:((c.map aL).flatten).length<xs.length:=by rw[jaf,jaG,jag] at V;lia
  have ll:c.length<=3:=by have:=jac List.length e;rw[jag] at this;lia
  refine oe (aN (G _ _)) (oe rfl (oe (bG (Y _ _)) ⟨true,jac D.bl (jah (by rw[jad];lia)),?_⟩))
  try dsimp only
  rw[jab rfl];refine⟨λZ' p=>Z'=[some (D.str (US xs)),some (D.ob S.length),some (D.str ""),some (D.ob T0.length),some (D.ob (T0.length+1))]/\p=(T0++[j9 A R (((c++[y]).map aL).flatten).length])++[O.lst ((bH 0 (c++[y])).map (Om A))],?_,?_⟩
  .rintro Z' p ⟨rfl,rfl⟩;exact⟨g.length,by simp,c++[y],g,by rw[e];simp,M,M,M⟩
  refine⟨⟨M,_,bG (N _ _)⟩,T0.length,R,_,y,_,M,G _ _,u c y g e,gy.1,gy.2,?_⟩;rw[s1];refine⟨_,N _ _,nq (by rw[jad,pQ];lia),?_⟩;rw[sh];refine⟨M,?_⟩;rw[vB,bH,bH,Nat.zero_add,jau,jau,jby,jag];simp
abbrev vf:Stmt:=top 97
def dz:ak ["_law_script","_law_texts","_law_tuples","_law_programs","_law_k","_law_draw","_law_helpers","_law_text_here","_law_told","_law_turn"] ["_law_script"] (af vf):=cB
def Jz (J:F5 P A)(Km:Uq P k A)(Af:KC P k A)(CL:HP P k A)(qO:xN P k)(Ko:Fi P k)(az:c5 P k)(HA:BS P k)(BG:xM P k)(F:bW P.K "_law_all_right" "_law_all_right" vf f fd):cy P (k+1) f fd ["_law_script"] Dm:=by
 refine aP [_,_,_,_,_,_,_] F dz rfl λAT B outer s H E u=>?_;refine⟨_,(qs (aj (i:=1) dz.nd (dH ah)) (qs (aj (i:=2) dz.nd (dH ah)) (qs (aj (i:=3) dz.nd (dH ah)) (qs (eY jaO rfl (jO rfl J.gp ai) (qg (i:=4) dz.nd) (qs (aj (i:=5) dz.nd (dH (qa (aa qO u rfl ai) ai))) (qs (aj (i:=6) dz.nd (aa BG u rfl ai)) (qs (aX (aA (cA 40 (uE u)) (aa az u rfl ai) aB (au _)) (aS (bM (dJ q_r (qa (aa HA u rfl ai) ah)))) aK) (qs (rB (aa Ko u rfl ai) (jP (n:=2) rfl (rC (qg (i:=7) dz.nd) (rC (qg (i:=8) dz.nd) gW)))) (qs (bM (dJ q_r ai)) (qs (bM (dJ q_r ai)) (aS (bM (dJ q_r (qa (aa Km u rfl ai) ah))))))))))) (qs (aj (i:=9) dz.nd (aY GI (aa qO u rfl ai) aB)) (qs (eY jaO rfl (qi (bD ai)) (qg (i:=4) dz.nd) (qs (aX (qw (tN (D5 (vn (aH (MU (c:=.ref A.cO) trivial M) (by rfl) J.ju boot_isinstance (qa q_r (qa (vo (jq (v:=.ref A.cO) rfl J.vO.g M)) ah))))) (mR (aA (j4 40 (uE u)) (aF q_r Af u) q_r (au _))))) (aS (ao QM)) aK) (aS (aX (qw (tN (aA (j4 40 (uE u)) (aa CL u rfl ai) q_r (au _)) (mR (aA (j4 40 (uE u)) (aF (aa Km u rfl (qa (aa CL u rfl ai) ah)) Af u) q_r (au _))))) (aS (ao QM)) aK)))) (aS (ao (cV (cA 40 (uE u)) (aF (aa Km u rfl ai) Af u) q_r (au _)))))))))),?_⟩;rintro ds S kk hc hd ⟨l,rfl,rfl,h⟩;refine Qp (Qp (Qp ⟨(2:Int),M,by decide,by decide,?_⟩));refine pU (λi Z C=>∃V y5 y6 y7 Y,∃o:List (List gE),Z=[some (D.t (T.Cq (l.map T.int))),some (D.ob 0),some (D.ob 1),some (D.ob 2),V,y5,y6,y7,Y,none]/\C[0]?=some (O.lst (o.map λh=>T.str (Gm h)))/\C[1]?=some (O.lst (o.map λh=>T.tup ((bH 0 h).map EB)))/\C[2]?=some (O.lst (o.map λh=>OM A (bH 0 h)))/\o.length=i/\3<=C.length/\∀h∈o,PgV h) ⟨_,_,_,_,_,[],M,M,M,M,M,by decide,λ_ h=>absurd h jaB⟩ ?_ ?_
 .rintro i z Z C Nx hz ⟨V,y5,y6,y7,Y,o,rfl,g0,g1,g2,hl,h3,hp⟩ hN;have hi:i<2:=by
   have:=(jar.mp hz).1;simpa using this
  rw[jaF,jbx (show i<Int.toNat 2 from hi)] at hz;cases hz;refine⟨trivial,l,i,M,λr=>?_⟩;dsimp only[d8,br,wj,bR];refine a3c ?_;show fV _ _ _ [some (D.t (T.Cq (l.map T.int))),some (D.ob 0),some (D.ob 1),some (D.ob 2),some (D.int i),some (D.ob C.length),y6,y7,Y,none] (C++[O.lst [T.int r,T.int 0]]);have dq:Dq (C++[O.lst [T.int r,T.int 0]]) C.length:=⟨r,0,av⟩
  have k0:(C++[O.lst [T.int r,T.int 0]])[0]?=_:=uo g0;have k1:(C++[O.lst [T.int r,T.int 0]])[1]?=_:=uo g1;have k2:(C++[O.lst [T.int r,T.int 0]])[2]?=_:=uo g2;have k3:3<=(C++[O.lst [T.int r,T.int 0]]).length:=by rw[jag];lia
  generalize C++[O.lst [T.int r,T.int 0]]=S1 at dq k0 k1 k2 k3 ⊢;generalize C.length=d at dq h3 ⊢;have hlt:=dq.lt;have AP:∀{a b c m:Int}{W:aI},bN (bN S1 d a b++W) d c m=bN S1 d c m++W:=λ{a b c m W}=>by rw[mX (by rw[bB];exact hlt),cF]
  have gl:∀c m (j:List gE),(bN S1 d c m++[O.lst (j.map jW)])[S1.length]?=some (O.lst (j.map jW)):=λc m j=>by rw[<- bB (S:=S1) (d:=d) (c:=c) (m:=m)];exact av
  refine⟨d,M,dq,λj c m hsl hs0 hsw=>?_⟩
  try dsimp only[d8]
  refine Vf (λZ' M4=>∃c m,∃j:List gE,PgV j/\Z'=[some (D.t (T.Cq (l.map T.int))),some (D.ob 0),some (D.ob 1),some (D.ob 2),some (D.int i),some (D.ob d),some (D.ob S1.length),y7,Y,none]/\M4=bN S1 d c m++[O.lst (j.map jW)]) (λN hI=>?_) ?_
  .refine⟨d,4,M,dq.bN.up,by decide,λr1 c1 m1 hr1=>?_⟩;rw[AP];by_cases h0:r1=0
   .refine⟨true,qT2,⟨M,_,bG (gl _ _ _)⟩,d,M,dq.bN.up,λx c2 m2 L=>?_⟩;rw[AP];refine⟨j.map jW,gl _ _ _,nq (by rw[jad];lia),?_⟩;have es:(bN S1 d c2 m2++[O.lst (j.map jW)]).set S1.length (O.lst (j.map jW++[jW x]))=bN S1 d c2 m2++[O.lst ((j++[x]).map jW)]:=by
     rw[<- bB (S:=S1) (d:=d) (c:=c2) (m:=m2),bO,jau];rfl
    refine hI _ _ ⟨c2,m2,j++[x],PgV.of (by rw[jag];show _+1<=3;lia) (by simp) λy X=>?_,M,es⟩;rcases jan.mp X with X | X
    .exact(hsw y X).up
    .rw[jal.mp X];exact L
   .exact⟨false,qF2,hI _ _ ⟨c1,m1,j,PgV.of (by lia) hs0 λy X=>(hsw y X).up,M,M⟩⟩
  rintro Z' M4 ⟨c,m,j,G,rfl,rfl⟩;have R:=G.w;refine⟨_,j,M,bG (gl _ _ _),R.l,R.g,R.r,?_⟩;have t0:(bN S1 d c m++[O.lst (j.map jW)])[0]?=some (O.lst (o.map λh=>T.str (Gm h))):=uo (by rw[EH (by lia)];exact k0);have t1:(bN S1 d c m++[O.lst (j.map jW)])[1]?=some (O.lst (o.map λh=>T.tup ((bH 0 h).map EB))):=uo (by rw[EH (by lia)];exact k1);have t2:(bN S1 d c m++[O.lst (j.map jW)])[2]?=some (O.lst (o.map λh=>OM A (bH 0 h))):=uo (by rw[EH (by lia)];exact k2);have t3:3<=(bN S1 d c m++[O.lst (j.map jW)]).length:=by rw[jag,bB];lia
  generalize bN S1 d c m++[O.lst (j.map jW)]=S2 at t0 t1 t2 t3 ⊢;refine⟨_,M,M,_,_,M,_,_,M,M,?_⟩;refine⟨⟨M,_,bG t0⟩,_,t0,nq (by rw[jad];lia),?_⟩;have U:=t1;rw[<- ja1 (a:=O.lst ((o.map λh=>T.str (Gm h))++[T.str (Gm j)])) (l:=S2) (i:=0) (by decide)] at U;refine⟨⟨M,_,bG U⟩,_,U,nq (by rw[jad];lia),?_⟩;have t2':((S2.set 0 (O.lst ((o.map λh=>T.str (Gm h))++[T.str (Gm j)]))).set 1 (O.lst ((o.map λh=>T.tup ((bH 0 h).map EB))++[T.tup ((bH 0 j).map EB)])))[2]?=some (O.lst (o.map λh=>OM A (bH 0 h))):=by
   rw[ja1 (by decide),ja1 (by decide)];exact t2
  refine⟨⟨M,_,bG t2'⟩,j,M,G.n,R.l,G.d,R.r,_,t2',nq (by rw[jad];lia),?_⟩;obtain⟨u0,u1,u2,u3⟩:=U6 (a:=O.lst ((o.map λh=>T.str (Gm h))++[T.str (Gm j)])) (b:=O.lst ((o.map λh=>T.tup ((bH 0 h).map EB))++[T.tup ((bH 0 j).map EB)])) (c:=O.lst ((o.map λh=>OM A (bH 0 h))++[OM A (bH 0 j)])) t3;refine hN _ _ ⟨_,_,_,_,_,o++[j],M,u0.trans (by rw[jau,List.map_singleton]),u1.trans (by rw[jau,List.map_singleton]),u2.trans (by rw[jau,List.map_singleton]),by rw[jag,hl];rfl,u3,λx L=>?_⟩;rcases jan.mp L with L | L
  .exact hp x L
  .rw[jal.mp L];exact G
 .rintro Z C ⟨V,y5,y6,y7,Y,o,rfl,g0,g1,g2,hl,h3,hp⟩;rw[jad,jbt] at hl;obtain⟨p,q,rfl⟩:∃p q,o=[p,q]:=by
   match o,(show o.length=2 from hl) with
   |[p,q],_=>exact⟨p,q,M⟩
  refine⟨trivial,l,2,M,λr=>⟨by show(0:Int)<2;decide,?_⟩⟩;have hr0:r % 2=0\/r % 2=1:=by lia
  have hQ:∀x:Int,x=0\/x=1->∃Q,PgV Q/\jY ([p,q].map λh=>T.str (Gm h)) x=some (T.str (Gm Q))/\jY ([p,q].map λh=>OM A (bH 0 h)) x=some (OM A (bH 0 Q))/\jY ([p,q].map λh=>T.tup ((bH 0 h).map EB)) x=some (T.tup ((bH 0 Q).map EB)):=λx L=>by
   rcases L with rfl | rfl
   .exact⟨p,hp p (by simp),M,M,M⟩
   .exact⟨q,hp q (by simp),M,M,M⟩
  refine ia ?_;refine nB T.int (l:=[r % 2,1 - r % 2,r % 2]) (λpre Z M4=>∃V,Z=[some (D.t (T.Cq (l.map T.int))),some (D.ob 0),some (D.ob 1),some (D.ob 2),V,y5,y6,y7,Y,some (D.int (r % 2))]/\M4=C) ⟨_,M,M⟩ ?_ ?_
  .rintro pre x post Z M4 Nx e ⟨V,rfl,rfl⟩ hN;have L:x=0\/x=1:=by
    have:x∈[r % 2,1 - r % 2,r % 2]:=by rw[e];simp
    simp at this;lia
   obtain⟨Q,G,e0,e2,e1⟩:=hQ x L;have R:=G.w;have I:=G.w.lay 0;refine⟨trivial,?_⟩
   try dsimp only[d8]
   have l3:(bH 0 Q).length<=100:=by have:=I.l;lia
   refine a45 false (λk' hk=>Jv false false (λk' hk=>?_) (λk' hk=>?_) hk) (λh=>by cases h) λ_=>?_
   .exact oe (fX g2) (oe e2 ⟨M,_,true,M,J.kP,true,M,hk⟩)
   .exact oe (fX g2) (oe e2 ⟨0,_,_,by decide,M,by symm,bH 0 Q,M,l3,I.g,oe (fX g1) (oe e1 (.inl ⟨M,JY I.g,false,M,hk⟩))⟩)
   .refine a46 false (λk' hk=>Jv false false (λk' hk=>?_) (λk' hk=>?_) hk) (λh=>by cases h) λ_=>hN _ _ ⟨_,M,M⟩
    .exact oe (fX g2) (oe e2 ⟨bH 0 Q,M,I.g,I.r,oe (fX g0) (oe e0 ⟨false,jac D.bl (by rw[LY,jah rfl];rfl),hk⟩)⟩)
    .refine oe (fX g2) (oe e2 ⟨bH 0 Q,M,I.g,I.r,?_⟩);rw[LY];exact⟨Q,M,G.n,R.l,G.d,R.r,0,_,_,by decide,M,by symm,bH 0 Q,M,l3,I.g,oe (fX g1) (oe e1 (.inl ⟨M,JY I.g,false,M,hk⟩))⟩
  .rintro Z M4 ⟨V,rfl,rfl⟩;obtain⟨Q,G,e0,e2,e1⟩:=hQ _ hr0;have R:=G.w;have I:=G.w.lay 0;exact⟨trivial,oe (fX g0) (oe e0 ⟨Q,M,G.n,R.l,G.d,R.r,0,_,_,by decide,M,by symm,bH 0 Q,M,by have:=I.l;lia,I.g,oe (fX g1) (oe e1 (.inl ⟨M,JY I.g,dw (h _)⟩))⟩)⟩
abbrev tM:Stmt:=top 98
def ZQ:ak ["_law_script"] ["_law_script"] (af tM):=cB
def a00 (J:F5 P A)(b:uz P k)(F:bW P.K "law" "law" tM f fd):cy P (k+1) f fd ["_law_script"] Iw:=by
 refine aP [_] F ZQ rfl λm B a s H E c=>?_;refine⟨_,(aS (Z7 (aS (ao (aa b c rfl ai))) (λ_ _ h=>h))),?_⟩;rintro e S i g j ⟨l,rfl,rfl,h⟩;exact⟨l,M,M,λd=>dw (h d)⟩
end
end L3
namespace Hw
open PySem L2 PyProof.Rows
def Xb {K:Frag}{x a:Str}{st:Stmt}{f:Addr}{o:Value}{od j:jcF}{h:jcA}{kV b i d m:Value}{A:Arguments}{B:List Stmt}{S:Scope}(l:K.lookup f=some ⟨o,od,.func (fnOf x a A B S .none kV b i j d m),h⟩)(e:(A,B,S)=(d9 st,bQ st,af st))(c:codeIn K d a=true)(k:keepIn K (.ref f)=true):bW K x a st f (fnOf x a (d9 st) (bQ st) (af st) .none kV b i j d m):=by
 obtain⟨n,g⟩:=Prod.mk.inj e;obtain⟨g,p⟩:=Prod.mk.inj g;rw[n,g,p] at l;exact a1W l c k
def zv:jcB->(Nat->Value)->jcC
 |[],_=>[]
 |_::r,g=>g 0::zv r λn=>g (n+1)
def a2R (b:jcB):∀us:jcC,us.length=b.length->∃g,us=zv b g:=by
 induction b with
 |nil=>exact λus h=>⟨λ_=>.none,List.eq_nil_of_length_eq_zero h⟩
 |cons p b c=>
  intro us h;cases us with
  |nil=>cases h
  |cons a r=>
   obtain⟨g,e⟩:=c r (Nat.succ.inj h);exact⟨λn=>n.casesOn a λm=>g m,by rw[e];rfl⟩
theorem _root_.L2.bW.bb {K:Frag}{x a:Str}{st:Stmt}{f:Addr}{l:FuncData}{c:jcB}(F:bW K x a st f l)(h:autoParam (∀(kV b j:Value)(d:jcF)(k i:Value)(g:Nat->Value),bindArgs (fnOf x a (d9 st) (bQ st) (af st) .none kV b j d k i) ⟨zv c g,[]⟩=pure (c.zip (zv c g))) kl):Binds K l c []:=F.binds λkV b j d k i m e=>by
 obtain⟨g,rfl⟩:=a2R c m e;exact h kV b j d k i g
end Hw
namespace L3
open PySem L2 Hw
theorem Uw.ok {K:Frag}{C:Addr}(q:Uw K C)(a:specialIn K (.builtin "object.__class__") "__get__"=some (some (.builtin "getset_descriptor.__get__")))(b:takesIn K (.builtin "object.__class__")=some true):AU K C []:=⟨⟨q.pg,q.hd,q.po,q.sa⟩,λ_ h=>absurd h jaB,q.ca,a,b,q.cm⟩
def FnAt (K:Frag)(f:Addr)(x a:Str)(st:Stmt):Prop:=∃b,bW K x a st f b/\keepIn K (.ref f)=true
def Fa (K:Frag)(x:Str)(s:Stmt):Prop:=∃f,nsIn K mainGlobals x=some (some (.ref f))/\FnAt K f x x s
def Fm (K:Frag)(C:Addr)(m q:Str)(s:Stmt):Prop:=∃f,findIn K (.ref C) m=some (some (.ref f))/\isFn K (.ref f)=true/\FnAt K f m q s
def Fas (K:Frag):List (Str×Stmt)->Prop
 |[]=>True
 |(x,s)::r=>Fa K x s/\Fas K r
def Fms (K:Frag):List (Addr×Str×Str×Stmt)->Prop
 |[]=>True
 |(C,m,q,s)::r=>Fm K C m q s/\Fms K r
def Css (K:Frag):List (Str×Addr×jcB)->Prop
 |[]=>True
 |(x,C,fs)::r=>(nsIn K mainGlobals x=some (some (.ref C))/\Uw K C/\Nfs K C fs)/\Css K r
def Nzs (K:Frag):jcB->Prop
 |[]=>True
 |x::r=>nsIn K mainGlobals x=some none/\Nzs K r
theorem Fas.at {K:Frag}:∀{l:List (Str×Stmt)},Fas K l->∀(n:Nat){x:Str}{s:Stmt},l[n]?=some (x,s)->Fa K x s
 |_::_,h,0,_,_,e=>by cases e;exact h.1
 |_::_,h,n+1,_,_,e=>Fas.at h.2 n e
theorem Fms.at {K:Frag}:∀{l:List (Addr×Str×Str×Stmt)},Fms K l->∀(n:Nat){C:Addr}{m q:Str}{s:Stmt},l[n]?=some (C,m,q,s)->Fm K C m q s
 |_::_,h,0,_,_,_,_,e=>by cases e;exact h.1
 |_::_,h,n+1,_,_,_,_,e=>Fms.at h.2 n e
theorem Css.ok {K:Frag}{b:Str->jcG}(jcx:∀(x:Str)(a:Addr),nsIn K mainGlobals x=some (some (.ref a))->b x=some (.ref a))(c:specialIn K (.builtin "object.__class__") "__get__"=some (some (.builtin "getset_descriptor.__get__")))(d:takesIn K (.builtin "object.__class__")=some true){x:Str}{C:Addr}{fs:jcB}(h:nsIn K mainGlobals x=some (some (.ref C))/\Uw K C/\Nfs K C fs):Kc K b x C fs:=⟨jcx _ _ h.1,h.2.1,h.2.1.ok c d,h.2.2⟩
section
variable {P:Program}{w:World}{K:Frag}{mg:Str->jcG}{base:Heap}{k:Nat}{f:Addr}{fd:FuncData}{ps:jcB}{sp ZG:lV}{A:Ad}
theorem a1Y {s c:Sp}(h:∀vs H Q E,c vs H Q E->s vs H Q E)(F:gi P w K mg base yw k f fd ps s):gi P w K mg base yw k f fd ps c:=
 ⟨λvs H Q E q=>F.len vs H Q E (h vs H Q E q),λA a s H b i vs Q E d j e g q=>F.run A a s H b i vs Q E d j e g (h _ _ _ _ q)⟩
def nC {a:Sp}(h:∀vs H Q E,a vs H Q E->uM K sp vs H Q E)(F:gi P w K mg base yw k f fd ps (uM K sp)):gi P w K mg base yw k f fd ps a:=a1Y h F
theorem YC (h:∀ds S k,¬ sp ds S k):gi P w K mg base yw k f fd ps (uM K sp):=
 ⟨(by rintro d H Q E ⟨_,S,ds,b,_,_,q,_⟩;exact(h ds S b q).elim),(by rintro A a s H c g d Q E i l j e ⟨_,S,ds,b,_,_,q,_⟩;exact(h ds S b q).elim)⟩
def JM (h:∀ds S k,ZG ds S k->sp ds S k):∀vs H Q E,uM K ZG vs H Q E->uM K sp vs H Q E:=(by rintro vs H Q E ⟨Y,S,ds,a,R,r,q,hk⟩;exact⟨Y,S,ds,a,R,r,h ds S a q,hk⟩)
def _root_.Hw.Dn.u {x:Str}{j:Nat}{s:Sp}(h:Dn P w K mg base j x ps s)(l:autoParam (j<=k) zn):Dn P w K mg base k x ps s:=Dn.up h l
def Ms.u {n j:Nat}{m:Str}{cl:Nat->Addr}{s:Nat->lV}(h:Ms P w K mg base j n cl m ps s)(l:autoParam (j<=k) zn):Ms P w K mg base k n cl m ps s:=Ms.up h l
def M9.u {x:Str}{C:Addr}{j:Nat}(h:M9 P w K mg base j C x ps sp)(l:autoParam (j<=k) zn):M9 P w K mg base k C x ps sp:=M9.up h l
def _root_.Hw.Dn.v {x:Str}{j:Nat}{s:Sp}(h:Dn P w K mg base j x ps s)(l:autoParam (j<=k) va):Dn P w K mg base k x ps s:=Dn.up h l
def Ms.v {n j:Nat}{m:Str}{cl:Nat->Addr}{s:Nat->lV}(h:Ms P w K mg base j n cl m ps s)(l:autoParam (j<=k) va):Ms P w K mg base k n cl m ps s:=Ms.up h l
def M9.v {x:Str}{C:Addr}{j:Nat}(h:M9 P w K mg base j C x ps sp)(l:autoParam (j<=k) va):M9 P w K mg base k C x ps sp:=M9.up h l
def Ms.z {m:Str}{cl:Nat->Addr}{s:Nat->lV}:Ms P w K mg base k 0 cl m ps s:=λj h=>absurd h (jbu j)
theorem Ms.s {n:Nat}{m:Str}{cl:Nat->Addr}{s:Nat->lV}(h:Ms P w K mg base k n cl m ps s)(t:Mt P w K mg base k (cl n) m ps (uM K (s n))):Ms P w K mg base k (n+1) cl m ps s:=λj a=>by
 rcases Nat.lt_succ_iff_lt_or_eq.mp a with a | rfl
 .exact h j a
 .exact t
def Cm.up {x m:Str}{j:Nat}(h:Cm P w K mg base j x m ps sp)(l:j<=k):Cm P w K mg base k x m ps sp:=let⟨C,f,fd,F,a⟩:=h.ok;⟨⟨C,f,fd,F.mono l,a⟩⟩
def Cm.u {x m:Str}{j:Nat}(h:Cm P w K mg base j x m ps sp)(l:autoParam (j<=k) zn):Cm P w K mg base k x m ps sp:=Cm.up h l
def L8:∀ds S k,¬ P7 ds S k:=λ_ _ _ h=>h
def tQ (j:Nat):∀ds S k,¬ gP A 0 j ds S k:=(by rintro _ _ _ ⟨_,_,_,h,_,_⟩;exact absurd h (jbu _))
def tR (j:Nat):∀ds S k,¬ gQ A 0 j ds S k:=(by rintro _ _ _ ⟨_,_,_,h,_,_,_⟩;exact absurd h (jbu _))
def tS {j:Nat}:∀ds S k,¬ gj A 0 j ds S k:=(by rintro _ _ _ ⟨_,_,_,_,h,_,_⟩;exact absurd h (jbu _))
def a08:∀ds S k,¬ mj 0 ds S k:=(by rintro _ _ _ ⟨_,_,h,_,_,_⟩;exact absurd h (jbu _))
def a07:∀ds S k,¬ tu 0 ds S k:=(by rintro _ _ _ ⟨_,_,_,_,_,_,_,h,_,_⟩;exact absurd h (jbu _))
theorem oS {j:Nat}:∀ds S k,¬ pG A 0 j ds S k:=(by
 rintro ds S k ⟨x,y,_,a,_⟩;cases a with
 |s s h d=>exact jbu _ d
 |h x h d=>exact jbu _ d
 |m s d=>exact jbu _ d)
def Zc {n j:Nat}{x y:T}(h:Tx A n x y j)(b:j<9):∃s:cD,x=iG A s/\y=iZ s/\kd s=j/\dF s/\s.dp<n:=by
 cases h with
 |s s h d=>exact⟨s,M,M,M,h,d⟩
 |h x c a=>lia
 |m s d=>lia
theorem C4 {n j:Nat}(c:j<9):∀vs H Q E,uM K (pG A (n+1) j) vs H Q E->uM K (gO A n j) vs H Q E:=JM (by
 rintro g S k ⟨x,y,e,f,h⟩;obtain⟨s,rfl,rfl,d,b,a⟩:=Zc f c;exact⟨s,e,d,b,a,h⟩)
def UR {n j:Nat}{x y:T}(h:Tx A n x y j)(c:j=9):∃a:gE,x=Om A a/\y=EB a/\xG a/\jX a.steps+1<n:=by
 cases h with
 |s s h d=>have:=Mg s;lia
 |h x e b=>exact⟨x,M,M,e,b⟩
 |m s d=>cases c
theorem a6J {n:Nat}:∀vs H Q E,uM K (pG A (n+1) 9) vs H Q E->uM K (yQ A n) vs H Q E:=JM (by
 rintro f S k ⟨x,y,e,d,h⟩;obtain⟨a,rfl,rfl,c,b⟩:=UR d rfl;exact⟨a,e,c,b,h⟩)
def O1 {n j:Nat}{x y:T}(h:Tx A n x y j)(b:j=10):∃a:Sm,x=nI A a/\y=g9 a:=by
 cases h with
 |s s h d=>have:=Mg s;lia
 |h x e c=>cases b
 |m s d=>exact⟨s,M,M⟩
theorem a6I {n:Nat}:∀vs H Q E,uM K (pG A (n+1) 10) vs H Q E->uM K (xV A) vs H Q E:=JM (by
 rintro c S k ⟨x,y,e,b,h⟩;obtain⟨a,rfl,rfl⟩:=O1 b rfl;exact⟨a,e,h⟩)
theorem bS.ofInts {G:Hp}:∀ns:List Int,bS K G (ns.map T.int) (ns.map V.int)
 |[]=>bS.nil
 |a::r=>bS.cons (by unfold Rp;rfl) (bS.ofInts r)
theorem FH:∀l:List (Str×Tok),Vals ((l.map (·.1)).map V.str) (l.map λp=>Value.str p.1 p.2)
 |[]=>.nil
 |p::l=>.cons ⟨p.2,M⟩ (FH l)
theorem tupK {a:Addr}{od:jcF}{n:Nat}{b:jcA}{l:List (Str×Tok)}(h:K.lookup a=some ⟨.type "tuple",od,.seq (l.map λp=>Value.str p.1 p.2).toArray n,b⟩)(c:decide (l.length<=100)=true):∀H:Hp,nO K H a ((l.map (·.1)).map V.str):=λH=>
 .inr ⟨_,_,n,h,M,M,cH (by have:=jaH c;simp;lia),by simpa using FH l,RL⟩
theorem a1p:∀vs H Q E,Lz K vs H Q E->uM K Iw vs H Q E:=(by
 rintro vs H Q E ⟨a,b,e,c,_,h⟩;refine⟨[],[],[.t (.Cq (b.map T.int))],λd _=>d=.bl true,⟨M,.nil,λn a o h=>by cases h⟩,?_,⟨b,M,M,λ_=>rfl⟩,λv f u=>?_⟩
 .rw[e];refine .cons ?_ .nil;show Rp _ _ _ _;unfold Rp;rw[Vv];exact⟨a,_,M,c,bS.ofInts b⟩
 .obtain⟨Y',S',d,_,_,r,rfl⟩:=u;rw[aM r];exact h f)
end
section
variable {P:Bd}{k:Nat}{ps:jcB}{sp:lV}{A:Ad}
def dA {x:Str}{st:Stmt}{s:lV}(J:F5 P A)(l:Fa P.K x st)(o:∀{f:Addr}{c:FuncData},bW P.K x x st f c->cy P k f c ps s)(b:autoParam (∀(kV d h:Value)(j:jcF)(i m:Value)(g:Nat->Value),bindArgs (fnOf x x (d9 st) (bQ st) (af st) .none kV d h j i m) ⟨Hw.zv ps g,[]⟩=pure (ps.zip (Hw.zv ps g))) kl):eg P k x ps s:=by
 obtain⟨f,a,c,F,e⟩:=l;exact⟨f,c,o F,J.gl _ _ a,e,F.bb b⟩
def mA {C:Addr}{m q:Str}{st:Stmt}{s:lV}(l:Fm P.K C m q st)(o:∀{f:Addr}{d:FuncData},bW P.K m q st f d->cy P k f d ps s)(b:autoParam (∀(kV c h:Value)(n:jcF)(j r:Value)(g:Nat->Value),bindArgs (fnOf m q (d9 st) (bQ st) (af st) .none kV c h n j r) ⟨Hw.zv ps g,[]⟩=pure (ps.zip (Hw.zv ps g))) kl):Mt P.p P.w P.K P.mg P.b k C m ps (uM P.K s):=by
 obtain⟨f,a,i,d,F,e⟩:=l;exact mtM (o F) a i e (F.bb b)
def mS {C:Addr}{m q:Str}{st:Stmt}{s:lV}(l:Fm P.K C m q st)(o:∀{f:Addr}{c:FuncData},bW P.K m q st f c->cy P k f c ps s)(b:autoParam (∀(kV a d:Value)(h:jcF)(e i:Value)(g:Nat->Value),bindArgs (fnOf m q (d9 st) (bQ st) (af st) .none kV a d h e i) ⟨Hw.zv ps g,[]⟩=pure (ps.zip (Hw.zv ps g))) kl):yv P k 1 (λ_=>C) m ps (λ_=>s):=λj n=>mA l o b
def kA {C:Addr}{x q:Str}{fs:jcB}{st:Stmt}{s:lV}(c:Kc P.K P.mg x C fs)(l:Fm P.K C "__init__" q st)(o:∀{f:Addr}{e:FuncData},bW P.K "__init__" q st f e->cy P k f e ps s)(b:autoParam (∀(kV d h:Value)(m:jcF)(j n:Value)(g:Nat->Value),bindArgs (fnOf "__init__" q (d9 st) (bQ st) (af st) .none kV d h m j n) ⟨Hw.zv ps g,[]⟩=pure (ps.zip (Hw.zv ps g))) kl):m8 P (k+1) C x ps s:=by
 obtain⟨f,a,i,e,F,p⟩:=l;exact⟨k,jcd k,mrM (o F) c.q.mi a i c.q.kc (F.bb b),c.k,c.g⟩
def d0 {x:Str}{st:Stmt}(J:F5 P A)(l:Fa P.K x st)(h:∀ds S k,¬ sp ds S k)(b:autoParam (∀(kV a c:Value)(e:jcF)(d f:Value)(g:Nat->Value),bindArgs (fnOf x x (d9 st) (bQ st) (af st) .none kV a c e d f) ⟨Hw.zv ps g,[]⟩=pure (ps.zip (Hw.zv ps g))) kl):eg P k x ps sp:=dA J l (λ_=>YC h) b
def m0 {C:Addr}{m q:Str}{st:Stmt}(l:Fm P.K C m q st)(h:∀ds S k,¬ sp ds S k)(b:autoParam (∀(kV a c:Value)(e:jcF)(d f:Value)(g:Nat->Value),bindArgs (fnOf m q (d9 st) (bQ st) (af st) .none kV a c e d f) ⟨Hw.zv ps g,[]⟩=pure (ps.zip (Hw.zv ps g))) kl):Mt P.p P.w P.K P.mg P.b k C m ps (uM P.K sp):=mA l (λ_=>YC h) b
end
theorem kS4 {K:Frag}{A:Ad}(a:kitOne K (.ref (ET A 0)) (.ref A.bZ)=some false)(d:kitOne K (.ref (ET A 1)) (.ref A.bZ)=some false)(b:kitOne K (.ref (ET A 2)) (.ref A.bZ)=some true)(e:kitOne K (.ref (ET A 3)) (.ref A.bZ)=some true):∀j,j<4->kitOne K (.ref (ET A j)) (.ref A.bZ)=some (decide (2<=j)):=λj c=>by
 match j,c with
 |0,_=>exact a
 |1,_=>exact d
 |2,_=>exact b
 |3,_=>exact e
end L3
namespace Hw
open PySem L2 PyProof.Rows
open PySem.W (findIn keepIn fnOf codeIn kitOne nsIn mg_of isFn plainGet hasDictIn plainOver makesIn mg_none_of mroIn)
def YD {K:Frag}{x a:Str}{st:Stmt}{f:Addr}{i:Value}{od j:jcF}{d:jcA}{kV b h g m:Value}{A:Arguments}{B:List Stmt}{S:Scope}(l:K.lookup f=some ⟨i,od,.func (fnOf x a A B S .none kV b h j g m),d⟩)(e:(A,B,S)=(d9 st,bQ st,af st))(c:codeIn K g a=true)(k:keepIn K (.ref f)=true):L3.FnAt K f x a st:=⟨_,Xb l e c k,k⟩
theorem all_mk {l:OpenLaw}{w:World}{K:Frag}{h:Heap}{t:Str->jcG}{fa o Q R N O I um fq V xF nF U Z Y fk fQ T S H Sp fS D:Addr}{wO:Addr}{Ep:jcF}{GQ:Nat}{DB:jcA}{sV sU sS sR sQ sP sO sN sM sL qE qD qC qB qA qz qv qu qt qq qp:Tok}{Ui:Addr}{WE:jcF}{a1a:Nat}{Vb:jcA}{Lg Lf Ld Lc Lb La:Tok}{tD1 tD2 tD3:Tok}(X:K.In h)(G:h.Ns mainGlobals t)(hfa:t "law"=some (.ref fa))
  {a4p YS:jcF} {a3K:jcA} {a4q Yo YG Yg TL YI:Value} {a52:Arguments} {a51:List Stmt} {a5Q:Scope}
  (hc:L3.Css K (("Sum",o,["terms","number"])::("Compare",Q,["one","sign","other"])::("Turned",R,["condition"])::("Several",N,[])::("Every",O,["conditions"])::("Some",I,["conditions"])::("Let",um,["at","name","total"])::("Divide",fq,["at","name","word","total","by"])::("Fetch",V,["at","name","row","place"])::("Put",xF,["at","row","place","total"])::("Make",nF,["at","row","size"])::("Claim",U,["at","condition"])::("Call",Z,["at","names","helper","given"])::("Choose",Y,["at","condition","then","other"])::("Repeat",fk,["at","condition","keeps","falls","body"])::("Helper",fQ,["at","name","params","answers","needs","gives","steps"])::("Program",T,["helpers"])::("Rows",S,["rows","at"])::("Tokens",H,["tokens","place","at"])::[]))
  (JV:nsIn K mainGlobals "Step"=some (some (.ref Sp)))
  (Y0:findCls K (.ref Sp) (.type "type") "__init__"=some (.val (.ref fS)))
  (Y4:specialIn K (.builtin "object.__class__") "__get__"=some (some (.builtin "getset_descriptor.__get__")))
  (Y3:takesIn K (.builtin "object.__class__")=some true)
  (YZ:specialIn K (.ref Sp) "__getattribute__"=some (some (.builtin "type.__getattribute__")))
  (YY:readsIn K Sp (.type "type")=true)
  (lS:L3.FnAt K fS "__init__" "Step.__init__" L3.om)
  (c:L3.Fas K (("refuse_unless",L3.zk)::("are_figures",L3.Jf)::("is_name",L3.Je)::("is_thing",L3.Jd)::("is_figure_row",L3.Jg)::("term_of",L3.IT)::("signed_terms",L3.Qn)::("sum_of_words",L3.Qm)::("given_of",L3.Qq)::("sum_of",L3.zj)::("as_pairs",L3.qY)::("told_pairs",L3.mC)::("told_each",L3.n8)::("term_text",L3.n9)::("sign_ahead",L3.mD)::("sign_between",L3.jG)::("text_within",L3.kG)::("rows_of_steps",L3.i0)::("rows_of_pairs",L3.i6)::("rows_of_program",L3.gS)::("text_of_rows",L3.jF)::("written",L3.vd)::("_law_mixed",L3.vj)::("_law_cell_at",L3.oj)::("_law_next",L3.zo)::("_law_put_row",L3.oh)::("_law_sum_text",L3.mE)::("_law_text",L3.zl)::("_law_laid_step",L3.kH)::("_law_laid_block",L3.jH)::("_law_laid",L3.zp)::("_law_kept",L3.zq)::("_law_names",L3.vh)::("_law_sum",L3.DZ)::("_law_condition",L3.kI)::("_law_plain",L3.vg)::("_law_call",L3.zu)::("_law_steps",L3.ve)::("_law_step",L3.zm)::("_law_helper",L3.qX)::("_law_program",L3.oi)::("_law_chain",L3.vm)::("tokens_of",L3.IP)::("read_comparison",L3.Ja)::("read_bracketed",L3.Qo)::("read_part",L3.DU)::("read_condition",L3.DX)::("condition_of",L3.Qt)::("read_writings",L3.IV)::("read_make",L3.IY)::("read_put",L3.IX)::("read_let",L3.IZ)::("read_call",L3.Jb)::("read_step",L3.DS)::("read_steps",L3.DR)::("read_choose",L3.DY)::("read_repeat",L3.DT)::("read_answers",L3.Jc)::("read_helper",L3.DV)::("read",L3.DW)::("_law_all_right",L3.vf)::[]))
  (b:L3.Fms K ((o,"__init__","Sum.__init__",L3.q9)::(o,"told","Sum.told",L3.qZ)::(Q,"__init__","Compare.__init__",L3.gU)::(R,"__init__","Turned.__init__",L3.iH)::(um,"__init__","Let.__init__",L3.mG)::(fq,"__init__","Divide.__init__",L3.iI)::(V,"__init__","Fetch.__init__",L3.jl)::(xF,"__init__","Put.__init__",L3.mF)::(nF,"__init__","Make.__init__",L3.j8)::(U,"__init__","Claim.__init__",L3.jm)::(O,"__init__","Several.__init__",L3.gT)::(I,"__init__","Several.__init__",L3.gT)::(Z,"__init__","Call.__init__",L3.oF)::(Y,"__init__","Choose.__init__",L3.kY)::(fk,"__init__","Repeat.__init__",L3.kN)::(fQ,"__init__","Helper.__init__",L3.kR)::(T,"__init__","Program.__init__",L3.jJ)::(Q,"told","Compare.told",L3.jK)::(R,"told","Turned.told",L3.kJ)::(O,"told","Every.told",L3.mK)::(I,"told","Some.told",L3.oq)::(um,"told","Let.told",L3.rq)::(fq,"told","Divide.told",L3.kT)::(V,"told","Fetch.told",L3.mH)::(xF,"told","Put.told",L3.rj)::(nF,"told","Make.told",L3.oz)::(U,"told","Claim.told",L3.mO)::(Z,"told","Call.told",L3.oB)::(Y,"told","Choose.told",L3.kW)::(fk,"told","Repeat.told",L3.kL)::(fQ,"told","Helper.told",L3.kO)::(T,"told","Program.told",L3.jI)::(o,"text","Sum.text",L3.q8)::(Q,"text","Compare.text",L3.jL)::(R,"text","Turned.text",L3.kK)::(O,"text","Every.text",L3.mL)::(I,"text","Some.text",L3.ou)::(um,"as_rows","Let.as_rows",L3.rA)::(fq,"as_rows","Divide.as_rows",L3.kU)::(V,"as_rows","Fetch.as_rows",L3.mJ)::(xF,"as_rows","Put.as_rows",L3.rm)::(nF,"as_rows","Make.as_rows",L3.oA)::(U,"as_rows","Claim.as_rows",L3.mP)::(Y,"as_rows","Choose.as_rows",L3.kX)::(fk,"as_rows","Repeat.as_rows",L3.kM)::(Z,"as_rows","Call.as_rows",L3.oE)::(fQ,"as_rows","Helper.as_rows",L3.kQ)::(H,"coming","Tokens.coming",L3.IU)::(H,"take","Tokens.take",L3.IM)::(H,"take_just","Tokens.take_just",L3.IQ)::(H,"take_until","Tokens.take_until",L3.IL)::(H,"__init__","Tokens.__init__",L3.IS)::(S,"__init__","Rows.__init__",L3.I8)::(S,"coming","Rows.coming",L3.I9)::(S,"take","Rows.take",L3.IW)::(S,"take_just","Rows.take_just",L3.I0)::[]))
  (a2w:nsIn K mainGlobals "law"=some (some (.ref D)))
  (a1r:K.lookup D=some ⟨a4q,a4p,.func (fnOf "law" "law" a52 a51 a5Q .none Yo YG Yg YS TL YI),a3K⟩)
  (OT:(a52,a51,a5Q)=(d9 L3.tM,bQ L3.tM,af L3.tM))
  (a2o:codeIn K TL "law"=true)
  (a1C:keepIn K (.ref D)=true)
  (hz:L3.Nzs K ("len"::"tuple"::"list"::"sorted"::"int"::"str"::"isinstance"::"range"::"abs"::"all"::[]))
  (d1:nsIn K mainGlobals "MOST_LETTERS"=some (some (.int 8 tD1)))
  (d2:nsIn K mainGlobals "MOST_FIGURES"=some (some (.int 9 tD2)))
  (d3:nsIn K mainGlobals "GREATEST"=some (some (.int 999999999 tD3)))
  (kS0:kitOne K (.ref Q) (.ref N)=some false)
  (kS1:kitOne K (.ref R) (.ref N)=some false)
  (kS2:kitOne K (.ref O) (.ref N)=some true)
  (kS3:kitOne K (.ref I) (.ref N)=some true)
  (kP:kitOne K (.ref T) (.ref T)=some true)
  (l9:nsIn K mainGlobals "KEPT_WORDS"=some (some (.ref wO)))
  (l8:K.lookup wO=some ⟨.type "tuple",Ep,.seq #[.str "helper" sV,.str "answers" sU,.str "needs" sS,.str "gives" sR,.str "end" sQ,.str "let" sP,.str "div" sO,.str "mod" sN,.str "put" sM,.str "row" sL,.str "at" qE,.str "if" qD,.str "else" qC,.str "while" qB,.str "holds" qA,.str "falls" qz,.str "call" qv,.str "claim" qu,.str "and" qt,.str "or" qq,.str "not" qp] GQ,DB⟩)
  (C9:nsIn K mainGlobals "SIGNS"=some (some (.ref Ui)))
  (C3:K.lookup Ui=some ⟨.type "tuple",WE,.seq #[.str "<" Lg,.str "<=" Lf,.str "=" Ld,.str "!=" Lc,.str ">=" Lb,.str ">" La] a1a,Vb⟩)
 :∃fd:FuncData,(∀(s:Shared)(v:Value),BindsTo s fd ⟨[v],[]⟩ [("_law_script",v)])/\∀base:Heap,K.In base->base.Ns mainGlobals t->gi l.prog w K t base yw 80 fa fd ["_law_script"] (Lz K):=by
 have e:=hfa.symm.trans (mg_of X G a2w);cases e
 let A:L3.Ad:=⟨o,Q,R,N,O,I,um,fq,V,xF,nF,U,Z,Y,fk,fQ,T,S,H,o,o,o,o,o,o,o⟩
 have jcx:∀(x:Str)(a:Addr),nsIn K mainGlobals x=some (some (.ref a))->t x=some (.ref a):=λx a h=>mg_of X G h;have u:=@L3.Css.ok K t jcx Y4 Y3;obtain⟨a2U,UL,YX,OU,a2V,a2T,CZ,UM,a2X,a2W,_⟩:=hz;obtain⟨a36,Ny,QN,Nu,VJ,a0d,a38,QZ,VI,a37,a0f,VL,a0g,Q0,QV,QY,Nv,a0e,QU,_⟩:=hc;have kS:∀j,j<4->kitOne K (.ref (L3.ET A j)) (.ref A.bZ)=some (decide (2<=j)):=L3.kS4 kS0 kS1 kS2 kS3;have J:L3.Fx K t A:=⟨jbj X G a2U,jbj X G UL,jbj X G YX,jbj X G OU,jbj X G a2V,jbj X G a2T,jbj X G CZ,jbj X G UM,jbj X G a2X,jbj X G a2W,u a36,u Ny,u QN,u Nu,u VJ,u a0d,u a38,u QZ,u VI,u a37,u a0f,u VL,u a0g,u Q0,u QV,u QY,u Nv,u a0e,u QU,⟨_,mg_of X G d1⟩,⟨_,mg_of X G d2⟩,⟨_,mg_of X G d3⟩,kS,kP,jcx⟩
 obtain⟨fdS,FS,kSt⟩:=lS;have a8R:=Xb (st:=L3.tM) a1r OT a2o a1C;refine⟨fnOf "law" "law" (d9 L3.tM) (bQ L3.tM) (af L3.tM) .none Yo YG Yg YS TL YI,λs v=>.of_eq M,λbase _ _=>?_⟩
 let p:L3.Bd:=⟨l.prog,w,K,t,base⟩
 have J:L3.F5 p A:=J;have d:=@L3.dA p;have d0:=@L3.d0 p;have m:=@L3.mA p;have m0:=@L3.m0 p;have e:=@L3.mS p;have n:=@L3.kA p;have XH:=n J.TX (b.at 0 M) (L3.Gz p (k:=0) J );have K4:=d J (c.at 9 M) (L3.NQ p (k:=2) J XH.u);have B:=e (b.at 1 M) (L3.wB p (k:=0) J );have r:L3.UK p 1 "Step" "__init__" ["self","at"] (L3.nu K):=⟨⟨Sp,fS,_,L3.Eg p (k:=0) J  FS,jcx _ _ JV,YZ,YY,Y0,kSt,FS.bb⟩⟩
 have uJ:=d J (c.at 10 M) (L3.Gx p (k:=0) J );have HU:=n J.p6 (b.at 2 M) (L3.xu p (k:=0) J );have AO:=n J.HB (b.at 3 M) (L3.zL p (k:=0) J );have XJ:=n J.MV (b.at 4 M) (L3.GG p (k:=1) J r.u);have K1:=n J.lR (b.at 5 M) (L3.zU p (k:=1) J r.u);have OI:=n J.uh (b.at 6 M) (L3.Bm p (k:=1) J r.u);have XI:=n J.HC (b.at 7 M) (L3.GC p (k:=1) J r.u);have Us:=n J.E3 (b.at 8 M) (L3.El p (k:=1) J r.u);have OJ:=n J.E4 (b.at 9 M) (L3.Bs p (k:=1) J r.u);have Ut:=n J.AI (b.at 12 M) (L3.Eo p (k:=1) J r.u);have K3:=n J.o7 (b.at 13 M) (L3.zX p (k:=1) J r.u);have KZ:=n J.lQ (b.at 14 M) (L3.zO p (k:=1) J uJ.u r.u);have K0:=n J.iW (b.at 15 M) (L3.zR p (k:=1) J uJ.u);have HS:=n J.vO (b.at 16 M) (L3.xm p (k:=0) J );have CV:=n J.MW (b.at 10 M) (L3.nv p (k:=0) J.MW.n.1 J );have HR:=n J.TY (b.at 11 M) (L3.nv p (k:=0) J.TY.n.1 J );have T1:∀n k,1+1*n<=k->L3.nc p k A n:=by
  intro n
  induction n with
  |zero=>exact λk _=>L3.Ms.z |>.s (m0 (b.at 17 M) (L3.tQ _)) |>.s (m0 (b.at 18 M) (L3.tQ _)) |>.s (m0 (b.at 19 M) (L3.tQ _)) |>.s (m0 (b.at 20 M) (L3.tQ _))
  |succ n i=>
   intro k hk;obtain⟨j,rfl⟩:∃j,k=j+1:=⟨k - 1,by lia⟩
   have i:=i j (by lia);exact L3.Ms.z |>.s (m (b.at 17 M) (L3.xo p (k:=j) (n:=n) J B.v)) |>.s (m (b.at 18 M) (L3.zJ p (k:=j) (n:=n) J i)) |>.s (m (b.at 19 M) (L3.Bo p (k:=j) (n:=n) J i)) |>.s (m (b.at 20 M) (L3.Eh p (k:=j) (n:=n) J i))
 have nh:=T1 3 4 (by decide);have pC:=d J (c.at 11 M) (L3.Bf p (k:=4) J nh.u);have T2:∀n k,5+2*n<=k->L3.AJ p k A n:=by
  intro n
  induction n with
  |zero=>exact λk _=>L3.Ms.z |>.s (m0 (b.at 21 M) L3.oS) |>.s (m0 (b.at 22 M) L3.oS) |>.s (m0 (b.at 23 M) L3.oS) |>.s (m0 (b.at 24 M) L3.oS) |>.s (m0 (b.at 25 M) L3.oS) |>.s (m0 (b.at 26 M) L3.oS) |>.s (m0 (b.at 27 M) L3.oS) |>.s (m0 (b.at 28 M) L3.oS) |>.s (m0 (b.at 29 M) L3.oS) |>.s (m0 (b.at 30 M) L3.oS) |>.s (m0 (b.at 1 M) L3.oS)
  |succ n i=>
   intro k hk;obtain⟨j,rfl⟩:∃j,k=j+2:=⟨k - 2,by lia⟩
   have i:=i j (by lia);have g:=d J (c.at 12 M) (L3.tP p (k:=j) (n:=n) J i);exact L3.Ms.z |>.s (m (b.at 21 M) (λF=>L3.nC (L3.C4 (by decide)) (L3.GD p (k:=j+1) (n:=n) J B.v F))) |>.s (m (b.at 22 M) (λF=>L3.nC (L3.C4 (by decide)) (L3.zS p (k:=j+1) (n:=n) J B.v F))) |>.s (m (b.at 23 M) (λF=>L3.nC (L3.C4 (by decide)) (L3.Bj p (k:=j+1) (n:=n) J B.v F))) |>.s (m (b.at 24 M) (λF=>L3.nC (L3.C4 (by decide)) (L3.GA p (k:=j+1) (n:=n) J B.v F))) |>.s (m (b.at 25 M) (λF=>L3.nC (L3.C4 (by decide)) (L3.Ej p (k:=j+1) (n:=n) J B.v F))) |>.s (m (b.at 26 M) (λF=>L3.nC (L3.C4 (by decide)) (L3.Bq p (k:=j+1) (n:=n) J nh.v F))) |>.s (m (b.at 27 M) (λF=>L3.nC (L3.C4 (by decide)) (L3.Em p (k:=j+1) (n:=n) J g F))) |>.s (m (b.at 28 M) (λF=>L3.nC (L3.C4 (by decide)) (L3.zV p (k:=j+1) (n:=n) J g nh.v F))) |>.s (m (b.at 29 M) (λF=>L3.nC (L3.C4 (by decide)) (L3.zM p (k:=j+1) (n:=n) J g pC.v nh.v B.v F))) |>.s (m (b.at 30 M) (λF=>L3.nC L3.a6J (L3.zP p (k:=j+1) (n:=n) J g pC.v F))) |>.s (m (b.at 1 M) (λF=>L3.nC L3.a6I (L3.wB p (k:=j+1) J  F)))
 have KQ:=T2 10 25 (by decide);have BU:=d J (c.at 12 M) (L3.tP p (k:=25) (n:=10) J KQ.u);have KR:=e (b.at 31 M) (L3.xj p (k:=26) J BU.u);have BX:=d J (c.at 13 M) (L3.Eb p (k:=0) J );have AQ:=d J (c.at 14 M) (L3.Bg p (k:=0) J );have v8:=d J (c.at 15 M) (L3.xg p (k:=0) J );have y:=e (b.at 32 M) (L3.Gy p (k:=1) J v8.u AQ.u BX.u);have T3:∀n k,2+2*n<=k->L3.rV p k A n:=by
  intro n
  induction n with
  |zero=>exact λk _=>L3.Ms.z |>.s (m0 (b.at 33 M) (L3.tR _)) |>.s (m0 (b.at 34 M) (L3.tR _)) |>.s (m0 (b.at 35 M) (L3.tR _)) |>.s (m0 (b.at 36 M) (L3.tR _))
  |succ n i=>
   intro k hk;obtain⟨j,rfl⟩:∃j,k=j+2:=⟨k - 2,by lia⟩
   have i:=i j (by lia);have g:=d J (c.at 16 M) (L3.zH p (k:=j) (n:=n) J i);exact L3.Ms.z |>.s (m (b.at 33 M) (L3.xr p (k:=j+1) (n:=n) J y.v)) |>.s (m (b.at 34 M) (L3.zK p (k:=j+1) (n:=n) J i.v)) |>.s (m (b.at 35 M) (L3.Bp p (k:=j+1) (n:=n) J g)) |>.s (m (b.at 36 M) (L3.Ei p (k:=j+1) (n:=n) J g))
 have nj:=T3 3 8 (by decide);have kD:=d J (c.at 18 M) (L3.vq p (k:=8) J nj.u);have T4:∀n k,9+2*n<=k->L3.AK p k A n:=by
  intro n
  induction n with
  |zero=>exact λk _=>L3.Ms.z |>.s (m0 (b.at 37 M) L3.tS) |>.s (m0 (b.at 38 M) L3.tS) |>.s (m0 (b.at 39 M) L3.tS) |>.s (m0 (b.at 40 M) L3.tS) |>.s (m0 (b.at 41 M) L3.tS) |>.s (m0 (b.at 42 M) L3.tS) |>.s (m0 (b.at 45 M) L3.tS) |>.s (m0 (b.at 43 M) L3.tS) |>.s (m0 (b.at 44 M) L3.tS)
  |succ n i=>
   intro k hk;obtain⟨j,rfl⟩:∃j,k=j+2:=⟨k - 2,by lia⟩
   have i:=i j (by lia);have g:=d J (c.at 17 M) (L3.lI p (k:=j) (n:=n) J i);exact L3.Ms.z |>.s (m (b.at 37 M) (L3.GF p (k:=j+1) (n:=n) J y.v)) |>.s (m (b.at 38 M) (L3.zT p (k:=j+1) (n:=n) J y.v)) |>.s (m (b.at 39 M) (L3.Bl p (k:=j+1) (n:=n) J y.v)) |>.s (m (b.at 40 M) (L3.GB p (k:=j+1) (n:=n) J y.v)) |>.s (m (b.at 41 M) (L3.Ek p (k:=j+1) (n:=n) J y.v)) |>.s (m (b.at 42 M) (L3.Br p (k:=j+1) (n:=n) J nj.v)) |>.s (m (b.at 45 M) (L3.En p (k:=j+1) (n:=n) J y.v)) |>.s (m (b.at 43 M) (L3.zW p (k:=j+1) (n:=n) J g nj.v)) |>.s (m (b.at 44 M) (L3.zN p (k:=j+1) (n:=n) J g y.v nj.v kD.v))
 have KU:=T4 9 27 (by decide);have uD:=d J (c.at 17 M) (L3.lI p (k:=27) (n:=9) J KU.u);have KW:=e (b.at 46 M) (L3.zQ p (k:=28) J uD.u kD.u);have ql:=d J (c.at 19 M) (L3.rF p (k:=29) J KW.u);have vZ:=d J (c.at 20 M) (L3.w9 p (k:=0) J );have HV:=d J (c.at 21 M) (L3.Jx p (k:=30) J vZ.u ql.u);have f:=d J (c.at 0 M) (L3.NR p (k:=0) J );have xS:=d J (c.at 1 M) (L3.WB p (k:=0) J );have E:=d J (c.at 2 M) (L3.WA p (k:=0) J (mg_of X G l9) (L3.tupK (l:=[("helper",sV),("answers",sU),("needs",sS),("gives",sR),("end",sQ),("let",sP),("div",sO),("mod",sN),("put",sM),("row",sL),("at",qE),("if",qD),("else",qC),("while",qB),("holds",qA),("falls",qz),("call",qv),("claim",qu),("and",qt),("or",qq),("not",qp)]) l8 (by rfl)));have uH:=d J (c.at 3 M) (L3.Wz p (k:=1) J E.u);have uI:=d J (c.at 4 M) (L3.WC p (k:=1) J xS.u);have HW:=d J (c.at 5 M) (L3.Wl p (k:=2) J f.u uH.u uI.u);have v5:=d J (c.at 6 M) (L3.a0Y p (k:=1) J f.u);have L:=d J (c.at 7 M) (L3.a0X p (k:=3) J K4.u f.u v5.u HW.u);have Fz:=d J (c.at 8 M) (L3.a01 p (k:=4) J L.u);have BV:=d J (c.at 42 M) (L3.Wh p (k:=1) J f.u);have KY:=n J.o6 (b.at 51 M) (L3.Wj p (k:=2) J BV.u);have C:=e (b.at 47 M) (L3.Wm p (k:=0) J );have r8:=e (b.at 48 M) (L3.Wg p (k:=1) J C.u);have eU:=e (b.at 49 M) (L3.Wi p (k:=2) J f.u r8.u);have vY:=e (b.at 50 M) (L3.Wf p (k:=2) J C.u r8.u);have ji:=d J (c.at 43 M) (L3.Ww p (k:=4) J HU.u L.u vY.u r8.u (mg_of X G C9) (L3.tupK (l:=[("<",Lg),("<=",Lf),("=",Ld),("!=",Lc),(">=",Lb),(">",La)]) C3 (by rfl)));have T5:∀n k,5+3*n<=k->L3.eg p k "read_bracketed" ["source"] (L3.XZ A n):=by
  intro n
  induction n with
  |zero=>exact λk _=>d0 J (c.at 44 M) L3.L8
  |succ n i=>
   intro k hk;obtain⟨j,rfl⟩:∃j,k=j+3:=⟨k - 3,by lia⟩
   have i:=i j (by lia);have g:=d J (c.at 45 M) (L3.Gu p (k:=j) (n:=n) J ji.v C.v f.v i AO.v eU.v);have e1:=d J (c.at 46 M) (L3.Gv p (k:=j+1) (n:=n) J CV.v HR.v C.v g eU.v f.v);exact d J (c.at 44 M) (L3.a0Z p (k:=j+2) (n:=n) J eU.v e1)
 have se:=T5 2 11 (by decide);have BY:=d J (c.at 45 M) (L3.Gu p (k:=11) (n:=2) J ji.u C.u f.u se.u AO.u eU.u);have r9:=d J (c.at 46 M) (L3.Gv p (k:=12) (n:=2) J CV.u HR.u C.u BY.u eU.u f.u);have lX:=d J (c.at 47 M) (L3.a02 p (k:=13) J f.u C.u r9.u KY.u);have Ur:=n J.E2 (b.at 52 M) (L3.Wu p (k:=0) J );have W:=e (b.at 53 M) (L3.Wv p (k:=0) J );have P:=e (b.at 54 M) (L3.Wo p (k:=1) J f.u);have jh:=e (b.at 55 M) (L3.Wt p (k:=2) J f.u P.u);have v9:=d J (c.at 57 M) (L3.Wy p (k:=2) J f.u E.u P.u W.u);have kE:=d J (c.at 48 M) (L3.Wn p (k:=14) J W.u lX.u P.u);have Ft:=d J (c.at 51 M) (L3.Ws p (k:=4) J XJ.u L.u OI.u f.u E.u K1.u);have Fq:=d J (c.at 50 M) (L3.Wq p (k:=4) J XI.u L.u f.u E.u);have BZ:=d J (c.at 49 M) (L3.Wr p (k:=4) J Us.u L.u f.u E.u);have B0:=d J (c.at 52 M) (L3.Wx p (k:=5) J Ut.u Fz.u f.u E.u);have T6:∀n k,15+4*n<=k->L3.eg p k "read_steps" ["source"] (L3.Lw A n):=by
  intro n
  induction n with
  |zero=>exact λk _=>d0 J (c.at 54 M) L3.L8
  |succ n i=>
   intro k hk;obtain⟨j,rfl⟩:∃j,k=j+4:=⟨k - 4,by lia⟩
   have i:=i j (by lia);have g:=d J (c.at 55 M) (L3.RB p (k:=j) (n:=n) J K3.v jh.v W.v f.v i);have e1:=d J (c.at 56 M) (L3.Ry p (k:=j+1) (n:=n) J KZ.v jh.v i.v W.v L.v P.v kE.v);have e2:=d J (c.at 53 M) (L3.Rx p (k:=j+2) (n:=n) J B0.v f.v e1 lX.v g.v OJ.v BZ.v Fq.v Ft.v P.v);exact d J (c.at 54 M) (L3.Rw p (k:=j+3) (n:=n) J W.v e2)
 have AR:=T6 7 43 (by decide);have xP:=d J (c.at 58 M) (L3.Rz p (k:=43) J K0.u jh.u AR.u kE.u v9.u f.u uH.u E.u P.u);have Uu:=d J (c.at 59 M) (L3.RA p (k:=44) J HS.u f.u xP.u Ur.u);have qS:=d J (c.at 22 M) (L3.JC p (k:=0) J );have xR:=d J (c.at 23 M) (L3.Ef p (k:=1) J qS.u);have q:=d J (c.at 24 M) (L3.NU p (k:=1) J qS.u);have gq:=d J (c.at 25 M) (L3.Ec p (k:=0) J );have fU:=d J (c.at 26 M) (L3.Bh p (k:=0) J );have T7:∀n k,1+1*n<=k->L3.eg p k "_law_text" ["_law_told"] (L3.mj n):=by
  intro n
  induction n with
  |zero=>exact λk _=>d0 J (c.at 27 M) L3.a08
  |succ n i=>
   intro k hk;obtain⟨j,rfl⟩:∃j,k=j+1:=⟨k - 1,by lia⟩
   have i:=i j (by lia);exact d J (c.at 27 M) (L3.NS p (k:=j) (n:=n) J i fU.v)
 have jx:=T7 3 4 (by decide);have T8:∀n k,4+2*n<=k->L3.eg p k "_law_laid_block" ["_law_step_here","_law_rows"] (L3.tu n):=by
  intro n
  induction n with
  |zero=>exact λk _=>d0 J (c.at 29 M) L3.a07
  |succ n i=>
   intro k hk;obtain⟨j,rfl⟩:∃j,k=j+2:=⟨k - 2,by lia⟩
   have i:=i j (by lia);have g:=d J (c.at 28 M) (L3.oO p (k:=j) (n:=n) J i gq.v fU.v jx.v);exact d J (c.at 29 M) (L3.xh p (k:=j+1) (n:=n) J g gq.v fU.v jx.v)
 have sf:=T8 9 22 (by decide);have uF:=d J (c.at 28 M) (L3.oO p (k:=22) (n:=9) J sf.u gq.u fU.u jx.u);have Fv:=d J (c.at 30 M) (L3.NV p (k:=23) J uF.u gq.u jx.u);have Fw:=d J (c.at 31 M) (L3.NW p (k:=0) J );have qR:=d J (c.at 32 M) (L3.JB p (k:=2) J Fw.u q.u);have pF:=d J (c.at 33 M) (L3.RC p (k:=2) J q.u);have T9:∀n k,3+1*n<=k->L3.eg p k "_law_condition" ["_law_draw","_law_things","_law_deep"] (L3.F0 n):=by
  intro n
  induction n with
  |zero=>exact λk _=>d0 J (c.at 34 M) L3.L8
  |succ n i=>
   intro k hk;obtain⟨j,rfl⟩:∃j,k=j+1:=⟨k - 1,by lia⟩
   have i:=i j (by lia);exact d J (c.at 34 M) (L3.zI p (k:=j) (n:=n) J i q.v pF.v)
 have kF:=T9 2 5 (by decide);have sj:=T9 3 6 (by decide);have Cb:=d J (c.at 35 M) (L3.JA p (k:=0) J );have Fy:=d J (c.at 36 M) (L3.NX p (k:=3) J q.u pF.u);have T0:∀n k,5+2*n<=k->L3.eg p k "_law_steps" ["_law_draw","_law_own","_law_many","_law_deep","_law_helpers"] (L3.Cp n):=by
  intro n
  induction n with
  |zero=>exact λk _=>d0 J (c.at 37 M) L3.L8
  |succ n i=>
   intro k hk;obtain⟨j,rfl⟩:∃j,k=j+2:=⟨k - 2,by lia⟩
   have i:=i j (by lia);have g:=d J (c.at 38 M) (L3.NT p (k:=j) (n:=n) J pF.v Cb.v Fy.v q.v kF.v i);exact d J (c.at 37 M) (L3.Jy p (k:=j+1) (n:=n) J g)
 have Ca:=T0 3 11 (by decide);have AS:=d J (c.at 39 M) (L3.Gw p (k:=11) J Ca.u kF.u q.u);have xQ:=d J (c.at 40 M) (L3.Ed p (k:=12) J q.u AS.u qR.u);have Cc:=d J (c.at 41 M) (L3.JD p (k:=6) J q.u sj.u qR.u);have uG:=d J (c.at 60 M) (L3.Jz p (k:=45) J Uu.u KR.u HV.u xR.u Fv.u q.u Cc.u xQ.u);exact L3.nC L3.a1p ((L3.a00 p (k:=46) J uG.u a8R).mono (by decide:47<=80))
theorem walk {l:OpenLaw}{q:Program}{b:jcB}{t:(Str->jcG)->Heap->Prop}{g:World->Heap->Prop}{d:DefRec}{K:Params->Frag}(m:l.most=some 63)(e:d.params.defaults=[])
  (j:∀(w:World)(h:Heap),g w h->(K w.params).In h)
  (F:∀(w:World)(c:Str->jcG)(i:Addr)(h:Heap),(K w.params).In h->h.Ns mainGlobals c->c d.name=some (.ref i)->
   ∃fd:FuncData,(∀(s:Shared)(u:Value),BindsTo s fd ⟨[u],[]⟩ [("_law_script",u)])/\∀base:Heap,(K w.params).In base->base.Ns mainGlobals c->gi l.prog w (K w.params) c base yw 80 i fd ["_law_script"] (Lz (K w.params))) :
  WalkO q b t g l.row.toRowW d [] (λf vs=>PySem.call f vs):=
 L2.UN (n:=63) (k:=80) (x:="_law_script") (CX:=λ_=>yw) (sp:=λw=>Lz (K w.params)) m (by decide) e ⟨M,by decide,by decide⟩ j F (λ_ _ a r p _ o=>⟨a,r,M,o,p,λ_=>rfl⟩) λ_ _ _ _ _ z=>z
end Hw
open PySem PySem.W PyProof.Rows
set_option maxRecDepth 100000 in
set_option maxHeartbeats 0 in
theorem PySem.Challenge.cw_holdwright_k13_whole_read_holds : PySem.Challenge.rw_holdwright_k13_whole_read.Holds := by
 refine Hd ?_
 k_fill
 refine Hw.walk (l:=PySem.Challenge.rw_holdwright_k13_whole_read) rfl rfl (fun w h QR=>QR) ?F
 case F=>
  intro w mg fa h KX G hmg;refine' Hw.all_mk KX G hmg ?hc ?JV ?Y0 ?Y4 ?Y3 ?YZ ?YY ?lS ?ha ?hm ?a2w ?a1r ?OT ?a2o ?a1C ?hz ?d1 ?d2 ?d3 ?kS0 ?kS1 ?kS2 ?kS3 ?kP ?l9 ?l8 ?C9 ?C3
  (case hc=>((repeat (refine' ⟨⟨?_,⟨?_,?_,?_,?_,?_,?_,?_,?_⟩,?_⟩,?_⟩;(any_goals k_is);(repeat (refine' ⟨?_,?_⟩;(any_goals k_is)));exact trivial));exact trivial))
  (case JV|Y0|Y4|Y3|YZ|YY|a2w|a1r|a2o|a1C|d1|d2|d3|l9|l8|C9|C3=>k_is)
  (case lS=>(refine' Hw.YD ?ya ?yb ?yc ?yd;(case ya=>k_is);(case yb=>kernel_rfl);(case yc|yd=>k_is)))
  (case ha=>((repeat (refine' ⟨?_,?_⟩;apply Exists.intro;refine' ⟨?_,?_⟩;(any_goals k_is);(refine' Hw.YD ?_ ?_ ?_ ?_;(any_goals k_is);kernel_rfl)));exact trivial))
  (case hm=>((repeat (refine' ⟨?_,?_⟩;apply Exists.intro;refine' ⟨?_,?_,?_⟩;(any_goals k_is);(refine' Hw.YD ?_ ?_ ?_ ?_;(any_goals k_is);kernel_rfl)));exact trivial))
  (case hz=>((repeat (refine' ⟨?_,?_⟩;(any_goals k_is)));exact trivial))
  (case kS0|kS1|kS2|kS3|kP=>kit_is)
  (case OT=>kernel_rfl)
#print axioms PySem.Challenge.cw_holdwright_k13_whole_read_holds
