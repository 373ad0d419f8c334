import PyProof.Rows.All
import Wide.All
import OpenK.KLine
import OpenK.KWalk
import KE.KNestM
import KE.RegKIsAll
import KE.KxBytes
import KE.KItem
import KE.KDictOf
import KE.KDictSum
import KE.LcSums
import KE.KxText
import Wide.FinOn
import Lean
import PyProof.EqAt
import PyProof.EqKinds
import PyProof.TupleCall
import PySem.Spec
import PyProof.NeKinds
import KE.KDictList
import KE.KPairComp
import PyProof.DictWalks
import PyProof.ExcClass3
import PyProof.ExcInit
import PyProof.ExcBaseAll.ValueError
import OpenK.KMore
import PyProof.RaisesMany
import PyProof.FString5
import PyProof.StrLawsIn
import PyProof.Rows.SetFrom
import PyProof.ExcAttrAll.ValueError
import KE.KIsAll
import PyProof.RulesAs
import KE.KIntText
import PyProof.Rows.StrNews2
import PyProof.Rows.Range3
import PyProof.StrLawsTight
import PyProof.StrLawsChain
import PyProof.Rows.StrPins
import PyProof.Rows.StrCut
import PyProof.Rows.StrMadeLen
import PyProof.Rows.StrBin
import PyProof.InstStoreFacts
import PyProof.ToksMono
import KE.KUnpack
import PyProof.StrLawsNeg
import PyProof.StrLawsReplace
import PySem.Challenge.RW_holdwright_k14_rows_refused
set_option Elab.async false
set_option linter.all false
set_option maxRecDepth 100000
namespace Hq
open PySem PySem.W
noncomputable def d1 (l:List Obj):List Obj:=@List.rec Obj (fun _=>List Obj) [] (fun _ t _=>t) l
noncomputable def d4 (l:List Obj):List Obj:=d1 (d1 (d1 (d1 l)))
noncomputable def d32 (l:List Obj):List Obj:=d4 (d4 (d4 (d4 (d4 (d4 (d4 (d4 l)))))))
noncomputable def gB (l:List Obj) (k:Nat):List Obj:=@Nat.rec (fun _=>List Obj) l (fun _ r=>d32 r) k
noncomputable def gA (i:Nat):List Obj→Option Obj:=@Nat.rec (fun _=>List Obj→Option Obj) (fun l=>@List.rec Obj (fun _=>Option Obj) none (fun x _ _=>some x) l) (fun _ ih l=>ih (d1 l)) i
def nF (o:Option Obj):Option Obj:=match o with|some ⟨_,_,.freed,_⟩=>none|o=>o
noncomputable def gQ (h:Heap) (a:Addr):Option Obj:=nF (gA (Nat.mod a 32) (gB h.objs.toList (Nat.div a 32)))
def d1_eq (l:List Obj):d1 l=l.drop 1:=by cases l<;>rfl
def d32_eq (l:List Obj):d32 l=l.drop 32:=by
 unfold d32 d4;simp only [d1_eq,List.drop_drop]
theorem gB_eq (l:List Obj):∀ k,gB l k=l.drop (32*k)
 |0=>rfl
 |k+1=>by
  show d32 (gB l k)=_;rw [gB_eq l k,d32_eq,List.drop_drop,Nat.mul_succ]
theorem gA_eq:∀ (i:Nat) (l:List Obj),gA i l=l[i]?
 |0,l=>by cases l<;>rfl
 |i+1,l=>by
  show gA i (d1 l)=_;rw [gA_eq i,d1_eq,List.getElem?_drop,Nat.add_comm]
def gQ_eq:gQ=Heap.get?:=by
 funext h a;show nF (gA (a%32) (gB h.objs.toList (a/32)))=nF h.objs[a]?;rw [gA_eq,gB_eq,List.getElem?_drop,Nat.div_add_mod,Array.getElem?_toList]
noncomputable def hk (K:Params→Frag) (as:List Addr) (e:∀ P,as=(K P).map (·.1)):Hook:=⟨List (Option Obj),fun s=>as.map (gQ s.heap),fun w=>(K w.params).map fun p=>some p.2,InK K,fun w s x=>InK.of e w s (by rw [gQ_eq] at x; exact x),InK.keeps⟩
end Hq
local macro_rules|`(tactic|symm)=>`(tactic|decide +kernel)
local macro_rules|`(tactic|o_head (kHook $k $a $e))=>`(tactic|o_head (Hq.hk $k $a $e))
namespace PySem.W.Fast
noncomputable def te13052408679150730464:=0
noncomputable def te4110290226886642065:=0
noncomputable def te5369427470323729400:=0
noncomputable def te12305933238918452080:=0
noncomputable def te16555476440528808052:=0
noncomputable def te4868988410673395695:=0
noncomputable def te5452508617037859911:=0
noncomputable def te11152381544001756331:=0
end PySem.W.Fast
set_option maxHeartbeats 0 in
open_top Hd for PySem.Challenge.rw_holdwright_k14_rows_refused
noncomputable section
def zAzi (h:True:=by rfl):True:=h
def zi:=zAzi._auto_1
def zAzn (h:True:=by decide):True:=h
def zn:=zAzn._auto_1
def zAzr (h:True:=by first | exact .inl rfl | exact .inr rfl | assumption):True:=h
def zr:=zAzr._auto_1
def zAjp (h:True:=by intro _;rfl):True:=h
def jp:=zAjp._auto_1
def zAke (h:True:=by intros;rfl):True:=h
def ke:=zAke._auto_1
def zAkf (h:True:=by first | exact Or.inl rfl | exact Or.inr rfl):True:=h
def kf:=zAkf._auto_1
def zAkm (h:True:=by symm):True:=h
def km:=zAkm._auto_1
def zAkn (h:True:=by with_unfolding_all rfl):True:=h
def kn:=zAkn._auto_1
def zAkt (h:True:=by intro _ _;rfl):True:=h
def kt:=zAkt._auto_1
open PySem.W (instObj methodObj Frag lookIn InstAt plainGet hasDictIn findIn handedIn plainGet_of findObj_own isFn plainOver takerIn set_plain makesIn typeIn emptyDict keepIn specialIn takesIn mroIn kitOne kitx_list kitx_dict callWith_K0 cellsFrom_some fnOf codeIn OpenLaw WalkO nsIn nsOkIn readsIn findCls notCls clsIn kitAny)
def jaa:=@if_neg
def jab:=@if_pos
def jac:=@PySem.wpAny_bind
def jad:=@List.length_map
def jae:=@congrArg
def jaf:=@decide_eq_false
def jag:=@decide_eq_true
def jah:=@List.mem_cons_of_mem
def jai:=@List.mem_cons_self
def jaj:=@Nat.le_refl
def jak:=@List.mem_cons
def jal:=@List.map_cons
def jam:=@PySem.Heap.lt_size
def jan:=@List.map_drop
def jao:=@List.getElem?_eq_some_iff
def jap:=@Nat.le_trans
def jaq:=@List.set_set
def jar:=@Bool.and_eq_true
def jas:=@PySem.wpAny_pure
def jat:=@PySem.Heap.get?_push_of_some
def jau:=@List.size_toArray
def jav:=@List.all_eq_true
def jaw:=@Option.some.inj
def jax:=@List.getElem?_map
def jay:=@List.length_drop
def jaz:=@List.getElem?_eq_getElem
def jaA:=@List.length_cons
def jaB:=@Nat.lt_of_lt_of_le
def jaC:=@List.append_assoc
def jaD:=@List.length_append
def jaE:=@List.mem_singleton
def jaF:=@List.getElem?_append_left
def jaG:=@decide_eq_true_eq
def jaH:=@Ne.symm
def jaI:=@List.getElem?_set_self
def jaJ:=@Bool.false_ne_true
def jaK:=@List.append_nil
def jaL:=@PySem.boot_len
def jaM:=@Nat.ne_of_lt
def jaN:=@PySem.wpAny_mono
def jaO:=@List.map_append
def jaP:=@PySem.Heap.get?_push_size
def jaQ:=@List.length_set
def jaR:=@List.mem_of_mem_drop
def jaS:=@Bool.false_xor
def jaT:=@Nat.zero_le
def jaU:=@List.mem_append
def jaV:=@PySem.Heap.get?_update_other
def jaW:=@List.mem_append_right
def jaX:=@List.mem_append_left
def jaY:=@List.mem_map
def jaZ:=@beq_iff_eq
def ja0:=@of_decide_eq_true
def ja1:=@decide_eq_decide
def ja2:=@List.drop_drop
def ja3:=@List.map_map
def ja4:=@PySem.sizeLine_eq
def ja5:=@List.getD_eq_getElem?_getD
def ja6:=@Nat.lt_irrefl
def ja7:=@List.getElem?_append_right
def ja8:=@List.cons_append
def ja9:=@Bool.true_and
def jba:=@PySem.wpAny_field
def jbb:=@List.not_mem_nil
def jbc:=@PySem.Paired.length
def jbd:=@List.mem_of_getElem?
def jbe:=@List.takeWhile_cons
def jbf:=@Bool.not_eq_true'
def jbg:=@Bool.false_and
def jbh:=@PyProof.Rows.boot_tuple
def jbi:=@Nat.le_of_lt
def jbj:=@PySem.call_meets
def jbk:=@PySem.W.mg_none_of
def jbl:=@of_decide_eq_false
def jbm:=@PySem.wpAny_loadPart_at
def jbn:=@PySem.wpAny_holding
def jbo:=@Nat.add_assoc
def jbp:=@List.flatten_cons
def jbq:=@PySem.W.kia_one
def jbr:=@Bool.or_eq_true
def jbs:=@List.all_cons
def jbt:=@List.all_map
def jbu:=@Array.getElem?_eq_some_iff
def jbv:=@List.drop_eq_getElem_cons
def jbw:=@List.take_of_length_le
def jbx:=@PySem.Heap.get?_update_self
def jby:=@PySem.StrLaws.glued_eq_join
def jbz:=@PySem.Obj.data_mapFields
def jbA:=@List.find?_cons
def jbB:=@PySem.typeIs_str
def jbC:=@List.replicate_succ
def jbD:=@List.pairwise_cons
def jbE:=@PySem.wpAny_truthy_bool
def jbF:=@List.lookup_cons
def jbG:=@List.any_cons
def jbH:=@Nat.le_of_eq
def jbI:=@Nat.not_lt
def jbJ:=@List.length_eq_zero_iff
def jbK:=@PySem.F.plainAttrs_str
def jbL:=@List.getElem?_set_ne
def jbM:=@List.filterMap_cons
def jbN:=@Int.emod_lt_of_pos
def jbO:=@PySem.PassesOwn.leaving
def jbP:=@List.nodup_cons
def jbQ:=@List.nil_append
def jbR:=@Int.emod_nonneg
def jbS:=@List.drop_zero
def jbT:=@PySem.wpAny_setField
def jbU:=@Nat.sub_self
def jbV:=@PySem.wpAny_call
def jbW:=@List.getElem?_replicate
def jbX:=@List.length_replicate
def jbY:=@List.length_singleton
def jbZ:=@List.getElem?_eq_none
def jb0:=@PySem.Obj.isFreed_of_fields
def jb1:=@PySem.mem_of_lookup
def jb2:=@List.getElem?_range
def jb3:=@List.contains_cons
def jb4:=@PySem.wpAny_newObj_type
def jb5:=@Nat.lt_succ_self
def jb6:=@PySem.wpAny_passesOwn
def jb7:=@Bool.true_xor
def jb8:=@Nat.add_sub_cancel_left
def jb9:=@decide_eq_false_iff_not
def jca:=@PySem.Calls.callWith_builtin
def jcb:=@List.find?_cons_of_neg
def jcc:=@PySem.W.methodCall_KW
def jcd:=@PySem.wpAny_isSubtype_exc
def jce:=@PySem.wpAny_Call_Name_kw
def jcf:=@PySem.W.callWith_K
def jcg:=@PySem.StrLaws.join_split
def jch:=@Nat.lt_succ_of_lt
def jci:=@List.length_take
def jcj:=@List.any_eq_true
def jck:=@Bool.eq_iff_iff
def jcl:=@PyProof.Rows.boot_isinstance
def jcm:=@PySem.Heap.size_push
def jcn:=@PySem.wpAny_standAt
def jco:=@Bool.false_or
def jcp:=@Classical.byContradiction
def jcq:=@Option.isSome_iff_exists
def jcr:=@PySem.Heap.size_after_update
def jcs:=@PySem.StrLaws.strSub_toList
def jct:=@List.takeWhile_prefix
def jcu:=@beq_eq_false_iff_ne
def jcv:=@Array.length_toList
def jcw:=@List.dropWhile_cons
def jcx:=@List.map_eq_nil_iff
def jcy:=@Array.append_assoc
def jcz:=@List.zip_cons_cons
def jcA:=@List.nodup_append
def jcB:=@List.drop_length
def jcC:=@PySem.wpAny_execs_nil
def jcD:=@List.length_nil
def jcE:=@beq_false_of_ne
def jcF:=@Nat.min_eq_left
def jcG:=@List.head?_drop
def jcH:=@PySem.PassesOwn.never
def jcI:=@List.take_append_of_le_length
def jcJ:=@List.mem_or_eq_of_mem_set
def jcK:=@List.filterMap_cons_some
def jcL:=@List.headD_eq_head?_getD
def jcM:=@PySem.wpAny_getItem_str_slice
def jcN:=@PySem.F.plainAttrs_list
def jcO:=@Option.map_eq_some_iff
def jcP:=@List.drop_eq_nil_of_le
def jcQ:=@List.find?_cons_of_pos
def jcR:=@List.cons_lt_cons_iff
def jcS:=@List.mem_iff_getElem?
def jcT:=@PySem.Calls.evalArgs_plain
def jcU:=@PySem.codeAny_call_builtin
def jcV:=@Int.toNat_of_nonneg
def jcW:=@PyProof.Rows.slot_tuple_getitem
def jcX:=@PyProof.Rows.callWith_type1
abbrev jcZ:=List (PySem.Addr×PySem.Obj)
abbrev jc0:=PySem.Value->PySem.Shared->Prop
abbrev jc1:=Array (Option PySem.Value)
abbrev jc2:=List PySem.Str
abbrev jc3:=List PySem.Value
abbrev jc4:=List PySem.Addr
abbrev jc5:=List PySem.Expr
abbrev jc6:=Option PySem.Addr
abbrev jc7:=Option PySem.Value
abbrev jc8:=List Nat
def M{α:Sort u}{a:α}:a=a:=.refl a
namespace L2
open PySem PySem.Spec PyProof.Rows
abbrev Key:=Sum Int Str
def vf:Key->Value->Bool
 |.inl k,v=>Value.isInt k v
 |.inr x,v=>Value.isStrOf x v
def a4e (w:World):Key->Int
 |.inl k=>hashInt k
 |.inr x=>hashStr w x
theorem bL:∀{k:Key}{v:Value},vf k v=true->(∃i t,k=Sum.inl i/\v=Value.int i t)\/(∃x t,k=Sum.inr x/\v=Value.str x t)
 |.inl i,v,h=>by
  obtain⟨t,e⟩:=Value.isInt_shape (k:=i) (v:=v) h;exact .inl ⟨i,t,M,e⟩
 |.inr x,v,h=>by
  obtain⟨t,e⟩:=Value.isStrOf_shape (x:=x) (v:=v) h;exact .inr ⟨x,t,M,e⟩
def G8 (i:Int)(t:Tok):vf (.inl i) (.int i t)=true:=by simp[vf,Value.isInt]
def G7 (x:Str)(t:Tok):vf (.inr x) (.str x t)=true:=by simp[vf,Value.isStrOf]
def WU (a b:Int):decide ((Sum.inl a:Key)=Sum.inl b)=(a==b):=by
 by_cases e:a=b
 .subst e;simp
 .have h:¬(Sum.inl a:Key)=Sum.inl b:=λq=>e (Sum.inl.inj q);rw[jaf h];exact(jcu.mpr e).symm
def WR (a b:Str):decide ((Sum.inr a:Key)=Sum.inr b)=decide (a=b):=by
 by_cases e:a=b
 .subst e;simp
 .have h:¬(Sum.inr a:Key)=Sum.inr b:=λq=>e (Sum.inr.inj q);rw[jaf h,jaf e]
def WT (a:Int)(b:Str):decide ((Sum.inl a:Key)=Sum.inr b)=false:=jaf (λq=>nomatch q)
def WS (a:Str)(b:Int):decide ((Sum.inr a:Key)=Sum.inl b)=false:=jaf (λq=>nomatch q)
def bG (prog:Program)(w:World):PySem.KeyKind prog w Key where
 is:=vf
 hash:=a4e w
 inj:=λv a b ha hb=>by
  rcases bL ha with⟨i,t,rfl,rfl⟩ | ⟨x,t,rfl,rfl⟩
  .rcases bL hb with⟨j,u,rfl,e⟩ | ⟨y,u,rfl,e⟩
   .injection e with e1 _;rw[e1]
   .exact nomatch e
  .rcases bL hb with⟨j,u,rfl,e⟩ | ⟨y,u,rfl,e⟩
   .exact nomatch e
   .injection e with e1 _;rw[e1]
 byValue:=λk v h=>by
  rcases bL h with⟨i,t,rfl,rfl⟩ | ⟨x,t,rfl,rfl⟩<;>rfl
 pyHash:=λhv h=>by
  rcases bL hv with⟨i,t,rfl,rfl⟩ | ⟨x,t,rfl,rfl⟩
  .exact wpAny_pyHash_int h
  .exact wpAny_pyHash_str h
 eqBool:=λhu hv h=>by
  rcases bL hu with⟨i,t,rfl,rfl⟩ | ⟨x,t,rfl,rfl⟩
  .rcases bL hv with⟨j,u,rfl,rfl⟩ | ⟨y,u,rfl,rfl⟩
   .rw[WU] at h;exact wpAny_eqBool_int h
   .rw[WT] at h;exact SeqAt.EqAt.int_str i t y u _ _ _ _ h
  .rcases bL hv with⟨j,u,rfl,rfl⟩ | ⟨y,u,rfl,rfl⟩
   .rw[WS] at h;exact SeqAt.EqAt.str_int x t j u _ _ _ _ h
   .rw[WR] at h;exact wpAny_eqBool_str h
 «strs»:=λk x t v h=>by
  rcases bL h with⟨i,u,rfl,e⟩ | ⟨y,u,rfl,e⟩
  .exact nomatch e
  .injection e with e1 _
   subst e1;cases v<;>rfl
def A4 (prog:Program)(w:World)(i:Int)(t:Tok):(bG prog w).is (.inl i) (.int i t)=true:=G8 i t
def A3 (prog:Program)(w:World)(x:Str)(t:Tok):(bG prog w).is (.inr x) (.str x t)=true:=G7 x t
inductive V where
 |ck | bl (b:Bool) | int (i:Int) | str (x:Str) | HQ (b:Array UInt8) | sn (x:Str) | ref (a:Addr) | ty (n:String)
 deriving DecidableEq
def RelV:V->Value->Prop
 |.ck,u=>u=Value.none
 |.bl b,u=>u=Value.bool b
 |.int i,u=>∃t,u=Value.int i t
 |.str x,u=>∃t,u=Value.str x t
 |.HQ b,u=>∃t,u=Value.bytes b t
 |.sn x,u=>∃t,t≠0/\u=Value.str x t
 |.ref a,u=>u=Value.ref a
 |.ty n,u=>u=Value.type n
abbrev Vals:List V->jc3->Prop:=Paired RelV
def HC (x:V):Prop:=match x with | .sn _=>False | _=>True
def Vals.length {xs:List V}{us:jc3}(r:Vals xs us):xs.length=us.length:=jbc r
theorem Vals.get:∀{xs:List V}{us:jc3}{i:Nat}{x:V},Vals xs us->xs[i]?=some x->∃u,us[i]?=some u/\RelV x u
 |_,_,_,_,.nil,e=>by simp at e
 |_,_,0,_,.cons r _,e=>by simp at e;subst e;exact⟨_,M,r⟩
 |_,_,i+1,x,.cons _ t,e=>by
  obtain⟨u,h1,h2⟩:=Vals.get (i:=i) (x:=x) t (by simpa using e);exact⟨u,by simpa using h1,h2⟩
theorem Vals.set {x:V}{u:Value}(r:RelV x u):∀{xs:List V}{us:jc3}(i:Nat),Vals xs us->Vals (xs.set i x) (us.set i u)
 |_,_,_,.nil=>.nil
 |_,_,0,.cons _ t=>.cons r t
 |_,_,i+1,.cons q t=>.cons q (Vals.set r i t)
theorem Vals.append:∀{xs ys:List V}{us ws:jc3},Vals xs us->Vals ys ws->Vals (xs++ys) (us++ws)
 |_,_,_,_,.nil,s=>s
 |_,_,_,_,.cons r t,s=>.cons r (Vals.append t s)
theorem Vals.take:∀{xs:List V}{us:jc3}(n:Nat),Vals xs us->Vals (xs.take n) (us.take n)
 |_,_,0,_=>.nil
 |_,_,_+1,.nil=>.nil
 |_,_,n+1,.cons r t=>.cons r (Vals.take n t)
theorem Vals.drop:∀{xs:List V}{us:jc3}(n:Nat),Vals xs us->Vals (xs.drop n) (us.drop n)
 |_,_,0,r=>r
 |_,_,_+1,.nil=>.nil
 |_,_,n+1,.cons _ t=>Vals.drop n t
def iY:Option V->jc7->Prop
 |some v,some u=>RelV v u
 |none,none=>True
 |_,_=>False
def KV {κ:Type}:List (κ×V)->List (κ×Value)->Prop:=Paired λ(p:κ×V) (q:κ×Value)=>p.1=q.1/\RelV p.2 q.2
def kV:Key->V
 |.inl i=>.int i
 |.inr x=>.str x
inductive HO where
 |lst (xs:List V)
 |tup (xs:List V)
 |dK (kvs:List (Key×V)) | dT (kvs:List (List Key×V))
 |set (S:Int->Bool) (n:Nat)
 |ins (C dx:Addr) (fs:List (Str×V))
 |own (x:Addr)
 |xd (fs:List (Str×V))
 |met (f x:Addr)
 |rng (lo hi:Int)
 |qC (o:Obj) (u:HO)
 |RI (ps:Array Value)
 |ext (φ:Heap->Prop)
abbrev Hp:=Addr->Option HO
def upd (H:Hp)(a:Addr)(o:HO):Hp:=λb=>if b=a then some o else H b
def cE {H:Hp}{a:Addr}{o:HO}:upd H a o a=some o:=by unfold upd;rw[jab rfl]
def aE {H:Hp}{a b:Addr}{o:HO}(h:b≠a):upd H a o b=H b:=by unfold upd;rw[jaa h]
def A0 {H:Hp}{a b:Addr}{o u:HO}(h:H a=some o)(h':H b=some u)(d:o≠u):a≠b:=by
 intro e;subst e;rw[h] at h';exact d (jaw h')
def aQ {H:Hp}{a b:Addr}{o:HO}(h:H a=some o)(h':H b=none):a≠b:=by
 intro e;subst e;rw[h] at h';cases h'
section
variable (P:Program)(w:World)
def bB (H:Hp)(h:Heap)(a:Addr):HO->Prop
 |.lst xs=>xs.length<=sizeLine/\∃(AC:jc3)(n:Nat),Vals xs AC/\h.get? a=some {cls:=.type "list",data:=.seq AC.toArray n }
 |.tup xs=>xs.length<=sizeLine/\∃AC:jc3,Vals xs AC/\IsTup h a AC.toArray
 |.dK kvs=>kvs.length<=sizeLine/\(a==sysModules)=false/\∃vs,KV kvs vs/\h.DictOf (bG P w) a vs
 |.dT kvs=>kvs.length<=sizeLine/\(a==sysModules)=false/\∃xs:List (List Key×Addr×Value),
   Paired (λ(p:List Key×V) (q:List Key×Addr×Value)=>p.1=q.1/\H q.2.1=some (.tup (p.1.map kV))/\RelV p.2 q.2.2) kvs xs/\
   ∃o es ep,h.get? a=some o/\o.ExactDict/\o.data=.dict es ep/\es.toList=xs.map (entryOfKey (tupleKind (bG P w)))/\(xs.map (·.1)).Nodup
 |.set S n=>h.SetOf (intKind P w) a S n
 |.ins C dx fs=>H dx=some (.own a)/\fs.length<=1000/\dx≠a/\h.get? a=some (instObj C dx)/\
   ∃mA,h.Ns1 dx mA/\(∀f,iY (fs.lookup f) (mA f))/\PySem.Within mA (fs.map (·.1))
 |.own _=>∃o,h.get? a=some o
 |.xd fs=>∃mA,h.Ns1 a mA/\∀f,iY (fs.lookup f) (mA f)
 |.rng lo hi=>∃t u v,h.get? a=some {cls:=.type "range",data:=.fields #[.int lo t,.int hi u,.int 1 v] }
 |.qC o u=>h.get? a=some o/\bB H h a u
 |.RI ps=>h.get? a=some {cls:=.none,data:=.fields ps }
 |.met f x=>h.get? a=some (methodObj (.ref f) (.ref x))
 |.ext φ=>φ h/\(∃o,h.get? a=some o)/\∀h1 h2:Heap,φ h1->(∀o,h1.get? a=some o->h2.get? a=some o)->φ h2
def iZ (H:Hp)(h:Heap):Prop:=∀a o,H a=some o->bB P w H h a o
end
section
variable {P:Program}{w:World}{H H':Hp}{h h':Heap}{a:Addr}{o:HO}
def bB.lt (x:bB P w H h a o):a<h.objs.size:=by
 cases o with
 |lst xs=>obtain⟨_,_,_,_,e⟩:=x;exact jam e
 |tup xs=>obtain⟨_,_,_,p⟩:=x;exact p.lt
 |dK kvs=>obtain⟨_,_,_,_,o,_,_,e,_⟩:=x;exact jam e
 |dT kvs=>obtain⟨_,_,_,_,o,_,_,e,_⟩:=x;exact jam e
 |set S n=>obtain⟨o,_,_,_,e,_⟩:=x;exact jam e
 |ins C dx fs=>obtain⟨_,_,_,e,_⟩:=x;exact jam e
 |own y=>obtain⟨_,e⟩:=x;exact jam e
 |xd fs=>obtain⟨_,⟨_,_,_,e,_⟩,_⟩:=x;exact jam e
 |rng lo hi=>obtain⟨_,_,_,e⟩:=x;exact jam e
 |qC ob u=>obtain⟨e,_⟩:=x;exact jam e
 |RI ps=>exact jam (show h.get? a=some _ from x)
 |met f y=>exact jam (show h.get? a=some _ from x)
 |ext φ=>obtain⟨_,⟨_,e⟩,_⟩:=x;exact jam e
theorem Paired.WG {α β:Type}{F G:α->β->Prop}:∀{l₁:List α}{l₂:List β},Paired F l₁ l₂->(∀a b,F a b->G a b)->Paired G l₁ l₂
 |_,_,.nil,_=>.nil
 |_,_,.cons r t,f=>.cons (f _ _ r) (Paired.WG t f)
theorem bB.stay (x:bB P w H h a o)(k:∀b u,(b=a\/H b=some (.own a))->h.get? b=some u->h'.get? b=some u)
  (ho:∀b,H b=some (.own a)->H' b=some (.own a)) (ht:∀b xs,H b=some (.tup xs)->H' b=some (.tup xs)):bB P w H' h' a o:=by
 induction o with
 |lst xs=>obtain⟨z,AC,n,r,e⟩:=x;exact⟨z,AC,n,r,k _ _ (.inl M) e⟩
 |tup xs=>obtain⟨z,AC,r,ob,e,c⟩:=x;exact⟨z,AC,r,ob,k _ _ (.inl M) e,c⟩
 |dK kvs=>obtain⟨z,y,vs,r,ob,es,ep,e,c⟩:=x;exact⟨z,y,vs,r,ob,es,ep,k _ _ (.inl M) e,c⟩
 |dT kvs=>
  obtain⟨z,y,xs,r,ob,es,ep,e,c⟩:=x;exact⟨z,y,xs,Paired.WG r λp q z=>⟨z.1,ht _ _ z.2.1,z.2.2⟩,ob,es,ep,k _ _ (.inl M) e,c⟩
 |set S n=>obtain⟨ob,es,ep,t,e,c⟩:=x;exact⟨ob,es,ep,t,k _ _ (.inl M) e,c⟩
 |ins C dx fs=>
  obtain⟨d,z,ne,e,mA,⟨od,es,ep,e2,c⟩,r⟩:=x;exact⟨ho _ d,z,ne,k _ _ (.inl M) e,mA,⟨od,es,ep,k _ _ (.inr d) e2,c⟩,r⟩
 |own y=>obtain⟨ob,e⟩:=x;exact⟨ob,k _ _ (.inl M) e⟩
 |xd fs=>obtain⟨mA,⟨od,es,ep,e,c⟩,r⟩:=x;exact⟨mA,⟨od,es,ep,k _ _ (.inl M) e,c⟩,r⟩
 |rng lo hi=>obtain⟨t,u,v,e⟩:=x;exact⟨t,u,v,k _ _ (.inl M) e⟩
 |qC ob u ih=>obtain⟨e,q⟩:=x;exact⟨k _ _ (.inl M) e,ih q⟩
 |RI ps=>
  have e:h.get? a=some {cls:=.none,data:=.fields ps }:=x;show h'.get? a=some {cls:=.none,data:=.fields ps };exact k a _ (.inl M) e
 |met f y=>
  have e:h.get? a=some (methodObj (.ref f) (.ref y)):=x;show h'.get? a=some (methodObj (.ref f) (.ref y));exact k a _ (.inl M) e
 |ext φ=>obtain⟨p,⟨o,e⟩,st⟩:=x;exact⟨st _ _ p λo q=>k _ _ (.inl M) q,⟨o,k _ _ (.inl M) e⟩,st⟩
def iZ.lt (x:iZ P w H h)(e:H a=some o):a<h.objs.size:=(x a o e).lt
def iZ.fresh (x:iZ P w H h)(e:h.objs.size<=a):H a=none:=by
 cases q:H a with
 |none=>rfl
 |some u=>exact absurd (jaB (x.lt q) e) (ja6 _)
theorem iZ.kept (x:iZ P w H h)(k:∀b u,h.get? b=some u->h'.get? b=some u):iZ P w H h':=λa o e=>
 (x a o e).stay (λb u _ q=>k b u q) (λ_ q=>q) λ_ _ q=>q
theorem iZ.laid (x:iZ P w H h)(k:∀b u,h.get? b=some u->h'.get? b=some u)(hp:h.objs.size<=a)(new:bB P w (upd H a o) h' a o):iZ P w (upd H a o) h':=λb u e=>by
 have hn:=x.fresh hp;by_cases hb:b=a
 .subst hb;rw[cE] at e;cases e;exact new
 .rw[aE hb] at e;exact(x b u e).stay (λc v _ q=>k c v q) (λc q=>by rw[aE (aQ q hn)];exact q) λc xs q=>by rw[aE (aQ q hn)];exact q
end
def Rd (H:Hp)(a:Addr)(u:HO):Prop:=H a=some u\/∃o,H a=some (.qC o u)
theorem Rd.ok {P:Program}{w:World}{H:Hp}{h:Heap}{a:Addr}{u:HO}(r:Rd H a u)(x:iZ P w H h):bB P w H h a u:=by
 rcases r with r | ⟨o,r⟩
 .exact x a u r
 .obtain⟨_,q⟩:=x a _ r;exact q
def YA:Option HO->Prop
 |some (.lst _)=>True
 |some (.dK _)=>True
 |some (.dT _)=>True
 |some (.set _ _)=>True
 |some (.ins _ _ _)=>True
 |some (.ext _)=>True
 |_=>False
section
variable {P:Program}{w:World}{H:Hp}{h h':Heap}{x e:Addr}{o':HO}
theorem iZ.write (ok:iZ P w H h)(mu:YA (H x))(he:e=x\/H e=some (.own x))(k:∀b u,b≠e->h.get? b=some u->h'.get? b=some u)(Yn:∃u,h'.get? e=some u)
  (new:bB P w (upd H x o') h' x o'):iZ P w (upd H x o') h':=λb u q=>by
 have a0C:∀c y,H c=some (.own y)->c≠x:=λc y r z=>by subst z;rw[r] at mu;exact mu
 have a3W:∀c xs,H c=some (.tup xs)->c≠x:=λc xs r z=>by subst z;rw[r] at mu;exact mu
 by_cases hb:b=x
 .subst hb;rw[cE] at q;cases q;exact new
 .rw[aE hb] at q;by_cases Xc:b=e
  .have q':H b=some (.own x):=by
    rcases he with z | z
    .exact absurd (Xc.trans z) hb
    .rw[Xc];exact z
   rw[q] at q';cases q';obtain⟨v,hv⟩:=Yn;exact⟨v,by rw[Xc];exact hv⟩
  .refine(ok b u q).stay (λc v hc r=>k c v ?_ r) (λc r=>by rw[aE (a0C c b r)];exact r) λc xs r=>by rw[aE (a3W c xs r)];exact r
   rcases hc with rfl | hc
   .exact Xc
   .rintro rfl;rcases he with z | z
    .exact a0C c b hc z
    .rw[hc] at z;cases z;exact hb rfl
end
structure Un (fs ex:List Addr)(H H':Hp)(h h':Heap):Prop where
 keep:∀b o,h.get? b=some o->H b=none->b∉fs->b∉ex->h'.get? b=some o
 slot:∀b o,h.get? b=some o->H b=none->b∈fs->b∉ex->∃sl,h'.get? b=some {o with slots:=sl }
 free:∀b o,h.get? b=some o->H b=none->b∉ex->H' b=none
 there:∀b o,h.get? b=some o->b∉ex->∃o',h'.get? b=some o'
 tups:∀b xs,H b=some (.tup xs)->H' b=some (.tup xs)
 jR:∀b o u,H b=some (.qC o u)->H' b=some (.qC o u)
 jW:∀b ps,H b=some (.RI ps)->∃more,H' b=some (.RI (ps++more))
section
variable {fs fs' ex ex':jc4}{H H1 H2:Hp}{h h1 h2 h':Heap}{a x e:Addr}{o:HO}
def Un.any (u:Un fs ex H H1 h h1){b:Addr}{ob:Obj}(q:h.get? b=some ob)(n:H b=none)(hx:b∉ex):∃sl,h1.get? b=some {ob with slots:=sl }:=by
 by_cases hb:b∈fs
 .exact u.slot b ob q n hb hx
 .exact⟨ob.slots,u.keep b ob q n hb hx⟩
theorem Un.kept (k:∀b u,h.get? b=some u->h'.get? b=some u):Un fs ex H H h h':=
 ⟨λb ob q _ _ _=>k b ob q,λb ob q _ _ _=>⟨ob.slots,k b ob q⟩,λ_ _ _ n _=>n,λb ob q _=>⟨ob,k b ob q⟩,λ_ _ q=>q,λ_ _ _ q=>q,λ_ ps q=>⟨#[],by rw[q];simp⟩⟩
def Un.refl:Un fs ex H H h h:=Un.kept λ_ _ q=>q
theorem Un.laid (k:∀b u,h.get? b=some u->h'.get? b=some u)(hp:h.objs.size<=a)(hn:H a=none):Un fs ex H (upd H a o) h h' where
 keep:=λb u q _ _ _=>k b u q
 slot:=λb u q _ _ _=>⟨u.slots,k b u q⟩
 free:=λb u q n _=>by rw[aE (jaM (jaB (jam q) hp))];exact n
 there:=λb u q _=>⟨u,k b u q⟩
 tups:=λb xs q=>by rw[aE (aQ q hn)];exact q
 jR:=λb u xs q=>by rw[aE (aQ q hn)];exact q
 jW:=λb ps q=>⟨#[],by rw[aE (aQ q hn),q];simp⟩
def Un.write (mu:YA (H x))(he:e=x\/H e=some (.own x))(k:∀b u,b≠e->h.get? b=some u->h'.get? b=some u)(Yn:∃u,h'.get? e=some u):Un fs ex H (upd H x o) h h':=by
 have hx:∀b,H b=none->b≠x:=λb n z=>by subst z;rw[n] at mu;exact mu
 have hb:∀b,H b=none->b≠e:=λb n z=>by
  subst z;rcases he with r | r
  .exact hx b n r
  .rw[n] at r;cases r
 have hm:∀b u,H b=some u->¬ YA (some u)->b≠x:=λb u q nm z=>by subst z;rw[q] at mu;exact nm mu
 refine⟨λb u q n _ _=>k b u (hb b n) q,λb u q n _ _=>⟨u.slots,k b u (hb b n) q⟩,λb u q n _=>by rw[aE (hx b n)];exact n,λb u q _=>?_,
  λb xs q=>by rw[aE (hm b _ q λz=>z)];exact q,λb u xs q=>by rw[aE (hm b _ q λz=>z)];exact q,λb ps q=>⟨#[],by rw[aE (hm b _ q λz=>z),q];simp⟩⟩
 by_cases Xc:b=e
 .subst Xc;exact Yn
 .exact⟨u,k b u Xc q⟩
end
def trk (h:Heap)(H:Hp):jc4:=(List.range h.objs.size).filter λa=>(H a).isSome
def zl (h:Heap)(H:Hp):Heap:=PySem.W.hideAll h (trk h H)
def Hs (h:Heap)(H:Hp):(zl h H).objs.size=h.objs.size:=PySem.W.hideAll_size _ _
theorem My {h:Heap}{H:Hp}{b:Addr}{o:Obj}(e:h.get? b=some o)(n:H b=none):(zl h H).get? b=some o:=
 PySem.W.hideAll_get _ e λhm=>by
  have q:(H b).isSome=true:=(List.mem_filter.mp hm).2;rw[n] at q;simp at q
def Qd {h:Heap}{H:Hp}{b:Addr}{o:Obj}(e:(zl h H).get? b=some o):h.get? b=some o/\H b=none:=by
 have e':h.get? b=some o:=PySem.W.of_hideAll (trk h H) e;refine⟨e',?_⟩;cases q:H b with
 |none=>rfl
 |some x=>
  have hm:b∈trk h H:=List.mem_filter.mpr ⟨List.mem_range.mpr (jam e'),by simp[q]⟩;have z:(zl h H).get? b=none:=PySem.W.hideAll_none (trk h H) hm;rw[z] at e;cases e
structure Mod (K:Frag)(mg:Str->Option Value)(base:Heap):Prop where
 NN:K.In base
 glob:base.Ns mainGlobals mg
 blt:∃mb,base.Ns builtinsNs mb/\∀x:Str,x≠"__name__"->mb x=bootBuiltins x
 nolimit:base.NoLimit
structure Cx where
 prog:Program
 w:World
 K:Frag
 mg:Str->Option Value
 base:Heap
 A:Around
 N:List Str
 s₀:Shared
 H₀:Hp
 env:Env
 outer:List Env
 stack:List Env
 ex:List Addr
 fn:Str->Bool
 calm:Bool
 pn:List (Addr×Obj)
 xe:Value->Shared->Prop
def frs (l:List Env):jc4:=l.filterMap (·.frame)
abbrev Cx.fs (X:Cx):jc4:=frs X.outer
def X4 (sc:Scope)(x:Str):Prop:=sc.names.lookup x=some .local\/sc.names.lookup x=some .cell\/sc.names.lookup x=some .free
def Loc (sc:Scope)(x:Str):Prop:=sc.names.lookup x=some .local\/sc.names.lookup x=some .cell
def Look (env:Env)(h:Heap)(m:Str->jc7)(x:Str)(u:Value):Prop:=
 (env.kindOf x=some .local/\m x=some u)\/((env.kindOf x=some .cell\/env.kindOf x=some .free)/\∃c,env.cells.lookup x=some c/\h.IsCell c (some u))
structure Cx.Ok (X:Cx):Prop where
 mod:Mod X.K X.mg X.base
 kind:X.env.scope.kind=.function
 glob:X.env.globals=mainGlobals
 blt:X.env.builtins=builtinsNs
 above:X.s₀.heap.objs.size<=X.env.locals
 inj:∀x y c,X.env.cells.lookup x=some c->X.env.cells.lookup y=some c->x=y
 has:∀x,(X.env.kindOf x=some .cell\/X.env.kindOf x=some .free)->∃c,X.env.cells.lookup x=some c
 TN:∀x c,X.fn x=true->X.env.cells.lookup x=some c->X.s₀.heap.objs.size<=c
 hd:X.calm=true->X.A.handled=none
 frames:X.A.frames=some X.stack
 stk:X.stack=X.outer\/(X.stack=X.env::X.outer/\X.env.frame=some X.env.locals)
 Xo:∀b∈X.ex,b≠X.env.locals/\∀x c,X.env.cells.lookup x=some c->c≠b
 bs:∀b o,X.base.get? b=some o->X.s₀.heap.get? b=some o/\X.H₀ b=none
 Hz:X.base.objs.size<=X.s₀.heap.objs.size
 AY:∀b o,X.base.get? b=some o->b∉X.ex
 Bg:∀b∈X.ex,b∉X.fs
 nB:X.s₀.heap.FunFrames X.base X.outer
 NS:∀b∈X.fs,X.H₀ b=none
structure Inv (X:Cx)(vy:List (Addr×Obj))(U:List (Option V))(H:Hp)(s:Shared):Prop where
 ok:X.Ok
 os:s.os=X.s₀.os
 bare:AllBare s.gens
 base:Un X.fs X.ex X.H₀ H X.s₀.heap s.heap
 loc:∃m,s.heap.Ns X.env.locals m/\∀(i:Nat)(x:Str)(v:V),X.N[i]?=some x->U[i]?=some (some v)->X4 X.env.scope x->∃u,RelV v u/\Look X.env s.heap m x u
 cell:∀x c,X.env.cells.lookup x=some c->∃v,s.heap.IsCell c v
 free:H X.env.locals=none
 fR:∀x c,X.env.cells.lookup x=some c->H c=none
 pin:∀p∈X.pn++vy,s.heap.get? p.1=some p.2/\H p.1=none/\p.1≠X.env.locals/\p.1∉X.fs/\∀v,p.2.data≠.cell v
 hok:iZ X.prog X.w H s.heap
 len:U.length=X.N.length
section
variable {X:Cx}{vy:jcZ}{U:List (Option V)}{H H':Hp}{s:Shared}{h':Heap}
theorem Cx.Ok.a3X (ok:X.Ok){b:Addr}{o:Obj}(e:X.base.get? b=some o):b∉X.fs:=λhb=>by
 have:=(ok.nB.mem hb).1;rw[e] at this;cases this
theorem Inv.bs (I:Inv X vy U H s):∀b o,X.base.get? b=some o->s.heap.get? b=some o/\H b=none:=λb o e=>
 ⟨I.base.keep b o (I.ok.bs b o e).1 (I.ok.bs b o e).2 (I.ok.a3X e) (I.ok.AY b o e),I.base.free b o (I.ok.bs b o e).1 (I.ok.bs b o e).2 (I.ok.AY b o e)⟩
def Inv.bk (I:Inv X vy U H s):∀b o,X.base.get? b=some o->s.heap.get? b=some o:=λb o e=>(I.bs b o e).1
def Inv.mod (I:Inv X vy U H s):Mod X.K X.mg X.base:=I.ok.mod
def Inv.ig (I:Inv X vy U H s):X.K.In s.heap:=I.ok.mod.NN.keeps I.bk
theorem Inv.fr (I:Inv X vy U H s):∃m,Fr X.base X.env.locals s.heap m:=
 let⟨m,hn,_⟩:=I.loc
 ⟨m,hn,I.bk,jap I.ok.Hz I.ok.above⟩
def Inv.lt (I:Inv X vy U H s):X.env.locals<s.heap.objs.size:=let⟨_,hn,_⟩:=I.loc;hn.lt
def Inv.sz (I:Inv X vy U H s):X.s₀.heap.objs.size<=s.heap.objs.size:=jap I.ok.above (jbi I.lt)
theorem Inv.a0D (I:Inv X vy U H s){a:Addr}(h:s.heap.objs.size<=a):a∉X.fs:=λhb=>by
 obtain⟨_,o,ho,_⟩:=I.ok.nB.mem hb;exact absurd (jaB (jam ho) (jap I.sz h)) (ja6 _)
theorem Inv.TF (I:Inv X vy U H s):∀x c,X.env.cells.lookup x=some c->c≠X.env.locals:=λx c e z=>by
 obtain⟨v,o,ho,hd⟩:=I.cell x c e;obtain⟨m,⟨o',es,ep,ho',hd',_⟩,_⟩:=I.loc;rw[z,ho'] at ho;cases ho;rw[hd'] at hd;cases hd
def Inv.nB (I:Inv X vy U H s):s.heap.FunFrames X.base X.outer:=by
 have all:∀(l:List Env),(∀b∈frs l,b∈X.fs)->X.s₀.heap.FunFrames X.base l->s.heap.FunFrames X.base l:=by
  intro l
  induction l with
  |nil=>intro _ _;trivial
  |cons env r ih=>
   intro hs hl;obtain⟨hk,⟨L,o,hf,hn,ho,hd⟩,hr⟩:=hl;have hL:L∈X.fs:=hs L (by unfold frs;rw[jbM,hf];exact jai);obtain⟨sl,e⟩:=I.base.slot L o ho (I.ok.NS L hL) hL λz=>I.ok.Bg L z hL;exact⟨hk,⟨L,_,hf,hn,e,hd⟩,ih (λb hb=>hs b (by unfold frs;rw[jbM,hf];exact jah _ hb)) hr⟩
 exact all X.outer (λ_ hb=>hb) I.ok.nB
def Inv.stack (I:Inv X vy U H s):s.heap.FunFrames X.base X.stack:=by
 rcases I.ok.stk with e | ⟨e,hf⟩
 .rw[e];exact I.nB
 .rw[e];obtain⟨m,hn,_⟩:=I.loc;refine .cons (by rw[I.ok.kind];decide) hf hn ?_ I.nB;exact Heap.get?_none_of_le (jap I.ok.Hz I.ok.above)
theorem Inv.xX (I:Inv X vy U H s):∀b∈frs X.stack,b∈X.env.locals::X.fs:=λb hb=>by
 rcases I.ok.stk with e | ⟨e,hf⟩
 .rw[e] at hb;exact jah _ hb
 .rw[e] at hb;unfold frs at hb;rw[jbM,hf] at hb;exact hb
theorem Inv.kO (I:Inv X vy U H s):∀b∈frs X.stack,H b=none:=λb hb=>by
 rcases jak.mp (I.xX b hb) with e | hb
 .rw[e];exact I.free
 .obtain⟨_,o,ho,_⟩:=I.ok.nB.mem hb;exact I.base.free b o ho (I.ok.NS b hb) λz=>I.ok.Bg b z hb
theorem Inv.step {g':Array GenState}{t':Nat}{d':Drawn}{ch:jc4}(I:Inv X vy U H s)
  (hch:∀b∈ch,(b∈X.ex\/X.s₀.heap.objs.size<=b)/\b≠X.env.locals/\(∀x c,X.env.cells.lookup x=some c->c≠b)/\∀p∈X.pn++vy,p.1≠b)
  (keep:∀b o,b≠X.env.locals->b∉X.fs->b∉ch->s.heap.get? b=some o->H b=none->h'.get? b=some o)
  (slot:∀b o,b≠X.env.locals->b∈X.fs->b∉ch->s.heap.get? b=some o->H b=none->∃sl,h'.get? b=some {o with slots:=sl }) (free:∀b o,b∉ch->s.heap.get? b=some o->H b=none->H' b=none)
  (there:∀b o,b∉ch->s.heap.get? b=some o->∃o',h'.get? b=some o')
  (tups:∀b xs,H b=some (.tup xs)->H' b=some (.tup xs)) (jR:∀b o u,H b=some (.qC o u)->H' b=some (.qC o u)) (jW:∀b ps,H b=some (.RI ps)->∃more,H' b=some (.RI (ps++more)))
  (ns:∀m,s.heap.Ns X.env.locals m->h'.Ns X.env.locals m) (hok:iZ X.prog X.w H' h') (hg:AllBare g') :
  Inv X vy U H' {s with heap:=h',gens:=g',drawn:=d',toks:=t' }:=by
 have neL:∀b o,X.s₀.heap.get? b=some o->b≠X.env.locals:=λb o e=>jaM (jaB (jam e) I.ok.above);have neC:∀b o,X.s₀.heap.get? b=some o->b∉X.ex->b∉ch:=λb o e hx hb=>by
  rcases(hch b hb).1 with z | z
  .exact hx z
  .exact absurd (jaB (jam e) z) (ja6 _)
 have cellK:∀x c,X.env.cells.lookup x=some c->∀v,s.heap.IsCell c v->h'.IsCell c v:=(by
  rintro x c e v ⟨o,ho,hd⟩;have nch:c∉ch:=λz=>(hch c z).2.2.1 x c e rfl;by_cases hc:c∈X.fs
  .obtain⟨sl,q⟩:=slot c o (I.TF x c e) hc nch ho (I.fR x c e);exact⟨_,q,hd⟩
  .exact⟨o,keep c o (I.TF x c e) hc nch ho (I.fR x c e),hd⟩)
 refine⟨I.ok,I.os,hg,⟨λb o e n hb hx=>?_,λb o e n hb hx=>?_,λb o e n hx=>?_,λb o e hx=>?_,λb xs e=>tups b xs (I.base.tups b xs e),λb o xs e=>jR b o xs (I.base.jR b o xs e),λb ps e=>?_⟩,?_,λx c e=>?_,?_,λx c e=>?_,λp hp=>?_,hok,I.len⟩
 .exact keep b o (neL b o e) hb (neC b o e hx) (I.base.keep b o e n hb hx) (I.base.free b o e n hx)
 .obtain⟨sl,e1⟩:=I.base.slot b o e n hb hx;obtain⟨sl',e2⟩:=slot b _ (neL b o e) hb (neC b o e hx) e1 (I.base.free b o e n hx);exact⟨sl',e2⟩
 .obtain⟨o',e1⟩:=I.base.there b o e hx;exact free b o' (neC b o e hx) e1 (I.base.free b o e n hx)
 .obtain⟨o',e1⟩:=I.base.there b o e hx;exact there b o' (neC b o e hx) e1
 .obtain⟨m1,e1⟩:=I.base.jW b ps e;obtain⟨m2,e2⟩:=jW b _ e1;exact⟨m1++m2,by rw[e2,jcy]⟩
 .obtain⟨m,hn,hl⟩:=I.loc;refine⟨m,ns m hn,λi x v e1 e2 e3=>?_⟩;obtain⟨u,r,l⟩:=hl i x v e1 e2 e3;refine⟨u,r,?_⟩;rcases l with l | ⟨k,c,e,z⟩
  .exact .inl l
  .exact .inr ⟨k,c,e,cellK x c e _ z⟩
 .obtain⟨v,z⟩:=I.cell x c e;exact⟨v,cellK x c e v z⟩
 .obtain⟨m,⟨o,_,_,ho,_⟩,_⟩:=I.loc;exact free _ o (λz=>(hch _ z).2.1 M) ho I.free
 .obtain⟨v,o,ho,hd⟩:=I.cell x c e;exact free c o (λz=>(hch c z).2.2.1 x c e M) ho (I.fR x c e)
 .obtain⟨e,n,ne,nf,d⟩:=I.pin p hp;have nch:p.1∉ch:=λz=>(hch p.1 z).2.2.2 p hp rfl;exact⟨keep p.1 p.2 ne nf nch e n,free p.1 p.2 nch e n,ne,nf,d⟩
def Inv.un {t':Nat}(I:Inv X vy U H s)(u:Un X.fs [] H H' s.heap h')(hok:iZ X.prog X.w H' h'):Inv X vy U H' {s with heap:=h',toks:=t' }:=by
 obtain⟨m,⟨o,es,ep,ho,r⟩,_⟩:=id I.loc;obtain⟨sl,hL⟩:=u.any ho I.free (by simp);exact I.step (g':=s.gens) (d':=s.drawn) (ch:=[]) (λ_ z=>nomatch z) (λb o _ hb _ e n=>u.keep b o e n hb (by simp)) (λb o _ hb _ e n=>u.slot b o e n hb (by simp)) (λb o _ e n=>u.free b o e n (by simp)) (λb o _ e=>u.there b o e (by simp)) u.tups u.jR u.jW (λm' hm=>by
  obtain⟨o',es',Xq,ho',r'⟩:=hm;rw[ho] at ho';cases ho';exact⟨_,es',Xq,hL,r'⟩) hok I.bare
theorem Inv.call {g':Array GenState}{t':Nat}{d':Drawn}{ch:jc4}(I:Inv X vy U H s)(u:Un (frs X.stack) ch H H' s.heap h')(hok:iZ X.prog X.w H' h')(hg:AllBare g')
  (hch:∀b∈ch,(b∈X.ex\/X.s₀.heap.objs.size<=b)/\b≠X.env.locals/\(∀x c,X.env.cells.lookup x=some c->c≠b)/\∀p∈X.pn++vy,p.1≠b) :
  Inv X vy U H' {s with heap:=h',gens:=g',drawn:=d',toks:=t' }:=by
 obtain⟨m,⟨o,es,ep,ho,r⟩,_⟩:=id I.loc;obtain⟨sl,hL⟩:=u.any ho I.free λz=>(hch _ z).2.1 rfl;exact I.step (ch:=ch) hch (λb o hL hb hc e n=>u.keep b o e n (λz=>(jak.mp (I.xX b z)).elim hL hb) hc) (λb o _ _ hc e n=>u.any e n hc) (λb o hc e n=>u.free b o e n hc) (λb o hc e=>u.there b o e hc) u.tups u.jR u.jW (λm' hm=>by
  obtain⟨o',es',Xq,ho',r'⟩:=hm;rw[ho] at ho';cases ho';exact⟨_,es',Xq,hL,r'⟩) hok hg
theorem Inv.turned {t':Nat}{it:Addr}(I:Inv X vy U H s)(k:∀b o,b≠it->s.heap.get? b=some o->h'.get? b=some o)(hn:H it=none)(hL:it≠X.env.locals)
  (h1:it∈X.ex\/X.s₀.heap.objs.size<=it) (h2:∀x c,X.env.cells.lookup x=some c->c≠it) (h3:∀p∈X.pn++vy,p.1≠it):Inv X vy U H {s with heap:=h',toks:=t' }:=by
 have nit:∀b u,H b=some u->b≠it:=λb u e z=>by rw[z,hn] at e;cases e
 refine I.step (g':=s.gens) (d':=s.drawn) (ch:=[it]) (λb hb=>?_) (λb o _ _ hc e _=>k b o (λz=>hc (by simp[z])) e) (λb o _ _ hc e _=>⟨o.slots,k b o (λz=>hc (by simp[z])) e⟩) (λ_ _ _ _ n=>n)
  (λb o hc e=>⟨o,k b o (λz=>hc (by simp[z])) e⟩) (λ_ _ e=>e) (λ_ _ _ e=>e) (λb ps e=>⟨#[],by rw[e];simp⟩) (λm hm=>?_) (λb u e=>?_) I.bare
 .have e:b=it:=by simpa using hb
  subst e;exact⟨h1,hL,h2,h3⟩
 .obtain⟨o,es,ep,ho,r⟩:=hm;exact⟨o,es,ep,k _ o (jaH hL) ho,r⟩
 .refine(I.hok b u e).stay (λc v hc q=>k c v ?_ q) (λ_ q=>q) λ_ _ q=>q;rcases hc with z | z
  .rw[z];exact nit b u e
  .exact nit c _ z
def Inv.tok (I:Inv X vy U H s)(t:Nat):Inv X vy U H {s with toks:=t }:=I.un (h':=s.heap) (t':=t) Un.refl I.hok
def Inv.kept {t':Nat}(I:Inv X vy U H s)(k:∀b u,s.heap.get? b=some u->h'.get? b=some u):Inv X vy U H {s with heap:=h',toks:=t' }:=I.un (Un.kept k) (I.hok.kept k)
theorem Inv.laid {a:Addr}{o:HO}{t':Nat}(I:Inv X vy U H s)(k:∀b u,s.heap.get? b=some u->h'.get? b=some u)(hp:s.heap.objs.size<=a)(new:bB X.prog X.w (upd H a o) h' a o) :
  Inv X vy U (upd H a o) {s with heap:=h',toks:=t' }:=I.un (Un.laid k hp (I.hok.fresh hp)) (I.hok.laid k hp new)
theorem Inv.write {x e:Addr}{o:HO}{t':Nat}(I:Inv X vy U H s)(mu:YA (H x))(he:e=x\/H e=some (.own x))(k:∀b u,b≠e->s.heap.get? b=some u->h'.get? b=some u)(Yn:∃u,h'.get? e=some u)
  (new:bB X.prog X.w (upd H x o) h' x o):Inv X vy U (upd H x o) {s with heap:=h',toks:=t' }:=I.un (Un.write mu he k Yn) (I.hok.write mu he k Yn new)
theorem Inv.weak {U':List (Option V)}(I:Inv X vy U H s)(hl:U'.length=U.length)(w:∀(i:Nat) v,U'[i]?=some (some v)->U[i]?=some (some v)):Inv X vy U' H s:=
 ⟨I.ok,I.os,I.bare,I.base,let⟨m,hn,hl'⟩:=I.loc;⟨m,hn,λi x v e1 e2 e3=>hl' i x v e1 (w i v e2) e3⟩,I.cell,I.free,I.fR,I.pin,I.hok,hl.trans I.len⟩
theorem Inv.tW {jI:jcZ}(I:Inv X vy U H s)(h:∀p∈jI,s.heap.get? p.1=some p.2/\H p.1=none/\p.1≠X.env.locals/\p.1∉X.fs/\∀v,p.2.data≠.cell v):Inv X jI U H s:=
 ⟨I.ok,I.os,I.bare,I.base,I.loc,I.cell,I.free,I.fR,λp hp=>(jaU.mp hp).elim (λz=>I.pin p (jaX _ z)) (h p),I.hok,I.len⟩
def AZ {N:jc2}(hN:N.Nodup){i j:Nat}{x:Str}(a:N[i]?=some x)(b:N[j]?=some x):i=j:=by
 obtain⟨h1,e1⟩:=jao.mp a;obtain⟨h2,e2⟩:=jao.mp b;exact(List.getElem_inj hN).mp (e1.trans e2.symm)
theorem wU {jcY:Model}{A:Around}{E:jc0}{i:Nat}{x:Str}{v:V}{u:Value}{Q:Unit->Shared->Prop}(I:Inv X vy U H s)(hN:X.N.Nodup)(hi:X.N[i]?=some x)(hx:Loc X.env.scope x)(r:RelV v u)
  (h:∀s',Inv X vy (U.set i (some v)) H s'->(∃a,Heap.SameBut a s.heap s'.heap/\(a=X.env.locals\/X.env.cells.lookup x=some a))->Q () s') (hf:autoParam (X.fn x=true\/X.env.scope.names.lookup x=some .local) zr):wpAny jcY A (storeName X.env x u) Q E s:=by
 obtain⟨m,hn,hl⟩:=id I.loc;have hcls:(X.env.scope.kind ==.class||(X.env.scope.kind ==.module&&X.env.locals !=X.env.globals))=false:=by rw[I.ok.kind];rfl
 have hiσ:i<U.length:=by rw[I.len];exact(jao.mp hi).1
 have TF:=I.TF;have tracked:∀{a:Addr}{h':Heap},(∃o,s.heap.get? a=some o/\H a=none)->Heap.SameBut a s.heap h'->iZ X.prog X.w H h':=λ{a h'} ha hs b ob e=>by
  obtain⟨_,_,hfree⟩:=ha;refine(I.hok b ob e).stay (λc w' hc q=>(hs.2 c ?_).trans q) (λ_ q=>q) λ_ _ q=>q;rintro rfl;rcases hc with rfl | hc
  .rw[hfree] at e;cases e
  .rw[hfree] at hc;cases hc
 rcases hx with hk | hk
 .refine wpAny_storeName_local hk hn (λh' hn' hs=>?_) hcls;obtain⟨oL,_,_,hoL,_⟩:=id hn;refine h _ ⟨I.ok,I.os,I.bare,⟨λb o e n hb hx=>?_,λb o e n hb hx=>?_,I.base.free,λb o e hx=>?_,I.base.tups,I.base.jR,I.base.jW⟩,⟨_,hn',λj y v' e1 e2 e3=>?_⟩,λy c e=>?_,I.free,I.fR,λp hp=>?_,tracked ⟨oL,hoL,I.free⟩ hs,by simpa using I.len⟩ ⟨_,hs,.inl M⟩
  .exact(hs.2 b (jaM (jaB (jam e) I.ok.above))).trans (I.base.keep b o e n hb hx)
  .obtain⟨sl,e1⟩:=I.base.slot b o e n hb hx;exact⟨sl,(hs.2 b (jaM (jaB (jam e) I.ok.above))).trans e1⟩
  .obtain⟨o',e1⟩:=I.base.there b o e hx;exact⟨o',(hs.2 b (jaM (jaB (jam e) I.ok.above))).trans e1⟩
  .by_cases hj:j=i
   .subst hj;rw[hi] at e1;cases e1;rw[jaI hiσ] at e2;cases e2;exact⟨u,r,.inl ⟨hk,by simp⟩⟩
   .rw[jbL (jaH hj)] at e2;obtain⟨u',r',q⟩:=hl j y v' e1 e2 e3;refine⟨u',r',?_⟩;rcases q with⟨k,e⟩ | ⟨k,c,e,z⟩
    .refine .inl ⟨k,?_⟩;have:y≠x:=λe=>hj (AZ hN e1 (e ▸ hi));simp[this,e]
    .exact .inr ⟨k,c,e,z.sameBut hs (TF y c e)⟩
  .obtain⟨w',z⟩:=I.cell y c e;exact⟨w',z.sameBut hs (TF y c e)⟩
  .obtain⟨e,n,ne,nf,d⟩:=I.pin p hp;exact⟨(hs.2 p.1 ne).trans e,n,ne,nf,d⟩
 .have hfn:X.fn x=true:=by
   rcases hf with z | z
   .exact z
   .rw[z] at hk;cases hk
  obtain⟨c,hc⟩:=I.ok.has x (.inl hk);obtain⟨w',z⟩:=I.cell x c hc;refine wpAny_storeName_cell I.ok.kind hk hc z (λh' hc' hs=>?_);obtain⟨oc,hoc,a4z⟩:=id z;refine h {s with heap:=h' } ⟨I.ok,I.os,I.bare,⟨λb o e n hb hx=>?_,λb o e n hb hx=>?_,I.base.free,λb o e hx=>?_,I.base.tups,I.base.jR,I.base.jW⟩,⟨m,hn.sameBut hs (jaH (TF x c hc)),λj y v' e1 e2 e3=>?_⟩,λy c' e=>?_,I.free,I.fR,λp hp=>?_,tracked ⟨oc,hoc,I.fR x c hc⟩ hs,by simpa using I.len⟩ ⟨c,hs,.inr hc⟩
  .exact(hs.2 b (jaM (jaB (jam e) (I.ok.TN x c hfn hc)))).trans (I.base.keep b o e n hb hx)
  .obtain⟨sl,e1⟩:=I.base.slot b o e n hb hx;exact⟨sl,(hs.2 b (jaM (jaB (jam e) (I.ok.TN x c hfn hc)))).trans e1⟩
  .obtain⟨o',e1⟩:=I.base.there b o e hx;exact⟨o',(hs.2 b (jaM (jaB (jam e) (I.ok.TN x c hfn hc)))).trans e1⟩
  .by_cases hj:j=i
   .subst hj;rw[hi] at e1;cases e1;rw[jaI hiσ] at e2;cases e2;exact⟨u,r,.inr ⟨.inl hk,c,hc,hc'⟩⟩
   .rw[jbL (jaH hj)] at e2;obtain⟨u',r',q⟩:=hl j y v' e1 e2 e3;refine⟨u',r',?_⟩;rcases q with q | ⟨k,c',e,z'⟩
    .exact .inl q
    .refine .inr ⟨k,c',e,z'.sameBut hs ?_⟩;rintro rfl;exact hj (AZ hN e1 (I.ok.inj _ _ _ e hc ▸ hi))
  .by_cases hcc:c'=c
   .subst hcc;exact⟨_,hc'⟩
   .obtain⟨w2,z2⟩:=I.cell y c' e;exact⟨w2,z2.sameBut hs hcc⟩
  .obtain⟨e,n,ne,nf,d⟩:=I.pin p hp;refine⟨(hs.2 p.1 ?_).trans e,n,ne,nf,d⟩;intro q;rw[q,hoc] at e;have q':oc=p.2:=jaw e;exact d w' (by rw[<- q'];exact a4z)
theorem jX {jcY:Model}{A:Around}{E:jc0}{i:Nat}{x:Str}{v:V}{u:Value}{Q:Unit->Shared->Prop}(I:Inv X vy U H s)(hN:X.N.Nodup)(hi:X.N[i]?=some x)(hx:Loc X.env.scope x)(r:RelV v u)
  (h:∀s',Inv X vy (U.set i (some v)) H s'->Q () s') (hf:autoParam (X.fn x=true\/X.env.scope.names.lookup x=some .local) zr):wpAny jcY A (storeName X.env x u) Q E s:=
 wU I hN hi hx r (λs' I' _=>h s' I') hf
theorem Inv.TL {s':Shared}{ch:jc4}(I:Inv X vy U H s)(ho:s'.os=s.os)(u:Un (frs X.stack) ch H H' s.heap s'.heap)(hok:iZ X.prog X.w H' s'.heap)(hg:AllBare s'.gens)
  (hch:∀b∈ch,(b∈X.ex\/X.s₀.heap.objs.size<=b)/\b≠X.env.locals/\(∀x c,X.env.cells.lookup x=some c->c≠b)/\∀p∈X.pn++vy,p.1≠b):Inv X vy U H' s':=by
 obtain⟨h',g',d',t',o'⟩:=s';have e:o'=s.os:=ho;subst e;exact I.call (g':=g') (t':=t') (d':=d') u hok hg hch
end
abbrev XK:=Value->jc6->Hp->Prop
abbrev St:=List (Option V)
abbrev VK:=V->Hp->Prop
abbrev TE:=St->Hp->VK->Prop
abbrev TT:=St->Hp->(Bool->Hp->Prop)->Prop
abbrev TA:=St->Hp->(List V->Hp->Prop)->Prop
structure Ends where
 nx:St->Hp->Prop
 rt:VK
 bk:St->Hp->Prop:=λ_ _=>False
 ct:St->Hp->Prop:=λ_ _=>False
abbrev TS:=Ends->St->Hp->Prop
def EP (X:Cx)(vy:jcZ)(U:St)(Q:VK)(u:Value)(s':Shared):Prop:=∃v H',Inv X vy U H' s'/\RelV v u/\Q v H'
def TP (X:Cx)(vy:jcZ)(U:St)(Q:Bool->Hp->Prop)(b:Bool)(s':Shared):Prop:=∃H',Inv X vy U H' s'/\Q b H'
def AP (X:Cx)(vy:jcZ)(U:St)(Q:List V->Hp->Prop)(us:jc3)(s':Shared):Prop:=∃vs H',Inv X vy U H' s'/\Vals vs us/\Q vs H'
def SP (X:Cx)(vy:jcZ)(D:Ends)(f:Flow)(s':Shared):Prop:=
 match f with
 |.next=>∃U' H',Inv X vy U' H' s'/\D.nx U' H'
 |.brk=>∃U' H',Inv X vy U' H' s'/\D.bk U' H'
 |.cont=>∃U' H',Inv X vy U' H' s'/\D.ct U' H'
 |.ret u=>∃v U' H',Inv X vy U' H' s'/\RelV v u/\D.rt v H'
def PE (X:Cx)(e:Expr)(t:TE):Prop:=
 ∀(vy:jcZ) (s:Shared) (U:St) (H:Hp) (Q:VK),Inv X vy U H s->t U H Q->wpAny (model X.prog X.w) X.A (eval e X.env) (EP X vy U Q) X.xe s
def PT (X:Cx)(e:Expr)(t:TT):Prop:=
 ∀(vy:jcZ) (s:Shared) (U:St) (H:Hp) (Q:Bool->Hp->Prop),Inv X vy U H s->t U H Q->wpAny (model X.prog X.w) X.A (isTrue e X.env (eval e X.env)) (TP X vy U Q) X.xe s
def PW (X:Cx)(e:Expr)(t:TT):Prop:=
 ∀(whole:Sem Value)(vy:jcZ) (s:Shared) (U:St) (H:Hp) (Q:Bool->Hp->Prop),Inv X vy U H s->t U H Q->wpAny (model X.prog X.w) X.A (isTrue e X.env whole) (TP X vy U Q) X.xe s
def PW.pt {X:Cx}{e:Expr}{t:TT}(h:PW X e t):PT X e t:=h _
def PA (X:Cx)(es:jc5)(t:TA):Prop:=
 ∀(pos:Pos)(vy:jcZ) (s:Shared) (U:St) (H:Hp) (Q:List V->Hp->Prop),Inv X vy U H s->t U H Q->wpAny (model X.prog X.w) X.A (spliced (backTo pos (starEach es X.env))) (AP X vy U Q) X.xe s
def PS (X:Cx)(st:Stmt)(t:TS):Prop:=
 ∀(vy:jcZ) (s:Shared) (U:St) (H:Hp) (D:Ends),Inv X vy U H s->t D U H->wpAny (model X.prog X.w) X.A (exec st X.env) (SP X vy D) X.xe s
def b5 (X:Cx)(st:List Stmt)(t:TS):Prop:=
 ∀(vy:jcZ) (s:Shared) (U:St) (H:Hp) (D:Ends),Inv X vy U H s->t D U H->wpAny (model X.prog X.w) X.A (execs st X.env) (SP X vy D) X.xe s
def bu {α:Type}{t:Sem α}{Q Q':α->Shared->Prop}{jcY:Model}{A:Around}{E:jc0}{s:Shared}(h:wpAny jcY A t Q E s)(hQ:∀a s,Q a s->Q' a s):wpAny jcY A t Q' E s:=jaN h hQ λ_ _ x=>x
section
variable {X:Cx}
def YQ (i:Nat):TE:=λU H Q=>∃v,U[i]?=some (some v)/\Q v H
def tC (v:V):TE:=λ_ H Q=>Q v H
def KW {i:Nat}{x:Str}{pos:Pos}(hN:X.N[i]?=some x)(hv:X4 X.env.scope x)(hd:autoParam ((x==("__debug__":Str))=false) zn)(hcd:autoParam ((x==("__classdict__":Str))=false) zn):PE X (.Name x pos) (YQ i):=by
 intro vy s U H Q I h;obtain⟨v,e,h⟩:=h;obtain⟨m,hn,hl⟩:=I.loc;obtain⟨u,r,l⟩:=hl i x v hN e hv;have fin:EP X vy U Q u s:=⟨v,H,I,r,h⟩
 rcases l with⟨hk,hm⟩ | ⟨hk,c,hc,hcell⟩
 .exact wpAny_Name (wpAny_loadName_local I.ok.kind hk hn hm fin) hd
 .rcases hk with hk | hk
  .exact wpAny_Name (wpAny_loadName_cell I.ok.kind hk hc hcell fin) hd
  .exact wpAny_Name (wpAny_loadName_free I.ok.kind hk hc hcell fin hcd) hd
def KZ {i j pos}:PE X (.Constant (.int i) j pos) (tC (.int i)):=λ_ _ _ H _ I h=>wpAny_Constant_int ⟨.int i,H,I.tok _,⟨_,M⟩,h⟩
def a0l {b j pos}:PE X (.Constant (.bool b) j pos) (tC (.bl b)):=λ_ _ _ H _ I h=>Constant_bool ⟨.bl b,H,I,M,h⟩
def Wa {j pos}:PE X (.Constant .none j pos) (tC .ck):=λ_ _ _ H _ I h=>Constant_none ⟨.ck,H,I,M,h⟩
def CO {x j pos}:PE X (.Constant (.str x) j pos) (tC (.str x)):=λ_ _ _ H _ I h=>Calls.Constant_str ⟨.str x,H,I.tok _,⟨_,M⟩,h⟩
def Gl (X:Cx)(x:Str):Prop:=X.env.kindOf x=some .globalImplicit
theorem jq {E:jc0}{vy:jcZ}{s:Shared}{U:St}{H:Hp}{x:Str}{u:Value}{pos:Pos}{Q:jc0}(I:Inv X vy U H s)(hg:Gl X x)(hm:X.mg x=some u)(h:Q u s)
  (hd:autoParam ((x==("__debug__":Str))=false) zn):wpAny (model X.prog X.w) X.A (eval (.Name x pos) X.env) Q E s:=
 Calls.Name_function_global I.ok.kind hg (Calls.loadGlobal_global (by rw[I.ok.glob];exact I.mod.glob.keeps I.bk) hm h) hd
theorem qu {E:jc0}{vy:jcZ}{s:Shared}{U:St}{H:Hp}{x:Str}{u:Value}{pos:Pos}{Q:jc0}(I:Inv X vy U H s)(hg:Gl X x)(hm:X.mg x=none)(hv:bootBuiltins x=some u)(h:Q u s)
  (hn:autoParam (x≠"__name__") zn) (hd:autoParam ((x==("__debug__":Str))=false) zn):wpAny (model X.prog X.w) X.A (eval (.Name x pos) X.env) Q E s:=by
 obtain⟨mb,h1,h2⟩:=I.mod.blt;exact Calls.Name_function_global I.ok.kind hg (Calls.loadGlobal_builtin (by rw[I.ok.glob];exact I.mod.glob.keeps I.bk) hm (by rw[I.ok.blt];exact h1.keeps I.bk) ((h2 x hn).trans hv) h) hd
theorem dm {x:Str}{v:V}{u:Value}{pos:Pos}(hg:Gl X x)(hm:X.mg x=some u)(r:RelV v u)(hd:autoParam ((x==("__debug__":Str))=false) zn):PE X (.Name x pos) (tC v):=
 λ_ _ _ H _ I h=>jq I hg hm ⟨v,H,I,r,h⟩ hd
theorem EW {x:Str}{v:V}{u:Value}{pos:Pos}(hg:Gl X x)(hm:X.mg x=none)(hv:bootBuiltins x=some u)(r:RelV v u)(hn:autoParam (x≠"__name__") zn)(hd:autoParam ((x==("__debug__":Str))=false) zn):PE X (.Name x pos) (tC v):=
 λ_ _ _ H _ I h=>qu I hg hm hv ⟨v,H,I,r,h⟩ hn hd
variable {a b:Expr}{ta tb:TE}{pos:Pos}
def tB (t:TE):TT:=λU H Q=>t U H λx H1=>∃c,x=.bl c/\Q c H1
def VJ {e:Expr}{t:TE}(h:PE X e t)(he:autoParam (∀whole,isTrue e X.env whole=(do let v <- whole;standAt e.pos;holding [v] (truthy v))) jp):PT X e (tB t):=by
 intro vy s U H Q I hw;refine isTrue_plain (bu (h vy s U H _ I hw) λv s1 ⟨x,H1,I1,r1,q1⟩=>?_) (he _);obtain⟨d,rfl,q⟩:=q1;cases r1;exact jbE ⟨H1,I1,q⟩
variable {tA tB':TT}{rest:jc5}
def a3j (t u:TT):TT:=λU H Q=>t U H λc H1=>if c=true then u U H1 Q else Q false H1
def tOr (t u:TT):TT:=λU H Q=>t U H λc H1=>if c=true then Q true H1 else u U H1 Q
def a3c (t:TT):TT:=λU H Q=>t U H λc H1=>Q (!c) H1
def O4 (ha:PT X a tA):PW X (.BoolOp .And [a] pos) tA:=by
 intro wh vy s U H Q I h;refine isTrue_and (bu (ha vy s U H Q I h) λc s1 e=>?_);cases c with
 |true=>exact isTrue_and_nil e
 |false=>exact e
def VH (ha:PT X a tA):PW X (.BoolOp .Or [a] pos) tA:=by
 intro wh vy s U H Q I h;refine isTrue_or (bu (ha vy s U H Q I h) λc s1 e=>?_);cases c with
 |false=>exact isTrue_or_nil e
 |true=>exact e
def VI (ha:PT X a tA)(hb:PW X (.BoolOp .And (b::rest) pos) tB'):PW X (.BoolOp .And (a::b::rest) pos) (a3j tA tB'):=by
 intro wh vy s U H Q I h;refine isTrue_and (bu (ha vy s U H _ I h) ?_);rintro c s1 ⟨H1,I1,q1⟩;cases c with
 |true=>exact hb wh vy s1 U H1 Q I1 q1
 |false=>exact⟨H1,I1,q1⟩
def Z9 (ha:PT X a tA)(hb:PW X (.BoolOp .Or (b::rest) pos) tB'):PW X (.BoolOp .Or (a::b::rest) pos) (tOr tA tB'):=by
 intro wh vy s U H Q I h;refine isTrue_or (bu (ha vy s U H _ I h) ?_);rintro c s1 ⟨H1,I1,q1⟩;cases c with
 |true=>exact⟨H1,I1,q1⟩
 |false=>exact hb wh vy s1 U H1 Q I1 q1
def VM (ha:PT X a tA):PT X (.UnaryOp .Not a pos) (a3c tA):=by
 intro vy s U H Q I h;exact isTrue_not (ha vy s U H (λc H1=>Q (!c) H1) I h)
def Zk (ta tb:TE):TE:=λU H Q=>ta U H λx H1=>∃c,x=.bl c/\if c=true then tb U H1 Q else Q (.bl false) H1
def a3b (ta tb:TE):TE:=λU H Q=>ta U H λx H1=>∃c,x=.bl c/\if c=true then Q (.bl true) H1 else tb U H1 Q
def YZ (ta:TE):TE:=λU H Q=>ta U H λx H1=>∃c,x=.bl c/\Q (.bl (!c)) H1
def V8 {op}{t:TE}(h:PE X a t):PE X (.BoolOp op [a] pos) t:=λvy s U H Q I hw=>BoolOp_one (h vy s U H Q I hw)
def We (ha:PE X a ta)(hb:PE X (.BoolOp .And (b::rest) pos) tb):PE X (.BoolOp .And (a::b::rest) pos) (Zk ta tb):=by
 intro vy s U H Q I h;refine BoolOp_and (bu (ha vy s U H _ I h) ?_);rintro v s1 ⟨x,H1,I1,r1,q1⟩;obtain⟨c,rfl,q1⟩:=q1;cases r1;refine jbE ?_;cases c with
 |true=>exact hb vy s1 U H1 Q I1 q1
 |false=>exact⟨.bl false,H1,I1,M,q1⟩
def a0h (ha:PE X a ta)(hb:PE X (.BoolOp .Or (b::rest) pos) tb):PE X (.BoolOp .Or (a::b::rest) pos) (a3b ta tb):=by
 intro vy s U H Q I h;refine BoolOp_or (bu (ha vy s U H _ I h) ?_);rintro v s1 ⟨x,H1,I1,r1,q1⟩;obtain⟨c,rfl,q1⟩:=q1;cases r1;refine jbE ?_;cases c with
 |false=>exact hb vy s1 U H1 Q I1 q1
 |true=>exact⟨.bl true,H1,I1,M,q1⟩
def V9 (ha:PE X a ta):PE X (.UnaryOp .Not a pos) (YZ ta):=by
 intro vy s U H Q I h;refine UnaryOp_ (bu (ha vy s U H _ I h) ?_);rintro v s1 ⟨x,H1,I1,r1,q1⟩;obtain⟨c,rfl,q1⟩:=q1;cases r1;exact not_of (jbE ⟨.bl (!c),H1,I1,M,q1⟩)
def tIf (t:TT)(ta tb:TE):TE:=λU H Q=>t U H λc H1=>if c=true then ta U H1 Q else tb U H1 Q
def K0 {c:Expr}(hc:PT X c tA)(ha:PE X a ta)(hb:PE X b tb):PE X (.IfExp c a b pos) (tIf tA ta tb):=by
 intro vy s U H Q I h;refine wpAny_IfExp (bu (hc vy s U H _ I h) ?_);rintro d s1 ⟨H1,I1,q1⟩;cases d with
 |true=>exact ha vy s1 U H1 Q I1 q1
 |false=>exact hb vy s1 U H1 Q I1 q1
end
def iG (K:Frag)(H:Hp)(a:Addr)(xs:List V):Prop:=
 Rd H a (.lst xs)\/
  ∃(o:Obj)(AC:Array Value)(n:Nat),K.lookup a=some o/\o.cls=.type "list"/\o.dict=none/\o.data=.seq AC n/\AC.size<=sizeLine/\Vals xs AC.toList/\∀x∈xs,HC x
def kL (K:Frag)(H:Hp)(a:Addr)(xs:List V):Prop:=
 Rd H a (.tup xs)\/
  ∃(o:Obj)(AC:Array Value)(n:Nat),K.lookup a=some o/\o.cls=.type "tuple"/\o.data=.seq AC n/\AC.size<=sizeLine/\Vals xs AC.toList/\∀x∈xs,HC x
def a5o:Value->Option V
 |.none=>some .ck
 |.bool b=>some (.bl b)
 |.int i _=>some (.int i)
 |.str x _=>some (.str x)
 |.bytes b _=>some (.HQ b)
 |.ref a=>some (.ref a)
 |.type n=>some (.ty n)
 |_=>none
def RelV.abs {x:V}{u:Value}(n:HC x)(r:RelV x u):a5o u=some x:=by
 cases x with
 |ck=>cases r;rfl
 |bl _=>cases r;rfl
 |int _=>obtain⟨t,rfl⟩:=r;rfl
 |str _=>obtain⟨t,rfl⟩:=r;rfl
 |HQ _=>obtain⟨t,rfl⟩:=r;rfl
 |sn _=>exact n.elim
 |ref _=>cases r;rfl
 |ty _=>cases r;rfl
theorem Vals.inj:∀{xs ys:List V}{us:jc3},(∀x∈xs,HC x)->(∀x∈ys,HC x)->Vals xs us->Vals ys us->xs=ys
 |_,_,_,_,_,.nil,.nil=>rfl
 |_,_,_,n,m,.cons r t,.cons r' t'=>by rw[jaw ((r.abs (n _ (jai ..))).symm.trans (r'.abs (m _ (jai ..)))),Vals.inj (λx h=>n x (jah _ h)) (λx h=>m x (jah _ h)) t t']
section
variable {X:Cx}{vy:jcZ}{U:St}{H:Hp}{s:Shared}{a:Addr}{xs ys:List V}
def iG.of {K:Frag}(h:H a=some (.lst xs)):iG K H a xs:=.inl (.inl h)
def kL.of {K:Frag}(h:H a=some (.tup xs)):kL K H a xs:=.inl (.inl h)
def Inv.list (I:Inv X vy U H s)(h:iG X.K H a xs):∃AC:jc3,Vals xs AC/\PlainL s.heap a AC.toArray/\xs.length<=sizeLine:=by
 rcases h with h | ⟨o,AC,n,hk,hc,hd,hs,hz,r,_⟩
 .obtain⟨z,AC,n,r,e⟩:=h.ok I.hok;exact⟨AC,r,⟨_,n,e,M,M,M⟩,z⟩
 .refine⟨AC.toList,r,⟨o,n,I.ig a o hk,hc,hd,by simpa using hs⟩,?_⟩;have e:=r.length;simp only[jcv] at e;omega
def Inv.tuple (I:Inv X vy U H s)(h:kL X.K H a xs):∃AC:jc3,Vals xs AC/\IsTup s.heap a AC.toArray/\xs.length<=sizeLine:=by
 rcases h with h | ⟨o,AC,n,hk,hc,hs,hz,r,_⟩
 .obtain⟨z,AC,r,p⟩:=h.ok I.hok;exact⟨AC,r,p,z⟩
 .refine⟨AC.toList,r,⟨o,I.ig a o hk,hc,n,by simpa using hs⟩,?_⟩;have e:=r.length;simp only[jcv] at e;omega
def Rd.uL (h:Rd H a (.lst xs))(h':Rd H a (.lst ys)):xs=ys:=by
 rcases h with h | ⟨o,h⟩<;>rcases h' with h' | ⟨o',h'⟩<;>rw[h] at h'<;>cases h'<;>rfl
def Rd.uT (h:Rd H a (.tup xs))(h':Rd H a (.tup ys)):xs=ys:=by
 rcases h with h | ⟨o,h⟩<;>rcases h' with h' | ⟨o',h'⟩<;>rw[h] at h'<;>cases h'<;>rfl
def Inv.noK (I:Inv X vy U H s){o:Obj}{u:HO}(h:X.K.lookup a=some o)(h':Rd H a u):False:=by
 have z:=(I.bs a o (I.ok.mod.NN a o h)).2;rcases h' with h' | ⟨o',h'⟩<;>rw[h'] at z<;>cases z
def Inv.LX (I:Inv X vy U H s)(h:iG X.K H a xs)(h':iG X.K H a ys):xs=ys:=by
 rcases h with h | ⟨o,AC,n,hk,_,_,hs,_,r,m⟩<;>rcases h' with h' | ⟨o',its',n',hk',_,_,hs',_,r',m'⟩
 .exact h.uL h'
 .exact(I.noK hk' h).elim
 .exact(I.noK hk h').elim
 .rw[hk] at hk';cases hk';rw[hs] at hs';cases hs';exact Vals.inj m m' r r'
def Inv.Gf (I:Inv X vy U H s)(h:kL X.K H a xs)(h':kL X.K H a ys):xs=ys:=by
 rcases h with h | ⟨o,AC,n,hk,_,hs,_,r,m⟩<;>rcases h' with h' | ⟨o',its',n',hk',_,hs',_,r',m'⟩
 .exact h.uT h'
 .exact(I.noK hk' h).elim
 .exact(I.noK hk h').elim
 .rw[hk] at hk';cases hk';rw[hs] at hs';cases hs';exact Vals.inj m m' r r'
end
noncomputable abbrev Cx.vY (X:Cx)(E:jc0):Cx:={X with xe:=E }
abbrev Cx.Yh (X:Cx):Cx:=X.vY λ_ _=>False
theorem Cx.Ok.vY {X:Cx}(ok:X.Ok)(E:jc0):(X.vY E).Ok:=
 ⟨ok.mod,ok.kind,ok.glob,ok.blt,ok.above,ok.inj,ok.has,ok.TN,ok.hd,ok.frames,ok.stk,ok.Xo,ok.bs,ok.Hz,ok.AY,ok.Bg,ok.nB,ok.NS⟩
theorem Cx.Ok.jV {X:Cx}{E:jc0}(ok:(X.vY E).Ok):X.Ok:=
 ⟨ok.mod,ok.kind,ok.glob,ok.blt,ok.above,ok.inj,ok.has,ok.TN,ok.hd,ok.frames,ok.stk,ok.Xo,ok.bs,ok.Hz,ok.AY,ok.Bg,ok.nB,ok.NS⟩
section
variable {X:Cx}{vy:jcZ}{U:St}{H:Hp}{s:Shared}{E:jc0}
def Inv.vY (I:Inv X vy U H s)(E:jc0):Inv (X.vY E) vy U H s:=⟨I.ok.vY E,I.os,I.bare,I.base,I.loc,I.cell,I.free,I.fR,I.pin,I.hok,I.len⟩
def Inv.jV (I:Inv (X.vY E) vy U H s):Inv X vy U H s:=⟨I.ok.jV,I.os,I.bare,I.base,I.loc,I.cell,I.free,I.fR,I.pin,I.hok,I.len⟩
def SP.jV {D:Ends}{f:Flow}{s':Shared}(h:SP (X.vY E) vy D f s'):SP X vy D f s':=by
 cases f with
 |next=>obtain⟨U',H',I,q⟩:=h;exact⟨U',H',I.jV,q⟩
 |brk=>obtain⟨U',H',I,q⟩:=h;exact⟨U',H',I.jV,q⟩
 |cont=>obtain⟨U',H',I,q⟩:=h;exact⟨U',H',I.jV,q⟩
 |ret u=>obtain⟨v,U',H',I,r,q⟩:=h;exact⟨v,U',H',I.jV,r,q⟩
theorem b5.Yh {st:List Stmt}{t:TS}(h:b5 X.Yh st t):b5 X st t:=λvy s U H D I hw=>
 jaN (h vy s U H D (I.vY _) hw) (λ_ _ q=>q.jV) λ_ _ z=>False.elim z
end
section
variable {X:Cx}{st:Stmt}{rest:List Stmt}{t u:TS}{e:Expr}{te:TE}{pos:Pos}
def Y5:TS:=λD U H=>D.nx U H
def YU (t u:TS):TS:=λD U H=>t {D with nx:=u D } U H
def O8:b5 X [] Y5:=λ_ _ U H _ I h=>jcC ⟨U,H,I,h⟩
def AN (h1:PS X st t)(h2:b5 X rest u):b5 X (st::rest) (YU t u):=by
 intro vy s U H D I h;refine wpAny_execs_cons (bu (h1 vy s U H {D with nx:=u D } I h) λf s1 q=>?_);cases f with
 |next=>
  obtain⟨U',H',I',q⟩:=q;exact h2 vy s1 U' H' D I' q
 |ret v=>exact q
 |brk=>exact q
 |cont=>exact q
def yR (h1:PS X st t):b5 X [st] t:=by
 intro vy s U H D I h;refine wpAny_execs_cons (bu (h1 vy s U H D I h) λf s1 q=>?_);cases f with
 |next=>exact jcC q
 |ret v=>exact q
 |brk=>exact q
 |cont=>exact q
def Inv.quiet {vy:jcZ}{U:St}{H:Hp}{s:Shared}(I:Inv X vy U H s):interactive X.env=false:=by simp[interactive,I.ok.kind]
def Zb (te:TE):TS:=λD U H=>te U H λ_ H1=>D.nx U H1
def yS (he:PE X e te)(hs:autoParam (swapsWith e none pos.line X.env=pure false) zi):PS X (.Expr e pos) (Zb te):=by
 intro vy s U H D I h;exact wpAny_Expr_any (bu (he vy s U H _ I h) (by rintro v s1 ⟨x,H1,I1,r1,q1⟩;exact⟨U,H1,I1,q1⟩)) I.quiet hs
def YV (te:TE):TS:=λD U H=>te U H D.rt
def VS (he:PE X e te):PS X (.Return (some e) pos) (YV te):=by
 intro vy s U H D I h;exact wpAny_Return_some (bu (he vy s U H _ I h) (by rintro v s1 ⟨x,H1,I1,r1,q1⟩;exact⟨x,U,H1,I1,r1,q1⟩))
def a3d (c:TT)(t u:TS):TS:=λD U H=>c U H λb H1=>if b=true then t D U H1 else u D U H1
def a0d {c:Expr}{a b:List Stmt}{tc:TT}(hc:PT X c tc)(ha:b5 X a t)(hb:b5 X b u):PS X (.If c a b pos) (a3d tc t u):=by
 intro vy s U H D I h;refine wpAny_If (bu (hc vy s U H _ I h) ?_);rintro d s1 ⟨H1,I1,q1⟩;cases d with
 |true=>exact ha vy s1 U H1 D I1 q1
 |false=>exact hb vy s1 U H1 D I1 q1
def UK:TS:=λ_ _ _=>False
def Gx {sts:List Stmt}:b5 X sts UK:=λ_ _ _ _ _ _ h=>h.elim
end
abbrev TG:=V->St->Hp->(St->Hp->Prop)->Prop
abbrev Nj:=List V->St->Hp->(St->Hp->Prop)->Prop
def PG (X:Cx)(target:Expr)(t:TG):Prop:=
 ∀(vy:jcZ) (s:Shared) (U:St) (H:Hp) (v:V) (u:Value) (Q:St->Hp->Prop),Inv X vy U H s->RelV v u->t v U H Q->
  wpAny (model X.prog X.w) X.A (assign target X.env u) (λ_ s'=>∃U' H',Inv X vy U' H' s'/\Q U' H') X.xe s
def T6 (X:Cx)(ts:jc5)(t:Nj):Prop:=
 ∀(vy:jcZ) (s:Shared) (U:St) (H:Hp) (vs:List V) (us:jc3) (Q:St->Hp->Prop),Inv X vy U H s->Vals vs us->t vs U H Q->
  wpAny (model X.prog X.w) X.A (assignInOrder ((assignEach ts X.env).map (·.2)) us) (λ_ s'=>∃U' H',Inv X vy U' H' s'/\Q U' H') X.xe s
abbrev Nh:=V->V->V->Hp->(Hp->Prop)->Prop
def X8 (X:Cx)(t:Nh):Prop:=
 ∀(vy:jcZ) (s:Shared) (U:St) (H:Hp) (o i v:V) (ov iv u:Value) (Q:Hp->Prop),Inv X vy U H s->RelV o ov->RelV i iv->RelV v u->t o i v H Q->
  wpAny (model X.prog X.w) X.A (setItem ov iv u) (λ_ s'=>∃H',Inv X vy U H' s'/\Q H') X.xe s
abbrev Yw:=V->V->Hp->VK->Prop
def PIp (X:Cx)(op:Operator)(t:Yw):Prop:=
 ∀(vy:jcZ) (s:Shared) (U:St) (H:Hp) (x y:V) (v u:Value) (Q:VK),Inv X vy U H s->RelV x v->RelV y u->t x y H Q->
  wpAny (model X.prog X.w) X.A (inplaceOp op v u) (EP X vy U Q) X.xe s
section
variable {X:Cx}{pos:Pos}
def Fp (i:Nat):TG:=λv U H Q=>Q (U.set i (some v)) H
def ET {i:Nat}{x:Str}(hN:X.N.Nodup)(hi:X.N[i]?=some x)(hx:Loc X.env.scope x)(hf:autoParam (X.fn x=true\/X.env.scope.names.lookup x=some .local) zr):PG X (.Name x pos) (Fp i):=by
 intro vy s U H v u Q I r h;exact wpAny_assign_Name (jX I hN hi hx r (λs' I'=>⟨_,H,I',h⟩) hf)
def a4Y:Nj:=λvs U H Q=>vs=[]/\Q U H
def a1r (t:TG)(u:Nj):Nj:=λvs U H Q=>∃v r,vs=v::r/\t v U H λU' H'=>u r U' H' Q
def Pn:T6 X [] a4Y:=by
 intro vy s U H vs us Q I r h;obtain⟨e,h⟩:=h;subst e;cases r;exact assignInOrder_nil ⟨U,H,I,h⟩
theorem KR {e:Expr}{es:jc5}{t:TG}{u:Nj}(h1:PG X e t)(h2:T6 X es u)
  (hs:autoParam ((assignEach (e::es) X.env).map (·.2)=assign e X.env::(assignEach es X.env).map (·.2)) zi):T6 X (e::es) (a1r t u):=by
 intro vy s U H vs us Q I r h;obtain⟨v,vr,e1,h⟩:=h;subst e1;cases r with
 |cons r rr=>
  rw[hs];refine assignInOrder_cons (bu (h1 vy s U H _ _ _ I r h) ?_);rintro _ s1 ⟨σ1,H1,I1,q1⟩;exact h2 vy s1 σ1 H1 _ _ Q I1 rr q1
def a4W (K:Frag)(n:Nat)(t:Nj):TG:=λv U H Q=>∃a xs,v=.ref a/\kL K H a xs/\xs.length=n/\t xs U H Q
theorem V4 {es:jc5}{k:Nat}{t:Nj}{n:Nat}(hc:X.calm=true)(h:T6 X es t)
  (hn:autoParam ((assignEach es X.env).length=n) zi) (hst:autoParam ((assignEach es X.env).findIdx? (·.1)=none) zi):PG X (.Tuple es k pos) (a4W X.K n t):=by
 intro vy s U H v u Q I r hw;obtain⟨a,xs,e1,hq,hl,hw⟩:=hw;subst e1;cases r;obtain⟨AC,rv,ht,hz⟩:=I.tuple hq;refine assign_Tuple_tuple (I.ok.hd hc) ht (by simp[hn,<- hl,rv.length]) hst λh' hx=>?_;have I1:Inv X vy U H {s with heap:=h' }:=I.kept (t':=s.toks) λb o e=>hx b o (jaM (jam e)) e;exact h vy _ U H xs _ Q I1 (by simpa using rv) hw
def a4X (to ti:TE)(t:Nh):TG:=λv U H Q=>to U H λo H1=>ti U H1 λi H2=>t o i v H2 λH3=>Q U H3
theorem V5 {o i:Expr}{to ti:TE}{t:Nh}(ho:PE X o to)(hi:PE X i ti)(hs:X8 X t)
  (ha:autoParam (∀v,assign (.Subscript o i pos) X.env v=(do
   let ov <- holding [v] (eval o X.env)
   let iv <- holding [v,ov] (eval i X.env)
   standAt pos
   holding [v,ov,iv] (setItem ov iv v)
   release [v,ov,iv] [])) jp):PG X (.Subscript o i pos) (a4X to ti t):=by
 intro vy s U H v u Q I r h;rw[ha];refine jac (jbn (bu (ho vy s U H _ I h) ?_));rintro ov s1 ⟨x,H1,I1,r1,q1⟩;refine jac (jbn (bu (hi vy s1 U H1 _ I1 q1) ?_));rintro iv s2 ⟨y,H2,I2,r2,q2⟩;refine jac (jcn (jac (jbn (bu (hs vy s2 U H2 x y v ov iv u _ I2 r1 r2 r q2) ?_))));rintro _ s3 ⟨H3,I3,q3⟩;exact wpAny_release ⟨U,H3,I3,q3⟩
def Oi (te:TE)(g:TG):TS:=λD U H=>te U H λx H1=>g x U H1 D.nx
theorem VX {tg e:Expr}{te:TE}{g:TG}(he:PE X e te)(hg:PG X tg g)(hs:autoParam (swapsWithSole [tg] e pos.line X.env=pure false) zi)(hw:autoParam (swappedStores [tg] e X.env=pure none) zi)
  (h1:autoParam ((assignEach [tg] X.env).map (·.2)=[assign tg X.env]) zi):PS X (.Assign [tg] e pos) (Oi te g):=by
 intro vy s U H D I h;refine wpAny_Assign_stores (bu (he vy s U H _ I h) λv s1 ⟨x,H1,I1,r1,q1⟩=>?_) hs hw;rw[h1];exact bu (hg vy s1 U H1 x v _ I1 r1 q1) λ_ s2 q=>q
theorem VR {i:Nat}{x:Str}{e:Expr}{te:TE}{pos':Pos}(hN:X.N.Nodup)(hi:X.N[i]?=some x)(hx:Loc X.env.scope x)(he:PE X e te)(hs:autoParam (swapsWith e (some (.Name x pos')) pos.line X.env=pure false) zi)(hf:autoParam (X.fn x=true\/X.env.scope.names.lookup x=some .local) zr) :
  PS X (.Assign [.Name x pos'] e pos) (Oi te (Fp i)):=by
 intro vy s U H D I h;refine wpAny_Assign_Name (bu (he vy s U H _ I h) λv s1 ⟨y,H1,I1,r1,q1⟩=>?_) hs;exact jX I1 hN hi hx r1 (λs2 I2=>⟨_,H1,I2,q1⟩) hf
def a3h (i:Nat)(te:TE)(ti:Yw):TS:=λD U H=>∃x,U[i]?=some (some x)/\te U H λy H1=>ti x y H1 λz H2=>D.nx (U.set i (some z)) H2
theorem VW {i:Nat}{x:Str}{e:Expr}{te:TE}{op:Operator}{ti:Yw}{pos':Pos}(hN:X.N.Nodup)(hi:X.N[i]?=some x)(hx:Loc X.env.scope x)(he:PE X e te)(ho:PIp X op ti)(hf:autoParam (X.fn x=true\/X.env.scope.names.lookup x=some .local) zr) :
  PS X (.AugAssign (.Name x pos') op e pos) (a3h i te ti):=by
 intro vy s U H D I h;obtain⟨v,e1,h⟩:=h;obtain⟨m,hn,hl⟩:=I.loc;have vis:X4 X.env.scope x:=by rcases hx with k | k;exact .inl k;exact .inr (.inl k)
 obtain⟨u,r,l⟩:=hl i x v hi e1 vis;refine wpAny_AugAssign_Name ?_;have go:wpAny (model X.prog X.w) X.A (eval e X.env) (λw s₂=>wpAny (model X.prog X.w) X.A (inplaceOp op u w) (λr s₃=>wpAny (model X.prog X.w) X.A (storeName X.env x r) (λ_=>SP X vy D .next) X.xe s₃) X.xe s₂) X.xe s:=by
  refine bu (he vy s U H _ I h) ?_;rintro w s1 ⟨y,H1,I1,r1,q1⟩;refine bu (ho vy s1 U H1 v y u w _ I1 r r1 q1) ?_;rintro z s2 ⟨zv,H2,I2,r2,q2⟩;exact jX I2 hN hi hx r2 (λs3 I3=>⟨_,H2,I3,q2⟩) hf
 rcases l with⟨hk,hm⟩ | ⟨hk,c,hc,hcell⟩
 .exact wpAny_loadName_local I.ok.kind hk hn hm go
 .rcases hk with hk | hk
  .exact wpAny_loadName_cell I.ok.kind hk hc hcell go
  .rcases hx with k | k
   .have:X.env.scope.names.lookup x=some .free:=hk;rw[k] at this;cases this
   .have:X.env.scope.names.lookup x=some .free:=hk;rw[k] at this;cases this
def Zh (to ti te:TE)(Oc:V->V->Hp->VK->Prop)(tip:Yw)(N9:Nh):TS:=λD U H=>to U H λo H1=>ti U H1 λi H2=>Oc o i H2 λx H3=>te U H3 λy H4=>tip x y H4 λz H5=>N9 o i z H5 λH6=>D.nx U H6
def a11 (X:Cx)(t:V->V->Hp->VK->Prop):Prop:=
 ∀(vy:jcZ) (s:Shared) (U:St) (H:Hp) (o i:V) (ov iv:Value) (Q:VK),Inv X vy U H s->RelV o ov->RelV i iv->t o i H Q->
  wpAny (model X.prog X.w) X.A (getItem ov iv) (EP X vy U Q) X.xe s
theorem Pd {o i e:Expr}{to ti te:TE}{Oc:V->V->Hp->VK->Prop}{tip:Yw}{N9:Nh}{op:Operator}{tpos:Pos}(ho:PE X o to)(hi:PE X i ti)(hg:a11 X Oc)(he:PE X e te)(hp:PIp X op tip)(hs:X8 X N9)
  (ha:autoParam (∀ov iv new,augStore i ov iv new=(do holding [new,ov,iv] (setItem ov iv new);release [new,ov,iv] [];pure .next)) ke):PS X (.AugAssign (.Subscript o i tpos) op e pos) (Zh to ti te Oc tip N9):=by
 intro vy s U H D I h;refine wpAny_AugAssign_SubscriptAny (bu (ho vy s U H _ I h) λov s1 ⟨x1,H1,I1,r1,q1⟩=>?_) ha;refine bu (hi vy s1 U H1 _ I1 q1) ?_;rintro iv s2 ⟨x2,H2,I2,r2,q2⟩;refine bu (hg vy s2 U H2 x1 x2 ov iv _ I2 r1 r2 q2) ?_;rintro old s3 ⟨x3,H3,I3,r3,q3⟩;refine bu (he vy s3 U H3 _ I3 q3) ?_;rintro v s4 ⟨x4,H4,I4,r4,q4⟩;refine bu (hp vy s4 U H4 x3 x4 old v _ I4 r3 r4 q4) ?_;rintro new s5 ⟨x5,H5,I5,r5,q5⟩;exact bu (hs vy s5 U H5 x1 x2 x5 ov iv new _ I5 r1 r2 r5 q5) (by rintro _ s6 ⟨H6,I6,q6⟩;exact⟨U,H6,I6,q6⟩)
def ipI (f:Int->Int->Int):Yw:=λx y H Q=>∃i j,x=.int i/\y=.int j/\Q (.int (f i j)) H
def Mp:PIp X .Add (ipI λi j=>i+j):=by
 intro vy s U H x y v u Q I r1 r2 h;obtain⟨i,j,e1,e2,q⟩:=h;subst e1;subst e2;obtain⟨t,rfl⟩:=r1;obtain⟨t',rfl⟩:=r2;exact iadd_int ⟨.int _,H,I.tok _,⟨_,M⟩,q⟩
end
section
variable {X:Cx}{pos:Pos}
def UG (c:TT)(tb:TS):TS:=λD U H=>∃W:Nat->St->Hp->Prop,(∃m,W m U H)/\∀m U H,W m U H->
 c U H λb H1=>if b=true then ∃N:St->Hp->Prop,(∀U' H',N U' H'->∃m',m' < m/\W m' U' H')/\tb {D with nx:=N,ct:=N,bk:=D.nx } U H1 else D.nx U H1
def KH {c:Expr}{body:List Stmt}{tc:TT}{tb:TS}(hp:PassesOwn (model X.prog X.w) X.A X.env X.xe)(hc:PT X c tc)(hb:b5 X body tb):PS X (.While c body [] pos) (UG tc tb):=by
 intro vy s U H D I h;obtain⟨W,⟨m0,w0⟩,turn⟩:=h;refine wpAny_While (codeAny_whileLoop (λn s'=>∃U' H',Inv X vy U' H' s'/\W n U' H') ?_ m0 ⟨U,H,I,w0⟩);rintro n s1 ⟨σ1,H1,I1,w1⟩;refine jb6 hp (bu (hc vy s1 σ1 H1 _ I1 (turn n σ1 H1 w1)) ?_);rintro b s2 ⟨H2,I2,q2⟩;cases b with
 |true=>
  obtain⟨N,hN,q2⟩:=q2;rw[jab rfl];refine jb6 hp (bu (hb vy s2 σ1 H2 _ I2 q2) λf s3 q3=>?_);cases f with
  |next=>
   obtain⟨σ3,H3,I3,n3⟩:=q3;obtain⟨m',hm,w3⟩:=hN σ3 H3 n3;exact⟨m',hm,σ3,H3,I3,w3⟩
  |cont=>
   obtain⟨σ3,H3,I3,n3⟩:=q3;obtain⟨m',hm,w3⟩:=hN σ3 H3 n3;exact⟨m',hm,σ3,H3,I3,w3⟩
  |brk=>exact q3
  |ret v=>exact q3
 |false=>
  rw[jaa jaJ];exact jcC ⟨σ1,H2,I2,q2⟩
end
structure It where
 go:Nat->Hp->Prop
 BX:Nat->Hp->V->Hp->Prop
 stop:Nat->Hp->Prop
def nG (X:Cx)(vy:jcZ)(H:Hp)(b:Addr):Prop:=
 H b=none/\b≠X.env.locals/\b∉X.fs/\(b∈X.ex\/X.s₀.heap.objs.size<=b)/\(∀x c,X.env.cells.lookup x=some c->c≠b)/\∀p∈X.pn++vy,p.1≠b
def Inv.Bd {X:Cx}{vy:jcZ}{U:St}{H H':Hp}{s:Shared}{b:Addr}(I:Inv X vy U H s)(hb:s.heap.objs.size<=b)(hn:H' b=none):nG X vy H' b:=by
 refine⟨hn,Nat.ne_of_gt (jaB I.lt hb),I.a0D hb,.inr (jap I.sz hb),λx c e z=>?_,λp hp z=>?_⟩
 .obtain⟨v,q⟩:=I.cell x c e;exact absurd (jaB q.lt (by rw[z];exact hb)) (ja6 _)
 .exact absurd (jaB (jam (I.pin p hp).1) (by rw[z];exact hb)) (ja6 _)
structure Turn (P:Program)(w:World)(K:Frag)(tg:Expr)(J:It)(fp:List Addr)(it:Addr)(tn:Nat->Heap->Prop):Prop where
 mem:it∈fp
 obj:∀i h,tn i h->∀b∈fp,∃o,h.get? b=some o/\∀v,o.data≠.cell v
 keep:∀i h h',tn i h->(∀b∈fp,∀o,h.get? b=some o->h'.get? b=some o)->tn i h'
 item:∀(X:Cx),X.prog=P->X.w=w->X.K=K->X.calm=true->∀(i:Nat)(vy:List (Addr×Obj)) (s:Shared) (U:St) (H:Hp) (E:Value->Shared->Prop),Inv X vy U H s->(∀b∈fp,nG X vy H b)->tn i s.heap->J.go i H->
  wpAny (model P w) X.A (pyNext (.ref it)) (λr s1=>∃u,r=some u/\
   wpAny (model P w) X.A (letOwnedTupleGo tg (.ref it) u) (λ_ s2=>∃x H',Inv X vy U H' s2/\RelV x u/\J.BX i H x H'/\tn (i+1) s2.heap/\∀b∈fp,H' b=none) E s1) E s
 done:∀(X:Cx),X.prog=P->X.w=w->X.K=K->X.calm=true->∀(i:Nat)(vy:List (Addr×Obj)) (s:Shared) (U:St) (H:Hp) (E:Value->Shared->Prop),Inv X vy U H s->(∀b∈fp,nG X vy H b)->tn i s.heap->J.stop i H->
  wpAny (model P w) X.A (pyNext (.ref it)) (λr s1=>r=none/\Inv X vy U H s1) E s
 self:∀(A:Around)(i:Nat)(s:Shared)(Q:Value->Shared->Prop)(E:Value->Shared->Prop),tn i s.heap->Q (.ref it) s->wpAny (model P w) A (pyIter (.ref it)) Q E s
abbrev TI:=St->Hp->(It->Hp->Prop)->Prop
def PIE (X:Cx)(vy:jcZ)(U:St)(tg:Expr)(R:It->Hp->Prop)(itv:Value)(s2:Shared):Prop:=
 ∃(it:Addr)(fp:jc4)(tn:Nat->Heap->Prop)(J:It)(H':Hp),itv=.ref it/\Inv X vy U H' s2/\Turn X.prog X.w X.K tg J fp it tn/\tn 0 s2.heap/\(∀b∈fp,nG X vy H' b)/\R J H'
def PI (X:Cx)(tg iter:Expr)(wi:TI):Prop:=
 ∀(vy:jcZ) (s:Shared) (U:St) (H:Hp) (R:It->Hp->Prop),Inv X vy U H s->wi U H R->
  wpAny (model X.prog X.w) X.A (eval iter X.env) (λv s1=>wpAny (model X.prog X.w) X.A (pyIter v) (PIE X vy U tg R) X.xe s1) X.xe s
theorem rP {jcY:Model}{A:Around}{E:jc0}{s:Shared}{tg:Expr}{it:Addr}{u:Value}{o:Obj}{n:String}{vs:Array Value}{Q:Unit->Shared->Prop}(ho:s.heap.get? it=some o)(hc:o.cls=.type n)(hd:o.data=.fields vs)
  (hn:["enumerate","zip","dict_itemiterator","dict_reverseitemiterator","odict_iterator","itertools.zip_longest","itertools.pairwise"].contains n=false) (hQ:Q () s):wpAny jcY A (letOwnedTupleGo tg (.ref it) u) Q E s:=by
 unfold letOwnedTupleGo;cases tg<;>first
  |exact jas hQ
  |(cases u<;>first
    |exact jas hQ
    |(
      refine jac (wpAny_load ho ?_);rw[hc,hd];show wpAny jcY A (if(["enumerate","zip","dict_itemiterator","dict_reverseitemiterator","odict_iterator","itertools.zip_longest","itertools.pairwise"].contains n&&vs[0]? ==some (rawInt _))=true then _ else _) Q E s;rw[jaa (by intro h;rw[hn,jbg] at h;cases h)];exact jas hQ))
def Itl (K:Frag)(a:Addr):It:=
 ⟨λi H=>∃xs x,iG K H a xs/\xs[i]?=some x,λi H x H'=>H'=H/\∀xs,iG K H a xs->xs[i]?=some x,λi H=>∃xs,iG K H a xs/\xs.length<=i⟩
def Itt (K:Frag)(a:Addr):It:=
 ⟨λi H=>∃xs x,kL K H a xs/\xs[i]?=some x,λi H x H'=>H'=H/\∀xs,kL K H a xs->xs[i]?=some x,λi H=>∃xs,kL K H a xs/\xs.length<=i⟩
def Itr (lo:Int)(n:Nat):It:=⟨λi _=>i<n,λi H x H'=>H'=H/\x=.int (lo+i),λi _=>n<=i⟩
theorem Gd {P:Program}{w:World}{K:Frag}{tg:Expr}(a it:Addr):Turn P w K tg (Itl K a) [it] it (λi h=>h.IsListIter it a i) where
 mem:=by simp
 obj:=λi h st b hb=>by
  have e:b=it:=by simpa using hb
  subst e;obtain⟨o,e,c,d⟩:=st;exact⟨o,e,λv z=>by rw[d] at z;cases z⟩
 keep:=λi h h' st k=>st.at λo e=>k it (by simp) o e
 item:=by
  intro X hP hw hK hc i vy s U H E I hf st hg;subst hP hw hK;obtain⟨xs,x,hq,hx⟩:=hg;obtain⟨AC,rv,p,hz⟩:=I.list hq;obtain⟨u,hu,ru⟩:=rv.get hx;obtain⟨f0,f1,f2,f3,f4,f5⟩:=hf it (by simp);refine wpAny_pyNext_list_item st p.isList (x:=u) (by simpa using hu) λh' st' sb=>?_;have I1:Inv X vy U H {s with heap:=h' }:=I.turned (t':=s.toks) (λb o hb e=>(sb.2 b hb).trans e) f0 f1 f3 f4 f5;obtain⟨o,e,c,d⟩:=id st';exact⟨u,M,rP (s:={s with heap:=h' }) e c d (by decide) ⟨x,H,I1,ru,⟨M,λys hy=>by rw[I.LX hy hq];exact hx⟩,st',λb hb=>(hf b hb).1⟩⟩
 done:=by
  intro X hP hw hK hc i vy s U H E I hf st hg;subst hP hw hK;obtain⟨xs,hq,hx⟩:=hg;obtain⟨AC,rv,p,hz⟩:=I.list hq;obtain⟨f0,f1,f2,f3,f4,f5⟩:=hf it (by simp);have hl:=rv.length;exact wpAny_pyNext_list_end (I.ok.hd hc) st p.isList (by simp;omega) λh' eb=>⟨M,I.turned (t':=s.toks) (λb o hb e=>eb b o hb e) f0 f1 f3 f4 f5⟩
 self:=λ_ _ _ _ _ st h=>wpAny_pyIter_listiter st h
theorem Cp {P:Program}{w:World}{K:Frag}{tg:Expr}(a it:Addr):Turn P w K tg (Itt K a) [it] it (λi h=>h.IsTupleIter it a i) where
 mem:=by simp
 obj:=λi h st b hb=>by
  have e:b=it:=by simpa using hb
  subst e;obtain⟨o,e,c,d⟩:=st;exact⟨o,e,λv z=>by rw[d] at z;cases z⟩
 keep:=λi h h' st k=>st.at λo e=>k it (by simp) o e
 item:=by
  intro X hP hw hK hc i vy s U H E I hf st hg;subst hP hw hK;obtain⟨xs,x,hq,hx⟩:=hg;obtain⟨AC,rv,p,hz⟩:=I.tuple hq;obtain⟨u,hu,ru⟩:=rv.get hx;obtain⟨f0,f1,f2,f3,f4,f5⟩:=hf it (by simp);refine wpAny_pyNext_tuple_item st (show s.heap.IsTuple a AC.toArray from p) (x:=u) (by simpa using hu) λh' st' sb=>?_;have I1:Inv X vy U H {s with heap:=h' }:=I.turned (t':=s.toks) (λb o hb e=>(sb.2 b hb).trans e) f0 f1 f3 f4 f5;obtain⟨o,e,c,d⟩:=id st';exact⟨u,M,rP (s:={s with heap:=h' }) e c d (by decide) ⟨x,H,I1,ru,⟨M,λys hy=>by rw[I.Gf hy hq];exact hx⟩,st',λb hb=>(hf b hb).1⟩⟩
 done:=by
  intro X hP hw hK hc i vy s U H E I hf st hg;subst hP hw hK;obtain⟨xs,hq,hx⟩:=hg;obtain⟨AC,rv,p,hz⟩:=I.tuple hq;obtain⟨f0,f1,f2,f3,f4,f5⟩:=hf it (by simp);have hl:=rv.length;exact wpAny_pyNext_tuple_end (I.ok.hd hc) st (show s.heap.IsTuple a AC.toArray from p) (by simp;omega) λh' eb=>⟨M,I.turned (t':=s.toks) (λb o hb e=>eb b o hb e) f0 f1 f3 f4 f5⟩
 self:=λ_ _ _ _ _ st h=>wpAny_pyIter_tupleiter st h
theorem Cq {P:Program}{w:World}{K:Frag}{tg:Expr}(it:Addr)(lo:Int)(n:Nat):Turn P w K tg (Itr lo n) [it] it (λi h=>IsRangeIter h it (lo+(i:Nat)*1) ((n:Int) - (i:Nat)) 1) where
 mem:=by simp
 obj:=λi h st b hb=>by
  have e:b=it:=by simpa using hb
  subst e;exact⟨_,st,λv z=>by
   have z':Data.fields _=Data.cell v:=z;cases z'⟩
 keep:=λi h h' st k=>k it (by simp) _ st
 item:=by
  intro X hP hw hK hc i vy s U H E I hf st hg;subst hP hw hK;obtain⟨f0,f1,f2,f3,f4,f5⟩:=hf it (by simp);have W:=Walks.range (prog:=X.prog) (w:=X.w) (I.ok.hd hc) it lo 1 n;refine W.item i s _ _ hg st λv h' tk hv st' kk=>?_;obtain⟨t,rfl⟩:=hv;have I1:Inv X vy U H {s with heap:=h',toks:=tk }:=I.turned (λb o hb e=>kk b o (by simpa using hb) e) f0 f1 f3 f4 f5;refine⟨_,M,rP (s:={s with heap:=h',toks:=tk }) (n:="range_iterator") st' rfl rfl (by decide) ⟨.int (lo+i),H,I1,⟨t,?_⟩,⟨M,M⟩,st',λb hb=>(hf b hb).1⟩⟩;rw[Int.mul_one]
 done:=by
  intro X hP hw hK hc i vy s U H E I hf st hg;subst hP hw hK;obtain⟨f0,f1,f2,f3,f4,f5⟩:=hf it (by simp);exact wpAny_pyNext_range_end (I.ok.hd hc) st (by have:n<=i:=hg;omega) λh' eb=>⟨M,I.turned (t':=s.toks) (λb o hb e=>eb b o hb e) f0 f1 f3 f4 f5⟩
 self:=λ_ _ _ _ _ st h=>wpAny_pyIter_rangeiter st h
section
variable {X:Cx}{tg:Expr}
theorem J9 {vy:jcZ}{U:St}{H:Hp}{s:Shared}{R:It->Hp->Prop}{E:jc0}{lo hi:Int}{t u v:Tok}{tk:Nat}(I:Inv X vy U H s)(h1:-(2 ^ 62)<=lo)(h2:lo<2 ^ 62)(h3:-(2 ^ 62)<=hi)(h4:hi<2 ^ 62)
  (q:R (Itr lo (hi - lo).toNat) H):wpAny (model X.prog X.w) X.A (pyIter (.ref s.heap.objs.size)) (PIE X vy U tg R) E {s with heap:=s.heap.push {cls:=.type "range",data:=.fields #[.int lo t,.int hi u,.int 1 v] },toks:=tk }:=by
 refine wpAny_pyIter_range (IsRange.new ..) (small_one h1 h2 h3 h4) ?_;have I1:Inv X vy U H {s with heap:=s.heap.push {cls:=.type "range",data:=.fields #[.int lo t,.int hi u,.int 1 v] },toks:=tk }:=I.kept λb o e=>jat _ e;refine⟨(s.heap.push {cls:=.type "range",data:=.fields #[.int lo t,.int hi u,.int 1 v] }).objs.size,[(s.heap.push {cls:=.type "range",data:=.fields #[.int lo t,.int hi u,.int 1 v] }).objs.size],_,_,H,M,
  I1.kept (t':=tk) λb o e=>jat _ e,Cq _ lo (hi - lo).toNat,?_,λb hb=>?_,q⟩
 .have e1:lo+((0:Nat):Int)*1=lo:=by simp
  have e2:(((hi - lo).toNat:Nat):Int) - ((0:Nat):Int)=Builtin.Range.rangeSize lo hi 1:=by rw[rangeSize_one];split<;>omega
  show IsRangeIter _ _ (lo+((0:Nat):Int)*1) ((((hi - lo).toNat:Nat):Int) - ((0:Nat):Int)) 1;rw[e1,e2];exact jaP _ rfl
 .have e:b=(s.heap.push {cls:=.type "range",data:=.fields #[.int lo t,.int hi u,.int 1 v] }).objs.size:=by simpa using hb
  subst e;exact I1.Bd (jaj _) (I1.hok.fresh (jaj _))
def a1c (ta:TA):TI:=λU H R=>ta U H λvs H1=>∃j:Int,vs=[.int j]/\-(2 ^ 62)<=j/\j<2 ^ 62/\R (Itr 0 j.toNat) H1
def GA {a:Expr}{ta:TA}{p pos:Pos}(hg:Gl X "range")(hm:X.mg "range"=none)(ha:PA X [a] ta)(hs:autoParam (starEach [a] X.env=[(false,eval a X.env)]) zi):PI X tg (.Call (.Name "range" p) [a] [] pos) (a1c ta):=by
 intro vy s U H R I h;refine Call_ (qu I hg hm boot_range (jcX (bu (ha pos vy s U H _ I h) λus s1 ⟨vs,H1,I1,r1,q1⟩=>?_) hs M));obtain⟨j,e,q1,q2,q⟩:=q1;subst e;cases r1 with
 |cons r rr=>
  cases rr;obtain⟨t,rfl⟩:=r;exact call_range_1 (J9 I1 (by omega) (by omega) q1 q2 (by simpa using q))
def a3e (wi:TI)(g:TG)(tb:TS):TS:=λD U H=>wi U H λJ H1=>∃W:Nat->Nat->St->Hp->Prop,(∃m,W 0 m U H1)/\∀i m U H,W i m U H->
 (J.stop i H/\D.nx U H)\/(J.go i H/\∃N:St->Hp->Prop,(∀U' H',N U' H'->∃m',m' < m/\W (i+1) m' U' H')/\∀x H',J.BX i H x H'->g x U H' λU2 H2=>tb {D with nx:=N,ct:=N,bk:=D.nx } U2 H2)
def uO (fp:jc4)(h:Heap):jcZ:=fp.filterMap λb=>(h.get? b).map λo=>(b,o)
def jk {fp:jc4}{h:Heap}{b:Addr}{o:Obj}(hb:b∈fp)(e:h.get? b=some o):(b,o)∈uO fp h:=List.mem_filterMap.mpr ⟨b,hb,by rw[e];rfl⟩
def GU {fp:jc4}{h:Heap}{p:Addr×Obj}(hp:p∈uO fp h):p.1∈fp/\h.get? p.1=some p.2:=by
 obtain⟨b,hb,e⟩:=List.mem_filterMap.mp hp;cases q:h.get? b with
 |none=>rw[q] at e;cases e
 |some o=>
  rw[q] at e;have e':(b,o)=p:=jaw e;subst e';exact⟨hb,q⟩
theorem Inv.pinned {vy:jcZ}{U:St}{H:Hp}{s:Shared}{fp:jc4}(I:Inv X vy U H s)(hf:∀b∈fp,nG X vy H b)(ho:∀b∈fp,∃o,s.heap.get? b=some o/\∀v,o.data≠.cell v):Inv X (vy++uO fp s.heap) U H s:=
 I.tW λp hp=>(jaU.mp hp).elim (λz=>I.pin p (jaW _ z)) λz=>by
  obtain⟨hb,e⟩:=GU z;obtain⟨f0,f1,f2,_⟩:=hf p.1 hb;obtain⟨o,e',d⟩:=ho p.1 hb;rw[e] at e';cases e';exact⟨e,f0,f1,f2,d⟩
def Inv.nX {vy pl:jcZ}{U:St}{H:Hp}{s:Shared}(I:Inv X (vy++pl) U H s):Inv X vy U H s:=I.tW λp hp=>I.pin p (jaW _ (jaX _ hp))
theorem VT {iter:Expr}{body:List Stmt}{wi:TI}{g:TG}{tb:TS}{pos:Pos}(hp:PassesOwn (model X.prog X.w) X.A X.env X.xe)(hc:X.calm=true)(hi:PI X tg iter wi)(hg:PG X tg g)(hb:b5 X body tb)
  (hs:autoParam (∀x,foldedSetIterable iter X.env x=pure x) jp):PS X (.For tg iter body [] pos) (a3e wi g tb):=by
 intro vy s U H D I h;refine wpAny_For (bu (hi vy s U H _ I h) λv s1 h1=>bu h1 λitv s2 h2=>?_) hs;obtain⟨it,fp,tn,J,H2,e,I2,T,st2,f2,W,⟨m0,w0⟩,turn⟩:=h2;subst e;have UR:∀{H':Hp},(∀b∈fp,H' b=none)->∀b∈fp,nG X vy H' b:=λhn b hb=>⟨hn b hb,(f2 b hb).2⟩
 refine codeAny_forLoop_any (λn s'=>∃i U' H',Inv X vy U' H' s'/\tn i s'.heap/\(∀b∈fp,H' b=none)/\W i n U' H') ?_ m0 ⟨0,U,H2,I2,st2,λb hb=>(f2 b hb).1,w0⟩;rintro n s3 ⟨i,σ3,H3,I3,st3,fr3,w3⟩;rcases turn i n σ3 H3 w3 with⟨stop,qn⟩ | ⟨go,N,hN,step⟩
 .refine jb6 hp (bu (T.done X rfl rfl rfl hc i vy s3 σ3 H3 X.xe I3 (UR fr3) st3 stop) ?_);rintro r s4 ⟨hr,I4⟩;subst hr;exact jcC ⟨σ3,H3,I4,qn⟩
 .refine jb6 hp (bu (T.item X rfl rfl rfl hc i vy s3 σ3 H3 X.xe I3 (UR fr3) st3 go) ?_);rintro r s4 ⟨u,hr,h4⟩;subst hr;refine jb6 hp (bu h4 ?_);rintro _ s5 ⟨x,H5,I5,r5,y5,st5,fr5⟩;have I5':=I5.pinned (UR fr5) (T.obj _ _ st5);refine jb6 hp (bu (hg _ s5 σ3 H5 x u _ I5' r5 (step x H5 y5)) ?_);rintro _ s6 ⟨σ6,H6,I6,q6⟩;refine jb6 hp (bu (hb _ s6 σ6 H6 _ I6 q6) λf s7 q7=>?_);have again:∀{σ7:St}{H7:Hp},Inv X (vy++uO fp s5.heap) σ7 H7 s7->N σ7 H7->∃m,m<n/\∃i U' H',Inv X vy U' H' s7/\tn i s7.heap/\(∀b∈fp,H' b=none)/\W i m U' H':=λ{σ7 H7} I7 n7=>by
   obtain⟨m',hm,w7⟩:=hN σ7 H7 n7;refine⟨m',hm,i+1,σ7,H7,I7.nX,T.keep _ _ _ st5 λb hb o e=>(I7.pin (b,o) (jaW _ (jaW _ (jk hb e)))).1,λb hb=>?_,w7⟩;obtain⟨o,e,d⟩:=T.obj _ _ st5 b hb;exact(I7.pin (b,o) (jaW _ (jaW _ (jk hb e)))).2.1
  cases f with
  |next=>obtain⟨σ7,H7,I7,n7⟩:=q7;exact again I7 n7
  |cont=>obtain⟨σ7,H7,I7,n7⟩:=q7;exact again I7 n7
  |brk=>obtain⟨σ7,H7,I7,q7⟩:=q7;exact⟨σ7,H7,I7.nX,q7⟩
  |ret v=>obtain⟨x7,σ7,H7,I7,r7,q7⟩:=q7;exact⟨x7,σ7,H7,I7.nX,r7,q7⟩
end
abbrev R2:=V->V->Hp->VK->Prop
def gP (X:Cx)(f:Value->Value->Sem Value)(r:R2):Prop:=
 ∀(vy:jcZ) (s:Shared) (U:St) (H:Hp) (x y:V) (v u:Value) (Q:VK),Inv X vy U H s->RelV x v->RelV y u->r x y H Q->
  wpAny (model X.prog X.w) X.A (f v u) (EP X vy U Q) X.xe s
def UnR (X:Cx)(f:Value->Sem Value)(r:V->Hp->VK->Prop):Prop:=
 ∀(vy:jcZ) (s:Shared) (U:St) (H:Hp) (x:V) (v:Value) (Q:VK),Inv X vy U H s->RelV x v->r x H Q->
  wpAny (model X.prog X.w) X.A (f v) (EP X vy U Q) X.xe s
def dN (X:Cx)(f:Value)(r:List V->Hp->VK->Prop):Prop:=
 ∀(vy:jcZ) (s:Shared) (U:St) (H:Hp) (xs:List V) (us:jc3) (Q:VK),Inv X vy U H s->Vals xs us->r xs H Q->
  wpAny (model X.prog X.w) X.A (call f us) (EP X vy U Q) X.xe s
def UI (r:R2)(ta tb:TE):TE:=λU H Q=>ta U H λx H1=>tb U H1 λy H2=>r x y H2 Q
def tUn (r:V->Hp->VK->Prop)(ta:TE):TE:=λU H Q=>ta U H λx H1=>r x H1 Q
def rI (C:Int->Int->Prop)(g:Int->Int->V):R2:=λx y H Q=>∃i j,x=.int i/\y=.int j/\C i j/\Q (g i j) H
def SE (g:Int->Int->V):R2:=λx y H Q=>∃i j,x=.int i/\y=.int j/\Q (g i j) H
def rU (g:Int->V):V->Hp->VK->Prop:=λx H Q=>∃i,x=.int i/\Q (g i) H
section
variable {X:Cx}{a b c:Expr}{ta tb tc:TE}{pos:Pos}
theorem XO (ha:PE X a ta)(hb:PE X b tb){vy:jcZ}{s:Shared}{U:St}{H:Hp}{R:V->V->Hp->Prop}(I:Inv X vy U H s)
  (h:ta U H λx H1=>tb U H1 λy H2=>R x y H2) {Q:jc0} {f:Value->Value->Sem Value}
  (hf:∀v u s2 x y H2,Inv X vy U H2 s2->RelV x v->RelV y u->R x y H2->wpAny (model X.prog X.w) X.A (f v u) Q X.xe s2) :
  wpAny (model X.prog X.w) X.A (eval a X.env) (λv s₁=>wpAny (model X.prog X.w) X.A (eval b X.env) (λu s₂=>wpAny (model X.prog X.w) X.A (f v u) Q X.xe s₂) X.xe s₁) X.xe s:=by
 refine bu (ha vy s U H _ I h) ?_;rintro v s1 ⟨x,H1,I1,r1,q1⟩;refine bu (hb vy s1 U H1 _ I1 q1) ?_;rintro u s2 ⟨y,H2,I2,r2,q2⟩;exact hf v u s2 x y H2 I2 r1 r2 q2
def a0i {op:Operator}{r:R2}(ho:gP X (binaryOp op) r)(ha:PE X a ta)(hb:PE X b tb):PE X (.BinOp a op b pos) (UI r ta tb):=by
 intro vy s U H Q I h;exact wpAny_BinOp (XO ha hb I h λv u s2 x y H2 I2 rx ry q=>ho vy s2 U H2 x y v u Q I2 rx ry q)
def a0g {op:UnaryOp}{r:V->Hp->VK->Prop}(ho:UnR X (unaryOp op) r)(ha:PE X a ta):PE X (.UnaryOp op a pos) (tUn r ta):=by
 intro vy s U H Q I h;exact UnaryOp_ (bu (ha vy s U H _ I h) (by rintro v s1 ⟨x,H1,I1,r1,q1⟩;exact ho vy s1 U H1 x v Q I1 r1 q1))
theorem opI {f:Value->Value->Sem Value}{C:Int->Int->Prop}{g:Int->Int->Int}
  (rule:∀(i j:Int)(t u:Tok)(s:Shared)(Q:jc0)(E:jc0),C i j->Q (.int (g i j) s.toks) {s with toks:=s.toks+1 }->wpAny (model X.prog X.w) X.A (f (.int i t) (.int j u)) Q E s) :
  gP X f (rI C λi j=>.int (g i j)):=by
 intro vy s U H x y v u Q I rx ry h;obtain⟨i,j,rfl,rfl,hc,q⟩:=h;obtain⟨t,rfl⟩:=rx;obtain⟨t',rfl⟩:=ry;exact rule i j t t' s _ _ hc ⟨.int (g i j),H,I.tok _,⟨_,M⟩,q⟩
theorem a0u {f:Value->Value->Sem Value}{g:Int->Int->Int}
  (rule:∀(i j:Int)(t u:Tok)(s:Shared)(Q:jc0)(E:jc0),Q (.int (g i j) s.toks) {s with toks:=s.toks+1 }->wpAny (model X.prog X.w) X.A (f (.int i t) (.int j u)) Q E s) :
  gP X f (SE λi j=>.int (g i j)):=by
 intro vy s U H x y v u Q I rx ry h;obtain⟨i,j,rfl,rfl,q⟩:=h;obtain⟨t,rfl⟩:=rx;obtain⟨t',rfl⟩:=ry;exact rule i j t t' s _ _ ⟨.int (g i j),H,I.tok _,⟨_,M⟩,q⟩
theorem Ws {f:Value->Value->Sem Value}{g:Int->Int->Bool}
  (rule:∀(i j:Int)(t u:Tok)(s:Shared)(Q:jc0)(E:jc0),Q (.bool (g i j)) s->wpAny (model X.prog X.w) X.A (f (.int i t) (.int j u)) Q E s) :
  gP X f (SE λi j=>.bl (g i j)):=by
 intro vy s U H x y v u Q I rx ry h;obtain⟨i,j,rfl,rfl,q⟩:=h;obtain⟨t,rfl⟩:=rx;obtain⟨t',rfl⟩:=ry;exact rule i j t t' s _ _ ⟨.bl (g i j),H,I,M,q⟩
def a2a (i j:Int):Prop:=0<j/\j<1073741824
def Ry (i j:Int):Prop:=(-(2 ^ 64)<i/\i<2 ^ 64)\/(-(2 ^ 64)<j/\j<2 ^ 64)
theorem Ry.ok {i j:Int}(h:Ry i j):IntMulOk i j:=by
 rcases h with⟨h1,h2⟩ | ⟨h1,h2⟩
 .exact .of_left (intBits_le_64 h1 h2)
 .exact .of_right (intBits_le_64 h1 h2)
def Wr:gP X (binaryOp .Add) (SE λi j=>.int (i+j)):=a0u λ_ _ _ _ _ _ _ q=>add_int q
def Wh:gP X (binaryOp .Sub) (SE λi j=>.int (i - j)):=a0u λ_ _ _ _ _ _ _ q=>sub_int q
def Wk:gP X (binaryOp .Mult) (rI Ry λi j=>.int (i*j)):=opI λ_ _ _ _ _ _ _ hc q=>mul_int q hc.ok
theorem PF:gP X (binaryOp .FloorDiv) (rI a2a λi j=>.int (i / j)):=opI λi j _ _ _ _ _ hc q=>by
 have h1:(0:Int)<j:=hc.1;have h2:j<1073741824:=hc.2;exact floordiv_int (by omega) (by rw[Int.fdiv_eq_ediv_of_nonneg i (by omega)];exact q) (.inl (PyProof.noPylong_small (by omega)))
theorem Wl:gP X (binaryOp .Mod) (rI (λ_ j=>0<j) λi j=>.int (i % j)):=opI λi j _ _ _ _ _ hc q=>by
 have h1:(0:Int)<j:=hc;exact mod_int' (by omega) (by rw[Int.fmod_eq_emod_of_nonneg i (by omega)];exact q)
theorem unI {f:Value->Sem Value}{g:Int->Int}
  (rule:∀(i:Int)(t:Tok)(s:Shared)(Q:jc0)(E:jc0),Q (.int (g i) s.toks) {s with toks:=s.toks+1 }->wpAny (model X.prog X.w) X.A (f (.int i t)) Q E s) :
  UnR X f (rU λi=>.int (g i)):=by
 intro vy s U H x v Q I rx h;obtain⟨i,rfl,q⟩:=h;obtain⟨t,rfl⟩:=rx;exact rule i t s _ _ ⟨.int (g i),H,I.tok _,⟨_,M⟩,q⟩
def Ux:UnR X (unaryOp .USub) (rU λi=>.int (-i)):=unI λ_ _ _ _ _ q=>neg_int q
end
noncomputable def Vc:V->V->Bool
 |.ck,.ck=>true | .ck,.int _=>true | .int _,.ck=>true | .ck,.bl _=>true | .bl _,.ck=>true | .ck,.str _=>true | .str _,.ck=>true
 |.int _,.int _=>true | .bl _,.bl _=>true | .str _,.str _=>true | .HQ _,.HQ _=>true
 |.int _,.str _=>true | .str _,.int _=>true | .bl _,.str _=>true | .str _,.bl _=>true
 |_,_=>false
def rEq:R2:=λx y H Q=>Vc x y=true/\Q (.bl (decide (x=y))) H
def rNe:R2:=λx y H Q=>Vc x y=true/\Q (.bl (!decide (x=y))) H
def FE {i j:Int}:decide (V.int i=V.int j)=(i==j):=by
 rw[jck];simp
def MX {i j:Bool}:decide (V.bl i=V.bl j)=(i==j):=by
 rw[jck];simp
def FD {i j:Str}:decide (V.str i=V.str j)=(i==j):=by
 rw[jck];simp
def FF {i j:Array UInt8}:decide (V.HQ i=V.HQ j)=(i.toList==j.toList):=by
 rw[jck];cases i;cases j;simp
section
variable {X:Cx}{a b c:Expr}{ta tb tc:TE}{pos:Pos}
def bx {vy:jcZ}{U:St}{H:Hp}{s:Shared}{Q:VK}{k k':Bool}(I:Inv X vy U H s)(q:Q (.bl k) H)(e:k=k'):EP X vy U Q (.bool k') s:=by
 subst e;exact⟨.bl k,H,I,M,q⟩
def a0t:gP X (compareOp .Eq) rEq:=by
 intro vy s U H x y v u Q I rx ry h;obtain⟨hs,q⟩:=h;cases x with
 |ck=>
  cases rx;cases y with
  |ck=>cases ry;exact PySem.EqNone.eq_none_none (bx I q (by simp))
  |bl j=>cases ry;exact PySem.EqNone.eq_none_bool (bx I q (by simp))
  |int j=>obtain⟨t',rfl⟩:=ry;exact PySem.EqNone.eq_none_int (bx I q (by simp))
  |str j=>obtain⟨t',rfl⟩:=ry;exact PySem.EqNone.eq_none_str (bx I q (by simp))
  |_=>exact absurd (show false=true from hs) jaJ
 |bl i=>
  cases rx;cases y with
  |ck=>cases ry;exact PySem.EqNone.eq_bool_none (bx I q (by simp))
  |bl j=>cases ry;exact eq_bool (bx I q MX)
  |str j=>obtain⟨t',rfl⟩:=ry;exact PySem.EqMixed.eq_bool_str (bx I q (by simp))
  |_=>exact absurd (show false=true from hs) jaJ
 |int i=>
  obtain⟨t,rfl⟩:=rx;cases y with
  |ck=>cases ry;exact PySem.EqNone.eq_int_none (bx I q (by simp))
  |int j=>obtain⟨t',rfl⟩:=ry;exact eq_int (bx I q FE)
  |str j=>obtain⟨t',rfl⟩:=ry;exact PySem.EqMixed.eq_int_str (bx I q (by simp))
  |_=>exact absurd (show false=true from hs) jaJ
 |str i=>
  obtain⟨t,rfl⟩:=rx;cases y with
  |ck=>cases ry;exact PySem.EqNone.eq_str_none (bx I q (by simp))
  |bl j=>cases ry;exact PySem.EqMixed.eq_str_bool (bx I q (by simp))
  |int j=>obtain⟨t',rfl⟩:=ry;exact PySem.EqMixed.eq_str_int (bx I q (by simp))
  |str j=>obtain⟨t',rfl⟩:=ry;exact eq_str (bx I q FD)
  |_=>exact absurd (show false=true from hs) jaJ
 |HQ i=>
  obtain⟨t,rfl⟩:=rx;cases y with
  |HQ j=>obtain⟨t',rfl⟩:=ry;exact PySem.W.eq_bytes (bx I q FF)
  |_=>exact absurd (show false=true from hs) jaJ
 |_=>cases y<;>exact absurd (show false=true from hs) jaJ
def a0p:gP X (compareOp .NotEq) rNe:=by
 intro vy s U H x y v u Q I rx ry h;obtain⟨hs,q⟩:=h;cases x with
 |ck=>
  cases rx;cases y with
  |ck=>cases ry;exact PySem.EqNone.ne_none_none (bx I q (by simp))
  |bl j=>cases ry;exact PySem.EqNone.ne_none_bool (bx I q (by simp))
  |int j=>obtain⟨t',rfl⟩:=ry;exact PySem.EqNone.ne_none_int (bx I q (by simp))
  |str j=>obtain⟨t',rfl⟩:=ry;exact PySem.EqNone.ne_none_str (bx I q (by simp))
  |_=>exact absurd (show false=true from hs) jaJ
 |bl i=>
  cases rx;cases y with
  |ck=>cases ry;exact PySem.EqNone.ne_bool_none (bx I q (by simp))
  |bl j=>cases ry;exact ne_bool (bx I q (jae not MX))
  |str j=>obtain⟨t',rfl⟩:=ry;exact PySem.EqMixed.ne_bool_str (bx I q (by simp))
  |_=>exact absurd (show false=true from hs) jaJ
 |int i=>
  obtain⟨t,rfl⟩:=rx;cases y with
  |ck=>cases ry;exact PySem.EqNone.ne_int_none (bx I q (by simp))
  |int j=>obtain⟨t',rfl⟩:=ry;exact ne_int (bx I q (jae not FE))
  |str j=>obtain⟨t',rfl⟩:=ry;exact PySem.EqMixed.ne_int_str (bx I q (by simp))
  |_=>exact absurd (show false=true from hs) jaJ
 |str i=>
  obtain⟨t,rfl⟩:=rx;cases y with
  |ck=>cases ry;exact PySem.EqNone.ne_str_none (bx I q (by simp))
  |bl j=>cases ry;exact PySem.EqMixed.ne_str_bool (bx I q (by simp))
  |int j=>obtain⟨t',rfl⟩:=ry;exact PySem.EqMixed.ne_str_int (bx I q (by simp))
  |str j=>obtain⟨t',rfl⟩:=ry;exact ne_str (bx I q (jae not FD))
  |_=>exact absurd (show false=true from hs) jaJ
 |HQ i=>
  obtain⟨t,rfl⟩:=rx;cases y with
  |HQ j=>obtain⟨t',rfl⟩:=ry;exact PySem.W.ne_bytes (bx I q (jae not FF))
  |_=>exact absurd (show false=true from hs) jaJ
 |_=>cases y<;>exact absurd (show false=true from hs) jaJ
def a0q:gP X (compareOp .Lt) (SE λi j=>.bl (decide (i<j))):=Ws λ_ _ _ _ _ _ _ q=>lt_int q
def a0r:gP X (compareOp .LtE) (SE λi j=>.bl (decide (i<=j))):=Ws λ_ _ _ _ _ _ _ q=>le_int q
def a0s:gP X (compareOp .Gt) (SE λi j=>.bl (decide (j<i))):=Ws λ_ _ _ _ _ _ _ q=>gt_int q
def gP.or {f:Value->Value->Sem Value}{r r':R2}(h:gP X f r)(h':gP X f r'):gP X f (λx y H Q=>r x y H Q\/r' x y H Q):=by
 intro vy s U H x y v u Q I rx ry q;rcases q with q | q
 .exact h vy s U H x y v u Q I rx ry q
 .exact h' vy s U H x y v u Q I rx ry q
def aH (b:Expr){op:CmpOp}(h:autoParam (op≠.In) zn)(h2:autoParam (op≠.NotIn) zn):behindInMarks op b=false:=by
 have e1:(op==CmpOp.In)=false:=by cases op<;>first | rfl | exact absurd rfl h
 have e2:(op==CmpOp.NotIn)=false:=by cases op<;>first | rfl | exact absurd rfl h2
 cases b<;>simp[behindInMarks,e1,e2]
def Py {op:CmpOp}{r:R2}(ho:gP X (compareOp op) r)(ha:PE X a ta)(hb:PE X b tb)(hm:behindInMarks op b=false):PE X (.Compare a [op] [b] pos) (UI r ta tb):=by
 intro vy s U H Q I h;exact wpAny_Compare1 (XO ha hb I h λv u s2 x y H2 I2 rx ry q=>ho vy s2 U H2 x y v u Q I2 rx ry q) hm
def Je (t:TE):TT:=λU H Q=>t U H λx H'=>∃k,x=.bl k/\Q k H'
def O7 {op:CmpOp}{r:R2}(ho:gP X (compareOp op) r)(ha:PE X a ta)(hb:PE X b tb)(hm:behindInMarks op b=false):PT X (.Compare a [op] [b] pos) (Je (UI r ta tb)):=by
 intro vy s U H Q I h;refine wpAny_isTrue_Compare1 (bu (ha vy s U H _ I h) λv s1 ⟨x,H1,I1,r1,q1⟩=>bu (hb vy s1 U H1 _ I1 q1) λu s2 ⟨y,H2,I2,r2,q2⟩=>
  bu (ho vy s2 U H2 x y v u _ I2 r1 r2 q2) λc s3 ⟨z,H3,I3,r3,k,e,q3⟩=>?_) hm
 subst e;cases r3;exact jbE ⟨H3,I3,q3⟩
def CA (r r':R2)(ta tb tc:TE):TE:=λU H Q=>ta U H λx H1=>tb U H1 λy H2=>r x y H2 λz H3=>∃k,z=.bl k/\
 (if k=true then tc U H3 λw' H4=>r' y w' H4 Q else Q (.bl false) H3)
theorem K4 {op op':CmpOp}{r r':R2}(ho:gP X (compareOp op) r)(ho':gP X (compareOp op') r')(ha:PE X a ta)(hb:PE X b tb)(hc:PE X c tc)
  (hm:autoParam (lastMarks [op,op'] [b,c]=false) kn):PE X (.Compare a [op,op'] [b,c] pos) (CA r r' ta tb tc):=by
 intro vy s U H Q I h;refine Compare_chain (bu (ha vy s U H _ I h) λv s1 ⟨x,H1,I1,r1,q1⟩=>chain_link (bu (hb vy s1 U H1 _ I1 q1) λu s2 ⟨y,H2,I2,r2,q2⟩=>
  bu (ho vy s2 U H2 x y v u _ I2 r1 r2 q2) λd s3 ⟨z,H3,I3,r3,k,e,q3⟩=>?_)) hm
 subst e;cases r3;refine jbE ?_;cases k with
 |false=>exact ite_ff ⟨.bl false,H3,I3,M,q3⟩
 |true=>exact ite_tt (chain_last (bu (hc vy s3 U H3 _ I3 q3) (by rintro w' s4 ⟨z',H4,I4,r4,q4⟩;exact ho' vy s4 U H4 y z' u w' Q I4 r2 r4 q4)))
theorem KG {op op':CmpOp}{r r':R2}(ho:gP X (compareOp op) r)(ho':gP X (compareOp op') r')(ha:PE X a ta)(hb:PE X b tb)(hc:PE X c tc)
  (hm:autoParam (lastMarks [op,op'] [b,c]=false) kn):PT X (.Compare a [op,op'] [b,c] pos) (Je (CA r r' ta tb tc)):=by
 intro vy s U H Q I h;refine isTrue_chain (bu (ha vy s U H _ I h) λv s1 ⟨x,H1,I1,r1,q1⟩=>test_link (bu (hb vy s1 U H1 _ I1 q1) λu s2 ⟨y,H2,I2,r2,q2⟩=>
  bu (ho vy s2 U H2 x y v u _ I2 r1 r2 q2) λd s3 ⟨z,H3,I3,r3,k,e,q3⟩=>?_)) hm
 subst e;cases r3;refine jbE ?_;cases k with
 |false=>
  obtain⟨k',e',q'⟩:=q3;cases e';exact ite_ff ⟨H3,I3,q'⟩
 |true=>
  refine ite_tt (test_last (bu (hc vy s3 U H3 _ I3 q3) λw' s4 ⟨z',H4,I4,r4,q4⟩=>bu (ho' vy s4 U H4 y z' u w' _ I4 r2 r4 q4) ?_));rintro d' s5 ⟨z2,H5,I5,r5,k2,e2,q5⟩;subst e2;cases r5;exact jbE ⟨H5,I5,q5⟩
def kr:(sizeLine:Nat)<2 ^ 63:=by rw[ja4];decide
def CS:gP X (binaryOp .Add) (λx y H Q=>∃i j,x=.str i/\y=.str j/\i.length+j.length<=sizeLine/\Q (.str (i++j)) H):=by
 intro vy s U H x y v u Q I rx ry h;obtain⟨i,j,rfl,rfl,hz,q⟩:=h;obtain⟨t,rfl⟩:=rx;obtain⟨t',rfl⟩:=ry;exact add_str (λt' tk=>⟨.str (i++j),H,I.tok _,⟨_,M⟩,q⟩) hz
def vals1 {x:V}{us:jc3}(r:Vals [x] us):∃u,us=[u]/\RelV x u:=by
 cases r with
 |cons r1 r2=>cases r2;exact⟨_,M,r1⟩
def vals2 {x y:V}{us:jc3}(r:Vals [x,y] us):∃u w',us=[u,w']/\RelV x u/\RelV y w':=by
 cases r with
 |cons r1 r2=>
  cases r2 with
  |cons r3 r4=>cases r4;exact⟨_,_,M,r1,r3⟩
def M5:dN X (.builtin "abs") (λxs H Q=>∃i,xs=[.int i]/\Q (.int (if i<0 then -i else i)) H):=by
 intro vy s U H xs us Q I r h;obtain⟨i,rfl,q⟩:=h;obtain⟨u,rfl,t,rfl⟩:=vals1 r;exact call_abs_int λu tk=>⟨.int (if i<0 then -i else i),H,I.tok _,⟨_,M⟩,q⟩
end
structure DN (h:Heap)(x dx C:Addr)(mA:Str->Option Value):Prop where
 obj:h.get? x=some (instObj C dx)
 ns:h.Ns1 dx mA
 ne:dx≠x
def xg {h:Heap}{dx:Addr}{mA:Str->jc7}(n:h.Ns1 dx mA):∃od,h.get? dx=some od/\∀name,lookIn name od=some (mA name):=by
 obtain⟨o,es,ep,ho,hd,hk,_,hm⟩:=n;refine⟨o,ho,λname=>?_⟩;have e:=hm name;unfold nsFind findBy at e;rw[<- Array.find?_toList] at e;unfold lookIn;rw[hd];dsimp only;split
 .rename_i y q;rw[q] at e;exact jae some e
 .rename_i q;rw[q] at e;have a:es.toList.any (·.refKey)=false:=by
   rw[List.any_eq_false];intro y hy;obtain⟨z,t,hkey⟩:=hk y (Array.mem_toList_iff.mp hy);simp[DictEntry.refKey,hkey]
  have a':¬ es.toList.any (·.refKey)=true:=by rw[a];exact jaJ
  rw[jaa a'];exact jae some e
theorem DN.look {h:Heap}{x dx C:Addr}{mA:Str->jc7}(I:DN h x dx C mA):∃od,InstAt h x (instObj C dx) C (some od)/\∀name,lookIn name od=some (mA name):=
 let⟨od,ho,hl⟩:=xg I.ns
 ⟨od,⟨I.obj,M,M,ho⟩,hl⟩
section
variable {prog:Program}{w:World}{A:Around}{E:jc0}{s:Shared}{K:Frag}{x dx C f:Addr}{mA:Str->jc7}{name:Str}{v:Value}
theorem get_map {expr:Bool}{Q:jc0}(X:K.In s.heap)(I:DN s.heap x dx C mA)(hg:plainGet K C name=true)(hh:hasDictIn K C=true)
  (ha:findIn K (.ref C) name=some none) (hv:mA name=some v) (hv':handedIn v=true) (h:Q v {s with toks:=s.toks+1 }) :
  wpAny (model prog w) A (getAttr (.ref x) name expr) Q E s:=by
 obtain⟨od,J,hl⟩:=I.look;exact PySem.W.get_value X J (plainGet_of hg).1 (findObj_own hh ha rfl (by rw[hl,hv])) hv' h
theorem MB {pl:Sem Bool}{Q:Value×jc3->Shared->Prop}(X:K.In s.heap)(I:DN s.heap x dx C mA)(hg:plainGet K C name=true)
  (hf:findIn K (.ref C) name=some (some (.ref f))) (ht:isFn K (.ref f)=true) (hv:mA name=none) (h:Q (.ref f,[.ref x]) s) :
  wpAny (model prog w) A (getMethod (.ref x) name pl) Q E s:=by
 obtain⟨od,J,hl⟩:=I.look;exact PySem.W.method_fn X J (plainGet_of hg).1 (plainGet_of hg).2 hf (jaZ.mp ht) (by show(lookIn name od).map (·.isSome)=some false;rw[hl,hv];rfl) h
theorem OB {ns:jc2}{Q:Unit->Shared->Prop}(X:K.In s.heap)(I:DN s.heap x dx C mA)
  (hs:findIn K (.ref C) "__setattr__"=some (some (.builtin "object.__setattr__"))) (hp:plainOver K C=true) (ht:takerIn K C name=some none) (hh:hasDictIn K C=true)
  (hw:PySem.Within mA ns) (hsz:ns.length<=sizeLine)
  (h:∀h',DN h' x dx C (λy=>if y=name then some v else mA y)->Heap.SameBut dx s.heap h'->Q () {s with heap:=h',toks:=s.toks+2 }) :
  wpAny (model prog w) A (setAttr (.ref x) name v) Q E s:=by
 obtain⟨od,J,hl⟩:=I.look;refine set_plain X J hs (PySem.W.osa_open (s:={s with toks:=s.toks+1 }) (r:=none) X J hp ht λb=>?_);obtain⟨cd,hc,hd'⟩:=PySem.W.any_some hh;have hx:s.heap.get? x=some ⟨.ref C,some dx,.plain,#[]⟩:=I.obj;refine jac (jas (jac (jac (wpAny_loadPart hx (jac (PySem.W.Looks.here (s:={s with toks:=s.toks+1 }) (PySem.W.looks_clsIn X hc) ?_))))));rw[hd'];refine jas (a:=some dx) (jac (jas (jac ?_)));refine wpAny_nsSet1 (s:={s with toks:=s.toks+1 }) I.ns λh' hn2 hs2=>?_;obtain⟨oD,esD,epD,hoD,NQ,hcD⟩:=hn2.count (PySem.Within.cons name v hw);refine jac (wpAny_lookBehind hoD (by rw[NQ];exact pastItsLine_dict (jap hcD (by rw[jaA];omega))) ?_);exact jas (h _ ⟨(hs2.2 _ (jaH I.ne)).trans I.obj,hn2,I.ne⟩ hs2)
theorem LU {R:Result->Shared->Prop}{vs:jc3}{kw:List (Str×Value)}(X:K.In s.heap)(hm:makesIn K C=true)
  (hi:findIn K (.ref C) "__init__"=some (some (.ref f))) (hf:typeIn K (.ref f)=some (.type "function"))
  (h:codeAny (model prog w) (A.under (.builtin "type.__call__" ⟨.ref C::vs,kw⟩)) (.call (.ref f) ⟨.ref (s.heap.objs.size+1)::vs,kw⟩) (PySem.W.InitBack (s.heap.objs.size+1) R)
   {s with heap:=(s.heap.push emptyDict).push (instObj C s.heap.objs.size) }) :
  codeAny (model prog w) A (.call (.ref C) ⟨vs,kw⟩) R s:=by
 obtain⟨hh,g,d,t,os⟩:=s;exact PySem.W.make_core (PySem.W.makes_of X hm) (PySem.W.looks_findIn X hi) (λself=>PySem.W.bind_fn X self hf) (.inl M) h
end
def jP (f:Str)(v:V):List (Str×V)->List (Str×V)
 |[]=>[(f,v)]
 |(g,x)::r=>if g=f then(g,v)::r else(g,x)::jP f v r
theorem rH (f g:Str)(v:V):∀fs:List (Str×V),(jP f v fs).lookup g=if g=f then some v else fs.lookup g
 |[]=>by
  show List.lookup g [(f,v)]=_;by_cases h:g=f
  .have hb:(g==f)=true:=jaZ.mpr h;simp only[List.lookup,hb,jab h]
  .have hb:(g==f)=false:=jcu.mpr h;simp only[List.lookup,hb,jaa h]
 |(k,x)::r=>by
  have ih:=rH f g v r;rw[show jP f v ((k,x)::r)=(if k=f then(k,v)::r else(k,x)::jP f v r) from rfl];by_cases hk:k=f
  .rw[jab hk];by_cases h:g=k
   .have hb:(g==k)=true:=jaZ.mpr h;simp only[List.lookup,hb,jab (h.trans hk)]
   .have hb:(g==k)=false:=jcu.mpr h;simp only[List.lookup,hb,jaa (λe:g=f=>h (e.trans hk.symm))]
  .rw[jaa hk];by_cases h:g=k
   .have hb:(g==k)=true:=jaZ.mpr h;simp only[List.lookup,hb,jaa (λe:g=f=>hk (h.symm.trans e))]
   .have hb:(g==k)=false:=jcu.mpr h;simp only[List.lookup,hb];exact ih
theorem qv (f:Str)(v:V):∀fs:List (Str×V),f∈(jP f v fs).map (·.1)/\∀g,g∈fs.map (·.1)->g∈(jP f v fs).map (·.1)
 |[]=>⟨by simp[jP],λg h=>by simp at h⟩
 |(k,x)::r=>by
  obtain⟨i1,i2⟩:=qv f v r;rw[show jP f v ((k,x)::r)=(if k=f then(k,v)::r else(k,x)::jP f v r) from rfl];by_cases hk:k=f
  .rw[jab hk];subst hk;exact⟨by simp,λg h=>by simpa using h⟩
  .rw[jaa hk];refine⟨?_,λg h=>?_⟩
   .rw[jal];exact jah _ i1
   .rw[jal] at h ⊢;rcases jak.mp h with e | e
    .exact jak.mpr (.inl e)
    .exact jah _ (i2 g e)
theorem rJ (f:Str)(v:V):∀fs:List (Str×V),(jP f v fs).length<=fs.length+1
 |[]=>by simp[jP]
 |(k,x)::r=>by
  have ih:=rJ f v r;rw[show jP f v ((k,x)::r)=(if k=f then(k,v)::r else(k,x)::jP f v r) from rfl];by_cases hk:k=f
  .rw[jab hk,jaA,jaA];omega
  .rw[jaa hk,jaA,jaA];omega
def iY.some_of {v:V}{o:jc7}(r:iY (some v) o):∃u,o=some u/\RelV v u:=by
 cases o with
 |none=>exact(show False from r).elim
 |some u=>exact⟨u,M,r⟩
def iY.none_of {o:jc7}(r:iY none o):o=none:=by
 cases o with
 |none=>rfl
 |some u=>exact(show False from r).elim
def xr {v:V}{u:Value}(r:RelV v u):handedIn u=true:=by
 cases v with
 |ck=>cases(show u=Value.none from r);rfl
 |bl b=>cases(show u=Value.bool b from r);rfl
 |int i=>obtain⟨t,e⟩:=(show ∃t,u=Value.int i t from r);cases e;rfl
 |str x=>obtain⟨t,e⟩:=(show ∃t,u=Value.str x t from r);cases e;rfl
 |HQ b=>obtain⟨t,e⟩:=(show ∃t,u=Value.bytes b t from r);cases e;rfl
 |sn x=>obtain⟨t,_,e⟩:=(show ∃t,t≠0/\u=Value.str x t from r);cases e;rfl
 |ref a=>cases(show u=Value.ref a from r);rfl
 |ty n=>cases(show u=Value.type n from r);rfl
section
variable {P:Program}{w:World}{H H':Hp}{h h':Heap}{a C dx:Addr}{fs fs':List (Str×V)}
def tY (hok:iZ P w H h)(e:H a=some (.ins C dx fs)):∃mA,DN h a dx C mA/\(∀f,iY (fs.lookup f) (mA f))/\PySem.Within mA (fs.map (·.1))/\fs.length<=1000/\H dx=some (.own a):=by
 obtain⟨d,z,ne,ob,mA,n,r,q⟩:=(show bB P w H h a (.ins C dx fs) from hok a _ e)
 exact⟨mA,⟨ob,n,ne⟩,r,q,z,d⟩
end
structure Rx (K:Frag)(C:Addr):Prop where
 pg:plainGet K C Str.empty=true
 hd:hasDictIn K C=true
 po:plainOver K C=true
 sa:findIn K (.ref C) "__setattr__"=some (some (.builtin "object.__setattr__"))
def Rx.get {K:Frag}{C:Addr}(c:Rx K C)(f:Str):plainGet K C f=true:=c.pg
def iu (K:Frag)(C:Addr)(f:Str):Prop:=findIn K (.ref C) f=some none
def iu.YN {K:Frag}{C:Addr}{f:Str}(n:iu K C f):takerIn K C f=some none:=by
 unfold takerIn;rw[show findIn K (.ref C) f=some none from n];rfl
structure Meth (K:Frag)(C:Addr)(m:Str)(f:Addr):Prop where
 at_:findIn K (.ref C) m=some (some (.ref f))
 fn:isFn K (.ref f)=true
 kp:keepIn K (.ref f)=true
section
variable {X:Cx}{vy:jcZ}{U:St}{H:Hp}{s:Shared}{a C dx:Addr}{fs:List (Str×V)}{f:Str}{v:V}{A:Around}{E:jc0}
theorem Df {b:Bool}{Q:jc0}(I:Inv X vy U H s)(e:H a=some (.ins C dx fs))(c:Rx X.K C)(n:iu X.K C f)(l:fs.lookup f=some v)
  (h:∀u s',Inv X vy U H s'->RelV v u->Q u s'):wpAny (model X.prog X.w) A (getAttr (.ref a) f b) Q E s:=by
 obtain⟨mA,O,r,_,_,_⟩:=tY I.hok e;obtain⟨u,hu,ru⟩:=iY.some_of (v:=v) (o:=mA f) (by rw[<- l];exact r f);exact get_map I.ig O (c.get f) c.hd n hu (xr ru) (h u _ (I.tok _) ru)
theorem jr {m:Str}{g:Addr}{pl:Sem Bool}{Q:Value×jc3->Shared->Prop}(I:Inv X vy U H s)(e:H a=some (.ins C dx fs))(c:Rx X.K C)(k:Meth X.K C m g)(l:fs.lookup m=none)
  (h:Q (.ref g,[.ref a]) s):wpAny (model X.prog X.w) A (getMethod (.ref a) m pl) Q E s:=by
 obtain⟨mA,O,r,_,_,_⟩:=tY I.hok e;have hn:mA m=none:=iY.none_of (by rw[<- l];exact r m);exact MB I.ig O (c.get m) k.at_ k.fn hn h
theorem CH {y:V}{u:Value}{Q:Unit->Shared->Prop}(I:Inv X vy U H s)(e:H a=some (.ins C dx fs))(c:Rx X.K C)(n:iu X.K C f)(hl:fs.length<1000)(ry:RelV y u)
  (h:∀s',Inv X vy U (upd H a (.ins C dx (jP f y fs))) s'->Q () s'):wpAny (model X.prog X.w) A (setAttr (.ref a) f u) Q E s:=by
 obtain⟨mA,O,r,wi,_,ho⟩:=tY I.hok e;have hz:(fs.map (·.1)).length<=sizeLine:=by rw[jad,ja4];omega
 refine OB I.ig O c.sa c.po n.YN c.hd wi hz λh' O' sb=>h _ ?_;have hd:∃o,h'.get? dx=some o:=let⟨o,_,_,e',_⟩:=O'.ns;⟨o,e'⟩;refine I.write (x:=a) (e:=dx) (by rw[e];exact True.intro) (.inr ho) (λb q hb z=>(sb.2 b hb).trans z) hd ?_;refine⟨by rw[aE O.ne];exact ho,?_,O.ne,O'.obj,_,O'.ns,λg=>?_,λg hg=>?_⟩
 .have:=rJ f y fs;omega
 .show iY ((jP f y fs).lookup g) (if g=f then some u else mA g);rw[rH];by_cases q:g=f
  .rw[jab q,jab q];exact ry
  .rw[jaa q,jaa q];exact r g
 .by_cases q:g=f
  .rw[q];exact(qv f y fs).1
  .refine(qv f y fs).2 g (wi g λz=>hg ?_);show(if g=f then some u else mA g)=none;rw[jaa q];exact z
theorem Inv.made (I:Inv X vy U H s):Inv X vy U (upd (upd H s.heap.objs.size (.own (s.heap.objs.size+1))) (s.heap.objs.size+1) (.ins C s.heap.objs.size []))
  {s with heap:=(s.heap.push emptyDict).push (instObj C s.heap.objs.size) }:=by
 have e1:(s.heap.push emptyDict).get? s.heap.objs.size=some emptyDict:=jaP s.heap rfl;have e2:((s.heap.push emptyDict).push (instObj C s.heap.objs.size)).get? (s.heap.objs.size+1)=some (instObj C s.heap.objs.size):=by
  have:=jaP (s.heap.push emptyDict) (o:=instObj C s.heap.objs.size) rfl;rwa[jcm] at this
 have e3:(s.heap.push emptyDict).Ns s.heap.objs.size (λ_=>none):=⟨emptyDict,#[],_,e1,M,(λe he=>absurd he (by simp)),λ_=>rfl⟩
 have I1:=I.laid (a:=s.heap.objs.size) (o:=.own (s.heap.objs.size+1)) (h':=s.heap.push emptyDict) (t':=s.toks) (λb u q=>jat _ q) (jaj _) ⟨_,e1⟩;refine I1.laid (a:=s.heap.objs.size+1) (o:=.ins C s.heap.objs.size []) (t':=s.toks) (λb u q=>jat _ q) (jbH (jcm _ _)) ?_;have ne:s.heap.objs.size≠s.heap.objs.size+1:=jaM (jb5 _);refine⟨by rw[aE ne,cE],jaT _,ne,e2,λ_=>none,(Heap.Ns1.of_empty e3).at λo q=>jat _ q,λ_=>True.intro,λy hy=>absurd rfl hy⟩
theorem F0 {prog:Program}{w:World}{env:Env}{e:Expr}{f:Str}{pos:Pos}{s:Shared}{Q:jc0}(hb:attributeBase e f env (eval e env)=eval e env)
  (h:wpAny (model prog w) A (eval e env) (λo s₁=>wpAny (model prog w) A (getAttr o f true) Q E s₁) E s):wpAny (model prog w) A (eval (.Attribute e f pos) env) Q E s:=
 Attribute_any_ h (by rw[arm_eval_Attribute,hb])
end
def a3f (K:Frag)(ta:TE)(f:Str):TE:=λU H Q=>ta U H λx H1=>∃a C dx fs v,x=.ref a/\H1 a=some (.ins C dx fs)/\Rx K C/\iu K C f/\fs.lookup f=some v/\Q v H1
def a3v (K:Frag)(ta tv:TE)(f:Str):TS:=λD U H=>tv U H λy H1=>ta U H1 λx H2=>∃a C dx fs,x=.ref a/\H2 a=some (.ins C dx fs)/\Rx K C/\iu K C f/\fs.length<1000/\
 D.nx U (upd H2 a (.ins C dx (jP f y fs)))
section
variable {X:Cx}{o e value:Expr}{f:Str}{pos pos' tpos:Pos}{ta tv:TE}
def Wb (he:PE X e ta)(hb:attributeBase e f X.env (eval e X.env)=eval e X.env):PE X (.Attribute e f pos) (a3f X.K ta f):=by
 intro vy s U H Q I h;refine F0 hb (bu (he vy s U H _ I h) ?_);rintro u s1 ⟨x,H1,I1,rx,a,C,dx,fs,v,ex,ea,c,n,l,q⟩;subst ex;obtain rfl:u=Value.ref a:=rx;exact Df I1 ea c n l λu' s2 I2 ru=>⟨v,H1,I2,ru,q⟩
def VU (ha:PE X o ta)(hv:PE X value tv)(hs:swapsWith value (some (.Attribute o f pos')) pos.line X.env=pure false):PS X (.Assign [.Attribute o f pos'] value pos) (a3v X.K ta tv f):=by
 intro vy s U H D I h;refine plainObj_wpAny_Assign_Attribute (bu (hv vy s U H _ I h) ?_) hs;rintro u s1 ⟨y,H1,I1,ry,q⟩;refine bu (ha vy s1 U H1 _ I1 q) ?_;rintro ov s2 ⟨x,H2,I2,rx,a,C,dx,fs,ex,ea,c,n,l,q2⟩;subst ex;obtain rfl:ov=Value.ref a:=rx;exact CH I2 ea c n l ry λs3 I3=>⟨U,_,I3,q2⟩
end
section
variable {X:Cx}{vy:jcZ}{U:St}{H:Hp}{s:Shared}{A:Around}{E:jc0}{Q:jc0}{c:Value}{b:Bool}
inductive qI (K:Frag) (H:Hp):V->Value->Prop where
 |ck:qI K H .ck (.type "NoneType")
 |bl (x:Bool):qI K H (.bl x) (.type "bool")
 |int (i:Int):qI K H (.int i) (.type "int")
 |str (x:Str):qI K H (.str x) (.type "str")
 |lst {a:Addr} {xs:List V} (e:H a=some (.lst xs)):qI K H (.ref a) (.type "list")
 |qC {a:Addr} {o:Obj} {xs:List V} (e:H a=some (.qC o (.lst xs))):qI K H (.ref a) (.type "list")
 |tup {a:Addr} {xs:List V} (e:H a=some (.tup xs)):qI K H (.ref a) (.type "tuple")
 |dK {a:Addr} {kvs:List (Key×V)} (e:H a=some (.dK kvs)):qI K H (.ref a) (.type "dict")
 |dT {a:Addr} {kvs:List (List Key×V)} (e:H a=some (.dT kvs)):qI K H (.ref a) (.type "dict")
 |ins {a C dx:Addr} {fs:List (Str×V)} (e:H a=some (.ins C dx fs)) (cl:Rx K C) (ha:findIn K (.ref C) "__class__"=some (some (.builtin "object.__class__")))
   (hn:specialIn K (.builtin "object.__class__") "__get__"=some (some (.builtin "getset_descriptor.__get__"))) (htk:takesIn K (.builtin "object.__class__")=some true)
   (hm:mroIn K C (.type "object")=some true):qI K H (.ref a) (.ref C)
theorem Hj {x:V}{u t:Value}(I:Inv X vy U H s)(rx:RelV x u)(ty:qI X.K H x t)(e:kitOne X.K t c=some b)(h:∀tk,Q (.bool b) {s with toks:=tk }) :
  wpAny (model X.prog X.w) A (call (.builtin "isinstance") [u,c]) Q E s:=by
 cases ty with
 |ck=>cases(show u=Value.none from rx);exact jbq PySem.W.kitx_none I.ig True.intro e (λz=>nomatch z) h
 |bl y=>cases(show u=Value.bool y from rx);exact jbq PySem.W.kitx_bool I.ig True.intro e (λz=>nomatch z) h
 |int i=>obtain⟨t,q⟩:=(show ∃t,u=Value.int i t from rx);cases q;exact jbq PySem.W.kitx_int I.ig True.intro e (λz=>nomatch z) h
 |str y=>obtain⟨t,q⟩:=(show ∃t,u=Value.str y t from rx);cases q;exact jbq PySem.W.kitx_str I.ig True.intro e (λz=>nomatch z) h
 | @lst a xs ea=>
  cases(show u=Value.ref a from rx);obtain⟨_,_,n,_,h1⟩:=(show bB X.prog X.w H s.heap a (.lst xs) from I.hok a _ ea)
  exact jbq kitx_list I.ig ⟨_,h1,M⟩ e (λz=>nomatch z) h
 | @qC a ob xs ea=>
  cases(show u=Value.ref a from rx);obtain⟨_,_,_,n,_,h1⟩:=(show bB X.prog X.w H s.heap a (.qC ob (.lst xs)) from I.hok a _ ea)
  exact jbq kitx_list I.ig ⟨_,h1,M⟩ e (λz=>nomatch z) h
 | @tup a xs ea=>
  cases(show u=Value.ref a from rx);obtain⟨_,_,_,p⟩:=(show bB X.prog X.w H s.heap a (.tup xs) from I.hok a _ ea)
  obtain⟨o,h1,h2,_⟩:=p;exact jbq PySem.W.kitx_tuple I.ig ⟨o,h1,h2⟩ e (λz=>nomatch z) h
 | @dK a kvs ea=>
  cases(show u=Value.ref a from rx);obtain⟨_,_,vs,_,p⟩:=(show bB X.prog X.w H s.heap a (.dK kvs) from I.hok a _ ea)
  obtain⟨o,es,ep,h1,h2,_⟩:=p;exact jbq kitx_dict I.ig ⟨o,h1,h2.1⟩ e (λz=>nomatch z) h
 | @dT a kvs ea=>
  cases(show u=Value.ref a from rx);obtain⟨_,_,xs,_,o,es,ep,h1,h2,_⟩:=(show bB X.prog X.w H s.heap a (.dT kvs) from I.hok a _ ea)
  exact jbq kitx_dict I.ig ⟨o,h1,h2.1⟩ e (λz=>nomatch z) h
 | @ins a C dx fs ea cl ha hn htk hm=>
  cases(show u=Value.ref a from rx);obtain⟨mA,O,_⟩:=tY I.hok ea;obtain⟨od,J,_⟩:=O.look;exact jbq (PySem.W.kitx_own (cl.get _) cl.hd ha hn htk hm) I.ig J e (λz=>nomatch z) h
end
structure bR (k:Nat)(A:Around):Prop where
 hd:A.handled=none
 dp:A.depth+3*k+5<recursionLimit
 un:A.units+16*k+200<cLine
def bR.mono {j k:Nat}{A:Around}(r:bR k A)(h:j<=k):bR j A:=⟨r.hd,by have:=r.dp;omega,by have:=r.un;omega⟩
def bR.m {j k:Nat}{A:Around}(r:bR k A)(h:j<=k:=by first | decide | omega):bR j A:=r.mono h
theorem bR.deeper {k:Nat}{A:Around}(r:bR (k+1) A)(env:Env):bR k (A.deeper env):=
 ⟨r.hd,by have:=r.dp;show A.depth+1+3*k+5<_;omega,by have:=r.un;show A.units+3+16*k+200<_;omega⟩
def C6 {A:Around}{C:Addr}{us:jc3}{kw:List (Str×Value)}:(A.under (.builtin "type.__call__" ⟨.ref C::us,kw⟩)).depth=A.depth+1:=by
 first | rfl | simp[Around.under,Code.weight,Code.isCreation,Code.isGuard,Code.isCaller,Code.frames,Code.isFrame,guardIds]
def C5 {A:Around}{C:Addr}{us:jc3}{kw:List (Str×Value)}:(A.under (.builtin "type.__call__" ⟨.ref C::us,kw⟩)).units=A.units+1:=by
 first | rfl | simp[Around.under,Code.cUnits,Code.frames,Code.isFrame]
theorem bR.make {k:Nat}{A:Around}(r:bR (k+1) A)(C:Addr)(us:jc3)(kw:List (Str×Value)):bR k (A.under (.builtin "type.__call__" ⟨.ref C::us,kw⟩)):=
 ⟨r.hd,by have:=r.dp;rw[C6];omega,by have:=r.un;rw[C5];omega⟩
def bR.depth {k:Nat}{A:Around}(r:bR k A):A.depth<recursionLimit:=by have:=r.dp;omega
def bR.units {k:Nat}{A:Around}(r:bR k A):A.units+64<cLine:=by have:=r.un;omega
def Y4:TA:=λ_ H Q=>Q [] H
def Jl (ta:TE)(tr:TA):TA:=λU H Q=>ta U H λx H1=>tr U H1 λxs H2=>Q (x::xs) H2
section
variable {X:Cx}{e:Expr}{es:jc5}{te:TE}{t:TA}{pos:Pos}
def uR:PA X [] Y4:=λ_ _ _ _ H Q I h=>Calls.spliced_nil ⟨[],H,I,.nil,h⟩
def k6 (ha:PE X e te)(hr:PA X es t)(hs:autoParam (starEach (e::es) X.env=(false,eval e X.env)::starEach es X.env) zi):PA X (e::es) (Jl te t):=by
 intro pos vy s U H Q I h;rw[hs];show wpAny _ _ (spliced ((false,eval e X.env)::backTo pos (starEach es X.env))) _ _ s;refine Calls.spliced_cons (bu (ha vy s U H _ I h) ?_);rintro u s1 ⟨x,H1,I1,r1,q1⟩;exact bu (hr pos vy s1 U H1 _ I1 q1) (by rintro us s2 ⟨xs,H2,I2,r2,q2⟩;exact⟨x::xs,H2,I2,.cons r1 r2,q2⟩)
def a3a (t:TA):TE:=λU H Q=>t U H λxs H1=>xs.length<=sizeLine/\∀p,H1 p=none->Q (.ref p) (upd H1 p (.tup xs))
def Og (t:TA):TE:=λU H Q=>t U H λxs H1=>xs.length<=sizeLine/\∀p,H1 p=none->Q (.ref p) (upd H1 p (.lst xs))
def V7 {x1}(h:PA X es t):PE X (.Tuple es x1 pos) (a3a t):=by
 intro vy s U H Q I hq;refine wpAny_Tuple_spliced (bu (h pos vy s U H _ I hq) λus s1 ⟨xs,H1,I1,r,z,q⟩=>⟨by rw[<- r.length];exact z,?_⟩);have hf:H1 s1.heap.objs.size=none:=I1.hok.fresh (jaj _);refine⟨.ref s1.heap.objs.size,upd H1 s1.heap.objs.size (.tup xs),I1.laid (t':=s1.toks) (λb u e=>jat _ e) (jaj _) ?_,M,q _ hf⟩;exact⟨z,us,r,⟨_,jaP _ M,M,_,M⟩⟩
def CP (h:PA X es t):PE X (.List es pos) (Og t):=by
 intro vy s U H Q I hq;refine wpAny_List_spliced (bu (h pos vy s U H _ I hq) λus s1 ⟨xs,H1,I1,r,z,q⟩=>⟨by rw[<- r.length];exact z,?_⟩);have hf:H1 s1.heap.objs.size=none:=I1.hok.fresh (jaj _);refine⟨.ref s1.heap.objs.size,upd H1 s1.heap.objs.size (.lst xs),I1.laid (t':=s1.toks) (λb u e=>jat _ e) (jaj _) ?_,M,q _ hf⟩;exact⟨z,us,0,r,jaP _ M⟩
end
abbrev Sp:=List V->Hp->VK->XK->Prop
abbrev D3:=List Env->Hp->Shared->XK->Value->Shared->Prop
structure DQ (P:Program)(w:World)(K:Frag)(mg:Str->Option Value)(base:Heap)(A:Around)(outer:List Env)(s:Shared)(H:Hp):Prop where
 frames:A.frames=some outer
 mod:Mod K mg base
 bs:∀b o,base.get? b=some o->s.heap.get? b=some o/\H b=none
 Hz:base.objs.size<=s.heap.objs.size
 nB:s.heap.FunFrames base outer
 NS:∀b∈frs outer,H b=none
 hok:iZ P w H s.heap
 bare:AllBare s.gens
def CE (outer:List Env)(P:Program)(w:World)(H:Hp)(s:Shared)(Q:VK)(u:Value)(s':Shared):Prop:=
 ∃v H',s'.os=s.os/\AllBare s'.gens/\Un (frs outer) [] H H' s.heap s'.heap/\iZ P w H' s'.heap/\RelV v u/\Q v H'
def CR (CX:D3)(outer:List Env)(P:Program)(w:World)(H:Hp)(s:Shared)(Q:VK)(E:XK)(r:Result)(s':Shared):Prop:=
 match r with
 |.ok (.ret u)=>CE outer P w H s Q u s'
 |.ok _=>False
 |.error e=>CX outer H s E e s'
structure aG (P:Program)(w:World)(K:Frag)(mg:Str->Option Value)(base:Heap)(CX:D3)(k:Nat)(f:Addr)(fd:FuncData)(ps:List Str)(sp:Sp):Prop where
 len:∀vs H Q E,sp vs H Q E->vs.length=ps.length
 run:∀(A:Around)(outer:List Env)(s:Shared)(H:Hp)(args:Args)(us:List Value)(vs:List V) (Q:VK) (E:XK),bR k A->DQ P w K mg base A outer s H->BindsTo s fd args (ps.zip us)->Vals vs us->sp vs H Q E->
  codeAny (model P w) A (.call (.ref f) args) (CR CX outer P w H s Q E) s
theorem aG.mono {P:Program}{w:World}{K:Frag}{mg:Str->jc7}{base:Heap}{CX:D3}{j k:Nat}{f:Addr}{fd:FuncData}{ps:jc2}{sp:Sp}(F:aG P w K mg base CX j f fd ps sp)(h:j<=k) :
  aG P w K mg base CX k f fd ps sp:=⟨F.len,λA outer s H args us vs Q E hr=>F.run A outer s H args us vs Q E (hr.mono h)⟩
theorem DQ.make {P:Program}{w:World}{K:Frag}{mg:Str->jc7}{base:Heap}{A:Around}{outer:List Env}{s:Shared}{H:Hp}(e:DQ P w K mg base A outer s H)(C:Addr)(us:jc3)(kw:List (Str×Value)) :
  DQ P w K mg base (A.under (.builtin "type.__call__" ⟨.ref C::us,kw⟩)) outer s H:=⟨by first | exact e.frames | (simpa[Around.under,Code.envs,Code.isFrame,pushEnvs] using e.frames),e.mod,e.bs,e.Hz,e.nB,e.NS,e.hok,e.bare⟩
section
variable {X:Cx}{vy:jcZ}{U:St}{H:Hp}{s s':Shared}
theorem Inv.Xr (I:Inv X vy U H s):DQ X.prog X.w X.K X.mg X.base X.A X.stack s H:=
 ⟨I.ok.frames,I.ok.mod,I.bs,jap I.ok.Hz I.sz,I.stack,I.kO,I.hok,I.bare⟩
def Inv.after {Q:VK}{u:Value}(I:Inv X vy U H s)(h:CE X.stack X.prog X.w H s Q u s'):EP X vy U Q u s':=by
 obtain⟨v,H',os,bare,un,hok,r,q⟩:=h;obtain⟨hh,g,d,t,os'⟩:=s';obtain rfl:os'=s.os:=os;exact⟨v,H',I.call (h':=hh) (g':=g) (d':=d) (t':=t) (ch:=[]) un hok bare (λb z=>absurd z (by simp)),r,q⟩
end
def Jo (sp:Sp)(vU:List V)(E:XK)(t:TA):TE:=λU H Q=>t U H λvs H1=>sp (vs++vU) H1 Q E
def RL (C:Addr)(sp:Sp)(vU:List V)(E:XK)(t:TA):TE:=λU H Q=>t U H λvs H1=>∀x dx,H1 x=none->H1 dx=none->dx≠x->
 sp (.ref x::(vs++vU)) (upd (upd H1 dx (.own x)) x (.ins C dx [])) (λv H2=>v=.ck/\Q (.ref x) H2) E
def Binds (K:Frag)(fd:FuncData)(ps:jc2)(ds:jc3):Prop:=
 ∀(s:Shared)(us:jc3),K.In s.heap->(us++ds).length=ps.length->BindsTo s fd ⟨us,[]⟩ (ps.zip (us++ds))
theorem Binds.all {K:Frag}{fd:FuncData}{ps:jc2}(h:∀us:jc3,us.length=ps.length->bindArgs fd ⟨us,[]⟩=pure (ps.zip us)):Binds K fd ps []:=λs us _ hl=>by
 rw[jaK] at hl ⊢;exact .of_eq (h us hl)
def Passes (CX:D3)(X:Cx)(E:XK):Prop:=∀(vy:jcZ) (U:St) (H:Hp) (s:Shared) (e:Value) (s':Shared),Inv X vy U H s->CX X.stack H s E e s'->X.xe e s'
section
variable {X:Cx}{CX:D3}{k:Nat}{f C:Addr}{fd:FuncData}{ps:jc2}{sp:Sp}{vU:List V}{ds:jc3}{E:XK}{x m:Str}{p pos BM:Pos}{e o:Expr}{es:jc5}{ta:TE}{t:TA}
theorem ng {vy:jcZ}{U:St}{H:Hp}{s:Shared}{Q:VK}{us:jc3}{vs:List V}(F:aG X.prog X.w X.K X.mg X.base CX k f fd ps sp)(hr:bR k X.A)(hb:Binds X.K fd ps ds)(hd:Vals vU ds)(hx:Passes CX X E)
  (I:Inv X vy U H s) (r:Vals vs us) (h:sp (vs++vU) H Q E):wpAny (model X.prog X.w) X.A (call (.ref f) us) (EP X vy U Q) X.xe s:=by
 have r2:Vals (vs++vU) (us++ds):=r.append hd;have hl:(us++ds).length=ps.length:=by rw[<- r2.length];exact F.len _ _ _ _ h
 refine jbV (codeAny_mono (F.run X.A X.stack s H ⟨us,[]⟩ (us++ds) (vs++vU) Q E hr I.Xr (hb s us I.ig hl) r2 h) λr s' hq=>?_);cases r with
 |error e=>exact hx vy U H s e s' I hq
 |ok fl=>
  cases fl with
  |ret u=>exact I.after hq
  |next=>exact False.elim hq
  |brk=>exact False.elim hq
  |cont=>exact False.elim hq
theorem Pz (F:aG X.prog X.w X.K X.mg X.base CX k f fd ps sp)(hr:bR k X.A)(hg:Gl X x)(hm:X.mg x=some (.ref f))(hk:keepIn X.K (.ref f)=true)(hb:Binds X.K fd ps ds)(hd:Vals vU ds)(hx:Passes CX X E)
  (ha:PA X (e::es) t) (hdb:autoParam ((x==("__debug__":Str))=false) zn) (he:autoParam (starEach (e::es) X.env=(false,eval e X.env)::starEach es X.env) zi) (hpl:autoParam ((backTo pos (starEach es X.env)).any (·.1)=false) zi) :
  PE X (.Call (.Name x p) (e::es) [] pos) (Jo sp vU E t):=by
 intro vy s U H Q I h;refine jce (jq I hg hm ?_ hdb);refine jcf (h₀:=X.base) I.ok.mod.NN hk (bu (ha pos vy s U H _ I h) λus s1 ⟨vs,H1,I1,r,q⟩=>⟨I1.ig,?_⟩) he hpl;exact ng F hr hb hd hx I1 r q
theorem K6 (F:aG X.prog X.w X.K X.mg X.base CX k f fd ps sp)(hr:bR k X.A)(hg:Gl X x)(hm:X.mg x=some (.ref f))(hk:keepIn X.K (.ref f)=true)(hb:Binds X.K fd ps ds)(hd:Vals vU ds)(hx:Passes CX X E)
  (hdb:autoParam ((x==("__debug__":Str))=false) zn):PE X (.Call (.Name x p) [] [] pos) (Jo sp vU E Y4):=by
 intro vy s U H Q I h;refine jce (jq I hg hm ?_ hdb);exact callWith_K0 I.ig hk (ng (us:=[]) F hr hb hd hx I .nil h)
structure Mk (K:Frag)(C f:Addr):Prop where
 makes:makesIn K C=true
 init:findIn K (.ref C) "__init__"=some (some (.ref f))
 fn:isFn K (.ref f)=true
 kp:keepIn K (.ref C)=true
theorem J6 {vy:jcZ}{U:St}{H:Hp}{s:Shared}{Q:VK}{us:jc3}{vs:List V}(jcY:Mk X.K C f)(F:aG X.prog X.w X.K X.mg X.base CX k f fd ps sp)(hr:bR (k+1) X.A)(hb:Binds X.K fd ps ds)(hd:Vals vU ds)
  (hx:Passes CX X E) (I:Inv X vy U H s) (r:Vals vs us)
  (h:∀x dx,H x=none->H dx=none->dx≠x->sp (.ref x::(vs++vU)) (upd (upd H dx (.own x)) x (.ins C dx [])) (λv H2=>v=.ck/\Q (.ref x) H2) E) :
  wpAny (model X.prog X.w) X.A (call (.ref C) us) (EP X vy U Q) X.xe s:=by
 have hq:=h (s.heap.objs.size+1) s.heap.objs.size (I.hok.fresh (Nat.le_succ _)) (I.hok.fresh (jaj _)) (jaM (jb5 _));have I2:=Inv.made (C:=C) I;have r2:Vals (V.ref (s.heap.objs.size+1)::(vs++vU)) (Value.ref (s.heap.objs.size+1)::(us++ds)):=.cons rfl (r.append hd);have hl:(Value.ref (s.heap.objs.size+1)::us++ds).length=ps.length:=by
  have e:=r2.length;rw[F.len _ _ _ _ hq] at e;exact e.symm
 refine jbV (LU (f:=f) I.ig jcY.makes jcY.init (jaZ.mp jcY.fn) (codeAny_mono (F.run _ X.stack _ _ ⟨Value.ref (s.heap.objs.size+1)::us,[]⟩ (Value.ref (s.heap.objs.size+1)::(us++ds)) _ _ E (hr.make C us [])
  (I2.Xr.make C us []) (hb _ (Value.ref (s.heap.objs.size+1)::us) I2.ig hl) r2 hq) λr s' hq'=>?_))
 cases r with
 |error e=>exact hx vy U _ _ e s' I2 hq'
 |ok fl=>
  cases fl with
  |ret u=>
   obtain⟨v,H',I3,rv,ev,q3⟩:=I2.after hq';subst ev;exact⟨rv,⟨V.ref (s.heap.objs.size+1),H',I3,M,q3⟩⟩
  |next=>exact False.elim hq'
  |brk=>exact False.elim hq'
  |cont=>exact False.elim hq'
theorem Pp (jcY:Mk X.K C f)(F:aG X.prog X.w X.K X.mg X.base CX k f fd ps sp)(hr:bR (k+1) X.A)(hg:Gl X x)(hm:X.mg x=some (.ref C))(hb:Binds X.K fd ps ds)(hd:Vals vU ds)(hx:Passes CX X E)
  (ha:PA X (e::es) t) (hdb:autoParam ((x==("__debug__":Str))=false) zn) (he:autoParam (starEach (e::es) X.env=(false,eval e X.env)::starEach es X.env) zi) (hpl:autoParam ((backTo pos (starEach es X.env)).any (·.1)=false) zi) :
  PE X (.Call (.Name x p) (e::es) [] pos) (RL C sp vU E t):=by
 intro vy s U H Q I h;refine jce (jq I hg hm ?_ hdb);refine jcf (h₀:=X.base) I.ok.mod.NN jcY.kp (bu (ha pos vy s U H _ I h) λus s1 ⟨vs,H1,I1,r,q⟩=>⟨I1.ig,?_⟩) he hpl;exact J6 jcY F hr hb hd hx I1 r q
end
section
variable {X:Cx}{CX:D3}{k:Nat}{f C:Addr}{fd:FuncData}{ps ks:jc2}{sp:Sp}{E:XK}{x m:Str}{p pos BM kpos:Pos}{e o:Expr}{es:jc5}{kws:List Keyword}{te ta:TE}{t tk:TA}{nm:Option Str}
variable {g:jc3->jc3->jc3}{gV:List V->List V->List V}
end
structure au (N P:List Str)(sc:Scope):Prop where
 kind:sc.kind=.function
 co:sc.isCoroutine=false
 gen:sc.isGenerator=false
 nd:N.Nodup
 pre:N.take P.length=P
 par:∀x∈P,sc.names.lookup x=some .local\/sc.names.lookup x=some .cell
 Wx:∀y∈sc.names,y.2≠.free
def dw {N P:jc2}{sc:Scope}(a:autoParam (sc.kind=.function) zi)(b:autoParam (sc.isCoroutine=false) zi)(c:autoParam (sc.isGenerator=false) zi)(d:autoParam (N.Nodup) km)(e:autoParam (N.take P.length=P) zi)(f:autoParam (∀x∈P,sc.names.lookup x=some .local\/sc.names.lookup x=some .cell) km)(g:autoParam (∀y∈sc.names,y.2≠.free) km):au N P sc:=⟨a,b,c,d,e,f,g⟩
theorem xE {kindOf:Str->Option NameKind}{x:Str}:∀{binds:List (Str×Value)} {m:Str->jc7},(∀v,(x,v)∉binds)->bindL kindOf binds m x=m x
 |[],_,_=>rfl
 |(n,v)::r,m,h=>by
  unfold bindL;rw[xE λw hw=>h w (jah _ hw)];split
  .have:x≠n:=by rintro rfl;exact h v jai
   simp[this]
  .rfl
theorem xH {kindOf:Str->Option NameKind}{x:Str}:∀{binds:List (Str×Value)} {m:Str->jc7},(∀v,(x,v)∉binds)->bindC kindOf binds m x=m x
 |[],_,_=>rfl
 |(n,v)::r,m,h=>by
  unfold bindC;rw[xH λw hw=>h w (jah _ hw)];split
  .rfl
  .have:x≠n:=by rintro rfl;exact h v jai
   simp[this]
theorem xG {kindOf:Str->Option NameKind}{x:Str}{v:Value}:∀{P:jc2}{vs:jc3}{i:Nat}{m:Str->jc7},P.Nodup->P[i]?=some x->vs[i]?=some v->kindOf x=some .local->
  bindL kindOf (P.zip vs) m x=some v
 |[],_,_,_,_,h,_,_=>by simp at h
 |_::_,[],_,_,_,_,h,_=>by simp at h
 |p::P,w::vs,0,m,nd,h1,h2,hk=>by
  simp at h1 h2;subst h1;subst h2;show bindL kindOf ((p,w)::P.zip vs) m p=_;unfold bindL;rw[xE λv hv=>(jbP.mp nd).1 (List.of_mem_zip hv).1,jab hk];simp
 |p::P,w::vs,i+1,m,nd,h1,h2,hk=>by
  show bindL kindOf ((p,w)::P.zip vs) m x=_;unfold bindL;exact xG (i:=i) (jbP.mp nd).2 (by simpa using h1) (by simpa using h2) hk
theorem xJ {kindOf:Str->Option NameKind}{x:Str}{v:Value}:∀{P:jc2}{vs:jc3}{i:Nat}{m:Str->jc7},P.Nodup->P[i]?=some x->vs[i]?=some v->kindOf x≠some .local->
  bindC kindOf (P.zip vs) m x=some v
 |[],_,_,_,_,h,_,_=>by simp at h
 |_::_,[],_,_,_,_,h,_=>by simp at h
 |p::P,w::vs,0,m,nd,h1,h2,hk=>by
  simp at h1 h2;subst h1;subst h2;show bindC kindOf ((p,w)::P.zip vs) m p=_;unfold bindC;rw[xH λv hv=>(jbP.mp nd).1 (List.of_mem_zip hv).1,jaa hk];simp
 |p::P,w::vs,i+1,m,nd,h1,h2,hk=>by
  show bindC kindOf ((p,w)::P.zip vs) m x=_;unfold bindC;exact xJ (i:=i) (jbP.mp nd).2 (by simpa using h1) (by simpa using h2) hk
def start (N:jc2)(vs:List V):St:=vs.map some++List.replicate (N.length - vs.length) none
def zC (CX:D3)(P:Program)(w:World)(K:Frag)(mg:Str->jc7)(base:Heap)(N:jc2)(qual:Str)(scope:Scope)(f:Addr)(cd:Value)(A:Around)(outer:List Env)(s:Shared)(H:Hp)(E:XK):Cx where
 prog:=P
 w:=w
 K:=K
 mg:=mg
 base:=base
 A:=A.deeper (envOfC qual scope s.heap.objs.size f cd)
 N:=N
 s₀:=s
 H₀:=H
 env:=envOfC qual scope s.heap.objs.size f cd
 outer:=outer
 stack:=envOfC qual scope s.heap.objs.size f cd::outer
 ex:=[]
 calm:=true
 fn:=λ_=>true
 pn:=[]
 xe:=λe s'=>wpAny (model P w) (A.deeper (envOfC qual scope s.heap.objs.size f cd)) (leaving (envOfC qual scope s.heap.objs.size f cd) e) (λ_ s''=>CX outer H s E e s'') (λe' s''=>CX outer H s E e' s'') s'
def Bx {sc:Scope}{n:Nat}{x:Str}(h:sc.names.lookup x=some .cell):∃c,(cellsFrom n sc.names []).lookup x=some c:=by
 have q:=cellsFrom_some sc.names n [] (.inl h);exact jcq.mp q
theorem Hq {CX:D3}{P:Program}{w:World}{K:Frag}{mg:Str->jc7}{base:Heap}{N ps:jc2}{qual:Str}{scope:Scope}{f:Addr}{cd:Value}{A:Around}{outer:List Env}{s s1:Shared}{H:Hp}{E:XK}{us:jc3}{vs:List V}
  (S:au N ps scope) (hd:A.handled=none) (e0:DQ P w K mg base A outer s H) (hl:vs.length=ps.length) (r:Vals vs us)
  (x:InCallC s s.heap.objs.size (bindL (envOfC qual scope s.heap.objs.size f cd).kindOf (ps.zip us) λ_=>none) (cellsFrom (s.heap.objs.size+1) scope.names []) (bindC (envOfC qual scope s.heap.objs.size f cd).kindOf (ps.zip us) λ_=>none) s1) :
  Inv (zC CX P w K mg base N qual scope f cd A outer s H E) [] (start N vs) H s1:=by
 have hpl:ps.length<=N.length:=by have:=jae List.length S.pre;rw[jci] at this;omega
 obtain⟨h1,tk,rfl,hk⟩:=x.done;have noA:∀b:Addr,b∉(zC CX P w K mg base N qual scope f cd A outer s H E).ex:=λb z=>absurd (show b∈([]:jc4) from z) (by simp);refine⟨⟨e0.mod,S.kind,M,M,jaj _,λy z c h1 h2=>?_,λy hy=>?_,λy c _ h=>?_,λ_=>hd,Around.frames_deeper e0.frames,.inr ⟨M,M⟩,λb z=>absurd z (noA b),e0.bs,e0.Hz,λb _ _=>noA b,λb z=>absurd z (noA b),e0.nB,e0.NS⟩,
  M,e0.bare,Un.kept hk,⟨_,x.toInCall.ns,λi y v h1 h2 h3=>?_⟩,λy c h=>⟨_,x.cell y c h⟩,e0.hok.fresh (jaj _),λy c h=>?_,λp hp=>absurd (show p∈([]:jcZ) from hp) (by simp),e0.hok.kept hk,?_⟩
 .exact name_of_addr x.apart (jb1 h1) (jb1 h2)
 .have hy:scope.names.lookup y=some .cell\/scope.names.lookup y=some .free:=hy;rcases hy with hy | hy
  .exact Bx hy
  .exact absurd rfl (S.Wx _ (jb1 hy))
 .exact jbi (x.above y c (jb1 h))
 .have hi:i<vs.length:=by
   unfold start at h2;by_cases hi:i<vs.length
   .exact hi
   .rw[ja7 (by simpa using hi)] at h2;rw[jbW] at h2;split at h2<;>cases h2
  have ha:vs[i]?=some v:=by
   unfold start at h2;rw[jaF (by simpa using hi),jax] at h2;cases e:vs[i]? with
   |none=>rw[e] at h2;cases h2
   |some a=>rw[e] at h2;cases h2;rfl
  obtain⟨u,hu,rv⟩:=r.get ha;have hp:ps[i]?=some y:=by
   rw[<- S.pre,List.getElem?_take_of_lt (by omega)];exact h1
  have ndP:ps.Nodup:=by rw[<- S.pre];exact S.nd.sublist (List.take_sublist _ _)
  refine⟨u,rv,?_⟩;rcases S.par y (jbd hp) with k | k
  .exact .inl ⟨k,xG ndP hp hu k⟩
  .obtain⟨c,e⟩:=Bx (n:=s.heap.objs.size+1) k;refine .inr ⟨.inl k,c,e,?_⟩;have q:=x.cell y c e;rw[xJ ndP hp hu (by show scope.names.lookup y≠_;rw[k];decide)] at q;exact q
 .exact e0.hok.fresh (jbi (x.above y c (jb1 h)))
 .unfold start;show _=N.length;rw[jaD,jad,jbX];omega
theorem Tn {CX:D3}{P:Program}{w:World}{K:Frag}{mg:Str->jc7}{base:Heap}{k:Nat}{f:Addr}{name qual:Str}{params:Arguments}{body:List Stmt}{scope:Scope}{dV kV doc pm AT ct oc:Value}{an od:jc6}
  {osl:jc1} {N ps:jc2} {sp:Sp} (lk:K.lookup f=some ⟨oc,od,.func (fnOf name qual params body scope dV kV doc pm an AT ct),osl⟩) (hcd:codeIn K AT qual=true) (S:au N ps scope)
  (len:∀vs H Q E,sp vs H Q E->vs.length=ps.length)
  (hbody:∀(A:Around)(outer:List Env)(s:Shared)(H:Hp)(vs:List V)(Q:VK)(E:XK),bR k (A.deeper (envOfC qual scope s.heap.objs.size f AT))->sp vs H Q E->
   ∃t,b5 (zC CX P w K mg base N qual scope f AT A outer s H E) body t/\t {nx:=λ_ H'=>Q .ck H',rt:=Q } (start N vs) H) :
  aG P w K mg base CX (k+1) f (fnOf name qual params body scope dV kV doc pm an AT ct) ps sp:=by
 refine⟨len,λA outer s H args us vs Q E hr e0 hb r NP=>?_⟩;have hl:=len _ _ _ _ NP;have KX:K.In s.heap:=e0.mod.NN.keeps λb o e=>(e0.bs b o e).1;have lim:s.heap.NoLimit:=e0.mod.nolimit.keeps λb o e=>(e0.bs b o e).1;have hkind:∀y∈ps.zip us,scope.names.lookup y.1=some .local\/(scope.names.lookup y.1=some .cell/\((cellsFrom (s.heap.objs.size+1) scope.names []).lookup y.1).isSome=true):=λ⟨n,v⟩ hy=>by
  rcases S.par n (List.of_mem_zip hy).1 with q | q
  .exact .inl q
  .exact .inr ⟨q,cellsFrom_some _ _ _ (.inl q)⟩
 refine codeAny_call_function hr.depth (KX _ _ lk) rfl S.co S.gen rfl (PySem.W.codeRec_of KX hcd) (hb _ _ _ _ ?_);refine wpAny_newFunctionEnv_cells S.kind hkind λenv he s1 x=>?_;subst he;refine⟨lim.keeps x.toInCall.keep,codeAny_func ?_⟩;obtain⟨t,ht,hq⟩:=hbody A outer s H vs Q E (hr.deeper _) NP;have I:Inv (zC CX P w K mg base N qual scope f AT A outer s H E) [] (start N vs) H s1:=Hq S hr.hd e0 hl r x;refine jaN (ht [] s1 (start N vs) H _ I hq) (λfl s' hs=>?_) λe s' hs=>hs;have fin:∀{U':St}{H':Hp}{v:V}{u:Value},Inv (zC CX P w K mg base N qual scope f AT A outer s H E) [] U' H' s'->RelV v u->Q v H'->CE outer P w H s Q u s':=
  λ{U' H' v u} J rv q=>⟨v,H',J.os,J.bare,J.base,J.hok,rv,q⟩
 cases fl with
 |ret u=>
  obtain⟨v,U',H',J,rv,q⟩:=hs;exact fin J rv q
 |next=>
  obtain⟨U',H',J,q⟩:=hs;exact fin (v:=V.ck) (u:=Value.none) J rfl q
 |brk=>
  obtain⟨_,_,_,q⟩:=hs;exact False.elim q
 |cont=>
  obtain⟨_,_,_,q⟩:=hs;exact False.elim q
section
variable {X:Cx}{x:Str}{p pos:Pos}{e:Expr}{es:jc5}{t:TA}{id T:String}{r:List V->Hp->VK->Prop}
def Zf (r:List V->Hp->VK->Prop)(t:TA):TE:=λU H Q=>t U H λvs H1=>r vs H1 Q
theorem K5 (hc:dN X (.builtin id) r)(hg:Gl X x)(hm:X.mg x=none)(hv:bootBuiltins x=some (.builtin id))(ha:PA X (e::es) t)(hn:autoParam (x≠"__name__") zn)(hdb:autoParam ((x==("__debug__":Str))=false) zn)
  (he:autoParam (starEach (e::es) X.env=(false,eval e X.env)::starEach es X.env) zi) (hpl:autoParam ((backTo pos (starEach es X.env)).any (·.1)=false) zi):PE X (.Call (.Name x p) (e::es) [] pos) (Zf r t):=by
 intro vy s U H Q I h;refine jce (qu I hg hm hv ?_ hn hdb);exact PyProof.Rows.callWith_builtin1 (bu (ha pos vy s U H _ I h) (by rintro us s1 ⟨vs,H1,I1,r1,q1⟩;exact hc vy s1 U H1 vs us Q I1 r1 q1)) he hpl
theorem GC (hc:dN X (.type T) r)(hg:Gl X x)(hm:X.mg x=none)(hv:bootBuiltins x=some (.type T))(ha:PA X (e::es) t)(hn:autoParam (x≠"__name__") zn)(hdb:autoParam ((x==("__debug__":Str))=false) zn)
  (he:autoParam (starEach (e::es) X.env=(false,eval e X.env)::starEach es X.env) zi) (hpl:autoParam ((backTo pos (starEach es X.env)).any (·.1)=false) zi):PE X (.Call (.Name x p) (e::es) [] pos) (Zf r t):=by
 intro vy s U H Q I h;refine jce (qu I hg hm hv ?_ hn hdb);exact jcX (bu (ha pos vy s U H _ I h) (by rintro us s1 ⟨vs,H1,I1,r1,q1⟩;exact hc vy s1 U H1 vs us Q I1 r1 q1)) he hpl
end
end L2
namespace HT
open PySem PyProof.Rows
section
open PySem.SeqAt
open PySem.AutoSeq1 (wpAny_loadPart')
open PySem.MeetsSeq PySem.MeetsSeq2 PySem.MeetsSeq3
end
section
variable {prog:Program}{w:World}{A:Around}{E:jc0}{s:Shared}
theorem Rb {t b:Addr}{vs ws:jc3}{Q:jc0}(ht:IsTup s.heap t vs.toArray)(hb:IsTup s.heap b ws.toArray)(hv:vs≠[])
  (h1:ws=[]->Q (.ref t) s) (h2:ws≠[]->Q (.ref s.heap.objs.size) {s with heap:=s.heap.push {cls:=.type "tuple",data:=.seq (vs++ws).toArray } })
  (hsz:vs.length+ws.length<=sizeLine):wpAny (model prog w) A (binaryOp .Add (.ref t) (.ref b)) Q E s:=by
 obtain⟨⟨cls,dd,data,sl⟩,ho,hc,n,hd⟩:=id ht;obtain⟨⟨a5l,dd2,data2,sl2⟩,ho2,hc2,n2,hd2⟩:=id hb;simp only at hc hd hc2 hd2;subst hc hd hc2 hd2;have e:vs.toArray++ws.toArray=(vs++ws).toArray:=by simp
 by_cases hw:ws=[]
 .exact concat_meets ⟨_,ho,M⟩ ⟨_,ho2,M⟩ noFill_tuple_add seq_tuple_add PySem.F.slot_tuple_add PySem.F.entry_tuple_add (PySem.F.args_tuple_add_2 _ _)
   (tuple_addW1 t b vs.toArray ws.toArray n n2 dd dd2 sl sl2 (by simpa using hv) (by simp[hw])) ⟨ho,ho2,h1 hw⟩
 .refine concat_meets ⟨_,ho,M⟩ ⟨_,ho2,M⟩ noFill_tuple_add seq_tuple_add PySem.F.slot_tuple_add PySem.F.entry_tuple_add (PySem.F.args_tuple_add_2 _ _)
   (tuple_addW2 t b vs.toArray ws.toArray n n2 dd dd2 sl sl2 (by simpa using hv) (by simpa using hw) (by rw[jau,jau];exact hsz)) ⟨ho,ho2,?_⟩
  rw[e];exact h2 hw
noncomputable def d7 (n d:Nat):Option Int->Nat
 |none=>d
 |some v=>if v<0 then(v+(n:Int)).toNat else min v.toNat n
def uK (n d:Nat):d7 n d none=d:=rfl
def oU (n d k:Nat):d7 n d (some (k:Int))=min k n:=by
 show(if(k:Int)<0 then((k:Int)+(n:Int)).toNat else min (k:Int).toNat n)=min k n;rw[jaa (by omega),Int.toNat_natCast]
def Ve (n d:Nat)(hd:d<=n)(o:Option Int):d7 n d o<=n:=by
 cases o with
 |none=>exact hd
 |some v=>
  show(if v<0 then(v+(n:Int)).toNat else min v.toNat n)<=n;by_cases hv:v<0
  .rw[jab hv];omega
  .rw[jaa hv];exact Nat.min_le_right _ _
def FH (v:Int)(n d:Nat):(if v<0 then max (v+(n:Int)) 0 else min v (n:Int))=((d7 n d (some v):Nat):Int):=by
 show(if v<0 then max (v+(n:Int)) 0 else min v (n:Int))=(((if v<0 then(v+(n:Int)).toNat else min v.toNat n):Nat):Int);by_cases hv:v<0
 .simp only[jab hv];omega
 .simp only[jaa hv];omega
def DI (lo hi:Option Int)(n:Nat):Builtin.Slice.sliceAdjust lo hi 1 (n:Int)=(((d7 n 0 lo:Nat):Int),((d7 n n hi:Nat):Int)):=by
 have h1:¬((1:Int)<0):=by omega
 unfold Builtin.Slice.sliceAdjust;simp only[h1,if_false];refine Prod.ext ?_ ?_
 .cases lo with
  |none=>rfl
  |some v=>exact FH v n 0
 .cases hi with
  |none=>rfl
  |some v=>exact FH v n n
def CN (i j:Nat):Builtin.Slice.slicePlaces (i:Int) (j:Int) 1=j - i:=by
 unfold Builtin.Slice.slicePlaces;have h1:(1:Int) > 0:=by omega
 simp only[h1,if_true,Int.ediv_one];split<;>omega
def uy {v:Value}{o:Option Int}{Q:Option Int->Shared->Prop}(p:IsPart v o)(h:Q o s):wpAny (model prog w) A (Builtin.Slice.slicePartIndex v) Q E s:=by
 cases p with
 |none=>exact slicePart_none h
 |int i t=>exact slicePart_int h
theorem qe {sl:Addr}{vl vu:Value}{lo hi:Option Int}{n:Nat}{Q:Int×Int×Nat->Shared->Prop}(hs:s.heap.IsSliceOf sl vl vu .none)(pl:IsPart vl lo)(pu:IsPart vu hi)
  (h:Q (((d7 n 0 lo:Nat):Int),1,d7 n n hi - d7 n 0 lo) s):wpAny (model prog w) A (Builtin.Slice.sliceApplied (.ref sl) (pure (n:Int))) Q E s:=by
 obtain⟨os,hos,hcs,hds⟩:=id hs;unfold Builtin.Slice.sliceApplied Builtin.Slice.sliceFields;refine jac (jac (jba hos hds (x:=vl) rfl (jac (jba hos hds (x:=vu) rfl (jac (jba hos hds (x:=.none) rfl (jas ?_)))))));refine jac (slicePart_none ?_);show wpAny _ _ (if((1:Int)==0)=true then _ else _) _ _ s;rw[jaa (by decide)];refine jac (uy pl (jac (uy pu (jac (jas ?_)))));show wpAny _ _ (match Builtin.Slice.sliceAdjust lo hi 1 (n:Int) with | (lo,hi)=>pure (lo,(1:Int),Builtin.Slice.slicePlaces lo hi 1)) _ _ s;rw[DI lo hi n];show wpAny _ _ (pure (((d7 n 0 lo:Nat):Int),(1:Int),Builtin.Slice.slicePlaces ((d7 n 0 lo:Nat):Int) ((d7 n n hi:Nat):Int) 1)) _ _ s;rw[CN];exact jas h
def KP (xs:Array Value)(i k:Nat):((List.range k).filterMap λ(m:Nat)=>xs[((i:Int)+(m:Int)*1).toNat]?).toArray=((xs.toList.drop i).take k).toArray:=by
 have e:(λ(m:Nat)=>xs[((i:Int)+(m:Int)*1).toNat]?)=λm=>xs[i+m]?:=by
  funext m;have:((i:Int)+(m:Int)*1).toNat=i+m:=by omega
  rw[this]
 rw[e];have:=pick_run xs i k;rw[List.filterMap_map] at this;have e2:((λx=>xs[x]?) ∘ λx=>i+x)=λm=>xs[i+m]?:=rfl;rw[e2] at this;rw[this]
theorem o8 {t sl:Addr}{items:Array Value}{vl vu:Value}{lo hi:Option Int}{Q:jc0}(ht:IsTup s.heap t items)(hs:s.heap.IsSliceOf sl vl vu .none)(pl:IsPart vl lo)(pu:IsPart vu hi)
  (hw:¬(d7 items.size 0 lo=0/\d7 items.size items.size hi=items.size))
  (h:Q (.ref s.heap.objs.size) {s with heap:=s.heap.push {cls:=.type "tuple",data:=.seq ((items.toList.drop (d7 items.size 0 lo)).take (d7 items.size items.size hi - d7 items.size 0 lo)).toArray } })
  (hsz:items.size<=sizeLine):wpAny (model prog w) A (getItem (.ref t) (.ref sl)) Q E s:=by
 have Fo:sizeOk (.seq ((items.toList.drop (d7 items.size 0 lo)).take (d7 items.size items.size hi - d7 items.size 0 lo)).toArray):=by
  show((items.toList.drop (d7 items.size 0 lo)).take (d7 items.size items.size hi - d7 items.size 0 lo)).toArray.size<=sizeLine;rw[jau,jci,jay,jcv];omega
 have hj:d7 items.size items.size hi<=items.size:=Ve _ _ (jaj _) hi;obtain⟨os,hos,hcs,hds⟩:=id hs;have hTs:s.TypeIs (.ref sl) "slice":=⟨os,hos,hcs⟩
 unfold getItem
 try with_reducible refine jbn ?_
 first | refine jac (jas ?_) | skip
 refine jac (wpAny_sequenceKey ht.typeIs (by decide) ?_);refine jac (wpAny_callSpecial?_slot (name:=Str.ofString "__getitem__") ht.typeIs jcW
  (wpAny_call_entry jcW ht.typeIs entry_tuple_getitem ?_ (args_tuple_getitem _ _)))
 show wpAny _ _ (Builtin.Tuple.tupleItemsOf (.ref t) >>=_) _ _ s;refine jac (tupleItemsOf_ ht ?_);refine jac (wpAny_typeOf hTs ?_);rw[jab (by decide)];refine jac (qe hs pl pu ?_);have hno:¬((((d7 items.size 0 lo:Nat):Int)==0&&(1:Int)==1&&(d7 items.size items.size hi - d7 items.size 0 lo)==items.size)=true):=by
  intro q;rw[jar,jar] at q;have q1:((d7 items.size 0 lo:Nat):Int)=0:=eq_of_beq q.1.1;have q2:d7 items.size items.size hi - d7 items.size 0 lo=items.size:=eq_of_beq q.2;exact hw ⟨by omega,by omega⟩
 show wpAny _ _ (if(((d7 items.size 0 lo:Nat):Int)==0&&(1:Int)==1&&(d7 items.size items.size hi - d7 items.size 0 lo)==items.size)=true then _ else _) _ _ s;rw[jaa hno,KP]
 first
  |exact jac (m:=Builtin.Tuple.tupleExact _) (jb4 (jas ⟨_,M,jas h⟩) Fo)
  |exact jac (m:=Builtin.Tuple.tupleExact _) (jb4 (jac (jas (jas ⟨_,M,jas h⟩))) Fo)
  |exact jac (jac (m:=Builtin.Tuple.tupleExact _) (jb4 (jas (jas ⟨_,M,jas h⟩)) Fo))
  |exact jac (jac (m:=Builtin.Tuple.tupleExact _) (jb4 (jas ⟨_,M,jas h⟩) Fo))
end
end HT
namespace L2
open PySem PySem.Spec PyProof.Rows
abbrev TO:=St->Hp->(Option Int->Hp->Prop)->Prop
def PO (X:Cx)(e:Option Expr)(t:TO):Prop:=
 ∀(vy:jcZ) (s:Shared) (U:St) (H:Hp) (Q:Option Int->Hp->Prop),Inv X vy U H s->t U H Q->
  wpAny (model X.prog X.w) X.A (evalPart e X.env) (λu s'=>∃o H',Inv X vy U H' s'/\IsPart u o/\Q o H') X.xe s
def Of:TO:=λ_ H Q=>Q none H
def YW (t:TE):TO:=λU H Q=>t U H λx H1=>∃i,x=.int i/\Q (some i) H1
section
variable {X:Cx}{e:Expr}{te:TE}{lo hi:Option Expr}{tl th:TO}{pos p2:Pos}
def Ph:PO X none Of:=by
 intro vy s U H Q I h;rw[evalPart_none];exact jas ⟨none,H,I,.none,h⟩
def Pg (h:PE X e te):PO X (some e) (YW te):=by
 intro vy s U H Q I hw;rw[evalPart_some];refine bu (h vy s U H _ I hw) ?_;rintro u s1 ⟨x,H1,I1,r1,q1⟩;obtain⟨i,rfl,q⟩:=q1;obtain⟨t,rfl⟩:=r1;exact⟨some i,H1,I1,.int i t,q⟩
def Rm (X:Cx)(r:V->Option Int->Option Int->Hp->VK->Prop):Prop:=
 ∀(vy:jcZ) (s:Shared) (U:St) (H:Hp) (x:V) (v vl vu:Value) (lo hi:Option Int) (sl:Addr) (Q:VK),Inv X vy U H s->RelV x v->s.heap.IsSliceOf sl vl vu .none->IsPart vl lo->IsPart vu hi->r x lo hi H Q->
  ∃T id,typeLookup (.type T) "__getitem__"=pure (some (.builtin id))/\s.TypeIs v T/\wpAny (model X.prog X.w) X.A (getItem v (.ref sl)) (EP X vy U Q) X.xe s
def Rm.or {r r':V->Option Int->Option Int->Hp->VK->Prop}(h:Rm X r)(h':Rm X r'):Rm X (λx lo hi H Q=>r x lo hi H Q\/r' x lo hi H Q):=by
 intro vy s U H x v vl vu lo hi sl Q I rx hs pl pu q;rcases q with q | q
 .exact h vy s U H x v vl vu lo hi sl Q I rx hs pl pu q
 .exact h' vy s U H x v vl vu lo hi sl Q I rx hs pl pu q
def tSl (r:V->Option Int->Option Int->Hp->VK->Prop)(te:TE)(tl th:TO):TE:=λU H Q=>te U H λx H1=>tl U H1 λl H2=>th U H2 λu H3=>r x l u H3 Q
def KY {r:V->Option Int->Option Int->Hp->VK->Prop}(hr:Rm X r)(he:PE X e te)(hl:PO X lo tl)(hu:PO X hi th):PE X (.Subscript e (.Slice lo hi none p2) pos) (tSl r te tl th):=by
 intro vy s U H Q I h;refine Subscript_ (bu (he vy s U H _ I h) ?_);rintro v s1 ⟨x,H1,I1,r1,q1⟩;refine wpAny_Slice (bu (hl vy s1 U H1 _ I1 q1) λvl s2 ⟨l,H2,I2,pl,q2⟩=>bu (hu vy s2 U H2 _ I2 q2) ?_);rintro vu s3 ⟨u,H3,I3,pu,q3⟩;rw[evalPart_none];refine jas ?_;have I4:Inv X vy U H3 {s3 with heap:=s3.heap.push {cls:=.type "slice",data:=.fields #[vl,vu,.none] } }:=I3.kept (t':=s3.toks) λb ob q=>jat _ q;obtain⟨T,id,hT,ht,hg⟩:=hr vy {s3 with heap:=s3.heap.push {cls:=.type "slice",data:=.fields #[vl,vu,.none] } } U H3 x v vl vu l u s3.heap.objs.size Q I4 r1 (Heap.IsSliceOf.new ..) pl pu q3;show wpAny (model X.prog X.w) X.A (subscriptTail e (.Slice lo hi none p2) v (.ref s3.heap.objs.size)) (EP X vy U Q) X.xe {s3 with heap:=s3.heap.push {cls:=.type "slice",data:=.fields #[vl,vu,.none] } };exact tail_any (ops:=[.ref s3.heap.objs.size,v]) ht hT hg (by with_unfolding_all rfl)
def Bs (xs:List V)(lo hi:Option Int):List V:=(xs.drop (HT.d7 xs.length 0 lo)).take (HT.d7 xs.length xs.length hi - HT.d7 xs.length 0 lo)
def rQ (xs:List V)(lo hi:Option Int):(Bs xs lo hi).length<=xs.length:=by
 unfold Bs;rw[jci,jay];omega
def a3A (K:Frag):V->Option Int->Option Int->Hp->VK->Prop:=λx lo hi H Q=>∃a xs,x=.ref a/\kL K H a xs/\
 ¬(HT.d7 xs.length 0 lo=0/\HT.d7 xs.length xs.length hi=xs.length)/\∀p,H p=none->Q (.ref p) (upd H p (.tup (Bs xs lo hi)))
def U3:Rm X (a3A X.K):=by
 intro vy s U H x v vl vu lo hi sl Q I rx hs pl pu h;obtain⟨a,xs,rfl,hx,hw,q⟩:=h;cases rx;obtain⟨AC,r,ht,hz⟩:=I.tuple hx;have hlen:AC.toArray.size=xs.length:=by rw[jau];exact r.length.symm
 refine⟨"tuple",_,jcW.lookup,ht.typeIs,?_⟩;refine HT.o8 ht hs pl pu (by rw[hlen];exact hw) ?_ (by rw[hlen];exact hz);rw[hlen];refine⟨.ref s.heap.objs.size,_,I.laid (t':=s.toks) (o:=.tup (Bs xs lo hi)) (λb ob q=>jat _ q) (jaj _) ?_,M,q _ (I.hok.fresh (jaj _))⟩;exact⟨jap (rQ xs lo hi) hz,_,(r.drop (HT.d7 xs.length 0 lo)).take (HT.d7 xs.length xs.length hi - HT.d7 xs.length 0 lo),IsTup.new _ _⟩
def ZW (K:Frag):R2:=λx y H Q=>∃a b xs ys,x=.ref a/\y=.ref b/\kL K H a xs/\kL K H b ys/\xs≠[]/\xs.length+ys.length<=sizeLine/\
 (ys=[]->Q (.ref a) H)/\(ys≠[]->∀p,H p=none->Q (.ref p) (upd H p (.tup (xs++ys))))
def Vals.cP {xs:List V}{us:jc3}(r:Vals xs us):us=[]↔xs=[]:=by
 cases r with
 |nil=>simp
 |cons _ _=>simp
def PL:gP X (binaryOp .Add) (ZW X.K):=by
 intro vy s U H x y v u Q I rx ry h;obtain⟨a,b,xs,ys,rfl,rfl,ha,hb,hx,hz,q1,q2⟩:=h;cases rx;cases ry;obtain⟨AC,r1,p1,_⟩:=I.tuple ha;obtain⟨its2,r2,p2,_⟩:=I.tuple hb;refine HT.Rb p1 p2 (λz=>hx (r1.cP.mp z)) (λz=>⟨.ref a,H,I,M,q1 (r2.cP.mp z)⟩) (λz=>?_) (by rw[<- r1.length,<- r2.length];exact hz);refine⟨.ref s.heap.objs.size,_,I.laid (t':=s.toks) (o:=.tup (xs++ys)) (λb ob q=>jat _ q) (jaj _) ?_,M,q2 (λw=>z (r2.cP.mpr w)) _ (I.hok.fresh (jaj _))⟩;exact⟨by rw[jaD];exact hz,_,r1.append r2,IsTup.new _ _⟩
end
noncomputable def NO (n:Nat)(i:Int):Option Nat:=if 0<=i then(if i<n then some i.toNat else none) else if -(n:Int)<=i then some (i+n).toNat else none
def nQ {α:Type}(xs:List α)(i:Int):Option α:=(NO xs.length i).bind λj=>xs[j]?
def Fb {n:Nat}{i:Int}{j:Nat}(h:NO n i=some j):seqIndex? i n=some j/\j<n/\-(n:Int)<=i/\i<n:=by
 unfold NO at h;by_cases h0:0<=i
 .rw[jab h0] at h;by_cases h1:i<n
  .rw[jab h1] at h;have e:i.toNat=j:=jaw h;exact⟨by rw[seqIndex_of h0 h1,e],by omega,by omega,h1⟩
  .rw[jaa h1] at h;cases h
 .rw[jaa h0] at h;by_cases h1:-(n:Int)<=i
  .rw[jab h1] at h;have e:(i+n).toNat=j:=jaw h;exact⟨by rw[seqIndex_neg (by omega) h1,e],by omega,h1,by omega⟩
  .rw[jaa h1] at h;cases h
def ua {α:Type}{xs:List α}{i:Int}{v:α}(h:nQ xs i=some v):∃j,seqIndex? i xs.length=some j/\xs[j]?=some v/\j<xs.length/\-(xs.length:Int)<=i/\i<xs.length:=by
 unfold nQ at h;cases e:NO xs.length i with
 |none=>rw[e] at h;cases h
 |some j=>
  rw[e] at h;obtain⟨h1,h2,h3,h4⟩:=Fb e;exact⟨j,h1,h,h2,h3,h4⟩
def b9 {α:Type}{xs:List α}{j:Nat}{v:α}(h:xs[j]?=some v):nQ xs (j:Int)=some v:=by
 have hj:j<xs.length:=(jao.mp h).1;have e:NO xs.length (j:Int)=some j:=by
  unfold NO;rw[jab (by omega),jab (by omega)];simp
 unfold nQ;rw[e];exact h
def ue (b:Expr):Prop:=∀o i,subscripted b false o i=operate [o,i] (getItem o i)
def NZ (X:Cx)(r:R2):Prop:=
 ∀(value slice:Expr)(vy:jcZ) (s:Shared) (U:St) (H:Hp) (x y:V) (v u:Value) (Q:VK),Inv X vy U H s->RelV x v->RelV y u->r x y H Q->
  subscripted slice false v u=operate [v,u] (getItem v u)->wpAny (model X.prog X.w) X.A (subscriptTail value slice v u) (EP X vy U Q) X.xe s
def p6 (X:Cx)(id:String)(r:V->List V->Hp->VK->Prop):Prop:=
 ∀(vy:jcZ) (s:Shared) (U:St) (H:Hp) (x:V) (xs:List V) (v:Value) (us:jc3) (Q:VK),Inv X vy U H s->RelV x v->Vals xs us->r x xs H Q->
  wpAny (model X.prog X.w) X.A (call (.builtin id) (v::us)) (EP X vy U Q) X.xe s
section
variable {X:Cx}{a b:Expr}{ta tb:TE}{pos:Pos}
def NZ.or {r r':R2}(h:NZ X r)(h':NZ X r'):NZ X (λx y H Q=>r x y H Q\/r' x y H Q):=by
 intro value slice vy s U H x y v u Q I rx ry q hs;rcases q with q | q
 .exact h value slice vy s U H x y v u Q I rx ry q hs
 .exact h' value slice vy s U H x y v u Q I rx ry q hs
def p6.or {id:String}{r r':V->List V->Hp->VK->Prop}(h:p6 X id r)(h':p6 X id r'):p6 X id (λx xs H Q=>r x xs H Q\/r' x xs H Q):=by
 intro vy s U H x xs v us Q I rx rs q;rcases q with q | q
 .exact h vy s U H x xs v us Q I rx rs q
 .exact h' vy s U H x xs v us Q I rx rs q
def a0j {r:R2}(hr:NZ X r)(ha:PE X a ta)(hb:PE X b tb)(hs:ue b):PE X (.Subscript a b pos) (UI r ta tb):=by
 intro vy s U H Q I h;exact Subscript_ (XO ha hb I h λv u s2 x y H2 I2 rx ry q=>hr a b vy s2 U H2 x y v u Q I2 rx ry q (hs _ _))
def ZT (K:Frag):R2:=λx y H Q=>∃p xs i v,x=.ref p/\y=.int i/\iG K H p xs/\nQ xs i=some v/\Q v H
def ZR (K:Frag):R2:=λx y H Q=>∃p xs i v,x=.ref p/\y=.int i/\kL K H p xs/\nQ xs i=some v/\Q v H
def ZS:R2:=λx y H Q=>∃z i c,x=.str z/\y=.int i/\z.length<=sizeLine/\nQ z.cps.toList i=some c/\Q (.str ⟨#[c]⟩) H
def QB:NZ X (ZT X.K):=by
 intro value slice vy s U H x y v u Q I rx ry h hs;obtain⟨p,xs,i,z,rfl,rfl,hq,he,q⟩:=h;cases rx;obtain⟨t,rfl⟩:=ry;obtain⟨AC,r,pl,hz⟩:=I.list hq;obtain⟨j,h1,h2,h3,h4,h5⟩:=ua he;obtain⟨w,ew,rw'⟩:=r.get h2;have hl:=r.length;have hn:=kr;have fin:EP X vy U Q w s:=⟨z,H,I,rw',q⟩
 by_cases h0:0<=i
 .have hj:i.toNat=j:=by
   rw[seqIndex_of h0 h5] at h1;exact jaw h1
  exact item_listR pl.isList h0 (by omega) (by rw[hj];simpa using ew) fin hs
 .have hj:(i+(AC.toArray.size:Int)).toNat=j:=by
   rw[seqIndex_neg (by omega) h4] at h1;rw[jau,<- hl];exact jaw h1
  exact subscriptTail_builtinR (x:=w) pl.isList.typeIs slot_list_getitem.lookup
   (wpAny_getItem_list_neg (Q:=λr s'=>r=w/\EP X vy U Q r s') pl.isList (by omega) (by rw[jau]<;>omega) (by omega) (by rw[hj];simpa using ew) ⟨M,fin⟩) hs
def W3:NZ X (ZR X.K):=by
 intro value slice vy s U H x y v u Q I rx ry h hs;obtain⟨p,xs,i,z,rfl,rfl,hq,he,q⟩:=h;cases rx;obtain⟨t,rfl⟩:=ry;obtain⟨AC,r,pl,hz⟩:=I.tuple hq;obtain⟨j,h1,h2,h3,h4,h5⟩:=ua he;obtain⟨w,ew,rw'⟩:=r.get h2;have hl:=r.length;have hn:=kr;have fin:EP X vy U Q w s:=⟨z,H,I,rw',q⟩
 exact subscriptTail_builtinR (x:=w) pl.typeIs slot_tuple_getitem.lookup
  (getItem_tuple (j:=j) (Q:=λr s'=>r=w/\EP X vy U Q r s') pl (by omega) (by omega) (by rw[jau,<- hl];exact h1) (by simpa using ew) ⟨M,fin⟩) hs
def W4:NZ X ZS:=by
 intro value slice vy s U H x y v u Q I rx ry h hs;obtain⟨z,i,c,rfl,rfl,hz,he,q⟩:=h;obtain⟨t,rfl⟩:=rx;obtain⟨t',rfl⟩:=ry;obtain⟨j,h1,h2,h3,h4,h5⟩:=ua he;have hl:z.cps.toList.length=z.length:=by simp[Str.length]
 rw[hl] at h1 h4 h5;have hn:=kr;exact tail_any (jbB s z t) slot_str_getitem.lookup (getItem_str (c:=c) (by
  have e1:decide (i < -(2 ^ 63:Int))=false:=jaf (by omega);have e2:decide (i ≥ 2 ^ 63)=false:=jaf (by omega);rw[e1,e2,Bool.or_false]) (by rw[h1];simpa using h2) ⟨.str ⟨#[c]⟩,H,I.tok _,⟨_,M⟩,q⟩) hs
def rIx (K:Frag):R2:=λx y H Q=>ZT K x y H Q\/ZR K x y H Q\/ZS x y H Q
def W5:NZ X (rIx X.K):=QB.or (W3.or W4)
def C4 (AC:jc3)(n j:Nat)(u:Value):Obj.mapSeq (·.setIfInBounds j u) {cls:=.type "list",data:=.seq AC.toArray n }={cls:=.type "list",data:=.seq (AC.set j u).toArray n }:=by
 simp[Obj.mapSeq]
theorem Inv.lst {vy:jcZ}{U:St}{H:Hp}{s:Shared}{p:Addr}{xs:List V}(I:Inv X vy U H s)(h:H p=some (.lst xs)) :
  ∃(AC:jc3)(n:Nat),Vals xs AC/\s.heap.get? p=some {cls:=.type "list",data:=.seq AC.toArray n }/\xs.length<=sizeLine:=by
 obtain⟨z,AC,n,r,e⟩:=I.hok p _ h;exact⟨AC,n,r,e,z⟩
theorem Inv.WJ {vy:jcZ}{U:St}{H:Hp}{s:Shared}{p:Addr}{xs ys:List V}{AC its':jc3}{n n':Nat}{f:Obj->Obj}(I:Inv X vy U H s)(h:H p=some (.lst xs))
  (ho:s.heap.get? p=some {cls:=.type "list",data:=.seq AC.toArray n }) (hf:f {cls:=.type "list",data:=.seq AC.toArray n }={cls:=.type "list",data:=.seq its'.toArray n' }) (r:Vals ys its') (hz:ys.length<=sizeLine) (t:Nat) :
  Inv X vy U (upd H p (.lst ys)) {s with heap:=s.heap.update p f,toks:=t }:=by
 have e:(s.heap.update p f).get? p=some {cls:=.type "list",data:=.seq its'.toArray n' }:=by
  rw[jbx f ho (by rw[hf]<;>rfl),hf]
 refine I.write (x:=p) (e:=p) (by rw[h];trivial) (.inl M) (λb u hb q=>(jaV _ _ (jaH hb)).trans q) ⟨_,e⟩ ?_;exact⟨hz,its',n',r,e⟩
def ZO:V->V->V->Hp->(Hp->Prop)->Prop:=λo i v H Q=>∃p xs k j,o=.ref p/\i=.int k/\H p=some (.lst xs)/\NO xs.length k=some j/\Q (upd H p (.lst (xs.set j v)))
def set_list:X8 X ZO:=by
 intro vy s U H o i v ov iv u Q I ro ri rv h;obtain⟨p,xs,k,j,rfl,rfl,hp,hj,q⟩:=h;cases ro;obtain⟨t,rfl⟩:=ri;obtain⟨AC,n,r,ho,hz⟩:=I.lst hp;obtain⟨h1,h2,h3,h4⟩:=Fb hj;have hl:=r.length;have hn:=kr;have I':Inv X vy U (upd H p (.lst (xs.set j v))) {s with heap:=s.heap.update p (Obj.mapSeq (·.setIfInBounds j u)) }:=
  I.WJ hp ho (C4 AC n j u) (r.set rv j) (by rw[jaQ];exact hz) s.toks
 by_cases h0:0<=k
 .have hk:k.toNat=j:=by
   rw[seqIndex_of h0 h4] at h1;exact jaw h1
  exact PySem.W.ki_setAt ho h0 (by omega) (by rw[jau,<- hl];exact h4) (by rw[hk];exact⟨_,I',q⟩)
 .have hk:(k+(AC.toArray.size:Int)).toNat=j:=by
   rw[seqIndex_neg (by omega) h3] at h1;rw[jau,<- hl];exact jaw h1
  exact PySem.W.ki_setBack ho (by omega) (by rw[jau,<- hl];exact h3) (by omega) (by rw[hk];exact⟨_,I',q⟩)
def yi (lo hi:Option Int)(n:Nat):(sliceBounds lo hi none n).1=((HT.d7 n 0 lo:Nat):Int)/\(sliceBounds lo hi none n).2.1=((HT.d7 n n hi:Nat):Int)/\(sliceBounds lo hi none n).2.2=1:=by
 refine⟨?_,?_,M⟩
 .cases lo with
  |none=>simp[sliceBounds,HT.d7]
  |some i=>
   simp only[sliceBounds,HT.d7,Option.getD_none,show(1:Int) > 0 by decide,if_true];by_cases h:i<0
   .simp only[h,if_true]<;>omega
   .simp only[h,if_false]<;>omega
 .cases hi with
  |none=>simp[sliceBounds,HT.d7]
  |some i=>
   simp only[sliceBounds,HT.d7,Option.getD_none,show(1:Int) > 0 by decide,if_true];by_cases h:i<0
   .simp only[h,if_true]<;>omega
   .simp only[h,if_false]<;>omega
def v8 (AC:jc3)(lo hi:Option Int):slicePick AC.toArray lo hi none=((AC.drop (HT.d7 AC.length 0 lo)).take (HT.d7 AC.length AC.length hi - HT.d7 AC.length 0 lo)).toArray:=by
 obtain⟨h1,h2,h3⟩:=yi lo hi AC.toArray.size;unfold slicePick;rw[h1,h2,h3];simp only[sliceRange_one,pick_run,jau]<;>rfl
def a3C (K:Frag):V->Option Int->Option Int->Hp->VK->Prop:=λx lo hi H Q=>∃a xs,x=.ref a/\iG K H a xs/\∀p,H p=none->Q (.ref p) (upd H p (.lst (Bs xs lo hi)))
def Ou:Rm X (a3C X.K):=by
 intro vy s U H x v vl vu lo hi sl Q I rx hs pl pu h;obtain⟨a,xs,rfl,hx,q⟩:=h;cases rx;obtain⟨AC,r,ht,hz⟩:=I.list hx;have hlen:=r.length;refine⟨"list",_,slot_list_getitem.lookup,ht.isList.typeIs,?_⟩;refine wpAny_getItem_list_slice ht.isList hs pl pu .none (by simp) ?_ (by rw[jau]<;>omega);rw[v8,<- hlen];refine⟨.ref s.heap.objs.size,_,I.laid (t':=s.toks) (o:=.lst (Bs xs lo hi)) (λb ob q=>jat _ q) (jaj _) ?_,M,q _ (I.hok.fresh (jaj _))⟩;exact⟨jap (rQ xs lo hi) hz,_,0,(r.drop (HT.d7 xs.length 0 lo)).take (HT.d7 xs.length xs.length hi - HT.d7 xs.length 0 lo),jaP _ M⟩
def dI:V->Bool
 |.ck=>true
 |.bl _=>true
 |.int _=>true
 |.str _=>true
 |.sn _=>true
 |_=>false
noncomputable def vS:V->V->Bool
 |.ck,.ck=>true
 |.bl a,.bl b=>a==b
 |.bl a,.int b=>(if a then 1 else 0)==b
 |.int a,.bl b=>a==(if b then 1 else 0)
 |.int a,.int b=>a==b
 |.str a,.str b=>a==b
 |.str a,.sn b=>a==b
 |.sn a,.str b=>a==b
 |.sn a,.sn b=>a==b
 |_,_=>false
def Dp {A:Around}{s:Shared}{y x:V}{u v:Value}(ry:RelV y u)(rx:RelV x v)(fy:dI y=true)(fx:dI x=true):SeqAt.EqAt A s u v (vS y x):=by
 cases y with
 |ck=>
  cases ry;cases x with
  |ck=>cases rx;exact SeqAt.EqAt.same _
  |bl b=>cases rx;exact SeqAt.EqAt.none_bool b
  |int b=>obtain⟨t,rfl⟩:=rx;exact SeqAt.EqAt.none_int b t
  |str b=>obtain⟨t,rfl⟩:=rx;exact SeqAt.EqAt.none_str b t
  |sn b=>obtain⟨t,_,rfl⟩:=rx;exact SeqAt.EqAt.none_str b t
  |_=>exact absurd (show false=true from fx) jaJ
 |bl a=>
  cases ry;cases x with
  |ck=>cases rx;exact SeqAt.EqAt.bool_none a
  |bl b=>cases rx;exact SeqAt.EqAt.bool_bool a b
  |int b=>obtain⟨t,rfl⟩:=rx;exact SeqAt.EqAt.bool_int a b t
  |str b=>obtain⟨t,rfl⟩:=rx;exact SeqAt.EqAt.bool_str a b t
  |sn b=>obtain⟨t,_,rfl⟩:=rx;exact SeqAt.EqAt.bool_str a b t
  |_=>exact absurd (show false=true from fx) jaJ
 |int a=>
  obtain⟨t',rfl⟩:=ry;cases x with
  |ck=>cases rx;exact SeqAt.EqAt.int_none a t'
  |bl b=>cases rx;exact SeqAt.EqAt.int_bool a t' b
  |int b=>obtain⟨t,rfl⟩:=rx;exact SeqAt.EqAt.int_int a t' b t
  |str b=>obtain⟨t,rfl⟩:=rx;exact SeqAt.EqAt.int_str a t' b t
  |sn b=>obtain⟨t,_,rfl⟩:=rx;exact SeqAt.EqAt.int_str a t' b t
  |_=>exact absurd (show false=true from fx) jaJ
 |str a=>
  obtain⟨t',rfl⟩:=ry;cases x with
  |ck=>cases rx;exact SeqAt.EqAt.str_none a t'
  |bl b=>cases rx;exact SeqAt.EqAt.str_bool a t' b
  |int b=>obtain⟨t,rfl⟩:=rx;exact SeqAt.EqAt.str_int a t' b t
  |str b=>obtain⟨t,rfl⟩:=rx;exact SeqAt.EqAt.str_str a t' b t
  |sn b=>obtain⟨t,_,rfl⟩:=rx;exact SeqAt.EqAt.str_str a t' b t
  |_=>exact absurd (show false=true from fx) jaJ
 |sn a=>
  obtain⟨t',_,rfl⟩:=ry;cases x with
  |ck=>cases rx;exact SeqAt.EqAt.str_none a t'
  |bl b=>cases rx;exact SeqAt.EqAt.str_bool a t' b
  |int b=>obtain⟨t,rfl⟩:=rx;exact SeqAt.EqAt.str_int a t' b t
  |str b=>obtain⟨t,rfl⟩:=rx;exact SeqAt.EqAt.str_str a t' b t
  |sn b=>obtain⟨t,_,rfl⟩:=rx;exact SeqAt.EqAt.str_str a t' b t
  |_=>exact absurd (show false=true from fx) jaJ
 |_=>exact absurd (show false=true from fy) jaJ
def Bl (x:V)(u:Value):Bool:=match u with
 |.none=>vS .ck x
 |.bool b=>vS (.bl b) x
 |.int i _=>vS (.int i) x
 |.str z _=>vS (.str z) x
 |_=>false
def Dm {x y:V}{u:Value}(r:RelV y u)(f:dI y=true):Bl x u=vS y x:=by
 cases y with
 |ck=>cases r;rfl
 |bl b=>cases r;rfl
 |int i=>obtain⟨t,rfl⟩:=r;rfl
 |str z=>obtain⟨t,rfl⟩:=r;rfl
 |sn z=>obtain⟨t,_,rfl⟩:=r;cases x<;>rfl
 |_=>exact absurd (show false=true from f) jaJ
theorem pJ {x:V}:∀{xs:List V}{us:jc3},Vals xs us->xs.all dI=true->us.any (Bl x)=xs.any λy=>vS y x
 |_,_,.nil,_=>rfl
 |y::xs,u::us,.cons r t,f=>by
  rw[jbs,jar] at f;rw[jbG,jbG,Dm r f.1,pJ t f.2]
theorem iP {A:Around}{s:Shared}{x:V}{v:Value}(rx:RelV x v)(fx:dI x=true):∀{xs:List V}{us:jc3},Vals xs us->xs.all dI=true->∀u∈us,SeqAt.EqAt A s u v (Bl x u)
 |_,_,.nil,_=>λu hu=>by cases hu
 |y::xs,u::us,.cons r t,f=>λu' hu=>by
  rw[jbs,jar] at f;rcases jak.mp hu with rfl | hu
  .rw[Dm r f.1];exact Dp r rx f.1 fx
  .exact iP rx fx t f.2 u' hu
def Dd (x:V)(xs:List V):Bool:=xs.any λy=>vS y x
def rIn (K:Frag)(neg:Bool):R2:=λx y H Q=>∃p xs,y=.ref p/\(iG K H p xs\/kL K H p xs)/\dI x=true/\xs.all dI=true/\Q (.bl (if neg then !Dd x xs else Dd x xs)) H
def w9:gP X (compareOp .In) (rIn X.K false):=by
 intro vy s U H x y v u Q I rx ry h;obtain⟨p,xs,rfl,hq,fx,fs,q⟩:=h;cases ry;rcases hq with hq | hq
 .obtain⟨AC,r,pl,hz⟩:=I.list hq;refine SeqAt.in_listAt (Bl x) pl.isList (λw hw=>iP rx fx r fs w (by simpa using hw)) ⟨.bl _,H,I,M,?_⟩;rw[show AC.toArray.any (Bl x)=AC.any (Bl x) by simp,pJ r fs];exact q
 .obtain⟨AC,r,pl,hz⟩:=I.tuple hq;refine SeqAt.in_tupleAt (Bl x) pl (λw hw=>iP rx fx r fs w (by simpa using hw)) ⟨.bl _,H,I,M,?_⟩;rw[show AC.toArray.any (Bl x)=AC.any (Bl x) by simp,pJ r fs];exact q
def oX:gP X (compareOp .NotIn) (rIn X.K true):=by
 intro vy s U H x y v u Q I rx ry h;obtain⟨p,xs,rfl,hq,fx,fs,q⟩:=h;cases ry;rcases hq with hq | hq
 .obtain⟨AC,r,pl,hz⟩:=I.list hq;refine SeqAt.notIn_listAt (Bl x) pl.isList (λw hw=>iP rx fx r fs w (by simpa using hw)) ⟨.bl _,H,I,M,?_⟩;rw[show AC.toArray.any (Bl x)=AC.any (Bl x) by simp,pJ r fs];exact q
 .obtain⟨AC,r,pl,hz⟩:=I.tuple hq;refine SeqAt.notIn_tupleAt (Bl x) pl (λw hw=>iP rx fx r fs w (by simpa using hw)) ⟨.bl _,H,I,M,?_⟩;rw[show AC.toArray.any (Bl x)=AC.any (Bl x) by simp,pJ r fs];exact q
def zH:dN X (.builtin "len") (λxs H Q=>∃p ys,xs=[.ref p]/\(iG X.K H p ys\/kL X.K H p ys)/\Q (.int ys.length) H):=by
 intro vy s U H xs us Q I r h;obtain⟨p,ys,rfl,hq,q⟩:=h;obtain⟨u,rfl,rx⟩:=vals1 r;cases rx;have hn:=kr;rcases hq with hq | hq
 .obtain⟨AC,r',pl,hz⟩:=I.list hq;have hlen:=r'.length;exact Calls.call_len_list pl.isList (by simp only[jau]<;>omega) ⟨.int ys.length,H,I.tok _,⟨s.toks+1,by rw[jau,hlen]⟩,q⟩
 .obtain⟨AC,r',pl,hz⟩:=I.tuple hq;have hlen:=r'.length;exact len_tuple pl (by simp only[jau]<;>omega) ⟨.int ys.length,H,I.tok _,⟨s.toks+1,by rw[jau,hlen]⟩,q⟩
def zG:dN X (.builtin "len") (λxs H Q=>∃z,xs=[.str z]/\z.length<=sizeLine/\Q (.int z.length) H):=by
 intro vy s U H xs us Q I r h;obtain⟨z,rfl,hz,q⟩:=h;obtain⟨u,rfl,t,rfl⟩:=vals1 r;have hn:=kr;exact len_str (by omega) ⟨.int z.length,H,I.tok _,⟨_,M⟩,q⟩
def dN.or {f:Value}{r r':List V->Hp->VK->Prop}(h:dN X f r)(h':dN X f r'):dN X f (λxs H Q=>r xs H Q\/r' xs H Q):=by
 intro vy s U H xs us Q I rs q;rcases q with q | q
 .exact h vy s U H xs us Q I rs q
 .exact h' vy s U H xs us Q I rs q
def wo:dN X (.type "tuple") (λxs H Q=>∃p ys,xs=[.ref p]/\((iG X.K H p ys/\∀l,H l=none->Q (.ref l) (upd H l (.tup ys)))\/(kL X.K H p ys/\Q (.ref p) H))):=by
 intro vy s U H xs us Q I r h;obtain⟨p,ys,rfl,h⟩:=h;obtain⟨u,rfl,rx⟩:=vals1 r;cases rx;rcases h with⟨hq,q⟩ | ⟨hq,q⟩
 .obtain⟨AC,r',pl,hz⟩:=I.list hq;have hlen:=r'.length;refine call_tuple_list pl.isList (λh' kp=>?_) (by simp only[jau]<;>omega);have I1:Inv X vy U H {s with heap:=h' }:=I.kept (t':=s.toks) kp;have I2:Inv X vy U (upd H h'.objs.size (.tup ys)) {s with heap:=h'.push {cls:=.type "tuple",data:=.seq AC.toArray } }:=
   I1.laid (t':=s.toks) (λb o e=>jat _ e) (jaj _) (show bB X.prog X.w _ _ _ (.tup ys) from⟨hz,AC,r',IsTup.new _ _⟩)
  exact⟨.ref h'.objs.size,_,I2,M,q _ (I1.hok.fresh (jaj _))⟩
 .obtain⟨AC,r',pl,hz⟩:=I.tuple hq;exact call_tuple_same pl ⟨.ref p,H,I,M,q⟩
def tyV (K:Frag)(T:String)(x:V)(H:Hp):Prop:=match x with
 |.str _=>T="str"
 |.int _=>T="int"
 |.ref p=>(T="list"/\∃xs,iG K H p xs)\/(T="tuple"/\∃o,K.lookup p=some o/\o.cls=.type "tuple"/\o.dict=none)\/
   (T="dict"/\((∃kvs,H p=some (.dK kvs))\/∃kvs,H p=some (.dT kvs)))\/(T="set"/\∃S n,H p=some (.set S n))
 |_=>False
theorem Co {vy:jcZ}{U:St}{H:Hp}{s:Shared}{T:String}{x:V}{v:Value}(I:Inv X vy U H s)(r:RelV x v)(ty:tyV X.K T x H) :
  s.TypeIs v T/\∀a,v=.ref a->∃ob,s.heap.get? a=some ob/\ob.dict=none:=by
 cases x with
 |str z=>
  obtain⟨t,rfl⟩:=r;cases(show T="str" from ty);exact⟨jbB s z t,λ_ e=>nomatch e⟩
 |int i=>
  obtain⟨t,rfl⟩:=r;cases(show T="int" from ty);exact⟨typeIs_int s i t,λ_ e=>nomatch e⟩
 |ref p=>
  cases r;rcases ty with⟨rfl,xs,hq⟩ | ⟨rfl,o,hk,hc,hd⟩ | ⟨rfl,hk⟩ | ⟨rfl,S,n,hk⟩
  .obtain⟨AC,_,pl,_⟩:=I.list hq;refine⟨pl.isList.typeIs,λa e=>?_⟩;cases e;obtain⟨o,n,e,c,hd,_⟩:=pl;exact⟨o,e,hd⟩
  .refine⟨⟨o,I.ig p o hk,hc⟩,λa e=>?_⟩;cases e;exact⟨o,I.ig _ o hk,hd⟩
  .have z:∃o,s.heap.get? p=some o/\o.ExactDict:=by
    rcases hk with⟨kvs,hk⟩ | ⟨kvs,hk⟩
    .obtain⟨_,_,_,_,o,_,_,e,ex,_⟩:=I.hok p _ hk;exact⟨o,e,ex⟩
    .obtain⟨_,_,_,_,o,_,_,e,ex,_⟩:=I.hok p _ hk;exact⟨o,e,ex⟩
   obtain⟨o,e,ex⟩:=z;refine⟨⟨o,e,ex.1⟩,λa e2=>?_⟩;cases e2;exact⟨o,e,ex.2.1⟩
  .obtain⟨o,_,_,_,e,ex,_⟩:=I.hok p _ hk;refine⟨⟨o,e,ex.1⟩,λa e2=>?_⟩;cases e2;exact⟨o,e,ex.2.1⟩
 |_=>exact False.elim ty
def Zg (K:Frag)(T:String)(r:V->List V->Hp->VK->Prop)(to:TE):TE:=λU H Q=>to U H λx H1=>tyV K T x H1/\r x [] H1 Q
def tBM (K:Frag)(T:String)(r:V->List V->Hp->VK->Prop)(to:TE)(t:TA):TE:=λU H Q=>to U H λx H1=>tyV K T x H1/\t U H1 λxs H2=>r x xs H2 Q
variable {o e:Expr}{es:jc5}{to:TE}{t:TA}{name:Str}{BM cpos:Pos}{T id:String}{r:V->List V->Hp->VK->Prop}
theorem Wd (pa:PlainAttrs T)(slot:Slot T name id)(hty:typeOf (.builtin id)=pure (.type "method_descriptor"))(hm:p6 X id r)(ho:PE X o to)
  (Ap:autoParam (attributeBase o name X.env (eval o X.env)=eval o X.env) zi) (B1:autoParam ((BM.endLine==cpos.line)=true) zi):PE X (.Call (.Attribute o name BM) [] [] cpos) (Zg X.K T r to):=by
 intro vy s U H Q I h;refine wpAny_Call_method0_late Ap B1 (bu (ho vy s U H _ I h) ?_);rintro v s1 ⟨x,H1,I1,r1,ty,q1⟩;obtain⟨h1,h2⟩:=Co I1 r1 ty;exact⟨T,id,pa,slot,hty,h1,h2,jca rfl (PySem.evalArgs_none (hm vy s1 U H1 x [] v [] Q I1 r1 .nil q1))⟩
theorem a0k (pa:PlainAttrs T)(slot:Slot T name id)(hty:typeOf (.builtin id)=pure (.type "method_descriptor"))(hm:p6 X id r)(ho:PE X o to)(ha:PA X (e::es) t)
  (Ap:autoParam (attributeBase o name X.env (eval o X.env)=eval o X.env) zi)
  (hfew:autoParam (((backTo cpos (starEach (e::es) X.env)).all (λx=>!x.1)&&(backToKw cpos (keywordEach [] X.env)).all (λx=>x.1.isSome)
  &&decide ((e::es).length+([]:List Keyword).length+(if([]:List Keyword).isEmpty then 0 else 1)<30))=true) zi)
  (B1:autoParam ((BM.endLine==cpos.line)=true) zi) (hs:autoParam (starEach (e::es) X.env=(false,eval e X.env)::starEach es X.env) zi) (hplain:autoParam ((backTo cpos (starEach es X.env)).any (·.1)=false) zi) :
  PE X (.Call (.Attribute o name BM) (e::es) [] cpos) (tBM X.K T r to t):=by
 intro vy s U H Q I h;refine wpAny_Call_method_late Ap hfew B1 rfl (bu (ho vy s U H _ I h) ?_);rintro v s1 ⟨x,H1,I1,r1,ty,q1⟩;obtain⟨h1,h2⟩:=Co I1 r1 ty;refine⟨T,id,pa,slot,hty,h1,h2,?_⟩;have hA:=ha cpos vy s1 U H1 _ I1 q1;rw[hs] at hA ⊢;refine jca (by show(false||(backTo cpos (starEach es X.env)).any (·.1))=false;rw[hplain]<;>rfl) (jcT ?_);exact bu hA (by rintro us s2 ⟨vs,H2,I2,r2,q2⟩;exact hm vy s2 U H2 x vs v us Q I2 r1 r2 q2)
end
def MtM (X:Cx)(id:String)(r:V->List V->Hp->VK->Prop):Prop:=
 ∀(vy:jcZ) (s:Shared) (U:St) (H:Hp) (x:V) (xs:List V) (v:Value) (us:jc3) (Q:VK),Inv X vy U H s->RelV x v->Vals xs us->r x xs H Q->
  wpAny (model X.prog X.w) X.A (call (.builtin id) (v::us)) (EP X vy U Q) X.xe s
def Vals.one:∀{x:V}{us:jc3},Vals [x] us->∃u,us=[u]/\RelV x u:=by
 intro x us h;cases h with
 |cons r t=>cases t;exact⟨_,M,r⟩
def Vals.two:∀{x y:V}{us:jc3},Vals [x,y] us->∃u v,us=[u,v]/\RelV x u/\RelV y v:=by
 intro x y us h;cases h with
 |cons r t=>
  cases t with
  |cons q t=>cases t;exact⟨_,_,M,r,q⟩
theorem Vals.zero:∀{us:jc3},Vals [] us->us=[]
 |_,.nil=>rfl
def Vals.dropLast {xs:List V}{us:jc3}(h:Vals xs us):Vals xs.dropLast us.dropLast:=by
 induction h with
 |nil=>exact .nil
 |cons r t ih=>
  cases t with
  |nil=>exact .nil
  |cons q t'=>exact .cons r ih
theorem Vals.rep {xs:List V}{us:jc3}(h:Vals xs us):∀k:Nat,Vals (List.replicate k xs).flatten (List.replicate k us).flatten
 |0=>.nil
 |k+1=>by
  rw[jbC,jbC,jbp,jbp];exact Vals.append h (Vals.rep h k)
def Dl {α:Type}(l:List α):l.eraseIdx (l.length - 1)=l.dropLast:=by
 induction l with
 |nil=>rfl
 |cons a r ih=>
  cases r with
  |nil=>rfl
  |cons b r=>
   have e:(a::b::r).length - 1=((b::r).length - 1)+1:=by
    have h1:(a::b::r).length=r.length+2:=rfl;have h2:(b::r).length=r.length+1:=rfl;omega
   rw[e,List.eraseIdx_cons_succ,ih]
   all_goals rfl
theorem foldl_rep (AC:jc3):∀(k:Nat)(acc:jc3),
  List.foldl (λx1 x2=>x1++x2) acc.toArray (List.replicate k AC.toArray)=(acc++(List.replicate k AC).flatten).toArray
 |0,acc=>by simp
 |k+1,acc=>by
  have e:acc.toArray++AC.toArray=(acc++AC).toArray:=by simp
  have e2:(acc++AC)++(List.replicate k AC).flatten=acc++(List.replicate (k+1) AC).flatten:=by
   rw[jbC,jbp,jaC]
  rw[<- e2,<- foldl_rep AC k (acc++AC),<- e,jbC,List.foldl_cons]
section
variable {X:Cx}{vy:jcZ}{U:St}{H:Hp}{s:Shared}{l b:Addr}{xs ys zs:List V}
theorem Inv.Qm {AC its':jc3}{n:Nat}{f:Array Value->Array Value}{t':Nat}(I:Inv X vy U H s)(hH:H l=some (.lst xs))
  (e:s.heap.get? l=some {cls:=.type "list",data:=.seq AC.toArray n }) (hf:f AC.toArray=its'.toArray) (hv:Vals ys its') (hz:ys.length<=sizeLine) :
  Inv X vy U (upd H l (.lst ys)) {s with heap:=s.heap.update l (Obj.mapSeq f),toks:=t' }:=by
 have q:=PySem.IsL.update e f;rw[hf] at q;refine I.write (x:=l) (e:=l) (by rw[hH];exact trivial) (.inl M) (λb' u hb hu=>(jaV s.heap (Obj.mapSeq f) (jaH hb)).trans hu) ⟨_,q⟩ ?_;exact⟨hz,its',_,hv,q⟩
theorem Inv.WL {AC:jc3}{t':Nat}(I:Inv X vy U H s)(hv:Vals ys AC)(hz:ys.length<=sizeLine) :
  Inv X vy U (upd H s.heap.objs.size (.lst ys)) {s with heap:=s.heap.push {cls:=.type "list",data:=.seq AC.toArray },toks:=t' }:=
 I.laid (λ_ _ q=>jat _ q) (jaj _) ⟨hz,AC,0,hv,jaP _ M⟩
def Inv.fresh (I:Inv X vy U H s):H s.heap.objs.size=none:=I.hok.fresh (jaj _)
def Inv.zf (I:Inv X vy U H s)(hH:H l=some (.lst xs)):xs.length<=sizeLine/\∃(AC:jc3)(n:Nat),Vals xs AC/\xs.length=AC.length/\s.heap.get? l=some {cls:=.type "list",data:=.seq AC.toArray n }:=by
 obtain⟨z,AC,n,r,e⟩:=I.hok l _ hH;exact⟨z,AC,n,r,r.length,e⟩
def u7 {n:Nat}(h:n<=sizeLine):Builtin.List.listTooLong n=false:=by
 unfold Builtin.List.listTooLong;exact jaf (by omega)
end
section
variable {X:Cx}
def OU:V->List V->Hp->VK->Prop:=λx vs H Q=>∃l xs y,x=.ref l/\vs=[y]/\H l=some (.lst xs)/\xs.length<sizeLine/\Q .ck (upd H l (.lst (xs++[y])))
def G4:MtM X "list.append" OU:=by
 intro vy s U H x vs v us Q I rx rv h;obtain⟨l,xs,y,rfl,rfl,hH,hz,q⟩:=h;cases rx;obtain⟨u,rfl,ru⟩:=rv.one;obtain⟨z,AC,n,r,hl,e⟩:=I.zf hH;refine jbj F.slot_list_append ⟨_,e,M⟩ F.entry_list_append (F.args_list_append_2 _ _) (PySem.list_append l AC.toArray n u (by rw[jau];omega)) ⟨e,?_⟩;refine⟨.ck,_,I.Qm (its':=AC++[u]) hH e (by simp) (r.append (.cons ru .nil)) ?_,M,q⟩;rw[jaD,jbY];omega
def OS:V->List V->Hp->VK->Prop:=λx vs H Q=>∃l b xs zs,x=.ref l/\vs=[.ref b]/\H l=some (.lst xs)/\H b=some (.lst zs)/\xs.length+zs.length<=sizeLine/\Q .ck (upd H l (.lst (xs++zs)))
def G3:MtM X "list.extend" OS:=by
 intro vy s U H x vs v us Q I rx rv h;obtain⟨l,b,xs,zs,rfl,rfl,hH,hB,hz,q⟩:=h;cases rx;obtain⟨u,rfl,ru⟩:=rv.one;cases ru;obtain⟨z,AC,n,r,hl,e⟩:=I.zf hH;obtain⟨z2,its2,n2,r2,hl2,e2⟩:=I.zf hB;have hsz:AC.toArray.size+its2.toArray.size<=sizeLine:=by rw[jau,jau];omega
 have Bb:¬(!AC.toArray.isEmpty&&Builtin.List.listTooLong (AC.toArray.size+its2.toArray.size))=true:=by
  rw[u7 hsz,Bool.and_false];exact jaJ
 refine jbj F.slot_list_extend ⟨_,e,M⟩ F.entry_list_extend (F.args_list_extend_2 _ _)
  (AutoSeq1.list_extend_list_list_0 l AC.toArray n b its2.toArray n2 Bb (by rw[jau];omega) (by omega)) ⟨e,e2,?_⟩
 refine⟨.ck,_,I.Qm (its':=AC++its2) hH e (by simp) (r.append r2) ?_,M,q⟩;rw[jaD];omega
def a3F:V->List V->Hp->VK->Prop:=λx vs H Q=>∃l xs y,x=.ref l/\vs=[]/\H l=some (.lst xs)/\xs[xs.length - 1]?=some y/\Q y (upd H l (.lst xs.dropLast))
def WC:MtM X "list.pop" a3F:=by
 intro vy s U H x vs v us Q I rx rv h;obtain⟨l,xs,y,rfl,rfl,hH,hy,q⟩:=h;cases rx;have hus:=rv.zero;subst hus;obtain⟨z,AC,n,r,hl,e⟩:=I.zf hH;obtain⟨u,hu,ru⟩:=r.get hy;have hy':AC.toArray[AC.toArray.size - 1]?=some u:=by
  show AC.toArray[AC.length - 1]?=some u;rw[<- Array.getElem?_toList,<- hl];exact hu
 refine jbj F.slot_list_pop ⟨_,e,M⟩ F.entry_list_pop (F.args_list_pop_1 _) (MeetsSeq.list_pop_last l AC.toArray n u hy' (by rw[jau];omega)) ⟨e,?_⟩;refine⟨y,_,I.Qm (its':=AC.dropLast) hH e ?_ r.dropLast ?_,ru,q⟩
 .show AC.toArray.eraseIdxIfInBounds (AC.toArray.size - 1)=AC.dropLast.toArray;rw[jau,List.eraseIdxIfInBounds_toArray,Dl]
 .rw[List.length_dropLast];omega
def a3M:R2:=λx y H Q=>∃l b xs zs,x=.ref l/\y=.ref b/\H l=some (.lst xs)/\H b=some (.lst zs)/\xs.length+zs.length<=sizeLine/\∀p,H p=none->Q (.ref p) (upd H p (.lst (xs++zs)))
def Wq:gP X (binaryOp .Add) a3M:=by
 intro vy s U H x y v u Q I rx ry h;obtain⟨l,b,xs,zs,rfl,rfl,hH,hB,hz,q⟩:=h;cases rx;cases ry;obtain⟨z,AC,n,r,hl,e⟩:=I.zf hH;obtain⟨z2,its2,n2,r2,hl2,e2⟩:=I.zf hB;refine PySem.P.add_list e e2 ?_ (by rw[jau,jau];omega);have ea:AC.toArray++its2.toArray=(AC++its2).toArray:=by simp
 rw[ea];exact⟨.ref _,_,I.WL (t':=s.toks) (r.append r2) (by rw[jaD];omega),M,q _ I.fresh⟩
def a3E:R2:=λx y H Q=>∃l k xs,x=.ref l/\y=.int k/\H l=some (.lst xs)/\-(2 ^ 63)<=k/\k<2 ^ 63/\xs.length*k.toNat<=sizeLine/\
 ∀p,H p=none->Q (.ref p) (upd H p (.lst (List.replicate k.toNat xs).flatten))
def len_rep {α:Type}(xs:List α)(k:Nat):(List.replicate k xs).flatten.length=k*xs.length:=by
 induction k with
 |zero=>simp
 |succ k ih=>rw[jbC,jbp,jaD,ih,Nat.succ_mul,Nat.add_comm]
def Wi:gP X (binaryOp .Mult) a3E:=by
 intro vy s U H x y v u Q I rx ry h;obtain⟨l,k,xs,rfl,rfl,hH,h1,h2,hz,q⟩:=h;cases rx;obtain⟨t,rfl⟩:=ry;obtain⟨z,AC,n,r,hl,e⟩:=I.zf hH;have hlen:AC.toArray.size*k.toNat<=sizeLine:=by rw[jau,<- hl];exact hz
 have hcap:¬ AC.toArray.size*k.toNat > (2 ^ 63 - 1) / 8:=by
  have:(sizeLine:Nat)<=(2 ^ 63 - 1) / 8:=by decide
  omega
 have hfit:¬(!Builtin.List.listFitsIndex k)=true:=by
  rw[fitsIndex_both h1 h2];exact jaJ
 have Bb:¬ Builtin.List.listTooLong (AC.toArray.size*k.toNat)=true:=by
  rw[u7 hlen];exact jaJ
 have hnew:List.foldl (λx1 x2=>x1++x2) #[] (List.replicate (if AC.toArray.isEmpty=true then 0 else k.toNat) AC.toArray)=(List.replicate k.toNat AC).flatten.toArray:=by
  have f0:∀m:Nat,List.foldl (λx1 x2=>x1++x2) #[] (List.replicate m AC.toArray)=(List.replicate m AC).flatten.toArray:=λm=>by
   have:=foldl_rep AC m [];rw[jbQ] at this;exact this
  rw[f0];cases AC with
  |nil=>simp
  |cons a r'=>rw[jaa (by simp)]
 refine wpAny_binaryOp_repeat_ref (T:="list") (U:="int") (by decide) ⟨_,e,M⟩ (λs'=>typeIs_int s' k t) noFill_list_mul F.fills_int_mul F.slot_int_rmul repeat_list F.slot_int_index.lookup
  (jbj F.slot_int_rmul (typeIs_int s k t) F.entry_int_rmul (F.args_int_rmul_2 _ _) (int___rmul___int_list k t l AC.toArray n)
   ⟨e,M,⟨_,e,M⟩,jbj F.slot_list_mul ⟨_,e,M⟩ F.entry_list_mul (F.args_list_mul_2 _ _) (AutoListH.list___mul___list_int_3 l AC.toArray n k t hfit hcap Bb) ⟨e,?_⟩⟩)
 rw[hnew];exact⟨.ref _,_,I.WL (t':=s.toks) (r.rep k.toNat) (by rw[len_rep,Nat.mul_comm];exact hz),M,q _ I.fresh⟩
end
section
variable {prog:Program}{w:World}{A:Around}{E:jc0}{s:Shared}
end
section
variable {X:Cx}
end
end L2
namespace Att
open PySem PySem.W PySem.Calls PyProof.Rows
def sj {P:Params}{h:Heap}:∀(ns:List Int)(vs:jc3),WellAll P h vs (ns.map WData.int)->IntsAre vs ns:=by
 intro ns
 induction ns with
 |nil=>
  intro vs w;rw[List.map_nil] at w;cases w;exact .nil
 |cons n ns ih=>
  intro vs w;rw[jal] at w;cases w with
  |cons a b=>
   cases a;exact .cons _ _ (ih _ b)
theorem Gj {l:OpenLaw}{n:Nat}(hn:l.most=some n){P:Params}{h:Heap}{args:List WData}{vals:jc3}
  (hpre:l.row.toRowW.claim.pre args=true) (hwl:WellAll P h vals args) :
  ∃a vs ns,vals=[Value.ref a]/\args=[WData.list (ns.map WData.int)]/\h.get? a=some {cls:=.type "list",data:=.seq vs.toArray }/\IntsAre vs ns/\ns.length<=n:=by
 have hsh:WShape.hasAll [] args [.list .int]=true:=(pre_splitW hpre).1;have hc:l.pre.holds [] {args:=args }=true:=(pre_splitW hpre).2;obtain⟨d,r,rfl,h1,h2⟩:=hasAllW_cons hsh;obtain rfl:=hasAllW_nil h2;obtain⟨xs,rfl,h3⟩:=hasW_list h1;obtain⟨ns,rfl⟩:=items_int h3;have hlen:ns.length<=n:=by
  unfold OpenLaw.pre at hc;have h4:(WTm.not (.lt (.lit (.int (n:Int))) (.len (.arg 0)))).holds [] {args:=[.list (ns.map .int)] }=true:=by
   have h4:=(holds_andW hc).1;rw[hn] at h4;exact h4
  have h5:=condW_of h4 (w_not (w_lt w_lit (w_len_list (w_arg M))));rw[jad] at h5;refine Nat.le_of_not_lt λq=>?_;have q':(n:Int)<((ns.length:Nat):Int):=by omega
  first
   |(rw[jag q'] at h5;exact absurd h5 (by decide))
   |(simp at h5;omega)
 cases hwl with
 |cons w1 w2=>
  cases w2;cases w1 with
  |list ho hall=>exact⟨_,_,ns,M,M,ho,sj ns _ hall,hlen⟩
theorem Gz (l:OpenLaw)(args:List WData):l.row.toRowW.claim.post args (.bool true) args=true:=
 postW_of (r:=l.row.toRowW) (X:=(true==true))
  (show WShape.has [] (.bool true) .bool=true by first | rfl | decide | simp[WShape.has,WShape.arms,WShape.armsAll])
  (show(WTm.eq .res (.lit (.bool true))).value [] {args:=args,res:=some (.bool true),after:=args }=some (.bool (true==true)) from w_eq_bool (w_res M) w_lit) rfl
theorem BG {l:OpenLaw}{n:Nat}{q:Program}{loose:jc2}{XP:(Str->jc7)->Heap->Prop}{YP:World->Heap->Prop}{d:DefRec}
  (hn:l.most=some n) (hdf:d.params.defaults=[])
  (call:∀(w:World)(s₀ s₁:Shared)(mg mb:Str->jc7)(fa:Addr)(o:Obj)(pm cd doc:Value)(a:Addr) (vs:jc3) (ns:List Int),
   Ground q loose [] XP w s₀ mg mb s₁.heap->YP w s₁.heap->
   s₁.heap.get? fa=some o->o.data=.func (docDef d.name d.params d.body d.scope pm cd doc)->s₁.heap.CodeRec cd d.name->mg d.name=some (.ref fa)->
   s₁.heap.get? a=some {cls:=.type "list",data:=.seq vs.toArray }->IntsAre vs ns->ns.length<=n->s₁.gens=#[]->
   codeAny (model l.prog w) callerA (.call (.ref fa) ⟨[.ref a],[]⟩) (λr s'=>r=.ok (.ret (.bool true))/\OldK s₁.heap s'.heap/\s'.os=s₁.os/\AllBare s'.gens) s₁) :
  WalkO q loose XP YP l.row.toRowW d [] (λf vs=>PySem.call f vs):=by
 intro w s₀ s₁ mg mb G QR fa o pm cd doc dV kV ho hd hcd hD hmg hg args vals as hpre hlay hrd hwl hlo;obtain rfl:dV=.none:=Dflts.none hD hdf;obtain rfl:kV=.none:=Dflts.noKw hD;obtain⟨a,vs,ns,rfl,rfl,hobj,hints,hlen⟩:=Gj hn hpre hwl;refine enter_call (codeAny_mono (call w s₀ s₁ mg mb fa o pm cd doc a vs ns G QR ho (fd_plain hd) hcd hmg hobj hints hlen hg) λr s' hq=>?_);obtain⟨rfl,h2,h3,h4⟩:=hq;exact⟨.inl ⟨.bool true,.bool true,[],M,λ_=>rfl,.bool true,Gz l _,λ_=>⟨List.Pairwise.nil,λ_ hm=>(nomatch hm)⟩⟩,h2,h3,h4⟩
section
variable {prog:Program}{w:World}{A:Around}{E:jc0}{s:Shared}{K:Frag}
end
end Att
namespace L2
open PySem PySem.Spec PyProof.Rows
theorem wM:∀{vs:jc3}{ns:List Int},IntsAre vs ns->Vals (ns.map V.int) vs
 |_,_,.nil=>.nil
 |_,_,.cons n t h=>.cons ⟨t,M⟩ (wM h)
def Yb (H:Hp):Prop:=∀b,H b=none\/∃o xs,H b=some (.qC o (.lst xs))
theorem L5 {P:Program}{w:World}{K:Frag}{mg mb:Str->jc7}{CX:D3}{k:Nat}{fa a:Addr}{fd:FuncData}{x:Str}{sp:Sp}{s₁:Shared}{vs:jc3}{ns:List Int}
  (KX:K.In s₁.heap) (hns:s₁.heap.Ns mainGlobals mg) (hb:s₁.heap.Ns builtinsNs mb) (hbb:∀x:Str,x≠"__name__"->mb x=bootBuiltins x) (hlim:s₁.heap.NoLimit) (hg:s₁.gens=#[])
  (ha:s₁.heap.get? a=some {cls:=.type "list",data:=.seq vs.toArray }) (hi:IntsAre vs ns) (hl:ns.length<=sizeLine) (hr:bR k callerA)
  (F:∀base:Heap,K.In base->base.Ns mainGlobals mg->aG P w K mg base CX k fa fd [x] sp) (hbind:∀(s:Shared)(u:Value),BindsTo s fd ⟨[u],[]⟩ [(x,u)])
  (NP:∀H:Hp,Yb H->iG K H a (ns.map V.int)->sp [.ref a] H (λv _=>v=.bl true) λ_ _ _=>False)
  (hCX:∀H e s',CX [] H s₁ (λ_ _ _=>False) e s'->False) :
  codeAny (model P w) callerA (.call (.ref fa) ⟨[.ref a],[]⟩) (λr s'=>r=.ok (.ret (.bool true))/\OldK s₁.heap s'.heap/\s'.os=s₁.os/\AllBare s'.gens) s₁:=by
 have rv:=wM hi;have a38:=hi.length;have core:∀H:Hp,Yb H->iG K H a (ns.map V.int)->iZ P w H s₁.heap->(∀b,H b≠none->b=a)->(H a≠none->K.lookup a=none)->
   codeAny (model P w) callerA (.call (.ref fa) ⟨[.ref a],[]⟩) (λr s'=>r=.ok (.ret (.bool true))/\OldK s₁.heap s'.heap/\s'.os=s₁.os/\AllBare s'.gens) s₁:=by
  intro H hO hS hok hA hK;have FZ:∀{b:Addr}{o:Obj},s₁.heap.get? b=some o->H b=none->(zl s₁.heap H).get? b=some o:=λe n=>My e n;have noA:∀{b:Addr}{o:Obj}{es:Array DictEntry}{ep:Nat},s₁.heap.get? b=some o->o.data=.dict es ep->H b=none:=λ{b o es ep} e d=>by
   cases q:H b with
   |none=>rfl
   |some u=>
    have e':b=a:=hA b (by rw[q];simp);subst e';rw[ha] at e;cases e;have d':Data.seq vs.toArray _=Data.dict es ep:=d;cases d'
  have nsK:∀{b:Addr}{m:Str->jc7},s₁.heap.Ns b m->(zl s₁.heap H).Ns b m:=λ{b m} ⟨o,es,ep,e,d,r⟩=>⟨o,es,ep,FZ e (noA e d),d,r⟩
  have hKb:K.In (zl s₁.heap H):=λb o e=>FZ (KX b o e) (by
   cases q:H b with
   |none=>rfl
   |some u=>
    have e':b=a:=hA b (by rw[q];simp);subst e';rw[hK (by rw[q];simp)] at e;cases e)
  have hM:Mod K mg (zl s₁.heap H):=⟨hKb,nsK hns,⟨mb,nsK hb,hbb⟩,let⟨mc,h1,h2⟩:=hlim;⟨mc,nsK h1,h2⟩⟩
  have e0:DQ P w K mg (zl s₁.heap H) callerA [] s₁ H:=⟨M,hM,λb o e=>Qd e,jbH (Hs _ _),trivial,λb hb=>absurd (show b∈([]:jc4) from hb) (by simp),hok,.of_eq hg⟩
  refine codeAny_mono ((F _ hKb (nsK hns)).run callerA [] s₁ H ⟨[.ref a],[]⟩ [.ref a] [.ref a] _ _ hr e0 (hbind s₁ (.ref a)) (.cons rfl .nil) (NP H hO hS)) λr s' h=>?_;cases r with
  |error e=>exact(hCX H e s' h).elim
  |ok fl=>
   cases fl with
   |next=>exact False.elim h
   |brk=>exact False.elim h
   |cont=>exact False.elim h
   |ret u=>
    obtain⟨v,H',os,bare,un,a4y,r',q⟩:=h;have q':v=.bl true:=q;subst q';obtain rfl:u=Value.bool true:=r';refine⟨M,OldK.of_keep λb o e=>?_,os,bare⟩;cases q:H b with
    |none=>exact un.keep b o e q (by intro z;exact absurd (show b∈([]:jc4) from z) (by simp)) (by simp)
    |some u=>
     rcases hO b with z | ⟨ob,xs,z⟩
     .rw[q] at z;cases z
     .have z2:=un.jR b ob _ z;obtain⟨e1,_⟩:=hok b _ z;obtain⟨e2,_⟩:=a4y b _ z2;rw[e] at e1;cases e1;exact e2
 cases hk:K.lookup a with
 |some o=>
  have e:=KX a o hk;rw[ha] at e;cases e;refine core (λ_=>none) (λ_=>.inl M) (.inr ⟨_,vs.toArray,_,hk,M,M,M,by rw[jau,a38];exact hl,by simpa using rv,λx hx=>by obtain⟨i,_,rfl⟩:=jaY.mp hx;trivial⟩) (λb u z=>by have z':(none:Option HO)=some u:=z;cases z') (λb z=>absurd rfl z) λz=>absurd rfl z
 |none=>
  refine core (λb=>if b=a then some (.qC {cls:=.type "list",data:=.seq vs.toArray } (.lst (ns.map V.int))) else none) (λb=>?_) (.inl (.inr ⟨{cls:=.type "list",data:=.seq vs.toArray },jab M⟩)) (λb u z=>?_) (λb z=>?_) λ_=>hk
  .by_cases hb:b=a
   .exact .inr ⟨_,_,jab hb⟩
   .exact .inl (jaa hb)
  .by_cases hb:b=a
   .have z':=(jab hb).symm.trans z;cases z';subst hb;exact⟨ha,by rw[jad];exact hl,vs,_,rv,ha⟩
   .have z':=(jaa hb).symm.trans z;cases z'
  .by_cases hb:b=a
   .exact hb
   .exact absurd (jaa hb) z
theorem N6 {l:OpenLaw}{n k:Nat}{q:Program}{loose:jc2}{XP:(Str->jc7)->Heap->Prop}{YP:World->Heap->Prop}{d:DefRec}{K:Params->Frag}{CX:World->D3}{sp:World->Sp}{x:Str}
  (hn:l.most=some n) (hn2:n<=sizeLine) (hdf:d.params.defaults=[]) (hr:bR k callerA)
  (hY:∀(w:World)(h:Heap),YP w h->(K w.params).In h)
  (F:∀(w:World)(mg:Str->jc7)(fa:Addr)(h:Heap),(K w.params).In h->h.Ns mainGlobals mg->mg d.name=some (.ref fa)->
   ∃fd:FuncData,(∀(s:Shared)(u:Value),BindsTo s fd ⟨[u],[]⟩ [(x,u)])/\
    ∀base:Heap,(K w.params).In base->base.Ns mainGlobals mg->aG l.prog w (K w.params) mg base (CX w) k fa fd [x] (sp w))
  (NP:∀(w:World)(H:Hp)(a:Addr)(ns:List Int),ns.length<=n->Yb H->iG (K w.params) H a (ns.map V.int)->sp w [.ref a] H (λv _=>v=.bl true) λ_ _ _=>False)
  (hCX:∀(w:World)(H:Hp)(s:Shared)(e:Value)(s':Shared),CX w [] H s (λ_ _ _=>False) e s'->False) :
  WalkO q loose XP YP l.row.toRowW d [] (λf vs=>PySem.call f vs):=by
 refine Att.BG hn hdf λw s₀ s₁ mg mb fa o pm cd doc a vs ns G QR ho hd hcd hmg hobj hints hlen hg=>?_;have KX:=hY w _ QR;obtain⟨fd,hb,hF⟩:=F w mg fa _ KX G.T.g hmg;exact L5 KX G.T.g G.T.b G.T.builtins G.T.nolimit hg hobj hints (jap hlen hn2) hr hF hb (λH hO hS=>NP w H a ns hlen hO hS) λH e s'=>hCX w H s₁ e s'
def inClass (s:Stmt)(j:Nat):Stmt:=match s with
 |.ClassDef _ _ _ body _ _ _ _ _ _ _=>body.getD j (.Pass ⟨0,0,0,0⟩)
 |_=>.Pass ⟨0,0,0,0⟩
def cB (s:Stmt):Arguments:=match s with
 |.FunctionDef _ a _ _ _ _ _ _ _ _=>a
 |_=>{posonlyargs:=[],args:=[],vararg:=none,kwonlyargs:=[],kw_defaults:=[],kwarg:=none,defaults:=[] }
def ak (s:Stmt):List Stmt:=match s with
 |.FunctionDef _ _ b _ _ _ _ _ _ _=>b
 |_=>[]
def ah (s:Stmt):Scope:=match s with
 |.FunctionDef _ _ _ _ _ _ sc _ _ _=>sc
 |_=>{kind:=.function,names:=[],isGenerator:=false,isCoroutine:=false }
abbrev dh:D3:=λ_ _ _ _ _ _=>False
abbrev E0:XK:=λ_ _ _=>False
def rB {X:Cx}:Passes dh X E0:=λ_ _ _ _ _ _ _ h=>h.elim
structure b6 (K:Frag)(x qual:Str)(st:Stmt)(f:Addr)(fd:FuncData):Prop where
 ex:∃(oc:Value)(od:Option Addr)(kV doc pm:Value)(an:Option Addr)(AT ct:Value)(osl:Array (Option Value)),
  fd=fnOf x qual (cB st) (ak st) (ah st) .none kV doc pm an AT ct/\K.lookup f=some ⟨oc,od,.func fd,osl⟩/\codeIn K AT qual=true
 kp:keepIn K (.ref f)=true
section
variable {P:Program}{w:World}{K:Frag}{mg:Str->jc7}{base:Heap}
theorem b6.ok {x qual:Str}{st:Stmt}{f:Addr}{fd:FuncData}{N ps:jc2}{k:Nat}{sp:Sp}(F:b6 K x qual st f fd)(S:au N ps (ah st))(len:∀vs H Q E,sp vs H Q E->vs.length=ps.length)
  (hbody:∀(AT:Value)(A:Around)(outer:List Env)(s:Shared)(H:Hp)(vs:List V)(Q:VK) (E:XK),bR k (A.deeper (envOfC qual (ah st) s.heap.objs.size f AT))->sp vs H Q E->
   ∃t,b5 (zC dh P w K mg base N qual (ah st) f AT A outer s H E).Yh (ak st) t/\t {nx:=λ_ H'=>Q .ck H',rt:=Q } (start N vs) H):aG P w K mg base dh (k+1) f fd ps sp:=by
 obtain⟨oc,od,kV,doc,pm,an,AT,ct,osl,rfl,lk,hcd⟩:=F.ex;refine Tn lk hcd S len λA outer s H vs Q E hr NP=>?_;obtain⟨t,h,q⟩:=hbody AT A outer s H vs Q E hr NP;exact⟨t,h.Yh,q⟩
theorem b6.binds {x qual:Str}{st:Stmt}{f:Addr}{fd:FuncData}{ps:jc2}(F:b6 K x qual st f fd)
  (h:∀(kV doc pm:Value)(an:jc6)(AT ct:Value)(us:jc3),us.length=ps.length->bindArgs (fnOf x qual (cB st) (ak st) (ah st) .none kV doc pm an AT ct) ⟨us,[]⟩=pure (ps.zip us)):Binds K fd ps []:=by
 obtain⟨oc,od,kV,doc,pm,an,AT,ct,osl,rfl,lk,hcd⟩:=F.ex;exact .all (h kV doc pm an AT ct)
theorem Xi {x qual:Str}{st:Stmt}{f:Addr}{oc:Value}{od an:jc6}{osl:jc1}{kV doc pm AT ct:Value}(l:K.lookup f=some ⟨oc,od,.func (fnOf x qual (cB st) (ak st) (ah st) .none kV doc pm an AT ct),osl⟩)
  (c:codeIn K AT qual=true) (k:keepIn K (.ref f)=true):b6 K x qual st f (fnOf x qual (cB st) (ak st) (ah st) .none kV doc pm an AT ct):=⟨⟨oc,od,kV,doc,pm,an,AT,ct,osl,M,l,c⟩,k⟩
end
def rN {A:Around}{k:Nat}(hr:bR k A):A.units+1<cLine:=Nat.lt_of_le_of_lt (Nat.add_le_add_left (by decide:1<=64) _) hr.units
def Gh {n:Nat}(h:n<=1000):n<sizeLine:=Nat.lt_of_le_of_lt h (by decide)
section
variable {X:Cx}
theorem pv (i:Nat){x:Str}{pos:Pos}(hN:autoParam (X.N[i]?=some x) zi)(hv:X4 X.env.scope x:=by first | exact Or.inl rfl | exact Or.inr (Or.inl M) | exact Or.inr (Or.inr M))(hd:autoParam ((x==("__debug__":Str))=false) zn)
  (hcd:autoParam ((x==("__classdict__":Str))=false) zn):PE X (.Name x pos) (YQ i):=KW hN hv hd hcd
end
section
variable {κ:Type} [DecidableEq κ]
def nW (kvs:List (κ×V))(k:κ):Option V:=(kvs.find? λkv=>decide (kv.1=k)).map (·.2)
def putK (kvs:List (κ×V))(k:κ)(v:V):List (κ×V):=
 if(kvs.any λkv=>decide (kv.1=k))=true then kvs.map (λkv=>if kv.1=k then(kv.1,v) else kv) else kvs++[(k,v)]
def nU {p:κ×V}{r:List (κ×V)}{k:κ}(e:p.1=k):nW (p::r) k=some p.2:=by simp[nW,jbA,e]
def nV {p:κ×V}{r:List (κ×V)}{k:κ}(e:¬ p.1=k):nW (p::r) k=nW r k:=by simp[nW,jbA,e]
theorem Ah (k:κ):∀kvs:List (κ×V),(kvs.any λkv=>decide (kv.1=k))=(nW kvs k).isSome
 |[]=>rfl
 |p::r=>by
  rw[jbG];by_cases e:p.1=k
  .simp only[nU e,jag e,Bool.true_or,Option.isSome_some]
  .rw[nV e,jaf e,jco];exact Ah k r
def ku (kvs:List (κ×V))(k:κ)(v:V):(putK kvs k v).length<=kvs.length+1:=by
 unfold putK;split
 .rw[jad];omega
 .rw[jaD,jaA,jcD];omega
def iY.Ho {o:Option V}{u:jc7}(r:iY o u):o.isSome=u.isSome:=by
 cases o with
 |none=>cases u with
  |none=>rfl
  |some _=>exact(show False from r).elim
 |some _=>cases u with
  |none=>exact(show False from r).elim
  |some _=>rfl
def iY.getD {o:Option V}{u:jc7}{d:V}{d':Value}(r:iY o u)(rd:RelV d d'):RelV (o.getD d) (u.getD d'):=by
 cases o with
 |none=>cases u with
  |none=>exact rd
  |some _=>exact(show False from r).elim
 |some _=>cases u with
  |none=>exact(show False from r).elim
  |some _=>exact r
def KV.val {kvs:List (κ×V)}{vs:List (κ×Value)}(r:KV kvs vs)(k:κ):iY (nW kvs k) (valueAt vs k):=by
 unfold KV at r
 induction r with
 |nil=>exact True.intro
 | @cons p q ps qs h t ih=>
  obtain⟨h1,h2⟩:=h;by_cases e:p.1=k
  .have e':q.1=k:=h1.symm.trans e;have b:valueAt (q::qs) k=some q.2:=by simp[valueAt,jbA,e']
   rw[nU e,b];exact h2
  .have e':¬ q.1=k:=λz=>e (h1.trans z);have b:valueAt (q::qs) k=valueAt qs k:=by simp[valueAt,jbA,e']
   rw[nV e,b];exact ih
def KV.any {kvs:List (κ×V)}{vs:List (κ×Value)}(r:KV kvs vs)(k:κ):(kvs.any λkv=>decide (kv.1=k))=vs.any λkv=>decide (kv.1=k):=by
 unfold KV at r
 induction r with
 |nil=>rfl
 |cons h t ih=>rw[jbG,jbG,ih,h.1]
theorem KV.repl {kvs:List (κ×V)}{vs:List (κ×Value)}(r:KV kvs vs)(k:κ){y:V}{u:Value}(ry:RelV y u) :
  KV (kvs.map λkv=>if kv.1=k then(kv.1,y) else kv) (vs.map λkv=>if kv.1=k then(kv.1,u) else kv):=by
 unfold KV at r ⊢
 induction r with
 |nil=>exact .nil
 | @cons p q ps qs h t ih=>
  rw[jal,jal];refine .cons ?_ ih;obtain⟨h1,h2⟩:=h;by_cases e:p.1=k
  .rw[jab e,jab (h1.symm.trans e)];exact⟨h1,ry⟩
  .rw[jaa e,jaa (λz=>e (h1.trans z))];exact⟨h1,h2⟩
def KV.put {kvs:List (κ×V)}{vs:List (κ×Value)}(r:KV kvs vs)(k:κ){y:V}{u:Value}(ry:RelV y u):KV (putK kvs k y) (stored vs k u):=by
 unfold putK stored;rw[r.any k];by_cases e:(vs.any λkv=>decide (kv.1=k))=true
 .rw[jab e,jab e];exact r.repl k ry
 .rw[jaa e,jaa e];exact Paired.snoc r ⟨M,ry⟩
def KV.keys {kvs:List (κ×V)}{vs:List (κ×Value)}(r:KV kvs vs):kvs.map (·.1)=vs.map (·.1):=by
 unfold KV at r
 induction r with
 |nil=>rfl
 |cons h t ih=>rw[jal,jal,ih,h.1]
def KV.length {kvs:List (κ×V)}{vs:List (κ×Value)}(r:KV kvs vs):kvs.length=vs.length:=jbc r
end
def A8 {P:Program}{w:World}{k:Key}{u:Value}(r:RelV (kV k) u):(bG P w).is k u=true:=by
 cases k with
 |inl i=>obtain⟨t,e⟩:=(show ∃t,u=Value.int i t from r);subst e;exact A4 P w i t
 |inr x=>obtain⟨t,e⟩:=(show ∃t,u=Value.str x t from r);subst e;exact A3 P w x t
theorem xm {P:Program}{w:World}:∀{ks:List Key}{us:jc3},Vals (ks.map kV) us->ItemsAre (bG P w) ks us
 |[],_,r=>by rw[List.map_nil] at r;cases r;exact .nil
 |k::ks,_,r=>by
  rw[jal] at r;cases r with
  |cons h t=>exact .cons (A8 h) (xm t)
abbrev KT (H:Hp):List (List Key×V)->List (List Key×Addr×Value)->Prop:=Paired λp q=>p.1=q.1/\H q.2.1=some (.tup (p.1.map kV))/\RelV p.2 q.2.2
def KT.val {H:Hp}{kvs:List (List Key×V)}{xs:List (List Key×Addr×Value)}(r:KT H kvs xs)(k:List Key):iY (nW kvs k) ((atKey xs k).map (·.2)):=by
 induction r with
 |nil=>exact True.intro
 | @cons p q ps qs h t ih=>
  obtain⟨h1,_,h2⟩:=h;by_cases e:p.1=k
  .have e':q.1=k:=h1.symm.trans e;have b:atKey (q::qs) k=some q.2:=by simp[atKey,jbA,e']
   rw[nU e,b];exact h2
  .have e':¬ q.1=k:=λz=>e (h1.trans z);have b:atKey (q::qs) k=atKey qs k:=by simp[atKey,jbA,e']
   rw[nV e,b];exact ih
theorem KT.repl {H:Hp}{kvs:List (List Key×V)}{xs:List (List Key×Addr×Value)}(r:KT H kvs xs)(k:List Key){y:V}{u:Value}(ry:RelV y u) :
  KT H (kvs.map λkv=>if kv.1=k then(kv.1,y) else kv) (xs.map (putAt k u)):=by
 induction r with
 |nil=>exact .nil
 | @cons p q ps qs h t ih=>
  rw[jal,jal];refine .cons ?_ ih;obtain⟨h1,h2,h3⟩:=h;unfold putAt;by_cases e:p.1=k
  .rw[jab e,jab (h1.symm.trans e)];exact⟨h1,h2,ry⟩
  .rw[jaa e,jaa (λz=>e (h1.trans z))];exact⟨h1,h2,h3⟩
theorem KT.put {H:Hp}{kvs:List (List Key×V)}{xs:List (List Key×Addr×Value)}(r:KT H kvs xs)(k:List Key){b:Addr}{y:V}{u:Value}(hb:H b=some (.tup (k.map kV)))(ry:RelV y u) :
  KT H (putK kvs k y) (storedH xs k b u):=by
 have e:(kvs.any λkv=>decide (kv.1=k))=(atKey xs k).isSome:=by
  rw[Ah,(r.val k).Ho,Option.isSome_map]
 unfold putK storedH;rw[e];by_cases q:(atKey xs k).isSome=true
 .rw[jab q,jab q];exact r.repl k ry
 .rw[jaa q,jaa q];exact Paired.snoc r ⟨M,hb,ry⟩
theorem KT.keeps {H H':Hp}{kvs:List (List Key×V)}{xs:List (List Key×Addr×Value)}(r:KT H kvs xs)(ht:∀b ys,H b=some (.tup ys)->H' b=some (.tup ys)):KT H' kvs xs:=
 Paired.WG r λ_ _ z=>⟨z.1,ht _ _ z.2.1,z.2.2⟩
section
variable {P:Program}{w:World}{H:Hp}{h:Heap}{a:Addr}
def Sz {u:HO}(ok:iZ P w H h)(e:Rd H a u):bB P w H h a u:=e.ok ok
theorem pC {kvs:List (Key×V)}(ok:iZ P w H h)(e:Rd H a (.dK kvs)):kvs.length<=sizeLine/\(a==sysModules)=false/\∃vs,KV kvs vs/\h.DictOf (bG P w) a vs:=
 show bB P w H h a (.dK kvs) from Sz ok e
def Tu {kvs:List (Key×V)}(ok:iZ P w H h)(e:H a=some (.dK kvs)):kvs.length<=sizeLine/\(a==sysModules)=false/\∃vs,KV kvs vs/\h.DictOf (bG P w) a vs:=pC ok (.inl e)
def zh {ks:List Key}(ok:iZ P w H h)(e:H a=some (.tup (ks.map kV))):(tupleKind (bG P w)).is h ks a:=by
 obtain⟨_,AC,r,o,h1,h2,n,h3⟩:=(show bB P w H h a (.tup (ks.map kV)) from ok a _ e)
 exact⟨o,AC.toArray,n,h1,h2,h3,by simpa using xm r⟩
theorem Bm {kvs:List (List Key×V)}(ok:iZ P w H h)(e:Rd H a (.dT kvs)):kvs.length<=sizeLine/\(a==sysModules)=false/\
  ∃xs,KT H kvs xs/\h.DictOfH (tupleKind (bG P w)) a xs:=by
 obtain⟨z,y,xs,r,o,es,ep,h1,h2,h3,h4,h5⟩:=(show bB P w H h a (.dT kvs) from Sz ok e)
 refine⟨z,y,xs,r,o,es,ep,h1,h2,h3,h4,λx hx=>?_,h5⟩;have all:∀{l:List (List Key×V)} {m:List (List Key×Addr×Value)},KT H l m->∀x∈m,(tupleKind (bG P w)).is h x.1 x.2.1:=by
  intro l m q
  induction q with
  |nil=>intro x hx;exact nomatch hx
  | @cons p q ps qs hq t ih=>
   intro x hx;rcases jak.mp hx with e | hx
   .subst e;exact zh ok (by rw[<- hq.1];exact hq.2.1)
   .exact ih x hx
 exact all r x hx
theorem a1A {kvs:List (List Key×V)}(ok:iZ P w H h)(e:H a=some (.dT kvs)):kvs.length<=sizeLine/\(a==sysModules)=false/\
  ∃xs,KT H kvs xs/\h.DictOfH (tupleKind (bG P w)) a xs:=Bm ok (.inl e)
end
def zY (H:Hp)(a:Addr)(y:V)(r:Option V):Prop:=
 (∃kvs k,Rd H a (.dK kvs)/\y=kV k/\r=nW kvs k)\/∃kvs k b,Rd H a (.dT kvs)/\y=.ref b/\H b=some (.tup (k.map kV))/\r=nW kvs k
def NB (H:Hp)(a:Addr)(y v:V)(H':Hp):Prop:=
 (∃kvs k,H a=some (.dK kvs)/\y=kV k/\kvs.length<sizeLine/\H'=upd H a (.dK (putK kvs k v)))\/
 ∃kvs k b,H a=some (.dT kvs)/\y=.ref b/\H b=some (.tup (k.map kV))/\kvs.length<sizeLine/\H'=upd H a (.dT (putK kvs k v))
def zY.k {H:Hp}{a:Addr}{kvs:List (Key×V)}{k:Key}(e:H a=some (.dK kvs)):zY H a (kV k) (nW kvs k):=.inl ⟨kvs,k,.inl e,M,M⟩
def NB.k {H:Hp}{a:Addr}{kvs:List (Key×V)}{k:Key}{v:V}(e:H a=some (.dK kvs))(hl:kvs.length<sizeLine):NB H a (kV k) v (upd H a (.dK (putK kvs k v))):=.inl ⟨kvs,k,e,M,hl,M⟩
section
variable {X:Cx}{vy:jcZ}{U:St}{H:Hp}{s:Shared}{a:Addr}{y v:V}{u r:Value}{o:Option V}{A:Around}{E:jc0}
def Inv.big (I:Inv X vy U H s):sysModules<s.heap.objs.size:=by
 have h:mainGlobals<s.heap.objs.size:=(I.mod.glob.keeps I.bk).lt;exact Nat.lt_trans (by decide) h
theorem Hx {Q:jc0}(hu:A.units+1<cLine)(I:Inv X vy U H s)(g:zY H a y (some v))(ry:RelV y u)(h:∀w' s',Inv X vy U H s'->RelV v w'->Q w' s') :
  wpAny (model X.prog X.w) A (getItem (.ref a) u) Q E s:=by
 rcases g with⟨kvs,k,e,ey,l⟩ | ⟨kvs,k,b,e,ey,eb,l⟩
 .subst ey;obtain⟨z,hd,vs,rel,dd⟩:=pC I.hok e;obtain⟨w',hw,rw'⟩:=iY.some_of (v:=v) (o:=valueAt vs k) (by rw[l];exact rel.val k);exact wpAny_getItem_of (A8 ry) dd.mapOf hw (h w' _ (I.tok _) rw')
 .subst ey;cases(show u=Value.ref b from ry);obtain⟨z,hd,xs,rel,dd⟩:=Bm I.hok e;obtain⟨w',hw,rw'⟩:=iY.some_of (v:=v) (o:=(atKey xs k).map (·.2)) (by rw[l];exact rel.val k);obtain⟨p,hp,hp2⟩:=jcO.mp hw;refine wpAny_getItem_heap (tupleKind_room_in1 hu) (zh I.hok eb) dd hp ?_;rw[hp2];exact h w' _ (I.tok _) rw'
theorem zB {h':Heap}{t':Nat}{ob:HO}(I:Inv X vy U H s)(mu:YA (H a))(hs:Heap.SameBut a s.heap h')(he:∃q,h'.get? a=some q)(new:bB X.prog X.w (upd H a ob) h' a ob) :
  Inv X vy U (upd H a ob) {s with heap:=h',toks:=t' }:=
 I.write (x:=a) (e:=a) mu (.inl M) (λb q hb z=>(hs.2 b hb).trans z) he new
theorem MV {P:Program}{w:World}{H':Hp}{h':Heap}{kvs:List (Key×V)}{vs:List (Key×Value)}(z:kvs.length<=sizeLine)(hd:(a==sysModules)=false)(rel:KV kvs vs)(dd:h'.DictOf (bG P w) a vs) :
  bB P w H' h' a (.dK kvs):=⟨z,hd,vs,rel,dd⟩
theorem Hv {H':Hp}{Q:Unit->Shared->Prop}(hu:A.units+1<cLine)(I:Inv X vy U H s)(g:NB H a y v H')(ry:RelV y u)(rv:RelV v r)(h:∀s',Inv X vy U H' s'->Q () s') :
  wpAny (model X.prog X.w) A (setItem (.ref a) u r) Q E s:=by
 rcases g with⟨kvs,k,e,ey,l,eH⟩ | ⟨kvs,k,b,e,ey,eb,l,eH⟩
 .subst ey eH;obtain⟨z,hd,vs,rel,dd⟩:=Tu I.hok e;have hz:vs.length<=sizeLine:=by rw[<- rel.length];exact z
  have hl:(putK kvs k v).length<=sizeLine:=by have:=ku kvs k v;omega
  refine wpAny_setItem_pairs (hsz:=hz) (A8 ry) dd λh' NV hs=>h _ ?_;have he:∃q,h'.get? a=some q:=let⟨q,_,_,hq,_⟩:=NV;⟨q,hq⟩;exact zB I (by rw[e];exact True.intro) hs he (MV hl hd (rel.put k rv) NV)
 .subst ey eH;cases(show u=Value.ref b from ry);obtain⟨z,hd,xs,rel,dd⟩:=a1A I.hok e;have hz:xs.length<=sizeLine:=by rw[<- jbc rel];exact z
  have hl:(putK kvs k v).length<=sizeLine:=by have:=ku kvs k v;omega
  refine wpAny_setItem_heap (hsz:=hz) (tupleKind_room_in1 hu) (zh I.hok eb) dd λh' NV hs=>h _ ?_;obtain⟨q,es,ep,hq,h2,h3,h4,_,h5⟩:=NV;refine zB I (by rw[e];exact True.intro) hs ⟨q,hq⟩ ⟨hl,hd,_,(rel.put k eb rv).keeps λc ys ec=>?_,q,es,ep,hq,h2,h3,h4,h5⟩;rw[aE (A0 ec e (λz=>nomatch z))];exact ec
end
section
variable {X:Cx}{vy:jcZ}{U:St}{H:Hp}{s:Shared}{a:Addr}{kvs:List (Key×V)}{k:Key}{u:Value}{A:Around}{E:jc0}
end
def Ro (i:Expr):Prop:=∀ov iv,subscripted i false ov iv=operate [ov,iv] (getItem ov iv)
theorem Om {prog:Program}{w:World}{A:Around}{E:jc0}{s:Shared}{env:Env}{value slice:Expr}{pos:Pos}{T id:String}{Q:jc0}
  (hl:typeLookup (.type T) "__getitem__"=pure (some (.builtin id))) (hs:Ro slice)
  (h:wpAny (model prog w) A (eval value env) (λo s₁=>wpAny (model prog w) A (eval slice env) (λi s₂=>s₂.TypeIs o T/\wpAny (model prog w) A (getItem o i) Q E s₂) E s₁) E s) :
  wpAny (model prog w) A (eval (.Subscript value slice pos) env) Q E s:=by
 refine Subscript_ (jaN h (λo s₁ h₁=>jaN h₁ (λi s₂ h₂=>?_) λ_ _ x=>x) λ_ _ x=>x);obtain⟨hT,h₂⟩:=h₂;unfold subscriptTail;refine jac ?_;rw[getitemInPython_of_ne hT.not_modules];refine jac (wpAny_specialOf hT hl ?_);have fin:wpAny (model prog w) A (subscripted slice false o i) (λr s₃=>wpAny (model prog w) A (letTemporaryGo value o r >>=λ_=>pure r) Q E s₃) E s₂:=by
  rw[hs o i];exact wpAny_operating (jaN h₂ (λr s₃ h₃=>jac (wpAny_letTemporaryGo (jas h₃))) λ_ _ x=>x)
 first
  |exact jas (jac fin)
  |exact jac (jas (jac fin))
  |exact jac fin
def Bq {X:Cx}{vy:jcZ}{U:St}{H:Hp}{s:Shared}{a:Addr}{y:V}{o:Option V}(I:Inv X vy U H s)(g:zY H a y o):s.TypeIs (.ref a) "dict":=by
 rcases g with⟨kvs,k,e,_,_⟩ | ⟨kvs,k,b,e,_,_,_⟩
 .obtain⟨_,_,vs,_,dd⟩:=pC I.hok e;exact dd.typeIs
 .obtain⟨_,_,xs,_,dd⟩:=Bm I.hok e;exact dd.typeIs
def Zd (td ty:TE):TE:=λU H Q=>td U H λx H1=>ty U H1 λy H2=>∃a v,x=.ref a/\zY H2 a y (some v)/\Q v H2
def ZJ (td ty tv:TE):TS:=λD U H=>tv U H λv H1=>td U H1 λx H2=>ty U H2 λy H3=>∃a H4,x=.ref a/\NB H3 a y v H4/\D.nx U H4
section
variable {X:Cx}{o i e value:Expr}{pos pos' tpos:Pos}{td ty tv:TE}
def EU (hu:X.A.units+1<cLine)(ho:PE X o td)(hi:PE X i ty)(hs:Ro i):PE X (.Subscript o i pos) (Zd td ty):=by
 intro vy s U H Q I h;refine Om PySem.F.slot_dict_getitem.lookup hs (bu (ho vy s U H _ I h) λu s1 ⟨x,H1,I1,rx,q1⟩=>bu (hi vy s1 U H1 _ I1 q1) ?_);rintro iv s2 ⟨y,H2,I2,ry,a,v,ex,g,q2⟩;subst ex;obtain rfl:u=Value.ref a:=rx;exact⟨Bq I2 g,Hx hu I2 g ry λw' s3 I3 rw'=>⟨v,H2,I3,rw',q2⟩⟩
theorem Pc (hu:X.A.units+1<cLine)(ho:PE X o td)(hi:PE X i ty)(hv:PE X value tv)(hs:swapsWith value (some (.Subscript o i pos')) pos.line X.env=pure false) :
  PS X (.Assign [.Subscript o i pos'] value pos) (ZJ td ty tv):=by
 intro vy s U H D I h;refine wpAny_Assign_Subscript (bu (hv vy s U H _ I h) λr s1 ⟨v,H1,I1,rv,q1⟩=>bu (ho vy s1 U H1 _ I1 q1) λu s2 ⟨x,H2,I2,rx,q2⟩=>bu (hi vy s2 U H2 _ I2 q2) λiv s3 ⟨y,H3,I3,ry,a,H4,ex,g,q3⟩=>?_) hs;subst ex;obtain rfl:u=Value.ref a:=rx;exact Hv hu I3 g ry rv λs4 I4=>⟨U,H4,I4,q3⟩
end
theorem Bp {P:Program}{w:World}{H:Hp}(h:Heap)(hb:sysModules<h.objs.size):bB P w H (h.push {cls:=.type "dict",data:=.dict #[] }) h.objs.size (.dK []):=
 ⟨jaT _,jcu.mpr (jaH (jaM hb)),[],.nil,Heap.DictOf.new h⟩
def UL:TE:=λ_ H Q=>∀p,H p=none->Q (.ref p) (upd H p (.dK []))
section
variable {X:Cx}{pos:Pos}
theorem K1:PE X (.Dict [] [] pos) UL:=λvy s U H Q I h=>
 wpAny_Dict_empty ⟨.ref s.heap.objs.size,_,I.laid (a:=s.heap.objs.size) (o:=.dK []) (t':=s.toks) (λ_ _ q=>jat _ q) (jaj _) (Bp s.heap I.big),M,h _ (I.hok.fresh (jaj _))⟩
end
def Cu:List (TE×TE)->St->Hp->(List (V×V)->Hp->Prop)->Prop
 |[],_,H,Q=>Q [] H
 |(tk,tv)::r,U,H,Q=>tk U H λx H1=>tv U H1 λy H2=>Cu r U H2 λps H3=>Q ((x,y)::ps) H3
abbrev VV:List (V×V)->List (Value×Value)->Prop:=Paired λp q=>RelV p.1 q.1/\RelV p.2 q.2
def PPs (X:Cx)(pos:Pos)(keys:List (Option Expr))(values:jc5)(Oa:List (TE×TE)):Prop:=
 ∀(vy:jcZ) (s:Shared) (U:St) (H:Hp) (Q:List (V×V)->Hp->Prop),Inv X vy U H s->Cu Oa U H Q->
  wpAny (model X.prog X.w) X.A (evalPairs (pairTrees keys values X.env pos)) (λvs s'=>∃ps H',Inv X vy U H' s'/\VV ps vs/\Q ps H') X.xe s
def Pf {X:Cx}{pos:Pos}:PPs X pos [] [] []:=λvy s U H Q I h=>pairTrees_nil_walk ⟨[],H,I,.nil,h⟩
theorem KJ {X:Cx}{pos:Pos}{k v:Expr}{ks:List (Option Expr)}{vs:jc5}{tk tv:TE}{Oa:List (TE×TE)}(hk:PE X k tk)(hv:PE X v tv)(hr:PPs X pos ks vs Oa) :
  PPs X pos (some k::ks) (v::vs) ((tk,tv)::Oa):=λvy s U H Q I h=>
 pairTrees_cons_walk (bu (hk vy s U H _ I h) (by rintro u s1 ⟨x,H1,I1,rx,q1⟩;exact bu (hv vy s1 U H1 _ I1 q1) (by rintro w2 s2 ⟨y,H2,I2,ry,q2⟩;exact   bu (hr vy s2 U H2 _ I2 q2) (by rintro ws s3 ⟨ps,H3,I3,rel,q3⟩;exact⟨(x,y)::ps,H3,I3,.cons ⟨rx,ry⟩ rel,q3⟩))))
def vc (kvs more:List (Key×V)):List (Key×V):=more.foldl (λacc kv=>putK acc kv.1 kv.2) kvs
def KV.merge:∀{more:List (Key×V)} {rs:List (Key×Value)} {kvs:List (Key×V)} {vs:List (Key×Value)},KV more rs->KV kvs vs->KV (vc kvs more) (merged vs rs):=by
 intro more rs kvs vs r;unfold KV at r
 induction r generalizing kvs vs with
 |nil=>intro q;exact q
 | @cons p q ps qs h t ih=>
  intro r0;have e:KV (putK kvs p.1 p.2) (stored vs q.1 q.2):=by
   have:=r0.put p.1 h.2;rw[<- h.1];exact this
  exact ih e
theorem mL:∀(more kvs:List (Key×V)),(vc kvs more).length<=kvs.length+more.length
 |[],kvs=>by show kvs.length<=kvs.length+0;omega
 |p::r,kvs=>by
  have h1:=mL r (putK kvs p.1 p.2);have h2:=ku kvs p.1 p.2;show(vc (putK kvs p.1 p.2) r).length<=_;rw[jaA];omega
theorem vE {P:Program}{w:World}:∀{kvs:List (Key×V)} {ws:List (Value×Value)},VV (kvs.map λkv=>(kV kv.1,kv.2)) ws->∃rs,Carries (bG P w) ws rs/\KV kvs rs
 |[],_,r=>by rw[List.map_nil] at r;cases r;exact⟨[],True.intro,.nil⟩
 |p::kvs,_,r=>by
  rw[jal] at r;cases r with
  | @cons a b as bs h t=>
   obtain⟨rs,c,q⟩:=vE (P:=P) (w:=w) t;obtain⟨b1,b2⟩:=b;exact⟨(p.1,b2)::rs,⟨A8 h.1,M,c⟩,.cons ⟨M,h.2⟩ q⟩
def Zc (Oa:List (TE×TE)):TE:=λU H Q=>∀p,H p=none->Cu Oa U (upd H p (.dK [])) λps H2=>H2 p=some (.dK [])/\∃kvs:List (Key×V),ps=kvs.map (λkv=>(kV kv.1,kv.2))/\kvs.length<=15/\Q (.ref p) (upd H2 p (.dK (vc [] kvs)))
theorem Pw {X:Cx}{pos:Pos}{keys:List (Option Expr)}{values:jc5}{Oa:List (TE×TE)}(h:PPs X pos keys values Oa)(hall:keys.all (·.isSome)=true)(hl:keys.length=values.length)(h0:keys≠[])
  (h15:keys.length<=15):PE X (.Dict keys values pos) (Zc Oa):=by
 intro vy s U H Q I q;have hn:=I.hok.fresh (jaj s.heap.objs.size);have I1:=I.laid (a:=s.heap.objs.size) (o:=.dK []) (h':=s.heap.push {cls:=.type "dict",data:=.dict #[] }) (t':=s.toks) (λ_ _ q=>jat _ q) (jaj _) (Bp s.heap I.big);refine wpAny_Dict_walk (knd:=bG X.prog X.w) hall hl h0 h15 (bu (h vy _ U _ _ I1 (q _ hn)) ?_);rintro ws s2 ⟨ps,H2,I2,rel,e,kvs,ep,lk,q2⟩;subst ep;obtain⟨rs,c,rk⟩:=vE (P:=X.prog) (w:=X.w) rel;obtain⟨z,hd,vs0,r0,dd⟩:=Tu I2.hok e;cases r0;refine⟨rs,c,dd,λh' NV hs=>⟨.ref s.heap.objs.size,_,?_,M,q2⟩⟩;have hz:(vc [] kvs).length<=sizeLine:=by
  have h1:=mL kvs [];rw[jcD] at h1;rw[ja4];omega
 have he:∃q,h'.get? s.heap.objs.size=some q:=let⟨q,_,_,hq,_⟩:=NV;⟨q,hq⟩;exact zB I2 (by rw[e];exact True.intro) hs he (MV hz hd (rk.merge .nil) NV)
structure M2 (X:Cx)(o:Expr)(m:Str)(BM:Pos)(e f:Expr)(cpos:Pos):Prop where
 base:attributeBase o m X.env (eval o X.env)=eval o X.env
 few:((backTo cpos (starEach [e,f] X.env)).all (λx=>!x.1)&&(backToKw cpos (keywordEach [] X.env)).all (λx=>x.1.isSome)
 &&decide (([e,f]:List Expr).length+([]:List Keyword).length+(if([]:List Keyword).isEmpty then 0 else 1)<30))=true
 line:(BM.endLine==cpos.line)=true
 trees:backTo cpos (starEach [e,f] X.env)=[(false,eval e X.env),(false,eval f X.env)]
def IsD (H:Hp)(a:Addr):Prop:=(∃kvs,Rd H a (.dK kvs))\/∃kvs,Rd H a (.dT kvs)
theorem W8 {X:Cx}{vy:jcZ}{U:St}{H:Hp}{s:Shared}{a:Addr}(I:Inv X vy U H s)(d:IsD H a) :
  s.TypeIs (.ref a) "dict"/\(∀b,Value.ref a=.ref b->∃ob,s.heap.get? b=some ob/\ob.dict=none)/\(a==sysModules)=false:=by
 rcases d with⟨kvs,e⟩ | ⟨kvs,e⟩
 .obtain⟨_,hd,vs,_,dd⟩:=pC I.hok e;refine⟨dd.typeIs,λb q=>?_,hd⟩;cases q;obtain⟨ob,_,_,h1,h2,_⟩:=dd;exact⟨ob,h1,h2.2.1⟩
 .obtain⟨_,hd,xs,_,dd⟩:=Bm I.hok e;refine⟨dd.typeIs,λb q=>?_,hd⟩;cases q;obtain⟨ob,_,_,h1,h2,_⟩:=dd;exact⟨ob,h1,h2.2.1⟩
section
variable {X:Cx}{vy:jcZ}{U:St}{H:Hp}{s:Shared}{a:Addr}{y d:V}{u r:Value}{o:Option V}{A:Around}{E:jc0}
theorem Xy {Q:jc0}(hu:A.units+1<cLine)(I:Inv X vy U H s)(g:zY H a y o)(ry:RelV y u)(rd:RelV d r)(h:∀w' s',Inv X vy U H s'->RelV (o.getD d) w'->Q w' s') :
  wpAny (model X.prog X.w) A (call (.builtin "dict.get") [.ref a,u,r]) Q E s:=by
 rcases g with⟨kvs,k,e,ey,l⟩ | ⟨kvs,k,b,e,ey,eb,l⟩
 .subst ey;obtain⟨z,hd,vs,rel,dd⟩:=pC I.hok e;refine call_meetsIn PySem.F.slot_dict_get dd.typeIs PySem.F.entry_dict_get (PySem.F.args_dict_get_3 _ _ _) (meets_dict_get_default (bG X.prog X.w) a (A8 ry) hd r) ⟨_,dd.mapOf,h _ _ (I.tok _) ?_⟩;rw[l];exact(rel.val k).getD rd
 .subst ey;cases(show u=Value.ref b from ry);obtain⟨z,hd,xs,rel,dd⟩:=Bm I.hok e;refine call_meetsIn PySem.F.slot_dict_get dd.typeIs PySem.F.entry_dict_get (PySem.F.args_dict_get_3 _ _ _) (meetsH_dict_get_default (tupleKind (bG X.prog X.w)) a b hd r) ⟨tupleKind_room_in1 hu,k,xs,zh I.hok eb,dd,h _ _ (I.tok _) ?_⟩;rw[l];exact(rel.val k).getD rd
end
def UN (td ty tx:TE):TE:=λU H Q=>td U H λx H1=>∃a,x=.ref a/\IsD H1 a/\ty U H1 λy H2=>tx U H2 λz H3=>∃o,zY H3 a y o/\Q (o.getD z) H3
section
variable {X:Cx}{o e f:Expr}{BM cpos:Pos}{td ty tx:TE}
def K2 (hu:X.A.units+1<cLine)(ho:PE X o td)(he:PE X e ty)(hf:PE X f tx)(m:M2 X o "get" BM e f cpos):PE X (.Call (.Attribute o "get" BM) [e,f] [] cpos) (UN td ty tx):=by
 intro vy s U H Q I h;refine wpAny_Call_method m.base m.few m.line PySem.F.plainAttrs_dict PySem.F.slot_dict_get PySem.F.type_dict_get (bu (ho vy s U H _ I h) ?_);rintro u s1 ⟨x,H1,I1,rx,a,ex,d,q1⟩;subst ex;obtain rfl:u=Value.ref a:=rx;obtain⟨t1,t2,_⟩:=W8 I1 d;refine⟨t1,t2,?_⟩;rw[m.trees];refine jca rfl (jcT (Calls.spliced_cons (bu (he vy s1 U H1 _ I1 q1) λiv s2 ⟨y,H2,I2,ry,q2⟩=>
  Calls.spliced_cons (bu (hf vy s2 U H2 _ I2 q2) λfv s3 ⟨z,H3,I3,rz,ov,g,q3⟩=>Calls.spliced_nil ?_))))
 exact Xy hu I3 g ry rz λw' s4 I4 rw'=>⟨_,H3,I4,rw',q3⟩
end
section
variable {X:Cx}{vy:jcZ}{U:St}{H:Hp}{s:Shared}{a:Addr}{kvs:List (Key×V)}{A:Around}{E:jc0}
end
section
variable {X:Cx}{vy:jcZ}{U:St}{H:Hp}{s:Shared}{a:Addr}{y:V}{u:Value}{A:Around}{E:jc0}
end
section
variable {X:Cx}
end
section
variable {κ:Type} [DecidableEq κ]
end
end L2
set_option maxHeartbeats 4000000
namespace L2
open PySem PySem.Spec PyProof.Rows
abbrev Ww:Value->Shared->Prop:=λ_ _=>False
noncomputable abbrev pF (X:Cx)(sc:Scope)(N:jc2)(cl:List (Str×Addr))(C:Addr)(s:Shared)(H:Hp)(fp:jc4)(xx:jc0):Cx:=
 {X with N:=N,s₀:=s,H₀:=H,env:=compEnvC sc cl C X.env,outer:=X.stack,ex:=fp,fn:=λ_=>false,pn:=[],xe:=xx }
abbrev Ab (X:Cx)(sc:Scope)(N:jc2)(cl:List (Str×Addr))(C:Addr)(s:Shared)(H:Hp)(fp:jc4):Cx:=pF X sc N cl C s H fp Ww
def Ext (U U':St):Prop:=U'.length=U.length/\∀(i:Nat) v,U[i]?=some (some v)->U'[i]?=some (some v)
def Em (cs:jc5)(env:Env):Sem Bool:=forIn cs true λc r=>if r=true then do let ok <- isTrue c env (eval c env);pure (ForInStep.yield ok) else pure (ForInStep.yield r)
def Nm (X:Cx)(cs:jc5)(t:TT):Prop:=
 ∀(vy:jcZ) (s:Shared) (U:St) (H:Hp) (Q:Bool->Hp->Prop),Inv X vy U H s->t U H Q->wpAny (model X.prog X.w) X.A (Em cs X.env) (TP X vy U Q) X.xe s
def Oj:TT:=λ_ H Q=>Q true H
def O6 {X:Cx}:Nm X [] Oj:=λvy s U H Q I h=>wpAny_tests_nil ⟨H,I,h⟩
def O5 {X:Cx}{c:Expr}{t:TT}(hc:PT X c t):Nm X [c] t:=λvy s U H Q I h=>wpAny_tests_one (hc vy s U H Q I h)
section
variable {prog:Program}{w:World}{A:Around}{R:Result->Shared->Prop}{s:Shared}
theorem Dw {elt target iter:Expr}{cs:jc5}{scope:Scope}{pos:Pos}{it acc:Value}{env:Env}(J:Nat->Shared->Prop)
  (turn:∀n s,J n s->wpAny (model prog w) A (pyNext it) (λr s1=>match r with
   |none=>R (.ok .next) s1
   |some v=>wpAny (model prog w) A (letOwnedTupleGo target it v) (λ_ s2=>wpAny (model prog w) A (assign target env v) (λ_ s3=>
     wpAny (model prog w) A (Em cs env) (λok s4=>if ok=true then wpAny (model prog w) A (eval elt env) (λx s5=>
       wpAny (model prog w) A (call (.builtin "list.append") [acc,x]) (λ_ s6=>∃m,m<n/\J m s6) (notedBy (model prog w) A env λe s'=>R (.error e) s') s5) (notedBy (model prog w) A env λe s'=>R (.error e) s') s4
      else ∃m,m<n/\J m s4) (notedBy (model prog w) A env λe s'=>R (.error e) s') s3) (notedBy (model prog w) A env λe s'=>R (.error e) s') s2) (notedBy (model prog w) A env λe s'=>R (.error e) s') s1) (notedBy (model prog w) A env λe s'=>R (.error e) s') s) (n:Nat) (h:J n s) :
  codeAny (model prog w) A (.compLoop (.ListComp elt [⟨target,iter,cs,0⟩] scope pos) 0 it acc env) R s:=by
 refine codeAny_loop rfl J (λk s' hk=>?_) n h;show wpAny (model prog w) A ((compTurn (.ListComp elt [⟨target,iter,cs,0⟩] scope pos) 0 it acc env).onRaise (λx=>do noteFrame x env;theTreesLotGoes x)) _ _ s';refine wpAny_noted ?_;have no:∀(e:Value)(s2:Shared),notedBy (model prog w) A env (λe s'=>R (.error e) s') e s2->notedBy (model prog w) A env (λe s'=>R (.error e) s') e s2:=λ_ _ f=>f;rw[compTurn_list];refine jac (jcn (jac (jaN (turn k s' hk) (λr s1 g1=>?_) no)));cases r with
 |none=>exact jas g1
 |some v=>
  refine jac (jaN g1 (λ_ s2 g2=>?_) no);refine jac (jaN g2 (λ_ s3 g3=>?_) no);refine jac (jaN g3 (λok s4 g4=>?_) no);cases ok with
  |false=>exact jas ⟨M,g4⟩
  |true=>exact jac (jac (jaN g4 (λx s5 g5=>jac (jaN g5 (λ_ s6 g6=>jas (jas ⟨M,g6⟩)) no)) no))
end
def FY (J:It)(g:TG)(tt:TT)(te:TE)(σ0:St)(W:Nat->Nat->List V->Hp->Prop)(R:List V->Hp->Prop):Prop:=
 ∀i m ys H,W i m ys H->(J.stop i H/\R ys H)\/(J.go i H/\∃F:List V->Hp->Prop,(∀ys' H',F ys' H'->∃m',m' < m/\W (i+1) m' ys' H')/\∀x H',J.BX i H x H'->g x σ0 H' λU2 H2=>Ext σ0 U2/\tt U2 H2 λb H3=>
  if b=true then te U2 H3 λv H4=>ys.length<sizeLine/\F (ys++[v]) H4 else F ys H3)
structure iE (X:Cx)(sc:Scope)(cl:List (Str×Addr))(own:Nat)(N:List Str)(fr:List Nat):Prop where
 kind:sc.kind=.function
 names:∀x∈sc.names,x.2=.local->sc.names.lookup x.1=some .local
 za:∀x∈sc.names,x.2≠.cell
 clos:closureFor sc X.env=pure cl
 cells:∀x c,cl.lookup x=some c->X.env.cells.lookup x=some c
 has:∀x,((relabel sc X.env).names.lookup x=some .cell\/(relabel sc X.env).names.lookup x=some .free)->∃c,cl.lookup x=some c
 len:N.length=own+fr.length
 fro:∀(i:Nat) j,fr[i]?=some j->∃x,N[own+i]?=some x/\X.N[j]?=some x/\(X.env.kindOf x=some .cell\/X.env.kindOf x=some .free)/\((relabel sc X.env).names.lookup x=some .cell\/(relabel sc X.env).names.lookup x=some .free)
def Rz (env:Env):List (Str×Addr)->Prop
 |[]=>True
 |p::r=>env.cells.lookup p.1=some p.2/\Rz env r
theorem Rz.mem {env:Env}:∀{cl:List (Str×Addr)},Rz env cl->∀p∈cl,env.cells.lookup p.1=some p.2
 |[],_,_,h=>nomatch h
 |_::_,h,p,hp=>by
  rcases jak.mp hp with rfl | hp
  .exact h.1
  .exact h.2.mem p hp
def zk (k:Option NameKind):Bool:=match k with
 |some .cell=>true
 |some .free=>true
 |_=>false
def Fg {k:Option NameKind}(h:zk k=true):k=some .cell\/k=some .free:=by
 cases k with
 |none=>cases h
 |some k=>cases k<;>first | exact .inl rfl | exact .inr rfl | cases h
noncomputable def Ft (X:Cx)(sc:Scope):jc2->jc8->Bool
 |[],[]=>true
 |x::ns,j::fr=>decide (X.N[j]?=some x)&&zk (X.env.kindOf x)&&zk ((relabel sc X.env).names.lookup x)&&Ft X sc ns fr
 |_,_=>false
theorem Bc {X:Cx}{sc:Scope}:∀{ns:jc2}{fr:jc8},Ft X sc ns fr=true->ns.length=fr.length/\∀(i:Nat) j,fr[i]?=some j->∃x,ns[i]?=some x/\X.N[j]?=some x/\zk (X.env.kindOf x)=true/\zk ((relabel sc X.env).names.lookup x)=true
 |[],[],_=>⟨M,λi j h=>by simp at h⟩
 |[],_::_,h=>by cases h
 |_::_,[],h=>by cases h
 |x::ns,j::fr,h=>by
  have h:(decide (X.N[j]?=some x)&&zk (X.env.kindOf x)&&zk ((relabel sc X.env).names.lookup x)&&Ft X sc ns fr)=true:=h;rw[jar,jar,jar] at h;obtain⟨⟨⟨h1,h2⟩,h3⟩,h4⟩:=h;obtain⟨l,g⟩:=Bc h4;refine⟨by simp[l],λi k e=>?_⟩;cases i with
  |zero=>cases e;exact⟨x,M,ja0 h1,h2,h3⟩
  |succ i=>exact g i k e
theorem bN {X:Cx}{sc:Scope}{cl:List (Str×Addr)}(a0o frN:jc2)(fr:jc8)(kind:sc.kind=.function)(names:(sc.names.all λx=>x.2 !=.local||sc.names.lookup x.1==some .local)=true)
  (za:(sc.names.all λx=>x.2 !=.cell)=true) (clos:closureFor sc X.env=pure cl) (cells:Rz X.env cl) (has:((relabel sc X.env).names.all λy=>!zk (some y.2)||(cl.lookup y.1).isSome)=true)
  (len:frN.length=fr.length) (fro:Ft X sc frN fr=true):iE X sc cl a0o.length (a0o++frN) fr where
 kind:=kind
 names:=λx hx hl=>by
  have:=jav.mp names x hx;rw[hl] at this;simpa using this
 za:=λx hx=>by simpa using jav.mp za x hx
 clos:=clos
 cells:=λx c h=>cells.mem (x,c) (jb1 h)
 has:=λx h=>by
  obtain⟨k,hk,e⟩:∃k,(relabel sc X.env).names.lookup x=some k/\zk (some k)=true:=by
   rcases h with h | h
   .exact⟨_,h,M⟩
   .exact⟨_,h,M⟩
  have:=jav.mp has (x,k) (jb1 hk);rw[e] at this;exact jcq.mp (by simpa using this)
 len:=by rw[jaD,len]
 fro:=λi j e=>by
  obtain⟨_,g⟩:=Bc fro;obtain⟨x,e1,e2,e3,e4⟩:=g i j e;refine⟨x,?_,e2,Fg e3,Fg e4⟩;rw[ja7 (Nat.le_add_right _ _),jb8];exact e1
def wV (own:Nat)(fr:jc8)(U:St):St:=List.replicate own none++fr.map λj=>(U[j]?).join
section
variable {X:Cx}{sc:Scope}{cl:List (Str×Addr)}{own:Nat}{N:jc2}{fr:jc8}
def UU {U:St}{i:Nat}{v:V}(h:(wV own fr U)[i]?=some (some v)):∃k j,i=own+k/\fr[k]?=some j/\U[j]?=some (some v):=by
 unfold wV at h;by_cases hi:i<own
 .rw[jaF (by simpa using hi),jbW,jab hi] at h;cases h
 .rw[ja7 (by simpa using hi),jbX,jax] at h;cases e:fr[i - own]? with
  |none=>rw[e] at h;cases h
  |some j=>
   rw[e] at h;have h:(U[j]?).join=some v:=jaw h;refine⟨i - own,j,by omega,e,?_⟩;cases q:U[j]? with
   |none=>rw[q] at h;cases h
   |some o=>rw[q] at h;exact jae some h
theorem DF {xx:jc0}{vy:jcZ}{U:St}{H:Hp}{s:Shared}{fp:jc4}{h1:Heap}{m1:Str->jc7}{t:Nat}{C D:Addr}{od:Obj}(S:iE X sc cl own N fr)(I:Inv X vy U H s)(hfp:∀b∈fp,nG X vy H b)
  (hob:∀b∈fp,∃o,s.heap.get? b=some o) (kp:∀b o,s.heap.get? b=some o->h1.get? b=some o) (hC:s.heap.objs.size<=C) (hns:h1.Ns C m1) (hD:s.heap.objs.size<=D) (hDC:D≠C) (ho:h1.get? D=some od) (hod:∀v,od.data≠.cell v) :
  Inv (pF X sc N cl C s H fp xx) [(D,od)] (wV own fr U) H {s with heap:=h1,toks:=t }:=by
 have Ol:∀b∈fp,b<s.heap.objs.size:=λb hb=>let⟨o,e⟩:=hob b hb;jam e;refine⟨⟨I.ok.mod,S.kind,I.ok.glob,I.ok.blt,hC,λx y c a b=>I.ok.inj x y c (S.cells x c a) (S.cells y c b),S.has,(λx c z=>nomatch z),I.ok.hd,I.ok.frames,.inl M,λb hb=>?_,I.bs,jap I.ok.Hz I.sz,λb o e hb=>?_,λb hb hf=>?_,I.stack,I.kO⟩,
  M,I.bare,Un.kept kp,⟨m1,hns,λi x v e1 e2 e3=>?_⟩,λx c e=>?_,I.hok.fresh hC,λx c e=>I.fR x c (S.cells x c e),λp hp=>?_,I.hok.kept kp,?_⟩
 .exact⟨jaM (jaB (Ol b hb) hC),λx c e=>(hfp b hb).2.2.2.2.1 x c (S.cells x c e)⟩
 .rcases(hfp b hb).2.2.2.1 with z | z
  .exact I.ok.AY b o e z
  .exact absurd (jaB (jam e) (jap I.ok.Hz z)) (ja6 _)
 .rcases jak.mp (I.xX b hf) with z | z
  .exact(hfp b hb).2.1 z
  .exact(hfp b hb).2.2.1 z
 .obtain⟨k,j,rfl,ej,eσ⟩:=UU e2;obtain⟨y,n1,n2,k1,k2⟩:=S.fro k j ej;have e1:N[own+k]?=some x:=e1;rw[n1] at e1;cases e1;obtain⟨m,hn,hl⟩:=I.loc;obtain⟨u,ru,l⟩:=hl j x v n2 eσ (by rcases k1 with z | z;exact .inr (.inl z);exact .inr (.inr z));refine⟨u,ru,.inr ⟨k2,?_⟩⟩;obtain⟨c,hc⟩:=S.has x k2;refine⟨c,hc,?_⟩;rcases l with⟨q,_⟩ | ⟨_,c',e',z⟩
  .rcases k1 with k1 | k1<;>(rw[k1] at q;cases q)
  .have:=S.cells x c hc;rw[e'] at this;cases this;obtain⟨o,Tg,h2'⟩:=z;exact⟨o,kp _ _ Tg,h2'⟩
 .obtain⟨v,o,Tg,h2'⟩:=I.cell x c (S.cells x c e);exact⟨v,o,kp _ _ Tg,h2'⟩
 .have hp:p=(D,od):=by simpa using hp
  subst hp;refine⟨ho,I.hok.fresh hD,hDC,λhf=>?_,hod⟩;have:D∈X.env.locals::X.fs:=I.xX D hf;rcases jak.mp this with z | z
  .exact absurd (jaB I.lt hD) (by rw[z];exact ja6 _)
  .exact I.a0D hD z
 .unfold wV;rw[jaD,jbX,jad];exact S.len.symm
theorem DG {xx:jc0}{vy pl:jcZ}{U τ:St}{H H':Hp}{s s':Shared}{fp:jc4}{C D:Addr}{ys:List V}{AC:jc3}{n:Nat}(I:Inv X vy U H s)(hfp:∀b∈fp,nG X vy H b)(hC:s.heap.objs.size<=C)(hD:s.heap.objs.size<=D)
  (B:Inv (pF X sc N cl C s H fp xx) pl τ H' s') (hn:H' D=none) (ho:s'.heap.get? D=some {cls:=.type "list",data:=.seq AC.toArray n }) (r:Vals ys AC) (hz:ys.length<=sizeLine) :
  Inv X vy U (upd H' D (.lst ys)) s':=by
 have ne:∀b o,s.heap.get? b=some o->b≠D:=λb o e=>jaM (jaB (jam e) hD);have nt:∀b u,H' b=some u->b≠D:=λb u e=>aQ e hn;refine I.TL (ch:=fp) B.os ⟨B.base.keep,B.base.slot,λb o e q hx=>?_,B.base.there,λb xs e=>?_,λb o u e=>?_,λb ps e=>?_⟩ (λb u e=>?_) B.bare λb hb=>?_
 .rw[aE (ne b o e)];exact B.base.free b o e q hx
 .have:=B.base.tups b xs e;rw[aE (nt _ _ this)];exact this
 .have:=B.base.jR b o u e;rw[aE (nt _ _ this)];exact this
 .obtain⟨mo,this⟩:=B.base.jW b ps e;exact⟨mo,by rw[aE (nt _ _ this)];exact this⟩
 .by_cases hb:b=D
  .subst hb;rw[cE] at e;cases e;exact⟨hz,AC,n,r,ho⟩
  .rw[aE hb] at e;exact(B.hok b u e).stay (λ_ _ _ q=>q) (λc q=>by rw[aE (nt _ _ q)];exact q) λc xs q=>by rw[aE (nt _ _ q)];exact q
 .obtain⟨_,f1,_,f3,f4,f5⟩:=hfp b hb;exact⟨f3,f1,f4,f5⟩
end
section
variable {X:Cx}{sc:Scope}{cl:List (Str×Addr)}{own:Nat}{N:jc2}{fr:jc8}
def Inv.KN {vy jI:jcZ}{U:St}{H:Hp}{s:Shared}(I:Inv X vy U H s)(h:∀p∈jI,p∈vy):Inv X jI U H s:=I.tW λp hp=>I.pin p (jaW _ (h p hp))
theorem vA {elt tg iter:Expr}{cs:jc5}{pos:Pos}{g:TG}{tt:TT}{te:TE}{vy:jcZ}{U:St}{H:Hp}{s:Shared}{it:Addr}{fp:jc4}{tn:Nat->Heap->Prop}{J:It}{RR:Value->Addr->Result->Shared->Prop}
  (S:iE X sc cl own N fr) (hc:X.calm=true) (I:Inv X vy U H s) (T:Turn X.prog X.w X.K tg J fp it tn) (st:tn 0 s.heap) (hfp:∀b∈fp,nG X vy H b)
  (hg:∀D C,PG (pF X sc N cl C s H fp (λe s'=>notedBy (model X.prog X.w) X.A (compEnvC sc cl C X.env) (λe s''=>RR (.ref D) C (.error e) s'') e s')) tg g) (ht:∀D C,Nm (pF X sc N cl C s H fp (λe s'=>notedBy (model X.prog X.w) X.A (compEnvC sc cl C X.env) (λe s''=>RR (.ref D) C (.error e) s'') e s')) cs tt) (he:∀D C,s.heap.objs.size<=C->PE (pF X sc N cl C s H fp (λe s'=>notedBy (model X.prog X.w) X.A (compEnvC sc cl C X.env) (λe s''=>RR (.ref D) C (.error e) s'') e s')) elt te)
  {W:Nat->Nat->List V->Hp->Prop} {R:List V->Hp->Prop} (w0:∃m,W 0 m [] H) (walk:FY J g tt te (wV own fr U) W R)
  (fin:∀D C H' ys s' m,s'.heap.Ns C m->H' D=none->nG X vy (upd H' D (.lst ys)) C->Inv X vy U (upd H' D (.lst ys)) s'->R ys H'->RR (.ref D) C (.ok .next) s') :
  wpAny (model X.prog X.w) X.A (newList []) (λacc s3=>wpAny (model X.prog X.w) X.A (newFunctionEnv sc X.env.globals cl [] X.env.qual none .none (some X.env)) (λcenv s4=>
   codeAny (model X.prog X.w) X.A (.compStart (.ListComp elt [⟨tg,iter,cs,0⟩] sc pos) 0 (.ref it) acc {cenv with scope:=relabel sc X.env }) (RR acc cenv.locals) s4) X.xe s3) X.xe s:=by
 refine jb4 (wpAny_newFunctionEnv S.za (by intro y hy;simp at hy) (λh1 hns hsb=>?_) S.kind);dsimp only at hns hsb ⊢;generalize hH:s.heap.push {cls:=.type "list",dict:=none,data:=.seq ([]:jc3).toArray }=hp at hns hsb ⊢;have sC:hp.objs.size=s.heap.objs.size+1:=by rw[<- hH,jcm]
 have hDC:s.heap.objs.size≠hp.objs.size:=by omega
 have kp:∀b o,s.heap.get? b=some o->h1.get? b=some o:=λb o e=>by
  have l:=jam e;exact hsb.extBut b o (jaM (by rw[sC];exact jch l)) (jat _ (hH ▸ jat _ e))
 have hD1:h1.get? s.heap.objs.size=some {cls:=.type "list",data:=.seq ([]:jc3).toArray }:=hsb.extBut _ _ hDC (jat _ (hH ▸ jaP _ M));have Ol:∀b∈fp,b<s.heap.objs.size:=λb hb=>let⟨o,e,_⟩:=T.obj 0 _ st b hb;jam e;generalize hCC:hp.objs.size=C at *;generalize hDD:s.heap.objs.size=D at *;have I1:∀t,Inv (pF X sc N cl C s H fp (λe s'=>notedBy (model X.prog X.w) X.A (compEnvC sc cl C X.env) (λe s''=>RR (.ref D) C (.error e) s'') e s')) [(D,{cls:=.type "list",data:=.seq ([]:jc3).toArray })] (wV own fr U) H {s with heap:=h1,toks:=t }:=λt=>
  DF S I hfp (λb hb=>let⟨o,e,_⟩:=T.obj 0 _ st b hb;⟨o,e⟩) kp (by omega) hns (by omega) hDC hD1 (by intro v z;cases z)
 have st1:tn 0 h1:=T.keep 0 _ _ st λb hb o e=>kp b o e;have fpo:∀{H':Hp}{s':Shared}{τ:St}{pl:jcZ} {od:Obj},Inv (pF X sc N cl C s H fp (λe s'=>notedBy (model X.prog X.w) X.A (compEnvC sc cl C X.env) (λe s''=>RR (.ref D) C (.error e) s'') e s')) pl τ H' s'->(∀p∈pl,p.1=D)->(∀b∈fp,H' b=none)->∀b∈fp,nG (pF X sc N cl C s H fp (λe s'=>notedBy (model X.prog X.w) X.A (compEnvC sc cl C X.env) (λe s''=>RR (.ref D) C (.error e) s'') e s')) pl H' b:=λ{H' s' τ pl od} B hpl hn b hb=>by
  have q:=Ol b hb;refine⟨hn b hb,(B.ok.Xo b hb).1,B.ok.Bg b hb,.inl hb,(B.ok.Xo b hb).2,λp hp=>?_⟩;have hp:p∈pl:=by simpa using hp
  rw[hpl p hp];exact(jaM q).symm
 have loop:∀t,codeAny (model X.prog X.w) X.A (.compLoop (.ListComp elt [⟨tg,iter,cs,0⟩] sc pos) 0 (.ref it) (.ref D) (compEnvC sc cl C X.env)) (RR (.ref D) C) {s with heap:=h1,toks:=t }:=by
  intro t;obtain⟨m0,w0⟩:=w0;refine Dw (λn s'=>∃i ys AC k H',Inv (pF X sc N cl C s H fp (λe s'=>notedBy (model X.prog X.w) X.A (compEnvC sc cl C X.env) (λe s''=>RR (.ref D) C (.error e) s'') e s')) [(D,{cls:=.type "list",data:=.seq (List.toArray AC) k })] (wV own fr U) H' s'/\tn i s'.heap/\(∀b∈fp,H' b=none)/\Vals ys AC/\ys.length<=sizeLine/\W i n ys H') ?_ m0
   ⟨0,[],[],_,H,I1 t,st1,λb hb=>(hfp b hb).1,.nil,jaT _,w0⟩
  rintro n s2 ⟨i,ys,AC,k,H2,B2,st2,Yr,rv,hz,w2⟩;have pD:=B2.pin (D,{cls:=.type "list",data:=.seq (List.toArray AC) k }) (jaW _ (jaE.mpr M));rcases walk i n ys H2 w2 with⟨stop,rr⟩ | ⟨go,nx,hnx,tk⟩
  .refine jaN (T.done (pF X sc N cl C s H fp (λe s'=>notedBy (model X.prog X.w) X.A (compEnvC sc cl C X.env) (λe s''=>RR (.ref D) C (.error e) s'') e s')) rfl rfl rfl hc i _ s2 _ H2 (notedBy (model X.prog X.w) X.A (compEnvC sc cl C X.env) λe s'=>RR (.ref D) C (.error e) s') B2 (fpo (od:=default) B2 (by simp) Yr) st2 stop) (λr s3 ⟨hr,B3⟩=>?_) λ_ _ z=>z;subst hr;obtain⟨m3,n3,_⟩:=B3.loc;have pD3:=B3.pin (D,{cls:=.type "list",data:=.seq (List.toArray AC) k }) (jaW _ (jaE.mpr M));refine fin D C H2 ys s3 m3 n3 pD3.2.1 ?_ (DG I hfp (by omega) (by omega) B3 pD3.2.1 pD3.1 rv hz) rr;exact I.Bd (by omega) (by rw[aE (jaH hDC)];exact B3.free)
  .refine jaN (T.item (pF X sc N cl C s H fp (λe s'=>notedBy (model X.prog X.w) X.A (compEnvC sc cl C X.env) (λe s''=>RR (.ref D) C (.error e) s'') e s')) rfl rfl rfl hc i _ s2 _ H2 (notedBy (model X.prog X.w) X.A (compEnvC sc cl C X.env) λe s'=>RR (.ref D) C (.error e) s') B2 (fpo (od:=default) B2 (by simp) Yr) st2 go) (λr s3 ⟨u,hr,g3⟩=>?_) λ_ _ z=>z;subst hr;refine jaN g3 (λ_ s4 ⟨x,H4,B4,rx,y4,st4,fr4⟩=>?_) λ_ _ z=>z;have B5:=B4.pinned (fpo (od:=default) B4 (by simp) fr4) (T.obj _ _ st4);refine jaN (hg D C _ s4 _ H4 x u _ B5 rx (tk x H4 y4)) (λ_ s5 ⟨σ5,H5,B6,ex,q5⟩=>?_) λ_ _ z=>z;refine jaN (ht D C _ s5 σ5 H5 _ B6 q5) (λb s6 ⟨H6,B7,q6⟩=>?_) λ_ _ z=>z;have back:∀{H':Hp}{s':Shared},Inv (pF X sc N cl C s H fp (λe s'=>notedBy (model X.prog X.w) X.A (compEnvC sc cl C X.env) (λe s''=>RR (.ref D) C (.error e) s'') e s')) ([(D,{cls:=.type "list",data:=.seq (List.toArray AC) k })]++uO fp s4.heap) σ5 H' s'->tn (i+1) s'.heap/\∀b∈fp,H' b=none:=λ{H' s'} B=>by
    refine⟨T.keep _ _ _ st4 λb hb o e=>(B.pin (b,o) (jaW _ (jaW _ (jk hb e)))).1,λb hb=>?_⟩;obtain⟨o,e,_⟩:=T.obj _ _ st4 b hb;exact(B.pin (b,o) (jaW _ (jaW _ (jk hb e)))).2.1
   cases b with
   |false=>
    obtain⟨m',hm,w'⟩:=hnx _ _ q6;obtain⟨t7,f7⟩:=back B7;exact⟨m',hm,i+1,ys,AC,k,H6,(B7.nX).weak ex.1.symm ex.2,t7,f7,rv,hz,w'⟩
   |true=>
    refine jaN (he D C (by omega) _ s6 σ5 H6 _ B7 q6) (λx7 s7 ⟨v7,H7,B8,r7,hz7,q7⟩=>?_) λ_ _ z=>z;obtain⟨m',hm,w'⟩:=hnx _ _ q7;obtain⟨t8,f8⟩:=back B8;have Wg:=B8.pin (D,{cls:=.type "list",data:=.seq (List.toArray AC) k }) (jaW _ (jaX _ (jaE.mpr M)));have lz:AC.length=ys.length:=rv.length.symm;refine jbj F.slot_list_append ⟨_,Wg.1,M⟩ F.entry_list_append (F.args_list_append_2 _ _) (PySem.list_append D AC.toArray k x7 (by rw[jau];omega)) ⟨Wg.1,?_⟩;have q:=PySem.IsL.update Wg.1 (·.push x7);have eo:AC.toArray.push x7=(AC++[x7]).toArray:=by simp
    have B9:Inv (pF X sc N cl C s H fp (λe s'=>notedBy (model X.prog X.w) X.A (compEnvC sc cl C X.env) (λe s''=>RR (.ref D) C (.error e) s'') e s')) [] (wV own fr U) H7 {s7 with heap:=s7.heap.update D (Obj.mapSeq (·.push x7)) }:=
     Inv.turned (t':=s7.toks) (((B8.KN (jI:=[]) (by intro p hp;simp at hp)).weak ex.1.symm ex.2)) (λb o hb e=>(jaV _ _ (jaH hb)).trans e) Wg.2.1 hDC (.inr (by show s.heap.objs.size<=D;omega)) (λy c e z=>by
      have:=B8.cell y c e;obtain⟨v,o,Tg,h2'⟩:=this;have Tg:s7.heap.get? c=some o:=Tg;rw[z,Wg.1] at Tg;cases Tg;cases h2') (by intro p hp;simp at hp)
    have B10:∀o',(s7.heap.update D (Obj.mapSeq (·.push x7))).get? D=some o'->(∀v,o'.data≠.cell v)->Inv (pF X sc N cl C s H fp (λe s'=>notedBy (model X.prog X.w) X.A (compEnvC sc cl C X.env) (λe s''=>RR (.ref D) C (.error e) s'') e s')) [(D,o')] (wV own fr U) H7 {s7 with heap:=s7.heap.update D (Obj.mapSeq (·.push x7)) }:=λo' e1 e2=>
     Inv.tW B9 λp hp=>by
      have hp:p=(D,o'):=by simpa using hp
      subst hp;exact⟨e1,Wg.2.1,hDC,Wg.2.2.2.1,e2⟩
    rw[eo] at q;refine⟨m',hm,i+1,ys++[v7],AC++[x7],_,H7,B10 _ q (by intro v z;cases z),T.keep _ _ _ t8 λb hb o e=>(jaV _ _ (Nat.ne_of_gt (Ol b hb))).trans e,f8,rv.append (.cons r7 .nil),by rw[jaD,jbY];omega,w'⟩
 exact codeAny_compStart_list (loop _) (T.self _ 0 _ _ _ st1 (loop _))
section
variable {C:Addr}{s0:Shared}{H0:Hp}{fp:jc4}{a:jc0}
def Inv.zx {b:jc0}{vy:jcZ}{U:St}{H:Hp}{s:Shared}(I:Inv (pF X sc N cl C s0 H0 fp b) vy U H s):Inv (pF X sc N cl C s0 H0 fp a) vy U H s:=⟨{I.ok with },I.os,I.bare,I.base,I.loc,I.cell,I.free,I.fR,I.pin,I.hok,I.len⟩
def PG.zx {tg:Expr}{g:TG}(h:PG (Ab X sc N cl C s0 H0 fp) tg g):PG (pF X sc N cl C s0 H0 fp a) tg g:=λvy s U H v u Q I r q=>jaN (h vy s U H v u Q I.zx r q) (λ_ _ z=>let⟨U',H',J,q'⟩:=z;⟨U',H',J.zx,q'⟩) λ_ _ z=>z.elim
def Nm.zx {cs:jc5}{t:TT}(h:Nm (Ab X sc N cl C s0 H0 fp) cs t):Nm (pF X sc N cl C s0 H0 fp a) cs t:=λvy s U H Q I q=>jaN (h vy s U H Q I.zx q) (λ_ _ z=>let⟨H',J,q'⟩:=z;⟨H',J.zx,q'⟩) λ_ _ z=>z.elim
def PE.zx {e:Expr}{t:TE}(h:PE (Ab X sc N cl C s0 H0 fp) e t):PE (pF X sc N cl C s0 H0 fp a) e t:=λvy s U H Q I q=>jaN (h vy s U H Q I.zx q) (λ_ _ z=>let⟨v,H',J,q'⟩:=z;⟨v,H',J.zx,q'⟩) λ_ _ z=>z.elim
end
theorem xy {elt tg iter:Expr}{cs:jc5}{pos:Pos}{g:TG}{tt:TT}{te:TE}{vy:jcZ}{U:St}{H:Hp}{s:Shared}{it:Addr}{fp:jc4}{tn:Nat->Heap->Prop}{J:It}{RR:Value->Addr->Result->Shared->Prop}
  (S:iE X sc cl own N fr) (hc:X.calm=true) (I:Inv X vy U H s) (T:Turn X.prog X.w X.K tg J fp it tn) (st:tn 0 s.heap) (hfp:∀b∈fp,nG X vy H b)
  (hg:∀C s H,PG (Ab X sc N cl C s H fp) tg g) (ht:∀C s H,Nm (Ab X sc N cl C s H fp) cs tt) (he:∀C s H,PE (Ab X sc N cl C s H fp) elt te)
  {W:Nat->Nat->List V->Hp->Prop} {R:List V->Hp->Prop} (w0:∃m,W 0 m [] H) (walk:FY J g tt te (wV own fr U) W R)
  (fin:∀D C H' ys s' m,s'.heap.Ns C m->H' D=none->nG X vy (upd H' D (.lst ys)) C->Inv X vy U (upd H' D (.lst ys)) s'->R ys H'->RR (.ref D) C (.ok .next) s') :
  wpAny (model X.prog X.w) X.A (newList []) (λacc s3=>wpAny (model X.prog X.w) X.A (newFunctionEnv sc X.env.globals cl [] X.env.qual none .none (some X.env)) (λcenv s4=>
   codeAny (model X.prog X.w) X.A (.compStart (.ListComp elt [⟨tg,iter,cs,0⟩] sc pos) 0 (.ref it) acc {cenv with scope:=relabel sc X.env }) (RR acc cenv.locals) s4) X.xe s3) X.xe s:=vA S hc I T st hfp (λ_ C=>(hg C s H).zx) (λ_ C=>(ht C s H).zx) (λ_ C _=>(he C s H).zx) w0 walk fin
def Ao (own:Nat)(fr:jc8)(wi:TI)(g:TG)(tt:TT)(te:TE):TE:=λU H Q=>wi U H λJ H1=>∃W:Nat->Nat->List V->Hp->Prop,(∃m,W 0 m [] H1)/\
 FY J g tt te (wV own fr U) W λys H2=>∀p,H2 p=none->Q (.ref p) (upd H2 p (.lst ys))
theorem Px {elt tg iter:Expr}{cs:jc5}{pos:Pos}{wi:TI}{g:TG}{tt:TT}{te:TE}(S:iE X sc cl own N fr)(hc:X.calm=true)(hi:PI X tg iter wi)(hg:∀C s H fp,PG (Ab X sc N cl C s H fp) tg g)
  (ht:∀C s H fp,Nm (Ab X sc N cl C s H fp) cs tt) (he:∀C s H fp,PE (Ab X sc N cl C s H fp) elt te) (hs:autoParam (∀x,foldedSetIterable iter X.env x=pure x) jp) :
  PE X (.ListComp elt [⟨tg,iter,cs,0⟩] sc pos) (Ao own fr wi g tt te):=by
 intro vy s U H Q I h;rw[eval_ListComp];refine wpAny_comprehension_free (use:=none) rfl hs S.clos S.kind S.names (bu (hi vy s U H _ I h) λv s1 h1=>bu h1 λitv s2 h2=>?_);obtain⟨it,fp,tn,J,H2,e,I2,T,st2,f2,W,w0,walk⟩:=h2;subst e;refine xy (RR:=λacc C=>compPost (model X.prog X.w) X.A X.xe none (EP X vy U Q) acc C) S hc I2 T st2 f2 (λC s H=>hg C s H fp) (λC s H=>ht C s H fp) (λC s H=>he C s H fp) w0 walk ?_;intro D C H' ys s' m hn hD fC I' rr;obtain⟨f0,f1,f2',f3,f4,f5⟩:=fC;exact⟨m,hn,λh' hs'=>⟨.ref D,_,Inv.turned (t':=s'.toks) I' (λb o hb e=>hs'.extBut b o hb e) f0 f1 f3 f4 f5,M,rr D hD⟩⟩
theorem Pa {elt tg iter:Expr}{cs:jc5}{pos spos py:Pos}{wi:TI}{g:TG}{tt:TT}{te:TE}{i:Nat}{y:Str}(hN:X.N.Nodup)(hiy:X.N[i]?=some y)(hy:Loc X.env.scope y)(S:iE X sc cl own N fr)(hc:X.calm=true)(hi:PI X tg iter wi)
  (hg:∀C s H fp,PG (Ab X sc N cl C s H fp) tg g) (ht:∀C s H fp,Nm (Ab X sc N cl C s H fp) cs tt) (he:∀C s H fp,PE (Ab X sc N cl C s H fp) elt te)
  (hsw:autoParam (swapsWith (.ListComp elt [⟨tg,iter,cs,0⟩] sc pos) (some (.Name y py)) spos.line X.env=pure true) zi) (hs:autoParam (∀x,foldedSetIterable iter X.env x=pure x) jp)
  (hf:autoParam (X.fn y=true\/X.env.scope.names.lookup y=some .local) zr) :
  PS X (.Assign [.Name y py] (.ListComp elt [⟨tg,iter,cs,0⟩] sc pos) spos) (Oi (Ao own fr wi g tt te) (Fp i)):=by
 intro vy s U H D0 I h;rw[exec_Assign_Name_used _ _ _ _ hsw];refine jac (jcn (jac ?_));show wpAny _ X.A (do let _ <- comprehension (.ListComp elt [⟨tg,iter,cs,0⟩] sc pos) sc X.env _ (newList []) false (eval iter X.env) (some (assign (.Name y py) X.env))) _ _ s;refine jac (bu (wpAny_comprehension_free (use:=some (assign (.Name y py) X.env)) (Q:=λ_ s'=>SP X vy D0 .next s') rfl hs S.clos S.kind S.names
  (bu (hi vy s U H _ I h) λv s1 h1=>bu h1 λitv s2 h2=>?_)) λ_ s' hq=>jas (jas hq))
 obtain⟨it,fp,tn,J,H2,e,I2,T,st2,f2,W,w0,walk⟩:=h2;subst e;refine xy (RR:=λacc C=>compPost (model X.prog X.w) X.A X.xe (some (assign (.Name y py) X.env)) (λ_ s'=>SP X vy D0 .next s') acc C) S hc I2 T st2 f2 (λC s H=>hg C s H fp) (λC s H=>ht C s H fp) (λC s H=>he C s H fp) w0 walk ?_;intro D C H' ys s' m hn hD fC I' rr;obtain⟨f0,f1,f2',f3,f4,f5⟩:=fC;show wpAny _ X.A (assign (.Name y py) X.env (.ref D)) _ _ _;refine wpAny_assign_Name (wU I' hN hiy hy (v:=.ref D) rfl (λs2 I2 ⟨a,sb,ha⟩=>?_) hf);have aC:C≠a:=by
  rcases ha with z | z
  .rw[z];exact f1
  .exact λq=>f4 y a z q.symm
 exact⟨m,hn.sameBut sb aC,λh' hs'=>⟨_,_,Inv.turned (t':=s2.toks) I2 (λb o hb e=>hs'.extBut b o hb e) f0 f1 f3 f4 f5,rr D hD⟩⟩
end
def a4t (K:Frag)(tl:TE):TI:=λU H R=>tl U H λx H1=>∃a,x=.ref a/\(((∃xs,iG K H1 a xs)/\R (Itl K a) H1)\/((∃xs,kL K H1 a xs)/\R (Itt K a) H1))
def V2 {X:Cx}{tg l:Expr}{tl:TE}(hl:PE X l tl):PI X tg l (a4t X.K tl):=by
 intro vy s U H R I h;refine bu (hl vy s U H _ I h) ?_;rintro v s1 ⟨x,H1,I1,r1,q1⟩;obtain⟨a,e,q⟩:=q1;subst e;cases r1;have fo:∀b∈[s1.heap.objs.size],nG X vy H1 b:=λb hb=>by
  have e:b=s1.heap.objs.size:=by simpa using hb
  subst e;exact I1.Bd (jaj _) (I1.hok.fresh (jaj _))
 rcases q with⟨⟨xs,hq⟩,q⟩ | ⟨⟨xs,hq⟩,q⟩
 .obtain⟨AC,rv,p,hz⟩:=I1.list hq;refine wpAny_pyIter_list p.isList ?_;exact⟨s1.heap.objs.size,[s1.heap.objs.size],_,_,H1,M,I1.kept (t':=s1.toks) λb o e=>jat _ e,Gd a _,⟨_,jaP _ M,M,M⟩,fo,q⟩
 .obtain⟨AC,rv,p,hz⟩:=I1.tuple hq;refine wpAny_pyIter_tuple (show s1.heap.IsTuple a AC.toArray from p) ?_;exact⟨s1.heap.objs.size,[s1.heap.objs.size],_,_,H1,M,I1.kept (t':=s1.toks) λb o e=>jat _ e,Cp a _,⟨_,jaP _ M,M,M⟩,fo,q⟩
end L2
namespace Hw
open PySem PySem.Spec
def lt (a b:Str):Bool:=ltCps a.cps.toList b.cps.toList
theorem TR:∀a:jc8,ltCps a a=false
 |[]=>rfl
 |x::r=>by simp[ltCps,TR r]
theorem FQ:∀a b c:jc8,ltCps a b=true->ltCps b c=true->ltCps a c=true
 |[],[],_,h,_=>by simp[ltCps] at h
 |[],_::_,[],_,h=>by simp[ltCps] at h
 |[],_::_,_::_,_,_=>rfl
 |_::_,[],_,h,_=>by simp[ltCps] at h
 |_::_,_::_,[],_,h=>by simp[ltCps] at h
 |x::a,y::b,z::c,h,g=>by
  simp only[ltCps,jbr,jar,jaG,jaZ] at h g ⊢;rcases h with h | ⟨h,h'⟩<;>rcases g with g | ⟨g,g'⟩
  .left;omega
  .left;omega
  .left;omega
  .right;exact⟨by omega,FQ a b c h' g'⟩
theorem TQ:∀a b:jc8,ltCps a b=true\/a=b\/ltCps b a=true
 |[],[]=>.inr (.inl M)
 |[],_::_=>.inl rfl
 |_::_,[]=>.inr (.inr M)
 |x::a,y::b=>by
  simp only[ltCps,jbr,jar,jaG,jaZ,List.cons.injEq];rcases Nat.lt_trichotomy x y with h | h | h
  .exact .inl (.inl h)
  .rcases TQ a b with g | g | g
   .exact .inl (.inr ⟨h,g⟩)
   .exact .inr (.inl ⟨h,g⟩)
   .exact .inr (.inr (.inr ⟨h.symm,g⟩))
  .exact .inr (.inr (.inl h))
def vd (a:Str):lt a a=false:=TR _
def lt_trans {a b c:Str}:lt a b=true->lt b c=true->lt a c=true:=FQ _ _ _
def ze (a b:Str):lt a b=true\/a=b\/lt b a=true:=by
 rcases TQ a.cps.toList b.cps.toList with h | h | h
 .exact .inl h
 .refine .inr (.inl ?_);obtain⟨⟨x⟩⟩:=a;obtain⟨⟨y⟩⟩:=b;have h:x=y:=h;rw[h]
 .exact .inr (.inr h)
def not_lt_trans {a b c:Str}(h:lt b a=false)(g:lt c b=false):lt c a=false:=by
 rcases ze c a with e | e | e
 .rcases ze b a with k | k | k
  .rw[h] at k;cases k
  .rw[k] at g;rw[g] at e;cases e
  .rw[lt_trans e k] at g;cases g
 .rw[e];exact vd a
 .cases q:lt c a with
  |false=>rfl
  |true=>have:=lt_trans e q;rw[vd] at this;cases this
end Hw
namespace L2
open PySem PySem.Spec PyProof.Rows
section
variable {X:Cx}
theorem rm:∀(p:Str)(l:jc2),risingS p l=true->(p::l).Pairwise λa b=>Hw.lt b a=false
 |p,[],_=>by simp
 |p,x::r,h=>by
  have h:(!ltCps x.cps.toList p.cps.toList&&risingS x r)=true:=h;rw[jar,jbf] at h;have ih:=rm x r h.2;refine jbD.mpr ⟨λy hy=>?_,ih⟩;rcases jak.mp hy with rfl | hy
  .exact h.1
  .exact Hw.not_lt_trans h.1 ((jbD.mp ih).1 y hy)
theorem yg:∀(l:jc2),sortedS l=true->l.Pairwise λa b=>Hw.lt b a=false
 |[],_=>.nil
 |x::r,h=>rm x r h
theorem uu:∀{ss:jc2}{us:jc3},StrsAre us ss->Vals (ss.map V.str) us
 |_,_,.nil=>.nil
 |_,_,.cons x t h=>.cons ⟨t,M⟩ (uu h)
def rG:∀{ss:jc2}{us:jc3},Vals (ss.map V.str) us->StrsAre us ss:=by
 intro ss
 induction ss with
 |nil=>intro us r;rw[List.map_nil] at r;cases r;exact .nil
 |cons x ss ih=>
  intro us r;rw[jal] at r;cases r with
  |cons r1 r2=>
   obtain⟨t,e⟩:=r1;subst e;exact .cons x t (ih r2)
theorem qW:∀{xs:List V}{us:jc3},xs.length=us.length->(∀(i:Nat) x,xs[i]?=some x->∃u,us[i]?=some u/\RelV x u)->Vals xs us
 |[],[],_,_=>.nil
 |[],_::_,h,_=>by simp at h
 |_::_,[],h,_=>by simp at h
 |x::xs,u::us,h,g=>by
  obtain⟨v,e,r⟩:=g 0 x rfl;cases e;exact .cons r (qW (by simpa using h) λi y hy=>g (i+1) y hy)
def bB.here {P:Program}{w:World}{H:Hp}{h:Heap}{a:Addr}{o:HO}(x:bB P w H h a o):∃u,h.get? a=some u:=by
 cases o with
 |lst xs=>obtain⟨_,_,_,_,e⟩:=x;exact⟨_,e⟩
 |tup xs=>obtain⟨_,_,_,o,e,_⟩:=x;exact⟨_,e⟩
 |dK kvs=>obtain⟨_,_,_,_,o,_,_,e,_⟩:=x;exact⟨_,e⟩
 |dT kvs=>obtain⟨_,_,_,_,o,_,_,e,_⟩:=x;exact⟨_,e⟩
 |set S n=>obtain⟨o,_,_,_,e,_⟩:=x;exact⟨_,e⟩
 |ins C dx fs=>obtain⟨_,_,_,e,_⟩:=x;exact⟨_,e⟩
 |own y=>obtain⟨_,e⟩:=x;exact⟨_,e⟩
 |xd fs=>obtain⟨_,⟨_,_,_,e,_⟩,_⟩:=x;exact⟨_,e⟩
 |rng lo hi=>obtain⟨_,_,_,e⟩:=x;exact⟨_,e⟩
 |qC ob u=>obtain⟨e,_⟩:=x;exact⟨_,e⟩
 |RI ps=>exact⟨_,(show h.get? a=some _ from x)⟩
 |met f y=>exact⟨_,(show h.get? a=some _ from x)⟩
 |ext φ=>obtain⟨_,⟨_,e⟩,_⟩:=x;exact⟨_,e⟩
theorem Inv.a0Z {vy:jcZ}{U:St}{H:Hp}{s:Shared}{h':Heap}{a:Addr}{o:HO}{t':Nat}(I:Inv X vy U H s)(k:∀b u,s.heap.get? b=some u->h'.get? b=some u)(hp:∀b u,s.heap.get? b=some u->b≠a)(new:bB X.prog X.w (upd H a o) h' a o) :
  H a=none/\Inv X vy U (upd H a o) {s with heap:=h',toks:=t' }:=by
 have hn:H a=none:=by
  cases q:H a with
  |none=>rfl
  |some u=>obtain⟨v,e⟩:=(I.hok a u q).here;exact absurd rfl (hp a v e)
 refine⟨hn,I.un ⟨λb u e _ _ _=>k b u e,λb u e _ _ _=>⟨u.slots,k b u e⟩,λb u e n _=>by rw[aE (hp b u e)];exact n,λb u e _=>⟨u,k b u e⟩,λb xs e=>by rw[aE (aQ e hn)];exact e,λb u xs e=>by rw[aE (aQ e hn)];exact e,λb ps e=>⟨#[],by rw[aE (aQ e hn),e];simp⟩⟩ λb u e=>?_⟩;by_cases hb:b=a
 .subst hb;rw[cE] at e;cases e;exact new
 .rw[aE hb] at e;exact(I.hok b u e).stay (λc v _ q=>k c v q) (λc q=>by rw[aE (aQ q hn)];exact q) λc xs q=>by rw[aE (aQ q hn)];exact q
theorem zF (hc:X.calm=true):dN X (.builtin "sorted") (λxs H Q=>∃p kvs ss,xs=[.ref p]/\H p=some (.dK kvs)/\kvs.map (·.1)=List.map (Sum.inr:Str->Key) ss/\kvs.length<64/\
  ∀l ys,H l=none->List.Perm ys ss->ys.Pairwise (λa b=>Hw.lt b a=false)->Q (.ref l) (upd H l (.lst (ys.map V.str)))):=by
 intro vy s U H xs us Q I r h;obtain⟨p,kvs,ss,rfl,hp,hk,h64,q⟩:=h;obtain⟨u,rfl,ru⟩:=vals1 r;cases ru;obtain⟨hz,lo,vs,rel,dd⟩:=pC I.hok (.inl hp);obtain⟨ep,hat⟩:=dd.dictAt;have hlv:=rel.length;refine Calls.call_function_entry kind_sorted plain_sorted entry_sorted (args_sorted1 _) ?_;unfold Builtin.«sorted»;refine jac (m:=checkCount "sorted" 1 1 _) (jas (jac (PySem.W.kdu_collect (A:=X.A.in1) (PySem.W.kdl_dict (knd:=bG X.prog X.w) (kvs:=vs) (ep:=ep) lo) (I.ok.hd hc) hat (by rw[<- hlv];exact hz) λh' tk acc kp hacc=>?_)));have hS:StrsAre acc.toList ss:=by
  refine rG (qW ?_ λi x hx=>?_)
  .have:(kvs.map (·.1)).length=(List.map (Sum.inr:Str->Key) ss).length:=by rw[hk]
   rw[jad,jad] at this;have el:acc.toList.length=kvs.length:=by rw[jcv,hacc.1,<- hlv]
   rw[jad,el,this]
  .rw[jax] at hx;cases e:ss[i]? with
   |none=>rw[e] at hx;cases hx
   |some y=>
    rw[e] at hx;cases hx;have hi:i<acc.size:=by
     have h1:i<ss.length:=(jao.mp e).1;have:(kvs.map (·.1)).length=(List.map (Sum.inr:Str->Key) ss).length:=by rw[hk]
     rw[jad,jad] at this;rw[hacc.1];omega
    obtain⟨k,x,hv,hkk⟩:=hacc.2 i acc[i] (by simp);have ek:(vs.map (·.1))[i]?=some (Sum.inr y):=by rw[<- rel.keys,hk,jax,e];rfl
    rw[jax,hv] at ek;have ek:k=Sum.inr y:=jaw ek;subst ek;rcases bL (show vf (Sum.inr y) acc[i]=true from hkk) with⟨_,_,z,_⟩ | ⟨z,t,z1,z2⟩
    .cases z
    .cases z1;exact⟨acc[i],by simp,t,z2⟩
 have hla:acc.toList.length<64:=by rw[jcv,hacc.1,<- hlv];exact h64
 refine jac (wpAny_newList ?_ (by
   have:64<=sizeLine:=by rw[ja4];decide
   omega))
 have ho:(h'.push (seqObj "list" acc.toList.toArray 0)).get? h'.objs.size=some (seqObj "list" acc.toList.toArray 0):=jaP _ rfl;refine jac (jbn (wpAny_call_entry slot_list_sort ⟨_,ho,M⟩ entry_list_sort (list_sort_treeK (s:={s with heap:=h'.push (seqObj "list" acc.toList.toArray 0),toks:=tk }) strKind_oneLt ho hS.keysOf (λv1 v2 rest e=>keyKind_strs (by rw[<- e];exact hS)) hla λst' a1 a2=>⟨_,M,?_⟩) (args_list_sort _)));obtain⟨ss',b1,b2,b3⟩:=sorted_out_str hS a1 a2;obtain⟨e,he⟩:=sortedHeap_at (out:=(arrOf st').map (·.2)) ho;have hss:(ss'.map V.str).length<=sizeLine:=by
  have h1:64<=sizeLine:=by rw[ja4];decide
  have h2:(ss'.map V.str).length=acc.toList.length:=by rw[jad,b2.length_eq,<- StrsAre.length hS]
  rw[h2];exact jap (jbi hla) h1
 have L:=I.a0Z (h':=sortedHeap (h'.push (seqObj "list" acc.toList.toArray 0)) h'.objs.size acc.toList ((arrOf st').map (·.2))) (a:=h'.objs.size) (o:=.lst (ss'.map V.str)) (t':=tk)
  (λb u q=>by
   have l:=jam (kp b u q);rw[sortedHeap_old (jaM l) (by rw[jcm];exact jch l)];exact jat _ (kp b u q))
  (λb u q=>jaM (jam (kp b u q)))
  ⟨hss,((arrOf st').map (·.2)).toList,e,uu b1,by rw[Array.toArray_toList];exact he⟩
 exact jas ⟨_,M,.ref h'.objs.size,_,L.2,M,q _ ss' L.1 b2 (yg _ b3)⟩
def DO (K:Frag)(H:Hp):Nat->V->V->Prop
 |0,x,y=>dI x=true/\x=y
 |n+1,x,y=>(dI x=true/\x=y)\/∃a b xs ys,x=.ref a/\y=.ref b/\((iG K H a xs/\iG K H b ys)\/(kL K H a xs/\kL K H b ys))/\Paired (DO K H n) xs ys
def vp {x:V}(h:dI x=true):vS x x=true:=by
 cases x with
 |ck=>rfl
 |bl b=>simp[vS]
 |int i=>simp[vS]
 |str z=>simp[vS]
 |sn z=>simp[vS]
 |_=>cases h
theorem AR {F:V->V->Prop}:∀{xs ys:List V},Paired F xs ys->∀{i:Nat}{x y:V},xs[i]?=some x->ys[i]?=some y->F x y
 |_,_,.nil,_,_,_,e,_=>by simp at e
 |_,_,.cons r t,0,_,_,e,e'=>by simp at e e';rw[<- e,<- e'];exact r
 |_,_,.cons r t,i+1,_,_,e,e'=>AR t (by simpa using e) (by simpa using e')
theorem eW {K:Frag}{n:Nat}{H:Hp}{A:Around}{s:Shared}{xs ys:List V}{us vs:jc3}(p:Paired (DO K H n) xs ys)(r:Vals xs us)(r':Vals ys vs)
  (ih:∀x y u v,RelV x u->RelV y v->DO K H n x y->SeqAt.EqAt A s u v true):∀(j:Nat)(h1:j<us.toArray.size)(h2:j<vs.toArray.size),SeqAt.EqAt A s us.toArray[j] vs.toArray[j] true:=by
 intro j h1 h2;have l1:=r.length;have l2:=r'.length;simp only[jau] at h1 h2;have e1:xs[j]?=some xs[j]:=jaz (by omega);have e2:ys[j]?=some ys[j]:=jaz (by omega);obtain⟨u,hu,ru⟩:=r.get e1;obtain⟨v,hv,rv⟩:=r'.get e2;have hu':us.toArray[j]=u:=by
  rw[jaz h1] at hu;simpa using hu
 have hv':vs.toArray[j]=v:=by
  rw[jaz h2] at hv;simpa using hv
 rw[hu',hv'];exact ih _ _ u v ru rv (AR p e1 e2)
def kK (n:Nat):((List.range n).all λ_=>true)=true:=by rw[jav];intro _ _;rfl
def like_eq {vy:jcZ}{U:St}{H:Hp}{s:Shared}(I:Inv X vy U H s):∀(n:Nat)(A:Around),A.units+n<cLine->∀x y u v,RelV x u->RelV y v->DO X.K H n x y->SeqAt.EqAt A s u v true:=by
 intro n;have flat:∀(A:Around)(x y:V)(u v:Value),RelV x u->RelV y v->dI x=true/\x=y->SeqAt.EqAt A s u v true:=by
  rintro A x y u v ru rv ⟨f,rfl⟩;have:=Dp (A:=A) (s:=s) ru rv f f;rw[vp f] at this;exact this
 induction n with
 |zero=>intro A hu x y u v ru rv h;exact flat A x y u v ru rv h
 |succ n ih=>
  intro A hu x y u v ru rv h;rcases h with h | ⟨a,b,xs,ys,rfl,rfl,h,p⟩
  .exact flat A x y u v ru rv h
  .cases ru;cases rv;have ih':=ih A.in1 (by show A.units+1+n<cLine;omega);by_cases hab:a=b
   .subst hab;exact SeqAt.EqAt.same _
   .refine .of_refs hab ?_;have lp:xs.length=ys.length:=jbc p;rcases h with⟨ha,hb⟩ | ⟨ha,hb⟩
    .obtain⟨us,r1,p1,_⟩:=I.list ha;obtain⟨vs,r2,p2,_⟩:=I.list hb;have l1:=r1.length;have l2:=r2.length;have:=SeqAt.RcAt.lists (A:=A) (e:=λ_=>true) p1.isList p2.isList (by simp only[jau];omega) (by omega) (eW p r1 r2 ih');rw[kK] at this;exact this
    .obtain⟨us,r1,p1,_⟩:=I.tuple ha;obtain⟨vs,r2,p2,_⟩:=I.tuple hb;have l1:=r1.length;have l2:=r2.length;have:=SeqAt.RcAt.tuples (A:=A) (e:=λ_=>true) (show s.heap.IsTuple a us.toArray from p1) (show s.heap.IsTuple b vs.toArray from p2) (by omega) (eW p r1 r2 ih');have e:(us.toArray.size==vs.toArray.size)=true:=by simp only[jau,jaZ];omega
     rw[kK,e] at this;exact this
def SD (K:Frag)(n:Nat)(k:Bool):R2:=λx y H Q=>∃a b xs ys,x=.ref a/\y=.ref b/\((iG K H a xs/\iG K H b ys)\/(kL K H a xs/\kL K H b ys))/\Paired (DO K H n) xs ys/\Q (.bl k) H
def Wn (n:Nat)(hu:X.A.units+1+n<cLine):gP X (compareOp .Eq) (SD X.K n true):=by
 intro vy s U H x y v u Q I rx ry h;obtain⟨a,b,xs,ys,rfl,rfl,h,p,q⟩:=h;cases rx;cases ry;have ih':=like_eq I n X.A.in1 (by show X.A.units+1+n<cLine;omega);have lp:xs.length=ys.length:=jbc p;have fin:EP X vy U Q (.bool true) s:=⟨.bl true,H,I,M,q⟩
 rcases h with⟨ha,hb⟩ | ⟨ha,hb⟩
 .obtain⟨us,r1,p1,_⟩:=I.list ha;obtain⟨vs,r2,p2,_⟩:=I.list hb;have l1:=r1.length;have l2:=r2.length;exact SeqAt.eq_listAt (e:=λ_=>true) p1.isList p2.isList (by simp only[jau];omega) (by omega) (eW p r1 r2 ih') (by rw[kK];exact fin)
 .obtain⟨us,r1,p1,_⟩:=I.tuple ha;obtain⟨vs,r2,p2,_⟩:=I.tuple hb;have l1:=r1.length;have l2:=r2.length;have e:(us.toArray.size==vs.toArray.size)=true:=by simp only[jau,jaZ];omega
  exact SeqAt.eq_tupleAt (e:=λ_=>true) (show s.heap.IsTuple a us.toArray from p1) (show s.heap.IsTuple b vs.toArray from p2) (by omega) (eW p r1 r2 ih') (by rw[kK,e];exact fin)
def Wj (n:Nat)(hu:X.A.units+1+n<cLine):gP X (compareOp .NotEq) (SD X.K n false):=by
 intro vy s U H x y v u Q I rx ry h;obtain⟨a,b,xs,ys,rfl,rfl,h,p,q⟩:=h;cases rx;cases ry;have ih':=like_eq I n X.A.in1 (by show X.A.units+1+n<cLine;omega);have lp:xs.length=ys.length:=jbc p;have fin:EP X vy U Q (.bool false) s:=⟨.bl false,H,I,M,q⟩
 rcases h with⟨ha,hb⟩ | ⟨ha,hb⟩
 .obtain⟨us,r1,p1,_⟩:=I.list ha;obtain⟨vs,r2,p2,_⟩:=I.list hb;have l1:=r1.length;have l2:=r2.length;exact SeqAt.RcNeAt.lists (A:=X.A) (e:=λ_=>true) p1.isList p2.isList (by simp only[jau];omega) (by omega) (eW p r1 r2 ih') _ _ _ _ (by rw[kK];exact fin)
 .obtain⟨us,r1,p1,_⟩:=I.tuple ha;obtain⟨vs,r2,p2,_⟩:=I.tuple hb;have l1:=r1.length;have l2:=r2.length;have e:(us.toArray.size==vs.toArray.size)=true:=by simp only[jau,jaZ];omega
  exact SeqAt.RcNeAt.tuples (A:=X.A) (e:=λ_=>true) (show s.heap.IsTuple a us.toArray from p1) (show s.heap.IsTuple b vs.toArray from p2) (by omega) (eW p r1 r2 ih') _ _ _ _ (by rw[kK,e];exact fin)
def rJoin:V->List V->Hp->VK->Prop:=λx vs H Q=>∃sep p ss,x=.str sep/\vs=[.ref p]/\H p=some (.lst (List.map V.str ss))/\(ss.map (·.length)).sum+ss.length*sep.length<=16777216/\Q (.str (Txt.join sep ss)) H
def Qi:p6 X "str.join" rJoin:=by
 intro vy s U H x vs v us Q I rx rv h;obtain⟨sep,p,ss,rfl,rfl,hp,hz,q⟩:=h;obtain⟨t,rfl⟩:=rx;obtain⟨u,rfl,ru⟩:=rv.one;cases ru;obtain⟨AC,r,pl,_⟩:=I.list (iG.of hp);exact join_list pl.isList (by simpa using rG r) hz λt' k=>⟨.str _,H,I.tok _,⟨_,M⟩,q⟩
def a3J (K:Frag)(c:V):List V->Hp->VK->Prop:=λvs H Q=>∃x t u b,vs=[x,c]/\qI K H x t/\RelV c u/\kitOne K t u=some b/\Q (.bl b) H
def RelV.a4p {c:V}{u u':Value}(hc:match c with | .ref _=>True | .ty _=>True | _=>False)(r:RelV c u)(r':RelV c u'):u=u':=by
 cases c with
 |ref a=>cases r;cases r';rfl
 |ty n=>cases r;cases r';rfl
 |_=>exact hc.elim
def M3 {c:V}(hc:match c with | .ref _=>True | .ty _=>True | _=>False):dN X (.builtin "isinstance") (a3J X.K c):=by
 intro vy s U H xs us Q I r h;obtain⟨x,t,u,b,rfl,ty,rc,hb,q⟩:=h;obtain⟨w1,w2,rfl,rx,r2⟩:=vals2 r;rw[RelV.a4p hc r2 rc];exact Hj I rx ty hb λtk=>⟨.bl b,H,I.tok _,M,q⟩
def ZV (K:Frag):R2:=λx y H Q=>∃a b xs ys,x=.ref a/\y=.ref b/\kL K H a xs/\kL K H b ys/\xs.length+ys.length<=sizeLine/\
 (xs=[]->Q (.ref b) H)/\(xs≠[]->ys=[]->Q (.ref a) H)/\(xs≠[]->ys≠[]->∀p,H p=none->Q (.ref p) (upd H p (.tup (xs++ys))))
def PK:gP X (binaryOp .Add) (ZV X.K):=by
 intro vy s U H x y v u Q I rx ry h;obtain⟨a,b,xs,ys,rfl,rfl,ha,hb,hz,q0,q1,q2⟩:=h;by_cases hx:xs=[]
 .cases rx;cases ry;obtain⟨AC,r1,p1,_⟩:=I.tuple ha;obtain⟨its2,r2,p2,_⟩:=I.tuple hb;obtain⟨⟨cls,dd,data,sl⟩,ho,hc,n,hd⟩:=id p1;obtain⟨⟨a5l,dd2,data2,sl2⟩,ho2,hc2,n2,hd2⟩:=id p2;simp only at hc hd hc2 hd2;subst hc hd hc2 hd2;have hi:AC=[]:=r1.cP.mpr hx;refine concat_meets ⟨_,ho,M⟩ ⟨_,ho2,M⟩ noFill_tuple_add seq_tuple_add PySem.F.slot_tuple_add PySem.F.entry_tuple_add (PySem.F.args_tuple_add_2 _ _)
   (tuple_addW0 a b AC.toArray its2.toArray n n2 dd dd2 sl sl2 (by simp[hi])) ⟨ho,ho2,?_⟩
  exact⟨.ref b,H,I,M,q0 hx⟩
 .exact PL vy s U H _ _ v u Q I rx ry ⟨a,b,xs,ys,M,M,ha,hb,hx,hz,q1 hx,λhy=>q2 hx hy⟩
def a3I (K:Frag):R2:=λx y H Q=>∃p xs k v,x=.ref p/\y=.int (k:Nat)/\iG K H p xs/\xs[k]?=some v/\Q v H
def MC:a11 X (a3I X.K):=by
 intro vy s U H o i ov iv Q I ro ri h;obtain⟨p,xs,k,v,rfl,rfl,hq,he,q⟩:=h;cases ro;obtain⟨t,rfl⟩:=ri;obtain⟨AC,r,pl,hz⟩:=I.list hq;obtain⟨w,ew,rw'⟩:=r.get he;have hk:k<xs.length:=(jao.mp he).1;have hn:=kr;exact wpAny_getItem_list pl.isList (by omega) (by omega) (by simpa using ew) ⟨v,H,I,rw',q⟩
end
end L2
namespace Hw
open PySem L2
def Dn (P:Program)(w:World)(K:Frag)(mg:Str->jc7)(base:Heap)(k:Nat)(x:Str)(ps:jc2)(sp:Sp):Prop:=
 ∃(f:Addr)(fd:FuncData),aG P w K mg base dh k f fd ps sp/\mg x=some (.ref f)/\keepIn K (.ref f)=true/\Binds K fd ps []
def Mt (P:Program)(w:World)(K:Frag)(mg:Str->jc7)(base:Heap)(k:Nat)(C:Addr)(m:Str)(ps:jc2)(sp:Sp):Prop:=
 ∃(f:Addr)(fd:FuncData),aG P w K mg base dh k f fd ps sp/\Meth K C m f/\Binds K fd ps []
def Mr (P:Program)(w:World)(K:Frag)(mg:Str->jc7)(base:Heap)(k:Nat)(C:Addr)(ps:jc2)(sp:Sp):Prop:=
 ∃(f:Addr)(fd:FuncData),aG P w K mg base dh k f fd ps sp/\Mk K C f/\Binds K fd ps []
def line (n:Nat)(h:n<=100000):n<sizeLine:=by rw[ja4];omega
def szl (n:Nat)(h:autoParam (n<=100000) zn):n<=sizeLine:=jbi (line n h)
end Hw
namespace L2
open PySem PySem.Spec PyProof.Rows
section
variable {X:Cx}{K:Frag}
noncomputable def strsOf:jc5->Option (jc2)
 |[]=>some []
 |.Constant (.str x) _ _::r=>(strsOf r).map (x::·)
 |_=>none
def RJ (xs:jc2):TA:=λ_ H Q=>Q (xs.map V.str) H
theorem EY:∀{es:jc5}{xs:jc2},strsOf es=some xs->PA X es (RJ xs)
 |[],xs,h=>by
  cases h;exact uR
 |e::r,xs,h=>by
  unfold strsOf at h;split at h
  .rename_i he;cases he
  .rename_i x j pos r' he;cases he;cases q:strsOf r with
   |none=>rw[q] at h;cases h
   |some ys=>
    rw[q] at h;cases h;have ih:=EY q;exact k6 CO ih rfl
  .cases h
def A7:Expr->Option (jc2)
 |.List es _=>strsOf es
 |_=>none
def Po {xs:jc2}:∀{e:Expr},A7 e=some xs->PE X e (Og (RJ xs)):=by
 intro e h;cases e<;>first|exact CP (EY h)|exact(Option.some_ne_none _ h.symm).elim
end
end L2
namespace Hw
open PySem L2
noncomputable def a01:jc2:=["helper","answers","needs","gives","end","let","div","mod","put","row","at","if","else"]
def a00:jc2:=["while","holds","falls","call","claim","and","or","not"]
def o5:jc2:=a01++a00
def EB (K:Frag):Sp:=λvs H Q _=>∃(a:Addr)(ns:List Int),vs=[.ref a]/\iG K H a (ns.map V.int)/\ns.length<=63/\∀H',Q (.bl true) H'
end Hw
namespace L2
open PySem PySem.Spec PyProof.Rows
section
variable {X:Cx}{K:Frag}
def a3B:V->Option Int->Option Int->Hp->VK->Prop:=λx lo hi H Q=>∃z,x=.str z/\z.length<=sizeLine/\Q (.str (Txt.slice z lo hi)) H
def U4:Rm X a3B:=by
 intro vy s U H x v vl vu lo hi sl Q I rx hs pl pu h;obtain⟨z,rfl,hz,q⟩:=h;obtain⟨t,rfl⟩:=rx;have fin:(Txt.slice z lo hi).length<=sizeLine/\∀t' k,EP X vy U Q (.str (Txt.slice z lo hi) t') {s with toks:=k }:=⟨jap (Txt.slice_le z _ _) hz,λt' k=>⟨.str _,H,I.tok _,⟨_,M⟩,q⟩⟩
 refine⟨"str",_,PySem.F.slot_str_getitem.lookup,jbB _ _ _,?_⟩;cases pl with
 |none=>cases pu with
  |none=>exact jcM (l:=none) (u:=none) (st:=none) hs rfl (post_val_or_str fin)
  |int j t'=>exact jcM (l:=none) (u:=some (j,t')) (st:=none) hs rfl (post_val_or_str fin)
 |int i ti=>cases pu with
  |none=>exact jcM (l:=some (i,ti)) (u:=none) (st:=none) hs rfl (post_val_or_str fin)
  |int j t'=>exact jcM (l:=some (i,ti)) (u:=some (j,t')) (st:=none) hs rfl (post_val_or_str fin)
def Vs (K:Frag):R2:=λx y H Q=>∃a b xs,x=.ref a/\y=.ref b/\kL K H a xs/\kL K H b []/\Q (.bl (decide (xs=[]))) H
def Ld (hu:X.A.units<cLine):gP X (compareOp .Eq) (Vs X.K):=by
 intro vy s U H x y v u Q I rx ry h;obtain⟨a,b,xs,rfl,rfl,ha,hb,q⟩:=h;cases rx;cases ry;obtain⟨us,r1,p1,_⟩:=I.tuple ha;obtain⟨vs,r2,p2,_⟩:=I.tuple hb;cases r2;refine SeqAt.eq_tupleAt (e:=λ_=>true) (show s.heap.IsTuple a us.toArray from p1) (show s.heap.IsTuple b ([]:jc3).toArray from p2) hu (λj h1 h2=>absurd h2 (by simp)) ?_;have e:((List.range (min us.toArray.size ([]:jc3).toArray.size)).all (λ_=>true)&&us.toArray.size==([]:jc3).toArray.size)=decide (xs=[]):=by
  have l:=r1.length;rw[kK,ja9];by_cases hx:xs=[]
  .subst hx;cases r1;simp
  .rw[jaf hx];have:us≠[]:=λz=>hx (by rw[z] at l;exact jbJ.mp l);cases us with
   |nil=>exact absurd rfl this
   |cons _ _=>simp
 rw[e];exact⟨.bl _,H,I,M,q⟩
abbrev TJ:=St->Hp->Str->(Str->Hp->Prop)->Prop
def PJ (X:Cx)(es:jc5)(t:TJ):Prop:=
 ∀(vy:jcZ) (s:Shared) (U:St) (H:Hp) (acc:Str) (Q:Str->Hp->Prop),Inv X vy U H s->t U H acc Q->
  wpAny (model X.prog X.w) X.A (joinParts acc (evalEach es X.env)) (EP X vy U λv H'=>∃x,v=.str x/\Q x H') X.xe s
def a4n:TJ:=λ_ H acc Q=>acc.length<=sizeLine/\Q acc H
def a4m (c:Str)(t:TJ):TJ:=λU H acc Q=>(acc++c).length<=sizeLine/\t U H (acc++c) Q
def a4l (te:TE)(t:TJ):TJ:=λU H acc Q=>te U H λx H1=>(∃i,x=.int i/\i.natAbs.log2<1920/\(acc++(toString i:Str)).length<=sizeLine/\t U H1 (acc++(toString i:Str)) Q)\/(∃y,x=.str y/\y.length<=sizeLine/\(acc++y).length<=sizeLine/\t U H1 (acc++y) Q)
def V0:PJ X [] a4n:=by
 intro vy s U H acc Q I h;exact joinParts_nil ⟨.str acc,H,I.tok _,⟨_,M⟩,acc,M,h.2⟩ h.1
def KL {c:Str}{j:Nat}{pos:Pos}{es:jc5}{t:TJ}(h:PJ X es t):PJ X (.Constant (.str c) j pos::es) (a4m c t):=by
 intro vy s U H acc Q I hw;show wpAny _ _ (joinParts acc (eval (.Constant (.str c) j pos) X.env::evalEach es X.env)) _ _ s;refine joinParts_cons (Calls.Constant_str ⟨hw.1,?_⟩);exact h vy _ U H (acc++c) Q (I.tok _) hw.2
def VZ {e:Expr}{pos:Pos}{es:jc5}{te:TE}{t:TJ}(he:PE X e te)(h:PJ X es t):PJ X (.FormattedValue e (-1) none pos::es) (a4l te t):=by
 intro vy s U H acc Q I hw;show wpAny _ _ (joinParts acc (eval (.FormattedValue e (-1) none pos) X.env::evalEach es X.env)) _ _ s;refine joinParts_cons (FormattedValue_plain (bu (he vy s U H _ I hw) ?_));rintro v s1 ⟨x,H1,I1,r1,q1⟩;rcases q1 with⟨i,rfl,hl,hz,q⟩ | ⟨y,rfl,hy,hz,q⟩
 .obtain⟨t',rfl⟩:=r1;exact formatField_int_small hl ⟨hz,h vy _ U H1 _ Q (I1.tok _) q⟩
 .obtain⟨t',rfl⟩:=r1;exact formatField_str (λt'' tk=>⟨hz,h vy _ U H1 _ Q (I1.tok _) q⟩) hy
def tFs (t:TJ):TE:=λU H Q=>t U H Str.empty λx H'=>Q (.str x) H'
def Pq {v1 v2:Expr}{rest:jc5}{pos:Pos}{t:TJ}(h:PJ X (v1::v2::rest) t):PE X (.JoinedStr (v1::v2::rest) pos) (tFs t):=by
 intro vy s U H Q I hw;refine JoinedStr_many (bu (h vy s U H Str.empty _ I hw) ?_);rintro u s1 ⟨v,H',I',r,x,ev,q⟩;subst ev;exact⟨.str x,H',I',r,q⟩
end
end L2
namespace HT
open PySem PySem.Spec PyProof.Rows
section
variable {prog:Program}{w:World}{A:Around}{E:jc0}{s:Shared}
end
end HT
namespace L2
open PySem PySem.Spec PyProof.Rows
section
variable {X:Cx}{K:Frag}
end
section
variable {X:Cx}{K:Frag}
def Frz (d:Addr)(ob:Obj)(kvs:List (Key×V))(H H':Hp):Prop:=H' d=some (.qC ob (.dK kvs))/\∀b,b≠d->H' b=H b
theorem Inv.frozen {vy:jcZ}{U:St}{H:Hp}{s:Shared}{d:Addr}{kvs:List (Key×V)}(I:Inv X vy U H s)(e:Rd H d (.dK kvs)) :
  ∃(ob:Obj)(H':Hp),Frz d ob kvs H H'/\Inv X vy U H' s/\s.heap.get? d=some ob:=by
 rcases e with e | ⟨ob,e⟩
 .have ok:=I.hok d _ e;obtain⟨ob,hob⟩:=ok.here;refine⟨ob,upd H d (.qC ob (.dK kvs)),⟨cE,λb hb=>aE hb⟩,?_,hob⟩;have nt:∀b xs,H b=some (.tup xs)->b≠d:=λb xs z=>A0 z e (by intro w;cases w);have no:∀b x,H b=some (.own x)->b≠d:=λb x z=>A0 z e (by intro w;cases w);have:=I.un (h':=s.heap) (t':=s.toks) (H':=upd H d (.qC ob (.dK kvs))) ⟨λb u q _ _ _=>q,λb u q _ _ _=>⟨u.slots,q⟩,λb u q n _=>by rw[aE (aQ e n).symm];exact n,λb u q _=>⟨u,q⟩,
   λb xs z=>by rw[aE (nt b xs z)];exact z,λb u xs z=>by rw[aE (A0 z e (by intro w;cases w))];exact z,λb ps z=>⟨#[],by rw[aE (A0 z e (by intro w;cases w)),z];simp⟩⟩ λb u z=>by
   by_cases hb:b=d
   .subst hb;rw[cE] at z;cases z;exact⟨hob,ok.stay (λ_ _ _ q=>q) (λc q=>by rw[aE (no c _ q)];exact q) λc xs q=>by rw[aE (nt c xs q)];exact q⟩
   .rw[aE hb] at z;exact(I.hok b u z).stay (λ_ _ _ q=>q) (λc q=>by rw[aE (no c _ q)];exact q) λc xs q=>by rw[aE (nt c xs q)];exact q
  exact this
 .obtain⟨hob,_⟩:=I.hok d _ e;exact⟨ob,H,⟨e,λ_ _=>rfl⟩,I,hob⟩
theorem Inv.held {vy:jcZ}{U:St}{H:Hp}{s:Shared}{d:Addr}{ob:Obj}{kvs:List (Key×V)}(I:Inv X vy U H s)(e:H d=some (.qC ob (.dK kvs))) :
  (d==sysModules)=false/\kvs.length<=sizeLine/\s.heap.get? d=some ob/\∃vs es ep,KV kvs vs/\ob.data=.dict es ep/\s.heap.DictAt (bG X.prog X.w) d vs ep:=by
 obtain⟨hob,_⟩:=I.hok d _ e;obtain⟨hz,lo,vs,rel,dd⟩:=pC I.hok (.inr ⟨ob,e⟩);obtain⟨ep,hat⟩:=dd.dictAt;obtain⟨o,es,ho,hx,hd,_⟩:=id hat;have eo:=ho.symm.trans hob;cases eo;exact⟨lo,hz,hob,vs,es,ep,rel,hd,hat⟩
theorem KV.at {κ:Type}:∀{kvs:List (κ×V)} {vs:List (κ×Value)},KV kvs vs->∀{i:Nat}{k:κ}{x:V},kvs[i]?=some (k,x)->∃u,vs[i]?=some (k,u)/\RelV x u
 |_,_,.nil,_,_,_,e=>by simp at e
 |_,_,.cons (b:=q) r t,0,k,x,e=>by
  simp at e;obtain⟨h1,h2⟩:=r;rw[e] at h1 h2;exact⟨q.2,by simp;exact Prod.ext h1.symm M,h2⟩
 |_,_,.cons r t,i+1,k,x,e=>by
  obtain⟨u,h1,h2⟩:=KV.at t (i:=i) (k:=k) (x:=x) (by simpa using e);exact⟨u,by simpa using h1,h2⟩
def KV.len {κ:Type}{kvs:List (κ×V)}{vs:List (κ×Value)}(r:KV kvs vs):kvs.length=vs.length:=jbc r
def OP {P:Program}{w:World}{k:Key}{v:Value}(h:(bG P w).is k v=true):RelV (kV k) v:=by
 rcases bL h with⟨i,t,rfl,rfl⟩ | ⟨x,t,rfl,rfl⟩
 .exact⟨t,M⟩
 .exact⟨t,M⟩
def Ag (p d:Addr):HO:=.ext λh=>h.IsValuesView p d
def YO (O:Addr->Addr->HO)(to:TE):TE:=λU H Q=>to U H λx H1=>∃d kvs,x=.ref d/\Rd H1 d (.dK kvs)/\∀p,H1 p=none->Q (.ref p) (upd H1 p (O p d))
def Q4 {vy:jcZ}{U:St}{H:Hp}{s:Shared}{d:Addr}{kvs:List (Key×V)}(I:Inv X vy U H s)(e:Rd H d (.dK kvs)):s.TypeIs (.ref d) "dict"/\∀a,Value.ref d=.ref a->∃ob,s.heap.get? a=some ob/\ob.dict=none:=by
 obtain⟨_,_,vs,rel,dd⟩:=pC I.hok e;refine⟨dd.typeIs,λa z=>?_⟩;cases z;obtain⟨o,es,ep,ho,hx,_⟩:=dd;exact⟨o,ho,hx.2.1⟩
variable {o e:Expr}{to:TE}{BM cpos:Pos}
def GB (ho:PE X o to)(Ap:autoParam (attributeBase o "values" X.env (eval o X.env)=eval o X.env) zi)(B1:autoParam ((BM.endLine==cpos.line)=true) zi):PE X (.Call (.Attribute o "values" BM) [] [] cpos) (YO Ag to):=by
 intro vy s U H Q I h;refine wpAny_Call_method0_late Ap B1 (bu (ho vy s U H _ I h) ?_);rintro v s1 ⟨x,H1,I1,r1,d,kvs,ex,rd,q1⟩;subst ex;cases r1;obtain⟨h1,h2⟩:=Q4 I1 rd;obtain⟨_,lo,vs,rel,dd⟩:=pC I1.hok rd;refine⟨"dict","dict.values",PySem.F.plainAttrs_dict,PySem.F.slot_dict_values,PySem.F.type_dict_values,h1,h2,jca rfl (PySem.evalArgs_none ?_)⟩;refine call_meetsIn PySem.F.slot_dict_values h1 PySem.F.entry_dict_values (PySem.F.args_dict_values_1 _) (meets_dict_values (bG X.prog X.w) d lo) ⟨⟨vs,dd⟩,?_⟩;refine⟨.ref s1.heap.objs.size,_,I1.laid (t':=s1.toks) (o:=Ag s1.heap.objs.size d) (λb ob q=>jat _ q) (jaj _) ?_,M,q1 _ (I1.hok.fresh (jaj _))⟩;exact⟨⟨_,jaP _ M,M,M⟩,⟨_,jaP _ M⟩,λh1 h2 ⟨o,ho,r⟩ k=>⟨o,k o ho,r⟩⟩
theorem Dk (l b:Addr)(xs ys:Array Value)(n m:Nat)(dd:jc6)(sl:jc1)(h0:¬(!xs.isEmpty&&Builtin.List.listTooLong (xs.size+ys.size))=true)(h1:xs.size<=sizeLine)(h2:xs.size+ys.size<=sizeLine+1) :
  Meets (Builtin.«list.extend» ⟨[.ref l,.ref b],[]⟩) (λ_ R s=>s.heap.get? l=some ⟨.type "list",none,.seq xs n,#[]⟩/\s.heap.get? b=some ⟨.type "tuple",dd,.seq ys m,sl⟩/\
   R (.ok (.ret Value.none)) {s with heap:=s.heap.update l (Obj.mapSeq λx=>x++ys),toks:=s.toks }):=
 .of_wp λprog w A R s h=>by
  obtain⟨hp,g,d,tk,os⟩:=s;obtain⟨hl,hb,h⟩:=h;have q1:=PySem.AutoSeq1.idx_int;have q2:=PySem.AutoSeq1.sub_tuple_tuple;have q3:=PySem.AutoSeq1.sub_list_list;have q4:=PySem.AutoSeq1.sub_tuple_list;have q5:=PySem.AutoSeq1.sub_list_tuple;have z:(xs++ys).size<=sizeLine+1:=by
   rw[Array.size_append];exact h2
  wp_walk using(wpAny_updateSeq hl rfl (hz:=h1) (_hz':=z)),PySem.AutoSeq1.wpAny_loadPart' hl,PySem.AutoSeq1.wpAny_loadPart' hb
  exact⟨_,M,h⟩
def Ka (K:Frag):V->List V->Hp->VK->Prop:=λx vs H Q=>∃l b xs zs,x=.ref l/\vs=[.ref b]/\H l=some (.lst xs)/\kL K H b zs/\xs.length+zs.length<=sizeLine/\Q .ck (upd H l (.lst (xs++zs)))
def CZ:MtM X "list.extend" (Ka X.K):=by
 intro vy s U H x vs v us Q I rx rv h;obtain⟨l,b,xs,zs,rfl,rfl,hH,hB,hz,q⟩:=h;cases rx;obtain⟨u,rfl,ru⟩:=rv.one;cases ru;obtain⟨z,AC,n,r,hl,e⟩:=I.zf hH;obtain⟨its2,r2,p2,z2⟩:=I.tuple hB;have hl2:=r2.length;have hsz:AC.toArray.size+its2.toArray.size<=sizeLine:=by rw[jau,jau];omega
 have Bb:¬(!AC.toArray.isEmpty&&Builtin.List.listTooLong (AC.toArray.size+its2.toArray.size))=true:=by
  rw[u7 hsz,Bool.and_false];exact jaJ
 have go:∀n2 dd sl,s.heap.get? b=some {cls:=.type "tuple",dict:=dd,data:=.seq its2.toArray n2,slots:=sl }->wpAny (model X.prog X.w) X.A (call (.builtin "list.extend") [.ref l,.ref b]) (EP X vy U Q) X.xe s:=λn2 dd sl e2=>by
  refine jbj F.slot_list_extend ⟨_,e,M⟩ F.entry_list_extend (F.args_list_extend_2 _ _)
   (Dk l b AC.toArray its2.toArray n n2 dd sl Bb (by rw[jau];omega) (by omega)) ⟨e,e2,?_⟩
  refine⟨.ck,_,I.Qm (its':=AC++its2) hH e (by simp) (r.append r2) ?_,M,q⟩;rw[jaD];omega
 obtain⟨⟨cls,dd,data,sl⟩,ho,hc,n2,hd⟩:=id p2;simp only at hc hd;subst hc hd;exact go n2 dd sl ho
def Vq (K:Frag):R2:=λx y H Q=>∃a b xs,x=.ref a/\y=.ref b/\iG K H a xs/\iG K H b []/\Q (.bl (!decide (xs=[]))) H
def Lc (hu:X.A.units<cLine):gP X (compareOp .NotEq) (Vq X.K):=by
 intro vy s U H x y v u Q I rx ry h;obtain⟨a,b,xs,rfl,rfl,ha,hb,q⟩:=h;cases rx;cases ry;obtain⟨us,r1,p1,_⟩:=I.list ha;obtain⟨vs,r2,p2,_⟩:=I.list hb;cases r2;have l1:=r1.length;by_cases hx:xs=[]
 .rw[jag hx] at q;subst hx;cases r1;exact SeqAt.RcNeAt.lists (A:=X.A) (e:=λ_=>true) p1.isList p2.isList rfl hu (λj h1 h2=>absurd h2 (by simp)) _ _ _ _ ⟨.bl false,H,I,M,q⟩
 .rw[jaf hx] at q;have:us≠[]:=λz=>hx (by rw[z] at l1;exact jbJ.mp l1);refine SeqAt.RcNeAt.lists_lengths (A:=X.A) p1.isList p2.isList ?_ hu _ _ _ _ ⟨.bl true,H,I,M,q⟩;cases us with
  |nil=>exact absurd rfl this
  |cons _ _=>simp
end
def Itv (d:Addr)(ob:Obj)(kvs:List (Key×V)):It:=
 ⟨λi H=>H d=some (.qC ob (.dK kvs))/\i<kvs.length,λi H x H'=>H'=H/\∃k,kvs[i]?=some (k,x),λi H=>H d=some (.qC ob (.dK kvs))/\kvs.length<=i⟩
theorem F9 {P:Program}{w:World}{K:Frag}{tg:Expr}(d it:Addr)(ob:Obj)(kvs:List (Key×V))(es:Array DictEntry)(ep:Nat)(hob:ob.data=.dict es ep) :
  Turn P w K tg (Itv d ob kvs) [it] it (λi h=>h.IsValIter it d i kvs.length ep) where
 mem:=by simp
 obj:=λi h st b hb=>by
  have e:b=it:=by simpa using hb
  subst e;obtain⟨o,e,c,dd⟩:=st;exact⟨o,e,λv z=>by rw[dd] at z;cases z⟩
 keep:=λi h h' st k=>st.at λo e=>k it (by simp) o e
 item:=by
  intro X hP hw hK hc i vy s U H E I hf st hg;subst hP hw hK;obtain⟨hd,hi⟩:=hg;obtain⟨lo,hz,Mx,vs,es',Xq,rel,hdat,hat⟩:=I.held hd;rw[hob] at hdat;cases hdat;obtain⟨f0,f1,f2,f3,f4,f5⟩:=hf it (by simp);have hl:=rel.len;obtain⟨⟨k,v⟩,hkv⟩:∃p,kvs[i]?=some p:=⟨kvs[i],by simp[hi]⟩
  obtain⟨u,hu,ru⟩:=rel.at hkv;rw[hl] at st;refine wpAny_pyNext_values_item st hat hu λh' st' sb=>?_;have I1:Inv X vy U H {s with heap:=h' }:=I.turned (t':=s.toks) (λb o hb e=>(sb.2 b hb).trans e) f0 f1 f3 f4 f5;obtain⟨o,e,c,dd⟩:=id st';exact⟨u,M,rP (s:={s with heap:=h' }) e c dd (by decide) ⟨v,H,I1,ru,⟨M,k,hkv⟩,by rw[hl];exact st',λb hb=>(hf b hb).1⟩⟩
 done:=by
  intro X hP hw hK hc i vy s U H E I hf st hg;subst hP hw hK;obtain⟨hd,hi⟩:=hg;obtain⟨lo,hz,Mx,vs,es',Xq,rel,hdat,hat⟩:=I.held hd;rw[hob] at hdat;cases hdat;obtain⟨f0,f1,f2,f3,f4,f5⟩:=hf it (by simp);have hl:=rel.len;rw[hl] at st;exact wpAny_pyNext_values_end (I.ok.hd hc) st hat (List.getElem?_eq_none_iff.mpr (by omega)) λh' eb=>⟨M,I.turned (t':=s.toks) (λb o hb e=>eb b o hb e) f0 f1 f3 f4 f5⟩
 self:=λ_ _ _ _ _ st h=>wpAny_pyIter_valiter st h
section
variable {X:Cx}{e:Expr}{te:TE}
def a1b (te:TE):TI:=λU H R=>te U H λx H1=>∃p d kvs,x=.ref p/\H1 p=some (Ag p d)/\Rd H1 d (.dK kvs)/\∀ob H2,Frz d ob kvs H1 H2->R (Itv d ob kvs) H2
def Pj {tg:Expr}(he:PE X e te):PI X tg e (a1b te):=by
 intro vy s U H R I h;refine bu (he vy s U H _ I h) ?_;rintro v s1 ⟨x,H1,I1,r1,p,d,kvs,ex,hp,rd,q⟩;subst ex;cases r1;obtain⟨ob,H2,fz,I2,hob⟩:=I1.frozen rd;obtain⟨lo,hz,Mx,vs,es,ep,rel,hdat,hat⟩:=I2.held fz.1;have hv:s1.heap.IsValuesView p d:=(I1.hok p _ hp).1;have hl:=rel.len;refine wpAny_pyIter_values hv hat ?_;exact⟨s1.heap.objs.size,[s1.heap.objs.size],_,_,H2,M,I2.kept (t':=s1.toks) λb o e=>jat _ e,F9 d _ ob kvs es ep hdat,⟨_,jaP _ M,M,by rw[hl];rfl⟩,λb hb=>by
  have e:b=s1.heap.objs.size:=by simpa using hb
  subst e;exact I2.Bd (jaj _) (I2.hok.fresh (jaj _)),q ob H2 fz⟩
end
end L2
namespace Hw
open PySem L2
def XZ:Str:="abcdefghijklmnopqrstuvwxyz"
def Rk:XZ.cps.toList=(List.range 26).map (97+·):=by symm
def ud:XZ.length<=sizeLine:=jbi (line _ (by symm))
def Ng {r:Nat}(h:r<26):nQ XZ.cps.toList (r:Int)=some (97+r):=b9 (by rw[Rk,jax,jb2 h];rfl)
def zL (i:Int):nQ XZ.cps.toList (i % 26)=some (97+(i % 26).toNat):=by
 have h0:=jbR i (show(26:Int)≠0 by decide);have h1:=jbN i (show(0:Int)<26 by decide);have e:i % 26=((i % 26).toNat:Int):=(jcV h0).symm;have:=Ng (r:=(i % 26).toNat) (by omega);rw[<- e] at this;exact this
def mO:jc2:=["lets","ifs","order","rows","att","notes","calls","ends","outlet","bend","motor","modes"]
def Hg:mO.length=12:=rfl
noncomputable abbrev a1G (c:Nat):Str:=⟨#[c]⟩
def zw (a b:Nat):Str:=(("z":Str)++a1G a)++a1G b
def uc (a b:Str):(a++b).cps.toList=a.cps.toList++b.cps.toList:=PySem.W.KT.app_list a b
def lE (a b:Str):(a++b).length=a.length+b.length:=by
 have h:∀x:Str,x.length=x.cps.toList.length:=λx=>by simp[Str.length]
 rw[h,h,h,uc,jaD]
def xO (a b:Nat):(zw a b).cps.toList=[122,a,b]:=by
 unfold zw;rw[uc,uc];rfl
def HU (a b:Nat):(zw a b).length=3:=by
 unfold zw;rw[lE,lE];rfl
def zt (k:Int)(t:Nat):Str:=zw (97+((t:Int) % 26).toNat) (97+((k+t) % 26).toNat)
def T9 {k:Int}{s t:Nat}(hs:s<26)(ht:t<26)(h:zt k s=zt k t):s=t:=by
 have e:(zt k s).cps.toList=(zt k t).cps.toList:=by rw[h]
 unfold zt at e;rw[xO,xO] at e;have:=(List.cons.inj (List.cons.inj e).2).1;omega
theorem KO:∀(n:Nat)(f:Nat->Str)(xs:jc2),(∀s,s<n->f s∈xs)->(∀s t,s<n->t<n->f s=f t->s=t)->n<=xs.length
 |0,_,_,_,_=>jaT _
 |n+1,f,xs,h,inj=>by
  have m:=h n (jb5 n);have ih:=KO n f (xs.erase (f n)) (λs hs=>by
   have ne:f s≠f n:=λe=>jaM hs (inj s n (jch hs) (jb5 n) e);exact(List.mem_erase_of_ne ne).mpr (h s (jch hs))) λs t hs ht=>inj s t (jch hs) (jch ht)
  rw[List.length_erase_of_mem m] at ih;have:0<xs.length:=List.length_pos_of_mem m;omega
theorem Ua {k:Int}{xs:jc2}{n:Nat}(hn:n<=20)(h:∀s,s<n->zt k (s+1)∈xs):n<=xs.length:=
 KO n (λs=>zt k (s+1)) xs h λs t hs ht e=>by have:=T9 (by omega) (by omega) e;omega
def QD (w:Str)(xs:jc2):Dd (.str w) (xs.map V.str)=decide (w∈xs):=by
 unfold Dd;rw[List.any_map];by_cases h:w∈xs
 .rw[jag h,jcj];exact⟨w,h,by simp[vS]⟩
 .rw[jaf h,List.any_eq_false];intro y hy;simp only[Function.comp,vS,jaZ];intro e;exact h (e ▸ hy)
def lB (xs:jc2):(xs.map V.str).all dI=true:=by rw[jbt,jav];intro _ _;rfl
theorem Aq:∀ss:jc2,(∀a∈ss,a.length=1)->(ss.map (·.length)).sum=ss.length
 |[],_=>rfl
 |a::r,h=>by
  rw[jal,List.sum_cons,Aq r λb hb=>h b (jah _ hb),jaA,h a (jai ..)];omega
abbrev cp (x:Str):jc8:=x.cps.toList
def bU {a b:Str}(h:cp a=cp b):a=b:=PyProof.Rows.ext_toList h
def aW (x:Str):x.length=(cp x).length:=by simp[Str.length]
def sF (i:Int):Int:=if i<0 then -i else i
section
variable {C:Addr}{H H':Hp}{tl pq q0 q1 hq du u0 u1 sl sa sb:Addr}{xs:jc2}{ps0 t0 t1:Ps}{h0 h1:Int}
end
section
variable {H H':Hp}{z:Addr}{o:HO}
end
section
variable {H0 H H':Hp}{d tl ro:Addr}{xs:jc2}{t0:Ps}{n0:Int}
end
end Hw
namespace L2
open PySem PySem.Spec PyProof.Rows Hw
section
variable {X:Cx}{k:Nat}{m:Str}{pos BM:Pos}{o e:Expr}{es:jc5}{ta:TE}{t:TA}{ul:Cz}{ps:jc2}{sp:Nat->Sp}
end
end L2
namespace Hw
open PySem L2
end Hw
namespace L2
open PySem PySem.Spec PyProof.Rows Hw
section
variable {X:Cx}{K:Frag}
def M4 (hc:X.calm=true):dN X (.builtin "all") (λxs H Q=>∃(p:Addr)(bs:List Bool),xs=[.ref p]/\iG X.K H p (bs.map V.bl)/\Q (.bl (bs.all id)) H):=by
 intro vy s U H xs us Q I r h;obtain⟨p,bs,rfl,hq,q⟩:=h;obtain⟨u,rfl,ru⟩:=vals1 r;cases ru;obtain⟨AC,rv,pl,hz⟩:=I.list hq;have lp:p<s.heap.objs.size:=let⟨o,_,e,_⟩:=pl;jam e;have hl:=rv.length;rw[jad] at hl;refine call_all_walk (wpAny_pyIter_list pl.isList ?_);have W:=Walks.list (prog:=X.prog) (w:=X.w) (A:=X.A.in1) (I.ok.hd hc) s.heap.objs.size p (jaM lp) AC.toArray;refine⟨s.heap.objs.size,_,_,_,_,_,(λi=>(bs[i]?).getD true),M,W,⟨⟨_,jaP _ M,M,M⟩,pl.isList.at λo e=>jat _ e⟩,λi v s' Q' E' hv hQ=>?_,λh' tk hk=>?_⟩
 .have hv:AC.toArray[i]?=some v:=hv;have hv:AC[i]?=some v:=by simpa using hv
  have hil:i<AC.length:=(jao.mp hv).1;obtain⟨u,hu,ru⟩:=rv.get (i:=i) (x:=.bl ((bs[i]?).getD true)) (by rw[jax,jaz (by omega)];rfl);rw[hv] at hu;cases hu;cases ru;exact jbE hQ
 .have kp:∀b o,s.heap.get? b=some o->h'.get? b=some o:=λb o e=>
   hk b o (λhI=>absurd (jam e) (by rw[jaE.mp hI];exact ja6 _)) (jat _ e)
  have e:((List.range AC.toArray.size).all λi=>(bs[i]?).getD true)=bs.all id:=by rw[jau,<- hl];exact LSm.range_all bs
  rw[e];exact⟨.bl (bs.all id),H,I.kept (t':=tk) kp,M,q⟩
end
end L2
namespace Hw
open PySem L2
end Hw
namespace L2
open PySem PySem.Spec PyProof.Rows Hw
section
variable {X:Cx}{x:Str}{D:Addr}{kvs:List (Key×V)}{i:Expr}{ty:TE}{p pos:Pos}
end
end L2
namespace Hw
open PySem L2
end Hw
namespace L2
open PySem PySem.Spec PyProof.Rows Hw
section
variable {X:Cx}
end
end L2
namespace Hw
open PySem L2
end Hw
namespace L2
open PySem PySem.Spec PyProof.Rows Hw
section
variable {X:Cx}
def OT (K:Frag):R2:=λx y H Q=>∃a b xs,x=.ref a/\y=.ref b/\iG K H a xs/\iG K H b []/\Q (.bl (decide (xs=[]))) H
def GK (hu:X.A.units<cLine):gP X (compareOp .Eq) (OT X.K):=by
 intro vy s U H x y v u Q I rx ry h;obtain⟨a,b,xs,rfl,rfl,ha,hb,q⟩:=h;cases rx;cases ry;obtain⟨us,r1,p1,_⟩:=I.list ha;obtain⟨vs,r2,p2,_⟩:=I.list hb;cases r2;have l1:=r1.length;by_cases hx:xs=[]
 .rw[jag hx] at q;subst hx;cases r1;exact SeqAt.RcAt.lists (A:=X.A) (e:=λ_=>true) p1.isList p2.isList rfl hu (λj h1 h2=>absurd h2 (by simp)) _ _ _ _ ⟨.bl true,H,I,M,q⟩
 .rw[jaf hx] at q;have:us≠[]:=λz=>hx (by rw[z] at l1;exact jbJ.mp l1);refine SeqAt.RcAt.lists_lengths (A:=X.A) p1.isList p2.isList ?_ hu _ _ _ _ ⟨.bl false,H,I,M,q⟩;cases us with
  |nil=>exact absurd rfl this
  |cons _ _=>simp
end
end L2
namespace Hw
open PySem L2
section
variable {ul:Cz}{H0 H H':Hp}{d tl sd hd p pf:Addr}{xs:jc2}{vt:V}{c c':Cd}{kvs kh:List (Key×V)}{S:Sb}
end
end Hw
namespace PySem
section
variable {prog:Program}{w:World}{A:Around}{E:jc0}{h:Heap}{g:Array GenState}{d:Drawn}{t:Nat}{os:OsState}
variable {nm q:Str}{C N:Addr}{bs bm:jc3}{hdct:Bool}{sn:jc2}{sub:jc3}{ab:Bool}{col:Option Bool}{dd:jc6}{k0 k1 k2 k3 k5:jc7}
noncomputable abbrev cR (C t:Addr):Obj:={cls:=.ref C,data:=.fields #[.ref t,.none,.none,.none,.bool false,.none] }
abbrev VE:=F.excBase_ValueError
theorem newX (hV:bm.contains (.type "ValueError")=true)(hA:bm.contains (.type "AttributeError")=false)(hN:bm.contains (.type "NameError")=false){rest:jc3}{R:Result->Shared->Prop}
  (hC:h.get? C=some (excClassObj nm q C N bs bm hdct sn sub ab col dd k0 k1 k2 k3 k5 "ValueError.__new__")) (hrest:rest.length<=sizeLine)
  (hq:R (.ok (.ret (.ref (h.objs.size+1)))) ⟨(h.push {cls:=.type "tuple",data:=.seq rest.toArray }).push (cR C h.objs.size),g,d,t,os⟩) :
  codeAny (model prog w) A (.builtin "ValueError.__new__" ⟨.ref C::rest,[]⟩) R ⟨h,g,d,t,os⟩:=by
 have e1:=VE.ends;have c1:(Value.ref C::bm).contains (.type "ValueError")=true:=by rw[jb3,hV,Bool.or_true]
 have c2:(Value.ref C::bm).contains (.type "AttributeError")=false:=by rw[jb3,hA];rfl
 have c3:(Value.ref C::bm).contains (.type "NameError")=false:=by rw[jb3,hN];rfl
 refine codeAny_builtinAt VE.entry ?_;unfold Builtin.«BaseException.__new__»;refine wpAt_bind ?_;show wpAt _ _ _ (stack >>=_) _ _ _;refine wpAt_bind (wpAt_stack λp below=>wpAt_of_wpAny ?_)
 wp_walk;refine wpAt_of_wpAny ?_;rw[VE.owner]
 repeat (first | with_reducible refine wpAny_madeHere_exc VE.canon hC ?_ | with_reducible refine jbm hC ?_ | (with_reducible refine jcd hC ?_;first | rw[c1] | rw[c2] | rw[c3]) | wp_step)
 show R _ _;rw[jcm];exact hq
theorem F8 (hV:bm.contains (.type "ValueError")=true)(hA:bm.contains (.type "AttributeError")=false)(hN:bm.contains (.type "NameError")=false){mN:Str->jc7}{rest:jc3}{fI:Addr}{oI:Obj}{Q:Fin->Shared->Prop}
  (hC:h.get? C=some (excClassObj nm q C N bs bm hdct sn sub ab col dd k0 k1 k2 k3 k5 "ValueError.__new__")) (hn:h.Ns N mN) (hi:mN "__init__"=some (.ref fI)) (hfI:h.get? fI=some oI) (hfc:oI.cls=.type "function") (hrest:rest.length<=sizeLine)
  (hq:wpAny (model prog w) A (call (.ref fI) (.ref (h.objs.size+1)::rest)) (λr s'=>r=.none/\Q (.done (.ret (.ref (h.objs.size+1)))) s') E
   ⟨(h.push {cls:=.type "tuple",data:=.seq rest.toArray }).push (cR C h.objs.size),g,d,t,os⟩) :
  wpAny (model prog w) A (Builtin.«type.__call__» ⟨.ref C::rest,[]⟩) Q E ⟨h,g,d,t,os⟩:=by
 repeat (first | with_reducible refine jbm hC ?_ | with_reducible refine wpAny_madeBy_exc hC ?_ | wp_step)
 refine codeAny_call_builtin_code (Code.quiet_builtin _ VE.quiet) (wpAny_check_new_subU VE hV (OwnTail.base (bmB:=bm)) hC ?_);refine newX hV hA hN hC hrest ?_;show wpAny _ _ _ _ _ _;have kp:∀b o,h.get? b=some o->((h.push {cls:=.type "tuple",data:=.seq rest.toArray }).push (cR C h.objs.size)).get? b=some o:=λb o e=>jat _ (jat _ e);have hC1:=kp _ _ hC;have hf1:=kp _ _ hfI;have hn1:=hn.keeps kp;have he1:((h.push {cls:=.type "tuple",data:=.seq rest.toArray }).push (cR C h.objs.size)).get? (h.objs.size+1)=some {cls:=.ref C,data:=.fields #[.ref h.objs.size,.none,.none,.none,.bool false,.none] }:=by heap_get
 have cC:(Value.ref C::bm).contains (.ref C)=true:=by simp
 unfold isInstance
 repeat (first | with_reducible refine jbm he1 ?_ | (with_reducible refine jcd hC1 ?_;rw[cC]) | wp_step)
 show wpAny _ _ (typeLookup (.ref C) _) _ _ _;rw[typeLookup_eq];refine jac (wpAny_mroOf_exc hC1 ?_);rw[lookupAlong_cons];refine jac (wpAny_classOwn_exc hC1 hn1 ?_);rw[hi];refine jas ?_;refine jbn (jac ?_);unfold bindSpecial;refine jac (wpAny_typeOf (T:="function") ⟨_,hf1,hfc⟩ ?_);rw[jab (by decide)];refine jas (jac (jaN hq (λr s' hr=>?_) λ_ _ x=>x));obtain⟨rfl,hQ⟩:=hr
 wp_walk
 exact hQ
theorem a1K (hV:bm.contains (.type "ValueError")=true)(hA:bm.contains (.type "AttributeError")=false)(hN:bm.contains (.type "NameError")=false){mN:Str->jc7}{rest:jc3}{fI:Addr}{oI:Obj}{Q:jc0}
  (hC:h.get? C=some (excClassObj nm q C N bs bm hdct sn sub ab col dd k0 k1 k2 k3 k5 "ValueError.__new__")) (hn:h.Ns N mN) (hi:mN "__init__"=some (.ref fI)) (hfI:h.get? fI=some oI) (hfc:oI.cls=.type "function") (hrest:rest.length<=sizeLine)
  (hq:wpAny (model prog w) (A.under (.builtin "type.__call__" ⟨.ref C::rest,[]⟩)) (call (.ref fI) (.ref (h.objs.size+1)::rest)) (λr s'=>r=.none/\Q (.ref (h.objs.size+1)) s') E
   ⟨(h.push {cls:=.type "tuple",data:=.seq rest.toArray }).push (cR C h.objs.size),g,d,t,os⟩) :
  wpAny (model prog w) A (call (.ref C) rest) Q E ⟨h,g,d,t,os⟩:=by
 have f1:=tc_lookup;have f2:=tc_bind (.ref C);have hT:(⟨h,g,d,t,os⟩:Shared).TypeIs (.ref C) "type":=⟨_,hC,M⟩
 refine jbV (codeAny_of_tree ?_);show wpAny _ _ (callAny (.ref C) _) _ _ _
 repeat (any_goals (first | assumption | with_reducible refine jbm hC ?_ | wp_step))
 exact⟨M,codeAny_call_builtin_at (Code.quiet_builtin _ (by symm)) entry_typeCall (wpAny_check_type_call_sub hC (F8 hV hA hN hC hn hi hfI hfc hrest hq))⟩
theorem DB (hV:bm.contains (.type "ValueError")=true){jcY:Model}{e:Addr}{oe:Obj}{rest:jc3}{Q:Unit->Shared->Prop}
  (hC:h.get? C=some (excClassObj nm q C N bs bm hdct sn sub ab col dd k0 k1 k2 k3 k5 "ValueError.__new__")) (he:h.get? e=some oe) (hcls:oe.cls=.ref C) (hq:Q () ⟨h,g,d,t,os⟩) :
  wpAny jcY A (checkBuiltinCall "ValueError.__init__" ⟨.ref e::rest,[]⟩) Q E ⟨h,g,d,t,os⟩:=by
 have c1:(Value.ref C::bm).contains (.type "ValueError")=true:=by rw[jb3,hV,Bool.or_true]
 have hs:=VE.noStar;simp only[checkBuiltinCall,VE.initKind,VE.initSplit,VE.initRow]
 repeat (first | (with_reducible refine jbm he ?_;rw[hcls]) | with_reducible refine jbm hC ?_ | (with_reducible refine jcd hC ?_;rw[c1]) | wp_step)
 refine wpAny_onRaise ?_;rw[show ∀(a b:String)(n:Nat),Bind.check ⟨.positional,"*","ValueError",.self,[⟨"args",.varPos,false⟩]⟩ a b n (List.map (λx=>x.fst) ({pos:=Value.ref e::rest }:Args).kw)=pure () from λa b n=>check_star_args _ _ _ _ _ _];exact jas hq
theorem a1a (hV:bm.contains (.type "ValueError")=true){e t0:Addr}{rest:jc3}{Q:jc0}
  (hC:h.get? C=some (excClassObj nm q C N bs bm hdct sn sub ab col dd k0 k1 k2 k3 k5 "ValueError.__new__")) (he:h.get? e=some (cR C t0)) (hrest:rest.length<=sizeLine)
  (hq:∀h',(∀b o,b≠e->h.get? b=some o->h'.get? b=some o)->(∃t1,h'.get? e=some (cR C t1))->Q .none ⟨h',g,d,t,os⟩) :
  wpAny (model prog w) A (call (.builtin "ValueError.__init__") (.ref e::rest)) Q E ⟨h,g,d,t,os⟩:=by
 refine jbV (jcU VE.init.plain VE.initEntry (DB hV hC he rfl ?_))
 wp_walk
 refine hq _ (λb o hb ho=>?_) ⟨h.objs.size,?_⟩
 .rw[jaV _ _ (jaH hb)];exact jat _ ho
 .rw[jbx _ (jat _ he) rfl];rfl
end
end PySem
namespace PySem
def kC (f:Array Value->Array Value)(o:Obj):(Obj.mapFields f o).dict=o.dict:=by
 unfold Obj.mapFields;split<;>rfl
section
variable {jcY:Model}{A:Around}{E:jc0}{s:Shared}{base:Heap}{env:Env}{outer:List Env}{L a C:Addr}{oe:Obj}{vs:Array Value}
def cF (hl:s.heap.FunFrames base (env::outer)){b:Addr}{o:Obj}{ws:Array Value}(hb:b∈(env::outer).filterMap (·.frame))(ho:s.heap.get? b=some o)(hd:o.data=.fields ws):False:=by
 obtain⟨_,o',ho',hn⟩:=hl.mem hb;rw[ho] at ho';injection ho' with e;subst e
 exact hn ws hd
end
end PySem
namespace L2
open PySem PySem.Spec PyProof.Rows
theorem iZ.E7 {P:Program}{w:World}{H:Hp}{h h':Heap}(ok:iZ P w H h)(k:∀b u,H b≠none->h.get? b=some u->h'.get? b=some u):iZ P w H h':=λb o e=>
 (ok b o e).stay (λc u hc q=>k c u (hc.elim (λz=>by rw[z,e];exact λz=>nomatch z) (λz=>by rw[z];exact λz=>nomatch z)) q) (λ_ z=>z) λ_ _ z=>z
theorem tZ {base h h':Heap}{H H':Hp}:∀{l l':List Env},(∀b∈frs l,b∈frs l')->(∀b∈frs l',H b=none)->Un (frs l') [] H H' h h'->h.FunFrames base l->h'.FunFrames base l
 |[],_,_,_,_,_=>trivial
 |env::r,l',hs,hf,un,⟨hk,⟨L,o,e,hn,ho,hd⟩,hr⟩=>by
  have hL:L∈frs l':=hs L (by unfold frs;rw[jbM,e];exact jai);obtain⟨sl,q⟩:=un.slot L o ho (hf L hL) hL (by simp);exact⟨hk,⟨L,_,e,hn,q,hd⟩,tZ (λb hb=>hs b (by unfold frs;rw[jbM,e];exact jah _ hb)) hf un hr⟩
section
variable {P:Program}{w:World}{K:Frag}{mg:Str->jc7}{base:Heap}{N:jc2}{qual:Str}{scope:Scope}{f C:Addr}{cd:Value}{A:Around}{outer:List Env}{s:Shared}{H:Hp}{E:XK}
def NU (C e:Addr):HO:=.ext λh=>∃t,h.get? e=some (cR C t)
theorem MQ {P:Program}{w:World}{H:Hp}{h:Heap}{C e:Addr}:(∃t,h.get? e=some (cR C t))->bB P w H h e (NU C e):=λ⟨t,q⟩=>
 ⟨⟨t,q⟩,⟨_,q⟩,λ_ _ ⟨t,q⟩ k=>⟨t,k _ q⟩⟩
def del (H:Hp)(a:Addr):Hp:=λb=>if b=a then none else H b
def qE {H:Hp}{a b:Addr}(h:b≠a):del H a b=H b:=jaa h
end
def IV {H:Hp}{a:Addr}{o:HO}(h:H a=some o):upd H a o=H:=by
 funext b;unfold upd;split
 .rename_i e;rw[e,h]
 .rfl
def a0B {K:Frag}{h:Heap}{N:Addr}{mN:Str->jc7}{n:Str}{v:Value}(X:K.In h)(G:h.Ns N mN)(e:nsIn K N n=some (some v)):mN n=some v:=by
 obtain⟨o,es,ep,ho,hd,_,hf⟩:=G;unfold nsIn at e;split at e
 .rename_i q;have z:=X _ _ q;rw[ho] at z;cases z;cases hd;split at e
  .rename_i he;cases e;rw[<- hf];unfold nsFind findBy;rw[<- Array.find?_toList,he];rfl
  .split at e<;>cases e
 .cases e
structure wD (K:Frag)(C fI:Addr)(bm:List Value):Prop where
 ob:∃nm q N bs hdct sn sub ab col dd k0 k1 k2 k3 k5,K.lookup C=some (excClassObj nm q C N bs bm hdct sn sub ab col dd k0 k1 k2 k3 k5 "ValueError.__new__")/\nsOkIn K N=true/\nsIn K N "__init__"=some (some (.ref fI))
 fn:isFn K (.ref fI)=true
 kp:keepIn K (.ref C)=true
 v:bm.contains (.type "ValueError")=true
 a:bm.contains (.type "AttributeError")=false
 n:bm.contains (.type "NameError")=false
 b:bm.contains (.type "BaseException")=true
section
variable {X:Cx}{CX:D3}{k:Nat}{f C D fI:Addr}{fd:FuncData}{ps:jc2}{sp:Sp}{E:XK}{x m:Str}{p pos BM:Pos}{e o:Expr}{es:jc5}{t:TA}{bm:jc3}
def Ze (sp:Sp)(E:XK)(to:TE)(t:TA):TE:=λU H Q=>to U H λ_ H1=>t U H1 λvs H2=>sp (vs++[]) H2 Q E
theorem EV {pl:Sem Bool}(hg:Gl X x)(hm:X.mg x=some (.ref D))(h1:specialIn X.K (.ref D) "__getattribute__"=some (some (.builtin "type.__getattribute__")))(h2:readsIn X.K D (.type "type")=true)
  (h3:findCls X.K (.ref D) (.type "type") m=some (.val (.ref f))) (h4:handedIn (.ref f)=true) (hk:keepIn X.K (.ref f)=true) (F:aG X.prog X.w X.K X.mg X.base CX k f fd ps sp) (hr:bR k X.A) (hb:Binds X.K fd ps [])
  (hx:Passes CX X E) (ha:PA X (e::es) t) (hst:autoParam (starEach (e::es) X.env=(false,eval e X.env)::starEach es X.env) zi) (hpl:autoParam ((backTo pos (starEach es X.env)).any (·.1)=false) zi) (hdb:autoParam ((x==("__debug__":Str))=false) zn)
  (ht:autoParam (eval (.Call (.Attribute (.Name x p) m BM) (e::es) [] pos) X.env=(do
   let ov <- eval (.Name x p) X.env
   standAt BM.atName
   let(f,first) <- holding [ov] (getMethod ov m pl)
   callWith pos f first (backTo pos (starEach (e::es) X.env)) (backToKw pos (keywordEach [] X.env)))) zi) :
  PE X (.Call (.Attribute (.Name x p) m BM) (e::es) [] pos) (Ze sp E (tC (.ref D)) t):=by
 intro vy s U H Q I h;refine jcc (pl:=pl) (jq I hg hm ?_ hdb) ht;refine PySem.W.method_cls I.ig h1 (PySem.W.cls_value I.ig h2 h3 h4 ?_);have I1:=I.tok (s.toks+1);refine jcf (first:=[]) (h₀:=X.base) I.ok.mod.NN hk (bu (ha pos vy _ U H _ I1 h) λus s2 ⟨vs,H2,I2,r,q2⟩=>⟨I2.ig,?_⟩) hst hpl;exact ng F hr hb .nil hx I2 r q2
def UH (C:Addr)(t:TA):TE:=λU H Q=>t U H λvs H1=>∃a v,vs=[.ref a,v]/\H1 a=some (NU C a)/\Q .ck H1
theorem KU {pl:Sem Bool}(XC:wD X.K C fI bm)(hg:Gl X "ValueError")(hm:X.mg "ValueError"=none)(h3:findCls X.K (.type "ValueError") (.type "type") "__init__"=some (.val (.builtin "ValueError.__init__")))
  (ha:PA X (e::es) t) (hst:autoParam (starEach (e::es) X.env=(false,eval e X.env)::starEach es X.env) zi) (hpl:autoParam ((backTo pos (starEach es X.env)).any (·.1)=false) zi)
  (ht:autoParam (eval (.Call (.Attribute (.Name "ValueError" p) "__init__" BM) (e::es) [] pos) X.env=(do
   let ov <- eval (.Name "ValueError" p) X.env
   standAt BM.atName
   let(f,first) <- holding [ov] (getMethod ov "__init__" pl)
   callWith pos f first (backTo pos (starEach (e::es) X.env)) (backToKw pos (keywordEach [] X.env)))) zi) :
  PE X (.Call (.Attribute (.Name "ValueError" p) "__init__" BM) (e::es) [] pos) (UH C t):=by
 intro vy s U H Q I h;refine jcc (pl:=pl) (qu I hg hm PyProof.Rows.Boot.«ValueError» ?_ (by decide) (by decide)) ht;obtain⟨m,F⟩:=I.fr;refine PySem.W.method_type F I.ok.mod.NN (by kernel_rfl) (by symm) h3 (by rfl) ?_;have I1:=I.tok (s.toks+1);have hA:=ha pos vy _ U H _ I1 h;rw[hst] at hA ⊢;refine jca (by show(false||(backTo pos (starEach es X.env)).any (·.1))=false;rw[hpl]<;>rfl) (jcT (bu hA λus s2 ⟨vs,H2,I2,r,a,v,ev,ea,q2⟩=>?_));subst ev;obtain⟨u,u',rfl,ru,_⟩:=vals2 r;cases ru;obtain⟨nm,q,N,bs,hdct,sn,sub,ab,col,dd,k0,k1,k2,k3,k5,lk,_,_⟩:=XC.ob;obtain⟨⟨t0,he⟩,_⟩:=show bB X.prog X.w H2 s2.heap a (NU C a) from I2.hok a _ ea;obtain⟨hp,g,d,tk,os⟩:=s2;refine a1a XC.v (I2.ig _ _ lk) he (by show 1<=sizeLine;exact jbi (Hw.line 1 (by decide))) ?_;rintro h' kp ⟨t1,he'⟩;have I3:=I2.write (t':=tk) (x:=a) (e:=a) (o:=NU C a) (h':=h') (by rw[ea];exact True.intro) (.inl M) kp ⟨_,he'⟩ (MQ ⟨t1,he'⟩);rw[IV ea] at I3;exact⟨.ck,H2,I3,M,q2⟩
end
def Its (x:Str):It:=⟨λi _=>i<x.cps.size,λi H v H'=>H'=H/\∃c,x.cps[i]?=some c/\v=.str ⟨#[c]⟩,λi _=>x.cps.size<=i⟩
theorem Gb {P:Program}{w:World}{K:Frag}{tg:Expr}(x:Str)(t:Tok)(it:Addr):Turn P w K tg (Its x) [it] it (λi h=>h.IsStrIter it "str_ascii_iterator" x t i) where
 mem:=by simp
 obj:=λi h st b hb=>by
  have e:b=it:=by simpa using hb
  subst e;obtain⟨o,e,c,d⟩:=st;exact⟨o,e,λv z=>by rw[d] at z;cases z⟩
 keep:=λi h h' st k=>let⟨o,ho,r⟩:=st;⟨o,k it (by simp) o ho,r⟩
 item:=by
  intro X hP hw hK hc i vy s U H E I hf st hg;subst hP hw hK;have hg:i<x.cps.size:=hg;obtain⟨f0,f1,f2,f3,f4,f5⟩:=hf it (by simp);refine wpAny_pyNext_ascii_item st (c:=x.cps[i]) (by simp[hg]) λh' st' sb=>?_;have I1:Inv X vy U H {s with heap:=h',toks:=s.toks+1 }:=I.turned (t':=s.toks+1) (λb o hb e=>(sb.2 b hb).trans e) f0 f1 f3 f4 f5;obtain⟨o,e,c,d⟩:=id st';exact⟨_,M,rP (s:={s with heap:=h',toks:=s.toks+1 }) e c d (by decide) ⟨.str ⟨#[x.cps[i]]⟩,H,I1,⟨_,M⟩,⟨M,_,by simp[hg],M⟩,st',λb hb=>(hf b hb).1⟩⟩
 done:=by
  intro X hP hw hK hc i vy s U H E I hf st hg;subst hP hw hK;have hg:x.cps.size<=i:=hg;obtain⟨f0,f1,f2,f3,f4,f5⟩:=hf it (by simp);exact wpAny_pyNext_ascii_end (I.ok.hd hc) st (by simp[hg]) λh' eb=>⟨M,I.turned (t':=s.toks) (λb o hb e=>eb b o hb e) f0 f1 f3 f4 f5⟩
 self:=λ_ _ _ _ _ st h=>wpAny_pyIter_striter_ascii st h
theorem Ga {P:Program}{w:World}{K:Frag}{tg:Expr}(x:Str)(t:Tok)(it:Addr):Turn P w K tg (Its x) [it] it (λi h=>h.IsStrIter it "str_iterator" x t i) where
 mem:=by simp
 obj:=λi h st b hb=>by
  have e:b=it:=by simpa using hb
  subst e;obtain⟨o,e,c,d⟩:=st;exact⟨o,e,λv z=>by rw[d] at z;cases z⟩
 keep:=λi h h' st k=>let⟨o,ho,r⟩:=st;⟨o,k it (by simp) o ho,r⟩
 item:=by
  intro X hP hw hK hc i vy s U H E I hf st hg;subst hP hw hK;have hg:i<x.cps.size:=hg;obtain⟨f0,f1,f2,f3,f4,f5⟩:=hf it (by simp);refine wpAny_pyNext_wide_item st (c:=x.cps[i]) (by simp[hg]) λh' st' sb=>?_;have I1:Inv X vy U H {s with heap:=h',toks:=s.toks+1 }:=I.turned (t':=s.toks+1) (λb o hb e=>(sb.2 b hb).trans e) f0 f1 f3 f4 f5;obtain⟨o,e,c,d⟩:=id st';exact⟨_,M,rP (s:={s with heap:=h',toks:=s.toks+1 }) e c d (by decide) ⟨.str ⟨#[x.cps[i]]⟩,H,I1,⟨_,M⟩,⟨M,_,by simp[hg],M⟩,st',λb hb=>(hf b hb).1⟩⟩
 done:=by
  intro X hP hw hK hc i vy s U H E I hf st hg;subst hP hw hK;have hg:x.cps.size<=i:=hg;obtain⟨f0,f1,f2,f3,f4,f5⟩:=hf it (by simp);exact wpAny_pyNext_wide_end (I.ok.hd hc) st (by simp[hg]) λh' eb=>⟨M,I.turned (t':=s.toks) (λb o hb e=>eb b o hb e) f0 f1 f3 f4 f5⟩
 self:=λ_ _ _ _ _ st h=>wpAny_pyIter_striter_wide st h
section
variable {X:Cx}{tg:Expr}
def a4s (tl:TE):TI:=λU H R=>tl U H λx H1=>∃z,x=.str z/\R (Its z) H1
def V1 {l:Expr}{tl:TE}(hl:PE X l tl):PI X tg l (a4s tl):=by
 intro vy s U H R I h;refine bu (hl vy s U H _ I h) ?_;rintro v s1 ⟨x,H1,I1,r1,q1⟩;obtain⟨z,e,q⟩:=q1;subst e;obtain⟨t,rfl⟩:=r1;cases ha:z.cps.all (· < 128)
 .refine wpAny_pyIter_wide ha ?_;refine⟨s1.heap.objs.size,[s1.heap.objs.size],_,_,H1,M,I1.kept (t':=s1.toks) λb o e=>jat _ e,Ga z t _,⟨_,jaP _ M,M,M⟩,λb hb=>?_,q⟩;have e:b=s1.heap.objs.size:=by simpa using hb
  subst e;exact I1.Bd (jaj _) (I1.hok.fresh (jaj _))
 .refine wpAny_pyIter_ascii ha ?_;refine⟨s1.heap.objs.size,[s1.heap.objs.size],_,_,H1,M,I1.kept (t':=s1.toks) λb o e=>jat _ e,Gb z t _,⟨_,jaP _ M,M,M⟩,λb hb=>?_,q⟩;have e:b=s1.heap.objs.size:=by simpa using hb
  subst e;exact I1.Bd (jaj _) (I1.hok.fresh (jaj _))
def GJ:gP X (compareOp .LtE) (λx y H Q=>∃i j,x=.str i/\y=.str j/\Q (.bl (!(decide (j.cps.toList<i.cps.toList)))) H):=by
 intro vy s U H x y v u Q I rx ry h;obtain⟨i,j,rfl,rfl,q⟩:=h;obtain⟨t,rfl⟩:=rx;obtain⟨t',rfl⟩:=ry;exact P.le_str (bx I q M)
end
end L2
namespace PySem
open L2
section
variable {prog:Program}{w:World}{A:Around}{E:jc0}{s:Shared}
end
end PySem
namespace PySem
open L2 PyProof.Rows
section
variable {prog:Program}{w:World}{A:Around}{R:Result->Shared->Prop}{I:Addr}{fp wr:jc4}{G:Array GenState->Array GenState->Prop}{n:Nat}{P:Nat->Value->Prop}{St:Nat->Shared->Prop}
end
section
variable {prog:Program}{w:World}{A:Around}{E:jc0}{s:Shared}
end
end PySem
namespace PySem
open L2 PyProof.Rows
namespace F
end F
section
variable {prog:Program}{w:World}{A:Around}{E:jc0}{s:Shared}{I a tp:Addr}{i n ep:Nat}{es:Array (Int×Value)}{t:SetTable}
end
end PySem
namespace PySem
open L2 PyProof.Rows
section
variable {prog:Program}{w:World}{A:Around}{E:jc0}{s:Shared}{I a tp:Addr}{i n ep:Nat}{es:Array (Int×Value)}{t:SetTable}
end
end PySem
namespace PySem
open L2 PyProof.Rows
section
variable {jcY:Model}{A:Around}{E:jc0}{s:Shared}
end
section
variable {prog:Program}{w:World}{A:Around}{E:jc0}{s:Shared}{I a tp:Addr}{i n ep:Nat}{es:Array (Int×Value)}{t:SetTable}
end
end PySem
namespace PySem
open L2 PyProof.Rows
section
variable {prog:Program}{w:World}{A:Around}{E:jc0}{s:Shared}{I a tp:Addr}{i n ep:Nat}{es:Array (Int×Value)}{t:SetTable}
end
end PySem
namespace PySem
open L2 PyProof.Rows
section
variable {prog:Program}{w:World}{A:Around}{E:jc0}{s:Shared}{a:Addr}
end
end PySem
namespace PySem
open L2 PyProof.Rows
section
variable {prog:Program}{w:World}{A:Around}{E:jc0}{s:Shared}{a:Addr}{zs:jc2}
end
end PySem
namespace L2
open PySem PySem.Spec PyProof.Rows Hw
section
variable {X:Cx}
end
end L2
namespace Hw
open PySem L2
def d8 (c:Nat):Bool:=decide (97<=c)&&decide (c<=122)
def isNm (z:Str):Bool:=(decide (1<=z.length)&&decide (z.length<=8))&&!(decide (z∈o5))&&z.cps.toList.all d8
def a4a (c:Nat):(!(decide (((⟨#[c]⟩:Str)).cps.toList<(("a":Str)).cps.toList)))=decide (97<=c):=by
 show(!(decide ([c] < [97])))=_;have e:([c] < [97])↔(c<97):=by rw[jcR];simp
 by_cases h:97<=c
 .rw[jag h,jaf (λz=>absurd (e.mp z) (by omega))];rfl
 .rw[jaf h,jag (e.mpr (by omega))];rfl
def a39 (c:Nat):(!(decide ((("z":Str)).cps.toList<((⟨#[c]⟩:Str)).cps.toList)))=decide (c<=122):=by
 show(!(decide ([122] < [c])))=_;have e:([122] < [c])↔(122<c):=by rw[jcR];simp
 by_cases h:c<=122
 .rw[jag h,jaf (λz=>absurd (e.mp z) (by omega))];rfl
 .rw[jaf h,jag (e.mpr (by omega))];rfl
def U5 (z:Str)(lo hi:Option Int):(Txt.slice z lo hi).length<=z.length:=Txt.slice_le z _ _
def LH {xs:jc2}:∀x∈xs.map V.str,HC x:=λx h=>by obtain⟨y,_,rfl⟩:=jaY.mp h;trivial
end Hw
namespace L2
open PySem PySem.Spec PyProof.Rows Hw
section
variable {X:Cx}
end
end L2
namespace Hw
open PySem L2
def AJ {ys:jc2}(h:ys.Pairwise (λa b=>lt b a=false))(n:ys.Nodup):ys.Pairwise (λa b=>lt a b=true):=by
 unfold List.Nodup at n;exact(h.and n).imp λ{a b} ⟨h1,h2⟩=>by
  rcases ze a b with z | z | z
  .exact z
  .exact absurd z h2
  .rw[h1] at z;cases z
theorem qk:∀{xs ys:jc2},xs.Pairwise (λa b=>lt a b=true)->ys.Pairwise (λa b=>lt a b=true)->(∀x,x∈xs↔x∈ys)->xs=ys
 |[],[],_,_,_=>rfl
 |[],y::_,_,_,h=>absurd ((h y).mpr (jai ..)) (λz=>nomatch z)
 |x::_,[],_,_,h=>absurd ((h x).mp (jai ..)) (λz=>nomatch z)
 |x::xs,y::ys,p,q,h=>by
  obtain⟨px,p'⟩:=jbD.mp p;obtain⟨qy,q'⟩:=jbD.mp q;have e:x=y:=by
   rcases jak.mp ((h x).mp (jai ..)) with z | z
   .exact z
   .rcases jak.mp ((h y).mpr (jai ..)) with u | u
    .exact u.symm
    .have:=lt_trans (px y u) (qy x z);rw[vd] at this;cases this
  subst e;have t:xs=ys:=qk p' q' λz=>by
   constructor
   .intro hz;rcases jak.mp ((h z).mp (jah _ hz)) with u | u
    .subst u;have:=px z hz;rw[vd] at this;cases this
    .exact u
   .intro hz;rcases jak.mp ((h z).mpr (jah _ hz)) with u | u
    .subst u;have:=qy z hz;rw[vd] at this;cases this
    .exact u
  rw[t]
end Hw
namespace L2
open PySem PySem.Spec PyProof.Rows Hw
section
variable {X:Cx}
end
end L2
namespace Hw
open PySem L2
end Hw
namespace PySem.W
open PySem PySem.Spec PySem.Calls PyProof.Rows
structure HS (K:Frag)(D:Addr):Prop where
 ga:findIn K (.ref D) "__getattribute__"=some (some (.builtin "BaseException.__getattribute__"))
 no:findIn K (.ref D) "__getattr__"=some none
 ca:findIn K (.ref D) "__class__"=some (some (.builtin "object.__class__"))
 gt:specialIn K (.builtin "object.__class__") "__get__"=some (some (.builtin "getset_descriptor.__get__"))
 tk:takesIn K (.builtin "object.__class__")=some true
 ob:mroIn K D (.type "object")=some true
 be:subIn K (.ref D) (.type "BaseException")=some true
 cl:(clsIn K D).isSome=true
section
variable {prog:Program}{w:World}{A:Around}{E:jc0}{K:Frag}{x D:Addr}{ox:Obj}
end
end PySem.W
namespace L2
open PySem PySem.Spec PyProof.Rows
section
variable {X:Cx}{a C:Addr}{oe:Obj}
def Fi (hc:oe.cls=.ref C)(hd:∃vs,oe.data=.fields vs)(hn:oe.dict=none){h:Heap}(ha:h.get? a=some oe):InstAt h a oe C none:=by
 obtain⟨vs,hd⟩:=hd;refine⟨ha,hc,?_,by rw[hn];trivial⟩;unfold notCls;rw[hd]
end
end L2
namespace PySem
section
variable {jcY:Model}{A:Around}{E:jc0}
variable {nm q nm' q':Str}{C N W N':Addr}{bs bm bs' bm':jc3}{hdct Tf:Bool}{sn sn':jc2}{sub sub':jc3}{ab ab':Bool}{col col':Option Bool}{dd NV:jc6}{k0 k1 k2 k3 k5 j0 j1 j2 j3 j5:jc7}{newId newId':String}
theorem WE {h:Heap}{g:Array GenState}{d:Drawn}{t:Nat}{os:OsState}{e:Addr}{oe:Obj}{Q:Bool->Shared->Prop}
  (hC:h.get? C=some (excClassObj nm q C N bs bm hdct sn sub ab col dd k0 k1 k2 k3 k5 newId)) (hW:h.get? W=some (excClassObj nm' q' W N' bs' bm' Tf sn' sub' ab' col' NV j0 j1 j2 j3 j5 newId'))
  (he:h.get? e=some oe) (hcls:oe.cls=.ref C) (hb:bm'.contains (.type "BaseException")=true) (hin:(Value.ref C::bm).contains (.ref W)=true)
  (hq:Q true ⟨h,g,d,t,os⟩):wpAny jcY A (excMatches (.ref e) (.ref W)) Q E ⟨h,g,d,t,os⟩:=by
 have c1:(Value.ref W::bm').contains (.type "BaseException")=true:=by rw[jb3,hb,Bool.or_true]
 have f:=tc_notTuple;unfold excMatches
 repeat (first | (with_reducible refine jbm he ?_;rw[hcls]) | with_reducible refine jbm hW ?_ | (with_reducible refine jcd hW ?_;rw[c1]) | (with_reducible refine jcd hC ?_;rw[hin]) | wp_step)
 exact hq
end
section
variable {jcY:Model}{A:Around}{E:jc0}{s:Shared}{base:Heap}{env:Env}{outer:List Env}{L a C:Addr}{oe:Obj}{vs:Array Value}
end
end PySem
namespace L2
open PySem PySem.Spec PyProof.Rows
def Cx.tr (X:Cx)(pn:jcZ)(xe:jc0):Cx:={X with pn:=pn,xe:=xe }
def Cx.suite (X:Cx)(a:Addr)(pn:jcZ):Cx:={X with A:=X.A.mark (some (.ref a)),calm:=false,pn:=pn,xe:=λ_ _=>False }
section
variable {X:Cx}{pn:jcZ}{xe:jc0}{vy jI:jcZ}{U:St}{H:Hp}{s:Shared}{a:Addr}
def a3S (o:X.Ok):(X.tr pn xe).Ok:=⟨o.mod,o.kind,o.glob,o.blt,o.above,o.inj,o.has,o.TN,o.hd,o.frames,o.stk,o.Xo,o.bs,o.Hz,o.AY,o.Bg,o.nB,o.NS⟩
def a0w (o:(X.tr pn xe).Ok):X.Ok:=⟨o.mod,o.kind,o.glob,o.blt,o.above,o.inj,o.has,o.TN,o.hd,o.frames,o.stk,o.Xo,o.bs,o.Hz,o.AY,o.Bg,o.nB,o.NS⟩
def a3T (o:X.Ok):(X.suite a pn).Ok:=⟨o.mod,o.kind,o.glob,o.blt,o.above,o.inj,o.has,o.TN,(λz=>nomatch z),o.frames,o.stk,o.Xo,o.bs,o.Hz,o.AY,o.Bg,o.nB,o.NS⟩
def a09 (I:Inv X vy U H s)(h:∀p∈pn++jI,p∈X.pn++vy):Inv (X.tr pn xe) jI U H s:=⟨a3S I.ok,I.os,I.bare,I.base,I.loc,I.cell,I.free,I.fR,λp hp=>I.pin p (h p hp),I.hok,I.len⟩
def vg (I:Inv (X.tr pn xe) jI U H s)(h:∀p∈X.pn++vy,p∈pn++jI):Inv X vy U H s:=⟨a0w I.ok,I.os,I.bare,I.base,I.loc,I.cell,I.free,I.fR,λp hp=>I.pin p (h p hp),I.hok,I.len⟩
theorem Tc {oe:Obj}(I:Inv X vy U H s)(ha:s.heap.get? a=some oe)(hf:H a=none)(hl:a≠X.env.locals)(hn:a∉X.fs)(hd:∀v,oe.data≠.cell v):Inv (X.suite a ((a,oe)::(X.pn++vy))) [] U H s:=
 ⟨a3T I.ok,I.os,I.bare,I.base,I.loc,I.cell,I.free,I.fR,λp hp=>by
  rw[jaK] at hp;rcases jak.mp (show p∈(a,oe)::(X.pn++vy) from hp) with e | e
  .subst e;exact⟨ha,hf,hl,hn,hd⟩
  .exact I.pin p e,I.hok,I.len⟩
theorem Inv.forget {a:Addr}{pn':jcZ}{h':Heap}{t':Nat}{m':Str->jc7}(o:X.Ok)(I:Inv (X.suite a pn') [] U H s)(hp:∀p∈X.pn++vy,p∈pn')(hn:h'.Ns X.env.locals m')(sb:Heap.SameBut X.env.locals s.heap h') :
  Inv X vy (List.replicate X.N.length none) H {s with heap:=h',toks:=t' }:=by
 have kp:∀b u,b≠X.env.locals->s.heap.get? b=some u->h'.get? b=some u:=λb u nb q=>(sb.2 b nb).trans q;have ab:∀b u,X.s₀.heap.get? b=some u->b≠X.env.locals:=λb u q z=>by
  have l1:=jam q;have l2:X.s₀.heap.objs.size<=X.env.locals:=o.above;rw[z] at l1;exact ja6 _ (jaB l1 l2)
 have B:=I.base;refine⟨o,I.os,I.bare,⟨λb u q n nf nx=>kp b u (ab b u q) (B.keep b u q n nf nx),λb u q n inf nx=>?_,λb u q n nx=>B.free b u q n nx,λb u q nx=>?_,B.tups,B.jR,B.jW⟩,⟨m',hn,λi x v _ e=>?_⟩,λx c e=>?_,I.free,I.fR,λp hp'=>?_,I.hok.E7 λb u hb q=>kp b u (λz=>hb (z ▸ I.free)) q,jbX ..⟩
 .obtain⟨sl,e⟩:=B.slot b u q n inf nx;exact⟨sl,kp b _ (ab b u q) e⟩
 .obtain⟨o',e⟩:=B.there b u q nx;exact⟨o',kp b _ (ab b u q) e⟩
 .rw[jbW] at e;split at e<;>cases e
 .obtain⟨v,oc,h1,h2⟩:=I.cell x c e;exact⟨v,oc,kp c _ (I.TF x c e) h1,h2⟩
 .obtain⟨h1,h2,h3,h4,h5⟩:=I.pin p (by rw[jaK];exact hp p hp');exact⟨kp _ _ h3 h1,h2,h3,h4,h5⟩
end
section
variable {X:Cx}{C W fI fW:Addr}{bm HR:jc3}{xc n:Str}{i:Nat}{np hpos pos:Pos}{body:List Stmt}{b₀:Stmt}{suite:List Stmt}{tb:XK->TS}{ts:Addr->TS}
end
end L2
namespace Hw
open PySem L2
end Hw
namespace L2
open PySem PySem.Spec PyProof.Rows Hw
section
variable {X:Cx}{C:Addr}{k:Nat}{m:Str}{pos BM:Pos}{o:Expr}{ta:TE}{ul:Cz}{ps:jc2}{sp:Nat->Sp}{E:XK}
end
end L2
namespace Hw
open PySem L2
section
variable {xs:jc2}{H H' H'':Hp}{d l P:Addr}{us:List V}{cs:List Cd}
end
end Hw
namespace L2
open PySem PySem.Spec PyProof.Rows
end L2
namespace Hw
open PySem L2
end Hw
namespace L2
open PySem PySem.Spec PyProof.Rows Hw
section
variable {X:Cx}{k:Nat}{m:Str}{pos BM:Pos}{o:Expr}{ta:TE}{QR:Cy}{ps:jc2}{sp:Nat->Sp}
end
end L2
namespace Hw
open PySem L2
end Hw
namespace L2
open PySem PySem.Spec PyProof.Rows
def notStar:Expr->Bool
 |.Starred ..=>false
 |_=>true
def cU {e:Expr}{es:jc5}{env:Env}(h:notStar e=true):starEach (e::es) env=(false,eval e env)::starEach es env:=by
 cases e<;>first | rfl | cases h
theorem c6 {pos:Pos}{env:Env}:∀{es:jc5},es.all notStar=true->(backTo pos (starEach es env)).any (·.1)=false
 |[],_=>rfl
 |e::es,h=>by
  have h:(notStar e&&es.all notStar)=true:=h;rw[jar] at h;rw[cU h.1];show(false||(backTo pos (starEach es env)).any (·.1))=false;rw[c6 h.2];rfl
theorem uv {pos:Pos}{env:Env}:∀{es:jc5},es.all notStar=true->(backTo pos (starEach es env)).all (λx=>!x.1)=true
 |[],_=>rfl
 |e::es,h=>by
  have h:(notStar e&&es.all notStar)=true:=h;rw[jar] at h;rw[cU h.1];show(true&&(backTo pos (starEach es env)).all (λx=>!x.1))=true;rw[uv h.2];rfl
section
variable {X:Cx}{CX:D3}{k:Nat}{f C:Addr}{fd:FuncData}{ps:jc2}{sp:Sp}{vU:List V}{ds:jc3}{E:XK}{x:Str}{p pos:Pos}{e:Expr}{es:jc5}{te:TE}{t:TA}
def K8 (ha:PE X e te)(hr:PA X es t)(h:autoParam (notStar e=true) zi):PA X (e::es) (Jl te t):=k6 ha hr (cU h)
theorem AQ (F:aG X.prog X.w X.K X.mg X.base CX k f fd ps sp)(hr:bR k X.A)(hg:Gl X x)(hm:X.mg x=some (.ref f))(hk:keepIn X.K (.ref f)=true)(hb:Binds X.K fd ps ds)(hd:Vals vU ds)(hx:Passes CX X E)
  (ha:PA X (e::es) t) (h1:autoParam (notStar e=true) zi) (h2:autoParam (es.all notStar=true) zi) (hdb:autoParam ((x==("__debug__":Str))=false) zn):PE X (.Call (.Name x p) (e::es) [] pos) (Jo sp vU E t):=
 Pz F hr hg hm hk hb hd hx ha hdb (cU h1) (c6 h2)
theorem uP (jcY:Mk X.K C f)(F:aG X.prog X.w X.K X.mg X.base CX k f fd ps sp)(hr:bR (k+1) X.A)(hg:Gl X x)(hm:X.mg x=some (.ref C))(hb:Binds X.K fd ps ds)(hd:Vals vU ds)(hx:Passes CX X E)
  (ha:PA X (e::es) t) (h1:autoParam (notStar e=true) zi) (h2:autoParam (es.all notStar=true) zi) (hdb:autoParam ((x==("__debug__":Str))=false) zn):PE X (.Call (.Name x p) (e::es) [] pos) (RL C sp vU E t):=
 Pp jcY F hr hg hm hb hd hx ha hdb (cU h1) (c6 h2)
theorem GD {id:String}{r:List V->Hp->VK->Prop}(hc:dN X (.builtin id) r)(hg:Gl X x)(hm:X.mg x=none)(hv:bootBuiltins x=some (.builtin id))(ha:PA X (e::es) t)(h1:autoParam (notStar e=true) zi)(h2:autoParam (es.all notStar=true) zi)(hn:autoParam (x≠"__name__") zn)(hdb:autoParam ((x==("__debug__":Str))=false) zn) :
  PE X (.Call (.Name x p) (e::es) [] pos) (Zf r t):=K5 hc hg hm hv ha hn hdb (cU h1) (c6 h2)
theorem CQ {T:String}{r:List V->Hp->VK->Prop}(hc:dN X (.type T) r)(hg:Gl X x)(hm:X.mg x=none)(hv:bootBuiltins x=some (.type T))(ha:PA X (e::es) t)(h1:autoParam (notStar e=true) zi)(h2:autoParam (es.all notStar=true) zi)(hn:autoParam (x≠"__name__") zn)(hdb:autoParam ((x==("__debug__":Str))=false) zn) :
  PE X (.Call (.Name x p) (e::es) [] pos) (Zf r t):=GC hc hg hm hv ha hn hdb (cU h1) (c6 h2)
theorem Wc {T id:String}{name:Str}{r:V->List V->Hp->VK->Prop}{o:Expr}{to:TE}{BM cpos:Pos}(pa:PlainAttrs T)(slot:Slot T name id)(hty:typeOf (.builtin id)=pure (.type "method_descriptor"))(hm:p6 X id r)(ho:PE X o to)(ha:PA X (e::es) t)
  (h1:autoParam (notStar e=true) zi) (h2:autoParam (es.all notStar=true) zi) (h3:autoParam (es.length<20) zn) (Ap:autoParam (attributeBase o name X.env (eval o X.env)=eval o X.env) zi) (B1:autoParam ((BM.endLine==cpos.line)=true) zi) :
  PE X (.Call (.Attribute o name BM) (e::es) [] cpos) (tBM X.K T r to t):=
 a0k pa slot hty hm ho ha Ap (by
  rw[uv (show(e::es).all notStar=true by show(notStar e&&es.all notStar)=true;rw[h1,h2];rfl)];show(true&&true&&decide (es.length+1+0+0<30))=true;rw[jag (by omega)];rfl) B1 (cU h1) (c6 h2)
end
end L2
namespace Hw
open PySem L2
section
variable {H0 H H':Hp}{d p q a1 a2 a3 a4:Addr}{o:Own}{us:List V}{hs:List Hl}
end
end Hw
namespace L2
open PySem PySem.Spec PyProof.Rows
end L2
namespace Hw
open PySem L2
end Hw
namespace PySem
open Sem (wp)
open Builtin
section
variable {prog:Program}{w:World}{A:Around}{E:jc0}{h:Heap}{g:Array GenState}{d:Drawn}{t:Nat}{os:OsState}{K:W.Frag}{C x:Addr}{o:Obj}
end
end PySem
namespace L2
open PySem PySem.Spec PyProof.Rows
end L2
namespace Hw
open PySem L2
section
variable {QR:Cy}{G G':Hp}{tt pg pc pb pl:Addr}{us ws:List V}{hs:List Hl}{c:Cd}{h0:Hl}{u0:V}
end
end Hw
namespace PySem
open L2
section
variable {prog:Program}{w:World}{A:Around}{E:jc0}{s:Shared}
end
end PySem
namespace L2
open PySem PySem.Spec PyProof.Rows Hw
section
variable {X:Cx}
end
end L2
namespace PySem
open L2 PyProof.Rows
section
variable {prog:Program}{w:World}{A:Around}{E:jc0}{s:Shared}
end
end PySem
namespace L2
open PySem PySem.Spec PyProof.Rows Hw
section
variable {X:Cx}
end
end L2
namespace PySem
structure Mv (fr xs:List Addr)(h h':Heap):Prop where
 keep:∀b o,h.get? b=some o->b∉fr->b∉xs->h'.get? b=some o
 slot:∀b o,h.get? b=some o->b∈fr->b∉xs->∃sl,h'.get? b=some {o with slots:=sl }
 sz:h.objs.size<=h'.objs.size
theorem Mv.trans {fr xs ys:jc4}{h h1 h2:Heap}(m:Mv fr xs h h1)(n:Mv fr ys h1 h2):Mv fr (xs++ys) h h2 where
 keep:=λb o q nf nx=>n.keep b o (m.keep b o q nf λz=>nx (jaX _ z)) nf λz=>nx (jaW _ z)
 slot:=λb o q f nx=>by
  obtain⟨sl,e⟩:=m.slot b o q f λz=>nx (jaX _ z);obtain⟨sl2,e2⟩:=n.slot b _ e f λz=>nx (jaW _ z);exact⟨sl2,e2⟩
 sz:=jap m.sz n.sz
theorem Mv.sub {fr xs ys:jc4}{h h':Heap}(m:Mv fr xs h h')(s:∀b∈xs,b∈ys):Mv fr ys h h':=
 ⟨λb o q nf nx=>m.keep b o q nf λz=>nx (s b z),λb o q f nx=>m.slot b o q f λz=>nx (s b z),m.sz⟩
theorem Mv.upd {fr:jc4}{h:Heap}{T:Addr}{f:Obj->Obj}:Mv fr [T] h (h.update T f) where
 keep:=λb o q _ nx=>(jaV _ _ λz=>nx (by rw[z];exact jaE.mpr M)).trans q
 slot:=λb o q _ nx=>⟨o.slots,(jaV _ _ λz=>nx (by rw[z];exact jaE.mpr M)).trans q⟩
 sz:=jbH (jcr ..).symm
section
variable {jcY:Model}{A:Around}{E:jc0}{s:Shared}{base:Heap}{env:Env}{outer:List Env}{L a C T:Addr}{z:Value}
end
end PySem
namespace L2
open PySem PySem.Spec PyProof.Rows
theorem Fq {base h h':Heap}{xs:jc4}:∀{l l':List Env},(∀b∈frs l,b∈frs l')->(∀b∈frs l',b∉xs)->Mv (frs l') xs h h'->h.FunFrames base l->h'.FunFrames base l
 |[],_,_,_,_,_=>trivial
 |env::r,l',hs,hf,un,⟨hk,⟨L,o,e,hn,ho,hd⟩,hr⟩=>by
  have hL:L∈frs l':=hs L (by unfold frs;rw[jbM,e];exact jai);obtain⟨sl,q⟩:=un.slot L o ho hL (hf L hL);exact⟨hk,⟨L,_,e,hn,q,hd⟩,Fq (λb hb=>hs b (by unfold frs;rw[jbM,e];exact jah _ hb)) hf un hr⟩
section
variable {P:Program}{w:World}{K:Frag}{mg:Str->jc7}{base:Heap}{N:jc2}{qual:Str}{scope:Scope}{f TM:Addr}{cd:Value}{A:Around}{outer:List Env}{s:Shared}{H:Hp}{E:XK}
end
section
variable {P:Program}{w:World}{K:Frag}{mg:Str->jc7}{base:Heap}{N0:jc2}{qual:Str}{scope:Scope}{su TM:Addr}{cd:Value}{A:Around}{outer:List Env}{s0:Shared}{sH:Hp}{E:XK}{sc:Scope}{cl:List (Str×Addr)}{own:Nat}{N:jc2}{fr:jc8}
end
end L2
namespace Hw
open PySem L2
end Hw
namespace L2
open PySem PySem.Spec PyProof.Rows Hw
section
variable {X:Cx}{k:Nat}{m:Str}{pos BM:Pos}{o:Expr}{ta:TE}{QR:Cy}{ps:jc2}{sp:Nat->Sp}
def OQ:V->List V->Hp->VK->Prop:=λx vs H Q=>∃a b,x=.str a/\vs=[.str b]/\Q (.bl (Txt.startswith a b)) H
def GY:p6 X "str.startswith" OQ:=by
 intro vy s U H x vs v us Q I rx rv h;obtain⟨a,b,rfl,rfl,q⟩:=h;obtain⟨t,rfl⟩:=rx;obtain⟨u,rfl,ru⟩:=rv.one;obtain⟨t2,rfl⟩:=ru;exact PySem.SC.startswith ⟨.bl _,H,I,M,q⟩
end
end L2
namespace Hw
open PySem L2
section
variable {QR:Cy}{H:Hp}{s:Stp}{p:Addr}
end
section
variable {QR:Cy}{H H':Hp}
end
section
variable {ul:Cz}{Bk Db:Addr}{H H':Hp}{b F:Addr}{pg:V}{ds:List V}{dd:List Dt}
end
section
variable {N:jc2}{QR:Cy}{H:Hp}{s:Stp}{p:Addr}
end
end Hw
namespace PySem
open L2
end PySem
namespace PySem
open L2
section
variable {prog:Program}{w:World}{A:Around}{E:jc0}{s:Shared}
end
end PySem
namespace PySem
open L2
section
variable {prog:Program}{w:World}{A:Around}{E:jc0}{s:Shared}
end
end PySem
namespace L2
open PySem PySem.Spec PyProof.Rows Hw
section
variable {X:Cx}
end
end L2
namespace PySem
open Sem (wp)
section
variable {prog:Program}{w:World}{A:Around}{E:jc0}{s:Shared}
end
end PySem
namespace L2
open PySem PySem.Spec PyProof.Rows Hw
section
variable {X:Cx}
end
section
variable {X:Cx}{l:Expr}{tl:TE}{p pos:Pos}
end
end L2
namespace PySem
open Sem (wp)
section
variable {prog:Program}{w:World}{A:Around}{E:jc0}{s:Shared}{z ti tw i1 i2:Addr}{f1 f2:jc4}{n1 n2 k:Nat}{P1 P2:Nat->Value->Prop}{S1 S2:Nat->Heap->Prop}{a b:Value}
end
end PySem
namespace PySem
section
variable {prog:Program}{w:World}{A:Around}{E:jc0}{s:Shared}
end
end PySem
namespace L2
open PySem PySem.Spec PyProof.Rows Hw
section
variable {X:Cx}
end
section
variable {X:Cx}{l m:Expr}{p pos:Pos}
end
end L2
namespace Hw
open PySem L2
end Hw
namespace L2
open PySem PySem.Spec PyProof.Rows Hw
end L2
namespace Hw
open PySem L2
end Hw
namespace L2
open PySem PySem.Spec PyProof.Rows Hw
def mtM {P:Program}{w:World}{K:Frag}{mg:Str->jc7}{base:Heap}{k:Nat}{m:Str}{C f:Addr}{fd:FuncData}{ps:jc2}{sp:Sp}(a:aG P w K mg base dh k f fd ps sp)(b:findIn K (.ref C) m=some (some (.ref f)))(e:isFn K (.ref f)=true)(c:keepIn K (.ref f)=true)(d:Binds K fd ps []):Mt P w K mg base k C m ps sp:=⟨f,fd,a,⟨b,e,c⟩,d⟩
def mrM {P:Program}{w:World}{K:Frag}{mg:Str->jc7}{base:Heap}{k:Nat}{C f:Addr}{fd:FuncData}{ps:jc2}{sp:Sp}(a:aG P w K mg base dh k f fd ps sp)(m:makesIn K C=true)(b:findIn K (.ref C) "__init__"=some (some (.ref f)))(e:isFn K (.ref f)=true)(c:keepIn K (.ref C)=true)(d:Binds K fd ps []):Mr P w K mg base k C ps sp:=⟨f,fd,a,⟨m,b,e,c⟩,d⟩
theorem mc {P:Str->Prop}{a:Str}{l:jc2}(h:P a)(k:∀x∈l,P x):∀x∈a::l,P x:=λx hx=>by
 rcases jak.mp hx with e | e
 .rw[e];exact h
 .exact k x e
end L2
namespace Hw
open PySem L2
end Hw
namespace L2
open PySem PySem.Spec PyProof.Rows Hw
end L2
namespace Hw
open PySem L2
end Hw
namespace L2
open PySem PySem.Spec PyProof.Rows PySem.Builtin PySem.Builtin.Str
section
variable {X:Cx}
theorem qX:∀l:List (Str×Tok),Vals ((l.map (·.1)).map V.str) (strValues l)
 |[]=>.nil
 |p::r=>.cons ⟨p.2,M⟩ (qX r)
def Aw {x y:Str}:(Txt.split x y).length<=x.length+2:=by
 unfold Txt.split;split
 .show 1<=_;omega
 .split
  .show 1<=_;omega
  .rw[length_partsBetween];have e1:=StrLaws.occ_length_le x y 0 x.length (x.length+1);omega
def Vp:V->List V->Hp->VK->Prop:=λx vs H Q=>∃a b,x=.str a/\vs=[.str b]/\(b.length==0)=false/\a.length+2<=sizeLine/\∀p,H p=none->Q (.ref p) (upd H p (.lst ((Txt.split a b).map V.str)))
def LO:p6 X "str.split" Vp:=by
 intro vy s U H x vs v us Q I rx rv h;obtain⟨a,b,rfl,rfl,hb,hz,q⟩:=h;obtain⟨t,rfl⟩:=rx;obtain⟨u,rfl,ru⟩:=rv.one;obtain⟨t2,rfl⟩:=ru;have fin:∀(l:List (Str×Tok)) (k:Nat),l.map (·.1)=Txt.split a b->EP X vy U Q (.ref s.heap.objs.size) {s with heap:=s.heap.push {cls:=.type "list",data:=.seq (strValues l).toArray },toks:=k }:=λl k e=>by
  refine⟨.ref s.heap.objs.size,_,I.WL (ys:=(Txt.split a b).map V.str) (e ▸ qX l) ?_,M,q _ I.fresh⟩;rw[jad];have:=Aw (x:=a) (y:=b);omega
 have hn:(partsBetween a (occurrences a b 0 a.length (a.length+1)) b.length).length<=sizeLine:=by
  have e1:=StrLaws.occ_length_le a b 0 a.length (a.length+1);rw[length_partsBetween];omega
 cases h1:(decide (a.length<b.length)||decide (strKind a<strKind b))
 .cases hf:(occurrences a b 0 a.length (a.length+1)).isEmpty
  .refine jbj F.slot_str_split (jbB _ _ _) F.entry_str_split (F.args_str_split_2 _ _) (meets_str_split_sep a b t t2 h1 hb hf (by omega) hn) ?_;show wants _ _ _ {s with toks:=_,heap:=s.heap.push {cls:=.type "list",data:=.seq (strsFrom s.toks (partsBetween a (occurrences a b 0 a.length (a.length+1)) b.length)).toArray } };rw[strsFrom_eq];exact fin (numbered s.toks _) _ ((numbered_texts _ _).trans ((jaa (ne_true_of_eq_false h1)).trans (jaa (ne_true_of_eq_false hf))).symm)
  .exact jbj F.slot_str_split (jbB _ _ _) F.entry_str_split (F.args_str_split_2 _ _) (meets_str_split_not_found a b t t2 h1 hb hf) (fin [(a,t)] s.toks ((jaa (ne_true_of_eq_false h1)).trans (jab hf)).symm)
 .exact jbj F.slot_str_split (jbB _ _ _) F.entry_str_split (F.args_str_split_2 _ _) (meets_str_split_cannot_occur a b t t2 h1) (fin [(a,t)] s.toks (jab h1).symm)
def ZQ:V->List V->Hp->VK->Prop:=λx vs H Q=>∃a b,x=.str a/\vs=[.str b]/\(b.length==0)=false/\a.length<=sizeLine/\∀p,H p=none->Q (.ref p) (upd H p (.tup [.str (Txt.partition a b).1,.str (Txt.partition a b).2.1,.str (Txt.partition a b).2.2]))
def Qh:p6 X "str.partition" ZQ:=by
 intro vy s U H x vs v us Q I rx rv h;obtain⟨a,b,rfl,rfl,hb,hz,q⟩:=h;obtain⟨t,rfl⟩:=rx;obtain⟨u,rfl,ru⟩:=rv.one;obtain⟨t2,rfl⟩:=ru;refine jbj F.slot_str_partition (jbB _ _ _) F.entry_str_partition (F.args_str_partition_2 _ _) (meets_str_partition a b t t2 hb hz) ?_;have fin:∀(x1 x2 x3:Str)(ta tb tc:Tok)(k:Nat),Txt.partition a b=(x1,x2,x3)->EP X vy U Q (.ref s.heap.objs.size) {s with heap:=s.heap.push {cls:=.type "tuple",data:=.seq [.str x1 ta,.str x2 tb,.str x3 tc].toArray },toks:=k }:=λx1 x2 x3 ta tb tc k e=>by
  rw[e] at q;refine⟨.ref s.heap.objs.size,_,?_,M,q _ I.fresh⟩;refine I.laid (λb o e=>jat _ e) (jaj _) ⟨by simp only[jaA,jcD];rw[ja4];decide,[.str x1 ta,.str x2 tb,.str x3 tc],.cons ⟨_,M⟩ (.cons ⟨_,M⟩ (.cons ⟨_,M⟩ .nil)),?_⟩;exact⟨_,jaP s.heap M,M,0,M⟩
 unfold Txt.partition at fin;revert fin;cases occurrences a b 0 a.length 1 with
 |nil=>intro fin;exact fin _ _ _ _ _ _ _ rfl
 |cons i r=>intro fin;exact fin _ _ _ _ _ _ _ rfl
def a3G:V->List V->Hp->VK->Prop:=λx vs H Q=>∃a b,x=.str a/\vs=[.str b]/\a.length<=sizeLine/\Q (.str (Txt.lstripChars a b)) H
def G2:p6 X "str.lstrip" a3G:=by
 intro vy s U H x vs v us Q I rx rv h;obtain⟨a,b,rfl,rfl,hz,q⟩:=h;obtain⟨t,rfl⟩:=rx;obtain⟨u,rfl,ru⟩:=rv.one;obtain⟨t2,rfl⟩:=ru;exact SC.lstripChars (λt' k=>⟨.str _,H,I.tok _,⟨_,M⟩,q⟩) hz
def a3D:V->List V->Hp->VK->Prop:=λx vs H Q=>∃a b,x=.str a/\vs=[.str b]/\a.length<=sizeLine/\Q (.str (Txt.rstripChars a b)) H
def GZ:p6 X "str.rstrip" a3D:=by
 intro vy s U H x vs v us Q I rx rv h;obtain⟨a,b,rfl,rfl,hz,q⟩:=h;obtain⟨t,rfl⟩:=rx;obtain⟨u,rfl,ru⟩:=rv.one;obtain⟨t2,rfl⟩:=ru;exact SC.rstripChars (λt' k=>⟨.str _,H,I.tok _,⟨_,M⟩,q⟩) hz
def Hy:dN X (.type "int") (λvs H Q=>∃(x:Str)(n:Int),vs=[.str x]/\PySem.intText? x=some n/\x.length<=640/\Q (.int n) H):=by
 intro vy s U H xs us Q I r h;obtain⟨x,n,rfl,hn,hl,q⟩:=h;obtain⟨u,rfl,ru⟩:=r.one;obtain⟨t,rfl⟩:=ru;exact PySem.W.KIN.call_text hn hl ⟨.int n,H,I.tok _,⟨_,M⟩,q⟩
def ZU:V->List V->Hp->VK->Prop:=λx vs H Q=>∃(l:Addr)(xs:List V)(y z:V)(j:Nat),x=.ref l/\vs=[y]/\H l=some (.lst xs)/\dI y=true/\xs.all dI=true/\xs[j]?=some z/\vS z y=true/\(∀i,i<j->∀c,xs[i]?=some c->vS c y=false)/\Q (.int j) H
def Fv {y:V}{xs:List V}{us:jc3}(r:Vals xs us)(f:xs.all dI=true){i:Nat}{z:V}(e:xs[i]?=some z)(hi:i<us.length):Bl y us[i]=vS z y:=by
 obtain⟨u,hu,ru⟩:=r.get e;rw[jaz hi] at hu;cases hu;exact Dm ru (jav.mp f z (jbd e))
def Qj:p6 X "list.index" ZU:=by
 intro vy s U H x vs v us Q I rx rv h;obtain⟨l,xs,y,z,j,rfl,rfl,hH,fy,fx,hj,hit,hno,q⟩:=h;cases rx;obtain⟨u,rfl,ru⟩:=rv.one;obtain⟨hz,AC,n,r,hl,e⟩:=I.zf hH;have hjl:j<xs.length:=(jao.mp hj).1;have hs:sizeLine<2 ^ 62:=by rw[ja4];decide
 refine jbj PySem.F.slot_list_index ⟨_,e,M⟩ PySem.F.entry_list_index (PySem.F.args_list_index_2 _ _) (SeqAt.list_indexAt l AC.toArray n none #[] u (Bl y) j (by simp;omega) (by omega) ?_ (λm hm hmj=>?_)) ⟨e,λw hw=>iP ru fy r fx w (by simpa using hw),?_⟩
 .simp only[List.getElem_toArray];rw[Fv r fx hj];exact hit
 .have hm':m<AC.length:=by simpa using hm
  have hx:m<xs.length:=by omega
  simp only[List.getElem_toArray];rw[Fv r fx (jaz hx)];exact hno m hmj _ (jaz hx)
 .exact⟨.int _,H,I.tok _,⟨_,M⟩,q⟩
end
end L2
namespace L3
open PySem L2
inductive T where
 |v (x:V) | tup (l:List T) | lst (l:List T) | Az (l:List T) | ins (C:Addr) (ns:List Str) (l:List T)
inductive D where
 |t (x:T) | ob (n:Nat)
inductive O where
 |lst (l:List T) | sy (l:List (Key×T)) | vv (ob:Obj) (kvs:List (Key×V)) (l:List (Key×T)) | gh (Y:List Addr) (G:Hp) | ins (C:Addr) (ns:List Str) (l:List D)
abbrev aO:=List O
abbrev Sl:=List (Option D)
abbrev T.int (i:Int):T:=.v (.int i)
noncomputable abbrev T.str (x:Str):T:=.v (.str x)
abbrev T.bl (b:Bool):T:=.v (.bl b)
abbrev D.int (i:Int):D:=.t (.v (.int i))
abbrev D.str (x:Str):D:=.t (.v (.str x))
abbrev D.bl (b:Bool):D:=.t (.v (.bl b))
noncomputable abbrev D.ck:D:=.t (.v .ck)
abbrev D.tup (l:List T):D:=.t (.tup l)
abbrev D.lst (l:List T):D:=.t (.lst l)
def D.iD:D->Option Int
 |.t (.v (.int i))=>some i
 |_=>none
def D.sD:D->Option Str
 |.t (.v (.str i))=>some i
 |_=>none
def D.tD:D->Option (List T)
 |.t (.tup i)=>some i
 |_=>none
def D.xo {d:D}{i:Int}(h:d.iD=some i):d=.int i:=by
 cases d with
 |ob n=>cases h
 |t x=>cases x with
  |v x=>cases x with
   |int j=>cases h;rfl
   |_=>cases h
  |_=>cases h
def D.AI {d:D}{i:Str}(h:d.sD=some i):d=.str i:=by
 cases d with
 |ob n=>cases h
 |t x=>cases x with
  |v x=>cases x with
   |str j=>cases h;rfl
   |_=>cases h
  |_=>cases h
def D.RP {d:D}{i:List T}(h:d.tD=some i):d=.tup i:=by
 cases d with
 |ob n=>cases h
 |t x=>cases x with
  |tup j=>cases h;rfl
  |_=>cases h
def HN {α:Type}{o:Option α}{n:Prop}{f:α->Prop}(h:o.elim n f):n\/∃a,o=some a/\f a:=by
 cases o with
 |none=>exact .inl h
 |some a=>exact .inr ⟨a,M,h⟩
def Le (G G':Hp):Prop:=∀a o,G a=some o->G' a=some o
def Le.refl (G:Hp):Le G G:=λ_ _ h=>h
def Le.trans {A B C:Hp}(h:Le A B)(k:Le B C):Le A C:=λa o e=>k a o (h a o e)
theorem ZN {G G':Hp}(h:Le G G'){a:Addr}{u:HO}:Rd G a u->Rd G' a u
 |.inl e=>.inl (h _ _ e)
 |.inr ⟨o,e⟩=>.inr ⟨o,h _ _ e⟩
theorem CD {K:Frag}{G G':Hp}(h:Le G G'){a:Addr}{xs:List V}:iG K G a xs->iG K G' a xs
 |.inl e=>.inl (ZN h e)
 |.inr e=>.inr e
structure rX (K:Frag)(C:Addr)(ns:List Str):Prop where
 cls:Rx K C
 no:∀f∈ns,iu K C f
 ca:findIn K (.ref C) "__class__"=some (some (.builtin "object.__class__"))
 cg:specialIn K (.builtin "object.__class__") "__get__"=some (some (.builtin "getset_descriptor.__get__"))
 ct:takesIn K (.builtin "object.__class__")=some true
 cm:mroIn K C (.type "object")=some true
mutual
def Rp (K:Frag)(G:Hp):T->V->Prop
 |.v x,w=>w=x
 |.tup l,w=>∃a vs,w=.ref a/\G a=some (.tup vs)/\aX K G l vs
 |.lst l,w=>∃a vs,w=.ref a/\G a=some (.lst vs)/\aX K G l vs
 |.Az l,w=>∃a vs,w=.ref a/\iG K G a vs/\aX K G l vs
 |.ins C ns l,w=>∃a dx vs,w=.ref a/\G a=some (.ins C dx (ns.zip vs))/\ns.length=vs.length/\rX K C ns/\aX K G l vs
def aX (K:Frag)(G:Hp):List T->List V->Prop
 |[],vs=>vs=[]
 |x::r,vs=>∃v vr,vs=v::vr/\Rp K G x v/\aX K G r vr
end
mutual
theorem Rp.le {K:Frag}{G G':Hp}(h:Le G G'):∀{x:T}{w:V},Rp K G x w->Rp K G' x w
 |.v x,w,e=>by unfold Rp at *;exact e
 |.tup l,w,e=>by
  unfold Rp at *;obtain⟨a,vs,e1,e2,e3⟩:=e;exact⟨a,vs,e1,h _ _ e2,aX.le h e3⟩
 |.lst l,w,e=>by
  unfold Rp at *;obtain⟨a,vs,e1,e2,e3⟩:=e;exact⟨a,vs,e1,h _ _ e2,aX.le h e3⟩
 |.Az l,w,e=>by
  unfold Rp at *;obtain⟨a,vs,e1,e2,e3⟩:=e;exact⟨a,vs,e1,CD h e2,aX.le h e3⟩
 |.ins C ns l,w,e=>by
  unfold Rp at *;obtain⟨a,dx,vs,e1,e2,e3,e4,e5⟩:=e;exact⟨a,dx,vs,e1,h _ _ e2,e3,e4,aX.le h e5⟩
theorem aX.le {K:Frag}{G G':Hp}(h:Le G G'):∀{l:List T}{vs:List V},aX K G l vs->aX K G' l vs
 |[],vs,e=>by unfold aX at *;exact e
 |x::r,vs,e=>by
  unfold aX at *;obtain⟨v,vr,e1,e2,e3⟩:=e;exact⟨v,vr,e1,Rp.le h e2,aX.le h e3⟩
end
section
variable {K:Frag}{G:Hp}
def aX.nil:aX K G [] []:=by unfold aX;rfl
def aX.cons {x:T}{v:V}{l:List T}{vs:List V}(h:Rp K G x v)(r:aX K G l vs):aX K G (x::l) (v::vs):=by
 unfold aX;exact⟨v,vs,M,h,r⟩
theorem aX.len:∀{l:List T}{vs:List V},aX K G l vs->l.length=vs.length
 |[],vs,e=>by unfold aX at e;rw[e];rfl
 |x::r,vs,e=>by
  unfold aX at e;obtain⟨v,vr,e1,_,e3⟩:=e;rw[e1,jaA,jaA,e3.len]
theorem aX.app:∀{l m:List T}{vs ws:List V},aX K G l vs->aX K G m ws->aX K G (l++m) (vs++ws)
 |[],m,vs,ws,e,k=>by unfold aX at e;rw[e];exact k
 |x::r,m,vs,ws,e,k=>by
  unfold aX at e;obtain⟨v,vr,e1,e2,e3⟩:=e;rw[e1];exact .cons e2 (e3.app k)
theorem aX.get:∀{l:List T}{vs:List V}{i:Nat}{x:T},aX K G l vs->l[i]?=some x->∃v,vs[i]?=some v/\Rp K G x v
 |[],vs,i,x,e,k=>by simp at k
 |y::r,vs,0,x,e,k=>by
  unfold aX at e;obtain⟨v,vr,e1,e2,e3⟩:=e;simp at k;subst k;exact⟨v,by rw[e1];rfl,e2⟩
 |y::r,vs,i+1,x,e,k=>by
  unfold aX at e;obtain⟨v,vr,e1,e2,e3⟩:=e;obtain⟨u,h1,h2⟩:=e3.get (i:=i) (x:=x) (by simpa using k);exact⟨u,by rw[e1];simpa using h1,h2⟩
theorem aX.tk:∀{l:List T}{vs:List V}(n:Nat),aX K G l vs->aX K G (l.take n) (vs.take n)
 |_,_,0,_=>by simp;exact .nil
 |[],vs,n+1,e=>by unfold aX at e;rw[e];simp;exact .nil
 |y::r,vs,n+1,e=>by
  unfold aX at e;obtain⟨v,vr,e1,e2,e3⟩:=e;rw[e1,List.take_succ_cons,List.take_succ_cons];exact .cons e2 (e3.tk n)
theorem aX.dp:∀{l:List T}{vs:List V}(n:Nat),aX K G l vs->aX K G (l.drop n) (vs.drop n)
 |_,_,0,e=>by simpa using e
 |[],vs,n+1,e=>by unfold aX at e;rw[e];simp;exact .nil
 |y::r,vs,n+1,e=>by
  unfold aX at e;obtain⟨v,vr,e1,e2,e3⟩:=e;rw[e1,List.drop_succ_cons,List.drop_succ_cons];exact e3.dp n
theorem aX.nj:∀{ns:jc2}{vs:List V}{f:Str},f∉ns->(ns.zip vs).lookup f=none
 |[],vs,f,_=>by simp
 |n::ns,[],f,_=>by simp
 |n::ns,v::vs,f,h=>by
  rw[jcz,jbF];have q:(f==n)=false:=by
   cases q:(f==n) with
   |false=>rfl
   |true=>exact absurd (jak.mpr (.inl (eq_of_beq q))) h
  rw[q];exact aX.nj λz=>h (jah _ z)
end
theorem lu:∀{l:jc4}{i j:Nat}{a:Addr},l.Nodup->l[i]?=some a->l[j]?=some a->i=j
 |[],_,_,_,_,h,_=>by simp at h
 |x::r,0,0,_,_,_,_=>rfl
 |x::r,0,j+1,a,nd,h,k=>by
  simp at h k;subst h;exact absurd (jbd k) (jbP.mp nd).1
 |x::r,i+1,0,a,nd,h,k=>by
  simp at h k;subst k;exact absurd (jbd h) (jbP.mp nd).1
 |x::r,i+1,j+1,a,nd,h,k=>jae (·+1) (lu (l:=r) (jbP.mp nd).2 (by simpa using h) (by simpa using k))
def res (Y:jc4)(H:Hp):Hp:=λa=>if a∈Y then none else H a
def gm (K:Frag)(Y:jc4)(G:Hp):D->V->Prop
 |.t x,w=>Rp K G x w
 |.ob n,w=>∃a,Y[n]?=some a/\w=.ref a
def cZ (K:Frag)(Y:jc4)(G:Hp):List D->List V->Prop:=Paired (gm K Y G)
def DK (K:Frag)(Y:jc4)(G:Hp)(h:Option HO):O->Prop
 |.lst l=>∃vs,h=some (.lst vs)/\aX K G l vs
 |.sy l=>∃kvs,h=some (.dK kvs)/\Paired (λ(p:Key×T) (q:Key×V)=>p.1=q.1/\Rp K G p.2 q.2) l kvs
 |.vv ob kvs l=>h=some (.qC ob (.dK kvs))/\Paired (λ(p:Key×T) (q:Key×V)=>p.1=q.1/\Rp K G p.2 q.2) l kvs
 |.ins C ns l=>∃dx vs,h=some (.ins C dx (ns.zip vs))/\ns.length=vs.length/\rX K C ns/\cZ K Y G l vs
 |.gh ρ0 G0=>(∃u,h=some u)/\(∀(n:Nat)(a:Addr),ρ0[n]?=some a->Y[n]?=some a)/\Le G0 G
structure R3 (K:Frag)(Y:List Addr)(S:aO)(H:Hp):Prop where
 len:Y.length=S.length
 nd:Y.Nodup
 ok:∀(n:Nat)(a:Addr)(o:O),Y[n]?=some a->S[n]?=some o->DK K Y (res Y H) (H a) o
structure Gr (Y:List Addr)(H:Hp)(Y':List Addr)(H':Hp):Prop where
 ext:∃e,Y'=Y++e
 le:Le (res Y H) (res Y' H')
def Gr.refl {Y:jc4}{H:Hp}:Gr Y H Y H:=⟨⟨[],by simp⟩,Le.refl _⟩
def Gr.trans {Y Y' Y'':jc4}{H H' H'':Hp}(a:Gr Y H Y' H')(b:Gr Y' H' Y'' H''):Gr Y H Y'' H'':=by
 obtain⟨e,rfl⟩:=a.ext;obtain⟨f,rfl⟩:=b.ext;exact⟨⟨e++f,by simp⟩,a.le.trans b.le⟩
theorem Gr.at {Y Y':jc4}{H H':Hp}(a:Gr Y H Y' H'){n:Nat}{x:Addr}(h:Y[n]?=some x):Y'[n]?=some x:=by
 obtain⟨e,rfl⟩:=a.ext;have hl:n<Y.length:=(jao.mp h).1;rw[jaF hl];exact h
section
variable {K:Frag}{Y Y':jc4}{G G' H H':Hp}
theorem gm.le' (he:∀(n:Nat)(a:Addr),Y[n]?=some a->Y'[n]?=some a)(h:Le G G'):∀{d:D}{w:V},gm K Y G d w->gm K Y' G' d w
 |.t x,w,e=>Rp.le h e
 |.ob n,w,⟨a,e1,e2⟩=>⟨a,he n a e1,e2⟩
def gm.gr (g:Gr Y H Y' H'){d:D}{w:V}(e:gm K Y (res Y H) d w):gm K Y' (res Y' H') d w:=gm.le' (λ_ _=>g.at) g.le e
theorem c8 {α β:Type}{F F':α->β->Prop}(h:∀a b,F a b->F' a b):∀{l:List α}{m:List β},Paired F l m->Paired F' l m
 |_,_,.nil=>.nil
 |_,_,.cons r t=>.cons (h _ _ r) (c8 h t)
def cZ.gr (g:Gr Y H Y' H'){l:List D}{w:List V}(e:cZ K Y (res Y H) l w):cZ K Y' (res Y' H') l w:=c8 (λ_ _=>gm.gr g) e
theorem cZ.t:∀{l:List T}{vs:List V},cZ K Y G (l.map .t) vs->aX K G l vs
 |[],_,.nil=>.nil
 |_::_,_,.cons r t=>.cons r (cZ.t t)
theorem cZ.of:∀{l:List T}{vs:List V},aX K G l vs->cZ K Y G (l.map .t) vs
 |[],vs,e=>by unfold aX at e;subst e;exact .nil
 |x::r,vs,e=>by
  unfold aX at e;obtain⟨v,vr,e1,e2,e3⟩:=e;subst e1;exact .cons e2 (cZ.of e3)
theorem DK.le' (he:∀(n:Nat)(a:Addr),Y[n]?=some a->Y'[n]?=some a)(h:Le G G'){x:Option HO}:∀{o:O},DK K Y G x o->DK K Y' G' x o
 |.lst l,⟨vs,e1,e2⟩=>⟨vs,e1,e2.le h⟩
 |.sy l,⟨vs,e1,e2⟩=>⟨vs,e1,c8 (λ_ _ z=>⟨z.1,z.2.le h⟩) e2⟩
 |.vv ob vs l,⟨e1,e2⟩=>⟨e1,c8 (λ_ _ z=>⟨z.1,z.2.le h⟩) e2⟩
 |.gh ρ0 G0,⟨e1,e2,e3⟩=>⟨e1,λn a z=>he n a (e2 n a z),e3.trans h⟩
 |.ins C ns l,⟨dx,vs,e1,e2,e3,e4⟩=>⟨dx,vs,e1,e2,e3,c8 (λ_ _=>gm.le' he h) e4⟩
theorem DK.some {x:Option HO}:∀{o:O},DK K Y G x o->∃u,x=some u
 |.lst l,⟨vs,e1,e2⟩=>⟨_,e1⟩
 |.sy l,⟨vs,e1,e2⟩=>⟨_,e1⟩
 |.vv ob vs l,⟨e1,e2⟩=>⟨_,e1⟩
 |.gh _ _,⟨e1,_⟩=>e1
 |.ins C ns l,⟨dx,vs,e1,e2,e3,e4⟩=>⟨_,e1⟩
def res_some {a:Addr}{o:HO}(h:res Y H a=some o):a∉Y/\H a=some o:=by
 unfold res at h;split at h
 .cases h
 .exact⟨by assumption,h⟩
def j9 {a:Addr}{o:HO}(n:a∉Y)(h:H a=some o):res Y H a=some o:=by unfold res;rw[jaa n];exact h
def ON:res [] H=H:=by funext a;unfold res;rw[jaa (by simp)]
end
section
variable {K:Frag}{Y:jc4}{S:aO}{H:Hp}
def R3.tracked (r:R3 K Y S H){a:Addr}(h:a∈Y):∃u,H a=some u:=by
 obtain⟨n,hn⟩:=jcS.mp h;have hl:n<S.length:=by rw[<- r.len];exact(jao.mp hn).1
 exact(r.ok n a S[n] hn (jaz hl)).some
theorem R3.fresh (r:R3 K Y S H){p:Addr}(h:H p=none):p∉Y:=λz=>by
 obtain⟨u,e⟩:=r.tracked z;rw[h] at e;cases e
def R3.new (r:R3 K Y S H){p:Addr}{o:HO}(h:H p=none):R3 K Y S (upd H p o)/\Gr Y H Y (upd H p o)/\res Y (upd H p o) p=some o:=by
 have np:=r.fresh h;have le:Le (res Y H) (res Y (upd H p o)):=λa u e=>by
  obtain⟨e1,e2⟩:=res_some e;refine j9 e1 ?_;rw[aE (aQ e2 h)];exact e2
 refine⟨⟨r.len,r.nd,λn a u e1 e2=>?_⟩,⟨⟨[],by simp⟩,le⟩,j9 np cE⟩;have q:=r.ok n a u e1 e2;obtain⟨x,ex⟩:=q.some;rw[aE (aQ ex h)];exact q.le' (λ_ _ z=>z) le
def R3.push (r:R3 K Y S H){p:Addr}{o:HO}{u:O}(h:H p=none)(hu:DK K (Y++[p]) (res Y H) (some o) u):R3 K (Y++[p]) (S++[u]) (upd H p o)/\Gr Y H (Y++[p]) (upd H p o):=by
 have np:=r.fresh h;have le:Le (res Y H) (res (Y++[p]) (upd H p o)):=λa u e=>by
  obtain⟨e1,e2⟩:=res_some e;have ne:=aQ e2 h;refine j9 (λz=>?_) ?_
  .rcases jaU.mp z with z | z
   .exact e1 z
   .exact ne (jaE.mp z)
  .rw[aE ne];exact e2
 have he:∀(n:Nat)(a:Addr),Y[n]?=some a->(Y++[p])[n]?=some a:=λn a e=>by
  rw[jaF (jao.mp e).1];exact e
 refine⟨⟨by simp[r.len],?_,λn a x e1 e2=>?_⟩,⟨⟨[p],M⟩,le⟩⟩
 .rw[jcA];refine⟨r.nd,by simp,λa ha b hb=>?_⟩;rw[jaE.mp hb];exact λz=>np (z ▸ ha)
 .by_cases hn:n<Y.length
  .rw[jaF hn] at e1;rw[jaF (by rw[<- r.len];exact hn)] at e2;have q:=r.ok n a x e1 e2;obtain⟨y,ey⟩:=q.some;rw[aE (aQ ey h)];exact q.le' he le
  .have hn':n=Y.length:=by
    have:=(jao.mp e1).1;rw[jaD,jbY] at this;omega
   subst hn';rw[ja7 (jaj _),jbU] at e1;rw[ja7 (by rw[r.len];exact jaj _),r.len,jbU] at e2;cases e1;cases e2;rw[cE];exact hu.le' (λ_ _ z=>z) le
def R3.put (r:R3 K Y S H){n:Nat}{a:Addr}{o:HO}{u:O}(ha:Y[n]?=some a)(hu:DK K Y (res Y H) (some o) u):R3 K Y (S.set n u) (upd H a o)/\Gr Y H Y (upd H a o):=by
 have hm:a∈Y:=jbd ha;have le:Le (res Y H) (res Y (upd H a o)):=λb u e=>by
  obtain⟨e1,e2⟩:=res_some e;refine j9 e1 ?_;rw[aE (λz=>e1 (by rw[z];exact hm))];exact e2
 refine⟨⟨by rw[jaQ];exact r.len,r.nd,λm b x e1 e2=>?_⟩,⟨⟨[],by simp⟩,le⟩⟩;by_cases hmn:n=m
 .subst hmn;rw[ha] at e1;cases e1;have hl:n<S.length:=by rw[<- r.len];exact(jao.mp ha).1
  rw[jaI hl] at e2;cases e2;rw[cE];exact hu.le' (λ_ _ z=>z) le
 .rw[jbL hmn] at e2;have nb:b≠a:=λz=>by
   subst z;exact hmn (lu r.nd ha e1)
  rw[aE nb];exact(r.ok m b x e1 e2).le' (λ_ _ z=>z) le
end
abbrev KD:=D->aO->Prop
abbrev KS:=Sl->aO->Prop
abbrev bH:=Sl->aO->KD->Prop
abbrev mQ:=Sl->aO->(Bool->aO->Prop)->Prop
abbrev jB:=Sl->aO->(List D->aO->Prop)->Prop
structure mR where
 nx:KS
 rt:KD
 bk:KS:=λ_ _=>False
 ct:KS:=λ_ _=>False
abbrev iW:=mR->Sl->aO->Prop
section
variable (K:Frag)(Y:jc4)(H:Hp)
def up (k:KD):VK:=λv H'=>∃Y' S' d,Gr Y H Y' H'/\R3 K Y' S' H'/\gm K Y' (res Y' H') d v/\k d S'
def upT (k:Bool->aO->Prop):Bool->Hp->Prop:=λb H'=>∃Y' S',Gr Y H Y' H'/\R3 K Y' S' H'/\k b S'
def upA (k:List D->aO->Prop):List V->Hp->Prop:=λv H'=>∃Y' S' d,Gr Y H Y' H'/\R3 K Y' S' H'/\cZ K Y' (res Y' H') d v/\k d S'
def pY (G:Hp)(Z:Sl)(U:St):Prop:=Z.length=U.length/\∀(i:Nat) d,Z[i]?=some (some d)->∃v,U[i]?=some (some v)/\gm K Y G d v
def F6 (k:KS):St->Hp->Prop:=λU H'=>∃Y' S' Z,Gr Y H Y' H'/\R3 K Y' S' H'/\pY K Y' (res Y' H') Z U/\k Z S'
structure zO (E:mR)(D:Ends):Prop where
 nx:∀U H',F6 K Y H E.nx U H'->D.nx U H'
 rt:∀v H',up K Y H E.rt v H'->D.rt v H'
 bk:∀U H',F6 K Y H E.bk U H'->D.bk U H'
 ct:∀U H',F6 K Y H E.ct U H'->D.ct U H'
end
section
variable (K:Frag)
def li (t:bH):TE:=λU H Q=>∃Y S Z k,R3 K Y S H/\pY K Y (res Y H) Z U/\t Z S k/\∀v H',up K Y H k v H'->Q v H'
def NL (t:mQ):TT:=λU H Q=>∃Y S Z k,R3 K Y S H/\pY K Y (res Y H) Z U/\t Z S k/\∀v H',upT K Y H k v H'->Q v H'
def liA (t:jB):TA:=λU H Q=>∃Y S Z k,R3 K Y S H/\pY K Y (res Y H) Z U/\t Z S k/\∀v H',upA K Y H k v H'->Q v H'
def Yj (t:iW):TS:=λD U H=>∃Y S Z E,R3 K Y S H/\pY K Y (res Y H) Z U/\t E Z S/\zO K Y H E D
end
section
variable {K:Frag}{Y Y':jc4}{H H':Hp}
theorem pY.gr (g:Gr Y H Y' H'){Z:Sl}{U:St}(r:pY K Y (res Y H) Z U):pY K Y' (res Y' H') Z U:=
 ⟨r.1,λi d e=>let⟨v,e1,e2⟩:=r.2 i d e;⟨v,e1,e2.gr g⟩⟩
def pY.set {G:Hp}{Z:Sl}{U:St}(r:pY K Y G Z U){d:D}{v:V}(h:gm K Y G d v)(i:Nat):pY K Y G (Z.set i (some d)) (U.set i (some v)):=by
 refine⟨by simp[r.1],λj e q=>?_⟩;by_cases hij:i=j
 .subst hij;have hl:i<Z.length:=by
   have:=(jao.mp q).1;simpa using this
  rw[jaI hl] at q;cases q;exact⟨v,by rw[jaI (by rw[<- r.1];exact hl)],h⟩
 .rw[jbL hij] at q;rw[jbL hij];exact r.2 j e q
def up.gr (g:Gr Y H Y' H'){k:KD}{v:V}{H2:Hp}:up K Y' H' k v H2->up K Y H k v H2:=λ⟨r,s,d,g2,x⟩=>⟨r,s,d,g.trans g2,x⟩
def upT.gr (g:Gr Y H Y' H'){k:Bool->aO->Prop}{v:Bool}{H2:Hp}:upT K Y' H' k v H2->upT K Y H k v H2:=λ⟨r,s,g2,x⟩=>⟨r,s,g.trans g2,x⟩
def F6.gr (g:Gr Y H Y' H'){k:KS}{v:St}{H2:Hp}:F6 K Y' H' k v H2->F6 K Y H k v H2:=λ⟨r,s,d,g2,x⟩=>⟨r,s,d,g.trans g2,x⟩
theorem zO.gr (g:Gr Y H Y' H'){E:mR}{D:Ends}(u:zO K Y H E D):zO K Y' H' E D:=
 ⟨λU H2 h=>u.nx U H2 (h.gr g),λU H2 h=>u.rt U H2 (h.gr g),λU H2 h=>u.bk U H2 (h.gr g),λU H2 h=>u.ct U H2 (h.gr g)⟩
end
def QE (X:Cx)(e:Expr)(t:bH):Prop:=PE X e (li X.K t)
def QT (X:Cx)(e:Expr)(t:mQ):Prop:=PT X e (NL X.K t)
def QW (X:Cx)(e:Expr)(t:mQ):Prop:=PW X e (NL X.K t)
def QA (X:Cx)(e:jc5)(t:jB):Prop:=PA X e (liA X.K t)
def QS (X:Cx)(e:Stmt)(t:iW):Prop:=PS X e (Yj X.K t)
def cH (X:Cx)(e:List Stmt)(t:iW):Prop:=b5 X e (Yj X.K t)
section
variable {X:Cx}{e:Expr}
def bF {t t':TE}(h:PE X e t)(m:∀U H Q,t' U H Q->t U H Q):PE X e t':=λvy s U H Q I q=>h vy s U H Q I (m _ _ _ q)
def ER {t t':TT}(h:PT X e t)(m:∀U H Q,t' U H Q->t U H Q):PT X e t':=λvy s U H Q I q=>h vy s U H Q I (m _ _ _ q)
def SO {t t':TT}(h:PW X e t)(m:∀U H Q,t' U H Q->t U H Q):PW X e t':=λw vy s U H Q I q=>h w vy s U H Q I (m _ _ _ q)
def SS {es:jc5}{t t':TA}(h:PA X es t)(m:∀U H Q,t' U H Q->t U H Q):PA X es t':=λp vy s U H Q I q=>h p vy s U H Q I (m _ _ _ q)
def gY {st:Stmt}{t t':TS}(h:PS X st t)(m:∀D U H,t' D U H->t D U H):PS X st t':=λvy s U H D I q=>h vy s U H D I (m _ _ _ q)
def CM {st:List Stmt}{t t':TS}(h:b5 X st t)(m:∀D U H,t' D U H->t D U H):b5 X st t':=λvy s U H D I q=>h vy s U H D I (m _ _ _ q)
end
theorem aX.put {K:Frag}{G:Hp}{x:T}{v:V}(h:Rp K G x v):∀{l:List T}{vs:List V}{j:Nat},aX K G l vs->aX K G (l.set j x) (vs.set j v)
 |[],vs,j,e=>by unfold aX at e;subst e;exact .nil
 |y::r,vs,0,e=>by
  unfold aX at e;obtain⟨w,wr,e1,e2,e3⟩:=e;subst e1;exact .cons h e3
 |y::r,vs,j+1,e=>by
  unfold aX at e;obtain⟨w,wr,e1,e2,e3⟩:=e;subst e1;exact .cons e2 (aX.put h e3)
section
variable {K:Frag}{Y:jc4}{S:aO}{H:Hp}{k:KD}{Q:VK}
def ie:Le (res Y H) H:=λa o e=>(res_some e).2
theorem fin {d:D}{v:V}(R:R3 K Y S H)(hk:∀v H',up K Y H k v H'->Q v H')(r:gm K Y (res Y H) d v)(q:k d S):Q v H:=hk _ _ ⟨Y,S,d,.refl,R,r,q⟩
def MK {l:List T}{vs:List V}(R:R3 K Y S H)(hk:∀v H',up K Y H k v H'->Q v H')(r:aX K (res Y H) l vs)(q:k (.tup l) S)(p:Addr)(hp:H p=none):Q (.ref p) (upd H p (.tup vs)):=by
 obtain⟨R',g,e⟩:=R.new (o:=.tup vs) hp;refine hk _ _ ⟨Y,S,.tup l,g,R',?_,q⟩;show Rp _ _ _ _;unfold Rp;exact⟨p,vs,M,e,r.le g.le⟩
def zq {l:List T}{vs:List V}(R:R3 K Y S H)(hk:∀v H',up K Y H k v H'->Q v H')(r:aX K (res Y H) l vs)(q:k (.lst l) S)(p:Addr)(hp:H p=none):Q (.ref p) (upd H p (.lst vs)):=by
 obtain⟨R',g,e⟩:=R.new (o:=.lst vs) hp;refine hk _ _ ⟨Y,S,.lst l,g,R',?_,q⟩;show Rp _ _ _ _;unfold Rp;exact⟨p,vs,M,e,r.le g.le⟩
def Xm {o:O}{h:HO}(R:R3 K Y S H)(hk:∀v H',up K Y H k v H'->Q v H')(p:Addr)(hp:H p=none)(r:DK K (Y++[p]) (res Y H) (some h) o)(q:k (.ob S.length) (S++[o])):Q (.ref p) (upd H p h):=by
 obtain⟨R',g⟩:=R.push hp r;exact hk _ _ ⟨_,_,.ob S.length,g,R',⟨p,by rw[<- R.len];simp,M⟩,q⟩
theorem QU {l:List T}{vs:List V}(R:R3 K Y S H)(hk:∀v H',up K Y H k v H'->Q v H')(r:aX K (res Y H) l vs)(q:k (.ob S.length) (S++[.lst l]))(p:Addr)(hp:H p=none):Q (.ref p) (upd H p (.lst vs)):=
 Xm (o:=.lst l) R hk p hp ⟨vs,M,r⟩ q
def ML {n:Nat}{a:Addr}{o:O}{h:HO}{d:D}{v:V}(R:R3 K Y S H)(hk:∀v H',up K Y H k v H'->Q v H')(ha:Y[n]?=some a)(r:DK K Y (res Y H) (some h) o)(rv:gm K Y (res Y H) d v)(q:k d (S.set n o)):Q v (upd H a h):=by
 obtain⟨R',g⟩:=R.put ha r;exact hk _ _ ⟨_,_,d,g,R',rv.gr g,q⟩
end
noncomputable def lq (S:aO):D->Option (List T)
 |.t (.lst l)=>some l
 |.ob n=>match S[n]? with
  |some (.lst l)=>some l
  |_=>none
 |_=>none
def sq (S:aO):D->Option (List T)
 |.t (.tup l)=>some l
 |.t (.Az l)=>some l
 |d=>lq S d
section
variable {K:Frag}{Y:jc4}{S:aO}{H:Hp}
theorem b4 (R:R3 K Y S H):∀{d:D}{v:V}{l:List T},gm K Y (res Y H) d v->lq S d=some l->∃a vs,v=.ref a/\H a=some (.lst vs)/\aX K (res Y H) l vs
 |.t (.lst l'),v,l,r,e=>by
  have e:some l'=some l:=e;cases e;have r:Rp _ _ _ _:=r;unfold Rp at r;obtain⟨a,vs,e1,e2,e3⟩:=r;exact⟨a,vs,e1,ie _ _ e2,e3⟩
 |.t (.Az _),_,_,_,e=>nomatch e
 |.t (.v _),_,_,_,e=>nomatch e
 |.t (.tup _),_,_,_,e=>nomatch e
 |.t (.ins _ _ _),_,_,_,e=>nomatch e
 |.ob n,v,l,⟨a,ha,r⟩,e=>by
  have e:(match S[n]? with | some (.lst l)=>some l | _=>none)=some l:=e;cases q:S[n]? with
  |none=>rw[q] at e;cases e
  |some o=>
   rw[q] at e;cases o with
   |lst m=>
    have e:some m=some l:=e;cases e;obtain⟨vs,h1,h2⟩:=R.ok n a _ ha q;exact⟨a,vs,r,h1,h2⟩
   |sy m=>cases e
   |vv _ _ m=>cases e
   |gh _ _=>cases e
   |ins C ns m=>cases e
def ye (R:R3 K Y S H){d:D}{v:V}{l:List T}(r:gm K Y (res Y H) d v)(e:sq S d=some l):∃a vs,v=.ref a/\(iG K H a vs\/kL K H a vs)/\aX K (res Y H) l vs:=by
 unfold sq at e;split at e
 .cases e;have r:Rp _ _ _ _:=r;unfold Rp at r;obtain⟨a,vs,e1,e2,e3⟩:=r;exact⟨a,vs,e1,.inr (.of (ie _ _ e2)),e3⟩
 .cases e;have r:Rp _ _ _ _:=r;unfold Rp at r;obtain⟨a,vs,e1,e2,e3⟩:=r;exact⟨a,vs,e1,.inl (CD ie e2),e3⟩
 .obtain⟨a,vs,h1,h2,h3⟩:=b4 R r e;exact⟨a,vs,h1,.inl (.of h2),h3⟩
def dj {v:V}{l:List T}(r:gm K Y (res Y H) (.tup l) v):∃a vs,v=.ref a/\H a=some (.tup vs)/\aX K (res Y H) l vs:=by
 have r:Rp _ _ _ _:=r;unfold Rp at r;obtain⟨a,vs,e1,e2,e3⟩:=r;exact⟨a,vs,e1,ie _ _ e2,e3⟩
def ay {G:Hp}{x w:V}(r:gm K Y G (.t (.v x)) w):w=x:=by
 have r:Rp _ _ _ _:=r;unfold Rp at r;exact r
def aM {G:Hp}{x:V}:gm K Y G (.t (.v x)) x:=by show Rp _ _ _ _;unfold Rp;rfl
end
section
variable {X:Cx}{a b e:Expr}{ta tb:bH}{pos:Pos}
def GV {α:Type}:Option α->(α->Prop)->Prop
 |some a,f=>f a
 |none,_=>False
def oe {α:Type}{o:Option α}{a:α}{f:α->Prop}(h:o=some a)(hk:f a):GV o f:=by rw[h];exact hk
def mH {α:Type}{o:Option α}{f:α->Prop}(h:GV o f):∃a,o=some a/\f a:=by
 cases o with
 |none=>exact h.elim
 |some a=>exact⟨a,M,h⟩
def cnd:Bool->Prop->Prop
 |true,p=>p
 |false,_=>False
def vC {b:Bool}{p:Prop}(h:cnd b p):b=true/\p:=by
 cases b with
 |true=>exact⟨M,h⟩
 |false=>exact h.elim
def X5 (Z:Sl)(i:Nat)(S:aO)(k:KD):Prop:=GV Z[i]? λo=>GV o λd=>k d S
def X5.of {Z:Sl}{i:Nat}{S:aO}{k:KD}(h:X5 Z i S k):∃d,Z[i]?=some (some d)/\k d S:=by
 obtain⟨o,e,h⟩:=mH h;obtain⟨d,rfl,h⟩:=mH h;exact⟨d,e,h⟩
def cy (i:Nat):bH:=λZ S k=>X5 Z i S k
def vP (d:D):bH:=λ_ S k=>k d S
theorem iM (i:Nat){x:Str}{pos:Pos}(hN:autoParam (X.N[i]?=some x) zi)(hv:X4 X.env.scope x:=by first | exact Or.inl rfl | exact Or.inr (Or.inl M) | exact Or.inr (Or.inr M))(hd:autoParam ((x==("__debug__":Str))=false) zn)
  (hcd:autoParam ((x==("__classdict__":Str))=false) zn):QE X (.Name x pos) (cy i):=
 bF (KW hN hv hd hcd) (by
  rintro U H Q ⟨Y,S,Z,k,R,D,q,hk⟩;obtain⟨d,e,q⟩:=q.of;obtain⟨v,e1,e2⟩:=D.2 i d e;exact⟨v,e1,fin R hk e2 q⟩)
def jh {v:V}(h:PE X e (tC v)):QE X e (vP (.t (.v v))):=bF h (by rintro U H Q ⟨Y,S,Z,k,R,D,q,hk⟩;exact fin R hk aM q)
def aT {i j pos}:QE X (.Constant (.int i) j pos) (vP (.int i)):=jh KZ
def VB {b j pos}:QE X (.Constant (.bool b) j pos) (vP (.bl b)):=jh a0l
def SK {j pos}:QE X (.Constant .none j pos) (vP .ck):=jh Wa
def aN {x j pos}:QE X (.Constant (.str x) j pos) (vP (.str x)):=jh CO
abbrev pM:=D->D->aO->KD->Prop
def S6 (K:Frag)(r:pM):R2:=λx y H Q=>∃Y S a b k,R3 K Y S H/\gm K Y (res Y H) a x/\gm K Y (res Y H) b y/\r a b S k/\∀v H',up K Y H k v H'->Q v H'
def sG (X:Cx)(f:Value->Value->Sem Value)(r:pM):Prop:=gP X f (S6 X.K r)
def ez {f:Value->Value->Sem Value}{r r':R2}(h:gP X f r)(m:∀x y H Q,r' x y H Q->r x y H Q):gP X f r':=λvy s U H x y v u Q I rx ry q=>h vy s U H x y v u Q I rx ry (m _ _ _ _ q)
def rZ (r:pM)(ta tb:bH):bH:=λZ S k=>ta Z S λx S1=>tb Z S1 λy S2=>r x y S2 k
def k7 {r:pM}:∀U H Q,li X.K (rZ r ta tb) U H Q->UI (S6 X.K r) (li X.K ta) (li X.K tb) U H Q:=(by rintro U H Q ⟨Y,S,Z,k,R,D,q,hk⟩;exact  ⟨Y,S,Z,_,R,D,q,(by rintro v H1 ⟨Y1,S1,d1,g1,R1,r1,q1⟩;exact⟨Y1,S1,Z,_,R1,D.gr g1,q1,(by rintro w H2 ⟨Y2,S2,d2,g2,R2,r2,q2⟩;exact   ⟨Y2,S2,d1,d2,k,R2,r1.gr g2,r2,q2,λz H3 u=>hk z H3 (u.gr (g1.trans g2))⟩)⟩)⟩)
def aP {op:Operator}{r:pM}(ho:sG X (binaryOp op) r)(ha:QE X a ta)(hb:QE X b tb):QE X (.BinOp a op b pos) (rZ r ta tb):=bF (a0i ho ha hb) k7
def cL {op:CmpOp}{r:pM}(ho:sG X (compareOp op) r)(ha:QE X a ta)(hb:QE X b tb)(hm:behindInMarks op b=false):QE X (.Compare a [op] [b] pos) (rZ r ta tb):=bF (Py ho ha hb hm) k7
inductive BlR (d:D) (S:aO) (k:Bool->aO->Prop):Prop
 |mk (b:Bool) (h:d=.bl b) (hk:k b S)
def qb (t:bH):mQ:=λZ S k=>t Z S λd S1=>BlR d S1 k
theorem p9 {t:bH}{t':TE}(m:∀U H Q,li X.K t U H Q->t' U H Q):∀U H Q,NL X.K (qb t) U H Q->Je t' U H Q:=(by rintro U H Q ⟨Y,S,Z,k,R,D,q,hk⟩;exact  m _ _ _ ⟨Y,S,Z,_,R,D,q,(by
  rintro v H1 ⟨Y1,S1,d1,g1,R1,r1,b,e,q1⟩;subst e;exact⟨b,ay r1,hk _ _ ⟨Y1,S1,g1,R1,q1⟩⟩)⟩)
def aS {op:CmpOp}{r:pM}(ho:sG X (compareOp op) r)(ha:QE X a ta)(hb:QE X b tb)(hm:behindInMarks op b=false):QT X (.Compare a [op] [b] pos) (qb (rZ r ta tb)):=ER (O7 ho ha hb hm) (p9 k7)
end
inductive BI (a b:D) (S:aO) (k:KD):Prop
 |mk (l m:List T) (h:lq S a=some l) (h1:lq S b=some m) (h2:l.length+m.length<=sizeLine) (hk:k (.lst (l++m)) S)
def a1S:pM:=λa b S k=>a.iD.elim (a.sD.elim (a.tD.elim (BI a b S k) λx=>b.tD.elim (BI a b S k) λy=>x.length+y.length<=sizeLine/\k (.tup (x++y)) S) λx=>b.sD.elim (BI a b S k) λy=>x.length+y.length<=sizeLine/\k (.str (x++y)) S) λi=>b.iD.elim (BI a b S k) λj=>k (.int (i+j)) S
def UQ:pM
 |.t (.v (.int i)),.t (.v (.int j)),S,k=>k (.int (i - j)) S
 |_,_,_,_=>False
def a0K:pM:=λa b S k=>b.iD.elim False λj=>a.iD.elim (∃l,lq S a=some l/\-(2 ^ 63)<=j/\j<2 ^ 63/\l.length*j.toNat<=sizeLine/\k (.lst (List.replicate j.toNat l).flatten) S) λi=>Ry i j/\k (.int (i*j)) S
def MO:pM
 |.t (.v (.int i)),.t (.v (.int j)),S,k=>a2a i j/\k (.int (i / j)) S
 |_,_,_,_=>False
def WD:pM
 |.t (.v (.int i)),.t (.v (.int j)),S,k=>0<j/\k (.int (i % j)) S
 |_,_,_,_=>False
def Dz (f:Int->Int->Bool):pM
 |.t (.v (.int i)),.t (.v (.int j)),S,k=>k (.bl (f i j)) S
 |_,_,_,_=>False
mutual
def Fl:Nat->T->Prop
 |_,.v x=>dI x=true
 |0,_=>False
 |n+1,.tup l=>Ye n l
 |n+1,.lst l=>Ye n l
 |_+1,_=>False
def Ye:Nat->List T->Prop
 |_,[]=>True
 |n,x::r=>Fl n x/\Ye n r
end
def ScR (x y:V)(p:Prop):Prop:=cnd (Vc x y) p
def eq3 (n:Nat)(neg:Bool):pM
 |.t (.v x),.t (.v y),S,k=>ScR x y (k (.bl (xor neg (decide (x=y)))) S)
 |.t (.tup l),.t (.tup m),S,k=>(l=m/\Ye n l/\k (.bl (!neg)) S)\/(m=[]/\k (.bl (xor neg (decide (l=[])))) S)
 |a,b,S,k=>∃l m,lq S a=some l/\lq S b=some m/\((l=m/\Ye n l/\k (.bl (!neg)) S)\/(m=[]/\k (.bl (xor neg (decide (l=[])))) S))
def flT:T->Option V
 |.v x=>if dI x=true then some x else none
 |_=>none
def sr:List T->Option (List V)
 |[]=>some []
 |x::r=>match flT x,sr r with
  |some v,some vs=>some (v::vs)
  |_,_=>none
inductive in3 (neg:Bool) (a b:D) (S:aO) (k:KD):Prop
 |mk (x:V) (l:List T) (vs:List V) (h:a=.t (.v x)) (h1:dI x=true) (h2:sq S b=some l) (h3:sr l=some vs) (hk:k (.bl (xor neg (Dd x vs))) S)
section
variable {X:Cx}
theorem aX.rep {K:Frag}{G:Hp}{l:List T}{vs:List V}(r:aX K G l vs):∀n:Nat,aX K G (List.replicate n l).flatten (List.replicate n vs).flatten
 |0=>.nil
 |n+1=>by
  rw[jbC,jbC,jbp,jbp];exact r.app (aX.rep r n)
def aX.cP {K:Frag}{G:Hp}{l:List T}{vs:List V}(r:aX K G l vs):vs=[]↔l=[]:=by
 have:=r.len;constructor
 .intro e;subst e;exact jbJ.mp this
 .intro e;subst e;exact jbJ.mp this.symm
theorem vo {K:Frag}{G:Hp}:∀{l:List T}{us vs:List V},sr l=some vs->aX K G l us->us=vs/\vs.all dI=true
 |[],us,vs,e,r=>by
  unfold aX at r;have e:some []=some vs:=e;cases e;exact⟨r,M⟩
 |x::l,us,vs,e,r=>by
  unfold aX at r;obtain⟨v,vr,e1,e2,e3⟩:=r;cases x with
  |v y=>
   by_cases hf:dI y=true
   .have q1:flT (.v y)=some y:=jab hf;cases q2:sr l with
    |none=>unfold sr at e;rw[q1,q2] at e;cases e
    |some vs'=>
     unfold sr at e;rw[q1,q2] at e;have e:some (y::vs')=some vs:=e;cases e;obtain⟨h1,h2⟩:=vo q2 e3;subst h1;unfold Rp at e2;subst e2;exact⟨e1,by rw[jbs,hf,h2];rfl⟩
   .have q1:flT (.v y)=none:=jaa hf;unfold sr at e;rw[q1] at e;cases e
  |_=>unfold sr at e;cases e
end
section
variable {K:Frag}{H:Hp}{G:Hp}
mutual
theorem WM (le:Le G H):∀(n:Nat){x:T}{v w:V},Fl n x->Rp K G x v->Rp K G x w->DO K H n v w
 |n,.v y,v,w,f,r1,r2=>by
  unfold Rp at r1 r2;unfold Fl at f;subst r1;subst r2;cases n with
  |zero=>exact⟨f,M⟩
  |succ n=>exact .inl ⟨f,M⟩
 |n+1,.tup l,v,w,f,r1,r2=>by
  unfold Rp at r1 r2;unfold Fl at f;obtain⟨a,vs,e1,e2,e3⟩:=r1;obtain⟨b,ws,e4,e5,e6⟩:=r2;exact .inr ⟨a,b,vs,ws,e1,e4,.inr ⟨.of (le _ _ e2),.of (le _ _ e5)⟩,nv le n f e3 e6⟩
 |n+1,.lst l,v,w,f,r1,r2=>by
  unfold Rp at r1 r2;unfold Fl at f;obtain⟨a,vs,e1,e2,e3⟩:=r1;obtain⟨b,ws,e4,e5,e6⟩:=r2;exact .inr ⟨a,b,vs,ws,e1,e4,.inl ⟨.of (le _ _ e2),.of (le _ _ e5)⟩,nv le n f e3 e6⟩
 |n+1,.Az l,v,w,f,r1,r2=>by unfold Fl at f;exact f.elim
 |n+1,.ins C ns l,v,w,f,r1,r2=>by unfold Fl at f;exact f.elim
 |0,.tup l,v,w,f,r1,r2=>by unfold Fl at f;exact f.elim
 |0,.lst l,v,w,f,r1,r2=>by unfold Fl at f;exact f.elim
 |0,.Az l,v,w,f,r1,r2=>by unfold Fl at f;exact f.elim
 |0,.ins C ns l,v,w,f,r1,r2=>by unfold Fl at f;exact f.elim
theorem nv (le:Le G H):∀(n:Nat){l:List T}{vs ws:List V},Ye n l->aX K G l vs->aX K G l ws->Paired (DO K H n) vs ws
 |n,[],vs,ws,f,r1,r2=>by
  unfold aX at r1 r2;subst r1;subst r2;exact .nil
 |n,x::l,vs,ws,f,r1,r2=>by
  unfold aX at r1 r2;unfold Ye at f;obtain⟨v,vr,e1,e2,e3⟩:=r1;obtain⟨w,wr,e4,e5,e6⟩:=r2;subst e1;subst e4;exact .cons (WM le n f.1 e2 e5) (nv le n f.2 e3 e6)
end
end
section
variable {X:Cx}
def YK {A G:Prop}(h:A->G)(m:(A->G)->G):G:=m h
def aF:sG X (binaryOp .Add) a1S:=by
 refine ez ((Wr.or (CS.or (PK.or Wq)))) ?_;rintro x y H Q ⟨Y,S,a,b,k,R,ra,rb,q,hk⟩;refine YK (A:=BI a b S k) ?_ λdl=>?_
 .rintro⟨l,m,h1,h2,h3,h4⟩;obtain⟨p1,vs,e1,e2,e3⟩:=b4 R ra h1;obtain⟨p2,ws,f1,f2,f3⟩:=b4 R rb h2;exact .inr (.inr (.inr ⟨p1,p2,vs,ws,e1,f1,e2,f2,by rw[<- e3.len,<- f3.len];exact h3,λp hp=>zq R hk (e3.app f3) h4 p hp⟩))
 rcases HN q with q | ⟨i,ha,q⟩
 .rcases HN q with q | ⟨x,ha,q⟩
  .rcases HN q with q | ⟨x,ha,q⟩
   .exact dl q
   rcases HN q with q | ⟨y,hb,q⟩
   .exact dl q
   cases D.RP ha;cases D.RP hb;obtain⟨p1,vs,e1,e2,e3⟩:=dj ra;obtain⟨p2,ws,f1,f2,f3⟩:=dj rb;refine .inr (.inr (.inl ⟨p1,p2,vs,ws,e1,f1,.of e2,.of f2,by rw[<- e3.len,<- f3.len];exact q.1,λz=>?_,λ_ z=>?_,λ_ _ p hp=>MK R hk (e3.app f3) q.2 p hp⟩))
   .have z:=e3.cP.mp z;subst z;rw[<- f1];exact fin R hk rb q.2
   .have z:=f3.cP.mp z;subst z;rw[<- e1];refine fin R hk ra ?_;have:=q.2;rwa[jaK] at this
  rcases HN q with q | ⟨y,hb,q⟩
  .exact dl q
  cases D.AI ha;cases D.AI hb;exact .inr (.inl ⟨_,_,ay ra,ay rb,q.1,fin R hk aM q.2⟩)
 rcases HN q with q | ⟨j,hb,q⟩
 .exact dl q
 cases D.xo ha;cases D.xo hb;exact .inl ⟨_,_,ay ra,ay rb,fin R hk aM q⟩
def Lz:sG X (binaryOp .Sub) UQ:=by
 refine ez Wh ?_;rintro x y H Q ⟨Y,S,a,b,k,R,ra,rb,q,hk⟩;unfold UQ at q;split at q
 .exact⟨_,_,ay ra,ay rb,fin R hk aM q⟩
 .exact q.elim
def E1:sG X (binaryOp .Mult) a0K:=by
 refine ez (Wk.or Wi) ?_;rintro x y H Q ⟨Y,S,a,b,k,R,ra,rb,q,hk⟩;rcases HN q with q | ⟨j,hb,q2⟩
 .exact q.elim
 cases D.xo hb;rcases HN q2 with⟨l,h1,h2,h3,h4,h5⟩ | ⟨i,ha,q⟩
 .obtain⟨p1,vs,e1,e2,e3⟩:=b4 R ra h1;exact .inr ⟨p1,_,vs,e1,ay rb,e2,h2,h3,by rw[<- e3.len];exact h4,λp hp=>zq R hk (e3.rep _) h5 p hp⟩
 cases D.xo ha;exact .inl ⟨_,_,ay ra,ay rb,q.1,fin R hk aM q.2⟩
def LD:sG X (binaryOp .FloorDiv) MO:=by
 refine ez PF ?_;rintro x y H Q ⟨Y,S,a,b,k,R,ra,rb,q,hk⟩;unfold MO at q;split at q
 .exact⟨_,_,ay ra,ay rb,q.1,fin R hk aM q.2⟩
 .exact q.elim
def mJ:sG X (binaryOp .Mod) WD:=by
 refine ez Wl ?_;rintro x y H Q ⟨Y,S,a,b,k,R,ra,rb,q,hk⟩;unfold WD at q;split at q
 .exact⟨_,_,ay ra,ay rb,q.1,fin R hk aM q.2⟩
 .exact q.elim
def LF {op:CmpOp}{f:Int->Int->Bool}(h:gP X (compareOp op) (SE λi j=>.bl (f i j))):sG X (compareOp op) (Dz f):=by
 refine ez h ?_;rintro x y H Q ⟨Y,S,a,b,k,R,ra,rb,q,hk⟩;unfold Dz at q;split at q
 .exact⟨_,_,ay ra,ay rb,fin R hk aM q⟩
 .exact q.elim
def AX:sG X (compareOp .Lt) (Dz λi j=>decide (i<j)):=LF a0q
def LB:sG X (compareOp .LtE) (Dz λi j=>decide (i<=j)):=LF a0r
def y9:sG X (compareOp .Gt) (Dz λi j=>decide (j<i)):=LF a0s
def OR (K:Frag):R2:=λx y H Q=>∃a b xs,x=.ref a/\y=.ref b/\kL K H a xs/\kL K H b []/\Q (.bl (!decide (xs=[]))) H
def GI (hu:X.A.units<cLine):gP X (compareOp .NotEq) (OR X.K):=by
 intro vy s U H x y v u Q I rx ry h;obtain⟨a,b,xs,rfl,rfl,ha,hb,q⟩:=h;cases rx;cases ry;obtain⟨us,r1,p1,_⟩:=I.tuple ha;obtain⟨vs,r2,p2,_⟩:=I.tuple hb;cases r2;refine SeqAt.RcNeAt.tuples (A:=X.A) (e:=λ_=>true) (show s.heap.IsTuple a us.toArray from p1) (show s.heap.IsTuple b ([]:jc3).toArray from p2) hu (λj h1 h2=>absurd h2 (by simp)) _ _ _ _ ?_;have e:(!((List.range (min us.toArray.size ([]:jc3).toArray.size)).all (λ_=>true)&&us.toArray.size==([]:jc3).toArray.size))=!decide (xs=[]):=by
  have l:=r1.length;rw[kK,ja9];by_cases hx:xs=[]
  .subst hx;cases r1;simp
  .rw[jaf hx];have:us≠[]:=λz=>hx (by rw[z] at l;exact jbJ.mp l);cases us with
   |nil=>exact absurd rfl this
   |cons _ _=>simp
 rw[e];exact⟨.bl _,H,I,M,q⟩
def eB (n:Nat)(hu:X.A.units+1+n<cLine):sG X (compareOp .Eq) (eq3 n false):=by
 have hu0:X.A.units<cLine:=by omega
 refine ez (a0t.or ((Wn n hu).or ((Ld hu0).or (GK hu0)))) ?_;rintro x y H Q ⟨Y,S,a,b,k,R,ra,rb,q,hk⟩;unfold eq3 at q;split at q
 .rw[ay ra,ay rb];refine .inl ⟨(vC q).1,fin R hk aM ?_⟩;have:=(vC q).2;rwa[jaS] at this
 .obtain⟨p1,vs,e1,e2,e3⟩:=dj ra;obtain⟨p2,ws,f1,f2,f3⟩:=dj rb;rcases q with⟨z,h1,h2⟩ | ⟨z,h2⟩
  .subst z;exact .inr (.inl ⟨p1,p2,vs,ws,e1,f1,.inr ⟨.of e2,.of f2⟩,nv ie n h1 e3 f3,fin R hk aM h2⟩)
  .subst z;have w:=f3.cP.mpr rfl;subst w;refine .inr (.inr (.inl ⟨p1,p2,vs,e1,f1,.of e2,.of f2,?_⟩));rw[jaS] at h2;rw[ja1.mpr e3.cP];exact fin R hk aM h2
 .obtain⟨l,m,h1,h2,q⟩:=q;obtain⟨p1,vs,e1,e2,e3⟩:=b4 R ra h1;obtain⟨p2,ws,f1,f2,f3⟩:=b4 R rb h2;rcases q with⟨z,g1,g2⟩ | ⟨z,g2⟩
  .subst z;exact .inr (.inl ⟨p1,p2,vs,ws,e1,f1,.inl ⟨.of e2,.of f2⟩,nv ie n g1 e3 f3,fin R hk aM g2⟩)
  .subst z;have w:=f3.cP.mpr rfl;subst w;refine .inr (.inr (.inr ⟨p1,p2,vs,e1,f1,.of e2,.of f2,?_⟩));rw[jaS] at g2;rw[ja1.mpr e3.cP];exact fin R hk aM g2
def yZ (n:Nat)(hu:X.A.units+1+n<cLine):sG X (compareOp .NotEq) (eq3 n true):=by
 have hu0:X.A.units<cLine:=by omega
 refine ez (a0p.or ((Wj n hu).or ((GI hu0).or (Lc hu0)))) ?_;rintro x y H Q ⟨Y,S,a,b,k,R,ra,rb,q,hk⟩;unfold eq3 at q;split at q
 .rw[ay ra,ay rb];refine .inl ⟨(vC q).1,fin R hk aM ?_⟩;have:=(vC q).2;rwa[jb7] at this
 .obtain⟨p1,vs,e1,e2,e3⟩:=dj ra;obtain⟨p2,ws,f1,f2,f3⟩:=dj rb;rcases q with⟨z,h1,h2⟩ | ⟨z,h2⟩
  .subst z;exact .inr (.inl ⟨p1,p2,vs,ws,e1,f1,.inr ⟨.of e2,.of f2⟩,nv ie n h1 e3 f3,fin R hk aM h2⟩)
  .subst z;have w:=f3.cP.mpr rfl;subst w;refine .inr (.inr (.inl ⟨p1,p2,vs,e1,f1,.of e2,.of f2,?_⟩));rw[jb7] at h2;rw[ja1.mpr e3.cP];exact fin R hk aM h2
 .obtain⟨l,m,h1,h2,q⟩:=q;obtain⟨p1,vs,e1,e2,e3⟩:=b4 R ra h1;obtain⟨p2,ws,f1,f2,f3⟩:=b4 R rb h2;rcases q with⟨z,g1,g2⟩ | ⟨z,g2⟩
  .subst z;exact .inr (.inl ⟨p1,p2,vs,ws,e1,f1,.inl ⟨.of e2,.of f2⟩,nv ie n g1 e3 f3,fin R hk aM g2⟩)
  .subst z;have w:=f3.cP.mpr rfl;subst w;refine .inr (.inr (.inr ⟨p1,p2,vs,e1,f1,.of e2,.of f2,?_⟩));rw[jb7] at g2;rw[ja1.mpr e3.cP];exact fin R hk aM g2
def GW:sG X (compareOp .In) (in3 false):=by
 refine ez w9 ?_;rintro x y H Q ⟨Y,S,a,b,k,R,ra,rb,⟨z,l,vs,h1,h2,h3,h4,q⟩,hk⟩;subst h1;obtain⟨p,us,e1,e2,e3⟩:=ye R rb h3;obtain⟨f1,f2⟩:=vo h4 e3;subst f1;rw[ay ra];rw[jaS] at q;exact⟨p,us,e1,e2,h2,f2,fin R hk aM q⟩
def EZ:sG X (compareOp .NotIn) (in3 true):=by
 refine ez oX ?_;rintro x y H Q ⟨Y,S,a,b,k,R,ra,rb,⟨z,l,vs,h1,h2,h3,h4,q⟩,hk⟩;subst h1;obtain⟨p,us,e1,e2,e3⟩:=ye R rb h3;obtain⟨f1,f2⟩:=vo h4 e3;subst f1;rw[ay ra];rw[jb7] at q;exact⟨p,us,e1,e2,h2,f2,fin R hk aM q⟩
end
end L3
namespace L3
open PySem L2 Hw
section
variable {X:Cx}{a b c e:Expr}{ta tb:bH}{tA tB:mQ}{rest:jc5}{pos:Pos}
def Er (t u:mQ):mQ:=λZ S k=>t Z S λc S1=>if c=true then u Z S1 k else k false S1
def YY (t u:mQ):mQ:=λZ S k=>t Z S λc S1=>if c=true then k true S1 else u Z S1 k
def Y0 (t:mQ):mQ:=λZ S k=>t Z S λc S1=>k (!c) S1
theorem yN (ha:QT X a tA)(hb:QW X (.BoolOp .And (b::rest) pos) tB):QW X (.BoolOp .And (a::b::rest) pos) (Er tA tB):=
 SO (VI ha hb) (by rintro U H Q ⟨Y,S,Z,k,R,D,q,hk⟩;exact⟨Y,S,Z,_,R,D,q,(by
  rintro c H1 ⟨Y1,S1,g1,R1,q1⟩;cases c with
  |true=>exact⟨Y1,S1,Z,k,R1,D.gr g1,q1,λz H2 u=>hk z H2 (u.gr g1)⟩
  |false=>exact hk _ _ ⟨Y1,S1,g1,R1,q1⟩)⟩)
theorem w5 (ha:QT X a tA)(hb:QW X (.BoolOp .Or (b::rest) pos) tB):QW X (.BoolOp .Or (a::b::rest) pos) (YY tA tB):=
 SO (Z9 ha hb) (by rintro U H Q ⟨Y,S,Z,k,R,D,q,hk⟩;exact⟨Y,S,Z,_,R,D,q,(by
  rintro c H1 ⟨Y1,S1,g1,R1,q1⟩;cases c with
  |false=>exact⟨Y1,S1,Z,k,R1,D.gr g1,q1,λz H2 u=>hk z H2 (u.gr g1)⟩
  |true=>exact hk _ _ ⟨Y1,S1,g1,R1,q1⟩)⟩)
def tS (ha:QT X a tA):QW X (.BoolOp .And [a] pos) tA:=O4 ha
def yM (ha:QT X a tA):QW X (.BoolOp .Or [a] pos) tA:=VH ha
def qw (h:QW X e tA):QT X e tA:=h.pt
theorem uN (ha:QT X a tA):QT X (.UnaryOp .Not a pos) (Y0 tA):=
 ER (VM ha) (by rintro U H Q ⟨Y,S,Z,k,R,D,q,hk⟩;exact⟨Y,S,Z,_,R,D,q,(by rintro c H1 ⟨Y1,S1,g1,R1,q1⟩;exact hk _ _ ⟨Y1,S1,g1,R1,q1⟩)⟩)
def UP (ta tb:bH):bH:=λZ S k=>ta Z S λx S1=>∃c,x=.bl c/\if c=true then tb Z S1 k else k (.bl false) S1
def YX (ta tb:bH):bH:=λZ S k=>ta Z S λx S1=>∃c,x=.bl c/\if c=true then k (.bl true) S1 else tb Z S1 k
def UJ (ta:bH):bH:=λZ S k=>ta Z S λx S1=>∃c,x=.bl c/\k (.bl (!c)) S1
def kj {op}{t:bH}(h:QE X a t):QE X (.BoolOp op [a] pos) t:=V8 h
theorem gX (ha:QE X a ta)(hb:QE X (.BoolOp .And (b::rest) pos) tb):QE X (.BoolOp .And (a::b::rest) pos) (UP ta tb):=
 bF (We ha hb) λU H Q ⟨Y,S,Z,k,R,D,q,hk⟩=>⟨Y,S,Z,_,R,D,q,(by
  rintro v H1 ⟨Y1,S1,d,g1,R1,r1,c,e,q1⟩;subst e;refine⟨c,ay r1,?_⟩;cases c with
  |true=>exact⟨Y1,S1,Z,k,R1,D.gr g1,q1,λz H2 u=>hk z H2 (u.gr g1)⟩
  |false=>exact hk _ _ ⟨Y1,S1,.bl false,g1,R1,aM,q1⟩)⟩
theorem Z1 (ha:QE X a ta)(hb:QE X (.BoolOp .Or (b::rest) pos) tb):QE X (.BoolOp .Or (a::b::rest) pos) (YX ta tb):=
 bF (a0h ha hb) λU H Q ⟨Y,S,Z,k,R,D,q,hk⟩=>⟨Y,S,Z,_,R,D,q,(by
  rintro v H1 ⟨Y1,S1,d,g1,R1,r1,c,e,q1⟩;subst e;refine⟨c,ay r1,?_⟩;cases c with
  |false=>exact⟨Y1,S1,Z,k,R1,D.gr g1,q1,λz H2 u=>hk z H2 (u.gr g1)⟩
  |true=>exact hk _ _ ⟨Y1,S1,.bl true,g1,R1,aM,q1⟩)⟩
theorem Z2 (ha:QE X a ta):QE X (.UnaryOp .Not a pos) (UJ ta):=
 bF (V9 ha) (by rintro U H Q ⟨Y,S,Z,k,R,D,q,hk⟩;exact⟨Y,S,Z,_,R,D,q,(by
  rintro v H1 ⟨Y1,S1,d,g1,R1,r1,c,e,q1⟩;subst e;exact⟨c,ay r1,hk _ _ ⟨Y1,S1,.bl (!c),g1,R1,aM,q1⟩⟩)⟩)
def Y9 (t:mQ)(ta tb:bH):bH:=λZ S k=>t Z S λc S1=>if c=true then ta Z S1 k else tb Z S1 k
theorem Ko (hc:QT X c tA)(ha:QE X a ta)(hb:QE X b tb):QE X (.IfExp c a b pos) (Y9 tA ta tb):=
 bF (K0 hc ha hb) (by rintro U H Q ⟨Y,S,Z,k,R,D,q,hk⟩;exact⟨Y,S,Z,_,R,D,q,(by
  rintro c H1 ⟨Y1,S1,g1,R1,q1⟩;cases c with
  |true=>exact⟨Y1,S1,Z,k,R1,D.gr g1,q1,λz H2 u=>hk z H2 (u.gr g1)⟩
  |false=>exact⟨Y1,S1,Z,k,R1,D.gr g1,q1,λz H2 u=>hk z H2 (u.gr g1)⟩)⟩)
def kg {t:bH}(h:QE X e t)(he:autoParam (∀whole,isTrue e X.env whole=(do let v <- whole;standAt e.pos;holding [v] (truthy v))) jp):QT X e (qb t):=ER (VJ h he) (p9 λ_ _ _ z=>z)
def cK:jB:=λ_ S k=>k [] S
def aZ (ta:bH)(tr:jB):jB:=λZ S k=>ta Z S λx S1=>tr Z S1 λxs S2=>k (x::xs) S2
variable {es:jc5}{te:bH}{t:jB}
def az:QA X [] cK:=SS uR (by rintro U H Q ⟨Y,S,Z,k,R,D,q,hk⟩;exact hk _ _ ⟨Y,S,[],.refl,R,.nil,q⟩)
theorem qa (ha:QE X e te)(hr:QA X es t)(h:autoParam (notStar e=true) zi):QA X (e::es) (aZ te t):=
 SS (K8 ha hr h) (by rintro U H Q ⟨Y,S,Z,k,R,D,q,hk⟩;exact⟨Y,S,Z,_,R,D,q,(by rintro v H1 ⟨Y1,S1,d,g1,R1,r1,q1⟩;exact   ⟨Y1,S1,Z,_,R1,D.gr g1,q1,(by rintro w H2 ⟨Y2,S2,ds,g2,R2,r2,q2⟩;exact hk _ _ ⟨Y2,S2,d::ds,g1.trans g2,R2,.cons (r1.gr g2) r2,q2⟩)⟩)⟩)
def ts?:List D->Option (List T)
 |[]=>some []
 |.t x::r=>match ts? r with
  |some l=>some (x::l)
  |none=>none
 |.ob _::_=>none
theorem xS {K:Frag}{Y:jc4}{G:Hp}:∀{ds:List D}{l:List T}{vs:List V},ts? ds=some l->cZ K Y G ds vs->aX K G l vs
 |[],l,_,e,.nil=>by
  have e:some []=some l:=e;cases e;exact .nil
 |.t x::r,l,_,e,.cons h t=>by
  cases q:ts? r with
  |none=>unfold ts? at e;rw[q] at e;cases e
  |some m=>
   unfold ts? at e;rw[q] at e;have e:some (x::m)=some l:=e;cases e;exact .cons h (xS q t)
 |.ob n::r,l,_,e,.cons h t=>by cases(show none=some l from e)
def HA (ds:List D)(f:List T->Prop):Prop:=GV (ts? ds) λl=>cnd (Nat.ble l.length 1000) (f l)
def HA.of {ds:List D}{f:List T->Prop}(h:HA ds f):∃l,ts? ds=some l/\l.length<=sizeLine/\f l:=by
 obtain⟨l,e,h⟩:=mH h;obtain⟨b,h⟩:=vC h;exact⟨l,e,jap (Nat.le_of_ble_eq_true b) (by rw[ja4];decide),h⟩
def Ep (t:jB):bH:=λZ S k=>t Z S λds S1=>HA ds λl=>k (.tup l) S1
def Y8 (t:jB):bH:=λZ S k=>t Z S λds S1=>HA ds λl=>k (.lst l) S1
def Jj (t:jB):bH:=λZ S k=>t Z S λds S1=>HA ds λl=>k (.ob S1.length) (S1++[.lst l])
theorem rq {x1}(h:QA X es t):QE X (.Tuple es x1 pos) (Ep t):=
 bF (V7 h) (by rintro U H Q ⟨Y,S,Z,k,R,D,q,hk⟩;exact⟨Y,S,Z,_,R,D,q,(by
  rintro vs H1 ⟨Y1,S1,ds,g1,R1,r1,q1⟩;obtain⟨l,e,z,q1⟩:=q1.of;have r2:=xS e r1;exact⟨by rw[<- r2.len];exact z,MK R1 (λv H' u=>hk v H' (u.gr g1)) r2 q1⟩)⟩)
theorem bM (h:QA X es t):QE X (.List es pos) (Y8 t):=
 bF (CP h) (by rintro U H Q ⟨Y,S,Z,k,R,D,q,hk⟩;exact⟨Y,S,Z,_,R,D,q,(by
  rintro vs H1 ⟨Y1,S1,ds,g1,R1,r1,q1⟩;obtain⟨l,e,z,q1⟩:=q1.of;have r2:=xS e r1;exact⟨by rw[<- r2.len];exact z,zq R1 (λv H' u=>hk v H' (u.gr g1)) r2 q1⟩)⟩)
theorem ji (h:QA X es t):QE X (.List es pos) (Jj t):=
 bF (CP h) (by rintro U H Q ⟨Y,S,Z,k,R,D,q,hk⟩;exact⟨Y,S,Z,_,R,D,q,(by
  rintro vs H1 ⟨Y1,S1,ds,g1,R1,r1,q1⟩;obtain⟨l,e,z,q1⟩:=q1.of;have r2:=xS e r1;exact⟨by rw[<- r2.len];exact z,QU R1 (λv H' u=>hk v H' (u.gr g1)) r2 q1⟩)⟩)
end
def iq (S:aO):D->Option (Addr×jc2×List D)
 |.t (.ins C ns l)=>some (C,ns,l.map .t)
 |.ob n=>match S[n]? with
  |some (.ins C ns l)=>some (C,ns,l)
  |_=>none
 |_=>none
def cZ.len {K:Frag}{Y:jc4}{G:Hp}{l:List D}{vs:List V}(r:cZ K Y G l vs):l.length=vs.length:=jbc r
theorem cZ.look {K:Frag}{Y:jc4}{G:Hp}:∀{ns:jc2}{l:List D}{vs:List V}{f:Str}{x:D},cZ K Y G l vs->(ns.zip l).lookup f=some x->∃v,(ns.zip vs).lookup f=some v/\gm K Y G x v
 |[],l,vs,f,x,_,k=>by simp at k
 |n::ns,[],vs,f,x,_,k=>by simp at k
 |n::ns,y::l,_,f,x,.cons (b:=v) (l₂:=vr) e2 e3,k=>by
  rw[jcz,jbF] at k;rw[jcz,jbF];cases q:(f==n) with
  |true=>rw[q] at k;cases k;exact⟨v,M,e2⟩
  |false=>rw[q] at k;exact cZ.look e3 k
section
variable {K:Frag}{Y:jc4}{S:aO}{H:Hp}
theorem qz (R:R3 K Y S H):∀{d:D}{v:V}{C:Addr}{ns:jc2}{l:List D},gm K Y (res Y H) d v->iq S d=some (C,ns,l)->
  ∃a dx vs,v=.ref a/\H a=some (.ins C dx (ns.zip vs))/\ns.length=vs.length/\rX K C ns/\cZ K Y (res Y H) l vs
 |.t (.ins C' ns' l'),v,C,ns,l,r,e=>by
  have e:some (C',ns',l'.map D.t)=some (C,ns,l):=e;cases e;have r:Rp _ _ _ _:=r;unfold Rp at r;obtain⟨a,dx,vs,e1,e2,e3,e4,e5⟩:=r;exact⟨a,dx,vs,e1,ie _ _ e2,e3,e4,cZ.of e5⟩
 |.t (.v _),_,_,_,_,_,e=>nomatch e
 |.t (.tup _),_,_,_,_,_,e=>nomatch e
 |.t (.lst _),_,_,_,_,_,e=>nomatch e
 |.t (.Az _),_,_,_,_,_,e=>nomatch e
 |.ob n,v,C,ns,l,⟨a,ha,r⟩,e=>by
  have e:(match S[n]? with | some (.ins C ns l)=>some (C,ns,l) | _=>none)=some (C,ns,l):=e;cases q:S[n]? with
  |none=>rw[q] at e;cases e
  |some o=>
   rw[q] at e;cases o with
   |ins C' ns' m=>
    have e:some (C',ns',m)=some (C,ns,l):=e;cases e;obtain⟨dx,vs,h1,h2,h3,h4⟩:=R.ok n a _ ha q;exact⟨a,dx,vs,r,h1,h2,h3,h4⟩
   |sy m=>cases e
   |vv _ _ m=>cases e
   |gh _ _=>cases e
   |lst m=>cases e
end
section
variable {X:Cx}{o e:Expr}{es:jc5}{ta tv:bH}{t:jB}{f m:Str}{pos BM pos':Pos}
def Yd (f:Str)(d:D)(S:aO)(k:KD):Prop:=GV (iq S d) λp=>GV ((p.2.1.zip p.2.2).lookup f) λx=>k x S
def Yd.of {f:Str}{d:D}{S:aO}{k:KD}(h:Yd f d S k):∃C ns l x,iq S d=some (C,ns,l)/\(ns.zip l).lookup f=some x/\k x S:=by
 obtain⟨⟨C,ns,l⟩,e,h⟩:=mH h;obtain⟨x,e2,h⟩:=mH h;exact⟨C,ns,l,x,e,e2,h⟩
def RN (ta:bH)(f:Str):bH:=λZ S k=>ta Z S λd S1=>Yd f d S1 k
theorem A5 {α:Type}:∀{ns:jc2}{l:List α}{f:Str}{x:α},(ns.zip l).lookup f=some x->f∈ns
 |[],l,f,x,h=>by simp at h
 |n::ns,[],f,x,h=>by simp at h
 |n::ns,y::l,f,x,h=>by
  rw[jcz,jbF] at h;cases q:(f==n) with
  |true=>exact jak.mpr (.inl (eq_of_beq q))
  |false=>rw[q] at h;exact jah _ (A5 h)
theorem Z5 (he:QE X e ta)(hb:attributeBase e f X.env (eval e X.env)=eval e X.env):QE X (.Attribute e f pos) (RN ta f):=
 bF (Wb he hb) (by rintro U H Q ⟨Y,S,Z,k,R,D,q,hk⟩;exact⟨Y,S,Z,_,R,D,q,(by
  rintro v H1 ⟨Y1,S1,d,g1,R1,r1,q1⟩;obtain⟨C,ns,l,x,h1,h2,q1⟩:=q1.of;obtain⟨a,dx,vs,e1,e2,e3,e4,e5⟩:=qz R1 r1 h1;obtain⟨w,e6,e7⟩:=cZ.look e5 h2;exact⟨a,C,dx,_,w,e1,e2,e4.cls,e4.no f (A5 h2),e6,hk _ _ ⟨Y1,S1,x,g1,R1,e7,q1⟩⟩)⟩)
abbrev fG:=List D->aO->KD->Prop
def cY (K:Frag)(sp:fG):Sp:=λvs H Q _=>∃Y S ds k,R3 K Y S H/\cZ K Y (res Y H) ds vs/\sp ds S k/\∀v H',up K Y H k v H'->Q v H'
def i9 (sp:fG)(t:jB):bH:=λZ S k=>t Z S λds S1=>sp ds S1 k
variable {k:Nat}{x:Str}{ps:jc2}{sp:fG}{p:Pos}{C:Addr}
theorem LZ {K:Frag}{Y Y1:jc4}{S1:aO}{H H1:Hp}{kk:KD}{Q:VK}{E:XK}{ds:List D}{vs:List V}(g1:Gr Y H Y1 H1)(R1:R3 K Y1 S1 H1)(r1:cZ K Y1 (res Y1 H1) ds vs)(q1:sp ds S1 kk)(hk:∀v H',up K Y H kk v H'->Q v H'):cY K sp vs H1 Q E:=
 ⟨Y1,S1,ds,kk,R1,r1,q1,λv H' u=>hk v H' (u.gr g1)⟩
theorem aU (F:Dn X.prog X.w X.K X.mg X.base k x ps (cY X.K sp))(hr:bR k X.A)(hg:Gl X x)(ha:QA X (e::es) t)(h1:autoParam (notStar e=true) zi)(h2:autoParam (es.all notStar=true) zi)(hdb:autoParam ((x==("__debug__":Str))=false) zn) :
  QE X (.Call (.Name x p) (e::es) [] pos) (i9 sp t):=by
 obtain⟨f,fd,F,hm,hk,hb⟩:=F;refine bF (AQ F hr hg hm hk hb .nil rB ha h1 h2 hdb) λU H Q ⟨Y,S,Z,k,R,D,q,hk⟩=>⟨Y,S,Z,_,R,D,q,?_⟩
 rintro v H1 ⟨Y1,S1,d,g1,R1,r1,q1⟩;show cY X.K sp (v++[]) H1 Q E0;rw[jaK];exact LZ g1 R1 r1 q1 hk
def tV (F:Dn X.prog X.w X.K X.mg X.base k x ps (cY X.K sp))(hr:bR k X.A)(hg:Gl X x)(hdb:autoParam ((x==("__debug__":Str))=false) zn):QE X (.Call (.Name x p) [] [] pos) (i9 sp cK):=by
 obtain⟨f,fd,F,hm,hk,hb⟩:=F;exact bF (K6 F hr hg hm hk hb .nil rB hdb) (by rintro U H Q ⟨Y,S,Z,k,R,D,q,hk⟩;exact⟨Y,S,[],k,R,.nil,q,hk⟩)
def Ms (P:Program)(w:World)(K:Frag)(mg:Str->jc7)(base:Heap)(k:Nat)(n:Nat)(cl:Nat->Addr)(m:Str)(ps:jc2)(sp:Nat->fG):Prop:=
 ∀j,j<n->Mt P w K mg base k (cl j) m ps (cY K (sp j))
inductive a15 (n:Nat) (cl:Nat->Addr) (m:Str) (sp:Nat->fG) (t:jB) (Z:Sl) (d:D) (S:aO) (k:KD):Prop
 |mk (j:Nat) (ns:List Str) (l:List D) (h:j<n) (h1:iq S d=some (cl j,ns,l)) (h2:ns.contains m=false) (hk:t Z S λds S2=>sp j (d::ds) S2 k)
def Jh (n:Nat)(cl:Nat->Addr)(m:Str)(sp:Nat->fG)(ta:bH)(t:jB):bH:=λZ S k=>ta Z S λd S1=>a15 n cl m sp t Z d S1 k
variable {n:Nat}{cl:Nat->Addr}{Zt:Nat->fG}
theorem nj {ns:jc2}{vs:List V}(h:ns.contains m=false):(ns.zip vs).lookup m=none:=aX.nj (by
 intro z;rw[List.contains_iff_mem.mpr z] at h;cases h)
theorem Kl {pl:Sem Bool}(he:QE X o ta)(jcY:Ms X.prog X.w X.K X.mg X.base k n cl m ps Zt)(hr:bR k X.A)(ha:QA X (e::es) t)(h1:autoParam (notStar e=true) zi)(h2:autoParam (es.all notStar=true) zi)
  (ht:autoParam (eval (.Call (.Attribute o m BM) (e::es) [] pos) X.env=(do
   let ov <- eval o X.env
   standAt BM.atName
   let(f,first) <- holding [ov] (getMethod ov m pl)
   callWith pos f first (backTo pos (starEach (e::es) X.env)) (backToKw pos (keywordEach [] X.env)))) zi) :
  QE X (.Call (.Attribute o m BM) (e::es) [] pos) (Jh n cl m Zt ta t):=by
 rintro vy s U H Q I ⟨Y,S,Z,k,R,D,q,hk⟩;refine jcc (pl:=pl) (bu (he vy s U H _ I ⟨Y,S,Z,_,R,D,q,λv H' z=>z⟩) ?_) ht;rintro u s1 ⟨x,H1,I1,rx,Y1,S1,d,g1,R1,r1,j,ns,l,hj,i1,hm0,q1⟩;obtain⟨a,dx,vs,e1,e2,e3,e4,e5⟩:=qz R1 r1 i1;subst e1;obtain rfl:u=Value.ref a:=rx;obtain⟨f,fd,F,hm,hb⟩:=jcY j hj;refine jr I1 e2 e4.cls hm (nj hm0) ?_;refine jcf (first:=[.ref a]) (h₀:=X.base) I.ok.mod.NN hm.kp (bu (ha pos vy s1 U H1 _ I1 ⟨Y1,S1,Z,_,R1,D.gr g1,q1,λv H' z=>z⟩) ?_) (cU h1) (c6 h2);rintro us s2 ⟨ws,H2,I2,r,Y2,S2,ds,g2,R2,r2,q2⟩;refine⟨I2.ig,ng (us:=.ref a::us) (vs:=.ref a::ws) F hr hb .nil rB I2 (.cons rfl r) ?_⟩;rw[jaK];exact⟨Y2,S2,d::ds,k,R2,.cons (r1.gr g2) r2,q2,λv H' u=>hk v H' (u.gr (g1.trans g2))⟩
theorem cA {pl:Sem Bool}(he:QE X o ta)(jcY:Ms X.prog X.w X.K X.mg X.base k n cl m ps Zt)(hr:bR k X.A)
  (ht:autoParam (eval (.Call (.Attribute o m BM) [] [] pos) X.env=(do
   let ov <- eval o X.env
   standAt BM.atName
   let(f,first) <- holding [ov] (getMethod ov m pl)
   callWith pos f first (backTo pos (starEach [] X.env)) (backToKw pos (keywordEach [] X.env)))) zi) :
  QE X (.Call (.Attribute o m BM) [] [] pos) (Jh n cl m Zt ta cK):=by
 rintro vy s U H Q I ⟨Y,S,Z,k,R,D,q,hk⟩;refine jcc (pl:=pl) (bu (he vy s U H _ I ⟨Y,S,Z,_,R,D,q,λv H' z=>z⟩) ?_) ht;rintro u s1 ⟨x,H1,I1,rx,Y1,S1,d,g1,R1,r1,j,ns,l,hj,i1,hm0,q1⟩;obtain⟨a,dx,vs,e1,e2,e3,e4,e5⟩:=qz R1 r1 i1;subst e1;obtain rfl:u=Value.ref a:=rx;obtain⟨f,fd,F,hm,hb⟩:=jcY j hj;refine jr I1 e2 e4.cls hm (nj hm0) ?_;refine callWith_K0 (first:=[.ref a]) I1.ig hm.kp (ng (us:=[.ref a]) (vs:=[.ref a]) F hr hb .nil rB I1 (.cons rfl .nil) ?_);exact⟨Y1,S1,[d],k,R1,.cons r1 .nil,q1,λv H' u=>hk v H' (u.gr g1)⟩
end
def Yu (n:Nat):D->Prop
 |.t _=>True
 |.ob m=>m<n
def Bw (n:Nat):O->Prop
 |.ins _ _ l=>∀d∈l,Yu n d
 |.gh ρ0 _=>ρ0.length<=n
 |_=>True
section
variable {K:Frag}{Y e:jc4}{S:aO}{H:Hp}{G G':Hp}
theorem gZ {α β:Type}{F:α->β->Prop}:∀{l:List α}{m:List β},Paired F l m->∀a∈l,∃b,F a b
 |_,_,.nil,a,h=>nomatch h
 |_,_,.cons r t,a,h=>by
  rcases jak.mp h with rfl | h
  .exact⟨_,r⟩
  .exact gZ t a h
def gm.cl {d:D}{w:V}(r:gm K Y G d w):Yu Y.length d:=by
 cases d with
 |t x=>trivial
 |ob n=>obtain⟨a,h,_⟩:=r;exact(jao.mp h).1
theorem DK.cl {h:Option HO}:∀{o:O},DK K Y G h o->Bw Y.length o
 |.lst l,_=>trivial
 |.sy l,_=>trivial
 |.vv _ _ l,_=>trivial
 |.gh ρ0 _,⟨_,e,_⟩=>Nat.le_of_not_lt λz=>absurd (jao.mp (e Y.length _ (jaz z))).1 (ja6 _)
 |.ins C ns l,⟨dx,vs,_,_,_,r⟩=>λd hd=>let⟨_,q⟩:=gZ r d hd;q.cl
theorem R3.cl (r:R3 K Y S H):∀o∈S,Bw S.length o:=λo ho=>by
 obtain⟨n,hn⟩:=jcS.mp ho;have hl:n<Y.length:=by rw[r.len];exact(jao.mp hn).1
 rw[<- r.len];exact(r.ok n Y[n] o (jaz hl) hn).cl
def gm.pop (le:Le G G'){d:D}{w:V}(r:gm K (Y++e) G d w)(c:Yu Y.length d):gm K Y G' d w:=by
 cases d with
 |t x=>exact Rp.le le r
 |ob n=>
  obtain⟨a,h,q⟩:=r;refine⟨a,?_,q⟩;rw[jaF (show n<Y.length from c)] at h;exact h
theorem rE {α β:Type}{F F':α->β->Prop}:∀{l:List α}{m:List β},(∀a∈l,∀b,F a b->F' a b)->Paired F l m->Paired F' l m
 |_,_,_,.nil=>.nil
 |_,_,h,.cons r t=>.cons (h _ jai _ r) (rE (λa ha b=>h a (jah _ ha) b) t)
theorem DK.pop (le:Le G G'){h:Option HO}:∀{o:O},DK K (Y++e) G h o->Bw Y.length o->DK K Y G' h o
 |.lst l,⟨vs,e1,e2⟩,_=>⟨vs,e1,e2.le le⟩
 |.sy l,⟨vs,e1,e2⟩,_=>⟨vs,e1,c8 (λ_ _ z=>⟨z.1,z.2.le le⟩) e2⟩
 |.vv ob vs l,⟨e1,e2⟩,_=>⟨e1,c8 (λ_ _ z=>⟨z.1,z.2.le le⟩) e2⟩
 |.gh ρ0 G0,⟨e1,e2,e3⟩,c=>⟨e1,λn a z=>by
   have l:n<Y.length:=jaB (jao.mp z).1 c;have:=e2 n a z;rwa[jaF l] at this,e3.trans le⟩
 |.ins C ns l,⟨dx,vs,e1,e2,e3,e4⟩,c=>⟨dx,vs,e1,e2,e3,rE (λa ha b z=>z.pop le (c a ha)) e4⟩
theorem fZ:Le (res (Y++e) H) (res Y H):=λa o h=>by
 obtain⟨h1,h2⟩:=res_some h;exact j9 (λz=>h1 (jaX _ z)) h2
def R3.pop {S':aO}(r:R3 K (Y++e) (S++S') H)(hl:Y.length=S.length)(c:∀o∈S,Bw S.length o):R3 K Y S H:=by
 refine⟨hl,(jcA.mp r.nd).1,λn a o h1 h2=>?_⟩;have l1:=(jao.mp h1).1;have l2:=(jao.mp h2).1;have q:=r.ok n a o (by rw[jaF l1];exact h1) (by rw[jaF l2];exact h2);exact q.pop fZ (by rw[hl];exact c o (jbd h2))
end
section
variable {X:Cx}{o e:Expr}{es:jc5}{ta tv:bH}{t:jB}{f m x:Str}{pos BM pos' p:Pos}{k:Nat}{ps:jc2}{sp:fG}{C:Addr}
structure Mkr (P:Program)(w:World)(K:Frag)(mg:Str->Option Value)(base:Heap)(k:Nat)(C:Addr)(x:Str)(ps:List Str)(sp:fG):Prop where
 mr:Mr P w K mg base k C ps (cY K sp)
 ok:rX K C []
 mg:mg x=some (.ref C)
def SY (C:Addr)(S1:aO)(k:KD)(d:D)(S2:aO):Prop:=d=.ck/\∃ns l,S2=S1++[.ins C ns (l.map .t)]/\k (.t (.ins C ns l)) S1
def qc (C:Addr)(sp:fG)(t:jB):bH:=λZ S k=>t Z S λds S1=>sp (.ob S1.length::ds) (S1++[.ins C [] []]) (SY C S1 k)
def Ji (C:Addr)(sp:fG)(t:jB):bH:=λZ S k=>t Z S λds S1=>sp (.ob S1.length::ds) (S1++[.ins C [] []]) λd S2=>d=.ck/\k (.ob S1.length) S2
theorem nu {K:Frag}{Y:jc4}{S:aO}{H:Hp}(R:R3 K Y S H)(ok:rX K C []){x dx:Addr}(hx:H x=none)(hd:H dx=none)(ne:dx≠x) :
  R3 K (Y++[x]) (S++[.ins C [] []]) (upd (upd H dx (.own x)) x (.ins C dx []))/\Gr Y H (Y++[x]) (upd (upd H dx (.own x)) x (.ins C dx [])):=by
 obtain⟨R1,g1,_⟩:=R.new (o:=.own x) hd;have hx1:upd H dx (.own x) x=none:=by rw[aE (jaH ne)];exact hx
 obtain⟨R2,g2⟩:=R1.push (o:=.ins C dx []) (u:=.ins C [] []) hx1 ⟨dx,[],M,M,ok,.nil⟩;exact⟨R2,g1.trans g2⟩
theorem Vz (F:Mkr X.prog X.w X.K X.mg X.base k C x ps sp)(hr:bR (k+1) X.A)(hg:Gl X x)(ha:QA X (e::es) t)(h1:autoParam (notStar e=true) zi)(h2:autoParam (es.all notStar=true) zi)(hdb:autoParam ((x==("__debug__":Str))=false) zn) :
  QE X (.Call (.Name x p) (e::es) [] pos) (qc C sp t):=by
 obtain⟨f,fd,F',hM,hb⟩:=F.mr;refine bF (uP hM F' hr hg F.mg hb .nil rB ha h1 h2 hdb) λU H Q ⟨Y,S,Z,k,R,D,q,hk⟩=>⟨Y,S,Z,_,R,D,q,λvs H1 ⟨Y1,S1,ds,g1,R1,r1,q1⟩ y dy hy hdy ne=>?_⟩
 obtain⟨R2,g2⟩:=nu R1 F.ok hy hdy ne;refine⟨Y1++[y],S1++[.ins C [] []],.ob S1.length::ds,_,R2,.cons ⟨y,by rw[<- R1.len];simp,M⟩ ?_,q1,?_⟩
 .rw[jaK];exact r1.gr g2
 .rintro v H3 ⟨ρ3,S3,d,g3,pZ,r3,rfl,ns,l,rfl,q3⟩;refine⟨ay r3,?_⟩;have hρ:ρ3=Y1++[y]:=by
   obtain⟨ex,he⟩:=g3.ext;have:=pZ.len;rw[he] at this;simp only[jaD,jbY] at this;have l0:=R1.len;have:ex=[]:=jbJ.mp (by omega);rw[he,this,jaK]
  subst hρ;have R4:R3 X.K Y1 S1 H3:=pZ.pop R1.len R1.cl;have g4:Gr Y1 H1 Y1 H3:=⟨⟨[],by simp⟩,(g2.le.trans g3.le).trans fZ⟩
  refine hk _ _ ⟨Y1,S1,.t (.ins C ns l),g1.trans g4,R4,?_,q3⟩;obtain⟨dx,ws,h3,h4,h5,h6⟩:=pZ.ok S1.length y (.ins C ns (l.map .t)) (by rw[<- R1.len];simp) (by simp);show Rp _ _ _ _;unfold Rp;have ny:y∉Y1:=R1.fresh hy;exact⟨y,dx,ws,M,j9 ny h3,h4,h5,(cZ.t h6).le fZ⟩
theorem OX (F:Mkr X.prog X.w X.K X.mg X.base k C x ps sp)(hr:bR (k+1) X.A)(hg:Gl X x)(ha:QA X (e::es) t)(h1:autoParam (notStar e=true) zi)(h2:autoParam (es.all notStar=true) zi)(hdb:autoParam ((x==("__debug__":Str))=false) zn) :
  QE X (.Call (.Name x p) (e::es) [] pos) (Ji C sp t):=by
 obtain⟨f,fd,F',hM,hb⟩:=F.mr;refine bF (uP hM F' hr hg F.mg hb .nil rB ha h1 h2 hdb) λU H Q ⟨Y,S,Z,k,R,D,q,hk⟩=>⟨Y,S,Z,_,R,D,q,λvs H1 ⟨Y1,S1,ds,g1,R1,r1,q1⟩ y dy hy hdy ne=>?_⟩
 obtain⟨R2,g2⟩:=nu R1 F.ok hy hdy ne;refine⟨Y1++[y],S1++[.ins C [] []],.ob S1.length::ds,_,R2,.cons ⟨y,by rw[<- R1.len];simp,M⟩ ?_,q1,?_⟩
 .rw[jaK];exact r1.gr g2
 .rintro v H3 ⟨ρ3,S3,d,g3,pZ,r3,rfl,q3⟩;refine⟨ay r3,hk _ _ ⟨ρ3,S3,.ob S1.length,(g1.trans g2).trans g3,pZ,⟨y,?_,M⟩,q3⟩⟩;exact g3.at (by rw[<- R1.len];simp)
def pN (f:Str):jc2->jc2
 |[]=>[f]
 |g::r=>if g=f then g::r else g::pN f r
def pD {α:Type}(f:Str)(y:α):jc2->List α->List α
 |[],_=>[y]
 |_::_,[]=>[]
 |g::r,x::l=>if g=f then y::l else x::pD f y r l
theorem AM (f:Str)(y:V):∀{ns:jc2}{vs:List V},ns.length=vs.length->jP f y (ns.zip vs)=(pN f ns).zip (pD f y ns vs)/\(pN f ns).length=(pD f y ns vs).length
 |[],[],_=>⟨M,M⟩
 |[],_::_,h=>by simp at h
 |_::_,[],h=>by simp at h
 |g::ns,v::vs,h=>by
  have h':ns.length=vs.length:=by simpa using h
  obtain⟨i1,i2⟩:=AM f y h';rw[jcz];unfold jP pN pD;by_cases e:g=f
  .rw[jab e,jab e,jab e];exact⟨M,by simpa using h'⟩
  .rw[jaa e,jaa e,jaa e,i1];exact⟨M,by simpa using i2⟩
theorem La {K:Frag}{Y:jc4}{G:Hp}{d:D}{v:V}(r:gm K Y G d v):∀{ns:jc2}{l:List D}{vs:List V},cZ K Y G l vs->cZ K Y G (pD f d ns l) (pD f v ns vs)
 |[],_,_,_=>by unfold pD;exact .cons r .nil
 |_::_,[],_,.nil=>by unfold pD;exact .nil
 |g::ns,_::_,_,.cons h t=>by
  unfold pD;by_cases e:g=f
  .rw[jab e,jab e];exact .cons r t
  .rw[jaa e,jaa e];exact .cons h (La r t)
theorem K9 {g:Str}:∀{ns:jc2},g∈pN f ns->g=f\/g∈ns
 |[],h=>.inl (jaE.mp h)
 |n::ns,h=>by
  unfold pN at h;by_cases e:n=f
  .rw[jab e] at h;exact .inr h
  .rw[jaa e] at h;rcases jak.mp h with h | h
   .exact .inr (jak.mpr (.inl h))
   .rcases K9 h with h | h
    .exact .inl h
    .exact .inr (jah _ h)
inductive a1V (K:Frag) (f:Str) (x y:D) (Z:Sl) (S:aO) (nx:KS):Prop
 |mk (n:Nat) (C:Addr) (ns:List Str) (l:List D) (h:x=.ob n) (h1:S[n]?=some (.ins C ns l)) (h2:iu K C f) (h3:ns.length<1000) (hk:nx Z (S.set n (.ins C (pN f ns) (pD f y ns l))))
def ZI (K:Frag)(ta tv:bH)(f:Str):iW:=λE Z S=>tv Z S λy S1=>ta Z S1 λx S2=>a1V K f x y Z S2 E.nx
theorem aL {value:Expr}(ha:QE X o ta)(hv:QE X value tv)(hs:swapsWith value (some (.Attribute o f pos')) pos.line X.env=pure false):QS X (.Assign [.Attribute o f pos'] value pos) (ZI X.K ta tv f):=
 gY (VU ha hv hs) λD U H ⟨Y,S,Z,E,R,RS,q,eu⟩=>⟨Y,S,Z,_,R,RS,q,λv H1 ⟨Y1,S1,d,g1,R1,r1,q1⟩=>⟨Y1,S1,Z,_,R1,RS.gr g1,q1,(by
  rintro w H2 ⟨Y2,S2,d2,g2,R2,r2,n,C,ns,l,h1,h2,h3,h4,q2⟩;subst h1;obtain⟨a,ha,e⟩:=r2;obtain⟨dx,vs,e1,e2,e3,e4⟩:=R2.ok n a _ ha h2;refine⟨a,C,dx,ns.zip vs,e,e1,e3.cls,h3,by rw[List.length_zip];omega,?_⟩;obtain⟨i1,i2⟩:=AM f v e2;rw[i1];obtain⟨R4,g4⟩:=R2.put (o:=.ins C dx ((pN f ns).zip (pD f v ns vs))) (u:=.ins C (pN f ns) (pD f d ns l)) ha
   ⟨dx,_,M,i2,⟨e3.cls,λg hg=>by rcases K9 hg with z | z;rw[z];exact h3;exact e3.no g z,e3.ca,e3.cg,e3.ct,e3.cm⟩,La (r1.gr g2) e4⟩
  exact eu.nx _ _ ⟨Y2,_,Z,(g1.trans g2).trans g4,R4,(RS.gr (g1.trans g2)).gr g4,q2⟩)⟩⟩
end
abbrev HB:=List D->aO->KD->Prop
def liC (K:Frag)(r:HB):List V->Hp->VK->Prop:=λvs H Q=>∃Y S ds k,R3 K Y S H/\cZ K Y (res Y H) ds vs/\r ds S k/\∀v H',up K Y H k v H'->Q v H'
def Call3 (X:Cx)(f:Value)(r:HB):Prop:=dN X f (liC X.K r)
def gf {X:Cx}{f:Value}{r r':List V->Hp->VK->Prop}(h:dN X f r)(m:∀vs H Q,r' vs H Q->r vs H Q):dN X f r':=λvy s U H xs us Q I rx q=>h vy s U H xs us Q I rx (m _ _ _ q)
def cZ.one {K:Frag}{Y:jc4}{G:Hp}{d:D}{vs:List V}(r:cZ K Y G [d] vs):∃v,vs=[v]/\gm K Y G d v:=by
 cases r with
 |cons h t=>cases t;exact⟨_,M,h⟩
def cZ.two {K:Frag}{Y:jc4}{G:Hp}{d e:D}{vs:List V}(r:cZ K Y G [d,e] vs):∃v w,vs=[v,w]/\gm K Y G d v/\gm K Y G e w:=by
 cases r with
 |cons h t=>
  cases t with
  |cons h2 t2=>cases t2;exact⟨_,_,M,h,h2⟩
def SqR (S:aO)(d:D)(f:List T->Prop):Prop:=GV (sq S d) f
def a0V:HB
 |[d],S,k=>d.sD.elim (SqR S d λl=>k (.int l.length) S) λz=>z.length<=sizeLine/\k (.int z.length) S
 |_,_,_=>False
def I0:HB
 |[d],S,k=>SqR S d λl=>k (.tup l) S
 |_,_,_=>False
def XU (f:List Bool->Bool):HB
 |[d],S,k=>∃bs:List Bool,lq S d=some (bs.map T.bl)/\k (.bl (f bs)) S
 |_,_,_=>False
section
variable {X:Cx}{x:Str}{p pos BM cpos:Pos}{e o:Expr}{es:jc5}{t:jB}{to:bH}{id ty:String}{r:HB}
theorem aX.bls {K:Frag}{G:Hp}:∀{ns:List Bool}{vs:List V},aX K G (ns.map T.bl) vs->vs=ns.map V.bl
 |[],vs,r=>by unfold aX at r;exact r
 |n::ns,vs,r=>by
  rw[jal] at r;unfold aX at r;obtain⟨v,vr,e1,e2,e3⟩:=r;unfold Rp at e2;rw[e1,e2,aX.bls e3];rfl
theorem aX.strs {K:Frag}{G:Hp}:∀{ns:jc2}{vs:List V},aX K G (ns.map T.str) vs->vs=ns.map V.str
 |[],vs,r=>by unfold aX at r;exact r
 |n::ns,vs,r=>by
  rw[jal] at r;unfold aX at r;obtain⟨v,vr,e1,e2,e3⟩:=r;unfold Rp at e2;rw[e1,e2,aX.strs e3];rfl
theorem aX.ofStrs {K:Frag}{G:Hp}:∀(ns:jc2),aX K G (ns.map T.str) (ns.map V.str)
 |[]=>.nil
 |n::ns=>.cons (by unfold Rp;rfl) (aX.ofStrs ns)
def UO (r:HB)(t:jB):bH:=λZ S k=>t Z S λds S1=>r ds S1 k
def FP:∀U H Q,li X.K (UO r t) U H Q->Zf (liC X.K r) (liA X.K t) U H Q:=(by rintro U H Q ⟨Y,S,Z,k,R,D,q,hk⟩;exact  ⟨Y,S,Z,_,R,D,q,(by rintro v H1 ⟨Y1,S1,d,g1,R1,r1,q1⟩;exact⟨Y1,S1,d,k,R1,r1,q1,λw H2 u=>hk w H2 (u.gr g1)⟩)⟩)
theorem aJ (hc:Call3 X (.builtin id) r)(hg:Gl X x)(hm:X.mg x=none)(hv:bootBuiltins x=some (.builtin id))(ha:QA X (e::es) t)(h1:autoParam (notStar e=true) zi)(h2:autoParam (es.all notStar=true) zi)(hn:autoParam (x≠"__name__") zn)(hdb:autoParam ((x==("__debug__":Str))=false) zn) :
  QE X (.Call (.Name x p) (e::es) [] pos) (UO r t):=bF (GD hc hg hm hv ha h1 h2 hn hdb) FP
theorem bX (hc:Call3 X (.type ty) r)(hg:Gl X x)(hm:X.mg x=none)(hv:bootBuiltins x=some (.type ty))(ha:QA X (e::es) t)(h1:autoParam (notStar e=true) zi)(h2:autoParam (es.all notStar=true) zi)(hn:autoParam (x≠"__name__") zn)(hdb:autoParam ((x==("__debug__":Str))=false) zn) :
  QE X (.Call (.Name x p) (e::es) [] pos) (UO r t):=bF (CQ hc hg hm hv ha h1 h2 hn hdb) FP
def cM:Call3 X (.builtin "len") a0V:=by
 refine gf (zG.or zH) ?_;rintro vs H Q ⟨Y,S,ds,k,R,rd,q,hk⟩;unfold a0V at q;split at q
 .obtain⟨v,rfl,rv⟩:=rd.one;rcases HN q with q | ⟨z,hd,q⟩
  .obtain⟨l,h1,h2⟩:=mH q;obtain⟨a,us,e1,e2,e3⟩:=ye R rv h1;refine .inr ⟨a,us,by rw[e1],e2,?_⟩;rw[<- e3.len];exact fin R hk aM h2
  .cases D.AI hd;rw[ay rv];exact .inl ⟨_,M,q.1,fin R hk aM q.2⟩
 .exact q.elim
theorem I8 {K:Frag}{Y:jc4}{S:aO}{H:Hp}(R:R3 K Y S H):∀{d:D}{v:V}{l:List T},gm K Y (res Y H) d v->sq S d=some l->
  (∃a vs,v=.ref a/\iG K H a vs/\aX K (res Y H) l vs)\/(d=.tup l/\∃a vs,v=.ref a/\kL K H a vs)
 |.t (.tup m),v,l,r,e=>by
  have e:some m=some l:=e;cases e;obtain⟨a,vs,e1,e2,e3⟩:=dj r;exact .inr ⟨M,a,vs,e1,.of e2⟩
 |.t (.Az m),v,l,r,e=>by
  have e:some m=some l:=e;cases e;have r:Rp _ _ _ _:=r;unfold Rp at r;obtain⟨a,vs,e1,e2,e3⟩:=r;exact .inl ⟨a,vs,e1,CD ie e2,e3⟩
 |.t (.lst m),v,l,r,e=>by
  obtain⟨a,vs,e1,e2,e3⟩:=b4 R r (show lq S (.t (.lst m))=some l from e);exact .inl ⟨a,vs,e1,.of e2,e3⟩
 |.t (.v _),_,_,_,e=>nomatch e
 |.t (.ins _ _ _),_,_,_,e=>nomatch e
 |.ob n,v,l,r,e=>by
  obtain⟨a,vs,e1,e2,e3⟩:=b4 R r (show lq S (.ob n)=some l from e);exact .inl ⟨a,vs,e1,.of e2,e3⟩
def cV:Call3 X (.type "tuple") I0:=by
 refine gf wo ?_;rintro vs H Q ⟨Y,S,ds,k,R,rd,q,hk⟩;unfold I0 at q;split at q
 .obtain⟨v,rfl,rv⟩:=rd.one;obtain⟨l,h1,h2⟩:=mH q;rcases I8 R rv h1 with⟨a,us,e1,e2,e3⟩ | ⟨hd,a,us,e1,e2⟩
  .exact⟨a,us,by rw[e1],.inl ⟨e2,MK R hk e3 h2⟩⟩
  .subst hd;refine⟨a,us,by rw[e1],.inr ⟨e2,?_⟩⟩;rw[<- e1];exact fin R hk rv h2
 .exact q.elim
def a1L {f:List Bool->Bool}(h:dN X (.builtin id) (λxs H Q=>∃(p:Addr)(bs:List Bool),xs=[.ref p]/\iG X.K H p (bs.map V.bl)/\Q (.bl (f bs)) H)):Call3 X (.builtin id) (XU f):=by
 refine gf h ?_;rintro vs H Q ⟨Y,S,ds,k,R,rd,q,hk⟩;unfold XU at q;split at q
 .obtain⟨v,rfl,rv⟩:=rd.one;obtain⟨ns,h1,h2⟩:=q;obtain⟨a,us,e1,e2,e3⟩:=b4 R rv h1;rw[e3.bls] at e2;exact⟨a,ns,by rw[e1],.of e2,fin R hk aM h2⟩
 .exact q.elim
def xB (hc:X.calm=true):Call3 X (.builtin "all") (XU λbs=>bs.all _root_.id):=a1L (M4 hc)
noncomputable def tyT:T->jc7
 |.v .ck=>some (.type "NoneType")
 |.v (.bl _)=>some (.type "bool")
 |.v (.int _)=>some (.type "int")
 |.v (.str _)=>some (.type "str")
 |.tup _=>some (.type "tuple")
 |.lst _=>some (.type "list")
 |.ins C _ _=>some (.ref C)
 |_=>none
def tyD (S:aO):D->jc7
 |.t x=>tyT x
 |.ob n=>match S[n]? with
  |some (.lst _)=>some (.type "list")
  |some (.ins C _ _)=>some (.ref C)
  |some (.sy _)=>some (.type "dict")
  |some (.vv _ _ _)=>none
  |some (.gh _ _)=>none
  |none=>none
def N8 {K:Frag}{Y:jc4}{S:aO}{H:Hp}(R:R3 K Y S H){d:D}{v:V}{u:Value}(r:gm K Y (res Y H) d v)(e:tyD S d=some u):qI K H v u:=by
 cases d with
 |t x=>
  have e:tyT x=some u:=e;cases x with
  |v y=>
   rw[ay r];cases y with
   |ck=>cases e;exact .ck
   |bl b=>cases e;exact .bl b
   |int i=>cases e;exact .int i
   |str z=>cases e;exact .str z
   |_=>cases e
  |tup l=>obtain⟨a,vs,e1,e2,e3⟩:=dj r;cases e;rw[e1];exact .tup e2
  |lst l=>obtain⟨a,vs,e1,e2,e3⟩:=b4 R r rfl;cases e;rw[e1];exact .lst e2
  |Az l=>cases e
  |ins C ns l=>obtain⟨a,dx,vs,e1,e2,e3,e4,e5⟩:=qz R r rfl;cases e;rw[e1];exact .ins e2 e4.cls e4.ca e4.cg e4.ct e4.cm
 |ob n=>
  have e:(match S[n]? with | some (.lst _)=>some (Value.type "list") | some (.ins C _ _)=>some (.ref C) | some (.sy _)=>some (.type "dict") | some (.vv _ _ _)=>none | some (.gh _ _)=>none | none=>none)=some u:=e;obtain⟨a,ha,rfl⟩:=r;cases q:S[n]? with
  |none=>rw[q] at e;cases e
  |some o=>
   rw[q] at e;have z:=R.ok n a o ha q;cases o with
   |lst l=>obtain⟨vs,h1,h2⟩:=z;cases e;exact .lst h1
   |sy l=>obtain⟨vs,h1,h2⟩:=z;cases e;exact .dK h1
   |vv _ _ l=>cases e
   |gh _ _=>cases e
   |ins C ns l=>obtain⟨dx,vs,h1,h2,h3,h4⟩:=z;cases e;exact .ins h1 h3.cls h3.ca h3.cg h3.ct h3.cm
def W7 (K:Frag)(c:V)(u:Value):HB
 |[d,.t (.v c')],S,k=>c'=c/\∃t b,tyD S d=some t/\kitOne K t u=some b/\k (.bl b) S
 |_,_,_=>False
def M8 {c:V}{u:Value}(hc:match c with | .ref _=>True | .ty _=>True | _=>False)(ru:RelV c u):Call3 X (.builtin "isinstance") (W7 X.K c u):=by
 refine gf (M3 hc) ?_;rintro vs H Q ⟨Y,S,ds,k,R,rd,q,hk⟩;unfold W7 at q;split at q
 .obtain⟨v,w,rfl,rv,rw'⟩:=rd.two;obtain⟨rfl,t,b,h1,h2,h3⟩:=q;rw[ay rw'];exact⟨v,t,u,b,M,N8 R rv h1,ru,h2,fin R hk aM h3⟩
 .exact q.elim
end
abbrev BV:=D->List D->aO->KD->Prop
def C7 (K:Frag)(r:BV):V->List V->Hp->VK->Prop:=λv vs H Q=>∃Y S d ds k,R3 K Y S H/\gm K Y (res Y H) d v/\cZ K Y (res Y H) ds vs/\r d ds S k/\∀v H',up K Y H k v H'->Q v H'
def xq (S:aO):D->Option (List T)
 |.t (.tup l)=>some l
 |d=>lq S d
def XS:BV
 |.ob n,[.t x],S,k=>∃l,S[n]?=some (.lst l)/\l.length<sizeLine/\k .ck (S.set n (.lst (l++[x])))
 |_,_,_,_=>False
def ext3:BV
 |.ob n,[d],S,k=>∃l m,S[n]?=some (.lst l)/\xq S d=some m/\l.length+m.length<=sizeLine/\k .ck (S.set n (.lst (l++m)))
 |_,_,_,_=>False
def Oo:BV
 |.t (.v (.str a)),[.t (.v (.str b))],S,k=>k (.bl (Txt.startswith a b)) S
 |_,_,_,_=>False
def Mj:BV
 |.t (.v (.str sep)),[d],S,k=>∃ss:jc2,lq S d=some (ss.map T.str)/\(ss.map (·.length)).sum+ss.length*sep.length<=16777216/\k (.str (Txt.join sep ss)) S
 |_,_,_,_=>False
section
variable {X:Cx}{x:Str}{p pos BM cpos:Pos}{e o i value:Expr}{es:jc5}{t:jB}{to ti tv:bH}{id ty:String}{r:BV}
def mK {r r':V->List V->Hp->VK->Prop}(h:p6 X id r)(m:∀v vs H Q,r' v vs H Q->r v vs H Q):p6 X id r':=λvy s U H x xs u us Q I rx rv q=>h vy s U H x xs u us Q I rx rv (m _ _ _ _ q)
def tyM (S:aO)(ty:String):D->Prop
 |.t (.v (.str _))=>ty="str"
 |d=>ty="list"/\∃l,lq S d=some l
def lG (ty:String)(r:BV)(to:bH)(t:jB):bH:=λZ S k=>to Z S λd S1=>tyM S1 ty d/\t Z S1 λds S2=>r d ds S2 k
def Ej {K:Frag}{Y:jc4}{S:aO}{H:Hp}(R:R3 K Y S H){d:D}{v:V}(r:gm K Y (res Y H) d v)(e:tyM S ty d):tyV K ty v H:=by
 unfold tyM at e;split at e
 .rw[ay r];exact e
 .obtain⟨e1,l,e2⟩:=e;obtain⟨a,vs,h1,h2,h3⟩:=b4 R r e2;rw[h1];exact .inl ⟨e1,vs,.of h2⟩
def zb:∀U H Q,li X.K (lG ty r to t) U H Q->tBM X.K ty (C7 X.K r) (li X.K to) (liA X.K t) U H Q:=(by rintro U H Q ⟨Y,S,Z,k,R,D,q,hk⟩;exact  ⟨Y,S,Z,_,R,D,q,(by rintro v H1 ⟨Y1,S1,d,g1,R1,r1,h1,q1⟩;exact⟨Ej R1 r1 h1,Y1,S1,Z,_,R1,D.gr g1,q1,(by rintro vs H2 ⟨Y2,S2,ds,g2,R2,r2,q2⟩;exact   ⟨Y2,S2,d,ds,k,R2,r1.gr g2,r2,q2,λw H3 u=>hk w H3 (u.gr (g1.trans g2))⟩)⟩)⟩)
def LP:∀U H Q,li X.K (lG ty r to cK) U H Q->Zg X.K ty (C7 X.K r) (li X.K to) U H Q:=(by rintro U H Q ⟨Y,S,Z,k,R,D,q,hk⟩;exact  ⟨Y,S,Z,_,R,D,q,(by rintro v H1 ⟨Y1,S1,d,g1,R1,r1,h1,q1⟩;exact⟨Ej R1 r1 h1,Y1,S1,d,[],k,R1,r1,.nil,q1,λw H3 u=>hk w H3 (u.gr g1)⟩)⟩)
theorem yQ {name:Str}(pa:PlainAttrs ty)(slot:Slot ty name id)(hty:typeOf (.builtin id)=pure (.type "method_descriptor"))(hm:p6 X id (C7 X.K r))(ho:QE X o to)(ha:QA X (e::es) t)
  (h1:autoParam (notStar e=true) zi) (h2:autoParam (es.all notStar=true) zi) (h3:autoParam (es.length<20) zn) (Ap:autoParam (attributeBase o name X.env (eval o X.env)=eval o X.env) zi) (B1:autoParam ((BM.endLine==cpos.line)=true) zi) :
  QE X (.Call (.Attribute o name BM) (e::es) [] cpos) (lG ty r to t):=bF (Wc pa slot hty hm ho ha h1 h2 h3 Ap B1) zb
def a0S:p6 X "list.append" (C7 X.K XS):=by
 refine mK G4 ?_;rintro v vs H Q ⟨Y,S,d,ds,k,R,rd,rs,q,hk⟩;unfold XS at q;split at q
 .obtain⟨l,h1,h2,h3⟩:=q;obtain⟨a,ha,rfl⟩:=rd;obtain⟨w,rfl,rw'⟩:=rs.one;obtain⟨us,e1,e2⟩:=R.ok _ a _ ha h1;exact⟨a,us,w,M,M,e1,by rw[<- e2.len];exact h2,ML R hk ha (o:=.lst (l++[_])) ⟨_,M,e2.app (.cons rw' .nil)⟩ aM h3⟩
 .exact q.elim
def a0R:p6 X "list.extend" (C7 X.K ext3):=by
 refine mK (p6.or G3 CZ) λv vs H Q ⟨Y,S,d,ds,k,R,rd,rs,q,hk⟩=>?_;unfold ext3 at q;split at q
 .obtain⟨l,m,h1,h2,h3,h4⟩:=q;obtain⟨a,ha,rfl⟩:=rd;obtain⟨w,rfl,rw'⟩:=rs.one;obtain⟨us,e1,e2⟩:=R.ok _ a _ ha h1;rename_i d2 _;cases d2 with
  |ob m'=>
   obtain⟨b,ws,f1,f2,f3⟩:=b4 R rw' (show lq S (.ob m')=some m from h2);exact .inl ⟨a,b,us,ws,M,by rw[f1],e1,f2,by rw[<- e2.len,<- f3.len];exact h3,ML R hk ha (o:=.lst (l++m)) ⟨_,M,e2.app f3⟩ aM h4⟩
  |t y=>
   cases y with
   |lst m'=>
    obtain⟨b,ws,f1,f2,f3⟩:=b4 R rw' (show lq S (.t (.lst m'))=some m from h2);exact .inl ⟨a,b,us,ws,M,by rw[f1],e1,f2,by rw[<- e2.len,<- f3.len];exact h3,ML R hk ha (o:=.lst (l++m)) ⟨_,M,e2.app f3⟩ aM h4⟩
   |tup m'=>
    have h2:some m'=some m:=h2;injection h2 with h2
    subst h2;obtain⟨b,ws,f1,f2,f3⟩:=dj rw';exact .inr ⟨a,b,us,ws,M,by rw[f1],e1,.of f2,by rw[<- e2.len,<- f3.len];exact h3,ML R hk ha (o:=.lst (l++m')) ⟨_,M,e2.app f3⟩ aM h4⟩
   |Az m'=>cases h2
   |v _=>cases h2
   |ins _ _ _=>cases h2
 .exact q.elim
def a0L:p6 X "str.startswith" (C7 X.K Oo):=by
 refine mK GY ?_;rintro v vs H Q ⟨Y,S,d,ds,k,R,rd,rs,q,hk⟩;unfold Oo at q;split at q
 .obtain⟨w,rfl,rw'⟩:=rs.one;rw[ay rd,ay rw'];exact⟨_,_,M,M,fin R hk aM q⟩
 .exact q.elim
def WI:p6 X "str.join" (C7 X.K Mj):=by
 refine mK Qi ?_;rintro v vs H Q ⟨Y,S,d,ds,k,R,rd,rs,q,hk⟩;unfold Mj at q;split at q
 .obtain⟨ss,h1,h2,h3⟩:=q;obtain⟨w,rfl,rw'⟩:=rs.one;obtain⟨a,us,e1,e2,e3⟩:=b4 R rw' h1;rw[ay rd];rw[e3.strs] at e2;exact⟨_,a,ss,M,by rw[e1],e2,h2,fin R hk aM h3⟩
 .exact q.elim
theorem rA (ho:QE X o to)(ha:QA X [e] t)(h1:autoParam (notStar e=true) zi)(Ap:autoParam (attributeBase o "append" X.env (eval o X.env)=eval o X.env) zi)(B1:autoParam ((BM.endLine==cpos.line)=true) zi) :
  QE X (.Call (.Attribute o "append" BM) [e] [] cpos) (lG "list" XS to t):=yQ jcN PySem.F.slot_list_append PySem.F.type_list_append a0S ho ha h1 rfl (by decide) Ap B1
theorem SM (ho:QE X o to)(ha:QA X [e] t)(h1:autoParam (notStar e=true) zi)(Ap:autoParam (attributeBase o "extend" X.env (eval o X.env)=eval o X.env) zi)(B1:autoParam ((BM.endLine==cpos.line)=true) zi) :
  QE X (.Call (.Attribute o "extend" BM) [e] [] cpos) (lG "list" ext3 to t):=yQ jcN PySem.F.slot_list_extend PySem.F.type_list_extend a0R ho ha h1 rfl (by decide) Ap B1
theorem SJ (ho:QE X o to)(ha:QA X [e] t)(h1:autoParam (notStar e=true) zi)(Ap:autoParam (attributeBase o "startswith" X.env (eval o X.env)=eval o X.env) zi)(B1:autoParam ((BM.endLine==cpos.line)=true) zi) :
  QE X (.Call (.Attribute o "startswith" BM) [e] [] cpos) (lG "str" Oo to t):=yQ jbK PySem.F.slot_str_startswith PySem.F.type_str_startswith a0L ho ha h1 rfl (by decide) Ap B1
theorem Kn (ho:QE X o to)(ha:QA X [e] t)(h1:autoParam (notStar e=true) zi)(Ap:autoParam (attributeBase o "join" X.env (eval o X.env)=eval o X.env) zi)(B1:autoParam ((BM.endLine==cpos.line)=true) zi) :
  QE X (.Call (.Attribute o "join" BM) [e] [] cpos) (lG "str" Mj to t):=yQ jbK PySem.F.slot_str_join PySem.F.type_str_join WI ho ha h1 rfl (by decide) Ap B1
end
def IxL (a:D)(i:Int)(S:aO)(k:KD):Prop:=GV (sq S a) λl=>GV (L2.nQ l i) λx=>k (.t x) S
def IxL.of {a:D}{i:Int}{S:aO}{k:KD}(h:IxL a i S k):∃l x,sq S a=some l/\L2.nQ l i=some x/\k (.t x) S:=by
 obtain⟨l,e,h⟩:=mH h;obtain⟨x,e2,h⟩:=mH h;exact⟨l,x,e,e2,h⟩
def ix3:pM:=λa b S k=>b.iD.elim False λi=>a.sD.elim (IxL a i S k) λz=>z.length<=sizeLine/\∃c,nQ z.cps.toList i=some c/\k (.str ⟨#[c]⟩) S
section
variable {X:Cx}{a b e:Expr}{ta tb te:bH}{pos p2:Pos}
theorem aX.nQ {K:Frag}{G:Hp}{l:List T}{vs:List V}{i:Int}{x:T}(r:aX K G l vs)(h:L2.nQ l i=some x):∃v,L2.nQ vs i=some v/\Rp K G x v:=by
 unfold L2.nQ at h ⊢;rw[<- r.len];cases q:NO l.length i with
 |none=>rw[q] at h;cases h
 |some j=>rw[q] at h;exact r.get h
def a07:NZ X (S6 X.K ix3):=by
 intro value slice vy s U H x y v u Q I rx ry ⟨Y,S,a,b,k,R,ra,rb,q,hk⟩ hs;refine W5 value slice vy s U H x y v u Q I rx ry ?_ hs;rcases HN q with q | ⟨i,hb,q2⟩
 .exact q.elim
 cases D.xo hb;rcases HN q2 with q3 | ⟨z,ha,h1,c,h2,h3⟩
 .obtain⟨l,x',h1,h2,h3⟩:=q3.of;obtain⟨p,us,e1,e2,e3⟩:=ye R ra h1;obtain⟨w,f1,f2⟩:=e3.nQ h2;rcases e2 with e2 | e2
  .exact .inl ⟨p,us,_,w,e1,ay rb,e2,f1,fin R hk (d:=.t x') f2 h3⟩
  .exact .inr (.inl ⟨p,us,_,w,e1,ay rb,e2,f1,fin R hk (d:=.t x') f2 h3⟩)
 cases D.AI ha;exact .inr (.inr ⟨_,_,c,ay ra,ay rb,h1,h2,fin R hk aM h3⟩)
def AL (ha:QE X a ta)(hb:QE X b tb)(hs:autoParam (ue b) kt):QE X (.Subscript a b pos) (rZ ix3 ta tb):=bF (a0j a07 ha hb hs) k7
def eY (l:List T)(lo hi:Option Int):List T:=(l.drop (HT.d7 l.length 0 lo)).take (HT.d7 l.length l.length hi - HT.d7 l.length 0 lo)
def aX.cut {K:Frag}{G:Hp}{l:List T}{vs:List V}(r:aX K G l vs)(lo hi:Option Int):aX K G (eY l lo hi) (Bs vs lo hi):=by
 unfold eY Bs;rw[<- r.len];exact(r.dp _).tk _
abbrev Yv:=Sl->aO->(Option Int->aO->Prop)->Prop
def liO (K:Frag)(t:Yv):TO:=λU H Q=>∃Y S Z k,R3 K Y S H/\pY K Y (res Y H) Z U/\t Z S k/\∀o H',(∃Y' S',Gr Y H Y' H'/\R3 K Y' S' H'/\k o S')->Q o H'
def QO (X:Cx)(e:Option Expr)(t:Yv):Prop:=PO X e (liO X.K t)
def Y3:Yv:=λ_ S k=>k none S
def PtR (d:D)(f:Int->Prop):Prop:=GV d.iD f
def tPt (t:bH):Yv:=λZ S k=>t Z S λd S1=>PtR d λi=>k (some i) S1
def SR {o:Option Expr}{t t':TO}(h:PO X o t)(m:∀U H Q,t' U H Q->t U H Q):PO X o t':=λvy s U H Q I q=>h vy s U H Q I (m _ _ _ q)
def bq:QO X none Y3:=SR Ph (by rintro U H Q ⟨Y,S,Z,k,R,D,q,hk⟩;exact hk _ _ ⟨Y,S,.refl,R,q⟩)
theorem bg (h:QE X e te):QO X (some e) (tPt te):=SR (Pg h) (by rintro U H Q ⟨Y,S,Z,k,R,D,q,hk⟩;exact⟨Y,S,Z,_,R,D,q,(by
 rintro v H1 ⟨Y1,S1,d,g1,R1,r1,q1⟩;obtain⟨i,e,q1⟩:=mH q1;cases L3.D.xo e;exact⟨i,ay r1,hk _ _ ⟨Y1,S1,g1,R1,q1⟩⟩)⟩)
def Zv (mu:Bool):D->Option Int->Option Int->aO->KD->Prop
 |.t (.v (.str z)),lo,hi,S,k=>z.length<=sizeLine/\k (.str (Txt.slice z lo hi)) S
 |.t (.tup l),lo,hi,S,k=>¬(HT.d7 l.length 0 lo=0/\HT.d7 l.length l.length hi=l.length)/\k (.tup (eY l lo hi)) S
 |d,lo,hi,S,k=>∃l,lq S d=some l/\(if mu then k (.ob S.length) (S++[.lst (eY l lo hi)]) else k (.lst (eY l lo hi)) S)
def a35 (K:Frag)(r:D->Option Int->Option Int->aO->KD->Prop):V->Option Int->Option Int->Hp->VK->Prop:=λv lo hi H Q=>∃Y S d k,R3 K Y S H/\gm K Y (res Y H) d v/\r d lo hi S k/\∀v H',up K Y H k v H'->Q v H'
def Zu (mu:Bool):Rm X (a35 X.K (Zv mu)):=by
 intro vy s U H x v vl vu lo hi sl Q I rx hs pl pu ⟨Y,S,d,k,R,rd,q,hk⟩;refine(U4.or (U3.or Ou)) vy s U H x v vl vu lo hi sl Q I rx hs pl pu ?_;unfold Zv at q;split at q
 .exact .inl ⟨_,ay rd,q.1,fin R hk aM q.2⟩
 .obtain⟨a,vs,e1,e2,e3⟩:=dj rd;refine .inr (.inl ⟨a,vs,e1,.of e2,by rw[<- e3.len];exact q.1,MK R hk (e3.cut lo hi) q.2⟩)
 .obtain⟨l,h1,h2⟩:=q;obtain⟨a,vs,e1,e2,e3⟩:=b4 R rd h1;refine .inr (.inr ⟨a,vs,e1,.of e2,?_⟩);cases mu with
  |true=>exact QU R hk (e3.cut lo hi) h2
  |false=>exact zq R hk (e3.cut lo hi) h2
def YS (mu:Bool)(te:bH)(tl th:Yv):bH:=λZ S k=>te Z S λx S1=>tl Z S1 λl S2=>th Z S2 λu S3=>Zv mu x l u S3 k
theorem fJ (mu:Bool){lo hi:Option Expr}{tl th:Yv}(he:QE X e te)(hl:QO X lo tl)(hu:QO X hi th):QE X (.Subscript e (.Slice lo hi none p2) pos) (YS mu te tl th):=
 bF (KY (Zu mu) he hl hu) (by rintro U H Q ⟨Y,S,Z,k,R,D,q,hk⟩;exact⟨Y,S,Z,_,R,D,q,(by rintro v H1 ⟨Y1,S1,d,g1,R1,r1,q1⟩;exact⟨Y1,S1,Z,_,R1,D.gr g1,q1,(by rintro o H2 ⟨Y2,S2,g2,R2,q2⟩;exact   ⟨Y2,S2,Z,_,R2,D.gr (g1.trans g2),q2,(by rintro o2 H3 ⟨ρ3,S3,g3,pZ,q3⟩;exact⟨ρ3,S3,d,k,pZ,r1.gr (g2.trans g3),q3,λw H4 u=>hk w H4 (u.gr ((g1.trans g2).trans g3))⟩)⟩)⟩)⟩)
end
abbrev qJ:=D->Sl->aO->KS->Prop
abbrev wF:=List T->Sl->aO->KS->Prop
def liG (K:Frag)(g:qJ):TG:=λv U H Q=>∃Y S Z d k,R3 K Y S H/\pY K Y (res Y H) Z U/\gm K Y (res Y H) d v/\g d Z S k/\∀U' H',F6 K Y H k U' H'->Q U' H'
def a37 (K:Frag)(g:wF):Nj:=λvs U H Q=>∃Y S Z l k,R3 K Y S H/\pY K Y (res Y H) Z U/\aX K (res Y H) l vs/\g l Z S k/\∀U' H',F6 K Y H k U' H'->Q U' H'
def QG (X:Cx)(tg:Expr)(g:qJ):Prop:=PG X tg (liG X.K g)
def QGs (X:Cx)(tg:jc5)(g:wF):Prop:=T6 X tg (a37 X.K g)
def cI (i:Nat):qJ:=λd Z S k=>k (Z.set i (some d)) S
def a1o:wF:=λl Z S k=>l=[]/\k Z S
def Xh (g:qJ)(gs:wF):wF:=λl Z S k=>∃x r,l=x::r/\g (.t x) Z S λδ1 S1=>gs r δ1 S1 k
def a1l (n:Nat)(gs:wF):qJ:=λd Z S k=>∃l,d=.tup l/\l.length=n/\gs l Z S k
section
variable {X:Cx}{pos:Pos}{tg e c:Expr}{es:jc5}{te:bH}{g:qJ}{gs:wF}
def AO {t t':TG}(h:PG X tg t)(m:∀v U H Q,t' v U H Q->t v U H Q):PG X tg t':=λvy s U H v u Q I r q=>h vy s U H v u Q I r (m _ _ _ _ q)
def KQ {t t':Nj}(h:T6 X es t)(m:∀v U H Q,t' v U H Q->t v U H Q):T6 X es t':=λvy s U H v u Q I r q=>h vy s U H v u Q I r (m _ _ _ _ q)
theorem qg {i:Nat}{x:Str}(hN:X.N.Nodup)(hi:autoParam (X.N[i]?=some x) zi)(hx:autoParam (Loc X.env.scope x) kf)(hf:autoParam (X.fn x=true\/X.env.scope.names.lookup x=some .local) zr):QG X (.Name x pos) (cI i):=
 AO (ET hN hi hx hf) (by rintro v U H Q ⟨Y,S,Z,d,k,R,RS,rd,q,hk⟩;exact hk _ _ ⟨Y,S,Z.set i (some d),.refl,R,RS.set rd i,q⟩)
theorem oW:QGs X [] a1o:=KQ Pn (by
 rintro v U H Q ⟨Y,S,Z,l,k,R,RS,rl,⟨e,q⟩,hk⟩;subst e;unfold aX at rl;exact⟨rl,hk _ _ ⟨Y,S,Z,.refl,R,RS,q⟩⟩)
theorem HK (h1:QG X e g)(h2:QGs X es gs)(hs:autoParam ((assignEach (e::es) X.env).map (·.2)=assign e X.env::(assignEach es X.env).map (·.2)) zi):QGs X (e::es) (Xh g gs):=
 KQ (KR h1 h2 hs) (by
  rintro v U H Q ⟨Y,S,Z,l,k,R,RS,rl,⟨x,r,e,q⟩,hk⟩;subst e;unfold aX at rl;obtain⟨w,wr,e1,e2,e3⟩:=rl;refine⟨w,wr,e1,Y,S,Z,.t x,_,R,RS,e2,q,(by rintro σ1 H1 ⟨Y1,S1,δ1,g1,R1,Rn,q1⟩;exact⟨Y1,S1,δ1,r,k,R1,Rn,e3.le g1.le,q1,λU2 H2 u=>hk U2 H2 (u.gr g1)⟩)⟩)
theorem yP {k0 n:Nat}(hc:X.calm=true)(h:QGs X es gs)(hn:autoParam ((assignEach es X.env).length=n) zi)(hst:autoParam ((assignEach es X.env).findIdx? (·.1)=none) zi):QG X (.Tuple es k0 pos) (a1l n gs):=
 AO (V4 hc h hn hst) (by
  rintro v U H Q ⟨Y,S,Z,d,k,R,RS,rd,⟨l,e,hl,q⟩,hk⟩;subst e;obtain⟨a,vs,e1,e2,e3⟩:=dj rd;exact⟨a,vs,e1,.of e2,by rw[<- e3.len];exact hl,Y,S,Z,l,k,R,RS,e3,q,hk⟩)
def Jg:iW:=λE Z S=>E.nx Z S
def qZ (t u:iW):iW:=λE Z S=>t {E with nx:=λδ1 S1=>u E δ1 S1 } Z S
def uh (te:bH)(g:qJ):iW:=λE Z S=>te Z S λd S1=>g d Z S1 E.nx
def Jk (te:bH):iW:=λE Z S=>te Z S λ_ S1=>E.nx Z S1
def wQ (te:bH):iW:=λE Z S=>te Z S E.rt
def RM (c:mQ)(t u:iW):iW:=λE Z S=>c Z S λb S1=>if b=true then t E Z S1 else u E Z S1
def RK:iW:=λ_ _ _=>False
variable {st:Stmt}{rest a b:List Stmt}{t u:iW}{tc:mQ}
def bJ:cH X [] Jg:=CM O8 (by rintro D U H ⟨Y,S,Z,E,R,RS,q,eu⟩;exact eu.nx _ _ ⟨Y,S,Z,.refl,R,RS,q⟩)
def qs (h1:QS X st t)(h2:cH X rest u):cH X (st::rest) (qZ t u):=CM (AN h1 h2) (by rintro D U H ⟨Y,S,Z,E,R,RS,q,eu⟩;exact  ⟨Y,S,Z,_,R,RS,q,⟨(by rintro σ1 H1 ⟨Y1,S1,δ1,g1,R1,Rn,q1⟩;exact⟨Y1,S1,δ1,E,R1,Rn,q1,eu.gr g1⟩),eu.rt,eu.bk,eu.ct⟩⟩)
def bK (h1:QS X st t):cH X [st] t:=yR h1
def tT {sts:List Stmt}:cH X sts RK:=CM Gx (by rintro D U H ⟨Y,S,Z,E,R,RS,q,eu⟩;exact q)
def bO (he:QE X e te)(hs:autoParam (swapsWith e none pos.line X.env=pure false) zi):QS X (.Expr e pos) (Jk te):=gY (yS he hs) (by rintro D U H ⟨Y,S,Z,E,R,RS,q,eu⟩;exact  ⟨Y,S,Z,_,R,RS,q,(by rintro v H1 ⟨Y1,S1,d,g1,R1,r1,q1⟩;exact eu.nx _ _ ⟨Y1,S1,Z,g1,R1,RS.gr g1,q1⟩)⟩)
def aA (he:QE X e te):QS X (.Return (some e) pos) (wQ te):=gY (VS he) (by rintro D U H ⟨Y,S,Z,E,R,RS,q,eu⟩;exact⟨Y,S,Z,_,R,RS,q,eu.rt⟩)
theorem cz (hc:QT X c tc)(ha:cH X a t)(hb:cH X b u):QS X (.If c a b pos) (RM tc t u):=gY (a0d hc ha hb) (by rintro D U H ⟨Y,S,Z,E,R,RS,q,eu⟩;exact  ⟨Y,S,Z,_,R,RS,q,(by
  rintro v H1 ⟨Y1,S1,g1,R1,q1⟩;cases v with
  |true=>exact⟨Y1,S1,Z,E,R1,RS.gr g1,q1,eu.gr g1⟩
  |false=>exact⟨Y1,S1,Z,E,R1,RS.gr g1,q1,eu.gr g1⟩)⟩)
theorem aj {i:Nat}{x:Str}{pos':Pos}(hN:X.N.Nodup)(he:QE X e te)(hi:autoParam (X.N[i]?=some x) zi)(hx:autoParam (Loc X.env.scope x) kf)(hs:autoParam (swapsWith e (some (.Name x pos')) pos.line X.env=pure false) zi)(hf:autoParam (X.fn x=true\/X.env.scope.names.lookup x=some .local) zr) :
  QS X (.Assign [.Name x pos'] e pos) (uh te (cI i)):=gY (VR hN hi hx he hs hf) (by rintro D U H ⟨Y,S,Z,E,R,RS,q,eu⟩;exact  ⟨Y,S,Z,_,R,RS,q,(by rintro v H1 ⟨Y1,S1,d,g1,R1,r1,q1⟩;exact eu.nx _ _ ⟨Y1,S1,Z.set i (some d),g1,R1,(RS.gr g1).set r1 i,q1⟩)⟩)
theorem yO (he:QE X e te)(hg:QG X tg g)(hs:autoParam (swapsWithSole [tg] e pos.line X.env=pure false) zi)(hw:autoParam (swappedStores [tg] e X.env=pure none) zi)(h1:autoParam ((assignEach [tg] X.env).map (·.2)=[assign tg X.env]) zi) :
  QS X (.Assign [tg] e pos) (uh te g):=gY (VX he hg hs hw h1) (by rintro D U H ⟨Y,S,Z,E,R,RS,q,eu⟩;exact  ⟨Y,S,Z,_,R,RS,q,(by rintro v H1 ⟨Y1,S1,d,g1,R1,r1,q1⟩;exact⟨Y1,S1,Z,d,E.nx,R1,RS.gr g1,r1,q1,λU2 H2 u=>eu.nx _ _ (u.gr g1)⟩)⟩)
def Zj (i:Nat)(te:bH)(f:Int->Int->Int):iW:=λE Z S=>∃a,Z[i]?=some (some (.int a))/\te Z S λd S1=>∃b,d=.int b/\E.nx (Z.set i (some (.int (f a b)))) S1
theorem Vt {i:Nat}{x:Str}{op:Operator}{f:Int->Int->Int}{pos':Pos}(hN:X.N.Nodup)(he:QE X e te)(ho:PIp X op (ipI f))(hi:autoParam (X.N[i]?=some x) zi)(hx:autoParam (Loc X.env.scope x) kf)(hf:autoParam (X.fn x=true\/X.env.scope.names.lookup x=some .local) zr) :
  QS X (.AugAssign (.Name x pos') op e pos) (Zj i te f):=gY (VW hN hi hx he ho hf) λD U H ⟨Y,S,Z,E,R,RS,⟨a,ea,q⟩,eu⟩=>by
 obtain⟨v,e1,e2⟩:=RS.2 i _ ea;refine⟨v,e1,Y,S,Z,_,R,RS,q,?_⟩;rintro w H1 ⟨Y1,S1,d,g1,R1,r1,b,eb,q1⟩;subst eb;exact⟨a,b,ay e2,ay r1,eu.nx _ _ ⟨Y1,S1,_,g1,R1,(RS.gr g1).set (d:=.int (f a b)) aM i,q1⟩⟩
def Zi (to ti te:bH)(f:Int->Int->Int):iW:=λE Z S=>to Z S λo S1=>ti Z S1 λi S2=>∃(n j:Nat)(l:List T)(a:Int),o=.ob n/\i=.int (j:Nat)/\S2[n]?=some (.lst l)/\l[j]?=some (.int a)/\
 te Z S2 λd S3=>∃b l',d=.int b/\S3[n]?=some (.lst l')/\j<l'.length/\E.nx Z (S3.set n (.lst (l'.set j (.int (f a b)))))
theorem OW {o i:Expr}{to ti:bH}{op:Operator}{f:Int->Int->Int}{tpos:Pos}(ho:QE X o to)(hi:QE X i ti)(he:QE X e te)(hp:PIp X op (ipI f))
  (ha:autoParam (∀ov iv new,augStore i ov iv new=(do holding [new,ov,iv] (setItem ov iv new);release [new,ov,iv] [];pure .next)) ke):QS X (.AugAssign (.Subscript o i tpos) op e pos) (Zi to ti te f):=
 gY (Pd ho hi MC he hp set_list ha) λD U H ⟨Y,S,Z,E,R,RS,q,eu⟩=>⟨Y,S,Z,_,R,RS,q,λv1 H1 ⟨Y1,S1,d1,g1,R1,r1,q1⟩=>⟨Y1,S1,Z,_,R1,RS.gr g1,q1,(by
  rintro v2 H2 ⟨Y2,S2,d2,g2,R2,r2,n,j,l,a,h1,h2,h3,h4,q2⟩;subst h1 h2;obtain⟨p,hp,e1⟩:=r1.gr g2;obtain⟨vs,e2,e3⟩:=R2.ok n p _ hp h3;obtain⟨w,e4,e5⟩:=e3.get h4;refine⟨p,vs,j,w,e1,ay r2,.of e2,e4,Y2,S2,Z,_,R2,RS.gr (g1.trans g2),q2,?_⟩;rintro v3 H3 ⟨ρ3,S3,d3,g3,pZ,r3,b,l',h5,h6,h7,q3⟩;subst h5;have ew:w=V.int a:=by unfold Rp at e5;exact e5
  refine⟨a,b,ew,ay r3,?_⟩;have hp3:=g3.at hp;obtain⟨us,f1,f2⟩:=pZ.ok n p _ hp3 h6;refine⟨p,us,j,j,e1,ay r2,f1,?_,?_⟩
  .unfold NO;rw[jab (by omega),jab (by rw[<- f2.len];omega)];simp
  .have key:aX X.K (res ρ3 H3) (l'.set j (.int (f a b))) (us.set j (.int (f a b))):=aX.put (by unfold Rp;rfl) f2;obtain⟨R4,g4⟩:=pZ.put (o:=.lst (us.set j (.int (f a b)))) (u:=.lst (l'.set j (.int (f a b)))) hp3 ⟨_,M,key⟩;exact eu.nx _ _ ⟨ρ3,_,Z,((g1.trans g2).trans g3).trans g4,R4,(RS.gr ((g1.trans g2).trans g3)).gr g4,q3⟩)⟩⟩
end
abbrev F5:=Sl->aO->(List D->(aO->Prop)->aO->Prop)->Prop
structure NY (K:Frag)(J:It)(AC:List D)(G:aO->Prop)(ρ0:List Addr)(H0:Hp):Prop where
 go:∀i Y S H,Gr ρ0 H0 Y H->R3 K Y S H->G S->i<AC.length->J.go i H
 BX:∀i x Y S H H' d,Gr ρ0 H0 Y H->R3 K Y S H->G S->AC[i]?=some d->J.BX i H x H'->∃Y',Gr Y H Y' H'/\R3 K Y' S H'/\gm K Y' (res Y' H') d x
 stop:∀i Y S H,Gr ρ0 H0 Y H->R3 K Y S H->G S->AC.length<=i->i<=AC.length->J.stop i H
def liI (K:Frag)(w:F5):TI:=λU H R=>∃Y S Z k,R3 K Y S H/\pY K Y (res Y H) Z U/\w Z S k/\∀J H',(∃Y' S' AC G,Gr Y H Y' H'/\R3 K Y' S' H'/\NY K J AC G Y' H'/\k AC G S')->R J H'
def QI (X:Cx)(tg iter:Expr)(w:F5):Prop:=PI X tg iter (liI X.K w)
def bf (d:D)(S1:aO)(k:List D->(aO->Prop)->aO->Prop):Prop:=(∃l,(d=.tup l\/d=.lst l)/\k (l.map .t) (λ_=>True) S1)\/(∃n l,d=.ob n/\S1[n]?=some (.lst l)/\k (l.map .t) (λS=>S[n]?=some (.lst l)) S1)
def iSq (te:bH):F5:=λZ S k=>te Z S λd S1=>bf d S1 k
def a4u (t:jB):F5:=λZ S k=>t Z S λds S1=>∃j:Int,ds=[.int j]/\-(2 ^ 62)<=j/\j<2 ^ 62/\k ((List.range j.toNat).map λ(i:Nat)=>D.int i) (λ_=>True) S1
section
variable {X:Cx}{tg iter e:Expr}{te:bH}{pos p:Pos}
def w6 {t t':TI}(h:PI X tg iter t)(m:∀U H R,t' U H R->t U H R):PI X tg iter t':=λvy s U H R I q=>h vy s U H R I (m _ _ _ q)
theorem Mh {K:Frag}{Y:jc4}{H:Hp}{a:Addr}{l:List T}{vs:List V}(h:res Y H a=some (.lst vs))(r:aX K (res Y H) l vs):NY K (Itl K a) (l.map .t) (λ_=>True) Y H where
 go:=λi Y1 S1 H1 g R _ hi=>by
  have e:=(res_some (g.le _ _ h)).2;have hl:i<vs.length:=by rw[<- r.len];simpa using hi
  exact⟨vs,vs[i],.of e,jaz hl⟩
 BX:=λi x Y1 S1 H1 H' d g R _ hd y=>by
  obtain⟨rfl,y⟩:=y;have e:=(res_some (g.le _ _ h)).2;rw[jax] at hd;cases q:l[i]? with
  |none=>rw[q] at hd;cases hd
  |some z=>
   rw[q] at hd;cases hd;obtain⟨v,e1,e2⟩:=r.get q;have:=y vs (.of e);rw[e1] at this;cases this;exact⟨Y1,.refl,R,e2.le g.le⟩
 stop:=λi Y1 S1 H1 g R _ hi _=>by
  have e:=(res_some (g.le _ _ h)).2;exact⟨vs,.of e,by rw[<- r.len];simpa using hi⟩
theorem Qw {K:Frag}{Y:jc4}{H:Hp}{a:Addr}{l:List T}{vs:List V}(h:res Y H a=some (.tup vs))(r:aX K (res Y H) l vs):NY K (Itt K a) (l.map .t) (λ_=>True) Y H where
 go:=λi Y1 S1 H1 g R _ hi=>by
  have e:=(res_some (g.le _ _ h)).2;have hl:i<vs.length:=by rw[<- r.len];simpa using hi
  exact⟨vs,vs[i],.of e,jaz hl⟩
 BX:=λi x Y1 S1 H1 H' d g R _ hd y=>by
  obtain⟨rfl,y⟩:=y;have e:=(res_some (g.le _ _ h)).2;rw[jax] at hd;cases q:l[i]? with
  |none=>rw[q] at hd;cases hd
  |some z=>
   rw[q] at hd;cases hd;obtain⟨v,e1,e2⟩:=r.get q;have:=y vs (.of e);rw[e1] at this;cases this;exact⟨Y1,.refl,R,e2.le g.le⟩
 stop:=λi Y1 S1 H1 g R _ hi _=>by
  have e:=(res_some (g.le _ _ h)).2;exact⟨vs,.of e,by rw[<- r.len];simpa using hi⟩
theorem WZ {K:Frag}{Y:jc4}{H:Hp}{n:Nat}{a:Addr}{l:List T}(ha:Y[n]?=some a):NY K (Itl K a) (l.map .t) (λS=>S[n]?=some (.lst l)) Y H where
 go:=λi Y1 S1 H1 g R hS hi=>by
  obtain⟨vs,e,r⟩:=R.ok n a _ (g.at ha) hS;have hl:i<vs.length:=by rw[<- r.len];simpa using hi
  exact⟨vs,vs[i],.of e,jaz hl⟩
 BX:=λi x Y1 S1 H1 H' d g R hS hd y=>by
  obtain⟨rfl,y⟩:=y;obtain⟨vs,e,r⟩:=R.ok n a _ (g.at ha) hS;rw[jax] at hd;cases q:l[i]? with
  |none=>rw[q] at hd;cases hd
  |some z=>
   rw[q] at hd;cases hd;obtain⟨v,e1,e2⟩:=r.get q;have:=y vs (.of e);rw[e1] at this;cases this;exact⟨Y1,.refl,R,e2⟩
 stop:=λi Y1 S1 H1 g R hS hi _=>by
  obtain⟨vs,e,r⟩:=R.ok n a _ (g.at ha) hS;exact⟨vs,.of e,by rw[<- r.len];simpa using hi⟩
theorem qi (he:QE X iter te):QI X tg iter (iSq te):=w6 (V2 he) (by rintro U H Q ⟨Y,S,Z,k,R,D,q,hk⟩;exact⟨Y,S,Z,_,R,D,q,(by
 rintro v H1 ⟨Y1,S1,d,g1,R1,r1,q1⟩;rcases q1 with⟨l,rfl | rfl,q1⟩ | ⟨n,l,rfl,h,q1⟩
 .have r1:Rp _ _ _ _:=r1;unfold Rp at r1;obtain⟨a,vs,e1,e2,e3⟩:=r1;exact⟨a,e1,.inr ⟨⟨vs,.of (res_some e2).2⟩,hk _ _ ⟨Y1,S1,_,_,g1,R1,Qw e2 e3,q1⟩⟩⟩
 .have r1:Rp _ _ _ _:=r1;unfold Rp at r1;obtain⟨a,vs,e1,e2,e3⟩:=r1;exact⟨a,e1,.inl ⟨⟨vs,.of (res_some e2).2⟩,hk _ _ ⟨Y1,S1,_,_,g1,R1,Mh e2 e3,q1⟩⟩⟩
 .obtain⟨a,ha,e⟩:=r1;obtain⟨vs,e2,e3⟩:=R1.ok n a _ ha h;exact⟨a,e,.inl ⟨⟨vs,.of e2⟩,hk _ _ ⟨Y1,S1,_,_,g1,R1,WZ ha,q1⟩⟩⟩)⟩)
theorem Qy {K:Frag}{Y:jc4}{H:Hp}{n:Nat}:NY K (Itr 0 n) ((List.range n).map λ(i:Nat)=>D.int i) (λ_=>True) Y H where
 go:=λi Y1 S1 H1 g R _ hi=>by show i<n;simpa using hi
 BX:=λi x Y1 S1 H1 H' d g R _ hd y=>by
  obtain⟨rfl,y⟩:=y;rw[jax] at hd;cases q:(List.range n)[i]? with
  |none=>rw[q] at hd;cases hd
  |some z=>
   rw[q] at hd;cases hd;have:=jb2 (n:=n) (i:=i) (by have:=(jao.mp q).1;simpa using this);rw[this] at q;cases q;subst y;refine⟨Y1,.refl,R,?_⟩;show Rp _ _ _ _;unfold Rp;rw[Int.zero_add]
 stop:=λi Y1 S1 H1 g R _ hi _=>by show n<=i;simpa using hi
theorem CL {a:Expr}{t:jB}(hg:Gl X "range")(hm:X.mg "range"=none)(ha:QA X [a] t)(hs:autoParam (starEach [a] X.env=[(false,eval a X.env)]) zi):QI X tg (.Call (.Name "range" p) [a] [] pos) (a4u t):=
 w6 (GA hg hm ha hs) (by rintro U H Q ⟨Y,S,Z,k,R,D,q,hk⟩;exact⟨Y,S,Z,_,R,D,q,(by
  rintro v H1 ⟨Y1,S1,d,g1,R1,r1,j,e,h1,h2,q1⟩;subst e;obtain⟨w,rfl,rw'⟩:=r1.one;rw[ay rw'];exact⟨j,M,h1,h2,hk _ _ ⟨Y1,S1,_,_,g1,R1,Qy,q1⟩⟩)⟩)
def wj (G:aO->Prop)(g:qJ)(tb:iW):List D->iW
 |[]=>λE Z S=>G S/\E.nx Z S
 |x::r=>λE Z S=>G S/\g x Z S λδ1 S1=>tb {E with nx:=wj G g tb r E,ct:=wj G g tb r E,bk:=E.nx } δ1 S1
def Za (w:F5)(g:qJ)(tb:iW):iW:=λE Z S=>w Z S λAC G S1=>wj G g tb AC E Z S1
variable {g:qJ}{tb:iW}{body:List Stmt}
theorem nh {w:F5}(hp:PassesOwn (model X.prog X.w) X.A X.env X.xe)(hc:X.calm=true)(hi:QI X tg iter w)(hg:QG X tg g)(hb:cH X body tb)(hs:autoParam (∀x,foldedSetIterable iter X.env x=pure x) jp) :
  QS X (.For tg iter body [] pos) (Za w g tb):=gY (VT hp hc hi hg hb hs) λD U H ⟨Y,S,Z,E,R,RS,q,eu⟩=>⟨Y,S,Z,_,R,RS,q,λJ H1 ⟨Y1,S1,AC,G,g1,R1,jo,q1⟩=>by
 refine⟨λi m U' H'=>m=AC.length - i/\i<=AC.length/\∃Y' S' Z',Gr Y1 H1 Y' H'/\R3 X.K Y' S' H'/\pY X.K Y' (res Y' H') Z' U'/\wj G g tb (AC.drop i) E Z' S',⟨AC.length,by simp,jaT _,Y1,S1,Z,.refl,R1,RS.gr g1,q1⟩,?_⟩;rintro i m U' H' ⟨rfl,hi,Y',S',Z',g',R',RS',q'⟩;by_cases hlt:i<AC.length
 .rw[jbv hlt] at q';obtain⟨hG,q'⟩:=q';refine .inr ⟨jo.go i Y' S' H' g' R' hG hlt,_,λU2 H2 z=>z,λx H2 y=>?_⟩;obtain⟨Y2,g2,R2,r2⟩:=jo.BX i x Y' S' H' H2 AC[i] g' R' hG (jaz hlt) y;refine⟨Y2,S',Z',AC[i],_,R2,RS'.gr g2,r2,q',λσ3 H3 ⟨ρ3,S3,δ3,g3,pZ,Yx,q3⟩=>⟨ρ3,S3,δ3,_,pZ,Yx,q3,?_⟩⟩;have gg:=((g1.trans g').trans g2).trans g3;have fwd:∀σ4 H4,F6 X.K ρ3 H3 (wj G g tb (AC.drop (i+1)) E) σ4 H4->∃m',m' < AC.length - i/\(m'=AC.length - (i+1)/\i+1<=AC.length/\∃Y' S' Z',Gr Y1 H1 Y' H4/\R3 X.K Y' S' H4/\pY X.K Y' (res Y' H4) Z' σ4/\wj G g tb (AC.drop (i+1)) E Z' S'):=
   (by rintro σ4 H4 ⟨ρ4,S4,δ4,g4,R4,RS4,q4⟩;exact⟨AC.length - (i+1),by omega,M,hlt,ρ4,S4,δ4,((g'.trans g2).trans g3).trans g4,R4,RS4,q4⟩)
  exact⟨fwd,λv H4 u=>eu.rt v H4 (u.gr gg),λσ4 H4 u=>eu.nx σ4 H4 (u.gr gg),fwd⟩
 .have e:AC.drop i=[]:=jcP (by omega);rw[e] at q';exact .inl ⟨jo.stop i Y' S' H' g' R' q'.1 (by omega) (by omega),eu.nx _ _ ⟨Y',S',Z',g1.trans g',R',RS',q'.2⟩⟩⟩
end
def SmS (own:Nat)(U U':St):Prop:=U'.length=U.length/\∀i:Nat,own<=i->U'[i]?=U[i]?
def WN (K:Frag)(own:Nat)(g:qJ):TG:=λv U H Q=>∃Y S Z d k,R3 K Y S H/\pY K Y (res Y H) Z U/\gm K Y (res Y H) d v/\g d Z S k/\∀U' H',F6 K Y H k U' H'->SmS own U U'->Q U' H'
def QX (X:Cx)(own:Nat)(tg:Expr)(g:qJ):Prop:=PG X tg (WN X.K own g)
section
variable {X:Cx}{pos:Pos}{tg e:Expr}{es:jc5}{g:qJ}{gs:wF}{own:Nat}
theorem qx {i:Nat}{x:Str}(hN:X.N.Nodup)(hi:autoParam (X.N[i]?=some x) zi)(ho:autoParam (i<own) zn)(hx:autoParam (Loc X.env.scope x) kf)(hf:autoParam (X.fn x=true\/X.env.scope.names.lookup x=some .local) zr):QX X own (.Name x pos) (cI i):=
 AO (ET hN hi hx hf) λv U H Q ⟨Y,S,Z,d,k,R,RS,rd,q,hk⟩=>hk _ _ ⟨Y,S,Z.set i (some d),.refl,R,RS.set rd i,q⟩ ⟨by simp,λj hj=>jbL (by omega)⟩
end
def st3 (own:Nat)(fr:jc8)(Z:Sl):Sl:=List.replicate own none++fr.map λj=>(Z[j]?).join
def eG (G:aO->Prop)(g:qJ)(tt:mQ)(te:bH)(δ0:Sl):List D->aO->List T->(List T->aO->Prop)->Prop
 |[],S,ys,k=>G S/\k ys S
 |x::r,S,ys,k=>G S/\g x δ0 S λδ1 S1=>tt δ1 S1 λb S2=>if b=true then te δ1 S2 λd S3=>∃y,d=.t y/\ys.length<sizeLine/\eG G g tt te δ0 r S3 (ys++[y]) k else eG G g tt te δ0 r S2 ys k
def Cw (own:Nat)(fr:jc8)(w:F5)(g:qJ)(tt:mQ)(te:bH):bH:=λZ S k=>w Z S λAC G S1=>eG G g tt te (st3 own fr Z) AC S1 [] λys S2=>k (.lst ys) S2
def Jm (own:Nat)(fr:jc8)(w:F5)(g:qJ)(tt:mQ)(te:bH):bH:=λZ S k=>w Z S λAC G S1=>eG G g tt te (st3 own fr Z) AC S1 [] λys S2=>k (.ob S2.length) (S2++[.lst ys])
def QTs (X:Cx)(cs:jc5)(t:mQ):Prop:=Nm X cs (NL X.K t)
def Zl:mQ:=λ_ S k=>k true S
theorem pY.wV {K:Frag}{Y:jc4}{G:Hp}{Z:Sl}{U:St}(r:pY K Y G Z U)(own:Nat)(fr:jc8):pY K Y G (st3 own fr Z) (wV own fr U):=by
 refine⟨by unfold st3 L2.wV;simp,λi d h=>?_⟩;unfold st3 at h;unfold L2.wV;by_cases hi:i<own
 .rw[jaF (by simpa using hi),jbW,jab hi] at h;cases h
 .rw[ja7 (by simpa using hi),jbX,jax] at h ⊢;cases e:fr[i - own]? with
  |none=>rw[e] at h;cases h
  |some j=>
   rw[e] at h;have h:(Z[j]?).join=some d:=jaw h;have h2:Z[j]?=some (some d):=by
    cases q:Z[j]? with
    |none=>rw[q] at h;cases h
    |some o=>rw[q] at h;exact jae some h
   obtain⟨v,e1,e2⟩:=r.2 j d h2;exact⟨v,by show some ((U[j]?).join)=some (some v);rw[e1];rfl,e2⟩
def Jw {own:Nat}{fr:jc8}{U U':St}(h:SmS own (wV own fr U) U'):Ext (wV own fr U) U':=by
 refine⟨h.1,λi v e=>?_⟩;by_cases hi:i<own
 .unfold L2.wV at e;rw[jaF (by simpa using hi),jbW,jab hi] at e;cases e
 .rw[h.2 i (by omega)];exact e
section
variable {X:Cx}{sc:Scope}{cl:List (Str×Addr)}{own:Nat}{N:jc2}{fr:jc8}{elt tg iter:Expr}{cs:jc5}{pos spos py:Pos}{w:F5}{g:qJ}{tt:mQ}{te:bH}
def dQ:QTs X [] Zl:=(by rintro vy s U H Q I ⟨Y,S,Z,k,R,D,q,hk⟩;exact O6 vy s U H Q I (hk _ _ ⟨Y,S,.refl,R,q⟩))
def EI {c:Expr}{t:mQ}(hc:QT X c t):QTs X [c] t:=O5 hc
theorem RE {U:St}{H1:Hp}{Y1:jc4}{S1:aO}{Z:Sl}{J:It}{AC:List D}{G:aO->Prop}{k:List T->aO->Prop}{R:List V->Hp->Prop}(RS:pY X.K Y1 (res Y1 H1) Z U)(R1:R3 X.K Y1 S1 H1)(jo:NY X.K J AC G Y1 H1)
  (q:eG G g tt te (st3 own fr Z) AC S1 [] k) (hR:∀Y2 S2 H2 ys l,Gr Y1 H1 Y2 H2->R3 X.K Y2 S2 H2->aX X.K (res Y2 H2) l ys->k l S2->R ys H2) :
  ∃W:Nat->Nat->List V->Hp->Prop,(∃m,W 0 m [] H1)/\FY J (WN X.K own g) (NL X.K tt) (li X.K te) (wV own fr U) W R:=by
 refine⟨λi m ys H'=>m=AC.length - i/\i<=AC.length/\∃Y' S' l,Gr Y1 H1 Y' H'/\R3 X.K Y' S' H'/\aX X.K (res Y' H') l ys/\eG G g tt te (st3 own fr Z) (AC.drop i) S' l k,⟨AC.length,by simp,jaT _,Y1,S1,[],.refl,R1,.nil,q⟩,?_⟩;rintro i m ys H' ⟨rfl,hi,Y',S',l,g',R',rl,q'⟩;by_cases hlt:i<AC.length
 .rw[jbv hlt] at q';obtain⟨hG,q'⟩:=q';refine .inr ⟨jo.go i Y' S' H' g' R' hG hlt,λys' H2=>∃Y2 S2 l2,Gr Y1 H1 Y2 H2/\R3 X.K Y2 S2 H2/\aX X.K (res Y2 H2) l2 ys'/\eG G g tt te (st3 own fr Z) (AC.drop (i+1)) S2 l2 k,λys' H2 z=>⟨AC.length - (i+1),by omega,M,hlt,z⟩,λx H2 y=>?_⟩;obtain⟨Y2,g2,R2,r2⟩:=jo.BX i x Y' S' H' H2 AC[i] g' R' hG (jaz hlt) y;refine⟨Y2,S',st3 own fr Z,AC[i],_,R2,(RS.gr (g'.trans g2)).wV own fr,r2,q',λσ3 H3 ⟨ρ3,S3,δ3,g3,pZ,Yx,q3⟩ sm=>⟨Jw sm,ρ3,S3,δ3,_,pZ,Yx,q3,?_⟩⟩;rintro b H4 ⟨ρ4,S4,g4,R4,q4⟩;cases b with
  |false=>exact⟨ρ4,S4,l,(((g'.trans g2).trans g3).trans g4),R4,rl.le ((g2.trans g3).trans g4).le,q4⟩
  |true=>
   refine⟨ρ4,S4,δ3,_,R4,Yx.gr g4,q4,?_⟩;rintro v H5 ⟨ρ5,S5,d,g5,R5,r5,z,hz,hl,q5⟩;subst hz;have gg:=((g2.trans g3).trans g4).trans g5;exact⟨by rw[<- rl.len];exact hl,ρ5,S5,l++[z],g'.trans gg,R5,(rl.le gg.le).app (.cons r5 .nil),q5⟩
 .have e:AC.drop i=[]:=jcP (by omega);rw[e] at q';exact .inl ⟨jo.stop i Y' S' H' g' R' q'.1 (by omega) (by omega),hR Y' S' H' ys l g' R' rl q'.2⟩
def xw:∀U H Q,li X.K (Cw own fr w g tt te) U H Q->Ao own fr (liI X.K w) (WN X.K own g) (NL X.K tt) (li X.K te) U H Q:=(by rintro U H Q ⟨Y,S,Z,k,R,D,q,hk⟩;exact  ⟨Y,S,Z,_,R,D,q,(by rintro J H1 ⟨Y1,S1,AC,G,g1,R1,jo,q1⟩;exact RE (D.gr g1) R1 jo q1 λY2 S2 H2 ys l g2 R2 rl q2=>zq R2 (λv H' u=>hk v H' (u.gr (g1.trans g2))) rl q2)⟩)
def Dy:∀U H Q,li X.K (Jm own fr w g tt te) U H Q->Ao own fr (liI X.K w) (WN X.K own g) (NL X.K tt) (li X.K te) U H Q:=(by rintro U H Q ⟨Y,S,Z,k,R,D,q,hk⟩;exact  ⟨Y,S,Z,_,R,D,q,(by rintro J H1 ⟨Y1,S1,AC,G,g1,R1,jo,q1⟩;exact RE (D.gr g1) R1 jo q1 λY2 S2 H2 ys l g2 R2 rl q2=>QU R2 (λv H' u=>hk v H' (u.gr (g1.trans g2))) rl q2)⟩)
theorem fP (S:iE X sc cl own N fr)(hc:X.calm=true)(hi:QI X tg iter w)(hg:∀C s H fp,QX (Ab X sc N cl C s H fp) own tg g)
  (ht:∀C s H fp,QTs (Ab X sc N cl C s H fp) cs tt) (he:∀C s H fp,QE (Ab X sc N cl C s H fp) elt te) (hs:autoParam (∀x,foldedSetIterable iter X.env x=pure x) jp) :
  QE X (.ListComp elt [⟨tg,iter,cs,0⟩] sc pos) (Cw own fr w g tt te):=bF (Px (g:=WN X.K own g) (tt:=NL X.K tt) (te:=li X.K te) S hc hi hg ht he hs) xw
theorem Kf {i:Nat}{y:Str}(hN:X.N.Nodup)(S:iE X sc cl own N fr)(hc:X.calm=true)(hi:QI X tg iter w)(hg:∀C s H fp,QX (Ab X sc N cl C s H fp) own tg g)
  (ht:∀C s H fp,QTs (Ab X sc N cl C s H fp) cs tt) (he:∀C s H fp,QE (Ab X sc N cl C s H fp) elt te) (hiy:autoParam (X.N[i]?=some y) zi) (hy:autoParam (Loc X.env.scope y) kf)
  (hsw:autoParam (swapsWith (.ListComp elt [⟨tg,iter,cs,0⟩] sc pos) (some (.Name y py)) spos.line X.env=pure true) zi) (hs:autoParam (∀x,foldedSetIterable iter X.env x=pure x) jp)
  (hf:autoParam (X.fn y=true\/X.env.scope.names.lookup y=some .local) zr) :
  QS X (.Assign [.Name y py] (.ListComp elt [⟨tg,iter,cs,0⟩] sc pos) spos) (uh (Jm own fr w g tt te) (cI i)):=
 gY (Pa (g:=WN X.K own g) (tt:=NL X.K tt) (te:=li X.K te) hN hiy hy S hc hi hg ht he hsw hs hf) (by rintro D U H ⟨Y,S,Z,E,R,RS,q,eu⟩;exact Dy _ _ _ ⟨Y,S,Z,_,R,RS,q,(by rintro v H1 ⟨Y1,S1,d,g1,R1,r1,q1⟩;exact eu.nx _ _ ⟨Y1,S1,Z.set i (some d),g1,R1,(RS.gr g1).set r1 i,q1⟩)⟩)
end
def closes (L:Nat)(d:D)(S':aO)(k:KD):Prop:=
 (∃S0 S1,S'=S0++S1/\S0.length=L/\(∀o∈S0,Bw L o)/\Yu L d/\k d S0)\/
 (∃m o S0 S1,d=.ob m/\L<=m/\S'=S0++S1/\S0.length=L/\(∀o∈S0,Bw L o)/\S'[m]?=some o/\Bw L o/\k (.ob L) (S0++[o]))\/
 (∃m l S0 S1,d=.ob m/\L<=m/\S'=S0++S1/\S0.length=L/\(∀o∈S0,Bw L o)/\S'[m]?=some (.lst l)/\k (.lst l) S0)\/k d S'
def mU (N:jc2)(ds:List D):Sl:=ds.map some++List.replicate (N.length - ds.length) none
theorem pY.start {K:Frag}{Y:jc4}{G:Hp}{ds:List D}{vs:List V}(r:cZ K Y G ds vs)(N:jc2):pY K Y G (mU N ds) (start N vs):=by
 have hl:ds.length=vs.length:=cZ.len r;refine⟨by unfold mU L2.start;simp[hl],λi d h=>?_⟩;unfold mU at h;unfold L2.start;by_cases hi:i<ds.length
 .rw[jaF (by simpa using hi),jax] at h;rw[jaF (by simpa[<- hl] using hi),jax];cases e:ds[i]? with
  |none=>rw[e] at h;cases h
  |some x=>
   rw[e] at h;cases h;have gt:∀{l:List D}{m:List V}{i:Nat}{x:D},Paired (gm K Y G) l m->l[i]?=some x->∃v,m[i]?=some v/\gm K Y G x v:=by
    intro l m i x r
    induction r generalizing i with
    |nil=>intro e;simp at e
    |cons a t ih=>
     intro e;cases i with
     |zero=>simp at e;subst e;exact⟨_,M,a⟩
     |succ i=>obtain⟨v,h1,h2⟩:=ih (i:=i) (by simpa using e);exact⟨v,by simpa using h1,h2⟩
   obtain⟨v,h1,h2⟩:=gt r e;exact⟨v,by rw[h1];rfl,h2⟩
 .rw[ja7 (by simpa using hi),jbW] at h;split at h<;>cases h
def pG {K:Frag}{Y:jc4}{S:aO}{H:Hp}{k:KD}{v:V}{H':Hp}(R:R3 K Y S H)(h:up K Y H (λd S'=>closes S.length d S' k) v H'):up K Y H k v H':=by
 obtain⟨Y',S',d,g,R',r,c⟩:=h;obtain⟨ex,hex⟩:=g.ext;subst hex;rcases c with⟨S0,S1,rfl,hl,hc,hd,q⟩ | ⟨m,o,S0,S1,rfl,hm,rfl,hl,hc,ho,hco,q⟩ | ⟨m,l,S0,S1,rfl,hm,rfl,hl,hc,ho,q⟩ | q
 .refine⟨Y,S0,d,⟨⟨[],by simp⟩,g.le.trans fZ⟩,R'.pop (by rw[R.len,hl]) (by rw[hl];exact hc),r.pop fZ (by rw[R.len];exact hd),q⟩
 .obtain⟨a,ha,rfl⟩:=r;have hρ:Y.length=S0.length:=by rw[R.len,hl]
  have R0:R3 K Y S0 H':=R'.pop hρ (by rw[hl];exact hc);have na:a∉Y:=λz=>by
   obtain⟨n,hn⟩:=jcS.mp z;have l1:=(jao.mp hn).1;have:=lu R'.nd (by rw[jaF l1];exact hn) ha;have:=R.len;omega
  have le:Le (res (Y++ex) H') (res (Y++[a]) H'):=λb o h=>by
   obtain⟨h1,h2⟩:=res_some h;refine j9 (λz=>h1 ?_) h2;rcases jaU.mp z with z | z
   .exact jaX _ z
   .rw[jaE.mp z];exact jbd ha
  have pre:∀(n:Nat)(b:Addr),Y[n]?=some b->(Y++[a])[n]?=some b:=λn b e=>by
   rw[jaF (jao.mp e).1];exact e
  refine⟨Y++[a],S0++[o],.ob S.length,⟨⟨[a],M⟩,g.le.trans le⟩,⟨by simp[hρ],?_,λn b u e1 e2=>?_⟩,⟨a,by rw[<- R.len];simp,M⟩,q⟩
  .rw[jcA];refine⟨R0.nd,by simp,λx hx y hy=>?_⟩;rw[jaE.mp hy];exact λz=>na (z ▸ hx)
  .by_cases hn:n<Y.length
   .rw[jaF hn] at e1;have hn2:n<S0.length:=by omega
    rw[jaF hn2] at e2;have q0:=R'.ok n b u (by rw[jaF hn];exact e1) (by rw[jaF hn2];exact e2);exact(q0.pop le (by rw[R.len];exact hc u (jbd e2))).le' pre (Le.refl _)
   .have l1:=(jao.mp e1).1;rw[jaD,jbY] at l1;have hn':n=Y.length:=by omega
    subst hn';rw[ja7 (jaj _),jbU] at e1;rw[ja7 (by omega),hρ,jbU] at e2;cases e1;cases e2;exact((R'.ok m a o ha ho).pop le (by rw[R.len];exact hco)).le' pre (Le.refl _)
 .obtain⟨a,ha,rfl⟩:=r;have hρ:Y.length=S0.length:=by rw[R.len,hl]
  have na:a∉Y:=λz=>by
   obtain⟨n,hn⟩:=jcS.mp z;have l1:=(jao.mp hn).1;have:=lu R'.nd (by rw[jaF l1];exact hn) ha;have:=R.len;omega
  obtain⟨vs,h1,h2⟩:=R'.ok m a _ ha ho;refine⟨Y,S0,.lst l,⟨⟨[],by simp⟩,g.le.trans fZ⟩,R'.pop hρ (by rw[hl];exact hc),?_,q⟩;show Rp _ _ _ _;unfold Rp;exact⟨a,vs,M,j9 na h1,h2.le fZ⟩
 .exact⟨_,S',d,g,R',r,q⟩
def endsF (S:aO)(k:KD):mR:={nx:=λ_ S'=>closes S.length .ck S' k,rt:=λd S'=>closes S.length d S' k }
def Q6 {S S1:aO}{x:T}{k:KD}(c:∀o∈S,Bw S.length o)(h:k (.t x) S):closes S.length (.t x) (S++S1) k:=.inl ⟨S,S1,M,M,c,trivial,h⟩
def jL {S:aO}{x:T}{k:KD}(c:∀o∈S,Bw S.length o)(h:k (.t x) S):closes S.length (.t x) S k:=.inr (.inr (.inr h))
theorem a1F {S S1:aO}{j:Nat}{l:List T}{k:KD}(c:∀o∈S,Bw S.length o)(e:S1[j]?=some (.lst l))(h:k (.lst l) S):closes S.length (.ob (S.length+j)) (S++S1) k:=
 .inr (.inr (.inl ⟨_,l,S,S1,M,by omega,M,M,c,by rw[ja7 (by omega),jb8];exact e,h⟩))
def lA {S S1:aO}{j:Nat}:(S++S1)[S.length+j]?=S1[j]?:=by rw[ja7 (by omega),jb8]
def fD {S S1:aO}{j:Nat}{o:O}:(S++S1).set (S.length+j) o=S++S1.set j o:=by rw[List.set_append_right _ _ (by omega),jb8]
def Cl (S:aO):Prop:=∀o∈S,Bw S.length o
section
variable {P:Program}{w:World}{K:Frag}{mg:Str->jc7}{base:Heap}
inductive DfR (X:Cx) (b:List Stmt) (N:List Str) (sp:fG):Prop
 |mk (t:iW) (h:cH X b t) (h2:∀ds S kk,Cl S->(∀d∈ds,Yu S.length d)->sp ds S kk->t (endsF S kk) (mU N ds) S)
theorem zA {x qual:Str}{st:Stmt}{f:Addr}{fd:FuncData}{N ps:jc2}{k:Nat}{sp:fG}(F:b6 K x qual st f fd)(S:au N ps (ah st))(len:∀ds S k,sp ds S k->ds.length=ps.length)
  (hb:∀(AT:Value)(A:Around)(outer:List Env)(s:Shared)(H:Hp)(E:XK),bR k (A.deeper (PyProof.Rows.envOfC qual (ah st) s.heap.objs.size f AT))->
   DfR (zC dh P w K mg base N qual (ah st) f AT A outer s H E).Yh (ak st) N sp):aG P w K mg base dh (k+1) f fd ps (cY K sp):=by
 refine F.ok S (λvs H Q E ⟨Y,S,ds,kk,R,rd,q,_⟩=>by rw[<- cZ.len rd];exact len ds S kk q) ?_;rintro AT A outer s H vs Q E hr ⟨Y,S,ds,kk,R,rd,q,hk⟩;obtain⟨t,h1,h2⟩:=hb AT A outer s H E hr;refine⟨_,h1,Y,S,mU N ds,endsF S kk,R,pY.start rd N,h2 ds S kk R.cl (λd hd=>?_) q,?_⟩
 .obtain⟨v,z⟩:=gZ rd d hd;rw[<- R.len];exact z.cl
 .refine⟨(by rintro U H' ⟨Y',S',Z',g',R',RS',q'⟩;exact hk _ _ (pG R ⟨Y',S',.ck,g',R',aM,q'⟩)),λv H' u=>hk _ _ (pG R u),(by rintro U H' ⟨_,_,_,_,_,_,z⟩;exact z),(by rintro U H' ⟨_,_,_,_,_,_,z⟩;exact z)⟩
end
end L3
namespace PySem
open L2
section
variable {m:Nat}{ow:Array (Option Nat)}
end
end PySem
namespace PySem
open L2
section
variable {prog:Program}{w:World}{A:Around}{E:jc0}{s:Shared}
end
end PySem
namespace L2
open PySem PySem.Spec PyProof.Rows Hw
section
variable {X:Cx}
end
end L2
namespace L3
open PySem L2 Hw
def G9:D->Option Key
 |.t (.v (.str x))=>some (Sum.inr x)
 |.t (.v (.int i))=>some (Sum.inl i)
 |_=>none
def gF (l:List (Key×T))(k:Key):Option T:=(l.find? λp=>decide (p.1=k)).map (·.2)
def dput (l:List (Key×T))(k:Key)(v:T):List (Key×T):=if(l.any λp=>decide (p.1=k))=true then l.map (λp=>if p.1=k then(p.1,v) else p) else l++[(k,v)]
abbrev T4 (K:Frag)(G:Hp):List (Key×T)->List (Key×V)->Prop:=Paired λp q=>p.1=q.1/\Rp K G p.2 q.2
section
variable {K:Frag}{G:Hp}
def oZ {Y:jc4}{d:D}{v:V}{k:Key}(r:gm K Y G d v)(h:G9 d=some k):v=kV k:=by
 unfold G9 at h;split at h
 .cases h;exact ay r
 .cases h;exact ay r
 .cases h
def pA {l:List (Key×T)}{kvs:List (Key×V)}(r:T4 K G l kvs)(k:Key):(∀x,gF l k=some x->∃v,nW kvs k=some v/\Rp K G x v)/\(gF l k=none->nW kvs k=none):=by
 induction r with
 |nil=>exact⟨(λx h=>nomatch h),λ_=>rfl⟩
 | @cons p q ps qs h t ih=>
  by_cases e:p.1=k
  .have e':q.1=k:=h.1 ▸ e;have a:gF (p::ps) k=some p.2:=by unfold gF;simp[jbA,e]
   rw[a,nU e'];exact⟨λx z=>by cases z;exact⟨_,M,h.2⟩,λz=>nomatch z⟩
  .have e':¬ q.1=k:=λz=>e (h.1.trans z);have a:gF (p::ps) k=gF ps k:=by unfold gF;simp[jbA,e]
   rw[a,nV e'];exact ih
def Rj {l:List (Key×T)}{kvs:List (Key×V)}(r:T4 K G l kvs)(k:Key):(l.any λp=>decide (p.1=k))=(kvs.any λp=>decide (p.1=k)):=by
 induction r with
 |nil=>rfl
 | @cons p q ps qs h t ih=>rw[jbG,jbG,ih,h.1]
def Qk {l:List (Key×T)}{kvs:List (Key×V)}(r:T4 K G l kvs)(k:Key){x:T}{v:V}(h:Rp K G x v):T4 K G (l.map λp=>if p.1=k then(p.1,x) else p) (kvs.map λp=>if p.1=k then(p.1,v) else p):=by
 induction r with
 |nil=>exact .nil
 | @cons p q ps qs h' t ih=>
  rw[jal,jal];refine .cons ?_ ih;by_cases e:p.1=k
  .rw[jab e,jab (h'.1 ▸ e)];exact⟨h'.1,h⟩
  .rw[jaa e,jaa (λz=>e (h'.1.trans z))];exact h'
theorem uQ {α β:Type}{F:α->β->Prop}:∀{l l':List α}{m m':List β},Paired F l m->Paired F l' m'->Paired F (l++l') (m++m')
 |_,_,_,_,.nil,h=>h
 |_,_,_,_,.cons r t,h=>.cons r (uQ t h)
def MU {l:List (Key×T)}{kvs:List (Key×V)}(r:T4 K G l kvs)(k:Key){x:T}{v:V}(h:Rp K G x v):T4 K G (dput l k x) (putK kvs k v):=by
 unfold dput putK;rw[Rj r k];by_cases e:(kvs.any λp=>decide (p.1=k))=true
 .rw[jab e,jab e];exact Qk r k h
 .rw[jaa e,jaa e];exact uQ r (.cons ⟨M,h⟩ .nil)
end
inductive a1B (a b:D) (S:aO) (k:KD):Prop
 |mk (n:Nat) (l:List (Key×T)) (key:Key) (x:T) (h:a=.ob n) (h1:S[n]?=some (.sy l)) (h2:G9 b=some key) (h3:gF l key=some x) (hk:k (.t x) S)
section
variable {X:Cx}{o i e f value:Expr}{to ti te tx tv:bH}{pos pos' BM cpos:Pos}{t:jB}
theorem Kq (hu:X.A.units+1<cLine)(ho:QE X o to)(hi:QE X i ti)(hs:autoParam (Ro i) kt):QE X (.Subscript o i pos) (rZ a1B to ti):=
 bF (EU hu ho hi hs) (by rintro U H Q ⟨Y,S,Z,k,R,D,q,hk⟩;exact⟨Y,S,Z,_,R,D,q,(by rintro v H1 ⟨Y1,S1,d1,g1,R1,r1,q1⟩;exact⟨Y1,S1,Z,_,R1,D.gr g1,q1,(by
  rintro w H2 ⟨Y2,S2,d2,g2,R2,r2,n,l,key,x,h1,h2,h3,h4,q2⟩;subst h1;obtain⟨a,ha,e1⟩:=r1.gr g2;obtain⟨kvs,e2,e3⟩:=R2.ok n a _ ha h2;obtain⟨u,e4,e5⟩:=(pA e3 key).1 x h4;exact⟨a,u,e1,by rw[oZ r2 h3,<- e4];exact zY.k e2,hk _ _ ⟨Y2,S2,.t x,g1.trans g2,R2,e5,q2⟩⟩)⟩)⟩)
def UM:bH:=λ_ S k=>k (.ob S.length) (S++[.sy []])
def VA:QE X (.Dict [] [] pos) UM:=bF K1 λU H Q ⟨Y,S,Z,k,R,D,q,hk⟩ p hp=>Xm R hk p hp (o:=.sy []) ⟨[],M,.nil⟩ q
def Vf (to ti tv:bH):iW:=λE Z S=>tv Z S λy S1=>to Z S1 λo S2=>ti Z S2 λi S3=>∃n l key x,o=.ob n/\S3[n]?=some (.sy l)/\G9 i=some key/\y=.t x/\l.length<sizeLine/\E.nx Z (S3.set n (.sy (dput l key x)))
theorem EJ (hu:X.A.units+1<cLine)(ho:QE X o to)(hi:QE X i ti)(hv:QE X value tv)(hs:autoParam (swapsWith value (some (.Subscript o i pos')) pos.line X.env=pure false) zi):QS X (.Assign [.Subscript o i pos'] value pos) (Vf to ti tv):=
 gY (Pc hu ho hi hv hs) (by rintro D U H ⟨Y,S,Z,E,R,RS,q,eu⟩;exact⟨Y,S,Z,_,R,RS,q,(by rintro v H1 ⟨Y1,S1,d1,g1,R1,r1,q1⟩;exact⟨Y1,S1,Z,_,R1,RS.gr g1,q1,(by rintro w H2 ⟨Y2,S2,d2,g2,R2,r2,q2⟩;exact   ⟨Y2,S2,Z,_,R2,RS.gr (g1.trans g2),q2,(by
   rintro z H3 ⟨ρ3,S3,d3,g3,pZ,r3,n,l,key,x,h1,h2,h3,h4,h5,q3⟩;subst h1 h4;obtain⟨a,ha,e1⟩:=r2.gr g3;obtain⟨kvs,e2,e3⟩:=pZ.ok n a _ ha h2;have hl:kvs.length<sizeLine:=by rw[<- jbc e3];exact h5
   obtain⟨R4,g4⟩:=pZ.put (o:=.dK (putK kvs key v)) (u:=.sy (dput l key x)) ha ⟨_,M,MU e3 key (r1.gr (g2.trans g3))⟩;refine⟨a,_,e1,by rw[oZ r3 h3];exact NB.k e2 hl,eu.nx _ _ ⟨ρ3,_,Z,((g1.trans g2).trans g3).trans g4,R4,(RS.gr ((g1.trans g2).trans g3)).gr g4,q3⟩⟩)⟩)⟩)⟩)
def Oh (to ti tx:bH):bH:=λZ S k=>to Z S λo S1=>∃n l0,o=.ob n/\S1[n]?=some (.sy l0)/\ti Z S1 λi S2=>tx Z S2 λz S3=>∃l key,S3[n]?=some (.sy l)/\G9 i=some key/\k (match gF l key with | some x=>.t x | none=>z) S3
theorem EM (hu:X.A.units+1<cLine)(ho:QE X o to)(he:QE X e te)(hf:QE X f tx)(m:M2 X o "get" BM e f cpos:=by exact⟨M,M,M,M⟩):QE X (.Call (.Attribute o "get" BM) [e,f] [] cpos) (Oh to te tx):=
 bF (K2 hu ho he hf m) λU H Q ⟨Y,S,Z,k,R,D,q,hk⟩=>⟨Y,S,Z,_,R,D,q,(by
  rintro v H1 ⟨Y1,S1,d1,g1,R1,r1,n,l0,h1,h2,q1⟩;subst h1;obtain⟨a,ha,e1⟩:=r1;obtain⟨kvs,e2,e3⟩:=R1.ok n a _ ha h2;refine⟨a,e1,.inl ⟨kvs,.inl e2⟩,Y1,S1,Z,_,R1,D.gr g1,q1,λw H2 ⟨Y2,S2,d2,g2,R2,r2,q2⟩=>⟨Y2,S2,Z,_,R2,D.gr (g1.trans g2),q2,?_⟩⟩;rintro z H3 ⟨ρ3,S3,d3,g3,pZ,r3,l,key,h3,h4,q3⟩;obtain⟨kvs',f1,f2⟩:=pZ.ok n a _ ((g2.trans g3).at ha) h3;refine⟨nW kvs' key,by rw[oZ (r2.gr g3) h4];exact zY.k f1,?_⟩;have gg:=(g1.trans g2).trans g3;cases c:gF l key with
  |none=>rw[c] at q3;rw[(pA f2 key).2 c];exact hk _ _ ⟨ρ3,S3,d3,gg,pZ,r3,q3⟩
  |some x=>
   rw[c] at q3;obtain⟨u,i1,i2⟩:=(pA f2 key).1 x c;rw[i1];exact hk _ _ ⟨ρ3,S3,.t x,gg,pZ,i2,q3⟩)⟩
end
noncomputable def qA (x:Str):jc2->jc2
 |[]=>[x]
 |y::r=>if lt x y=true then x::y::r else if x=y then y::r else y::qA x r
def Ex:jc2->jc2:=List.foldr qA []
theorem vj {x z:Str}:∀{l:jc2},z∈qA x l↔z=x\/z∈l
 |[]=>by simp[qA]
 |y::r=>by
  unfold qA;by_cases h:lt x y=true
  .rw[jab h,jak]
  .rw[jaa h];by_cases e:x=y
   .subst e;rw[jab M,jak];constructor
    .intro q;exact .inr q
    .rintro(q | q)
     .exact .inl q
     .exact q
   .rw[jaa e,jak,vj,jak];constructor
    .rintro(q | q | q)
     .exact .inr (.inl q)
     .exact .inl q
     .exact .inr (.inr q)
    .rintro(q | q | q)
     .exact .inr (.inl q)
     .exact .inl q
     .exact .inr (.inr q)
theorem oB {z:Str}:∀{l:jc2},z∈Ex l↔z∈l
 |[]=>Iff.rfl
 |x::r=>by
  show z∈qA x (Ex r)↔_;rw[vj,oB,jak]
theorem Fj {x:Str}:∀{l:jc2},l.Pairwise (λa b=>lt a b=true)->(qA x l).Pairwise λa b=>lt a b=true
 |[],_=>by unfold qA;simp
 |y::r,h=>by
  unfold qA;by_cases e:lt x y=true
  .rw[jab e];refine jbD.mpr ⟨λz hz=>?_,h⟩;rcases jak.mp hz with rfl | hz
   .exact e
   .exact lt_trans e ((jbD.mp h).1 z hz)
  .rw[jaa e];by_cases q:x=y
   .rw[jab q];exact h
   .rw[jaa q];refine jbD.mpr ⟨λz hz=>?_,Fj (jbD.mp h).2⟩;rcases vj.mp hz with rfl | hz
    .rcases ze z y with a | a | a
     .exact absurd a e
     .exact absurd a q
     .exact a
    .exact(jbD.mp h).1 z hz
theorem xY:∀(l:jc2),(Ex l).Pairwise λa b=>lt a b=true
 |[]=>.nil
 |x::r=>Fj (xY r)
def UZ {l ys:jc2}(h:ys.Pairwise (λa b=>lt b a=false))(n:ys.Nodup)(m:∀x,x∈ys↔x∈l):ys=Ex l:=qk (AJ h n) (xY l) λx=>(m x).trans oB.symm
def U0 {l m:jc2}(h:∀x,x∈l↔x∈m):Ex l=Ex m:=qk (xY l) (xY m) λx=>(oB.trans (h x)).trans oB.symm
def JO:HB
 |[.ob n],S,k=>∃l ss,S[n]?=some (.sy l)/\l.map (·.1)=List.map (Sum.inr:Str->Key) ss/\ss.Nodup/\l.length<64/\k (.lst ((Ex ss).map T.str)) S
 |_,_,_=>False
section
variable {X:Cx}{e f:Expr}{te tf:bH}{p1 p2 p3 p4 p5 pos pos':Pos}
def L6 {K:Frag}{G:Hp}{l:List (Key×T)}{kvs:List (Key×V)}(r:T4 K G l kvs):kvs.map (·.1)=l.map (·.1):=by
 induction r with
 |nil=>rfl
 |cons h t ih=>rw[jal,jal,ih,h.1]
def Rf (hc:X.calm=true):Call3 X (.builtin "sorted") JO:=by
 refine gf (zF hc) ?_;rintro vs H Q ⟨Y,S,ds,k,R,rd,q,hk⟩;unfold JO at q;split at q
 .obtain⟨l,ss,h1,h2,h3,h4,h5⟩:=q;obtain⟨v,rfl,a,ha,rfl⟩:=rd.one;obtain⟨kvs,e1,e2⟩:=R.ok _ a _ ha h1;refine⟨a,kvs,ss,M,e1,by rw[L6 e2];exact h2,by rw[<- jbc e2];exact h4,λl' ys hl hp hs=>?_⟩;rw[UZ hs (hp.nodup_iff.mpr h3) (λx=>hp.mem_iff)];exact zq R hk (aX.ofStrs _) h5 l' hl
 .exact q.elim
end
theorem Ba (x:Str):∀l:jc2,(qA x l).length<=l.length+1
 |[]=>by simp[qA]
 |y::r=>by
  unfold qA;split
  .simp
  .split
   .simp
   .have:=Ba x r;simp only[jaA];omega
theorem xZ:∀l:jc2,(Ex l).length<=l.length
 |[]=>jaj _
 |x::r=>by
  have h1:=Ba x (Ex r);have h2:=xZ r;show(qA x (Ex r)).length<=r.length+1;omega
def uE {k:Nat}{A:Around}(hr:bR k A):A.units+1+40<cLine:=by have:=hr.un;omega
section
variable {P:Program}{w:World}{K:Frag}{mg:Str->jc7}{base:Heap}{j k:Nat}{x m:Str}{C:Addr}{ps:jc2}
def Dn.up {sp:Sp}(h:Dn P w K mg base j x ps sp)(l:j<=k):Dn P w K mg base k x ps sp:=let⟨f,fd,F,a⟩:=h;⟨f,fd,F.mono l,a⟩
def Mt.up {sp:Sp}(h:Mt P w K mg base j C m ps sp)(l:j<=k):Mt P w K mg base k C m ps sp:=let⟨f,fd,F,a⟩:=h;⟨f,fd,F.mono l,a⟩
def Ms.up {n:Nat}{cl:Nat->Addr}{sp:Nat->fG}(h:Ms P w K mg base j n cl m ps sp)(l:j<=k):Ms P w K mg base k n cl m ps sp:=λi hi=>Mt.up (h i hi) l
def qK (P:Program)(w:World)(K:Frag)(mg:Str->jc7)(base:Heap)(k:Nat)(C:Addr)(x:Str)(ps:jc2)(sp:fG):Prop:=∃j,j<k/\Mkr P w K mg base j C x ps sp
def qK.up {sp:fG}(h:qK P w K mg base j C x ps sp)(l:j<=k):qK P w K mg base k C x ps sp:=let⟨i,a,b⟩:=h;⟨i,jaB a l,b⟩
end
section
variable {X:Cx}{o e i:Expr}{es:jc5}{ta te:bH}{t:jB}{f m x:Str}{pos BM p:Pos}{k:Nat}{ps:jc2}{sp:fG}{C:Addr}
theorem lH (F:qK X.prog X.w X.K X.mg X.base k C x ps sp)(hr:bR k X.A)(hg:Gl X x)(ha:QA X (e::es) t)(h1:autoParam (notStar e=true) zi)(h2:autoParam (es.all notStar=true) zi)(hdb:autoParam ((x==("__debug__":Str))=false) zn) :
  QE X (.Call (.Name x p) (e::es) [] pos) (qc C sp t):=let⟨_,hj,F⟩:=F;Vz F (hr.mono hj) hg ha h1 h2 hdb
theorem Z3 (F:qK X.prog X.w X.K X.mg X.base k C x ps sp)(hr:bR k X.A)(hg:Gl X x)(ha:QA X (e::es) t)(h1:autoParam (notStar e=true) zi)(h2:autoParam (es.all notStar=true) zi)(hdb:autoParam ((x==("__debug__":Str))=false) zn) :
  QE X (.Call (.Name x p) (e::es) [] pos) (Ji C sp t):=let⟨_,hj,F⟩:=F;OX F (hr.mono hj) hg ha h1 h2 hdb
structure Cm (P:Program)(w:World)(K:Frag)(mg:Str->Option Value)(base:Heap)(k:Nat)(x m:Str)(ps:List Str)(sp:fG):Prop where
 ok:∃(C f:Addr)(fd:FuncData),aG P w K mg base dh k f fd ps (cY K sp)/\mg x=some (.ref C)/\specialIn K (.ref C) "__getattribute__"=some (some (.builtin "type.__getattribute__"))/\readsIn K C (.type "type")=true/\
  findCls K (.ref C) (.type "type") m=some (.val (.ref f))/\keepIn K (.ref f)=true/\Binds K fd ps []
theorem jj {pl:Sem Bool}(F:Cm X.prog X.w X.K X.mg X.base k x m ps sp)(hr:bR k X.A)(hg:Gl X x)(ha:QA X (e::es) t)(h1:autoParam (notStar e=true) zi)(h2:autoParam (es.all notStar=true) zi)(hdb:autoParam ((x==("__debug__":Str))=false) zn)
  (ht:autoParam (eval (.Call (.Attribute (.Name x p) m BM) (e::es) [] pos) X.env=(do
   let ov <- eval (.Name x p) X.env
   standAt BM.atName
   let(f,first) <- holding [ov] (getMethod ov m pl)
   callWith pos f first (backTo pos (starEach (e::es) X.env)) (backToKw pos (keywordEach [] X.env)))) zi) :
  QE X (.Call (.Attribute (.Name x p) m BM) (e::es) [] pos) (i9 sp t):=by
 obtain⟨C,f,fd,F,hm,s1,s2,s3,hk,hb⟩:=F.ok;refine bF (EV hg hm s1 s2 s3 rfl hk F hr hb rB ha (cU h1) (c6 h2) hdb ht) λU H Q ⟨Y,S,Z,k,R,D,q,hk⟩=>⟨Y,S,Z,_,R,D,q,?_⟩
 rintro v H1 ⟨Y1,S1,d,g1,R1,r1,q1⟩;show cY X.K sp (v++[]) H1 Q E0;rw[jaK];exact LZ g1 R1 r1 q1 hk
def Wz:D->aO->KD->Prop
 |.t (.v (.int i)),S,k=>k (.int (-i)) S
 |_,_,_=>False
def Y6 (t:bH):bH:=λZ S k=>t Z S λd S1=>Wz d S1 k
theorem EK (h:QE X e te):QE X (.UnaryOp .USub e pos) (Y6 te):=bF (a0g Ux h) (by rintro U H Q ⟨Y,S,Z,k,R,D,q,hk⟩;exact⟨Y,S,Z,_,R,D,q,(by
 rintro v H1 ⟨Y1,S1,d,g1,R1,r1,q1⟩
 replace q1:Wz d S1 k:=q1
 unfold Wz at q1;split at q1
 .exact⟨_,ay r1,hk _ _ ⟨Y1,S1,_,g1,R1,aM,q1⟩⟩
 .exact q1.elim)⟩)
def cO {xs:jc2}(h:A7 e=some xs):QE X e (λ_ S k=>xs.length<=sizeLine/\k (.lst (xs.map T.str)) S):=bF (Po h) (by rintro U H Q ⟨Y,S,Z,k,R,D,q,hk⟩;exact⟨by rw[jad];exact q.1,zq R hk (aX.ofStrs xs) q.2⟩)
end
def newL (mu:Bool)(l:List T)(S:aO)(k:KD):Prop:=if mu then k (.ob S.length) (S++[.lst l]) else k (.lst l) S
def CF (mu:Bool):BV
 |.t (.v (.str a)),[.t (.v (.str b))],S,k=>(b.length==0)=false/\a.length+2<=sizeLine/\newL mu ((Txt.split a b).map T.str) S k
 |_,_,_,_=>False
def part3:BV
 |.t (.v (.str a)),[.t (.v (.str b))],S,k=>(b.length==0)=false/\a.length<=sizeLine/\k (.tup [.str (Txt.partition a b).1,.str (Txt.partition a b).2.1,.str (Txt.partition a b).2.2]) S
 |_,_,_,_=>False
def WK:BV
 |.t (.v (.str a)),[.t (.v (.str b))],S,k=>a.length<=sizeLine/\k (.str (Txt.lstripChars a b)) S
 |_,_,_,_=>False
def Vl:BV
 |.t (.v (.str a)),[.t (.v (.str b))],S,k=>a.length<=sizeLine/\k (.str (Txt.rstripChars a b)) S
 |_,_,_,_=>False
def VY:BV
 |.ob n,[],S,k=>∃l x,S[n]?=some (.lst (l++[x]))/\k (.t x) (S.set n (.lst l))
 |_,_,_,_=>False
def W9:BV
 |d,[.t (.v (.str x))],S,k=>∃(a b:jc2),lq S d=some ((a++x::b).map T.str)/\x∉a/\k (.int a.length) S
 |_,_,_,_=>False
def Td:HB
 |[.t (.v (.str x))],S,k=>∃n:Int,PySem.intText? x=some n/\x.length<=640/\k (.int n) S
 |_,_,_=>False
section
variable {X:Cx}{x:Str}{p pos BM cpos:Pos}{e o i value:Expr}{es:jc5}{t:jB}{to ti tv:bH}{id ty:String}{r:BV}
def m_split (mu:Bool):p6 X "str.split" (C7 X.K (CF mu)):=by
 refine mK LO ?_;rintro v vs H Q ⟨Y,S,d,ds,k,R,rd,rs,q,hk⟩;unfold CF at q;split at q
 .obtain⟨h1,h2,h3⟩:=q;obtain⟨w,rfl,rw'⟩:=rs.one;rw[ay rd,ay rw'];refine⟨_,_,M,M,h1,h2,?_⟩;cases mu with
  |true=>exact QU R hk (aX.ofStrs _) h3
  |false=>exact zq R hk (aX.ofStrs _) h3
 .exact q.elim
def WH:p6 X "str.partition" (C7 X.K part3):=by
 refine mK Qh ?_;rintro v vs H Q ⟨Y,S,d,ds,k,R,rd,rs,q,hk⟩;unfold part3 at q;split at q
 .obtain⟨h1,h2,h3⟩:=q;obtain⟨w,rfl,rw'⟩:=rs.one;rw[ay rd,ay rw'];exact⟨_,_,M,M,h1,h2,MK R hk (aX.ofStrs [_,_,_]) h3⟩
 .exact q.elim
def a0P:p6 X "str.lstrip" (C7 X.K WK):=by
 refine mK G2 ?_;rintro v vs H Q ⟨Y,S,d,ds,k,R,rd,rs,q,hk⟩;unfold WK at q;split at q
 .obtain⟨w,rfl,rw'⟩:=rs.one;rw[ay rd,ay rw'];exact⟨_,_,M,M,q.1,fin R hk aM q.2⟩
 .exact q.elim
def a0M:p6 X "str.rstrip" (C7 X.K Vl):=by
 refine mK GZ ?_;rintro v vs H Q ⟨Y,S,d,ds,k,R,rd,rs,q,hk⟩;unfold Vl at q;split at q
 .obtain⟨w,rfl,rw'⟩:=rs.one;rw[ay rd,ay rw'];exact⟨_,_,M,M,q.1,fin R hk aM q.2⟩
 .exact q.elim
theorem aX.snoc {K:Frag}{G:Hp}{x:T}:∀{l:List T}{vs:List V},aX K G (l++[x]) vs->∃us v,vs=us++[v]/\aX K G l us/\Rp K G x v
 |[],vs,r=>by
  rw[jbQ] at r;unfold aX at r;obtain⟨v,vr,e1,e2,e3⟩:=r;unfold aX at e3;exact⟨[],v,by rw[e1,e3];rfl,by unfold aX;rfl,e2⟩
 |y::l,vs,r=>by
  rw[ja8] at r;unfold aX at r;obtain⟨v,vr,e1,e2,e3⟩:=r;obtain⟨us,w,f1,f2,f3⟩:=aX.snoc e3;exact⟨v::us,w,by rw[e1,f1];rfl,by unfold aX;exact⟨v,us,M,e2,f2⟩,f3⟩
def a0O:p6 X "list.pop" (C7 X.K VY):=by
 refine mK WC ?_;rintro v vs H Q ⟨Y,S,d,ds,k,R,rd,rs,q,hk⟩;unfold VY at q;split at q
 .obtain⟨l,x,h1,h2⟩:=q;obtain⟨a,ha,rfl⟩:=rd;cases rs;obtain⟨us,e1,e2⟩:=R.ok _ a _ ha h1;obtain⟨u1,v1,rfl,f1,f2⟩:=aX.snoc e2;refine⟨a,u1++[v1],v1,M,M,e1,?_,?_⟩
  .rw[jaD,jbY,Nat.add_sub_cancel,ja7 (jaj _),jbU];rfl
  .rw[List.dropLast_concat];exact ML R hk ha (o:=.lst l) ⟨_,M,f1⟩ (d:=.t x) f2 h2
 .exact q.elim
def a0Q:p6 X "list.index" (C7 X.K W9):=by
 refine mK Qj ?_;rintro v vs H Q ⟨Y,S,d,ds,k,R,rd,rs,q,hk⟩;unfold W9 at q;split at q
 .rename_i x;obtain⟨a,b,h1,h2,h3⟩:=q;obtain⟨w,rfl,rw'⟩:=rs.one;obtain⟨p,us,e1,e2,e3⟩:=b4 R rd h1;rw[e3.strs] at e2;rw[ay rw'];refine⟨p,_,.str _,.str _,a.length,e1,M,e2,M,?_,?_,vp M,?_,fin R hk aM h3⟩
  .exact lB _
  .rw[jaO,ja7 (by simp)];simp
  .intro i hi c hc;rw[jaO,jaF (by simpa using hi),jax] at hc;obtain⟨y,hy,rfl⟩:=jcO.mp hc;have:y≠x:=λe=>h2 (e ▸ jbd hy);show(y==_)=false;exact jcE this
 .exact q.elim
def XN:Call3 X (.type "int") Td:=by
 refine gf Hy ?_;rintro vs H Q ⟨Y,S,ds,k,R,rd,q,hk⟩;unfold Td at q;split at q
 .obtain⟨n,h1,h2,h3⟩:=q;obtain⟨w,rfl,rw'⟩:=rd.one;rw[ay rw'];exact⟨_,n,M,h1,h2,fin R hk aM h3⟩
 .exact q.elim
theorem tU (mu:Bool)(ho:QE X o to)(ha:QA X [e] t)(h1:autoParam (notStar e=true) zi)(Ap:autoParam (attributeBase o "split" X.env (eval o X.env)=eval o X.env) zi)(B1:autoParam ((BM.endLine==cpos.line)=true) zi) :
  QE X (.Call (.Attribute o "split" BM) [e] [] cpos) (lG "str" (CF mu) to t):=yQ jbK PySem.F.slot_str_split PySem.F.type_str_split (m_split mu) ho ha h1 rfl (by decide) Ap B1
theorem Vx (ho:QE X o to)(ha:QA X [e] t)(h1:autoParam (notStar e=true) zi)(Ap:autoParam (attributeBase o "partition" X.env (eval o X.env)=eval o X.env) zi)(B1:autoParam ((BM.endLine==cpos.line)=true) zi) :
  QE X (.Call (.Attribute o "partition" BM) [e] [] cpos) (lG "str" part3 to t):=yQ jbK PySem.F.slot_str_partition PySem.F.type_str_partition WH ho ha h1 rfl (by decide) Ap B1
theorem Km (ho:QE X o to)(ha:QA X [e] t)(h1:autoParam (notStar e=true) zi)(Ap:autoParam (attributeBase o "lstrip" X.env (eval o X.env)=eval o X.env) zi)(B1:autoParam ((BM.endLine==cpos.line)=true) zi) :
  QE X (.Call (.Attribute o "lstrip" BM) [e] [] cpos) (lG "str" WK to t):=yQ jbK PySem.F.slot_str_lstrip PySem.F.type_str_lstrip a0P ho ha h1 rfl (by decide) Ap B1
theorem Kh (ho:QE X o to)(ha:QA X [e] t)(h1:autoParam (notStar e=true) zi)(Ap:autoParam (attributeBase o "rstrip" X.env (eval o X.env)=eval o X.env) zi)(B1:autoParam ((BM.endLine==cpos.line)=true) zi) :
  QE X (.Call (.Attribute o "rstrip" BM) [e] [] cpos) (lG "str" Vl to t):=yQ jbK PySem.F.slot_str_rstrip PySem.F.type_str_rstrip a0M ho ha h1 rfl (by decide) Ap B1
theorem Z0 (ho:QE X o to)(Ap:autoParam (attributeBase o "pop" X.env (eval o X.env)=eval o X.env) zi)(B1:autoParam ((BM.endLine==cpos.line)=true) zi) :
  QE X (.Call (.Attribute o "pop" BM) [] [] cpos) (lG "list" VY to cK):=bF (Wd jcN PySem.F.slot_list_pop PySem.F.type_list_pop a0O ho Ap B1) LP
theorem Kp (ho:QE X o to)(ha:QA X [e] t)(h1:autoParam (notStar e=true) zi)(Ap:autoParam (attributeBase o "index" X.env (eval o X.env)=eval o X.env) zi)(B1:autoParam ((BM.endLine==cpos.line)=true) zi) :
  QE X (.Call (.Attribute o "index" BM) [e] [] cpos) (lG "list" W9 to t):=yQ jcN PySem.F.slot_list_index PySem.F.type_list_index a0Q ho ha h1 rfl (by decide) Ap B1
end
def xW (r r':pM)(ta tb tc:bH):bH:=λZ S k=>ta Z S λx S1=>tb Z S1 λy S2=>r x y S2 λz S3=>∃b,z=.bl b/\(if b=true then tc Z S3 λw' S4=>r' y w' S4 k else k (.bl false) S3)
def Qo:pM
 |.t (.v (.str i)),.t (.v (.str j)),S,k=>k (.bl (!(decide (j.cps.toList<i.cps.toList)))) S
 |_,_,_,_=>False
section
variable {X:Cx}{a b c:Expr}{ta tb tc:bH}{pos:Pos}
def E2:sG X (compareOp .LtE) Qo:=by
 refine ez GJ ?_;rintro x y H Q ⟨Y,S,a,b,k,R,ra,rb,q,hk⟩;unfold Qo at q;split at q
 .exact⟨_,_,ay ra,ay rb,fin R hk aM q⟩
 .exact q.elim
theorem vD {r r':pM}:∀U H Q,li X.K (xW r r' ta tb tc) U H Q->CA (S6 X.K r) (S6 X.K r') (li X.K ta) (li X.K tb) (li X.K tc) U H Q:=λU H Q ⟨Y,S,Z,k,R,D,q,hk⟩=>
 ⟨Y,S,Z,_,R,D,q,λv H1 ⟨Y1,S1,d1,g1,R1,r1,q1⟩=>⟨Y1,S1,Z,_,R1,D.gr g1,q1,λw H2 ⟨Y2,S2,d2,g2,R2,r2,q2⟩=>
  ⟨Y2,S2,d1,d2,_,R2,r1.gr g2,r2,q2,(by
   rintro z H3 ⟨ρ3,S3,d3,g3,pZ,r3,b,e,q3⟩;subst e;refine⟨b,ay r3,?_⟩;have g13:=g1.trans (g2.trans g3);cases b with
   |false=>exact hk _ _ ⟨ρ3,S3,.bl false,g13,pZ,aM,q3⟩
   |true=>exact⟨ρ3,S3,Z,_,pZ,D.gr g13,q3,(by rintro w' H4 ⟨ρ4,S4,d4,g4,R4,r4,q4⟩;exact⟨ρ4,S4,d2,d4,k,R4,r2.gr (g3.trans g4),r4,q4,λz H5 u=>hk z H5 (u.gr (g13.trans g4))⟩)⟩)⟩⟩⟩
theorem EN {op op':CmpOp}{r r':pM}(ho:sG X (compareOp op) r)(ho':sG X (compareOp op') r')(ha:QE X a ta)(hb:QE X b tb)(hc:QE X c tc)
  (hm:autoParam (lastMarks [op,op'] [b,c]=false) kn):QE X (.Compare a [op,op'] [b,c] pos) (xW r r' ta tb tc):=bF (K4 ho ho' ha hb hc hm) vD
theorem AK {op op':CmpOp}{r r':pM}(ho:sG X (compareOp op) r)(ho':sG X (compareOp op') r')(ha:QE X a ta)(hb:QE X b tb)(hc:QE X c tc)
  (hm:autoParam (lastMarks [op,op'] [b,c]=false) kn):QT X (.Compare a [op,op'] [b,c] pos) (qb (xW r r' ta tb tc)):=ER (KG ho ho' ha hb hc hm) (p9 vD)
end
end L3
namespace L2
open PySem PySem.Spec PyProof.Rows
def Itq (lo:Int)(n:Nat):It:=⟨λi _=>i<n,λi H x H'=>H'=H/\x=.int (lo+i*2),λi _=>n<=i⟩
theorem IZ {P:Program}{w:World}{K:Frag}{tg:Expr}(it:Addr)(lo:Int)(n:Nat):Turn P w K tg (Itq lo n) [it] it (λi h=>IsRangeIter h it (lo+(i:Nat)*2) ((n:Int) - (i:Nat)) 2) where
 mem:=by simp
 obj:=λi h st b hb=>by
  obtain rfl:b=it:=by simpa using hb
  exact⟨_,st,λv z=>by
   have z':Data.fields _=Data.cell v:=z;cases z'⟩
 keep:=λi h h' st k=>k it (by simp) _ st
 item:=by
  intro X hP hw hK hc i vy s U H E I hf st hg;subst hP hw hK;obtain⟨f0,f1,f2,f3,f4,f5⟩:=hf it (by simp);refine(Walks.range (prog:=X.prog) (w:=X.w) (I.ok.hd hc) it lo 2 n).item i s _ _ hg st λv h' tk hv st' kk=>?_;obtain⟨t,rfl⟩:=hv;have I1:Inv X vy U H {s with heap:=h',toks:=tk }:=I.turned (λb o hb e=>kk b o (by simpa using hb) e) f0 f1 f3 f4 f5;exact⟨_,M,rP (s:={s with heap:=h',toks:=tk }) (n:="range_iterator") st' rfl rfl (by decide) ⟨.int (lo+i*2),H,I1,⟨t,M⟩,⟨M,M⟩,st',λb hb=>(hf b hb).1⟩⟩
 done:=by
  intro X hP hw hK hc i vy s U H E I hf st hg;subst hP hw hK;obtain⟨f0,f1,f2,f3,f4,f5⟩:=hf it (by simp);exact wpAny_pyNext_range_end (I.ok.hd hc) st (by have:n<=i:=hg;omega) λh' eb=>⟨M,I.turned (t':=s.toks) (λb o hb e=>eb b o hb e) f0 f1 f3 f4 f5⟩
 self:=λ_ _ _ _ _ st h=>wpAny_pyIter_rangeiter st h
section
variable {X:Cx}{tg:Expr}
def a4v (ta:TA):TI:=λU H R=>ta U H λvs H1=>∃i j:Int,vs=[.int i,.int j,.int 2]/\(0<=i/\i<2 ^ 50/\0<=j/\j<2 ^ 50)/\R (Itq i ((j - i+1) / 2).toNat) H1
theorem V3 {a b c:Expr}{ta:TA}{p pos:Pos}(hg:Gl X "range")(hm:X.mg "range"=none)(ha:PA X [a,b,c] ta)(hs:autoParam (starEach [a,b,c] X.env=[(false,eval a X.env),(false,eval b X.env),(false,eval c X.env)]) zi)(hs2:autoParam (starEach [b,c] X.env=[(false,eval b X.env),(false,eval c X.env)]) zi) :
  PI X tg (.Call (.Name "range" p) [a,b,c] [] pos) (a4v ta):=by
 intro vy s U H R I h;refine Call_ (qu I hg hm boot_range (jcX (bu (ha pos vy s U H _ I h) λus s1 ⟨vs,H1,I1,r1,q1⟩=>?_) (by rw[hs,hs2]) (by rw[hs2];rfl)));obtain⟨i,j,e,⟨q1,q2,q3,q4⟩,q⟩:=q1;subst e;cases r1 with
 |cons r rr=>
 cases rr with
 |cons r' rr=>
 cases rr with
 |cons r'' rr=>
 cases rr;obtain⟨t,rfl⟩:=r;obtain⟨u,rfl⟩:=r';obtain⟨v,rfl⟩:=r'';have hz:Builtin.Range.rangeSize i j 2=(((j - i+1) / 2).toNat:Nat):=by
  unfold Builtin.Range.rangeSize;rw[jab (by decide)];split<;>omega
 refine call_range_3 (by decide) ?_ (Or.inl (PyProof.noPylong_small (by omega)));refine wpAny_pyIter_range (IsRange.new ..) ?_ ?_
 .unfold Builtin.Range.small;rw[hz];simp only[Builtin.Range.rangeFitsLong,jar,jbr,jaG,jaZ,show(2:Int) > 0 by decide,if_true];omega
 .have I2:Inv X vy U H1 {s1 with heap:=s1.heap.push {cls:=.type "range",data:=.fields #[.int i t,.int j u,.int 2 v] },toks:=s1.toks }:=I1.kept λb o e=>jat _ e;refine⟨_,[(s1.heap.push {cls:=.type "range",data:=.fields #[.int i t,.int j u,.int 2 v] }).objs.size],_,_,H1,M,
   I2.kept (t':=s1.toks) λb o e=>jat _ e,IZ _ i ((j - i+1) / 2).toNat,?_,λb hb=>?_,q⟩
  .show IsRangeIter _ _ (i+((0:Nat):Int)*2) ((((j - i+1) / 2).toNat:Int) - ((0:Nat):Int)) 2;rw[show i+((0:Nat):Int)*2=i by simp,show((((j - i+1) / 2).toNat:Int) - ((0:Nat):Int))=Builtin.Range.rangeSize i j 2 by rw[hz];simp];exact jaP _ rfl
  .obtain rfl:b=(s1.heap.push {cls:=.type "range",data:=.fields #[.int i t,.int j u,.int 2 v] }).objs.size:=by simpa using hb
   exact I2.Bd (jaj _) (I2.hok.fresh (jaj _))
end
end L2
namespace L3
open PySem L2 Hw
section
variable {X:Cx}{tg iter e:Expr}{te:bH}{pos p:Pos}
def iSg (te:bH):F5:=λZ S k=>te Z S λd S1=>∃z:Str,d=.str z/\k (z.cps.toList.map λc=>D.str ⟨#[c]⟩) (λ_=>True) S1
theorem Qx {K:Frag}{Y:jc4}{H:Hp}{z:Str}:NY K (Its z) (z.cps.toList.map λc=>D.str ⟨#[c]⟩) (λ_=>True) Y H where
 go:=λi Y1 S1 H1 g R _ hi=>by show i<z.cps.size;simpa using hi
 BX:=λi x Y1 S1 H1 H' d g R _ hd y=>by
  obtain⟨rfl,c,hc,rfl⟩:=y;rw[jax,Array.getElem?_toList,hc] at hd;cases hd;exact⟨Y1,.refl,R,aM⟩
 stop:=λi Y1 S1 H1 g R _ hi _=>by show z.cps.size<=i;simpa using hi
theorem SI (he:QE X iter te):QI X tg iter (iSg te):=w6 (V1 he) (by rintro U H Q ⟨Y,S,Z,k,R,D,q,hk⟩;exact⟨Y,S,Z,_,R,D,q,(by
 rintro v H1 ⟨Y1,S1,d,g1,R1,r1,z,e,q1⟩;subst e;exact⟨z,ay r1,hk _ _ ⟨Y1,S1,_,_,g1,R1,Qx,q1⟩⟩)⟩)
def iB2 (t:jB):F5:=λZ S k=>t Z S λds S1=>∃i j:Int,ds=[.int i,.int j,.int 2]/\(0<=i/\i<2 ^ 50/\0<=j/\j<2 ^ 50)/\k ((List.range ((j - i+1) / 2).toNat).map λ(m:Nat)=>D.int (i+m*2)) (λ_=>True) S1
theorem Qz {K:Frag}{Y:jc4}{H:Hp}{lo:Int}{n:Nat}:NY K (Itq lo n) ((List.range n).map λ(i:Nat)=>D.int (lo+i*2)) (λ_=>True) Y H where
 go:=λi Y1 S1 H1 g R _ hi=>by show i<n;simpa using hi
 BX:=λi x Y1 S1 H1 H' d g R _ hd y=>by
  obtain⟨rfl,rfl⟩:=y;rw[jax] at hd;cases q:(List.range n)[i]? with
  |none=>rw[q] at hd;cases hd
  |some z=>
   rw[q] at hd;cases hd;have:=jb2 (n:=n) (i:=i) (by have:=(jao.mp q).1;simpa using this);rw[this] at q;cases q;exact⟨Y1,.refl,R,aM⟩
 stop:=λi Y1 S1 H1 g R _ hi _=>by show n<=i;simpa using hi
theorem Vu {a b c:Expr}{t:jB}(hg:Gl X "range")(hm:X.mg "range"=none)(ha:QA X [a,b,c] t)(hs:autoParam (starEach [a,b,c] X.env=[(false,eval a X.env),(false,eval b X.env),(false,eval c X.env)]) zi)(hs2:autoParam (starEach [b,c] X.env=[(false,eval b X.env),(false,eval c X.env)]) zi) :
  QI X tg (.Call (.Name "range" p) [a,b,c] [] pos) (iB2 t):=
 w6 (V3 hg hm ha hs hs2) λU H Q ⟨Y,S,Z,k,R,D,q,hk⟩=>⟨Y,S,Z,_,R,D,q,λv H1 ⟨Y1,S1,d,g1,R1,r1,i,j,e,h1,q1⟩=>by
  subst e;obtain⟨x,y,z,rfl,hx,hy,hz⟩:∃x y z,v=[x,y,z]/\gm X.K Y1 (res Y1 H1) (.int i) x/\gm X.K Y1 (res Y1 H1) (.int j) y/\gm X.K Y1 (res Y1 H1) (.int 2) z:=by
   cases r1 with
   |cons a r=>cases r with
    |cons b r=>cases r with
     |cons c r=>cases r;exact⟨_,_,_,M,a,b,c⟩
  exact⟨i,j,by rw[ay hx,ay hy,ay hz],h1,hk _ _ ⟨Y1,S1,_,_,g1,R1,Qz,q1⟩⟩⟩
end
section
variable {X:Cx}{pos p1 p2:Pos}
theorem bY (z:Str):∀ss:jc2,Dd (.str z) (ss.map V.str)=decide (z∈ss)
 |[]=>rfl
 |s::r=>by
  have ih:=bY z r;unfold Dd at ih ⊢;rw[jal,jbG,ih];show((s==z)||decide (z∈r))=_;by_cases e:s=z
  .subst e;simp
  .rw[jcE e,jco];exact ja1.mpr ⟨λh=>jah _ h,λh=>(jak.mp h).resolve_left λw=>e w.symm⟩
def inK (neg:Bool)(a:Addr)(ss:jc2):pM:=λx y S k=>∃z,x=.str z/\y=.t (.v (.ref a))/\k (.bl (xor neg (decide (z∈ss)))) S
def a0z {a:Addr}{ss:jc2}(h:∀H:Hp,kL X.K H a (ss.map V.str)):sG X (compareOp .In) (inK false a ss):=by
 refine ez w9 ?_;rintro x y H Q ⟨Y,S,d,b,k,R,ra,rb,⟨z,h1,h2,q⟩,hk⟩;subst h1 h2;rw[ay ra,ay rb];refine⟨a,_,M,.inr (h H),M,lB ss,?_⟩;rw[bY];exact fin R hk aM (by rw[jaS] at q;exact q)
def tD1 (c:Str)(n:Int):bH:=λ_ S k=>k (.ob S.length) (S++[.sy [(Sum.inr c,.int n)]])
def N7 {H:Hp}{p:Addr}{o o':HO}:upd (upd H p o) p o'=upd H p o':=by
 funext b;unfold upd;split<;>rfl
theorem a3N {c:Str}{n:Int}{j1 j2:Nat}:QE X (.Dict [some (.Constant (.str c) j1 p1)] [.Constant (.int n) j2 p2] pos) (tD1 c n):=
 bF (Pw (KJ CO KZ Pf) rfl rfl (by simp) (by show 1<=15;decide)) λU H Q ⟨Y,S,Z,k,R,D,q,hk⟩ p hp=>by
  refine⟨jab M,[(Sum.inr c,.int n)],M,by show 1<=15;decide,?_⟩;rw[N7];refine Xm R hk p hp (o:=.sy [(Sum.inr c,.int n)]) ⟨_,M,.cons ⟨M,?_⟩ .nil⟩ q;unfold Rp;rfl
end
end L3
namespace L2
open PySem PySem.Spec PyProof.Rows
def Itk (d:Addr)(ob:Obj)(kvs:List (Key×V)):It:=
 ⟨λi H=>H d=some (.qC ob (.dK kvs))/\i<kvs.length,λi H x H'=>H'=H/\∃k v,kvs[i]?=some (k,v)/\x=kV k,λi H=>H d=some (.qC ob (.dK kvs))/\kvs.length<=i⟩
theorem Ge {P:Program}{w:World}{K:Frag}{tg:Expr}(d it:Addr)(ob:Obj)(kvs:List (Key×V))(es:Array DictEntry)(ep:Nat)(hob:ob.data=.dict es ep) :
  Turn P w K tg (Itk d ob kvs) [it] it (λi h=>h.IsKeyIter it d i kvs.length ep) where
 mem:=by simp
 obj:=λi h st b hb=>by
  obtain rfl:b=it:=by simpa using hb
  obtain⟨o,e,c,dd⟩:=st;exact⟨o,e,λv z=>by rw[dd] at z;cases z⟩
 keep:=λi h h' st k=>st.at λo e=>k it (by simp) o e
 item:=by
  intro X hP hw hK hc i vy s U H E I hf st hg;subst hP hw hK;obtain⟨hd,hi⟩:=hg;obtain⟨lo,hz,Mx,vs,es',Xq,rel,hdat,hat⟩:=I.held hd;rw[hob] at hdat;cases hdat;obtain⟨f0,f1,f2,f3,f4,f5⟩:=hf it (by simp);have hl:=rel.len;obtain⟨⟨k,v⟩,hkv⟩:∃p,kvs[i]?=some p:=⟨kvs[i],by simp[hi]⟩
  obtain⟨u,hu,ru⟩:=rel.at hkv;rw[hl] at st;refine wpAny_pyNext_dict_item st hat hu λkey h' hk st' sb=>?_;have I1:Inv X vy U H {s with heap:=h' }:=I.turned (t':=s.toks) (λb o hb e=>(sb.2 b hb).trans e) f0 f1 f3 f4 f5;obtain⟨o,e,c,dd⟩:=id st';exact⟨key,M,rP (s:={s with heap:=h' }) e c dd (by decide) ⟨kV k,H,I1,OP hk,⟨M,k,v,hkv,M⟩,by rw[hl];exact st',λb hb=>(hf b hb).1⟩⟩
 done:=by
  intro X hP hw hK hc i vy s U H E I hf st hg;subst hP hw hK;obtain⟨hd,hi⟩:=hg;obtain⟨lo,hz,Mx,vs,es',Xq,rel,hdat,hat⟩:=I.held hd;rw[hob] at hdat;cases hdat;obtain⟨f0,f1,f2,f3,f4,f5⟩:=hf it (by simp);have hl:=rel.len;rw[hl] at st;exact wpAny_pyNext_dict_end (I.ok.hd hc) st hat (List.getElem?_eq_none_iff.mpr (by omega)) λh' eb=>⟨M,I.turned (t':=s.toks) (λb o hb e=>eb b o hb e) f0 f1 f3 f4 f5⟩
 self:=λ_ _ _ _ _ st h=>wpAny_pyIter_keyiter st h
section
variable {X:Cx}{e:Expr}{te:TE}
def a1d (te:TE):TI:=λU H R=>te U H λx H1=>∃d kvs,x=.ref d/\Rd H1 d (.dK kvs)/\∀ob H2,Frz d ob kvs H1 H2->R (Itk d ob kvs) H2
def Pk {tg:Expr}(he:PE X e te):PI X tg e (a1d te):=by
 intro vy s U H R I h;refine bu (he vy s U H _ I h) ?_;rintro v s1 ⟨x,H1,I1,r1,d,kvs,ex,rd,q⟩;subst ex;cases r1;obtain⟨ob,H2,fz,I2,hob⟩:=I1.frozen rd;obtain⟨lo,hz,Mx,vs,es,ep,rel,hdat,hat⟩:=I2.held fz.1;have hl:=rel.len;refine wpAny_pyIter_dict lo hat ?_;exact⟨s1.heap.objs.size,[s1.heap.objs.size],_,_,H2,M,I2.kept (t':=s1.toks) λb o e=>jat _ e,Ge d _ ob kvs es ep hdat,⟨_,jaP _ M,M,by rw[hl];rfl⟩,λb hb=>by
  obtain rfl:b=s1.heap.objs.size:=by simpa using hb
  exact I2.Bd (jaj _) (I2.hok.fresh (jaj _)),q ob H2 fz⟩
end
end L2
namespace L3
open PySem L2 Hw
def L7:Key->T
 |.inl i=>.int i
 |.inr x=>.str x
def dq (S:aO)(n:Nat)(l:List (Key×T)):Prop:=S[n]?=some (.sy l)\/∃ob kvs,S[n]?=some (.vv ob kvs l)
def OO {K:Frag}{Y:jc4}{G:Hp}(k:Key):gm K Y G (.t (L7 k)) (kV k):=by cases k<;>exact aM
theorem qo {α β:Type}{F:α->β->Prop}:∀{l:List α}{m:List β},Paired F l m->∀{i:Nat}{p:α},l[i]?=some p->∃q,m[i]?=some q/\F p q
 |_,_,.nil,_,_,h=>by simp at h
 |_,_,.cons r t,0,p,h=>by cases h;exact⟨_,M,r⟩
 |_,_,.cons r t,i+1,p,h=>qo t (i:=i) h
def Ds {K:Frag}{Y:jc4}{S:aO}{H:Hp}{n:Nat}{a:Addr}{l:List (Key×T)}(R:R3 K Y S H)(ha:Y[n]?=some a)(h:dq S n l):∃kvs,Rd H a (.dK kvs)/\T4 K (res Y H) l kvs:=by
 rcases h with h | ⟨ob,kvs,h⟩
 .obtain⟨kvs,e1,e2⟩:=R.ok n a _ ha h;exact⟨kvs,.inl e1,e2⟩
 .obtain⟨e1,e2⟩:=R.ok n a _ ha h;exact⟨kvs,.inr ⟨ob,e1⟩,e2⟩
def Xx:pM:=λa b S k=>∃n l key x,a=.ob n/\dq S n l/\G9 b=some key/\gF l key=some x/\k (.t x) S
def iKy (te:bH):F5:=λZ S k=>te Z S λd S1=>∃n l,d=.ob n/\dq S1 n l/\∀ob kvs,k (l.map λp=>D.t (L7 p.1)) (λS=>S[n]?=some (.vv ob kvs l)) (S1.set n (.vv ob kvs l))
def iVl (te:bH):F5:=λZ S k=>te Z S λd S1=>∃n l,d=.ob n/\dq S1 n l/\∀ob kvs,k (l.map λp=>D.t p.2) (λS=>S[n]?=some (.vv ob kvs l)) (S1.set n (.vv ob kvs l))
section
variable {X:Cx}{tg iter o i:Expr}{te to ti:bH}{pos BM cpos:Pos}
theorem EL (hu:X.A.units+1<cLine)(ho:QE X o to)(hi:QE X i ti)(hs:autoParam (Ro i) kt):QE X (.Subscript o i pos) (rZ Xx to ti):=
 bF (EU hu ho hi hs) (by rintro U H Q ⟨Y,S,Z,k,R,D,q,hk⟩;exact⟨Y,S,Z,_,R,D,q,(by rintro v H1 ⟨Y1,S1,d1,g1,R1,r1,q1⟩;exact⟨Y1,S1,Z,_,R1,D.gr g1,q1,(by
  rintro w H2 ⟨Y2,S2,d2,g2,R2,r2,n,l,key,x,h1,h2,h3,h4,q2⟩;subst h1;obtain⟨a,ha,e1⟩:=r1.gr g2;obtain⟨kvs,e2,e3⟩:=Ds R2 ha h2;obtain⟨u,e4,e5⟩:=(pA e3 key).1 x h4;exact⟨a,u,e1,by rw[oZ r2 h3,<- e4];exact .inl ⟨kvs,key,e2,M,M⟩,hk _ _ ⟨Y2,S2,.t x,g1.trans g2,R2,e5,q2⟩⟩)⟩)⟩)
theorem Mi {K:Frag}{Y:jc4}{H:Hp}{n:Nat}{a:Addr}{ob:Obj}{kvs:List (Key×V)}{l:List (Key×T)}(ha:Y[n]?=some a):NY K (Itk a ob kvs) (l.map λp=>D.t (L7 p.1)) (λS=>S[n]?=some (.vv ob kvs l)) Y H where
 go:=λi Y1 S1 H1 g R hS hi=>by
  obtain⟨e1,e2⟩:=R.ok n a _ (g.at ha) hS;exact⟨e1,by rw[<- jbc e2];simpa using hi⟩
 BX:=λi x Y1 S1 H1 H' d g R hS hd y=>by
  obtain⟨rfl,k,v,hkv,rfl⟩:=y;obtain⟨e1,e2⟩:=R.ok n a _ (g.at ha) hS;rw[jax] at hd;cases q:l[i]? with
  |none=>rw[q] at hd;cases hd
  |some p=>
   rw[q] at hd;cases hd;obtain⟨q',f1,f2,f3⟩:=qo e2 q;rw[hkv] at f1;cases f1;have f2:p.1=k:=f2;exact⟨Y1,.refl,R,by show gm _ _ _ (.t (L7 p.1)) _;rw[f2];exact OO k⟩
 stop:=λi Y1 S1 H1 g R hS hi _=>by
  obtain⟨e1,e2⟩:=R.ok n a _ (g.at ha) hS;exact⟨e1,by rw[<- jbc e2];simpa using hi⟩
theorem Mg {K:Frag}{Y:jc4}{H:Hp}{n:Nat}{a:Addr}{ob:Obj}{kvs:List (Key×V)}{l:List (Key×T)}(ha:Y[n]?=some a):NY K (Itv a ob kvs) (l.map λp=>D.t p.2) (λS=>S[n]?=some (.vv ob kvs l)) Y H where
 go:=λi Y1 S1 H1 g R hS hi=>by
  obtain⟨e1,e2⟩:=R.ok n a _ (g.at ha) hS;exact⟨e1,by rw[<- jbc e2];simpa using hi⟩
 BX:=λi x Y1 S1 H1 H' d g R hS hd y=>by
  obtain⟨rfl,k,hkv⟩:=y;obtain⟨e1,e2⟩:=R.ok n a _ (g.at ha) hS;rw[jax] at hd;cases q:l[i]? with
  |none=>rw[q] at hd;cases hd
  |some p=>
   rw[q] at hd;cases hd;obtain⟨q',f1,f2,f3⟩:=qo e2 q;rw[hkv] at f1;cases f1;exact⟨Y1,.refl,R,f3⟩
 stop:=λi Y1 S1 H1 g R hS hi _=>by
  obtain⟨e1,e2⟩:=R.ok n a _ (g.at ha) hS;exact⟨e1,by rw[<- jbc e2];simpa using hi⟩
def MF {d:Addr}{ob:Obj}{kvs:List (Key×V)}{H H':Hp}(f:Frz d ob kvs H H'):H'=upd H d (.qC ob (.dK kvs)):=by
 funext b;unfold upd;by_cases e:b=d
 .subst e;rw[jab rfl];exact f.1
 .rw[jaa e];exact f.2 b e
theorem ZZ (he:QE X iter te):QI X tg iter (iKy te):=w6 (Pk he) λU H Q ⟨Y,S,Z,k,R,D,q,hk⟩=>⟨Y,S,Z,_,R,D,q,(by
 rintro v H1 ⟨Y1,S1,d,g1,R1,r1,n,l,e,hq,q1⟩;subst e;obtain⟨a,ha,e⟩:=r1;obtain⟨kvs,e1,e2⟩:=Ds R1 ha hq;refine⟨a,kvs,e,e1,λob H2 f=>?_⟩;obtain⟨R4,g4⟩:=R1.put (o:=.qC ob (.dK kvs)) (u:=.vv ob kvs l) ha ⟨M,e2⟩;rw[MF f];exact hk _ _ ⟨Y1,_,_,_,g1.trans g4,R4,Mi ha,q1 ob kvs⟩)⟩
theorem ZY (ho:QE X o to)(Ap:autoParam (attributeBase o "values" X.env (eval o X.env)=eval o X.env) zi)(B1:autoParam ((BM.endLine==cpos.line)=true) zi):QI X tg (.Call (.Attribute o "values" BM) [] [] cpos) (iVl to):=
 w6 (Pj (GB ho Ap B1)) λU H Q ⟨Y,S,Z,k,R,D,q,hk⟩=>⟨Y,S,Z,_,R,D,q,(by
  rintro v H1 ⟨Y1,S1,d,g1,R1,r1,n,l,e,hq,q1⟩;subst e;obtain⟨a,ha,e⟩:=r1;obtain⟨kvs,e1,e2⟩:=Ds R1 ha hq;refine⟨a,kvs,e,e1,λp hp=>?_⟩;obtain⟨R2,g2,e3⟩:=R1.new (o:=Ag p a) hp;have ne:a≠p:=λz=>by
   subst z;rcases e1 with e1 | ⟨ob,e1⟩<;>(rw[hp] at e1;cases e1)
  have e1':Rd (upd H1 p (Ag p a)) a (.dK kvs):=by
   rcases e1 with e1 | ⟨ob,e1⟩
   .exact .inl (by unfold upd;rw[jaa ne];exact e1)
   .exact .inr ⟨ob,by unfold upd;rw[jaa ne];exact e1⟩
  refine⟨p,a,kvs,M,by unfold upd;rw[jab rfl],e1',λob H2 f=>?_⟩;obtain⟨R4,g4⟩:=R2.put (o:=.qC ob (.dK kvs)) (u:=.vv ob kvs l) ha ⟨M,c8 (λ_ _ z=>⟨z.1,z.2.le g2.le⟩) e2⟩;rw[MF f];exact hk _ _ ⟨Y1,_,_,_,(g1.trans g2).trans g4,R4,Mg ha,q1 ob kvs⟩)⟩
end
end L3
namespace Hw
open PySem L2 PySem.Builtin PySem.Builtin.Str
def jK (a b:Str):cp (a++b)=cp a++cp b:=by show(a.cps++b.cps).toList=_;simp[cp]
theorem zD (c:Nat):∀(l:jc2)(x y:Str),cp (Str.join ⟨#[c]⟩ (x::y::l))=cp x++c::cp (Str.join ⟨#[c]⟩ (y::l)):=λl x y=>by
 show cp (x++(⟨#[c]⟩:Str)++Str.join ⟨#[c]⟩ (y::l))=_;rw[jK,jK,jaC];rfl
theorem qD {c:Nat}:∀{a b r s:jc8},c∉a->c∉b->a++c::r=b++c::s->a=b/\r=s
 |[],[],r,s,_,_,e=>by cases e;exact⟨M,M⟩
 |[],y::b,r,s,_,hb,e=>by cases e;exact(hb (jai ..)).elim
 |x::a,[],r,s,ha,_,e=>by cases e;exact(ha (jai ..)).elim
 |x::a,y::b,r,s,ha,hb,e=>by
  rw[ja8,ja8] at e;injection e with e1 e2
  obtain⟨f1,f2⟩:=qD (λh=>ha (jah _ h)) (λh=>hb (jah _ h)) e2;exact⟨by rw[e1,f1],f2⟩
theorem A9 {c:Nat}:∀{ps ws:jc2},ps≠[]->ws≠[]->(∀p∈ps,c∉cp p)->(∀p∈ws,c∉cp p)->cp (Str.join ⟨#[c]⟩ ps)=cp (Str.join ⟨#[c]⟩ ws)->ps=ws
 |[],_,h,_,_,_,_=>(h M).elim
 |_::_,[],_,h,_,_,_=>(h M).elim
 |[p],[w],_,_,_,_,e=>by rw[bU (a:=p) (b:=w) e]
 |[p],w::v::r,_,_,hp,_,e=>by
  rw[zD] at e;exact(hp p (jai ..) (by show c∈cp (Str.join ⟨#[c]⟩ [p]);rw[e];simp)).elim
 |p::q::r,[w],_,_,_,hw,e=>by
  rw[zD] at e;exact(hw w (jai ..) (by show c∈cp (Str.join ⟨#[c]⟩ [w]);rw[<- e];simp)).elim
 |p::q::r,w::v::s,_,_,hp,hw,e=>by
  rw[zD,zD] at e;obtain⟨f1,f2⟩:=qD (hp p (jai ..)) (hw w (jai ..)) e;rw[bU f1,A9 (by simp) (by simp) (λz hz=>hp z (jah _ hz)) (λz hz=>hw z (jah _ hz)) f2]
def gu (x y:Str):Txt.split x y≠[]:=by
 unfold Txt.split;split
 .simp
 .split
  .simp
  .intro h;have:=jae List.length h;rw[PySem.length_partsBetween] at this;simp at this
def mV {c:Nat}{ws:jc2}(h0:ws≠[])(h:∀p∈ws,c∉cp p):Txt.split (Txt.join ⟨#[c]⟩ ws) ⟨#[c]⟩=ws:=by
 have e:Txt.join ⟨#[c]⟩ ws=Str.join ⟨#[c]⟩ ws:=jby ..;rw[e];exact A9 (gu _ _) h0 (λp hp=>StrLaws.split_free _ c p hp) h (jae cp (jcg (Str.join ⟨#[c]⟩ ws) ⟨#[c]⟩))
theorem gG (s:Str):∀(l:jc2)(x y:Str),cp (Str.join s (x::y::l))=cp x++(cp s++cp (Str.join s (y::l))):=λl x y=>by
 show cp (x++s++Str.join s (y::l))=_;rw[jK,jK,jaC]
theorem xj {c d:Nat}:∀{ps ws:jc2},ps≠[]->ws≠[]->(∀p∈ps,c∉cp p)->(∀p∈ws,c∉cp p)->cp (Str.join ⟨#[c,d]⟩ ps)=cp (Str.join ⟨#[c,d]⟩ ws)->ps=ws
 |[],_,h,_,_,_,_=>(h M).elim
 |_::_,[],_,h,_,_,_=>(h M).elim
 |[p],[w],_,_,_,_,e=>by rw[bU (a:=p) (b:=w) e]
 |[p],w::v::r,_,_,hp,_,e=>by
  rw[gG] at e;exact(hp p (jai ..) (by show c∈cp (Str.join ⟨#[c,d]⟩ [p]);rw[e];simp)).elim
 |p::q::r,[w],_,_,_,hw,e=>by
  rw[gG] at e;exact(hw w (jai ..) (by show c∈cp (Str.join ⟨#[c,d]⟩ [w]);rw[<- e];simp)).elim
 |p::q::r,w::v::s,_,_,hp,hw,e=>by
  rw[gG,gG] at e;obtain⟨f1,f2⟩:=qD (c:=c) (r:=d::_) (s:=d::_) (hp p (jai ..)) (hw w (jai ..)) e;injection f2 with _ f2
  rw[bU f1,xj (by simp) (by simp) (λz hz=>hp z (jah _ hz)) (λz hz=>hw z (jah _ hz)) f2]
def Nd {x:Str}{c d i:Nat}(h1:(cp x)[i]?=some c)(h2:(cp x)[i+1]?=some d):StrLaws.At x ⟨#[c,d]⟩ x.length i:=by
 have hl:i<(cp x).length:=(jao.mp h1).1;have hl2:i+1<(cp x).length:=(jao.mp h2).1;have hl':i+1<x.cps.size:=by simpa[cp] using hl2
 refine⟨by show i+2<=x.cps.size;omega,?_⟩;unfold subAt;apply jaZ.mpr;apply Array.ext';show(x.cps.extract i (i+2)).toList=[c,d];rw[Array.toList_extract,List.extract_eq_take_drop,jb8];show List.take 2 (List.drop i (cp x))=[c,d];rw[jbv hl,jbv hl2,(jao.mp h1).2,(jao.mp h2).2];rfl
def Fol (c d:Nat)(l:jc8):Prop:=∀j,l[j]?=some c->l[j+1]?=some d
theorem Be {c d:Nat}(hcd:d≠c):∀{ws:jc2},(∀p∈ws,c∉cp p)->Fol c d (cp (Str.join ⟨#[c,d]⟩ ws))
 |[],_,j,h=>by cases h
 |[w],hw,j,h=>(hw w (jai ..) (jbd h)).elim
 |w::v::r,hw,j,h=>by
  have ih:=Be hcd (ws:=v::r) λp hp=>hw p (jah _ hp);rw[gG] at h ⊢;rcases Nat.lt_or_ge j (cp w).length with l | l
  .rw[jaF l] at h;exact(hw w (jai ..) (jbd h)).elim
  .rw[ja7 l] at h;rw[ja7 (by omega),show j+1 - (cp w).length=(j - (cp w).length)+1 by omega];generalize j - (cp w).length=m at h ⊢
   match m,h with
   |0,_=>rfl
   |1,h=>injection h with h;exact(hcd h).elim
   |m+2,h=>exact ih m h
def ni (x:Str){c d:Nat}(hf:Fol c d (cp x))(a b:Nat)(hb:b<=x.length)(hn:∀k,a<=k->k<b->¬ StrLaws.At x ⟨#[c,d]⟩ x.length k):c∉cp (strSub x a b):=by
 intro hm;unfold cp at hm;rw[jcs] at hm;obtain⟨j,hj⟩:=List.getElem?_of_mem hm;have hlt:j<b - a:=by
  have:=(jao.mp hj).1;rw[jci] at this;omega
 rw[List.getElem?_take_of_lt hlt,List.getElem?_drop] at hj;exact hn (a+j) (by omega) (by omega) (Nd hj (hf _ hj))
theorem rD (x:Str){c d:Nat}(hf:Fol c d (cp x)):∀(cuts:jc8)(a f:Nat),StrLaws.ChainG x ⟨#[c,d]⟩ x.length a cuts f->(∀k,f<=k->¬ StrLaws.At x ⟨#[c,d]⟩ x.length k)->∀p∈StrLaws.partsFrom x (⟨#[c,d]⟩:Str).length a cuts,c∉cp p
 |[],a,f,h,hn,p,hp=>by
  have e:f=a:=h;subst e;rw[jaE.mp hp];exact ni x hf f x.length (jaj _) λk h1 _=>hn k h1
 |z::r,a,f,h,hn,p,hp=>by
  rcases jak.mp hp with rfl | hp'
  .exact ni x hf a z (by have:=h.2.1.1;omega) h.2.2.1
  .exact rD x hf r _ f h.2.2.2 hn p hp'
def q9 (x:Str){c d:Nat}(hf:Fol c d (cp x))(hc:c<256)(hd:d<256):∀p∈Txt.split x ⟨#[c,d]⟩,c∉cp p:=by
 obtain⟨f,hG,hn⟩:=StrLaws.occ_tight x ⟨#[c,d]⟩ (by show 1<=2;omega);unfold Txt.split;split
 .rename_i hk;intro p hp;rw[jaE.mp hp];intro hm;obtain⟨j,hj⟩:=List.getElem?_of_mem hm;have hA:=Nd hj (hf _ hj);rw[jbr,jaG,jaG] at hk;rcases hk with h | h
  .have:=hA.1;omega
  .have hs:PySem.Builtin.Str.strKind ⟨#[c,d]⟩<=PySem.Builtin.Str.strKind x:=by
    unfold PySem.Builtin.Str.strKind;have k1:(#[c,d]:Array Nat).all (· < 256)=true:=by simp[hc,hd]
    simp only[k1,if_true];split
    .omega
    .split<;>omega
   omega
 .split
  .rename_i he;intro p hp;rw[jaE.mp hp];have e0:occurrences x ⟨#[c,d]⟩ 0 x.length (x.length+1)=[]:=List.isEmpty_iff.mp he;rw[e0] at hG;have ef:f=0:=hG;subst ef;rw[<- StrLaws.sub_whole x];exact ni x hf 0 x.length (jaj _) λk h1 _=>hn k h1
  .rw[StrLaws.partsBetween_eq];exact rD x hf _ 0 f hG hn
def Av {c d:Nat}{ws:jc2}(h0:ws≠[])(h:∀p∈ws,c∉cp p)(hcd:d≠c)(hc:c<256)(hd:d<256):Txt.split (Txt.join ⟨#[c,d]⟩ ws) ⟨#[c,d]⟩=ws:=by
 have e:Txt.join ⟨#[c,d]⟩ ws=Str.join ⟨#[c,d]⟩ ws:=jby ..;rw[e];exact xj (gu _ _) h0 (q9 _ (Be hcd h) hc hd) h (jae cp (jcg (Str.join ⟨#[c,d]⟩ ws) ⟨#[c,d]⟩))
def jz {x:Str}{c i:Nat}:StrLaws.At x ⟨#[c]⟩ x.length i↔(cp x)[i]?=some c:=by
 unfold StrLaws.At subAt;constructor
 .intro⟨h1,h2⟩;have h2:=eq_of_beq h2;have h3:(x.cps.extract i (i+1))[0]?=some c:=by rw[show x.cps.extract i (i+1)=#[c] from h2];rfl
  rw[Array.getElem?_extract] at h3;split at h3
  .simpa[cp] using h3
  .cases h3
 .intro h;have hl:i<(cp x).length:=(jao.mp h).1;have hl':i<x.cps.size:=by simpa[cp] using hl
  refine⟨by show i+1<=x.cps.size;omega,?_⟩;apply jaZ.mpr;apply Array.ext';show(x.cps.extract i (i+1)).toList=[c];rw[Array.toList_extract,List.extract_eq_take_drop,jb8];show List.take 1 (List.drop i (cp x))=[c];rw[jbv hl,(jao.mp h).2];simp
def GG {x:Str}{c:Nat}(h:c∉cp x):Txt.partition x ⟨#[c]⟩=(x,Str.empty,Str.empty):=by
 unfold Txt.partition;rcases StrLaws.occ_head x ⟨#[c]⟩ 1 (jaj 1) with⟨h0,hn⟩ | ⟨i,r,h0,hi,hn⟩
 .rw[h0]
 .exact(h (jbd (jz.mp hi))).elim
def GF {a b:Str}{c:Nat}(h:c∉cp a):Txt.partition (a++⟨#[c]⟩++b) ⟨#[c]⟩=(a,⟨#[c]⟩,b):=by
 have e:cp (a++⟨#[c]⟩++b)=cp a++c::cp b:=by rw[jK,jK,jaC];rfl
 have hat:(cp (a++(⟨#[c]⟩:Str)++b))[(cp a).length]?=some c:=by rw[e,ja7 (jaj _),jbU];rfl
 unfold Txt.partition;rcases StrLaws.occ_head (a++⟨#[c]⟩++b) ⟨#[c]⟩ 1 (jaj 1) with⟨h0,hn⟩ | ⟨i,r,h0,hi,hn⟩
 .exact(hn _ (jz.mpr hat)).elim
 .rw[h0];have h1:i=(cp a).length:=by
   have hi':=jz.mp hi;rcases Nat.lt_trichotomy i (cp a).length with l | l | l
   .rw[e,jaF l] at hi';exact(h (jbd hi')).elim
   .exact l
   .exact(hn _ l (jz.mpr hat)).elim
  subst h1;have f1:strSub (a++⟨#[c]⟩++b) 0 (cp a).length=a:=bU (by
   unfold cp;rw[jcs];show List.take _ (List.drop 0 (cp (a++(⟨#[c]⟩:Str)++b)))=cp a;rw[e,jbS,Nat.sub_zero,List.take_left])
  have f2:strSub (a++⟨#[c]⟩++b) ((cp a).length+1) (a++(⟨#[c]⟩:Str)++b).length=b:=bU (by
   unfold cp;rw[jcs];show List.take _ (List.drop _ (cp (a++(⟨#[c]⟩:Str)++b)))=cp b;rw[aW,e,show cp a++c::cp b=(cp a++[c])++cp b by simp,List.drop_left' (by simp)];exact jbw (by simp;omega))
  show(strSub _ 0 _,_,strSub _ ((cp a).length+1) _)=_;rw[f1,f2]
def jm {c:Nat}{x r:Str}{n:Nat}(e:cp x=List.replicate n c++cp r)(h:(cp r).head?≠some c):Txt.lstripChars x ⟨#[c]⟩=r:=by
 unfold Txt.lstripChars;rw[PyProof.Rows.stripBy_eq];have hg:∀k:Nat,(#[c]:Array Nat).contains k=(k==c):=λk=>by simp;rfl
 have t:((cp x).takeWhile λk=>(#[c]:Array Nat).contains k).length=n:=by
  rw[e];clear e
  induction n with
  |zero=>
   rw[List.replicate_zero,jbQ];cases q:cp r with
   |nil=>rfl
   |cons y l=>
    rw[q] at h;have:y≠c:=λw=>h (by rw[w];rfl);rw[jbe,hg,jcE this];rfl
  |succ n ih=>rw[jbC,ja8,jbe,hg];simp only[beq_self_eq_true,if_true,jaA];rw[ih]
 refine bU ?_;unfold cp;rw[jcs];show List.take _ (List.drop (((cp x).takeWhile λk=>(#[c]:Array Nat).contains k).length) (cp x))=cp r;rw[t,e,List.drop_left' (by simp)];refine jbw ?_;show(cp r).length<=x.length - _;rw[aW,e];show _<=_ - ((cp x).takeWhile λk=>(#[c]:Array Nat).contains k).length;rw[t];simp
def jg {c:Nat}{x r:Str}{n:Nat}(e:cp x=cp r++List.replicate n c)(h:(cp r).getLast?≠some c):Txt.rstripChars x ⟨#[c]⟩=r:=by
 unfold Txt.rstripChars;rw[PyProof.Rows.stripBy_eq];have hg:∀k:Nat,(#[c]:Array Nat).contains k=(k==c):=λk=>by simp;rfl
 have t:((cp x).reverse.takeWhile λk=>(#[c]:Array Nat).contains k).length=n:=by
  rw[e,List.reverse_append,List.reverse_replicate];rw[List.getLast?_eq_head?_reverse] at h;clear e;generalize (cp r).reverse=z at h
  induction n with
  |zero=>
   rw[List.replicate_zero,jbQ];cases z with
   |nil=>rfl
   |cons y l=>
    have:y≠c:=λw=>h (by rw[w];rfl);rw[jbe,hg,jcE this];rfl
  |succ n ih=>rw[jbC,ja8,jbe,hg];simp only[beq_self_eq_true,if_true,jaA];rw[ih]
 refine bU ?_;unfold cp;rw[jcs];show List.take (x.length - ((List.drop 0 (cp x)).reverse.takeWhile λk=>(#[c]:Array Nat).contains k).length - 0) (List.drop 0 (cp x))=cp r;rw[jbS,t,aW,e,Nat.sub_zero];rw[jaD,jbX,Nat.add_sub_cancel,List.take_left]
end Hw
namespace L3
open PySem L2 Hw
section
variable {G:aO->Prop}{g:qJ}{tb:iW}{tt:mQ}{te:bH}{δ0:Sl}
theorem zp {E:mR}{Z:Sl}{S:aO}{AC:List D}(I:Nat->Sl->aO->Prop)(h0:I 0 Z S)
  (hs:∀i x Z S (N:KS),AC[i]?=some x->I i Z S->(∀Z' S',I (i+1) Z' S'->N Z' S')->G S/\g x Z S λδ1 S1=>tb {E with nx:=N,ct:=N,bk:=E.nx } δ1 S1)
  (hd:∀Z S,I AC.length Z S->G S/\E.nx Z S):wj G g tb AC E Z S:=by
 have go:∀(n i:Nat)(Z:Sl)(S:aO),AC.length - i=n->i<=AC.length->I i Z S->wj G g tb (AC.drop i) E Z S:=by
  intro n
  induction n with
  |zero=>
   intro i Z S e hi h;have:i=AC.length:=by omega
   subst this;rw[jcB];exact hd Z S h
  |succ n ih=>
   intro i Z S e hi h;have hlt:i<AC.length:=by omega
   rw[jbv hlt];exact hs i AC[i] Z S _ (jaz hlt) h λZ' S' h'=>ih (i+1) Z' S' (by omega) hlt h'
 have:=go _ 0 Z S rfl (jaT _) h0;rwa[jbS] at this
def elem (g:qJ)(tt:mQ)(te:bH)(δ0:Sl)(x:D)(S:aO)(k:Option T->aO->Prop):Prop:=
 g x δ0 S λδ1 S1=>tt δ1 S1 λb S2=>if b=true then te δ1 S2 λd S3=>∃y,d=.t y/\k (some y) S3 else k none S2
def XY (ys:List T):Option T->List T
 |some y=>ys++[y]
 |none=>ys
theorem Bv {k:List T->aO->Prop}{ys:List T}{S:aO}{AC:List D}(I:Nat->List T->aO->Prop)(h0:I 0 ys S)
  (hs:∀i x ys S (k':Option T->aO->Prop),AC[i]?=some x->I i ys S->(∀o S',I (i+1) (XY ys o) S'->k' o S')->G S/\ys.length<sizeLine/\elem g tt te δ0 x S k')
  (hd:∀ys S,I AC.length ys S->G S/\k ys S):eG G g tt te δ0 AC S ys k:=by
 have go:∀(n i:Nat)(ys:List T)(S:aO),AC.length - i=n->i<=AC.length->I i ys S->eG G g tt te δ0 (AC.drop i) S ys k:=by
  intro n
  induction n with
  |zero=>
   intro i ys S e hi h;have:i=AC.length:=by omega
   subst this;rw[jcB];exact hd ys S h
  |succ n ih=>
   intro i ys S e hi h;have hlt:i<AC.length:=by omega
   rw[jbv hlt];obtain⟨h1,h2,h3⟩:=hs i AC[i] ys S (λo S'=>match o with | some y=>ys.length<sizeLine/\eG G g tt te δ0 (AC.drop (i+1)) S' (ys++[y]) k | none=>eG G g tt te δ0 (AC.drop (i+1)) S' ys k) (jaz hlt) h λo S' h'=>by
    cases o with
    |none=>exact ih (i+1) ys S' (by omega) hlt h'
    |some y=>exact⟨(hs i AC[i] ys S (λ_ _=>True) (jaz hlt) h λ_ _ _=>trivial).2.1,ih (i+1) (ys++[y]) S' (by omega) hlt h'⟩
   exact⟨h1,h3⟩
 have:=go _ 0 ys S rfl (jaT _) h0;rwa[jbS] at this
end
abbrev Sm:=List (Str×Int)×Int
def wt (l:List (Str×Int))(x:Str):Int:=((l.filter λp=>decide (p.1=x)).map (·.2)).sum
def norm (l:List (Str×Int)):List (Str×Int):=((Ex (l.map (·.1))).map λx=>(x,wt l x)).filter λp=>decide (p.2≠0)
def sumOf (l:List (Str×Int))(n:Int):Sm:=(norm l,n)
def pT (p:Str×Int):T:=.tup [.str p.1,.int p.2]
def Ci (x:Str):wt [] x=0:=rfl
def i6 (p:Str×Int)(l:List (Str×Int))(x:Str):wt (p::l) x=(if p.1=x then p.2 else 0)+wt l x:=by
 unfold wt;by_cases h:p.1=x
 .rw[List.filter_cons_of_pos (by simpa using h),jal,List.sum_cons,jab h]
 .rw[List.filter_cons_of_neg (by simpa using h),jaa h];omega
def Uw (l m:List (Str×Int))(x:Str):wt (l++m) x=wt l x+wt m x:=by
 induction l with
 |nil=>rw[Ci];simp
 |cons p r ih=>rw[ja8,i6,i6,ih];omega
def Cg {l:List (Str×Int)}{x:Str}(h:x∉l.map (·.1)):wt l x=0:=by
 induction l with
 |nil=>rfl
 |cons p r ih=>
  rw[jal,jak,not_or] at h;rw[i6,jaa (λe=>h.1 e.symm),ih h.2];rfl
structure wI (l:List (Str×Int))(d:List (Key×T)):Prop where
 val:∀x,gF d (.inr x)=if x∈l.map (·.1) then some (.int (wt l x)) else none
 keys:∃ss:List Str,d.map (·.1)=ss.map Sum.inr/\ss.Nodup/\∀x,x∈ss↔x∈l.map (·.1)
 len:d.length<=l.length
def MT (d:List (Key×T))(a b:Key)(v:T):gF (dput d a v) b=if a=b then some v else gF d b:=by
 unfold dput;by_cases h:(d.any λp=>decide (p.1=a))=true
 .rw[jab h]
  induction d with
  |nil=>simp at h
  |cons p r ih=>
   rw[jal];unfold gF at ih ⊢;by_cases e:p.1=a
   .rw[jab e];by_cases q:a=b
    .subst q;rw[jab rfl];simp[jbA,e]
    .rw[jaa q];have ne:¬ p.1=b:=λz=>q (e ▸ z);rw[jcb (by simpa using ne),jcb (by simpa using ne)];by_cases h2:(r.any λp=>decide (p.1=a))=true
     .rw[ih h2,jaa q]
     .have:r.map (λp=>if p.1=a then(p.1,v) else p)=r:=by
       have hn:∀z∈r,¬ z.1=a:=λz hz e=>h2 (jcj.mpr ⟨z,hz,by simpa using e⟩);have:∀(r:List (Key×T)),(∀z∈r,¬ z.1=a)->r.map (λp=>if p.1=a then(p.1,v) else p)=r:=by
        intro r
        induction r with
        |nil=>intro _;rfl
        |cons z s ih=>intro hz;rw[jal,jaa (hz z jai),ih λy hy=>hz y (jah _ hy)]
       exact this r hn
      rw[this]
   .rw[jaa e];have h2:(r.any λp=>decide (p.1=a))=true:=by
     rw[jbG,jaf e,jco] at h;exact h
    by_cases q:p.1=b
    .have:¬ a=b:=λz=>e (q.trans z.symm);rw[jaa this,jcQ (by simpa using q),jcQ (by simpa using q)]
    .rw[jcb (by simpa using q),jcb (by simpa using q)];exact ih h2
 .rw[jaa h];unfold gF;have hn:∀z∈d,¬ z.1=a:=λz hz e=>h (jcj.mpr ⟨z,hz,by simpa using e⟩);by_cases q:a=b
  .subst q;rw[jab M,List.find?_append];have:d.find? (λp=>decide (p.1=a))=none:=List.find?_eq_none.mpr λz hz=>by simpa using hn z hz
   rw[this];simp
  .rw[jaa q,List.find?_append];have:([(a,v)]:List (Key×T)).find? (λp=>decide (p.1=b))=none:=by simp[jbA,q]
   rw[this];simp
def Hu (d:List (Key×T))(a:Key)(v:T):(a∈d.map (·.1)->(dput d a v).map (·.1)=d.map (·.1))/\(a∉d.map (·.1)->(dput d a v).map (·.1)=d.map (·.1)++[a]):=by
 unfold dput;by_cases h:(d.any λp=>decide (p.1=a))=true
 .obtain⟨z,hz,e⟩:=jcj.mp h;have hm:a∈d.map (·.1):=jaY.mpr ⟨z,hz,by simpa using e⟩;refine⟨λ_=>?_,λz=>absurd hm z⟩;rw[jab h,ja3];refine List.map_congr_left λp _=>?_;show(if p.1=a then(p.1,v) else p).1=p.1;split<;>rfl
 .have hm:a∉d.map (·.1):=λhm=>by
   obtain⟨z,hz,e⟩:=jaY.mp hm;exact h (jcj.mpr ⟨z,hz,by simpa using e⟩)
  refine⟨λz=>absurd z hm,λ_=>?_⟩;rw[jaa h,jaO];rfl
def wI.nil:wI [] []:=⟨λx=>by simp[gF],⟨[],M,.nil,λx=>by simp⟩,jaj _⟩
def wI.snoc {l:List (Str×Int)}{d:List (Key×T)}(h:wI l d)(x:Str)(w:Int){i:Int}(hi:i=wt l x+w):wI (l++[(x,w)]) (dput d (.inr x) (.int i)):=by
 obtain⟨ss,h1,h2,h3⟩:=h.keys;refine⟨λy=>?_,?_,?_⟩
 .rw[MT,h.val y,jaO,Uw,i6,Ci];by_cases e:x=y
  .subst e;rw[jab M,jab (by simp),jab M,hi];congr 3;omega
  .have:¬(Sum.inr x:Key)=Sum.inr y:=λz=>e (Sum.inr.inj z);rw[jaa this,jaa e];by_cases m:y∈l.map (·.1)
   .rw[jab m,jab (jaX _ m)];congr 3;omega
   .rw[jaa m,jaa];intro z;rcases jaU.mp z with z | z
    .exact m z
    .simp at z;exact e z.symm
 .obtain⟨k1,k2⟩:=Hu d (.inr x) (.int i);rw[h1] at k1 k2;by_cases m:(Sum.inr x:Key)∈ss.map Sum.inr
  .have mx:x∈ss:=by
    obtain⟨y,hy,e⟩:=jaY.mp m;rw[<- Sum.inr.inj e];exact hy
   refine⟨ss,k1 m,h2,λy=>?_⟩;rw[h3 y,jaO,jaU];constructor
   .exact .inl
   .rintro(z | z)
    .exact z
    .simp at z;subst z;exact(h3 y).mp mx
  .have mx:x∉ss:=λz=>m (jaY.mpr ⟨x,z,M⟩);refine⟨ss++[x],by rw[k2 m];simp,?_,λy=>?_⟩
   .rw[jcA];refine⟨h2,by simp,λa ha b hb=>?_⟩;rw[jaE.mp hb];exact λz=>mx (z ▸ ha)
   .rw[jaO,jaU,jaU,h3 y];simp
 .have:(dput d (.inr x) (.int i)).length<=d.length+1:=by
   unfold dput;split
   .simp
   .simp
  have:=h.len;simp;omega
def sz (n:Nat)(h:autoParam (n<=1000) zn):n<=sizeLine:=jap h (by rw[ja4];decide)
def nP {n:Nat}(h:n<=1000):n<=sizeLine:=sz n h
def Es {n:Nat}(h:n<=1000):n<sizeLine:=Gh h
def aB {S:aO}{o:O}:(S++[o])[S.length]?=some o:=by simp
def b7 {S:aO}{o o':O}:(S++[o]).set S.length o'=S++[o']:=by simp
def made {S:aO}{C:Addr}{ns:jc2}{l:List T}{o:O}{k:KD}(h:k (.t (.ins C ns l)) S):SY C S k .ck ((S++[o]).set S.length (.ins C ns (l.map .t))):=⟨M,ns,l,b7,h⟩
def Qf (l:List (Str×Int)):(Ex (l.map (·.1))).filterMap (λx=>if wt l x≠0 then some (pT (x,wt l x)) else none)=(norm l).map pT:=by
 unfold norm;generalize Ex (l.map (·.1))=r
 induction r with
 |nil=>rfl
 |cons a r ih=>
  rw[jal];by_cases h:wt l a≠0
  .rw[jcK (f:=λx=>if wt l x≠0 then some (pT (x,wt l x)) else none) (jab h),ih,List.filter_cons_of_pos (by simpa using h)];rfl
  .rw[List.filterMap_cons_none (f:=λx=>if wt l x≠0 then some (pT (x,wt l x)) else none) (jaa h),ih,List.filter_cons_of_neg (by simpa using h)]
def LJ (l:List (Str×Int)):(norm l).length<=l.length:=by
 unfold norm;have h1:=List.length_filter_le (λp:Str×Int=>decide (p.2≠0)) ((Ex (l.map (·.1))).map λx=>(x,wt l x));have h2:=xZ (l.map (·.1));rw[jad] at h1 h2;omega
def Dc {a b:Int}:decide (V.int a=V.int b)=decide (a=b):=by
 rw[ja1];exact⟨λh=>V.int.inj h,λh=>by rw[h]⟩
def qd {a b:Str}:decide (V.str a=V.str b)=decide (a=b):=by
 rw[ja1];exact⟨λh=>V.str.inj h,λh=>by rw[h]⟩
section
variable {S loc:aO}{d:D}{l:List T}
def a0T (h:lq S d=some l):lq (S++loc) d=some l:=by
 cases d with
 |t x=>cases x<;>exact h
 |ob n=>
  have h:(match S[n]? with | some (.lst l)=>some l | _=>none)=some l:=h;show(match(S++loc)[n]? with | some (.lst l)=>some l | _=>none)=some l;cases q:S[n]? with
  |none=>rw[q] at h;cases h
  |some o=>
   rw[jaF (jao.mp q).1,q];rw[q] at h;exact h
def nR (h:xq S d=some l):d=.tup l\/lq S d=some l:=by
 cases d with
 |ob n=>exact .inr h
 |t x=>
  cases x with
  |tup m=>left;have h:some m=some l:=h;injection h with h;rw[h]
  |_=>exact .inr h
def RA (h:xq S d=some l):xq (S++loc) d=some l:=by
 rcases nR h with rfl | h
 .rfl
 .cases d with
  |ob n=>exact a0T h
  |t x=>
   cases x with
   |tup m=>cases h
   |_=>exact h
def lX (h:xq S d=some l):sq S d=some l:=by
 rcases nR h with rfl | h
 .rfl
 .cases d with
  |ob n=>exact h
  |t x=>
   cases x with
   |tup m=>cases h
   |Az m=>cases h
   |_=>exact h
def g9 {n:Nat}{o:O}(h:S[n]?=some o):(S++loc)[n]?=some o:=by rw[jaF (jao.mp h).1];exact h
def S8 {k:List D->(aO->Prop)->aO->Prop}(h:xq S d=some l)(hk:∀G:aO->Prop,(∀loc,G (S++loc))->k (l.map .t) G (S++loc)):bf d (S++loc) k:=by
 rcases nR h with rfl | h
 .exact .inl ⟨l,.inl M,hk _ λ_=>trivial⟩
 .cases d with
  |t x=>
   cases x with
   |lst m=>
    have h:some m=some l:=h;injection h with h
    subst h;exact .inl ⟨m,.inr M,hk _ λ_=>trivial⟩
   |_=>cases h
  |ob n=>
   have h':(match S[n]? with | some (.lst l)=>some l | _=>none)=some l:=h;cases q:S[n]? with
   |none=>rw[q] at h';cases h'
   |some o=>
    rw[q] at h';cases o with
    |lst m=>
     have h':some m=some l:=h';injection h' with h'
     subst h';exact .inr ⟨n,m,M,g9 q,hk _ λloc=>g9 q⟩
    |_=>cases h'
def Ml {k:List D->(aO->Prop)->aO->Prop}(h:xq S d=some l)(hk:∀G:aO->Prop,(∀loc,G (S++loc))->k (l.map .t) G S):bf d S k:=by
 have:=S8 (loc:=[]) (k:=k) h (by simpa using hk);simpa using this
def S9 {k:List D->(aO->Prop)->aO->Prop}(hk:k (l.map .t) (λ_=>True) S):bf (.tup l) S k:=.inl ⟨l,.inl M,hk⟩
def rM {k:List D->(aO->Prop)->aO->Prop}(hk:k (l.map .t) (λ_=>True) S):bf (.lst l) S k:=.inl ⟨l,.inr M,hk⟩
end
theorem Dv {α:Type}{G:aO->Prop}{g:qJ}{tt:mQ}{te:bH}{δ0:Sl}{k:List T->aO->Prop}{S:aO}{l:List α}(c:α->T)(f:α->Option T)(hG:G S)(hl:l.length<=sizeLine)(hs:∀x∈l,∀k':Option T->aO->Prop,k' (f x) S->elem g tt te δ0 (.t (c x)) S k')
  (hk:k (l.filterMap f) S):eG G g tt te δ0 ((l.map c).map .t) S [] k:=by
 have go:∀(r:List α)(ys:List T),ys.length+r.length<=sizeLine->(∀x∈r,∀k':Option T->aO->Prop,k' (f x) S->elem g tt te δ0 (.t (c x)) S k')->k (ys++r.filterMap f) S->eG G g tt te δ0 ((r.map c).map .t) S ys k:=by
  intro r
  induction r with
  |nil=>intro ys _ _ q;rw[List.filterMap_nil,jaK] at q;exact⟨hG,q⟩
  |cons a r ih=>
   intro ys hz hs q;rw[jaA] at hz;refine⟨hG,hs a jai (λo S'=>match o with | some y=>ys.length<sizeLine/\eG G g tt te δ0 ((r.map c).map .t) S' (ys++[y]) k | none=>eG G g tt te δ0 ((r.map c).map .t) S' ys k) ?_⟩;cases e:f a with
   |none=>exact ih ys (by omega) (λx hx=>hs x (jah _ hx)) (by rw[List.filterMap_cons_none e] at q;exact q)
   |some y=>exact⟨by omega,ih (ys++[y]) (by simp;omega) (λx hx=>hs x (jah _ hx)) (by rw[jcK e] at q;simpa using q)⟩
 exact go l [] (by simpa using hl) hs (by simpa using hk)
def QM {α β:Type}(f:α->β)(l:List α):l.filterMap (λx=>some (f x))=l.map f:=by
 induction l with
 |nil=>rfl
 |cons a r ih=>rw[jcK (f:=λx=>some (f x)) M,ih];rfl
theorem jt {α:Type}{G:aO->Prop}{g:qJ}{tt:mQ}{te:bH}{δ0:Sl}{k:List T->aO->Prop}{S:aO}{l:List α}(c f:α->T)(hG:G S)(hl:l.length<=sizeLine)(hs:∀x∈l,∀k':Option T->aO->Prop,k' (some (f x)) S->elem g tt te δ0 (.t (c x)) S k')
  (hk:k (l.map f) S):eG G g tt te δ0 ((l.map c).map .t) S [] k:=Dv c (λx=>some (f x)) hG hl hs (by rw[QM];exact hk)
theorem MG {α:Type}{G:aO->Prop}{g:qJ}{tb:iW}{E:mR}{Z:Sl}{S:aO}{l:List α}(c:α->T)(I:List α->Sl->aO->Prop)(h0:I [] Z S)
  (hs:∀pre x post Z S (N:KS),l=pre++x::post->I pre Z S->(∀Z' S',I (pre++[x]) Z' S'->N Z' S')->G S/\g (.t (c x)) Z S λδ1 S1=>tb {E with nx:=N,ct:=N,bk:=E.nx } δ1 S1)
  (hd:∀Z S,I l Z S->G S/\E.nx Z S):wj G g tb ((l.map c).map .t) E Z S:=by
 have go:∀(r pre:List α)(Z:Sl)(S:aO),l=pre++r->I pre Z S->wj G g tb ((r.map c).map .t) E Z S:=by
  intro r
  induction r with
  |nil=>intro pre Z S e h;rw[jaK] at e;subst e;exact hd Z S h
  |cons a r ih=>intro pre Z S e h;exact hs pre a r Z S _ e h λZ' S' h'=>ih (pre++[a]) Z' S' (by rw[e];simp) h'
 exact go l [] Z S rfl h0
def ln1 {l:List T}(h:l.length=1):∃a,l=[a]:=by
 match l,h with
 |[a],_=>exact⟨a,M⟩
def ln2 {l:List T}(h:l.length=2):∃a b,l=[a,b]:=by
 match l,h with
 |[a,b],_=>exact⟨a,b,M⟩
def ln3 {l:List T}(h:l.length=3):∃a b c,l=[a,b,c]:=by
 match l,h with
 |[a,b,c],_=>exact⟨a,b,c,M⟩
def ln4 {l:List T}(h:l.length=4):∃a b c d,l=[a,b,c,d]:=by
 match l,h with
 |[a,b,c,d],_=>exact⟨a,b,c,d,M⟩
def ln5 {l:List T}(h:l.length=5):∃a b c d e,l=[a,b,c,d,e]:=by
 match l,h with
 |[a,b,c,d,e],_=>exact⟨a,b,c,d,e,M⟩
def dH {S:aO}{i:Nat}{o:O}(h:i<S.length):(S.set i o)[i]?=some o:=jaI h
def zg {S loc:aO}{j:Nat}{l:List T}(h:loc[j]?=some (.lst l)):lq (S++loc) (.ob (S.length+j))=some l:=by
 show(match(S++loc)[S.length+j]? with | some (.lst l)=>some l | _=>none)=some l;rw[lA,h]
def Ay (C:Addr)(ns:jc2):fG:=λds S k=>∃(n:Nat)(l:List T),ds=.ob n::l.map .t/\l.length=ns.length/\S[n]?=some (.ins C [] [])/\k .ck (S.set n (.ins C ns (l.map .t)))
def jY (K:Frag):fG:=λds S k=>∃(n:Nat)(x:T)(C:Addr),ds=[.ob n,.t x]/\S[n]?=some (.ins C [] [])/\iu K C "at"/\k .ck (S.set n (.ins C ["at"] ([x].map .t)))
def set_same {S:aO}{f:Nat}{o:O}(h:S[f]?=some o):S.set f o=S:=by
 obtain⟨h1,h2⟩:=jao.mp h;rw[<- h2];exact List.set_getElem_self h1
def gc {S S':aO}{d:D}{k:KD}(h:k d S'):closes S.length d S' k:=.inr (.inr (.inr h))
def aI {S:aO}{b:Nat}{C:Addr}{ns:jc2}{l:List D}(h:S[b]?=some (.ins C ns l)):iq S (.ob b)=some (C,ns,l):=by
 show(match S[b]? with | some (.ins C ns l)=>some (C,ns,l) | _=>none)=_;rw[h]
def wW {S:aO}{b:Nat}{l:List T}(h:S[b]?=some (.lst l)):sq S (.ob b)=some l:=by
 unfold sq;show(match S[b]? with | some (.lst l)=>some l | _=>none)=_;rw[h]
def gz {S:aO}{b:Nat}{l:List T}(h:S[b]?=some (.lst l)):lq S (.ob b)=some l:=by
 show(match S[b]? with | some (.lst l)=>some l | _=>none)=_;rw[h]
def gp {S:aO}{i:Nat}{C:Addr}{ns ns':jc2}{l l':List D}(h1:S[i]?=some (.ins C ns l)){d:D}{m:List T}(h:xq S d=some m):xq (S.set i (.ins C ns' l')) d=some m:=by
 rcases nR h with rfl | h
 .rfl
 .have key:lq (S.set i (.ins C ns' l')) d=some m:=by
   unfold lq at h ⊢;split at h
   .exact h
   .rename_i n hq;have hn:n≠i:=λe=>by subst e;rw[h1] at h;cases h
    show(match(S.set i (O.ins C ns' l'))[n]? with | some (.lst l)=>some l | _=>none)=some m;rw[jbL (jaH hn)];exact h
   .cases h
  unfold xq;split
  .unfold lq at key;cases key
  .exact key
def ieq {a b:Int}(h:a=b):xor false (decide (V.int a=V.int b))=true:=by rw[Dc,jag h];rfl
def ine {a b:Int}(h:a≠b):xor false (decide (V.int a=V.int b))=false:=by rw[Dc,jaf h];rfl
def seq {a b:Str}(h:a=b):xor false (decide (V.str a=V.str b))=true:=by rw[qd,jag h];rfl
def yh {a b:Str}(h:a≠b):xor false (decide (V.str a=V.str b))=false:=by rw[qd,jaf h];rfl
def BR {a b:Str}(h:autoParam (a≠b) km):D.bl (xor false (decide (V.str a=V.str b)))=D.bl false:=jae D.bl (yh h)
def O3 {a b:Str}(h:autoParam (a=b) zi):D.bl (xor false (decide (V.str a=V.str b)))=D.bl true:=jae D.bl (seq h)
def qF2 {a b:Int}(h:a≠b:=by omega):D.bl (xor false (decide (V.int a=V.int b)))=D.bl false:=jae D.bl (ine h)
def qT2 {a b:Int}(h:a=b:=by omega):D.bl (xor false (decide (V.int a=V.int b)))=D.bl true:=jae D.bl (ieq h)
def b8 {S loc:aO}{L q:Nat}(h:S.length=L):(S++loc)[L+q]?=loc[q]?:=by subst h;exact lA
theorem XE {S:aO}{j:Nat}{l:List T}(c:Cl S):∀o∈S.set j (.lst l),Bw S.length o:=λo ho=>by
 rcases jcJ ho with h | rfl
 .exact c o h
 .trivial
def pB (S:aO)(d:Nat)(c m:Int):aO:=S.set d (.lst [.int c,.int m])
def Dq (S:aO)(d:Nat):Prop:=∃c m:Int,S[d]?=some (.lst [.int c,.int m])
section
variable {S loc:aO}{d:Nat}{a b c m:Int}
def Dq.lt (h:Dq S d):d<S.length:=by obtain⟨_,_,e⟩:=h;exact(jao.mp e).1
def Xw (h:d<S.length):(pB S d c m)[d]?=some (.lst [.int c,.int m]):=jaI h
def Dq.pB (h:Dq S d):Dq (pB S d c m) d:=⟨c,m,Xw h.lt⟩
def Q3:L3.pB (L3.pB S d a b) d c m=L3.pB S d c m:=jaq ..
def dR:(pB S d c m).length=S.length:=jaQ
def FA (h:d<S.length):pB (S++loc) d c m=pB S d c m++loc:=List.set_append_left _ _ h
def Dq.up (h:Dq S d):Dq (S++loc) d:=let⟨c,m,e⟩:=h;⟨c,m,g9 e⟩
def XF (hc:Cl S):∀o∈pB S d c m,Bw S.length o:=XE hc
theorem XA {n:Nat}{g:qJ}{tt:mQ}{te:bH}{δ0:Sl}{k:List T->aO->Prop}(hd:Dq S d)(P:T->Prop)(hn:n<=1000)
  (hs:∀(i:Nat) c m (k':Option T->aO->Prop),(∀y c' m',P y->k' (some y) (pB S d c' m'))->elem g tt te δ0 (.int i) (pB S d c m) k')
  (hk:∀ys c m,ys.length=n->(∀y∈ys,P y)->k ys (pB S d c m)):eG (λ_=>True) g tt te δ0 ((List.range n).map λ(i:Nat)=>D.int i) (pB S d a b) [] k:=by
 refine Bv (λi ys S'=>ys.length=i/\(∀y∈ys,P y)/\∃c m,S'=L3.pB S d c m) ⟨M,λ_ h=>absurd h jbb,a,b,M⟩ ?_ ?_
 .rintro i x ys S' k' hx ⟨hl,hp,c,m,rfl⟩ hk';rw[jax] at hx;have hi:i<n:=by
   rcases Nat.lt_or_ge i n with h | h
   .exact h
   .rw[jbZ (by rw[List.length_range];exact h)] at hx;cases hx
  rw[jb2 hi] at hx;cases hx;refine⟨trivial,Es (by omega),hs i c m k' λy c' m' hy=>hk' _ _ ⟨by simp[XY,hl],λz hz=>?_,c',m',M⟩⟩;rcases jaU.mp (show z∈ys++[y] from hz) with h | h
  .exact hp z h
  .rw[jaE.mp h];exact hy
 .rintro ys S' ⟨hl,hp,c,m,rfl⟩;rw[jad,List.length_range] at hl;exact⟨trivial,hk ys c m hl hp⟩
end
def lsS (l:jc2):T:=.lst (l.map T.str)
def Se:fG:=λds S k=>∃c j:Int,ds=[.int c,.int j]/\∀r:Int,0<=r->r<2147483399->k (.int r) S
def JN:fG:=λds S k=>∃(l:List Int)(j:Nat),ds=[.t (.Az (l.map T.int)),.int j]/\∀r:Int,k (.int r) S
def Zr:fG:=λds S k=>∃(d:Nat)(n:Int),ds=[.ob d,.int n]/\Dq S d/\0<n/\∀(r:Nat) c m,(r:Int)<n->k (.int r) (pB S d c m)
theorem ex_map {α β:Type}{f:α->β}{P:α->Prop}:∀{ys:List β},(∀y∈ys,∃x,y=f x/\P x)->∃xs:List α,ys=xs.map f/\xs.length=ys.length/\∀x∈xs,P x
 |[],_=>⟨[],M,M,λ_ h=>absurd h jbb⟩
 |y::r,h=>by
  obtain⟨x,e,p⟩:=h y jai;obtain⟨xs,e1,e2,e3⟩:=ex_map (ys:=r) λz hz=>h z (jah _ hz);exact⟨x::xs,by rw[e,e1];rfl,by rw[jaA,jaA,e2],λz hz=>by
   rcases jak.mp hz with rfl | hz
   .exact p
   .exact e3 z hz⟩
section
variable {S:aO}{x:D}{l:List T}{k:KD}
end
theorem f9:∀l:jc2,sr (l.map T.str)=some (l.map V.str)
 |[]=>rfl
 |a::r=>by
  show(match flT (T.str a),sr (r.map T.str) with | some v,some vs=>some (v::vs) | _,_=>none)=_;rw[f9 r];rfl
def a3p {l:List T}(h:l≠[]):HT.d7 l.length 0 (some 1)=1:=by
 have:=HT.oU l.length 0 1;have e:HT.d7 l.length 0 (some 1)=min 1 l.length:=this;rw[e];have:=List.length_pos_iff.mpr h;omega
def vz {x:T}{l:List T}:eY (x::l) (some 1) none=l:=by
 unfold eY;rw[a3p (by simp),HT.uK];simp
def lD {α:Type}{x:α}{l:List α}:nQ (x::l) 0=some x:=b9 (j:=0) rfl
theorem dJ {P:Program}{w:World}{K:Frag}{mg:Str->jc7}{base:Heap}{x qual:Str}{st:Stmt}{f:Addr}{fd:FuncData}{N ps:jc2}{k:Nat}{sp:fG}(F:b6 K x qual st f fd)(S:au N ps (ah st))
  (hb:∀(AT:Value)(A:Around)(outer:List Env)(s:Shared)(H:Hp)(E:XK),bR k (A.deeper (PyProof.Rows.envOfC qual (ah st) s.heap.objs.size f AT))->
   DfR (zC dh P w K mg base N qual (ah st) f AT A outer s H E).Yh (ak st) N sp)
  (len:∀ds S k,sp ds S k->ds.length=ps.length:=by intro ds S k h;repeat (first | (obtain⟨rfl,_⟩:=h;rfl) | obtain⟨_,h⟩:=h)):aG P w K mg base dh (k+1) f fd ps (cY K sp):=zA F S len hb
section
variable {X:Cx}{e v1 v2:Expr}{es:jc5}{te:bH}{t:TJ3}{pos:Pos}{c:Str}{j:Nat}
end
def a1T:HB
 |[.t (.v (.int i))],S,k=>k (.int (sF i)) S
 |_,_,_=>False
def a1M {X:Cx}:Call3 X (.builtin "abs") a1T:=by
 refine gf M5 ?_;rintro vs H Q ⟨Y,S,ds,k,R,rd,q,hk⟩;unfold a1T at q;split at q
 .obtain⟨v,rfl,rv⟩:=rd.one;rw[ay rv];exact⟨_,M,fin R hk aM q⟩
 .exact q.elim
def a29 (c:mQ)(tb:iW):iW:=λE Z S=>∃W:Nat->Sl->aO->Prop,(∃m,W m Z S)/\∀m Z S,W m Z S->
 c Z S λb S1=>if b=true then ∃N:KS,(∀Z' S',N Z' S'->∃m',m' < m/\W m' Z' S')/\tb {E with nx:=N,ct:=N,bk:=E.nx } Z S1 else E.nx Z S1
section
variable {X:Cx}{c o i e:Expr}{body:List Stmt}{tc:mQ}{tb:iW}{to ti te:bH}{pos:Pos}
theorem iL (hp:PassesOwn (model X.prog X.w) X.A X.env X.xe)(hc:QT X c tc)(hb:cH X body tb):QS X (.While c body [] pos) (a29 tc tb):=
 gY (KH hp hc hb) λD U H ⟨Y,S,Z,E,R,RS,⟨W,⟨m0,w0⟩,q⟩,eu⟩=>by
  refine⟨λm U' H'=>∃Y' S' Z',Gr Y H Y' H'/\R3 X.K Y' S' H'/\pY X.K Y' (res Y' H') Z' U'/\W m Z' S',⟨m0,Y,S,Z,.refl,R,RS,w0⟩,?_⟩;rintro m σ1 H1 ⟨Y1,S1,δ1,g1,R1,Rn,w1⟩;refine⟨Y1,S1,δ1,_,R1,Rn,q m δ1 S1 w1,λb H2 ⟨Y2,S2,g2,R2,q2⟩=>?_⟩;cases b with
  |true=>
   obtain⟨N,hN,q2⟩:=q2;have gg:=g1.trans g2;have fw:∀U' H',F6 X.K Y2 H2 N U' H'->F6 X.K Y2 H2 N U' H':=λ_ _ z=>z;exact⟨F6 X.K Y2 H2 N,λσ3 H3 ⟨ρ3,S3,δ3,g3,pZ,Yx,n3⟩=>let⟨m',hm,w3⟩:=hN δ3 S3 n3;⟨m',hm,ρ3,S3,δ3,gg.trans g3,pZ,Yx,w3⟩,
    Y2,S2,δ1,_,R2,Rn.gr g2,q2,⟨fw,λv H' u=>eu.rt v H' (u.gr gg),λU' H' u=>eu.nx U' H' (u.gr gg),fw⟩⟩
  |false=>exact eu.nx _ _ ⟨Y2,S2,δ1,g1.trans g2,R2,Rn.gr g2,q2⟩
def a1m (to ti:bH):qJ:=λd Z S k=>to Z S λo S1=>ti Z S1 λi S2=>∃(n j:Nat)(l:List T)(x:T),o=.ob n/\i=.int j/\d=.t x/\S2[n]?=some (.lst l)/\j<l.length/\k Z (S2.set n (.lst (l.set j x)))
theorem Vv (ho:QE X o to)(hi:QE X i ti)
  (ha:autoParam (∀v,assign (.Subscript o i pos) X.env v=(do
   let ov <- holding [v] (eval o X.env)
   let iv <- holding [v,ov] (eval i X.env)
   standAt pos
   holding [v,ov,iv] (setItem ov iv v)
   release [v,ov,iv] [])) jp):QG X (.Subscript o i pos) (a1m to ti):=
 AO (V5 ho hi set_list ha) λv U H Q ⟨Y,S,Z,d,k,R,RS,rd,q,hk⟩=>⟨Y,S,Z,_,R,RS,q,λv1 H1 ⟨Y1,S1,d1,g1,R1,r1,q1⟩=>⟨Y1,S1,Z,_,R1,RS.gr g1,q1,(by
  rintro v2 H2 ⟨Y2,S2,d2,g2,R2,r2,n,j,l,x,h1,h2,h3,h4,h5,q2⟩;subst h1 h2 h3;obtain⟨p,hp,e1⟩:=r1.gr g2;obtain⟨vs,e2,e3⟩:=R2.ok n p _ hp h4;have gg:=g1.trans g2;have key:aX X.K (res Y2 H2) (l.set j x) (vs.set j v):=aX.put (rd.gr gg) e3;obtain⟨R4,g4⟩:=R2.put (o:=.lst (vs.set j v)) (u:=.lst (l.set j x)) hp ⟨_,M,key⟩;refine⟨p,vs,j,j,e1,ay r2,e2,?_,hk _ _ ⟨Y2,_,Z,gg.trans g4,R4,(RS.gr gg).gr g4,q2⟩⟩;unfold NO;rw[jab (by omega),jab (by rw[<- e3.len];omega)];simp)⟩⟩
end
structure Ad where
 (wz cS dS bA gM kG wA g8 kH BE rT kJ rV gi fF g7 fN dD bZ aa bQ nF nE gK gJ gI:Addr)
inductive xN where
 |cmp (a:Sm) (s:Str) (b:Sm) | neg (c:xN) | con (k:Bool) (cs:List xN)
def shp:xN->Nat
 |.cmp _ _ _=>0 | .neg _=>1 | .con true _=>2 | .con false _=>3
def TH (A:Ad):Nat->Addr
 |0=>A.cS | 1=>A.dS | 2=>A.gM | _=>A.kG
def a3k (l:jc2):T:=.tup (l.map T.str)
section
variable (A:Ad)
def EC (s:Sm):T:=.ins A.wz ["terms","number"] [.tup (s.1.map pT),.int s.2]
mutual
def rR:xN->T
 |.cmp a s b=>.ins A.cS ["one","sign","other"] [EC A a,.str s,EC A b]
 |.neg c=>.ins A.dS ["condition"] [rR c]
 |.con k cs=>.ins (if k=true then A.gM else A.kG) ["conditions"] [.tup (Q7 cs)]
def Q7:List xN->List T
 |[]=>[]
 |c::r=>rR c::Q7 r
end
def atT (p:Int×xN):T:=.tup [.int p.1,rR A p.2]
end
theorem By (A:Ad):∀l:List xN,Q7 A l=l.map (rR A)
 |[]=>rfl
 |c::r=>by rw[Q7,By A r];rfl
def JR (c:xN):shp c<4:=by
 cases c with
 |cmp a s b=>show 0<4;decide
 |neg c=>show 1<4;decide
 |con k cs=>cases k<;>(first | (show 2<4;decide) | (show 3<4;decide))
def Q9 (A:Ad)(a b:Sm)(s:Str):rR A (.cmp a s b)=.ins A.cS ["one","sign","other"] [EC A a,.str s,EC A b]:=by rw[rR]
def FO (A:Ad)(q:Bool)(cs:List xN):rR A (.con q cs)=.ins (if q=true then A.gM else A.kG) ["conditions"] [.tup (cs.map (rR A))]:=by rw[rR,By]
def Q8 (A:Ad)(c:xN):rR A (.neg c)=.ins A.dS ["condition"] [rR A c]:=by rw[rR]
def RG (A:Ad)(S:aO)(c:xN):tyD S (.t (rR A c))=some (.ref (TH A (shp c))):=by
 cases c with
 |cmp a s b=>unfold rR;rfl
 |neg c=>unfold rR;rfl
 |con k cs=>cases k<;>(unfold rR;rfl)
def wB (a b:Str):(a++b).length=a.length+b.length:=lE a b
theorem JQ (sep:Str):∀ss:jc2,(Str.join sep ss).length<=(ss.map (·.length)).sum+ss.length*sep.length
 |[]=>by simp[Str.join,Str.length,Str.empty]
 |[x]=>by simp[Str.join]
 |x::y::r=>by
  show(x++sep++Str.join sep (y::r)).length<=_;have ih:=JQ sep (y::r);rw[wB,wB,jal,List.sum_cons,jaA,Nat.succ_mul];omega
def W2 (sep:Str)(ss:jc2):(Txt.join sep ss).length<=(ss.map (·.length)).sum+ss.length*sep.length:=by
 show(Builtin.Str.glued sep ss).length<=_;rw[jby];exact JQ sep ss
theorem Jp {jcY:Nat}:∀{l:jc2},(∀x∈l,x.length<=jcY)->(l.map (·.length)).sum<=jcY*l.length
 |[],_=>jaT _
 |a::l,h=>by
  have h1:=h a jai;have h2:=Jp λx hx=>h x (jah _ hx);rw[jal,List.sum_cons,jaA,Nat.mul_succ];omega
section
variable (K:Frag)(A:Ad)
def JC:fG:=λds S k=>∃(n:Nat)(d:D)(l:List (Str×Int)) (m:Int),ds=[.ob n,d,.int m]/\S[n]?=some (.ins A.wz [] [])/\xq S d=some (l.map pT)/\l.length<64/\k .ck (S.set n (.ins A.wz ["terms","number"] ([.tup (l.map pT),.int m].map .t)))
def Ey:fG:=λds S k=>∃(d:D)(l:List (Str×Int)) (m:Int),ds=[d,.int m]/\xq S d=some (l.map pT)/\l.length<64/\k (.t (EC A (sumOf l m))) S
def CG (C:Addr):fG:=λds S k=>∃(n:Nat)(d:D)(l:List T),ds=[.ob n,d]/\S[n]?=some (.ins C [] [])/\xq S d=some l/\k .ck (S.set n (.ins C ["conditions"] ([.tup l].map .t)))
def EA:fG:=λds S k=>∃(d:D)(l:List (Int×xN)),ds=[d]/\xq S d=some (l.map (atT A))/\l.length<=100/\k (.tup (l.map (atT A))) S
def Si:fG:=λds S k=>∃(i:Nat)(a:Int)(d1 d2:D)(ns:jc2)(hp:Str)(g:List Sm),ds=[.ob i,.int a,d1,.str hp,d2]/\S[i]?=some (.ins A.rV [] [])/\xq S d1=some (ns.map T.str)/\xq S d2=some (g.map (EC A))/\
 k .ck (S.set i (.ins A.rV ["at","names","helper","given"] ([.int a,a3k ns,.str hp,.tup (g.map (EC A))].map .t)))
def JM:fG:=λds S k=>∃(i:Nat)(a:Int)(c:T)(d1 d2:D)(t e:List T),ds=[.ob i,.int a,.t c,d1,d2]/\S[i]?=some (.ins A.gi [] [])/\xq S d1=some t/\xq S d2=some e/\
 k .ck (S.set i (.ins A.gi ["at","condition","then","other"] ([.int a,c,.tup t,.tup e].map .t)))
def Ez:fG:=λds S k=>∃(i:Nat)(a:Int)(c f:T)(d1 d2:D)(hs:List (Int×xN)) (b:List T),ds=[.ob i,.int a,.t c,d1,.t f,d2]/\S[i]?=some (.ins A.fF [] [])/\xq S d1=some (hs.map (atT A))/\hs.length<=100/\xq S d2=some b/\
 k .ck (S.set i (.ins A.fF ["at","condition","keeps","falls","body"] ([.int a,c,.tup (hs.map (atT A)),f,.tup b].map .t)))
noncomputable def rL:jc2:=(["helper","answers","needs","gives","end","let","div","mod","put","row","at","if","else"]:jc2)++(["while","holds","falls","call","claim","and","or","not"]:jc2)
def JH:fG:=λds S k=>ds=[]/\k (.t (lsS rL)) S
def JG:fG:=λds S k=>∃l:List Int,ds=[.t (.Az (l.map T.int))]/\S=[]/\∀S',k (.bl true) S'
end
def zE (a b:Str):cp (a++b)=cp a++cp b:=uc a b
theorem Tw (sep:Str):∀(l:jc2)(x:Str),cp (Str.join sep (x::l))=cp x++(l.map λy=>cp sep++cp y).flatten
 |[],x=>by simp[Str.join]
 |y::r,x=>by
  show cp (x++sep++Str.join sep (y::r))=_;rw[zE,zE,Tw sep r y];simp
def M0 (sep:Str)(l:jc2)(x:Str):cp (Txt.join sep (x::l))=cp x++(l.map λy=>cp sep++cp y).flatten:=by
 show cp (Builtin.Str.glued sep (x::l))=_;rw[jby];exact Tw sep l x
def a3P {t u:mQ}{Z:Sl}{S:aO}{k:Bool->aO->Prop}(b1 b2:Bool)(h1:∀k',k' b1 S->t Z S k')(h2:∀k',k' b2 S->u Z S k')(hk:k (b1||b2) S):YY t u Z S k:=by
 refine h1 _ ?_;cases b1 with
 |true=>exact hk
 |false=>exact h2 _ hk
def TY {t u:mQ}{Z:Sl}{S:aO}{k:Bool->aO->Prop}(b1 b2:Bool)(h1:∀k',k' b1 S->t Z S k')(h2:∀k',k' b2 S->u Z S k')(hk:k (b1&&b2) S):Er t u Z S k:=by
 refine h1 _ ?_;cases b1 with
 |false=>exact hk
 |true=>exact h2 _ hk
def a1E:cp (" ":Str)=[32]:=by symm
def nD:cp ("":Str)=[]:=by symm
def um {n:Nat}(h:n<=1000000):n<=sizeLine:=jap h (by rw[ja4];decide)
theorem FN {L j:Nat}{S0 S1:aO}{l:List T}{k:KD}(c:∀o∈S0,Bw L o)(hS:S0.length=L)(e:S1[j]?=some (.lst l))(h:k (.lst l) S0):closes L (.ob (L+j)) (S0++S1) k:=
 .inr (.inr (.inl ⟨_,l,S0,S1,M,by omega,M,hS,c,by rw[b8 hS];exact e,h⟩))
def Hf:∀x∈rL,x.cps.toList.head?≠some 122:=by symm
def BW (k:Int)(t:Nat):zt k t∉rL:=λh=>Hf _ h (by unfold zt;rw[xO];rfl)
section
variable {a0 a1 a2 a3 a4 a5 a6 a7:Str}{r:Nat}
end
noncomputable def wm (c:Nat):Bool:=decide (48<=c)&&decide (c<=57)
def MM (z:Str):Bool:=z.cps.toList.all wm
def gb (z:Str):Bool:=(decide (1<=z.length)&&decide (z.length<=9))&&!(decide ((cp z).head?=some 48)&&decide (z≠"0"))&&MM z
def dW (z:Str):Bool:=isNm z||(Txt.startswith z "#"&&isNm (Txt.slice z (some 1) none))
def JJ:fG:=λds S k=>∃z:Str,ds=[.str z]/\z.length<=1000/\k (.bl (MM z)) S
def JK:fG:=λds S k=>∃z:Str,ds=[.str z]/\z.length<=1000/\k (.bl (gb z)) S
def Zs:fG:=λds S k=>∃z:Str,ds=[.str z]/\z.length<=1000/\k (.bl (isNm z)) S
def Zq:fG:=λds S k=>∃z:Str,ds=[.str z]/\z.length<=1000/\k (.bl (dW z)) S
def le_0 (c:Nat):(!(decide (((⟨#[c]⟩:Str)).cps.toList<(("0":Str)).cps.toList)))=decide (48<=c):=by
 show(!(decide ([c] < [48])))=_;have e:([c] < [48])↔(c<48):=by rw[jcR];simp
 by_cases h:48<=c
 .rw[jag h,jaf (λz=>absurd (e.mp z) (by omega))];rfl
 .rw[jaf h,jag (e.mpr (by omega))];rfl
def a4b (c:Nat):(!(decide ((("9":Str)).cps.toList<((⟨#[c]⟩:Str)).cps.toList)))=decide (c<=57):=by
 show(!(decide ([57] < [c])))=_;have e:([57] < [c])↔(57<c):=by rw[jcR];simp
 by_cases h:c<=57
 .rw[jag h,jaf (λz=>absurd (e.mp z) (by omega))];rfl
 .rw[jaf h,jag (e.mpr (by omega))];rfl
def F2 (f:Nat->Bool)(l:jc8):(l.map f).all _root_.id=l.all f:=by rw[jbt];rfl
theorem FG {G:aO->Prop}{g:qJ}{tt:mQ}{te:bH}{δ0:Sl}{k:List T->aO->Prop}{S:aO}{z:Str}(f:Nat->T)(hG:G S)(hl:z.length<=sizeLine)(hs:∀c∈cp z,∀k':Option T->aO->Prop,k' (some (f c)) S->elem g tt te δ0 (.str ⟨#[c]⟩) S k')
  (hk:k ((cp z).map f) S):eG G g tt te δ0 (z.cps.toList.map λc=>D.str ⟨#[c]⟩) S [] k:=by
 have:=jt (G:=G) (g:=g) (tt:=tt) (te:=te) (δ0:=δ0) (k:=k) (S:=S) (l:=cp z) (λc=>T.str ⟨#[c]⟩) f hG (by rw[<- aW];exact hl) hs hk;rw[ja3] at this;exact this
theorem chI {i m j:Int}{Z:Sl}{S:aO}{k:KD}(h:k (.bl (decide (i<=m)&&decide (m<=j))) S) :
  Dz (λi j=>decide (i<=j)) (.int i) (.int m) S (λz S3=>∃b,z=.bl b/\if b=true then vP (.int j) Z S3 (λw S4=>Dz (λi j=>decide (i<=j)) (.int m) w S4 k) else k (.bl false) S3):=by
 refine⟨_,M,?_⟩;by_cases e:i<=m
 .rw[jab (jag e)];rw[jag e,ja9] at h;exact h
 .rw[jaa (by simp[e])];rw[jaf e,jbg] at h;exact h
theorem chS {a y b:Str}{Z:Sl}{S:aO}{k:KD}(h:k (.bl ((!(decide (y.cps.toList<a.cps.toList)))&&(!(decide (b.cps.toList<y.cps.toList))))) S) :
  Qo (.str a) (.str y) S (λz S3=>∃b',z=.bl b'/\if b'=true then vP (.str b) Z S3 (λw S4=>Qo (.str y) w S4 k) else k (.bl false) S3):=by
 refine⟨_,M,?_⟩;by_cases e:y.cps.toList<a.cps.toList
 .rw[jaa (by simp[e])];rw[jag e] at h;exact h
 .rw[jab (by simp[e])];rw[jaf e] at h;exact h
def q8:(⟨#[42]⟩:Str)="*":=by symm
def gy {x:Str}(h:42∉cp x):Txt.partition x "*"=(x,Str.empty,Str.empty):=by rw[<- q8];exact GG h
def iO {f t:Str}(h:42∉cp f):Txt.partition (f++"*"++t) "*"=(f,("*":Str),t):=by rw[<- q8];exact GF h
def lE {x f t:Str}(e:x=f++"*"++t):x.length=f.length+1+t.length:=by rw[e,<- q8];simp only[aW,jK,jaD];rfl
def JS (n:Bool):Str:=if n then "-" else "+"
def Ju (q:Bool×Str):T:=.tup [.str (JS q.1),.str q.2]
def Du {x:Str}(h:1<=x.length):cp (Txt.slice x (some 1) none)=(cp x).drop 1:=by
 have:=StrLaws.sliceText_from (x:=x) (i:=1) ⟨by decide,by rw[aW] at h;have h:1<=x.cps.toList.length:=h;omega⟩
 have e:Txt.slice x (some 1) none=StrLaws.sliceText x (some 1) none:=rfl;rw[e,this];show(((cp x).drop 1).take _)=_;rw[jbw];rw[jay];show x.cps.toList.length - 1<=_;omega
def z0 (ws:List (Str×Int)):List (Str×Int):=("",0)::ws
def Ss:(false ^^ decide (V.str (JS false)=V.str (Str.ofString "+")))=true:=by symm
def Su:¬(false ^^ decide (V.str (JS true)=V.str (Str.ofString "+")))=true:=by symm
theorem Fy (f:Str->Int):∀(d:List (Key×T)) (ss:jc2),d.map (·.1)=ss.map Sum.inr->ss.Nodup->(∀x∈ss,gF d (Sum.inr x)=some (.int (f x)))->d=ss.map λx=>(Sum.inr x,T.int (f x))
 |[],[],_,_,_=>rfl
 |[],_::_,h,_,_=>by simp at h
 |_::_,[],h,_,_=>by simp at h
 |(k,v)::d,x::ss,h,nd,hv=>by
  rw[jal,jal] at h;injection h with h1 h2
  have h1:k=Sum.inr x:=h1;subst h1;rw[jbP] at nd;have e:v=.int (f x):=by
   have:=hv x (jai ..);unfold gF at this;rw[jcQ (by simp)] at this;injection this
  rw[jal,<- e];congr 1;refine Fy f d ss h2 nd.2 λy hy=>?_;have:=hv y (jah _ hy);have ne:¬((Sum.inr x:Key)=Sum.inr y):=λz=>nd.1 (by injection z with z;rw[z];exact hy);unfold gF at this ⊢;rw[jcb (by simpa using ne)] at this;exact this
def a1z {l:List (Str×Int)}{d:List (Key×T)}(h:wI l d):∃ss:jc2,ss.Nodup/\(∀x,x∈ss↔x∈l.map (·.1))/\d=ss.map λx=>(Sum.inr x,T.int (wt l x)):=by
 obtain⟨ss,h1,h2,h3⟩:=h.keys;exact⟨ss,h2,h3,Fy _ _ _ h1 h2 λx hx=>by rw[h.val x,jab ((h3 x).mp hx)]⟩
theorem vq (f:Str->Int):∀{ss:jc2}{x:Str},x∈ss->gF (ss.map λx=>((Sum.inr x:Key),T.int (f x))) (Sum.inr x)=some (.int (f x))
 |y::ss,x,h=>by
  rw[jal];unfold gF;by_cases e:y=x
  .subst e;rw[jcQ (by simp)];rfl
  .rw[jcb (by simpa using e)];exact vq f ((jak.mp h).resolve_left λz=>e z.symm)
def a3s:(⟨#[32]⟩:Str)=" ":=by symm
def CY {l:List T}{S:aO}{k:KD}(h:k (.lst l) S):newL false l S k:=by unfold newL;rw[jaa (by decide)];exact h
def okC (c:Nat):Bool:=d8 c||wm c||decide (c=35)||decide (c=42)||decide (c=43)||decide (c=45)
structure Rl (x:Str):Prop where
 ne:cp x≠[]
 ok:∀c∈cp x,okC c=true
 nk:x∉o5
 len:x.length<=30
def Rl.no {x:Str}(h:Rl x){c:Nat}(hc:autoParam (okC c=false) km):c∉cp x:=λz=>by rw[h.ok c z] at hc;cases hc
def jn:jc2->jc8
 |[]=>[]
 |[a]=>cp a
 |a::b::r=>cp a++32::jn (b::r)
def E9 (a b:Str)(r:jc2):jn (a::b::r)=cp a++32::jn (b::r):=rfl
theorem E8:∀ws:jc2,cp (Txt.join " " ws)=jn ws
 |[]=>by symm
 |[x]=>by
  have e:Txt.join " " [x]=Str.join " " [x]:=jby ..;rw[e];rfl
 |x::y::r=>by
  have e:Txt.join " " (x::y::r)=Str.join " " (x::y::r):=jby ..;have e2:Txt.join " " (y::r)=Str.join " " (y::r):=jby ..;rw[e,gG,<- e2,E8 (y::r),E9,show cp " "=[32] by symm];rfl
def Jy {x:Str}{ws:jc2}(e:cp x=jn ws)(h0:ws≠[])(h:∀w∈ws,32∉cp w):Txt.split x " "=ws:=by
 have:x=Txt.join " " ws:=bU (by rw[e,E8]);rw[this,<- a3s];exact mV h0 h
noncomputable def ZF:jc2:=["<","<=","=","!=",">=",">"]
def a19 (K:Frag)(e:D)(xs:jc2):Prop:=e=.tup (xs.map T.str)\/∃a,e=.t (.v (.ref a))/\∀H:Hp,kL K H a (xs.map V.str)
def inU (K:Frag)(neg:Bool):pM:=λx y S k=>∃z xs,x=.str z/\a19 K y xs/\k (.bl (xor neg (decide (z∈xs)))) S
def LA {X:Cx}:sG X (compareOp .NotIn) (inU X.K true):=by
 refine ez oX ?_;rintro x y H Q ⟨Y,S,d,b,k,R,ra,rb,⟨z,xs,h1,h2,q⟩,hk⟩;subst h1;rw[ay ra];rcases h2 with rfl | ⟨a,rfl,h⟩
 .obtain⟨a,vs,e1,e2,e3⟩:=dj rb;rw[e3.strs] at e2;refine⟨a,_,e1,.inr (.of e2),M,lB xs,?_⟩;rw[bY];exact fin R hk aM (by rw[jb7] at q;exact q)
 .rw[ay rb];refine⟨a,_,M,.inr (h H),M,lB xs,?_⟩;rw[bY];exact fin R hk aM (by rw[jb7] at q;exact q)
section
variable {S loc:aO}{n:Nat}{o o':O}
def gA (h:n<S.length):(S.set n o++loc)[n]?=some o:=by rw[jaF (by simpa using h),jaI h]
def sA (h:n<S.length):(S.set n o++loc).set n o'=S.set n o'++loc:=by rw[List.set_append_left _ _ (by simpa using h),jaq]
def A6 (h:S[n]?=some o):n<S.length:=(jao.mp h).1
def vR:(S.set n o).length=S.length:=jaQ ..
end
section
variable {ts l r:jc2}{i:Nat}{w:Str}
def dr1 (h:ts.drop i=w::r):ts.getD i ""=w/\ts.drop (i+1)=r:=by
 have e:=jae (λl=>l[0]?) h;simp at e;refine⟨by rw[ja5,e];rfl,?_⟩;rw[<- List.tail_drop,h];rfl
def dr0 (h:ts.drop i=[]):ts.getD i ""="":=by
 have:=List.drop_eq_nil_iff.mp h;rw[ja5,jbZ this];rfl
def drL (h:ts.drop i=l++r):ts.drop (i+l.length)=r:=by rw[<- ja2,h,List.drop_left]
end
section
variable (A:Ad)
def pW (ts:jc2)(i:Nat)(a:Int):O:=.ins A.bZ ["tokens","place","at"] [.lst (ts.map T.str),.int i,.int a]
def RY:fG:=λds S k=>∃n ts i a,ds=[.ob n]/\S[n]?=some (pW A ts i a)/\k (.str (ts.getD i "")) S
def RX:fG:=λds S k=>∃n ts i a,ds=[.ob n]/\S[n]?=some (pW A ts i a)/\k (.str (ts.getD i "")) (S.set n (pW A ts (i+1) a))
def RW (K:Frag):fG:=λds S k=>∃(n:Nat)(e:D)(xs ts:jc2)(i:Nat)(a:Int)(l r:jc2),ds=[.ob n,e]/\a19 K e xs/\S[n]?=some (pW A ts i a)/\ts.drop i=l++r/\(∀x∈l,x≠""/\x∉xs)/\(∀x r',r=x::r'->x=""\/x∈xs)/\l.length<=900/\k (.lst (l.map T.str)) (S.set n (pW A ts (i+l.length) a))
end
theorem FL {S:aO}{n:Nat}{A:Ad}{ts:jc2}{i:Nat}{a:Int}(hc:Cl S):∀o∈S.set n (pW A ts i a),Bw S.length o:=λo ho=>by
 rcases jcJ ho with h | rfl
 .exact hc o h
 .intro d hd;simp at hd;rcases hd with rfl | rfl | rfl<;>trivial
def M1 {S S1:aO}{n:Nat}{A:Ad}{ts:jc2}{i:Nat}{a:Int}{x:T}{k:KD}(hc:Cl S)(h:k (.t x) (S.set n (pW A ts i a))):closes S.length (.t x) (S.set n (pW A ts i a)++S1) k:=.inl ⟨_,_,M,vR,FL hc,trivial,h⟩
def fU (l:List T)(n:Nat):eY l (some (n:Int)) none=l.drop n:=by
 unfold eY;rw[HT.oU,HT.uK,jbw (by simp)];rcases Nat.le_total n l.length with h | h
 .rw[jcF h]
 .rw[Nat.min_eq_right h,jcB,jcP h]
def Br (l:List T)(n:Nat):eY l none (some (n:Int))=l.take n:=by
 unfold eY;rw[HT.oU,HT.uK,jbS,Nat.sub_zero];rcases Nat.le_total n l.length with h | h
 .rw[jcF h]
 .rw[Nat.min_eq_right h,List.take_length,jbw h]
def Xz (l:List T){m n:Nat}(h:m<=n)(hn:n<=l.length):eY l (some (m:Int)) (some (n:Int))=(l.drop m).take (n - m):=by
 unfold eY;rw[HT.oU,HT.oU,jcF hn,jcF (jap h hn)]
section
variable (A:Ad)
def dG (R:List (jc2))(i:Nat):O:=.ins A.dD ["rows","at"] [.lst (R.map λws=>T.lst (ws.map T.str)),.int i]
def R7:fG:=λds S k=>∃(n:Nat)(d:D)(xs:jc2),ds=[.ob n,d]/\S[n]?=some (.ins A.dD [] [])/\xq S d=some (xs.map T.str)/\xs.length<=1000/\(∀x∈xs,x.length<=100000)/\k .ck (S.set n (dG A (xs.map λx=>Txt.split x " ") 0))
def R8:fG:=λds S k=>∃n R i,ds=[.ob n]/\S[n]?=some (dG A R i)/\(i<R.length->R.getD i []≠[])/\k (.str ((R.getD i []).headD "")) S
end
section
variable (A:Ad)
end
section
variable {R l r:List (jc2)}{i:Nat}{w:jc2}
end
theorem FJ {S:aO}{n:Nat}{A:Ad}{R:List (jc2)}{i:Nat}(hc:Cl S):∀o∈S.set n (dG A R i),Bw S.length o:=λo ho=>by
 rcases jcJ ho with h | rfl
 .exact hc o h
 .intro d hd;simp at hd;rcases hd with rfl | rfl<;>trivial
def SW {x:Str}(h:isNm x=true):Rl x:=by
 unfold isNm at h;simp only[jar,jaG,jbf,jb9] at h;obtain⟨⟨⟨h1,h2⟩,h3⟩,h4⟩:=h;refine⟨λz=>?_,λc hc=>?_,h3,by omega⟩
 .rw[aW,z] at h1;simp at h1
 .rw[jav] at h4;unfold okC;rw[h4 c hc];rfl
def eF {x:Str}(h:isNm x=true):x.length<=8:=by
 unfold isNm at h;simp only[jar,jaG] at h;exact h.1.1.2
end L3
namespace L3
open PySem L2 Hw PyProof.Rows
section
variable {X:Cx}{o e:Expr}{to:bH}{t:jB}{BM cpos:Pos}
end
def Yz (x:Str):Prop:=1<=x.length/\x.length<=8/\(cp x).all d8=true
def BJ (x:Str):Prop:=∃c,x=⟨#[c]⟩/\d8 c=true
def a0G {x:Str}(h:Yz x)(k:x∉rL):isNm x=true:=by
 unfold isNm;rw[jag h.1,jag h.2.1,jaf (show x∉o5 from k),show x.cps.toList.all d8=true from h.2.2];rfl
def E6 {r:Nat}(h:r<26):BJ ⟨#[97+r]⟩:=⟨_,M,by unfold d8;rw[jag (by omega),jag (by omega)];rfl⟩
def ve (i:Int):BJ ⟨#[97+(i % 26).toNat]⟩:=E6 (by have:=jbR i (show(26:Int)≠0 by decide);have:=jbN i (show(0:Int)<26 by decide);omega)
def BJ.len {x:Str}(h:BJ x):x.length=1:=by obtain⟨c,rfl,_⟩:=h;rfl
def a20 (k:Int)(t:Nat):Yz (zt k t):=by
 refine⟨by unfold zt;rw[HU];decide,by unfold zt;rw[HU];decide,?_⟩;obtain⟨c1,e1,s1⟩:=ve (t:Int);obtain⟨c2,e2,s2⟩:=ve (k+t);unfold zt;show(zw _ _).cps.toList.all d8=true;rw[xO];injection e1 with e1
 injection e1 with e1
 injection e1 with e1
 injection e2 with e2
 injection e2 with e2
 injection e2 with e2
 rw[e1,e2];simp[s1,s2];decide
theorem Tz:∀ss:jc2,cp (Txt.join "" ss)=(ss.map cp).flatten
 |[]=>by symm
 |x::r=>by
  rw[M0,jal,jbp,show cp ("":Str)=[] by symm];rfl
def W0 {ss:jc2}(h:∀x∈ss,BJ x)(h0:0<ss.length)(h1:ss.length<=8):Yz (Txt.join "" ss):=by
 have e:=Tz ss;have hl:(cp (Txt.join "" ss)).length=ss.length:=by
  rw[e];clear e h0 h1
  induction ss with
  |nil=>rfl
  |cons x r ih=>
   obtain⟨c,rfl,_⟩:=h x (jai ..);have:=ih λy hy=>h y (jah _ hy);rw[jal,jbp,jaD,this];show 1+r.length=r.length+1;omega
 refine⟨by rw[aW,hl];omega,by rw[aW,hl];omega,?_⟩;rw[e,List.all_flatten,jbt,jav];intro x hx;obtain⟨c,rfl,s⟩:=h x hx;show[c].all d8=true;simp[s]
structure ThN (x:Str):Prop where
 th:dW x=true
 wd:Rl x
 len:x.length<=9
 ne:x≠""
def a0F {x:Str}(h:isNm x=true):ThN x:=⟨by unfold dW;rw[h];rfl,SW h,by have:=eF h;omega,λz=>by rw[z] at h;revert h;symm⟩
def Q5:cp ("#":Str)=[35]:=by symm
def QH {x:Str}(h:isNm x=true):ThN (("#":Str)++x):=by
 have l:=eF h;have e:cp (("#":Str)++x)=35::cp x:=by rw[zE,Q5];rfl
 have ln:(("#":Str)++x).length=x.length+1:=by rw[aW,aW,e];simp
 have k:=SW h;refine⟨?_,⟨by rw[e];simp,λc hc=>?_,λz=>?_,by omega⟩,by omega,λz=>?_⟩
 .unfold dW;have s1:Txt.startswith (("#":Str)++x) "#"=true:=by
   have e0:(⟨#[35]⟩:Str)="#":=by symm
   rw[<- e0];obtain⟨h1,h2⟩:=jz.mpr (show(cp ((⟨#[35]⟩:Str)++x))[0]?=some 35 by rw[jK];rfl);show(decide (0+_<=_)&&Builtin.Str.subAt _ _ 0)=true;rw[jar];exact⟨jag h1,h2⟩
  have s2:Txt.slice (("#":Str)++x) (some 1) none=x:=bU (by rw[Du (by omega),e];rfl);rw[s1,s2,h];simp
 .rw[e] at hc;rcases jak.mp hc with rfl | hc
  .decide
  .exact k.ok c hc
 .have:∀y∈o5,(cp y).head?≠some 35:=by symm
  exact this _ z (by rw[e];rfl)
 .have:=jae cp z;rw[e,nD] at this;cases this
def F4 (v:Int):sF v=((v.natAbs:Nat):Int):=by unfold sF;split<;>omega
def QV {c:Nat}(h:wm c=true):okC c=true/\d8 c=false/\c≠42/\c≠35/\c≠45:=by
 unfold wm at h;simp only[jar,jaG] at h;refine⟨by unfold okC wm;rw[jag h.1,jag h.2];simp,by unfold d8;rw[jaf (by omega)];rfl,by omega,by omega,by omega⟩
def Jt {x:Str}{c:Nat}(h:(cp x).head?≠some c):Txt.startswith x ⟨#[c]⟩=false:=by
 cases q:Txt.startswith x ⟨#[c]⟩ with
 |false=>rfl
 |true=>
  have q:(decide (0+_<=_)&&Builtin.Str.subAt _ _ 0)=true:=q;rw[jar] at q;have:=(jz (x:=x) (c:=c) (i:=0)).mp ⟨ja0 q.1,q.2⟩;exact absurd (by rw[List.head?_eq_getElem?];exact this) h
def RD {l:List (Str×Int)}(h:∀p∈l,-3<=p.2/\p.2<=17)(x:Str):-3*(l.length:Int)<=wt l x/\wt l x<=17*(l.length:Int):=by
 induction l with
 |nil=>rw[Ci];exact⟨by simp,by simp⟩
 |cons p l ih=>
  have:=ih λq hq=>h q (jah _ hq);have k:=h p (jai ..);rw[i6,jaA];split<;>(constructor<;>push_cast<;>omega)
def ZG {t u:iW}{E:mR}{Z:Sl}{S:aO}(I:KS)(h1:∀N:KS,(∀Z S,I Z S->N Z S)->t {E with nx:=N } Z S)(h2:∀Z S,I Z S->u E Z S):qZ t u E Z S:=h1 _ h2
section
variable {S loc:aO}{d q:Nat}{c m:Int}{o:O}
end
end L3
namespace L3
open PySem L2 Hw
theorem S7 {c:Nat}(hc:c≠32):∀{l:jc2},(∀x∈l,c∉cp x)->c∉jn l
 |[],_=>by intro z;cases z
 |[a],h=>h a (by simp)
 |a::b::r,h=>by
  rw[E9];intro z;rcases jaU.mp z with z | z
  .exact h a (by simp) z
  .rcases jak.mp z with z | z
   .exact hc z
   .exact S7 hc (l:=b::r) (λx hx=>h x (jah _ hx)) z
structure Nk (t:Str)(ws:List Str):Prop where
 e:cp t=jn ws
 ne:ws≠[]
 no:∀w∈ws,32∉cp w/\10∉cp w
 len:t.length<=100000
def Nk.sp {t:Str}{ws:jc2}(h:Nk t ws):Txt.split t " "=ws:=Jy h.e h.ne λw hw=>(h.no w hw).1
def Nk.nl {t:Str}{ws:jc2}(h:Nk t ws):10∉cp t:=by rw[h.e];exact S7 (by decide) λw hw=>(h.no w hw).2
def le_app {x y:Str}{a b:Nat}(hx:x.length<=a)(hy:y.length<=b):(x++y).length<=a+b:=by rw[wB];exact Nat.add_le_add hx hy
def pL {x y:Str}{a b:Nat}(hx:x.length<=a)(hy:y.length<=b)(h:autoParam (decide (a+b<=1000000)=true) zi):x.length+y.length<=sizeLine:=um (jap (Nat.add_le_add hx hy) (ja0 h))
section
variable (A:Ad)
end
end L3
namespace PySem.W
open PySem Builtin Builtin.ObjectAttr
section
variable {prog:Program}{w:World}{A:Around}{K:Frag}{s:Shared}{x C:Addr}{R:Result->Shared->Prop}
def eT:jc3->Bool
 |.ref _::r=>eT r
 |l=>l ==[.type "ValueError",.type "Exception",.type "BaseException",.type "object"]
theorem oV (self:Value):∀{l:jc3},eT l=true->refuseLoop self "__setattr__" l=pure ()
 |.ref c::r,e=>by rw[refuseLoop_ref];exact oV self e
 |[],e=>by cases e
 |.type n::r,e=>by
  have:(Value.type n::r)=[.type "ValueError",.type "Exception",.type "BaseException",.type "object"]:=eq_of_beq e;rw[this];exact PySem.F.store_ValueError.passes self
theorem wN:∀{l:jc3},eT l=true->l.contains (.type "object")=true
 |.ref c::r,e=>by rw[jb3,wN (l:=r) e,Bool.or_true]
 |.type n::r,e=>by
  have:(Value.type n::r)=[.type "ValueError",.type "Exception",.type "BaseException",.type "object"]:=eq_of_beq e;rw[this];decide
theorem GH {ox:Obj}{od:Option Obj}{name:Str}{tk:Tok}{v:Value}{r:jc7}(X:K.In s.heap)(I:InstAt s.heap x ox C od)(hp:((clsIn K C).any λcd=>eT cd.mro)=true)(ht:takerIn K C name=some r)
  (h:∀b,wpAny (model prog w) A.in1 (match r with | some a=>setByDescriptor a (.ref x) v | none=>storeInOwnDict (.ref x) (.ref C) (.str name tk) name v b)
   (λfin s'=>match fin with | .done f=>R (.ok f) s' | .again c'=>c'.quiet=true/\codeAny (model prog w) A c' R s') (λe s'=>R (.error e) s') s) :
  codeAny (model prog w) A (.call (.builtin "object.__setattr__") ⟨[.ref x,.str name tk,v],[]⟩) R s:=by
 have SF:=PySem.F.store_object;obtain⟨cd,hc,ho⟩:=any_some hp;have ne:cd.mro.isEmpty=false:=by cases q:cd.mro with | nil=>rw[q] at ho;cases ho | cons _ _=>rfl
 have sub:Looks (model prog w) s.heap (isInstance (.ref x) (.type "object")) true:=I.type.andThen (looks_mroIn X (by unfold mroIn;rw[hc,Option.bind_some,jaa (by rw[ne];decide),wN ho]));refine jcU SF.slot.plain SF.entry (@check_slot (model prog w) _ _ s "object.__setattr__" "object" "__setattr__" (.ref x) [.str name tk,v] [] _ SF.kind SF.split sub (SF.args (.ref x) (.str name tk) v) ?_);obtain⟨attr,ha,hr⟩:=Option.bind_eq_some_iff.mp ht;have hm:Looks (model prog w) s.heap (mroOf (.ref C)) cd.mro:=(looks_clsIn X hc).andThen .now;have L3:Looks (model prog w) s.heap (storeTaker? attr) r:=by
  cases attr with
  |none=>cases hr;exact .now
  |some a=>
   obtain⟨b,hb,rfl⟩:=jcO.mp hr;refine(looks_takesIn X hb).andThen ?_;cases b<;>exact .now
 rw[osa_eq,refuse_eq];refine jac (jac (I.type.here (jac (hm.here ?_))));rw[oV _ ho];refine jas (jac (I.type.here (jac ((looks_findIn X ha).here (jac (L3.here ?_))))));exact h _
end
end PySem.W
namespace PySem.W
open PySem Builtin Builtin.ObjectAttr
section
variable {prog:Program}{w:World}{A:Around}{K:Frag}{x C:Addr}{h:Heap}{g:Array GenState}{d:Drawn}{t:Nat}{os:OsState}
theorem CC {ox:Obj}{name:Str}{tk:Tok}{v:Value}{b:Bool}{Q:Fin->Shared->Prop}{E:jc0}(X:K.In h)(hx:h.get? x=some ox)(hcl:ox.cls=.ref C)(hdn:ox.dict=none)(hnc:∀c,ox.data≠.cls c)(hh:(clsIn K C).any (·.hasDict)=true)
  (hq:∀h' tk',h'.get? x=some {ox with dict:=some h.objs.size }->h'.Ns1 h.objs.size (λy=>if y=name then some v else none)->(∀b o,b≠x->h.get? b=some o->h'.get? b=some o)->Q (.done (.ret .none)) ⟨h',g,d,tk',os⟩) :
  wpAny (model prog w) A (storeInOwnDict (.ref x) (.ref C) (.str name tk) name v b) Q E ⟨h,g,d,t,os⟩:=by
 obtain⟨cd,hc,hd'⟩:=any_some hh;obtain⟨oc,odi,oda,osl⟩:=ox;dsimp only at hcl hdn;subst hcl hdn;have hx₁:(h.push {cls:=.type "dict",data:=.dict #[] }).get? x=some ⟨.ref C,none,oda,osl⟩:=jat _ hx;have hxs:x≠h.objs.size:=jaM (jam hx);refine jac (jas (jac (jac (wpAny_loadPart hx (jac ((looks_clsIn X hc).here ?_))))));rw[hd'];dsimp only;rw[jaa (by decide)];have fin:wpAny (model prog w) A (do
   let d <- alloc {cls:=.type "dict",data:=.dict #[] }
   update x λo=>{o with dict:=some d }
   dictMade (.ref C) x d:Sem (jc6)) (λr s'=>wpAny (model prog w) A (match r with | some d=>storeInDict d (.str name tk) name v | none=>noDictFor (.ref x) (.ref C) name b) Q E s') E ⟨h,g,d,t,os⟩:=by
  refine jac (wpAny_alloc' ?_);refine jac (wpAny_update' hx₁ ?_);refine jas ?_;have hgd:((h.push {cls:=.type "dict",data:=.dict #[] }).update x λo=>{o with dict:=some h.objs.size }).get? h.objs.size=some {cls:=.type "dict",data:=.dict #[] }:=
   (Heap.get?_update_ne _ _ _ _ hxs.symm).trans (Heap.get?_push_at rfl M)
  have hnd:((h.push {cls:=.type "dict",data:=.dict #[] }).update x λo=>{o with dict:=some h.objs.size }).Ns h.objs.size (λ_=>none):=
   ⟨_,#[],_,hgd,M,λe he=>absurd he (by simp),λ_=>rfl⟩
  show wpAny _ _ (storeInDict h.objs.size (.str name tk) name v) _ _ _;unfold storeInDict newKeyGuard;refine jac (jas (jac (wpAny_nsSet1 (Heap.Ns1.of_empty hnd) λh' hn' hs=>?_)));obtain⟨oD,esD,epD,hoD,NQ,hcD⟩:=hn'.count (Within.cons name v Within.nil);refine jac (wpAny_lookBehind hoD (by rw[NQ];exact pastItsLine_dict (jap hcD (by rw[jaA,jcD,ja4];omega))) ?_);have hx':h'.get? x=some ⟨.ref C,some h.objs.size,oda,osl⟩:=by
   refine(hs.2 x hxs).trans (jbx _ hx₁ ?_);have hfr:=(Heap.get?_some_iff.mp hx).2;cases oda<;>first | rfl | exact hfr
  refine jas (hq h' _ hx' ?_ λb ob hbx hb=>?_)
  .obtain⟨o',es,ep,e1,e2,e3,eu,e4⟩:=hn';exact⟨o',es,ep,e1,e2,e3,eu,λy=>by rw[e4 y]⟩
  .exact(hs.2 b (jaM (jam hb))).trans ((Heap.get?_update_ne _ _ _ _ hbx).trans (jat _ hb))
 rw[jaa (by simp[typeHasDict])];cases oda with
 |cls c=>exact absurd rfl (hnc c)
 |_=>exact fin
end
end PySem.W
namespace L2
open PySem PySem.Spec PyProof.Rows
section
variable {P:Program}{w:World}{H H1:Hp}{h h1:Heap}{dx:Addr}{o:HO}{fs ex:jc4}
theorem iZ.add (ok:iZ P w H h)(hn:H dx=none)(new:bB P w (upd H dx o) h dx o):iZ P w (upd H dx o) h:=λb u e=>by
 by_cases hb:b=dx
 .subst hb;rw[cE] at e;cases e;exact new
 .rw[aE hb] at e;exact(ok b u e).stay (λ_ _ _ q=>q) (λc q=>by rw[aE (aQ q hn)];exact q) λc xs q=>by rw[aE (aQ q hn)];exact q
theorem Un.add (u:Un fs ex H H1 h h1)(hn:H1 dx=none)(hd:h.get? dx=none):Un fs ex H (upd H1 dx o) h h1:=
 ⟨u.keep,u.slot,λb ob q n he=>by
  have:=u.free b ob q n he;rw[aE (λz=>by rw[z,hd] at q;cases q)];exact this,u.there,
  λb xs q=>by have:=u.tups b xs q;rw[aE (aQ this hn)];exact this,
  λb ob xs q=>by have:=u.jR b ob xs q;rw[aE (aQ this hn)];exact this,
  λb ps q=>by obtain⟨m,e⟩:=u.jW b ps q;exact⟨m,by rw[aE (aQ e hn)];exact e⟩⟩
end
def MR (C e dx:Addr):HO:=.ext λh=>∃t,h.get? e=some {cR C t with dict:=some dx }
theorem Xp {P:Program}{w:World}{H:Hp}{h:Heap}{C e dx:Addr}:(∃t,h.get? e=some {cR C t with dict:=some dx })->bB P w H h e (MR C e dx):=λ⟨t,q⟩=>
 ⟨⟨t,q⟩,⟨_,q⟩,λ_ _ ⟨t,q⟩ k=>⟨t,k _ q⟩⟩
structure XSt (K:Frag)(C:Addr)(f:Str):Prop where
 un:((clsIn K C).any λcd=>PySem.W.eT cd.mro)=true
 ta:takerIn K C f=some none
 hd:(clsIn K C).any (·.hasDict)=true
 sa:findIn K (.ref C) "__setattr__"=some (some (.builtin "object.__setattr__"))
def YT (C:Addr)(ta tv:TE)(f:Str):TS:=λD U H=>tv U H λy H1=>ta U H1 λx H2=>∃a,x=.ref a/\H2 a=some (NU C a)/\∀dx,H2 dx=none->dx≠a->D.nx U (upd (upd H2 a (MR C a dx)) dx (.xd [(f,y)]))
section
variable {X:Cx}{o value:Expr}{ta tv:TE}{f:Str}{C:Addr}{pos pos':Pos}
def Pb (ul:XSt X.K C f)(ha:PE X o ta)(hv:PE X value tv)(hs:swapsWith value (some (.Attribute o f pos')) pos.line X.env=pure false):PS X (.Assign [.Attribute o f pos'] value pos) (YT C ta tv f):=by
 intro vy s U H D I h;refine plainObj_wpAny_Assign_Attribute (bu (hv vy s U H _ I h) λu s1 ⟨y,H1,I1,ry,q⟩=>bu (ha vy s1 U H1 _ I1 q) λov s2 ⟨x,H2,I2,rx,a,ex,ea,q2⟩=>?_) hs;subst ex;obtain rfl:ov=Value.ref a:=rx;obtain⟨⟨t0,he⟩,_⟩:=show bB X.prog X.w H2 s2.heap a (NU C a) from I2.hok a _ ea;refine set_plain I2.ig (Fi (oe:=cR C t0) rfl ⟨_,M⟩ rfl he) ul.sa ?_;obtain⟨hp,g,d,tk,os⟩:=s2;refine PySem.W.GH (s:=⟨hp,g,d,tk+1,os⟩) I2.ig (Fi (oe:=cR C t0) rfl ⟨_,M⟩ rfl he) ul.un ul.ta λb=>?_;refine PySem.W.CC I2.ig he rfl rfl (λc z=>nomatch z) ul.hd λh' tk' hx' hn' kp=>?_;have hd0:H2 hp.objs.size=none:=I2.hok.fresh (jaj _);have lt:a<hp.objs.size:=jam he;have ne:hp.objs.size≠a:=λz=>by rw[z] at lt;exact absurd lt (ja6 _)
 have mu:YA (H2 a):=by rw[ea];exact True.intro
 have hn2:upd H2 a (MR C a hp.objs.size) hp.objs.size=none:=by rw[aE ne];exact hd0
 have new:bB X.prog X.w (upd (upd H2 a (MR C a hp.objs.size)) hp.objs.size (.xd [(f,y)])) h' hp.objs.size (.xd [(f,y)]):=⟨_,hn',λf'=>by
  by_cases e:f'=f
  .subst e;rw[jab M,jbF,beq_self_eq_true];exact ry
  .rw[jaa e,jbF,jcE e];exact trivial⟩
 have I3:=I2.un (t':=tk') (h':=h') (Un.add (o:=.xd [(f,y)]) (Un.write mu (.inl M) kp ⟨_,hx'⟩) hn2 (Heap.get?_none_of_le (jaj _))) (iZ.add (I2.hok.write mu (.inl M) kp ⟨_,hx'⟩ (Xp ⟨t0,hx'⟩)) hn2 new);exact⟨U,_,I3,q2 _ hd0 ne⟩
end
end L2
namespace PySem
def X3 (C:Addr)(oe:Obj)(od:jc6):Prop:=oe.cls=.ref C/\oe.dict=od/\∀ws,oe.data=.fields ws->ws[2]?=some .none
structure jE (fr:List Addr)(a:Addr)(old:Option Addr)(C:Addr)(h h':Heap)(od:Option Addr):Prop where
 keep:∀b o,h.get? b=some o->b∉fr->b≠a->old≠some b->h'.get? b=some o
 slot:∀b o,h.get? b=some o->b∈fr->∃sl,h'.get? b=some {o with slots:=sl }
 a3R:∀b o,old=some b->h.get? b=some o->∃o',h'.get? b=some o'
 NT:∃oe vs T oT ts,h'.get? a=some oe/\X3 C oe od/\oe.data=.fields vs/\vs[1]?=some (.ref T)/\h'.get? T=some oT/\oT.data=.fields ts/\ts[3]?=some .none/\T≠a/\h.objs.size<=T
section
variable {jcY:Model}{A:Around}{E:jc0}{s:Shared}{base:Heap}{env:Env}{outer:List Env}{L a C:Addr}{od:jc6}{oe:Obj}{vs:Array Value}
theorem Dr {head:Value}{hadNext:Bool}{Q:Unit->Shared->Prop}(hfr:A.frames=some (env::outer))(hl:s.heap.FunFrames base (env::outer))(hf:env.frame=some L)
  (ha:s.heap.get? a=some oe) (hc:X3 C oe od) (hd:oe.data=.fields vs) (hsz:1<vs.size)
  (k:∀h',jE ((env::outer).filterMap (·.frame)) a none C s.heap h' od->Q () {s with heap:=h' }) :
  wpAny jcY A (do let fr <- frameOf env;let pl <- entryPlaceOf L hadNext;let b <- EntryCells.newEntry head fr .none (rawInt L) .none pl;setField (.ref a) 1 b) (λ_ s'=>wpAny jcY A (setFlight (.ref a) none) Q E s') E s:=by
 have hna:a∉(env::outer).filterMap (·.frame):=λhm=>cF hl hm ha hd;refine jac (wpAny_frameOf_fun hfr hl hf λg1 so=>?_);obtain⟨sz,same,slots⟩:=so;refine jac (wpAny_entryPlaceOf λpl hpl=>?_);unfold EntryCells.newEntry newFields;refine jac (jb4 ?_ (hpl.sizeOk5 _ _ _ _ _));have ha1:g1.get? a=some oe:=(same a hna).trans ha;generalize hob:({cls:=.type "traceback",dict:=none,data:=.fields ([head,.ref L,.none,rawInt L,.none]++(if pl.isEmpty then List.replicate 6 Value.none else pl)).toArray }:Obj)=ob;have ha2:(g1.push ob).get? a=some oe:=jat _ ha1;refine jbT ha2 hd hsz ?_;have nT:g1.objs.size≠a:=Nat.ne_of_gt (jam ha1);have BS:=jbz hd (·.setIfInBounds 1 (Value.ref g1.objs.size));have ha3:=jbx (Obj.mapFields (·.setIfInBounds 1 (Value.ref g1.objs.size))) ha2 (jb0 BS);have Mw:ob.data=.fields ([head,.ref L,.none,rawInt L,.none]++(if pl.isEmpty then List.replicate 6 Value.none else pl)).toArray:=by rw[<- hob]
 have hT0:(g1.push ob).get? g1.objs.size=some ob:=jaP g1 (by rw[<- hob];rfl);have hT3:((g1.push ob).update a (Obj.mapFields (·.setIfInBounds 1 (Value.ref g1.objs.size)))).get? g1.objs.size=some ob:=(jaV _ _ (jaH nT)).trans hT0;unfold setFlight;refine jac (jba ha3 BS (x:=.ref g1.objs.size) (by simp[hsz]) ?_);rw[jab (show(Value.ref g1.objs.size !=Value.none)=true by simp)];refine jbT hT3 Mw (by simp only[jau,jaD,jaA,jcD]<;>omega) (k _ ?_);have kp:∀b o,b≠a->g1.get? b=some o->(((g1.push ob).update a (Obj.mapFields (·.setIfInBounds 1 (Value.ref g1.objs.size)))).update g1.objs.size (Obj.mapFields (·.setIfInBounds 3 ((none:jc6).elim Value.none λf=>rawInt f)))).get? b=some o:=λb o hb q=>by
  rw[jaV _ _ (Nat.ne_of_gt (jam q)),jaV _ _ (jaH hb)];exact jat _ q
 refine⟨λb o q nf nb _=>kp b o nb ((same b nf).trans q),λb o q inf=>?_,λb o z=>(nomatch z),?_⟩
 .obtain⟨sl,e⟩:=slots b o q;exact⟨sl,kp b _ (λz=>hna (z ▸ inf)) e⟩
 .refine⟨_,_,g1.objs.size,_,_,?_,⟨(Obj.cls_mapFields _ _).trans hc.1,(kC _ _).trans hc.2.1,λws e=>(by
   rw[BS] at e;cases e;have z:=hc.2.2 _ hd;rw[Array.getElem?_setIfInBounds_ne (by decide)];exact z)⟩,BS,by simp[hsz],jbx _ hT3 (jb0 (jbz Mw _)),jbz Mw _,?_,nT,jbH sz.symm⟩
  .rw[jaV _ _ nT];exact ha3
  .first | (simp;done) | (rcases hpl with rfl | ⟨_,_,_,_,_,_,_,rfl⟩<;>simp)
theorem G6 {Q:Unit->Shared->Prop}(hfr:A.frames=some (env::outer))(hl:s.heap.FunFrames base (env::outer))(hf:env.frame=some L)
  (ha:s.heap.get? a=some oe) (hc:X3 C oe od) (hd:oe.data=.fields vs) (h1:vs[1]?=some .none)
  (k:∀h',jE ((env::outer).filterMap (·.frame)) a none C s.heap h' od->Q () {s with heap:=h' }):wpAny jcY A (leaving env (.ref a)) Q E s:=by
 unfold leaving noteFrame;simp only[hf];refine jac (jac (jba ha hd h1 ?_));rw[jaa (by decide)];exact Dr hfr hl hf ha hc hd (jbu.mp h1).1 k
theorem G5 {Q:Unit->Shared->Prop}{T:Addr}{oT:Obj}{ts:Array Value}(hfr:A.frames=some (env::outer))(hl:s.heap.FunFrames base (env::outer))(hf:env.frame=some L)
  (ha:s.heap.get? a=some oe) (hc:X3 C oe od) (hd:oe.data=.fields vs) (h1:vs[1]?=some (.ref T)) (hT:s.heap.get? T=some oT) (pX:oT.data=.fields ts) (h3:ts[3]?=some .none) (hne:T≠a)
  (k:∀h',jE ((env::outer).filterMap (·.frame)) a (some T) C s.heap h' od->Q () {s with heap:=h' }):wpAny jcY A (leaving env (.ref a)) Q E s:=by
 unfold leaving noteFrame;simp only[hf];refine jac (jac (jba ha hd h1 ?_));rw[jab (show(Value.ref T !=Value.none)=true by simp)];refine jac (jba hT pX h3 ?_);rw[jaa (show ¬((Value.none==rawInt L)=true) by simp[rawInt])];refine jac (jbT hT pX (jbu.mp h3).1 ?_);have Yl:T∉(env::outer).filterMap (·.frame):=λhm=>cF hl hm hT pX;have rF:∀b,b≠T->(s.heap.update T (Obj.mapFields (·.setIfInBounds 3 Value.none))).get? b=s.heap.get? b:=λb hb=>jaV _ _ (jaH hb);have hl':(s.heap.update T (Obj.mapFields (·.setIfInBounds 3 Value.none))).FunFrames base (env::outer):=hl.of_keeps λb o hb hnf=>⟨o,(rF b λz=>by rw[z,hT] at hb;injection hb with hb;subst hb;exact hnf ts pX).trans hb,M⟩
 refine Dr (s:={s with heap:=s.heap.update T (Obj.mapFields (·.setIfInBounds 3 Value.none)) }) hfr hl' hf ((rF a (jaH hne)).trans ha) hc hd (jbu.mp h1).1 λh' m=>k h' ⟨λb o q nf nb nT=>m.keep b o ((rF b λz=>nT (by rw[z])).trans q) nf nb (λz=>nomatch z),λb o q inf=>m.slot b o ((rF b λz=>Yl (z ▸ inf)).trans q) inf,?_,?_⟩
 .intro b o e q;cases e;have e3:=jbx (Obj.mapFields (·.setIfInBounds 3 Value.none)) hT (jb0 (jbz pX _));exact⟨_,m.keep T _ e3 Yl hne (λz=>nomatch z)⟩
 .obtain⟨Ly,vs',T',NI,ts',x1,x2,x3,x4,x5,x6,x7,x8,x9⟩:=m.NT;exact⟨Ly,vs',T',NI,ts',x1,x2,x3,x4,x5,x6,x7,x8,jap (jbH (jcr ..).symm) x9⟩
end
end PySem
namespace L2
open PySem PySem.Spec PyProof.Rows
structure a5C (h:Heap)(H:Hp)(n:Nat)(C a:Addr)(od:Option Addr):Prop where
 NT:∃oe vs T oT ts,h.get? a=some oe/\X3 C oe od/\oe.data=.fields vs/\vs[1]?=some (.ref T)/\h.get? T=some oT/\oT.data=.fields ts/\ts[3]?=some .none/\T≠a/\n<=T/\H T=none
 new:n<=a
 free:H a=none
def eZ (P:Program)(w:World)(C:Addr):D3:=λouter H s E e s'=>
 ∃a od H',e=.ref a/\E (.ref C) od H'/\s'.os=s.os/\AllBare s'.gens/\Un (frs outer) [] H H' s.heap s'.heap/\iZ P w H' s'.heap/\a5C s'.heap H' s.heap.objs.size C a od
section
variable {P:Program}{w:World}{K:Frag}{mg:Str->jc7}{base:Heap}{N:jc2}{qual:Str}{scope:Scope}{f C:Addr}{cd:Value}{A:Around}{outer:List Env}{s:Shared}{H:Hp}{E:XK}
abbrev jT (P:Program)(w:World)(C:Addr)(K:Frag)(mg:Str->jc7)(base:Heap)(N:jc2)(qual:Str)(scope:Scope)(f:Addr)(cd:Value)(A:Around)(outer:List Env)(s:Shared)(H:Hp)(E:XK):Cx:=zC (eZ P w C) P w K mg base N qual scope f cd A outer s H E
theorem Ai {vy:jcZ}{U:St}{H1 H2:Hp}{s1:Shared}{h2 h3:Heap}{a:Addr}{od old:jc6}(I:Inv (jT P w C K mg base N qual scope f cd A outer s H E) vy U H1 s1)
  (un:Un (frs (envOfC qual scope s.heap.objs.size f cd::outer)) [] H1 H2 s1.heap h2) (m:jE (frs (envOfC qual scope s.heap.objs.size f cd::outer)) a old C h2 h3 od) (ha:s.heap.objs.size<=a) (ho:∀T,old=some T->s.heap.objs.size<=T) :
  Un (frs outer) [] H H2 s.heap h3:=by
 have B:Un (frs outer) [] H H1 s.heap s1.heap:=I.base;have nl:∀b o,s.heap.get? b=some o->b≠s.heap.objs.size:=λb o q z=>absurd (jam q) (by rw[z];exact ja6 _);have nin:∀b o,s.heap.get? b=some o->b∉frs outer->b∉frs (envOfC qual scope s.heap.objs.size f cd::outer):=λb o q n z=>(jak.mp (show b∈s.heap.objs.size::frs outer from z)).elim (nl b o q) n;have na:∀b o,s.heap.get? b=some o->b≠a:=λb o q z=>absurd (jam q) (by rw[z];exact jbI.mpr ha);have nT:∀b o,s.heap.get? b=some o->old≠some b:=λb o q z=>absurd (jam q) (jbI.mpr (ho b z));have hin:∀b,b∈frs outer->b∈frs (envOfC qual scope s.heap.objs.size f cd::outer):=λb hb=>jah _ hb;refine⟨λb o q n nf nx=>?_,λb o q n inf nx=>?_,λb o q n nx=>?_,λb o q nx=>?_,λb xs q=>un.tups b xs (B.tups b xs q),λb o u q=>un.jR b o u (B.jR b o u q),λb ps q=>?_⟩
 .exact m.keep b o (un.keep b o (B.keep b o q n nf nx) (B.free b o q n nx) (nin b o q nf) nx) (nin b o q nf) (na b o q) (nT b o q)
 .obtain⟨sl,e1⟩:=B.slot b o q n inf nx;obtain⟨sl2,e2⟩:=un.slot b _ e1 (B.free b o q n nx) (hin b inf) nx;obtain⟨Zv,e3⟩:=m.slot b _ e2 (hin b inf);exact⟨Zv,e3⟩
 .obtain⟨o1,e1⟩:=B.there b o q nx;exact un.free b o1 e1 (B.free b o q n nx) nx
 .obtain⟨o1,e1⟩:=B.there b o q nx;obtain⟨o2,e2⟩:=un.there b o1 e1 nx;by_cases hb:b∈frs (envOfC qual scope s.heap.objs.size f cd::outer)
  .obtain⟨sl,e3⟩:=m.slot b o2 e2 hb;exact⟨_,e3⟩
  .exact⟨o2,m.keep b o2 e2 hb (na b o q) (nT b o q)⟩
 .obtain⟨m1,e1⟩:=B.jW b ps q;obtain⟨m2,e2⟩:=un.jW b _ e1;exact⟨m1++m2,by rw[e2,jcy]⟩
def aD:Passes (eZ P w C) (jT P w C K mg base N qual scope f cd A outer s H E) E:=by
 rintro vy U H1 s1 e s' I ⟨a,od,H2,rfl,hE,os,bare,un,ok,fl⟩;obtain⟨oe,vs,T,oT,ts,ha,hc,hd,h1,hT,pX,h3,ne,nT,fT⟩:=fl.NT;have un:Un (frs (envOfC qual scope s.heap.objs.size f cd::outer)) [] H1 H2 s1.heap s'.heap:=un;have sz:s.heap.objs.size<=s1.heap.objs.size:=I.sz;have sk:∀b∈frs (envOfC qual scope s.heap.objs.size f cd::outer),H1 b=none:=I.kO;have To:s1.heap.FunFrames base (envOfC qual scope s.heap.objs.size f cd::outer):=I.stack;have fl2:s'.heap.FunFrames base (envOfC qual scope s.heap.objs.size f cd::outer):=tZ (λ_ z=>z) sk un To;have hfr:(A.deeper (envOfC qual scope s.heap.objs.size f cd)).frames=some (envOfC qual scope s.heap.objs.size f cd::outer):=I.ok.frames;show wpAny (model P w) (A.deeper (envOfC qual scope s.heap.objs.size f cd)) (leaving (envOfC qual scope s.heap.objs.size f cd) (.ref a)) (λ_ s''=>eZ P w C outer H s E (.ref a) s'') _ s';have new:=fl.new;refine G5 hfr fl2 rfl ha hc hd h1 hT pX h3 ne λh' m=>?_;have lt:=jam ha;have Yr:∀b,b∈frs (envOfC qual scope s.heap.objs.size f cd::outer)->H2 b=none:=λb hb=>by
  obtain⟨_,o,ho,_⟩:=To.mem hb;exact un.free b o ho (sk b hb) (by simp)
 refine⟨a,od,H2,M,hE,os.trans I.os,bare,Ai I un m (by omega) (λT' e=>by cases e;omega),ok.E7 λb u hb q=>m.keep b u q (λz=>hb (Yr b z)) (λz=>hb (z ▸ fl.free)) (λz=>hb (by cases z;exact fT)),?_,by omega,fl.free⟩;obtain⟨Ly,vs',T',NI,ts',x1,x2,x3,x4,x5,x6,x7,x8,x9⟩:=m.NT;exact⟨Ly,vs',T',NI,ts',x1,x2,x3,x4,x5,x6,x7,x8,jap sz (jap new (jap (jbi lt) x9)),ok.fresh x9⟩
theorem Vo {vy:jcZ}{U:St}{H1:Hp}{s1:Shared}{a dx:Addr}(I:Inv (jT P w C K mg base N qual scope f cd A outer s H E) vy U H1 s1)(he:H1 a=some (MR C a dx))(hn:s.heap.objs.size<=a)(hE:E (.ref C) (some dx) (del H1 a)) :
  (jT P w C K mg base N qual scope f cd A outer s H E).xe (.ref a) s1:=by
 obtain⟨⟨t,ha⟩,_⟩:=show bB P w H1 s1.heap a (MR C a dx) from I.hok a _ he;have To:s1.heap.FunFrames base (envOfC qual scope s.heap.objs.size f cd::outer):=I.stack;have sk:∀b∈frs (envOfC qual scope s.heap.objs.size f cd::outer),H1 b=none:=I.kO;have hfr:(A.deeper (envOfC qual scope s.heap.objs.size f cd)).frames=some (envOfC qual scope s.heap.objs.size f cd::outer):=I.ok.frames;show wpAny (model P w) (A.deeper (envOfC qual scope s.heap.objs.size f cd)) (leaving (envOfC qual scope s.heap.objs.size f cd) (.ref a)) (λ_ s''=>eZ P w C outer H s E (.ref a) s'') _ s1;refine G6 hfr To rfl ha ⟨M,M,λws e=>by cases e;rfl⟩ rfl rfl λh' m=>?_;have lt:=jam ha;have dn:∀b,H1 b=none->del H1 a b=none:=λb z=>by
  unfold del;split
  .rfl
  .exact z
 have un:Un (frs (envOfC qual scope s.heap.objs.size f cd::outer)) [] H1 (del H1 a) s1.heap s1.heap:=⟨λ_ _ q _ _ _=>q,λ_ o q _ _ _=>⟨o.slots,q⟩,λb _ _ n _=>dn b n,λ_ o q _=>⟨o,q⟩,
  λb xs q=>by rw[qE (λz=>by rw[z,he] at q;cases q)];exact q,λb o u q=>by rw[qE (λz=>by rw[z,he] at q;cases q)];exact q,λb ps q=>⟨#[],by rw[qE (λz=>by rw[z,he] at q;cases q),Array.append_empty];exact q⟩⟩
 have kp:∀b u,H1 b≠none->b≠a->s1.heap.get? b=some u->h'.get? b=some u:=λb u hb na q=>m.keep b u q (λz=>hb (sk b z)) na (λz=>nomatch z);have ok':iZ P w (del H1 a) h':=λb o e=>by
  have nb:b≠a:=λz=>by rw[z] at e;unfold del at e;rw[jab rfl] at e;cases e
  have e1:H1 b=some o:=by rw[qE nb] at e;exact e
  have own:∀c,H1 c=some (.own b)->c≠a:=λc hc z=>by rw[z,he] at hc;cases hc
  refine(I.hok b o e1).stay (λc u hc q=>?_) (λc hc=>by rw[qE (own c hc)];exact hc) λc xs hc=>by rw[qE (λz=>by rw[z,he] at hc;cases hc)];exact hc
  rcases hc with rfl | hc
  .exact kp _ u (by rw[e1];exact λz=>nomatch z) nb q
  .exact kp c u (by rw[hc];exact λz=>nomatch z) (own c hc) q
 refine⟨a,some dx,del H1 a,M,hE,I.os,I.bare,Ai I un m hn (λT' e=>nomatch e),ok',?_,hn,by unfold del;rw[jab rfl]⟩;obtain⟨Ly,vs',T',NI,ts',x1,x2,x3,x4,x5,x6,x7,x8,x9⟩:=m.NT;exact⟨Ly,vs',T',NI,ts',x1,x2,x3,x4,x5,x6,x7,x8,jap hn (jap (jbi lt) x9),dn _ (I.hok.fresh x9)⟩
theorem b6.okY {x qual:Str}{st:Stmt}{f:Addr}{fd:FuncData}{N ps:jc2}{k:Nat}{sp:Sp}(F:b6 K x qual st f fd)(S:au N ps (ah st))(len:∀vs H Q E,sp vs H Q E->vs.length=ps.length)
  (hbody:∀(AT:Value)(A:Around)(outer:List Env)(s:Shared)(H:Hp)(vs:List V)(Q:VK) (E:XK),bR k (A.deeper (envOfC qual (ah st) s.heap.objs.size f AT))->sp vs H Q E->
   ∃t,b5 (jT P w C K mg base N qual (ah st) f AT A outer s H E) (ak st) t/\t {nx:=λ_ H'=>Q .ck H',rt:=Q } (start N vs) H):aG P w K mg base (eZ P w C) (k+1) f fd ps sp:=by
 obtain⟨oc,od,kV,doc,pm,an,AT,ct,osl,rfl,lk,hcd⟩:=F.ex;exact Tn lk hcd S len λA outer s H vs Q E hr NP=>hbody AT A outer s H vs Q E hr NP
end
end L2
namespace PySem
section
variable {jcY:Model}{A:Around}{E:jc0}{env:Env}
variable {nm q:Str}{C N:Addr}{bs bm:jc3}{hdct:Bool}{sn:jc2}{sub:jc3}{ab:Bool}{col:Option Bool}{dd:jc6}{k0 k1 k2 k3 k5:jc7}{newId:String}
theorem CJ {s:Shared}{x:Sem Value}{Q:Flow->Shared->Prop}(Ap:bm.contains (.type "BaseException")=true)(hh:A.handled=none)
  (h:wpAny jcY A x (λv s₁=>∃e t od,v=.ref e/\s₁.heap.get? C=some (excClassObj nm q C N bs bm hdct sn sub ab col dd k0 k1 k2 k3 k5 newId)/\
   s₁.heap.get? e=some {cR C t with dict:=od }/\E (.ref e) s₁) E s) :
  wpAny jcY A (raiseStmt env (some x) none) Q E s:=by
 have hcB:(Value.ref C::bm).contains (.type "BaseException")=true:=by rw[jb3,Ap,Bool.or_true]
 unfold raiseStmt;refine jac (jaN h (λv s₁ h₁=>?_) λ_ _ x=>x);obtain⟨e,t,od,rfl,hC,he,hE⟩:=h₁;obtain⟨hp,g,d,tk,os⟩:=s₁
 repeat (first | with_reducible refine jbm he ?_ | with_reducible refine jbm hC ?_ | (with_reducible refine jcd hC ?_;rw[hcB]) | wp_step)
 exact wpAny_raiseNew_none hh hE
end
end PySem
namespace L2
open PySem PySem.Spec PyProof.Rows
section
variable {X:Cx}{k:Nat}{C fI:Addr}{fd:FuncData}{ps:jc2}{sp:Sp}{E:XK}{x:Str}{p pos BM:Pos}{e:Expr}{es:jc5}{t:TA}{bm:jc3}
def Od (C:Addr)(sp:Sp)(E:XK)(t:TA):TS:=λ_ U H=>t U H λvs H1=>vs.length<=sizeLine/\∀a,H1 a=none->sp (.ref a::(vs++[])) (upd H1 a (NU C a)) (λv H2=>v=.ck/\∃dx,H2 a=some (MR C a dx)/\E (.ref C) (some dx) (del H2 a)) E0
theorem Gy (XC:wD X.K C fI bm)(F:aG X.prog X.w X.K X.mg X.base dh k fI fd ps sp)(hr:bR (k+1) X.A)(hg:Gl X x)(hm:X.mg x=some (.ref C))(hb:Binds X.K fd ps [])
  (hxe:∀{vy:jcZ} {U:St} {H1:Hp} {s1:Shared} {a dx:Addr},Inv X vy U H1 s1->H1 a=some (MR C a dx)->X.s₀.heap.objs.size<=a->E (.ref C) (some dx) (del H1 a)->X.xe (.ref a) s1)
  (ha:PA X (e::es) t) (hdb:autoParam ((x==("__debug__":Str))=false) zn) (he:autoParam (starEach (e::es) X.env=(false,eval e X.env)::starEach es X.env) zi) (hpl:autoParam ((backTo pos (starEach es X.env)).any (·.1)=false) zi) :
  PS X (.Raise (some (.Call (.Name x p) (e::es) [] pos)) none BM) (Od C sp E t):=by
 intro vy s U H D I h;obtain⟨nm,q,N,bs,hdct,sn,sub,ab,col,dd,k0,k1,k2,k3,k5,lk,hok,hni⟩:=XC.ob;rw[arm_exec_Raise];refine jac (jcn (CJ (C:=C) (nm:=nm) (q:=q) (N:=N) (bs:=bs) (bm:=bm) (hdct:=hdct) (sn:=sn) (sub:=sub) (ab:=ab) (col:=col) (dd:=dd) (k0:=k0) (k1:=k1) (k2:=k2) (k3:=k3) (k5:=k5) (newId:="ValueError.__new__") XC.b hr.hd ?_));refine jac (bu (Q:=λv s3=>∃a t od,v=.ref a/\s3.heap.get? C=some (excClassObj nm q C N bs bm hdct sn sub ab col dd k0 k1 k2 k3 k5 "ValueError.__new__")/\s3.heap.get? a=some {cR C t with dict:=od }/\X.xe (.ref a) s3) ?_ λv s3 h3=>jac (jcn (jas h3)));refine jce (jq I hg hm ?_ hdb);refine jcf (h₀:=X.base) I.ok.mod.NN XC.kp (bu (ha pos vy s U H _ I h) λus s1 ⟨vs,H1,I1,r,hz,q1⟩=>⟨I1.ig,?_⟩) he hpl;have hq:=q1 (s1.heap.objs.size+1) (I1.hok.fresh (Nat.le_succ _));obtain⟨hp,g,d,tk,os⟩:=s1;have KX:X.K.In hp:=I1.ig;have hty:=jaZ.mp XC.fn;obtain⟨oI,lf,hfc⟩:∃oI,X.K.lookup fI=some oI/\oI.cls=.type "function":=by
  unfold typeIn at hty;exact jcO.mp hty
 have hNs:hp.Ns N (hp.nsMap N):=.of_isNs (PySem.W.isNs_of_in KX hok);show wpAny _ _ (call (.ref C) us) _ _ _;have us1:us.length<=sizeLine:=by rw[<- r.length];exact hz
 refine a1K XC.v XC.a XC.n (KX _ _ lk) hNs (a0B KX hNs hni) (KX _ _ lf) hfc us1 ?_;have kp:∀b u,hp.get? b=some u->((hp.push {cls:=.type "tuple",data:=.seq us.toArray }).push (cR C hp.objs.size)).get? b=some u:=λb u z=>jat _ (jat _ z);have he1:((hp.push {cls:=.type "tuple",data:=.seq us.toArray }).push (cR C hp.objs.size)).get? (hp.objs.size+1)=some (cR C hp.objs.size):=by heap_get
 have I2:Inv X vy U (upd H1 (hp.objs.size+1) (NU C (hp.objs.size+1))) ⟨(hp.push {cls:=.type "tuple",data:=.seq us.toArray }).push (cR C hp.objs.size),g,d,tk,os⟩:=I1.laid (t':=tk) kp (Nat.le_succ _) (MQ ⟨_,he1⟩);have r2:Vals (V.ref (hp.objs.size+1)::(vs++[])) (Value.ref (hp.objs.size+1)::(us++[])):=.cons rfl (r.append .nil);have hl:(Value.ref (hp.objs.size+1)::us++[]).length=ps.length:=by
  have e:=r2.length;rw[F.len _ _ _ _ hq] at e;exact e.symm
 have hb':=hb _ (Value.ref (hp.objs.size+1)::us) I2.ig hl;rw[ja8] at hb';refine jbV (codeAny_mono (F.run _ X.stack _ _ ⟨Value.ref (hp.objs.size+1)::us,[]⟩ (Value.ref (hp.objs.size+1)::(us++[])) _ _ E0 (hr.make C us []) (I2.Xr.make C us []) hb' r2 hq) λr' s' hq'=>?_);cases r' with
 |error e=>exact False.elim hq'
 |ok fl=>
  cases fl with
  |ret u=>
   obtain⟨v,H',I3,rv,ev,dx,ea,hE⟩:=I2.after hq';subst ev;obtain⟨⟨t1,he3⟩,_⟩:=show bB X.prog X.w H' s'.heap (hp.objs.size+1) (MR C (hp.objs.size+1) dx) from I3.hok _ _ ea;exact⟨rv,hp.objs.size+1,t1,some dx,M,I3.ig _ _ lk,he3,hxe I3 ea (jap I1.sz (Nat.le_succ _)) hE⟩
  |next=>exact False.elim hq'
  |brk=>exact False.elim hq'
  |cont=>exact False.elim hq'
end
end L2
namespace PySem.W
open PySem PySem.Spec PySem.Calls PyProof.Rows
section
variable {prog:Program}{w:World}{A:Around}{E:jc0}{K:Frag}{x D:Addr}{ox:Obj}{od:Option Obj}
def MJ (ul:HS K D):findObj K D od "__class__"=some (.bind (.builtin "getset_descriptor.__get__") (.builtin "object.__class__")):=by
 obtain⟨cd,hc⟩:=jcq.mp ul.cl;unfold findObj;rw[hc,Option.bind_some,ul.ca,Option.bind_some];simp[ul.gt,ul.tk]
def DA {s:Shared}{Q:jc7->Shared->Prop}(ul:HS K D)(X:K.In s.heap)(I:InstAt s.heap x ox D od)(hq:Q (some (.ref D)) {s with toks:=s.toks+1 }):wpAny (model prog w) A (getAttr? (.ref x) "__class__") Q E s:=by
 obtain⟨hh,g,d,t,os⟩:=s;have L0:=I.type (M:=model prog w);have L1:=looks_findIn (M:=model prog w) X ul.ga;have L2:=looks_findIn (M:=model prog w) X ul.no;have L3:=looks_find (M:=model prog w) X I (MJ ul);have L4:=looks_subIn (M:=model prog w) X ul.be;have G:=F.attr_ValueError.ga;unfold getAttr? getAttrBy? getAttrBy;refine jac (wpAny_mkText (jac (wpAny_attempt (jbn (jac (L0.at (jac (L1.at ?_))))))));dsimp only;have nq:(Value.builtin "BaseException.__getattribute__" ==Value.builtin "object.__getattribute__")=false:=by symm
 rw[jaa (show ¬(onTheHeap (Value.ref D)&&Value.builtin "BaseException.__getattribute__" ==Value.builtin "object.__getattribute__")=true by rw[nq,Bool.and_false];exact jaJ)];unfold getAttrByItsOwn hookBefore;rw[jab (show onTheHeap (Value.ref D)=true from M)];refine jac (L2.at (jac (wpAny_attempt (jbn ?_))));unfold callGetattribute;rw[jaa (by decide)];unfold boundAndCalled;refine jac (wpAny_of_eq (G.bind (.ref x)) ?_);refine jbV (jcU G.plain F.entry_bexc_ga ?_);have LI:Looks (model prog w) hh (isInstance (.ref x) (.type "BaseException")) true:=L0.andThen L4;have kk:builtinKind "BaseException.__getattribute__"=some .slot:=by symm
 have ks:splitId "BaseException.__getattribute__"=some ("BaseException","__getattribute__"):=by symm
 have ka:=F.args_bexc_ga (.ref x) (.str "__class__" t);show wpAny _ _ (checkBuiltinCall "BaseException.__getattribute__" ⟨[.ref x,.str "__class__" t],[]⟩) _ _ _;simp only[checkBuiltinCall,kk,ks];refine jac (LI.at ?_)
 repeat (any_goals (first | assumption | wp_step))
 refine jbm I.at_ (jas ?_);rw[I.cls];refine jac (L3.at ?_);show wpAny _ _ (Builtin.ObjectAttr.bindTo _ _ (.ref x) (.ref D)) _ _ _;unfold Builtin.ObjectAttr.bindTo;refine jac (jbn (jbV (class_get (od:=od) X I ul.ob ?_)));show wpAny _ _ (ret (Value.ref D)) _ _ _;refine jas ?_;show wpAny _ _ (handedOut (.ref D)) _ _ _;exact handed_on rfl (jas hq)
theorem xh (ul:HS K D):KitX K (.ref x) (.ref D) (λh=>∃ox od,InstAt h x ox D od) where
 ty:=(by rintro _ _ _ ⟨_,_,I⟩;exact I.type)
 it:=λ_ _ X _=>by
  obtain⟨cd,hc⟩:=jcq.mp ul.cl;unfold clsIn at hc;split at hc
  .rename_i ho;intro A' Q' E' s' k q;unfold isType loadHead;exact jac (wpAny_loadPart (k _ _ (X _ _ ho)) (jas q))
  .cases hc
 ne:=λh tp dd AC n sl X htp=>by
  obtain⟨cd,hc⟩:=jcq.mp ul.cl;refine Bool.eq_false_iff.mpr λq=>?_;have e:D=tp:=Value.ref.inj (jaZ.mp q);subst e;unfold clsIn at hc;split at hc
  .rename_i ho;cases(X _ _ ho).symm.trans htp
  .cases hc
 ca:=λX ⟨_,_,I⟩ k=>DA ul X I k
def Dj {s:Shared}{Q:jc0}{f:Str}{v:Value}{expr:Bool}(ul:HS K D)(X:K.In s.heap)(I:InstAt s.heap x ox D od)(hf:findObj K D od f=some (.value v))(hv:handedIn v=true)(hq:Q v {s with toks:=s.toks+1 }):wpAny (model prog w) A (getAttr (.ref x) f expr) Q E s:=by
 obtain⟨hh,g,d,t,os⟩:=s;have L0:=I.type (M:=model prog w);have L1:=looks_findIn (M:=model prog w) X ul.ga;have L2:=looks_findIn (M:=model prog w) X ul.no;have L3:=looks_find (M:=model prog w) X I hf;have L4:=looks_subIn (M:=model prog w) X ul.be;have G:=F.attr_ValueError.ga;unfold getAttr getAttrBy;refine jac (wpAny_mkText (jbn (jac (L0.at (jac (L1.at ?_))))));dsimp only;have nq:(Value.builtin "BaseException.__getattribute__" ==Value.builtin "object.__getattribute__")=false:=by symm
 rw[jaa (show ¬(onTheHeap (Value.ref D)&&Value.builtin "BaseException.__getattribute__" ==Value.builtin "object.__getattribute__")=true by rw[nq,Bool.and_false];exact jaJ)];unfold getAttrByItsOwn hookBefore;rw[jab (show onTheHeap (Value.ref D)=true from M)];refine jac (L2.at (jac (wpAny_attempt (jbn ?_))));unfold callGetattribute;rw[jaa (by cases expr<;>decide)];unfold boundAndCalled;refine jac (wpAny_of_eq (G.bind (.ref x)) ?_);refine jbV (jcU G.plain F.entry_bexc_ga ?_);have LI:Looks (model prog w) hh (isInstance (.ref x) (.type "BaseException")) true:=L0.andThen L4;have kk:builtinKind "BaseException.__getattribute__"=some .slot:=by symm
 have ks:splitId "BaseException.__getattribute__"=some ("BaseException","__getattribute__"):=by symm
 have ka:=F.args_bexc_ga (.ref x) (.str f t);show wpAny _ _ (checkBuiltinCall "BaseException.__getattribute__" ⟨[.ref x,.str f t],[]⟩) _ _ _;simp only[checkBuiltinCall,kk,ks];refine jac (LI.at ?_)
 repeat (any_goals (first | assumption | wp_step))
 refine jbm I.at_ (jas ?_);rw[I.cls];refine jac (L3.at ?_);show wpAny _ _ (ret v) _ _ _;refine jas ?_;show wpAny _ _ (handedOut v) _ _ _;exact handed_on hv hq
end
end PySem.W
namespace L2
open PySem PySem.Spec PyProof.Rows
section
variable {X:Cx}{a C dx:Addr}{oe:Obj}
def vh (hc:oe.cls=.ref C)(hd:∃vs,oe.data=.fields vs)(hn:oe.dict=some dx){h:Heap}{od:Obj}(ha:h.get? a=some oe)(hx:h.get? dx=some od):InstAt h a oe C (some od):=by
 obtain⟨vs,hd⟩:=hd;refine⟨ha,hc,?_,by rw[hn];exact hx⟩;unfold notCls;rw[hd]
def IF {P:Program}{w:World}{H:Hp}{h:Heap}{fs:List (Str×V)}(ok:iZ P w H h)(e:H dx=some (.xd fs)):∃(od:Obj)(mA:Str->jc7),h.get? dx=some od/\(∀f,iY (fs.lookup f) (mA f))/\∀name,lookIn name od=some (mA name):=by
 obtain⟨mA,hn,r⟩:=show bB P w H h dx (.xd fs) from ok dx _ e;obtain⟨od,ho,hl⟩:=xg hn;exact⟨od,mA,ho,r,hl⟩
theorem xA (ul:PySem.W.HS X.K C)(hp:(a,oe)∈X.pn)(hc:oe.cls=.ref C)(hd:∃vs,oe.data=.fields vs)(hn:oe.dict=some dx) :
  dN X (.builtin "isinstance") (λxs H Q=>∃c b fs,xs=[.ref a,c]/\H dx=some (.xd fs)/\((∃u,RelV c u/\(∀v,RelV c v->v=u)/\kitOne X.K (.ref C) u=some b)\/(∃t cs us,c=.ref t/\H t=some (.tup cs)/\Vals cs us/\(∀vs,Vals cs vs->vs=us)/\kitAny X.K (.ref C) us=some b))/\Q (.bl b) H):=by
 intro vy s U H xs us Q I r h;obtain⟨c,b,fs,rfl,hx,hk,q⟩:=h;obtain⟨u1,u2,rfl,r1,r2⟩:=vals2 r;cases r1;have ha:=(I.pin (a,oe) (jaX _ hp)).1;obtain⟨od,mA,ho,_,_⟩:=IF I.hok hx;have nb:(Value.ref a)≠.builtin "__main__.__loader__#opaque":=λz=>by cases z
 have fin:∀tk,EP X vy U Q (.bool b) {s with toks:=tk }:=λtk=>⟨.bl b,H,I.tok tk,M,q⟩
 rcases hk with⟨u,ru,inj,e⟩ | ⟨t,cs,ws,rfl,ht,rw',inj,e⟩
 .rw[inj u2 r2];exact jbq (PySem.W.xh ul) I.ig ⟨oe,some od,vh hc hd hn ha ho⟩ e nb fin
 .cases r2;obtain⟨_,AC,rv,o,ho2,hcl,n,hdt⟩:=show bB X.prog X.w H s.heap t (.tup cs) from I.hok t _ ht;rw[inj AC rv] at hdt;obtain⟨oc,od',odt,osl⟩:=o;cases hcl;cases hdt;exact PySem.W.kia_tup (PySem.W.xh ul) I.ig ⟨oe,some od,vh hc hd hn ha ho⟩ ho2 e nb fin
theorem Pu {e:Expr}{ta:TE}{f:Str}{pos:Pos}(ul:PySem.W.HS X.K C)(hp:(a,oe)∈X.pn)(hc:oe.cls=.ref C)(hd:∃vs,oe.data=.fields vs)(hn:oe.dict=some dx)(hh:hasDictIn X.K C=true)(hf:findIn X.K (.ref C) f=some none)
  (he:PE X e ta) (hb:attributeBase e f X.env (eval e X.env)=eval e X.env):PE X (.Attribute e f pos) (λU H Q=>ta U H λx H1=>x=.ref a/\∃fs v,H1 dx=some (.xd fs)/\fs.lookup f=some v/\Q v H1):=by
 intro vy s U H Q I h;refine F0 hb (bu (he vy s U H _ I h) ?_);rintro u s1 ⟨x,H1,I1,rx,ex,fs,v,hx,l,q⟩;subst ex;obtain rfl:u=Value.ref a:=rx;have ha:=(I1.pin (a,oe) (jaX _ hp)).1;obtain⟨od,mA,ho,r,hl⟩:=IF I1.hok hx;obtain⟨u,hu,ru⟩:=iY.some_of (v:=v) (o:=mA f) (by rw[<- l];exact r f);exact PySem.W.Dj ul I1.ig (vh hc hd hn ha ho) (findObj_own hh hf rfl (by rw[hl,hu])) (xr ru) ⟨v,H1,I1.tok _,ru,q⟩
end
end L2
namespace PySem
section
variable {jcY:Model}{A:Around}{E:jc0}{s:Shared}{base:Heap}{env:Env}{outer:List Env}{L a C:Addr}{od:jc6}{oe:Obj}{vs:Array Value}
theorem GX {Q:Unit->Shared->Prop}{T:Addr}{oT:Obj}{ts:Array Value}(hfr:A.frames=some (env::outer))(hl:s.heap.FunFrames base (env::outer))(hf:env.frame=some L)
  (ha:s.heap.get? a=some oe) (hc:X3 C oe od) (hd:oe.data=.fields vs) (h1:vs[1]?=some (.ref T)) (hT:s.heap.get? T=some oT) (pX:oT.data=.fields ts) (h3:ts[3]?=some .none) (hne:T≠a)
  (k:∀h',jE ((env::outer).filterMap (·.frame)) a (some T) C s.heap h' od->Q () {s with heap:=h' }):wpAny jcY A (noteFrame (.ref a) env) (λ_ s2=>wpAny jcY A (setFlight (.ref a) none) Q E s2) E s:=by
 unfold noteFrame;simp only[hf];refine jac (jba ha hd h1 ?_);rw[jab (show(Value.ref T !=Value.none)=true by simp)];refine jac (jba hT pX h3 ?_);rw[jaa (show ¬((Value.none==rawInt L)=true) by simp[rawInt])];refine jac (jbT hT pX (jbu.mp h3).1 ?_);have Yl:T∉(env::outer).filterMap (·.frame):=λhm=>cF hl hm hT pX;have rF:∀b,b≠T->(s.heap.update T (Obj.mapFields (·.setIfInBounds 3 Value.none))).get? b=s.heap.get? b:=λb hb=>jaV _ _ (jaH hb);have hl':(s.heap.update T (Obj.mapFields (·.setIfInBounds 3 Value.none))).FunFrames base (env::outer):=hl.of_keeps λb o hb hnf=>⟨o,(rF b λz=>by rw[z,hT] at hb;injection hb with hb;subst hb;exact hnf ts pX).trans hb,M⟩
 refine Dr (s:={s with heap:=s.heap.update T (Obj.mapFields (·.setIfInBounds 3 Value.none)) }) hfr hl' hf ((rF a (jaH hne)).trans ha) hc hd (jbu.mp h1).1 λh' m=>k h' ⟨λb o q nf nb nT=>m.keep b o ((rF b λz=>nT (by rw[z])).trans q) nf nb (λz=>nomatch z),λb o q inf=>m.slot b o ((rF b λz=>Yl (z ▸ inf)).trans q) inf,?_,?_⟩
 .intro b o e q;cases e;have e3:=jbx (Obj.mapFields (·.setIfInBounds 3 Value.none)) hT (jb0 (jbz pX _));exact⟨_,m.keep T _ e3 Yl hne (λz=>nomatch z)⟩
 .obtain⟨Ly,vs',T',NI,ts',x1,x2,x3,x4,x5,x6,x7,x8,x9⟩:=m.NT;exact⟨Ly,vs',T',NI,ts',x1,x2,x3,x4,x5,x6,x7,x8,jap (jbH (jcr ..).symm) x9⟩
theorem QN {Q:Unit->Shared->Prop}{fr:jc4}{old:jc6}{h2:Heap}(m:jE fr a old C h2 s.heap od)(fn:∀b∈fr,b<h2.objs.size)(an:∀b,old=some b->b<h2.objs.size)(ha:a<h2.objs.size)
  (k:∀h',jE fr a old C h2 h' od->(∀o,s.heap.get? a=some o->h'.get? a=some o)->Q () {s with heap:=h' }):wpAny jcY A (setFlight (.ref a) none) Q E s:=by
 obtain⟨Ly,vs',T',NI,ts',x1,x2,x3,x4,x5,x6,x7,x8,x9⟩:=m.NT;unfold setFlight;refine jac (jba x1 x3 x4 ?_);rw[jab (show(Value.ref T' !=Value.none)=true by simp)];refine jbT x5 x6 (jbu.mp x7).1 (k _ ?_ ?_)
 .have rF:∀b,b<h2.objs.size->(s.heap.update T' (Obj.mapFields (·.setIfInBounds 3 ((none:jc6).elim Value.none λf=>rawInt f)))).get? b=s.heap.get? b:=λb hb=>jaV _ _ (λz=>by rw[<- z] at hb;exact ja6 _ (jaB hb x9));refine⟨λb o q nf nb nT=>(rF b (jam q)).trans (m.keep b o q nf nb nT),λb o q inf=>?_,λb o e q=>?_,?_⟩
  .obtain⟨sl,z⟩:=m.slot b o q inf;exact⟨sl,(rF b (fn b inf)).trans z⟩
  .obtain⟨o',z⟩:=m.a3R b o e q;exact⟨o',(rF b (an b e)).trans z⟩
  .refine⟨Ly,vs',T',_,_,(rF a ha).trans x1,x2,x3,x4,jbx _ x5 (jb0 (jbz x6 _)),jbz x6 _,?_,x8,x9⟩;have hs:=(jbu.mp x7).1;simp[hs]
 .intro o z;rw[jaV _ _ x8];exact z
end
end PySem
namespace L2
open PySem PySem.Spec PyProof.Rows
section
variable {X:Cx}{C W fI fW:Addr}{bm HR:jc3}{xc n:Str}{i:Nat}{np hpos pos:Pos}{body:List Stmt}{b₀:Stmt}{suite:List Stmt}{tb:XK->TS}{ts:Addr->Addr->TS}
def RO (X:Cx)(i:Nat)(ts:Addr->Addr->TS)(D:Ends):XK:=λ_ od H2=>∃dx,od=some dx/\∀(U':St)(a:Addr),U'.length=X.N.length->H2 a=none->ts a dx {D with nx:=λ_ _=>False,bk:=λ_ _=>False,ct:=λ_ _=>False } (U'.set i (some (.ref a))) H2
theorem O9 (Hr:X.stack=X.env::X.outer)(hf:X.env.frame=some X.env.locals)(XC:wD X.K C fI bm)(XW:wD X.K W fW HR)(hin:(Value.ref C::bm).contains (.ref W)=true)(hg:Gl X xc)(hm:X.mg xc=some (.ref W))(hN:X.N.Nodup)(hi:X.N[i]?=some n)(hl:X.env.kindOf n=some .local)
  (hb:∀(pn:jcZ) (xe:jc0) (E:XK),Passes (eZ X.prog X.w C) (X.tr pn xe) E->b5 (X.tr pn xe) body (tb E))
  (hs:∀(a dx:Addr)(oe:Obj)(pn:jcZ),oe.cls=.ref C->(∃vs,oe.data=.fields vs)->oe.dict=some dx->b5 (X.suite a ((a,oe)::pn)) (b₀::suite) (ts a dx)) (hdb:autoParam ((xc==("__debug__":Str))=false) zn) :
  PS X (.Try body [.ExceptHandler (some (.Name xc np)) (some n) (b₀::suite) hpos] [] [] pos) (λD U H=>tb (RO X i ts D) D U H):=by
 intro vy s U H D I h;refine wpAny_Try_except (jaN (hb (X.pn++vy) _ (RO X i ts D) ?pass [] s U H D (a09 I λp hp=>by rw[jaK] at hp;exact hp) h) (λf s1 q=>?_) λe s1 z=>z)
 case pass=>
  rintro jI U' H1 s1 e s' I1 ⟨a,od,H2,rfl,⟨dx,rfl,hE⟩,os,bare,un,ok,fl⟩;have I1:Inv X vy U' H1 s1:=vg I1 λp hp=>jaX _ hp;obtain⟨oe,vs,T,oT,ts',ha,hc,hd,h1,hT,pX,h3,ne,nT,fT⟩:=fl.NT;have un:Un (frs X.stack) [] H1 H2 s1.heap s'.heap:=un;have sk:∀b∈frs X.stack,H1 b=none:=I1.kO;have To:s1.heap.FunFrames X.base X.stack:=I1.stack;have fl2:s'.heap.FunFrames X.base (X.env::X.outer):=Hr ▸ tZ (λ_ z=>z) sk un To;have fr1:∀b∈frs X.stack,b<s1.heap.objs.size:=λb hb=>by
   obtain⟨_,o,ho,_⟩:=To.mem hb;exact jam ho
  have Yr:∀b,b∈frs X.stack->H2 b=none:=λb hb=>by
   obtain⟨_,o,ho,_⟩:=To.mem hb;exact un.free b o ho (sk b hb) (by simp)
  have new:=fl.new;have lta:=jam ha;have szs:s1.heap.objs.size<=s'.heap.objs.size:=jap new (jbi lta);have hfr:X.A.frames=some (X.env::X.outer):=Hr ▸ I1.ok.frames;refine GX hfr fl2 hf ha hc hd h1 hT pX h3 ne λh3' m=>?_;have m:jE (frs X.stack) a (some T) C s'.heap h3' (some dx):=by rw[Hr];exact m
  have inv:∀(h':Heap)(g:Array GenState)(d:Drawn)(t:Nat),AllBare g->jE (frs X.stack) a (some T) C s'.heap h' (some dx)->Inv X vy U' H2 ⟨h',g,d,t,s1.os⟩:=λh' g d t hb m=>by
   have nb:∀b u,s1.heap.get? b=some u->b≠a/\(some T:jc6)≠some b:=λb u q=>⟨λz=>absurd (jam q) (by rw[z];exact jbI.mpr new),λz=>absurd (jam q) (by cases z;exact jbI.mpr nT)⟩
   have un3:Un (frs X.stack) [] H1 H2 s1.heap h':=⟨λb u q n nf nx=>m.keep b u (un.keep b u q n nf nx) nf (nb b u q).1 (nb b u q).2,λb u q n inf nx=>by
     obtain⟨sl,e1⟩:=un.slot b u q n inf nx;obtain⟨sl2,e2⟩:=m.slot b _ e1 inf;exact⟨sl2,e2⟩,un.free,λb u q nx=>by
     obtain⟨o1,e1⟩:=un.there b u q nx;by_cases hb:b∈frs X.stack
     .obtain⟨sl,e2⟩:=m.slot b o1 e1 hb;exact⟨_,e2⟩
     .exact⟨o1,m.keep b o1 e1 hb (nb b u q).1 (nb b u q).2⟩,un.tups,un.jR,un.jW⟩
   exact I1.TL (s':=⟨h',g,d,t,s1.os⟩) (ch:=[]) rfl un3 (ok.E7 λb u hb q=>m.keep b u q (λz=>hb (Yr b z)) (λz=>hb (z ▸ fl.free)) (λz=>hb (by cases z;exact fT))) hb (λb z=>absurd z (by simp))
  obtain⟨hp',g',d',t',os'⟩:=s';obtain rfl:os'=s1.os:=os;have I3:=inv h3' g' d' t' bare m;obtain⟨oe3,vs3,T3,oT3,ts3,x1,x2,x3,x4,x5,x6,x7,x8,x9⟩:=m.NT;have al:a≠X.env.locals:=λz=>absurd (jaB (z ▸ I1.lt) new) (ja6 _);have af:a∉X.fs:=λz=>absurd (jaB (fr1 a (by rw[Hr];exact jah _ z |> λw=>by unfold frs;rw[jbM,hf];exact w)) new) (ja6 _);have IS:=Tc (a:=a) I3 x1 fl.free al af (λv z=>by rw[x3] at z;cases z);obtain⟨nm,q,N,bs,hdct,sn,sub,ab,col,dd,k0,k1,k2,k3,k5,lkC,_,_⟩:=XC.ob;obtain⟨nm',q',N',bs',Tf,sn',sub',ab',col',NV,j0,j1,j2,j3,j5,lkW,_,_⟩:=XW.ob;refine wpAny_handleBy_cons (codeAny_handlers_test (jq (X:=X.suite a _) IS hg hm ?_ hdb)) (by intro q;cases q);refine WE (I3.ig _ _ lkC) (I3.ig _ _ lkW) x1 x2.1 XW.b hin ?_;refine codeAny_handlers_suite_as ?_;refine QN (fr:=frs X.stack) m (λb hb=>jaB (fr1 b hb) szs) (λb e=>by cases e;exact jam hT) lta λh4 m4 a02=>?_;have I4:=inv h4 g' d' t' bare m4;have IS4:=Tc (a:=a) I4 (a02 _ x1) fl.free al af (λv z=>by rw[x3] at z;cases z);refine jX (X:=X.suite a _) IS4 hN hi (Or.inl hl) (v:=.ref a) rfl (λs5 I5=>?_) (.inr hl);refine jaN (hs a dx oe3 (X.pn++vy) x2.1 ⟨vs3,x3⟩ x2.2.1 [] s5 _ H2 _ I5 (hE U' a I1.len fl.free)) (λf s6 q6=>?_) λ_ _ z=>False.elim z;cases f with
  |next=>obtain⟨_,_,_,z⟩:=q6;exact False.elim z
  |brk=>obtain⟨_,_,_,z⟩:=q6;exact False.elim z
  |cont=>obtain⟨_,_,_,z⟩:=q6;exact False.elim z
  |ret u=>
   obtain⟨v,σ6,H6,I6,rv,z⟩:=q6;obtain⟨m6,hn6,_⟩:=I6.loc;refine wpAny_nameGoes hl hn6 (by have:=I1.ok.kind;show(X.env.scope.kind==_||_)=false;rw[this];rfl) λh7 m7 hn7 sb=>?_;exact⟨v,_,H6,Inv.forget I1.ok I6 (λp hp=>jah _ hp) hn7 sb,rv,z⟩
 cases f with
 |next=>
  obtain⟨σ1,H1,I1,z⟩:=q;exact jas ⟨σ1,H1,vg I1 λp hp=>jaX _ hp,z⟩
 |brk=>obtain⟨σ1,H1,I1,z⟩:=q;exact⟨σ1,H1,vg I1 λp hp=>jaX _ hp,z⟩
 |cont=>obtain⟨σ1,H1,I1,z⟩:=q;exact⟨σ1,H1,vg I1 λp hp=>jaX _ hp,z⟩
 |ret u=>obtain⟨v,σ1,H1,I1,rv,z⟩:=q;exact⟨v,σ1,H1,vg I1 λp hp=>jaX _ hp,rv,z⟩
end
end L2
namespace L3
open PySem L2 Hw PyProof.Rows
structure XG where
 Y:List Addr
 G:Hp
 x:Int->Prop
abbrev XG.m (g:XG):O:=.gh g.Y g.G
abbrev XR (n:Int):HO:=.xd [("at",.int n)]
def EX (K:Frag)(g:XG):XK:=λ_ od H=>∃Y S dx n,R3 K Y S H/\S[0]?=some g.m/\od=some dx/\res Y H dx=some (XR n)/\g.x n
abbrev iX:=List D->aO->KD->(Int->Prop)->Prop
def jQ (K:Frag)(sp:iX):Sp:=λvs H Q E=>∃Y S ds k g,R3 K Y S H/\cZ K Y (res Y H) ds vs/\S[0]?=some g.m/\sp ds S k g.x/\(∀v H',up K Y H k v H'->Q v H')/\E=EX K g
section
variable {P:Program}{w:World}{K:Frag}{mg:Str->jc7}{base:Heap}{C:Addr}
def dZ (P:Program)(w:World)(K:Frag)(mg:Str->jc7)(base:Heap)(C:Addr)(k:Nat)(x:Str)(ps:jc2)(sp:iX):Prop:=∃f fd,aG P w K mg base (eZ P w C) k f fd ps (jQ K sp)/\mg x=some (.ref f)/\keepIn K (.ref f)=true/\Binds K fd ps []
def vW (P:Program)(w:World)(K:Frag)(mg:Str->jc7)(base:Heap)(C:Addr)(k:Nat)(c:Addr)(m:Str)(ps:jc2)(sp:iX):Prop:=∃(f:Addr)(fd:FuncData),aG P w K mg base (eZ P w C) k f fd ps (jQ K sp)/\Meth K c m f/\Binds K fd ps []
def dZ.up {j k:Nat}{x:Str}{ps:jc2}{sp:iX}(h:dZ P w K mg base C j x ps sp)(l:j<=k):dZ P w K mg base C k x ps sp:=let⟨f,fd,F,a⟩:=h;⟨f,fd,F.mono l,a⟩
def vW.up {j k:Nat}{c:Addr}{m:Str}{ps:jc2}{sp:iX}(h:vW P w K mg base C j c m ps sp)(l:j<=k):vW P w K mg base C k c m ps sp:=let⟨f,fd,F,a⟩:=h;⟨f,fd,F.mono l,a⟩
theorem eX {x qual:Str}{st:Stmt}{f:Addr}{fd:FuncData}{N ps:jc2}{k:Nat}{sp:iX}(F:b6 K x qual st f fd)(S:au N ps (ah st))
  (hb:∀(AT:Value)(A:Around)(outer:List Env)(s:Shared)(H:Hp)(g:XG),bR k (A.deeper (envOfC qual (ah st) s.heap.objs.size f AT))->
   ∃t,cH (jT P w C K mg base N qual (ah st) f AT A outer s H (EX K g)) (ak st) t/\∀ds S kk,Cl S->(∀d∈ds,Yu S.length d)->S[0]?=some g.m->sp ds S kk g.x->t (endsF S kk) (mU N ds) S)
  (len:∀ds S k x,sp ds S k x->ds.length=ps.length:=by intro ds S k x h;repeat (first | (obtain⟨rfl,_⟩:=h;rfl) | obtain⟨_,h⟩:=h)):aG P w K mg base (eZ P w C) (k+1) f fd ps (jQ K sp):=by
 refine F.okY S (λvs H Q E ⟨Y,S,ds,kk,g,R,rd,hg,q,_⟩=>by rw[<- cZ.len rd];exact len ds S kk _ q) ?_;rintro AT A outer s H vs Q E hr ⟨Y,S,ds,kk,g,R,rd,hg,q,hk,eE⟩;subst eE;obtain⟨t,h1,h2⟩:=hb AT A outer s H g hr;refine⟨_,h1,Y,S,mU N ds,endsF S kk,R,pY.start rd N,h2 ds S kk R.cl (λd hd=>?_) hg q,?_⟩
 .obtain⟨v,z⟩:=gZ rd d hd;rw[<- R.len];exact z.cl
 .refine⟨(by rintro U H' ⟨Y',S',Z',g',R',RS',q'⟩;exact hk _ _ (pG R ⟨Y',S',.ck,g',R',aM,q'⟩)),λv H' u=>hk _ _ (pG R u),(by rintro U H' ⟨_,_,_,_,_,_,z⟩;exact z),(by rintro U H' ⟨_,_,_,_,_,_,z⟩;exact z)⟩
end
section
variable {X:Cx}{o e:Expr}{es:jc5}{ta:bH}{t:jB}{f m x:Str}{pos BM p:Pos}{k:Nat}{ps:jc2}{sp:iX}{C c:Addr}{g:XG}
def CB (g:XG)(sp:iX)(t:jB):bH:=λZ S k=>t Z S λds S1=>S1[0]?=some g.m/\sp ds S1 k g.x
theorem av (F:dZ X.prog X.w X.K X.mg X.base C k x ps sp)(hx:Passes (eZ X.prog X.w C) X (EX X.K g))(hr:bR k X.A)(hg:Gl X x)(ha:QA X (e::es) t)(h1:autoParam (notStar e=true) zi)(h2:autoParam (es.all notStar=true) zi)(hdb:autoParam ((x==("__debug__":Str))=false) zn) :
  QE X (.Call (.Name x p) (e::es) [] pos) (CB g sp t):=by
 obtain⟨f,fd,F,hm,hk,hb⟩:=F;refine bF (AQ F hr hg hm hk hb .nil hx ha h1 h2 hdb) λU H Q ⟨Y,S,Z,k,R,D,q,hk⟩=>⟨Y,S,Z,_,R,D,q,?_⟩
 rintro v H1 ⟨Y1,S1,d,g1,R1,r1,q0,q1⟩;show jQ X.K sp (v++[]) H1 Q _;rw[jaK];exact⟨Y1,S1,d,k,g,R1,r1,q0,q1,λv H' u=>hk v H' (u.gr g1),M⟩
def Cv (g:XG)(c:Addr)(m:Str)(sp:iX)(ta:bH)(t:jB):bH:=λZ S k=>ta Z S λd S1=>∃ns l,iq S1 d=some (c,ns,l)/\ns.contains m=false/\t Z S1 λds S2=>S2[0]?=some g.m/\sp (d::ds) S2 k g.x
theorem gW {pl:Sem Bool}(he:QE X o ta)(jcY:vW X.prog X.w X.K X.mg X.base C k c m ps sp)(hx:Passes (eZ X.prog X.w C) X (EX X.K g))(hr:bR k X.A)(ha:QA X (e::es) t)(h1:autoParam (notStar e=true) zi)(h2:autoParam (es.all notStar=true) zi)
  (ht:autoParam (eval (.Call (.Attribute o m BM) (e::es) [] pos) X.env=(do
   let ov <- eval o X.env
   standAt BM.atName
   let(f,first) <- holding [ov] (getMethod ov m pl)
   callWith pos f first (backTo pos (starEach (e::es) X.env)) (backToKw pos (keywordEach [] X.env)))) zi) :
  QE X (.Call (.Attribute o m BM) (e::es) [] pos) (Cv g c m sp ta t):=by
 rintro vy s U H Q I ⟨Y,S,Z,k,R,D,q,hk⟩;refine jcc (pl:=pl) (bu (he vy s U H _ I ⟨Y,S,Z,_,R,D,q,λv H' z=>z⟩) ?_) ht;rintro u s1 ⟨x,H1,I1,rx,Y1,S1,d,g1,R1,r1,ns,l,i1,hm0,q1⟩;obtain⟨a,dx,vs,e1,e2,e3,e4,e5⟩:=qz R1 r1 i1;subst e1;obtain rfl:u=Value.ref a:=rx;obtain⟨f,fd,F,hm,hb⟩:=jcY;refine jr I1 e2 e4.cls hm (nj hm0) ?_;refine jcf (first:=[.ref a]) (h₀:=X.base) I.ok.mod.NN hm.kp (bu (ha pos vy s1 U H1 _ I1 ⟨Y1,S1,Z,_,R1,D.gr g1,q1,λv H' z=>z⟩) ?_) (cU h1) (c6 h2);rintro us s2 ⟨ws,H2,I2,r,Y2,S2,ds,g2,R2,r2,q0,q2⟩;refine⟨I2.ig,ng (us:=.ref a::us) (vs:=.ref a::ws) F hr hb .nil hx I2 (.cons rfl r) ?_⟩;rw[jaK];exact⟨Y2,S2,d::ds,k,g,R2,.cons (r1.gr g2) r2,q0,q2,λv H' u=>hk v H' (u.gr (g1.trans g2)),M⟩
theorem iN {pl:Sem Bool}(he:QE X o ta)(jcY:vW X.prog X.w X.K X.mg X.base C k c m ps sp)(hx:Passes (eZ X.prog X.w C) X (EX X.K g))(hr:bR k X.A)
  (ht:autoParam (eval (.Call (.Attribute o m BM) [] [] pos) X.env=(do
   let ov <- eval o X.env
   standAt BM.atName
   let(f,first) <- holding [ov] (getMethod ov m pl)
   callWith pos f first (backTo pos (starEach [] X.env)) (backToKw pos (keywordEach [] X.env)))) zi) :
  QE X (.Call (.Attribute o m BM) [] [] pos) (Cv g c m sp ta cK):=by
 rintro vy s U H Q I ⟨Y,S,Z,k,R,D,q,hk⟩;refine jcc (pl:=pl) (bu (he vy s U H _ I ⟨Y,S,Z,_,R,D,q,λv H' z=>z⟩) ?_) ht;rintro u s1 ⟨x,H1,I1,rx,Y1,S1,d,g1,R1,r1,ns,l,i1,hm0,q0,q1⟩;obtain⟨a,dx,vs,e1,e2,e3,e4,e5⟩:=qz R1 r1 i1;subst e1;obtain rfl:u=Value.ref a:=rx;obtain⟨f,fd,F,hm,hb⟩:=jcY;refine jr I1 e2 e4.cls hm (nj hm0) ?_;refine callWith_K0 (first:=[.ref a]) I1.ig hm.kp (ng (us:=[.ref a]) (vs:=[.ref a]) F hr hb .nil hx I1 (.cons rfl .nil) ?_);exact⟨Y1,S1,[d],k,g,R1,.cons r1 .nil,q0,q1,λv H' u=>hk v H' (u.gr g1),M⟩
def JE (C:Addr):Sp:=λvs H Q _=>∃a n,vs=[.ref a,.int n]/\n.natAbs<=1000000/\H a=some (NU C a)/\∀dx,H dx=none->dx≠a->Q .ck (upd (upd H a (MR C a dx)) dx (XR n))
def Oe (g:XG)(t:jB):iW:=λ_ Z S=>t Z S λds S1=>∃n,ds=[.int n]/\n.natAbs<=1000000/\S1[0]?=some g.m/\g.x n
def MW {H:Hp}{a dx:Addr}{u v o:HO}(h:H a=none)(ne:dx≠a):del (upd (upd (upd H a u) a v) dx o) a=upd H dx o:=by
 funext b;unfold del upd;by_cases e:b=a
 .subst e;rw[jab M,jaa (jaH ne),h]
 .rw[jaa e,jaa e,jaa e]
theorem Kg {fI:Addr}{bm:jc3}{fd:FuncData}(XC:wD X.K C fI bm)(F:aG X.prog X.w X.K X.mg X.base dh k fI fd ps (JE C))(hr:bR (k+1) X.A)(hg:Gl X x)(hm:X.mg x=some (.ref C))(hb:Binds X.K fd ps [])
  (hxe:∀{vy:jcZ} {U:L2.St} {H1:Hp} {s1:Shared} {a dx:Addr},Inv X vy U H1 s1->H1 a=some (MR C a dx)->X.s₀.heap.objs.size<=a->EX X.K g (.ref C) (some dx) (del H1 a)->X.xe (.ref a) s1)
  (ha:QA X (e::es) t) (hdb:autoParam ((x==("__debug__":Str))=false) zn) (h1:autoParam (notStar e=true) zi) (h2:autoParam (es.all notStar=true) zi) :
  QS X (.Raise (some (.Call (.Name x p) (e::es) [] pos)) none BM) (Oe g t):=by
 refine gY (Gy XC F hr hg hm hb hxe ha hdb (cU h1) (c6 h2)) λD U H ⟨Y,S,Z,E,R,RS,q,eu⟩=>⟨Y,S,Z,_,R,RS,q,?_⟩
 rintro vs H1 ⟨Y1,S1,ds,g1,R1,r1,n,e1,hn,q0,q1⟩;subst e1;obtain⟨v,rfl,rv⟩:=r1.one;rw[ay rv];refine⟨jbi (line 1 (by decide)),λa ha=>⟨a,n,M,hn,cE,λdx hd ne=>⟨M,dx,?_,?_⟩⟩⟩
 .rw[aE (jaH ne),cE]
 .rw[MW ha ne];have hd:H1 dx=none:=by rw[aE ne] at hd;exact hd
  obtain⟨R2,_,e2⟩:=R1.new (o:=XR n) hd;exact⟨Y1,S1,dx,n,R2,q0,M,e2,q1⟩
end
theorem eZ.mono {P:Program}{w:World}{C:Addr}{outer:List Env}{H:Hp}{s s':Shared}{E E':XK}{e:Value}(m:∀c od H,E c od H->E' c od H)(h:eZ P w C outer H s E e s'):eZ P w C outer H s E' e s':=
 let⟨a,od,H',h1,h2,h3⟩:=h
 ⟨a,od,H',h1,m _ _ _ h2,h3⟩
def R3.mark {K:Frag}{Y:jc4}{H:Hp}{o:O}(R:R3 K Y [o] H){ρ0:jc4}{G0:Hp}(h1:∀(n:Nat)(a:Addr),ρ0[n]?=some a->Y[n]?=some a)(h2:Le G0 (res Y H)):R3 K Y [.gh ρ0 G0] H:=by
 refine⟨R.len,R.nd,λn a u e1 e2=>?_⟩;cases n with
 |succ n=>simp at e2
 |zero=>
  cases e2;exact⟨(R.ok 0 a o e1 M).some,h1,h2⟩
abbrev G1 (dx:Addr)(n:Int):Hp:=λb=>if b=dx then some (XR n) else none
section
variable {X:Cx}{C W fI fW:Addr}{bm HR:jc3}{xc n:Str}{i:Nat}{np hpos pos:Pos}{body:List Stmt}{b₀:Stmt}{suite:List Stmt}{tb:XG->iW}{ts:Addr->Addr->iW}
def YR (m i:Nat)(tb:XG->iW)(ts:Addr->Addr->iW):iW:=λE Z S=>∃o,S=[o]/\∃x:Int->Prop,(∀Y G,tb ⟨Y,G,x⟩ E Z [.gh Y G])/\
 ∀n,x n->∀a dx,ts a dx {E with nx:=λ_ _=>False,bk:=λ_ _=>False,ct:=λ_ _=>False } ((List.replicate m none).set i (some (.t (.v (.ref a))))) [.gh [] (G1 dx n)]
theorem OV (Hr:X.stack=X.env::X.outer)(hf:X.env.frame=some X.env.locals)(XC:wD X.K C fI bm)(XW:wD X.K W fW HR)(hin:(Value.ref C::bm).contains (.ref W)=true)(hg:Gl X xc)(hm:X.mg xc=some (.ref W))(hN:X.N.Nodup)(hi:X.N[i]?=some n)(hl:X.env.kindOf n=some .local)
  (hb:∀(pn:jcZ) (xe:jc0) (g:XG),Passes (eZ X.prog X.w C) (X.tr pn xe) (EX X.K g)->cH (X.tr pn xe) body (tb g))
  (hs:∀(a dx:Addr)(oe:Obj)(pn:jcZ),oe.cls=.ref C->(∃vs,oe.data=.fields vs)->oe.dict=some dx->cH (X.suite a ((a,oe)::pn)) (b₀::suite) (ts a dx)) (hdb:autoParam ((xc==("__debug__":Str))=false) zn) :
  QS X (.Try body [.ExceptHandler (some (.Name xc np)) (some n) (b₀::suite) hpos] [] [] pos) (YR X.N.length i tb ts):=by
 refine gY (O9 (tb:=λE D U H=>∃g,(∀c od H',EX X.K g c od H'->E c od H')/\Yj X.K (tb g) D U H) (ts:=λa dx=>Yj X.K (ts a dx)) Hr hf XC XW hin hg hm hN hi hl
  ((by rintro pn xe E hp vy s U H D I ⟨g,hE,q⟩;exact hb pn xe g (λvy U H s e s' I c=>hp vy U H s e s' I (eZ.mono hE c)) vy s U H D I q)) (λa dx oe pn h1 h2 h3=>hs a dx oe pn h1 h2 h3) hdb) ?_
 rintro D U H ⟨Y,S,Z,E,R,RS,⟨o,rfl,x,h1,h2⟩,eu⟩;refine⟨⟨Y,res Y H,x⟩,?_,Y,_,Z,E,R.mark (λ_ _ z=>z) (Le.refl _),RS,h1 _ _,eu⟩;rintro c od H' ⟨Y',S',dx,n,R',e0,rfl,ed,hx⟩;refine⟨dx,M,λU' a hl' ha=>?_⟩;obtain⟨S1,rfl⟩:∃S1,S'=[.gh Y (res Y H)]++S1:=by
  cases S' with
  |nil=>simp at e0
  |cons y r=>simp at e0;exact⟨r,by rw[e0];rfl⟩
 have l1:=R.len;obtain⟨y,ey⟩:∃y,Y=[y]:=by
  match Y,l1 with
  |[y],_=>exact⟨y,M⟩
 have l2:=R'.len;obtain⟨y',r',er⟩:∃y' r',Y'=y'::r':=by
  cases Y' with
  |nil=>simp at l2
  |cons y' r'=>exact⟨y',r',M⟩
 have q0:=R'.ok 0 y' _ (by rw[er];rfl) rfl;obtain⟨q1,q2,q3⟩:(∃u,H' y'=some u)/\(∀(n:Nat)(a:Addr),Y[n]?=some a->Y'[n]?=some a)/\Le (res Y H) (res Y' H'):=q0;have eyy:y'=y:=by
  have:=q2 0 y (by rw[ey];rfl);rw[er] at this;simpa using this
 have eρ:Y'=Y++r':=by rw[er,ey,eyy];rfl
 subst eρ;have R2:R3 X.K Y [.gh Y (res Y H)] H':=R'.pop l1 (λo ho=>by rw[jaE.mp ho];show Y.length<=1;rw[l1];exact jaj _);have g2:Gr Y H Y H':=⟨⟨[],by simp⟩,q3.trans fZ⟩
 have ed2:res Y H' dx=some (XR n):=fZ _ _ ed;refine⟨Y,_,_,_,R2.mark (ρ0:=[]) (G0:=G1 dx n) (λn a z=>by simp at z) (λb o z=>?_),?_,h2 n hx a dx,?_⟩
 .unfold G1 at z;split at z
  .rename_i eb;cases z;rw[eb];exact ed2
  .cases z
 .refine pY.set (Z:=List.replicate X.N.length none) (U:=U') ⟨by rw[jbX,hl'],λj d z=>?_⟩ aM i;rw[jbW] at z;split at z<;>cases z
 .have eu2:=eu.gr g2;exact⟨(by rintro U H ⟨_,_,_,_,_,_,z⟩;exact z),eu2.rt,(by rintro U H ⟨_,_,_,_,_,_,z⟩;exact z),(by rintro U H ⟨_,_,_,_,_,_,z⟩;exact z)⟩
end
section
variable {X:Cx}{a C dx:Addr}{oe:Obj}{e:Expr}{ta:bH}{f:Str}{pos:Pos}
def Mk1 (S:aO)(dx:Addr)(n:Int):Prop:=∃Y G,S[0]?=some (.gh Y G)/\G dx=some (XR n)
def zc {K:Frag}{Y:jc4}{S:aO}{H:Hp}(R:R3 K Y S H){n:Int}(h:Mk1 S dx n):H dx=some (XR n):=by
 obtain⟨r,G,h1,h2⟩:=h;have l:0<Y.length:=by rw[R.len];exact(jao.mp h1).1
 obtain⟨_,_,q⟩:(∃u,H Y[0]=some u)/\(∀(n:Nat)(a:Addr),r[n]?=some a->Y[n]?=some a)/\Le G (res Y H):=R.ok 0 Y[0] _ (jaz l) h1;exact(res_some (q _ _ h2)).2
def a3i (a dx:Addr)(ta:bH):bH:=λZ S k=>ta Z S λd S1=>d=.t (.v (.ref a))/\∃n,Mk1 S1 dx n/\k (.int n) S1
theorem SN (ul:PySem.W.HS X.K C)(hp:(a,oe)∈X.pn)(hc:oe.cls=.ref C)(hd:∃vs,oe.data=.fields vs)(hn:oe.dict=some dx)(hh:hasDictIn X.K C=true)(hf:findIn X.K (.ref C) "at"=some none)
  (he:QE X e ta) (hb:attributeBase e "at" X.env (eval e X.env)=eval e X.env):QE X (.Attribute e "at" pos) (a3i a dx ta):=
 bF (Pu ul hp hc hd hn hh hf he hb) (by rintro U H Q ⟨Y,S,Z,k,R,D,q,hk⟩;exact⟨Y,S,Z,_,R,D,q,(by
  rintro v H1 ⟨Y1,S1,d,g1,R1,r1,e1,n,m,q1⟩;subst e1;exact⟨ay r1,_,_,zc R1 m,M,hk _ _ ⟨Y1,S1,_,g1,R1,aM,q1⟩⟩)⟩)
def Mn (K:Frag)(a C dx:Addr)(c:V)(u:Value):HB
 |[d,.t (.v c')],S,k=>d=.t (.v (.ref a))/\c'=c/\(∃n,Mk1 S dx n)/\∃b,kitOne K (.ref C) u=some b/\k (.bl b) S
 |_,_,_=>False
def Rh {c:V}{u:Value}(ul:PySem.W.HS X.K C)(hp:(a,oe)∈X.pn)(hc:oe.cls=.ref C)(hd:∃vs,oe.data=.fields vs)(hn:oe.dict=some dx)(ru:RelV c u)(inj:∀v,RelV c v->v=u):Call3 X (.builtin "isinstance") (Mn X.K a C dx c u):=by
 refine gf (xA ul hp hc hd hn) ?_;rintro vs H Q ⟨Y,S,ds,k,R,rd,q,hk⟩;unfold Mn at q;split at q
 .obtain⟨v,w,rfl,rv,rw'⟩:=rd.two;obtain⟨rfl,rfl,⟨n,m⟩,b,h1,h2⟩:=q;rw[ay rv,ay rw'];exact⟨_,b,_,M,zc R m,.inl ⟨u,ru,inj,h1⟩,fin R hk aM h2⟩
 .exact q.elim
def Mm (K:Frag)(a C dx:Addr)(cs:jc4):HB
 |[d,.t (.tup l)],S,k=>d=.t (.v (.ref a))/\l=cs.map (λc=>T.v (.ref c))/\(∃n,Mk1 S dx n)/\∃b,kitAny K (.ref C) (cs.map Value.ref)=some b/\k (.bl b) S
 |_,_,_=>False
theorem aX.refs {K:Frag}{G:Hp}:∀{cs:jc4}{vs:List V},aX K G (cs.map λc=>T.v (.ref c)) vs->vs=cs.map V.ref
 |[],vs,r=>by unfold aX at r;exact r
 |n::ns,vs,r=>by
  rw[jal] at r;unfold aX at r;obtain⟨v,vr,e1,e2,e3⟩:=r;unfold Rp at e2;rw[e1,e2,aX.refs e3];rfl
theorem kZ:∀cs:jc4,Vals (cs.map V.ref) (cs.map Value.ref)/\∀vs,Vals (cs.map V.ref) vs->vs=cs.map Value.ref
 |[]=>⟨.nil,λvs h=>by cases h;rfl⟩
 |c::r=>⟨.cons rfl (kZ r).1,λvs h=>by
  cases h with
  |cons a b=>
   rw[(kZ r).2 _ b];have:_=Value.ref c:=a;rw[this];rfl⟩
def Rg {cs:jc4}(ul:PySem.W.HS X.K C)(hp:(a,oe)∈X.pn)(hc:oe.cls=.ref C)(hd:∃vs,oe.data=.fields vs)(hn:oe.dict=some dx):Call3 X (.builtin "isinstance") (Mm X.K a C dx cs):=by
 refine gf (xA ul hp hc hd hn) ?_;rintro vs H Q ⟨Y,S,ds,k,R,rd,q,hk⟩;unfold Mm at q;split at q
 .obtain⟨v,w,rfl,rv,rw'⟩:=rd.two;obtain⟨rfl,rfl,⟨n,m⟩,b,h1,h2⟩:=q;rw[ay rv];obtain⟨tp,ws,f1,f2,f3⟩:=dj rw';rw[f1];have f3:=aX.refs f3;subst f3;exact⟨_,b,_,M,zc R m,.inr ⟨tp,_,_,M,f2,(kZ cs).1,(kZ cs).2,h1⟩,fin R hk aM h2⟩
 .exact q.elim
end
end L3
namespace L2
open PySem PySem.Spec PyProof.Rows Hw
section
variable {X:Cx}
def a3L (K:Frag):R2:=λx y H Q=>∃a b z u,x=.ref a/\y=.ref b/\iG K H a [.str z]/\iG K H b [.str u]/\Q (.bl (decide (z=u))) H
def Wo (hu:X.A.units+1<cLine):gP X (compareOp .Eq) (a3L X.K):=by
 intro vy s U H x y v u Q I rx ry h;obtain⟨a,b,z,w,rfl,rfl,ha,hb,q⟩:=h;cases rx;cases ry;obtain⟨us,r1,p1,_⟩:=I.list ha;obtain⟨vs,r2,p2,_⟩:=I.list hb;cases r1 with
 |cons z1 t1=>
 cases t1;cases r2 with
 |cons z2 t2=>
 cases t2;refine SeqAt.eq_listAt (e:=λ_=>decide (z=w)) p1.isList p2.isList rfl (by omega) (λj h1 h2=>?_) ?_
 .have hj:j=0:=by simp at h1;exact h1
  subst hj;have:=Dp (A:=X.A.in1) (s:=s) z1 z2 rfl rfl;have e:vS (V.str z) (V.str w)=decide (z=w):=by
   by_cases hzw:z=w
   .subst hzw;rw[vp M,jag rfl]
   .rw[jaf hzw]
    first | (unfold vS;simp[hzw];done) | (simp[vS,hzw];done)
  rw[e] at this;exact this
 .have:((List.range 1).all λ_=>decide (z=w))=decide (z=w):=by simp[List.range_succ]
  show EP X vy U Q (.bool ((List.range 1).all λ_=>decide (z=w))) s;rw[this];exact⟨.bl (decide (z=w)),H,I,M,q⟩
end
end L2
namespace L3
open PySem L2 Hw
inductive Rs where
 |ok (n:Nat) | er (n:Nat) | uk
def Rs.sh (n:Nat):Rs->Rs
 |.ok m=>.ok (n+m)
 |.er m=>.er (n+m)
 |.uk=>.uk
def Bo {α:Type}{l r:List α}{a:α}{n:Nat}(h:l.drop n=a::r):n+1+r.length=l.length:=by
 have:=jae List.length h;rw[jay,jaA] at this;omega
def uz {n m:Nat}{r:Rs}(h:r.sh n=.ok m):∃j,r=.ok j/\m=n+j:=by
 cases r with
 |ok j=>cases h;exact⟨j,M,M⟩
 |er j=>cases h
 |uk=>cases h
def dY:iX:=λds S k x=>∃(b:Bool)(n:Int),ds=[.bl b,.int n]/\n.natAbs<=1000000/\(b=true->k .ck S)/\(b=false->x n)
section
variable (A:Ad)
def mW:iX:=λds S k x=>∃n R i,ds=[.ob n]/\S[n]?=some (dG A R i)/\i<=1000/\((∃ws,R[i]?=some ws/\k (.lst (ws.map T.str)) (S.set n (dG A R (i+1))))\/(R.length<=i/\x (i:Int)))
def Res (n:Nat)(R:List (jc2))(i:Nat)(S:aO)(kk:Nat->aO->Prop)(x:Int->Prop):Rs->Prop
 |.ok m=>kk m (S.set n (dG A R (i+m)))
 |.er m=>x ((i+m:Nat):Int)
 |.uk=>False
end
def vQ {S:aO}{g:XG}{n:Nat}{C:Addr}{ns:jc2}{l:List D}{o:O}(hg:S[0]?=some g.m)(h:S[n]?=some (.ins C ns l)):(S.set n o)[0]?=some g.m:=by
 have ne:n≠0:=λz=>by rw[z,hg] at h;cases h
 rw[jbL ne];exact hg
def mkA {S S1:aO}{g:XG}(hg:S[0]?=some g.m):(S++S1)[0]?=some g.m:=by
 rw[jaF (jao.mp hg).1];exact hg
def xT {a b:Str}(h:a≠b):xor true (decide (V.str a=V.str b))=true:=by rw[qd,jaf h];rfl
def xF {a b:Str}(h:a=b):xor true (decide (V.str a=V.str b))=false:=by rw[qd,jag h];rfl
section
variable {A:Ad}{S:aO}{n i:Nat}{R:List (jc2)}{ks:Ks}{p:Kd×jc2}
end
def qm {A:Ad}{n i m:Nat}{R:List (jc2)}{S:aO}{o:O}{kk kk':Nat->aO->Prop}{x:Int->Prop}{r:Rs}(h:Res A n R i S kk x (r.sh m))(hk:∀j S',kk (m+j) S'->kk' j S'):Res A n R (i+m) (S.set n o) kk' x r:=by
 cases r with
 |ok j=>
  show kk' j ((S.set n o).set n (dG A R (i+m+j)));rw[jaq,jbo];exact hk _ _ h
 |er j=>
  show x ((i+m+j:Nat):Int);rw[jbo];exact h
 |uk=>exact h
section
variable (A:Ad)
def Sf:fG:=λds S k=>∃(i:Nat)(a:Int)(nm:Str)(d1 d2 d3 d4 d5:D)(l1 l2 l5:List T)(hs gs:List (Int×xN)),ds=[.ob i,.int a,.str nm,d1,d2,d3,d4,d5]/\S[i]?=some (.ins A.g7 [] [])/\xq S d1=some l1/\xq S d2=some l2/\xq S d3=some (hs.map (atT A))/\xq S d4=some (gs.map (atT A))/\xq S d5=some l5/\
 hs.length<=100/\gs.length<=100/\∀ns (l:List T),k .ck (S.set i (.ins A.g7 ns (l.map .t)))
def Sd:fG:=λds S k=>∃(i:Nat)(d:D)(hs:List T),ds=[.ob i,d]/\S[i]?=some (.ins A.fN [] [])/\xq S d=some hs/\∀ns (l:List T),k .ck (S.set i (.ins A.fN ns (l.map .t)))
def DP (ok:Prop)(x:Int->Prop):Rs->Prop
 |.ok _=>ok
 |.er n=>x (n:Int)
 |.uk=>False
def Zw (r:Rs)(a b:Nat):(r.sh b).sh a=r.sh (a+b):=by cases r<;>simp[Rs.sh,jbo]
def OA {T0:aO}{a b c:O}:((T0++[a])++[b]).set T0.length c=(T0++[c])++[b]:=by simp
end
end L3
namespace L3
open PySem L2 Hw PyProof.Rows
structure XTx (K:Frag)(mg:Str->Option Value)(C W fI fW:Addr)(TU HR:List Value)(l5:List Addr):Prop where
 ct:wD K C fI TU
 cw:wD K W fW HR
 hin:(Value.ref C::TU).contains (.ref W)=true
 mgW:mg "WritError"=some (.ref W)
 mgV:mg "ValueError"=none
 g1:specialIn K (.ref W) "__getattribute__"=some (some (.builtin "type.__getattribute__"))
 g2:readsIn K W (.type "type")=true
 g3:findCls K (.ref W) (.type "type") "__init__"=some (.val (.ref fW))
 g4:handedIn (.ref fW)=true
 g5:keepIn K (.ref fW)=true
 gv:findCls K (.type "ValueError") (.type "type") "__init__"=some (.val (.builtin "ValueError.__init__"))
 st:XSt K C "at"
 xi:PySem.W.HS K C
 hd:hasDictIn K C=true
 hf:findIn K (.ref C) "at"=some none
 kN:kitOne K (.ref C) (.ref C)=some true
 kV:kitOne K (.ref C) (.type "ValueError")=some true
 kb:kitOne K (.type "int") (.type "bool")=some false
 k5:kitAny K (.ref C) (l5.map Value.ref)=some false
abbrev x5 (A:Ad):jc4:=[A.nF,A.nE,A.gK,A.gJ,A.gI]
def Zp (C:Addr):Sp:=λvs H Q _=>∃a v,vs=[.ref a,v]/\H a=some (NU C a)/\Q .ck H
def QC {n:Int}(h:n.natAbs<=1000000):(toString n).length<=30/\n.natAbs.log2<1920:=by
 have l:n.natAbs.log2<20:=by
  by_cases h0:n.natAbs=0
  .rw[h0];decide
  .exact(Nat.log2_lt h0).mpr (by omega)
 exact⟨jap (int_text_length_le (k:=20) (by decide) l) (by decide),by omega⟩
def DP.mono {p q:Prop}{x y:Int->Prop}{r:Rs}(h:DP p x r)(h1:p->q)(h2:∀n,x n->y n):DP q y r:=by
 cases r with
 |ok n=>exact h1 h
 |er n=>exact h2 _ h
 |uk=>exact h
def A2 {dx:Addr}{n:Int}:Mk1 [.gh [] (G1 dx n)] dx n:=⟨[],_,M,jab M⟩
section
variable {X:Cx}{a C dx:Addr}{oe:Obj}{K:Frag}
def XM {c:V}{u:Value}(h:X.K=K)(hc:match c with | .ref _=>True | .ty _=>True | _=>False)(ru:RelV c u):Call3 X (.builtin "isinstance") (W7 K c u):=h ▸ M8 hc ru
def BB {c:V}{u:Value}(h:X.K=K)(ul:PySem.W.HS X.K C)(hp:(a,oe)∈X.pn)(hc:oe.cls=.ref C)(hd:∃vs,oe.data=.fields vs)(hn:oe.dict=some dx)(ru:RelV c u)(inj:∀v,RelV c v->v=u):Call3 X (.builtin "isinstance") (Mn K a C dx c u):=h ▸ Rh ul hp hc hd hn ru inj
def M7 {cs:jc4}(h:X.K=K)(ul:PySem.W.HS X.K C)(hp:(a,oe)∈X.pn)(hc:oe.cls=.ref C)(hd:∃vs,oe.data=.fields vs)(hn:oe.dict=some dx):Call3 X (.builtin "isinstance") (Mm K a C dx cs):=h ▸ Rg ul hp hc hd hn
end
end L3
namespace PySem
open Builtin Builtin.Str
theorem wO {α:Type}{jcY:Model}{A:Around}{s:Shared}{t:Sem α}{Q:α->Shared->Prop}{E:jc0}{n:Nat}(l:n<=s.toks)(h:wpAny jcY A t Q E s):wpAny jcY A t (λa s'=>Q a s'/\n<=s'.toks) E s:=
 jaN (wpAny_toks_of l h) (λ_ _ x=>⟨x.2,x.1⟩) λ_ _ x=>x.2
def nz {n:Nat}(l:1<=n):n≠0:=by omega
def vm (x y z:Str)(t u:Tok)(hu:u≠0):Gives («str.replace» ⟨[.str x t,.str y u,.str z u],[]⟩) (.val (.str x t)):=by
 show Gives (if((occurrences x y 0 x.length (x.length+1)).isEmpty||(y.length==0&&z.length==0))=true then(do rule "str.replace.nothing";ret (.str x t)) else(do let same <- isSame (.str y u) (.str z u);if same=true then(do rule "str.replace.old-is-new";ret (.str x t)) else if tooLong (x.length+(occurrences x y 0 x.length (x.length+1)).length*z.length)=true then unsupported "str.replace:memory" else retStr (glued z (partsBetween x (occurrences x y 0 x.length (x.length+1)) y.length)))) _;have e:isSame (.str y u) (.str z u)=pure true:=by
  show(if(u==0||u==0)=true then _ else if(u==u)=true then pure true else _:Sem Bool)=_;rw[jaa (by simp[hu]),jab (by simp)]
 rw[e];split
 .exact .rule (.of_eq M)
 .exact .rule (.of_eq M)
end PySem
namespace L2
open PySem PySem.Spec PyProof.Rows Hw
section
variable {X:Cx}{a b e o:Expr}{es:jc5}{ta tb te to:TE}{t:TA}{pos BM cpos:Pos}{n m k:Nat}
def vV (n m:Nat)(X:Cx)(e:Expr)(t:TE):Prop:=∀(vy:jcZ) (s:Shared) (U:St) (H:Hp) (Q:VK),Inv X vy U H s->n<=s.toks->t U H Q->wpAny (model X.prog X.w) X.A (eval e X.env) (λv s'=>EP X vy U Q v s'/\m<=s'.toks) X.xe s
def a0c (h:PE X e te):vV n n X e te:=λvy s U H Q I l q=>wO l (h vy s U H Q I q)
def a0a (h:vV 0 m X e te):PE X e te:=λvy s U H Q I q=>bu (h vy s U H Q I (jaT _) q) λ_ _ z=>z.1
def VP {i j}:vV 0 1 X (.Constant (.int i) j pos) (tC (.int i)):=λ_ s _ H _ I _ h=>wpAny_Constant_int ⟨⟨.int i,H,I.tok _,⟨_,M⟩,h⟩,Nat.succ_le_succ (jaT _)⟩
def VL {x j}:vV 0 1 X (.Constant (.str x) j pos) (tC (.str x)):=λ_ s _ H _ I _ h=>Calls.Constant_str ⟨⟨.str x,H,I.tok _,⟨_,M⟩,h⟩,Nat.succ_le_succ (jaT _)⟩
def EO {x j}:vV 1 1 X (.Constant (.str x) j pos) (tC (.sn x)):=λ_ s _ H _ I l h=>Calls.Constant_str ⟨⟨.sn x,H,I.tok _,⟨_,nz l,M⟩,h⟩,Nat.succ_le_succ (jaT _)⟩
def OpT (n:Nat)(X:Cx)(f:Value->Value->Sem Value)(r:R2):Prop:=∀(vy:jcZ) (s:Shared) (U:St) (H:Hp) (x y:V) (v u:Value) (Q:VK),Inv X vy U H s->n<=s.toks->RelV x v->RelV y u->r x y H Q->wpAny (model X.prog X.w) X.A (f v u) (EP X vy U Q) X.xe s
def Lb {f:Value->Value->Sem Value}{r:R2}(h:gP X f r):OpT n X f r:=λvy s U H x y v u Q I _=>h vy s U H x y v u Q I
def a0b {op:Operator}{r:R2}(ho:OpT k X (binaryOp op) r)(ha:vV n m X a ta)(hb:vV m k X b tb):vV n k X (.BinOp a op b pos) (UI r ta tb):=by
 intro vy s U H Q I l h;refine wpAny_BinOp (bu (ha vy s U H _ I l h) λv s1 ⟨⟨x,H1,I1,r1,q1⟩,l1⟩=>bu (hb vy s1 U H1 _ I1 l1 q1) ?_);rintro u s2 ⟨⟨y,H2,I2,r2,q2⟩,l2⟩;exact wO l2 (ho vy s2 U H2 x y v u Q I2 l2 r1 r2 q2)
def ZX:R2:=λx y H Q=>∃i j,x=.str i/\y=.str j/\0<i.length/\0<j.length/\i.length+j.length<=sizeLine/\Q (.sn (i++j)) H
def PD:OpT 1 X (binaryOp .Add) ZX:=by
 intro vy s U H x y v u Q I l rx ry h;obtain⟨i,j,rfl,rfl,h1,h2,hz,q⟩:=h;obtain⟨t,rfl⟩:=rx;obtain⟨t',rfl⟩:=ry;refine PySem.P.add_str ?_;rw[jaa (by simp;omega),jaa (by simp;omega)];exact⟨by rw[lE];exact hz,.sn (i++j),H,I.tok _,⟨_,nz l,M⟩,q⟩
def a3H:R2:=λx y H Q=>∃z i c,x=.str z/\y=.int i/\z.length<=sizeLine/\nQ z.cps.toList i=some c/\Q (.sn ⟨#[c]⟩) H
def VO {r:R2}(hr:∀x y H Q,r x y H Q->a3H x y H Q)(ha:PE X a ta)(hb:vV 0 1 X b tb)(hs:ue b):PE X (.Subscript a b pos) (UI r ta tb):=by
 intro vy s U H Q I h;refine Subscript_ (bu (ha vy s U H _ I h) λv s1 ⟨x,H1,I1,r1,q1⟩=>bu (hb vy s1 U H1 _ I1 (jaT _) q1) ?_);rintro u s2 ⟨⟨y,H2,I2,r2,q2⟩,l2⟩;obtain⟨z,i,c,rfl,rfl,hz,he,q⟩:=hr _ _ _ _ q2;obtain⟨t,rfl⟩:=r1;obtain⟨t',rfl⟩:=r2;obtain⟨j,h1,h2,h3,h4,h5⟩:=ua he;have hl:z.cps.toList.length=z.length:=by simp[Str.length]
 rw[hl] at h1 h4 h5;have hn:=kr;exact tail_any (jbB s2 z t) slot_str_getitem.lookup (getItem_str (c:=c) (by
  have e1:decide (i < -(2 ^ 63:Int))=false:=jaf (by omega);have e2:decide (i ≥ 2 ^ 63)=false:=jaf (by omega);rw[e1,e2,Bool.or_false]) (by rw[h1];simpa using h2) ⟨.sn ⟨#[c]⟩,H2,I2.tok _,⟨_,nz l2,M⟩,q⟩) (hs _ _)
theorem a0f (h:PE X e te):PE X e (λU H Q=>te U H λv H1=>∃x,v=.sn x/\Q (.str x) H1):=λvy s U H Q I q=>
 bu (h vy s U H _ I q) (by
  rintro v s1 ⟨x,H1,I1,r1,z,e1,q1⟩;subst e1;obtain⟨t,_,r1⟩:=r1;exact⟨.str z,H1,I1,⟨t,r1⟩,q1⟩)
def Np (n m:Nat)(X:Cx)(es:jc5)(t:TA):Prop:=∀(pos:Pos)(vy:jcZ) (s:Shared) (U:St) (H:Hp) (Q:List V->Hp->Prop),Inv X vy U H s->n<=s.toks->t U H Q->wpAny (model X.prog X.w) X.A (spliced (backTo pos (starEach es X.env))) (λv s'=>AP X vy U Q v s'/\m<=s'.toks) X.xe s
def at_of (h:PA X es t):Np n n X es t:=λpos vy s U H Q I l q=>wO l (h pos vy s U H Q I q)
def F1 (ha:vV n m X e te)(hr:Np m k X es t)(h1:autoParam (notStar e=true) zi):Np n k X (e::es) (Jl te t):=by
 intro pos vy s U H Q I l h;rw[cU h1];show wpAny _ _ (spliced ((false,eval e X.env)::backTo pos (starEach es X.env))) _ _ s;refine Calls.spliced_cons (bu (ha vy s U H _ I l h) ?_);rintro u s1 ⟨⟨x,H1,I1,r1,q1⟩,l1⟩;exact bu (hr pos vy s1 U H1 _ I1 l1 q1) (by rintro us s2 ⟨⟨xs,H2,I2,r2,q2⟩,l2⟩;exact⟨⟨x::xs,H2,I2,.cons r1 r2,q2⟩,l2⟩)
def Jf (xs:jc2):TA:=λ_ H Q=>Q (xs.map V.sn) H
theorem BH:∀{es:jc5}{xs:jc2},strsOf es=some xs->Np 1 1 X es (Jf xs)
 |[],xs,h=>by
  cases h;exact at_of uR
 |e::r,xs,h=>by
  unfold strsOf at h;split at h
  .rename_i he;cases he
  .rename_i x j pos r' he;cases he;cases q:strsOf r with
   |none=>rw[q] at h;cases h
   |some ys=>
    rw[q] at h;cases h;exact F1 EO (BH q)
  .cases h
def VN (h:Np n m X es t):vV n m X (.List es pos) (Og t):=by
 intro vy s U H Q I l hq;refine wpAny_List_spliced (bu (h pos vy s U H _ I l hq) λus s1 ⟨⟨xs,H1,I1,r,z,q⟩,l1⟩=>⟨by rw[<- r.length];exact z,?_⟩);have hf:H1 s1.heap.objs.size=none:=I1.hok.fresh (jaj _);refine⟨⟨.ref s1.heap.objs.size,upd H1 s1.heap.objs.size (.lst xs),I1.laid (t':=s1.toks) (λb u e=>jat _ e) (jaj _) ?_,M,q _ hf⟩,l1⟩;exact⟨z,us,0,r,jaP _ M⟩
def KC {xs:jc2}:∀{e:Expr},A7 e=some xs->vV 1 1 X e (Og (Jf xs)):=by
 intro e h;cases e<;>first | exact VN (BH h) | exact absurd h (by simp[A7])
def MtT (n:Nat)(X:Cx)(id:String)(r:V->List V->Hp->VK->Prop):Prop:=∀(vy:jcZ) (s:Shared) (U:St) (H:Hp) (x:V) (xs:List V) (v:Value) (us:jc3) (Q:VK),Inv X vy U H s->n<=s.toks->RelV x v->Vals xs us->r x xs H Q->
  wpAny (model X.prog X.w) X.A (call (.builtin id) (v::us)) (EP X vy U Q) X.xe s
theorem SQ {name:Str}{T id:String}{r:V->List V->Hp->VK->Prop}(pa:PlainAttrs T)(slot:Slot T name id)(hty:typeOf (.builtin id)=pure (.type "method_descriptor"))(hm:MtT k X id r)(ho:vV n m X o to)(ha:Np m k X (e::es) t)
  (h1:autoParam (notStar e=true) zi) (h2:autoParam (es.all notStar=true) zi) (h3:autoParam (es.length<20) zn) (Ap:autoParam (attributeBase o name X.env (eval o X.env)=eval o X.env) zi) (B1:autoParam ((BM.endLine==cpos.line)=true) zi) :
  vV n k X (.Call (.Attribute o name BM) (e::es) [] cpos) (tBM X.K T r to t):=by
 intro vy s U H Q I l h;have hfew:((backTo cpos (starEach (e::es) X.env)).all (λx=>!x.1)&&(backToKw cpos (keywordEach [] X.env)).all (λx=>x.1.isSome)
  &&decide ((e::es).length+([]:List Keyword).length+(if([]:List Keyword).isEmpty then 0 else 1)<30))=true:=by
  rw[uv (show(e::es).all notStar=true by show(notStar e&&es.all notStar)=true;rw[h1,h2];rfl)];show(true&&true&&decide (es.length+1+0+0<30))=true;rw[jag (by omega)];rfl
 refine wpAny_Call_method_late Ap hfew B1 rfl (bu (ho vy s U H _ I l h) ?_);rintro v s1 ⟨⟨x,H1,I1,r1,ty,q1⟩,l1⟩;obtain⟨g1,g2⟩:=Co I1 r1 ty;refine⟨T,id,pa,slot,hty,g1,g2,?_⟩;have hA:=ha cpos vy s1 U H1 _ I1 l1 q1;rw[cU h1] at hA ⊢;refine jca (by show(false||(backTo cpos (starEach es X.env)).any (·.1))=false;rw[c6 h2]<;>rfl) (jcT ?_);exact bu hA (by rintro us s2 ⟨⟨vs,H2,I2,r2,q2⟩,l2⟩;exact wO l2 (hm vy s2 U H2 x vs v us Q I2 l2 r1 r2 q2))
def IsS (v:V)(x:Str):Prop:=v=.str x\/v=.sn x
theorem ur:∀{ws:List V}{ss:jc2}{us:jc3},Paired IsS ws ss->Vals ws us->StrsAre us ss
 |_,_,_,.nil,.nil=>.nil
 |_,_,_,.cons (.inl e) p,.cons r q=>by
  subst e;obtain⟨t,rfl⟩:=r;exact .cons _ t (ur p q)
 |_,_,_,.cons (.inr e) p,.cons r q=>by
  subst e;obtain⟨t,_,rfl⟩:=r;exact .cons _ t (ur p q)
def Vr:V->List V->Hp->VK->Prop:=λx vs H Q=>∃sep p ws ss,x=.str sep/\vs=[.ref p]/\H p=some (.lst ws)/\Paired IsS ws ss/\(∀y,ws=[y]->∃z,y=.sn z)/\(ss.map (·.length)).sum+ss.length*sep.length<=16777216/\Q (.sn (Txt.join sep ss)) H
def LQ:MtT 1 X "str.join" Vr:=by
 intro vy s U H x vs v us Q I l rx rv h;obtain⟨sep,p,ws,ss,rfl,rfl,hp,hs,h1,hz,q⟩:=h;obtain⟨t,rfl⟩:=rx;obtain⟨u,rfl,ru⟩:=rv.one;cases ru;obtain⟨AC,r,pl,_⟩:=I.list (iG.of hp);obtain⟨z,hv,ht⟩:=strsAre_values (ur hs r);subst hv;have hok:=joinOk_of (sep:=sep) (ys:=ss) hz;subst ht;unfold JoinOk at hok;rw[jbf] at hok;refine jbj F.slot_str_join (jbB _ _ _) F.entry_str_join (F.args_str_join_2 _ _) (meets_str_join_list sep t p z hok) ⟨pl.isList,?_⟩;have fl:=joinFit_length hok;cases z with
 |nil=>exact⟨fl,.sn _,H,I.tok _,⟨_,nz l,M⟩,q⟩
 |cons a z=>
  cases z with
  |nil=>
   have r3:Vals ws [Value.str a.1 a.2]:=r;cases r3 with
   |cons r4 r5=>
    cases r5;obtain⟨y,rfl⟩:=h1 _ rfl;obtain⟨t',n0,e⟩:=(show ∃t,t≠0/\Value.str a.1 a.2=Value.str y t from r4)
    exact⟨.sn _,H,I,⟨_,(by injection e with _ e;rw[e];exact n0),M⟩,q⟩
  |cons b c=>exact⟨fl,.sn _,H,I.tok _,⟨_,nz l,M⟩,q⟩
def ZP:V->List V->Hp->VK->Prop:=λx vs H Q=>∃z y w,x=.str z/\vs=[.sn y,.sn w]/\y≠w/\z.length<=1000/\w.length<=14/\Q (.str z) H/\Q (.str (Txt.replace z y w)) H
def WB:MtT n X "str.replace" ZP:=by
 intro vy s U H x vs v us Q I l rx rv h;obtain⟨z,y,w,rfl,rfl,hyw,hz,hw,q1,q2⟩:=h;obtain⟨t,rfl⟩:=rx;obtain⟨u1,u2,rfl,⟨t1,n1,rfl⟩,⟨t2,n2,rfl⟩⟩:=rv.two;by_cases e:t1=t2
 .subst e;exact call_gives F.slot_str_replace (jbB _ _ _) F.entry_str_replace (F.args_str_replace_3 _ _ _) (vm z y w t t1 n1) ⟨.str z,H,I,⟨_,M⟩,q1⟩
 .exact SC.replaceW n1 n2 e (by simpa using hyw) (by omega) hw λt' k=>⟨.str _,H,I.tok _,⟨_,M⟩,q2⟩
def DM (n:Nat)(X:Cx)(st:List Stmt)(t:TS):Prop:=∀(vy:jcZ) (s:Shared) (U:St) (H:Hp) (D:Ends),Inv X vy U H s->n<=s.toks->t D U H->wpAny (model X.prog X.w) X.A (execs st X.env) (SP X vy D) X.xe s
def X7 (n m:Nat)(X:Cx)(st:Stmt)(t:TS):Prop:=∀(vy:jcZ) (s:Shared) (U:St) (H:Hp) (D:Ends),Inv X vy U H s->n<=s.toks->t D U H->wpAny (model X.prog X.w) X.A (exec st X.env) (λf s'=>SP X vy D f s'/\m<=s'.toks) X.xe s
variable {st:Stmt}{rest:List Stmt}{tt u:TS}
def Zm (h:PS X st tt):X7 n n X st tt:=λvy s U H D I l q=>wO l (h vy s U H D I q)
def UX (h:b5 X rest u):DM n X rest u:=λvy s U H D I _ q=>h vy s U H D I q
def UW (h:DM 0 X rest u):b5 X rest u:=λvy s U H D I q=>h vy s U H D I (jaT _) q
def Jx (h1:X7 n m X st tt)(h2:DM m X rest u):DM n X (st::rest) (YU tt u):=by
 intro vy s U H D I l h;refine wpAny_execs_cons (bu (h1 vy s U H {D with nx:=u D } I l h) ?_);rintro f s1 ⟨q,l1⟩;cases f with
 |next=>
  obtain⟨U',H',I',q⟩:=q;exact h2 vy s1 U' H' D I' l1 q
 |ret v=>exact q
 |brk=>exact q
 |cont=>exact q
theorem US {i:Nat}{x:Str}{pos':Pos}(hN:X.N.Nodup)(hi:X.N[i]?=some x)(hx:Loc X.env.scope x)(he:vV n m X e te)(hs:autoParam (swapsWith e (some (.Name x pos')) pos.line X.env=pure false) zi)(hf:autoParam (X.fn x=true\/X.env.scope.names.lookup x=some .local) zr) :
  X7 n m X (.Assign [.Name x pos'] e pos) (Oi te (Fp i)):=by
 intro vy s U H D I l h;refine wpAny_Assign_Name (bu (he vy s U H _ I l h) λv s1 ⟨⟨y,H1,I1,r1,q1⟩,l1⟩=>?_) hs;exact wO l1 (jX I1 hN hi hx r1 (λs2 I2=>⟨_,H1,I2,q1⟩) hf)
def UT (he:vV n m X e te):X7 n m X (.Return (some e) pos) (YV te):=by
 intro vy s U H D I l h;exact wpAny_Return_some (bu (he vy s U H _ I l h) (by rintro v s1 ⟨⟨x,H1,I1,r1,q1⟩,l1⟩;exact⟨⟨x,U,H1,I1,r1,q1⟩,l1⟩))
end
end L2
namespace L3
open PySem L2 Hw PyProof.Rows
abbrev T.sn (x:Str):T:=.v (.sn x)
abbrev D.sn (x:Str):D:=.t (.v (.sn x))
section
variable {X:Cx}{a b e o:Expr}{es:jc5}{ta tb te to:bH}{t:jB}{pos BM cpos:Pos}{n m k:Nat}
def zN (n m:Nat)(X:Cx)(e:Expr)(t:bH):Prop:=vV n m X e (li X.K t)
def Yy (n m:Nat)(X:Cx)(e:jc5)(t:jB):Prop:=Np n m X e (liA X.K t)
def Bj {t t':TE}(h:vV n m X e t)(z:∀U H Q,t' U H Q->t U H Q):vV n m X e t':=λvy s U H Q I l q=>h vy s U H Q I l (z _ _ _ q)
def Bh (h:QE X e te):zN n n X e te:=a0c h
def Tr (h:zN 0 m X e te):QE X e te:=a0a h
def Xv {v:V}(h:vV n m X e (tC v)):zN n m X e (vP (.t (.v v))):=Bj h (by rintro U H Q ⟨Y,S,Z,k,R,D,q,hk⟩;exact fin R hk aM q)
def Tt {i j}:zN 0 1 X (.Constant (.int i) j pos) (vP (.int i)):=Xv VP
def MS {x j}:zN 0 1 X (.Constant (.str x) j pos) (vP (.str x)):=Xv VL
def Xu {x j}:zN 1 1 X (.Constant (.str x) j pos) (vP (.sn x)):=Xv EO
def Q0 {op:Operator}{r:pM}(ho:OpT k X (binaryOp op) (S6 X.K r))(ha:zN n m X a ta)(hb:zN m k X b tb):zN n k X (.BinOp a op b pos) (rZ r ta tb):=Bj (a0b ho ha hb) k7
def TZ:pM
 |.t (.v (.str i)),.t (.v (.str j)),S,k=>0<i.length/\0<j.length/\i.length+j.length<=sizeLine/\k (.sn (i++j)) S
 |_,_,_,_=>False
def Wv:OpT 1 X (binaryOp .Add) (S6 X.K TZ):=by
 intro vy s U H x y v u Q I l rx ry ⟨Y,S,a,b,k,R,ra,rb,q,hk⟩;refine PD vy s U H x y v u Q I l rx ry ?_;unfold TZ at q;split at q
 .obtain⟨h1,h2,h3,h4⟩:=q;exact⟨_,_,ay ra,ay rb,h1,h2,h3,fin R hk aM h4⟩
 .exact q.elim
def W6:pM
 |.t (.v (.str z)),.t (.v (.int i)),S,k=>z.length<=sizeLine/\∃c,nQ z.cps.toList i=some c/\k (.sn ⟨#[c]⟩) S
 |_,_,_,_=>False
theorem Z4 (ha:QE X a ta)(hb:zN 0 1 X b tb)(hs:autoParam (ue b) kt):QE X (.Subscript a b pos) (rZ W6 ta tb):=bF (VO (r:=S6 X.K W6) ((by
  rintro x y H Q ⟨Y,S,a,b,k,R,ra,rb,q,hk⟩;unfold W6 at q;split at q
  .obtain⟨h1,c,h2,h3⟩:=q;exact⟨_,_,c,ay ra,ay rb,h1,h2,fin R hk aM h3⟩
  .exact q.elim)) ha hb hs) k7
def tWk (t:bH):bH:=λZ S k=>t Z S λd S1=>∃x,d=.sn x/\k (.str x) S1
theorem ki (h:QE X e te):QE X e (tWk te):=bF (a0f h) (by rintro U H Q ⟨Y,S,Z,k,R,D,q,hk⟩;exact⟨Y,S,Z,_,R,D,q,(by
 rintro v H1 ⟨Y1,S1,d,g1,R1,r1,x,e1,q1⟩;subst e1;exact⟨x,ay r1,hk _ _ ⟨Y1,S1,_,g1,R1,aM,q1⟩⟩)⟩)
def a5q {t t':TA}(h:Np n m X es t)(z:∀U H Q,t' U H Q->t U H Q):Np n m X es t':=λpos vy s U H Q I l q=>h pos vy s U H Q I l (z _ _ _ q)
def a5p (h:QA X es t):Yy n n X es t:=at_of h
theorem X0 (ha:zN n m X e te)(hr:Yy m k X es t)(h:autoParam (notStar e=true) zi):Yy n k X (e::es) (aZ te t):=
 a5q (F1 ha hr h) (by rintro U H Q ⟨Y,S,Z,k,R,D,q,hk⟩;exact⟨Y,S,Z,_,R,D,q,(by rintro v H1 ⟨Y1,S1,d,g1,R1,r1,q1⟩;exact   ⟨Y1,S1,Z,_,R1,D.gr g1,q1,(by rintro w H2 ⟨Y2,S2,ds,g2,R2,r2,q2⟩;exact hk _ _ ⟨Y2,S2,d::ds,g1.trans g2,R2,.cons (r1.gr g2) r2,q2⟩)⟩)⟩)
theorem aX.SV {K:Frag}{G:Hp}:∀(ns:jc2),aX K G (ns.map T.sn) (ns.map V.sn)
 |[]=>.nil
 |n::ns=>.cons (by unfold Rp;rfl) (aX.SV ns)
def QZ {xs:jc2}(h:A7 e=some xs):zN 1 1 X e (λ_ S k=>xs.length<=sizeLine/\k (.lst (xs.map T.sn)) S):=Bj (KC h) (by rintro U H Q ⟨Y,S,Z,k,R,D,q,hk⟩;exact⟨by rw[jad];exact q.1,zq R hk (aX.SV xs) q.2⟩)
def IsT (b:T)(s:Str):Prop:=b=.str s\/b=.sn s
def C8:BV
 |.t (.v (.str sep)),[d],S,k=>∃(bs:List T)(ss:jc2),lq S d=some bs/\Paired IsT bs ss/\(∀y,bs=[y]->∃z,y=T.sn z)/\(ss.map (·.length)).sum+ss.length*sep.length<=16777216/\k (.sn (Txt.join sep ss)) S
 |_,_,_,_=>False
theorem Ff {K:Frag}{G:Hp}:∀{bs:List T}{vs:List V}{ss:jc2},aX K G bs vs->Paired IsT bs ss->Paired IsS vs ss
 |[],vs,_,r,.nil=>by unfold aX at r;rw[r];exact .nil
 |b::bs,vs,_,r,.cons h p=>by
  unfold aX at r;obtain⟨v,vr,rfl,e2,e3⟩:=r;refine .cons ?_ (Ff e3 p);rcases h with rfl | rfl
  .unfold Rp at e2;exact .inl e2
  .unfold Rp at e2;exact .inr e2
def Ql:MtT 1 X "str.join" (C7 X.K C8):=by
 intro vy s U H x xs v us Q I l rx rv ⟨Y,S,d,ds,k,R,rd,rs,q,hk⟩;refine LQ vy s U H x xs v us Q I l rx rv ?_;unfold C8 at q;split at q
 .obtain⟨bs,ss,h1,h2,h3,h4,h5⟩:=q;obtain⟨w,rfl,rw'⟩:=rs.one;obtain⟨a,us,e1,e2,e3⟩:=b4 R rw' h1;refine⟨_,a,us,ss,ay rd,by rw[e1],e2,Ff e3 h2,λy hy=>?_,h4,fin R hk aM h5⟩;subst hy;cases bs with
  |nil=>unfold aX at e3;cases e3
  |cons b r=>
   unfold aX at e3;obtain⟨v',vr,e4,e5,e6⟩:=e3;cases e4;cases r with
   |nil=>
    obtain⟨z,rfl⟩:=h3 _ rfl;unfold Rp at e5;exact⟨z,e5⟩
   |cons c r=>unfold aX at e6;obtain⟨_,_,e7,_⟩:=e6;cases e7
 .exact q.elim
theorem OY (ho:zN 0 1 X o to)(ha:QA X [e] t)(h1:autoParam (notStar e=true) zi)(Ap:autoParam (attributeBase o "join" X.env (eval o X.env)=eval o X.env) zi)(B1:autoParam ((BM.endLine==cpos.line)=true) zi) :
  QE X (.Call (.Attribute o "join" BM) [e] [] cpos) (lG "str" C8 to t):=Tr (Bj (SQ jbK PySem.F.slot_str_join PySem.F.type_str_join Ql ho (at_of ha) h1 rfl (by decide) Ap B1) zb)
def rep3:BV:=λd ds S k=>d.sD.elim False λz=>∃y w,ds=[.t (.v (.sn y)),.t (.v (.sn w))]/\y≠w/\z.length<=1000/\w.length<=14/\k (.str z) S/\k (.str (Txt.replace z y w)) S
def a0N:MtT n X "str.replace" (C7 X.K rep3):=by
 intro vy s U H x xs v us Q I l rx rv ⟨Y,S,d,ds,k,R,rd,rs,q,hk⟩;refine WB vy s U H x xs v us Q I l rx rv ?_;rcases HN q with q | ⟨z,hd,y,w,rfl,h1,h2,h3,h4,h5⟩
 .exact q.elim
 cases D.AI hd;obtain⟨w1,w2,rfl,r1,r2⟩:=rs.two;exact⟨_,_,_,ay rd,by rw[ay r1,ay r2],h1,h2,h3,fin R hk aM h4,fin R hk aM h5⟩
theorem a1y (ho:zN n m X o to)(ha:Yy m k X (e::es) t)(h1:autoParam (notStar e=true) zi)(h2:autoParam (es.all notStar=true) zi)(h3:autoParam (es.length<20) zn)(Ap:autoParam (attributeBase o "replace" X.env (eval o X.env)=eval o X.env) zi)(B1:autoParam ((BM.endLine==cpos.line)=true) zi) :
  zN n k X (.Call (.Attribute o "replace" BM) (e::es) [] cpos) (lG "str" rep3 to t):=Bj (SQ jbK PySem.F.slot_str_replace PySem.F.type_str_replace a0N ho ha h1 h2 h3 Ap B1) zb
def X6 (n m:Nat)(X:Cx)(st:Stmt)(t:iW):Prop:=X7 n m X st (Yj X.K t)
def DL (n:Nat)(X:Cx)(st:List Stmt)(t:iW):Prop:=DM n X st (Yj X.K t)
variable {st:Stmt}{rest:List Stmt}{tt u:iW}
def Gp (h:QS X st tt):X6 n n X st tt:=Zm h
def Zn (h:cH X rest u):DL n X rest u:=UX h
def RQ (h:DL 0 X rest u):cH X rest u:=UW h
theorem fV (h1:X6 n m X st tt)(h2:DL m X rest u):DL n X (st::rest) (qZ tt u):=λvy s U H D I l ⟨Y,S,Z,E,R,RS,q,eu⟩=>Jx h1 h2 vy s U H D I l
 ⟨Y,S,Z,_,R,RS,q,⟨λσ1 H1 ⟨Y1,S1,δ1,g1,R1,Rn,q1⟩=>⟨Y1,S1,δ1,E,R1,Rn,q1,eu.gr g1⟩,eu.rt,eu.bk,eu.ct⟩⟩
theorem UY (h1:X6 n m X st tt):DL n X [st] tt:=λvy s U H D I l q=>wpAny_execs_cons (bu (h1 vy s U H D I l q) (by
 rintro f s1 ⟨q,_⟩;cases f with
 |next=>exact jcC q
 |ret v=>exact q
 |brk=>exact q
 |cont=>exact q))
theorem J3 {i:Nat}{x:Str}{pos':Pos}(hN:X.N.Nodup)(he:zN n m X e te)(hi:autoParam (X.N[i]?=some x) zi)(hx:autoParam (Loc X.env.scope x) kf)(hs:autoParam (swapsWith e (some (.Name x pos')) pos.line X.env=pure false) zi)(hf:autoParam (X.fn x=true\/X.env.scope.names.lookup x=some .local) zr) :
  X6 n m X (.Assign [.Name x pos'] e pos) (uh te (cI i)):=λvy s U H D I l ⟨Y,S,Z,E,R,RS,q,eu⟩=>US hN hi hx he hs hf vy s U H D I l
 ⟨Y,S,Z,_,R,RS,q,λv H1 ⟨Y1,S1,d,g1,R1,r1,q1⟩=>eu.nx _ _ ⟨Y1,S1,Z.set i (some d),g1,R1,(RS.gr g1).set r1 i,q1⟩⟩
def ZH (he:zN n m X e te):X6 n m X (.Return (some e) pos) (wQ te):=(by rintro vy s U H D I l ⟨Y,S,Z,E,R,RS,q,eu⟩;exact UT he vy s U H D I l ⟨Y,S,Z,_,R,RS,q,eu.rt⟩)
end
theorem MI:∀l:jc2,sr (l.map T.sn)=some (l.map V.sn)
 |[]=>rfl
 |a::r=>by
  show(match flT (T.sn a),sr (r.map T.sn) with | some v,some vs=>some (v::vs) | _,_=>none)=_;rw[MI r];rfl
def Mu {f:Str->V}(hf:∀a b,vS (f a) (.sn b)=(a==b))(w:Str)(xs:jc2):Dd (.sn w) (xs.map f)=decide (w∈xs):=by
 unfold Dd;rw[List.any_map];by_cases h:w∈xs
 .rw[jag h,jcj];exact⟨w,h,by simp[hf]⟩
 .rw[jaf h,List.any_eq_false];intro y hy;simp only[Function.comp,hf,jaZ];exact λe=>h (e ▸ hy)
def lsN (l:jc2):T:=.lst (l.map T.sn)
def JF:fG:=λds S k=>∃(d m:Nat),ds=[.ob d,.int m]/\m<=8/\Dq S d/\∀(ns:jc2) c m',ns.length=m->ns.Nodup->(∀x∈ns,isNm x=true)->k (.t (lsN ns)) (pB S d c m')
theorem Fd:∀ss:jc2,Paired IsT (ss.map T.str) ss
 |[]=>.nil
 |s::r=>.cons (.inl M) (Fd r)
theorem Fe:∀{bs:List T}{ss:jc2}(i:Nat)(c:Str),Paired IsT bs ss->Paired IsT (bs.set i (T.sn c)) (ss.set i c)
 |_,_,_,_,.nil=>.nil
 |_,_,0,_,.cons _ p=>.cons (.inr M) p
 |_,_,i+1,c,.cons h p=>.cons h (Fe i c p)
theorem Wt {bs:List T}{i:Nat}{c:Str}(hi:i<bs.length):∀y,bs.set i (T.sn c)=[y]->∃z,y=T.sn z:=λy h=>by
 have l:=jae List.length h;rw[jaQ,jbY] at l;have e:(bs.set i (T.sn c))[0]?=some y:=by rw[h];rfl
 have i0:i=0:=by omega
 subst i0;rw[jaI hi] at e;cases e;exact⟨c,M⟩
def Qq (i:Int):∃x,Yz x/\nQ (mO.map T.sn) (i % 12)=some (T.sn x):=by
 have h0:=jbR i (show(12:Int)≠0 by decide);have h1:=jbN i (show(0:Int)<12 by decide);have e:i % 12=((i % 12).toNat:Int):=(jcV h0).symm;have hl:(i % 12).toNat<mO.length:=by rw[Hg];omega
 have hk:∀x∈mO,1<=x.length/\x.length<=8/\(cp x).all d8=true:=by symm
 refine⟨mO[(i % 12).toNat],hk _ (List.getElem_mem hl),?_⟩;have:=b9 (xs:=mO.map T.sn) (j:=(i % 12).toNat) (v:=T.sn mO[(i % 12).toNat]) (by rw[jax,jaz hl];rfl);rw[<- e] at this;exact this
end L3
namespace L2
open PySem PySem.Spec PyProof.Rows
section
variable {X:Cx}{pos:Pos}
def a4Z (K:Frag)(n:Nat)(t:Nj):TG:=λv U H Q=>∃a xs,v=.ref a/\iG K H a xs/\xs.length=n/\t xs U H Q
theorem V6 {es:jc5}{k:Nat}{t:Nj}{n:Nat}(hc:X.calm=true)(h:T6 X es t)
  (hn:autoParam ((assignEach es X.env).length=n) zi) (hst:autoParam ((assignEach es X.env).findIdx? (·.1)=none) zi):PG X (.Tuple es k pos) (a4Z X.K n t):=by
 intro vy s U H v u Q I r hw;obtain⟨a,xs,e1,hq,hl,hw⟩:=hw;subst e1;cases r;obtain⟨AC,rv,ht,hz⟩:=I.list hq;rw[assign_Tuple];refine jac (jcn ?_);unfold unpack;rw[show(assignEach es X.env).length=AC.toArray.size by simp[hn,<- hl,rv.length],hst];refine jac (jbn (PySem.W.kun_itemsOf (I.ok.hd hc) ht.isList λh' hx=>?_));have I1:Inv X vy U H {s with heap:=h' }:=I.kept (t':=s.toks) λb o e=>hx b o (jaM (jam e)) e;exact h vy _ U H xs _ Q I1 (by simpa using rv) hw
end
end L2
namespace L3
open PySem L2 Hw PyProof.Rows
def a1p (n:Nat)(gs:wF):qJ:=λd Z S k=>∃l,lq S d=some l/\l.length=n/\gs l Z S k
theorem Vw {X:Cx}{es:jc5}{gs:wF}{pos:Pos}{k0 n:Nat}(hc:X.calm=true)(h:QGs X es gs)(hn:autoParam ((assignEach es X.env).length=n) zi)(hst:autoParam ((assignEach es X.env).findIdx? (·.1)=none) zi):QG X (.Tuple es k0 pos) (a1p n gs):=
 AO (V6 hc h hn hst) (by
  rintro v U H Q ⟨Y,S,Z,d,k,R,RS,rd,⟨l,e,hl,q⟩,hk⟩;obtain⟨a,vs,e1,e2,e3⟩:=b4 R rd e;exact⟨a,vs,e1,.of e2,by rw[<- e3.len];exact hl,Y,S,Z,l,k,R,RS,e3,q,hk⟩)
end L3
namespace L3
open PySem L2 Hw
section
variable {x y a:Str}(hx:isNm x=true)
end
def jnl (xs:jc2):Str:=Txt.join "" (xs.map (·++("\n":Str)))
def MY:cp ("\n":Str)=[10]:=by symm
def MZ (xs:jc2):cp (jnl xs)=(xs.map λx=>cp x++[10]).flatten:=by
 unfold jnl;rw[Tz,ja3];congr 1;exact List.map_congr_left λx _=>by show cp (x++_)=_;rw[zE,MY]
theorem Bu (b:Str):∀(r:jc2)(x:Str),((x::r).map λx=>cp x++[10]).flatten++cp b=cp x++((r++[b]).map λy=>cp ("\n":Str)++cp y).flatten
 |[],x=>by rw[MY];simp
 |y::r,x=>by
  have:=Bu b r y;rw[jal,jbp,jaC,this,ja8,jal,jbp,MY];simp
theorem LY {t b:Str}{xs:jc2}(e:cp t=(xs.map λx=>cp x++[10]).flatten++cp b):t=Txt.join "\n" (xs++[b]):=bU (by
 rw[e];cases xs with
 |nil=>rw[jbQ,M0];simp
 |cons x r=>rw[ja8,M0,Bu])
theorem Bf {jcY:Nat}:∀{xs:jc2},(∀x∈xs,x.length<=jcY)->((xs.map λx=>cp x++[10]).flatten).length<=(jcY+1)*xs.length
 |[],_=>by simp
 |x::r,h=>by
  have ih:=Bf λy hy=>h y (jah _ hy);have hx:=h x (jai ..);rw[aW] at hx;rw[jal,jbp,jaD,jaD,show(x::r).length=r.length+1 from M,Nat.mul_succ];show(cp x).length+1+_<=_;omega
def kP:fG:=λds S k=>∃xs:jc2,ds=[.lst (xs.map T.str)]/\xs.length<=80/\(∀x∈xs,x.length<=100000)/\k (.str (jnl xs)) S
end L3
namespace L2
open PySem PySem.Spec PyProof.Rows Hw
section
variable {X:Cx}
end
end L2
namespace L3
open PySem L2 Hw PyProof.Rows
theorem aX.ofInts {K:Frag}{G:Hp}:∀(ns:List Int),aX K G (ns.map T.int) (ns.map V.int)
 |[]=>.nil
 |n::ns=>.cons (by unfold Rp;rfl) (aX.ofInts ns)
end L3
namespace L3
open PySem L2 Hw
section
variable {L A B:List (Kd×Str)}{p:Kd×Str}{S:aO}{k:KD}{o:O}{n m j:Nat}{t:Str}
end
def Ja {ns:jc2}(h:ns.length=3):∃x y a,ns=[x,y,a]:=by
 match ns,h with
 |[x,y,a],_=>exact⟨x,y,a,M⟩
def xI {a b:Int}(h:a=b):xor true (decide (V.int a=V.int b))=false:=by subst h;simp
def a0J {c:Int}{m:Nat}(hm:0<m):∃q:Nat,c % (m:Int)=(q:Int)/\q<m:=by
 have h0:=jbR c (show(m:Int)≠0 by omega);have h1:=jbN c (show(0:Int)<(m:Int) by omega);exact⟨(c % (m:Int)).toNat,by omega,by omega⟩
def Vd {u:iW}{E:mR}{Z:Sl}{S:aO}{i:Nat}(h:u E (Z.set i (some (.ob S.length))) (S++[.lst []])):qZ (uh (Jj cK) (cI i)) u E Z S:=h
def a3u {n i:Nat}{r c:Int}{Z:Sl}{S:aO}{nx:KS}(h:nx (Z.set i (some (.bl (xor false (decide (V.int r=V.int c)))))) S):vP (.int c) Z S (λy S2=>eq3 n false (.int r) y S2 λd S1=>cI i d Z S1 nx):=h
def NF (z:Str):Option (Option (Str×Int)):=
 bif dW z then some (some (z,1))
 else bif gb (Txt.partition z "*").1&&(decide ((Txt.partition z "*").2.1="")||dW (Txt.partition z "*").2.2) then(PySem.intText? (Txt.partition z "*").1).map λn=>some ((Txt.partition z "*").2.2,n)
 else some none
noncomputable def gn:jc2->Option (List (Bool×Str))
 |[]=>some []
 |[_]=>none
 |s::t::r=>if s="+" then(gn r).map ((false,t)::·) else if s="-" then(gn r).map ((true,t)::·) else none
def BU (w:Str):Bool×Str:=if Txt.startswith w "-"=true then(true,Txt.slice w (some 1) none) else(false,w)
def Aa (ws:jc2):Option (List (Bool×Str)):=if ws.length % 2=1 then(match ws with | w::r=>(gn r).map (BU w::·) | []=>none) else none
noncomputable def nS:List (Bool×Str)->Option (Option (List (Str×Int)))
 |[]=>some (some [])
 |q::r=>match NF q.2 with
  |none=>none
  |some none=>some none
  |some (some p)=>(nS r).map λo=>o.map ((p.1,if q.1=true then -p.2 else p.2)::·)
def NG (ws:List (Str×Int)):Bool:=(z0 ws).all λp=>decide (sF (wt (z0 ws) p.1)<=999999999)
def fQ (ws:jc2):Option Bool:=match Aa ws with
 |none=>some false
 |some l=>(nS l).map λo=>match o with | none=>false | some W=>NG W
section
variable (A:Ad)
def RV:iX:=λds S k x=>∃(z:Str)(a:Int)(r:Option (Str×Int)),ds=[.str z,.int a]/\a.natAbs<=1000000/\z.length<=100/\NF z=some r/\(∀p,r=some p->k (.tup [.str p.1,.int p.2]) S)/\(r=none->x a)
def RZ:iX:=λds S k x=>∃(ws:jc2)(a:Int),ds=[.lst (ws.map T.str),.int a]/\a.natAbs<=1000000/\ws.length<=60/\(∀w∈ws,w.length<=100)/\(∀l,Aa ws=some l->k (.lst (l.map Ju)) S)/\(Aa ws=none->x a)
def rj:iX:=λds S k x=>∃(ws:jc2)(a:Int)(b:Bool),ds=[.lst (ws.map T.str),.int a]/\a.natAbs<=1000000/\ws.length<=60/\(∀w∈ws,w.length<=100)/\fQ ws=some b/\(b=true->∀s:Sm,k (.t (EC A s)) S)/\(b=false->x a)
end
def a3t {te:bH}{u:iW}{E:mR}{Z:Sl}{S:aO}{i:Nat}(h:te Z S λd S1=>HA [d] λl=>u E (Z.set i (some (.ob S1.length))) (S1++[.lst l])):qZ (uh (Jj (aZ te cK)) (cI i)) u E Z S:=h
theorem a3r {Z:Sl}{S:aO}{k:KD}{w:Str}(h2:Z[2]?=some (some (D.str w)))(hw:w.length<=100)(h:k (.t (Ju (BU w))) S) :
  Y9 (qb (lG "str" Oo (cy 2) (aZ (vP (D.str "-")) cK))) (Ep (aZ (vP (D.str "-")) (aZ (YS false (cy 2) (tPt (vP (D.int 1))) Y3) cK))) (Ep (aZ (vP (D.str "+")) (aZ (cy 2) cK))) Z S k:=by
 refine oe h2 ⟨M,_,M,?_⟩;unfold BU at h;cases q:Txt.startswith w "-" with
 |true=>
  rw[q,jab rfl] at h;rw[jab rfl];exact oe h2 ⟨nP (by omega),h⟩
 |false=>
  rw[q,jaa (by decide)] at h;rw[jaa (by decide)];exact oe h2 h
def KI {l r:jc2}{m:List (Bool×Str)}(h:gn l=some m):gn (l++r)=(gn r).map (m++·):=by
 induction l using gn.induct generalizing m with
 |case1=>cases h;rw[jbQ];cases gn r<;>rfl
 |case2 s=>cases h
 |case3 t rest ih=>
  rw[gn,jab rfl] at h;cases q:gn rest with
  |none=>rw[q] at h;cases h
  |some m'=>
   rw[q] at h;cases h;rw[ja8,ja8,gn,jab M,ih q];cases gn r<;>rfl
 |case4 t rest hne ih=>
  rw[gn,jaa hne,jab rfl] at h;cases q:gn rest with
  |none=>rw[q] at h;cases h
  |some m'=>
   rw[q] at h;cases h;rw[ja8,ja8,gn,jaa hne,jab M,ih q];cases gn r<;>rfl
 |case5 s t rest h1 h2=>rw[gn,jaa h1,jaa h2] at h;cases h
def Ea {m:List (Str×Int)}{r:List (Bool×Str)}:∀{l:List (Bool×Str)} {m:List (Str×Int)},nS l=some (some m)->nS (l++r)=(nS r).map λo=>o.map (m++·):=by
 intro l
 induction l with
 |nil=>
  intro m h;cases h;rw[jbQ];cases nS r with
  |none=>rfl
  |some o=>cases o<;>rfl
 |cons q l ih=>
  intro m h;rw[nS] at h;rw[ja8,nS];cases e:NF q.2 with
  |none=>rw[e] at h;cases h
  |some o=>
   rw[e] at h;cases o with
   |none=>cases h
   |some p=>
    dsimp only at h ⊢;cases e2:nS l with
    |none=>rw[e2] at h;cases h
    |some o=>
     rw[e2] at h;cases o with
     |none=>cases h
     |some m'=>
      cases h;rw[ih e2];cases nS r with
      |none=>rfl
      |some o=>cases o<;>rfl
def Eb:∀{l:List (Bool×Str)} {m:List (Str×Int)},nS l=some (some m)->m.length=l.length:=by
 intro l
 induction l with
 |nil=>intro m h;cases h;rfl
 |cons q l ih=>
  intro m h;rw[nS] at h;cases e:NF q.2 with
  |none=>rw[e] at h;cases h
  |some o=>
   rw[e] at h;cases o with
   |none=>cases h
   |some p=>
    dsimp only at h;cases e2:nS l with
    |none=>rw[e2] at h;cases h
    |some o=>
     rw[e2] at h;cases o with
     |none=>cases h
     |some m'=>cases h;rw[jaA,jaA,ih e2]
def Ow {w:Str}(h:1<=w.length):(Txt.slice w (some 1) none).length<=w.length:=by
 rw[aW,aW,Du h,jay];omega
def ES:∀{r:jc2}{m:List (Bool×Str)},gn r=some m->(∀q∈m,q.2∈r)/\2*m.length=r.length:=by
 intro r
 induction r using gn.induct with
 |case1=>intro m h;cases h;exact⟨(λq hq=>by cases hq),M⟩
 |case2 s=>intro m h;cases h
 |case3 t rest ih=>
  intro m h;rw[gn,jab rfl] at h;cases q:gn rest with
  |none=>rw[q] at h;cases h
  |some m'=>
   rw[q] at h;cases h;obtain⟨i1,i2⟩:=ih q;exact⟨λq hq=>by rcases jak.mp hq with rfl | hq;simp;exact jah _ (jah _ (i1 q hq)),by simp;omega⟩
 |case4 t rest hne ih=>
  intro m h;rw[gn,jaa hne,jab rfl] at h;cases q:gn rest with
  |none=>rw[q] at h;cases h
  |some m'=>
   rw[q] at h;cases h;obtain⟨i1,i2⟩:=ih q;exact⟨λq hq=>by rcases jak.mp hq with rfl | hq;simp;exact jah _ (jah _ (i1 q hq)),by simp;omega⟩
 |case5 s t rest h1 h2=>intro m h;rw[gn,jaa h1,jaa h2] at h;cases h
def Oz {ws:jc2}{l:List (Bool×Str)}(h:Aa ws=some l)(hl:ws.length<=60)(hw:∀w∈ws,w.length<=100):(∀q∈l,q.2.length<=100)/\l.length<=31:=by
 unfold Aa at h;split at h
 .cases ws with
  |nil=>cases h
  |cons w r=>
   dsimp only at h;cases q:gn r with
   |none=>rw[q] at h;cases h
   |some m=>
    rw[q] at h;cases h;obtain⟨i1,i2⟩:=ES q;refine⟨λq hq=>?_,by simp at hl ⊢;omega⟩;rcases jak.mp hq with rfl | hq
    .have h1:=hw w jai;unfold BU;split
     .rename_i hs;have h0:1<=w.length:=by
       refine jcp λz=>?_;have e:w="":=bU (by
         have h9:(cp w).length=0:=by rw[<- aW];omega
         rw[jbJ.mp h9];symm)
       rw[e] at hs;exact absurd hs (by symm)
      have h2:=Ow h0;show(Txt.slice w (some 1) none).length<=100;omega
     .exact h1
    .exact hw _ (jah _ (i1 q hq))
 .cases h
def Lx {ws:List (Str×Int)}{ss:jc2}(mem:∀x,x∈ss↔x∈(z0 ws).map (·.1)):(ss.map λx=>decide (sF (wt (z0 ws) x)<=999999999)).all _root_.id=NG ws:=by
 unfold NG;rw[jbt,jck,jav,jav];constructor
 .intro h p hp;exact h p.1 ((mem _).mpr (jaY.mpr ⟨p,hp,M⟩))
 .intro h x hx;obtain⟨p,hp,rfl⟩:=jaY.mp ((mem _).mp hx);exact h p hp
def K7 (z:Str):((Txt.partition z "*").1.length<=z.length/\(Txt.partition z "*").2.2.length<=z.length):=by
 by_cases h:42∈cp z
 .obtain⟨l,r,e,hl⟩:=List.eq_append_cons_of_mem h;have e2:z=(⟨l.toArray⟩:Str)++"*"++⟨r.toArray⟩:=bU (by rw[jK,jK,e,show cp "*"=[42] by symm];show l++42::r=(l++[42])++r;simp);have:=lE e2;rw[e2,iO (show 42∉cp (⟨l.toArray⟩:Str) from hl),<- e2];exact⟨by show(⟨l.toArray⟩:Str).length<=_;omega,by show(⟨r.toArray⟩:Str).length<=_;omega⟩
 .rw[gy h];exact⟨jaj _,jaT _⟩
def MN {z:Str}(h:gb z=true):z.length<=9:=by
 unfold gb at h;simp only[jar,jaG] at h;exact h.1.1.2
def xU (w:Str):Option (jc2):=
 if Txt.rstripChars (Txt.lstripChars w "(") ")"="" then none
 else some (List.replicate (w.length - (Txt.lstripChars w "(").length) ("(":Str)++Txt.rstripChars (Txt.lstripChars w "(") ")"::List.replicate ((Txt.lstripChars w "(").length - (Txt.rstripChars (Txt.lstripChars w "(") ")").length) (")":Str))
noncomputable def dP:jc2->Option (jc2)
 |[]=>some []
 |w::r=>(xU w).bind λa=>(dP r).map (a++·)
abbrev Pr:=Option (Option (Bool×Nat))
noncomputable def hd0 (l:jc2):Str:=l.headD ""
def p1 (t:Str):Bool:=!(decide (t=""))&&!(decide (t∈ZF))
def p2 (t:Str):Bool:=!(decide (t=""))&&!(decide (t∈[("and":Str),"or",")"]))
def HP (l:jc2):Option (Option Nat):=
 match fQ (l.takeWhile p1) with
 |none=>none
 |some false=>some none
 |some true=>match fQ ((l.drop ((l.takeWhile p1).length+1)).takeWhile p2) with
  |none=>none
  |some false=>some none
  |some true=>some (some ((l.takeWhile p1).length+1+((l.drop ((l.takeWhile p1).length+1)).takeWhile p2).length))
def Ri (c:jc2->Pr)(l:jc2):Pr:=
 if hd0 l="(" then(match c (l.drop 1) with
  |none=>none
  |some none=>some none
  |some (some (s,n))=>if hd0 (l.drop (1+n))=")" then some (some (s,n+2)) else some none)
 else some none
def Gw (c:jc2->Pr)(l:jc2):Pr:=
 if hd0 l="not" then(match Ri c (l.drop 1) with
  |none=>none
  |some none=>some none
  |some (some (_,n))=>some (some (false,n+1)))
 else if hd0 l="(" then(match Ri c l with
  |none=>none
  |some none=>some none
  |some (some (s,n))=>if s=true then some (some (true,n)) else some none)
 else match HP l with
  |none=>none
  |some none=>some none
  |some (some n)=>some (some (false,n))
noncomputable def E5 (c:jc2->Pr)(w:Str):Nat->jc2->Option (Option Nat)
 |0,_=>none
 |k+1,l=>if hd0 l=w then(match Gw c (l.drop 1) with
   |none=>none
   |some none=>some none
   |some (some (_,n))=>match E5 c w k (l.drop (1+n)) with
    |none=>none
    |some none=>some none
    |some (some m)=>some (some (1+n+m)))
  else some (some 0)
def Ra (c:jc2->Pr)(l:jc2):Pr:=
 match Gw c l with
 |none=>none
 |some none=>some none
 |some (some (s,n))=>
  if hd0 (l.drop n)="and"\/hd0 (l.drop n)="or" then(match E5 c (hd0 (l.drop n)) 100 (l.drop n) with
   |none=>none
   |some none=>some none
   |some (some m)=>some (some (true,n+m)))
  else if s=true then some none else some (some (false,n))
def lJ:Nat->jc2->Pr
 |0=>λ_=>none
 |n+1=>Ra (lJ n)
def vB (ws:jc2):Option Bool:=
 match dP ws with
 |none=>some false
 |some ts=>match lJ 4 ts with
  |none=>none
  |some none=>some false
  |some (some (_,n))=>some (decide (hd0 (ts.drop n)=""))
def a08:xN->Bool
 |.con _ _=>true
 |_=>false
structure a1U (ts:List Str)(i:Nat)(a:Int):Prop where
 ab:a.natAbs<=1000000
 len:ts.length<=50
 wd:∀t∈ts,t.length<=100
section
variable (A:Ad)
def JA:iX:=λds S k x=>∃(ws:jc2)(a:Int),ds=[.lst (ws.map T.str),.int a]/\a.natAbs<=1000000/\ws.length<=60/\(∀w∈ws,w.length<=100)/\(∀ts,dP ws=some ts->k (.lst (ts.map T.str)) S)/\(dP ws=none->x a)
def yf:iX:=λds S k x=>∃n ts i a w,ds=[.ob n,.str w]/\S[n]?=some (pW A ts i a)/\a.natAbs<=1000000/\(hd0 (ts.drop i)=w->k .ck (S.set n (pW A ts (i+1) a)))/\(hd0 (ts.drop i)≠w->x a)
def JB:iX:=λds S k x=>∃(n:Nat)(ws:jc2)(a:Int),ds=[.ob n,.lst (ws.map T.str),.int a]/\S[n]?=some (.ins A.bZ [] [])/\a.natAbs<=1000000/\ws.length<=60/\(∀w∈ws,w.length<=100)/\(∀ts,dP ws=some ts->k .ck (S.set n (pW A ts 0 a)))/\(dP ws=none->x a)
def JD (f:jc2->Pr):iX:=λds S k x=>∃(n:Nat)(ts:jc2)(i:Nat)(a:Int)(r:Option (Bool×Nat)),ds=[.ob n]/\S[n]?=some (pW A ts i a)/\a1U ts i a/\f (ts.drop i)=some r/\
 (∀s c,r=some (s,c)->∀e:xN,a08 e=s->k (.t (rR A e)) (S.set n (pW A ts (i+c) a)))/\(r=none->x a)
def JL:iX:=λds S k x=>∃(ws:jc2)(a:Int)(b:Bool),ds=[.lst (ws.map T.str),.int a]/\a.natAbs<=1000000/\ws.length<=60/\(∀w∈ws,w.length<=100)/\(∀ts,dP ws=some ts->ts.length<=50)/\vB ws=some b/\(b=true->∀e:xN,k (.t (rR A e)) S)/\(b=false->x a)
end
def a0n {x:Str}(h:p1 x=true):x≠""/\x∉ZF:=by
 unfold p1 at h;rw[jar,jbf,jbf] at h;exact⟨jbl h.1,jbl h.2⟩
def a0m {x:Str}(h:p2 x=true):x≠""/\x∉[("and":Str),"or",")"]:=by
 unfold p2 at h;rw[jar,jbf,jbf] at h;exact⟨jbl h.1,jbl h.2⟩
def PC {L r:jc2}{z:Str}(e:L.dropWhile p1=z::r):z=""\/z∈ZF:=by
 have h:p1 z=false:=by
  have:=List.head?_dropWhile_not p1 L;rw[e] at this;simpa using this
 refine jcp λn=>?_;rw[not_or] at n;unfold p1 at h;rw[jaf n.1,jaf n.2] at h;cases h
def PB {L r:jc2}{z:Str}(e:L.dropWhile p2=z::r):z=""\/z∈[("and":Str),"or",")"]:=by
 have h:p2 z=false:=by
  have:=List.head?_dropWhile_not p2 L;rw[e] at this;simpa using this
 refine jcp λn=>?_;rw[not_or] at n;unfold p2 at h;rw[jaf n.1,jaf n.2] at h;cases h
def IY {p:Str->Bool}{x:Str}:∀{l:jc2},x∈l.takeWhile p->p x=true:=by
 intro l
 induction l with
 |nil=>intro h;cases h
 |cons y r ih=>
  intro h;rw[jbe] at h;cases q:p y with
  |true=>
   rw[q,jab rfl] at h;rcases jak.mp h with rfl | h
   .exact q
   .exact ih h
  |false=>rw[q,jaa (by decide)] at h;cases h
def yk (e:xN):decide (2<=shp e)=a08 e:=by
 cases e with
 |cmp a s b=>rfl
 |neg c=>rfl
 |con k cs=>cases k<;>rfl
def UB:∀{ws ts:jc2},dP ws=some ts->(∀w∈ws,w.length<=100)->∀t∈ts,t.length<=100:=by
 intro ws
 induction ws with
 |nil=>intro ts h _ t ht;cases h;cases ht
 |cons w r ih=>
  intro ts h hw t ht;rw[dP] at h;cases e:xU w with
  |none=>rw[e] at h;cases h
  |some l=>
   rw[e] at h;cases e2:dP r with
   |none=>rw[e2] at h;cases h
   |some m=>
    rw[e2] at h;cases h;rcases jaU.mp ht with ht | ht
    .unfold xU at e;split at e
     .cases e
     .cases e;have h1:=hw w jai;have l1:=PyProof.Rows.len_lstripChars w "(";have l2:=PyProof.Rows.len_rstripChars (Txt.lstripChars w "(") ")";rcases jaU.mp ht with ht | ht
      .rw[(List.mem_replicate.mp ht).2];symm
      .rcases jak.mp ht with rfl | ht
       .omega
       .rw[(List.mem_replicate.mp ht).2];symm
    .exact ih e2 (λw hw'=>hw w (jah _ hw')) t ht
def I9 {r:jc2}:∀{l m:jc2},dP l=some m->dP (l++r)=(dP r).map (m++·):=by
 intro l
 induction l with
 |nil=>intro m h;cases h;rw[jbQ];cases dP r<;>rfl
 |cons w l ih=>
  intro m h;rw[dP] at h;rw[ja8,dP];cases e:xU w with
  |none=>rw[e] at h;cases h
  |some a=>
   rw[e] at h;cases e2:dP l with
   |none=>rw[e2] at h;cases h
   |some m'=>
    rw[e2] at h;cases h;show(dP (l++r)).map (a++·)=_;rw[ih e2];cases dP r with
    |none=>rfl
    |some z=>show some (a++(m'++z))=some ((a++m')++z);rw[jaC]
section
variable {X:Cx}{e:Expr}{es:jc5}{t:jB}{x:Str}{pos p:Pos}{k:Nat}{ps:jc2}{sp:iX}{C C0:Addr}{g:XG}
structure a5u (P:Program)(w:World)(K:Frag)(mg:Str->Option Value)(base:Heap)(C0:Addr)(k:Nat)(C:Addr)(x:Str)(ps:List Str)(sp:iX):Prop where
 mr:∃(f:Addr)(fd:FuncData),aG P w K mg base (eZ P w C0) k f fd ps (jQ K sp)/\Mk K C f/\Binds K fd ps []
 ok:rX K C []
 mg:mg x=some (.ref C)
def HD (P:Program)(w:World)(K:Frag)(mg:Str->jc7)(base:Heap)(C0:Addr)(k:Nat)(C:Addr)(x:Str)(ps:jc2)(sp:iX):Prop:=∃j,j<k/\a5u P w K mg base C0 j C x ps sp
def Y7 (g:XG)(C:Addr)(sp:iX)(t:jB):bH:=λZ S k=>t Z S λds S1=>S1[0]?=some g.m/\sp (.ob S1.length::ds) (S1++[.ins C [] []]) (λd S2=>d=.ck/\k (.ob S1.length) S2) g.x
theorem Vy (F:HD X.prog X.w X.K X.mg X.base C0 k C x ps sp)(hx:Passes (eZ X.prog X.w C0) X (EX X.K g))(hr:bR k X.A)(hg:Gl X x)(ha:QA X (e::es) t)(h1:autoParam (notStar e=true) zi)(h2:autoParam (es.all notStar=true) zi)(hdb:autoParam ((x==("__debug__":Str))=false) zn) :
  QE X (.Call (.Name x p) (e::es) [] pos) (Y7 g C sp t):=by
 obtain⟨j,hj,F⟩:=F;obtain⟨f,fd,F',hM,hb⟩:=F.mr;refine bF (uP hM F' (hr.mono hj) hg F.mg hb .nil hx ha h1 h2 hdb) λU H Q ⟨Y,S,Z,k,R,D,q,hk⟩=>⟨Y,S,Z,_,R,D,q,λvs H1 ⟨Y1,S1,ds,g1,R1,r1,q0,q1⟩ y dy hy hdy ne=>?_⟩
 obtain⟨R2,g2⟩:=nu R1 F.ok hy hdy ne;refine⟨Y1++[y],S1++[.ins C [] []],.ob S1.length::ds,_,g,R2,.cons ⟨y,by rw[<- R1.len];simp,M⟩ ?_,g9 q0,q1,?_,M⟩
 .rw[jaK];exact r1.gr g2
 .rintro v H3 ⟨ρ3,S3,d,g3,pZ,r3,rfl,q3⟩;refine⟨ay r3,hk _ _ ⟨ρ3,S3,.ob S1.length,(g1.trans g2).trans g3,pZ,⟨y,?_,M⟩,q3⟩⟩;exact g3.at (by rw[<- R1.len];simp)
end
def wC (f g:Option Bool):Option Bool:=match f with
 |none=>none
 |some false=>some false
 |some true=>g
def NJ (ws:jc2):Option Bool:=bif decide (3<ws.length)&&(isNm (ws.getD 1 "")&&decide (ws.getD 2 ""="=")) then fQ (ws.drop 3) else some false
def gj (x:Str)(ws:jc2):jc2:=ws.takeWhile λw=>!(decide (w=x))
def ir (x:Str)(ws:jc2):jc2:=(ws.dropWhile λw=>!(decide (w=x))).drop 1
def spl {x:Str}{ws:jc2}(h:x∈ws):ws=gj x ws++x::ir x ws/\x∉gj x ws:=by
 unfold gj ir
 induction ws with
 |nil=>cases h
 |cons w r ih=>
  by_cases e:w=x
  .rw[jbe,jcw,jag e];subst e;exact⟨M,λz=>by cases z⟩
  .have hr:x∈r:=by rcases jak.mp h with z | z;exact absurd z.symm e;exact z
   obtain⟨i1,i2⟩:=ih hr;rw[jbe,jcw,jaf e];refine⟨?_,λz=>?_⟩
   .show w::r=w::(_++_);exact jae (w::·) i1
   .rcases jak.mp z with z | z
    .exact e z.symm
    .exact i2 z
def KA (ws:jc2):Option Bool:=bif decide (3<ws.length)&&(isNm (ws.getD 1 "")&&(decide (ws.getD 2 ""="at")&&decide (("=":Str)∈ws))) then
  (bif decide (3<=(gj "=" ws).length) then wC (fQ ((gj "=" ws).drop 3)) (fQ (ir "=" ws)) else none)
 else some false
def LK:Option Bool->Option Bool
 |some false=>some false
 |_=>none
def qq {o:Option Bool}{b:Bool}(h:LK o=some b):o=some false/\b=false:=by
 cases o with
 |none=>cases h
 |some x=>cases x with
  |false=>cases h;exact⟨M,M⟩
  |true=>cases h
def Q2 (w:Str)(r:jc2):Option Bool:=LK (wC (fQ (gj w r)) (fQ (ir w r)))
def Yi (r:jc2):Option Bool:=
 bif decide (("div":Str)∈r) then Q2 "div" r else bif decide (("mod":Str)∈r) then Q2 "mod" r
 else bif decide (1<r.length)&&decide (r.getD 1 ""="at") then(bif isNm (r.getD 0 "") then LK (fQ (r.drop 2)) else some false) else fQ r
def NK (ws:jc2):Option Bool:=bif decide (3<ws.length)&&(isNm (ws.getD 1 "")&&decide (ws.getD 2 ""="=")) then Yi (ws.drop 3) else some false
section
variable (A:Ad)
def Gg (f:jc2->Option Bool):iX:=λds S k x=>∃(ws:jc2)(a:Int)(b:Bool),ds=[.lst (ws.map T.str),.int a]/\a.natAbs<=1000000/\ws.length<=60/\(∀w∈ws,w.length<=100)/\f ws=some b/\(b=true->∀t:T,k (.t t) S)/\(b=false->x a)
end
theorem fO {ws:jc2}{j:Nat}(h:j<ws.length):nQ (ws.map T.str) (j:Int)=some (T.str (ws.getD j "")):=
 b9 (j:=j) (by rw[jax,ja5,jaz h];rfl)
def qB {ws:jc2}{j:Nat}(h:j<ws.length):ws.getD j ""∈ws:=by
 rw[ja5,jaz h];exact List.getElem_mem h
end L3
namespace L3
open PySem L2
def rxN:jc2->Str->jc8->Option Nat
 |y::r,x,j::js=>if y=x then some j else rxN r x js
 |_,_,_=>none
noncomputable def rxL:jc8:=[0,1,2,3,4,5,6,7,8,9,10,11,12,13,14,15,16,17,18,19,20,21,22,23,24,25,26,27,28,29]
def rxV (sc:Scope)(x:Str):Bool:=match sc.names.lookup x with
 |some .local=>true
 |some .cell=>true
 |some .free=>true
 |_=>false
def rxO:Operator->Option pM
 |.Add=>some a1S
 |.Sub=>some UQ
 |.Mult=>some a0K
 |.FloorDiv=>some MO
 |.Mod=>some WD
 |_=>none
def rxC:Const->Option bH
 |.int i=>some (vP (.int i))
 |.str x=>some (vP (.str x))
 |.bool b=>some (vP (.bl b))
 |.none=>some (vP .ck)
 |_=>none
def rxA (f:Expr->Option bH):jc5->Option jB
 |[]=>some cK
 |e::r=>(f e).bind λt=>(rxA f r).bind λu=>bif notStar e then some (aZ t u) else none
noncomputable def OM (X:Cx):Nat->Expr->Option bH
 |0,_=>none
 |n+1,e=>match e with
  |.Name x _=>(rxN X.N x rxL).bind λi=>bif rxV X.env.scope x&&!(x==("__debug__":Str))&&!(x==("__classdict__":Str)) then some (cy i) else none
  |.Constant c _ _=>rxC c
  |.Attribute e f _=>(OM X n e).bind λt=>some (RN t f)
  |.Subscript a b _=>(OM X n a).bind λt=>(OM X n b).bind λu=>some (rZ ix3 t u)
  |.Tuple es _ _=>(rxA (OM X n) es).bind λt=>some (Ep t)
  |.BinOp a o b _=>(rxO o).bind λr=>(OM X n a).bind λt=>(OM X n b).bind λu=>some (rZ r t u)
  |_=>none
def Vi {x:Str}{j:Nat}:∀{l:jc2}{js:jc8}{i:Nat},(∀k m,js[k]?=some m->m=i+k)->rxN l x js=some j->∃k,j=i+k/\l[k]?=some x:=by
 intro l
 induction l with
 |nil=>intro js i _ h;cases h
 |cons y r ih=>
  intro js i hj h;cases js with
  |nil=>cases h
  |cons m js=>
   have h:(if y=x then some m else rxN r x js)=some j:=h;by_cases e:y=x
   .rw[jab e] at h;cases h;exact⟨0,hj 0 _ M,by rw[e];rfl⟩
   .rw[jaa e] at h;obtain⟨k,rfl,hk⟩:=ih (i:=i+1) (λk n q=>by have:=hj (k+1) n q;omega) h;exact⟨k+1,by omega,hk⟩
theorem Vj:∀k m,rxL[k]?=some m->m=0+k:=λk m h=>by
 rw[show rxL=List.range 30 from by decide] at h;obtain⟨_,h⟩:=jao.mp h;rw[List.getElem_range] at h;omega
def Vg {sc:Scope}{x:Str}(h:rxV sc x=true):X4 sc x:=by
 unfold rxV at h;unfold X4;cases q:sc.names.lookup x with
 |none=>rw[q] at h;cases h
 |some k=>
  rw[q] at h;cases k with
  | «local»=>exact .inl rfl
  |cell=>exact .inr (.inl M)
  |free=>exact .inr (.inr M)
  |_=>cases h
def a1N {α:Type}{b:Bool}{x y:α}(h:(bif b then some x else none)=some y):b=true/\x=y:=by
 cases b with
 |true=>cases h;exact⟨M,M⟩
 |false=>cases h
def NH {α β:Type}{o:Option α}{f:α->Option β}{y:β}(h:o.bind f=some y):∃a,o=some a/\f a=some y:=by
 cases o with
 |none=>cases h
 |some a=>exact⟨a,M,h⟩
section
variable {X:Cx}
def J5 {f:Expr->Option bH}(hf:∀e t,f e=some t->QE X e t):∀{es:jc5}{t:jB},rxA f es=some t->QA X es t:=by
 intro es
 induction es with
 |nil=>intro t h;cases h;exact az
 |cons e r ih=>
  intro t h;obtain⟨u,h1,h⟩:=NH h;obtain⟨v,h2,h⟩:=NH h;obtain⟨h3,rfl⟩:=a1N h;exact qa (hf _ _ h1) (ih h2) h3
def Vh {o:Operator}{r:pM}(h:rxO o=some r):sG X (binaryOp o) r:=by
 cases o with
 |Add=>cases h;exact aF
 |Sub=>cases h;exact Lz
 |Mult=>cases h;exact E1
 |FloorDiv=>cases h;exact LD
 |Mod=>cases h;exact mJ
 |_=>cases h
def J4:∀(n:Nat){e:Expr}{t:bH},OM X n e=some t->QE X e t:=by
 intro n
 induction n with
 |zero=>intro e t h;cases h
 |succ n ih=>
  intro e t h;cases e with
  |Name x p=>
   obtain⟨i,h1,h⟩:=NH h;obtain⟨h2,rfl⟩:=a1N h;obtain⟨k,rfl,hk⟩:=Vi Vj h1;rw[jar,jar,jbf,jbf] at h2;rw[Nat.zero_add];exact iM k hk (Vg h2.1.1) h2.1.2 h2.2
  |Constant c k p=>
   have h:rxC c=some t:=h;cases c with
   |int i=>cases h;exact aT
   |str i=>cases h;exact aN
   |bool i=>cases h;exact VB
   |none=>cases h;exact SK
   |_=>cases h
  |Attribute e f p=>
   obtain⟨u,h1,h⟩:=NH h;cases h;refine Z5 (ih h1) ?_;cases e with
   |Call _ _ _ _=>cases n<;>cases h1
   |_=>rfl
  |Subscript a b p=>
   obtain⟨u,h1,h⟩:=NH h;obtain⟨v,h2,h⟩:=NH h;cases h;refine AL (ih h1) (ih h2) ?_;cases b with
   |Slice _ _ _ _=>cases n<;>cases h2
   |_=>intro _ _;rfl
  |Tuple es k p=>
   obtain⟨u,h1,h⟩:=NH h;cases h;exact rq (J5 (λ_ _=>ih) h1)
  |BinOp a o b p=>
   obtain⟨r,h0,h⟩:=NH h;obtain⟨u,h1,h⟩:=NH h;obtain⟨v,h2,h⟩:=NH h;cases h;exact aP (Vh h0) (ih h1) (ih h2)
  |_=>cases h
def q_r {e:Expr}{t:bH}(h:autoParam (OM X 20 e=some t) zi):QE X e t:=J4 20 h
def aq {es:jc5}{t:jB}(h:autoParam (rxA (OM X 20) es=some t) zi):QA X es t:=J5 (λ_ _=>J4 20) h
end
end L3
namespace PySem
def vH (od:jc6)(h:Heap)(C a T:Addr)(z:Value):Prop:=∃oe vs oT ts,h.get? a=some oe/\X3 C oe od/\oe.data=.fields vs/\vs[1]?=some (.ref T)/\h.get? T=some oT/\oT.data=.fields ts/\ts[3]?=some z/\T≠a
section
variable {od:jc6}{jcY:Model}{A:Around}{E:jc0}{s:Shared}{base:Heap}{env:Env}{outer:List Env}{L a C T:Addr}{z:Value}
def vH.mv {fr xs:jc4}{h h':Heap}(f:vH od h C a T z)(m:Mv fr xs h h')(na:a∉fr)(nT:T∉fr)(xa:a∉xs)(xT:T∉xs):vH od h' C a T z:=by
 obtain⟨oe,vs,oT,ts,h1,h2,h3,h4,h5,h6,h7,h8⟩:=f;exact⟨oe,vs,oT,ts,m.keep _ _ h1 na xa,h2,h3,h4,m.keep _ _ h5 nT xT,h6,h7,h8⟩
def Di {fo:jc6}{fr:jc4}{Q:Unit->Shared->Prop}(f:vH od s.heap C a T z)(k:∀h',Mv fr [T] s.heap h'->vH od h' C a T (fo.elim .none λf=>rawInt f)->Q () {s with heap:=h' }):wpAny jcY A (setFlight (.ref a) fo) Q E s:=by
 obtain⟨oe,vs,oT,ts,ha,hc,hd,h1,hT,pX,h3,ne⟩:=f;unfold setFlight;refine jac (jba ha hd h1 ?_);rw[jab (show(Value.ref T !=Value.none)=true by simp)];have hsz:=(jbu.mp h3).1;have BS:=jbz pX (·.setIfInBounds 3 (fo.elim Value.none λf=>rawInt f));refine jbT hT pX hsz (k _ Mv.upd ?_);exact⟨oe,vs,_,_,(jaV _ _ ne).trans ha,hc,hd,h1,jbx _ hT (jb0 BS),BS,by simp[hsz],ne⟩
theorem LG {Q:Unit->Shared->Prop}(hfr:A.frames=some (env::outer))(hl:s.heap.FunFrames base (env::outer))(hf:env.frame=some L)(f:vH od s.heap C a T z)(hz:(z==rawInt L)=false)
  (k:∀h' T',Mv ((env::outer).filterMap (·.frame)) [a,T] s.heap h'->vH od h' C a T' (rawInt L)->s.heap.objs.size<=T'->Q () {s with heap:=h' }):wpAny jcY A (noteFrame (.ref a) env) Q E s:=by
 obtain⟨oe,vs,oT,ts,ha,hc,hd,h1,hT,pX,h3,hne⟩:=f;unfold noteFrame;simp only[hf];refine jac (jba ha hd h1 ?_);rw[jab (show(Value.ref T !=Value.none)=true by simp)];refine jac (jba hT pX h3 ?_);rw[jaa (show ¬((z==rawInt L)=true) by rw[hz];decide)];have hdU:=jbz pX (·.setIfInBounds 3 Value.none);refine jac (jbT hT pX (jbu.mp h3).1 ?_);have Yl:T∉(env::outer).filterMap (·.frame):=λhm=>cF hl hm hT pX;have hna:a∉(env::outer).filterMap (·.frame):=λhm=>cF hl hm ha hd;have rF:∀b,b≠T->(s.heap.update T (Obj.mapFields (·.setIfInBounds 3 Value.none))).get? b=s.heap.get? b:=λb hb=>jaV _ _ (jaH hb);have hl':(s.heap.update T (Obj.mapFields (·.setIfInBounds 3 Value.none))).FunFrames base (env::outer):=hl.of_keeps λb o hb hnf=>⟨o,(rF b λz=>by rw[z,hT] at hb;injection hb with hb;subst hb;exact hnf ts pX).trans hb,M⟩
 have m0:Mv ((env::outer).filterMap (·.frame)) [T] s.heap (s.heap.update T (Obj.mapFields (·.setIfInBounds 3 Value.none))):=Mv.upd;have ha0:=(rF a (jaH hne)).trans ha;have hsz:=(jbu.mp h1).1;have sz0:s.heap.objs.size=(s.heap.update T (Obj.mapFields (·.setIfInBounds 3 Value.none))).objs.size:=(jcr ..).symm;generalize s.heap.update T (Obj.mapFields (·.setIfInBounds 3 Value.none))=g0 at *;refine jac (wpAny_frameOf_fun (s:={s with heap:=g0 }) hfr hl' hf λg1 so=>?_);obtain⟨sz,same,slots⟩:=so;refine jac (wpAny_entryPlaceOf λpl hpl=>?_);unfold EntryCells.newEntry newFields;refine jac (jb4 ?_ (hpl.sizeOk5 _ _ _ _ _));have ha1:g1.get? a=some oe:=(same a hna).trans ha0;generalize hob:({cls:=.type "traceback",dict:=none,data:=.fields ([Value.ref T,.ref L,.none,rawInt L,.none]++(if pl.isEmpty then List.replicate 6 Value.none else pl)).toArray }:Obj)=ob;have ha2:(g1.push ob).get? a=some oe:=jat _ ha1;have nT:g1.objs.size≠a:=Nat.ne_of_gt (jam ha1);have BS:=jbz hd (·.setIfInBounds 1 (Value.ref g1.objs.size));have ha3:=jbx (Obj.mapFields (·.setIfInBounds 1 (Value.ref g1.objs.size))) ha2 (jb0 BS);have Mw:ob.data=.fields ([Value.ref T,.ref L,.none,rawInt L,.none]++(if pl.isEmpty then List.replicate 6 Value.none else pl)).toArray:=by rw[<- hob]
 have hT0:(g1.push ob).get? g1.objs.size=some ob:=jaP g1 (by rw[<- hob];rfl);have hT3:((g1.push ob).update a (Obj.mapFields (·.setIfInBounds 1 (Value.ref g1.objs.size)))).get? g1.objs.size=some ob:=(jaV _ _ (jaH nT)).trans hT0;refine jbT ha2 hd hsz (k _ g1.objs.size ?_ ?_ (by rw[sz0];exact jbH sz.symm))
 .refine(m0.trans (xs:=[T]) (ys:=[a]) ⟨λb o q nf nx=>?_,λb o q f nx=>?_,?_⟩).sub λb hb=>?_
  .have nb:b≠a:=λz=>nx (by rw[z];exact jaE.mpr M);exact(jaV _ _ (jaH nb)).trans (jat _ ((same b nf).trans q))
  .have nb:b≠a:=λz=>nx (by rw[z];exact jaE.mpr M);obtain⟨sl,e⟩:=slots b o q;exact⟨sl,(jaV _ _ (jaH nb)).trans (jat _ e)⟩
  .refine jap ?_ (jbH (jcr ..).symm);rw[jcm,<- sz];exact Nat.le_succ _
  .have hb:b∈[T,a]:=hb;simp only[jak,jbb,or_false] at hb ⊢;exact hb.symm
 .exact⟨_,_,ob,_,ha3,⟨(Obj.cls_mapFields _ _).trans hc.1,(kC _ _).trans hc.2.1,λws e=>(by
   rw[BS] at e;cases e;have z:=hc.2.2 _ hd;rw[Array.getElem?_setIfInBounds_ne (by decide)];exact z)⟩,BS,by simp[hsz],hT3,Mw,M,nT⟩
theorem Qn {Q:Unit->Shared->Prop}(hfr:A.frames=some (env::outer))(hl:s.heap.FunFrames base (env::outer))(hf:env.frame=some L)(f:vH od s.heap C a T z)
  (k:∀h' T',Mv ((env::outer).filterMap (·.frame)) [a,T,T'] s.heap h'->vH od h' C a T' .none->(T'=T\/s.heap.objs.size<=T')->Q () {s with heap:=h' }):wpAny jcY A (leaving env (.ref a)) Q E s:=by
 unfold leaving;cases hz:(z==rawInt L) with
 |true=>
  refine jac ?_;obtain⟨oe,vs,oT,ts,ha,hc,hd,h1,hT,pX,h3,hne⟩:=id f;unfold noteFrame;simp only[hf];refine jac (jba ha hd h1 ?_);rw[jab (show(Value.ref T !=Value.none)=true by simp)];refine jac (jba hT pX h3 ?_);rw[jab hz];refine jas ?_;exact Di f λh' m fl=>k h' T (m.sub (by intro b hb;simp only[jak,jbb,or_false] at hb ⊢;exact .inr (.inl hb))) fl (.inl M)
 |false=>
  refine jac (LG hfr hl hf f hz λh1 T1 m1 f1 l1=>?_);refine Di f1 λh' m fl=>k h' T1 ((m1.trans m).sub (by intro b hb;simp only[jaU,jak,jbb,or_false] at hb ⊢;rcases hb with(hb | hb) | hb;exact .inl hb;exact .inr (.inl hb);exact .inr (.inr hb))) fl (.inr l1)
end
end PySem
namespace L2
open PySem PySem.Spec PyProof.Rows
section
variable {P:Program}{w:World}{K:Frag}{mg:Str->jc7}{base:Heap}{N:jc2}{qual:Str}{scope:Scope}{f TM:Addr}{cd:Value}{A:Around}{outer:List Env}{s:Shared}{H:Hp}{E:XK}
theorem Wf {vy:jcZ}{U:St}{H2:Hp}{s2:Shared}{sc:Scope}{cl:List (Str×Addr)}{N':jc2}{C D:Addr}{fp:jc4}{use:Option (Value->Sem Unit)}{Q:jc0}
  (I2:Inv (jT P w TM K mg base N qual scope f cd A outer s H E) vy U H2 s2) (hfp:∀b∈fp,nG (jT P w TM K mg base N qual scope f cd A outer s H E) vy H2 b) (hC:s2.heap.objs.size<=C) :
  Passes (eZ P w TM) (pF (jT P w TM K mg base N qual scope f cd A outer s H E) sc N' cl C s2 H2 fp (λe s'=>notedBy (model P w) (jT P w TM K mg base N qual scope f cd A outer s H E).A (compEnvC sc cl C (jT P w TM K mg base N qual scope f cd A outer s H E).env)
   (λe s''=>compPost (model P w) (jT P w TM K mg base N qual scope f cd A outer s H E).A (jT P w TM K mg base N qual scope f cd A outer s H E).xe use Q (.ref D) C (.error e) s'') e s')) E:=by
 rintro a5O σ3 H3 s3 e s4 I3 ⟨a,od,H4,rfl,hE,os,bare,un,ok,fl⟩;obtain⟨oe,vs,T,oT,ts,ha,hc,hd,h1,hT,pX,h3,ne,nT,fT⟩:=fl.NT;have un:Un (frs (envOfC qual scope s.heap.objs.size f cd::outer)) [] H3 H4 s3.heap s4.heap:=un;have B2:Un (frs outer) [] H H2 s.heap s2.heap:=I2.base;have B3:Un (frs (envOfC qual scope s.heap.objs.size f cd::outer)) fp H2 H3 s2.heap s3.heap:=I3.base;have Es:s.heap.objs.size<=s2.heap.objs.size:=I2.sz;have C3:C<s3.heap.objs.size:=I3.lt;have new:=fl.new;have sk3:∀b∈frs (envOfC qual scope s.heap.objs.size f cd::outer),H3 b=none:=I3.kO;have fl3:s3.heap.FunFrames base (envOfC qual scope s.heap.objs.size f cd::outer):=I3.stack;have fl4:s4.heap.FunFrames base (envOfC qual scope s.heap.objs.size f cd::outer):=tZ (λ_ z=>z) sk3 un fl3;have fl2:s2.heap.FunFrames base (envOfC qual scope s.heap.objs.size f cd::outer):=I2.stack;have hfr:(A.deeper (envOfC qual scope s.heap.objs.size f cd)).frames=some (envOfC qual scope s.heap.objs.size f cd::outer):=I2.ok.frames;have nC:C∉frs (envOfC qual scope s.heap.objs.size f cd::outer):=λhb=>by
  obtain⟨_,o,ho,_⟩:=fl2.mem hb;exact absurd (jaB (jam ho) hC) (ja6 _)
 have fr4:∀b,b∈frs (envOfC qual scope s.heap.objs.size f cd::outer)->H4 b=none:=λb hb=>by
  obtain⟨_,o,ho,_⟩:=fl3.mem hb;exact un.free b o ho (sk3 b hb) (by simp)
 have lo:∀b,b∈frs (envOfC qual scope s.heap.objs.size f cd::outer)->b<s3.heap.objs.size:=λb hb=>by
  obtain⟨_,o,ho,_⟩:=fl3.mem hb;exact jam ho
 have fC3:H3 C=none:=I3.free;obtain⟨mC,hns,_⟩:=I3.loc;have hns:s3.heap.Ns C mC:=hns;obtain⟨oC,esC,epC,hoC,NR,rC⟩:=id hns;have a4C:s4.heap.get? C=some oC:=un.keep C oC hoC fC3 nC (by simp);have fC4:H4 C=none:=un.free C oC hoC fC3 (by simp);have f4:vH od s4.heap TM a T .none:=⟨oe,vs,oT,ts,ha,hc,hd,h1,hT,pX,h3,ne⟩
 have na:a∉frs (envOfC qual scope s.heap.objs.size f cd::outer):=λz=>absurd (lo a z) (jbI.mpr new);have nTf:T∉frs (envOfC qual scope s.heap.objs.size f cd::outer):=λz=>absurd (lo T z) (jbI.mpr nT);show wpAny (model P w) (A.deeper (envOfC qual scope s.heap.objs.size f cd)) (noteFrame (.ref a) (envOfC qual scope s.heap.objs.size f cd)) _ _ s4;refine LG hfr fl4 rfl f4 (by simp[rawInt]) λh5 T5 m5 f5 l5=>?_;have m5:Mv (frs (envOfC qual scope s.heap.objs.size f cd::outer)) [a,T] s4.heap h5:=m5;have s43:s3.heap.objs.size<=s4.heap.objs.size:=jap new (jbi (jam ha));have nca:C≠a:=jaM (jaB C3 new);have ncT:C≠T:=jaM (jaB C3 nT);have a3Z:C≠T5:=jaM (jaB C3 (jap s43 l5));have lt4:∀b,b∈frs (envOfC qual scope s.heap.objs.size f cd::outer)->b<s4.heap.objs.size:=λb hb=>jaB (lo b hb) s43;have a4B:h5.get? C=some oC:=m5.keep C oC a4C nC (by simp[nca,ncT]);have post:∃m,h5.Ns C m/\∀h',Heap.SameBut C h5 h'->∀cenv:Env,cenv.locals=C->wpAny (model P w) (A.deeper (envOfC qual scope s.heap.objs.size f cd)) (PySem.passOn "comprehension.variables-let-go" (.ref a) cenv:Sem Value) (λ_ _=>False) (jT P w TM K mg base N qual scope f cd A outer s H E).xe {s4 with heap:=h' }:=by
  refine⟨mC,⟨oC,esC,epC,a4B,NR,rC⟩,λh6 sb cenv _=>?_⟩;have m6:Mv (frs (envOfC qual scope s.heap.objs.size f cd::outer)) [C] h5 h6:=⟨λb o q _ nx=>(sb.2 b λz=>nx (by rw[z];exact jaE.mpr M)).trans q,λb o q _ nx=>⟨o.slots,(sb.2 b λz=>nx (by rw[z];exact jaE.mpr M)).trans q⟩,jbH sb.1.symm⟩
  have nT5:T5∉frs (envOfC qual scope s.heap.objs.size f cd::outer):=λz=>absurd (lt4 T5 z) (jbI.mpr l5);have f6:vH od h6 TM a T5 _:=f5.mv m6 na nT5 (by simp[jaH nca]) (by simp[jaH a3Z]);unfold PySem.passOn;obtain⟨oe6,vs6,oT6,ts6,ha6,hc6,hd6,h16,hT6,a7P,h36,ne6⟩:=id f6;refine jac (jba ha6 hd6 h16 ?_);rw[jaa (show ¬((Value.ref T5==Value.none)=true) by simp)];refine jac (Di (s:={s4 with heap:=h6 }) (fr:=frs (envOfC qual scope s.heap.objs.size f cd::outer)) f6 λh7 m7 f7=>?_);refine wpAny_throw ?_;have m57:=(m5.trans m6).trans m7;have nx:∀b∈frs (envOfC qual scope s.heap.objs.size f cd::outer),b∉([a,T]++[C])++[T5]:=λb hb z=>by
   simp only[jaU,jak,jbb,or_false] at z;rcases z with((z | z) | z) | z
   .exact na (z ▸ hb)
   .exact nTf (z ▸ hb)
   .exact nC (z ▸ hb)
   .exact nT5 (z ▸ hb)
  have fl7:h7.FunFrames base (envOfC qual scope s.heap.objs.size f cd::outer):=Fq (λ_ z=>z) nx m57 fl4;show wpAny (model P w) (A.deeper (envOfC qual scope s.heap.objs.size f cd)) (leaving (envOfC qual scope s.heap.objs.size f cd) (.ref a)) (λ_ s''=>eZ P w TM outer H s E (.ref a) s'') _ {s4 with heap:=h7 };refine Qn (s:={s4 with heap:=h7 }) hfr fl7 rfl f7 λh8 T8 m8 f8 l8=>?_;have m8:Mv (frs (envOfC qual scope s.heap.objs.size f cd::outer)) [a,T5,T8] h7 h8:=m8;have jcY:=m57.trans m8;have h78:s4.heap.objs.size<=T8:=by
   rcases l8 with z | z
   .rw[z];exact l5
   .exact jap m57.sz z
  have xs:∀b,b∈(([a,T]++[C])++[T5])++[a,T5,T8]->s.heap.objs.size<=b/\H4 b=none:=λb z=>by
   simp only[jaU,jak,jbb,or_false] at z;have q3:s.heap.objs.size<=s3.heap.objs.size:=jap Es (jap hC (jbi C3));have q4:=jap q3 s43;rcases z with(((z | z) | z) | z) | (z | z | z)
   .rw[z];exact⟨jap q3 new,fl.free⟩
   .rw[z];exact⟨jap q3 nT,fT⟩
   .rw[z];exact⟨jap Es hC,fC4⟩
   .rw[z];exact⟨jap q4 l5,ok.fresh l5⟩
   .rw[z];exact⟨jap q3 new,fl.free⟩
   .rw[z];exact⟨jap q4 l5,ok.fresh l5⟩
   .rw[z];exact⟨jap q4 h78,ok.fresh h78⟩
  refine⟨a,od,H4,M,hE,os.trans (I3.os.trans I2.os),bare,?_,ok.E7 λb u hb q=>jcY.keep b u q (λz=>hb (fr4 b z)) (λz=>hb (xs b z).2),?_,?_,fl.free⟩
  .have nl:∀b o,s.heap.get? b=some o->b≠s.heap.objs.size:=λb o q z=>absurd (jam q) (by rw[z];exact ja6 _);have nin:∀b o,s.heap.get? b=some o->b∉frs outer->b∉frs (envOfC qual scope s.heap.objs.size f cd::outer):=λb o q n z=>(jak.mp (show b∈s.heap.objs.size::frs outer from z)).elim (nl b o q) n;have hin:∀b,b∈frs outer->b∈frs (envOfC qual scope s.heap.objs.size f cd::outer):=λb hb=>jah _ hb;have nxs:∀b o,s.heap.get? b=some o->b∉(([a,T]++[C])++[T5])++[a,T5,T8]:=λb o q z=>absurd (jam q) (jbI.mpr (xs b z).1);have Wy:∀b o,s.heap.get? b=some o->b∉fp:=λb o q z=>by
    rcases(hfp b z).2.2.2.1 with y | y
    .exact absurd y (by show ¬ b∈[];exact jbb)
    .exact absurd (jam q) (jbI.mpr y)
   refine⟨λb o q n nf nx=>?_,λb o q n inf nx=>?_,λb o q n nx=>?_,λb o q nx=>?_,λb xs q=>un.tups b xs (B3.tups b xs (B2.tups b xs q)),λb o u q=>un.jR b o u (B3.jR b o u (B2.jR b o u q)),λb ps q=>?_⟩
   .have nn:=nin b o q nf;have e2:=B2.keep b o q n nf nx;have n2:=B2.free b o q n nx;have e3:=B3.keep b o e2 n2 nn (Wy b o q);have n3:=B3.free b o e2 n2 (Wy b o q);exact jcY.keep b o (un.keep b o e3 n3 nn (by simp)) nn (nxs b o q)
   .have hh:=hin b inf;obtain⟨s1,e2⟩:=B2.slot b o q n inf nx;have n2:=B2.free b o q n nx;obtain⟨s3',e3⟩:=B3.slot b _ e2 n2 hh (Wy b o q);have n3:=B3.free b _ e2 n2 (Wy b o q);obtain⟨s4',e4⟩:=un.slot b _ e3 n3 hh (by simp);obtain⟨s5,e5⟩:=jcY.slot b _ e4 hh (nxs b o q);exact⟨s5,e5⟩
   .obtain⟨o1,e1⟩:=B2.there b o q nx;have n2:=B2.free b o q n nx;obtain⟨o3,e3⟩:=B3.there b o1 e1 (Wy b o q);exact un.free b o3 e3 (B3.free b o1 e1 n2 (Wy b o q)) (by simp)
   .obtain⟨o1,e1⟩:=B2.there b o q nx;obtain⟨o3,e3⟩:=B3.there b o1 e1 (Wy b o q);obtain⟨o4,e4⟩:=un.there b o3 e3 (by simp);by_cases hb:b∈frs (envOfC qual scope s.heap.objs.size f cd::outer)
    .obtain⟨sl,e5⟩:=jcY.slot b o4 e4 hb (nxs b o q);exact⟨_,e5⟩
    .exact⟨o4,jcY.keep b o4 e4 hb (nxs b o q)⟩
   .obtain⟨m1,e1⟩:=B2.jW b ps q;obtain⟨m2,e2⟩:=B3.jW b _ e1;obtain⟨m3,e3⟩:=un.jW b _ e2;exact⟨m1++m2++m3,by rw[e3,jcy,jcy,jcy]⟩
  .obtain⟨Ly,vs',NI,ts',x1,x2,x3,x4,x5,x6,x7,x8⟩:=f8;exact⟨Ly,vs',T8,NI,ts',x1,x2,x3,x4,x5,x6,x7,x8,(xs T8 (by simp)).1,(xs T8 (by simp)).2⟩
  .exact(xs a (by simp)).1
 cases use<;>exact post
end
section
variable {P:Program}{w:World}{K:Frag}{mg:Str->jc7}{base:Heap}{N0:jc2}{qual:Str}{scope:Scope}{su TM:Addr}{cd:Value}{A:Around}{outer:List Env}{s0:Shared}{sH:Hp}{E:XK}{sc:Scope}{cl:List (Str×Addr)}{own:Nat}{N:jc2}{fr:jc8}
theorem K3 {elt tg iter:Expr}{cs:jc5}{pos:Pos}{wi:TI}{g:TG}{tt:TT}{te:TE}(S:iE (jT P w TM K mg base N0 qual scope su cd A outer s0 sH E) sc cl own N fr)(hc:(jT P w TM K mg base N0 qual scope su cd A outer s0 sH E).calm=true)(hi:PI (jT P w TM K mg base N0 qual scope su cd A outer s0 sH E) tg iter wi)(hg:∀C s H fp xx,PG (pF (jT P w TM K mg base N0 qual scope su cd A outer s0 sH E) sc N cl C s H fp xx) tg g)
  (ht:∀C s H fp xx,Nm (pF (jT P w TM K mg base N0 qual scope su cd A outer s0 sH E) sc N cl C s H fp xx) cs tt) (he:∀C s H fp xx,Passes (eZ P w TM) (pF (jT P w TM K mg base N0 qual scope su cd A outer s0 sH E) sc N cl C s H fp xx) E->PE (pF (jT P w TM K mg base N0 qual scope su cd A outer s0 sH E) sc N cl C s H fp xx) elt te) (hs:autoParam (∀x,foldedSetIterable iter (jT P w TM K mg base N0 qual scope su cd A outer s0 sH E).env x=pure x) jp) :
  PE (jT P w TM K mg base N0 qual scope su cd A outer s0 sH E) (.ListComp elt [⟨tg,iter,cs,0⟩] sc pos) (Ao own fr wi g tt te):=by
 intro vy s U H Q I h;rw[eval_ListComp];refine wpAny_comprehension_free (use:=none) rfl hs S.clos S.kind S.names (bu (hi vy s U H _ I h) λv s1 h1=>bu h1 λitv s2 h2=>?_);obtain⟨it,fp,tn,J,H2,e,I2,T,st2,f2,W,w0,walk⟩:=h2;subst e;refine vA (RR:=λacc C=>compPost (model (jT P w TM K mg base N0 qual scope su cd A outer s0 sH E).prog (jT P w TM K mg base N0 qual scope su cd A outer s0 sH E).w) (jT P w TM K mg base N0 qual scope su cd A outer s0 sH E).A (jT P w TM K mg base N0 qual scope su cd A outer s0 sH E).xe none (EP (jT P w TM K mg base N0 qual scope su cd A outer s0 sH E) vy U Q) acc C) S hc I2 T st2 f2 (λD C=>hg C _ _ fp _) (λD C=>ht C _ _ fp _) (λD C hC=>he C _ _ fp _ (Wf I2 f2 hC)) w0 walk ?_;intro D C H' ys s' m hn hD fC I' rr;obtain⟨f0,f1,f2',f3,f4,f5⟩:=fC;exact⟨m,hn,λh' hs'=>⟨.ref D,_,Inv.turned (t':=s'.toks) I' (λb o hb e=>hs'.extBut b o hb e) f0 f1 f3 f4 f5,M,rr D hD⟩⟩
end
end L2
namespace L3
open PySem L2 Hw PyProof.Rows
section
variable {P:Program}{w:World}{K:Frag}{mg:Str->jc7}{base:Heap}{N0:jc2}{qual:Str}{scope:Scope}{su TM:Addr}{cd:Value}{A:Around}{outer:List Env}{s0:Shared}{sH:Hp}{E:XK}{sc:Scope}{cl:List (Str×Addr)}{own:Nat}{N:jc2}{fr:jc8}
theorem OZ {elt tg iter:Expr}{cs:jc5}{pos:Pos}{wi:F5}{g:qJ}{tt:mQ}{te:bH}(S:iE (jT P w TM K mg base N0 qual scope su cd A outer s0 sH E) sc cl own N fr)(hc:(jT P w TM K mg base N0 qual scope su cd A outer s0 sH E).calm=true)(hi:QI (jT P w TM K mg base N0 qual scope su cd A outer s0 sH E) tg iter wi)
  (hg:∀C s H fp xx,QX (pF (jT P w TM K mg base N0 qual scope su cd A outer s0 sH E) sc N cl C s H fp xx) own tg g) (ht:∀C s H fp xx,QTs (pF (jT P w TM K mg base N0 qual scope su cd A outer s0 sH E) sc N cl C s H fp xx) cs tt)
  (he:∀C s H fp xx,Passes (eZ P w TM) (pF (jT P w TM K mg base N0 qual scope su cd A outer s0 sH E) sc N cl C s H fp xx) E->QE (pF (jT P w TM K mg base N0 qual scope su cd A outer s0 sH E) sc N cl C s H fp xx) elt te) (hs:autoParam (∀x,foldedSetIterable iter (jT P w TM K mg base N0 qual scope su cd A outer s0 sH E).env x=pure x) jp) :
  QE (jT P w TM K mg base N0 qual scope su cd A outer s0 sH E) (.ListComp elt [⟨tg,iter,cs,0⟩] sc pos) (Cw own fr wi g tt te):=bF (K3 (g:=WN K own g) (tt:=NL K tt) (te:=li K te) S hc hi hg ht he hs) xw
end
def Th:jc2->Option Bool
 |[]=>some true
 |t::r=>wC (fQ (Txt.split t " ")) (Th r)
def Ht (ws:jc2):jc2:=Txt.split (Txt.join " " ws) ", "
def Yp (ws:jc2):Option Bool:=if ws=[] then some true else Th (Ht ws)
structure Yc (ws:List Str):Prop where
 len:ws.length<=60/\∀w∈ws,w.length<=100
 n:(Ht ws).length<=100
 p:∀t∈Ht ws,t.length<=7000/\(Txt.split t " ").length<=60/\∀w∈Txt.split t " ",w.length<=100
theorem Et:∀{l:jc2},(∀w∈l,w.length<=100)->(l.map (·.length)).sum<=100*l.length
 |[],_=>jaj _
 |w::r,h=>by
  have:=Et (l:=r) λw hw=>h w (jah _ hw);have:=h w jai;rw[jal,List.sum_cons,jaA];omega
def Sh:iX:=λds S k x=>∃(ws:jc2)(a:Int)(b:Bool),ds=[.lst (ws.map T.str),.int a]/\a.natAbs<=1000000/\Yc ws/\Yp ws=some b/\(b=true->∀l:List T,k (.lst l) S)/\(b=false->x a)
def NW (r:jc2):Option Bool:=bif decide (0<r.length)&&isNm (r.getD 0 "") then LK (Yp (r.drop 1)) else some false
def Ac (ws:jc2):jc2:=if("=":Str)∈ws.drop 1 then ir "=" (ws.drop 1) else ws.drop 1
def NX (ws:jc2):Option Bool:=if("=":Str)∈ws.drop 1 then(bif decide (0<(gj "=" (ws.drop 1)).length)&&(gj "=" (ws.drop 1)).all isNm then NW (ir "=" (ws.drop 1)) else some false) else NW (ws.drop 1)
def Sk:iX:=λds S k x=>∃(ws:jc2)(a:Int)(b:Bool),ds=[.lst (ws.map T.str),.int a]/\a.natAbs<=1000000/\ws.length<=60/\(∀w∈ws,w.length<=100)/\Yc ((Ac ws).drop 1)/\NX ws=some b/\(b=true->∀t:T,k (.t t) S)/\(b=false->x a)
inductive Fc where
 |hp | an | nd | gv | ho | fa | el | en | iF | wh | st | ot
deriving DecidableEq
noncomputable def Ys:List (Str×Fc):=[("helper",.hp),("answers",.an),("needs",.nd),("gives",.gv),("holds",.ho),("falls",.fa),("else",.el),("end",.en),("if",.iF),("while",.wh),("let",.st),("put",.st),("row",.st),("call",.st),("claim",.st)]
def jS (w:Str):Fc:=(Ys.lookup w).getD .ot
def heF (ws:jc2):Bool:=decide (1<ws.length)&&(isNm (ws.getD 1 "")&&(ws.drop 2).all dW)
def anF (ws:jc2):Bool:=decide (1<ws.length)&&(ws.drop 1).all isNm
def iK (ws:jc2):Option Bool:=match jS (ws.headD "") with
 |.hp=>some (heF ws)
 |.an=>some (anF ws)
 |.nd=>vB (ws.drop 1)
 |.gv=>vB (ws.drop 1)
 |.ho=>vB (ws.drop 1)
 |.iF=>vB (ws.drop 1)
 |.wh=>vB (ws.drop 1)
 |.fa=>fQ (ws.drop 1)
 |.el=>some (decide (ws=[("else":Str)]))
 |.en=>some (decide (ws=[("end":Str)]))
 |.ot=>some false
 |.st=>if ws.headD ""="let" then NK ws else if ws.headD ""="put" then KA ws else if ws.headD ""="row" then NJ ws else if ws.headD ""="claim" then LK (vB (ws.drop 1)) else NX ws
structure Nl (ws:List Str):Prop where
 ne:ws≠[]
 len:ws.length<=60
 wd:∀w∈ws,w.length<=100
 tk:∀ts,dP (ws.drop 1)=some ts->ts.length<=50
 gv:ws.headD ""="call"->Yc ((Ac ws).drop 1)
abbrev Rc:=Fc×Bool
structure RwC (c:Rc)(ws:List Str):Prop where
 fc:jS (ws.headD "")=c.1
 ok:iK ws=some c.2
 bd:Nl ws
def zZ (k:Fc):List Rc->Rs
 |[]=>.ok 0
 |(c,b)::r=>if c=k then(bif b then(zZ k r).sh 1 else .er 0) else .ok 0
noncomputable def zz:List Rc->Rs
 |(.en,true)::_=>.ok 1
 |_=>.er 0
def TV (F:List Rc->Rs)(n:Nat)(r:List Rc):Rs:=match F r with
 |.ok m=>(zz (r.drop m)).sh (n+m)
 |.er m=>.er (n+m)
 |.uk=>.uk
def chC (F:List Rc->Rs)(l:List Rc):Rs:=match F l with
 |.ok n=>(match l.drop n with
  |(.el,b)::r=>bif b then(match F r with
    |.ok m=>if m=0 then .er (n+1) else(zz (r.drop m)).sh (n+1+m)
    |.er m=>.er (n+1+m)
    |.uk=>.uk) else .er n
  |r=>(zz r).sh n)
 |.er n=>.er n
 |.uk=>.uk
def ZL (F:List Rc->Rs)(l:List Rc):Rs:=match zZ .ho l with
 |.ok n=>(match l.drop n with
  |(.fa,b)::r=>bif b then TV F (n+1) r else .er n
  |r=>TV F n r)
 |.er n=>.er n
 |.uk=>.uk
def stC (F:List Rc->Rs):List Rc->Rs
 |[]=>.er 0
 |(.st,b)::_=>bif b then .ok 1 else .er 0
 |(.iF,b)::r=>bif b then(chC F r).sh 1 else .er 0
 |(.wh,b)::r=>bif b then(ZL F r).sh 1 else .er 0
 |(.en,_)::_=>.uk
 |(.el,_)::_=>.uk
 |_=>.er 0
def Yk:List Rc->Bool
 |(.en,_)::_=>true
 |(.el,_)::_=>true
 |_=>false
noncomputable def oA (F:List Rc->Rs):Nat->List Rc->Rs
 |0,_=>.uk
 |f+1,l=>bif Yk l then .ok 0 else match stC F l with
  |.ok n=>(oA F f (l.drop n)).sh n
  |.er n=>.er n
  |.uk=>.uk
def NR (G:List Rc->Rs)(n:Nat)(r:List Rc):Rs:=match zZ .nd r with
 |.ok m=>(match zZ .gv (r.drop m) with
  |.ok p=>TV G (n+m+p) (r.drop (m+p))
  |.er p=>.er (n+m+p)
  |.uk=>.uk)
 |.er m=>.er (n+m)
 |.uk=>.uk
def HM (G:List Rc->Rs):List Rc->Rs
 |(.hp,true)::(.an,b)::r=>bif b then NR G 2 r else .er 1
 |(.hp,true)::r=>NR G 1 r
 |_=>.er 0
noncomputable def SA (G:List Rc->Rs)(be:Bool):Nat->List Rc->Rs
 |0,_=>.uk
 |f+1,l=>match HM G l with
  |.ok n=>if(l.drop n).isEmpty=true then(if be=true then .ok n else .er n) else(SA G be f (l.drop n)).sh n
  |.er n=>.er n
  |.uk=>.uk
def C0:List Rc->Rs:=λ_=>.uk
def C1:List Rc->Rs:=oA C0 40
def C2:List Rc->Rs:=oA C1 40
def C3:List Rc->Rs:=oA C2 40
def Pe (be:Bool)(l:List Rc):Rs:=SA C3 be 4 l
end L3
namespace L2
open PySem PySem.Spec PyProof.Rows Hw
section
variable {X:Cx}
def a3K (K:Frag):R2:=λx y H Q=>∃a b zs u,x=.ref a/\y=.ref b/\iG K H a (zs.map V.str)/\iG K H b [.str u]/\Q (.bl (decide (zs=[u]))) H
def Wm (hu:X.A.units+1<cLine):gP X (compareOp .Eq) (a3K X.K):=by
 intro vy s U H x y v u Q I rx ry h;obtain⟨a,b,zs,z2,e1,e2,ha,hb,q⟩:=h;by_cases h1:∃z,zs=[z]
 .obtain⟨z,rfl⟩:=h1;refine Wo hu vy s U H x y v u Q I rx ry ⟨a,b,z,z2,e1,e2,ha,hb,?_⟩;have:decide ([z]=[z2])=decide (z=z2):=by rw[ja1];simp
  rw[<- this];exact q
 .subst e1 e2;cases rx;cases ry;obtain⟨us,r1,p1,_⟩:=I.list ha;obtain⟨vs,r2,p2,_⟩:=I.list hb;have l1:zs.length=us.length:=by have:=r1.length;rwa[jad] at this
  have l2:vs.length=1:=by have:=r2.length;simpa using this.symm
  have hne:zs.length≠1:=λz=>h1 (by
   match zs,z with
   |[z],_=>exact⟨z,M⟩)
  refine SeqAt.eq_list_lengthsAt p1.isList p2.isList (by simp[<- l1,l2];exact hne) (by omega) ?_;rw[jaf (λz=>h1 ⟨_,z⟩)] at q;exact⟨.bl false,H,I,M,q⟩
end
end L2
namespace L3
open PySem L2 Hw
def eqW:pM:=λa b S k=>∃(xs:jc2)(y:Str),lq S a=some (xs.map T.str)/\lq S b=some [T.str y]/\k (.bl (decide (xs=[y]))) S
def a0A {X:Cx}(hu:X.A.units+1+40<cLine):sG X (compareOp .Eq) eqW:=by
 refine ez (Wm (by omega)) ?_;rintro x y H Q ⟨Y,S,a,b,k,R,ra,rb,⟨z,u,h1,h2,q⟩,hk⟩;obtain⟨p1,vs,e1,e2,e3⟩:=b4 R ra h1;obtain⟨p2,ws,f1,f2,f3⟩:=b4 R rb h2;have e3:=aX.strs (ns:=z) e3;have f3:=aX.strs (ns:=[u]) f3;subst e3 f3;exact⟨p1,p2,z,u,e1,f1,.of e2,.of f2,fin R hk aM q⟩
abbrev Cs:=List (Rc×jc2)
abbrev dF (ks:Cs):List Rc:=ks.map (·.1)
structure jD (A:Ad)(S:aO)(n:Nat)(R:List (List Str))(i:Nat)(ks:Cs):Prop where
 at_:S[n]?=some (dG A R i)
 dr:R.drop i=ks.map (·.2)
 ok:∀p∈ks,RwC p.1 p.2
 len:i+ks.length=R.length
 max:R.length<=100
section
variable (A:Ad)
def wY:iX:=λds S k x=>∃n R i w,ds=[.ob n,.str w]/\S[n]?=some (dG A R i)/\i<=1000/\(R[i]?=some [w]->k .ck (S.set n (dG A R (i+1))))/\(R[i]?≠some [w]->x (i:Int))
end
def LW {w:Str}{k:Fc}:∀{l:List (Str×Fc)},l.lookup w=some k->(w,k)∈l:=by
 intro l
 induction l with
 |nil=>intro h;cases h
 |cons p r ih=>
  intro h;obtain⟨a,b⟩:=p;rw[jbF] at h;cases q:(w==a) with
  |true=>
   rw[q] at h;have e:=eq_of_beq q;cases h;rw[e];exact jai
  |false=>rw[q] at h;exact jah _ (ih h)
def Yq:Fc->Str
 |.hp=>"helper" |.an=>"answers" |.nd=>"needs" |.gv=>"gives" |.iF=>"if" |.wh=>"while" |.ho=>"holds" |.fa=>"falls" |.el=>"else" |.en=>"end" |_=>""
def t6 {w:Str}{k:Fc}(hk:k≠.st/\k≠.ot):jS w=k↔w=Yq k:=by
 constructor
 .intro h;unfold jS at h;cases q:Ys.lookup w with
  |none=>rw[q] at h;exact absurd h.symm hk.2
  |some k'=>
   rw[q] at h;have h:k'=k:=h;subst h;have m:=LW q;have all:∀p∈Ys,p.2=.st\/p.1=Yq p.2:=by symm
   rcases all _ m with z | z
   .exact absurd z hk.1
   .exact z
 .rintro rfl;cases k<;>first | exact absurd rfl hk.1 | exact absurd rfl hk.2 | symm
section
variable {A:Ad}{S:aO}{n:Nat}{R:List (jc2)}{i:Nat}{ks:Cs}
theorem jD.go (h:jD A S n R i ks){m:Nat}(hm:m<=ks.length){S':aO}(hS:S'[n]?=some (dG A R (i+m))):jD A S' n R (i+m) (ks.drop m):=
 ⟨hS,by rw[<- ja2,h.dr,jan],λp hp=>h.ok p (jaR hp),by rw[jay];have:=h.len;omega,h.max⟩
def jD.hd1 {c:Rc}{ws:jc2}(h:jD A S n R i ((c,ws)::ks)):R[i]?=some ws/\RwC c ws/\R.getD i []=ws:=by
 have e:R[i]?=some ws:=by rw[<- jcG,h.dr];rfl
 exact⟨e,h.ok _ jai,by rw[ja5,e];rfl⟩
theorem jD.hd0 (h:jD A S n R i []):R[i]?=none/\R.length<=i/\R.getD i []=[]:=by
 have l:=h.len;have e:R[i]?=none:=jbZ (by simp at l;omega);exact⟨e,by simp at l;omega,by rw[ja5,e];rfl⟩
def jD.ne (h:jD A S n R i ks)(hl:i<R.length):R.getD i []≠[]:=by
 cases ks with
 |nil=>have:=h.hd0.2.1;omega
 |cons p r=>
  obtain⟨c,ws⟩:=p;obtain⟨_,h2,h3⟩:=h.hd1;rw[h3];exact h2.bd.ne
def jD.cm (h:jD A S n R i ks){k:Fc}(hk:k≠.st/\k≠.ot):(R.getD i []).headD ""=Yq k↔(dF ks).head?.map (·.1)=some k:=by
 cases ks with
 |nil=>
  rw[h.hd0.2.2];constructor
  .intro z;exact absurd z (by cases k<;>first | exact absurd rfl hk.1 | exact absurd rfl hk.2 | symm)
  .intro z;cases z
 |cons p r=>
  obtain⟨c,ws⟩:=p;obtain⟨_,h2,h3⟩:=h.hd1;rw[h3,<- t6 hk,h2.fc];constructor
  .rintro rfl;rfl
  .intro z;exact jaw z
end
def anC:List Rc->Rs
 |(.an,b)::_=>bif b then .ok 1 else .er 0
 |_=>.ok 0
section
variable (A:Ad)
def Sn:iX:=λds S k x=>∃n R i ks,ds=[.ob n]/\jD A S n R i ks/\Res A n R i S (λ_ S'=>∀l:List T,l.length<=100->k (.lst l) S') x (anC (dF ks))
def Jz:iX:=λds S k x=>∃n R i ks q,ds=[.ob n,.str (Yq q)]/\q∈[Fc.nd,.gv,.ho]/\jD A S n R i ks/\Res A n R i S (λ_ S'=>∀l:List (Int×xN),l.length<=100->k (.lst (l.map (atT A))) S') x (zZ q (dF ks))
def mX (F:List Rc->Rs):iX:=λds S k x=>∃n R i ks,ds=[.ob n]/\jD A S n R i ks/\Res A n R i S (λm S'=>∀l:List T,(l=[]↔m=0)->l.length<=100->k (.lst l) S') x (F (dF ks))
def R6 (F:List Rc->Rs):iX:=λds S k x=>∃n R i ks,ds=[.ob n]/\jD A S n R i ks/\Res A n R i S (λ_ S'=>∀t:T,k (.t t) S') x (stC F (dF ks))
def Sj (F:List Rc->Rs):iX:=λds S k x=>∃(n:Nat)(R:List (jc2)) (i:Nat) (ks:Cs) (c:T) (a:Int),ds=[.ob n,.t c,.int a]/\jD A S n R i ks/\Res A n R i S (λ_ S'=>∀t:T,k (.t t) S') x (chC F (dF ks))
def R9 (F:List Rc->Rs):iX:=λds S k x=>∃(n:Nat)(R:List (jc2)) (i:Nat) (ks:Cs) (c:T) (a:Int),ds=[.ob n,.t c,.int a]/\jD A S n R i ks/\Res A n R i S (λ_ S'=>∀t:T,k (.t t) S') x (ZL F (dF ks))
def Sg (G:List Rc->Rs):iX:=λds S k x=>∃n R i ks,ds=[.ob n]/\jD A S n R i ks/\Res A n R i S (λ_ S'=>∀t:T,k (.t t) S') x (HM G (dF ks))
end
def p8 {k:Fc}:∀{l:List Rc}{n:Nat},zZ k l=.ok n->n<=l.length:=by
 intro l
 induction l with
 |nil=>intro n h;cases h;exact jaj _
 |cons p r ih=>
  obtain⟨c,b⟩:=p;intro n h;unfold zZ at h;split at h
  .cases b with
   |true=>
    obtain⟨j,e,rfl⟩:=uz h;have:=ih e;simp;omega
   |false=>cases h
  .cases h;exact jaT _
def zy {r:List Rc}{n:Nat}(h:zz r=.ok n):n=1/\1<=r.length:=by
 unfold zz at h;split at h
 .cases h;exact⟨M,by simp⟩
 .cases h
def DH {F:List Rc->Rs}{b n:Nat}{r:List Rc}(h:TV F b r=.ok n):n<=b+r.length/\b+1<=n:=by
 unfold TV at h;split at h
 .obtain⟨j,e,rfl⟩:=uz h;have:=zy e;rw[jay] at this;omega
 .cases h
 .cases h
def XH {F:List Rc->Rs}{l:List Rc}{n:Nat}(h:chC F l=.ok n):n<=l.length:=by
 unfold chC at h;split at h
 .split at h
  .rename_i b r e;have:=Bo e;cases b with
   |false=>cases h
   |true=>
    dsimp only[cond] at h;split at h
    .split at h
     .cases h
     .obtain⟨j,e,rfl⟩:=uz h;have:=zy e;rw[jay] at this;omega
    .cases h
    .cases h
  .obtain⟨j,e,rfl⟩:=uz h;have:=zy e;rw[jay] at this;omega
 .cases h
 .cases h
def Vm {F:List Rc->Rs}{l:List Rc}{n:Nat}(h:ZL F l=.ok n):n<=l.length:=by
 unfold ZL at h;split at h
 .rename_i m e0;have:=p8 e0;split at h
  .rename_i b r e;have:=Bo e;cases b with
   |false=>cases h
   |true=>have:=(DH h).1;omega
  .have:=(DH h).1;rw[jay] at this;omega
 .cases h
 .cases h
def Jv {F:List Rc->Rs}{l:List Rc}{n:Nat}(h:stC F l=.ok n):n<=l.length/\1<=n:=by
 unfold stC at h;split at h
 .cases h
 .rename_i b _;cases b with
  |false=>cases h
  |true=>cases h;simp
 .rename_i b _;cases b with
  |false=>cases h
  |true=>obtain⟨j,e,rfl⟩:=uz h;have:=XH e;simp;omega
 .rename_i b _;cases b with
  |false=>cases h
  |true=>obtain⟨j,e,rfl⟩:=uz h;have:=Vm e;simp;omega
 .cases h
 .cases h
 .cases h
def Fw {A:Ad}{S:aO}{n:Nat}{R:List (jc2)}{i:Nat}{ks:Cs}(h:jD A S n R i ks):(R.getD i []).headD ""∈[("end":Str),"else"]↔Yk (dF ks)=true:=by
 have h1:=h.cm (k:=.en) (by decide);have h2:=h.cm (k:=.el) (by decide);rw[jak,jaE];cases hk:dF ks with
 |nil=>
  rw[hk] at h1 h2;constructor
  .rintro(e | e)
   .cases h1.mp e
   .cases h2.mp e
  .intro e;cases e
 |cons a r=>
  obtain⟨c,b⟩:=a;rw[hk] at h1 h2;constructor
  .rintro(e | e)
   .have z:c=.en:=jaw (h1.mp e);subst z;rfl
   .have z:c=.el:=jaw (h2.mp e);subst z;rfl
  .intro e;cases c<;>first | (cases e;done) | exact .inl (h1.mpr M) | exact .inr (h2.mpr M)
theorem Js (F:List Rc->Rs)(f:Nat)(l:List Rc):oA F (f+1) l=if Yk l=true then .ok 0 else match stC F l with
  |.ok n=>(oA F f (l.drop n)).sh n
  |.er n=>.er n
  |.uk=>.uk:=by
 show cond (Yk l) _ _=_;cases Yk l<;>rfl
def cG (ks:Cs)(j:Nat):dF (ks.drop j)=(dF ks).drop j:=jan ..
def Tq {w:Str}(h:jS w=.st):w∈[("let":Str),"put","row","call","claim"]:=by
 unfold jS at h;cases q:Ys.lookup w with
 |none=>rw[q] at h;cases h
 |some k'=>
  rw[q] at h;have h:k'=.st:=h;subst h;have all:∀p∈Ys,p.2=.st->p.1∈[("let":Str),"put","row","call","claim"]:=by symm
  exact all _ (LW q) rfl
def uM {x:Str}{r:jc2}(h:jS x=.st):iK (x::r)=if x="let" then NK (x::r) else if x="put" then KA (x::r) else if x="row" then NJ (x::r) else if x="claim" then LK (vB r) else NX (x::r):=by
 unfold iK;rw[show jS ((x::r).headD "")=.st from h];rfl
def QLe (Q:List Rc->Rs):Prop:=∀l n,Q l=.ok n->n<=l.length
def oz {F:List Rc->Rs}{f:Nat}:QLe (oA F f):=by
 induction f with
 |zero=>intro l n h;cases h
 |succ f ih=>
  intro l n h;rw[Js] at h;split at h
  .cases h;exact jaT _
  .cases e:stC F l with
   |ok m=>
    rw[e] at h;obtain⟨j,e2,rfl⟩:=uz h;have:=ih _ _ e2;rw[jay] at this;have:=Jv e;omega
   |er m=>rw[e] at h;cases h
   |uk=>rw[e] at h;cases h
def jD.one {A:Ad}{S:aO}{n i:Nat}{R:List (jc2)}{ks:Cs}(h:jD A S n R i ks){q:Fc}(hq:q=.en\/q=.el):R[i]?=some [Yq q]↔(dF ks).head?=some (q,true):=by
 cases ks with
 |nil=>
  rw[h.hd0.1];exact⟨(λz=>nomatch z),(λz=>nomatch z)⟩
 |cons p r=>
  obtain⟨⟨c,b⟩,ws⟩:=p;obtain⟨q1,q2,_⟩:=h.hd1;rw[q1];obtain⟨fc,ok,_⟩:=q2;constructor
  .intro z;cases z;rcases hq with rfl | rfl
   .have e1:c=.en:=by rw[<- (show jS _=c from fc)];symm
    have e2:b=true:=jaw (ok.symm.trans (by symm));rw[e1,e2];rfl
   .have e1:c=.el:=by rw[<- (show jS _=c from fc)];symm
    have e2:b=true:=jaw (ok.symm.trans (by symm));rw[e1,e2];rfl
  .intro z;have z:(c,b)=(q,true):=jaw z;cases z;unfold iK at ok;rw[show jS (ws.headD "")=q from fc] at ok;rcases hq with rfl | rfl
   .rw[ja0 (jaw ok)];rfl
   .rw[ja0 (jaw ok)];rfl
def QY {l:List Rc}:zz l=if l.head?=some (.en,true) then .ok 1 else .er 0:=by
 cases l with
 |nil=>rfl
 |cons a r=>
  obtain⟨c,b⟩:=a;cases c<;>cases b<;>rfl
def o6 {A:Ad}{S:aO}{n i:Nat}{R:List (jc2)}{ks:Cs}{k:KD}{x:Int->Prop}{kk:Nat->aO->Prop}(src:jD A S n R i ks)(h:Res A n R i S kk x (zz (dF ks)))(hk:∀S',kk 1 S'->k .ck S'):wY A [.ob n,.str "end"] S k x:=by
 have il:i<=1000:=by have:=src.len;have:=src.max;omega
 rw[QY] at h;refine⟨n,R,i,_,M,src.at_,il,λe=>?_,λe=>?_⟩
 .rw[jab ((src.one (q:=.en) (.inl M)).mp e)] at h;exact hk _ h
 .rw[jaa λz=>e ((src.one (q:=.en) (.inl M)).mpr z)] at h;exact h
def jD.tl {A:Ad}{S:aO}{n i:Nat}{R:List (jc2)}{ks:Cs}{a:Rc}{r:List Rc}(h:jD A S n R i ks)(e:dF ks=a::r):∃w ks',ks=(a,w)::ks'/\dF ks'=r/\R[i]?=some w/\RwC a w/\∀S',S'[n]?=some (dG A R (i+1))->jD A S' n R (i+1) ks':=by
 cases ks with
 |nil=>cases e
 |cons p ks=>
  obtain⟨q1,q3,q4⟩:=h.hd1;obtain⟨b,w⟩:=p;cases e;exact⟨w,ks,M,M,q1,q3,λS' hS=>h.go (m:=1) (by simp) hS⟩
noncomputable def sub (n l:jc8):jc8:=(l.map λc=>if c=64 then n else[c]).flatten
def sg (n u:Str):Str:=⟨(sub (cp n) (cp u)).toArray⟩
def bT (n u:Str):cp (sg n u)=sub (cp n) (cp u):=rfl
def gQ (n a b:jc8):sub n (a++b)=sub n a++sub n b:=by unfold sub;rw[jaO,List.flatten_append]
def fH (n:jc8)(c:Nat)(l:jc8):sub n (c::l)=(if c=64 then n else[c])++sub n l:=rfl
def uq {n l:jc8}(h:64∉l):sub n l=l:=by
 induction l with
 |nil=>rfl
 |cons c r ih=>
  rw[fH,jaa λz=>h (by rw[z];exact jai),ih λz=>h (jah _ z)];rfl
def zd {n l:jc8}{c:Nat}(h:c∉n):c∈sub n l↔(c∈l/\c≠64):=by
 induction l with
 |nil=>exact⟨(λz=>by cases z),(λz=>by cases z.1)⟩
 |cons d r ih=>
  rw[fH,jaU,ih,jak];by_cases e:d=64
  .rw[jab e];constructor
   .rintro(z | z)
    .exact absurd z h
    .exact⟨.inr z.1,z.2⟩
   .rintro⟨z | z,y⟩
    .exact absurd (z.trans e) y
    .exact .inr ⟨z,y⟩
  .rw[jaa e,jaE];constructor
   .rintro(z | z)
    .exact⟨.inl z,λy=>e (z ▸ y)⟩
    .exact⟨.inr z.1,z.2⟩
   .rintro⟨z | z,y⟩
    .exact .inl z
    .exact .inr ⟨z,y⟩
def Ew {n l:jc8}{c:Nat}(h:c∈l)(hc:c≠64):c∈sub n l:=by
 induction l with
 |nil=>cases h
 |cons d r ih=>
  rw[fH,jaU];rcases jak.mp h with rfl | h
  .rw[jaa hc];exact .inl jai
  .exact .inr (ih h)
def Jq {n l:jc8}{c:Nat}(h:64∈l)(hc:c∈n):c∈sub n l:=by
 induction l with
 |nil=>cases h
 |cons d r ih=>
  rw[fH,jaU];rcases jak.mp h with rfl | h
  .rw[jab rfl];exact .inl hc
  .exact .inr (ih h)
noncomputable def jU:jc8->Bool
 |[]=>true
 |a::r=>(match r with
  |[]=>true
  |b::_=>!((decide (a=64)&&(decide (b=64)||d8 b))||(decide (b=64)&&d8 a)))&&jU r
def DJ {a:Nat}{r:jc8}(h:jU (a::r)=true):jU r=true:=by unfold jU at h;exact(jar _ _ ▸ h).2
def pK {a b:jc8}(h:jU (a++b)=true):jU a=true/\jU b=true:=by
 induction a with
 |nil=>exact⟨M,h⟩
 |cons x r ih=>
  obtain⟨h1,h2⟩:=ih (DJ h);refine⟨?_,h2⟩;unfold jU;rw[h1,Bool.and_true];cases r with
  |nil=>rfl
  |cons y r=>unfold jU at h;exact(jar _ _ ▸ h).1
def xM {l:jc8}(h:jU l=true):64∉l\/l=[64]\/∃c∈l,c≠64/\d8 c=false:=by
 induction l with
 |nil=>exact .inl (by simp)
 |cons a r ih=>
  by_cases o:a≠64/\d8 a=false
  .exact .inr (.inr ⟨a,jai,o⟩)
  cases r with
  |nil=>
   by_cases e:a=64
   .exact .inr (.inl (by rw[e]))
   .exact .inl (by simp;exact λz=>e z.symm)
  |cons b r=>
   have h2:=DJ h;unfold jU at h;have h1:=(jar _ _ ▸ h).1;dsimp only at h1;by_cases e:a=64
   .subst e;simp at h1;exact .inr (.inr ⟨b,by simp,h1.1.1,by simpa using h1.1.2⟩)
   .have ha:d8 a=true:=by cases q:d8 a with | true=>rfl | false=>exact absurd ⟨e,q⟩ o
    rw[ha] at h1;have hb:b≠64:=by rintro rfl;simp at h1
    rcases ih h2 with z | z | ⟨c,m,z⟩
    .exact .inl (by rw[jak];rintro(y | y);exact e y.symm;exact z y)
    .cases z;exact absurd rfl hb
    .exact .inr (.inr ⟨c,jah _ m,z⟩)
structure cj (n:Str):Prop where
 Yg:∀c∈cp n,d8 c=true
 ne:cp n≠[]
 len:n.length<=8
 kp:n∉o5
 nm:isNm n=true
def LM {n:Str}(h:isNm n=true):cj n:=by
 have h0:=h;unfold isNm at h;rw[jar,jar,jar,jav,jbf,jaG,jaG,jb9] at h;exact⟨h.2,λz=>by have:=h.1.1.1;rw[aW,z] at this;simp at this,h.1.1.2,h.1.2,h0⟩
def cj.no {n:Str}(h:cj n){c:Nat}(hc:d8 c=false):c∉cp n:=λz=>by rw[h.Yg c z] at hc;cases hc
def cst (c:Str):Bool:=decide (c∈o5)||(cp c).all λx=>!d8 x&&!decide (x=64)
def L8:∀c∈o5,∀x∈cp c,d8 x=true:=by symm
section
variable {n u:Str}
def j4 (h:64∉cp u):sg n u=u:=bU (by rw[bT,uq h])
def JV (h:cp u=[64]):sg n u=n:=bU (by rw[bT,h];show(cp n++[])=_;rw[jaK])
def Tv {c:Str}(h:cst c=true):64∉cp c:=by
 unfold cst at h;rw[jbr,jaG,jav] at h;intro z;rcases h with h | h
 .have:=L8 c h 64 z;revert this;decide
 .have:=h 64 z;revert this;decide
def gw (hn:cj n)(ha:jU (cp u)=true){c:Str}(hc:cst c=true):sg n u=c↔u=c:=by
 by_cases h:64∈cp u
 .have ne:u≠c:=λz=>Tv hc (z ▸ h);refine⟨λz=>?_,λz=>absurd z ne⟩;exfalso;obtain⟨l,hl⟩:=List.exists_mem_of_ne_nil _ hn.ne;have m1:l∈cp c:=by rw[<- z,bT];exact Jq h hl
  have hc0:=hc;unfold cst at hc;rw[jbr,jaG,jav] at hc;rcases hc with hc | hc
  .rcases xM ha with q | q | ⟨d,m,d1,d2⟩
   .exact q h
   .rw[JV q] at z;exact hn.kp (z ▸ hc)
   .have:=L8 c hc d (by rw[<- z,bT];exact Ew m d1);rw[this] at d2;cases d2
  .have:=hc l m1;rw[hn.Yg l hl] at this;cases this
 .rw[j4 h]
def mZ (hn:cj n)(ha:jU (cp u)=true){c:Str}(hc:cst c=true):decide (sg n u=c)=decide (u=c):=ja1.mpr (gw hn ha hc)
def LN (u:Str):Bool:=isNm u||decide (cp u=[64])
def jZ (hn:cj n)(ha:jU (cp u)=true):isNm (sg n u)=LN u:=by
 unfold LN;by_cases h:64∈cp u
 .have e:isNm u=false:=by
   cases q:isNm u with
   |false=>rfl
   |true=>exact absurd h ((LM q).no (by decide))
  rw[e,jco];rcases xM ha with q | q | ⟨d,m,d1,d2⟩
  .exact absurd h q
  .rw[JV q,hn.nm,jag q]
  .rw[jaf (λz=>by rw[z] at m;exact d1 (jaE.mp m))];cases q:isNm (sg n u) with
   |false=>rfl
   |true=>exact absurd (show d∈cp (sg n u) by rw[bT];exact Ew m d1) ((LM q).no d2)
 .rw[j4 h,jaf (λz=>h (by rw[z];exact jai)),Bool.or_false]
def Ar (hn:cj n){l:jc8}{d:Nat}(h1:d≠64)(h2:d8 d=false):(sub (cp n) l).head?=some d↔l.head?=some d:=by
 cases l with
 |nil=>exact Iff.rfl
 |cons c r=>
  rw[fH];by_cases e:c=64
  .rw[jab e,e];constructor
   .intro z;have ne:=hn.ne;cases q:cp n with
    |nil=>exact absurd q ne
    |cons y s=>
     rw[q] at z;have z:y=d:=jaw z;have:=hn.Yg y (by rw[q];exact jai);rw[z,h2] at this;cases this
   .intro z;exact absurd (jaw z).symm h1
  .rw[jaa e];rfl
def uw (x:Str)(c:Nat):Txt.startswith x ⟨#[c]⟩=decide ((cp x).head?=some c):=by
 by_cases h:(cp x).head?=some c
 .rw[jag h];obtain⟨h1,h2⟩:=jz.mpr (show(cp x)[0]?=some c by rw[<- List.head?_eq_getElem?];exact h);show(decide (0+_<=_)&&Builtin.Str.subAt _ _ 0)=true;rw[jar];exact⟨jag h1,h2⟩
 .rw[jaf h,Jt h]
def So (hn:cj n){d:Nat}(h1:d≠64)(h2:d8 d=false):Txt.startswith (sg n u) ⟨#[d]⟩=Txt.startswith u ⟨#[d]⟩:=by
 rw[uw,uw,ja1,bT];exact Ar hn h1 h2
def JW {d:Nat}(h:(cp u).head?=some d)(hd:d≠64):Txt.slice (sg n u) (some 1) none=sg n (Txt.slice u (some 1) none):=by
 cases q:cp u with
 |nil=>rw[q] at h;cases h
 |cons y r=>
  rw[q] at h;have h:y=d:=jaw h;subst h;refine bU ?_;rw[Du (by rw[aW,bT,q,fH,jaa hd];simp),bT,bT,Du (by rw[aW,q];simp),q,fH,jaa hd];rfl
def F3 (h:jU (cp u)=true):jU (cp (Txt.slice u (some 1) none))=true:=by
 cases q:cp u with
 |nil=>
  have:(Txt.slice u (some 1) none).length<=u.length:=U5 ..;rw[aW,aW,q] at this;rw[List.eq_nil_of_length_eq_zero (Nat.le_zero.mp this)];rfl
 |cons y r=>
  rw[Du (by rw[aW,q];simp),q];rw[q] at h;exact DJ h
def Ek (u:Str):Bool:=LN u||(Txt.startswith u "#"&&LN (Txt.slice u (some 1) none))
def MA:(⟨#[35]⟩:Str)="#":=by symm
def LR:(⟨#[45]⟩:Str)="-":=by symm
def JU (hn:cj n)(ha:jU (cp u)=true):dW (sg n u)=Ek u:=by
 unfold dW Ek;rw[jZ hn ha,<- MA,So hn (by decide) (by decide)];cases q:Txt.startswith u ⟨#[35]⟩ with
 |false=>rfl
 |true=>
  rw[uw,jaG] at q;rw[JW q (by decide),jZ hn (F3 ha)]
end
section
variable {n u:Str}
def JX (a b:Str):sg n (a++b)=sg n a++sg n b:=bU (by rw[jK,bT,bT,bT,jK,gQ])
def Va {c:Nat}(h:c≠64):sg n ⟨#[c]⟩=⟨#[c]⟩:=j4 (by intro z;rcases jaE.mp z with z;exact h z.symm)
def qF (c:Nat)(u:Str):c∉cp u\/∃a b:Str,u=a++⟨#[c]⟩++b/\c∉cp a:=by
 by_cases h:c∈cp u
 .obtain⟨s,t,e,hs⟩:=List.eq_append_cons_of_mem h;refine .inr ⟨⟨s.toArray⟩,⟨t.toArray⟩,bU ?_,hs⟩;rw[jK,jK,e,jaC];rfl
 .exact .inl h
def Xs:sg n Str.empty=Str.empty:=j4 (by intro z;cases z)
def Ox (hn:cj n):Txt.partition (sg n u) "*"=(sg n (Txt.partition u "*").1,(Txt.partition u "*").2.1,sg n (Txt.partition u "*").2.2):=by
 rcases qF 42 u with h | ⟨a,b,rfl,h⟩
 .rw[gy h,gy (x:=sg n u) (λz=>h ((zd (hn.no (by decide))).mp (bT n u ▸ z)).1),Xs]
 .rw[q8,iO h,JX,JX,<- q8,Va (by decide),q8,iO λz=>h ((zd (hn.no (by decide))).mp (bT n a ▸ z)).1]
def Nf (h:jU (cp u)=true):jU (cp (Txt.partition u "*").1)=true/\jU (cp (Txt.partition u "*").2.2)=true:=by
 rcases qF 42 u with q | ⟨a,b,rfl,q⟩
 .rw[gy q];exact⟨h,M⟩
 .rw[jK,jK] at h;rw[q8,iO q];exact⟨(pK (pK h).1).1,(pK h).2⟩
def zu {z:Str}(h:gb z=true):∀c∈cp z,wm c=true:=by
 unfold gb at h;rw[jar] at h;exact jav.mp h.2
def Tp:wm 64=false:=by decide
def U8 (hn:cj n):gb (sg n u)=gb u:=by
 by_cases h:64∈cp u
 .have e1:gb u=false:=by
   cases q:gb u with
   |false=>rfl
   |true=>have:=zu q _ h;rw[Tp] at this;cases this
  have e2:gb (sg n u)=false:=by
   cases q:gb (sg n u) with
   |false=>rfl
   |true=>
    obtain⟨l,hl⟩:=List.exists_mem_of_ne_nil _ hn.ne;have:=zu q l (by rw[bT];exact Jq h hl);have:=(QV this).2.1;rw[hn.Yg l hl] at this;cases this
  rw[e1,e2]
 .rw[j4 h]
def Xn (h:gb u=true):sg n u=u:=j4 λz=>by have:=zu h _ z;rw[Tp] at this;cases this
def UA (z:Str):Option (Option (Str×Int)):=
 bif Ek z then some (some (z,1))
 else bif gb (Txt.partition z "*").1&&(decide ((Txt.partition z "*").2.1="")||Ek (Txt.partition z "*").2.2) then(PySem.intText? (Txt.partition z "*").1).map λn=>some ((Txt.partition z "*").2.2,n)
 else some none
abbrev m1 (n:Str):Str×Int->Str×Int:=λp=>(sg n p.1,p.2)
abbrev m2 (n:Str):Bool×Str->Bool×Str:=λp=>(p.1,sg n p.2)
def Zy (hn:cj n)(ha:jU (cp u)=true):NF (sg n u)=(UA u).map λo=>o.map (m1 n):=by
 unfold NF UA;rw[JU hn ha,Ox hn];dsimp only;rw[U8 hn,JU hn (Nf ha).2];cases Ek u with
 |true=>rfl
 |false=>
  cases q:gb (Txt.partition u "*").1 with
  |false=>rfl
  |true=>
   rw[Xn q];cases(decide ((Txt.partition u "*").2.1="")||Ek (Txt.partition u "*").2.2) with
   |false=>rfl
   |true=>
    show(PySem.intText? _).map _=((PySem.intText? _).map _).map _;rw[Option.map_map];rfl
def Bt:cst "+"=true/\cst "-"=true:=by symm
def ZA (hn:cj n){us:jc2}(ha:∀u∈us,jU (cp u)=true):gn (us.map (sg n))=(gn us).map λl=>l.map (m2 n):=by
 induction us using gn.induct with
 |case1=>rfl
 |case2 s=>rfl
 |case3 t rest ih=>
  have ih:=ih λu hu=>ha u (jah _ (jah _ hu));rw[jal,jal,gn,gn,jab ((gw hn (ha _ (by simp)) Bt.1).mpr M),jab M,ih];cases gn rest<;>rfl
 |case4 t rest hne ih=>
  have ih:=ih λu hu=>ha u (jah _ (jah _ hu));rw[jal,jal,gn,gn,jaa (λz=>hne ((gw hn (ha _ (by simp)) Bt.1).mp z)),jab ((gw hn (ha _ (by simp)) Bt.2).mpr M),jaa hne,jab M,ih];cases gn rest<;>rfl
 |case5 s t rest h1 h2=>
  rw[jal,jal,gn,gn,jaa (λz=>h1 ((gw hn (ha _ (by simp)) Bt.1).mp z)),jaa (λz=>h2 ((gw hn (ha _ (by simp)) Bt.2).mp z)),jaa h1,jaa h2];rfl
def ZE (hn:cj n):BU (sg n u)=m2 n (BU u):=by
 unfold BU;rw[<- LR,So hn (by decide) (by decide)];cases q:Txt.startswith u ⟨#[45]⟩ with
 |false=>rfl
 |true=>
  rw[uw,jaG] at q;rw[jab M,jab M,JW q (by decide)]
def Zz (hn:cj n){us:jc2}(ha:∀u∈us,jU (cp u)=true):Aa (us.map (sg n))=(Aa us).map λl=>l.map (m2 n):=by
 unfold Aa;rw[jad];split
 .cases us with
  |nil=>rfl
  |cons w r=>
   show(gn (r.map (sg n))).map _=((gn r).map _).map _;rw[ZA hn λu hu=>ha u (jah _ hu),ZE hn];cases gn r<;>rfl
 .rfl
def IT:List (Bool×Str)->Option (Option (List (Str×Int)))
 |[]=>some (some [])
 |q::r=>match UA q.2 with
  |none=>none
  |some none=>some none
  |some (some p)=>(IT r).map λo=>o.map ((p.1,if q.1=true then -p.2 else p.2)::·)
def Zx (hn:cj n){l:List (Bool×Str)}(ha:∀q∈l,jU (cp q.2)=true):nS (l.map (m2 n))=(IT l).map λo=>o.map λW=>W.map (m1 n):=by
 induction l with
 |nil=>rfl
 |cons q r ih=>
  rw[jal,nS,IT,Zy hn (ha q jai),ih λq hq=>ha q (jah _ hq)];cases UA q.2 with
  |none=>rfl
  |some o=>
   cases o with
   |none=>rfl
   |some p=>
    show((IT r).map _).map _=((IT r).map _).map _;rw[Option.map_map,Option.map_map];congr 1;funext o;cases o<;>rfl
def lf (u:Str):Bool:=(decide (64∈cp u)||!dW u)&&(decide (64∈cp (Txt.partition u "*").2.2)||!dW (Txt.partition u "*").2.2)
def HJ:List (jc8):=[[],[64],[35,64]]
def UD {u:Str}(h:Ek u=true)(hl:64∈cp u):cp u∈HJ:=by
 unfold Ek LN at h;have e:∀{z:Str},64∈cp z->isNm z=false:=λ{z} hz=>by
  cases q:isNm z with
  |false=>rfl
  |true=>exact absurd hz ((LM q).no (by decide))
 rw[e hl,jco,jbr,jaG,jar,<- MA,uw,jaG] at h;rcases h with h | ⟨h1,h2⟩
 .rw[h];decide
 .cases q:cp u with
  |nil=>rw[q] at h1;cases h1
  |cons y r=>
   rw[q] at h1;have h1:y=35:=jaw h1;subst h1;have hc:cp (Txt.slice u (some 1) none)=r:=by rw[Du (by rw[aW,q];simp),q];rfl
   have hr:64∈r:=by rw[q] at hl;rcases jak.mp hl with z | z;cases z;exact z
   rw[e (by rw[hc];exact hr),jco,jaG,hc] at h2;rw[h2];decide
def UC {u:Str}(hl:64∉cp u):Ek u=dW u:=by
 have e:∀{z:Str},64∉cp z->LN z=isNm z:=λ{z} hz=>by unfold LN;rw[jaf (λy=>hz (by rw[y];exact jai)),Bool.or_false]
 unfold Ek dW;rw[e hl];cases q:Txt.startswith u "#" with
 |false=>rfl
 |true=>
  rw[<- MA,uw,jaG] at q;rw[e];cases q2:cp u with
  |nil=>rw[q2] at q;cases q
  |cons y r=>
   rw[Du (by rw[aW,q2];simp),q2];exact λz=>hl (by rw[q2];exact jah _ z)
def YM {u:Str}(h:Ek u=true)(hl:(decide (64∈cp u)||!dW u)=true):cp u∈HJ:=by
 by_cases q:64∈cp u
 .exact UD h q
 .rw[jaf q,<- UC q,h] at hl;cases hl
def a28 {u:Str}{p:Str×Int}(hl:lf u=true)(h:UA u=some (some p)):cp p.1∈HJ:=by
 unfold lf at hl;rw[jar] at hl;unfold UA at h;cases q:Ek u with
 |true=>rw[q] at h;cases h;exact YM q hl.1
 |false=>
  rw[q] at h;cases q2:gb (Txt.partition u "*").1&&(decide ((Txt.partition u "*").2.1="")||Ek (Txt.partition u "*").2.2) with
  |false=>rw[q2] at h;cases h
  |true=>
   rw[q2] at h;have h:(PySem.intText? (Txt.partition u "*").1).map _=some (some p):=h;cases e:PySem.intText? (Txt.partition u "*").1 with
   |none=>rw[e] at h;cases h
   |some v=>
    rw[e] at h;cases h;rw[jar,jbr,jaG] at q2;rcases q2.2 with z | z
    .rcases qF 42 u with g | ⟨a,b,rfl,g⟩
     .rw[gy g];exact jai
     .rw[q8,iO g] at z;exact absurd (show("*":Str)="" from z) (by symm)
    .exact YM z hl.2
def a21:∀{l:List (Bool×Str)} {W:List (Str×Int)},(∀q∈l,lf q.2=true)->IT l=some (some W)->∀p∈W,cp p.1∈HJ:=by
 intro l
 induction l with
 |nil=>intro W _ h;cases h;intro p hp;cases hp
 |cons q r ih=>
  intro W hl h;rw[IT] at h;cases e:UA q.2 with
  |none=>rw[e] at h;cases h
  |some o=>
   rw[e] at h;cases o with
   |none=>cases h
   |some p=>
    dsimp only at h;cases e2:IT r with
    |none=>rw[e2] at h;cases h
    |some o=>
     rw[e2] at h;cases o with
     |none=>cases h
     |some W'=>
      cases h;intro x hx;rcases jak.mp hx with rfl | hx
      .exact a28 (p:=p) (hl q jai) e
      .exact ih (λq hq=>hl q (jah _ hq)) e2 x hx
def U7 (hn:cj n){a b:Str}(ha:cp a∈HJ)(hb:cp b∈HJ):sg n a=sg n b↔a=b:=by
 refine⟨λh=>bU ?_,λh=>by rw[h]⟩;have h:sub (cp n) (cp a)=sub (cp n) (cp b):=jae cp h;have ne:=hn.ne;have s0:sub (cp n) []=[]:=rfl;have s1:sub (cp n) [64]=cp n:=jaK _;have s2:sub (cp n) [35,64]=35::cp n:=by show[35]++(cp n++[])=_;rw[jaK];rfl
 have n35:∀r,cp n≠35::r:=λr z=>hn.no (c:=35) (by decide) (by rw[z];exact jai);have nl:cp n≠35::cp n:=n35 _;simp only[HJ,jak,jbb,or_false] at ha hb;rcases ha with ha | ha | ha<;>rcases hb with hb | hb | hb<;>rw[ha,hb] at h ⊢<;>simp only[s0,s1,s2] at h<;>first
  |exact absurd h ne
  |exact absurd h.symm ne
  |exact absurd h nl
  |exact absurd h.symm nl
  |cases h
def YH (hn:cj n){W:List (Str×Int)}(h:∀p∈W,cp p.1∈HJ){x:Str}(hx:cp x∈HJ):wt (W.map (m1 n)) (sg n x)=wt W x:=by
 induction W with
 |nil=>rfl
 |cons p r ih=>
  rw[jal,i6,i6,ih λp hp=>h p (jah _ hp)];congr 1;by_cases e:p.1=x
  .rw[jab e,jab (by show sg n p.1=_;rw[e])]
  .rw[jaa e,jaa λz=>e ((U7 hn (h p jai) hx).mp z)]
def a0v (hn:cj n){W:List (Str×Int)}(h:∀p∈W,cp p.1∈HJ):NG (W.map (m1 n))=NG W:=by
 have e:z0 (W.map (m1 n))=(z0 W).map (m1 n):=by
  unfold z0;rw[jal];show((("":Str)),(0:Int))::_=(sg n "",(0:Int))::_;rw[j4 (by rw[nD];simp)]
 have h0:∀p∈z0 W,cp p.1∈HJ:=λp hp=>by
  rcases jak.mp hp with rfl | hp
  .symm
  .exact h p hp
 unfold NG;rw[e,jbt];have:∀L:List (Str×Int),(∀p∈L,cp p.1∈HJ)->L.all ((λp=>decide (sF (wt ((z0 W).map (m1 n)) p.1)<=999999999)) ∘ m1 n)=L.all λp=>decide (sF (wt (z0 W) p.1)<=999999999):=λL=>by
  induction L with
  |nil=>intro _;rfl
  |cons p r ih=>
   intro hL;rw[jbs,jbs,ih λp hp=>hL p (jah _ hp)];show(decide (sF (wt ((z0 W).map (m1 n)) (sg n p.1))<=999999999)&&_)=_;rw[YH hn h0 (hL p jai)]
 exact this _ h0
def gd (u:Str):Bool:=jU (cp u)&&(lf u&&lf (BU u).2)
def vn {u:Str}(h:gd u=true):jU (cp u)=true:=by unfold gd at h;rw[jar] at h;exact h.1
def Tj {u:Str}(h:gd u=true):lf u=true/\lf (BU u).2=true:=by unfold gd at h;rw[jar,jar] at h;exact h.2
def smA (ws:jc2):Option Bool:=match Aa ws with
 |none=>some false
 |some l=>(IT l).map λo=>match o with | none=>false | some W=>NG W
def Vb {us:jc2}{l:List (Bool×Str)}(h:Aa us=some l)(hg:∀u∈us,gd u=true):∀q∈l,jU (cp q.2)=true/\lf q.2=true:=by
 unfold Aa at h;split at h
 .cases us with
  |nil=>cases h
  |cons w r=>
   have h:(gn r).map _=some l:=h;cases e:gn r with
   |none=>rw[e] at h;cases h
   |some m=>
    rw[e] at h;cases h;intro q hq;rcases jak.mp hq with rfl | hq
    .have g:=hg w jai;refine⟨?_,(Tj g).2⟩;unfold BU;split
     .exact F3 (vn g)
     .exact vn g
    .have g:=hg _ (jah _ ((ES e).1 q hq));exact⟨vn g,(Tj g).1⟩
 .cases h
def Sq (hn:cj n){us:jc2}(hg:∀u∈us,gd u=true):fQ (us.map (sg n))=smA us:=by
 unfold fQ smA;rw[Zz hn λu hu=>vn (hg u hu)];cases e:Aa us with
 |none=>rfl
 |some l=>
  have g:=Vb e hg;show(nS (l.map (m2 n))).map _=(IT l).map _;rw[Zx hn λq hq=>(g q hq).1];cases e2:IT l with
  |none=>rfl
  |some o=>
   cases o with
   |none=>rfl
   |some W=>
    show some (NG (W.map (m1 n)))=some (NG W);rw[a0v hn (a21 (λq hq=>(g q hq).2) e2)]
end
abbrev Gs (us:jc2):Prop:=∀u∈us,gd u=true
abbrev As (us:jc2):Prop:=∀u∈us,jU (cp u)=true
def Gs.as {us:jc2}(h:Gs us):As us:=λu hu=>vn (h u hu)
section
variable {n m u:Str}{us:jc2}
def IX {p:Str->Bool}:∀{us:jc2},(∀u∈us,p (sg n u)=p u)->(us.map (sg n)).takeWhile p=(us.takeWhile p).map (sg n)/\(us.map (sg n)).dropWhile p=(us.dropWhile p).map (sg n):=by
 intro us
 induction us with
 |nil=>intro _;exact⟨M,M⟩
 |cons u r ih=>
  intro h;obtain⟨i1,i2⟩:=ih λu hu=>h u (jah _ hu);rw[jal,jbe,jcw,jbe,jcw,h u jai,i1,i2];cases p u<;>exact⟨M,M⟩
def LS (hn:cj n)(ha:jU (cp u)=true):∀{L:jc2},(∀c∈L,cst c=true)->(sg n u∈L↔u∈L):=by
 intro L
 induction L with
 |nil=>intro _;exact⟨(λz=>by cases z),(λz=>by cases z)⟩
 |cons c r ih=>
  intro h;rw[jak,jak,gw hn ha (h c jai),ih λc hc=>h c (jah _ hc)]
def Sv:∀c∈ZF,cst c=true:=by symm
def TX:∀c∈[("and":Str),"or",")"],cst c=true:=by symm
def xu:cst ""=true:=by symm
def ZD (hn:cj n)(ha:jU (cp u)=true):p1 (sg n u)=p1 u:=by
 unfold p1;rw[mZ hn ha xu,ja1.mpr (LS hn ha Sv)]
def ZC (hn:cj n)(ha:jU (cp u)=true):p2 (sg n u)=p2 u:=by
 unfold p2;rw[mZ hn ha xu,ja1.mpr (LS hn ha TX)]
def U9:sg n ""="":=j4 (by rw[nD];simp)
def rO (hn:cj n)(ha:As us){c:Str}(hc:cst c=true):hd0 (us.map (sg n))=c↔hd0 us=c:=by
 cases us with
 |nil=>exact Iff.rfl
 |cons u r=>exact gw hn (ha u jai) hc
def As.drop (h:As us)(k:Nat):As (us.drop k):=λu hu=>h u (jaR hu)
def Gs.drop (h:Gs us)(k:Nat):Gs (us.drop k):=λu hu=>h u (jaR hu)
def sR {p:Str->Bool}(hu:u∈us.takeWhile p):u∈us:=(jct p).subset hu
def Fz {p:Str->Bool}(hu:u∈us.dropWhile p):u∈us:=(List.dropWhile_suffix p).subset hu
def JP (hn:cj n)(hm:cj m)(hg:Gs us):fQ (us.map (sg n))=fQ (us.map (sg m)):=(Sq hn hg).trans (Sq hm hg).symm
def cm2 (hn:cj n)(hm:cj m)(hg:Gs us):HP (us.map (sg n))=HP (us.map (sg m)):=by
 have key:∀{n:Str},cj n->HP (us.map (sg n))=(match fQ ((us.takeWhile p1).map (sg n)) with
  |none=>none
  |some false=>some none
  |some true=>match fQ (((us.drop ((us.takeWhile p1).length+1)).takeWhile p2).map (sg n)) with
   |none=>none
   |some false=>some none
   |some true=>some (some ((us.takeWhile p1).length+1+((us.drop ((us.takeWhile p1).length+1)).takeWhile p2).length))):=λ{n} hn=>by
  unfold HP;rw[(IX λu hu=>ZD hn (hg.as u hu)).1,jad,<- jan,(IX λu hu=>ZC hn (hg.as u (jaR hu))).1,jad]
  try rfl
 rw[key hn,key hm,JP hn hm λu hu=>hg u (sR hu),JP hn hm λu hu=>hg u (jaR (sR hu))]
def N2 {β:Type}(n m:Str)(f:jc2->β):Prop:=∀us,Gs us->f (us.map (sg n))=f (us.map (sg m))
def eO:cst "("=true/\cst ")"=true/\cst "not"=true/\cst "and"=true/\cst "or"=true:=by symm
def hd2 (hn:cj n)(hm:cj m)(ha:As us){c:Str}(hc:cst c=true):hd0 (us.map (sg n))=c↔hd0 (us.map (sg m))=c:=(rO hn ha hc).trans (rO hm ha hc).symm
def C9 {α:Type}{P Q:Prop} [Decidable P] [Decidable Q] {a b c d:α} (h:P↔Q) (h1:a=c) (h2:b=d):(if P then a else b)=if Q then c else d:=by
 by_cases p:P
 .rw[jab p,jab (h.mp p),h1]
 .rw[jaa p,jaa λz=>p (h.mpr z),h2]
theorem br2 (hn:cj n)(hm:cj m){c:jc2->Pr}(hc:N2 n m c):N2 n m (Ri c):=λus hg=>by
 unfold Ri;refine C9 (hd2 hn hm hg.as eO.1) ?_ rfl;rw[<- jan,<- jan,hc _ (hg.drop 1)];cases c ((us.drop 1).map (sg m)) with
 |none=>rfl
 |some o=>
  cases o with
  |none=>rfl
  |some q=>
   obtain⟨s,k⟩:=q;show(if hd0 ((us.map (sg n)).drop (1+k))=")" then _ else _)=if hd0 ((us.map (sg m)).drop (1+k))=")" then _ else _
   rw[<- jan,<- jan];exact C9 (hd2 hn hm (hg.drop _).as eO.2.1) rfl rfl
theorem pt2 (hn:cj n)(hm:cj m){c:jc2->Pr}(hc:N2 n m c):N2 n m (Gw c):=λus hg=>by
 unfold Gw;refine C9 (hd2 hn hm hg.as eO.2.2.1) ?_ (C9 (hd2 hn hm hg.as eO.1) ?_ ?_)
 .rw[<- jan,<- jan,br2 hn hm hc _ (hg.drop 1)]
 .rw[br2 hn hm hc _ hg]
 .rw[cm2 hn hm hg]
theorem lp2 (hn:cj n)(hm:cj m){c:jc2->Pr}(hc:N2 n m c){w:Str}(hw:cst w=true):∀k,N2 n m (E5 c w k):=λk=>by
 induction k with
 |zero=>intro us _;rfl
 |succ k ih=>
  intro us hg;unfold E5;refine C9 (hd2 hn hm hg.as hw) ?_ rfl;rw[<- jan,<- jan,pt2 hn hm hc _ (hg.drop 1)];cases Gw c ((us.drop 1).map (sg m)) with
  |none=>rfl
  |some o=>
   cases o with
   |none=>rfl
   |some q=>
    obtain⟨s,j⟩:=q;show(match E5 c w k ((us.map (sg n)).drop (1+j)) with | none=>none | some none=>some none | some (some m)=>some (some (1+j+m)))=match E5 c w k ((us.map (sg m)).drop (1+j)) with | none=>none | some none=>some none | some (some m)=>some (some (1+j+m))
    rw[<- jan,<- jan,ih _ (hg.drop _)]
theorem cd2 (hn:cj n)(hm:cj m){c:jc2->Pr}(hc:N2 n m c):N2 n m (Ra c):=λus hg=>by
 unfold Ra;rw[pt2 hn hm hc _ hg];cases Gw c (us.map (sg m)) with
 |none=>rfl
 |some o=>
  cases o with
  |none=>rfl
  |some q=>
   obtain⟨s,k⟩:=q;dsimp only;rw[<- jan,<- jan];have g:=hg.drop k;by_cases h:hd0 (us.drop k)="and"\/hd0 (us.drop k)="or"
   .obtain⟨w,hw,e1,e2⟩:∃w:Str,cst w=true/\hd0 ((us.drop k).map (sg n))=w/\hd0 ((us.drop k).map (sg m))=w:=by
     rcases h with h | h
     .exact⟨_,eO.2.2.2.1,(rO hn g.as eO.2.2.2.1).mpr h,(rO hm g.as eO.2.2.2.1).mpr h⟩
     .exact⟨_,eO.2.2.2.2,(rO hn g.as eO.2.2.2.2).mpr h,(rO hm g.as eO.2.2.2.2).mpr h⟩
    rw[e1,e2,lp2 hn hm hc hw _ _ g]
   .have z:∀{n:Str},cj n->¬(hd0 ((us.drop k).map (sg n))="and"\/hd0 ((us.drop k).map (sg n))="or"):=λ{n} hn y=>h (by
     rcases y with y | y
     .exact .inl ((rO hn g.as eO.2.2.2.1).mp y)
     .exact .inr ((rO hn g.as eO.2.2.2.2).mp y))
    rw[jaa (z hn),jaa (z hm)]
theorem a1I (hn:cj n)(hm:cj m):∀k,N2 n m (lJ k)
 |0=>λ_ _=>rfl
 |k+1=>cd2 hn hm (a1I hn hm k)
theorem J7 (c:Nat):∀l:jc8,∃k r,l=List.replicate k c++r/\r.head?≠some c
 |[]=>⟨0,[],M,by simp⟩
 |a::r=>by
  by_cases e:a=c
  .obtain⟨k,s,h1,h2⟩:=J7 c r;exact⟨k+1,s,by rw[e,h1];rfl,h2⟩
  .exact⟨0,a::r,M,λz=>e (jaw z)⟩
def ZK (c:Nat)(l:jc8):∃k r,l=r++List.replicate k c/\r.getLast?≠some c:=by
 obtain⟨k,r,h1,h2⟩:=J7 c l.reverse;refine⟨k,r.reverse,?_,by rw[List.getLast?_reverse];exact h2⟩;have:=jae List.reverse h1;rw[List.reverse_reverse,List.reverse_append,List.reverse_replicate] at this;exact this
def Eu {n:jc8}{c:Nat}(h:c≠64)(k:Nat):sub n (List.replicate k c)=List.replicate k c:=uq λz=>h (List.eq_of_mem_replicate z).symm
def Jr (hn:cj n){l:jc8}{d:Nat}(h1:d≠64)(h2:d8 d=false):(sub (cp n) l).getLast?=some d↔l.getLast?=some d:=by
 rcases List.eq_nil_or_concat l with rfl | ⟨s,c,rfl⟩
 .exact Iff.rfl
 .rw[List.concat_eq_append,gQ,List.getLast?_append,List.getLast?_append];have e:sub (cp n) [c]=if c=64 then cp n else[c]:=jaK _
  rw[e];by_cases z:c=64
  .rw[jab z,z];constructor
   .intro y;cases q:(cp n).getLast? with
    |none=>exact absurd (List.getLast?_eq_none_iff.mp q) hn.ne
    |some w=>
     rw[q] at y;have y:w=d:=jaw y;have:=hn.Yg w (List.mem_of_getLast? q);rw[y,h2] at this;cases this
   .intro y;exact absurd (jaw y).symm h1
  .rw[jaa z];exact Iff.rfl
def obS:(⟨#[40]⟩:Str)="(":=by symm
def cbS:(⟨#[41]⟩:Str)=")":=by symm
def Ot (w:Str):∃k r,Txt.lstripChars w "("=r/\cp w=List.replicate k 40++cp r/\∀n,cj n->Txt.lstripChars (sg n w) "("=sg n r/\cp (sg n w)=List.replicate k 40++cp (sg n r):=by
 obtain⟨k,r,h1,h2⟩:=J7 40 (cp w);refine⟨k,⟨r.toArray⟩,by rw[<- obS];exact jm h1 h2,h1,λn hn=>?_⟩;have e:cp (sg n w)=List.replicate k 40++cp (sg n ⟨r.toArray⟩):=by
  rw[bT,h1,gQ,Eu (by decide)];rfl
 exact⟨by rw[<- obS];exact jm e (by rw[bT];exact λz=>h2 ((Ar hn (by decide) (by decide)).mp z)),e⟩
def Oq (w:Str):∃k r,Txt.rstripChars w ")"=r/\cp w=cp r++List.replicate k 41/\∀n,cj n->Txt.rstripChars (sg n w) ")"=sg n r/\cp (sg n w)=cp (sg n r)++List.replicate k 41:=by
 obtain⟨k,r,h1,h2⟩:=ZK 41 (cp w);refine⟨k,⟨r.toArray⟩,by rw[<- cbS];exact jg h1 h2,h1,λn hn=>?_⟩;have e:cp (sg n w)=cp (sg n ⟨r.toArray⟩)++List.replicate k 41:=by
  rw[bT,h1,gQ,Eu (by decide)];rfl
 exact⟨by rw[<- cbS];exact jg e (by rw[bT];exact λz=>h2 ((Jr hn (by decide) (by decide)).mp z)),e⟩
def U6 (hn:cj n)(ha:jU (cp u)=true):xU (sg n u)=(xU u).map λl=>l.map (sg n):=by
 obtain⟨k,r,e1,e2,e3⟩:=Ot u;obtain⟨j,s,f1,f2,f3⟩:=Oq r;obtain⟨g1,g2⟩:=e3 n hn;obtain⟨g3,g4⟩:=f3 n hn;unfold xU;rw[g1,g3,e1,f1];have as:jU (cp s)=true:=by rw[e2,f2] at ha;exact(pK (pK ha).2).1
 have d1:u.length - r.length=k:=by rw[aW,aW,e2];simp
 have d2:(sg n u).length - (sg n r).length=k:=by rw[aW,aW,g2];simp
 have d3:r.length - s.length=j:=by rw[aW,aW,f2];simp
 have d4:(sg n r).length - (sg n s).length=j:=by rw[aW,aW,g4];simp
 rw[d1,d2,d3,d4];by_cases h:s=""
 .rw[jab h,jab ((gw hn as xu).mpr h)];rfl
 .rw[jaa h,jaa λz=>h ((gw hn as xu).mp z)];show _=some (List.map (sg n) _);rw[jaO,jal,List.map_replicate,List.map_replicate,<- obS,<- cbS,Va (by decide),Va (by decide)]
def JT (hn:cj n):∀{us:jc2},As us->dP (us.map (sg n))=(dP us).map λl=>l.map (sg n):=by
 intro us
 induction us with
 |nil=>intro _;rfl
 |cons w r ih=>
  intro ha;rw[jal,dP,dP,U6 hn (ha w jai),ih λu hu=>ha u (jah _ hu)];cases xU w with
  |none=>rfl
  |some a=>
   cases dP r with
   |none=>rfl
   |some b=>exact jae some (jaO ..).symm
def Ob (us:jc2):Bool:=match dP us with
 |none=>true
 |some ts=>ts.all gd
def co2 (hn:cj n)(hm:cj m)(ha:As us)(hg:Ob us=true):vB (us.map (sg n))=vB (us.map (sg m)):=by
 unfold vB;rw[JT hn ha,JT hm ha];unfold Ob at hg;cases e:dP us with
 |none=>rfl
 |some ts=>
  rw[e] at hg;have g:Gs ts:=jav.mp hg;show(match lJ 4 (ts.map (sg n)) with | none=>none | some none=>some false | some (some (_,k))=>some (decide (hd0 ((ts.map (sg n)).drop k)="")))=match lJ 4 (ts.map (sg m)) with | none=>none | some none=>some false | some (some (_,k))=>some (decide (hd0 ((ts.map (sg m)).drop k)=""))
  rw[a1I hn hm 4 ts g];cases lJ 4 (ts.map (sg m)) with
  |none=>rfl
  |some o=>
   cases o with
   |none=>rfl
   |some q=>
    obtain⟨s,k⟩:=q;show some (decide (hd0 ((ts.map (sg n)).drop k)=""))=some (decide (hd0 ((ts.map (sg m)).drop k)=""));rw[<- jan,<- jan,ja1.mpr (hd2 hn hm (g.drop k).as xu)]
end
section
variable {n m u:Str}{us:jc2}
def gE (i:Nat):(us.map (sg n)).getD i ""=sg n (us.getD i ""):=by
 rw[ja5,ja5,jax];cases us[i]? with
 |none=>exact U9.symm
 |some w=>rfl
def gO (ha:As us)(i:Nat):jU (cp (us.getD i ""))=true:=by
 rw[ja5];cases e:us[i]? with
 |none=>show jU (cp "")=true;rw[nD];rfl
 |some w=>exact ha w (jbd e)
def memC (hn:cj n)(ha:As us){c:Str}(hc:cst c=true):c∈us.map (sg n)↔c∈us:=by
 rw[jaY];constructor
 .rintro⟨u,hu,e⟩;rw[<- (gw hn (ha u hu) hc).mp e];exact hu
 .intro h;exact⟨c,h,j4 (Tv hc)⟩
def jy (hn:cj n)(ha:As us){c:Str}(hc:cst c=true):gj c (us.map (sg n))=(gj c us).map (sg n)/\ir c (us.map (sg n))=(ir c us).map (sg n):=by
 unfold gj ir;obtain⟨h1,h2⟩:=IX (n:=n) (p:=λw=>!(decide (w=c))) (us:=us) λu hu=>by show(!decide (sg n u=c))=!decide (u=c);rw[mZ hn (ha u hu) hc]
 rw[h1,h2,jan];exact⟨M,M⟩
theorem BF {P:Str->Prop}(h:∀u∈us,P u)(c:Str):(∀u∈gj c us,P u)/\∀u∈ir c us,P u:=
 ⟨λu hu=>h u (sR hu),λu hu=>h u (Fz (jaR hu))⟩
def vG (hn:cj n)(ha:As us):(us.map (sg n)).all isNm=us.all LN/\(us.map (sg n)).all dW=us.all Ek:=by
 induction us with
 |nil=>exact⟨M,M⟩
 |cons w r ih=>
  obtain⟨i1,i2⟩:=ih λu hu=>ha u (jah _ hu);rw[jal,jbs,jbs,jbs,jbs,i1,i2,jZ hn (ha w jai),JU hn (ha w jai)];exact⟨M,M⟩
def eS:cst "="=true/\cst "at"=true/\cst "div"=true/\cst "mod"=true/\cst "claim"=true/\cst "let"=true/\cst "put"=true/\cst "row"=true/\cst "call"=true/\cst "end"=true/\cst "else"=true:=by symm
def BS (hn:cj n)(ha:As us){c:Str}(hc:cst c=true):(decide (3<(us.map (sg n)).length)&&(isNm ((us.map (sg n)).getD 1 "")&&decide ((us.map (sg n)).getD 2 ""=c)))=(decide (3<us.length)&&(LN (us.getD 1 "")&&decide (us.getD 2 ""=c))):=by
 rw[jad,gE,gE,jZ hn (gO ha 1),mZ hn (gO ha 2) hc]
def drG {us:jc2}(hg:Gs (us.drop 1))(k:Nat):Gs (us.drop (k+1)):=λu hu=>hg u (by rw[Nat.add_comm,<- ja2] at hu;exact jaR hu)
def mk2 (hn:cj n)(hm:cj m)(ha:As us)(hg:Gs (us.drop 1)):NJ (us.map (sg n))=NJ (us.map (sg m)):=by
 unfold NJ;rw[BS hn ha eS.1,BS hm ha eS.1,<- jan,<- jan,JP hn hm (drG hg 2)]
def dv2 (hn:cj n)(hm:cj m)(hg:Gs us){c:Str}(hc:cst c=true):Q2 c (us.map (sg n))=Q2 c (us.map (sg m)):=by
 unfold Q2;rw[(jy hn hg.as hc).1,(jy hn hg.as hc).2,(jy hm hg.as hc).1,(jy hm hg.as hc).2,JP hn hm (BF hg c).1,JP hn hm (BF hg c).2]
def lr2 (hn:cj n)(hm:cj m)(hg:Gs us):Yi (us.map (sg n))=Yi (us.map (sg m)):=by
 unfold Yi;rw[ja1.mpr ((memC hn hg.as eS.2.2.1).trans (memC hm hg.as eS.2.2.1).symm),ja1.mpr ((memC hn hg.as eS.2.2.2.1).trans (memC hm hg.as eS.2.2.2.1).symm),dv2 hn hm hg eS.2.2.1,dv2 hn hm hg eS.2.2.2.1,jad,jad,gE,gE,gE,gE,jZ hn (gO hg.as 0),jZ hm (gO hg.as 0),mZ hn (gO hg.as 1) eS.2.1,mZ hm (gO hg.as 1) eS.2.1,<- jan,<- jan,JP hn hm (hg.drop 2),JP hn hm hg]
def lt2 (hn:cj n)(hm:cj m)(ha:As us)(hg:Gs (us.drop 1)):NK (us.map (sg n))=NK (us.map (sg m)):=by
 unfold NK;rw[BS hn ha eS.1,BS hm ha eS.1,<- jan,<- jan,lr2 hn hm (drG hg 2)]
def a1R {us:jc2}{c:Str}(hu:us.headD ""≠c)(hg:Gs (us.drop 1)):Gs (ir c us)/\Gs ((gj c us).drop 1):=by
 cases us with
 |nil=>exact⟨(λu z=>by cases z),(λu z=>by cases z)⟩
 |cons w r=>
  have e:w≠c:=hu;have hg:Gs r:=hg;unfold ir gj;rw[jcw,jbe,jaf e];exact⟨λu hu=>hg u (Fz (jaR hu)),λu hu=>hg u (sR hu)⟩
def pu2 (hn:cj n)(hm:cj m)(ha:As us)(hu:us.headD ""≠"=")(hg:Gs (us.drop 1)):KA (us.map (sg n))=KA (us.map (sg m)):=by
 obtain⟨g1,g2⟩:=a1R hu hg;have key:∀{n:Str},cj n->KA (us.map (sg n))=bif decide (3<us.length)&&(LN (us.getD 1 "")&&(decide (us.getD 2 ""="at")&&decide (("=":Str)∈us))) then
   (bif decide (3<=(gj "=" us).length) then wC (fQ (((gj "=" us).drop 3).map (sg n))) (fQ ((ir "=" us).map (sg n))) else none) else some false:=λ{n} hn=>by
  unfold KA;rw[jad,gE,gE,jZ hn (gO ha 1),mZ hn (gO ha 2) eS.2.1,ja1.mpr (memC hn ha eS.1),(jy hn ha eS.1).1,(jy hn ha eS.1).2,jad,jan]
 rw[key hn,key hm,JP hn hm g1,JP hn hm (drG g2 2)]
theorem sS {s:Str}(hs:64∉cp s):∀ws:jc2,sg n (Str.join s ws)=Str.join s (ws.map (sg n))
 |[]=>j4 (by show 64∉([]:jc8);simp)
 |[w]=>rfl
 |w::v::r=>by
  refine bU ?_;rw[bT,gG,gQ,gQ,uq hs,jal,jal,gG,<- jal,<- sS hs (v::r)];rfl
def spS:(⟨#[32]⟩:Str)=" ":=by symm
def cmS:(⟨#[44,32]⟩:Str)=", ":=by symm
def uo (hn:cj n){c:Nat}(hc:d8 c=false)(h:c∉cp u):c∉cp (sg n u):=λz=>h ((zd (hn.no hc)).mp (bT n u ▸ z)).1
def d9 (hn:cj n)(t:Str):Txt.split (sg n t) " "=(Txt.split t " ").map (sg n):=by
 rw[<- spS];have e:t=Str.join ⟨#[32]⟩ (Txt.split t ⟨#[32]⟩):=(jcg t ⟨#[32]⟩).symm;have fr:∀p∈Txt.split t ⟨#[32]⟩,32∉cp p:=λp hp=>StrLaws.split_free _ _ p hp;have ne:=gu t ⟨#[32]⟩;generalize Txt.split t ⟨#[32]⟩=ws at e fr ne;rw[e,sS (by decide),<- jby];refine mV (by intro z;exact ne (jcx.mp z)) λp hp=>?_;obtain⟨w,hw,rfl⟩:=jaY.mp hp;exact uo hn (by decide) (fr w hw)
noncomputable def QL:jc8->Bool
 |[]=>true
 |a::r=>(!decide (a=44)||decide (r.head?=some 32))&&QL r
def Xk:∀{l:jc8},QL l=true->Fol 44 32 l:=by
 intro l
 induction l with
 |nil=>intro _ j h;cases h
 |cons a r ih=>
  intro h j hj;unfold QL at h;rw[jar,jbr,jbf,jb9,jaG] at h;cases j with
  |zero=>
   rcases h.1 with z | z
   .exact absurd (jaw hj) z
   .show r[0]?=_;rw[<- List.head?_eq_getElem?];exact z
  |succ j=>exact ih h.2 j hj
def Ax {x:Str}(h:32∉cp x):Txt.split x ⟨#[44,32]⟩=[x]:=by
 have e:Str.join ⟨#[44,32]⟩ (Txt.split x ⟨#[44,32]⟩)=x:=jcg x ⟨#[44,32]⟩;have ne:=gu x ⟨#[44,32]⟩;generalize Txt.split x ⟨#[44,32]⟩=ws at e ne;cases ws with
 |nil=>exact absurd rfl ne
 |cons a r=>
  cases r with
  |nil=>rw[<- e];rfl
  |cons b r=>
   exfalso;apply h;rw[<- e,gG];simp
def XD (l:jc8):Bool:=QL l||!decide (32∈l)
def Gi (hn:cj n){t:Str}(h:XD (cp t)=true):Txt.split (sg n t) ", "=(Txt.split t ", ").map (sg n):=by
 rw[<- cmS];unfold XD at h;rw[jbr,jbf,jb9] at h;rcases h with h | h
 .have e:t=Str.join ⟨#[44,32]⟩ (Txt.split t ⟨#[44,32]⟩):=(jcg t ⟨#[44,32]⟩).symm;have fr:∀p∈Txt.split t ⟨#[44,32]⟩,44∉cp p:=q9 t (Xk h) (by decide) (by decide);have ne:=gu t ⟨#[44,32]⟩;generalize Txt.split t ⟨#[44,32]⟩=ws at e fr ne;rw[e,sS (by decide),<- jby];refine Av (by intro z;exact ne (jcx.mp z)) (λp hp=>?_) (by decide) (by decide) (by decide);obtain⟨w,hw,rfl⟩:=jaY.mp hp;exact uo hn (by decide) (fr w hw)
 .rw[Ax h,Ax (uo hn (by decide) h)];rfl
def Ti (r:jc2):Bool:=XD (cp (Txt.join " " r))&&(Ht r).all λt=>(Txt.split t " ").all gd
def zm (hn:cj n)(h:Ti us=true):Ht (us.map (sg n))=(Ht us).map (sg n):=by
 unfold Ti at h;rw[jar] at h;have e:∀l:jc2,Txt.join " " l=Str.join " " l:=λl=>jby ..;unfold Ht;rw[<- Gi hn h.1,e,e,sS (by rw[a1E];decide)]
def a4Q (hn:cj n)(hm:cj m):∀{ps:jc2},(∀t∈ps,Gs (Txt.split t " "))->Th (ps.map (sg n))=Th (ps.map (sg m)):=by
 intro ps
 induction ps with
 |nil=>intro _;rfl
 |cons t r ih=>
  intro h;rw[jal,jal,Th,Th,d9 hn,d9 hm,JP hn hm (h t jai),ih λt ht=>h t (jah _ ht)]
def gv2 (hn:cj n)(hm:cj m)(h:Ti us=true):Yp (us.map (sg n))=Yp (us.map (sg m)):=by
 unfold Yp;refine C9 ?_ rfl ?_
 .rw[jcx,jcx]
 .rw[zm hn h,zm hm h];unfold Ti at h;rw[jar,jav] at h;exact a4Q hn hm λt ht=>jav.mp (h.2 t ht)
def ce2 (hn:cj n)(hm:cj m)(ha:As us)(h:Ti (us.drop 1)=true):NW (us.map (sg n))=NW (us.map (sg m)):=by
 unfold NW;rw[jad,jad,gE,gE,jZ hn (gO ha 0),jZ hm (gO ha 0),<- jan,<- jan,gv2 hn hm h]
def XJ (hn:cj n)(ha:As us):Ac (us.map (sg n))=(Ac us).map (sg n):=by
 unfold Ac;rw[<- jan];by_cases h:("=":Str)∈us.drop 1
 .rw[jab h,jab ((memC hn (ha.drop 1) eS.1).mpr h),(jy hn (ha.drop 1) eS.1).2]
 .rw[jaa h,jaa λz=>h ((memC hn (ha.drop 1) eS.1).mp z)]
def ca2 (hn:cj n)(hm:cj m)(ha:As us)(h:Ti ((Ac us).drop 1)=true):NX (us.map (sg n))=NX (us.map (sg m)):=by
 have a1:=ha.drop 1;have key:∀{n:Str},cj n->NX (us.map (sg n))=if("=":Str)∈us.drop 1 then(bif decide (0<(gj "=" (us.drop 1)).length)&&(gj "=" (us.drop 1)).all LN then NW ((ir "=" (us.drop 1)).map (sg n)) else some false) else NW ((us.drop 1).map (sg n)):=λ{n} hn=>by
  unfold NX;rw[<- jan,(jy hn a1 eS.1).1,(jy hn a1 eS.1).2,jad,(vG hn (BF a1 "=").1).1];exact C9 (memC hn a1 eS.1) rfl rfl
 rw[key hn,key hm];unfold Ac at h;by_cases q:("=":Str)∈us.drop 1
 .rw[jab q] at h;rw[jab q,jab q,ce2 hn hm (BF a1 "=").2 h]
 .rw[jaa q] at h;rw[jaa q,jaa q,ce2 hn hm a1 h]
def a1x:∀p∈Ys,cst p.1=true:=by symm
def a0U (hn:cj n)(ha:jU (cp u)=true):∀{L:List (Str×Fc)},(∀p∈L,cst p.1=true)->L.lookup (sg n u)=L.lookup u:=by
 intro L
 induction L with
 |nil=>intro _;rfl
 |cons p r ih=>
  intro h;obtain⟨a,b⟩:=p;rw[jbF,jbF,ih λp hp=>h p (jah _ hp)];have e:(sg n u==a)=(u==a):=by
   rw[jck,jaZ,jaZ];exact gw hn ha (h _ jai)
  rw[e]
def NQ (us:jc2):us.headD ""=us.getD 0 "":=by cases us<;>rfl
def MP (hn:cj n)(ha:As us):jS ((us.map (sg n)).headD "")=jS (us.headD ""):=by
 unfold jS;rw[NQ,NQ,gE,a0U hn (gO ha 0) a1x]
def yL (us:jc2):Bool:=us.all (λu=>jU (cp u))&&match jS (us.headD "") with
 |.nd=>Ob (us.drop 1)
 |.gv=>Ob (us.drop 1)
 |.ho=>Ob (us.drop 1)
 |.iF=>Ob (us.drop 1)
 |.wh=>Ob (us.drop 1)
 |.fa=>(us.drop 1).all gd
 |.st=>bif decide (us.headD ""="claim") then Ob (us.drop 1) else bif decide (us.headD ""="call") then Ti ((Ac us).drop 1) else(us.drop 1).all gd
 |_=>true
def yT (hn:cj n)(ha:As us){c:Str}(hc:cst c=true):us.map (sg n)=[c]↔us=[c]:=by
 cases us with
 |nil=>exact Iff.rfl
 |cons w r=>
  cases r with
  |nil=>
   show[sg n w]=[c]↔_;rw[List.cons.injEq,List.cons.injEq,gw hn (ha w jai) hc]
  |cons v r=>exact⟨(λz=>by cases z),(λz=>by cases z)⟩
def rsF (ws:jc2):Option Bool:=if ws.headD ""="let" then NK ws else if ws.headD ""="put" then KA ws else if ws.headD ""="row" then NJ ws else if ws.headD ""="claim" then LK (vB (ws.drop 1)) else NX ws
def Sw {c:Str}{ws:jc2}(h:ws.headD ""=c):rsF ws=if c="let" then NK ws else if c="put" then KA ws else if c="row" then NJ ws else if c="claim" then LK (vB (ws.drop 1)) else NX ws:=by subst h;rfl
def ZM (hn:cj n)(hm:cj m)(h:yL us=true):iK (us.map (sg n))=iK (us.map (sg m)):=by
 unfold yL at h;rw[jar,jav] at h;obtain⟨ha,h⟩:=h;have ha:As us:=ha;have hh:∀{n:Str},cj n->∀{c:Str},cst c=true->us.headD ""=c->(us.map (sg n)).headD ""=c:=λ{n} hn {c} hc e=>by rw[NQ,gE];exact(gw hn (gO ha 0) hc).mpr (by rw[<- NQ];exact e)
 unfold iK;rw[MP hn ha,MP hm ha];have co:Ob (us.drop 1)=true->vB ((us.map (sg n)).drop 1)=vB ((us.map (sg m)).drop 1):=λh=>by rw[<- jan,<- jan];exact co2 hn hm (ha.drop 1) h
 cases e:jS (us.headD "")<;>rw[e] at h<;>dsimp only at h ⊢
 .unfold heF;rw[jad,jad,gE,gE,jZ hn (gO ha 1),jZ hm (gO ha 1),<- jan,<- jan,(vG hn (ha.drop 2)).2,(vG hm (ha.drop 2)).2]
 .unfold anF;rw[jad,jad,<- jan,<- jan,(vG hn (ha.drop 1)).1,(vG hm (ha.drop 1)).1]
 .exact co h
 .exact co h
 .exact co h
 .rw[<- jan,<- jan];exact JP hn hm (jav.mp h)
 .rw[ja1.mpr ((yT hn ha eS.2.2.2.2.2.2.2.2.2.2).trans (yT hm ha eS.2.2.2.2.2.2.2.2.2.2).symm)]
 .rw[ja1.mpr ((yT hn ha eS.2.2.2.2.2.2.2.2.2.1).trans (yT hm ha eS.2.2.2.2.2.2.2.2.2.1).symm)]
 .exact co h
 .exact co h
 .show rsF _=rsF _;have st:=Tq e;have hc:cst (us.headD "")=true:=(show ∀c∈[("let":Str),"put","row","call","claim"],cst c=true by symm) _ st;rw[Sw (hh hn hc M),Sw (hh hm hc M)];simp only[jak,jbb,or_false] at st;rcases st with z | z | z | z | z<;>rw[z] at h ⊢
  .exact lt2 hn hm ha (jav.mp h)
  .exact pu2 hn hm ha (by rw[z];symm) (jav.mp h)
  .exact mk2 hn hm ha (jav.mp h)
  .exact ca2 hn hm ha h
  .exact jae LK (co h)
end
noncomputable def YI:jc2:=(["","1 +","1 + + 2","1 - -2","--1","- 1","+1","01","00","1000000000","999999999*@ + @","-@ - 999999999*@"]:jc2)++(["999999999 + 1","2**@","2*3","@*2","2*","*@","2 * @","@ + ","@  + 1","@+1","1 2","@ @"]:jc2)++(["2@","@2","(@)","##@","#","# @","2*#","ninelettr","A","let","at","@ div"]:jc2)++(["1.5","1_0","02*@","1000000000*@","-+1"]:jc2)
noncomputable def YL:jc2:=(["","@","@ <","< @","@ < 1 < 2","@ == 1","@ =< 1","@ <> 1","(@ < 1)","not @ < 1","not(@ < 1)","not ((@ < 1))"]:jc2)++(["not not (@ < 1)","@ < 1 and","and @ < 1","@ < 1 and @ < 2 or @ < 3","@ < 1 or @ < 2 and @ < 3","(@ < 1) and @ < 2","((@ < 1 and @ < 2)) or @ < 3","@ < 1 and (@ < 2 or @ < 3","@ < 1)","@  < 1","@ < 1 ","@<1"]:jc2)++(["( @ < 1 or @ < 2 ) and @ < 3","@ < 1 and and @ < 2","not (@ < 1","not (@ < 1) and","()","not ()","(@ < 1 and @ < 2)","@ < 1 (and @ < 2)","@ (< 1)","@ < 01","@ < 1, @ < 2","@ and @"]:jc2)++(["not (@ < 1))","@ < or"]:jc2)
noncomputable def YJ:jc2:=([""," ","let","let @","let @ 1","let = 1","Let @ = 1"," let @ = 1","let  @ = 1","let #@ = 1","let let = 1","let ninelettr = 1"]:jc2)++(["let @ = @ div","let @ = div 2","let @ = 1 div 2 mod 3","let @ = @ at","let @ = at 1","let @ = @ at @ at @","let @ = 2 at @","let @ = #@ at 1","let @ = @ + @ at 1","let @ = @ at 1 div 2","put @ at 1","put @ = 1"]:jc2)++(["put #@ at 1 = 2","put @ at 1 = 2 = 3","put at 1 = 2","put @ 1 = 2","row @","row #@ = 1","row = 1","row @ = 1 = 2","call","call = f","call @ =","call @ = f @ @"]:jc2)++(["call @ = f @,@","call @ = f , @","call @ = f @,","call @, @ = f","call f(@)","call @ = f = @","call 2 = f","call f ","call f  @","call @ = F","helper F","helper let"]:jc2)++(["helper f 2","helper f ##@","helper f #","helper f @ ","helper  f","helper 2","helper ninelettr","helper f, @","helper f #let","helper f at","helper f @ #ninelettr","helper f = @"]:jc2)++(["helper f x1","helper f @,@","answers #@","answers 2","answers let","answers @ ","answers  @","answers @, @","answers ninelettr","call #@ = f","call @ #@ = f","call let = f"]:jc2)++(["call #f","end ","else "," end","helper ","answers ","call ","go @","end @","else @","helper","answers"]:jc2)++(["needs","gives @","holds @ <","falls","answers @ 1","# @","if","while"]:jc2)
def haL:jc2:=(["let @ = ","row @ = ","put @ at 1 = ","let @ = 2 mod ","let @ = @ at ","claim 1 < ","call f ","call @ = f 1, "]:jc2)
def hcL:jc2:=(["claim ","if ","while ","needs ","holds ","gives "]:jc2)
def bdB (ws:jc2):Bool:=(decide (ws.length<=60)&&ws.all λw=>decide (w.length<=12))&&(match dP (ws.drop 1) with | none=>true | some ts=>decide (ts.length<=50))&&
 (bif decide (ws.headD ""="call") then decide ((Ht ((Ac ws).drop 1)).length<=100)&&(Ht ((Ac ws).drop 1)).all λt=>(decide (t.length<=60)&&decide ((Txt.split t " ").length<=60))&&(Txt.split t " ").all λw=>decide (w.length<=12) else true)
def tpW (t:Str)(ws:jc2):Bool:=(yL ws&&bdB ws)&&(decide (iK (ws.map (sg "q"))=some false)&&decide (iK ws=some false))&&(!decide (10∈cp t)&&decide (t.length<=60))
def fzN (c:Nat)(k:Nat->Bool):Bool:=match c with
 |0=>k 0
 |n+1=>k (n+1)
def fzL:jc8->(jc8->Bool)->Bool
 |[],k=>k []
 |c::r,k=>fzN c λc=>fzL r λr=>k (c::r)
def fzW:jc2->(jc2->Bool)->Bool
 |[],k=>k []
 |t::r,k=>fzL (cp t) λl=>fzW r λr=>k (⟨l.toArray⟩::r)
theorem ME:∀(l:jc8)(k:jc8->Bool),fzL l k=k l
 |[],k=>rfl
 |c::r,k=>by cases c<;>exact ME r _
theorem Dh:∀(l:jc2)(k:jc2->Bool),fzW l k=k l
 |[],k=>rfl
 |t::r,k=>(ME _ _).trans (Dh r _)
def ND (t:Str):Bool:=fzW [t] λl=>fzW (Txt.split (l.headD "") " ") λws=>tpW (l.headD "") ws
def Uz (t:Str):ND t=tpW t (Txt.split t " "):=(Dh _ _).trans (Dh _ _)
def nmq:cj "q":=LM (by symm)
section
variable {n u:Str}
def ED (hn:cj n):(sg n u).length<=8*u.length:=by
 rw[aW,bT,aW u];have l:=hn.len;rw[aW] at l;generalize cp u=L
 induction L with
 |nil=>exact jaj _
 |cons c r ih=>
  rw[fH,jaD,jaA];split
  .omega
  .simp;omega
theorem Sx:∀{ps:jc2},(∀p∈ps,64∉cp p)->sub (cp n) (cp (Str.join ⟨#[64]⟩ ps))=cp (Str.join n ps)
 |[],_=>rfl
 |[p],h=>uq (h p jai)
 |p::q::r,h=>by
  rw[gG,gG,gQ,gQ,uq (h p jai),Sx λz hz=>h z (jah _ hz)];have e:sub (cp n) (cp (⟨#[64]⟩:Str))=cp n:=jaK _;rw[e]
def Vn (t n:Str):Txt.replace t "@" n=sg n t:=by
 rw[show("@":Str)=⟨#[64]⟩ by symm,StrLaws.replace_one];have e:t=Str.join ⟨#[64]⟩ (Txt.split t ⟨#[64]⟩):=(jcg t ⟨#[64]⟩).symm;have fr:∀p∈Txt.split t ⟨#[64]⟩,64∉cp p:=λp hp=>StrLaws.split_free _ _ p hp;generalize Txt.split t ⟨#[64]⟩=ws at e fr;subst e;exact bU (Sx fr).symm
def Nb {ws:jc2}(hr:yL ws=true)(h:bdB ws=true)(h0:ws≠[]):Nl ws/\∀n,cj n->Nl (ws.map (sg n)):=by
 unfold bdB at h;rw[jar,jar,jar,jaG,jav] at h;obtain⟨⟨⟨h1,h2⟩,h3⟩,h4⟩:=h;have h2:∀w∈ws,w.length<=12:=λw hw=>ja0 (h2 w hw);have ha:As ws:=by unfold yL at hr;rw[jar,jav] at hr;exact hr.1
 have t3:∀ts,dP (ws.drop 1)=some ts->ts.length<=50:=λts e=>by rw[e] at h3;exact ja0 h3
 have w8:∀{n:Str},cj n->∀{w:Str},w.length<=12->(sg n w).length<=100:=λ{n} hn {w} hw=>by have:=ED (u:=w) hn;omega
 have cm:∀w∈(Ac ws).drop 1,w∈ws:=λw hw=>by
  have hw:=jaR hw;unfold Ac at hw;split at hw
  .exact jaR ((BF (P:=λu=>u∈ws.drop 1) (λu z=>z) "=").2 w hw)
  .exact jaR hw
 have cl:((Ac ws).drop 1).length<=60:=by
  rw[jay];unfold Ac;split
  .have:(ir "=" (ws.drop 1)).length<=(ws.drop 1).length:=by
    unfold ir;rw[jay];have:=(List.dropWhile_suffix (λw=>!(decide (w=("=":Str)))) (l:=ws.drop 1)).length_le;omega
   rw[jay] at this;omega
  .rw[jay];omega
 have g4:ws.headD ""="call"->Ti ((Ac ws).drop 1)=true/\(Ht ((Ac ws).drop 1)).length<=100/\∀t∈Ht ((Ac ws).drop 1),t.length<=60/\(Txt.split t " ").length<=60/\∀w∈Txt.split t " ",w.length<=12:=λe=>by
  refine⟨?_,?_⟩
  .unfold yL at hr;rw[jar] at hr;have hr:=hr.2;rw[e,show jS ("call":Str)=.st by symm] at hr;exact hr
  .rw[jag e] at h4;have h4:(_&&_)=true:=h4;rw[jar,jaG,jav] at h4;refine⟨h4.1,λt ht=>?_⟩;have:=h4.2 t ht;rw[jar,jar,jaG,jaG,jav] at this;exact⟨this.1.1,this.1.2,λw hw=>ja0 (this.2 w hw)⟩
 constructor
 .refine⟨h0,h1,λw hw=>by have:=h2 w hw;omega,t3,λe=>?_⟩;obtain⟨_,g1,g2⟩:=g4 e;exact⟨⟨cl,λw hw=>by have:=h2 w (cm w hw);omega⟩,g1,λt ht=>⟨by have:=(g2 t ht).1;omega,(g2 t ht).2.1,λw hw=>by have:=(g2 t ht).2.2 w hw;omega⟩⟩
 .intro n hn;refine⟨λz=>h0 (jcx.mp z),by rw[jad];exact h1,λw hw=>?_,λts e=>?_,λe=>?_⟩
  .obtain⟨x,hx,rfl⟩:=jaY.mp hw;exact w8 hn (h2 x hx)
  .rw[<- jan,JT hn (ha.drop 1)] at e;cases q:dP (ws.drop 1) with
   |none=>rw[q] at e;cases e
   |some l=>rw[q] at e;cases e;rw[jad];exact t3 l q
  .have e:ws.headD ""="call":=by
    rw[NQ,gE] at e;rw[NQ];exact(gw hn (gO ha 0) eS.2.2.2.2.2.2.2.2.1).mp e
   obtain⟨g0,g1,g2⟩:=g4 e;rw[XJ hn ha,<- jan];refine⟨⟨by rw[jad];exact cl,λw hw=>?_⟩,?_,?_⟩
   .obtain⟨x,hx,rfl⟩:=jaY.mp hw;exact w8 hn (h2 x (cm x hx))
   .rw[zm hn g0,jad];exact g1
   .rw[zm hn g0];intro t ht;obtain⟨x,hx,rfl⟩:=jaY.mp ht;obtain⟨k1,k2,k3⟩:=g2 x hx;refine⟨by have:=ED (u:=x) hn;omega,?_,?_⟩
    .rw[d9 hn,jad];exact k2
    .rw[d9 hn];intro w hw;obtain⟨y,hy,rfl⟩:=jaY.mp hw;exact w8 hn (k3 y hy)
end
structure RT (c:Rc)(t:Str):Prop where
 w:RwC c (Txt.split t " ")
 nl:10∉cp t
 len:t.length<=1000
def RH {t n:Str}(h:ND t=true)(hn:isNm n=true):t.length<=60/\(∃c,RT (c,false) t)/\∃c,RT (c,false) (Txt.replace t "@" n):=by
 have hn:=LM hn;rw[Uz] at h;unfold tpW at h;simp only[jar,jbf,jaG,jb9] at h;obtain⟨⟨⟨h1,h2⟩,h3,h4⟩,h5,h6⟩:=h;obtain⟨b1,b2⟩:=Nb h1 h2 (gu _ _);have ha:As (Txt.split t " "):=by unfold yL at h1;rw[jar,jav] at h1;exact h1.1
 refine⟨h6,⟨_,⟨⟨M,h4,b1⟩,h5,by omega⟩⟩,?_⟩;rw[Vn];refine⟨_,⟨⟨M,?_,?_⟩,uo hn (by decide) h5,?_⟩⟩
 .rw[d9 hn,ZM hn nmq h1];exact h3
 .rw[d9 hn];exact b2 n hn
 .have:=ED (u:=t) hn;omega
def a24:(haL.all λh=>YI.all λs=>ND (h++s))=true:=by symm
def a26:(hcL.all λh=>YL.all λs=>ND (h++s))=true:=by symm
def a25:(YJ.all λs=>ND s)=true:=by symm
def tgB (t:Str):Bool:=(yL (Txt.split t " ")&&bdB (Txt.split t " "))&&decide (iK ((Txt.split t " ").map (sg "q"))=some true)&&(!decide (10∈cp t)&&decide (t.length<=60))
def El {t n:Str}(h:tgB t=true)(hn:isNm n=true):RT (jS ((Txt.split t " ").headD ""),true) (sg n t):=by
 have hn:=LM hn;unfold tgB at h;simp only[jar,jbf,jaG,jb9] at h;obtain⟨⟨⟨h1,h2⟩,h3⟩,h5,h6⟩:=h;obtain⟨b1,b2⟩:=Nb h1 h2 (gu _ _);have ha:As (Txt.split t " "):=by unfold yL at h1;rw[jar,jav] at h1;exact h1.1
 refine⟨⟨?_,?_,?_⟩,uo hn (by decide) h5,?_⟩
 .rw[d9 hn,MP hn ha]
 .rw[d9 hn,ZM hn nmq h1];exact h3
 .rw[d9 hn];exact b2 n hn
 .have:=ED (u:=t) hn;omega
section
variable {x y a:Str}
def a4V (h:isNm x=true):RT (.an,true) ("answers "++x):=by
 have:=El (t:="answers @") (by symm) h;rw[show jS ((Txt.split ("answers @":Str) " ").headD "")=.an by symm] at this;rw[show("answers ":Str)++x=sg x "answers @" from bU (by rw[jK];show _=cp ("answers ":Str)++(cp x++[]);rw[jaK])];exact this
def g_2 {p q t:Str}{c:Fc}(h:isNm x=true)(hp:sub (cp x) (cp t)=cp p++(cp x++cp q))(ht:tgB t=true)(hc:jS ((Txt.split t " ").headD "")=c):RT (c,true) ((p++x)++q):=by
 have:=El ht h;rw[hc] at this;rw[show(p++x)++q=sg x t from bU (by rw[jK,jK,bT,hp,jaC])];exact this
def a4R (h:isNm x=true):RT (.nd,true) (("needs "++x)++" < 1"):=g_2 (t:="needs @ < 1") h rfl (by symm) (by symm)
def Xf (h:isNm x=true):RT (.st,true) (("let "++x)++" = 1"):=g_2 (t:="let @ = 1") h rfl (by symm) (by symm)
def a1q (h:isNm x=true):RT (.iF,true) (("if "++x)++" = 0"):=g_2 (t:="if @ = 0") h rfl (by symm) (by symm)
def a1n (h:isNm x=true):RT (.st,true) (("put "++x)++" at 0 = 2"):=g_2 (t:="put @ at 0 = 2") h rfl (by symm) (by symm)
def Xe (h:isNm x=true):RT (.st,true) (((("let "++x)++" = ")++x)++" + 1"):=by
 have:=El (t:="let @ = @ + 1") (by symm) h;rw[show jS ((Txt.split ("let @ = @ + 1":Str) " ").headD "")=.st by symm] at this;rw[show((((("let ":Str)++x)++" = ")++x)++" + 1")=sg x "let @ = @ + 1" from bU (by rw[jK,jK,jK,jK,bT,jaC,jaC,jaC];rfl)];exact this
def g_0 {t:Str}{c:Fc}(ht:tgB t=true)(h64:64∉cp t)(hc:jS ((Txt.split t " ").headD "")=c):RT (c,true) t:=by
 have:=El ht nmq.nm;rw[hc,j4 h64] at this;exact this
def MD:RT (.en,true) "end":=g_0 (by symm) (by symm) (by symm)
def Xg:RT (.el,true) "else":=g_0 (by symm) (by symm) (by symm)
def g_row:RT (.st,true) "row q = 3":=by
 refine⟨⟨by symm,by symm,?_⟩,by symm,by symm⟩;refine⟨by symm,by symm,by symm,?_,λe=>absurd e (by symm)⟩;intro ts e;rw[show dP ((Txt.split ("row q = 3":Str) " ").drop 1)=some [("q":Str),"=","3"] by symm] at e;cases e;decide
def LL (h:isNm x=true):NF x=some (some (x,1)):=by
 unfold NF;rw[show dW x=true by unfold dW;rw[h];rfl];rfl
def SX (h:isNm x=true):BU x=(false,x):=by
 unfold BU;rw[<- LR,uw,jaf,jaa (by decide)];intro z;exact(LM h).no (c:=45) (by decide) (List.mem_of_head? z)
def E3 (h:isNm x=true):fQ [x]=some true:=by
 have e:Aa [x]=some [(false,x)]:=by show some [BU x]=_;rw[SX h]
 have e2:nS [(false,x)]=some (some [(x,1)]):=by unfold nS;rw[LL h];rfl
 unfold fQ;rw[e];show(nS [(false,x)]).map _=_;rw[e2];refine jae some (jav.mpr λp _=>jag ?_);have:=RD (l:=z0 [(x,1)]) (by simp[z0]) p.1;rw[show(z0 [(x,(1:Int))]).length=2 from rfl] at this;rw[F4];omega
def a0H (hx:isNm x=true)(hy:isNm y=true):fQ [x,"-",y]=some true:=by
 have e:Aa [x,"-",y]=some [(false,x),(true,y)]:=by
  unfold Aa;rw[show([x,("-":Str),y]).length=3 from M,jab (by decide)];dsimp only;rw[SX hx,show gn [("-":Str),y]=some [(true,y)] by rw[gn,jaa (by symm),jab rfl];rfl];rfl
 have e2:nS [(false,x),(true,y)]=some (some [(x,1),(y,-1)]):=by unfold nS nS nS;rw[LL hx,LL hy];rfl
 unfold fQ;rw[e];show(nS [(false,x),(true,y)]).map _=_;rw[e2];refine jae some (jav.mpr λp _=>jag ?_);have:=RD (l:=z0 [(x,1),(y,-1)]) (by simp[z0]) p.1;rw[show(z0 [(x,(1:Int)),(y,-1)]).length=3 from rfl] at this;rw[F4];omega
def u9 (h:isNm x=true):xU x=some [x]:=by
 have n:=LM h;have l1:Txt.lstripChars x "("=x:=by rw[<- obS];exact jm (n:=0) rfl λz=>n.no (c:=40) (by decide) (List.mem_of_head? z)
 have l2:Txt.rstripChars x ")"=x:=by rw[<- cbS];exact jg (n:=0) (by simp) λz=>n.no (c:=41) (by decide) (List.mem_of_getLast? z)
 unfold xU;rw[l1,l2,jaa (λz=>n.ne (by rw[z,nD])),jbU];rfl
theorem oY (h:isNm x=true){c:Str}(hc:cst c=true):x≠c:=λz=>by
 have n:=LM h;unfold cst at hc;rw[jbr,jaG,jav] at hc;rcases hc with hc | hc
 .exact n.kp (z ▸ hc)
 .obtain⟨l,hl⟩:=List.exists_mem_of_ne_nil _ n.ne;have:=hc l (z ▸ hl);rw[n.Yg l hl] at this;cases this
def Qg (h:isNm x=true):p1 x=true/\p2 x=true:=by
 unfold p1 p2;rw[jaf (oY h xu),jaf λz=>oY h (Sv x z) M,jaf λz=>oY h (TX x z) rfl];exact⟨M,M⟩
def s1:fQ [("1":Str)]=some true:=by symm
def a5k {a b:Str}{r:jc2}(h1:p1 a=true)(h2:p2 b=true)(hr:r.takeWhile p2=[])(s1:fQ [a]=some true)(s2:fQ [b]=some true):HP (a::"<"::b::r)=some (some 3):=by
 have t1:(a::"<"::b::r).takeWhile p1=[a]:=by
  rw[jbe,h1];show a::List.takeWhile p1 (("<":Str)::b::r)=_;rw[jbe,show p1 "<"=false by symm];rfl
 have t2:(b::r).takeWhile p2=[b]:=by rw[jbe,h2];show b::List.takeWhile p2 r=_;rw[hr]
 unfold HP;rw[t1,s1,show(a::("<":Str)::b::r).drop ([a].length+1)=b::r from M,t2];dsimp only;rw[s2];rfl
def VQ {c:jc2->Pr}{a b:Str}{r:jc2}(n1:a≠"not")(n2:a≠"(")(h1:p1 a=true)(h2:p2 b=true)(hr:r.takeWhile p2=[])(s1:fQ [a]=some true)(s2:fQ [b]=some true):Gw c (a::"<"::b::r)=some (some (false,3)):=by
 unfold Gw;rw[show hd0 (a::("<":Str)::b::r)=a from M,jaa n1,jaa n2,a5k h1 h2 hr s1 s2]
def a5a:¬(hd0 ([]:jc2)="and"\/hd0 ([]:jc2)="or"):=by symm
def E4:xU "<"=some [("<":Str)]/\xU "1"=some [("1":Str)]/\xU "or"=some [("or":Str)]:=by symm
def a5i (hx:isNm x=true)(hy:isNm y=true):vB [y,"<",x]=some true/\dP [y,"<",x]=some [y,"<",x]:=by
 have e:dP [y,"<",x]=some [y,"<",x]:=by unfold dP dP dP dP;rw[u9 hy,u9 hx,E4.1];rfl
 refine⟨?_,e⟩;unfold vB;rw[e];have p:=VQ (c:=lJ 3) (r:=[]) (oY hy eO.2.2.1) (oY hy eO.1) (Qg hy).1 (Qg hx).2 rfl (E3 hy) (E3 hx);have q:lJ 4 [y,"<",x]=some (some (false,3)):=by
  show Ra (lJ 3) [y,"<",x]=_;unfold Ra;rw[p];dsimp only;rw[show([y,("<":Str),x]).drop 3=[] from M,jaa a5a,jaa (by decide)]
 dsimp only;rw[q];rfl
def a5h (hx:isNm x=true)(hy:isNm y=true):vB [y,"<","1","or",x,"<","1"]=some true/\dP [y,"<","1","or",x,"<","1"]=some [y,"<","1","or",x,"<","1"]:=by
 have e:dP [y,"<","1","or",x,"<","1"]=some [y,"<","1","or",x,"<","1"]:=by
  unfold dP dP dP dP dP dP dP dP;rw[u9 hy,u9 hx,E4.1,E4.2.1,E4.2.2];rfl
 refine⟨?_,e⟩;unfold vB;rw[e];have p1':p2 "1"=true:=by symm
 have p:=VQ (c:=lJ 3) (r:=[("or":Str),x,"<","1"]) (oY hy eO.2.2.1) (oY hy eO.1) (Qg hy).1 p1' (by rw[jbe,show p2 "or"=false by symm];rfl) (E3 hy) s1;have p':=VQ (c:=lJ 3) (r:=[]) (oY hx eO.2.2.1) (oY hx eO.1) (Qg hx).1 p1' rfl (E3 hx) s1;have l0:E5 (lJ 3) "or" 99 []=some (some 0):=by rw[show(99:Nat)=98+1 from rfl];unfold E5;rw[jaa (by symm)]
 have l:E5 (lJ 3) "or" 100 [("or":Str),x,"<","1"]=some (some 4):=by
  rw[show(100:Nat)=99+1 from rfl];unfold E5;rw[jab (show hd0 [("or":Str),x,"<","1"]="or" from M),show([("or":Str),x,"<","1"]).drop 1=[x,"<","1"] from M,p'];dsimp only;rw[show([("or":Str),x,"<","1"]).drop (1+3)=[] from M,l0]
 have q:lJ 4 [y,"<","1","or",x,"<","1"]=some (some (true,7)):=by
  show Ra (lJ 3) [y,"<","1","or",x,"<","1"]=_;unfold Ra;rw[p];dsimp only;rw[show([y,("<":Str),"1","or",x,"<","1"]).drop 3=[("or":Str),x,"<","1"] from M,jab (Or.inr (show hd0 [("or":Str),x,"<","1"]="or" from M)),show hd0 [("or":Str),x,"<","1"]="or" from M,l]
 dsimp only;rw[q];rfl
def EH {c:Rc}{t:Str}{ws:jc2}(e:cp t=jn ws)(ne:ws≠[])(wk:∀w∈ws,(32∉cp w/\10∉cp w)/\w.length<=100)(l:t.length<=1000)(hl:ws.length<=60)(tk:∀ts,dP (ws.drop 1)=some ts->ts.length<=50)(nc:ws.headD ""≠"call")(fc:jS (ws.headD "")=c.1)(ok:iK ws=some c.2):RT c t:=by
 have r:Nk t ws:=⟨e,ne,λw hw=>(wk w hw).1,by omega⟩
 refine⟨?_,r.nl,l⟩;rw[r.sp];exact⟨fc,ok,ne,hl,λw hw=>(wk w hw).2,tk,λz=>absurd z nc⟩
def CW (h:isNm x=true):(32∉cp x/\10∉cp x)/\x.length<=100:=by
 have n:=LM h;exact⟨⟨n.no (by decide),n.no (by decide)⟩,by have:=n.len;omega⟩
def vX:∀w∈[("while":Str),"holds","gives","falls","<","1","or","-","helper","f"],(32∉cp w/\10∉cp w)/\w.length<=100:=by symm
def kLt:(32∉cp "<"/\10∉cp "<")/\("<":Str).length<=100:=vX _ (by symm)
def tkl {ws ts:jc2}{k:Nat}(e:dP ws=some ws)(hk:ws.length<=50)(h:dP ws=some ts):ts.length<=50:=by rw[e] at h;cases h;exact hk
def a1k (hx:isNm x=true)(hy:isNm y=true){k p:Str}{c:Fc}(hp:cp p=cp k++[32])(hk:(k,c)∈[(("while":Str),Fc.wh),("holds",.ho)]):RT (c,true) (((p++y)++" < ")++x):=by
 obtain⟨c1,c2⟩:=a5i hx hy;have l1:=eF hx;have l2:=eF hy;have hk':(k∈[("while":Str),"holds","gives","falls","<","1","or","-","helper","f"]/\k.length<=10)/\k≠"call"/\jS k=c/\(c=.wh\/c=.ho):=by
  simp only[jak,jbb,or_false,Prod.mk.injEq] at hk;rcases hk with⟨rfl,rfl⟩ | ⟨rfl,rfl⟩<;>symm
 refine EH (ws:=[k,y,"<",x]) ?_ (by simp) ?_ ?_ (by simp) (λts h=>tkl (k:=0) c2 (by simp) h) hk'.2.1 hk'.2.2.1 ?_
 .show _=cp k++32::(cp y++32::(cp "<"++32::cp x))
  rw[jK,jK,jK,hp,jaC,jaC,jaC];rfl
 .exact mc (vX _ hk'.1.1) (mc (CW hy) (mc kLt (mc (CW hx) nofun)))
 .have:p.length=k.length+1:=by rw[aW,aW,hp];simp
  have z:(" < ":Str).length=3:=by symm
  simp only[wB];omega
 .unfold iK;rw[show jS (([k,y,"<",x]:jc2).headD "")=c from hk'.2.2.1];rcases hk'.2.2.2 with rfl | rfl<;>exact c1
def a4T (hx:isNm x=true)(hy:isNm y=true):RT (.gv,true) (((("gives "++y)++" < 1 or ")++x)++" < 1"):=by
 obtain⟨c1,c2⟩:=a5h hx hy;have l1:=eF hx;have l2:=eF hy;refine EH (ws:=["gives",y,"<","1","or",x,"<","1"]) ?_ (by simp) ?_ ?_ (by simp) (λts h=>tkl (k:=0) c2 (by simp) h) (by show("gives":Str)≠_;symm) (by show jS "gives"=_;symm) ?_
 .show _=cp "gives"++32::(cp y++32::(cp "<"++32::(cp "1"++32::(cp "or"++32::(cp x++32::(cp "<"++32::cp "1"))))))
  rw[jK,jK,jK,jK,jaC,jaC,jaC];rfl
 .exact mc (vX _ (by symm)) (mc (CW hy) (mc kLt (mc (vX _ (by symm)) (mc (vX _ (by symm)) (mc (CW hx) (mc kLt (mc (vX _ (by symm)) nofun)))))))
 .have z1:("gives ":Str).length=6:=by symm
  have z2:(" < 1 or ":Str).length=8:=by symm
  have z3:(" < 1":Str).length=4:=by symm
  simp only[wB];omega
 .unfold iK;rw[show jS ((["gives",y,"<","1","or",x,"<","1"]:jc2).headD "")=.gv by show jS "gives"=_;symm];exact c1
def a4U (hx:isNm x=true)(hy:isNm y=true):RT (.fa,true) ((("falls "++x)++" - ")++y):=by
 have l1:=eF hx;have l2:=eF hy;have c2:dP [x,"-",y]=some [x,"-",y]:=by unfold dP dP dP dP;rw[u9 hy,u9 hx,show xU "-"=some [("-":Str)] by symm];rfl
 refine EH (ws:=["falls",x,"-",y]) ?_ (by simp) ?_ ?_ (by simp) (λts h=>tkl (k:=0) c2 (by simp) h) (by show("falls":Str)≠_;symm) (by show jS "falls"=_;symm) ?_
 .show _=cp "falls"++32::(cp x++32::(cp "-"++32::cp y))
  rw[jK,jK,jK,jaC,jaC];rfl
 .exact mc (vX _ (by symm)) (mc (CW hx) (mc (vX _ (by symm)) (mc (CW hy) nofun)))
 .have z1:("falls ":Str).length=6:=by symm
  have z2:(" - ":Str).length=3:=by symm
  simp only[wB];omega
 .unfold iK;rw[show jS ((["falls",x,"-",y]:jc2).headD "")=.fa by show jS "falls"=_;symm];exact a0H hx hy
def a4S (hx:isNm x=true)(ha:isNm a=true):RT (.hp,true) ((("helper f "++x)++" #")++a):=by
 have l1:=eF hx;have l2:=eF ha;have k:=QH ha;have tk:dP [("f":Str),x,("#":Str)++a]=some [("f":Str),x,("#":Str)++a]:=by
  have e:xU (("#":Str)++a)=some [("#":Str)++a]:=by
   have ch:cp (("#":Str)++a)=35::cp a:=by rw[jK];rfl
   have m1:Txt.lstripChars (("#":Str)++a) "("=("#":Str)++a:=by rw[<- obS];exact jm (n:=0) rfl λz=>by rw[ch] at z;cases z
   have m2:Txt.rstripChars (("#":Str)++a) ")"=("#":Str)++a:=by
    rw[<- cbS];exact jg (n:=0) (by simp) λz=>by
     have:=List.mem_of_getLast? z;rw[ch] at this;rcases jak.mp this with q | q
     .cases q
     .exact(LM ha).no (c:=41) (by decide) q
   unfold xU;rw[m1,m2,jaa (λz=>by rw[z,nD] at ch;cases ch),jbU];rfl
  unfold dP dP dP dP;rw[u9 hx,e,show xU "f"=some [("f":Str)] by symm];rfl
 refine EH (ws:=["helper","f",x,("#":Str)++a]) ?_ (by simp) ?_ ?_ (by simp) (λts h=>tkl (k:=0) tk (by simp) h) (by show("helper":Str)≠_;symm) (by show jS "helper"=_;symm) ?_
 .show _=cp "helper"++32::(cp "f"++32::(cp x++32::cp (("#":Str)++a)))
  rw[jK,jK,jK,jK,jaC,jaC];rfl
 .exact mc (vX _ (by symm)) (mc (vX _ (by symm)) (mc (CW hx) (mc ⟨⟨k.wd.no,k.wd.no⟩,by have:=k.len;omega⟩ nofun)))
 .have z1:("helper f ":Str).length=9:=by symm
  have z2:(" #":Str).length=2:=by symm
  simp only[wB];omega
 .unfold iK;rw[show jS ((["helper","f",x,("#":Str)++a]:jc2).headD "")=.hp by show jS "helper"=_;symm];show some (heF _)=_;unfold heF;show some (decide (1<4)&&(isNm "f"&&([x,("#":Str)++a]).all dW))=_;rw[show isNm "f"=true by symm,jbs,jbs,(a0F hx).th,k.th];rfl
end
noncomputable def gC (x y a:Str):List (Rc×Str):=[((.hp,true),(("helper f "++x)++" #")++a),((.an,true),"answers "++y),((.nd,true),("needs "++x)++" < 1"),((.gv,true),((("gives "++y)++" < 1 or ")++x)++" < 1"),
 ((.st,true),("let "++y)++" = 1"),((.wh,true),(("while "++y)++" < ")++x),((.ho,true),(("holds "++y)++" < ")++x),((.fa,true),(("falls "++x)++" - ")++y),
 ((.st,true),((("let "++y)++" = ")++y)++" + 1"),((.en,true),"end"),((.iF,true),("if "++y)++" = 0"),((.st,true),("put "++a)++" at 0 = 2"),((.el,true),"else"),((.st,true),"row q = 3"),((.en,true),"end"),((.en,true),"end")]
theorem a1s {x y a:Str}(hx:isNm x=true)(hy:isNm y=true)(ha:isNm a=true):∀p∈gC x y a,RT p.1 p.2:=λp hp=>by
 unfold gC at hp;simp only[jak,jbb,or_false] at hp;rcases hp with rfl | rfl | rfl | rfl | rfl | rfl | rfl | rfl | rfl | rfl | rfl | rfl | rfl | rfl | rfl | rfl
 .exact a4S hx ha
 .exact a4V hy
 .exact a4R hx
 .exact a4T hx hy
 .exact Xf hy
 .exact a1k hx hy (k:="while") (by symm) (by symm)
 .exact a1k hx hy (k:="holds") (by symm) (by symm)
 .exact a4U hx hy
 .exact Xe hy
 .exact MD
 .exact a1q hy
 .exact a1n ha
 .exact Xg
 .exact g_row
 .exact MD
 .exact MD
noncomputable def Xd:List Rc:=[(.hp,true),(.an,true),(.nd,true),(.gv,true),(.st,true),(.wh,true),(.ho,true),(.fa,true),(.st,true),(.en,true),(.iF,true),(.st,true),(.el,true),(.st,true),(.en,true),(.en,true)]
def a40 (x y a:Str):(gC x y a).map (·.1)=Xd:=rfl
def Te (p:Nat)(hp:p<17)(c:Fc)(r:List Rc):Pe true (Xd.take p++(c,false)::r)=.er p:=by
 revert c;have all:∀p,p<17->p∈[0,1,2,3,4,5,6,7,8,9,10,11,12,13,14,15,16]:=by decide
 have:=all p hp;simp only[jak,jbb,or_false] at this;rcases this with rfl | rfl | rfl | rfl | rfl | rfl | rfl | rfl | rfl | rfl | rfl | rfl | rfl | rfl | rfl | rfl | rfl<;>intro c<;>cases c<;>rfl
structure TxC (t:Str)(xs:List Str)(b:Str)(ks:Cs):Prop where
 len:t.length<=9000000
 sp:Txt.split t "\n"=xs++[b]
 ln:xs.length<=100
 bd:∀x∈xs,x.length<=100000
 ws:(xs.map λx=>Txt.split x " ")=ks.map (·.2)
 ok:∀p∈ks,RwC p.1 p.2
def Sa:iX:=λds S k x=>∃(t:Str)(xs:jc2)(b:Str)(ks:Cs),ds=[.str t]/\TxC t xs b ks/\DP (∀t:T,k (.t t) S) x (Pe (decide (b="")) (dF ks))
def mY:fG:=λds S k=>∃(t:Str)(xs:jc2)(b:Str)(ks:Cs)(o:O),ds=[.str t]/\S=[o]/\TxC t xs b ks/\DP (∀o',k (.int (-1)) [o']) (λn=>∀o',k (.int n) [o']) (Pe (decide (b="")) (dF ks))
def XX (G:List Rc->Rs)(be:Bool)(f:Nat)(l:List Rc):Rs:=if l.isEmpty=true then(if be=true then .ok 0 else .er 0) else SA G be f l
section
variable {G:List Rc->Rs}{be:Bool}{f n:Nat}{l:List Rc}
theorem Ke:SA G be (f+1) l=match HM G l with
  |.ok n=>if(l.drop n).isEmpty=true then(if be=true then Rs.ok n else .er n) else(SA G be f (l.drop n)).sh n
  |.er n=>.er n
  |.uk=>.uk:=rfl
def CK (h:HM G l=.ok n):SA G be (f+1) l=(XX G be f (l.drop n)).sh n:=by
 rw[Ke,h];unfold XX;dsimp only;split
 .split<;>rfl
 .rfl
def SH (h:HM G l=.er n):SA G be (f+1) l=.er n:=by rw[Ke,h]
def SG (h:HM G l=.uk):SA G be (f+1) l=.uk:=by rw[Ke,h]
def Mz {b:Nat}(h:NR G b l=.ok n):n<=b+l.length/\1<=n:=by
 unfold NR at h;split at h
 .rename_i a e;have:=p8 e;split at h
  .rename_i c e2;have:=p8 e2;rw[jay] at this;have:=DH h;rw[jay] at this;omega
  .cases h
  .cases h
 .cases h
 .cases h
def De (h:HM G l=.ok n):n<=l.length/\1<=n:=by
 unfold HM at h;split at h
 .rename_i b r;cases b with
  |true=>have:=Mz h;rw[jaA,jaA];omega
  |false=>cases h
 .rename_i r _;have:=Mz h;rw[jaA];omega
 .cases h
end
abbrev Lr:=List (Rc×Str)
def tc (L:Lr):List T:=(L.map (·.2)).map T.str
def Ct (A B:Lr):tc (A++B)=tc A++tc B:=by unfold tc;rw[jaO,jaO]
def En (L:Lr)(n:Nat):(tc L).take n=tc (L.take n):=by unfold tc;rw[List.map_take,List.map_take]
def Eo (L:Lr)(n:Nat):(tc L).drop n=tc (L.drop n):=by unfold tc;rw[jan,jan]
def Cr (L:Lr):(tc L).length=L.length:=by unfold tc;rw[jad,jad]
def Jb (A:Lr)(c:Rc)(w:Str):tc A++[T.str w]=tc (A++[(c,w)]):=by rw[Ct];rfl
def jC (L:Lr):Str:=jnl (L.map (·.2))
structure LC (m:Nat)(L:Lr):Prop where
 ok:∀p∈L,RT p.1 p.2
 len:L.length<=m
 le:m<=80
theorem IW {t:Str}{L:Lr}(h:∀p∈L,RT p.1 p.2)(hl:L.length<=80)(e:cp t=((L.map (·.2)).map λx=>cp x++[10]).flatten) :
  TxC t (L.map (·.2)) "" (L.map λp=>(p.1,Txt.split p.2 " ")):=by
 have hm:∀x∈L.map (·.2),10∉cp x/\x.length<=100000:=λx hx=>by
  obtain⟨p,hp,rfl⟩:=jaY.mp hx;exact⟨(h p hp).nl,by have:=(h p hp).len;omega⟩
 refine⟨?_,?_,by rw[jad];omega,λx hx=>(hm x hx).2,by rw[ja3,ja3];rfl,λp hp=>?_⟩
 .have:=Bf λx hx=>(hm x hx).2;rw[jad] at this;rw[aW,e];have:(100000+1)*L.length<=(100000+1)*80:=Nat.mul_le_mul_left _ hl;omega
 .have e2:t=Txt.join "\n" (L.map (·.2)++[("":Str)]):=LY (b:="") (by rw[e,nD,jaK]);rw[e2,show("\n":Str)=⟨#[10]⟩ by symm];refine mV (by simp) λx hx=>?_;rcases jaU.mp hx with hx | hx
  .exact(hm x hx).1
  .rw[jaE.mp hx];symm
 .obtain⟨q,hq,rfl⟩:=jaY.mp hp;exact(h q hq).w
section
variable {L A B:Lr}{p:Rc×Str}{S:aO}{k:KD}{o:O}{n m j:Nat}{t:Str}
def LC.le' (h:LC m L):L.length<=80:=jap h.len h.le
def LC.app (a:LC m A)(b:LC j B)(h:m+j<=80):LC (m+j) (A++B):=⟨λp hp=>(jaU.mp hp).elim (a.ok p) (b.ok p),by rw[jaD];exact Nat.add_le_add a.len b.len,h⟩
def LC.take (a:LC m A)(n:Nat):LC m (A.take n):=⟨λp hp=>a.ok p (List.mem_of_mem_take hp),by rw[jci];exact jap (Nat.min_le_right _ _) a.len,a.le⟩
def LC.drop (a:LC m A)(n:Nat):LC m (A.drop n):=⟨λp hp=>a.ok p (jaR hp),by rw[jay];exact jap (Nat.sub_le _ _) a.len,a.le⟩
def LC.one (h:RT p.1 p.2):LC 1 [p]:=⟨λq hq=>by rw[jaE.mp hq];exact h,by simp,by decide⟩
def LC.sz (a:LC m A)(b:LC j B):(tc A).length+(tc B).length<=sizeLine:=by have:=a.le';have:=b.le';rw[Cr,Cr];exact um (by omega)
def LC.nP {t:T}(a:LC m A):(tc A).length+([t]:List T).length<=sizeLine:=by have:=a.le';rw[Cr];exact um (by simp;omega)
theorem WO (h:LC m L)(hk:k (.str (jC L)) S):kP [.lst (tc L)] S k:=⟨L.map Prod.snd,M,by rw[jad];exact h.le',λx hx=>by
 obtain⟨p,hp,rfl⟩:=jaY.mp hx;have:=(h.ok p hp).len;omega,hk⟩
def a0X (L:Lr):dF (L.map λp=>(p.1,Txt.split p.2 " "))=L.map (·.1):=by unfold dF;rw[ja3];rfl
def a0Y (h:LC m L)(hS:S=[o])(hp:Pe true (L.map (·.1))=.er n)(hk:∀o',k (.int n) [o']):mY [.str (jC L)] S k:=by
 refine⟨_,_,"",_,o,M,hS,IW h.ok h.le' (by unfold jC;rw[MZ]),?_⟩;rw[a0X,jag M,hp];exact hk
def a0W (h:LC m L)(hS:S=[o])(hp:Pe true (L.map (·.1))=.ok n)(hk:∀o',k (.int (-1)) [o']):mY [.str (jC L)] S k:=by
 refine⟨_,_,"",_,o,M,hS,IW h.ok h.le' (by unfold jC;rw[MZ]),?_⟩;rw[a0X,jag M,hp];exact hk
end
def JI:fG:=λds S k=>∃x y a:Str,ds=[.t (lsN [x,y,a])]/\isNm x=true/\isNm y=true/\isNm a=true/\k (.lst (tc (gC x y a))) S
def wX (L:jc2):fG:=λds S k=>ds=[]/\k (.lst (L.map T.str)) S
def RU:fG:=λds S k=>∃(c:Int)(x:Str),ds=[.int c,.sn x]/\isNm x=true/\∀(t:Str)(f:Fc),RT (f,false) t->k (.str t) S
def IU (L:jc2){jcY:Nat}(hM:L.length=jcY)(h0:0<jcY)(c:Int):∃t,t∈L/\nQ (L.map T.str) (c % (jcY:Int))=some (T.str t):=by
 have h1:=jbR c (show(jcY:Int)≠0 by omega);have h2:=jbN c (show(0:Int)<(jcY:Int) by omega);have e:c % (jcY:Int)=((c % (jcY:Int)).toNat:Int):=(jcV h1).symm;have hl:(c % (jcY:Int)).toNat<L.length:=by omega
 refine⟨L[(c % (jcY:Int)).toNat],List.getElem_mem hl,?_⟩;have:=b9 (xs:=L.map T.str) (j:=(c % (jcY:Int)).toNat) (v:=T.str L[(c % (jcY:Int)).toNat]) (by rw[jax,jaz hl];rfl);rw[<- e] at this;exact this
def Mq {α:Type}(A B R:List α)(q:α){f:Nat}(h:A.length<f):(A++q::B).take f++R=A++q::(B.take (f - A.length - 1)++R):=by
 rw[List.take_append,jbw (by omega)];obtain⟨k,e⟩:∃k,f - A.length=k+1:=⟨f - A.length - 1,by omega⟩
 rw[e,List.take_succ_cons,jaC];rfl
section
variable {te:bH}{u:iW}{E:mR}{Z:Sl}{o:O}{i n m:Nat}{L:Lr}
theorem Sy {r:Int}{kd:KD}(hL:LC m L)(hi:Z[i]?=some (some (.lst (tc L))))(hp:DP (r=-1) (λj=>r=j) (Pe true (L.map (·.1))))(h:∀o',kd (.int r) [o']) :
  i9 mY (aZ (i9 kP (aZ (cy i) cK)) cK) Z [o] kd:=by
 refine oe hi ?_;dsimp only[GV,cK];refine WO hL ?_;cases e:Pe true (L.map (·.1)) with
 |uk=>rw[e] at hp;exact hp.elim
 |ok j=>rw[e] at hp;exact a0W hL rfl e λo'=>by have:=h o';rw[show r=-1 from hp] at this;exact this
 |er j=>rw[e] at hp;exact a0Y hL rfl e λo'=>by have:=h o';rw[show r=j from hp] at this;exact this
theorem CI {r:Int}(hL:LC m L)(hi:Z[i]?=some (some (.lst (tc L))))(hp:DP (r=-1) (λj=>r=j) (Pe true (L.map (·.1))))(ht:∀S k,k (.int r) S->te Z S k)(h:∀o',E.nx Z [o']) :
  RM (qb (rZ (eq3 40 true) (i9 mY (aZ (i9 kP (aZ (cy i) cK)) cK)) te)) RK Jg E Z [o]:=by
 refine Sy hL hi hp λo'=>ht _ _ ⟨false,jae D.bl (xI M),?_⟩;show if false=true then _ else _
 rw[jaa (by decide)];exact h o'
end
end L3
set_option maxHeartbeats 8000000
namespace L3
open PySem L2 Hw PyProof.Rows
structure NC (K:Frag)(C:Addr):Prop where
 pg:plainGet K C Str.empty=true
 hd:hasDictIn K C=true
 po:plainOver K C=true
 sa:findIn K (.ref C) "__setattr__"=some (some (.builtin "object.__setattr__"))
 mi:makesIn K C=true
 kc:keepIn K (.ref C)=true
 ca:findIn K (.ref C) "__class__"=some (some (.builtin "object.__class__"))
 cm:mroIn K C (.type "object")=some true
def Nfs (K:Frag)(C:Addr):jc2->Prop
 |[]=>True
 |x::r=>findIn K (.ref C) x=some none/\Nfs K C r
structure Kc (K:Frag)(mg:Str->Option Value)(x:Str)(C:Addr)(fs:List Str):Prop where
 g:mg x=some (.ref C)
 q:NC K C
 k:rX K C []
 n:Nfs K C fs
noncomputable def top (i:Nat):Stmt:=PySem.Challenge.pw_holdwright_k14_rows_refused.main.body.getD i (.Pass ⟨0,0,0,0⟩)
structure Fx (K:Frag)(mg:Str->Option Value)(A:Ad):Prop where
 cN:mg "len"=none
 cW:mg "tuple"=none
 a5n:mg "list"=none
 Nc:mg "sorted"=none
 a1O:mg "int"=none
 a6r:mg "str"=none
 dz:mg "isinstance"=none
 t9:mg "range"=none
 a1P:mg "abs"=none
 xK:mg "all"=none
 pI:mg "ValueError"=none
 XQ:mg "bool"=none
 M9:Kc K mg "Sum" A.wz ["terms","number"]
 lC:Kc K mg "Compare" A.cS ["one","sign","other"]
 BC:Kc K mg "Turned" A.dS ["condition"]
 xC:Kc K mg "Several" A.bA []
 FU:Kc K mg "Every" A.gM ["conditions"]
 Na:Kc K mg "Some" A.kG ["conditions"]
 FT:Kc K mg "Let" A.wA ["at","name","total"]
 iV:Kc K mg "Divide" A.g8 ["at","name","word","total","by"]
 pH:Kc K mg "Fetch" A.kH ["at","name","row","place"]
 BD:Kc K mg "Put" A.BE ["at","row","place","total"]
 zJ:Kc K mg "Make" A.rT ["at","row","size"]
 zK:Kc K mg "Claim" A.kJ ["at","condition"]
 vF:Kc K mg "Call" A.rV ["at","names","helper","given"]
 kF:Kc K mg "Choose" A.gi ["at","condition","then","other"]
 iU:Kc K mg "Repeat" A.fF ["at","condition","keeps","falls","body"]
 fM:Kc K mg "Helper" A.g7 ["at","name","params","answers","needs","gives","steps"]
 xD:Kc K mg "Program" A.fN ["helpers"]
 zI:Kc K mg "Rows" A.dD ["rows","at"]
 kE:Kc K mg "Tokens" A.bZ ["tokens","place","at"]
 gB:∃t,mg "MOST_LETTERS"=some (.int 8 t)
 gD:∃t,mg "MOST_FIGURES"=some (.int 9 t)
 nA:∃t,mg "GREATEST"=some (.int 999999999 t)
 kS:∀j,j<4->kitOne K (.ref (TH A j)) (.ref A.bA)=some (decide (2<=j))
 iS:mg "NoText"=some (.ref A.aa)
 fK:mg "WritError"=some (.ref A.bQ)
 pe:mg "Fault"=some (.ref A.nF)
 o9:mg "NoRun"=some (.ref A.nE)
 iT:mg "NoSense"=some (.ref A.gK)
 iR:mg "TooHard"=some (.ref A.gJ)
 iQ:mg "TooMany"=some (.ref A.gI)
 gl:∀(x:Str)(a:Addr),nsIn K mainGlobals x=some (some (.ref a))->mg x=some (.ref a)
section
variable (P:Program)(w:World)(K:Frag)(mg:Str->jc7)(base:Heap)(k:Nat)(A:Ad)(n:Nat)(q:Bool)
abbrev dc:=Dn P w K mg base k "is_name" ["word"] (cY K Zs)
abbrev sL:=Dn P w K mg base k "are_figures" ["word"] (cY K JJ)
abbrev Rq:=qK P w K mg base k A.wz "Sum" ["self","terms","number"] (JC A)
abbrev pQ:=Dn P w K mg base k "as_pairs" ["pairs"] (cY K (EA A))
abbrev eK:=Ms P w K mg base k 1 (λ_=>A.bZ) "coming" ["self"] (λ_=>RY A)
abbrev nH:=Ms P w K mg base k 1 (λ_=>A.bZ) "take" ["self"] (λ_=>RX A)
abbrev pO:=Dn P w K mg base k "is_thing" ["word"] (cY K Zq)
abbrev pP:=Dn P w K mg base k "is_figure_row" ["word"] (cY K JK)
abbrev DW:=Dn P w K mg base k "sum_of" ["pairs","number"] (cY K (Ey A))
abbrev BL:=qK P w K mg base k A.cS "Compare" ["self","one","sign","other"] (Ay A.cS ["one","sign","other"])
abbrev qL:=Ms P w K mg base k 1 (λ_=>A.bZ) "take_until" ["self","ends"] (λ_=>RW A K)
abbrev DR:=qK P w K mg base k A.dS "Turned" ["self","condition"] (Ay A.dS ["condition"])
abbrev HF:=qK P w K mg base k A.gM "Every" ["self","conditions"] (CG A.gM)
abbrev Nq:=qK P w K mg base k A.kG "Some" ["self","conditions"] (CG A.kG)
abbrev Nt:=qK P w K mg base k A.rT "Make" ["self","at","row","size"] (Ay A.rT ["at","row","size"])
abbrev Rr:=qK P w K mg base k A.BE "Put" ["self","at","row","place","total"] (Ay A.BE ["at","row","place","total"])
abbrev Rt:=qK P w K mg base k A.wA "Let" ["self","at","name","total"] (Ay A.wA ["at","name","total"])
abbrev HE:=qK P w K mg base k A.kH "Fetch" ["self","at","name","row","place"] (Ay A.kH ["at","name","row","place"])
abbrev DU:=qK P w K mg base k A.g8 "Divide" ["self","at","name","word","total","by"] (Ay A.g8 ["at","name","word","total","by"])
abbrev Nu:=qK P w K mg base k A.rV "Call" ["self","at","names","helper","given"] (Si A)
abbrev eN:=Ms P w K mg base k 1 (λ_=>A.dD) "coming" ["self"] (λ_=>R8 A)
abbrev HG:=qK P w K mg base k A.kJ "Claim" ["self","at","condition"] (Ay A.kJ ["at","condition"])
abbrev DV:=qK P w K mg base k A.gi "Choose" ["self","at","condition","then","other"] (JM A)
abbrev DS:=qK P w K mg base k A.fF "Repeat" ["self","at","condition","keeps","falls","body"] (Ez A)
abbrev DT:=qK P w K mg base k A.g7 "Helper" ["self","at","name","params","answers","needs","gives","steps"] (Sf A)
abbrev BK:=qK P w K mg base k A.fN "Program" ["self","helpers"] (Sd A)
abbrev Nr:=qK P w K mg base k A.dD "Rows" ["self","rows"] (R7 A)
abbrev iy:=Dn P w K mg base k "_law_mixed" ["_law_cell","_law_k"] (cY K Se)
abbrev zS:=Dn P w K mg base k "_law_kept" [] (cY K JH)
abbrev zQ:=Dn P w K mg base k "_law_next" ["_law_draw","_law_size"] (cY K Zr)
abbrev nI:=Dn P w K mg base k "_law_wrong_sums" [] (cY K (wX YI))
abbrev iw:=Dn P w K mg base k "_law_wrong_conditions" [] (cY K (wX YL))
abbrev nJ:=Dn P w K mg base k "_law_wrong_rows" [] (cY K (wX YJ))
abbrev sI:=Dn P w K mg base k "_law_refused" ["_law_text"] (cY K mY)
abbrev zR:=Dn P w K mg base k "_law_laid" ["_law_rows_here"] (cY K kP)
abbrev wG:=Dn P w K mg base k "_law_wrong" ["_law_cell","_law_name"] (cY K RU)
abbrev sJ:=Dn P w K mg base k "_law_cell_at" ["_law_script","_law_k"] (cY K JN)
abbrev zP:=Dn P w K mg base k "_law_rows" ["_law_names_here"] (cY K JI)
abbrev wH:=Dn P w K mg base k "_law_names" ["_law_draw","_law_many"] (cY K JF)
end
section
variable {P:Program}{w:World}{K:Frag}{mg:Str->jc7}{base:Heap}{k:Nat}{f:Addr}{fd:FuncData}{A:Ad}{n:Nat}
seal L2.PE L2.PS L2.b5 L2.PA L2.PT QE QT QA QS cH QW
abbrev yI:Stmt:=top 49
def OJ:au ["word"] ["word"] (ah yI):=dw
seal bf in
def P9 (J:Fx K mg A)(F:b6 K "are_figures" "are_figures" yI f fd):aG P w K mg base dh (k+1) f fd ["word"] (cY K JJ):=by
 refine dJ F OJ λAT B outer s H E hr=>?_;rw[show ak yI=[_] from rfl];refine⟨_,(bK (aA (aJ (xB M) (by rfl) J.xK boot_all (qa (fP (bN ["sign"] [] [] rfl (by symm) (by symm) (by with_unfolding_all rfl) (by exact trivial) (by rfl) rfl (by rfl)) rfl (SI q_r) (λ_ _ _ _=>(qx (i:=0) (show List.Nodup (["sign"]:jc2) by symm))) (λ_ _ _ _=>dQ) (λ_ _ _ _=>(EN E2 E2 aN q_r aN))) az)))),λds S kk hc hd h=>?_⟩;obtain⟨z,rfl,hz,h⟩:=h;refine⟨z,M,FG (λc=>T.bl (wm c)) trivial (nP (by omega)) (λc _ k' hk=>?_) ?_⟩
 .refine(chS ?_);rw[le_0,a4b];exact⟨_,M,hk⟩
 .refine⟨(cp z).map wm,?_,jL hc ?_⟩
  .rw[ja3];rfl
  .show kk (D.bl ((List.map wm (cp z)).all _root_.id)) S;rw[F2];exact h
abbrev yG:Stmt:=top 46
def OH:au ["word"] ["word"] (ah yG):=dw
seal bf in
def P7 (J:Fx K mg A){jA:Addr}(zo:mg "KEPT_WORDS"=some (.ref jA))(zj:∀H:Hp,kL K H jA ((["helper","answers","needs","gives","end","let","div","mod","put","row","at","if","else","while","holds","falls","call","claim","and","or","not"]:jc2).map V.str))(F:b6 K "is_name" "is_name" yG f fd):aG P w K mg base dh (k+1) f fd ["word"] (cY K Zs):=by
 obtain⟨Jc,gB⟩:=J.gB;refine dJ F OH λAT B outer s H E hr=>?_;rw[show ak yG=[_,_] from rfl];refine⟨_,(qs (cz (qw (w5 (uN (AK LB LB aT (aJ cM (by rfl) J.cN jaL aq) (jh (dm (v:=.int 8) rfl gB ⟨_,M⟩)))) (yM (aS (a0z zj) q_r (jh (dm (v:=.ref jA) rfl zo M)) (by rfl))))) (bK (aA VB)) bJ) (bK (aA (aJ (xB M) (by rfl) J.xK boot_all (qa (fP (bN ["sign"] [] [] rfl (by symm) (by symm) (by with_unfolding_all rfl) (by exact trivial) (by rfl) rfl (by rfl)) rfl (SI q_r) (λ_ _ _ _=>(qx (i:=0) (show List.Nodup (["sign"]:jc2) by symm))) (λ_ _ _ _=>dQ) (λ_ _ _ _=>(EN E2 E2 aN q_r aN))) az))))),λds S kk hc hd h=>?_⟩;obtain⟨z,rfl,hz,h⟩:=h;refine⟨nP (by omega),chI ⟨_,M,?_⟩⟩
 try dsimp only
 by_cases e:1<=z.length/\z.length<=8
 .rw[jaa (by simp;omega)];refine⟨z,M,M,_,M,?_⟩;show if(xor false (decide (z∈o5)))=true then _ else _
  rw[jaS];by_cases m:z∈o5
  .rw[jab (jag m)];refine jL hc ?_;have q:isNm z=false:=by unfold isNm;rw[jag m];simp
   rw[q] at h;exact h
  .rw[jaa (by simp[m])];refine⟨z,M,FG (λc=>T.bl (d8 c)) trivial (nP (by omega)) (λc _ k' hk=>?_) ?_⟩
   .refine(chS ?_);rw[a4a,a39];exact⟨_,M,hk⟩
   .refine⟨(cp z).map d8,?_,jL hc ?_⟩
    .rw[ja3];rfl
    .show kk (D.bl ((List.map d8 (cp z)).all _root_.id)) S;rw[F2];have q:isNm z=(cp z).all d8:=by unfold isNm;rw[jag e.1,jag e.2,jaf m];rfl
     rw[q] at h;exact h
 .rw[jab (by simp;omega)];refine jL hc ?_;have q:isNm z=false:=by
   unfold isNm;have:(decide (1<=z.length)&&decide (z.length<=8))=false:=by simp;omega
   rw[this];rfl
  rw[q] at h;exact h
abbrev yF:Stmt:=top 47
def OG:au ["word"] ["word"] (ah yF):=dw
seal bf in
def P6 (J:Fx K mg A)(bE:dc P w K mg base k)(F:b6 K "is_thing" "is_thing" yF f fd):aG P w K mg base dh (k+1) f fd ["word"] (cY K Zq):=by
 refine dJ F OG λAT B outer s H E hr=>?_;rw[show ak yF=[_] from rfl];refine⟨_,(bK (aA (Z1 (aU bE hr rfl aq) (kj (gX (SJ q_r aq) (kj (aU bE hr rfl (qa (fJ false q_r (bg aT) bq) az)))))))),λds S kk hc hd h=>?_⟩;obtain⟨z,rfl,hz,h⟩:=h;refine⟨z,M,hz,_,M,?_⟩;by_cases e:isNm z=true
 .rw[jab e];refine jL hc ?_;have q:dW z=true:=by unfold dW;rw[e];rfl
  rw[q] at h;exact h
 .rw[jaa e];have e':isNm z=false:=Bool.eq_false_iff.mpr e;refine⟨M,_,M,?_⟩;by_cases s':Txt.startswith z "#"=true
  .rw[jab s'];refine⟨nP (by omega),_,M,?_,jL hc ?_⟩
   .exact jap (PyProof.Txt.length_slice_le _ _ _) hz
   .have q:dW z=isNm (Txt.slice z (some 1) none):=by unfold dW;rw[e',s'];rfl
    rw[q] at h;exact h
  .rw[jaa s'];refine jL hc ?_;have q:dW z=false:=by unfold dW;rw[e',Bool.eq_false_iff.mpr s'];rfl
   rw[q] at h;exact h
abbrev yJ:Stmt:=top 48
def OL:au ["word"] ["word"] (ah yJ):=dw
seal bf in
def Qa (J:Fx K mg A)(wu:sL P w K mg base k)(F:b6 K "is_figure_row" "is_figure_row" yJ f fd):aG P w K mg base dh (k+1) f fd ["word"] (cY K JK):=by
 obtain⟨Jd,gD⟩:=J.gD;refine dJ F OL λAT B outer s H E hr=>?_;rw[show ak yJ=[_,_] from rfl];refine⟨_,(qs (cz (qw (w5 (uN (AK LB LB aT (aJ cM (by rfl) J.cN jaL aq) (jh (dm (v:=.int 9) rfl gD ⟨_,M⟩)))) (yM (qw (yN (aS (eB 40 (uE hr)) q_r aN (aH _)) (tS (aS (yZ 40 (uE hr)) q_r aN (aH _)))))))) (bK (aA VB)) bJ) (bK (aA (aU wu hr rfl aq)))),λds S kk hc hd h=>?_⟩;obtain⟨z,rfl,hz,h⟩:=h;refine⟨nP (by omega),chI ⟨_,M,?_⟩⟩
 try dsimp only
 by_cases e:1<=z.length/\z.length<=9
 .rw[jaa (by simp;omega)];obtain⟨c,r,hcp⟩:∃c r,cp z=c::r:=by
   cases q:cp z with
   |nil=>rw[aW,q] at e;simp at e
   |cons c r=>exact⟨c,r,M⟩
  refine⟨nP (by omega),c,?_,?_⟩
  .show nQ (cp z) 0=some c;rw[hcp];exact b9 (xs:=c::r) (j:=0) rfl
  have hd0:decide ((cp z).head?=some 48)=decide (c=48):=by rw[hcp];simp
  refine⟨_,M,?_⟩
  try dsimp only
  have qf:gb z=(!(decide (c=48)&&decide (z≠"0"))&&MM z):=by unfold gb;rw[jag e.1,jag e.2,hd0];rfl
  by_cases c0:c=48
  .subst c0;rw[jab (by symm)];refine⟨_,M,?_⟩
   try dsimp only
   by_cases z0:z="0"
   .rw[jaa (by rw[z0];symm)];refine⟨z,M,hz,jL hc ?_⟩;have q:gb z=MM z:=by rw[qf,z0];rfl
    rw[q] at h;exact h
   .have ne:¬(V.str z=V.str "0"):=λw'=>z0 (V.str.inj w');rw[jab (by rw[jaf ne];rfl)];refine jL hc ?_;have q:gb z=false:=by rw[qf];simp[z0]
    rw[q] at h;exact h
  .have ne:¬(V.str ⟨#[c]⟩=V.str "0"):=λw'=>c0 (by have:=jae Str.cps (V.str.inj w');injection this with this;injection this);rw[jaa (by rw[jaf ne];decide)];refine⟨z,M,hz,jL hc ?_⟩;have q:gb z=MM z:=by rw[qf,jaf c0];rfl
   rw[q] at h;exact h
 .rw[jab (by simp;omega)];refine jL hc ?_;have q:gb z=false:=by
   unfold gb;have:(decide (1<=z.length)&&decide (z.length<=9))=false:=by simp;omega
   rw[this];rfl
  rw[q] at h;exact h
abbrev jd:Stmt:=inClass (top 10) 0
def AF:au ["self","terms","number"] ["self","terms","number"] (ah jd):=dw
seal bf in
def AU (J:Fx K mg A)(F:b6 K "__init__" "Sum.__init__" jd f fd):aG P w K mg base dh (k+1) f fd ["self","terms","number"] (cY K (JC A)):=by
 refine dJ F AF λAT B outer s H E hr=>?_;rw[show ak jd=[_,_] from rfl];refine⟨_,(qs (aL q_r (bX cV (by rfl) J.cW jbh (qa (fP (bN ["pair"] [] [] rfl (by symm) (by symm) (by with_unfolding_all rfl) (by exact trivial) (by rfl) rfl (by rfl)) rfl (qi q_r) (λ_ _ _ _=>(qx (i:=0) (show List.Nodup (["pair"]:jc2) by symm))) (λ_ _ _ _=>dQ) (λ_ _ _ _=>(bX cV (by rfl) J.cW jbh aq))) az)) M) (bK (aL q_r q_r M))),λds S kk hc hd h=>?_⟩;obtain⟨i,d,l,m,rfl,h1,h2,h3,h4⟩:=h;refine(Ml h2 λG hG=>jt pT pT (by simpa using hG []) (nP (by omega)) (λx _ k' hk=>⟨_,M,hk⟩) ?_);refine⟨i,A.wz,[],[],M,h1,J.M9.n.1,by decide,i,_,_,_,M,jaI (jao.mp h1).1,J.M9.n.2.1,by decide,?_⟩;rw[jaq];exact .inr (.inr (.inr h4))
abbrev oH:Stmt:=top 11
def kQ:au ["pairs","number","weights","thing","weight"] ["pairs","number"] (ah oH):=dw
seal bf in
def GL (J:Fx K mg A)(a03:Rq P w K mg base k A)(F:b6 K "sum_of" "sum_of" oH f fd):aG P w K mg base dh (k+1) f fd ["pairs","number"] (cY K (Ey A)):=by
 refine dJ F kQ λAT B outer s H E hr=>?_;rw[show ak oH=[_,_,_] from rfl];refine⟨_,(qs (aj (i:=2) kQ.nd VA) (qs (nh jcH rfl (qi q_r) (yP (n:=2) rfl (HK (qg (i:=3) kQ.nd) (HK (qg (i:=4) kQ.nd) oW))) (bK (EJ (rN hr) q_r q_r (aP aF (EM (rN hr) q_r q_r aT) q_r)))) (bK (aA (lH a03 hr rfl (qa (fP (bN ["thing"] ["weights"] [2] rfl (by symm) (by symm) (by with_unfolding_all rfl) (by exact⟨M,trivial⟩) (by rfl) rfl (by rfl)) rfl (qi (aJ (Rf M) (by rfl) J.Nc boot_sorted aq)) (λ_ _ _ _=>(qx (i:=0) (show List.Nodup (["thing","weights"]:jc2) by symm))) (λ_ _ _ _=>(EI (aS (yZ 40 (uE hr)) (Kq (rN hr) q_r q_r) aT (aH _)))) (λ_ _ _ _=>(rq (qa q_r (qa (Kq (rN hr) q_r q_r) az))))) aq)))))),λds S kk hc hd h=>?_⟩;obtain⟨d,l,m,rfl,h2,h3,h4⟩:=h;refine(S8 h2 λG hG=>MG pT (λpre Z S'=>∃x y dd,Z=[some d,some (.int m),some (.ob S.length),x,y]/\S'=S++[O.sy dd]/\wI pre dd) ⟨_,_,_,M,M,.nil⟩ ?_ ?_)
 .rintro pre ⟨x,v⟩ post Z S' N rfl ⟨x0,y0,dd,rfl,rfl,hz⟩ hN;refine⟨hG _,_,M,M,_,_,M,_,_,M,M,?_⟩;have hl:dd.length<sizeLine:=Es (by have:=hz.len;simp at h3;omega);refine⟨_,_,M,aB,_,_,aB,M,?_⟩;rw[hz.val x];by_cases hx:x∈pre.map (·.1)
  .rw[jab hx];refine⟨_,_,_,_,M,aB,M,M,hl,?_⟩;rw[b7];exact hN _ _ ⟨_,_,_,M,M,hz.snoc x v M⟩
  .rw[jaa hx];refine⟨_,_,_,_,M,aB,M,M,hl,?_⟩;rw[b7];exact hN _ _ ⟨_,_,_,M,M,hz.snoc x v (by rw[Cg hx])⟩
 .rintro Z S' ⟨x0,y0,dd,rfl,rfl,hz⟩;refine⟨hG _,?_⟩;obtain⟨ss,k1,k2,k3⟩:=hz.keys;refine⟨_,_,aB,k1,k2,by have:=hz.len;omega,?_⟩;rw[U0 k3];have hsl:=xZ (l.map (·.1));rw[jad] at hsl;refine rM (Dv T.str (λx=>if wt l x≠0 then some (pT (x,wt l x)) else none) trivial (nP (by omega)) ?_ ?_)
  .intro x hx k' hk;have hv:gF dd (Sum.inr x)=some (.int (wt l x)):=by rw[hz.val x,jab (oB.mp hx)]
   refine⟨_,_,_,_,M,aB,M,hv,_,M,?_⟩;rw[Dc,jb7];by_cases hw:wt l x=0
   .rw[jag hw];rw[jaa (by simpa using hw)] at hk;exact hk
   .rw[jaf hw];rw[jab hw] at hk;exact⟨_,_,_,_,M,aB,M,hv,_,M,hk⟩
  .rw[Qf];have hnl:=LJ l;exact⟨_,_,norm l,m,M,aB,M,by omega,made (Q6 hc h4)⟩
abbrev eg:Stmt:=inClass (top 17) 0
def r9:au ["self","one","sign","other"] ["self","one","sign","other"] (ah eg):=dw
seal bf in
def sf (J:Fx K mg A)(F:b6 K "__init__" "Compare.__init__" eg f fd):aG P w K mg base dh (k+1) f fd ["self","one","sign","other"] (cY K (Ay A.cS ["one","sign","other"])):=by
 refine zA F r9 (λds S kk h=>by obtain⟨i,l,rfl,hl,h1,h4⟩:=h;simpa using hl) λAT B outer s H E hr=>?_;rw[show ak eg=[_,_,_] from rfl];refine⟨_,(qs (aL q_r q_r M) (qs (aL q_r q_r M) (bK (aL q_r q_r M)))),λds S kk hc hd h=>?_⟩;obtain⟨i,l,rfl,hl,h1,h4⟩:=h;obtain⟨x0,x1,x2,rfl⟩:∃x0 x1 x2,l=[x0,x1,x2]:=ln3 hl;have hz:=(jao.mp h1).1;refine⟨_,_,_,_,M,h1,J.lC.n.1,by decide,_,_,_,_,M,(jaI (by first | exact hz | (simp only[jaQ];exact hz))),J.lC.n.2.1,by decide,_,_,_,_,M,(jaI (by first | exact hz | (simp only[jaQ];exact hz))),J.lC.n.2.2.1,by decide,?_⟩;rw[jaq];rw[jaq];exact .inr (.inr (.inr h4))
abbrev fh:Stmt:=inClass (top 18) 0
def uF:au ["self","condition"] ["self","condition"] (ah fh):=dw
seal bf in
def uX (J:Fx K mg A)(F:b6 K "__init__" "Turned.__init__" fh f fd):aG P w K mg base dh (k+1) f fd ["self","condition"] (cY K (Ay A.dS ["condition"])):=by
 refine zA F uF (λds S kk h=>by obtain⟨i,l,rfl,hl,h1,h4⟩:=h;simpa using hl) λAT B outer s H E hr=>?_;rw[show ak fh=[_] from rfl];refine⟨_,(bK (aL q_r q_r M)),λds S kk hc hd h=>?_⟩;obtain⟨i,l,rfl,hl,h1,h4⟩:=h;obtain⟨x0,rfl⟩:∃x0,l=[x0]:=ln1 hl;have hz:=(jao.mp h1).1;refine⟨_,_,_,_,M,h1,J.BC.n.1,by decide,?_⟩;exact .inr (.inr (.inr h4))
abbrev jf:Stmt:=inClass (top 26) 0
def AH:au ["self","at","name","total"] ["self","at","name","total"] (ah jf):=dw
seal bf in
def AW (J:Fx K mg A)(aV:Cm P w K mg base k "Step" "__init__" ["self","at"] (jY K))(F:b6 K "__init__" "Let.__init__" jf f fd):aG P w K mg base dh (k+1) f fd ["self","at","name","total"] (cY K (Ay A.wA ["at","name","total"])):=by
 refine zA F AH (λds S kk h=>by obtain⟨i,l,rfl,hl,h1,h4⟩:=h;simpa using hl) λAT B outer s H E hr=>?_;rw[show ak jf=[_,_,_] from rfl];refine⟨_,(qs (bO (jj aV hr rfl aq)) (qs (aL q_r q_r M) (bK (aL q_r q_r M)))),λds S kk hc hd h=>?_⟩;obtain⟨i,l,rfl,hl,h1,h4⟩:=h;obtain⟨x0,x1,x2,rfl⟩:∃x0 x1 x2,l=[x0,x1,x2]:=ln3 hl;have hz:=(jao.mp h1).1;refine⟨_,_,_,M,h1,J.FT.n.1,_,_,_,_,M,(jaI (by first | exact hz | (simp only[jaQ];exact hz))),J.FT.n.2.1,by decide,_,_,_,_,M,(jaI (by first | exact hz | (simp only[jaQ];exact hz))),J.FT.n.2.2.1,by decide,?_⟩;rw[jaq];rw[jaq];exact .inr (.inr (.inr h4))
abbrev fq:Stmt:=inClass (top 27) 0
def uI:au ["self","at","name","word","total","by"] ["self","at","name","word","total","by"] (ah fq):=dw
seal bf in
def u5 (J:Fx K mg A)(aV:Cm P w K mg base k "Step" "__init__" ["self","at"] (jY K))(F:b6 K "__init__" "Divide.__init__" fq f fd):aG P w K mg base dh (k+1) f fd ["self","at","name","word","total","by"] (cY K (Ay A.g8 ["at","name","word","total","by"])):=by
 refine zA F uI (λds S kk h=>by obtain⟨i,l,rfl,hl,h1,h4⟩:=h;simpa using hl) λAT B outer s H E hr=>?_;rw[show ak fq=[_,_,_,_,_] from rfl];refine⟨_,(qs (bO (jj aV hr rfl aq)) (qs (aL q_r q_r M) (qs (aL q_r q_r M) (qs (aL q_r q_r M) (bK (aL q_r q_r M)))))),λds S kk hc hd h=>?_⟩;obtain⟨i,l,rfl,hl,h1,h4⟩:=h;obtain⟨x0,x1,x2,x3,x4,rfl⟩:∃x0 x1 x2 x3 x4,l=[x0,x1,x2,x3,x4]:=ln5 hl;have hz:=(jao.mp h1).1;refine⟨_,_,_,M,h1,J.iV.n.1,_,_,_,_,M,(jaI (by first | exact hz | (simp only[jaQ];exact hz))),J.iV.n.2.1,by decide,_,_,_,_,M,(jaI (by first | exact hz | (simp only[jaQ];exact hz))),J.iV.n.2.2.1,by decide,_,_,_,_,M,(jaI (by first | exact hz | (simp only[jaQ];exact hz))),J.iV.n.2.2.2.1,by decide,_,_,_,_,M,(jaI (by first | exact hz | (simp only[jaQ];exact hz))),J.iV.n.2.2.2.2.1,by decide,?_⟩;rw[jaq];rw[jaq];rw[jaq];rw[jaq];exact .inr (.inr (.inr h4))
abbrev fX:Stmt:=inClass (top 28) 0
def v9:au ["self","at","name","row","place"] ["self","at","name","row","place"] (ah fX):=dw
seal bf in
def we (J:Fx K mg A)(aV:Cm P w K mg base k "Step" "__init__" ["self","at"] (jY K))(F:b6 K "__init__" "Fetch.__init__" fX f fd):aG P w K mg base dh (k+1) f fd ["self","at","name","row","place"] (cY K (Ay A.kH ["at","name","row","place"])):=by
 refine zA F v9 (λds S kk h=>by obtain⟨i,l,rfl,hl,h1,h4⟩:=h;simpa using hl) λAT B outer s H E hr=>?_;rw[show ak fX=[_,_,_,_] from rfl];refine⟨_,(qs (bO (jj aV hr rfl aq)) (qs (aL q_r q_r M) (qs (aL q_r q_r M) (bK (aL q_r q_r M))))),λds S kk hc hd h=>?_⟩;obtain⟨i,l,rfl,hl,h1,h4⟩:=h;obtain⟨x0,x1,x2,x3,rfl⟩:∃x0 x1 x2 x3,l=[x0,x1,x2,x3]:=ln4 hl;have hz:=(jao.mp h1).1;refine⟨_,_,_,M,h1,J.pH.n.1,_,_,_,_,M,(jaI (by first | exact hz | (simp only[jaQ];exact hz))),J.pH.n.2.1,by decide,_,_,_,_,M,(jaI (by first | exact hz | (simp only[jaQ];exact hz))),J.pH.n.2.2.1,by decide,_,_,_,_,M,(jaI (by first | exact hz | (simp only[jaQ];exact hz))),J.pH.n.2.2.2.1,by decide,?_⟩;rw[jaq];rw[jaq];rw[jaq];exact .inr (.inr (.inr h4))
abbrev je:Stmt:=inClass (top 29) 0
def AG:au ["self","at","row","place","total"] ["self","at","row","place","total"] (ah je):=dw
seal bf in
def AV (J:Fx K mg A)(aV:Cm P w K mg base k "Step" "__init__" ["self","at"] (jY K))(F:b6 K "__init__" "Put.__init__" je f fd):aG P w K mg base dh (k+1) f fd ["self","at","row","place","total"] (cY K (Ay A.BE ["at","row","place","total"])):=by
 refine zA F AG (λds S kk h=>by obtain⟨i,l,rfl,hl,h1,h4⟩:=h;simpa using hl) λAT B outer s H E hr=>?_;rw[show ak je=[_,_,_,_] from rfl];refine⟨_,(qs (bO (jj aV hr rfl aq)) (qs (aL q_r q_r M) (qs (aL q_r q_r M) (bK (aL q_r q_r M))))),λds S kk hc hd h=>?_⟩;obtain⟨i,l,rfl,hl,h1,h4⟩:=h;obtain⟨x0,x1,x2,x3,rfl⟩:∃x0 x1 x2 x3,l=[x0,x1,x2,x3]:=ln4 hl;have hz:=(jao.mp h1).1;refine⟨_,_,_,M,h1,J.BD.n.1,_,_,_,_,M,(jaI (by first | exact hz | (simp only[jaQ];exact hz))),J.BD.n.2.1,by decide,_,_,_,_,M,(jaI (by first | exact hz | (simp only[jaQ];exact hz))),J.BD.n.2.2.1,by decide,_,_,_,_,M,(jaI (by first | exact hz | (simp only[jaQ];exact hz))),J.BD.n.2.2.2.1,by decide,?_⟩;rw[jaq];rw[jaq];rw[jaq];exact .inr (.inr (.inr h4))
abbrev gT:Stmt:=inClass (top 30) 0
def yo:au ["self","at","row","size"] ["self","at","row","size"] (ah gT):=dw
seal bf in
def yW (J:Fx K mg A)(aV:Cm P w K mg base k "Step" "__init__" ["self","at"] (jY K))(F:b6 K "__init__" "Make.__init__" gT f fd):aG P w K mg base dh (k+1) f fd ["self","at","row","size"] (cY K (Ay A.rT ["at","row","size"])):=by
 refine zA F yo (λds S kk h=>by obtain⟨i,l,rfl,hl,h1,h4⟩:=h;simpa using hl) λAT B outer s H E hr=>?_;rw[show ak gT=[_,_,_] from rfl];refine⟨_,(qs (bO (jj aV hr rfl aq)) (qs (aL q_r q_r M) (bK (aL q_r q_r M)))),λds S kk hc hd h=>?_⟩;obtain⟨i,l,rfl,hl,h1,h4⟩:=h;obtain⟨x0,x1,x2,rfl⟩:∃x0 x1 x2,l=[x0,x1,x2]:=ln3 hl;have hz:=(jao.mp h1).1;refine⟨_,_,_,M,h1,J.zJ.n.1,_,_,_,_,M,(jaI (by first | exact hz | (simp only[jaQ];exact hz))),J.zJ.n.2.1,by decide,_,_,_,_,M,(jaI (by first | exact hz | (simp only[jaQ];exact hz))),J.zJ.n.2.2.1,by decide,?_⟩;rw[jaq];rw[jaq];exact .inr (.inr (.inr h4))
abbrev fY:Stmt:=inClass (top 31) 0
def wc:au ["self","at","condition"] ["self","at","condition"] (ah fY):=dw
seal bf in
def wg (J:Fx K mg A)(aV:Cm P w K mg base k "Step" "__init__" ["self","at"] (jY K))(F:b6 K "__init__" "Claim.__init__" fY f fd):aG P w K mg base dh (k+1) f fd ["self","at","condition"] (cY K (Ay A.kJ ["at","condition"])):=by
 refine zA F wc (λds S kk h=>by obtain⟨i,l,rfl,hl,h1,h4⟩:=h;simpa using hl) λAT B outer s H E hr=>?_;rw[show ak fY=[_,_] from rfl];refine⟨_,(qs (bO (jj aV hr rfl aq)) (bK (aL q_r q_r M))),λds S kk hc hd h=>?_⟩;obtain⟨i,l,rfl,hl,h1,h4⟩:=h;obtain⟨x0,x1,rfl⟩:∃x0 x1,l=[x0,x1]:=ln2 hl;have hz:=(jao.mp h1).1;refine⟨_,_,_,M,h1,J.zK.n.1,_,_,_,_,M,(jaI (by first | exact hz | (simp only[jaQ];exact hz))),J.zK.n.2.1,by decide,?_⟩;rw[jaq];exact .inr (.inr (.inr h4))
abbrev gS:Stmt:=inClass (top 25) 0
def ym:au ["self","at"] ["self","at"] (ah gS):=dw
seal bf in
def yV (J:Fx K mg A)(F:b6 K "__init__" "Step.__init__" gS f fd):aG P w K mg base dh (k+1) f fd ["self","at"] (cY K (jY K)):=by
 refine dJ F ym λAT B outer s H E hr=>?_;rw[show ak gS=[_] from rfl];refine⟨_,(bK (aL q_r q_r M)),λds S kk hc hd h=>?_⟩;obtain⟨i,x,C,rfl,h1,h2,h4⟩:=h;refine⟨_,_,_,_,M,h1,h2,by decide,.inr (.inr (.inr h4))⟩
abbrev c7:Stmt:=inClass (top 19) 0
def r6:au ["self","conditions"] ["self","conditions"] (ah c7):=dw
seal bf in
def jJ {C:Addr}(hn:iu K C "conditions")(J:Fx K mg A)(F:b6 K "__init__" "Several.__init__" c7 f fd):aG P w K mg base dh (k+1) f fd ["self","conditions"] (cY K (CG C)):=by
 refine dJ F r6 λAT B outer s H E hr=>?_;rw[show ak c7=[_] from rfl];refine⟨_,(bK (aL q_r (bX cV (by rfl) J.cW jbh aq) M)),λds S kk hc hd h=>?_⟩;obtain⟨i,d,l,rfl,h1,h2,h4⟩:=h;refine(oe (lX h2) ⟨_,_,_,_,M,h1,hn,by decide,.inr (.inr (.inr h4))⟩)
abbrev gU:Stmt:=inClass (top 34) 0
def yp:au ["self","at","names","helper","given"] ["self","at","names","helper","given"] (ah gU):=dw
seal bf in
def yX (J:Fx K mg A)(aV:Cm P w K mg base k "Step" "__init__" ["self","at"] (jY K))(F:b6 K "__init__" "Call.__init__" gU f fd):aG P w K mg base dh (k+1) f fd ["self","at","names","helper","given"] (cY K (Si A)):=by
 refine dJ F yp λAT B outer s H E hr=>?_;rw[show ak gU=[_,_,_,_] from rfl];refine⟨_,(qs (bO (jj aV hr rfl aq)) (qs (aL q_r (bX cV (by rfl) J.cW jbh aq) M) (qs (aL q_r q_r M) (bK (aL q_r (bX cV (by rfl) J.cW jbh aq) M))))),λds S kk hc hd h=>?_⟩;obtain⟨i,a,d1,d2,ns,hp,g,rfl,h1,e1,e2,hk⟩:=h;have hz:=(jao.mp h1).1;refine⟨_,_,_,M,h1,J.vF.n.1,?_⟩;refine(oe (lX (gp h1 e1)) ⟨_,_,_,_,M,dH hz,J.vF.n.2.1,by decide,?_⟩);rw[jaq];refine⟨_,_,_,_,M,dH hz,J.vF.n.2.2.1,by decide,?_⟩;rw[jaq];refine(oe (lX (gp h1 e2)) ⟨_,_,_,_,M,dH hz,J.vF.n.2.2.2.1,by decide,?_⟩);rw[jaq];exact .inr (.inr (.inr hk))
abbrev fB:Stmt:=inClass (top 32) 0
def uJ:au ["self","at","condition","then","other"] ["self","at","condition","then","other"] (ah fB):=dw
seal bf in
def u6 (J:Fx K mg A)(aV:Cm P w K mg base k "Step" "__init__" ["self","at"] (jY K))(F:b6 K "__init__" "Choose.__init__" fB f fd):aG P w K mg base dh (k+1) f fd ["self","at","condition","then","other"] (cY K (JM A)):=by
 refine dJ F uJ λAT B outer s H E hr=>?_;rw[show ak fB=[_,_,_,_] from rfl];refine⟨_,(qs (bO (jj aV hr rfl aq)) (qs (aL q_r q_r M) (qs (aL q_r (bX cV (by rfl) J.cW jbh aq) M) (bK (aL q_r (bX cV (by rfl) J.cW jbh aq) M))))),λds S kk hc hd h=>?_⟩;obtain⟨i,a,c,d1,d2,t,e,rfl,h1,e1,e2,hk⟩:=h;have hz:=(jao.mp h1).1;refine⟨_,_,_,M,h1,J.kF.n.1,_,_,_,_,M,dH hz,J.kF.n.2.1,by decide,?_⟩;rw[jaq];refine(oe (lX (gp h1 e1)) ⟨_,_,_,_,M,dH hz,J.kF.n.2.2.1,by decide,?_⟩);rw[jaq];refine(oe (lX (gp h1 e2)) ⟨_,_,_,_,M,dH hz,J.kF.n.2.2.2.1,by decide,?_⟩);rw[jaq];exact .inr (.inr (.inr hk))
abbrev fj:Stmt:=inClass (top 33) 0
def uG:au ["self","at","condition","keeps","falls","body"] ["self","at","condition","keeps","falls","body"] (ah fj):=dw
seal bf in
def uY (J:Fx K mg A)(jx:pQ P w K mg base k A)(aV:Cm P w K mg base k "Step" "__init__" ["self","at"] (jY K))(F:b6 K "__init__" "Repeat.__init__" fj f fd):aG P w K mg base dh (k+1) f fd ["self","at","condition","keeps","falls","body"] (cY K (Ez A)):=by
 refine dJ F uG λAT B outer s H E hr=>?_;rw[show ak fj=[_,_,_,_,_] from rfl];refine⟨_,(qs (bO (jj aV hr rfl aq)) (qs (aL q_r q_r M) (qs (aL q_r (aU jx hr rfl aq) M) (qs (aL q_r q_r M) (bK (aL q_r (bX cV (by rfl) J.cW jbh aq) M)))))),λds S kk hc hd h=>?_⟩;obtain⟨i,a,c,f,d1,d2,hs,b,rfl,h1,e1,l1,e2,hk⟩:=h;have hz:=(jao.mp h1).1;refine⟨_,_,_,M,h1,J.iU.n.1,_,_,_,_,M,dH hz,J.iU.n.2.1,by decide,?_⟩;rw[jaq];refine⟨_,hs,M,gp h1 e1,l1,_,_,_,_,M,dH hz,J.iU.n.2.2.1,by decide,?_⟩;rw[jaq];refine⟨_,_,_,_,M,dH hz,J.iU.n.2.2.2.1,by decide,?_⟩;rw[jaq];refine(oe (lX (gp h1 e2)) ⟨_,_,_,_,M,dH hz,J.iU.n.2.2.2.2.1,by decide,?_⟩);rw[jaq];exact .inr (.inr (.inr hk))
abbrev jc:Stmt:=top 35
def AE:au ["pairs"] ["pairs"] (ah jc):=dw
seal bf in
def AS (J:Fx K mg A)(F:b6 K "as_pairs" "as_pairs" jc f fd):aG P w K mg base dh (k+1) f fd ["pairs"] (cY K (EA A)):=by
 refine dJ F AE λAT B outer s H E hr=>?_;rw[show ak jc=[_] from rfl];refine⟨_,(bK (aA (bX cV (by rfl) J.cW jbh (qa (fP (bN ["pair"] [] [] rfl (by symm) (by symm) (by with_unfolding_all rfl) (by exact trivial) (by rfl) rfl (by rfl)) rfl (qi q_r) (λ_ _ _ _=>(qx (i:=0) (show List.Nodup (["pair"]:jc2) by symm))) (λ_ _ _ _=>dQ) (λ_ _ _ _=>(bX cV (by rfl) J.cW jbh aq))) az)))),λds S kk hc hd h=>?_⟩;obtain⟨d,l,rfl,h1,h2,h⟩:=h;exact(Ml h1 λG hG=>jt (atT A) (atT A) (by simpa using hG []) (nP (by omega)) (λx _ k' hk=>⟨_,M,hk⟩) (jL hc h))
abbrev yt:Stmt:=inClass (top 68) 1
def OC:au ["self"] ["self"] (ah yt):=dw
seal bf in
def PR (J:Fx K mg A)(F:b6 K "coming" "Tokens.coming" yt f fd):aG P w K mg base dh (k+1) f fd ["self"] (cY K (RY A)):=by
 refine dJ F OC λAT B outer s H E hr=>?_;rw[show ak yt=[_] from rfl];refine⟨_,(bK (aA (Ko (aS AX q_r (aJ cM (by rfl) J.cN jaL aq) (aH _)) q_r aN))),λds S kk hc hd h=>?_⟩;obtain⟨n,ts,i,a,rfl,h1,h⟩:=h;refine(oe (aI h1) (oe rfl (oe (aI h1) ⟨_,M,?_⟩)))
 try dsimp only
 by_cases e:i<ts.length
 .rw[jab (by simpa using e)];have q:ts.getD i ""=ts[i]:=by rw[ja5,jaz e];rfl
  exact(oe (aI h1) (oe rfl (oe (aI h1) (oe rfl (oe (b9 (j:=i) (by rw[jax,jaz e];rfl)) (gc (by rw[q] at h;exact h)))))))
 .rw[jaa (by simpa using e)];have q:ts.getD i ""="":=by rw[ja5,jbZ (by omega)];rfl
  rw[q] at h;exact gc h
abbrev yr:Stmt:=inClass (top 68) 2
def EF:au ["self","token"] ["self"] (ah yr):=dw
seal bf in
def PN (J:Fx K mg A)(bP:eK P w K mg base k A)(F:b6 K "take" "Tokens.take" yr f fd):aG P w K mg base dh (k+1) f fd ["self"] (cY K (RX A)):=by
 refine dJ F EF λAT B outer s H E hr=>?_;rw[show ak yr=[_,_,_] from rfl];refine⟨_,(qs (aj (i:=1) EF.nd (cA q_r bP hr)) (qs (aL q_r q_r M) (bK (aA q_r)))),λds S kk hc hd h=>?_⟩;obtain⟨n,ts,i,a,rfl,h1,h⟩:=h;exact⟨0,_,_,by decide,aI h1,by symm,n,ts,i,a,M,h1,oe (aI h1) ⟨n,_,_,_,M,h1,J.kE.n.2.1,by decide,gc h⟩⟩
abbrev yq:Stmt:=inClass (top 68) 4
def EE:au ["self","ends","taken"] ["self","ends"] (ah yq):=dw
seal bf in
def PM (J:Fx K mg A)(bP:eK P w K mg base k A)(kq:nH P w K mg base k A)(F:b6 K "take_until" "Tokens.take_until" yq f fd):aG P w K mg base dh (k+1) f fd ["self","ends"] (cY K (RW A K)):=by
 refine dJ F EE λAT B outer s H E hr=>?_;rw[show ak yq=[_,_,_] from rfl];refine⟨_,(qs (aj (i:=2) EE.nd (ji az)) (qs (iL jcH (qw (yN (aS (yZ 40 (uE hr)) (cA q_r bP hr) aN (aH _)) (tS (aS LA (cA (iM 0) bP hr) (iM 1) (by rfl))))) (bK (bO (rA q_r (qa (cA q_r kq hr) az))))) (bK (aA q_r)))),λds S kk hc hd h=>?_⟩;obtain⟨n,e,xs,ts,i,a,l,r,rfl,hE,h1,hd1,hl,hs,hn,h⟩:=h;have lt:=A6 h1;have e0:S=S.set n (pW A ts i a):=(set_same h1).symm;refine(?_)
 try dsimp only[cI]
 refine⟨λm Z S'=>∃l1 l2,l=l1++l2/\m=l2.length/\Z=[some (D.ob n),some e,some (D.ob (S.length+0))]/\S'=S.set n (pW A ts (i+l1.length) a)++[O.lst (l1.map T.str)],⟨_,[],l,M,M,M,?_⟩,?_⟩
 .show S++[O.lst []]=S.set n (pW A ts i a)++[O.lst []];rw[<- e0]
 rintro m Z S' ⟨l1,l2,rfl,rfl,rfl,rfl⟩;have hd2:ts.drop (i+l1.length)=l2++r:=drL (l:=l1) (by rw[hd1,jaC]);show Er _ _ _ _ _;generalize hv:ts.getD (i+l1.length) ""=v;refine TY (true ^^ decide (V.str v=V.str (Str.ofString ""))) (true ^^ decide (v∈xs)) (λk' hk=>⟨0,_,_,by decide,aI (gA lt),by symm,n,ts,_,a,M,gA lt,_,M,by rw[hv];exact hk⟩) (λk' hk=>⟨0,_,_,by decide,aI (gA lt),by symm,n,ts,_,a,M,gA lt,_,xs,M,hE,_,M,by rw[hv];exact hk⟩) ?_
 try dsimp only
 cases l2 with
 |nil=>
  have hE':closes S.length (.ob (S.length+0)) (S.set n (pW A ts (i+l1.length) a)++[O.lst (l1.map T.str)]) kk:=FN (FL hc) vR rfl (by rw[jaK] at h;exact h);have hb:((true ^^ decide (V.str v=V.str (Str.ofString "")))&&(true ^^ decide (v∈xs)))=false:=by
   have:v=""\/v∈xs:=by
    cases r with
    |nil=>exact .inl (by rw[<- hv];exact dr0 (by simpa using hd2))
    |cons x r=>
     have q:=(dr1 (show ts.drop (i+l1.length)=x::r by simpa using hd2)).1;rw[<- hv,q];exact hs x r rfl
   rcases this with e | e
   .rw[jag (by rw[e]:V.str v=V.str (Str.ofString ""))];rfl
   .rw[jag e];exact Bool.and_false _
  rw[hb,jaa (by decide)];exact(hE')
 |cons x l2=>
  have q:=(dr1 (show ts.drop (i+l1.length)=x::(l2++r) from hd2)).1;obtain⟨ex,hx⟩:=hl x (by simp);rw[hv] at q;subst q;have hb:((true ^^ decide (V.str v=V.str (Str.ofString "")))&&(true ^^ decide (v∈xs)))=true:=by
   rw[jaf (λz=>ex (V.str.inj z)),jaf hx];rfl
  rw[hb,jab rfl];refine⟨λZ' S'=>Z'=[some (D.ob n),some e,some (D.ob (S.length+0))]/\S'=S.set n (pW A ts (i+(l1++[v]).length) a)++[O.lst ((l1++[v]).map T.str)],?_,?_⟩
  .rintro Z' S' ⟨rfl,rfl⟩;exact⟨l2.length,by simp,l1++[v],l2,by simp,M,M,M⟩
  refine⟨⟨M,_,gz (b8 (q:=0) vR)⟩,0,_,_,by decide,aI (gA lt),by symm,n,ts,_,a,M,gA lt,?_⟩;rw[sA lt,hv];refine⟨_,b8 (q:=0) vR,Es (by simp at hn ⊢;omega),M,?_⟩;rw[jaD,jaO,<- vR (S:=S) (n:=n) (o:=pW A ts (i+l1.length+1) a),fD];rfl
abbrev yw:Stmt:=inClass (top 51) 0
def OD:au ["self","rows"] ["self","rows"] (ah yw):=dw
seal bf in
def PX (J:Fx K mg A)(F:b6 K "__init__" "Rows.__init__" yw f fd):aG P w K mg base dh (k+1) f fd ["self","rows"] (cY K (R7 A)):=by
 refine dJ F OD λAT B outer s H E hr=>?_;rw[show ak yw=[_,_] from rfl];refine⟨_,(qs (aL q_r (fP (bN ["row"] [] [] rfl (by symm) (by symm) (by with_unfolding_all rfl) (by exact trivial) (by rfl) rfl (by rfl)) rfl (qi q_r) (λ_ _ _ _=>(qx (i:=0) (show List.Nodup (["row"]:jc2) by symm))) (λ_ _ _ _=>dQ) (λ_ _ _ _=>(tU false q_r aq))) M) (bK (aL q_r aT M))),λds S kk hc hd h=>?_⟩;obtain⟨n,d,xs,rfl,h1,hx,hl,hb,h⟩:=h;have hz:=A6 h1;refine(Ml hx λG hG=>jt T.str (λx=>T.lst ((Txt.split x " ").map T.str)) (by simpa using hG []) (nP hl) (λx hm k' hk=>?_) ?_)
 .have:=hb x hm;exact⟨M,M,um (by omega),CY ⟨_,M,hk⟩⟩
 refine⟨_,_,_,_,M,h1,J.zI.n.1,by decide,?_⟩;refine⟨_,_,_,_,M,dH hz,J.zI.n.2.1,by decide,?_⟩;rw[jaq];refine gc ?_;have e:(xs.map λx=>T.lst ((Txt.split x " ").map T.str))=(xs.map λx=>Txt.split x " ").map λws=>T.lst (ws.map T.str):=by rw[ja3];rfl
 rw[e];exact h
abbrev yy:Stmt:=inClass (top 51) 1
def OF:au ["self"] ["self"] (ah yy):=dw
seal bf in
def PZ (J:Fx K mg A)(F:b6 K "coming" "Rows.coming" yy f fd):aG P w K mg base dh (k+1) f fd ["self"] (cY K (R8 A)):=by
 refine dJ F OF λAT B outer s H E hr=>?_;rw[show ak yy=[_] from rfl];refine⟨_,(bK (aA (Ko (aS AX q_r (aJ cM (by rfl) J.cN jaL aq) (aH _)) q_r aN))),λds S kk hc hd h=>?_⟩;obtain⟨n,R,i,rfl,h1,hne,h⟩:=h;refine(oe (aI h1) (oe rfl (oe (aI h1) ⟨_,M,?_⟩)))
 try dsimp only
 by_cases e:i<R.length
 .rw[jab (by simpa using e)];have q:R.getD i []=R[i]:=by rw[ja5,jaz e];rfl
  have hne:=hne e;rw[q] at hne h;obtain⟨y,ys,ey⟩:∃y ys,R[i]=y::ys:=by
   cases q2:R[i] with
   |nil=>exact absurd q2 hne
   |cons y ys=>exact⟨y,ys,M⟩
  rw[ey] at h;refine oe (aI h1) (oe rfl (oe (aI h1) (oe rfl (oe (a:=T.lst ((y::ys).map T.str)) (b9 (j:=i) (by rw[jax,jaz e,ey];rfl)) ?_))));dsimp only[vP,ix3,D.iD,D.sD,Option.elim,IxL,sq,lq,GV];rw[jal,lD];exact gc h
 .rw[jaa (by simpa using e)];have q:R.getD i []=[]:=by rw[ja5,jbZ (by omega)];rfl
  rw[q] at h;exact gc h
abbrev yx:Stmt:=top 50
def OE:au ["truth","at"] ["truth","at"] (ah yx):=dw
seal bf in
def PY {j:Nat}{fI:Addr}{bm:jc3}{fdI:FuncData}(XC:wD K A.aa fI bm)(hj:j+1<=k)(FI:aG P w K mg base dh j fI fdI ["self","at"] (JE A.aa))(bI:L2.Binds K fdI ["self","at"] [])(J:Fx K mg A)(F:b6 K "refuse_unless" "refuse_unless" yx f fd):aG P w K mg base (eZ P w A.aa) (k+1) f fd ["truth","at"] (jQ K dY):=by
 refine eX F OE λAT B outer s H g hr=>?_;rw[show ak yx=[_] from rfl];refine⟨_,(bK (cz (uN (kg q_r)) (bK (Kg XC FI (hr.mono hj) rfl J.iS bI Vo (qa (iM 1) az))) bJ)),λds S kk hc hd hg h=>?_⟩;obtain⟨b,n,rfl,hn,h1,h2⟩:=h;refine⟨_,M,?_⟩;cases b with
 |true=>exact gc (h1 M)
 |false=>exact⟨n,M,hn,hg,h2 M⟩
abbrev s9:Stmt:=inClass (top 51) 2
def J1:au ["self"] ["self"] (ah s9):=dw
seal bf in
def Ll (J:Fx K mg A)(ai:dZ P w K mg base A.aa k "refuse_unless" ["truth","at"] dY)(F:b6 K "take" "Rows.take" s9 f fd):aG P w K mg base (eZ P w A.aa) (k+1) f fd ["self"] (jQ K (mW A)):=by
 refine eX F J1 λAT B outer s H g hr=>?_;rw[show ak s9=[_,_,_] from rfl];refine⟨_,(qs (bO (av ai aD hr rfl (qa (cL AX q_r (aJ cM (by rfl) J.cN jaL aq) (aH _)) aq))) (qs (aL q_r q_r M) (bK (aA q_r)))),λds S kk hc hd hg h=>?_⟩;obtain⟨n,R,i,rfl,h1,hi,hor⟩:=h;have lt:=A6 h1;refine(oe (aI h1) (oe rfl (oe (aI h1) (oe rfl (oe (aI h1) ⟨hg,_,_,M,by omega,λhb=>?_,λhb=>?_⟩)))))
 .have li:i<R.length:=by simpa using hb
  rcases hor with⟨ws,hw,h⟩ | ⟨hl,_⟩
  .refine(oe (aI h1) ⟨n,_,_,_,M,h1,J.zI.n.2.1,by decide,?_⟩);refine(oe (aI (dH lt)) (oe rfl (oe (aI (dH lt)) (oe rfl (oe (?_) (gc h))))));show nQ (R.map λws=>T.lst (ws.map T.str)) ((i:Int)+1 - 1)=_;rw[Int.add_sub_cancel];exact b9 (j:=i) (by rw[jax,hw];rfl)
  .omega
 .have li:¬ i<R.length:=by simpa using hb
  rcases hor with⟨ws,hw,h⟩ | ⟨hl,h⟩
  .exact absurd (jao.mp hw).1 li
  .exact h
abbrev sZ:Stmt:=top 66
def oE:au ["term","at","figures","star","thing"] ["term","at"] (ah sZ):=dw
seal bf in
def Lj (J:Fx K mg A)(ai:dZ P w K mg base A.aa k "refuse_unless" ["truth","at"] dY)(jw:pO P w K mg base k)(sE:pP P w K mg base k)(F:b6 K "term_of" "term_of" sZ f fd):aG P w K mg base (eZ P w A.aa) (k+1) f fd ["term","at"] (jQ K RV):=by
 refine eX F oE λAT B outer s H g hr=>?_;rw[show ak sZ=[_,_,_,_] from rfl];refine⟨_,(qs (cz (kg (aU jw hr rfl aq)) (bK (aA q_r)) bJ) (qs (yO (Vx q_r aq) (yP (n:=3) rfl (HK (qg (i:=2) oE.nd) (HK (qg (i:=3) oE.nd) (HK (qg (i:=4) oE.nd) oW))))) (qs (bO (av ai aD hr rfl (qa (gX (aU sE hr rfl aq) (kj (Z1 (cL (eB 40 (uE hr)) q_r aN (aH _)) (kj (aU jw hr rfl aq))))) aq))) (bK (aA (rq (qa q_r (qa (bX XN (by rfl) J.a1O boot_int aq) az)))))))),λds S kk hc hd hg h=>?_⟩;obtain⟨z,a,r,rfl,ha,hz,hr2,h1,h2⟩:=h;obtain⟨l1,l2⟩:=K7 z;unfold NF at hr2;refine⟨z,M,by omega,BlR.mk _ rfl ?_⟩;cases q:dW z with
 |true=>
  rw[q] at hr2;cases hr2;exact gc (h1 _ M)
 |false=>
  rw[q] at hr2;refine⟨M,M,nP (by omega),_,M,M,_,_,M,_,_,M,_,_,M,M,?_⟩;generalize Txt.partition z "*"=P at *;obtain⟨f,st,t⟩:=P;dsimp only at l1 l2 hr2;refine⟨f,M,by omega,_,M,?_⟩;cases qf:gb f with
  |false=>
   rw[qf] at hr2;have e:r=none:=by cases hr2;rfl
   rw[jaa (by decide)];exact⟨hg,false,a,M,ha,(λe=>by cases e),λ_=>h2 e⟩
  |true=>
   have fl:=MN qf;rw[jab rfl];refine⟨_,M,?_⟩;have fin:∀n:Int,PySem.intText? f=some n->r=some (t,n)->closes S.length (.tup [.str t,.int n]) S kk:=λn _ e=>gc (h1 _ e);by_cases qs:st=("":Str)
   .subst qs;rw[qf] at hr2;rw[jab (seq M)];cases qn:PySem.intText? f with
    |none=>rw[qn] at hr2;cases hr2
    |some n=>
     rw[qn] at hr2;have e:r=some (t,n):=by cases hr2;rfl
     exact⟨hg,true,a,M,ha,(λ_=>⟨n,qn,(by show f.length<=640;omega),fin n qn e⟩),λe=>by cases e⟩
   .rw[jaa (by rw[yh qs];decide)];refine⟨t,M,by omega,?_⟩;rw[qf,jaf qs] at hr2;cases qt:dW t with
    |true=>
     rw[qt] at hr2;cases qn:PySem.intText? f with
     |none=>rw[qn] at hr2;cases hr2
     |some n=>
      rw[qn] at hr2;have e:r=some (t,n):=by cases hr2;rfl
      exact⟨hg,true,a,M,ha,(λ_=>⟨n,qn,(by show f.length<=640;omega),fin n qn e⟩),λe=>by cases e⟩
    |false=>
     rw[qt] at hr2;have e:r=none:=by cases hr2;rfl
     exact⟨hg,false,a,M,ha,(λe=>by cases e),λ_=>h2 e⟩
abbrev yv:Stmt:=top 65
def sU:au ["words","at","first","found","place"] ["words","at"] (ah yv):=dw
seal bf in
def PV (J:Fx K mg A)(ai:dZ P w K mg base A.aa k "refuse_unless" ["truth","at"] dY)(F:b6 K "signed_terms" "signed_terms" yv f fd):aG P w K mg base (eZ P w A.aa) (k+1) f fd ["words","at"] (jQ K RZ):=by
 refine eX F sU λAT B outer s H g hr=>?_;rw[show ak yv=[_,_,_,_,_] from rfl];refine⟨_,(qs (bO (av ai aD hr rfl (qa (cL (eB 40 (uE hr)) (aP mJ (aJ cM (by rfl) J.cN jaL aq) aT) aT (aH _)) aq))) (qs (aj (i:=2) sU.nd q_r) (qs (aj (i:=3) sU.nd (ji (qa (Ko (kg (SJ q_r aq)) (rq (qa aN (qa (fJ false q_r (bg aT) bq) az))) q_r) az))) (qs (nh jbO rfl (Vu rfl J.t9 (qa aT (qa (aJ cM (by rfl) J.cN jaL aq) aq))) (qg (i:=4) sU.nd) (qs (bO (av ai aD hr rfl (qa (cL GW q_r q_r (by rfl)) aq))) (bK (bO (rA q_r aq))))) (bK (aA q_r)))))),λds S kk hc hd hg h=>?_⟩;obtain⟨ws,a,rfl,ha,hl,hw,h1,h2⟩:=h;by_cases odd:ws.length % 2=1
 .cases ws with
  |nil=>cases odd
  |cons w r=>
  have hlen:(((w::r).map T.str).length:Int) % 2=1:=by rw[jad];omega
  have hw0:=hw w jai;have e0:Aa (w::r)=(gn r).map (BU w::·):=by unfold Aa;rw[jab odd]
  rw[e0] at h1 h2;refine⟨by decide,hg,_,a,jae (λb=>[D.bl b,D.int a]) (ieq hlen),ha,(λ_=>?_),λe=>by cases e⟩;refine oe lD ?_;dsimp only[cI];refine a3t (a3r rfl hw0 ?_);refine⟨1,(((w::r).map T.str).length:Int),M,by rw[jad];omega,?_⟩;obtain⟨n,hn⟩:∃n,r.length=2*n:=⟨r.length / 2,by simp at odd;omega⟩
  have hn2:(((((w::r).map T.str).length:Nat):Int) - 1+1) / 2=n:=by rw[jad,jaA];omega
  rw[hn2,Int.toNat_natCast];clear hn2;have hl2:r.length<60:=by simp at hl;omega
  have gt:∀{j:Nat}{z:Str},r[j]?=some z->nQ ((w::r).map T.str) (1+(j:Int))=some (T.str z):=λ{j z} hz=>by
   have:=b9 (xs:=(w::r).map T.str) (j:=1+j) (v:=T.str z) (by rw[jax,Nat.add_comm,List.getElem?_cons_succ,hz];rfl);simpa using this
  refine zp (λi Z S'=>∃y m,Z=[some (D.lst ((w::r).map T.str)),some (D.int a),some (D.str w),some (D.ob (S.length+0)),y]/\S'=S++[O.lst ((BU w::m).map Ju)]/\gn (r.take (2*i))=some m/\m.length=i) ⟨none,[],M,M,M,M⟩ ?_ ?_
  .rintro i x Z S' N hx ⟨y,m,rfl,rfl,hm,hml⟩ hN;rw[jax] at hx;have hi:i<n:=by
    rcases Nat.lt_or_ge i n with l | l
    .exact l
    .rw[jbZ (by simpa using l)] at hx;cases hx
   rw[jb2 hi] at hx;cases hx;have l1:2*i<r.length:=by omega
   have l2:2*i+1<r.length:=by omega
   have q1:=jaz l1;have q2:=jaz l2;generalize hs:r[2*i]=s at q1;generalize ht:r[2*i+1]=t at q2;have a1:nQ ((w::r).map T.str) (1+(i:Int)*2)=some (T.str s):=by have:=gt q1;rw[show(1+((2*i:Nat):Int))=1+(i:Int)*2 by omega] at this;exact this
   have a2:nQ ((w::r).map T.str) (1+(i:Int)*2+1)=some (T.str t):=by have:=gt q2;rw[show(1+((2*i+1:Nat):Int))=1+(i:Int)*2+1 by omega] at this;exact this
   have er:r=r.take (2*i)++s::t::r.drop (2*i+2):=by
    have e1:r.drop (2*i)=s::r.drop (2*i+1):=by rw[<- hs];exact jbv l1
    have e2:r.drop (2*i+1)=t::r.drop (2*i+2):=by rw[<- ht];exact jbv l2
    rw[<- e2,<- e1,List.take_append_drop]
   have inq:∀b,Dd (V.str s) [V.str (Str.ofString "+"),V.str (Str.ofString "-")]=b->b=decide (s="+"\/s="-"):=λb hb=>by
    rw[<- hb];show Dd (V.str s) ([("+":Str),"-"].map V.str)=_;rw[QD];simp
   refine⟨trivial,oe a1 ⟨_,_,_,M,M,M,M,g9 hg,_,a,M,ha,(λhb=>?_),λhb=>?_⟩⟩
   .have hs2:s="+"\/s="-":=by have:=inq _ rfl;rw[jaS] at hb;rw[hb] at this;exact ja0 this.symm
    have step:∀b:Bool,s=JS b->gn (r.take (2*(i+1)))=some (m++[(b,t)]):=λb eb=>by
     have et:r.take (2*(i+1))=r.take (2*i)++[s,t]:=by
      rw[show 2*(i+1)=2*i+1+1 by omega,List.take_add_one,List.take_add_one,q1,q2];simp
     rw[et,KI hm,eb];cases b<;>rfl
    have fin:∀b:Bool,s=JS b->N [some (D.lst ((w::r).map T.str)),some (D.int a),some (D.str w),some (D.ob (S.length+0)),some (D.int (1+(i:Int)*2))] (S++[O.lst ((BU w::m).map Ju++[.tup [.str s,.str t]])]):=λb eb=>
     hN _ _ ⟨_,m++[(b,t)],M,by rw[eb,<- ja8,jaO];rfl,step b eb,by rw[jaD,hml];rfl⟩
    refine⟨⟨M,_,zg M⟩,oe a1 (oe a2 ⟨_,lA,Es (by simp;omega),?_⟩)⟩;rw[fD];rcases hs2 with e | e
    .exact fin false e
    .exact fin true e
   .have hs2:¬(s="+"\/s="-"):=by have:=inq _ rfl;rw[jaS] at hb;rw[hb] at this;exact jbl this.symm
    refine h2 ?_;have:gn r=none:=by
     rw[er,KI hm,gn,jaa (λz=>hs2 (.inl z)),jaa (λz=>hs2 (.inr z))];rfl
    rw[this];rfl
  .rintro Z S' ⟨y,m,rfl,rfl,hm,hml⟩;rw[jad,List.length_range,<- hn,List.take_length] at hm;exact⟨trivial,a1F hc rfl (h1 _ (by rw[hm];rfl))⟩
 .refine⟨by decide,hg,_,a,jae (λb=>[D.bl b,D.int a]) (ine (b:=1) (a:=(((ws.map T.str).length:Nat):Int) % 2) (by rw[jad];omega)),ha,(λe=>by cases e),λ_=>h2 (by unfold Aa;rw[jaa odd])⟩
abbrev yu:Stmt:=top 64
def kR:au ["words","at","weights","sign","term","thing","weight"] ["words","at"] (ah yu):=dw
seal bf in
def PU (J:Fx K mg A)(M6:DW P w K mg base k A)(ai:dZ P w K mg base A.aa k "refuse_unless" ["truth","at"] dY)(uf:dZ P w K mg base A.aa k "signed_terms" ["words","at"] RZ)(F7:dZ P w K mg base A.aa k "term_of" ["term","at"] RV)(F:b6 K "sum_of_words" "sum_of_words" yu f fd):aG P w K mg base (eZ P w A.aa) (k+1) f fd ["words","at"] (jQ K (rj A)):=by
 obtain⟨UE,nA⟩:=J.nA;refine eX F kR λAT B outer s H g hr=>?_;rw[show ak yu=[_,_,_,_] from rfl];refine⟨_,(qs (aj (i:=2) kR.nd a3N) (qs (nh jbO rfl (qi (av uf aD hr rfl aq)) (yP (n:=2) rfl (HK (qg (i:=3) kR.nd) (HK (qg (i:=4) kR.nd) oW))) (qs (yO (av F7 aD hr rfl aq) (yP (n:=2) rfl (HK (qg (i:=5) kR.nd) (HK (qg (i:=6) kR.nd) oW)))) (bK (EJ (rN hr) q_r q_r (aP aF (EM (rN hr) q_r q_r aT) (Ko (aS (eB 40 (uE hr)) q_r aN (aH _)) q_r (EK q_r))))))) (qs (bO (av ai aD hr rfl (qa (aJ (xB M) (by rfl) J.xK boot_all (qa (fP (bN ["weight"] [] [] rfl (by symm) (by symm) (by with_unfolding_all rfl) (by exact trivial) (by rfl) rfl (by rfl)) rfl (ZY q_r) (λ_ _ _ _=>(qx (i:=0) (show List.Nodup (["weight"]:jc2) by symm))) (λ_ _ _ _=>dQ) (λ_ _ _ _=>(cL LB (aJ a1M (by rfl) J.a1P boot_abs aq) (jh (dm (v:=.int 999999999) rfl nA ⟨_,M⟩)) (aH _)))) az)) aq))) (bK (aA (aU M6 hr rfl (qa (fP (bN ["thing"] ["weights"] [2] rfl (by symm) (by symm) (by with_unfolding_all rfl) (by exact⟨M,trivial⟩) (by rfl) rfl (by rfl)) rfl (ZZ q_r) (λ_ _ _ _=>(qx (i:=0) (show List.Nodup (["thing","weights"]:jc2) by symm))) (λ_ _ _ _=>(EI (aS (yZ 40 (uE hr)) q_r aN (aH _)))) (λ_ _ _ _=>(rq (qa q_r (qa (EL (rN hr) q_r q_r) az))))) (qa (EL (rN hr) q_r aN) az)))))))),λds S kk hc hd hg h=>?_⟩;obtain⟨ws,a,b,rfl,ha,hl,hw,hb,h1,h2⟩:=h;have hd0:wI [(("":Str),(0:Int))] [((Sum.inr ("":Str):Key),T.int 0)]:=wI.nil.snoc "" 0 rfl;refine⟨g9 hg,ws,a,M,ha,hl,hw,(λl el=>?_),λel=>h2 (by unfold fQ at hb;rw[el] at hb;cases hb;rfl)⟩;obtain⟨hm,hl3⟩:=Oz el hl hw;unfold fQ at hb;rw[el] at hb;dsimp only at hb;refine rM (MG Ju (λpre Z S'=>∃x1 x2 x3 x4 dd rY,Z=[some (D.lst (ws.map T.str)),some (D.int a),some (D.ob S.length),x1,x2,x3,x4]/\S'=S++[O.sy dd]/\wI (z0 rY) dd/\nS pre=some (some rY)) ⟨_,_,_,_,_,[],M,M,hd0,M⟩ ?_ ?_)
 .rintro pre ⟨n,x⟩ post Z S' N e ⟨x1,x2,x3,x4,dd,rY,rfl,rfl,hz,hp1⟩ hN;have hln:=Eb hp1;have hpl:pre.length<31:=by rw[e] at hl3;simp at hl3;omega
  have hl:dd.length<sizeLine:=Es (by have:=hz.len;simp[z0] at this;omega);have hwt:=Ea (m:=rY) (r:=(n,x)::post) hp1;rw[<- e] at hwt;cases et:NF x with
  |none=>rw[nS,et] at hwt;rw[hwt] at hb;cases hb
  |some r=>
  refine⟨trivial,_,M,M,_,_,M,_,_,M,M,?_⟩;refine⟨g9 hg,x,a,r,M,ha,hm (n,x) (by rw[e];simp),et,(λp er=>?_),λer=>?_⟩
  .obtain⟨t,w2⟩:=p;subst er;refine⟨_,M,M,_,_,M,_,_,M,M,?_⟩;have fin:∀(i v:Int)(y1 y2 y3 y4:Option D),v=(if n=true then -w2 else w2)->i=wt (z0 rY) t+v->N [some (D.lst (ws.map T.str)),some (D.int a),some (D.ob S.length),y1,y2,y3,y4] (S++[O.sy (dput dd (Sum.inr t) (.int i))]):=λi v y1 y2 y3 y4 hv hi=>
    hN _ _ ⟨_,_,_,_,_,rY++[(t,v)],M,M,hz.snoc t v hi,by rw[Ea (m:=rY) hp1,nS,et,nS,hv];rfl⟩
   refine⟨_,_,M,aB,_,_,aB,M,_,M,?_⟩;rw[hz.val t];by_cases hx:t∈(z0 rY).map (·.1)
   .rw[jab hx];cases n with
    |false=>
     rw[jab Ss];refine⟨_,_,_,_,M,aB,M,M,hl,?_⟩;rw[b7];exact fin _ w2 _ _ _ _ rfl rfl
    |true=>
     rw[jaa Su];refine⟨_,_,_,_,M,aB,M,M,hl,?_⟩;rw[b7];exact fin _ (-w2) _ _ _ _ rfl rfl
   .rw[jaa hx];cases n with
    |false=>
     rw[jab Ss];refine⟨_,_,_,_,M,aB,M,M,hl,?_⟩;rw[b7];exact fin _ w2 _ _ _ _ rfl (by rw[Cg hx])
    |true=>
     rw[jaa Su];refine⟨_,_,_,_,M,aB,M,M,hl,?_⟩;rw[b7];exact fin _ (-w2) _ _ _ _ rfl (by rw[Cg hx])
  .subst er;rw[nS,et] at hwt;rw[hwt] at hb;cases hb;exact h2 rfl
 .rintro Z S' ⟨x1,x2,x3,x4,dd,rY,rfl,rfl,hz,hp1⟩;rw[hp1] at hb;have hb:b=NG rY:=by cases hb;rfl
  have hln:=Eb hp1;obtain⟨ss,nd,mem,rfl⟩:=a1z hz;have hsl:ss.length<=40:=by have:=hz.len;simp[z0] at this;omega
  refine⟨trivial,S.length,_,M,.inl aB,λob kvs=>?_⟩;rw[b7,ja3];have hG:(S++[O.vv ob kvs (ss.map λx=>((Sum.inr x:Key),T.int (wt (z0 rY) x)))])[S.length]?=some (O.vv ob kvs (ss.map λx=>((Sum.inr x:Key),T.int (wt (z0 rY) x)))):=aB;have c1:ss.map ((λp:Key×T=>D.t p.2) ∘ λx=>((Sum.inr x:Key),T.int (wt (z0 rY) x)))=(ss.map λx=>T.int (wt (z0 rY) x)).map D.t:=by rw[ja3];rfl
  rw[c1];refine jt (λx=>T.int (wt (z0 rY) x)) (λx=>T.bl (decide (sF (wt (z0 rY) x)<=999999999))) hG (nP (by omega)) (λx _ k' hk=>?_) ?_
  .exact⟨_,M,hk⟩
  refine⟨ss.map λx=>decide (sF (wt (z0 rY) x)<=999999999),?_,g9 hg,_,a,M,ha,(λhq=>?_),λhq=>?_⟩
  .rw[ja3];rfl
  .replace hq:(ss.map λx=>decide (sF (wt (z0 rY) x)<=999999999)).all _root_.id=_:=hq
   rw[Lx mem,<- hb] at hq;refine⟨S.length,_,M,.inr ⟨ob,kvs,aB⟩,λob2 Qp=>?_⟩;rw[b7,ja3];have hG2:(S++[O.vv ob2 Qp (ss.map λx=>((Sum.inr x:Key),T.int (wt (z0 rY) x)))])[S.length]?=some (O.vv ob2 Qp (ss.map λx=>((Sum.inr x:Key),T.int (wt (z0 rY) x)))):=aB;have c2:ss.map ((λp:Key×T=>D.t (L7 p.1)) ∘ λx=>((Sum.inr x:Key),T.int (wt (z0 rY) x)))=(ss.map T.str).map D.t:=by rw[ja3];rfl
   rw[c2];refine Dv T.str (λx=>if x=("":Str) then none else some (pT (x,wt (z0 rY) x))) hG2 (nP (by omega)) (λx hx k' hk=>?_) ?_
   .refine⟨_,M,?_⟩;by_cases e:x=("":Str)
    .rw[jab e] at hk;rw[jaa (by rw[jag (by rw[e])];decide)];exact hk
    .rw[jaa e] at hk;rw[jab (by rw[jaf (λz=>e (V.str.inj z))];rfl)];exact⟨S.length,_,_,_,M,.inr ⟨ob2,Qp,aB⟩,M,vq _ hx,_,M,hk⟩
   have m0:("":Str)∈ss:=(mem _).mpr (jai ..);have fm:ss.filterMap (λx=>if x=("":Str) then none else some (pT (x,wt (z0 rY) x)))=((ss.filter λx=>decide (x≠("":Str))).map λx=>(x,wt (z0 rY) x)).map pT:=by
    clear nd mem hsl hG hG2 c1 c2 m0 hz hd hq
    induction ss with
    |nil=>rfl
    |cons y s ih=>
     by_cases e:y=("":Str)
     .rw[List.filterMap_cons_none (by rw[jab e]),List.filter_cons_of_neg (by simp[e]),ih]
     .rw[jcK (by rw[jaa e]),List.filter_cons_of_pos (by simp[e]),ih];rfl
   rw[fm];refine⟨S.length,_,_,_,M,.inr ⟨ob2,Qp,aB⟩,M,vq _ m0,_,_,_,M,M,?_,Q6 hc (h1 hq _)⟩;have:=List.length_filter_le (λx=>decide (x≠("":Str))) ss;rw[jad];omega
  .replace hq:(ss.map λx=>decide (sF (wt (z0 rY) x)<=999999999)).all _root_.id=_:=hq
   rw[Lx mem,<- hb] at hq;exact h2 hq
abbrev sX:Stmt:=inClass (top 68) 3
def JZ:au ["self","token"] ["self","token"] (ah sX):=dw
seal bf in
def Lh (J:Fx K mg A)(ai:dZ P w K mg base A.aa k "refuse_unless" ["truth","at"] dY)(kq:nH P w K mg base k A)(F:b6 K "take_just" "Tokens.take_just" sX f fd):aG P w K mg base (eZ P w A.aa) (k+1) f fd ["self","token"] (jQ K (yf A)):=by
 refine eX F JZ λAT B outer s H g hr=>?_;rw[show ak sX=[_] from rfl];refine⟨_,(bK (bO (av ai aD hr rfl (qa (cL (eB 40 (uE hr)) (cA q_r kq hr) q_r (aH _)) aq)))),λds S kk hc hd hg h=>?_⟩;obtain⟨n,ts,i,a,w,rfl,h1,ha,h2,h3⟩:=h;have lt:=A6 h1;have gd:ts.getD i ""=hd0 (ts.drop i):=by unfold hd0;rw[ja5,jcL,jcG]
 refine⟨0,_,_,by decide,aI h1,by symm,n,ts,i,a,M,h1,oe (aI (dH lt)) ⟨vQ hg h1,_,a,M,ha,(λhb=>?_),λhb=>?_⟩⟩
 .rw[gd,jaS] at hb;exact gc (h2 (V.str.inj (ja0 hb)))
 .rw[gd,jaS] at hb;exact h3 λe=>jbl hb (by rw[e])
abbrev sW:Stmt:=top 69
def j6:au ["words","at","found","word","behind","bare"] ["words","at"] (ah sW):=dw
seal bf in
def Lg (J:Fx K mg A)(ai:dZ P w K mg base A.aa k "refuse_unless" ["truth","at"] dY)(F:b6 K "tokens_of" "tokens_of" sW f fd):aG P w K mg base (eZ P w A.aa) (k+1) f fd ["words","at"] (jQ K JA):=by
 refine eX F j6 λAT B outer s H g hr=>?_;rw[show ak sW=[_,_,_] from rfl];refine⟨_,(qs (aj (i:=2) j6.nd (ji az)) (qs (nh jbO rfl (qi q_r) (qg (i:=3) j6.nd) (qs (aj (i:=4) j6.nd (Km q_r aq)) (qs (aj (i:=5) j6.nd (Kh q_r aq)) (qs (bO (av ai aD hr rfl (qa (cL (yZ 40 (uE hr)) q_r aN (aH _)) aq))) (qs (bO (SM q_r (qa (aP E1 (bM aq) (aP Lz (aJ cM (by rfl) J.cN jaL aq) (aJ cM (by rfl) J.cN jaL aq))) az))) (qs (bO (rA q_r aq)) (bK (bO (SM q_r (qa (aP E1 (bM aq) (aP Lz (aJ cM (by rfl) J.cN jaL aq) (aJ cM (by rfl) J.cN jaL aq))) az)))))))))) (bK (aA q_r)))),λds S kk hc hd hg h=>?_⟩;obtain⟨ws,a,rfl,ha,hl,hw,h1,h2⟩:=h;refine rM (MG T.str (λpre Z S'=>∃y1 y2 y3 m,Z=[some (D.lst (ws.map T.str)),some (D.int a),some (D.ob (S.length+0)),y1,y2,y3]/\S'=S++[O.lst (m.map T.str)]/\dP pre=some m/\m.length<=300*pre.length) ⟨_,_,_,[],M,M,M,jaT _⟩ ?_ ?_)
 .rintro pre w post Z S' N e ⟨y1,y2,y3,m,rfl,rfl,hm,hml⟩ hN;have hwl:=hw w (by rw[e];simp);have hpl:pre.length<60:=by have:=jae List.length e;simp at this;omega
  have ea:=I9 (r:=w::post) hm;rw[<- e] at ea;have l1:=PyProof.Rows.len_lstripChars w "(";have l2:=PyProof.Rows.len_rstripChars (Txt.lstripChars w "(") ")";rw[dP] at ea;unfold xU at ea;refine⟨trivial,M,nP (by omega),?_⟩;dsimp only[cI];generalize hbh:Txt.lstripChars w "("=bh at l1 l2 ea;refine⟨M,nP (by omega),?_⟩;dsimp only[cI];generalize hbr:Txt.rstripChars bh ")"=br at l2 ea;refine⟨g9 hg,_,a,M,ha,(λhb=>?_),λhb=>?_⟩
  .have hx:br≠"":=λz=>by rw[jag (by rw[z]:V.str br=V.str (Str.ofString ""))] at hb;cases hb
   rw[jaa hx] at ea;have t1:((w.length:Int) - (bh.length:Int)).toNat=w.length - bh.length:=by omega
   have t2:((bh.length:Int) - (br.length:Int)).toNat=bh.length - br.length:=by omega
   refine⟨⟨M,_,zg M⟩,nP (by omega),nP (by omega),_,M,by omega,by omega,?_,_,_,lA,M,?_,?_⟩
   .rw[t1];exact nP (by simp;omega)
   .rw[t1];refine jap (m:=300000) ?_ (by rw[ja4];decide);simp;omega
   rw[fD,t1];refine⟨⟨M,_,zg M⟩,_,lA,Nat.lt_of_le_of_lt (m:=300000) (by simp;omega) (by rw[ja4];decide),?_⟩;rw[fD];refine⟨⟨M,_,zg M⟩,nP (by omega),nP (by omega),_,M,by omega,by omega,?_,_,_,lA,M,?_,?_⟩
   .rw[t2];exact nP (by simp;omega)
   .rw[t2];refine jap (m:=300000) ?_ (by rw[ja4];decide);simp;omega
   rw[fD,t2];refine hN _ _ ⟨_,_,_,m++(List.replicate (w.length - bh.length) ("(":Str)++br::List.replicate (bh.length - br.length) (")":Str)),M,?_,?_,?_⟩
   .simp
   .rw[I9 hm,dP];unfold xU;rw[hbh,hbr,jaa hx];simp[dP]
   .simp;omega
  .have hx:br="":=by
    refine jcp λz=>?_;rw[jaf (λq=>z (V.str.inj q))] at hb;cases hb
   rw[jab hx] at ea;exact h2 (by rw[ea];rfl)
 .rintro Z S' ⟨y1,y2,y3,m,rfl,rfl,hm,hml⟩;exact⟨trivial,a1F hc rfl (h1 m hm)⟩
abbrev sY:Stmt:=inClass (top 68) 0
def J0:au ["self","words","at"] ["self","words","at"] (ah sY):=dw
seal bf in
def Li (J:Fx K mg A)(Aj:dZ P w K mg base A.aa k "tokens_of" ["words","at"] JA)(F:b6 K "__init__" "Tokens.__init__" sY f fd):aG P w K mg base (eZ P w A.aa) (k+1) f fd ["self","words","at"] (jQ K (JB A)):=by
 refine eX F J0 λAT B outer s H g hr=>?_;rw[show ak sY=[_,_,_] from rfl];refine⟨_,(qs (aL q_r (av Aj aD hr rfl aq) M) (qs (aL q_r aT M) (bK (aL q_r q_r M)))),λds S kk hc hd hg h=>?_⟩;obtain⟨n,ws,a,rfl,h1,ha,hl,hw,h2,h3⟩:=h;have hz:=A6 h1;refine⟨hg,ws,a,M,ha,hl,hw,(λts et=>?_),λet=>h3 et⟩;refine⟨_,_,_,_,M,h1,J.kE.n.1,by decide,?_⟩;refine⟨_,_,_,_,M,dH hz,J.kE.n.2.1,by decide,?_⟩;rw[jaq];refine⟨_,_,_,_,M,dH hz,J.kE.n.2.2.1,by decide,?_⟩;rw[jaq];exact gc (h2 ts et)
abbrev tO:Stmt:=top 73
def oF:au ["source","one","sign","other"] ["source"] (ah tO):=dw
seal bf in
def Lu (J:Fx K mg A)(Hi:BL P w K mg base k A)(aK:dZ P w K mg base A.aa k "sum_of_words" ["words","at"] (rj A))(ko:qL P w K mg base k A)(kq:nH P w K mg base k A){zM:Addr}(QJ:mg "SIGNS"=some (.ref zM))(Qs:∀H:Hp,kL K H zM ((["<","<=","=","!=",">=",">"]:jc2).map V.str))(F:b6 K "read_comparison" "read_comparison" tO f fd):aG P w K mg base (eZ P w A.aa) (k+1) f fd ["source"] (jQ K (JD A λl=>(HP l).map λo=>o.map λc=>(false,c))):=by
 refine eX F oF λAT B outer s H g hr=>?_;rw[show ak tO=[_,_,_,_] from rfl];refine⟨_,(qs (aj (i:=1) oF.nd (Kl q_r ko hr (qa (jh (dm (v:=.ref zM) rfl QJ M)) az))) (qs (aj (i:=2) oF.nd (cA q_r kq hr)) (qs (aj (i:=3) oF.nd (Kl q_r ko hr aq)) (bK (aA (lH Hi hr rfl (qa (av aK aD hr rfl aq) (qa q_r (qa (av aK aD hr rfl aq) az))))))))),λds S kk hc hd hg h=>?_⟩;obtain⟨n,ts,i,a,r,rfl,h1,ok,hr2,h2,h3⟩:=h;have lt:=A6 h1;have tl:=ok.len;have wdL:∀j,∀t∈ts.drop j,t.length<=100:=λj t ht=>ok.wd t (jaR ht);dsimp only at hr2;generalize hL:ts.drop i=L at hr2;have hLl:L.length<=50:=by rw[<- hL,jay];omega
 have hLw:∀t∈L,t.length<=100:=by rw[<- hL];exact wdL i
 unfold HP at hr2;generalize ho:L.takeWhile p1=one at hr2;have eL:L=one++L.dropWhile p1:=by rw[<- ho];exact(List.takeWhile_append_dropWhile ..).symm
 have ol:one.length<=L.length:=by rw[<- ho];exact(jct _).length_le
 have om:∀x∈one,x∈L/\p1 x=true:=λx hx=>by rw[<- ho] at hx;exact⟨(jct _).subset hx,IY hx⟩
 refine⟨0,_,_,by decide,aI h1,by symm,n,_,ZF,ts,i,a,one,L.dropWhile p1,M,.inr ⟨_,M,Qs⟩,h1,by rw[hL];exact eL,(λx hx=>a0n (om x hx).2),(λz r' e=>PC e),by omega,?_⟩;refine⟨0,_,_,by decide,aI (dH lt),by symm,n,ts,_,a,M,dH lt,?_⟩;rw[jaq];generalize hL2:L.drop (one.length+1)=L2 at hr2;have eL2:ts.drop (i+one.length+1)=L2:=by rw[<- hL2,<- hL,ja2];rfl
 have a7Z:L2.length<=50:=by rw[<- eL2,jay];omega
 have a4N:∀t∈L2,t.length<=100:=by rw[<- eL2];exact wdL _
 generalize ho2:L2.takeWhile p2=rF at hr2;have ol2:rF.length<=L2.length:=by rw[<- ho2];exact(jct _).length_le
 have om2:∀x∈rF,x∈L2/\p2 x=true:=λx hx=>by rw[<- ho2] at hx;exact⟨(jct _).subset hx,IY hx⟩
 refine⟨0,_,_,by decide,aI (dH lt),by symm,n,_,["and","or",")"],ts,_,a,rF,L2.dropWhile p2,M,.inl M,dH lt,by rw[eL2,<- ho2];exact(List.takeWhile_append_dropWhile ..).symm,(λx hx=>a0m (om2 x hx).2),(λz r' e=>PB e),by omega,?_⟩;rw[jaq];have g2:=λj=>vQ (o:=pW A ts j a) hg h1;cases q1:fQ one with
 |none=>rw[q1] at hr2;cases hr2
 |some b1=>
 rw[q1] at hr2;refine oe (aI (dH lt)) ⟨g2 _,one,a,b1,M,ok.ab,by omega,(λx hx=>hLw x (om x hx).1),q1,(λhb s1=>?_),λhb=>?_⟩
 .subst hb;dsimp only at hr2;cases q2:fQ rF with
  |none=>rw[q2] at hr2;cases hr2
  |some b2=>
  rw[q2] at hr2;refine oe (aI (dH lt)) ⟨g2 _,rF,a,b2,M,ok.ab,by omega,(λx hx=>a4N x (om2 x hx).1),q2,(λhb s2=>?_),λhb=>?_⟩
  .subst hb;have er:r=some (false,one.length+1+rF.length):=by cases hr2;rfl
   refine⟨_,[EC A s1,.str _,EC A s2],M,M,aB,made (gc ?_)⟩;have:=h2 _ _ er (.cmp s1 (ts.getD (i+one.length) "") s2) rfl;rw[Q9,show i+(one.length+1+rF.length)=i+one.length+1+rF.length by omega] at this;exact this
  .subst hb;exact h3 (by cases hr2;rfl)
 .subst hb;exact h3 (by cases hr2;rfl)
abbrev yz:Stmt:=top 72
def EG:au ["source","condition"] ["source"] (ah yz):=dw
seal bf in
def tX (J:Fx K mg A)(cT:vW P w K mg base A.aa k A.bZ "take_just" ["self","token"] (yf A))(eU:dZ P w K mg base A.aa k "read_condition" ["source"] (JD A (lJ n)))(F:b6 K "read_bracketed" "read_bracketed" yz f fd):aG P w K mg base (eZ P w A.aa) (k+1) f fd ["source"] (jQ K (JD A (Ri (lJ n)))):=by
 refine eX F EG λAT B outer s H g hr=>?_;rw[show ak yz=[_,_,_,_] from rfl];refine⟨_,(qs (bO (gW q_r cT aD hr aq)) (qs (aj (i:=1) EG.nd (av eU aD hr rfl aq)) (qs (bO (gW q_r cT aD hr aq)) (bK (aA q_r))))),λds S kk hc hd hg h=>?_⟩;obtain⟨m,ts,i,a,r,rfl,h1,ok,hr2,h2,h3⟩:=h;have lt:=A6 h1;have g2:=λj=>vQ (o:=pW A ts j a) hg h1;unfold Ri at hr2;refine⟨_,_,aI h1,by symm,hg,m,ts,i,a,_,M,h1,ok.ab,(λe=>?_),λe=>?_⟩
 .rw[jab e,ja2] at hr2;cases q:lJ n (ts.drop (i+1)) with
  |none=>rw[q] at hr2;cases hr2
  |some r'=>
  rw[q] at hr2;refine⟨g2 _,m,ts,i+1,a,r',M,dH lt,⟨ok.ab,ok.len,ok.wd⟩,q,(λs c er e2 QF=>?_),λer=>h3 (by subst er;cases hr2;rfl)⟩;subst er;dsimp only at hr2;rw[ja2] at hr2;rw[jaq];refine⟨_,_,aI (dH lt),by symm,g2 _,m,ts,_,a,_,M,dH lt,ok.ab,(λe=>?_),λe=>?_⟩
  .rw[jab (by rw[<- jbo];exact e)] at hr2;have er:r=some (s,c+2):=by cases hr2;rfl
   rw[jaq];refine gc ?_;have:=h2 _ _ er e2 QF;rw[show i+(c+2)=i+1+c+1 by omega] at this;exact this
  .rw[jaa (by rw[<- jbo];exact e)] at hr2;exact h3 (by cases hr2;rfl)
 .rw[jaa e] at hr2;exact h3 (by cases hr2;rfl)
abbrev oJ:Stmt:=top 71
def wZ:au ["source","inner"] ["source"] (ah oJ):=dw
seal bf in
def k8 (J:Fx K mg A)(nY:dZ P w K mg base A.aa k "read_comparison" ["source"] (JD A λl=>(HP l).map λo=>o.map λc=>(false,c)))(bP:eK P w K mg base k A)(ai:dZ P w K mg base A.aa k "refuse_unless" ["truth","at"] dY)(iH:dZ P w K mg base A.aa k "read_bracketed" ["source"] (JD A (Ri (lJ n))))(Ma:DR P w K mg base k A)(cT:vW P w K mg base A.aa k A.bZ "take_just" ["self","token"] (yf A))(F:b6 K "read_part" "read_part" oJ f fd):aG P w K mg base (eZ P w A.aa) (k+1) f fd ["source"] (jQ K (JD A (Gw (lJ n)))):=by
 refine eX F wZ λAT B outer s H g hr=>?_;rw[show ak oJ=[_,_,_] from rfl];refine⟨_,(qs (cz (aS (eB 40 (uE hr)) (cA q_r bP hr) aN (aH _)) (qs (bO (gW q_r cT aD hr aq)) (bK (aA (lH Ma hr rfl (qa (av iH aD hr rfl aq) az))))) bJ) (qs (cz (aS (eB 40 (uE hr)) (cA q_r bP hr) aN (aH _)) (qs (aj (i:=1) wZ.nd (av iH aD hr rfl aq)) (qs (bO (av ai aD hr rfl (qa (aJ (M8 (c:=.ref A.bA) trivial M) (by rfl) J.dz jcl (qa q_r (qa (jh (dm (v:=.ref A.bA) rfl J.xC.g M)) az))) aq))) (bK (aA q_r)))) bJ) (bK (aA (av nY aD hr rfl aq))))),λds S kk hc hd hg h=>?_⟩;obtain⟨m,ts,i,a,r,rfl,h1,ok,hr2,h2,h3⟩:=h;have lt:=A6 h1;have g2:=λj=>vQ (o:=pW A ts j a) hg h1;have gd:ts.getD i ""=hd0 (ts.drop i):=by unfold hd0;rw[ja5,jcL,jcG]
 unfold Gw at hr2;by_cases e1:hd0 (ts.drop i)="not"
 .rw[jab e1,ja2] at hr2;refine⟨0,_,_,by decide,aI h1,by symm,m,ts,i,a,M,h1,true,jae D.bl (seq (gd.trans e1)),_,_,aI h1,by symm,hg,m,ts,i,a,_,M,h1,ok.ab,(λ_=>?_),λe=>absurd e1 e⟩;cases q:Ri (lJ n) (ts.drop (i+1)) with
  |none=>rw[q] at hr2;cases hr2
  |some r'=>
  rw[q] at hr2;refine⟨g2 _,m,ts,i+1,a,r',M,dH lt,⟨ok.ab,ok.len,ok.wd⟩,q,(λs c er e2 QF=>?_),λer=>h3 (by subst er;cases hr2;rfl)⟩;subst er;have er:r=some (false,c+1):=by cases hr2;rfl
  rw[jaq];refine⟨_,[rR A e2],M,M,aB,made (gc ?_)⟩;have:=h2 _ _ er (.neg e2) rfl;rw[Q8,show i+(c+1)=i+1+c by omega] at this;exact this
 .rw[jaa e1] at hr2;have n1:ts.getD i ""≠Str.ofString "not":=by rw[gd];exact e1
  by_cases e3:hd0 (ts.drop i)="("
  .rw[jab e3] at hr2;cases q:Ri (lJ n) (ts.drop i) with
   |none=>rw[q] at hr2;cases hr2
   |some r'=>
   rw[q] at hr2;refine⟨0,_,_,by decide,aI h1,by symm,m,ts,i,a,M,h1,false,jae D.bl (yh n1),0,_,_,by decide,aI h1,by symm,m,ts,i,a,M,h1,true,jae D.bl (seq (gd.trans e3)),hg,m,ts,i,a,r',M,h1,ok,q,(λs c er e2 QF=>?_),λer=>h3 (by subst er;cases hr2;rfl)⟩;subst er;refine⟨M,_,_,RG A _ _,J.kS _ (JR _),oe (aI (dH lt)) ⟨g2 _,_,a,M,ok.ab,(λhb=>?_),λhb=>?_⟩⟩
   .rw[yk,QF] at hb;subst hb;exact gc (h2 _ _ (by cases hr2;rfl) e2 QF)
   .rw[yk,QF] at hb;subst hb;exact h3 (by cases hr2;rfl)
  .rw[jaa e3] at hr2;have n2:ts.getD i ""≠Str.ofString "(":=by rw[gd];exact e3
   cases q:HP (ts.drop i) with
   |none=>rw[q] at hr2;cases hr2
   |some r'=>
   rw[q] at hr2;refine⟨0,_,_,by decide,aI h1,by symm,m,ts,i,a,M,h1,false,jae D.bl (yh n1),0,_,_,by decide,aI h1,by symm,m,ts,i,a,M,h1,false,jae D.bl (yh n2),hg,m,ts,i,a,r'.map λc=>(false,c),M,h1,ok,(by show Option.map _ (HP _)=_;rw[q];rfl),(λs c er e2 QF=>?_),λer=>?_⟩
   .cases r' with
    |none=>cases er
    |some c'=>
     cases er;exact gc (h2 _ _ (by cases hr2;rfl) e2 QF)
   .cases r' with
    |none=>exact h3 (by cases hr2;rfl)
    |some c'=>cases er
abbrev oK:Stmt:=top 70
def qh:au ["source","parts","word"] ["source"] (ah oK):=dw
seal bf in
def k9 (J:Fx K mg A)(Qu:HF P w K mg base k A)(WV:Nq P w K mg base k A)(bP:eK P w K mg base k A)(qY:dZ P w K mg base A.aa k "read_part" ["source"] (JD A (Gw (lJ n))))(cT:vW P w K mg base A.aa k A.bZ "take_just" ["self","token"] (yf A))(ai:dZ P w K mg base A.aa k "refuse_unless" ["truth","at"] dY)(F:b6 K "read_condition" "read_condition" oK f fd):aG P w K mg base (eZ P w A.aa) (k+1) f fd ["source"] (jQ K (JD A (Ra (lJ n)))):=by
 refine eX F qh λAT B outer s H g hr=>?_;rw[show ak oK=[_,_,_,_,_] from rfl];refine⟨_,(qs (aj (i:=1) qh.nd (ji (qa (av qY aD hr rfl aq) az))) (qs (aj (i:=2) qh.nd (cA q_r bP hr)) (qs (cz (aS EZ q_r q_r (by rfl)) (qs (bO (av ai aD hr rfl (qa (Z2 (aJ (M8 (c:=.ref A.bA) trivial M) (by rfl) J.dz jcl (qa q_r (qa (jh (dm (v:=.ref A.bA) rfl J.xC.g M)) az)))) aq))) (bK (aA q_r))) bJ) (qs (iL jbO (aS (eB 40 (uE hr)) (cA q_r bP hr) q_r (aH _)) (qs (bO (gW q_r cT aD hr aq)) (bK (bO (rA q_r (qa (av qY aD hr rfl aq) az)))))) (bK (aA (Ko (aS (eB 40 (uE hr)) q_r aN (aH _)) (lH Qu hr rfl aq) (lH WV hr rfl aq)))))))),λds S kk hc hd hg h=>?_⟩;obtain⟨m,ts,i,a,r,rfl,h1,ok,hr2,h2,h3⟩:=h;have lt:=A6 h1;have g2:=λj=>vQ (o:=pW A ts j a) hg h1;have gdj:∀j,ts.getD j ""=hd0 (ts.drop j):=λj=>by unfold hd0;rw[ja5,jcL,jcG]
 unfold Ra at hr2;cases q:Gw (lJ n) (ts.drop i) with
 |none=>rw[q] at hr2;cases hr2
 |some r'=>
 rw[q] at hr2;refine⟨hg,m,ts,i,a,r',M,h1,ok,q,(λs c er e0 he0=>?_),λer=>h3 (by subst er;cases hr2;rfl)⟩;subst er;dsimp only at hr2;rw[ja2] at hr2;refine⟨0,_,_,by decide,aI (gA lt),by symm,m,ts,i+c,a,M,gA lt,?_⟩;rw[gdj];generalize hw0:hd0 (ts.drop (i+c))=w at hr2;by_cases hw:w="and"\/w="or"
 .rw[jab hw] at hr2;cases ql:E5 (lJ n) w 100 (ts.drop (i+c)) with
  |none=>rw[ql] at hr2;cases hr2
  |some o=>
  rw[ql] at hr2;have hb:(true ^^ Dd (V.str w) [V.str (Str.ofString "and"),V.str (Str.ofString "or")])=false:=by rcases hw with rfl | rfl<;>symm
  refine⟨_,_,_,M,M,M,M,false,jae D.bl hb,?_⟩;rw[jaa (by decide)];refine⟨λj Z S'=>∃l1 p,l1≠[]/\l1.length+j<=101/\Z=[some (D.ob m),some (D.ob (S.length+0)),some (D.str w)]/\S'=S.set m (pW A ts (i+c+p) a)++[O.lst (l1.map (rR A))]/\(E5 (lJ n) w j (ts.drop (i+c+p))).map (λz=>z.map (p+·))=some o,⟨100,[e0],0,by simp,by simp,by rw[<- vR (S:=S) (n:=m) (o:=pW A ts (i+c) a)];rfl,M,by rw[Nat.add_zero,ql];cases o with | none=>rfl | some z=>simp⟩,?_⟩;rintro j Z S' ⟨l1,p,hl1,hj,rfl,rfl,HL⟩;cases j with
  |zero=>cases HL
  |succ j=>
  rw[E5,ja2] at HL;refine⟨0,_,_,by decide,aI (gA lt),by symm,m,ts,_,a,M,gA lt,_,M,?_⟩;rw[gdj];by_cases hh:hd0 (ts.drop (i+c+p))=w
  .rw[jab hh] at HL;rw[jab (seq hh)];cases qp:Gw (lJ n) (ts.drop (i+c+p+1)) with
   |none=>rw[qp] at HL;cases HL
   |some rp=>
   rw[qp] at HL;refine⟨_,λZ' S' h=>⟨j,jb5 _,h⟩,_,_,aI (gA lt),by symm,g9 (g2 _),m,ts,_,a,_,M,gA lt,ok.ab,(λ_=>?_),λe=>absurd hh e⟩;rw[sA lt];refine⟨⟨M,_,gz (b8 (q:=0) vR)⟩,g9 (g2 _),m,ts,_,a,rp,M,gA lt,⟨ok.ab,ok.len,ok.wd⟩,qp,(λs' c' er e2 QF=>?_),λer=>?_⟩
   .subst er;rw[sA lt];refine⟨_,b8 (q:=0) vR,Es (by rw[jad];omega),?_⟩;rw[<- vR (S:=S) (n:=m) (o:=pW A ts (i+c+p+1+c') a),fD];refine⟨l1++[e2],p+(1+c'),by simp,by simp;omega,by rw[vR],by rw[jaO,show i+c+(p+(1+c'))=i+c+p+1+c' by omega];rfl,?_⟩;dsimp only at HL;rw[ja2,show i+c+p+(1+c')=i+c+(p+(1+c')) by omega] at HL;rw[<- HL];cases E5 (lJ n) w j (ts.drop (i+c+(p+(1+c')))) with
    |none=>rfl
    |some z=>
     cases z with
     |none=>rfl
     |some z=>exact jae (λq=>some (some q)) (show p+(1+c')+z=p+(1+c'+z) by omega)
   .subst er;have eo:o=none:=by cases HL;rfl
    subst eo;exact h3 (by cases hr2;rfl)
  .rw[jaa hh] at HL;rw[jaa (by rw[yh hh];decide)];have eo:o=some (p+0):=by cases HL;rfl
   subst eo;have er:r=some (true,c+p):=by cases hr2;rfl
   have gl:∀o loc,xq (S.set m o++O.lst (l1.map (rR A))::loc) (.ob (S.length+0))=some (l1.map (rR A)):=λo loc=>gz (b8 (q:=0) vR);have fin:∀q:Bool,kk (.t (rR A (.con q l1))) (S.set m (pW A ts (i+c+p) a)):=λq=>by
    have:=h2 _ _ er (.con q l1) rfl;rw[<- jbo] at this;exact this
   rcases hw with rfl | rfl
   .refine⟨true,O3,_,_,_,M,aB,by rw[jaC];exact gl _ _,made (M1 hc ?_)⟩;have:=fin true;rw[FO] at this;exact this
   .refine⟨false,BR,_,_,_,M,aB,by rw[jaC];exact gl _ _,made (M1 hc ?_)⟩;have:=fin false;rw[FO] at this;exact this
 .rw[jaa hw] at hr2;have hb:(true ^^ Dd (V.str w) [V.str (Str.ofString "and"),V.str (Str.ofString "or")])=true:=by
   rw[show[V.str (Str.ofString "and"),V.str (Str.ofString "or")]=([("and":Str),"or"]).map V.str from M,bY,jaf (by simp;exact not_or.mp hw)];rfl
  have gl:∀o loc,sq (S.set m o++O.lst [rR A e0]::loc) (.ob (S.length+0))=some [rR A e0]:=λo loc=>wW (b8 (q:=0) vR);refine⟨_,_,_,M,M,M,M,true,jae D.bl hb,?_⟩;rw[jab rfl];refine oe (wW aB) (oe lD ⟨M,_,_,RG A _ _,J.kS _ (JR _),_,M,oe (aI (gA lt)) ⟨g9 (g2 _),_,a,M,ok.ab,(λhb2=>?_),λhb2=>?_⟩⟩)
  .rw[yk,he0] at hb2;have hs:s=false:=by cases s<;>first | rfl | cases hb2
   subst hs;exact oe (wW aB) (oe lD (M1 hc (h2 _ _ (by cases hr2;rfl) e0 he0)))
  .rw[yk,he0] at hb2;have hs:s=true:=by cases s<;>first | rfl | cases hb2
   subst hs;exact h3 (by cases hr2;rfl)
abbrev yK:Stmt:=top 67
def yl:au ["words","at","source","condition"] ["words","at"] (ah yK):=dw
seal bf in
def Qc (J:Fx K mg A)(ai:dZ P w K mg base A.aa k "refuse_unless" ["truth","at"] dY)(bP:eK P w K mg base k A)(eU:dZ P w K mg base A.aa k "read_condition" ["source"] (JD A (lJ 4)))(LV:HD P w K mg base A.aa k A.bZ "Tokens" ["self","words","at"] (JB A))(F:b6 K "condition_of" "condition_of" yK f fd):aG P w K mg base (eZ P w A.aa) (k+1) f fd ["words","at"] (jQ K (JL A)):=by
 refine eX F yl λAT B outer s H g hr=>?_;rw[show ak yK=[_,_,_,_] from rfl];refine⟨_,(qs (aj (i:=2) yl.nd (Vy LV aD hr rfl aq)) (qs (aj (i:=3) yl.nd (av eU aD hr rfl aq)) (qs (bO (av ai aD hr rfl (qa (cL (eB 40 (uE hr)) (cA q_r bP hr) aN (aH _)) aq))) (bK (aA q_r))))),λds S kk hc hd hg h=>?_⟩;obtain⟨ws,a,b,rfl,ha,hl,hw,htl,hb,h1,h2⟩:=h;unfold vB at hb;refine⟨hg,S.length,ws,a,M,aB,ha,hl,hw,(λts et=>?_),λet=>h2 (by rw[et] at hb;cases hb;rfl)⟩;rw[et] at hb;dsimp only at hb;rw[b7];have tok:a1U ts 0 a:=⟨ha,htl ts et,UB et hw⟩
 have g2:∀j,(S++[pW A ts j a])[0]?=some g.m:=λj=>g9 hg;cases q:lJ 4 ts with
 |none=>rw[q] at hb;cases hb
 |some r=>
 rw[q] at hb;refine⟨M,g2 _,S.length,ts,0,a,r,M,aB,tok,(by rw[jbS];exact q),(λs c er e he=>?_),λer=>h2 (by subst er;cases hb;rfl)⟩;subst er;rw[b7];have gdj:∀j,ts.getD j ""=hd0 (ts.drop j):=λj=>by unfold hd0;rw[ja5,jcL,jcG]
 have eb:b=decide (hd0 (ts.drop (0+c))=""):=by rw[Nat.zero_add];cases hb;rfl
 refine⟨0,_,_,by decide,aI aB,by symm,S.length,ts,0+c,a,M,aB,g2 _,_,a,M,ha,(λhq=>?_),λhq=>?_⟩
 .rw[gdj,jaS] at hq;have hq:=ja0 hq;exact Q6 hc (h1 (by rw[eb];exact jag (V.str.inj hq)) e)
 .rw[gdj,jaS] at hq;have hq:=jbl hq;exact h2 (by rw[eb];exact jaf λz=>hq (by rw[z]))
abbrev tH:Stmt:=top 61
def J2:au ["words","at"] ["words","at"] (ah tH):=dw
seal bf in
def Ln (J:Fx K mg A)(WX:Nt P w K mg base k A)(aK:dZ P w K mg base A.aa k "sum_of_words" ["words","at"] (rj A))(ai:dZ P w K mg base A.aa k "refuse_unless" ["truth","at"] dY)(bE:dc P w K mg base k)(F:b6 K "read_make" "read_make" tH f fd):aG P w K mg base (eZ P w A.aa) (k+1) f fd ["words","at"] (jQ K (Gg NJ)):=by
 refine eX F J2 λAT B outer s H g hr=>?_;rw[show ak tH=[_,_] from rfl];refine⟨_,(qs (bO (av ai aD hr rfl (qa (gX (cL y9 (aJ cM (by rfl) J.cN jaL aq) aT (aH _)) (gX (aU bE hr rfl aq) (kj (cL (eB 40 (uE hr)) q_r aN (aH _))))) aq))) (bK (aA (lH WX hr rfl (qa q_r (qa q_r (qa (av aK aD hr rfl (qa (fJ false q_r (bg aT) bq) aq)) az))))))),λds S kk hc hd hg h=>?_⟩;obtain⟨ws,a,b,rfl,ha,hl,hw,hb,h1,h2⟩:=h;unfold NJ at hb;by_cases l3:3<ws.length
 .rw[jag l3,ja9] at hb;have w1:=hw _ (qB (j:=1) (by omega:1<ws.length));refine⟨true,jae D.bl (jag (by rw[jad];exact_mod_cast l3)),oe (fO (j:=1) (by omega)) ?_⟩;refine⟨_,M,by omega,_,M,?_⟩;cases q1:isNm (ws.getD 1 "") with
  |false=>
   rw[q1,jbg] at hb;rw[jaa (by decide)];exact⟨hg,false,a,M,ha,(λe=>by cases e),λ_=>h2 (by cases hb;rfl)⟩
  |true=>
  rw[q1,ja9] at hb;rw[jab rfl];refine oe (fO (j:=2) (by omega)) ⟨hg,_,a,M,ha,(λhq=>?_),λhq=>?_⟩
  .rw[jaS] at hq;rw[jag (V.str.inj (ja0 hq))] at hb
   replace hb:fQ (ws.drop 3)=some b:=hb
   refine oe (fO (j:=1) (by omega)) ?_;refine⟨_,M,?_⟩;rw[jaa (by decide),show(3:Int)=((3:Nat):Int) from M,fU,<- jan];refine⟨hg,ws.drop 3,a,b,M,ha,by rw[jay];omega,(λw hm=>hw w (jaR hm)),hb,(λhb s=>?_),h2⟩;exact⟨_,[.int a,.str _,EC A s],M,M,aB,made (gc (h1 hb _))⟩
  .rw[jaS] at hq;rw[jaf (λz=>jbl hq (by rw[z]))] at hb;exact h2 (by cases hb;rfl)
 .rw[jaf l3,jbg] at hb;have e:b=false:=by cases hb;rfl
  refine⟨false,jae D.bl (jaf (by rw[jad];exact_mod_cast l3)),?_⟩;rw[jaa (by decide)];exact⟨hg,false,a,M,ha,(λe=>by cases e),λ_=>h2 e⟩
abbrev tG:Stmt:=top 60
def AB:au ["words","at","place"] ["words","at"] (ah tG):=dw
seal bf in
def Lm (J:Fx K mg A)(a04:Rr P w K mg base k A)(aK:dZ P w K mg base A.aa k "sum_of_words" ["words","at"] (rj A))(ai:dZ P w K mg base A.aa k "refuse_unless" ["truth","at"] dY)(bE:dc P w K mg base k)(F:b6 K "read_put" "read_put" tG f fd):aG P w K mg base (eZ P w A.aa) (k+1) f fd ["words","at"] (jQ K (Gg KA)):=by
 refine eX F AB λAT B outer s H g hr=>?_;rw[show ak tG=[_,_,_] from rfl];refine⟨_,(qs (bO (av ai aD hr rfl (qa (gX (cL y9 (aJ cM (by rfl) J.cN jaL aq) aT (aH _)) (gX (aU bE hr rfl aq) (gX (cL (eB 40 (uE hr)) q_r aN (aH _)) (kj (cL GW aN q_r (by rfl)))))) aq))) (qs (aj (i:=2) AB.nd (Kp q_r aq)) (bK (aA (lH a04 hr rfl (qa q_r (qa q_r (qa (av aK aD hr rfl (qa (fJ false q_r (bg aT) (bg q_r)) aq)) (qa (av aK aD hr rfl (qa (fJ false q_r (bg q_r) bq) aq)) az))))))))),λds S kk hc hd hg h=>?_⟩;obtain⟨ws,a,b,rfl,ha,hl,hw,hb,h1,h2⟩:=h;unfold KA at hb;by_cases l3:3<ws.length
 .rw[jag l3,ja9] at hb;have w1:=hw _ (qB (j:=1) (by omega:1<ws.length));refine⟨true,jae D.bl (jag (by rw[jad];exact_mod_cast l3)),oe (fO (j:=1) (by omega)) ?_⟩;refine⟨_,M,by omega,_,M,?_⟩;cases q1:isNm (ws.getD 1 "") with
  |false=>
   rw[q1,jbg] at hb;rw[jaa (by decide)];exact⟨hg,false,a,M,ha,(λe=>by cases e),λ_=>h2 (by cases hb;rfl)⟩
  |true=>
  rw[q1,ja9] at hb;rw[jab rfl];refine oe (fO (j:=2) (by omega)) ⟨_,M,?_⟩;by_cases q2:ws.getD 2 ""="at"
  .rw[jab (seq q2)];rw[jag q2,ja9] at hb;refine⟨_,_,_,M,M,M,f9 ws,hg,_,a,M,ha,(λhq=>?_),λhq=>?_⟩
   .rw[jaS,bY] at hq;have me:=ja0 hq;rw[jag me] at hb
    replace hb:(bif decide (3<=(gj "=" ws).length) then wC (fQ ((gj "=" ws).drop 3)) (fQ (ir "=" ws)) else none)=some b:=hb
    obtain⟨s1,s2⟩:=spl me;generalize gj "=" ws=p at *;generalize ir "=" ws=q at *;by_cases p3:3<=p.length
    .rw[jag p3] at hb
     replace hb:wC (fQ (p.drop 3)) (fQ q)=some b:=hb
     have wp:∀w∈p,w.length<=100:=λw hm=>hw w (by rw[s1];exact jaX _ hm);have wq:∀w∈q,w.length<=100:=λw hm=>hw w (by rw[s1];exact jaW _ (jah _ hm));have lpq:p.length+q.length+1=ws.length:=by rw[s1];simp;omega
     have g1:=fO (ws:=ws) (j:=1) (by omega);generalize ws.getD 1 ""=nm at g1;refine⟨⟨M,_,M⟩,p,q,by rw[<- s1];rfl,s2,oe g1 ⟨_,M,?_⟩⟩;have c1:eY (ws.map T.str) (some 3) (some (p.length:Int))=(p.drop 3).map T.str:=by
      rw[show(3:Int)=((3:Nat):Int) from M,Xz _ p3 (by rw[jad];omega),s1,jaO,List.drop_append_of_le_length (by rw[jad];exact p3),jcI (by rw[jay,jad];omega),jbw (by rw[jay,jad];omega),jan]
     have c2:eY (ws.map T.str) (some ((p.length:Int)+1)) none=q.map T.str:=by
      rw[show(p.length:Int)+1=((p.length+1:Nat):Int) from M,fU,s1,<- jan,<- ja2,List.drop_left];rfl
     rw[jaa (by decide),c1];unfold wC at hb;cases z1:fQ (p.drop 3) with
     |none=>rw[z1] at hb;cases hb
     |some b1=>
     rw[z1] at hb;refine⟨hg,p.drop 3,a,b1,M,ha,by rw[jay];omega,(λw hm=>wp w (jaR hm)),z1,(λe s=>?_),λe=>h2 (by subst e;cases hb;rfl)⟩;subst e
     replace hb:fQ q=some b:=hb
     refine⟨_,M,?_⟩;rw[jaa (by decide),c2];refine⟨hg,q,a,b,M,ha,by omega,wq,hb,(λe s'=>?_),h2⟩;exact⟨_,[.int a,.str nm,EC A s,EC A s'],M,M,aB,made (gc (h1 e _))⟩
    .rw[jaf p3] at hb;cases hb
   .rw[jaS,bY] at hq;rw[hq] at hb;exact h2 (by cases hb;rfl)
  .rw[jaa (by rw[yh q2];decide)];rw[jaf q2,jbg] at hb;exact⟨hg,false,a,M,ha,(λe=>by cases e),λ_=>h2 (by cases hb;rfl)⟩
 .rw[jaf l3,jbg] at hb;have e:b=false:=by cases hb;rfl
  refine⟨false,jae D.bl (jaf (by rw[jad];exact_mod_cast l3)),?_⟩;rw[jaa (by decide)];exact⟨hg,false,a,M,ha,(λe=>by cases e),λ_=>h2 e⟩
abbrev tK:Stmt:=top 59
def j7:au ["words","at","name","rest","word","place"] ["words","at"] (ah tK):=dw
seal bf in
def Lo (J:Fx K mg A)(a05:Rt P w K mg base k A)(aK:dZ P w K mg base A.aa k "sum_of_words" ["words","at"] (rj A))(Qt:HE P w K mg base k A)(ai:dZ P w K mg base A.aa k "refuse_unless" ["truth","at"] dY)(bE:dc P w K mg base k)(Me:DU P w K mg base k A)(F:b6 K "read_let" "read_let" tK f fd):aG P w K mg base (eZ P w A.aa) (k+1) f fd ["words","at"] (jQ K (Gg NK)):=by
 refine eX F j7 λAT B outer s H g hr=>?_;rw[show ak tK=[_,_,_,_,_,_] from rfl];refine⟨_,(qs (bO (av ai aD hr rfl (qa (gX (cL y9 (aJ cM (by rfl) J.cN jaL aq) aT (aH _)) (gX (aU bE hr rfl aq) (kj (cL (eB 40 (uE hr)) q_r aN (aH _))))) aq))) (qs (aj (i:=2) j7.nd q_r) (qs (aj (i:=3) j7.nd (fJ false q_r (bg aT) bq)) (qs (nh jbO rfl (qi q_r) (qg (i:=4) j7.nd) (bK (cz (aS GW q_r q_r (by rfl)) (qs (aj (i:=5) j7.nd (Kp q_r aq)) (bK (aA (lH Me hr rfl (qa q_r (qa q_r (qa q_r (qa (av aK aD hr rfl (qa (fJ false q_r bq (bg q_r)) aq)) (qa (av aK aD hr rfl (qa (fJ false q_r (bg q_r) bq) aq)) az))))))))) bJ))) (qs (cz (qw (yN (aS y9 (aJ cM (by rfl) J.cN jaL aq) aT (aH _)) (tS (aS (eB 40 (uE hr)) q_r aN (aH _))))) (qs (bO (av ai aD hr rfl (qa (aU bE hr rfl aq) aq))) (bK (aA (lH Qt hr rfl (qa q_r (qa q_r (qa q_r (qa (av aK aD hr rfl (qa (fJ false q_r (bg aT) bq) aq)) az)))))))) bJ) (bK (aA (lH a05 hr rfl (qa q_r (qa q_r (qa (av aK aD hr rfl aq) az))))))))))),λds S kk hc hd hg h=>?_⟩;obtain⟨ws,a,b,rfl,ha,hl,hw,hb,h1,h2⟩:=h;unfold NK at hb;by_cases l3:3<ws.length
 .rw[jag l3,ja9] at hb;have w1:=hw _ (qB (j:=1) (by omega:1<ws.length));refine⟨true,jae D.bl (jag (by rw[jad];exact_mod_cast l3)),oe (fO (j:=1) (by omega)) ?_⟩;refine⟨_,M,by omega,_,M,?_⟩;cases q1:isNm (ws.getD 1 "") with
  |false=>
   rw[q1,jbg] at hb;rw[jaa (by decide)];exact⟨hg,false,a,M,ha,(λe=>by cases e),λ_=>h2 (by cases hb;rfl)⟩
  |true=>
  rw[q1,ja9] at hb;rw[jab rfl];refine oe (fO (j:=2) (by omega)) ⟨hg,_,a,M,ha,(λhq=>?_),λhq=>?_⟩
  .rw[jaS] at hq;rw[jag (V.str.inj (ja0 hq))] at hb
   replace hb:Yi (ws.drop 3)=some b:=hb
   refine oe (fO (j:=1) (by omega)) ?_;generalize ws.getD 1 ""=nm;refine⟨_,M,?_⟩;rw[jaa (by decide),show(3:Int)=((3:Nat):Int) from M,fU,<- jan];have rl:(ws.drop 3).length<=57:=by rw[jay];omega
   have Vk:∀w∈ws.drop 3,w.length<=100:=λw hm=>hw w (jaR hm);generalize ws.drop 3=R at *;unfold Yi at hb;by_cases me:("div":Str)∈R
   .rw[jag me] at hb
    replace hb:Q2 "div" R=some b:=hb
    refine S9 ⟨trivial,_,_,_,M,M,M,f9 R,true,jae D.bl (by rw[bY,jag me];rfl),?_⟩;obtain⟨s1,s2⟩:=spl me;unfold Q2 at hb;obtain⟨hc2,e3⟩:=qq hb;clear hb;subst e3;generalize gj "div" R=p at *;generalize ir "div" R=q at *;have wp:∀w∈p,w.length<=100:=λw hm=>Vk w (by rw[s1];exact jaX _ hm);have wq:∀w∈q,w.length<=100:=λw hm=>Vk w (by rw[s1];exact jaW _ (jah _ hm));have lpq:p.length+q.length+1=R.length:=by rw[s1];simp;omega
    have c1:eY (R.map T.str) none (some (p.length:Int))=p.map T.str:=by rw[Br,s1,jaO,jcI (by rw[jad];exact jaj _),jbw (by rw[jad];exact jaj _)]
    have c2:eY (R.map T.str) (some ((p.length:Int)+1)) none=q.map T.str:=by
     rw[show(p.length:Int)+1=((p.length+1:Nat):Int) from M,fU,s1,<- jan,<- ja2,List.drop_left];rfl
    refine⟨⟨M,_,M⟩,p,q,by rw[<- s1];rfl,s2,_,M,?_⟩;rw[jaa (by decide),c1];unfold wC at hc2;cases z1:fQ p with
    |none=>rw[z1] at hc2;cases hc2
    |some b1=>
    rw[z1] at hc2;refine⟨hg,p,a,b1,M,ha,by omega,wp,z1,(λe s=>?_),λe=>h2 M⟩;subst e
    replace hc2:fQ q=some false:=hc2
    refine⟨_,M,?_⟩;rw[jaa (by decide),c2];exact⟨hg,q,a,false,M,ha,by omega,wq,hc2,(λe s'=>by cases e),λ_=>h2 M⟩
   rw[jaf me] at hb;refine S9 ⟨trivial,_,_,_,M,M,M,f9 R,false,jae D.bl (by rw[bY,jaf me];rfl),?_⟩;clear me;by_cases me:("mod":Str)∈R
   .rw[jag me] at hb
    replace hb:Q2 "mod" R=some b:=hb
    refine⟨trivial,_,_,_,M,M,M,f9 R,true,jae D.bl (by rw[bY,jag me];rfl),?_⟩;obtain⟨s1,s2⟩:=spl me;unfold Q2 at hb;obtain⟨hc2,e3⟩:=qq hb;clear hb;subst e3;generalize gj "mod" R=p at *;generalize ir "mod" R=q at *;have wp:∀w∈p,w.length<=100:=λw hm=>Vk w (by rw[s1];exact jaX _ hm);have wq:∀w∈q,w.length<=100:=λw hm=>Vk w (by rw[s1];exact jaW _ (jah _ hm));have lpq:p.length+q.length+1=R.length:=by rw[s1];simp;omega
    have c1:eY (R.map T.str) none (some (p.length:Int))=p.map T.str:=by rw[Br,s1,jaO,jcI (by rw[jad];exact jaj _),jbw (by rw[jad];exact jaj _)]
    have c2:eY (R.map T.str) (some ((p.length:Int)+1)) none=q.map T.str:=by
     rw[show(p.length:Int)+1=((p.length+1:Nat):Int) from M,fU,s1,<- jan,<- ja2,List.drop_left];rfl
    refine⟨⟨M,_,M⟩,p,q,by rw[<- s1];rfl,s2,_,M,?_⟩;rw[jaa (by decide),c1];unfold wC at hc2;cases z1:fQ p with
    |none=>rw[z1] at hc2;cases hc2
    |some b1=>
    rw[z1] at hc2;refine⟨hg,p,a,b1,M,ha,by omega,wp,z1,(λe s=>?_),λe=>h2 M⟩;subst e
    replace hc2:fQ q=some false:=hc2
    refine⟨_,M,?_⟩;rw[jaa (by decide),c2];exact⟨hg,q,a,false,M,ha,by omega,wq,hc2,(λe s'=>by cases e),λ_=>h2 M⟩
   rw[jaf me] at hb;refine⟨trivial,_,_,_,M,M,M,f9 R,false,jae D.bl (by rw[bY,jaf me];rfl),trivial,?_⟩
   replace hb:(bif decide (1<R.length)&&decide (R.getD 1 ""="at") then(bif isNm (R.getD 0 "") then LK (fQ (R.drop 2)) else some false) else fQ R)=some b:=hb
   have plain:fQ R=some b->(wQ (qc A.wA (Ay A.wA ["at","name","total"]) (aZ (cy 1) (aZ (cy 2) (aZ (CB g (rj A) (aZ (cy 3) (aZ (cy 1) cK))) cK))))) (endsF S kk) [some (D.lst (ws.map T.str)),some (D.int a),some (D.str nm),some (D.lst (R.map T.str)),some (D.str "mod"),none] S:=λhb=>
    ⟨hg,R,a,b,M,ha,by omega,Vk,hb,λe s=>⟨_,[.int a,.str nm,EC A s],M,M,aB,made (gc (h1 e _))⟩,h2⟩
   by_cases r1:1<R.length
   .rw[jag r1,ja9] at hb;refine⟨true,jae D.bl (jag (by rw[jad];exact_mod_cast r1)),?_⟩;rw[jab rfl];by_cases r2:R.getD 1 ""="at"
    .rw[jag r2] at hb
     replace hb:(bif isNm (R.getD 0 "") then LK (fQ (R.drop 2)) else some false)=some b:=hb
     refine oe (fO (j:=1) r1) ⟨true,jae D.bl (seq r2),?_⟩;have w0:=Vk _ (qB (j:=0) (by omega:0<R.length));refine oe (fO (j:=0) (by omega)) ⟨_,M,by omega,hg,_,a,M,ha,(λhq=>?_),λhq=>?_⟩
     .rw[hq] at hb;obtain⟨hc2,e3⟩:=qq hb;clear hb;subst e3;refine oe (fO (j:=0) (by omega)) ⟨_,M,?_⟩;rw[jaa (by decide),show(2:Int)=((2:Nat):Int) from M,fU,<- jan];exact⟨hg,R.drop 2,a,false,M,ha,by rw[jay];omega,(λw hm=>Vk w (jaR hm)),hc2,(λe s'=>by cases e),λ_=>h2 M⟩
     .rw[hq] at hb;exact h2 (by cases hb;rfl)
    .rw[jaf r2] at hb;exact oe (fO (j:=1) r1) ⟨false,jae D.bl (yh r2),plain hb⟩
   .rw[jaf r1,jbg] at hb;refine⟨false,jae D.bl (jaf (by rw[jad];exact_mod_cast r1)),?_⟩;rw[jaa (by decide)];exact plain hb
  .rw[jaS] at hq;rw[jaf (λz=>jbl hq (by rw[z]))] at hb;exact h2 (by cases hb;rfl)
 .rw[jaf l3,jbg] at hb;have e:b=false:=by cases hb;rfl
  refine⟨false,jae D.bl (jaf (by rw[jad];exact_mod_cast l3)),?_⟩;rw[jaa (by decide)];exact⟨hg,false,a,M,ha,(λe=>by cases e),λ_=>h2 e⟩
abbrev yH:Stmt:=top 63
def OI:au ["words","at"] ["words","at"] (ah yH):=dw
seal bf in
def P8 (J:Fx K mg A)(aK:dZ P w K mg base A.aa k "sum_of_words" ["words","at"] (rj A))(F:b6 K "given_of" "given_of" yH f fd):aG P w K mg base (eZ P w A.aa) (k+1) f fd ["words","at"] (jQ K Sh):=by
 refine eX F OI λAT B outer s H g hr=>?_;rw[show ak yH=[_,_] from rfl];refine⟨_,(qs (cz (aS (eB 40 (uE hr)) (aJ cM (by rfl) J.cN jaL aq) aT (aH _)) (bK (aA (bM az))) bJ) (bK (aA (OZ (bN ["given"] ["at"] [1] rfl (by symm) (by symm) (by with_unfolding_all rfl) (by exact⟨M,trivial⟩) (by rfl) rfl (by rfl)) rfl (qi (tU false (Kn aN aq) aq)) (λ_ _ _ _ _=>(qx (i:=0) (show List.Nodup (["given","at"]:jc2) by symm))) (λ_ _ _ _ _=>dQ) (λ_ _ _ _ _ hp=>(av aK hp hr rfl (qa (tU false q_r aq) aq))))))),λds S kk hc hd hg h=>?_⟩;obtain⟨ws,a,b,rfl,ha,ok,hb,h1,h2⟩:=h;unfold Yp at hb;by_cases w0:ws=[]
 .subst w0;rw[jab rfl] at hb;exact⟨true,M,gc (h1 (by cases hb;rfl) _)⟩
 .rw[jaa w0] at hb;have wl:0<ws.length:=List.length_pos_iff.mpr w0;refine⟨false,jae D.bl (ine (by rw[jad];omega)),?_⟩;rw[jaa (by decide)];have s1:=Et ok.len.2;have l6:=ok.len.1;have hj:=W2 " " ws;have e1:(" ":Str).length=1:=by symm
  rw[e1] at hj;refine⟨M,ws,M,by rw[e1];omega,M,M,?_,?_⟩
  .rw[ja4];omega
  refine CY (rM ?_);show eG _ _ _ _ _ (((Ht ws).map T.str).map D.t) _ _ _;have pn:=ok.n;have pp:=ok.p;generalize Ht ws=L at *;refine Bv (λi ys S'=>S'=S/\ys.length=i/\Th (L.drop i)=some b) ⟨M,M,hb⟩ ?_ ?_
  .rintro i x ys S' k' hx ⟨rfl,hy,kB⟩ hk;rw[jax,jax] at hx;have hi:i<L.length:=by
    rcases Nat.lt_or_ge i L.length with l | l
    .exact l
    .rw[jbZ l] at hx;cases hx
   rw[jaz hi] at hx;cases hx;rw[jbv hi,Th] at kB;obtain⟨t1,t2,t3⟩:=pp L[i] (List.getElem_mem hi);generalize L[i]=t at *;unfold wC at kB;cases z:fQ (Txt.split t " ") with
   |none=>rw[z] at kB;cases kB
   |some b1=>
   rw[z] at kB;refine⟨trivial,Es (by omega),M,M,?_,CY ⟨hg,Txt.split t " ",a,b1,M,ha,t2,t3,z,(λe s=>?_),λe=>?_⟩⟩
   .rw[ja4];omega
   .subst e;exact⟨_,M,hk _ _ ⟨M,by simp[XY,hy],kB⟩⟩
   .subst e;exact h2 (by cases kB;rfl)
  .rintro ys S' ⟨rfl,hy,kB⟩;rw[jad,jad,jcB] at kB;exact⟨trivial,gc (h1 (by cases kB;rfl) _)⟩
abbrev tQ:Stmt:=top 62
def iJ:au ["words","at","names","rest","place"] ["words","at"] (ah tQ):=dw
seal bf in
def Lv (J:Fx K mg A)(WY:Nu P w K mg base k A)(Cn:dZ P w K mg base A.aa k "given_of" ["words","at"] Sh)(ai:dZ P w K mg base A.aa k "refuse_unless" ["truth","at"] dY)(bE:dc P w K mg base k)(F:b6 K "read_call" "read_call" tQ f fd):aG P w K mg base (eZ P w A.aa) (k+1) f fd ["words","at"] (jQ K Sk):=by
 refine eX F iJ λAT B outer s H g hr=>?_;rw[show ak tQ=[_,_,_,_,_] from rfl];refine⟨_,(qs (aj (i:=2) iJ.nd (bM az)) (qs (aj (i:=3) iJ.nd (fJ false q_r (bg aT) bq)) (qs (cz (aS GW aN q_r (by rfl)) (qs (aj (i:=4) iJ.nd (Kp q_r aq)) (qs (aj (i:=2) iJ.nd (fJ false q_r bq (bg q_r))) (qs (aj (i:=3) iJ.nd (fJ false q_r (bg q_r) bq)) (bK (bO (av ai aD hr rfl (qa (gX (cL y9 (aJ cM (by rfl) J.cN jaL aq) aT (aH _)) (kj (aJ (xB M) (by rfl) J.xK boot_all (qa (fP (bN ["word"] [] [] rfl (by symm) (by symm) (by with_unfolding_all rfl) (by exact trivial) (by rfl) rfl (by rfl)) rfl (qi q_r) (λ_ _ _ _=>(qx (i:=0) (show List.Nodup (["word"]:jc2) by symm))) (λ_ _ _ _=>dQ) (λ_ _ _ _=>(aU bE hr rfl aq))) az)))) aq))))))) bJ) (qs (bO (av ai aD hr rfl (qa (gX (cL y9 (aJ cM (by rfl) J.cN jaL aq) aT (aH _)) (kj (aU bE hr rfl aq))) aq))) (bK (aA (lH WY hr rfl (qa q_r (qa q_r (qa q_r (qa (av Cn aD hr rfl (qa (fJ false q_r (bg aT) bq) aq)) az))))))))))),λds S kk hc hd hg h=>?_⟩;obtain⟨ws,a,b,rfl,ha,hl,hw,gv,hb,h1,h2⟩:=h;refine⟨_,M,?_⟩;rw[jaa (by decide),show(1:Int)=((1:Nat):Int) from M,fU,<- jan];unfold NX at hb;unfold Ac at gv;have wR:∀w∈ws.drop 1,w.length<=100:=λw hm=>hw w (jaR hm);have lR:(ws.drop 1).length<=60:=by rw[jay];omega
 generalize ws.drop 1=R at *;by_cases me:("=":Str)∈R
 .rw[jab me] at hb gv;obtain⟨s1,s2⟩:=spl me;refine⟨_,_,_,M,M,M,f9 R,true,jae D.bl (by rw[bY,jag me];rfl),?_⟩;generalize gj "=" R=p at *;generalize ir "=" R=q at *;have wp:∀w∈p,w.length<=100:=λw hm=>wR w (by rw[s1];exact jaX _ hm);have wq:∀w∈q,w.length<=100:=λw hm=>wR w (by rw[s1];exact jaW _ (jah _ hm));have lpq:p.length+q.length+1=R.length:=by rw[s1];simp;omega
  have c1:eY (R.map T.str) none (some (p.length:Int))=p.map T.str:=by rw[Br,s1,jaO,jcI (by rw[jad];exact jaj _),jbw (by rw[jad];exact jaj _)]
  have c2:eY (R.map T.str) (some ((p.length:Int)+1)) none=q.map T.str:=by
   rw[show(p.length:Int)+1=((p.length+1:Nat):Int) from M,fU,s1,<- jan,<- ja2,List.drop_left];rfl
  refine⟨⟨M,_,M⟩,p,q,by rw[<- s1];rfl,s2,_,M,?_⟩;rw[jaa (by decide),c1];refine⟨_,M,?_⟩;rw[jaa (by decide)]
  erw [c2]
  by_cases n0:0<p.length
  .rw[jag n0,ja9] at hb;refine⟨true,jae D.bl (jag (by rw[jad];exact_mod_cast n0)),?_⟩;rw[jab rfl];refine rM (jt T.str (λx=>T.bl (isNm x)) trivial (nP (by omega)) (λx hx k' hk=>?_) ?_)
   .exact⟨x,M,by have:=wp x hx;omega,_,M,hk⟩
   refine⟨p.map isNm,by rw[ja3];rfl,hg,_,a,M,ha,(λhq=>?_),λhq=>?_⟩
   .replace hq:(p.map isNm).all _root_.id=true:=hq
    rw[jbt] at hq
    replace hq:p.all isNm=true:=hq
    rw[hq] at hb
    replace hb:NW q=some b:=hb
    have wR2:=wq;clear hq c1 c2;unfold NW at hb;by_cases r0:0<q.length
    .rw[jag r0,ja9] at hb;have w0:=wR2 _ (qB (j:=0) r0);refine⟨true,jae D.bl (jag (by rw[jad];exact_mod_cast r0)),oe (fO (j:=0) r0) ⟨_,M,by omega,hg,_,a,M,ha,(λhq=>?_),λhq=>h2 (by rw[hq] at hb;cases hb;rfl)⟩⟩;rw[hq] at hb;obtain⟨hc2,e3⟩:=qq hb;clear hb;subst e3;have c3:eY (q.map T.str) (some (1:Int)) none=(q.drop 1).map T.str:=by rw[show(1:Int)=((1:Nat):Int) from M,fU,jan]
     refine oe (fO (j:=0) r0) ⟨_,M,?_⟩;rw[jaa (by decide)]
     erw [c3]
     exact⟨hg,q.drop 1,a,false,M,ha,gv,hc2,(λe l=>by cases e),λ_=>h2 M⟩
    .rw[jaf r0,jbg] at hb;refine⟨false,jae D.bl (jaf (by rw[jad];exact_mod_cast r0)),?_⟩;rw[jaa (by decide)];exact⟨hg,false,a,M,ha,(λe=>by cases e),λ_=>h2 (by cases hb;rfl)⟩
   .replace hq:(p.map isNm).all _root_.id=false:=hq
    rw[jbt] at hq
    replace hq:p.all isNm=false:=hq
    rw[hq] at hb;exact h2 (by cases hb;rfl)
  .rw[jaf n0,jbg] at hb;refine⟨false,jae D.bl (jaf (by rw[jad];exact_mod_cast n0)),?_⟩;rw[jaa (by decide)];exact⟨hg,false,a,M,ha,(λe=>by cases e),λ_=>h2 (by cases hb;rfl)⟩
 .rw[jaa me] at hb gv;refine⟨_,_,_,M,M,M,f9 R,false,jae D.bl (by rw[bY,jaf me];rfl),?_⟩;unfold NW at hb;by_cases r0:0<R.length
  .rw[jag r0,ja9] at hb;have w0:=wR _ (qB (j:=0) r0);refine⟨true,jae D.bl (jag (by rw[jad];exact_mod_cast r0)),oe (fO (j:=0) r0) ⟨_,M,by omega,hg,_,a,M,ha,(λhq=>?_),λhq=>h2 (by rw[hq] at hb;cases hb;rfl)⟩⟩;rw[hq] at hb;obtain⟨hc2,e3⟩:=qq hb;clear hb;subst e3;have c3:eY (R.map T.str) (some (1:Int)) none=(R.drop 1).map T.str:=by rw[show(1:Int)=((1:Nat):Int) from M,fU,jan]
   refine oe (fO (j:=0) r0) ⟨_,M,?_⟩;rw[jaa (by decide)]
   erw [c3]
   exact⟨hg,R.drop 1,a,false,M,ha,gv,hc2,(λe l=>by cases e),λ_=>h2 M⟩
  .rw[jaf r0,jbg] at hb;refine⟨false,jae D.bl (jaf (by rw[jad];exact_mod_cast r0)),?_⟩;rw[jaa (by decide)];exact⟨hg,false,a,M,ha,(λe=>by cases e),λ_=>h2 (by cases hb;rfl)⟩
abbrev tL:Stmt:=inClass (top 51) 3
def AD:au ["self","word","at"] ["self","word"] (ah tL):=dw
seal bf in
def Lp (J:Fx K mg A)(ai:dZ P w K mg base A.aa k "refuse_unless" ["truth","at"] dY)(gq:vW P w K mg base A.aa k A.dD "take" ["self"] (mW A))(F:b6 K "take_just" "Rows.take_just" tL f fd):aG P w K mg base (eZ P w A.aa) (k+1) f fd ["self","word"] (jQ K (wY A)):=by
 refine eX F AD λAT B outer s H g hr=>?_;rw[show ak tL=[_,_] from rfl];refine⟨_,(qs (aj (i:=2) AD.nd q_r) (bK (bO (av ai aD hr rfl (qa (cL (a0A (uE hr)) (iN (iM 0) gq aD hr) (bM (qa (iM 1) az)) (aH _)) aq))))),λds S kk hc hd hg h=>?_⟩;obtain⟨n,R,i,w,rfl,h1,hi,h2,h3⟩:=h;have lt:=A6 h1;refine oe (aI h1) ?_;cases q:R[i]? with
 |none=>
  refine⟨_,_,aI h1,by symm,hg,n,R,i,M,h1,hi,.inr ⟨?_,h3 (by rw[q];exact λz=>nomatch z)⟩⟩;exact List.getElem?_eq_none_iff.mp q
 |some ws=>
  refine⟨_,_,aI h1,by symm,hg,n,R,i,M,h1,hi,.inl ⟨ws,q,ws,w,M,M,vQ hg h1,_,_,M,by omega,(λhb=>?_),λhb=>?_⟩⟩
  .exact gc (h2 (by rw[q,ja0 hb]))
  .exact h3 λz=>jbl hb (by rw[q] at z;exact jaw z)
abbrev tR:Stmt:=top 53
def uC:au ["source","at","answers"] ["source"] (ah tR):=dw
seal bf in
def Lw (J:Fx K mg A)(ai:dZ P w K mg base A.aa k "refuse_unless" ["truth","at"] dY)(bE:dc P w K mg base k)(gq:vW P w K mg base A.aa k A.dD "take" ["self"] (mW A))(cQ:eN P w K mg base k A)(F:b6 K "read_answers" "read_answers" tR f fd):aG P w K mg base (eZ P w A.aa) (k+1) f fd ["source"] (jQ K (Sn A)):=by
 refine eX F uC λAT B outer s H g hr=>?_;rw[show ak tR=[_,_,_,_,_] from rfl];refine⟨_,(qs (cz (aS (yZ 40 (uE hr)) (cA q_r cQ hr) aN (aH _)) (bK (aA (bM az))) bJ) (qs (aj (i:=1) uC.nd q_r) (qs (aj (i:=2) uC.nd (fJ false (iN q_r gq aD hr) (bg aT) bq)) (qs (bO (av ai aD hr rfl (qa (gX (cL y9 (aJ cM (by rfl) J.cN jaL aq) aT (aH _)) (kj (aJ (xB M) (by rfl) J.xK boot_all (qa (fP (bN ["word"] [] [] rfl (by symm) (by symm) (by with_unfolding_all rfl) (by exact trivial) (by rfl) rfl (by rfl)) rfl (qi q_r) (λ_ _ _ _=>(qx (i:=0) (show List.Nodup (["word"]:jc2) by symm))) (λ_ _ _ _=>dQ) (λ_ _ _ _=>(aU bE hr rfl aq))) az)))) aq))) (bK (aA q_r)))))),λds S kk hc hd hg h=>?_⟩;obtain⟨n,R,i,ks,rfl,src,h⟩:=h;have h1:=src.at_;have lt:=A6 h1;have il:i<=100:=by have:=src.len;have:=src.max;omega
 by_cases ha:(dF ks).head?.map (·.1)=some .an
 .cases ks with
  |nil=>cases ha
  |cons p ks=>
  obtain⟨⟨c,b⟩,ws⟩:=p;have hc2:c=.an:=jaw ha;subst hc2;obtain⟨q1,q2,q3⟩:=src.hd1;have ea:=(src.cm (k:=.an) (by decide)).mpr ha;have o7:=q2.ok;unfold iK at o7;rw[q2.fc] at o7
  replace o7:b=anF ws:=by cases o7;rfl
  have wl:=q2.bd.len;have ww:=q2.bd.wd;refine⟨0,_,_,by decide,aI h1,by symm,n,R,i,M,h1,(λhl=>src.ne hl),false,jae D.bl (xF ea),?_⟩;rw[jaa (by decide)];refine oe (aI h1) ⟨_,_,aI h1,by symm,hg,n,R,i,M,h1,by omega,.inl ⟨ws,q1,_,M,?_⟩⟩;rw[jaa (by decide)];have c3:eY (ws.map T.str) (some (1:Int)) none=(ws.drop 1).map T.str:=by rw[show(1:Int)=((1:Nat):Int) from M,fU,jan]
  erw [c3]
  unfold anF at o7;have ld:(ws.drop 1).length=ws.length - 1:=jay;have wd:∀w∈ws.drop 1,w.length<=100:=λw hm=>ww w (jaR hm);have g2:=vQ (o:=dG A R (i+1)) hg h1;by_cases n0:1<ws.length
  .rw[jag n0,ja9] at o7;refine⟨true,jae D.bl (jag (by rw[jad];exact_mod_cast (by omega:0<(ws.drop 1).length))),?_⟩;rw[jab rfl];refine rM (jt T.str (λx=>T.bl (isNm x)) trivial (nP (by omega)) (λx hx k' hk=>?_) ?_)
   .exact⟨x,M,by have:=wd x hx;omega,_,M,hk⟩
   refine⟨(ws.drop 1).map isNm,by rw[ja3];rfl,g2,_,(i:Int),M,by omega,(λhq=>?_),λhq=>?_⟩
   .replace hq:((ws.drop 1).map isNm).all _root_.id=true:=hq
    rw[jbt] at hq
    replace hq:(ws.drop 1).all isNm=true:=hq
    rw[hq] at o7;subst o7;exact gc (h _ (by rw[jad];omega))
   .replace hq:((ws.drop 1).map isNm).all _root_.id=false:=hq
    rw[jbt] at hq
    replace hq:(ws.drop 1).all isNm=false:=hq
    rw[hq] at o7;subst o7;exact h
  .rw[jaf n0,jbg] at o7;subst o7;refine⟨false,jae D.bl (jaf (by rw[jad];exact_mod_cast (by omega:¬ 0<(ws.drop 1).length))),?_⟩;rw[jaa (by decide)];exact⟨g2,false,(i:Int),M,by omega,(λe=>by cases e),λ_=>h⟩
 .have e0:anC (dF ks)=.ok 0:=by
   cases ks with
   |nil=>rfl
   |cons p ks=>
    obtain⟨⟨c,b⟩,ws⟩:=p;cases c<;>first | rfl | exact absurd rfl ha
  rw[e0] at h;refine⟨0,_,_,by decide,aI h1,by symm,n,R,i,M,h1,(λhl=>src.ne hl),true,jae D.bl (xT λe=>ha ((src.cm (k:=.an) (by decide)).mp e)),?_⟩;rw[jab rfl];refine gc ?_;have:=h [] (by simp);rw[Nat.add_zero,set_same h1] at this;exact this
abbrev s8:Stmt:=top 54
def uA:au ["source","word","found","at"] ["source","word"] (ah s8):=dw
seal bf in
def Lk (J:Fx K mg A)(cQ:eN P w K mg base k A)(c5:dZ P w K mg base A.aa k "condition_of" ["words","at"] (JL A))(gq:vW P w K mg base A.aa k A.dD "take" ["self"] (mW A))(F:b6 K "read_writings" "read_writings" s8 f fd):aG P w K mg base (eZ P w A.aa) (k+1) f fd ["source","word"] (jQ K (Jz A)):=by
 refine eX F uA λAT B outer s H g hr=>?_;rw[show ak s8=[_,_,_] from rfl];refine⟨_,(qs (aj (i:=2) uA.nd (ji az)) (qs (iL jbO (aS (eB 40 (uE hr)) (cA q_r cQ hr) q_r (aH _)) (qs (aj (i:=3) uA.nd q_r) (bK (bO (rA q_r (qa (rq (qa q_r (qa (av c5 aD hr rfl (qa (fJ false (iN q_r gq aD hr) (bg aT) bq) aq)) az))) az)))))) (bK (aA q_r)))),λds S kk hc hd hg h=>?_⟩;obtain⟨n,R,i,ks,q,rfl,hq,src,h⟩:=h;have h1:=src.at_;have lt:=A6 h1;have kl:i+ks.length<=100:=by have:=src.len;have:=src.max;omega
 have hk:q≠.st/\q≠.ot:=by simp at hq;rcases hq with rfl | rfl | rfl<;>decide
 have e0:S=S.set n (dG A R i):=(set_same h1).symm;refine⟨λm Z S'=>∃(z:Option D)(j:Nat)(l1:List T),j<=ks.length/\m=ks.length - j/\l1.length=j/\(∃hs:List (Int×xN),l1=hs.map (atT A))/\Z=[some (D.ob n),some (D.str (Yq q)),some (D.ob (S.length+0)),z]/\S'=S.set n (dG A R (i+j))++[O.lst l1]/\(zZ q (dF (ks.drop j))).sh j=zZ q (dF ks),⟨_,none,0,[],jaT _,M,M,⟨[],M⟩,M,?_,?_⟩,?_⟩
 .show S++[O.lst []]=S.set n (dG A R i)++[O.lst []];rw[<- e0]
 .rw[jbS];cases zZ q (dF ks) with | ok m=>simp[Rs.sh] | er m=>simp[Rs.sh] | uk=>rfl
 rintro m Z S' ⟨z,j,l1,hj,rfl,hl1,⟨hs,hhs⟩,rfl,rfl,hw⟩;have cJ:jD A (S.set n (dG A R (i+j))++[O.lst l1]) n R (i+j) (ks.drop j):=src.go hj (gA lt);by_cases ha:(dF (ks.drop j)).head?.map (·.1)=some q
 .cases e:ks.drop j with
  |nil=>rw[e] at ha;cases ha
  |cons p r=>
  rw[e] at cJ ha hw;obtain⟨⟨c,b⟩,ws⟩:=p;have hc2:c=q:=jaw ha;subst hc2;obtain⟨q1,q2,q3⟩:=cJ.hd1;have ea:=(cJ.cm hk).mpr ha;have jl:j<ks.length:=by
   rcases Nat.lt_or_ge j ks.length with l | l
   .exact l
   .rw[jcP l] at e;cases e
  have er:r=ks.drop (j+1):=by rw[<- ja2,e];rfl
  have o7:vB (ws.drop 1)=some b:=by
   have:=q2.ok;unfold iK at this;rw[q2.fc] at this;simp at hq;rcases hq with rfl | rfl | rfl<;>exact this
  have g2:∀o loc,(S.set n (dG A R o)++loc)[0]?=some g.m:=λo loc=>g9 (vQ hg h1);have wl:=q2.bd.len;refine⟨0,_,_,by decide,aI (gA lt),by symm,n,R,_,M,gA lt,(λhl=>cJ.ne hl),true,jae D.bl (seq ea),?_⟩;rw[jab rfl];refine⟨_,λZ' S' h=>⟨ks.length - (j+1),by omega,h⟩,oe (aI (gA lt)) ⟨⟨M,_,gz (b8 (q:=0) vR)⟩,_,_,aI (gA lt),by symm,g2 _ _,n,R,i+j,M,gA lt,by omega,.inl ⟨ws,q1,_,M,?_⟩⟩⟩;rw[jaa (by decide),sA lt];have c3:eY (ws.map T.str) (some (1:Int)) none=(ws.drop 1).map T.str:=by rw[show(1:Int)=((1:Nat):Int) from M,fU,jan]
  erw [c3]
  have hw2:zZ c (dF (((c,b),ws)::r))=bif b then(zZ c (dF r)).sh 1 else .er 0:=by show(if c=c then _ else _)=_;rw[jab rfl]
  rw[hw2] at hw;refine⟨g2 _ _,ws.drop 1,((i+j:Nat):Int),b,M,by omega,by rw[jay];omega,(λw hm=>q2.bd.wd w (jaR hm)),q2.bd.tk,o7,(λhb e2=>?_),λhb=>?_⟩
  .subst hb;refine⟨_,b8 (q:=0) vR,Es (by omega),?_⟩;rw[<- vR (S:=S) (n:=n) (o:=dG A R (i+j+1)),fD];refine⟨some (D.int ((i+j:Nat):Int)),j+1,l1++[.tup [.int ((i+j:Nat):Int),rR A e2]],jl,M,by rw[jaD,hl1];rfl,⟨hs++[(((i+j:Nat):Int),e2)],by rw[hhs,jaO];rfl⟩,by rw[vR];rfl,by rw[<- jbo];rfl,?_⟩;rw[<- er,<- hw];show _=Rs.sh j ((zZ c (dF r)).sh 1);cases zZ c (dF r) with
   |ok m=>show Rs.ok _=Rs.ok _;congr 1;omega
   |er m=>show Rs.er _=Rs.er _;congr 1;omega
   |uk=>rfl
  .subst hb;rw[<- hw] at h;exact h
 .have e0:zZ q (dF (ks.drop j))=.ok 0:=by
   cases e:ks.drop j with
   |nil=>rfl
   |cons p r=>
    obtain⟨⟨c,b⟩,ws⟩:=p;rw[e] at ha;show(if c=q then _ else _)=_;rw[jaa λz=>ha (by rw[z];rfl)]
  rw[e0] at hw;rw[<- hw] at h;refine⟨0,_,_,by decide,aI (gA lt),by symm,n,R,_,M,gA lt,(λhl=>cJ.ne hl),false,jae D.bl (yh λe=>ha ((cJ.cm hk).mp e)),?_⟩;rw[jaa (by decide)];have h2:kk (.lst l1) (S.set n (dG A R (i+j))):=by rw[hhs];exact h hs (by rw[hhs,jad] at hl1;omega)
  exact FN (FJ hc) vR rfl h2
abbrev tu:Stmt:=top 55
def AA:au ["source","steps"] ["source"] (ah tu):=dw
seal bf in
def uS {Q:List Rc->Rs}{fu:Nat}(J:Fx K mg A)(cQ:eN P w K mg base k A)(Ak:dZ P w K mg base A.aa k "read_step" ["source"] (R6 A Q))(F:b6 K "read_steps" "read_steps" tu f fd):aG P w K mg base (eZ P w A.aa) (k+1) f fd ["source"] (jQ K (mX A (oA Q fu))):=by
 refine eX F AA λAT B outer s H g hr=>?_;rw[show ak tu=[_,_,_] from rfl];refine⟨_,(qs (aj (i:=1) AA.nd (ji az)) (qs (iL jbO (aS EZ (cA q_r cQ hr) q_r (by rfl)) (bK (bO (rA q_r (qa (av Ak aD hr rfl aq) az))))) (bK (aA q_r)))),λds S kk hc hd hg h=>?_⟩;obtain⟨n,R,i,ks,rfl,src,h⟩:=h;have h1:=src.at_;have lt:=A6 h1;have kl:ks.length<=100:=by have:=src.len;have:=src.max;omega
 have e0:S=S.set n (dG A R i):=(set_same h1).symm;refine(?_)
 try dsimp only[cI]
 refine⟨λm Z S'=>∃(j f:Nat)(l1:List T),j<=ks.length/\m=ks.length - j/\(l1=[]↔j=0)/\l1.length<=j/\Z=[some (D.ob n),some (D.ob (S.length+0))]/\S'=S.set n (dG A R (i+j))++[O.lst l1]/\oA Q fu (dF ks)=(oA Q f (dF (ks.drop j))).sh j,⟨_,0,fu,[],jaT _,M,by simp,jaj _,M,?_,?_⟩,?_⟩
 .show S++[O.lst []]=S.set n (dG A R i)++[O.lst []];rw[<- e0]
 .show oA Q fu (dF ks)=(oA Q fu (dF ks)).sh 0;cases oA Q fu (dF ks)<;>simp[Rs.sh]
 rintro m Z S' ⟨j,f,l1,hj,rfl,hl1,hl2,rfl,rfl,he⟩;have cJ:jD A (S.set n (dG A R (i+j))++[O.lst l1]) n R (i+j) (ks.drop j):=src.go hj (gA lt);rw[he] at h;cases f with
 |zero=>exact h.elim
 |succ f=>
 rw[Js] at h he;cases hee:Yk (dF (ks.drop j)) with
 |true=>
  rw[hee,jab rfl] at h;have hin:(R.getD (i+j) []).headD ""∈[("end":Str),"else"]:=(Fw cJ).mpr hee;refine⟨0,_,_,by decide,aI (gA lt),by symm,n,R,_,M,gA lt,(λhl=>cJ.ne hl),_,_,_,M,M,M,M,false,jae D.bl (by show(true ^^ Dd (V.str _) ([("end":Str),"else"].map V.str))=false;rw[bY,jag hin];rfl),?_⟩
  try dsimp only
  rw[jaa (by decide)];have h:∀l:List T,(l=[]↔j=0)->l.length<=100->kk (.lst l) (S.set n (dG A R (i+j))):=h;exact(FN (FJ hc) vR rfl (h l1 hl1 (by omega)))
 |false=>
  rw[hee,jaa (by decide)] at h he;have hin:¬(R.getD (i+j) []).headD ""∈[("end":Str),"else"]:=λz=>by rw[(Fw cJ).mp z] at hee;cases hee
  refine⟨0,_,_,by decide,aI (gA lt),by symm,n,R,_,M,gA lt,(λhl=>cJ.ne hl),_,_,_,M,M,M,M,true,jae D.bl (by show(true ^^ Dd (V.str _) ([("end":Str),"else"].map V.str))=true;rw[bY,jaf hin];rfl),?_⟩
  try dsimp only
  rw[jab rfl];have kB:(S.set n (dG A R (i+j))++[O.lst l1])[0]?=some g.m:=mkA (vQ hg h1);cases hs:stC Q (dF (ks.drop j)) with
  |ok m=>
   rw[hs] at h he;obtain⟨m1,m2⟩:=Jv hs;rw[jad,jay] at m1;refine⟨λZ' S'=>∃t:T,Z'=[some (D.ob n),some (D.ob (S.length+0))]/\S'=S.set n (dG A R (i+(j+m)))++[O.lst (l1++[t])],?_,?_⟩
   .rintro Z' S' ⟨t,rfl,rfl⟩;refine⟨ks.length - (j+m),by omega,j+m,f,l1++[t],by omega,M,⟨λz=>by simp at z,λz=>by omega⟩,by simp;omega,M,M,?_⟩;rw[he,cG,cG,<- ja2]
    try dsimp only
    cases oA Q f (((dF ks).drop j).drop m)<;>simp[Rs.sh,jbo]
   refine⟨⟨M,_,gz (b8 (q:=0) vR)⟩,kB,n,R,i+j,ks.drop j,M,cJ,?_⟩;rw[hs];intro t;rw[sA lt];refine⟨_,b8 (q:=0) vR,Es (by omega),?_⟩;rw[<- vR (S:=S) (n:=n) (o:=dG A R (i+j+m)),fD];exact⟨t,M,by rw[jbo];rfl⟩
  |er m=>
   rw[hs] at h;refine⟨λ_ _=>False,λ_ _ z=>z.elim,⟨M,_,gz (b8 (q:=0) vR)⟩,kB,n,R,i+j,ks.drop j,M,cJ,?_⟩;rw[hs];have h:g.x ((i+(j+m):Nat):Int):=h;rw[<- jbo] at h;exact h
  |uk=>rw[hs] at h;exact h.elim
abbrev tE:Stmt:=top 56
def uB:au ["source","at","words"] ["source"] (ah tE):=dw
seal bf in
def uU {Q:List Rc->Rs}(J:Fx K mg A)(Am:dZ P w K mg base A.aa k "read_call" ["words","at"] Sk)(ai:dZ P w K mg base A.aa k "refuse_unless" ["truth","at"] dY)(vZ:dZ P w K mg base A.aa k "read_repeat" ["source","condition","at"] (R9 A Q))(c5:dZ P w K mg base A.aa k "condition_of" ["words","at"] (JL A))(v5:dZ P w K mg base A.aa k "read_choose" ["source","condition","at"] (Sj A Q))(Qv:HG P w K mg base k A)(Al:dZ P w K mg base A.aa k "read_make" ["words","at"] (Gg NJ))(Cj:dZ P w K mg base A.aa k "read_put" ["words","at"] (Gg KA))(Ck:dZ P w K mg base A.aa k "read_let" ["words","at"] (Gg NK))(gq:vW P w K mg base A.aa k A.dD "take" ["self"] (mW A))(F:b6 K "read_step" "read_step" tE f fd):aG P w K mg base (eZ P w A.aa) (k+1) f fd ["source"] (jQ K (R6 A Q)):=by
 refine eX F uB λAT B outer s H g hr=>?_;rw[show ak tE=[_,_,_,_,_,_,_,_,_,_] from rfl];refine⟨_,(qs (aj (i:=1) uB.nd q_r) (qs (aj (i:=2) uB.nd (iN q_r gq aD hr)) (qs (cz (aS (eB 40 (uE hr)) q_r aN (aH _)) (bK (aA (av Ck aD hr rfl aq))) bJ) (qs (cz (aS (eB 40 (uE hr)) q_r aN (aH _)) (bK (aA (av Cj aD hr rfl aq))) bJ) (qs (cz (aS (eB 40 (uE hr)) q_r aN (aH _)) (bK (aA (av Al aD hr rfl aq))) bJ) (qs (cz (aS (eB 40 (uE hr)) q_r aN (aH _)) (bK (aA (lH Qv hr rfl (qa q_r (qa (av c5 aD hr rfl (qa (fJ false q_r (bg aT) bq) aq)) az))))) bJ) (qs (cz (aS (eB 40 (uE hr)) q_r aN (aH _)) (bK (aA (av v5 aD hr rfl (qa q_r (qa (av c5 aD hr rfl (qa (fJ false q_r (bg aT) bq) aq)) aq))))) bJ) (qs (cz (aS (eB 40 (uE hr)) q_r aN (aH _)) (bK (aA (av vZ aD hr rfl (qa q_r (qa (av c5 aD hr rfl (qa (fJ false q_r (bg aT) bq) aq)) aq))))) bJ) (qs (bO (av ai aD hr rfl (qa (cL (eB 40 (uE hr)) q_r aN (aH _)) aq))) (bK (aA (av Am aD hr rfl aq)))))))))))),λds S kk hc hd hg h=>?_⟩;obtain⟨n,R,i,ks,rfl,src,h⟩:=h;have h1:=src.at_;have lt:=A6 h1;have il:i<=100:=by have:=src.len;have:=src.max;omega
 refine oe (aI h1) ?_
 try dsimp only[cI]
 cases ks with
 |nil=>exact⟨_,_,aI h1,by symm,hg,n,R,i,M,h1,by omega,.inr ⟨src.hd0.2.1,h⟩⟩
 |cons p ks=>
 obtain⟨⟨c,b⟩,ws⟩:=p;obtain⟨q1,q2,q3⟩:=src.hd1;refine⟨_,_,aI h1,by symm,hg,n,R,i,M,h1,by omega,.inl ⟨_,q1,?_⟩⟩;have kB:=vQ (o:=dG A R (i+1)) hg h1;have cJ:jD A (S.set n (dG A R (i+1))) n R (i+1) ks:=src.go (m:=1) (by simp) (dH lt);obtain⟨fc,ic,bd⟩:=q2;cases ws with
 |nil=>exact absurd rfl bd.ne
 |cons x r=>
 have fc:jS x=c:=fc;have J8:=ic;unfold iK at ic;rw[show jS ((x::r).headD "")=c from fc] at ic;have hL:=bd.len;have hW:=bd.wd;have lr:r.length<=60:=by rw[jaA] at hL;omega
 have wr:∀w∈r,w.length<=100:=λw hm=>hW w (jah _ hm);have hst:c=.st->(b=true->∀t:T,kk (.t t) (S.set n (dG A R (i+1))))/\(b=false->g.x (i:Int)):=by
  rintro rfl;exact⟨by rintro rfl;exact h,by rintro rfl;exact h⟩
 by_cases e1:x="let"
 .have ec:c=.st:=by rw[<- fc,e1];symm
  subst ec;obtain⟨hT,hF⟩:=hst rfl
  replace ic:=(uM fc).symm.trans J8
  rw[jab e1] at ic;subst e1;exact oe lD ⟨true,O3,kB,_,(i:Int),b,M,by omega,hL,hW,ic,(λhb t=>gc (hT hb t)),hF⟩
 by_cases e2:x="put"
 .have ec:c=.st:=by rw[<- fc,e2];symm
  subst ec;obtain⟨hT,hF⟩:=hst rfl
  replace ic:=(uM fc).symm.trans J8
  rw[jaa e1] at ic;rw[jab e2] at ic;subst e2;exact oe lD ⟨false,BR,oe lD ⟨true,O3,kB,_,(i:Int),b,M,by omega,hL,hW,ic,(λhb t=>gc (hT hb t)),hF⟩⟩
 by_cases e3:x="row"
 .have ec:c=.st:=by rw[<- fc,e3];symm
  subst ec;obtain⟨hT,hF⟩:=hst rfl
  replace ic:=(uM fc).symm.trans J8
  rw[jaa e1] at ic;rw[jaa e2] at ic;rw[jab e3] at ic;subst e3;exact oe lD ⟨false,BR,oe lD ⟨false,BR,oe lD ⟨true,O3,kB,_,(i:Int),b,M,by omega,hL,hW,ic,(λhb t=>gc (hT hb t)),hF⟩⟩⟩
 by_cases e4:x="claim"
 .have ec:c=.st:=by rw[<- fc,e4];symm
  subst ec;obtain⟨hT,hF⟩:=hst rfl
  replace ic:=(uM fc).symm.trans J8
  rw[jaa e1,jaa e2,jaa e3,jab e4] at ic;subst e4;obtain⟨k1,rfl⟩:=qq ic;refine oe lD ⟨false,BR,oe lD ⟨false,BR,oe lD ⟨false,BR,oe lD ⟨true,O3,_,M,?_⟩⟩⟩⟩;rw[jaa (by decide),jal,vz];exact⟨kB,r,(i:Int),false,M,by omega,lr,wr,bd.tk,k1,(λhb=>nomatch hb),λ_=>hF M⟩
 by_cases e5:x="if"
 .subst e5;have ec:c=.iF:=by rw[<- fc];symm
  subst ec;have ic:vB r=some b:=ic;refine oe lD ⟨false,BR,oe lD ⟨false,BR,oe lD ⟨false,BR,oe lD ⟨false,BR,oe lD ⟨true,O3,_,M,?_⟩⟩⟩⟩⟩;rw[jaa (by decide),jal,vz];refine⟨kB,r,(i:Int),b,M,by omega,lr,wr,bd.tk,ic,(λhb e=>?_),λhb=>?_⟩
  .subst hb;refine⟨kB,n,R,i+1,ks,_,_,M,cJ,?_⟩;exact qm h λj S' z t=>gc (z t)
  .subst hb;exact h
 by_cases e6:x="while"
 .subst e6;have ec:c=.wh:=by rw[<- fc];symm
  subst ec;have ic:vB r=some b:=ic;refine oe lD ⟨false,BR,oe lD ⟨false,BR,oe lD ⟨false,BR,oe lD ⟨false,BR,oe lD ⟨false,BR,oe lD ⟨true,O3,_,M,?_⟩⟩⟩⟩⟩⟩;rw[jaa (by decide),jal,vz];refine⟨kB,r,(i:Int),b,M,by omega,lr,wr,bd.tk,ic,(λhb e=>?_),λhb=>?_⟩
  .subst hb;refine⟨kB,n,R,i+1,ks,_,_,M,cJ,?_⟩;exact qm h λj S' z t=>gc (z t)
  .subst hb;exact h
 have nn:x≠"let"/\x≠"put"/\x≠"row"/\x≠"claim"/\x≠"if"/\x≠"while":=⟨e1,e2,e3,e4,e5,e6⟩
 refine oe lD ⟨false,jae D.bl (yh e1),oe lD ⟨false,jae D.bl (yh e2),oe lD ⟨false,jae D.bl (yh e3),oe lD ⟨false,jae D.bl (yh e4),oe lD ⟨false,jae D.bl (yh e5),oe lD ⟨false,jae D.bl (yh e6),oe lD ⟨kB,_,(i:Int),M,by omega,(λe=>?_),λe=>?_⟩⟩⟩⟩⟩⟩⟩
 .have e7:x="call":=jcp λz=>by rw[yh z] at e;cases e
  have ec:c=.st:=by rw[<- fc,e7];symm
  subst ec;obtain⟨hT,hF⟩:=hst rfl
  replace ic:=(uM fc).symm.trans J8
  rw[jaa e1,jaa e2,jaa e3,jaa e4] at ic;subst e7;exact⟨kB,_,(i:Int),b,M,by omega,hL,hW,bd.gv M,ic,(λhb t=>gc (hT hb t)),hF⟩
 .have e7:x≠"call":=λz=>by rw[seq z] at e;cases e
  cases c with
  |st=>
   have:=Tq fc;simp[e1,e2,e3,e4,e7] at this
  |iF=>exact absurd ((t6 (by decide)).mp fc) e5
  |wh=>exact absurd ((t6 (by decide)).mp fc) e6
  |en=>exact h.elim
  |el=>exact h.elim
  |_=>exact h
abbrev tP:Stmt:=top 57
def oG:au ["source","condition","at","then","other"] ["source","condition","at"] (ah tP):=dw
seal bf in
def uW {Q:List Rc->Rs}(hle:QLe Q)(J:Fx K mg A)(Mf:DV P w K mg base k A)(dX:vW P w K mg base A.aa k A.dD "take_just" ["self","word"] (wY A))(cQ:eN P w K mg base k A)(ai:dZ P w K mg base A.aa k "refuse_unless" ["truth","at"] dY)(di:dZ P w K mg base A.aa k "read_steps" ["source"] (mX A Q))(F:b6 K "read_choose" "read_choose" tP f fd):aG P w K mg base (eZ P w A.aa) (k+1) f fd ["source","condition","at"] (jQ K (Sj A Q)):=by
 refine eX F oG λAT B outer s H g hr=>?_;rw[show ak tP=[_,_,_,_,_] from rfl];refine⟨_,(qs (aj (i:=3) oG.nd (av di aD hr rfl aq)) (qs (aj (i:=4) oG.nd (bM az)) (qs (cz (aS (eB 40 (uE hr)) (cA q_r cQ hr) aN (aH _)) (qs (bO (gW q_r dX aD hr aq)) (qs (aj (i:=4) oG.nd (av di aD hr rfl aq)) (bK (bO (av ai aD hr rfl (qa (cL y9 (aJ cM (by rfl) J.cN jaL aq) aT (aH _)) aq)))))) bJ) (qs (bO (gW q_r dX aD hr aq)) (bK (aA (lH Mf hr rfl aq))))))),λds S kk hc hd hg h=>?_⟩;obtain⟨n,R,i,ks,c,a,rfl,src,h⟩:=h;have h1:=src.at_;have lt:=A6 h1;refine⟨hg,n,R,i,ks,M,src,?_⟩;unfold chC at h;cases hQ:Q (dF ks) with
 |uk=>rw[hQ] at h;exact h
 |er m=>rw[hQ] at h;exact h
 |ok m=>
 rw[hQ] at h;intro l hl1 hl2
 try dsimp only[cI]
 dsimp only at h;have kB:=vQ (o:=dG A R (i+m)) hg h1;have ml:m<=ks.length:=by have:=hle _ _ hQ;rw[jad] at this;exact this
 have cJ:jD A (S.set n (dG A R (i+m))) n R (i+m) (ks.drop m):=src.go ml (dH lt);have fin:∀(S':aO)(l2:List T),(∀t:T,kk (.t t) S')->(wQ (qc A.gi (JM A) (aZ (cy 2) (aZ (cy 1) (aZ (cy 3) (aZ (cy 4) cK)))))) (endsF S kk) [some (D.ob n),some (.t c),some (D.int a),some (D.lst l),some (D.lst l2)] S':=λS' l2 h=>
  ⟨_,a,c,_,_,l,l2,M,aB,M,M,made (gc (h _))⟩
 rw[<- cG] at h;by_cases hE:(dF (ks.drop m)).head?.map (·.1)=some .el
 .cases e2:dF (ks.drop m) with
  |nil=>rw[e2] at hE;cases hE
  |cons q r=>
  obtain⟨q,b⟩:=q;have eq:q=.el:=by rw[e2] at hE;exact jaw hE
  subst eq;rw[e2] at h;have il:i+m<=100:=by have:=cJ.len;have:=cJ.max;omega
  obtain⟨w,rK,e3,e4,p1,p2,ux⟩:=cJ.tl e2;have ux:=ux (S.set n (dG A R (i+m+1))) (dH lt);have Xb:=vQ (o:=dG A R (i+m+1)) hg h1;refine⟨0,_,_,by decide,aI (dH lt),by symm,n,R,i+m,M,dH lt,(λhl=>cJ.ne hl),true,jae D.bl (seq ((cJ.cm (k:=.el) (by decide)).mpr hE)),?_⟩
  try dsimp only
  rw[jab rfl];have hone:=cJ.one (q:=.el) (.inr M);rw[e2] at hone;refine⟨_,_,aI (dH lt),by symm,kB,n,R,i+m,_,M,dH lt,by omega,(λhw=>?_),λhw=>?_⟩
  .have hb:b=true:=by cases hone.mp hw;rfl
   subst hb;rw[jaq];refine⟨Xb,n,R,i+m+1,rK,M,ux,?_⟩;rw[e4];have h:Res A n R i S (λ_ S'=>∀t:T,kk (.t t) S') g.x (match Q r with
     |.ok j=>if j=0 then .er (m+1) else(zz (r.drop j)).sh (m+1+j)
     |.er j=>.er (m+1+j)
     |.uk=>.uk):=h
   cases hQ2:Q r with
   |uk=>rw[hQ2] at h;exact h
   |er j=>
    rw[hQ2] at h;show g.x ((i+m+1+j:Nat):Int);rw[show i+m+1+j=i+(m+1+j) by omega];exact h
   |ok j=>
    rw[hQ2] at h;intro l2 hz hl3
    try dsimp only[cI]
    rw[jaq,jaq];dsimp only at h;have Ym:=vQ (o:=dG A R (i+m+1+j)) hg h1;have jl:j<=rK.length:=by have:=hle _ _ hQ2;rw[<- e4,jad] at this;exact this
    have Au:jD A (S.set n (dG A R (i+m+1+j))) n R (i+m+1+j) (rK.drop j):=ux.go jl (dH lt);have il4:i+m+1+j<=100:=by have:=Au.len;have:=Au.max;omega
    refine(oe (aI (dH lt)) ⟨Ym,_,_,M,by omega,λhb=>?_,λhb=>?_⟩)
    .have hj:j≠0:=λz=>by rw[hz.mpr z] at hb;cases hb
     rw[jaa hj] at h;refine⟨_,_,aI (dH lt),by symm,Ym,o6 (kk:=λ_ S'=>∀t:T,kk (.t t) S') Au ?_ λS' z=>fin S' l2 z⟩;rw[cG,e4,show i+m+1+j=i+(m+1+j) by omega];exact qm h λ_ _ z=>z
    .have hj:j=0:=hz.mp (by cases l2 with | nil=>rfl | cons _ _=>simp at hb);rw[jab hj] at h;rw[hj];exact h
  .have hb:b=false:=by
    cases b with
    |false=>rfl
    |true=>exact absurd (hone.mpr M) hw
   subst hb;exact h
 .refine⟨0,_,_,by decide,aI (dH lt),by symm,n,R,i+m,M,dH lt,(λhl=>cJ.ne hl),false,jae D.bl (yh λz=>hE ((cJ.cm (k:=.el) (by decide)).mp z)),?_⟩
  try dsimp only
  rw[jaa (by decide)];have h:Res A n R i S (λ_ S'=>∀t:T,kk (.t t) S') g.x ((zz (dF (ks.drop m))).sh m):=by
   cases e2:dF (ks.drop m) with
   |nil=>rw[e2] at h;exact h
   |cons q r=>
    obtain⟨q,b⟩:=q;rw[e2] at h hE;cases q<;>first | exact h | exact absurd rfl hE
  refine⟨_,_,aI (dH lt),by symm,kB,o6 (kk:=λ_ S'=>∀t:T,kk (.t t) S') cJ ?_ λS' z=>?_⟩
  .exact qm h λ_ _ z=>z
  .exact fin S' [] z
abbrev tF:Stmt:=top 58
def iI:au ["source","condition","at","keeps","falls","place","body"] ["source","condition","at"] (ah tF):=dw
seal bf in
def uV {Q:List Rc->Rs}(hle:QLe Q)(J:Fx K mg A)(Mb:DS P w K mg base k A)(dX:vW P w K mg base A.aa k A.dD "take_just" ["self","word"] (wY A))(di:dZ P w K mg base A.aa k "read_steps" ["source"] (mX A Q))(cQ:eN P w K mg base k A)(aK:dZ P w K mg base A.aa k "sum_of_words" ["words","at"] (rj A))(gq:vW P w K mg base A.aa k A.dD "take" ["self"] (mW A))(dO:dZ P w K mg base A.aa k "read_writings" ["source","word"] (Jz A))(F:b6 K "read_repeat" "read_repeat" tF f fd):aG P w K mg base (eZ P w A.aa) (k+1) f fd ["source","condition","at"] (jQ K (R9 A Q)):=by
 refine eX F iI λAT B outer s H g hr=>?_;rw[show ak tF=[_,_,_,_,_,_] from rfl];refine⟨_,(qs (aj (i:=3) iI.nd (av dO aD hr rfl aq)) (qs (aj (i:=4) iI.nd SK) (qs (cz (aS (eB 40 (uE hr)) (cA q_r cQ hr) aN (aH _)) (qs (aj (i:=5) iI.nd q_r) (bK (aj (i:=4) iI.nd (rq (qa q_r (qa (av aK aD hr rfl (qa (fJ false (iN q_r gq aD hr) (bg aT) bq) aq)) az)))))) bJ) (qs (aj (i:=6) iI.nd (av di aD hr rfl aq)) (qs (bO (gW q_r dX aD hr aq)) (bK (aA (lH Mb hr rfl aq)))))))),λds S kk hc hd hg h=>?_⟩;obtain⟨n,R,i,ks,c,a,rfl,src,h⟩:=h;have h1:=src.at_;have lt:=A6 h1;have il:i<=100:=by have:=src.len;have:=src.max;omega
 unfold ZL at h;refine⟨hg,n,R,i,ks,.ho,M,by decide,src,?_⟩;cases hW:zZ .ho (dF ks) with
 |uk=>rw[hW] at h;exact h
 |er j=>rw[hW] at h;exact h
 |ok j=>
 rw[hW] at h;intro hs hl
 try dsimp only[cI]
 dsimp only at h;have cl:j<=ks.length:=by have:=p8 hW;rw[jad] at this;exact this
 have cJ:jD A (S.set n (dG A R (i+j))) n R (i+j) (ks.drop j):=src.go cl (dH lt);have fin:∀(S':aO)(z:Option D)(f:T)(l2:List T),(∀t:T,kk (.t t) S')->(wQ (qc A.fF (Ez A) (aZ (cy 2) (aZ (cy 1) (aZ (cy 3) (aZ (cy 4) (aZ (cy 6) cK))))))) (endsF S kk) [some (D.ob n),some (.t c),some (D.int a),some (D.lst (hs.map (atT A))),some (.t f),z,some (D.lst l2)] S':=λS' z f l2 h=>
  ⟨_,a,c,f,_,_,hs,l2,M,aB,M,hl,M,made (gc (h _))⟩
 have bod:∀(z:Option D)(f:T)(b:Nat)(rK:Cs)(r:List Rc),dF rK=r->jD A (S.set n (dG A R (i+b))) n R (i+b) rK->Res A n R i S (λ_ S'=>∀t:T,kk (.t t) S') g.x (TV Q b r)->
   qZ (uh (CB g (mX A Q) (aZ (cy 0) cK)) (cI 6)) (qZ (Jk (Cv g A.dD "take_just" (wY A) (cy 0) (aZ (vP (D.str "end")) cK))) (wQ (qc A.fF (Ez A) (aZ (cy 2) (aZ (cy 1) (aZ (cy 3) (aZ (cy 4) (aZ (cy 6) cK)))))))) (endsF S kk) [some (D.ob n),some (.t c),some (D.int a),some (D.lst (hs.map (atT A))),some (.t f),z,none] (S.set n (dG A R (i+b))):=λz f b rK r er s3 h=>by
  subst er;have Xb:=vQ (o:=dG A R (i+b)) hg h1;refine⟨Xb,n,R,i+b,rK,M,s3,?_⟩;unfold TV at h;cases hQ:Q (dF rK) with
  |uk=>rw[hQ] at h;exact h
  |er m=>
   rw[hQ] at h;show g.x ((i+b+m:Nat):Int);rw[jbo];exact h
  |ok m=>
   rw[hQ] at h;intro l2 hz hl3;dsimp only at h;rw[jaq];have Ym:=vQ (o:=dG A R (i+b+m)) hg h1;have ml:m<=rK.length:=by have:=hle _ _ hQ;rw[jad] at this;exact this
   have Au:jD A (S.set n (dG A R (i+b+m))) n R (i+b+m) (rK.drop m):=s3.go ml (dH lt);refine⟨_,_,aI (dH lt),by symm,Ym,o6 (kk:=λ_ S'=>∀t:T,kk (.t t) S') Au ?_ λS' z'=>fin S' z f l2 z'⟩;rw[cG,jbo];exact qm h λ_ _ z=>z
 rw[<- cG] at h;by_cases hE:(dF (ks.drop j)).head?.map (·.1)=some .fa
 .cases e2:dF (ks.drop j) with
  |nil=>rw[e2] at hE;cases hE
  |cons q r=>
  obtain⟨q,b⟩:=q;have eq:q=.fa:=by rw[e2] at hE;exact jaw hE
  subst eq;rw[e2] at h;have ij:i+j<=100:=by have:=cJ.len;have:=cJ.max;omega
  obtain⟨w,rK,e3,e4,p1,⟨p2,p3,p4⟩,ux⟩:=cJ.tl e2;have ux:=ux (S.set n (dG A R (i+j+1))) (dH lt);have kB:=vQ (o:=dG A R (i+j)) hg h1;have Xb:=vQ (o:=dG A R (i+j+1)) hg h1;have ic:fQ (w.drop 1)=some b:=by
   unfold iK at p3;rw[p2] at p3;exact p3
  refine⟨0,_,_,by decide,aI (dH lt),by symm,n,R,i+j,M,dH lt,(λhl=>cJ.ne hl),true,jae D.bl (seq ((cJ.cm (k:=.fa) (by decide)).mpr hE)),?_⟩
  try dsimp only
  rw[jab rfl];refine(oe (aI (dH lt)) (?_))
  try dsimp only[cI]
  refine⟨_,_,aI (dH lt),by symm,kB,n,R,i+j,M,dH lt,by omega,.inl ⟨w,p1,_,M,?_⟩⟩;rw[jaa (by decide),jaq];have c3:eY (w.map T.str) (some (1:Int)) none=(w.drop 1).map T.str:=by rw[show(1:Int)=((1:Nat):Int) from M,fU,jan]
  erw [c3]
  have wl:=p4.len;refine⟨Xb,w.drop 1,((i+j:Nat):Int),b,M,by omega,by rw[jay];omega,(λx hm=>p4.wd x (jaR hm)),ic,(λhb s=>?_),λhb=>?_⟩
  .subst hb;exact bod _ _ (j+1) rK r e4 ux h
  .subst hb;exact h
 .refine⟨0,_,_,by decide,aI (dH lt),by symm,n,R,i+j,M,dH lt,(λhl=>cJ.ne hl),false,jae D.bl (yh λz=>hE ((cJ.cm (k:=.fa) (by decide)).mp z)),?_⟩
  try dsimp only
  rw[jaa (by decide)];refine bod _ _ j (ks.drop j) _ rfl cJ ?_;cases e2:dF (ks.drop j) with
  |nil=>rw[e2] at h;exact h
  |cons q r=>
   obtain⟨q,b⟩:=q;rw[e2] at h hE;cases q<;>first | exact h | exact absurd rfl hE
abbrev tM:Stmt:=top 52
def gx:au ["source","at","words","answers","needs","gives","steps"] ["source"] (ah tM):=dw
seal bf in
def Lq {Q:List Rc->Rs}(hle:QLe Q)(J:Fx K mg A)(Mc:DT P w K mg base k A)(dX:vW P w K mg base A.aa k A.dD "take_just" ["self","word"] (wY A))(di:dZ P w K mg base A.aa k "read_steps" ["source"] (mX A Q))(dO:dZ P w K mg base A.aa k "read_writings" ["source","word"] (Jz A))(ug:dZ P w K mg base A.aa k "read_answers" ["source"] (Sn A))(ai:dZ P w K mg base A.aa k "refuse_unless" ["truth","at"] dY)(jw:pO P w K mg base k)(bE:dc P w K mg base k)(gq:vW P w K mg base A.aa k A.dD "take" ["self"] (mW A))(F:b6 K "read_helper" "read_helper" tM f fd):aG P w K mg base (eZ P w A.aa) (k+1) f fd ["source"] (jQ K (Sg A Q)):=by
 refine eX F gx λAT B outer s H g hr=>?_;rw[show ak tM=[_,_,_,_,_,_,_,_,_,_] from rfl];refine⟨_,(qs (aj (i:=1) gx.nd q_r) (qs (aj (i:=2) gx.nd (iN q_r gq aD hr)) (qs (bO (av ai aD hr rfl (qa (gX (cL (eB 40 (uE hr)) q_r aN (aH _)) (gX (cL y9 (aJ cM (by rfl) J.cN jaL aq) aT (aH _)) (kj (aU bE hr rfl aq)))) aq))) (qs (bO (av ai aD hr rfl (qa (aJ (xB M) (by rfl) J.xK boot_all (qa (fP (bN ["word"] [] [] rfl (by symm) (by symm) (by with_unfolding_all rfl) (by exact trivial) (by rfl) rfl (by rfl)) rfl (qi (fJ false q_r (bg aT) bq)) (λ_ _ _ _=>(qx (i:=0) (show List.Nodup (["word"]:jc2) by symm))) (λ_ _ _ _=>dQ) (λ_ _ _ _=>(aU jw hr rfl aq))) az)) aq))) (qs (aj (i:=3) gx.nd (av ug aD hr rfl aq)) (qs (aj (i:=4) gx.nd (av dO aD hr rfl aq)) (qs (aj (i:=5) gx.nd (av dO aD hr rfl aq)) (qs (aj (i:=6) gx.nd (av di aD hr rfl aq)) (qs (bO (gW q_r dX aD hr aq)) (bK (aA (lH Mc hr rfl (qa q_r (qa q_r (qa (fJ false q_r (bg aT) bq) aq))))))))))))))),λds S kk hc hd hg h=>?_⟩;obtain⟨n,R,i,ks,rfl,src,h⟩:=h;have h1:=src.at_;have lt:=A6 h1;have il:i<=100:=by have:=src.len;have:=src.max;omega
 refine(oe (aI h1) (?_))
 try dsimp only[cI]
 cases ks with
 |nil=>exact⟨_,_,aI h1,by symm,hg,n,R,i,M,h1,by omega,.inr ⟨src.hd0.2.1,h⟩⟩
 |cons p ks=>
 obtain⟨⟨c,b⟩,ws⟩:=p;obtain⟨q1,⟨fc,ic,bd⟩,q3⟩:=src.hd1;refine⟨_,_,aI h1,by symm,hg,n,R,i,M,h1,by omega,.inl ⟨_,q1,?_⟩⟩
 try dsimp only[cI]
 have kB:=vQ (o:=dG A R (i+1)) hg h1;have cJ:jD A (S.set n (dG A R (i+1))) n R (i+1) ks:=src.go (m:=1) (by simp) (dH lt);cases ws with
 |nil=>exact absurd rfl bd.ne
 |cons x r=>
 have hL:=bd.len;have hW:=bd.wd;have er0:b=false\/c≠.hp->g.x (i:Int):=by
  rintro(rfl | z)
  .cases c<;>exact h
  .cases c<;>first | exact absurd rfl z | exact h
 by_cases e1:x="helper"
 .have ec:c=.hp:=by rw[<- (show jS x=c from fc),e1];symm
  subst ec;have ic:heF (x::r)=b:=by
   unfold iK at ic;rw[fc] at ic;exact jaw ic
  subst e1;cases r with
  |nil=>
   refine⟨true,O3,?_⟩;refine⟨false,jae D.bl (jaf (by decide)),?_⟩;exact⟨kB,_,_,M,by omega,(λe=>by cases e),λ_=>er0 (.inl (by rw[<- ic];rfl))⟩
  |cons nm ps=>
  have ic:(isNm nm&&ps.all dW)=b:=ic;have nl:nm.length<=100:=hW nm (by simp);have pl:ps.length<=60:=by simp at hL;omega
  refine(oe lD ⟨true,O3,true,jae D.bl (jag (by simp;omega)),oe (b9 (j:=1) M) ⟨nm,M,by omega,kB,_,_,M,by omega,λhnm=>?_,λe=>er0 (.inl (by rw[<- ic,e];rfl))⟩⟩);rw[hnm,ja9] at ic;refine⟨_,M,?_⟩;have c2:eY ((("helper":Str)::nm::ps).map T.str) (some 2) none=ps.map T.str:=by
   rw[show(2:Int)=((2:Nat):Int) from M,fU,<- jan];rfl
  rw[jaa (by decide),c2];refine rM (jt T.str (λx=>T.bl (dW x)) trivial (nP (by omega)) (λz hz k' hk=>?_) ?_)
  .exact⟨z,M,by have:=hW z (by simp[hz]);omega,_,M,hk⟩
  refine⟨ps.map dW,by rw[ja3];rfl,kB,_,_,M,by omega,λal=>?_,λe=>er0 (.inl (by have e:(ps.map dW).all _root_.id=false:=e;rw[jbt] at e;rw[<- ic];exact e))⟩;have al:(ps.map dW).all _root_.id=true:=al;rw[jbt] at al;have ic:b=true:=by rw[<- ic];exact al
  subst ic;refine⟨kB,n,R,i+1,ks,M,cJ,?_⟩;have h:Res A n R i S (λ_ S'=>∀t:T,kk (.t t) S') g.x (match dF ks with
   |(.an,b)::r=>bif b then NR Q 2 r else .er 1
   |r=>NR Q 1 r):=by
   cases e:dF ks with
   |nil=>have h:Res A n R i S (λ_ S'=>∀t:T,kk (.t t) S') g.x (HM Q ((.hp,true)::dF ks)):=h;rw[e] at h;exact h
   |cons q r=>have h:Res A n R i S (λ_ S'=>∀t:T,kk (.t t) S') g.x (HM Q ((.hp,true)::dF ks)):=h;rw[e] at h;obtain⟨q,b⟩:=q;cases q<;>exact h
  obtain⟨e,hx⟩ | ⟨ja,rK,ea,ux,h⟩:(anC (dF ks)=.er 0/\g.x ((i+1:Nat):Int))\/∃(ja:Nat)(rK:Cs),anC (dF ks)=.ok ja/\jD A (S.set n (dG A R (i+1+ja))) n R (i+1+ja) rK/\Res A n R i S (λ_ S'=>∀t:T,kk (.t t) S') g.x (NR Q (1+ja) (dF rK)):=by
   cases ks with
   |nil=>exact .inr ⟨0,[],M,cJ,h⟩
   |cons p ks=>
    obtain⟨⟨q,b⟩,w⟩:=p;by_cases eq:q=.an
    .subst eq;cases b with
     |true=>exact .inr ⟨1,ks,M,cJ.go (m:=1) (by simp) (dH lt),h⟩
     |false=>exact .inl ⟨M,h⟩
    .refine .inr ⟨0,((q,b),w)::ks,?_,cJ,?_⟩
     .cases q<;>first | exact absurd rfl eq | rfl
     .cases q<;>first | exact absurd rfl eq | exact h
  .rw[e];exact hx
  rw[ea];intro la hla;rw[jaq]
  try dsimp only[cI]
  have Xb:=vQ (o:=dG A R (i+1+ja)) hg h1;refine⟨Xb,n,R,_,rK,.nd,M,by decide,ux,?_⟩;unfold NR at h;cases hN:zZ .nd (dF rK) with
  |uk=>rw[hN] at h;exact h
  |er m=>
   rw[hN] at h;show g.x ((i+1+ja+m:Nat):Int);rw[show i+1+ja+m=i+(1+ja+m) by omega];exact h
  |ok c1=>
  rw[hN] at h;dsimp only at h;intro ln hln;rw[jaq]
  try dsimp only[cI]
  have k1:c1<=rK.length:=by have:=p8 hN;rw[jad] at this;exact this
  have Au:jD A (S.set n (dG A R (i+1+ja+c1))) n R (i+1+ja+c1) (rK.drop c1):=ux.go k1 (dH lt);have Ym:=vQ (o:=dG A R (i+1+ja+c1)) hg h1;rw[<- cG] at h;refine⟨Ym,n,R,_,rK.drop c1,.gv,M,by decide,Au,?_⟩;cases hG:zZ .gv (dF (rK.drop c1)) with
  |uk=>rw[hG] at h;exact h
  |er m=>
   rw[hG] at h;show g.x ((i+1+ja+c1+m:Nat):Int);rw[show i+1+ja+c1+m=i+(1+ja+c1+m) by omega];exact h
  |ok c3=>
  rw[hG] at h;dsimp only at h;intro lg hlg;rw[jaq]
  try dsimp only[cI]
  have k3:c3<=(rK.drop c1).length:=by have:=p8 hG;rw[jad] at this;exact this
  have U1:jD A (S.set n (dG A R (i+1+ja+c1+c3))) n R (i+1+ja+c1+c3) ((rK.drop c1).drop c3):=Au.go k3 (dH lt);rw[<- cG,<- ja2] at h;generalize (rK.drop c1).drop c3=ks5 at h U1;have hg5:=vQ (o:=dG A R (i+1+ja+c1+c3)) hg h1;refine⟨hg5,n,R,_,ks5,M,U1,?_⟩;unfold TV at h;have ei:∀m:Nat,i+1+ja+c1+c3+m=i+(1+ja+c1+c3+m):=λm=>by omega
  cases hQ:Q (dF ks5) with
  |uk=>rw[hQ] at h;exact h
  |er m=>
   rw[hQ] at h;show g.x ((i+1+ja+c1+c3+m:Nat):Int);rw[ei];exact h
  |ok m=>
   rw[hQ] at h;intro l2 hz hl3;dsimp only at h;rw[jaq]
   try dsimp only[cI]
   have hg6:=vQ (o:=dG A R (i+1+ja+c1+c3+m)) hg h1;have ml:m<=ks5.length:=by have:=hle _ _ hQ;rw[jad] at this;exact this
   have a3n:jD A (S.set n (dG A R (i+1+ja+c1+c3+m))) n R (i+1+ja+c1+c3+m) (ks5.drop m):=U1.go ml (dH lt);refine⟨_,_,aI (dH lt),by symm,hg6,o6 (kk:=λ_ S'=>∀t:T,kk (.t t) S') a3n ?_ λS' z'=>?_⟩
   .rw[cG,ei];exact qm h λ_ _ z=>z
   .refine(oe (b9 (j:=1) M) ⟨_,M,?_⟩);rw[jaa (by decide),c2];exact⟨_,_,_,_,_,_,_,_,_,_,_,ln,lg,M,aB,M,M,M,M,M,hln,hlg,λns l=>made (gc (z' _))⟩
 .have ec:c≠.hp:=λz=>e1 ((t6 (k:=.hp) (by decide)).mp (by rw[<- z];exact fc));exact(oe lD ⟨false,jae D.bl (yh e1),kB,_,_,M,by omega,(λe=>by cases e),λ_=>er0 (.inr ec)⟩)
abbrev fk:Stmt:=inClass (top 37) 0
def uH:au ["self","at","name","params","answers","needs","gives","steps"] ["self","at","name","params","answers","needs","gives","steps"] (ah fk):=dw
seal bf in
def uZ (J:Fx K mg A)(jx:pQ P w K mg base k A)(F:b6 K "__init__" "Helper.__init__" fk f fd):aG P w K mg base dh (k+1) f fd ["self","at","name","params","answers","needs","gives","steps"] (cY K (Sf A)):=by
 refine dJ F uH λAT B outer s H E hr=>?_;rw[show ak fk=[_,_,_,_,_,_,_] from rfl];refine⟨_,(qs (aL q_r q_r M) (qs (aL q_r q_r M) (qs (aL q_r (bX cV (by rfl) J.cW jbh aq) M) (qs (aL q_r (bX cV (by rfl) J.cW jbh aq) M) (qs (aL q_r (aU jx hr rfl aq) M) (qs (aL q_r (aU jx hr rfl aq) M) (bK (aL q_r (bX cV (by rfl) J.cW jbh aq) M)))))))),λds S kk hc hd h=>?_⟩;obtain⟨i,a,nm,d1,d2,d3,d4,d5,q1,q2,q5,hs,gs,rfl,h1,e1,e2,e3,e4,e5,l3,l4,hk⟩:=h;have hz:=(jao.mp h1).1;refine⟨_,_,_,_,M,h1,J.fM.n.1,by decide,_,_,_,_,M,dH hz,J.fM.n.2.1,by decide,?_⟩;rw[jaq];refine(oe (lX (gp h1 e1)) ⟨_,_,_,_,M,dH hz,J.fM.n.2.2.1,by decide,?_⟩);rw[jaq];refine(oe (lX (gp h1 e2)) ⟨_,_,_,_,M,dH hz,J.fM.n.2.2.2.1,by decide,?_⟩);rw[jaq];refine⟨_,_,M,gp h1 e3,l3,_,_,_,_,M,dH hz,J.fM.n.2.2.2.2.1,by decide,?_⟩;rw[jaq];refine⟨_,_,M,gp h1 e4,l4,_,_,_,_,M,dH hz,J.fM.n.2.2.2.2.2.1,by decide,?_⟩;rw[jaq];refine(oe (lX (gp h1 e5)) ⟨_,_,_,_,M,dH hz,J.fM.n.2.2.2.2.2.2.1,by decide,?_⟩);rw[jaq];exact .inr (.inr (.inr (hk _ [.int a,.str nm,.tup q1,.tup q2,.tup (hs.map (atT A)),.tup (gs.map (atT A)),.tup q5])))
abbrev ee:Stmt:=inClass (top 38) 0
def r8:au ["self","helpers"] ["self","helpers"] (ah ee):=dw
seal bf in
def se (J:Fx K mg A)(F:b6 K "__init__" "Program.__init__" ee f fd):aG P w K mg base dh (k+1) f fd ["self","helpers"] (cY K (Sd A)):=by
 refine dJ F r8 λAT B outer s H E hr=>?_;rw[show ak ee=[_] from rfl];refine⟨_,(bK (aL q_r (bX cV (by rfl) J.cW jbh aq) M)),λds S kk hc hd h=>?_⟩;obtain⟨i,d,hs,rfl,h1,e1,hk⟩:=h;exact(oe (lX e1) ⟨_,_,_,_,M,h1,J.xD.n.1,by decide,.inr (.inr (.inr (hk _ [.tup hs])))⟩)
abbrev tN:Stmt:=top 45
def j8:au ["text","rows","behind","source","helpers"] ["text"] (ah tN):=dw
seal bf in
def Ls (J:Fx K mg A)(Hh:BK P w K mg base k A)(ai:dZ P w K mg base A.aa k "refuse_unless" ["truth","at"] dY)(lY:dZ P w K mg base A.aa k "read_helper" ["source"] (Sg A C3))(WW:Nr P w K mg base k A)(F:b6 K "read" "read" tN f fd):aG P w K mg base (eZ P w A.aa) (k+1) f fd ["text"] (jQ K (Sa)):=by
 refine eX F j8 λAT B outer s H g hr=>?_;rw[show ak tN=[_,_,_,_,_,_,_] from rfl];refine⟨_,(qs (aj (i:=1) j8.nd (tU true q_r aq)) (qs (aj (i:=2) j8.nd (Z0 q_r)) (qs (aj (i:=3) j8.nd (Z3 WW hr rfl aq)) (qs (aj (i:=4) j8.nd (ji (qa (av lY aD hr rfl aq) az))) (qs (iL jbO (aS AX q_r (aJ cM (by rfl) J.cN jaL aq) (aH _)) (bK (bO (rA q_r (qa (av lY aD hr rfl aq) az))))) (qs (bO (av ai aD hr rfl (qa (cL (eB 40 (uE hr)) q_r aN (aH _)) aq))) (bK (aA (lH Hh hr rfl aq))))))))),λds S kk hc hd hg h=>?_⟩;obtain⟨t,xs,b,ks,rfl,tx,h⟩:=h;have hx:=tx.ln;have tl:=tx.len;refine⟨M,M,by rw[ja4];omega,?_⟩;unfold newL;rw[jab M,tx.sp]
 try dsimp only[cI]
 refine⟨⟨M,_,gz aB⟩,xs.map T.str,T.str b,by rw[aB,jaO];rfl,?_⟩;rw[b7]
 try dsimp only[cI]
 refine⟨_,_,xs,M,aB,RA (show xq (S++[O.lst (xs.map T.str)]) (.ob S.length)=_ from gz aB),by omega,tx.bd,M,?_⟩;have lk:ks.length=xs.length:=by have:=jae List.length tx.ws;simpa using this.symm
 rw[b7,tx.ws]
 try dsimp only[cI]
 have e0:(S++[O.lst (xs.map T.str)]).length=S.length+1:=by simp
 have g0:∀(o:O)(loc:aO),(((S++[O.lst (xs.map T.str)])++[o])++loc)[S.length]?=some (O.lst (xs.map T.str)):=λo loc=>by simp
 have hgA:∀(o:O)(loc:aO),(((S++[O.lst (xs.map T.str)])++[o])++loc)[0]?=some g.m:=λo loc=>mkA (mkA (mkA hg));have a4H:∀(o:O)(loc:aO)(y:T),(∀t:T,kk (.t t) S)->closes S.length (.t y) (((S++[O.lst (xs.map T.str)])++[o])++loc) kk:=λo loc y z=>by rw[jaC,jaC];exact Q6 hc (z _)
 have R0:(ks.map (·.2)).length=ks.length:=jad ..;have okk:=tx.ok;generalize S++[O.lst (xs.map T.str)]=T0 at *;generalize eR:ks.map (·.2)=R at *;have src:∀(j:Nat),j<=ks.length->∀(loc:aO),jD A ((T0++[dG A R j])++loc) T0.length R j (ks.drop j):=λj hj loc=>⟨by simp,by rw[<- eR,jan],λp hp=>okk p (jaR hp),by rw[jay];omega,by omega⟩
 have Zo:=src 0 (jaT _) [];rw[jaK,jbS] at Zo;have hg0:=hgA (dG A R 0) [];rw[jaK] at hg0;refine⟨hg0,T0.length,R,0,ks,M,Zo,?_⟩;unfold Pe at h;cases h0:HM C3 (dF ks) with
 |uk=>rw[SG h0] at h;exact h.elim
 |er m=>rw[SH h0] at h;show g.x ((0+m:Nat):Int);rw[Nat.zero_add];exact h
 |ok m0=>
 rw[CK h0] at h;have l0:=(De h0).1;rw[jad] at l0;intro t0;rw[b7,Nat.zero_add];refine(?_)
 try dsimp only[cI]
 refine⟨λm Z S'=>∃(j f:Nat)(l1:List T),j<=ks.length/\m=ks.length - j/\l1.length<=j/\Z=[some (D.str t),some (D.ob S.length),some (D.str b),some (D.ob T0.length),some (D.ob (T0.length+1))]/\S'=(T0++[dG A R j])++[O.lst l1]/\(XX C3 (decide (b="")) 3 ((dF ks).drop m0)).sh m0=(XX C3 (decide (b="")) f (dF (ks.drop j))).sh j,⟨_,m0,3,[t0],l0,M,(De h0).2,by rw[show(T0++[dG A R m0]).length=T0.length+1 by simp];rfl,M,by rw[cG]⟩,?_⟩;rintro m Z S' ⟨j,f,l1,hj,rfl,hl1,rfl,rfl,he⟩;have g1:((T0++[dG A R j])++[O.lst l1])[T0.length]?=some (dG A R j):=(src j hj _).at_;have gh:((T0++[dG A R j])++[O.lst l1])[T0.length+1]?=some (O.lst l1):=by simp
 rw[he] at h;by_cases hjl:j=ks.length
 .refine(oe (aI g1) (oe rfl (oe (gz (g0 _ _)) ⟨false,jae D.bl (jaf (by rw[jad];omega)),?_⟩)))
  try dsimp only
  rw[jaa (by decide)];have em:(dF (ks.drop j)).isEmpty=true:=by rw[hjl,jcB];rfl
  unfold XX at h;rw[jab em] at h;refine(oe (aI g1) ⟨hgA _ _,_,_,M,by omega,λhb=>?_,λhb=>?_⟩)
  .have hb:decide (b="")=true:=by
    have hb:xor false (decide (V.str b=V.str ""))=true:=hb;rw[qd,jaS] at hb;exact hb
   rw[hb,jab rfl] at h;refine⟨_,_,l1,M,aB,RA (show xq ((T0++[dG A R j])++[O.lst l1]) (.ob (T0.length+1))=_ from gz gh),λns l=>made (a4H _ _ _ h)⟩
  .have hb:decide (b="")=false:=by
    have hb:xor false (decide (V.str b=V.str ""))=false:=hb;rw[qd,jaS] at hb;exact hb
   rw[hb,jaa (by decide)] at h;exact h
 .have em:(dF (ks.drop j)).isEmpty=false:=by
   cases e:dF (ks.drop j) with
   |nil=>have:=jae List.length e;rw[jad,jay] at this;simp at this;omega
   |cons _ _=>rfl
  refine(oe (aI g1) (oe rfl (oe (gz (g0 _ _)) ⟨true,jae D.bl (jag (by rw[jad];omega)),?_⟩)))
  try dsimp only
  rw[jab rfl];unfold XX at h;rw[em,jaa (by decide)] at h;cases f with
  |zero=>exact h.elim
  |succ f=>
  cases hs:HM C3 (dF (ks.drop j)) with
  |ok m=>
   rw[CK hs] at h;obtain⟨m1,m2⟩:=De hs;rw[jad,jay] at m1;refine⟨λZ' S'=>∃t':T,Z'=[some (D.str t),some (D.ob S.length),some (D.str b),some (D.ob T0.length),some (D.ob (T0.length+1))]/\S'=(T0++[dG A R (j+m)])++[O.lst (l1++[t'])],?_,?_⟩
   .rintro Z' S' ⟨t',rfl,rfl⟩;refine⟨ks.length - (j+m),by omega,j+m,f,l1++[t'],by omega,M,by simp;omega,M,M,?_⟩;rw[he,cG,cG,<- ja2];unfold XX;rw[cG] at em hs;rw[em,jaa (by decide),CK hs,Zw];rfl
   refine⟨⟨M,_,gz gh⟩,hgA _ _,T0.length,R,j,ks.drop j,M,src j hj _,?_⟩;rw[hs];intro t';rw[OA];refine⟨l1,by simp,Es (by omega),?_⟩;exact⟨t',M,by simp⟩
  |er m=>
   rw[SH hs] at h;refine⟨λ_ _=>False,λ_ _ z=>z.elim,⟨M,_,gz gh⟩,hgA _ _,T0.length,R,j,ks.drop j,M,src j hj _,?_⟩;rw[hs];exact h
  |uk=>rw[SG hs] at h;exact h.elim
abbrev kY:Stmt:=top 76
def uD:au ["_law_cell","_law_k","_law_mix"] ["_law_cell","_law_k"] (ah kY):=dw
seal bf in
def CV (J:Fx K mg A)(F:b6 K "_law_mixed" "_law_mixed" kY f fd):aG P w K mg base dh (k+1) f fd ["_law_cell","_law_k"] (cY K Se):=by
 refine dJ F uD λAT B outer s H E hr=>?_;rw[show ak kY=[_,_] from rfl];refine⟨_,(qs (aj (i:=2) uD.nd q_r) (bK (aA q_r))),λds S kk hc hd h=>?_⟩;obtain⟨c,j,rfl,h⟩:=h;refine⟨.inl ⟨by decide,by decide⟩,.inr ⟨by decide,by decide⟩,by decide,?_⟩;have h1:=jbR ((c+7919*j+11)*48271) (b:=2147483647) (by decide);have h2:=jbN ((c+7919*j+11)*48271) (b:=2147483647) (by decide);exact⟨.inl ⟨by omega,by omega⟩,.inl ⟨by decide,by decide⟩,by decide,gc (h _ (jbR _ (by decide)) (jbN _ (by decide)))⟩
abbrev gR:Stmt:=top 75
def jb:au ["_law_script","_law_k","_law_cell"] ["_law_script","_law_k"] (ah gR):=dw
seal bf in
def yU (J:Fx K mg A)(fL:iy P w K mg base k)(F:b6 K "_law_cell_at" "_law_cell_at" gR f fd):aG P w K mg base dh (k+1) f fd ["_law_script","_law_k"] (cY K JN):=by
 refine dJ F jb λAT B outer s H E hr=>?_;rw[show ak gR=[_,_,_] from rfl];refine⟨_,(qs (aj (i:=2) jb.nd aT) (qs (cz (aS AX q_r (aJ cM (by rfl) J.cN jaL aq) (aH _)) (bK (aj (i:=2) jb.nd q_r)) bJ) (bK (aA (aU fL hr rfl aq))))),λds S kk hc hd h=>?_⟩;obtain⟨l,j,rfl,h⟩:=h;refine(?_);by_cases hj:j<l.length
 .exact⟨true,jae D.bl (jag (by rw[jad];omega)),oe (b9 (by rw[jax,jaz hj];rfl)) ⟨_,_,M,λr _ _=>gc (h r)⟩⟩
 .exact⟨false,jae D.bl (jaf (by rw[jad];omega)),_,_,M,λr _ _=>gc (h r)⟩
abbrev oQ:Stmt:=top 77
def Gm:au ["_law_draw","_law_size"] ["_law_draw","_law_size"] (ah oQ):=dw
seal bf in
def GQ (J:Fx K mg A)(fL:iy P w K mg base k)(F:b6 K "_law_next" "_law_next" oQ f fd):aG P w K mg base dh (k+1) f fd ["_law_draw","_law_size"] (cY K Zr):=by
 refine dJ F Gm λAT B outer s H E hr=>?_;rw[show ak oQ=[_,_] from rfl];refine⟨_,(qs (OW q_r aT aT Mp) (bK (aA (aP mJ (aP LD (aU fL hr rfl aq) aT) q_r)))),λds S kk hc hd h=>?_⟩;obtain⟨d,n,rfl,hd,hn,h⟩:=h;have hlt:=hd.lt;obtain⟨c,m,e0⟩:=hd;refine⟨d,1,_,_,M,M,e0,M,1,_,M,e0,by show 1<2;decide,oe (wW (dH hlt)) (oe rfl (oe (wW (dH hlt)) ⟨_,_,M,λr _ _=>⟨⟨by decide,by decide⟩,hn,?_⟩⟩))⟩;have e:((r / 7 % n).toNat:Int)=r / 7 % n:=jcV (jbR _ (by omega));rw[<- e];exact gc (h _ _ _ (by rw[e];exact jbN _ hn))
abbrev oS:Stmt:=top 79
def w4:au ["_law_words"] [] (ah oS):=dw
seal bf in
def GS (J:Fx K mg A)(F:b6 K "_law_kept" "_law_kept" oS f fd):aG P w K mg base dh (k+1) f fd [] (cY K JH):=by
 refine dJ F w4 λAT B outer s H E hr=>?_;rw[show ak oS=[_,_] from rfl];refine⟨_,(qs (aj (i:=0) w4.nd (cO M)) (bK (aA (aP aF q_r (cO M))))),λds S kk hc hd h=>?_⟩;obtain⟨rfl,h⟩:=h;refine⟨sz 13,sz 8,_,_,M,M,sz 21,gc ?_⟩;unfold lsS rL at h;rw[jaO] at h;exact h
abbrev kX:Stmt:=top 78
def bw:au ["_law_draw","_law_many","_law_some","_law_size","_law_place","_law_base","_law_shift","_law_kept_here","_law_alike","_law_names_here","_law_k","_law_word","_law_turn"] ["_law_draw","_law_many"] (ah kX):=dw
seal bf L2.vV L2.Np L2.X7 L2.DM zN Yy X6 DL in
def CU (J:Fx K mg A)(DE:zS P w K mg base k)(gH:zQ P w K mg base k)(F:b6 K "_law_names" "_law_names" kX f fd):aG P w K mg base dh (k+1) f fd ["_law_draw","_law_many"] (cY K JF):=by
 refine dJ F bw λAT B outer s H E hr=>?_;rw[show ak kX=[_,_,_,_,_,_,_,_,_,_] from rfl];refine⟨_,(RQ (fV (J3 (i:=2) bw.nd MS) (fV (Gp (aj (i:=3) bw.nd (aP aF aT (aU gH hr rfl aq)))) (fV (Gp (aj (i:=4) bw.nd (aU gH hr rfl aq))) (fV (Gp (Kf (i:=5) bw.nd (bN ["_law_k"] ["_law_some","_law_draw"] [2,0] rfl (by symm) (by symm) (by with_unfolding_all rfl) (by exact⟨M,M,trivial⟩) (by rfl) rfl (by rfl)) rfl (CL rfl J.t9 aq) (λ_ _ _ _=>(qx (i:=0) (show List.Nodup (["_law_k","_law_some","_law_draw"]:jc2) by symm))) (λ_ _ _ _=>dQ) (λ_ _ _ _=>(AL q_r (aU gH hr rfl aq))))) (fV (Gp (aj (i:=6) bw.nd (aU gH hr rfl aq))) (fV (J3 (i:=7) bw.nd (QZ (xs:=["lets","ifs","order","rows","att","notes","calls","ends","outlet","bend","motor","modes"]) M)) (Zn (qs (aj (i:=8) bw.nd (cL (eB 40 (uE hr)) (aU gH hr rfl aq) aT (aH _))) (qs (aj (i:=9) bw.nd (ji az)) (qs (nh jcH rfl (CL rfl J.t9 aq) (qg (i:=10) bw.nd) (qs (yO (Z4 (iM 2) (Q0 (Lb mJ) (Bh (aP aF (iM 6) (aP E1 aT (iM 10)))) Tt)) (Vv q_r q_r)) (qs (aj (i:=11) bw.nd (OY MS (qa (iM 5) az))) (qs (cz (qw (yN (kg q_r) (tS (aS AX q_r aT (aH _))))) (bK (aj (i:=11) bw.nd q_r)) bJ) (qs (aj (i:=12) bw.nd aT) (qs (iL jcH (qw (w5 (aS GW q_r q_r (by rfl)) (yM (aS GW q_r (tV DE hr M) (by rfl))))) (qs (Vt (i:=12) bw.nd aT Mp) (bK (aj (i:=11) bw.nd (Tr (Q0 Wv (Q0 (Lb aF) MS (Bh (AL (iM 2) (aP mJ (iM 12) aT)))) (Bh (AL (iM 2) (aP mJ (aP aF (iM 10) (iM 12)) aT))))))))) (bK (bO (rA q_r aq))))))))) (bK (aA q_r))))))))))))),λds S kk hc hd h=>?_⟩;obtain⟨d,m,rfl,hm8,hd,h⟩:=h;have hlt:=hd.lt;refine⟨d,8,M,hd,by first | decide | omega,λr1 cr1 mr1 hr1=>?_⟩;refine⟨d,_,M,hd.pB,by omega,λr2 cr2 mr2 hr2=>?_⟩;rw[Q3];refine⟨(1+(r1:Int)),M,by omega,by omega,?_⟩;have e1:(1+(r1:Int)).toNat=r1+1:=by omega
 rw[e1];refine XA (n:=r1+1) hd (λy=>∃x,y=T.str x/\BJ x) (by omega) (λi c9 m9 k' hk=>?_) λys c9 m9 hl hp=>?_
 .refine⟨d,26,M,hd.pB,by first | decide | omega,λr cr mr hr=>?_⟩;rw[Q3];have h26:r<26:=by omega
  exact⟨ud,_,Ng h26,_,M,hk _ _ _ ⟨_,M,E6 h26⟩⟩
 obtain⟨ss,rfl,hsl,hs1⟩:=ex_map hp;rw[jad] at hl;rw[dR];refine⟨d,26,M,hd.pB.up,by first | decide | omega,λr3 cr3 mr3 hr3=>?_⟩;rw[FA (by rw[dR];exact hlt),Q3];refine⟨sz 12,d,3,M,hd.pB.up,by first | decide | omega,λr4 cr4 mr4 hr4=>?_⟩;rw[FA (by rw[dR];exact hlt),Q3];refine a3u ?_;generalize hal:xor false (decide (V.int (r4:Int)=V.int 1))=al
 try dsimp only
 refine Vd ?_;rw[jaD,dR,jaC];generalize cr4=c;generalize mr4=m0;refine⟨(m:Int),M,by omega,by omega,?_⟩;rw[Int.toNat_natCast];refine zp (λi Z S'=>∃y z w,∃(bs:List T)(ss ns:jc2),Z=[some (D.ob d),some (D.int m),some (D.str XZ),some (D.int (1+(r1:Int))),some (D.int r2),some (D.ob (S.length+0)),some (D.int r3),some (D.t (lsN mO)),some (D.bl al),some (D.ob (S.length+1)),y,z,w]/\S'=pB S d c m0++[O.lst bs,O.lst (ns.map T.sn)]/\Paired IsT bs ss/\ss.length=r1+1/\(∀x∈ss,BJ x)/\ns.length=i/\ns.Nodup/\∀x∈ns,isNm x=true) ⟨_,_,_,_,ss,[],M,M,Fd ss,by omega,hs1,M,.nil,λ_ h=>absurd h jbb⟩ ?_ ?_
 .rintro i x Z S' N hx ⟨y,z,w,bs,ss,ns,rfl,rfl,hbs,hsl,hs1,hnl,hnd,hnm⟩ hN;have hbl:bs.length=ss.length:=jbc hbs;have hi:i<m:=by
   have:=(jao.mp hx).1;simpa using this
  rw[jax,jb2 hi] at hx;cases hx;refine⟨trivial,.inl ⟨by decide,by decide⟩,(by show(0:Int)<26;decide),ud,_,zL _,S.length+0,r2,_,_,M,M,M,b8 (q:=0) dR,by omega,?_⟩;obtain⟨bs',ss',hss,a1i,hon,a4x,Xa⟩:∃(bs':List T)(ss':jc2),(pB S d c m0++[O.lst bs,O.lst (ns.map T.sn)]).set (S.length+0) (O.lst (bs.set r2 (T.sn ⟨#[97+(((r3:Int)+5*(i:Int)) % 26).toNat]⟩)))=pB S d c m0++[O.lst bs',O.lst (ns.map T.sn)]/\Paired IsT bs' ss'/\(∀y,bs'=[y]->∃z,y=T.sn z)/\ss'.length=r1+1/\∀x∈ss',BJ x:=by
   refine⟨bs.set r2 _,ss.set r2 ⟨#[97+(((r3:Int)+5*(i:Int)) % 26).toNat]⟩,?_,Fe _ _ hbs,Wt (by omega),by rw[jaQ];exact hsl,λx hx=>?_⟩
   .rw[<- dR (S:=S) (d:=d) (c:=c) (m:=m0),fD];rfl
   .rcases jcJ hx with hx | rfl
    .exact hs1 x hx
    .exact ve _
  rw[hss];have hjo:=W0 Xa (by omega) (by omega);refine⟨M,bs',ss',gz (b8 (q:=0) dR),a1i,hon,?_,?_⟩
  .rw[Aq ss' λx hx=>(Xa x hx).len];show _+_*0<=_;omega
  try dsimp only[cI]
  refine ZG (λZ S'=>∃w0,Z=[some (D.ob d),some (D.int m),some (D.str XZ),some (D.int (1+(r1:Int))),some (D.int r2),some (D.ob (S.length+0)),some (D.int r3),some (D.t (lsN mO)),some (D.bl al),some (D.ob (S.length+1)),some (D.int i),some (D.sn w0),w]/\S'=pB S d c m0++[O.lst bs',O.lst (ns.map T.sn)]/\Yz w0) (λNn Yo=>?_) ?_
  .show Er _ _ _ _ _;refine TY al (decide ((i:Int)<12)) (λk' hk=>⟨_,M,hk⟩) (λk' hk=>⟨_,M,hk⟩) ?_;cases hb:(al&&decide ((i:Int)<12)) with
   |true=>
    obtain⟨x0,hx0,ex0⟩:=Qq ((i:Int)+(r3:Int));exact⟨(by show(0:Int)<12;decide),oe ex0 (Yo _ _ ⟨x0,M,M,hx0⟩)⟩
   |false=>exact Yo _ _ ⟨_,M,M,hjo⟩
  rintro Z S' ⟨w0,rfl,rfl,hw0⟩;refine⟨λmm Z S'=>∃(t:Nat)(w:Str),mm=30 - t/\Z=[some (D.ob d),some (D.int m),some (D.str XZ),some (D.int (1+(r1:Int))),some (D.int r2),some (D.ob (S.length+0)),some (D.int r3),some (D.t (lsN mO)),some (D.bl al),some (D.ob (S.length+1)),some (D.int i),some (D.sn w),some (D.int t)]/\S'=pB S d c m0++[O.lst bs',O.lst (ns.map T.sn)]/\Yz w/\t<=10/\(1<=t->w=zt i t)/\∀s,s+1<t->zt i (s+1)∈ns,⟨30,0,w0,M,M,M,hw0,by omega,λh=>absurd h (by decide),λs h=>absurd h (by omega)⟩,?_⟩;rintro mm Z S' ⟨t,w,rfl,rfl,rfl,hw,ht,hz,hm⟩;have ht8:t<=9:=by
   have:=Ua (k:=(i:Int)) (xs:=ns) (n:=t - 1) (by omega) λs hs=>hm s (by omega);omega
  refine a3P (decide (w∈ns)) (decide (w∈rL)) (λk' hk=>⟨_,_,_,M,M,wW (b8 (q:=1) dR),MI ns,_,jae D.bl (by rw[jaS,Mu (f:=V.sn) (λ_ _=>rfl)]),hk⟩) (λk' hk=>⟨M,_,_,_,M,M,M,f9 rL,_,jae D.bl (by rw[jaS,Mu (f:=V.str) (λ_ _=>rfl)]),hk⟩) ?_;cases hb:(decide (w∈ns)||decide (w∈rL)) with
  |true=>
   refine⟨λZ' S'=>∃m',m' < 30 - t/\_,λZ' S' h=>h,?_⟩;refine⟨(t:Int),M,1,M,(by show(0:Int)<26;decide),ud,_,zL _,sz 2,(by show(0:Int)<26;decide),ud,_,zL _,(by show 0<2;decide),(by show 0<1;decide),sz 3,30 - (t+1),by omega,t+1,zt i (t+1),M,M,M,a20 _ _,by omega,λ_=>rfl,λs hs=>?_⟩;by_cases e:s+1=t
   .have hw2:=hz (by omega);rw[e,<- hw2];rcases Bool.or_eq_true_iff.mp hb with h | h
    .exact ja0 h
    .exact absurd (ja0 h) (by rw[hw2];exact BW _ _)
   .exact hm s (by omega)
  |false=>
   have hb:=Bool.or_eq_false_iff.mp hb;have hwn:w∉ns:=jbl hb.1;refine⟨⟨M,_,gz (b8 (q:=1) dR)⟩,_,b8 (q:=1) dR,Es (by rw[jad];omega),?_⟩;have es:(pB S d c m0++[O.lst bs',O.lst (ns.map T.sn)]).set (S.length+1) (O.lst (ns.map T.sn++[T.sn w]))=pB S d c m0++[O.lst bs',O.lst ((ns++[w]).map T.sn)]:=by
    rw[<- dR (S:=S) (d:=d) (c:=c) (m:=m0),fD,jaO];rfl
   rw[es];refine hN _ _ ⟨_,_,_,bs',ss',ns++[w],M,M,a1i,a4x,Xa,by rw[jaD,hnl];rfl,?_,λx hx=>?_⟩
   .rw[jcA];exact⟨hnd,by simp,λa ha b hb=>by rw[jaE.mp hb];exact λz=>hwn (z ▸ ha)⟩
   .rcases jaU.mp hx with hx | hx
    .exact hnm x hx
    .rw[jaE.mp hx];exact a0G hw (jbl hb.2)
 .rintro Z S' ⟨y,z,w,bs,ss,ns,rfl,rfl,hbs,hsl,hs1,hnl,hnd,hnm⟩;rw[jad,List.length_range] at hnl;exact⟨trivial,FN (XF hc) dR rfl (h ns c m0 hnl hnd hnm)⟩
abbrev oO:Stmt:=top 82
def qj:au ["_law_text","e","_law_others"] ["_law_text"] (ah oO):=dw
seal bf in
def GP {W fI fW:Addr}{TU HR:jc3}(XT:XTx K mg A.aa W fI fW TU HR (x5 A))(J:Fx K mg A)(Uy:dZ P w K mg base A.aa k "read" ["text"] Sa)(F:b6 K "_law_refused" "_law_refused" oO f fd):aG P w K mg base dh (k+1) f fd ["_law_text"] (cY K mY):=by
 refine dJ F qj λAT B outer s H E hr=>?_;rw[show ak oO=[_,_] from rfl];refine⟨_,(qs (OV (i:=1) rfl rfl XT.ct XT.cw XT.hin rfl XT.mgW qj.nd rfl rfl (λpn xe g hp=>(bK (bO (av Uy hp hr rfl aq)))) (λa dx oe pn hc hd hn=>(qs (aj (i:=2) qj.nd (aJ (M7 (K:=K) (cs:=x5 A) rfl XT.xi jai hc hd hn) (by rfl) J.dz jcl (qa (iM 1) (qa (rq (qa (jh (dm (v:=.ref A.nF) rfl J.pe M)) (qa (jh (dm (v:=.ref A.nE) rfl J.o9 M)) (qa (jh (dm (v:=.ref A.gK) rfl J.iT M)) (qa (jh (dm (v:=.ref A.gJ) rfl J.iR M)) (qa (jh (dm (v:=.ref A.gI) rfl J.iQ M)) az)))))) az)))) (qs (cz (qw (w5 (uN (kg (aJ (BB (K:=K) (c:=.ref A.aa) (u:=.ref A.aa) rfl XT.xi jai hc hd hn rfl λv h=>h) (by rfl) J.dz jcl (qa (iM 1) (qa (jh (dm (v:=.ref A.aa) rfl J.iS M)) az))))) (w5 (uN (kg (aJ (BB (K:=K) (c:=.ty "ValueError") (u:=.type "ValueError") rfl XT.xi jai hc hd hn rfl λv h=>h) (by rfl) J.dz jcl (qa (iM 1) (qa (jh (EW (v:=.ty "ValueError") rfl J.pI PyProof.Rows.Boot.«ValueError» M)) az))))) (w5 (kg q_r) (yM (kg (aJ (XM (K:=K) (c:=.ty "bool") rfl trivial M) (by rfl) J.dz jcl (qa (SN XT.xi jai hc hd hn XT.hd XT.hf (iM 1) M) (qa (jh (EW (v:=.ty "bool") rfl J.XQ boot_bool M)) az))))))))) tT bJ) (bK (aA (SN XT.xi jai hc hd hn XT.hd XT.hf (iM 1) M))))))) (bK (aA (EK aT)))),λds S kk hc hd h=>?_⟩;obtain⟨t,xs,b,ks,o,rfl,rfl,tx,h⟩:=h;refine⟨o,M,λn=>∀o',kk (.int n) [o'],λY G=>⟨M,t,xs,b,ks,M,tx,h.mono (λh t'=>gc (h _)) λn z=>z⟩,λn hx a dx=>?_⟩;refine⟨M,M,⟨n,A2⟩,false,XT.k5,?_⟩
 try dsimp only[cI]
 refine⟨M,M,⟨n,A2⟩,true,XT.kN,_,M,?_⟩;refine⟨M,M,⟨n,A2⟩,true,XT.kV,_,M,?_⟩;refine⟨_,M,?_⟩;refine⟨M,n,A2,M,_,false,M,XT.kb,_,M,?_⟩;refine⟨M,n,A2,gc (hx _)⟩
abbrev oN:Stmt:=top 80
def eV:au ["_law_names_here","_law_x","_law_y","_law_a","_law_rows_here"] ["_law_names_here"] (ah oN):=dw
seal bf in
def GO (J:Fx K mg A)(F:b6 K "_law_rows" "_law_rows" oN f fd):aG P w K mg base dh (k+1) f fd ["_law_names_here"] (cY K JI):=by
 refine dJ F eV λAT B outer s H E hr=>?_;rw[show ak oN=[_,_,_,_,_] from rfl];refine⟨_,(qs (yO (fJ false (iM 0) bq (bg aT)) (Vw (n:=3) rfl (HK (qg (i:=1) eV.nd) (HK (qg (i:=2) eV.nd) (HK (qg (i:=3) eV.nd) oW))))) (qs (aj (i:=4) eV.nd (bM (qa (aP aF (aP aF (aP aF aN (ki (iM 1))) aN) (ki (iM 3))) (qa (aP aF aN (ki (iM 2))) (qa (aP aF (aP aF aN (ki (iM 1))) aN) (qa (aP aF (aP aF (aP aF (aP aF aN (ki (iM 2))) aN) (ki (iM 1))) aN) az)))))) (qs (aj (i:=4) eV.nd (aP aF q_r (bM (qa (aP aF (aP aF aN (ki (iM 2))) aN) (qa (aP aF (aP aF (aP aF aN (ki (iM 2))) aN) (ki (iM 1))) (qa (aP aF (aP aF (aP aF aN (ki (iM 2))) aN) (ki (iM 1))) (qa (aP aF (aP aF (aP aF aN (ki (iM 1))) aN) (ki (iM 2))) az))))))) (qs (aj (i:=4) eV.nd (aP aF q_r (bM (qa (aP aF (aP aF (aP aF (aP aF aN (ki (iM 2))) aN) (ki (iM 2))) aN) (qa aN (qa (aP aF (aP aF aN (ki (iM 2))) aN) (qa (aP aF (aP aF aN (ki (iM 3))) aN) aq))))))) (bK (aA (aP aF q_r (bM aq)))))))),λds S kk hc hd h=>?_⟩;obtain⟨x,y,a,rfl,hx,hy,ha,h⟩:=h;have lx:=eF hx;have ly:=eF hy;have la:=eF ha;have e0:(" #":Str).length<=10:=by symm
 have e1:(" + 1":Str).length<=10:=by symm
 have e2:(" - ":Str).length<=10:=by symm
 have e3:(" < ":Str).length<=10:=by symm
 have e4:(" < 1":Str).length<=10:=by symm
 have e5:(" < 1 or ":Str).length<=10:=by symm
 have e6:(" = ":Str).length<=10:=by symm
 have e7:(" = 0":Str).length<=10:=by symm
 have e8:(" = 1":Str).length<=10:=by symm
 have e9:(" at 0 = 2":Str).length<=10:=by symm
 have e10:("answers ":Str).length<=10:=by symm
 have e11:("else":Str).length<=10:=by symm
 have e12:("end":Str).length<=10:=by symm
 have e13:("falls ":Str).length<=10:=by symm
 have e14:("gives ":Str).length<=10:=by symm
 have e15:("helper f ":Str).length<=10:=by symm
 have e16:("holds ":Str).length<=10:=by symm
 have e17:("if ":Str).length<=10:=by symm
 have Yt:("let ":Str).length<=10:=by symm
 have e19:("needs ":Str).length<=10:=by symm
 have e20:("put ":Str).length<=10:=by symm
 have e21:("row q = 3":Str).length<=10:=by symm
 have e22:("while ":Str).length<=10:=by symm
 have x0:x.length<=10:=jap lx (by decide);have y0:y.length<=10:=jap ly (by decide);have a0:a.length<=10:=jap la (by decide);refine⟨_,M,?_⟩;rw[jaa (by decide)];refine⟨[T.sn x,T.sn y,T.sn a],M,M,_,_,M,_,_,M,_,_,M,M,?_⟩
 try dsimp only[cI]
 refine⟨_,M,pL e15 x0,pL (le_app e15 x0) e0,_,M,pL (le_app (le_app e15 x0) e0) a0,_,M,pL e10 y0,_,M,pL e19 x0,pL (le_app e19 x0) e4,_,M,pL e14 y0,pL (le_app e14 y0) e5,_,M,pL (le_app (le_app e14 y0) e5) x0,pL (le_app (le_app (le_app e14 y0) e5) x0) e4,?_⟩
 try dsimp only[cI]
 refine⟨_,M,pL Yt y0,pL (le_app Yt y0) e8,_,M,pL e22 y0,pL (le_app e22 y0) e3,_,M,pL (le_app (le_app e22 y0) e3) x0,_,M,pL e16 y0,pL (le_app e16 y0) e3,_,M,pL (le_app (le_app e16 y0) e3) x0,_,M,pL e13 x0,pL (le_app e13 x0) e2,_,M,pL (le_app (le_app e13 x0) e2) y0,_,_,M,M,sz 8,?_⟩
 try dsimp only[cI]
 refine⟨_,M,pL Yt y0,pL (le_app Yt y0) e6,_,M,pL (le_app (le_app Yt y0) e6) y0,pL (le_app (le_app (le_app Yt y0) e6) y0) e1,_,M,pL e17 y0,pL (le_app e17 y0) e7,_,M,pL e20 a0,pL (le_app e20 a0) e9,_,_,M,M,sz 13,?_⟩
 try dsimp only[cI]
 refine⟨_,_,M,M,sz 16,gc h⟩
abbrev oR:Stmt:=top 81
def Gn:au ["_law_rows_here"] ["_law_rows_here"] (ah oR):=dw
seal bf in
def GR (J:Fx K mg A)(F:b6 K "_law_laid" "_law_laid" oR f fd):aG P w K mg base dh (k+1) f fd ["_law_rows_here"] (cY K kP):=by
 refine dJ F Gn λAT B outer s H E hr=>?_;rw[show ak oR=[_] from rfl];refine⟨_,(bK (aA (Kn aN (qa (fP (bN ["_law_row"] [] [] rfl (by symm) (by symm) (by with_unfolding_all rfl) (by exact trivial) (by rfl) rfl (by rfl)) rfl (qi q_r) (λ_ _ _ _=>(qx (i:=0) (show List.Nodup (["_law_row"]:jc2) by symm))) (λ_ _ _ _=>dQ) (λ_ _ _ _=>q_r)) az)))),λds S kk hc hd h=>?_⟩;obtain⟨xs,rfl,hl,hb,h⟩:=h;refine⟨M,rM (jt T.str (λx=>T.str (x++("\n":Str))) trivial (nP (by omega)) (λz hz k' hk=>?_) ?_)⟩
 .exact⟨um (by rw[show("\n":Str).length=1 by symm];have:=hb z hz;omega),_,M,hk⟩
 have ls:=Jp (l:=xs.map (·++("\n":Str))) (jcY:=100001) λx hx=>by
  obtain⟨z,hz,rfl⟩:=jaY.mp hx;rw[wB,show("\n":Str).length=1 by symm];have:=hb z hz;omega
 rw[jad] at ls;refine⟨xs.map (·++("\n":Str)),by rw[ja3];rfl,?_,gc h⟩;rw[jad,show("":Str).length=0 by symm];omega
abbrev yC:Stmt:=top 83
def kT:au ["_law_some"] [] (ah yC):=dw
seal bf in
def P0 (J:Fx K mg A)(F:b6 K "_law_wrong_sums" "_law_wrong_sums" yC f fd):aG P w K mg base dh (k+1) f fd [] (cY K (wX YI)):=by
 refine dJ F kT λAT B outer s H E hr=>?_;rw[show ak yC=[_,_,_,_,_,_] from rfl];refine⟨_,(qs (aj (i:=0) kT.nd (cO M)) (qs (aj (i:=0) kT.nd (aP aF q_r (bM aq))) (qs (aj (i:=0) kT.nd (aP aF q_r (cO M))) (qs (aj (i:=0) kT.nd (aP aF q_r (bM aq))) (qs (aj (i:=0) kT.nd (aP aF q_r (cO M))) (bK (aA (aP aF q_r (bM aq))))))))),λds S kk hc hd h=>?_⟩;obtain⟨rfl,h⟩:=h;refine⟨sz 10,?_⟩;dsimp only[cI];refine⟨_,_,M,M,sz 12,?_⟩;dsimp only[cI];refine⟨sz 10,_,_,M,M,sz 22,?_⟩;dsimp only[cI];refine⟨_,_,M,M,sz 26,?_⟩;dsimp only[cI];refine⟨sz 12,_,_,M,M,sz 38,?_⟩;dsimp only[cI];refine⟨_,_,M,M,sz 41,gc ?_⟩;exact h
abbrev yE:Stmt:=top 84
def ff:au ["_law_some"] [] (ah yE):=dw
seal bf in
def P5 (J:Fx K mg A)(F:b6 K "_law_wrong_conditions" "_law_wrong_conditions" yE f fd):aG P w K mg base dh (k+1) f fd [] (cY K (wX YL)):=by
 refine dJ F ff λAT B outer s H E hr=>?_;rw[show ak yE=[_,_,_,_,_,_,_,_,_,_] from rfl];refine⟨_,(qs (aj (i:=0) ff.nd (cO M)) (qs (aj (i:=0) ff.nd (aP aF q_r (bM aq))) (qs (aj (i:=0) ff.nd (aP aF q_r (bM aq))) (qs (aj (i:=0) ff.nd (aP aF q_r (bM aq))) (qs (aj (i:=0) ff.nd (aP aF q_r (bM aq))) (qs (aj (i:=0) ff.nd (aP aF q_r (bM aq))) (qs (aj (i:=0) ff.nd (aP aF q_r (bM aq))) (qs (aj (i:=0) ff.nd (aP aF q_r (bM aq))) (qs (aj (i:=0) ff.nd (aP aF q_r (cO M))) (bK (aA (aP aF q_r (bM aq))))))))))))),λds S kk hc hd h=>?_⟩;obtain⟨rfl,h⟩:=h;refine⟨sz 10,?_⟩;dsimp only[cI];refine⟨_,_,M,M,sz 12,?_⟩;dsimp only[cI];refine⟨_,_,M,M,sz 16,?_⟩;dsimp only[cI];refine⟨_,_,M,M,sz 17,?_⟩;dsimp only[cI];refine⟨_,_,M,M,sz 20,?_⟩;dsimp only[cI];refine⟨_,_,M,M,sz 23,?_⟩;dsimp only[cI];refine⟨_,_,M,M,sz 27,?_⟩;dsimp only[cI];refine⟨_,_,M,M,sz 30,?_⟩;dsimp only[cI];refine⟨sz 6,_,_,M,M,sz 36,?_⟩;dsimp only[cI];refine⟨_,_,M,M,sz 38,gc ?_⟩;exact h
abbrev yD:Stmt:=top 85
def bS:au ["_law_some"] [] (ah yD):=dw
seal bf in
def P4 (J:Fx K mg A)(F:b6 K "_law_wrong_rows" "_law_wrong_rows" yD f fd):aG P w K mg base dh (k+1) f fd [] (cY K (wX YJ)):=by
 refine dJ F bS λAT B outer s H E hr=>?_;rw[show ak yD=[_,_,_,_,_,_,_,_,_,_,_,_,_,_,_,_,_,_,_] from rfl];refine⟨_,(qs (aj (i:=0) bS.nd (cO M)) (qs (aj (i:=0) bS.nd (aP aF q_r (bM aq))) (qs (aj (i:=0) bS.nd (aP aF q_r (bM aq))) (qs (aj (i:=0) bS.nd (aP aF q_r (bM aq))) (qs (aj (i:=0) bS.nd (aP aF q_r (bM aq))) (qs (aj (i:=0) bS.nd (aP aF q_r (bM aq))) (qs (aj (i:=0) bS.nd (aP aF q_r (cO M))) (qs (aj (i:=0) bS.nd (aP aF q_r (bM aq))) (qs (aj (i:=0) bS.nd (aP aF q_r (cO M))) (qs (aj (i:=0) bS.nd (aP aF q_r (bM aq))) (qs (aj (i:=0) bS.nd (aP aF q_r (cO M))) (qs (aj (i:=0) bS.nd (aP aF q_r (bM aq))) (qs (aj (i:=0) bS.nd (aP aF q_r (cO M))) (qs (aj (i:=0) bS.nd (aP aF q_r (cO M))) (qs (aj (i:=0) bS.nd (aP aF q_r (cO M))) (qs (aj (i:=0) bS.nd (aP aF q_r (cO M))) (qs (aj (i:=0) bS.nd (aP aF q_r (cO M))) (qs (aj (i:=0) bS.nd (aP aF q_r (cO M))) (bK (aA (aP aF q_r (bM aq)))))))))))))))))))))),λds S kk hc hd h=>?_⟩;obtain⟨rfl,h⟩:=h;refine⟨sz 9,?_⟩;dsimp only[cI];refine⟨_,_,M,M,sz 11,?_⟩;dsimp only[cI];refine⟨_,_,M,M,sz 15,?_⟩;dsimp only[cI];refine⟨_,_,M,M,sz 17,?_⟩;dsimp only[cI];refine⟨_,_,M,M,sz 21,?_⟩;dsimp only[cI];refine⟨_,_,M,M,sz 22,?_⟩;dsimp only[cI];refine⟨sz 5,_,_,M,M,sz 27,?_⟩;dsimp only[cI];refine⟨_,_,M,M,sz 30,?_⟩;dsimp only[cI];refine⟨sz 6,_,_,M,M,sz 36,?_⟩;dsimp only[cI];refine⟨_,_,M,M,sz 38,?_⟩;dsimp only[cI];refine⟨sz 6,_,_,M,M,sz 44,?_⟩;dsimp only[cI];refine⟨_,_,M,M,sz 46,?_⟩;dsimp only[cI];refine⟨sz 6,_,_,M,M,sz 52,?_⟩;dsimp only[cI];refine⟨sz 6,_,_,M,M,sz 58,?_⟩;dsimp only[cI];refine⟨sz 6,_,_,M,M,sz 64,?_⟩;dsimp only[cI];refine⟨sz 6,_,_,M,M,sz 70,?_⟩;dsimp only[cI];refine⟨sz 9,_,_,M,M,sz 79,?_⟩;dsimp only[cI];refine⟨sz 9,_,_,M,M,sz 88,?_⟩;dsimp only[cI];refine⟨_,_,M,M,sz 92,gc ?_⟩;exact h
abbrev kU:Stmt:=top 86
def bV:au ["_law_cell","_law_name","_law_kind","_law_more","_law_some","_law_ahead","_law_text"] ["_law_cell","_law_name"] (ah kU):=dw
seal bf L2.vV L2.Np L2.X7 L2.DM zN Yy X6 DL in
def CT (J:Fx K mg A)(qG:nI P w K mg base k)(ju:iw P w K mg base k)(qH:nJ P w K mg base k)(F:b6 K "_law_wrong" "_law_wrong" kU f fd):aG P w K mg base dh (k+1) f fd ["_law_cell","_law_name"] (cY K RU):=by
 refine dJ F bV λAT B outer s H E hr=>?_;rw[show ak kU=[_,_,_,_] from rfl];refine⟨_,(RQ (fV (J3 (i:=2) bV.nd (Q0 (Lb mJ) (Bh (iM 0)) Tt)) (fV (Gp (aj (i:=3) bV.nd q_r)) (fV (Gp (cz (aS AX q_r aT (aH _)) (qs (aj (i:=4) bV.nd (tV qG hr M)) (qs (aj (i:=5) bV.nd (cO (xs:=["let @ = ","row @ = ","put @ at 1 = ","let @ = 2 mod ","let @ = @ at ","claim 1 < "]) M)) (qs (aj (i:=5) bV.nd (aP aF q_r (bM aq))) (bK (aj (i:=6) bV.nd (aP aF q_r (AL q_r (aP mJ q_r (aJ cM (by rfl) J.cN jaL aq))))))))) (bK (cz (aS AX q_r aT (aH _)) (qs (aj (i:=4) bV.nd (tV ju hr M)) (bK (aj (i:=6) bV.nd (aP aF (AL (cO (xs:=["claim ","if ","while ","needs ","holds ","gives "]) M) q_r) (AL q_r (aP mJ q_r (aJ cM (by rfl) J.cN jaL aq))))))) (qs (aj (i:=4) bV.nd (tV qH hr M)) (bK (aj (i:=6) bV.nd (AL q_r (aP mJ q_r (aJ cM (by rfl) J.cN jaL aq)))))))))) (UY (ZH (a1y (Bh (iM 6)) (X0 Xu (a5p (qa (iM 1) az)))))))))),λds S kk hc hd h=>?_⟩;obtain⟨c,x,rfl,hx,h⟩:=h;have lx:=eF hx;have ne:("@":Str)≠x:=λe=>by rw[<- e] at hx;revert hx;symm
 refine⟨(by show(0:Int)<5;decide),?_⟩;dsimp only[cI];refine⟨⟨by decide,by decide⟩,?_⟩;dsimp only[cI];refine ZG (λZ S'=>∃(t:Str)(z2 z3 z4 z5:Option D),Z=[some (D.int c),some (D.sn x),z2,z3,z4,z5,some (D.str t)]/\S'=S/\ND t=true) (λNn Yo=>?_) ?_
 .have ln:∀{L:jc2}{jcY:Nat},L.length=jcY->0<jcY->(0:Int)<(((L.map T.str).length:Nat):Int):=λh1 h2=>by rw[jad,h1];omega
  have ix:∀(L:jc2)(jcY:Nat)(q:Int),L.length=jcY->0<jcY->∃t,t∈L/\nQ (L.map T.str) (q % (((L.map T.str).length:Nat):Int))=some (T.str t):=λL jcY q h1 h2=>by
   rw[jad,h1];exact IU L h1 h2 q
  have tl:∀{t:Str},ND t=true->t.length<=60:=λh=>(RH h hx).1;have l1:YI.length=41:=rfl;have l2:YL.length=38:=rfl;have l3:YJ.length=92:=rfl;by_cases h2:c % 5<2
  .refine⟨true,jae D.bl (jag h2),?_⟩;rw[jab rfl];refine⟨M,?_⟩;dsimp only[cI];refine⟨sz 6,?_⟩;dsimp only[cI];refine⟨_,_,M,M,sz 8,?_⟩;dsimp only[cI];obtain⟨p,hp,ep⟩:=IU haL (jcY:=8) rfl (by decide) (c / 5 / 100);obtain⟨s,hs,es⟩:=ix YI 41 (c / 5) l1 (by decide);have ht:ND (p++s)=true:=jav.mp (jav.mp a24 p hp) s hs;refine⟨⟨by decide,by decide⟩,(by show(0:Int)<8;decide),oe ep ⟨ln l1 (by decide),oe es ⟨?_,Yo _ _ ⟨p++s,_,_,_,_,M,M,ht⟩⟩⟩⟩;have:=tl ht;rw[wB] at this;exact um (by omega)
  .refine⟨false,jae D.bl (jaf h2),?_⟩;rw[jaa (by decide)];by_cases h4:c % 5<4
   .refine⟨true,jae D.bl (jag h4),?_⟩;rw[jab rfl];refine⟨M,?_⟩;dsimp only[cI];obtain⟨p,hp,ep⟩:=IU hcL (jcY:=6) rfl (by decide) (c / 5 / 100);obtain⟨s,hs,es⟩:=ix YL 38 (c / 5) l2 (by decide);have ht:ND (p++s)=true:=jav.mp (jav.mp a26 p hp) s hs;refine⟨sz 6,⟨by decide,by decide⟩,(by show(0:Int)<6;decide),oe ep ⟨ln l2 (by decide),oe es ⟨?_,Yo _ _ ⟨p++s,_,_,_,_,M,M,ht⟩⟩⟩⟩;have:=tl ht;rw[wB] at this;exact um (by omega)
   .refine⟨false,jae D.bl (jaf h4),?_⟩;rw[jaa (by decide)];refine⟨M,?_⟩;dsimp only[cI];obtain⟨s,hs,es⟩:=ix YJ 92 (c / 5) l3 (by decide);have ht:ND s=true:=jav.mp a25 s hs;exact⟨ln l3 (by decide),oe es (Yo _ _ ⟨s,_,_,_,_,M,M,ht⟩)⟩
 rintro Z S' ⟨t,z2,z3,z4,z5,rfl,rfl,ht⟩;obtain⟨l60,⟨c1,r1⟩,c2,r2⟩:=RH ht hx;exact⟨M,_,_,M,ne,by omega,by omega,gc (h _ _ r1),gc (h _ _ r2)⟩
abbrev mG:Stmt:=top 87
def ia:au ["_law_script","_law_names_here","_law_rows_here","_law_k","_law_cell","_law_place","_law_wrong_here","_law_more","_law_far","_law_doubled"] ["_law_script"] (ah mG):=dw
seal bf in
def Wu (J:Fx K mg A)(fE:sI P w K mg base k)(jv:zR P w K mg base k)(rS:wG P w K mg base k)(fL:iy P w K mg base k)(mP:sJ P w K mg base k)(DC:zP P w K mg base k)(BA:wH P w K mg base k)(F:b6 K "law" "law" mG f fd):aG P w K mg base dh (k+1) f fd ["_law_script"] (cY K JG):=by
 refine dJ F ia λAT B outer s H E hr=>?_;rw[show ak mG=[_,_,_,_,_] from rfl];refine⟨_,(qs (aj (i:=1) ia.nd (aU BA hr rfl (qa (ji (qa (aU mP hr rfl aq) aq)) aq))) (qs (aj (i:=2) ia.nd (aU DC hr rfl aq)) (qs (cz (aS (yZ 40 (uE hr)) (aU fE hr rfl (qa (aU jv hr rfl aq) az)) (EK aT) (aH _)) tT bJ) (qs (nh jcH rfl (CL rfl J.t9 aq) (qg (i:=3) ia.nd) (qs (aj (i:=4) ia.nd (aU mP hr rfl aq)) (qs (aj (i:=5) ia.nd q_r) (qs (aj (i:=6) ia.nd (aU rS hr rfl aq)) (qs (aj (i:=7) ia.nd (aP aF (aP aF (fJ false q_r bq (bg q_r)) (bM aq)) (fJ false q_r (bg q_r) bq))) (qs (cz (aS (yZ 40 (uE hr)) (aU fE hr rfl (qa (aU jv hr rfl aq) az)) q_r (aH _)) tT bJ) (qs (aj (i:=8) ia.nd q_r) (qs (aj (i:=9) ia.nd (aP aF (aP aF (fJ false q_r bq (bg q_r)) (bM (qa (aU rS hr rfl (qa (aU fL hr rfl aq) aq)) az))) (fJ false q_r (bg q_r) bq))) (bK (cz (aS (yZ 40 (uE hr)) (aU fE hr rfl (qa (aU jv hr rfl aq) az)) q_r (aH _)) tT bJ)))))))))) (bK (aA (cL (eB 40 (uE hr)) (aU fE hr rfl (qa (aU jv hr rfl aq) az)) (EK aT) (aH _)))))))),λds S kk hc hd h=>?_⟩;obtain⟨l,rfl,rfl,h⟩:=h;refine⟨l,0,M,λc0=>⟨0,3,M,by decide,⟨_,_,M⟩,λns c m hl nd hnm=>?_⟩⟩;obtain⟨x,y,a,rfl⟩:=Ja hl;rw[show pB ([]++[O.lst [T.v (V.int c0),T.v (V.int 0)]]) 0 c m=[O.lst [T.int c,T.int m]] from rfl];generalize O.lst [T.int c,T.int m]=o;have hx:=hnm x (by simp);have hy:=hnm y (by simp);have ha:=hnm a (by simp)
 try dsimp only[cI]
 refine⟨x,y,a,M,hx,hy,ha,?_⟩;have gk:(gC x y a).map (·.1)=Xd:=a40 x y a;have lg:(gC x y a).length=16:=rfl;have gl:LC 16 (gC x y a):=⟨a1s hx hy ha,by rw[lg];decide,by decide⟩
 generalize gC x y a=G at gk lg gl
 try dsimp only[cI]
 refine CI (r:=-1) gl rfl (by rw[gk];rfl) (λS k z=>z) λo1=>?_;refine⟨(4:Int),M,by decide,by decide,?_⟩;rw[show(4:Int).toNat=4 from rfl];refine zp (λi Z S'=>∃(z3 z4 z5 z6 z7 z8 z9:Option D)(o':O),Z=[some (D.t (T.Az (List.map T.int l))),some (D.t (lsN [x,y,a])),some (D.lst (tc G)),z3,z4,z5,z6,z7,z8,z9]/\S'=[o']) ⟨_,_,_,_,_,_,_,_,M,M⟩ ?_ ?_
 .rintro i xk Z S' Nn hxk ⟨z3,z4,z5,z6,z7,z8,z9,o',rfl,rfl⟩ hN;have hi:i<4:=by
   have:=(jao.mp hxk).1;simpa using this
  rw[jax,jb2 hi] at hxk;cases hxk;refine⟨trivial,l,1+i,M,λcl=>?_⟩;obtain⟨p,ep,hp⟩:=a0J (c:=cl) (m:=17) (by decide);have ep:cl % 17=(p:Int):=ep
  try dsimp only[cI]
  refine⟨(by show(0:Int)<17;decide),?_⟩;rw[ep]
  try dsimp only[cI]
  obtain⟨nm,en,hnm⟩:∃nm:Str,nQ [T.sn x,T.sn y,T.sn a] ((i:Int) % 3)=some (T.sn nm)/\isNm nm=true:=by
   have:i=0\/i=1\/i=2\/i=3:=by omega
   rcases this with rfl | rfl | rfl | rfl
   .exact⟨x,b9 (j:=0) M,hx⟩
   .exact⟨y,b9 (j:=1) M,hy⟩
   .exact⟨a,b9 (j:=2) M,ha⟩
   .exact⟨x,b9 (j:=0) M,hx⟩
  refine⟨⟨by decide,by decide⟩,(by show(0:Int)<3;decide),oe en ⟨cl / 17,nm,M,hnm,λw f rt=>?_⟩⟩
  try dsimp only[cI]
  refine⟨_,M,?_⟩;rw[jaa (by decide),Br,En];refine⟨_,_,M,M,(gl.take p).nP,?_⟩;rw[Jb _ (f,false) w];refine⟨_,M,?_⟩;rw[jaa (by decide),fU,Eo];have h1:LC 17 (G.take p++[((f,false),w)]):=(gl.take p).app (LC.one (p:=((f,false),w)) rt) (by decide);refine⟨_,_,M,M,h1.sz (gl.drop p),?_⟩;rw[<- Ct];have hM:LC 33 ((G.take p++[((f,false),w)])++G.drop p):=h1.app (gl.drop p) (by decide);have kM:((G.take p++[((f,false),w)])++G.drop p).map (·.1)=Xd.take p++(f,false)::Xd.drop p:=by rw[jaO,jaO,List.map_take,jan,gk,jaC];rfl
  generalize (G.take p++[((f,false),w)])++G.drop p=jcY at hM kM
  try dsimp only[cI]
  show qZ _ _ _ [some (D.t (T.Az (List.map T.int l))),some (D.t (lsN [x,y,a])),some (D.lst (tc G)),some (D.int i),some (D.int cl),some (D.int p),some (D.str w),some (D.lst (tc jcY)),z8,z9] _;refine CI (r:=p) hM rfl (by rw[kM,Te p hp];rfl) (λS k z=>z) λo2=>?_;have e17:(17:Int) - (p:Int)=((17 - p:Nat):Int):=by omega
  obtain⟨q,eq,hq⟩:=a0J (c:=cl / 7) (m:=17 - p) (by omega);refine⟨⟨by decide,by decide⟩,(by omega),?_⟩;rw[e17,eq]
  try dsimp only[cI]
  refine⟨_,M,?_⟩;rw[jaa (by decide),show((p:Int)+1+(q:Int))=((p+1+q:Nat):Int) by push_cast;rfl,Br,En];refine⟨cl,3,M,λr _ _=>?_⟩;refine⟨r,x,M,hx,λw2 f2 rt2=>?_⟩;refine⟨_,_,M,M,(hM.take _).nP,?_⟩;rw[Jb _ (f2,false) w2];refine⟨_,M,?_⟩;rw[jaa (by decide),fU,Eo];have h2:LC 34 (jcY.take (p+1+q)++[((f2,false),w2)]):=(hM.take _).app (LC.one (p:=((f2,false),w2)) rt2) (by decide);refine⟨_,_,M,M,h2.sz (hM.drop _),?_⟩;rw[<- Ct];have hD:LC 67 ((jcY.take (p+1+q)++[((f2,false),w2)])++jcY.drop (p+1+q)):=h2.app (hM.drop _) (by decide);have kD:∃r,((jcY.take (p+1+q)++[((f2,false),w2)])++jcY.drop (p+1+q)).map (·.1)=Xd.take p++(f,false)::r:=by
   have lp:(Xd.take p).length=p:=by rw[jci];exact jcF (by show p<=16;omega)
   rw[jaC,jaO,List.map_take,kM];exact⟨_,Mq _ _ _ _ (by rw[lp];omega)⟩
  generalize (jcY.take (p+1+q)++[((f2,false),w2)])++jcY.drop (p+1+q)=M2 at hD kD;obtain⟨rr,kD⟩:=kD
  try dsimp only[cI]
  refine CI (r:=p) hD rfl (by rw[kD,Te p hp];rfl) (λS k z=>z) λo3=>?_;exact hN _ _ ⟨_,_,_,_,_,_,_,_,M,M⟩
 rintro Z S' ⟨z3,z4,z5,z6,z7,z8,z9,o',rfl,rfl⟩;refine⟨trivial,?_⟩;show i9 mY (aZ (i9 kP (aZ (cy 2) cK)) cK) [some (D.t (T.Az (List.map T.int l))),some (D.t (lsN [x,y,a])),some (D.lst (tc G)),z3,z4,z5,z6,z7,z8,z9] [o'] _;refine Sy (r:=-1) gl rfl (by rw[gk];rfl) λo4=>?_;show(endsF [] kk).rt _ _;rw[show xor false (decide (V.int (-1)=V.int (-1)))=true from ieq rfl];exact gc (h _)
variable {fI fW:Addr}{TU HR:jc3}{W:Addr}
abbrev sV:Stmt:=inClass (top 2) 0
def JY:au ["self","words"] ["self","words"] (ah sV):=dw
def Lf (F:b6 K "__init__" "WritError.__init__" sV fW fd)(XT:XTx K mg A.aa W fI fW TU HR (x5 A)):aG P w K mg base dh (k+1) fW fd ["self","words"] (Zp A.aa):=by
 refine F.ok JY (λvs H Q E ⟨a,v,e,_⟩=>by rw[e];rfl) ?_;rintro AT B outer s H vs Q E hr ⟨a,v,e,ha,hk⟩;subst e;rw[show ak sV=[_] from rfl];exact⟨_,yR (yS (KU XT.ct rfl XT.mgV XT.gv (k6 (pv 0) (k6 (pv 1) uR)))),_,M,_,M,a,v,M,ha,hk⟩
variable {fI fW:Addr}{TU HR:jc3}{W:Addr}
abbrev oM:Stmt:=inClass (top 4) 0
def Gk:au ["self","at"] ["self","at"] (ah oM):=dw
def GN {fdW:FuncData}(F:b6 K "__init__" "NoText.__init__" oM fI fd)(XT:XTx K mg A.aa W fI fW TU HR (x5 A))(FW:aG P w K mg base dh k fW fdW ["self","words"] (Zp A.aa))(bW:L2.Binds K fdW ["self","words"] []):aG P w K mg base dh (k+1) fI fd ["self","at"] (JE A.aa):=by
 refine F.ok Gk (λvs H Q E ⟨a,v,e,_⟩=>by rw[e];rfl) ?_;rintro AT B outer s H vs Q E hr ⟨a,n,e,hn,ha,hk⟩;subst e;rw[show ak oM=[_,_] from rfl];refine⟨_,AN (yS (EV rfl XT.mgW XT.g1 XT.g2 XT.g3 XT.g4 XT.g5 FW hr bW rB (k6 (pv 0) (k6 (Pq (KL (VZ (pv 1) (KL V0)))) uR)))) (yR (Pb XT.st (pv 0) (pv 1) M)),?_⟩;obtain⟨l1,l2⟩:=QC hn;have e1:("row ":Str).length<=100:=by symm
 have e2:(" is of no form, or can't stand where it is":Str).length<=100:=by symm
 have e0:(Str.empty++("row ":Str)).length<=100:=by symm
 have e3:(Str.ofString (toString n)).length<=30:=by rw[PySem.ofString_length];exact l1
 have z3:=le_app e0 e3;have z4:=le_app z3 e2;refine⟨_,M,um (by omega),_,M,.inl ⟨n,M,l2,um (by omega),um (by omega),um (by omega),a,_,M,ha,?_⟩⟩;exact⟨_,M,_,M,a,M,ha,λdx h1 h2=>hk dx h1 h2⟩
end
end L3
namespace Hw
open PySem L2 PyProof.Rows
def QK {K:Frag}{x qual:Str}{st:Stmt}{f:Addr}{oc:Value}{od an:jc6}{osl:jc1}{kV doc pm AT ct:Value}{A:Arguments}{B:List Stmt}{S:Scope}(l:K.lookup f=some ⟨oc,od,.func (fnOf x qual A B S .none kV doc pm an AT ct),osl⟩)(e:(A,B,S)=(cB st,ak st,ah st))(c:codeIn K AT qual=true)(k:keepIn K (.ref f)=true):b6 K x qual st f (fnOf x qual (cB st) (ak st) (ah st) .none kV doc pm an AT ct):=by
 obtain⟨e1,e2⟩:=Prod.mk.inj e;obtain⟨e2,e3⟩:=Prod.mk.inj e2;rw[e1,e2,e3] at l;exact Xi l c k
def zv:jc2->(Nat->Value)->jc3
 |[],_=>[]
 |_::r,g=>g 0::zv r λn=>g (n+1)
def YB (ps:jc2):∀us:jc3,us.length=ps.length->∃g,us=zv ps g:=by
 induction ps with
 |nil=>exact λus h=>⟨λ_=>.none,List.eq_nil_of_length_eq_zero h⟩
 |cons p ps ih=>
  intro us h;cases us with
  |nil=>cases h
  |cons a r=>
   obtain⟨g,e⟩:=ih r (Nat.succ.inj h);exact⟨λn=>n.casesOn a λm=>g m,by rw[e];rfl⟩
theorem _root_.L2.b6.bb {K:Frag}{x qual:Str}{st:Stmt}{f:Addr}{fd:FuncData}{ps:jc2}(F:b6 K x qual st f fd)(h:autoParam (∀(kV doc pm:Value)(an:jc6)(AT ct:Value)(g:Nat->Value),bindArgs (fnOf x qual (cB st) (ak st) (ah st) .none kV doc pm an AT ct) ⟨zv ps g,[]⟩=pure (ps.zip (zv ps g))) ke):Binds K fd ps []:=F.binds λkV doc pm an AT ct us e=>by
 obtain⟨g,rfl⟩:=YB ps us e;exact h kV doc pm an AT ct g
end Hw
namespace L3
open PySem L2 Hw
theorem NC.ok {K:Frag}{C:Addr}(q:NC K C)(cg:specialIn K (.builtin "object.__class__") "__get__"=some (some (.builtin "getset_descriptor.__get__")))(ct:takesIn K (.builtin "object.__class__")=some true):rX K C []:=⟨⟨q.pg,q.hd,q.po,q.sa⟩,λ_ h=>absurd h jbb,q.ca,cg,ct,q.cm⟩
def FnAt (K:Frag)(f:Addr)(x qual:Str)(st:Stmt):Prop:=∃fd,b6 K x qual st f fd/\keepIn K (.ref f)=true
def Fa (K:Frag)(x:Str)(s:Stmt):Prop:=∃f,nsIn K mainGlobals x=some (some (.ref f))/\FnAt K f x x s
def Fm (K:Frag)(C:Addr)(m q:Str)(s:Stmt):Prop:=∃f,findIn K (.ref C) m=some (some (.ref f))/\isFn K (.ref f)=true/\FnAt K f m q s
def Fas (K:Frag):List (Str×Stmt)->Prop
 |[]=>True
 |(x,s)::r=>Fa K x s/\Fas K r
def Fms (K:Frag):List (Addr×Str×Str×Stmt)->Prop
 |[]=>True
 |(C,m,q,s)::r=>Fm K C m q s/\Fms K r
def Css (K:Frag):List (Str×Addr×jc2)->Prop
 |[]=>True
 |(x,C,fs)::r=>(nsIn K mainGlobals x=some (some (.ref C))/\NC K C/\Nfs K C fs)/\Css K r
def Nzs (K:Frag):jc2->Prop
 |[]=>True
 |x::r=>nsIn K mainGlobals x=some none/\Nzs K r
theorem Fas.at {K:Frag}:∀{l:List (Str×Stmt)},Fas K l->∀(n:Nat){x:Str}{s:Stmt},l[n]?=some (x,s)->Fa K x s
 |_::_,h,0,_,_,e=>by cases e;exact h.1
 |_::_,h,n+1,_,_,e=>Fas.at h.2 n e
theorem Fms.at {K:Frag}:∀{l:List (Addr×Str×Str×Stmt)},Fms K l->∀(n:Nat){C:Addr}{m q:Str}{s:Stmt},l[n]?=some (C,m,q,s)->Fm K C m q s
 |_::_,h,0,_,_,_,_,e=>by cases e;exact h.1
 |_::_,h,n+1,_,_,_,_,e=>Fms.at h.2 n e
theorem Css.ok {K:Frag}{mg:Str->jc7}(jcY:∀(x:Str)(a:Addr),nsIn K mainGlobals x=some (some (.ref a))->mg x=some (.ref a))(cg:specialIn K (.builtin "object.__class__") "__get__"=some (some (.builtin "getset_descriptor.__get__")))(ct:takesIn K (.builtin "object.__class__")=some true){x:Str}{C:Addr}{fs:jc2}(h:nsIn K mainGlobals x=some (some (.ref C))/\NC K C/\Nfs K C fs):Kc K mg x C fs:=⟨jcY _ _ h.1,h.2.1,h.2.1.ok cg ct,h.2.2⟩
section
variable {P:Program}{w:World}{K:Frag}{mg:Str->jc7}{base:Heap}{k:Nat}{f:Addr}{fd:FuncData}{ps:jc2}{sp Zt:fG}{A:Ad}
theorem Xl {s s':Sp}(h:∀vs H Q E,s' vs H Q E->s vs H Q E)(F:aG P w K mg base dh k f fd ps s):aG P w K mg base dh k f fd ps s':=
 ⟨λvs H Q E q=>F.len vs H Q E (h vs H Q E q),λA outer s H args us vs Q E hr he hb hv q=>F.run A outer s H args us vs Q E hr he hb hv (h _ _ _ _ q)⟩
def a1u {s':Sp}(h:∀vs H Q E,s' vs H Q E->cY K sp vs H Q E)(F:aG P w K mg base dh k f fd ps (cY K sp)):aG P w K mg base dh k f fd ps s':=Xl h F
def _root_.Hw.Dn.u {x:Str}{j:Nat}{s:Sp}(h:Dn P w K mg base j x ps s)(l:autoParam (j<=k) zn):Dn P w K mg base k x ps s:=Dn.up h l
def Ms.u {n j:Nat}{m:Str}{cl:Nat->Addr}{s:Nat->fG}(h:Ms P w K mg base j n cl m ps s)(l:autoParam (j<=k) zn):Ms P w K mg base k n cl m ps s:=Ms.up h l
def qK.u {x:Str}{C:Addr}{j:Nat}(h:qK P w K mg base j C x ps sp)(l:autoParam (j<=k) zn):qK P w K mg base k C x ps sp:=qK.up h l
def dA {x:Str}{st:Stmt}{s:Sp}(J:Fx K mg A)(l:Fa K x st)(o:∀{f:Addr}{fd:FuncData},b6 K x x st f fd->aG P w K mg base dh k f fd ps s)(b:autoParam (∀(kV doc pm:Value)(an:jc6)(AT ct:Value)(g:Nat->Value),bindArgs (fnOf x x (cB st) (ak st) (ah st) .none kV doc pm an AT ct) ⟨Hw.zv ps g,[]⟩=pure (ps.zip (Hw.zv ps g))) ke):Dn P w K mg base k x ps s:=by
 obtain⟨f,a,fd,F,kp⟩:=l;exact⟨f,fd,o F,J.gl _ _ a,kp,F.bb b⟩
def mA {C:Addr}{m q:Str}{st:Stmt}{s:Sp}(l:Fm K C m q st)(o:∀{f:Addr}{fd:FuncData},b6 K m q st f fd->aG P w K mg base dh k f fd ps s)(b:autoParam (∀(kV doc pm:Value)(an:jc6)(AT ct:Value)(g:Nat->Value),bindArgs (fnOf m q (cB st) (ak st) (ah st) .none kV doc pm an AT ct) ⟨Hw.zv ps g,[]⟩=pure (ps.zip (Hw.zv ps g))) ke):Mt P w K mg base k C m ps s:=by
 obtain⟨f,a,i,fd,F,kp⟩:=l;exact mtM (o F) a i kp (F.bb b)
def mS {C:Addr}{m q:Str}{st:Stmt}{s:fG}(l:Fm K C m q st)(o:∀{f:Addr}{fd:FuncData},b6 K m q st f fd->aG P w K mg base dh k f fd ps (cY K s))(b:autoParam (∀(kV doc pm:Value)(an:jc6)(AT ct:Value)(g:Nat->Value),bindArgs (fnOf m q (cB st) (ak st) (ah st) .none kV doc pm an AT ct) ⟨Hw.zv ps g,[]⟩=pure (ps.zip (Hw.zv ps g))) ke):Ms P w K mg base k 1 (λ_=>C) m ps (λ_=>s):=λj hj=>mA l o b
def kA {C:Addr}{x q:Str}{fs:jc2}{st:Stmt}{s:fG}(c:Kc K mg x C fs)(l:Fm K C "__init__" q st)(o:∀{f:Addr}{fd:FuncData},b6 K "__init__" q st f fd->aG P w K mg base dh k f fd ps (cY K s))(b:autoParam (∀(kV doc pm:Value)(an:jc6)(AT ct:Value)(g:Nat->Value),bindArgs (fnOf "__init__" q (cB st) (ak st) (ah st) .none kV doc pm an AT ct) ⟨Hw.zv ps g,[]⟩=pure (ps.zip (Hw.zv ps g))) ke):qK P w K mg base (k+1) C x ps s:=by
 obtain⟨f,a,i,fd,F,kp⟩:=l;exact⟨k,jb5 k,mrM (o F) c.q.mi a i c.q.kc (F.bb b),c.k,c.g⟩
def dU {C:Addr}{x:Str}{st:Stmt}{s:iX}(J:Fx K mg A)(l:Fa K x st)(o:∀{f:Addr}{fd:FuncData},b6 K x x st f fd->aG P w K mg base (eZ P w C) k f fd ps (jQ K s))(b:autoParam (∀(kV doc pm:Value)(an:jc6)(AT ct:Value)(g:Nat->Value),bindArgs (fnOf x x (cB st) (ak st) (ah st) .none kV doc pm an AT ct) ⟨Hw.zv ps g,[]⟩=pure (ps.zip (Hw.zv ps g))) ke):dZ P w K mg base C k x ps s:=by
 obtain⟨f,a,fd,F,kp⟩:=l;exact⟨f,fd,o F,J.gl _ _ a,kp,F.bb b⟩
def muA {C c:Addr}{m q:Str}{st:Stmt}{s:iX}(l:Fm K c m q st)(o:∀{f:Addr}{fd:FuncData},b6 K m q st f fd->aG P w K mg base (eZ P w C) k f fd ps (jQ K s))(b:autoParam (∀(kV doc pm:Value)(an:jc6)(AT ct:Value)(g:Nat->Value),bindArgs (fnOf m q (cB st) (ak st) (ah st) .none kV doc pm an AT ct) ⟨Hw.zv ps g,[]⟩=pure (ps.zip (Hw.zv ps g))) ke):vW P w K mg base C k c m ps s:=by
 obtain⟨f,a,i,fd,F,kp⟩:=l;exact⟨f,fd,o F,⟨a,i,kp⟩,F.bb b⟩
def kMU {C0 C:Addr}{x q:Str}{fs:jc2}{st:Stmt}{s:iX}(c:Kc K mg x C fs)(l:Fm K C "__init__" q st)(o:∀{f:Addr}{fd:FuncData},b6 K "__init__" q st f fd->aG P w K mg base (eZ P w C0) k f fd ps (jQ K s))(b:autoParam (∀(kV doc pm:Value)(an:jc6)(AT ct:Value)(g:Nat->Value),bindArgs (fnOf "__init__" q (cB st) (ak st) (ah st) .none kV doc pm an AT ct) ⟨Hw.zv ps g,[]⟩=pure (ps.zip (Hw.zv ps g))) ke):HD P w K mg base C0 (k+1) C x ps s:=by
 obtain⟨f,a,i,fd,F,kp⟩:=l;exact⟨k,jb5 k,⟨f,fd,o F,⟨c.q.mi,a,i,c.q.kc⟩,F.bb b⟩,c.k,c.g⟩
def Cm.up {x m:Str}{j:Nat}(h:Cm P w K mg base j x m ps sp)(l:j<=k):Cm P w K mg base k x m ps sp:=let⟨C,f,fd,F,a⟩:=h.ok;⟨⟨C,f,fd,F.mono l,a⟩⟩
def Cm.u {x m:Str}{j:Nat}(h:Cm P w K mg base j x m ps sp)(l:autoParam (j<=k) zn):Cm P w K mg base k x m ps sp:=Cm.up h l
def dZ.u {C:Addr}{x:Str}{j:Nat}{s:iX}(h:dZ P w K mg base C j x ps s)(l:autoParam (j<=k) zn):dZ P w K mg base C k x ps s:=dZ.up h l
def vW.u {C c:Addr}{m:Str}{j:Nat}{s:iX}(h:vW P w K mg base C j c m ps s)(l:autoParam (j<=k) zn):vW P w K mg base C k c m ps s:=vW.up h l
theorem a1t {C:Addr}:aG P w K mg base (eZ P w C) k f fd ps (jQ K (mX A C0)):=
 ⟨(by rintro vs H Q E ⟨_,S,ds,kk,g,_,_,_,⟨_,_,_,_,_,_,q⟩,_⟩;exact q.elim),(by rintro A outer s H args us vs Q E hr he hb hv ⟨_,S,ds,kk,g,_,_,_,⟨_,_,_,_,_,_,q⟩,_⟩;exact q.elim)⟩
theorem Xj {C:Addr}:aG P w K mg base (eZ P w C) k f fd ps (jQ K (JD A (lJ 0))):=
 ⟨(by rintro vs H Q E ⟨_,S,ds,kk,g,_,_,_,⟨_,_,_,_,_,_,_,_,q,_⟩,_⟩;exact(nomatch q)),(by rintro A outer s H args us vs Q E hr he hb hv ⟨_,S,ds,kk,g,_,_,_,⟨_,_,_,_,_,_,_,_,q,_⟩,_⟩;exact(nomatch q))⟩
def T7:QLe C0:=λ_ _ h=>nomatch h
def HD.u {C0 C:Addr}{x:Str}{j:Nat}{s:iX}(h:HD P w K mg base C0 j C x ps s)(l:autoParam (j<=k) zn):HD P w K mg base C0 k C x ps s:=let⟨i,a,b⟩:=h;⟨i,jaB a l,b⟩
theorem An:∀l:List (Str×Tok),Vals ((l.map (·.1)).map V.str) (l.map λp=>Value.str p.1 p.2)
 |[]=>.nil
 |p::l=>.cons ⟨p.2,M⟩ (An l)
theorem tupK {a:Addr}{od:jc6}{n:Nat}{sl:jc1}{l:List (Str×Tok)}(h:K.lookup a=some ⟨.type "tuple",od,.seq (l.map λp=>Value.str p.1 p.2).toArray n,sl⟩)(hl:decide (l.length<=100)=true):∀H:Hp,kL K H a ((l.map (·.1)).map V.str):=λH=>
 .inr ⟨_,_,n,h,M,M,nP (by have:=ja0 hl;simp;omega),by simpa using An l,LH⟩
theorem WQ:∀vs H Q E,EB K vs H Q E->cY K JG vs H Q E:=(by
 rintro vs H Q E ⟨a,ns,e,hs,_,h⟩;refine⟨[],[],[.t (.Az (ns.map T.int))],λd _=>d=.bl true,⟨M,.nil,λn a o h=>by cases h⟩,?_,⟨ns,M,M,λ_=>rfl⟩,λv H' u=>?_⟩
 .rw[e];refine .cons ?_ .nil;show Rp _ _ _ _;unfold Rp;rw[ON];exact⟨a,_,M,hs,aX.ofInts ns⟩
 .obtain⟨Y',S',d,_,_,r,rfl⟩:=u;rw[ay r];exact h H')
end
theorem kS4 {K:Frag}{A:Ad}(h0:kitOne K (.ref (TH A 0)) (.ref A.bA)=some false)(h1:kitOne K (.ref (TH A 1)) (.ref A.bA)=some false)(h2:kitOne K (.ref (TH A 2)) (.ref A.bA)=some true)(h3:kitOne K (.ref (TH A 3)) (.ref A.bA)=some true):∀j,j<4->kitOne K (.ref (TH A j)) (.ref A.bA)=some (decide (2<=j)):=λj hj=>by
 match j,hj with
 |0,_=>exact h0
 |1,_=>exact h1
 |2,_=>exact h2
 |3,_=>exact h3
end L3
namespace Hw
open PySem L2 PyProof.Rows
open PySem.W (findIn keepIn fnOf codeIn kitOne nsIn mg_of isFn plainGet hasDictIn plainOver makesIn mg_none_of mroIn)
def MH {K:Frag}{x qual:Str}{st:Stmt}{f:Addr}{oc:Value}{od an:jc6}{osl:jc1}{kV doc pm AT ct:Value}{A:Arguments}{B:List Stmt}{S:Scope}(l:K.lookup f=some ⟨oc,od,.func (fnOf x qual A B S .none kV doc pm an AT ct),osl⟩)(e:(A,B,S)=(cB st,ak st,ah st))(c:codeIn K AT qual=true)(k:keepIn K (.ref f)=true):L3.FnAt K f x qual st:=⟨_,QK l e c k,k⟩
theorem all_mk {l:OpenLaw}{w:World}{K:Frag}{h:Heap}{mg:Str->jc7}{fa wz cS dS bA gM kG wA g8 kH BE rT kJ rV gi fF g7 fN dD bZ aa bQ nF nE gK gJ gI Sp fS fW fI f67:Addr}{rW:Addr}{yY:jc6}{A1:Nat}{yj:jc1}{ou oq oj oi oh n9 n8 n6 n5 nZ mF mE mD mz mw mq mj mh l9 l7 lZ:Tok}{Ni:Addr}{Qe:jc6}{WA:Nat}{Ov:jc1}{Ei Eh Eg Ef Ed Ec:Tok}{Ik RB:Str}{D8:Addr}{IG p7 D4:jc3}{Ae IL:Bool}{Ig:jc2}{D6:Option Bool}{ID:jc6}{IB Iz Iv Ir Ip:jc7}{Il RC:Str}{D9:Addr}{II mT D5:jc3}{Af IM:Bool}{Ih:jc2}{D7:Option Bool}{IE:jc6}{IC IA Iw Iu Iq:jc7}{tcd:ClassData}{tD1 tD2 tD3:Tok}(X:K.In h)(G:h.Ns mainGlobals mg)(hfa:mg "law"=some (.ref fa))
  {a3U a1Q:jc6} {a3o:jc1} {a3V a06 a1C a0e XI a1D:Value} {A67:Arguments} {B67:List Stmt} {S67:Scope}
  (hc:L3.Css K (("Sum",wz,["terms","number"])::("Compare",cS,["one","sign","other"])::("Turned",dS,["condition"])::("Several",bA,[])::("Every",gM,["conditions"])::("Some",kG,["conditions"])::("Let",wA,["at","name","total"])::("Divide",g8,["at","name","word","total","by"])::("Fetch",kH,["at","name","row","place"])::("Put",BE,["at","row","place","total"])::("Make",rT,["at","row","size"])::("Claim",kJ,["at","condition"])::("Call",rV,["at","names","helper","given"])::("Choose",gi,["at","condition","then","other"])::("Repeat",fF,["at","condition","keeps","falls","body"])::("Helper",g7,["at","name","params","answers","needs","gives","steps"])::("Program",fN,["helpers"])::("Rows",dD,["rows","at"])::("Tokens",bZ,["tokens","place","at"])::[]))
  (Dg:nsIn K mainGlobals "Step"=some (some (.ref Sp)))
  (Uv:findCls K (.ref Sp) (.type "type") "__init__"=some (.val (.ref fS)))
  (N5:specialIn K (.builtin "object.__class__") "__get__"=some (some (.builtin "getset_descriptor.__get__")))
  (N4:takesIn K (.builtin "object.__class__")=some true)
  (Uu:specialIn K (.ref Sp) "__getattribute__"=some (some (.builtin "type.__getattribute__")))
  (Ut:readsIn K Sp (.type "type")=true)
  (lS:L3.FnAt K fS "__init__" "Step.__init__" L3.gS)
  (ha:L3.Fas K (("are_figures",L3.yI)::("is_name",L3.yG)::("is_thing",L3.yF)::("is_figure_row",L3.yJ)::("sum_of",L3.oH)::("as_pairs",L3.jc)::("refuse_unless",L3.yx)::("term_of",L3.sZ)::("signed_terms",L3.yv)::("sum_of_words",L3.yu)::("tokens_of",L3.sW)::("read_comparison",L3.tO)::("read_bracketed",L3.yz)::("read_part",L3.oJ)::("read_condition",L3.oK)::("condition_of",L3.yK)::("read_make",L3.tH)::("read_put",L3.tG)::("read_let",L3.tK)::("given_of",L3.yH)::("read_call",L3.tQ)::("read_answers",L3.tR)::("read_writings",L3.s8)::("read_steps",L3.tu)::("read_step",L3.tE)::("read_choose",L3.tP)::("read_repeat",L3.tF)::("read_helper",L3.tM)::("read",L3.tN)::("_law_mixed",L3.kY)::("_law_cell_at",L3.gR)::("_law_next",L3.oQ)::("_law_kept",L3.oS)::("_law_names",L3.kX)::("_law_refused",L3.oO)::("_law_rows",L3.oN)::("_law_laid",L3.oR)::("_law_wrong_sums",L3.yC)::("_law_wrong_conditions",L3.yE)::("_law_wrong_rows",L3.yD)::("_law_wrong",L3.kU)::[]))
  (hm:L3.Fms K ((wz,"__init__","Sum.__init__",L3.jd)::(cS,"__init__","Compare.__init__",L3.eg)::(dS,"__init__","Turned.__init__",L3.fh)::(wA,"__init__","Let.__init__",L3.jf)::(g8,"__init__","Divide.__init__",L3.fq)::(kH,"__init__","Fetch.__init__",L3.fX)::(BE,"__init__","Put.__init__",L3.je)::(rT,"__init__","Make.__init__",L3.gT)::(kJ,"__init__","Claim.__init__",L3.fY)::(gM,"__init__","Several.__init__",L3.c7)::(kG,"__init__","Several.__init__",L3.c7)::(rV,"__init__","Call.__init__",L3.gU)::(gi,"__init__","Choose.__init__",L3.fB)::(fF,"__init__","Repeat.__init__",L3.fj)::(bZ,"coming","Tokens.coming",L3.yt)::(bZ,"take","Tokens.take",L3.yr)::(bZ,"take_until","Tokens.take_until",L3.yq)::(dD,"__init__","Rows.__init__",L3.yw)::(dD,"coming","Rows.coming",L3.yy)::(dD,"take","Rows.take",L3.s9)::(bZ,"take_just","Tokens.take_just",L3.sX)::(bZ,"__init__","Tokens.__init__",L3.sY)::(dD,"take_just","Rows.take_just",L3.tL)::(g7,"__init__","Helper.__init__",L3.fk)::(fN,"__init__","Program.__init__",L3.ee)::[]))
  (a67:nsIn K mainGlobals "law"=some (some (.ref f67)))
  (l67:K.lookup f67=some ⟨a3V,a3U,.func (fnOf "law" "law" A67 B67 S67 .none a06 a1C a0e a1Q XI a1D),a3o⟩)
  (Ub:(A67,B67,S67)=(cB L3.mG,ak L3.mG,ah L3.mG))
  (c67:codeIn K XI "law"=true)
  (k67:keepIn K (.ref f67)=true)
  (lW:L3.FnAt K fW "__init__" "WritError.__init__" L3.sV)
  (lI:L3.FnAt K fI "__init__" "NoText.__init__" L3.oM)
  (iS:nsIn K mainGlobals "NoText"=some (some (.ref aa)))
  (fK:nsIn K mainGlobals "WritError"=some (some (.ref bQ)))
  (pe:nsIn K mainGlobals "Fault"=some (some (.ref nF)))
  (o9:nsIn K mainGlobals "NoRun"=some (some (.ref nE)))
  (iT:nsIn K mainGlobals "NoSense"=some (some (.ref gK)))
  (iR:nsIn K mainGlobals "TooHard"=some (some (.ref gJ)))
  (iQ:nsIn K mainGlobals "TooMany"=some (some (.ref gI)))
  (Ii:K.lookup bQ=some (excClassObj Ik RB bQ D8 IG p7 Ae Ig D4 IL D6 ID IB Iz Iv Ir Ip "ValueError.__new__"))
  (BY:nsOkIn K D8=true)
  (B0:nsIn K D8 "__init__"=some (some (.ref fW)))
  (Ce:isFn K (.ref fW)=true)
  (Cb:keepIn K (.ref bQ)=true)
  (Ic:p7.contains (.type "ValueError")=true)
  (IP:p7.contains (.type "AttributeError")=false)
  (Im:p7.contains (.type "NameError")=false)
  (IJ:p7.contains (.type "BaseException")=true)
  (Ij:K.lookup aa=some (excClassObj Il RC aa D9 II mT Af Ih D5 IM D7 IE IC IA Iw Iu Iq "ValueError.__new__"))
  (BZ:nsOkIn K D9=true)
  (Ca:nsIn K D9 "__init__"=some (some (.ref fI)))
  (Cf:isFn K (.ref fI)=true)
  (Cc:keepIn K (.ref aa)=true)
  (Ie:mT.contains (.type "ValueError")=true)
  (IQ:mT.contains (.type "AttributeError")=false)
  (Io:mT.contains (.type "NameError")=false)
  (IK:mT.contains (.type "BaseException")=true)
  (Ug:specialIn K (.ref bQ) "__getattribute__"=some (some (.builtin "type.__getattribute__")))
  (Ue:readsIn K bQ (.type "type")=true)
  (Uh:findCls K (.ref bQ) (.type "type") "__init__"=some (.val (.ref fW)))
  (Ui:findCls K (.type "ValueError") (.type "type") "__init__"=some (.val (.builtin "ValueError.__init__")))
  (HY:(Value.ref aa::mT).contains (.ref bQ)=true)
  (HZ:findIn K (.ref aa) "__getattribute__"=some (some (.builtin "BaseException.__getattribute__")))
  (HX:findIn K (.ref aa) "__getattr__"=some none)
  (H9:findIn K (.ref aa) "__class__"=some (some (.builtin "object.__class__")))
  (HW:mroIn K aa (.type "object")=some true)
  (Ia:PySem.W.subIn K (.ref aa) (.type "BaseException")=some true)
  (H8:clsIn K aa=some tcd)
  (Uj:((clsIn K aa).any λcd=>PySem.W.eT cd.mro)=true)
  (Uk:takerIn K aa "at"=some none)
  (Ib:(clsIn K aa).any (·.hasDict)=true)
  (Ul:findIn K (.ref aa) "__setattr__"=some (some (.builtin "object.__setattr__")))
  (Us:hasDictIn K aa=true)
  (Ur:findIn K (.ref aa) "at"=some none)
  (Up:kitOne K (.ref aa) (.ref aa)=some true)
  (Uo:kitOne K (.ref aa) (.type "ValueError")=some true)
  (Um:kitOne K (.type "int") (.type "bool")=some false)
  (Uq:kitAny K (.ref aa) [.ref nF,.ref nE,.ref gK,.ref gJ,.ref gI]=some false)
  (hz:L3.Nzs K ("len"::"tuple"::"list"::"sorted"::"int"::"str"::"isinstance"::"range"::"abs"::"all"::"ValueError"::"bool"::[]))
  (d1:nsIn K mainGlobals "MOST_LETTERS"=some (some (.int 8 tD1)))
  (d2:nsIn K mainGlobals "MOST_FIGURES"=some (some (.int 9 tD2)))
  (d3:nsIn K mainGlobals "GREATEST"=some (some (.int 999999999 tD3)))
  (kS0:kitOne K (.ref cS) (.ref bA)=some false)
  (kS1:kitOne K (.ref dS) (.ref bA)=some false)
  (kS2:kitOne K (.ref gM) (.ref bA)=some true)
  (kS3:kitOne K (.ref kG) (.ref bA)=some true)
  (i8:nsIn K mainGlobals "KEPT_WORDS"=some (some (.ref rW)))
  (i7:K.lookup rW=some ⟨.type "tuple",yY,.seq #[.str "helper" ou,.str "answers" oq,.str "needs" oj,.str "gives" oi,.str "end" oh,.str "let" n9,.str "div" n8,.str "mod" n6,.str "put" n5,.str "row" nZ,.str "at" mF,.str "if" mE,.str "else" mD,.str "while" mz,.str "holds" mw,.str "falls" mq,.str "call" mj,.str "claim" mh,.str "and" l9,.str "or" l7,.str "not" lZ] A1,yj⟩)
  (xV:nsIn K mainGlobals "SIGNS"=some (some (.ref Ni)))
  (xR:K.lookup Ni=some ⟨.type "tuple",Qe,.seq #[.str "<" Ei,.str "<=" Eh,.str "=" Eg,.str "!=" Ef,.str ">=" Ed,.str ">" Ec] WA,Ov⟩)
 :∃fd:FuncData,(∀(s:Shared)(v:Value),BindsTo s fd ⟨[v],[]⟩ [("_law_script",v)])/\∀base:Heap,K.In base->base.Ns mainGlobals mg->aG l.prog w K mg base dh 80 fa fd ["_law_script"] (EB K):=by
 have e:=hfa.symm.trans (mg_of X G a67);cases e
 let A:L3.Ad:=⟨wz,cS,dS,bA,gM,kG,wA,g8,kH,BE,rT,kJ,rV,gi,fF,g7,fN,dD,bZ,aa,bQ,nF,nE,gK,gJ,gI⟩
 have jcY:∀(x:Str)(a:Addr),nsIn K mainGlobals x=some (some (.ref a))->mg x=some (.ref a):=λx a h=>mg_of X G h;have u:=@L3.Css.ok K mg jcY N5 N4;obtain⟨YD,N1,Uc,HV,YE,YC,xP,N3,YG,YF,xQ,Ud,_⟩:=hz;obtain⟨Z6,Gv,Kr,Gq,O1,VC,Z8,Ky,O0,Z7,VF,O2,VG,Kz,Kv,Kw,Gu,VD,Ku,_⟩:=hc;have kS:∀j,j<4->kitOne K (.ref (L3.TH A j)) (.ref A.bA)=some (decide (2<=j)):=L3.kS4 kS0 kS1 kS2 kS3;have J:L3.Fx K mg A:=⟨jbk X G YD,jbk X G N1,jbk X G Uc,jbk X G HV,jbk X G YE,jbk X G YC,jbk X G xP,jbk X G N3,jbk X G YG,jbk X G YF,jbk X G xQ,jbk X G Ud,u Z6,u Gv,u Kr,u Gq,u O1,u VC,u Z8,u Ky,u O0,u Z7,u VF,u O2,u VG,u Kz,u Kv,u Kw,u Gu,u VD,u Ku,⟨_,mg_of X G d1⟩,⟨_,mg_of X G d2⟩,⟨_,mg_of X G d3⟩,kS,jcY _ _ iS,jcY _ _ fK,jcY _ _ pe,jcY _ _ o9,jcY _ _ iT,jcY _ _ iR,jcY _ _ iQ,jcY⟩
 obtain⟨fdW,FW,kW⟩:=lW;obtain⟨fdI,FI,kI⟩:=lI;obtain⟨fdS,FS,kS⟩:=lS;have XT:L3.XTx K mg aa bQ fI fW mT p7 (L3.x5 A):=⟨⟨⟨Il,RC,D9,II,Af,Ih,D5,IM,D7,IE,IC,IA,Iw,Iu,Iq,Ij,BZ,Ca⟩,Cf,Cc,Ie,IQ,Io,IK⟩,⟨⟨Ik,RB,D8,IG,Ae,Ig,D4,IL,D6,ID,IB,Iz,Iv,Ir,Ip,Ii,BY,B0⟩,Ce,Cb,Ic,IP,Im,IJ⟩,HY,J.fK,J.pI,Ug,Ue,Uh,M,kW,Ui,⟨Uj,Uk,Ib,Ul⟩,⟨HZ,HX,H9,N5,N4,HW,Ia,by rw[H8];rfl⟩,Us,Ur,Up,Uo,Um,Uq⟩
 have F67:=QK (st:=L3.mG) l67 Ub c67 k67;refine⟨fnOf "law" "law" (cB L3.mG) (ak L3.mG) (ah L3.mG) .none a06 a1C a0e a1Q XI a1D,λs v=>.of_eq M,λbase _ _=>?_⟩;have d:=@L3.dA l.prog w K mg base;have du:=@L3.dU l.prog w K mg base;have e:=@L3.mS l.prog w K mg base;have n:=@L3.kA l.prog w K mg base;have Ru:=n J.M9 (hm.at 0 M) (L3.AU (P:=l.prog) (w:=w) (base:=base) (k:=0) J );have DZ:=d J (ha.at 4 M) (L3.GL (k:=2) J Ru.u);have aY:L3.Cm l.prog w K mg base 1 "Step" "__init__" ["self","at"] (L3.jY K):=⟨⟨Sp,fS,_,L3.yV (P:=l.prog) (w:=w) (base:=base) (k:=0) J  FS,jcY _ _ Dg,Uu,Ut,Uv,kS,FS.bb⟩⟩
 have pV:=d J (ha.at 5 M) (L3.AS (P:=l.prog) (w:=w) (base:=base) (k:=0) J );have BQ:=n J.lC (hm.at 1 M) (L3.sf (P:=l.prog) (w:=w) (base:=base) (k:=0) J );have jH:=n J.BC (hm.at 2 M) (L3.uX (P:=l.prog) (w:=w) (base:=base) (k:=0) J );have Rw:=n J.FT (hm.at 3 M) (L3.AW (k:=1) J aY.u);have DY:=n J.iV (hm.at 4 M) (L3.u5 (k:=1) J aY.u);have HH:=n J.pH (hm.at 5 M) (L3.we (k:=1) J aY.u);have Rv:=n J.BD (hm.at 6 M) (L3.AV (k:=1) J aY.u);have Ny:=n J.zJ (hm.at 7 M) (L3.yW (k:=1) J aY.u);have qV:=n J.zK (hm.at 8 M) (L3.wg (k:=1) J aY.u);have Nz:=n J.vF (hm.at 11 M) (L3.yX (k:=1) J aY.u);have nM:=n J.kF (hm.at 12 M) (L3.u6 (k:=1) J aY.u);have nL:=n J.iU (hm.at 13 M) (L3.uY (k:=1) J pV.u aY.u);have DX:=n J.fM (hm.at 23 M) (L3.uZ (k:=1) J pV.u);have BP:=n J.xD (hm.at 24 M) (L3.se (P:=l.prog) (w:=w) (base:=base) (k:=0) J );have lF:=n J.FU (hm.at 9 M) (L3.jJ (P:=l.prog) (w:=w) (base:=base) (k:=0) J.FU.n.1 J );have pR:=n J.Na (hm.at 10 M) (L3.jJ (P:=l.prog) (w:=w) (base:=base) (k:=0) J.Na.n.1 J );have sQ:=d J (ha.at 0 M) (L3.P9 (P:=l.prog) (w:=w) (base:=base) (k:=0) J );have dg:=d J (ha.at 1 M) (L3.P7 (P:=l.prog) (w:=w) (base:=base) (k:=0) J (mg_of X G i8) (L3.tupK (l:=[("helper",ou),("answers",oq),("needs",oj),("gives",oi),("end",oh),("let",n9),("div",n8),("mod",n6),("put",n5),("row",nZ),("at",mF),("if",mE),("else",mD),("while",mz),("holds",mw),("falls",mq),("call",mj),("claim",mh),("and",l9),("or",l7),("not",lZ)]) i7 (by rfl)));have pS:=d J (ha.at 2 M) (L3.P6 (k:=1) J dg.u);have pU:=d J (ha.at 3 M) (L3.Qa (k:=1) J sQ.u);have D_w:=L3.Lf (P:=l.prog) (w:=w) (base:=base) (A:=A) (k:=0) FW XT;have a5D:=L3.GN (k:=1) FI XT D_w FW.bb;have ao:=du J (ha.at 6 M) (L3.PY (P:=l.prog) (w:=w) (base:=base) (k:=3) XT.ct (by decide) a5D FI.bb J );have BN:=du J (ha.at 7 M) (L3.Lj (k:=4) J ao.u pS.u pU.u);have qM:=du J (ha.at 8 M) (L3.PV (k:=4) J ao.u);have bz:=du J (ha.at 9 M) (L3.PU (k:=5) J DZ.u ao.u qM.u BN.u);have wJ:=du J (ha.at 10 M) (L3.Lg (k:=4) J ao.u);have BO:=L3.kMU J.kE (hm.at 21 M) (L3.Li (k:=5) J wJ.u);have bC:=e (hm.at 14 M) (L3.PR (P:=l.prog) (w:=w) (base:=base) (k:=0) J );have nK:=e (hm.at 15 M) (L3.PN (k:=1) J bC.u);have qU:=e (hm.at 16 M) (L3.PM (k:=2) J bC.u nK.u);have aR:=L3.muA (hm.at 20 M) (L3.Lh (k:=4) J ao.u nK.u);have cD:=du J (ha.at 11 M) (L3.Lu (k:=6) J BQ.u bz.u qU.u nK.u (mg_of X G xV) (L3.tupK (l:=[("<",Ei),("<=",Eh),("=",Eg),("!=",Ef),(">=",Ed),(">",Ec)]) xR (by rfl)));have lP:L3.dZ l.prog w K mg base A.aa 1 "read_condition" ["source"] (L3.JD A (L3.lJ 0)):=du J (ha.at 14 M) λ_=>L3.Xj;have lV:=du J (ha.at 12 M) (L3.tX (k:=5) (n:=0) J aR.u lP.u);have vO:=du J (ha.at 13 M) (L3.k8 (k:=7) (n:=0) J cD.u bC.u ao.u lV.u jH.u aR.u);have lO:=du J (ha.at 14 M) (L3.k9 (k:=8) (n:=0) J lF.u pR.u bC.u vO.u aR.u ao.u);have lU:=du J (ha.at 12 M) (L3.tX (k:=9) (n:=1) J aR.u lO.u);have vN:=du J (ha.at 13 M) (L3.k8 (k:=10) (n:=1) J cD.u bC.u ao.u lU.u jH.u aR.u);have lN:=du J (ha.at 14 M) (L3.k9 (k:=11) (n:=1) J lF.u pR.u bC.u vN.u aR.u ao.u);have lT:=du J (ha.at 12 M) (L3.tX (k:=12) (n:=2) J aR.u lN.u);have vM:=du J (ha.at 13 M) (L3.k8 (k:=13) (n:=2) J cD.u bC.u ao.u lT.u jH.u aR.u);have lM:=du J (ha.at 14 M) (L3.k9 (k:=14) (n:=2) J lF.u pR.u bC.u vM.u aR.u ao.u);have lQ:=du J (ha.at 12 M) (L3.tX (k:=15) (n:=3) J aR.u lM.u);have vL:=du J (ha.at 13 M) (L3.k8 (k:=16) (n:=3) J cD.u bC.u ao.u lQ.u jH.u aR.u);have lK:=du J (ha.at 14 M) (L3.k9 (k:=17) (n:=3) J lF.u pR.u bC.u vL.u aR.u ao.u);have dB:=du J (ha.at 15 M) (L3.Qc (k:=18) J ao.u bC.u lK.u BO.u);have zT:=du J (ha.at 19 M) (L3.P8 (k:=6) J bz.u);have jG:=du J (ha.at 18 M) (L3.Lo (k:=6) J Rw.u bz.u HH.u ao.u dg.u DY.u);have jF:=du J (ha.at 17 M) (L3.Lm (k:=6) J Rv.u bz.u ao.u dg.u);have iz:=du J (ha.at 16 M) (L3.Ln (k:=6) J Ny.u bz.u ao.u dg.u);have iA:=du J (ha.at 20 M) (L3.Lv (k:=7) J Nz.u zT.u ao.u dg.u);have Nx:=n J.zI (hm.at 17 M) (L3.PX (P:=l.prog) (w:=w) (base:=base) (k:=0) J );have bD:=e (hm.at 18 M) (L3.PZ (P:=l.prog) (w:=w) (base:=base) (k:=0) J );have dM:=L3.muA (hm.at 19 M) (L3.Ll (k:=4) J ao.u);have cu:=L3.muA (hm.at 22 M) (L3.Lp (k:=5) J ao.u dM.u);have qT:=du J (ha.at 21 M) (L3.Lw (k:=5) J ao.u dg.u dM.u bD.u);have cX:=du J (ha.at 22 M) (L3.Lk (k:=19) J bD.u dB.u dM.u);have jO:L3.dZ l.prog w K mg base A.aa 1 "read_steps" ["source"] (L3.mX A L3.C0):=du J (ha.at 23 M) λ_=>L3.a1t;have qS:=du J (ha.at 25 M) (L3.uW (k:=6) (Q:=L3.C0) L3.T7 J nM.u cu.u bD.u ao.u jO.u);have qP:=du J (ha.at 26 M) (L3.uV (k:=20) (Q:=L3.C0) L3.T7 J nL.u cu.u jO.u bD.u bz.u dM.u cX.u);have vK:=du J (ha.at 24 M) (L3.uU (k:=21) (Q:=L3.C0) J iA.u ao.u qP.u dB.u qS.u qV.u iz.u jF.u jG.u dM.u);have jN:=du J (ha.at 23 M) (L3.uS (k:=22) (Q:=L3.C0) (fu:=40) J bD.u vK.u);have qR:=du J (ha.at 25 M) (L3.uW (k:=23) (Q:=L3.C1) L3.oz J nM.u cu.u bD.u ao.u jN.u);have qO:=du J (ha.at 26 M) (L3.uV (k:=23) (Q:=L3.C1) L3.oz J nL.u cu.u jN.u bD.u bz.u dM.u cX.u);have vJ:=du J (ha.at 24 M) (L3.uU (k:=24) (Q:=L3.C1) J iA.u ao.u qO.u dB.u qR.u qV.u iz.u jF.u jG.u dM.u);have jM:=du J (ha.at 23 M) (L3.uS (k:=25) (Q:=L3.C1) (fu:=40) J bD.u vJ.u);have qQ:=du J (ha.at 25 M) (L3.uW (k:=26) (Q:=L3.C2) L3.oz J nM.u cu.u bD.u ao.u jM.u);have qN:=du J (ha.at 26 M) (L3.uV (k:=26) (Q:=L3.C2) L3.oz J nL.u cu.u jM.u bD.u bz.u dM.u cX.u);have vI:=du J (ha.at 24 M) (L3.uU (k:=27) (Q:=L3.C2) J iA.u ao.u qN.u dB.u qQ.u qV.u iz.u jF.u jG.u dM.u);have sM:=du J (ha.at 23 M) (L3.uS (k:=28) (Q:=L3.C2) (fu:=40) J bD.u vI.u);have sN:=du J (ha.at 27 M) (L3.Lq (k:=29) (Q:=L3.C3) L3.oz J DX.u cu.u sM.u cX.u qT.u ao.u pS.u dg.u dM.u);have Nv:=du J (ha.at 28 M) (L3.Ls (k:=30) J BP.u ao.u sN.u Nx.u);have iC:=d J (ha.at 29 M) (L3.CV (P:=l.prog) (w:=w) (base:=base) (k:=0) J );have sP:=d J (ha.at 30 M) (L3.yU (k:=1) J iC.u);have zV:=d J (ha.at 31 M) (L3.GQ (k:=1) J iC.u);have zX:=d J (ha.at 32 M) (L3.GS (P:=l.prog) (w:=w) (base:=base) (k:=0) J );have wL:=d J (ha.at 33 M) (L3.CU (k:=2) J zX.u zV.u);have zU:=d J (ha.at 35 M) (L3.GO (P:=l.prog) (w:=w) (base:=base) (k:=0) J );have zW:=d J (ha.at 36 M) (L3.GR (P:=l.prog) (w:=w) (base:=base) (k:=0) J );have nN:=d J (ha.at 37 M) (L3.P0 (P:=l.prog) (w:=w) (base:=base) (k:=0) J );have iB:=d J (ha.at 38 M) (L3.P5 (P:=l.prog) (w:=w) (base:=base) (k:=0) J );have nO:=d J (ha.at 39 M) (L3.P4 (P:=l.prog) (w:=w) (base:=base) (k:=0) J );have wK:=d J (ha.at 40 M) (L3.CT (k:=1) J nN.u iB.u nO.u);have sO:=d J (ha.at 34 M) (L3.GP (k:=31) XT J Nv.u);exact L3.a1u L3.WQ ((L3.Wu (k:=32) J sO.u zW.u wK.u iC.u sP.u zU.u wL.u F67).mono (by decide:33<=80))
theorem walk {l:OpenLaw}{q:Program}{loose:jc2}{XP:(Str->jc7)->Heap->Prop}{YP:World->Heap->Prop}{d:DefRec}{K:Params->Frag}(hn:l.most=some 63)(hdf:d.params.defaults=[])
  (hY:∀(w:World)(h:Heap),YP w h->(K w.params).In h)
  (F:∀(w:World)(mg:Str->jc7)(fa:Addr)(h:Heap),(K w.params).In h->h.Ns mainGlobals mg->mg d.name=some (.ref fa)->
   ∃fd:FuncData,(∀(s:Shared)(u:Value),BindsTo s fd ⟨[u],[]⟩ [("_law_script",u)])/\∀base:Heap,(K w.params).In base->base.Ns mainGlobals mg->aG l.prog w (K w.params) mg base dh 80 fa fd ["_law_script"] (EB (K w.params))) :
  WalkO q loose XP YP l.row.toRowW d [] (λf vs=>PySem.call f vs):=
 L2.N6 (n:=63) (k:=80) (x:="_law_script") (CX:=λ_=>dh) (sp:=λw=>EB (K w.params)) hn (by decide) hdf ⟨M,by decide,by decide⟩ hY F (λ_ _ a ns hl _ hS=>⟨a,ns,M,hS,hl,λ_=>rfl⟩) λ_ _ _ _ _ z=>z
end Hw
open PySem PySem.W PyProof.Rows
set_option maxRecDepth 100000 in
set_option maxHeartbeats 0 in
theorem PySem.Challenge.cw_holdwright_k14_rows_refused_holds : PySem.Challenge.rw_holdwright_k14_rows_refused.Holds := by
 refine Hd ?_
 k_fill
 refine Hw.walk (l:=PySem.Challenge.rw_holdwright_k14_rows_refused) rfl rfl (fun w h QR=>QR) ?F
 case F=>
  intro w mg fa h KX G hmg;refine' Hw.all_mk KX G hmg ?hc ?Dg ?Uv ?N5 ?N4 ?Uu ?Ut ?lS ?ha ?hm ?a67 ?l67 ?Ub ?c67 ?k67 ?lW ?lI ?iS ?fK ?pe ?o9 ?iT ?iR ?iQ ?Ii ?BY ?B0 ?Ce ?Cb ?Ic ?IP ?Im ?IJ ?Ij ?BZ ?Ca ?Cf ?Cc ?Ie ?IQ ?Io ?IK ?Ug ?Ue ?Uh ?Ui ?HY ?HZ ?HX ?H9 ?HW ?Ia ?H8 ?Uj ?Uk ?Ib ?Ul ?Us ?Ur ?Up ?Uo ?Um ?Uq ?hz ?d1 ?d2 ?d3 ?kS0 ?kS1 ?kS2 ?kS3 ?i8 ?i7 ?xV ?xR
  (case hc=>((repeat (refine' ⟨⟨?_,⟨?_,?_,?_,?_,?_,?_,?_,?_⟩,?_⟩,?_⟩;(any_goals k_is);(repeat (refine' ⟨?_,?_⟩;(any_goals k_is)));exact trivial));exact trivial))
  (case Dg|Uv|iS|fK|pe|o9|iT|iR|iQ|N5|N4|Uu|Ut|a67|l67|c67|k67|Ii|B0|Ce|Cb|Ij|Ca|Cf|Cc|Ug|Ue|Uh|Ui|HZ|HX|H9|HW|Ia|H8|Uk|Ul|Us|Ur|d1|d2|d3|i8|i7|xV|xR=>k_is)
  (case lS=>(refine' Hw.MH ?ya ?yb ?yc ?yd;(case ya=>k_is);(case yb=>kernel_rfl);(case yc|yd=>k_is)))
  (case ha=>((repeat (refine' ⟨?_,?_⟩;apply Exists.intro;refine' ⟨?_,?_⟩;(any_goals k_is);(refine' Hw.MH ?_ ?_ ?_ ?_;(any_goals k_is);kernel_rfl)));exact trivial))
  (case hm=>((repeat (refine' ⟨?_,?_⟩;apply Exists.intro;refine' ⟨?_,?_,?_⟩;(any_goals k_is);(refine' Hw.MH ?_ ?_ ?_ ?_;(any_goals k_is);kernel_rfl)));exact trivial))
  (case lW|lI=>(refine' Hw.MH ?ya ?yb ?yc ?yd;(case ya=>k_is);(case yb=>kernel_rfl);(case yc|yd=>k_is)))
  (case Up|Uo|Um|Uq=>kit_is)
  (case hz=>((repeat (refine' ⟨?_,?_⟩;(any_goals k_is)));exact trivial))
  (case kS0|kS1|kS2|kS3=>kit_is)
  (case Ub|BY|Ic|IP|Im|IJ|BZ|Ie|IQ|Io|IK|HY|Uj|Ib=>kernel_rfl)
#print axioms PySem.Challenge.cw_holdwright_k14_rows_refused_holds
