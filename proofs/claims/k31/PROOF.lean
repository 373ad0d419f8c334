import PyProof.Rows.All
import Wide.All
import OpenK.KLine
import OpenK.KWalk
import KE.KNestM
import KE.RegKIsAll
import KE.KxBytes
import KE.KItem
import KE.KDictOf
import KE.KDictSum
import KE.LcSums
import KE.KxText
import Wide.FinOn
import Lean
import PyProof.EqAt
import PyProof.EqKinds
import PyProof.TupleCall
import PySem.Spec
import PyProof.NeKinds
import KE.KDictList
import KE.KPairComp
import PyProof.DictWalks
import PyProof.ExcClass3
import PyProof.ExcInit
import PyProof.ExcBaseAll.ValueError
import OpenK.KMore
import PyProof.RaisesMany
import PyProof.FString5
import PyProof.StrLawsIn
import PyProof.Rows.SetFrom
import PyProof.ExcAttrAll.ValueError
import KE.KIsAll
import PyProof.RulesAs
import PySem.Challenge.RW_holdwright_k31_calls
set_option Elab.async false
set_option linter.all false
set_option maxRecDepth 100000
namespace Hq
open PySem PySem.W
noncomputable def d1 (l:List Obj):List Obj:=@List.rec Obj (fun _=>List Obj) [] (fun _ t _=>t) l
noncomputable def d4 (l:List Obj):List Obj:=d1 (d1 (d1 (d1 l)))
noncomputable def d32 (l:List Obj):List Obj:=d4 (d4 (d4 (d4 (d4 (d4 (d4 (d4 l)))))))
noncomputable def gB (l:List Obj) (k:Nat):List Obj:=@Nat.rec (fun _=>List Obj) l (fun _ r=>d32 r) k
noncomputable def gA (i:Nat):List Obj→Option Obj:=@Nat.rec (fun _=>List Obj→Option Obj) (fun l=>@List.rec Obj (fun _=>Option Obj) none (fun x _ _=>some x) l) (fun _ ih l=>ih (d1 l)) i
def nF (o:Option Obj):Option Obj:=match o with|some ⟨_,_,.freed,_⟩=>none|o=>o
noncomputable def gQ (h:Heap) (a:Addr):Option Obj:=nF (gA (Nat.mod a 32) (gB h.objs.toList (Nat.div a 32)))
theorem d1_eq (l:List Obj):d1 l=l.drop 1:=by cases l<;>rfl
theorem d32_eq (l:List Obj):d32 l=l.drop 32:=by
 unfold d32 d4;simp only [d1_eq,List.drop_drop]
theorem gB_eq (l:List Obj):∀ k,gB l k=l.drop (32*k)
 |0=>rfl
 |k+1=>by
  show d32 (gB l k)=_;rw [gB_eq l k,d32_eq,List.drop_drop,Nat.mul_succ]
theorem gA_eq:∀ (i:Nat) (l:List Obj),gA i l=l[i]?
 |0,l=>by cases l<;>rfl
 |i+1,l=>by
  show gA i (d1 l)=_;rw [gA_eq i,d1_eq,List.getElem?_drop,Nat.add_comm]
theorem gQ_eq:gQ=Heap.get?:=by
 funext h a;show nF (gA (a%32) (gB h.objs.toList (a/32)))=nF h.objs[a]?;rw [gA_eq,gB_eq,List.getElem?_drop,Nat.div_add_mod,Array.getElem?_toList]
noncomputable def hk (K:Params→Frag) (as:List Addr) (e:∀ P,as=(K P).map (·.1)):Hook:=⟨List (Option Obj),fun s=>as.map (gQ s.heap),fun w=>(K w.params).map fun p=>some p.2,InK K,fun w s x=>InK.of e w s (by rw [gQ_eq] at x; exact x),InK.keeps⟩
end Hq
local macro_rules|`(tactic|symm)=>`(tactic|decide +kernel)
local macro_rules|`(tactic|o_head (kHook $k $a $e))=>`(tactic|o_head (Hq.hk $k $a $e))
namespace PySem.W.Fast
noncomputable def te13052408679150730464:=0
noncomputable def te4110290226886642065:=0
noncomputable def te5369427470323729400:=0
noncomputable def te12305933238918452080:=0
noncomputable def te16555476440528808052:=0
noncomputable def te4868988410673395695:=0
noncomputable def te5452508617037859911:=0
noncomputable def te11152381544001756331:=0
end PySem.W.Fast
set_option maxHeartbeats 0 in
open_top Hd for PySem.Challenge.rw_holdwright_k31_calls
noncomputable section
theorem zAzi (h:True:=by rfl):True:=h
def zi:=zAzi._auto_1
theorem zAzn (h:True:=by decide):True:=h
def zn:=zAzn._auto_1
theorem zAzr (h:True:=by first | exact .inl rfl | exact .inr rfl | assumption):True:=h
def zr:=zAzr._auto_1
theorem zAzt (h:True:=by intro _;rfl):True:=h
def zt:=zAzt._auto_1
theorem zAjp (h:True:=by intros;rfl):True:=h
def jp:=zAjp._auto_1
theorem zAka (h:True:=by symm):True:=h
def ka:=zAka._auto_1
theorem zAkb (h:True:=by first | exact Or.inl rfl | exact Or.inr rfl):True:=h
def kb:=zAkb._auto_1
open PySem.W (instObj methodObj Frag lookIn plainGet hasDictIn findIn handedIn plainGet_of isFn plainOver takerIn makesIn emptyDict keepIn specialIn takesIn mroIn kitOne kitx_list kitx_dict callWith_K cellsFrom_some fnOf codeIn OpenLaw WalkO readsIn findCls methodCall_KW nsIn)
def jaa:=@PySem.wpAny_bind
def jab:=@List.length_map
def jac:=@PySem.wpAny_pure
def jad:=@if_neg
def jae:=@if_pos
def jaf:=@List.length_append
def jag:=@List.mem_cons
def jah:=@congrArg
def jai:=@List.mem_singleton
def jaj:=@List.length_cons
def jak:=@PySem.Heap.lt_size
def jal:=@Nat.le_refl
def jam:=@List.map_append
def jan:=@PySem.Heap.get?_push_of_some
def jao:=@List.getElem?_eq_some_iff
def jap:=@Nat.ne_of_lt
def jaq:=@Array.length_toList
def jar:=@List.mem_cons_self
def jas:=@List.mem_map
def jat:=@decide_eq_false
def jau:=@List.mem_append
def jav:=@List.mem_cons_of_mem
def jaw:=@List.size_toArray
def jax:=@List.map_cons
def jay:=@PySem.PassesOwn.never
def jaz:=@PySem.Heap.get?_push_size
def jaA:=@List.getElem?_map
def jaB:=@PySem.wpAny_setState_of
def jaC:=@List.set_set
def jaD:=@List.getElem?_eq_getElem
def jaE:=@List.length_set
def jaF:=@decide_eq_true
def jaG:=@List.getElem?_set_self
def jaH:=@if_false
def jaI:=@List.not_mem_nil
def jaJ:=@List.append_nil
def jaK:=@PyProof.Rows.boot_tuple
def jaL:=@Bool.false_ne_true
def jaM:=@Bool.false_eq_true
def jaN:=@List.map_map
def jaO:=@Ne.symm
def jaP:=@List.mem_append_left
def jaQ:=@PySem.boot_len
def jaR:=@Nat.le_trans
def jaS:=@List.getElem?_append_left
def jaT:=@List.length_nil
def jaU:=@Bool.and_eq_true
def jaV:=@PySem.wpAny_mono
def jaW:=@List.mem_append_right
def jaX:=@List.append_assoc
def jaY:=@Nat.lt_of_lt_of_le
def jaZ:=@List.length_range
def ja0:=@PySem.Heap.size_push
def ja1:=@beq_iff_eq
def ja2:=@Option.some.inj
def ja3:=@Nat.zero_le
def ja4:=@if_true
def ja5:=@List.mem_flatten
def ja6:=@Nat.ne_of_gt
def ja7:=@PySem.sizeLine_eq
def ja8:=@PySem.F.called_set
def ja9:=@PySem.wpAny_field
def jba:=@PySem.wpAny_newObj_type
def jbb:=@List.flatten_cons
def jbc:=@of_decide_eq_true
def jbd:=@PySem.wpAny_call_entry
def jbe:=@PySem.wpAny_askSetting
def jbf:=@PySem.W.mg_none_of
def jbg:=@PySem.Heap.SameBut.update
def jbh:=@PySem.wpAny_holding
def jbi:=@Nat.zero_add
def jbj:=@List.getElem?_append_right
def jbk:=@PyProof.Rows.boot_isinstance
def jbl:=@PySem.Obj.data_mapFields
def jbm:=@List.find?_cons
def jbn:=@PySem.Heap.get?_update_other
def jbo:=@PySem.Heap.get?_update_self
def jbp:=@PySem.W.kia_one
def jbq:=@List.nodup_cons
def jbr:=@List.mem_range
def jbs:=@PySem.wpAny_rule
def jbt:=@or_false
def jbu:=@List.length_eq_zero_iff
def jbv:=@beq_eq_false_iff_ne
def jbw:=@List.filterMap_cons
def jbx:=@Nat.lt_succ_of_lt
def jby:=@List.length_take
def jbz:=@PySem.wpAny_isInstance
def jbA:=@List.cons_append
def jbB:=@Bool.not_true
def jbC:=@List.map_nil
def jbD:=@Array.getD_eq_getD_getElem?
def jbE:=@PySem.wpAny_callSpecial?_slot
def jbF:=@List.length_singleton
def jbG:=@List.getElem?_set_ne
def jbH:=@List.mem_of_getElem?
def jbI:=@List.pairwise_cons
def jbJ:=@PySem.wpAny_storeSet_of
def jbK:=@List.mem_filter
def jbL:=@PySem.wpAny_seqItems
def jbM:=@PySem.Paired.length
def jbN:=@PySem.codeAny_mono
def jbO:=@List.length_pos_iff
def jbP:=@List.length_drop
def jbQ:=@List.any_eq_true
def jbR:=@PySem.wpAny_setField
def jbS:=@List.any_cons
def jbT:=@Nat.mod_lt
def jbU:=@PySem.mem_of_lookup
def jbV:=@List.replicate_succ
def jbW:=@Int.toNat_natCast
def jbX:=@decide_eq_decide
def jbY:=@PySem.codeAny_builtin
def jbZ:=@Bool.false_and
def jb0:=@Bool.false_xor
def jb1:=@Nat.lt_irrefl
def jb2:=@Nat.le_succ
def jb3:=@Array.getElem?_eq_getElem
def jb4:=@List.filterMap_cons_some
def jb5:=@List.find?_cons_of_neg
def jb6:=@Array.getElem?_toList
def jb7:=@List.set_append_left
def jb8:=@List.getElem?_range
def jb9:=@PySem.wpAny_pyIter_tuple
def jca:=@Int.emod_lt_of_pos
def jcb:=@PySem.Heap.SameBut.refl
def jcc:=@List.nodup_append
def jcd:=@Nat.lt_succ_self
def jce:=@List.getElem_mem
def jcf:=@Int.emod_nonneg
def jcg:=@PyProof.Rows.StrsAre.length
def jch:=@Array.size_map
def jci:=@PySem.wpAny_attempt
def jcj:=@List.drop_eq_getElem_cons
def jck:=@List.getElem?_replicate
def jcl:=@Nat.add_sub_cancel_left
def jcm:=@List.filter_cons_of_pos
def jcn:=@List.filter_cons_of_neg
def jco:=@PySem.Obj.isFreed_of_fields
def jcp:=@PySem.Around.under_plainId
def jcq:=@List.range_eq_range'
def jcr:=@List.mem_of_mem_take
def jcs:=@List.map_congr_left
def jct:=@PySem.wpAny_setField_rec
def jcu:=@List.zip_cons_cons
def jcv:=@List.filterMap_nil
def jcw:=@PySem.wpAny_passesOwn
def jcx:=@PyProof.Rows.callWith_type1
def jcy:=@PySem.F.slot_tuple_iterator_next
def jcz:=@List.mem_of_find?_eq_some
def jcA:=@List.filterMap_cons_none
def jcB:=@PySem.wpAny_getItem_str_slice
def jcC:=@List.take_of_length_le
def jcD:=@List.find?_cons_of_pos
def jcE:=@List.length_replicate
def jcF:=@List.filterMap_append
def jcG:=@List.mem_iff_getElem?
def jcH:=@List.range'_append_1
def jcI:=@List.mem_of_mem_drop
def jcJ:=@PySem.wpAny_setEntries_of
def jcK:=@List.findIdx?_eq_some_iff_getElem
def jcL:=@PyProof.Rows.slot_tuple_getitem
def jcM:=@List.eq_nil_of_length_eq_zero
abbrev jcO:=List (PySem.Addr×PySem.Obj)
abbrev jcP:=PySem.Value->PySem.Shared->Prop
abbrev jcQ:=Array (Option PySem.Value)
abbrev jcR:=List PySem.Str
abbrev jcS:=List PySem.Value
abbrev jcT:=List PySem.Addr
abbrev jcU:=List PySem.Expr
abbrev jcV:=Option PySem.Addr
abbrev jcW:=Option PySem.Value
abbrev jcX:=List Nat
theorem M{α:Sort u}{a:α}:a=a:=.refl a
namespace L2
open PySem PySem.Spec PyProof.Rows
abbrev Key:=Sum Int Str
noncomputable def yS:Key->Value->Bool
 |.inl k,v=>Value.isInt k v
 |.inr x,v=>Value.isStrOf x v
noncomputable def a2y (w:World):Key->Int
 |.inl k=>hashInt k
 |.inr x=>hashStr w x
theorem cK:∀{k:Key}{v:Value},yS k v=true->(∃i t,k=Sum.inl i/\v=Value.int i t)\/(∃x t,k=Sum.inr x/\v=Value.str x t)
 |.inl i,v,h=>by
  obtain⟨t,e⟩:=Value.isInt_shape (k:=i) (v:=v) h;exact .inl ⟨i,t,M,e⟩
 |.inr x,v,h=>by
  obtain⟨t,e⟩:=Value.isStrOf_shape (x:=x) (v:=v) h;exact .inr ⟨x,t,M,e⟩
theorem Lo (i:Int)(t:Tok):yS (.inl i) (.int i t)=true:=by simp[yS,Value.isInt]
theorem Ln (x:Str)(t:Tok):yS (.inr x) (.str x t)=true:=by simp[yS,Value.isStrOf]
theorem WE (a b:Int):decide ((Sum.inl a:Key)=Sum.inl b)=(a==b):=by
 by_cases e:a=b
 .subst e;simp
 .have h:¬(Sum.inl a:Key)=Sum.inl b:=λq=>e (Sum.inl.inj q);rw[jat h];exact(jbv.mpr e).symm
theorem WB (a b:Str):decide ((Sum.inr a:Key)=Sum.inr b)=decide (a=b):=by
 by_cases e:a=b
 .subst e;simp
 .have h:¬(Sum.inr a:Key)=Sum.inr b:=λq=>e (Sum.inr.inj q);rw[jat h,jat e]
theorem WD (a:Int)(b:Str):decide ((Sum.inl a:Key)=Sum.inr b)=false:=jat (λq=>nomatch q)
theorem WC (a:Str)(b:Int):decide ((Sum.inr a:Key)=Sum.inl b)=false:=jat (λq=>nomatch q)
noncomputable def aJ (prog:Program)(w:World):PySem.KeyKind prog w Key where
 is:=yS
 hash:=a2y w
 inj:=λv a b ha hb=>by
  rcases cK ha with⟨i,t,rfl,rfl⟩ | ⟨x,t,rfl,rfl⟩
  .rcases cK hb with⟨j,u,rfl,e⟩ | ⟨y,u,rfl,e⟩
   .injection e with e1 _;rw[e1]
   .exact nomatch e
  .rcases cK hb with⟨j,u,rfl,e⟩ | ⟨y,u,rfl,e⟩
   .exact nomatch e
   .injection e with e1 _;rw[e1]
 byValue:=λk v h=>by
  rcases cK h with⟨i,t,rfl,rfl⟩ | ⟨x,t,rfl,rfl⟩<;>rfl
 pyHash:=λhv h=>by
  rcases cK hv with⟨i,t,rfl,rfl⟩ | ⟨x,t,rfl,rfl⟩
  .exact wpAny_pyHash_int h
  .exact wpAny_pyHash_str h
 eqBool:=λhu hv h=>by
  rcases cK hu with⟨i,t,rfl,rfl⟩ | ⟨x,t,rfl,rfl⟩
  .rcases cK hv with⟨j,u,rfl,rfl⟩ | ⟨y,u,rfl,rfl⟩
   .rw[WE] at h;exact wpAny_eqBool_int h
   .rw[WD] at h;exact SeqAt.EqAt.int_str i t y u _ _ _ _ h
  .rcases cK hv with⟨j,u,rfl,rfl⟩ | ⟨y,u,rfl,rfl⟩
   .rw[WC] at h;exact SeqAt.EqAt.str_int x t j u _ _ _ _ h
   .rw[WB] at h;exact wpAny_eqBool_str h
 «strs»:=λk x t v h=>by
  rcases cK h with⟨i,u,rfl,e⟩ | ⟨y,u,rfl,e⟩
  .exact nomatch e
  .injection e with e1 _
   subst e1;cases v<;>rfl
theorem Fy (prog:Program)(w:World)(i:Int)(t:Tok):(aJ prog w).is (.inl i) (.int i t)=true:=Lo i t
theorem c6 (prog:Program)(w:World)(x:Str)(t:Tok):(aJ prog w).is (.inr x) (.str x t)=true:=Ln x t
inductive V where
 |eN | bl (b:Bool) | int (i:Int) | str (x:Str) | L8 (b:Array UInt8) | Xd (b:UInt64) | ref (a:Addr) | ty (n:String)
 deriving DecidableEq
def RelV:V->Value->Prop
 |.eN,u=>u=Value.none
 |.bl b,u=>u=Value.bool b
 |.int i,u=>∃t,u=Value.int i t
 |.str x,u=>∃t,u=Value.str x t
 |.L8 b,u=>∃t,u=Value.bytes b t
 |.Xd b,u=>∃t,u=Value.float b t
 |.ref a,u=>u=Value.ref a
 |.ty n,u=>u=Value.type n
abbrev Vals:List V->jcS->Prop:=Paired RelV
theorem Vals.length {xs:List V}{us:jcS}(r:Vals xs us):xs.length=us.length:=jbM r
theorem Vals.get:∀{xs:List V}{us:jcS}{i:Nat}{x:V},Vals xs us->xs[i]?=some x->∃u,us[i]?=some u/\RelV x u
 |_,_,_,_,.nil,e=>by simp at e
 |_,_,0,_,.cons r _,e=>by simp at e;subst e;exact⟨_,M,r⟩
 |_,_,i+1,x,.cons _ t,e=>by
  obtain⟨u,h1,h2⟩:=Vals.get (i:=i) (x:=x) t (by simpa using e);exact⟨u,by simpa using h1,h2⟩
theorem Vals.set {x:V}{u:Value}(r:RelV x u):∀{xs:List V}{us:jcS}(i:Nat),Vals xs us->Vals (xs.set i x) (us.set i u)
 |_,_,_,.nil=>.nil
 |_,_,0,.cons _ t=>.cons r t
 |_,_,i+1,.cons q t=>.cons q (Vals.set r i t)
theorem Vals.append:∀{xs ys:List V}{us ws:jcS},Vals xs us->Vals ys ws->Vals (xs++ys) (us++ws)
 |_,_,_,_,.nil,s=>s
 |_,_,_,_,.cons r t,s=>.cons r (Vals.append t s)
theorem Vals.take:∀{xs:List V}{us:jcS}(n:Nat),Vals xs us->Vals (xs.take n) (us.take n)
 |_,_,0,_=>.nil
 |_,_,_+1,.nil=>.nil
 |_,_,n+1,.cons r t=>.cons r (Vals.take n t)
theorem Vals.drop:∀{xs:List V}{us:jcS}(n:Nat),Vals xs us->Vals (xs.drop n) (us.drop n)
 |_,_,0,r=>r
 |_,_,_+1,.nil=>.nil
 |_,_,n+1,.cons _ t=>Vals.drop n t
def oG:Option V->jcW->Prop
 |some v,some u=>RelV v u
 |none,none=>True
 |_,_=>False
noncomputable def KV {κ:Type}:List (κ×V)->List (κ×Value)->Prop:=Paired λ(p:κ×V) (q:κ×Value)=>p.1=q.1/\RelV p.2 q.2
noncomputable def kV:Key->V
 |.inl i=>.int i
 |.inr x=>.str x
inductive HO where
 |lst (xs:List V)
 |tup (xs:List V)
 |dK (kvs:List (Key×V)) | dT (kvs:List (List Key×V))
 |set (S:Int->Bool) (n:Nat)
 |ins (C dx:Addr) (fs:List (Str×V))
 |own (x:Addr)
 |xd (fs:List (Str×V))
 |met (f x:Addr)
 |rng (lo hi:Int)
 |HX (o:Obj) (u:HO)
 |S8 (ps:Array Value)
 |ext (φ:Heap->Prop)
abbrev Hp:=Addr->Option HO
noncomputable def upd (H:Hp)(a:Addr)(o:HO):Hp:=λb=>if b=a then some o else H b
theorem fE {H:Hp}{a:Addr}{o:HO}:upd H a o a=some o:=by unfold upd;rw[jae rfl]
theorem aY {H:Hp}{a b:Addr}{o:HO}(h:b≠a):upd H a o b=H b:=by unfold upd;rw[jad h]
theorem ZJ {H:Hp}{a b:Addr}{o u:HO}(h:H a=some o)(h':H b=some u)(d:o≠u):a≠b:=by
 intro e;subst e;rw[h] at h';exact d (ja2 h')
theorem bL {H:Hp}{a b:Addr}{o:HO}(h:H a=some o)(h':H b=none):a≠b:=by
 intro e;subst e;rw[h] at h';cases h'
section
variable (P:Program)(w:World)
def cT (H:Hp)(h:Heap)(a:Addr):HO->Prop
 |.lst xs=>xs.length<=sizeLine/\∃(AC:jcS)(n:Nat),Vals xs AC/\h.get? a=some {cls:=.type "list",data:=.seq AC.toArray n }
 |.tup xs=>xs.length<=sizeLine/\∃AC:jcS,Vals xs AC/\IsTup h a AC.toArray
 |.dK kvs=>kvs.length<=sizeLine/\(a==sysModules)=false/\∃vs,KV kvs vs/\h.DictOf (aJ P w) a vs
 |.dT kvs=>kvs.length<=sizeLine/\(a==sysModules)=false/\∃xs:List (List Key×Addr×Value),
   Paired (λ(p:List Key×V) (q:List Key×Addr×Value)=>p.1=q.1/\H q.2.1=some (.tup (p.1.map kV))/\RelV p.2 q.2.2) kvs xs/\
   ∃o es ep,h.get? a=some o/\o.ExactDict/\o.data=.dict es ep/\es.toList=xs.map (entryOfKey (tupleKind (aJ P w)))/\(xs.map (·.1)).Nodup
 |.set S n=>h.SetOf (intKind P w) a S n
 |.ins C dx fs=>H dx=some (.own a)/\fs.length<=1000/\dx≠a/\h.get? a=some (instObj C dx)/\
   ∃mA,h.Ns1 dx mA/\(∀f,oG (fs.lookup f) (mA f))/\PySem.Within mA (fs.map (·.1))
 |.own _=>∃o,h.get? a=some o
 |.xd fs=>∃mA,h.Ns1 a mA/\∀f,oG (fs.lookup f) (mA f)
 |.rng lo hi=>∃t u v,h.get? a=some {cls:=.type "range",data:=.fields #[.int lo t,.int hi u,.int 1 v] }
 |.HX o u=>h.get? a=some o/\cT H h a u
 |.S8 ps=>h.get? a=some {cls:=.none,data:=.fields ps }
 |.met f x=>h.get? a=some (methodObj (.ref f) (.ref x))
 |.ext φ=>φ h/\(∃o,h.get? a=some o)/\∀h1 h2:Heap,φ h1->(∀o,h1.get? a=some o->h2.get? a=some o)->φ h2
def sI (H:Hp)(h:Heap):Prop:=∀a o,H a=some o->cT P w H h a o
end
section
variable {P:Program}{w:World}{H H':Hp}{h h':Heap}{a:Addr}{o:HO}
theorem cT.lt (x:cT P w H h a o):a<h.objs.size:=by
 cases o with
 |lst xs=>obtain⟨_,_,_,_,e⟩:=x;exact jak e
 |tup xs=>obtain⟨_,_,_,p⟩:=x;exact p.lt
 |dK kvs=>obtain⟨_,_,_,_,o,_,_,e,_⟩:=x;exact jak e
 |dT kvs=>obtain⟨_,_,_,_,o,_,_,e,_⟩:=x;exact jak e
 |set S n=>obtain⟨o,_,_,_,e,_⟩:=x;exact jak e
 |ins C dx fs=>obtain⟨_,_,_,e,_⟩:=x;exact jak e
 |own y=>obtain⟨_,e⟩:=x;exact jak e
 |xd fs=>obtain⟨_,⟨_,_,_,e,_⟩,_⟩:=x;exact jak e
 |rng lo hi=>obtain⟨_,_,_,e⟩:=x;exact jak e
 |HX ob u=>obtain⟨e,_⟩:=x;exact jak e
 |S8 ps=>exact jak (show h.get? a=some _ from x)
 |met f y=>exact jak (show h.get? a=some _ from x)
 |ext φ=>obtain⟨_,⟨_,e⟩,_⟩:=x;exact jak e
theorem Paired.Wo {α β:Type}{F G:α->β->Prop}:∀{l₁:List α}{l₂:List β},Paired F l₁ l₂->(∀a b,F a b->G a b)->Paired G l₁ l₂
 |_,_,.nil,_=>.nil
 |_,_,.cons r t,f=>.cons (f _ _ r) (Paired.Wo t f)
theorem cT.stay (x:cT P w H h a o)(k:∀b u,(b=a\/H b=some (.own a))->h.get? b=some u->h'.get? b=some u)
  (ho:∀b,H b=some (.own a)->H' b=some (.own a)) (ht:∀b xs,H b=some (.tup xs)->H' b=some (.tup xs)):cT P w H' h' a o:=by
 induction o with
 |lst xs=>obtain⟨z,AC,n,r,e⟩:=x;exact⟨z,AC,n,r,k _ _ (.inl M) e⟩
 |tup xs=>obtain⟨z,AC,r,ob,e,c⟩:=x;exact⟨z,AC,r,ob,k _ _ (.inl M) e,c⟩
 |dK kvs=>obtain⟨z,y,vs,r,ob,es,ep,e,c⟩:=x;exact⟨z,y,vs,r,ob,es,ep,k _ _ (.inl M) e,c⟩
 |dT kvs=>
  obtain⟨z,y,xs,r,ob,es,ep,e,c⟩:=x;exact⟨z,y,xs,Paired.Wo r λp q z=>⟨z.1,ht _ _ z.2.1,z.2.2⟩,ob,es,ep,k _ _ (.inl M) e,c⟩
 |set S n=>obtain⟨ob,es,ep,t,e,c⟩:=x;exact⟨ob,es,ep,t,k _ _ (.inl M) e,c⟩
 |ins C dx fs=>
  obtain⟨d,z,ne,e,mA,⟨od,es,ep,e2,c⟩,r⟩:=x;exact⟨ho _ d,z,ne,k _ _ (.inl M) e,mA,⟨od,es,ep,k _ _ (.inr d) e2,c⟩,r⟩
 |own y=>obtain⟨ob,e⟩:=x;exact⟨ob,k _ _ (.inl M) e⟩
 |xd fs=>obtain⟨mA,⟨od,es,ep,e,c⟩,r⟩:=x;exact⟨mA,⟨od,es,ep,k _ _ (.inl M) e,c⟩,r⟩
 |rng lo hi=>obtain⟨t,u,v,e⟩:=x;exact⟨t,u,v,k _ _ (.inl M) e⟩
 |HX ob u ih=>obtain⟨e,q⟩:=x;exact⟨k _ _ (.inl M) e,ih q⟩
 |S8 ps=>
  have e:h.get? a=some {cls:=.none,data:=.fields ps }:=x;show h'.get? a=some {cls:=.none,data:=.fields ps };exact k a _ (.inl M) e
 |met f y=>
  have e:h.get? a=some (methodObj (.ref f) (.ref y)):=x;show h'.get? a=some (methodObj (.ref f) (.ref y));exact k a _ (.inl M) e
 |ext φ=>obtain⟨p,⟨o,e⟩,st⟩:=x;exact⟨st _ _ p λo q=>k _ _ (.inl M) q,⟨o,k _ _ (.inl M) e⟩,st⟩
theorem sI.lt (x:sI P w H h)(e:H a=some o):a<h.objs.size:=(x a o e).lt
theorem sI.fresh (x:sI P w H h)(e:h.objs.size<=a):H a=none:=by
 cases q:H a with
 |none=>rfl
 |some u=>exact absurd (jaY (x.lt q) e) (jb1 _)
theorem sI.kept (x:sI P w H h)(k:∀b u,h.get? b=some u->h'.get? b=some u):sI P w H h':=λa o e=>
 (x a o e).stay (λb u _ q=>k b u q) (λ_ q=>q) λ_ _ q=>q
theorem sI.laid (x:sI P w H h)(k:∀b u,h.get? b=some u->h'.get? b=some u)(hp:h.objs.size<=a)(new:cT P w (upd H a o) h' a o):sI P w (upd H a o) h':=λb u e=>by
 have hn:=x.fresh hp;by_cases hb:b=a
 .subst hb;rw[fE] at e;cases e;exact new
 .rw[aY hb] at e;exact(x b u e).stay (λc v _ q=>k c v q) (λc q=>by rw[aY (bL q hn)];exact q) λc xs q=>by rw[aY (bL q hn)];exact q
end
def Rd (H:Hp)(a:Addr)(u:HO):Prop:=H a=some u\/∃o,H a=some (.HX o u)
theorem Rd.ok {P:Program}{w:World}{H:Hp}{h:Heap}{a:Addr}{u:HO}(r:Rd H a u)(x:sI P w H h):cT P w H h a u:=by
 rcases r with r | ⟨o,r⟩
 .exact x a u r
 .obtain⟨_,q⟩:=x a _ r;exact q
def Mut:Option HO->Prop
 |some (.lst _)=>True
 |some (.dK _)=>True
 |some (.dT _)=>True
 |some (.set _ _)=>True
 |some (.ins _ _ _)=>True
 |some (.ext _)=>True
 |_=>False
section
variable {P:Program}{w:World}{H:Hp}{h h':Heap}{x e:Addr}{o':HO}
theorem sI.write (ok:sI P w H h)(mu:Mut (H x))(he:e=x\/H e=some (.own x))(k:∀b u,b≠e->h.get? b=some u->h'.get? b=some u)(X7:∃u,h'.get? e=some u)
  (new:cT P w (upd H x o') h' x o'):sI P w (upd H x o') h':=λb u q=>by
 have ZD:∀c y,H c=some (.own y)->c≠x:=λc y r z=>by subst z;rw[r] at mu;exact mu
 have a2j:∀c xs,H c=some (.tup xs)->c≠x:=λc xs r z=>by subst z;rw[r] at mu;exact mu
 by_cases hb:b=x
 .subst hb;rw[fE] at q;cases q;exact new
 .rw[aY hb] at q;by_cases W5:b=e
  .have q':H b=some (.own x):=by
    rcases he with z | z
    .exact absurd (W5.trans z) hb
    .rw[W5];exact z
   rw[q] at q';cases q';obtain⟨v,hv⟩:=X7;exact⟨v,by rw[W5];exact hv⟩
  .refine(ok b u q).stay (λc v hc r=>k c v ?_ r) (λc r=>by rw[aY (ZD c b r)];exact r) λc xs r=>by rw[aY (a2j c xs r)];exact r
   rcases hc with rfl | hc
   .exact W5
   .rintro rfl;rcases he with z | z
    .exact ZD c b hc z
    .rw[hc] at z;cases z;exact hb rfl
end
structure Un (fs ex:List Addr)(H H':Hp)(h h':Heap):Prop where
 keep:∀b o,h.get? b=some o->H b=none->b∉fs->b∉ex->h'.get? b=some o
 slot:∀b o,h.get? b=some o->H b=none->b∈fs->b∉ex->∃sl,h'.get? b=some {o with slots:=sl }
 free:∀b o,h.get? b=some o->H b=none->b∉ex->H' b=none
 there:∀b o,h.get? b=some o->b∉ex->∃o',h'.get? b=some o'
 tups:∀b xs,H b=some (.tup xs)->H' b=some (.tup xs)
 Ak:∀b o u,H b=some (.HX o u)->H' b=some (.HX o u)
 BQ:∀b ps,H b=some (.S8 ps)->∃more,H' b=some (.S8 (ps++more))
section
variable {fs fs' ex ex':jcT}{H H1 H2:Hp}{h h1 h2 h':Heap}{a x e:Addr}{o:HO}
theorem Un.any (u:Un fs ex H H1 h h1){b:Addr}{ob:Obj}(q:h.get? b=some ob)(n:H b=none)(hx:b∉ex):∃sl,h1.get? b=some {ob with slots:=sl }:=by
 by_cases hb:b∈fs
 .exact u.slot b ob q n hb hx
 .exact⟨ob.slots,u.keep b ob q n hb hx⟩
theorem Un.kept (k:∀b u,h.get? b=some u->h'.get? b=some u):Un fs ex H H h h':=
 ⟨λb ob q _ _ _=>k b ob q,λb ob q _ _ _=>⟨ob.slots,k b ob q⟩,λ_ _ _ n _=>n,λb ob q _=>⟨ob,k b ob q⟩,λ_ _ q=>q,λ_ _ _ q=>q,λ_ ps q=>⟨#[],by rw[q];simp⟩⟩
theorem Un.refl:Un fs ex H H h h:=Un.kept λ_ _ q=>q
theorem Un.laid (k:∀b u,h.get? b=some u->h'.get? b=some u)(hp:h.objs.size<=a)(hn:H a=none):Un fs ex H (upd H a o) h h' where
 keep:=λb u q _ _ _=>k b u q
 slot:=λb u q _ _ _=>⟨u.slots,k b u q⟩
 free:=λb u q n _=>by rw[aY (jap (jaY (jak q) hp))];exact n
 there:=λb u q _=>⟨u,k b u q⟩
 tups:=λb xs q=>by rw[aY (bL q hn)];exact q
 Ak:=λb u xs q=>by rw[aY (bL q hn)];exact q
 BQ:=λb ps q=>⟨#[],by rw[aY (bL q hn),q];simp⟩
theorem Un.write (mu:Mut (H x))(he:e=x\/H e=some (.own x))(k:∀b u,b≠e->h.get? b=some u->h'.get? b=some u)(X7:∃u,h'.get? e=some u):Un fs ex H (upd H x o) h h':=by
 have hx:∀b,H b=none->b≠x:=λb n z=>by subst z;rw[n] at mu;exact mu
 have hb:∀b,H b=none->b≠e:=λb n z=>by
  subst z;rcases he with r | r
  .exact hx b n r
  .rw[n] at r;cases r
 have hm:∀b u,H b=some u->¬ Mut (some u)->b≠x:=λb u q nm z=>by subst z;rw[q] at mu;exact nm mu
 refine⟨λb u q n _ _=>k b u (hb b n) q,λb u q n _ _=>⟨u.slots,k b u (hb b n) q⟩,λb u q n _=>by rw[aY (hx b n)];exact n,λb u q _=>?_,
  λb xs q=>by rw[aY (hm b _ q λz=>z)];exact q,λb u xs q=>by rw[aY (hm b _ q λz=>z)];exact q,λb ps q=>⟨#[],by rw[aY (hm b _ q λz=>z),q];simp⟩⟩
 by_cases W5:b=e
 .subst W5;exact X7
 .exact⟨u,k b u W5 q⟩
end
noncomputable def trk (h:Heap)(H:Hp):jcT:=(List.range h.objs.size).filter λa=>(H a).isSome
noncomputable def Di (h:Heap)(H:Hp):Heap:=PySem.W.hideAll h (trk h H)
theorem Lu (h:Heap)(H:Hp):(Di h H).objs.size=h.objs.size:=PySem.W.hideAll_size _ _
theorem Oo {h:Heap}{H:Hp}{b:Addr}{o:Obj}(e:h.get? b=some o)(n:H b=none):(Di h H).get? b=some o:=
 PySem.W.hideAll_get _ e λhm=>by
  have q:(H b).isSome=true:=(jbK.mp hm).2;rw[n] at q;simp at q
theorem RD {h:Heap}{H:Hp}{b:Addr}{o:Obj}(e:(Di h H).get? b=some o):h.get? b=some o/\H b=none:=by
 have e':h.get? b=some o:=PySem.W.of_hideAll (trk h H) e;refine⟨e',?_⟩;cases q:H b with
 |none=>rfl
 |some x=>
  have hm:b∈trk h H:=jbK.mpr ⟨jbr.mpr (jak e'),by simp[q]⟩;have z:(Di h H).get? b=none:=PySem.W.hideAll_none (trk h H) hm;rw[z] at e;cases e
structure Mod (K:Frag)(mg:Str->Option Value)(base:Heap):Prop where
 XW:K.In base
 glob:base.Ns mainGlobals mg
 blt:∃mb,base.Ns builtinsNs mb/\∀x:Str,x≠"__name__"->mb x=bootBuiltins x
 nolimit:base.NoLimit
structure Cx where
 prog:Program
 w:World
 K:Frag
 mg:Str->Option Value
 base:Heap
 A:Around
 N:List Str
 s₀:Shared
 H₀:Hp
 env:Env
 outer:List Env
 stack:List Env
 ex:List Addr
 fn:Str->Bool
 calm:Bool
 pn:List (Addr×Obj)
 xe:Value->Shared->Prop
noncomputable def frs (l:List Env):jcT:=l.filterMap (·.frame)
abbrev Cx.fs (X:Cx):jcT:=frs X.outer
def Vis (sc:Scope)(x:Str):Prop:=sc.names.lookup x=some .local\/sc.names.lookup x=some .cell\/sc.names.lookup x=some .free
def Loc (sc:Scope)(x:Str):Prop:=sc.names.lookup x=some .local\/sc.names.lookup x=some .cell
def Look (env:Env)(h:Heap)(m:Str->jcW)(x:Str)(u:Value):Prop:=
 (env.kindOf x=some .local/\m x=some u)\/((env.kindOf x=some .cell\/env.kindOf x=some .free)/\∃c,env.cells.lookup x=some c/\h.IsCell c (some u))
structure Cx.Ok (X:Cx):Prop where
 mod:Mod X.K X.mg X.base
 kind:X.env.scope.kind=.function
 glob:X.env.globals=mainGlobals
 blt:X.env.builtins=builtinsNs
 above:X.s₀.heap.objs.size<=X.env.locals
 inj:∀x y c,X.env.cells.lookup x=some c->X.env.cells.lookup y=some c->x=y
 has:∀x,(X.env.kindOf x=some .cell\/X.env.kindOf x=some .free)->∃c,X.env.cells.lookup x=some c
 cab:∀x c,X.fn x=true->X.env.cells.lookup x=some c->X.s₀.heap.objs.size<=c
 hd:X.calm=true->X.A.handled=none
 frames:X.A.frames=some X.stack
 stk:X.stack=X.outer\/(X.stack=X.env::X.outer/\X.env.frame=some X.env.locals)
 exf:∀b∈X.ex,b≠X.env.locals/\∀x c,X.env.cells.lookup x=some c->c≠b
 bs:∀b o,X.base.get? b=some o->X.s₀.heap.get? b=some o/\X.H₀ b=none
 Sy:X.base.objs.size<=X.s₀.heap.objs.size
 NT:∀b o,X.base.get? b=some o->b∉X.ex
 OM:∀b∈X.ex,b∉X.fs
 wo:X.s₀.heap.FunFrames X.base X.outer
 Xb:∀b∈X.fs,X.H₀ b=none
structure Inv (X:Cx)(vy:List (Addr×Obj))(U:List (Option V))(H:Hp)(s:Shared):Prop where
 ok:X.Ok
 os:s.os=X.s₀.os
 bare:AllBare s.gens
 base:Un X.fs X.ex X.H₀ H X.s₀.heap s.heap
 loc:∃m,s.heap.Ns X.env.locals m/\∀(i:Nat)(x:Str)(v:V),X.N[i]?=some x->U[i]?=some (some v)->Vis X.env.scope x->∃u,RelV v u/\Look X.env s.heap m x u
 cell:∀x c,X.env.cells.lookup x=some c->∃v,s.heap.IsCell c v
 free:H X.env.locals=none
 oB:∀x c,X.env.cells.lookup x=some c->H c=none
 pin:∀p∈X.pn++vy,s.heap.get? p.1=some p.2/\H p.1=none/\p.1≠X.env.locals/\p.1∉X.fs/\∀v,p.2.data≠.cell v
 hok:sI X.prog X.w H s.heap
 len:U.length=X.N.length
section
variable {X:Cx}{vy:jcO}{U:List (Option V)}{H H':Hp}{s:Shared}{h':Heap}
theorem Cx.Ok.a2l (ok:X.Ok){b:Addr}{o:Obj}(e:X.base.get? b=some o):b∉X.fs:=λhb=>by
 have:=(ok.wo.mem hb).1;rw[e] at this;cases this
theorem Inv.bs (I:Inv X vy U H s):∀b o,X.base.get? b=some o->s.heap.get? b=some o/\H b=none:=λb o e=>
 ⟨I.base.keep b o (I.ok.bs b o e).1 (I.ok.bs b o e).2 (I.ok.a2l e) (I.ok.NT b o e),I.base.free b o (I.ok.bs b o e).1 (I.ok.bs b o e).2 (I.ok.NT b o e)⟩
theorem Inv.bk (I:Inv X vy U H s):∀b o,X.base.get? b=some o->s.heap.get? b=some o:=λb o e=>(I.bs b o e).1
theorem Inv.mod (I:Inv X vy U H s):Mod X.K X.mg X.base:=I.ok.mod
theorem Inv.uB (I:Inv X vy U H s):X.K.In s.heap:=I.ok.mod.XW.keeps I.bk
theorem Inv.lt (I:Inv X vy U H s):X.env.locals<s.heap.objs.size:=let⟨_,hn,_⟩:=I.loc;hn.lt
theorem Inv.sz (I:Inv X vy U H s):X.s₀.heap.objs.size<=s.heap.objs.size:=jaR I.ok.above (Nat.le_of_lt I.lt)
theorem Inv.ZE (I:Inv X vy U H s){a:Addr}(h:s.heap.objs.size<=a):a∉X.fs:=λhb=>by
 obtain⟨_,o,ho,_⟩:=I.ok.wo.mem hb;exact absurd (jaY (jak ho) (jaR I.sz h)) (jb1 _)
theorem Inv.Xr (I:Inv X vy U H s):∀x c,X.env.cells.lookup x=some c->c≠X.env.locals:=λx c e z=>by
 obtain⟨v,o,ho,hd⟩:=I.cell x c e;obtain⟨m,⟨o',es,ep,ho',hd',_⟩,_⟩:=I.loc;rw[z,ho'] at ho;cases ho;rw[hd'] at hd;cases hd
theorem Inv.wo (I:Inv X vy U H s):s.heap.FunFrames X.base X.outer:=by
 have all:∀(l:List Env),(∀b∈frs l,b∈X.fs)->X.s₀.heap.FunFrames X.base l->s.heap.FunFrames X.base l:=by
  intro l
  induction l with
  |nil=>intro _ _;trivial
  |cons env r ih=>
   intro hs hl;obtain⟨hk,⟨L,o,hf,hn,ho,hd⟩,hr⟩:=hl;have hL:L∈X.fs:=hs L (by unfold frs;rw[jbw,hf];exact jar);obtain⟨sl,e⟩:=I.base.slot L o ho (I.ok.Xb L hL) hL λz=>I.ok.OM L z hL;exact⟨hk,⟨L,_,hf,hn,e,hd⟩,ih (λb hb=>hs b (by unfold frs;rw[jbw,hf];exact jav _ hb)) hr⟩
 exact all X.outer (λ_ hb=>hb) I.ok.wo
theorem Inv.stack (I:Inv X vy U H s):s.heap.FunFrames X.base X.stack:=by
 rcases I.ok.stk with e | ⟨e,hf⟩
 .rw[e];exact I.wo
 .rw[e];obtain⟨m,hn,_⟩:=I.loc;refine .cons (by rw[I.ok.kind];decide) hf hn ?_ I.wo;exact Heap.get?_none_of_le (jaR I.ok.Sy I.ok.above)
theorem Inv.BU (I:Inv X vy U H s):∀b∈frs X.stack,b∈X.env.locals::X.fs:=λb hb=>by
 rcases I.ok.stk with e | ⟨e,hf⟩
 .rw[e] at hb;exact jav _ hb
 .rw[e] at hb;unfold frs at hb;rw[jbw,hf] at hb;exact hb
theorem Inv.IY (I:Inv X vy U H s):∀b∈frs X.stack,H b=none:=λb hb=>by
 rcases jag.mp (I.BU b hb) with e | hb
 .rw[e];exact I.free
 .obtain⟨_,o,ho,_⟩:=I.ok.wo.mem hb;exact I.base.free b o ho (I.ok.Xb b hb) λz=>I.ok.OM b z hb
theorem Inv.step {g':Array GenState}{t':Nat}{d':Drawn}{ch:jcT}(I:Inv X vy U H s)
  (hch:∀b∈ch,(b∈X.ex\/X.s₀.heap.objs.size<=b)/\b≠X.env.locals/\(∀x c,X.env.cells.lookup x=some c->c≠b)/\∀p∈X.pn++vy,p.1≠b)
  (keep:∀b o,b≠X.env.locals->b∉X.fs->b∉ch->s.heap.get? b=some o->H b=none->h'.get? b=some o)
  (slot:∀b o,b≠X.env.locals->b∈X.fs->b∉ch->s.heap.get? b=some o->H b=none->∃sl,h'.get? b=some {o with slots:=sl }) (free:∀b o,b∉ch->s.heap.get? b=some o->H b=none->H' b=none)
  (there:∀b o,b∉ch->s.heap.get? b=some o->∃o',h'.get? b=some o')
  (tups:∀b xs,H b=some (.tup xs)->H' b=some (.tup xs)) (Ak:∀b o u,H b=some (.HX o u)->H' b=some (.HX o u)) (BQ:∀b ps,H b=some (.S8 ps)->∃more,H' b=some (.S8 (ps++more)))
  (ns:∀m,s.heap.Ns X.env.locals m->h'.Ns X.env.locals m) (hok:sI X.prog X.w H' h') (hg:AllBare g') :
  Inv X vy U H' {s with heap:=h',gens:=g',drawn:=d',toks:=t' }:=by
 have neL:∀b o,X.s₀.heap.get? b=some o->b≠X.env.locals:=λb o e=>jap (jaY (jak e) I.ok.above);have neC:∀b o,X.s₀.heap.get? b=some o->b∉X.ex->b∉ch:=λb o e hx hb=>by
  rcases(hch b hb).1 with z | z
  .exact hx z
  .exact absurd (jaY (jak e) z) (jb1 _)
 have cellK:∀x c,X.env.cells.lookup x=some c->∀v,s.heap.IsCell c v->h'.IsCell c v:=(by
  rintro x c e v ⟨o,ho,hd⟩;have ZK:c∉ch:=λz=>(hch c z).2.2.1 x c e rfl;by_cases hc:c∈X.fs
  .obtain⟨sl,q⟩:=slot c o (I.Xr x c e) hc ZK ho (I.oB x c e);exact⟨_,q,hd⟩
  .exact⟨o,keep c o (I.Xr x c e) hc ZK ho (I.oB x c e),hd⟩)
 refine⟨I.ok,I.os,hg,⟨λb o e n hb hx=>?_,λb o e n hb hx=>?_,λb o e n hx=>?_,λb o e hx=>?_,λb xs e=>tups b xs (I.base.tups b xs e),λb o xs e=>Ak b o xs (I.base.Ak b o xs e),λb ps e=>?_⟩,?_,λx c e=>?_,?_,λx c e=>?_,λp hp=>?_,hok,I.len⟩
 .exact keep b o (neL b o e) hb (neC b o e hx) (I.base.keep b o e n hb hx) (I.base.free b o e n hx)
 .obtain⟨sl,e1⟩:=I.base.slot b o e n hb hx;obtain⟨sl',e2⟩:=slot b _ (neL b o e) hb (neC b o e hx) e1 (I.base.free b o e n hx);exact⟨sl',e2⟩
 .obtain⟨o',e1⟩:=I.base.there b o e hx;exact free b o' (neC b o e hx) e1 (I.base.free b o e n hx)
 .obtain⟨o',e1⟩:=I.base.there b o e hx;exact there b o' (neC b o e hx) e1
 .obtain⟨m1,e1⟩:=I.base.BQ b ps e;obtain⟨m2,e2⟩:=BQ b _ e1;exact⟨m1++m2,by rw[e2,Array.append_assoc]⟩
 .obtain⟨m,hn,hl⟩:=I.loc;refine⟨m,ns m hn,λi x v e1 e2 e3=>?_⟩;obtain⟨u,r,l⟩:=hl i x v e1 e2 e3;refine⟨u,r,?_⟩;rcases l with l | ⟨k,c,e,z⟩
  .exact .inl l
  .exact .inr ⟨k,c,e,cellK x c e _ z⟩
 .obtain⟨v,z⟩:=I.cell x c e;exact⟨v,cellK x c e v z⟩
 .obtain⟨m,⟨o,_,_,ho,_⟩,_⟩:=I.loc;exact free _ o (λz=>(hch _ z).2.1 M) ho I.free
 .obtain⟨v,o,ho,hd⟩:=I.cell x c e;exact free c o (λz=>(hch c z).2.2.1 x c e M) ho (I.oB x c e)
 .obtain⟨e,n,ne,nf,d⟩:=I.pin p hp;have ZK:p.1∉ch:=λz=>(hch p.1 z).2.2.2 p hp rfl;exact⟨keep p.1 p.2 ne nf ZK e n,free p.1 p.2 ZK e n,ne,nf,d⟩
theorem Inv.un {t':Nat}(I:Inv X vy U H s)(u:Un X.fs [] H H' s.heap h')(hok:sI X.prog X.w H' h'):Inv X vy U H' {s with heap:=h',toks:=t' }:=by
 obtain⟨m,⟨o,es,ep,ho,r⟩,_⟩:=id I.loc;obtain⟨sl,hL⟩:=u.any ho I.free (by simp);exact I.step (g':=s.gens) (d':=s.drawn) (ch:=[]) (λ_ z=>nomatch z) (λb o _ hb _ e n=>u.keep b o e n hb (by simp)) (λb o _ hb _ e n=>u.slot b o e n hb (by simp)) (λb o _ e n=>u.free b o e n (by simp)) (λb o _ e=>u.there b o e (by simp)) u.tups u.Ak u.BQ (λm' hm=>by
  obtain⟨o',es',ep',ho',r'⟩:=hm;rw[ho] at ho';cases ho';exact⟨_,es',ep',hL,r'⟩) hok I.bare
theorem Inv.call {g':Array GenState}{t':Nat}{d':Drawn}{ch:jcT}(I:Inv X vy U H s)(u:Un (frs X.stack) ch H H' s.heap h')(hok:sI X.prog X.w H' h')(hg:AllBare g')
  (hch:∀b∈ch,(b∈X.ex\/X.s₀.heap.objs.size<=b)/\b≠X.env.locals/\(∀x c,X.env.cells.lookup x=some c->c≠b)/\∀p∈X.pn++vy,p.1≠b) :
  Inv X vy U H' {s with heap:=h',gens:=g',drawn:=d',toks:=t' }:=by
 obtain⟨m,⟨o,es,ep,ho,r⟩,_⟩:=id I.loc;obtain⟨sl,hL⟩:=u.any ho I.free λz=>(hch _ z).2.1 rfl;exact I.step (ch:=ch) hch (λb o hL hb hc e n=>u.keep b o e n (λz=>(jag.mp (I.BU b z)).elim hL hb) hc) (λb o _ _ hc e n=>u.any e n hc) (λb o hc e n=>u.free b o e n hc) (λb o hc e=>u.there b o e hc) u.tups u.Ak u.BQ (λm' hm=>by
  obtain⟨o',es',ep',ho',r'⟩:=hm;rw[ho] at ho';cases ho';exact⟨_,es',ep',hL,r'⟩) hok hg
theorem Inv.turned {t':Nat}{it:Addr}(I:Inv X vy U H s)(k:∀b o,b≠it->s.heap.get? b=some o->h'.get? b=some o)(hn:H it=none)(hL:it≠X.env.locals)
  (h1:it∈X.ex\/X.s₀.heap.objs.size<=it) (h2:∀x c,X.env.cells.lookup x=some c->c≠it) (h3:∀p∈X.pn++vy,p.1≠it):Inv X vy U H {s with heap:=h',toks:=t' }:=by
 have nit:∀b u,H b=some u->b≠it:=λb u e z=>by rw[z,hn] at e;cases e
 refine I.step (g':=s.gens) (d':=s.drawn) (ch:=[it]) (λb hb=>?_) (λb o _ _ hc e _=>k b o (λz=>hc (by simp[z])) e) (λb o _ _ hc e _=>⟨o.slots,k b o (λz=>hc (by simp[z])) e⟩) (λ_ _ _ _ n=>n)
  (λb o hc e=>⟨o,k b o (λz=>hc (by simp[z])) e⟩) (λ_ _ e=>e) (λ_ _ _ e=>e) (λb ps e=>⟨#[],by rw[e];simp⟩) (λm hm=>?_) (λb u e=>?_) I.bare
 .have e:b=it:=by simpa using hb
  subst e;exact⟨h1,hL,h2,h3⟩
 .obtain⟨o,es,ep,ho,r⟩:=hm;exact⟨o,es,ep,k _ o (jaO hL) ho,r⟩
 .refine(I.hok b u e).stay (λc v hc q=>k c v ?_ q) (λ_ q=>q) λ_ _ q=>q;rcases hc with z | z
  .rw[z];exact nit b u e
  .exact nit c _ z
theorem Inv.tok (I:Inv X vy U H s)(t:Nat):Inv X vy U H {s with toks:=t }:=I.un (h':=s.heap) (t':=t) Un.refl I.hok
theorem Inv.kept {t':Nat}(I:Inv X vy U H s)(k:∀b u,s.heap.get? b=some u->h'.get? b=some u):Inv X vy U H {s with heap:=h',toks:=t' }:=I.un (Un.kept k) (I.hok.kept k)
theorem Inv.laid {a:Addr}{o:HO}{t':Nat}(I:Inv X vy U H s)(k:∀b u,s.heap.get? b=some u->h'.get? b=some u)(hp:s.heap.objs.size<=a)(new:cT X.prog X.w (upd H a o) h' a o) :
  Inv X vy U (upd H a o) {s with heap:=h',toks:=t' }:=I.un (Un.laid k hp (I.hok.fresh hp)) (I.hok.laid k hp new)
theorem Inv.write {x e:Addr}{o:HO}{t':Nat}(I:Inv X vy U H s)(mu:Mut (H x))(he:e=x\/H e=some (.own x))(k:∀b u,b≠e->s.heap.get? b=some u->h'.get? b=some u)(X7:∃u,h'.get? e=some u)
  (new:cT X.prog X.w (upd H x o) h' x o):Inv X vy U (upd H x o) {s with heap:=h',toks:=t' }:=I.un (Un.write mu he k X7) (I.hok.write mu he k X7 new)
theorem Inv.weak {U':List (Option V)}(I:Inv X vy U H s)(hl:U'.length=U.length)(w:∀(i:Nat) v,U'[i]?=some (some v)->U[i]?=some (some v)):Inv X vy U' H s:=
 ⟨I.ok,I.os,I.bare,I.base,let⟨m,hn,hl'⟩:=I.loc;⟨m,hn,λi x v e1 e2 e3=>hl' i x v e1 (w i v e2) e3⟩,I.cell,I.free,I.oB,I.pin,I.hok,hl.trans I.len⟩
theorem Inv.xo {yy:jcO}(I:Inv X vy U H s)(h:∀p∈yy,s.heap.get? p.1=some p.2/\H p.1=none/\p.1≠X.env.locals/\p.1∉X.fs/\∀v,p.2.data≠.cell v):Inv X yy U H s:=
 ⟨I.ok,I.os,I.bare,I.base,I.loc,I.cell,I.free,I.oB,λp hp=>(jau.mp hp).elim (λz=>I.pin p (jaP _ z)) (h p),I.hok,I.len⟩
theorem Fq {N:jcR}(hN:N.Nodup){i j:Nat}{x:Str}(a:N[i]?=some x)(b:N[j]?=some x):i=j:=by
 obtain⟨h1,e1⟩:=jao.mp a;obtain⟨h2,e2⟩:=jao.mp b;exact(List.getElem_inj hN).mp (e1.trans e2.symm)
theorem A5 {jcN:Model}{A:Around}{E:jcP}{i:Nat}{x:Str}{v:V}{u:Value}{Q:Unit->Shared->Prop}(I:Inv X vy U H s)(hN:X.N.Nodup)(hi:X.N[i]?=some x)(hx:Loc X.env.scope x)(r:RelV v u)
  (h:∀s',Inv X vy (U.set i (some v)) H s'->(∃a,Heap.SameBut a s.heap s'.heap/\(a=X.env.locals\/X.env.cells.lookup x=some a))->Q () s') (hf:autoParam (X.fn x=true\/X.env.scope.names.lookup x=some .local) zr):wpAny jcN A (storeName X.env x u) Q E s:=by
 obtain⟨m,hn,hl⟩:=id I.loc;have hcls:(X.env.scope.kind ==.class||(X.env.scope.kind ==.module&&X.env.locals !=X.env.globals))=false:=by rw[I.ok.kind];rfl
 have hiσ:i<U.length:=by rw[I.len];exact(jao.mp hi).1
 have Xr:=I.Xr;have tracked:∀{a:Addr}{h':Heap},(∃o,s.heap.get? a=some o/\H a=none)->Heap.SameBut a s.heap h'->sI X.prog X.w H h':=λ{a h'} ha hs b ob e=>by
  obtain⟨_,_,hfree⟩:=ha;refine(I.hok b ob e).stay (λc w' hc q=>(hs.2 c ?_).trans q) (λ_ q=>q) λ_ _ q=>q;rintro rfl;rcases hc with rfl | hc
  .rw[hfree] at e;cases e
  .rw[hfree] at hc;cases hc
 rcases hx with hk | hk
 .refine wpAny_storeName_local hk hn (λh' hn' hs=>?_) hcls;obtain⟨oL,_,_,hoL,_⟩:=id hn;refine h _ ⟨I.ok,I.os,I.bare,⟨λb o e n hb hx=>?_,λb o e n hb hx=>?_,I.base.free,λb o e hx=>?_,I.base.tups,I.base.Ak,I.base.BQ⟩,⟨_,hn',λj y v' e1 e2 e3=>?_⟩,λy c e=>?_,I.free,I.oB,λp hp=>?_,tracked ⟨oL,hoL,I.free⟩ hs,by simpa using I.len⟩ ⟨_,hs,.inl M⟩
  .exact(hs.2 b (jap (jaY (jak e) I.ok.above))).trans (I.base.keep b o e n hb hx)
  .obtain⟨sl,e1⟩:=I.base.slot b o e n hb hx;exact⟨sl,(hs.2 b (jap (jaY (jak e) I.ok.above))).trans e1⟩
  .obtain⟨o',e1⟩:=I.base.there b o e hx;exact⟨o',(hs.2 b (jap (jaY (jak e) I.ok.above))).trans e1⟩
  .by_cases hj:j=i
   .subst hj;rw[hi] at e1;cases e1;rw[jaG hiσ] at e2;cases e2;exact⟨u,r,.inl ⟨hk,by simp⟩⟩
   .rw[jbG (jaO hj)] at e2;obtain⟨u',r',q⟩:=hl j y v' e1 e2 e3;refine⟨u',r',?_⟩;rcases q with⟨k,e⟩ | ⟨k,c,e,z⟩
    .refine .inl ⟨k,?_⟩;have:y≠x:=λe=>hj (Fq hN e1 (e ▸ hi));simp[this,e]
    .exact .inr ⟨k,c,e,z.sameBut hs (Xr y c e)⟩
  .obtain⟨w',z⟩:=I.cell y c e;exact⟨w',z.sameBut hs (Xr y c e)⟩
  .obtain⟨e,n,ne,nf,d⟩:=I.pin p hp;exact⟨(hs.2 p.1 ne).trans e,n,ne,nf,d⟩
 .have hfn:X.fn x=true:=by
   rcases hf with z | z
   .exact z
   .rw[z] at hk;cases hk
  obtain⟨c,hc⟩:=I.ok.has x (.inl hk);obtain⟨w',z⟩:=I.cell x c hc;refine wpAny_storeName_cell I.ok.kind hk hc z (λh' hc' hs=>?_);obtain⟨oc,hoc,a2W⟩:=id z;refine h {s with heap:=h' } ⟨I.ok,I.os,I.bare,⟨λb o e n hb hx=>?_,λb o e n hb hx=>?_,I.base.free,λb o e hx=>?_,I.base.tups,I.base.Ak,I.base.BQ⟩,⟨m,hn.sameBut hs (jaO (Xr x c hc)),λj y v' e1 e2 e3=>?_⟩,λy c' e=>?_,I.free,I.oB,λp hp=>?_,tracked ⟨oc,hoc,I.oB x c hc⟩ hs,by simpa using I.len⟩ ⟨c,hs,.inr hc⟩
  .exact(hs.2 b (jap (jaY (jak e) (I.ok.cab x c hfn hc)))).trans (I.base.keep b o e n hb hx)
  .obtain⟨sl,e1⟩:=I.base.slot b o e n hb hx;exact⟨sl,(hs.2 b (jap (jaY (jak e) (I.ok.cab x c hfn hc)))).trans e1⟩
  .obtain⟨o',e1⟩:=I.base.there b o e hx;exact⟨o',(hs.2 b (jap (jaY (jak e) (I.ok.cab x c hfn hc)))).trans e1⟩
  .by_cases hj:j=i
   .subst hj;rw[hi] at e1;cases e1;rw[jaG hiσ] at e2;cases e2;exact⟨u,r,.inr ⟨.inl hk,c,hc,hc'⟩⟩
   .rw[jbG (jaO hj)] at e2;obtain⟨u',r',q⟩:=hl j y v' e1 e2 e3;refine⟨u',r',?_⟩;rcases q with q | ⟨k,c',e,z'⟩
    .exact .inl q
    .refine .inr ⟨k,c',e,z'.sameBut hs ?_⟩;rintro rfl;exact hj (Fq hN e1 (I.ok.inj _ _ _ e hc ▸ hi))
  .by_cases hcc:c'=c
   .subst hcc;exact⟨_,hc'⟩
   .obtain⟨w2,z2⟩:=I.cell y c' e;exact⟨w2,z2.sameBut hs hcc⟩
  .obtain⟨e,n,ne,nf,d⟩:=I.pin p hp;refine⟨(hs.2 p.1 ?_).trans e,n,ne,nf,d⟩;intro q;rw[q,hoc] at e;have q':oc=p.2:=ja2 e;exact d w' (by rw[<- q'];exact a2W)
theorem Eg {jcN:Model}{A:Around}{E:jcP}{i:Nat}{x:Str}{v:V}{u:Value}{Q:Unit->Shared->Prop}(I:Inv X vy U H s)(hN:X.N.Nodup)(hi:X.N[i]?=some x)(hx:Loc X.env.scope x)(r:RelV v u)
  (h:∀s',Inv X vy (U.set i (some v)) H s'->Q () s') (hf:autoParam (X.fn x=true\/X.env.scope.names.lookup x=some .local) zr):wpAny jcN A (storeName X.env x u) Q E s:=
 A5 I hN hi hx r (λs' I' _=>h s' I') hf
theorem Inv.a0C {s':Shared}{ch:jcT}(I:Inv X vy U H s)(ho:s'.os=s.os)(u:Un (frs X.stack) ch H H' s.heap s'.heap)(hok:sI X.prog X.w H' s'.heap)(hg:AllBare s'.gens)
  (hch:∀b∈ch,(b∈X.ex\/X.s₀.heap.objs.size<=b)/\b≠X.env.locals/\(∀x c,X.env.cells.lookup x=some c->c≠b)/\∀p∈X.pn++vy,p.1≠b):Inv X vy U H' s':=by
 obtain⟨h',g',d',t',o'⟩:=s';have e:o'=s.os:=ho;subst e;exact I.call (g':=g') (t':=t') (d':=d') u hok hg hch
end
abbrev XK:=Value->jcV->Hp->Prop
abbrev St:=List (Option V)
abbrev VK:=V->Hp->Prop
abbrev TE:=St->Hp->VK->Prop
abbrev TT:=St->Hp->(Bool->Hp->Prop)->Prop
abbrev TA:=St->Hp->(List V->Hp->Prop)->Prop
structure Ends where
 nx:St->Hp->Prop
 rt:VK
 bk:St->Hp->Prop:=λ_ _=>False
 ct:St->Hp->Prop:=λ_ _=>False
abbrev TS:=Ends->St->Hp->Prop
def EP (X:Cx)(vy:jcO)(U:St)(Q:VK)(u:Value)(s':Shared):Prop:=∃v H',Inv X vy U H' s'/\RelV v u/\Q v H'
def TP (X:Cx)(vy:jcO)(U:St)(Q:Bool->Hp->Prop)(b:Bool)(s':Shared):Prop:=∃H',Inv X vy U H' s'/\Q b H'
def AP (X:Cx)(vy:jcO)(U:St)(Q:List V->Hp->Prop)(us:jcS)(s':Shared):Prop:=∃vs H',Inv X vy U H' s'/\Vals vs us/\Q vs H'
def SP (X:Cx)(vy:jcO)(D:Ends)(f:Flow)(s':Shared):Prop:=
 match f with
 |.next=>∃U' H',Inv X vy U' H' s'/\D.nx U' H'
 |.brk=>∃U' H',Inv X vy U' H' s'/\D.bk U' H'
 |.cont=>∃U' H',Inv X vy U' H' s'/\D.ct U' H'
 |.ret u=>∃v U' H',Inv X vy U' H' s'/\RelV v u/\D.rt v H'
def PE (X:Cx)(e:Expr)(t:TE):Prop:=
 ∀(vy:jcO) (s:Shared) (U:St) (H:Hp) (Q:VK),Inv X vy U H s->t U H Q->wpAny (model X.prog X.w) X.A (eval e X.env) (EP X vy U Q) X.xe s
def PT (X:Cx)(e:Expr)(t:TT):Prop:=
 ∀(vy:jcO) (s:Shared) (U:St) (H:Hp) (Q:Bool->Hp->Prop),Inv X vy U H s->t U H Q->wpAny (model X.prog X.w) X.A (isTrue e X.env (eval e X.env)) (TP X vy U Q) X.xe s
def PW (X:Cx)(e:Expr)(t:TT):Prop:=
 ∀(whole:Sem Value)(vy:jcO) (s:Shared) (U:St) (H:Hp) (Q:Bool->Hp->Prop),Inv X vy U H s->t U H Q->wpAny (model X.prog X.w) X.A (isTrue e X.env whole) (TP X vy U Q) X.xe s
theorem PW.pt {X:Cx}{e:Expr}{t:TT}(h:PW X e t):PT X e t:=h _
def PA (X:Cx)(es:jcU)(t:TA):Prop:=
 ∀(pos:Pos)(vy:jcO) (s:Shared) (U:St) (H:Hp) (Q:List V->Hp->Prop),Inv X vy U H s->t U H Q->wpAny (model X.prog X.w) X.A (spliced (backTo pos (starEach es X.env))) (AP X vy U Q) X.xe s
def PS (X:Cx)(st:Stmt)(t:TS):Prop:=
 ∀(vy:jcO) (s:Shared) (U:St) (H:Hp) (D:Ends),Inv X vy U H s->t D U H->wpAny (model X.prog X.w) X.A (exec st X.env) (SP X vy D) X.xe s
def bF (X:Cx)(st:List Stmt)(t:TS):Prop:=
 ∀(vy:jcO) (s:Shared) (U:St) (H:Hp) (D:Ends),Inv X vy U H s->t D U H->wpAny (model X.prog X.w) X.A (execs st X.env) (SP X vy D) X.xe s
theorem ez {α:Type}{t:Sem α}{Q Q':α->Shared->Prop}{jcN:Model}{A:Around}{E:jcP}{s:Shared}(h:wpAny jcN A t Q E s)(hQ:∀a s,Q a s->Q' a s):wpAny jcN A t Q' E s:=jaV h hQ λ_ _ x=>x
section
variable {X:Cx}
def a1H (i:Nat):TE:=λU H Q=>∃v,U[i]?=some (some v)/\Q v H
def tC (v:V):TE:=λ_ H Q=>Q v H
theorem VT {i:Nat}{x:Str}{pos:Pos}(hN:X.N[i]?=some x)(hv:Vis X.env.scope x)(hd:autoParam ((x==("__debug__":Str))=false) zn)(hcd:autoParam ((x==("__classdict__":Str))=false) zn):PE X (.Name x pos) (a1H i):=by
 intro vy s U H Q I h;obtain⟨v,e,h⟩:=h;obtain⟨m,hn,hl⟩:=I.loc;obtain⟨u,r,l⟩:=hl i x v hN e hv;have fin:EP X vy U Q u s:=⟨v,H,I,r,h⟩
 rcases l with⟨hk,hm⟩ | ⟨hk,c,hc,hcell⟩
 .exact wpAny_Name (wpAny_loadName_local I.ok.kind hk hn hm fin) hd
 .rcases hk with hk | hk
  .exact wpAny_Name (wpAny_loadName_cell I.ok.kind hk hc hcell fin) hd
  .exact wpAny_Name (wpAny_loadName_free I.ok.kind hk hc hcell fin hcd) hd
theorem VW {i j pos}:PE X (.Constant (.int i) j pos) (tC (.int i)):=λ_ _ _ H _ I h=>wpAny_Constant_int ⟨.int i,H,I.tok _,⟨_,M⟩,h⟩
theorem Zo {b j pos}:PE X (.Constant (.bool b) j pos) (tC (.bl b)):=λ_ _ _ H _ I h=>Constant_bool ⟨.bl b,H,I,M,h⟩
theorem VV {j pos}:PE X (.Constant .none j pos) (tC .eN):=λ_ _ _ H _ I h=>Constant_none ⟨.eN,H,I,M,h⟩
theorem Nn {x j pos}:PE X (.Constant (.str x) j pos) (tC (.str x)):=λ_ _ _ H _ I h=>Calls.Constant_str ⟨.str x,H,I.tok _,⟨_,M⟩,h⟩
def Gl (X:Cx)(x:Str):Prop:=X.env.kindOf x=some .globalImplicit
theorem xy {E:jcP}{vy:jcO}{s:Shared}{U:St}{H:Hp}{x:Str}{u:Value}{pos:Pos}{Q:jcP}(I:Inv X vy U H s)(hg:Gl X x)(hm:X.mg x=some u)(h:Q u s)
  (hd:autoParam ((x==("__debug__":Str))=false) zn):wpAny (model X.prog X.w) X.A (eval (.Name x pos) X.env) Q E s:=
 Calls.Name_function_global I.ok.kind hg (Calls.loadGlobal_global (by rw[I.ok.glob];exact I.mod.glob.keeps I.bk) hm h) hd
theorem uV {E:jcP}{vy:jcO}{s:Shared}{U:St}{H:Hp}{x:Str}{u:Value}{pos:Pos}{Q:jcP}(I:Inv X vy U H s)(hg:Gl X x)(hm:X.mg x=none)(hv:bootBuiltins x=some u)(h:Q u s)
  (hn:autoParam (x≠"__name__") zn) (hd:autoParam ((x==("__debug__":Str))=false) zn):wpAny (model X.prog X.w) X.A (eval (.Name x pos) X.env) Q E s:=by
 obtain⟨mb,h1,h2⟩:=I.mod.blt;exact Calls.Name_function_global I.ok.kind hg (Calls.loadGlobal_builtin (by rw[I.ok.glob];exact I.mod.glob.keeps I.bk) hm (by rw[I.ok.blt];exact h1.keeps I.bk) ((h2 x hn).trans hv) h) hd
theorem cA {x:Str}{v:V}{u:Value}{pos:Pos}(hg:Gl X x)(hm:X.mg x=some u)(r:RelV v u)(hd:autoParam ((x==("__debug__":Str))=false) zn):PE X (.Name x pos) (tC v):=
 λ_ _ _ H _ I h=>xy I hg hm ⟨v,H,I,r,h⟩ hd
theorem JG {x:Str}{v:V}{u:Value}{pos:Pos}(hg:Gl X x)(hm:X.mg x=none)(hv:bootBuiltins x=some u)(r:RelV v u)(hn:autoParam (x≠"__name__") zn)(hd:autoParam ((x==("__debug__":Str))=false) zn):PE X (.Name x pos) (tC v):=
 λ_ _ _ H _ I h=>uV I hg hm hv ⟨v,H,I,r,h⟩ hn hd
variable {a b:Expr}{ta tb:TE}{pos:Pos}
def PC (X:Cx)(op:CmpOp)(a b:Expr)(t:TE):Prop:=
 ∀(vy:jcO) (s:Shared) (U:St) (H:Hp) (Q:VK),Inv X vy U H s->t U H Q->
  wpAny (model X.prog X.w) X.A (eval a X.env) (λv s₁=>wpAny (model X.prog X.w) X.A (eval b X.env) (λu s₂=>wpAny (model X.prog X.w) X.A (compareOp op v u) (EP X vy U Q) X.xe s₂) X.xe s₁) X.xe s
def tB (t:TE):TT:=λU H Q=>t U H λx H1=>∃c,x=.bl c/\Q c H1
theorem VI {op:CmpOp}{t:TE}(h:PC X op a b t)(h1:behindInMarks op b=false:=by first | exact ZF _ (by decide) (by decide) | rfl):PT X (.Compare a [op] [b] pos) (tB t):=by
 intro vy s U H Q I hw;refine wpAny_isTrue_Compare1 (ez (h vy s U H _ I hw) λv s1 h1=>ez h1 λu s2 h2=>ez h2 λc s3 ⟨x,H1,I1,r1,q1⟩=>?_) h1;obtain⟨d,rfl,q⟩:=q1;cases r1;exact wpAny_truthy_bool ⟨H1,I1,q⟩
theorem VG {e:Expr}{t:TE}(h:PE X e t)(he:autoParam (∀whole,isTrue e X.env whole=(do let v <- whole;standAt e.pos;holding [v] (truthy v))) zt):PT X e (tB t):=by
 intro vy s U H Q I hw;refine isTrue_plain (ez (h vy s U H _ I hw) λv s1 ⟨x,H1,I1,r1,q1⟩=>?_) (he _);obtain⟨d,rfl,q⟩:=q1;cases r1;exact wpAny_truthy_bool ⟨H1,I1,q⟩
variable {tA tB':TT}{rest:jcU}
def a1W (t u:TT):TT:=λU H Q=>t U H λc H1=>if c=true then u U H1 Q else Q false H1
def tOr (t u:TT):TT:=λU H Q=>t U H λc H1=>if c=true then Q true H1 else u U H1 Q
def a1N (t:TT):TT:=λU H Q=>t U H λc H1=>Q (!c) H1
theorem Q6 (ha:PT X a tA):PW X (.BoolOp .And [a] pos) tA:=by
 intro wh vy s U H Q I h;refine isTrue_and (ez (ha vy s U H Q I h) λc s1 e=>?_);cases c with
 |true=>exact isTrue_and_nil e
 |false=>exact e
theorem VE (ha:PT X a tA):PW X (.BoolOp .Or [a] pos) tA:=by
 intro wh vy s U H Q I h;refine isTrue_or (ez (ha vy s U H Q I h) λc s1 e=>?_);cases c with
 |false=>exact isTrue_or_nil e
 |true=>exact e
theorem VF (ha:PT X a tA)(hb:PW X (.BoolOp .And (b::rest) pos) tB'):PW X (.BoolOp .And (a::b::rest) pos) (a1W tA tB'):=by
 intro wh vy s U H Q I h;refine isTrue_and (ez (ha vy s U H _ I h) ?_);rintro c s1 ⟨H1,I1,q1⟩;cases c with
 |true=>exact hb wh vy s1 U H1 Q I1 q1
 |false=>exact⟨H1,I1,q1⟩
theorem Zi (ha:PT X a tA)(hb:PW X (.BoolOp .Or (b::rest) pos) tB'):PW X (.BoolOp .Or (a::b::rest) pos) (tOr tA tB'):=by
 intro wh vy s U H Q I h;refine isTrue_or (ez (ha vy s U H _ I h) ?_);rintro c s1 ⟨H1,I1,q1⟩;cases c with
 |true=>exact⟨H1,I1,q1⟩
 |false=>exact hb wh vy s1 U H1 Q I1 q1
theorem VH (ha:PT X a tA):PT X (.UnaryOp .Not a pos) (a1N tA):=by
 intro vy s U H Q I h;exact isTrue_not (ha vy s U H (λc H1=>Q (!c) H1) I h)
def tIf (t:TT)(ta tb:TE):TE:=λU H Q=>t U H λc H1=>if c=true then ta U H1 Q else tb U H1 Q
theorem Nq {c:Expr}(hc:PT X c tA)(ha:PE X a ta)(hb:PE X b tb):PE X (.IfExp c a b pos) (tIf tA ta tb):=by
 intro vy s U H Q I h;refine wpAny_IfExp (ez (hc vy s U H _ I h) ?_);rintro d s1 ⟨H1,I1,q1⟩;cases d with
 |true=>exact ha vy s1 U H1 Q I1 q1
 |false=>exact hb vy s1 U H1 Q I1 q1
end
def mJ (K:Frag)(H:Hp)(a:Addr)(xs:List V):Prop:=
 Rd H a (.lst xs)\/
  ∃(o:Obj)(AC:Array Value)(n:Nat),K.lookup a=some o/\o.cls=.type "list"/\o.dict=none/\o.data=.seq AC n/\AC.size<=sizeLine/\Vals xs AC.toList
def ko (K:Frag)(H:Hp)(a:Addr)(xs:List V):Prop:=
 Rd H a (.tup xs)\/
  ∃(o:Obj)(AC:Array Value)(n:Nat),K.lookup a=some o/\o.cls=.type "tuple"/\o.data=.seq AC n/\AC.size<=sizeLine/\Vals xs AC.toList
noncomputable def a3B:Value->Option V
 |.none=>some .eN
 |.bool b=>some (.bl b)
 |.int i _=>some (.int i)
 |.str x _=>some (.str x)
 |.bytes b _=>some (.L8 b)
 |.float b _=>some (.Xd b)
 |.ref a=>some (.ref a)
 |.type n=>some (.ty n)
 |_=>none
theorem RelV.abs {x:V}{u:Value}(r:RelV x u):a3B u=some x:=by
 cases x with
 |eN=>cases r;rfl
 |bl _=>cases r;rfl
 |int _=>obtain⟨t,rfl⟩:=r;rfl
 |str _=>obtain⟨t,rfl⟩:=r;rfl
 |L8 _=>obtain⟨t,rfl⟩:=r;rfl
 |Xd _=>obtain⟨t,rfl⟩:=r;rfl
 |ref _=>cases r;rfl
 |ty _=>cases r;rfl
theorem RelV.inj {x y:V}{u:Value}(r:RelV x u)(q:RelV y u):x=y:=ja2 (r.abs.symm.trans q.abs)
theorem Vals.inj:∀{xs ys:List V}{us:jcS},Vals xs us->Vals ys us->xs=ys
 |_,_,_,.nil,.nil=>rfl
 |_,_,_,.cons r t,.cons r' t'=>by rw[r.inj r',Vals.inj t t']
section
variable {X:Cx}{vy:jcO}{U:St}{H:Hp}{s:Shared}{a:Addr}{xs ys:List V}
theorem mJ.of {K:Frag}(h:H a=some (.lst xs)):mJ K H a xs:=.inl (.inl h)
theorem ko.of {K:Frag}(h:H a=some (.tup xs)):ko K H a xs:=.inl (.inl h)
theorem Inv.list (I:Inv X vy U H s)(h:mJ X.K H a xs):∃AC:jcS,Vals xs AC/\PlainL s.heap a AC.toArray/\xs.length<=sizeLine:=by
 rcases h with h | ⟨o,AC,n,hk,hc,hd,hs,hz,r⟩
 .obtain⟨z,AC,n,r,e⟩:=h.ok I.hok;exact⟨AC,r,⟨_,n,e,M,M,M⟩,z⟩
 .refine⟨AC.toList,r,⟨o,n,I.uB a o hk,hc,hd,by simpa using hs⟩,?_⟩;have e:=r.length;simp only[jaq] at e;omega
theorem Inv.tuple (I:Inv X vy U H s)(h:ko X.K H a xs):∃AC:jcS,Vals xs AC/\IsTup s.heap a AC.toArray/\xs.length<=sizeLine:=by
 rcases h with h | ⟨o,AC,n,hk,hc,hs,hz,r⟩
 .obtain⟨z,AC,r,p⟩:=h.ok I.hok;exact⟨AC,r,p,z⟩
 .refine⟨AC.toList,r,⟨o,I.uB a o hk,hc,n,by simpa using hs⟩,?_⟩;have e:=r.length;simp only[jaq] at e;omega
theorem Inv.FE (I:Inv X vy U H s)(h:mJ X.K H a xs)(h':mJ X.K H a ys):xs=ys:=by
 obtain⟨AC,r,⟨o,n,e,_,_,d⟩,_⟩:=I.list h;obtain⟨its',r',⟨o',n',e',_,_,d'⟩,_⟩:=I.list h';rw[e] at e';cases e';rw[d] at d';injection d' with d1 _
 have:AC=its':=by simpa using jah Array.toList d1
 subst this;exact r.inj r'
theorem Inv.qk (I:Inv X vy U H s)(h:ko X.K H a xs)(h':ko X.K H a ys):xs=ys:=by
 obtain⟨AC,r,⟨o,e,_,n,d⟩,_⟩:=I.tuple h;obtain⟨its',r',⟨o',e',_,n',d'⟩,_⟩:=I.tuple h';rw[e] at e';cases e';rw[d] at d';injection d' with d1 _
 have:AC=its':=by simpa using jah Array.toList d1
 subst this;exact r.inj r'
end
abbrev Cx.zS (X:Cx)(E:jcP):Cx:={X with xe:=E }
abbrev Cx.XS (X:Cx):Cx:=X.zS λ_ _=>False
theorem Cx.Ok.zS {X:Cx}(ok:X.Ok)(E:jcP):(X.zS E).Ok:=
 ⟨ok.mod,ok.kind,ok.glob,ok.blt,ok.above,ok.inj,ok.has,ok.cab,ok.hd,ok.frames,ok.stk,ok.exf,ok.bs,ok.Sy,ok.NT,ok.OM,ok.wo,ok.Xb⟩
theorem Cx.Ok.oJ {X:Cx}{E:jcP}(ok:(X.zS E).Ok):X.Ok:=
 ⟨ok.mod,ok.kind,ok.glob,ok.blt,ok.above,ok.inj,ok.has,ok.cab,ok.hd,ok.frames,ok.stk,ok.exf,ok.bs,ok.Sy,ok.NT,ok.OM,ok.wo,ok.Xb⟩
section
variable {X:Cx}{vy:jcO}{U:St}{H:Hp}{s:Shared}{E:jcP}
theorem Inv.zS (I:Inv X vy U H s)(E:jcP):Inv (X.zS E) vy U H s:=⟨I.ok.zS E,I.os,I.bare,I.base,I.loc,I.cell,I.free,I.oB,I.pin,I.hok,I.len⟩
theorem Inv.oJ (I:Inv (X.zS E) vy U H s):Inv X vy U H s:=⟨I.ok.oJ,I.os,I.bare,I.base,I.loc,I.cell,I.free,I.oB,I.pin,I.hok,I.len⟩
theorem SP.oJ {D:Ends}{f:Flow}{s':Shared}(h:SP (X.zS E) vy D f s'):SP X vy D f s':=by
 cases f with
 |next=>obtain⟨U',H',I,q⟩:=h;exact⟨U',H',I.oJ,q⟩
 |brk=>obtain⟨U',H',I,q⟩:=h;exact⟨U',H',I.oJ,q⟩
 |cont=>obtain⟨U',H',I,q⟩:=h;exact⟨U',H',I.oJ,q⟩
 |ret u=>obtain⟨v,U',H',I,r,q⟩:=h;exact⟨v,U',H',I.oJ,r,q⟩
theorem bF.XS {st:List Stmt}{t:TS}(h:bF X.XS st t):bF X st t:=λvy s U H D I hw=>
 jaV (h vy s U H D (I.zS _) hw) (λ_ _ q=>q.oJ) λ_ _ z=>False.elim z
end
section
variable {X:Cx}{st:Stmt}{rest:List Stmt}{t u:TS}{e:Expr}{te:TE}{pos:Pos}
def Yz:TS:=λD U H=>D.nx U H
def a1K (t u:TS):TS:=λD U H=>t {D with nx:=u D } U H
theorem Rb:bF X [] Yz:=λ_ _ U H _ I h=>wpAny_execs_nil ⟨U,H,I,h⟩
theorem Nj (h1:PS X st t)(h2:bF X rest u):bF X (st::rest) (a1K t u):=by
 intro vy s U H D I h;refine wpAny_execs_cons (ez (h1 vy s U H {D with nx:=u D } I h) λf s1 q=>?_);cases f with
 |next=>
  obtain⟨U',H',I',q⟩:=q;exact h2 vy s1 U' H' D I' q
 |ret v=>exact q
 |brk=>exact q
 |cont=>exact q
theorem Ra (h1:PS X st t):bF X [st] t:=by
 intro vy s U H D I h;refine wpAny_execs_cons (ez (h1 vy s U H D I h) λf s1 q=>?_);cases f with
 |next=>exact wpAny_execs_nil q
 |ret v=>exact q
 |brk=>exact q
 |cont=>exact q
theorem Inv.quiet {vy:jcO}{U:St}{H:Hp}{s:Shared}(I:Inv X vy U H s):interactive X.env=false:=by simp[interactive,I.ok.kind]
def YE (te:TE):TS:=λD U H=>te U H λ_ H1=>D.nx U H1
theorem Rf (he:PE X e te)(hs:autoParam (swapsWith e none pos.line X.env=pure false) zi):PS X (.Expr e pos) (YE te):=by
 intro vy s U H D I h;exact wpAny_Expr_any (ez (he vy s U H _ I h) (by rintro v s1 ⟨x,H1,I1,r1,q1⟩;exact⟨U,H1,I1,q1⟩)) I.quiet hs
def a1L (te:TE):TS:=λD U H=>te U H D.rt
theorem VM (he:PE X e te):PS X (.Return (some e) pos) (a1L te):=by
 intro vy s U H D I h;exact wpAny_Return_some (ez (he vy s U H _ I h) (by rintro v s1 ⟨x,H1,I1,r1,q1⟩;exact⟨x,U,H1,I1,r1,q1⟩))
def a1Q (c:TT)(t u:TS):TS:=λD U H=>c U H λb H1=>if b=true then t D U H1 else u D U H1
theorem Zj {c:Expr}{a b:List Stmt}{tc:TT}(hc:PT X c tc)(ha:bF X a t)(hb:bF X b u):PS X (.If c a b pos) (a1Q tc t u):=by
 intro vy s U H D I h;refine wpAny_If (ez (hc vy s U H _ I h) ?_);rintro d s1 ⟨H1,I1,q1⟩;cases d with
 |true=>exact ha vy s1 U H1 D I1 q1
 |false=>exact hb vy s1 U H1 D I1 q1
def UX:TS:=λ_ _ _=>False
theorem K0 {sts:List Stmt}:bF X sts UX:=λ_ _ _ _ _ _ h=>h.elim
end
abbrev TG:=V->St->Hp->(St->Hp->Prop)->Prop
abbrev P4:=List V->St->Hp->(St->Hp->Prop)->Prop
def PG (X:Cx)(target:Expr)(t:TG):Prop:=
 ∀(vy:jcO) (s:Shared) (U:St) (H:Hp) (v:V) (u:Value) (Q:St->Hp->Prop),Inv X vy U H s->RelV v u->t v U H Q->
  wpAny (model X.prog X.w) X.A (assign target X.env u) (λ_ s'=>∃U' H',Inv X vy U' H' s'/\Q U' H') X.xe s
def UE (X:Cx)(ts:jcU)(t:P4):Prop:=
 ∀(vy:jcO) (s:Shared) (U:St) (H:Hp) (vs:List V) (us:jcS) (Q:St->Hp->Prop),Inv X vy U H s->Vals vs us->t vs U H Q->
  wpAny (model X.prog X.w) X.A (assignInOrder ((assignEach ts X.env).map (·.2)) us) (λ_ s'=>∃U' H',Inv X vy U' H' s'/\Q U' H') X.xe s
abbrev XF:=V->V->V->Hp->(Hp->Prop)->Prop
def a0P (X:Cx)(t:XF):Prop:=
 ∀(vy:jcO) (s:Shared) (U:St) (H:Hp) (o i v:V) (ov iv u:Value) (Q:Hp->Prop),Inv X vy U H s->RelV o ov->RelV i iv->RelV v u->t o i v H Q->
  wpAny (model X.prog X.w) X.A (setItem ov iv u) (λ_ s'=>∃H',Inv X vy U H' s'/\Q H') X.xe s
abbrev TIp:=V->V->Hp->VK->Prop
def PIp (X:Cx)(op:Operator)(t:TIp):Prop:=
 ∀(vy:jcO) (s:Shared) (U:St) (H:Hp) (x y:V) (v u:Value) (Q:VK),Inv X vy U H s->RelV x v->RelV y u->t x y H Q->
  wpAny (model X.prog X.w) X.A (inplaceOp op v u) (EP X vy U Q) X.xe s
section
variable {X:Cx}{pos:Pos}
def OC (i:Nat):TG:=λv U H Q=>Q (U.set i (some v)) H
theorem JD {i:Nat}{x:Str}(hN:X.N.Nodup)(hi:X.N[i]?=some x)(hx:Loc X.env.scope x)(hf:autoParam (X.fn x=true\/X.env.scope.names.lookup x=some .local) zr):PG X (.Name x pos) (OC i):=by
 intro vy s U H v u Q I r h;exact wpAny_assign_Name (Eg I hN hi hx r (λs' I'=>⟨_,H,I',h⟩) hf)
def a3o:P4:=λvs U H Q=>vs=[]/\Q U H
def a0m (t:TG)(u:P4):P4:=λvs U H Q=>∃v r,vs=v::r/\t v U H λU' H'=>u r U' H' Q
theorem JC:UE X [] a3o:=by
 intro vy s U H vs us Q I r h;obtain⟨e,h⟩:=h;subst e;cases r;exact assignInOrder_nil ⟨U,H,I,h⟩
theorem EV {e:Expr}{es:jcU}{t:TG}{u:P4}(h1:PG X e t)(h2:UE X es u)
  (hs:autoParam ((assignEach (e::es) X.env).map (·.2)=assign e X.env::(assignEach es X.env).map (·.2)) zi):UE X (e::es) (a0m t u):=by
 intro vy s U H vs us Q I r h;obtain⟨v,vr,e1,h⟩:=h;subst e1;cases r with
 |cons r rr=>
  rw[hs];refine assignInOrder_cons (ez (h1 vy s U H _ _ _ I r h) ?_);rintro _ s1 ⟨σ1,H1,I1,q1⟩;exact h2 vy s1 σ1 H1 _ _ Q I1 rr q1
def a3n (K:Frag)(n:Nat)(t:P4):TG:=λv U H Q=>∃a xs,v=.ref a/\ko K H a xs/\xs.length=n/\t xs U H Q
theorem Nm {es:jcU}{k:Nat}{t:P4}{n:Nat}(hc:X.calm=true)(h:UE X es t)
  (hn:autoParam ((assignEach es X.env).length=n) zi) (hst:autoParam ((assignEach es X.env).findIdx? (·.1)=none) zi):PG X (.Tuple es k pos) (a3n X.K n t):=by
 intro vy s U H v u Q I r hw;obtain⟨a,xs,e1,hq,hl,hw⟩:=hw;subst e1;cases r;obtain⟨AC,rv,ht,hz⟩:=I.tuple hq;refine assign_Tuple_tuple (I.ok.hd hc) ht (by simp[hn,<- hl,rv.length]) hst λh' hx=>?_;have I1:Inv X vy U H {s with heap:=h' }:=I.kept (t':=s.toks) λb o e=>hx b o (jap (jak e)) e;exact h vy _ U H xs _ Q I1 (by simpa using rv) hw
def U3 (te:TE)(g:TG):TS:=λD U H=>te U H λx H1=>g x U H1 D.nx
theorem VQ {tg e:Expr}{te:TE}{g:TG}(he:PE X e te)(hg:PG X tg g)(hs:autoParam (swapsWithSole [tg] e pos.line X.env=pure false) zi)(hw:autoParam (swappedStores [tg] e X.env=pure none) zi)
  (h1:autoParam ((assignEach [tg] X.env).map (·.2)=[assign tg X.env]) zi):PS X (.Assign [tg] e pos) (U3 te g):=by
 intro vy s U H D I h;refine wpAny_Assign_stores (ez (he vy s U H _ I h) λv s1 ⟨x,H1,I1,r1,q1⟩=>?_) hs hw;rw[h1];exact ez (hg vy s1 U H1 x v _ I1 r1 q1) λ_ s2 q=>q
theorem VL {i:Nat}{x:Str}{e:Expr}{te:TE}{pos':Pos}(hN:X.N.Nodup)(hi:X.N[i]?=some x)(hx:Loc X.env.scope x)(he:PE X e te)(hs:autoParam (swapsWith e (some (.Name x pos')) pos.line X.env=pure false) zi)(hf:autoParam (X.fn x=true\/X.env.scope.names.lookup x=some .local) zr) :
  PS X (.Assign [.Name x pos'] e pos) (U3 te (OC i)):=by
 intro vy s U H D I h;refine wpAny_Assign_Name (ez (he vy s U H _ I h) λv s1 ⟨y,H1,I1,r1,q1⟩=>?_) hs;exact Eg I1 hN hi hx r1 (λs2 I2=>⟨_,H1,I2,q1⟩) hf
def YI (to ti te:TE)(Qk:V->V->Hp->VK->Prop)(tip:TIp)(Qj:XF):TS:=λD U H=>to U H λo H1=>ti U H1 λi H2=>Qk o i H2 λx H3=>te U H3 λy H4=>tip x y H4 λz H5=>Qj o i z H5 λH6=>D.nx U H6
def a0Q (X:Cx)(t:V->V->Hp->VK->Prop):Prop:=
 ∀(vy:jcO) (s:Shared) (U:St) (H:Hp) (o i:V) (ov iv:Value) (Q:VK),Inv X vy U H s->RelV o ov->RelV i iv->t o i H Q->
  wpAny (model X.prog X.w) X.A (getItem ov iv) (EP X vy U Q) X.xe s
theorem Rh {o i e:Expr}{to ti te:TE}{Qk:V->V->Hp->VK->Prop}{tip:TIp}{Qj:XF}{op:Operator}{tpos:Pos}(ho:PE X o to)(hi:PE X i ti)(hg:a0Q X Qk)(he:PE X e te)(hp:PIp X op tip)(hs:a0P X Qj)
  (ha:autoParam (∀ov iv new,augStore i ov iv new=(do holding [new,ov,iv] (setItem ov iv new);release [new,ov,iv] [];pure .next)) jp):PS X (.AugAssign (.Subscript o i tpos) op e pos) (YI to ti te Qk tip Qj):=by
 intro vy s U H D I h;refine wpAny_AugAssign_SubscriptAny (ez (ho vy s U H _ I h) λov s1 ⟨x1,H1,I1,r1,q1⟩=>?_) ha;refine ez (hi vy s1 U H1 _ I1 q1) ?_;rintro iv s2 ⟨x2,H2,I2,r2,q2⟩;refine ez (hg vy s2 U H2 x1 x2 ov iv _ I2 r1 r2 q2) ?_;rintro old s3 ⟨x3,H3,I3,r3,q3⟩;refine ez (he vy s3 U H3 _ I3 q3) ?_;rintro v s4 ⟨x4,H4,I4,r4,q4⟩;refine ez (hp vy s4 U H4 x3 x4 old v _ I4 r3 r4 q4) ?_;rintro new s5 ⟨x5,H5,I5,r5,q5⟩;exact ez (hs vy s5 U H5 x1 x2 x5 ov iv new _ I5 r1 r2 r5 q5) (by rintro _ s6 ⟨H6,I6,q6⟩;exact⟨U,H6,I6,q6⟩)
def ipI (f:Int->Int->Int):TIp:=λx y H Q=>∃i j,x=.int i/\y=.int j/\Q (.int (f i j)) H
theorem WV:PIp X .Add (ipI λi j=>i+j):=by
 intro vy s U H x y v u Q I r1 r2 h;obtain⟨i,j,e1,e2,q⟩:=h;subst e1;subst e2;obtain⟨t,rfl⟩:=r1;obtain⟨t',rfl⟩:=r2;exact iadd_int ⟨.int _,H,I.tok _,⟨_,M⟩,q⟩
end
section
variable {X:Cx}{pos:Pos}
end
structure It where
 go:Nat->Hp->Prop
 KI:Nat->Hp->V->Hp->Prop
 stop:Nat->Hp->Prop
def l7 (X:Cx)(vy:jcO)(H:Hp)(b:Addr):Prop:=
 H b=none/\b≠X.env.locals/\b∉X.fs/\(b∈X.ex\/X.s₀.heap.objs.size<=b)/\(∀x c,X.env.cells.lookup x=some c->c≠b)/\∀p∈X.pn++vy,p.1≠b
theorem Inv.OF {X:Cx}{vy:jcO}{U:St}{H H':Hp}{s:Shared}{b:Addr}(I:Inv X vy U H s)(hb:s.heap.objs.size<=b)(hn:H' b=none):l7 X vy H' b:=by
 refine⟨hn,ja6 (jaY I.lt hb),I.ZE hb,.inr (jaR I.sz hb),λx c e z=>?_,λp hp z=>?_⟩
 .obtain⟨v,q⟩:=I.cell x c e;exact absurd (jaY q.lt (by rw[z];exact hb)) (jb1 _)
 .exact absurd (jaY (jak (I.pin p hp).1) (by rw[z];exact hb)) (jb1 _)
structure Turn (P:Program)(w:World)(K:Frag)(tg:Expr)(J:It)(fp:List Addr)(it:Addr)(tn:Nat->Heap->Prop):Prop where
 mem:it∈fp
 obj:∀i h,tn i h->∀b∈fp,∃o,h.get? b=some o/\∀v,o.data≠.cell v
 keep:∀i h h',tn i h->(∀b∈fp,∀o,h.get? b=some o->h'.get? b=some o)->tn i h'
 item:∀(X:Cx),X.prog=P->X.w=w->X.K=K->X.calm=true->∀(i:Nat)(vy:List (Addr×Obj)) (s:Shared) (U:St) (H:Hp) (E:Value->Shared->Prop),Inv X vy U H s->(∀b∈fp,l7 X vy H b)->tn i s.heap->J.go i H->
  wpAny (model P w) X.A (pyNext (.ref it)) (λr s1=>∃u,r=some u/\
   wpAny (model P w) X.A (letOwnedTupleGo tg (.ref it) u) (λ_ s2=>∃x H',Inv X vy U H' s2/\RelV x u/\J.KI i H x H'/\tn (i+1) s2.heap/\∀b∈fp,H' b=none) E s1) E s
 done:∀(X:Cx),X.prog=P->X.w=w->X.K=K->X.calm=true->∀(i:Nat)(vy:List (Addr×Obj)) (s:Shared) (U:St) (H:Hp) (E:Value->Shared->Prop),Inv X vy U H s->(∀b∈fp,l7 X vy H b)->tn i s.heap->J.stop i H->
  wpAny (model P w) X.A (pyNext (.ref it)) (λr s1=>r=none/\Inv X vy U H s1) E s
 self:∀(A:Around)(i:Nat)(s:Shared)(Q:Value->Shared->Prop)(E:Value->Shared->Prop),tn i s.heap->Q (.ref it) s->wpAny (model P w) A (pyIter (.ref it)) Q E s
abbrev TI:=St->Hp->(It->Hp->Prop)->Prop
def PIE (X:Cx)(vy:jcO)(U:St)(tg:Expr)(R:It->Hp->Prop)(itv:Value)(s2:Shared):Prop:=
 ∃(it:Addr)(fp:jcT)(tn:Nat->Heap->Prop)(J:It)(H':Hp),itv=.ref it/\Inv X vy U H' s2/\Turn X.prog X.w X.K tg J fp it tn/\tn 0 s2.heap/\(∀b∈fp,l7 X vy H' b)/\R J H'
def PI (X:Cx)(tg iter:Expr)(wi:TI):Prop:=
 ∀(vy:jcO) (s:Shared) (U:St) (H:Hp) (R:It->Hp->Prop),Inv X vy U H s->wi U H R->
  wpAny (model X.prog X.w) X.A (eval iter X.env) (λv s1=>wpAny (model X.prog X.w) X.A (pyIter v) (PIE X vy U tg R) X.xe s1) X.xe s
theorem Ov {jcN:Model}{A:Around}{E:jcP}{s:Shared}{tg:Expr}{it:Addr}{u:Value}{o:Obj}{n:String}{vs:Array Value}{Q:Unit->Shared->Prop}(ho:s.heap.get? it=some o)(hc:o.cls=.type n)(hd:o.data=.fields vs)
  (hn:["enumerate","zip","dict_itemiterator","dict_reverseitemiterator","odict_iterator","itertools.zip_longest","itertools.pairwise"].contains n=false) (hQ:Q () s):wpAny jcN A (letOwnedTupleGo tg (.ref it) u) Q E s:=by
 unfold letOwnedTupleGo;cases tg<;>first
  |exact jac hQ
  |(cases u<;>first
    |exact jac hQ
    |(
      refine jaa (wpAny_load ho ?_);rw[hc,hd];show wpAny jcN A (if(["enumerate","zip","dict_itemiterator","dict_reverseitemiterator","odict_iterator","itertools.zip_longest","itertools.pairwise"].contains n&&vs[0]? ==some (rawInt _))=true then _ else _) Q E s;rw[jad (by intro h;rw[hn,jbZ] at h;cases h)];exact jac hQ))
noncomputable def Itl (K:Frag)(a:Addr):It:=
 ⟨λi H=>∃xs x,mJ K H a xs/\xs[i]?=some x,λi H x H'=>H'=H/\∀xs,mJ K H a xs->xs[i]?=some x,λi H=>∃xs,mJ K H a xs/\xs.length<=i⟩
noncomputable def Itt (K:Frag)(a:Addr):It:=
 ⟨λi H=>∃xs x,ko K H a xs/\xs[i]?=some x,λi H x H'=>H'=H/\∀xs,ko K H a xs->xs[i]?=some x,λi H=>∃xs,ko K H a xs/\xs.length<=i⟩
noncomputable def Itr (lo:Int)(n:Nat):It:=⟨λi _=>i<n,λi H x H'=>H'=H/\x=.int (lo+i),λi _=>n<=i⟩
theorem KL {P:Program}{w:World}{K:Frag}{tg:Expr}(a it:Addr):Turn P w K tg (Itl K a) [it] it (λi h=>h.IsListIter it a i) where
 mem:=by simp
 obj:=λi h st b hb=>by
  have e:b=it:=by simpa using hb
  subst e;obtain⟨o,e,c,d⟩:=st;exact⟨o,e,λv z=>by rw[d] at z;cases z⟩
 keep:=λi h h' st k=>st.at λo e=>k it (by simp) o e
 item:=by
  intro X hP hw hK hc i vy s U H E I hf st hg;subst hP hw hK;obtain⟨xs,x,hq,hx⟩:=hg;obtain⟨AC,rv,p,hz⟩:=I.list hq;obtain⟨u,hu,ru⟩:=rv.get hx;obtain⟨f0,f1,f2,f3,f4,f5⟩:=hf it (by simp);refine wpAny_pyNext_list_item st p.isList (x:=u) (by simpa using hu) λh' st' sb=>?_;have I1:Inv X vy U H {s with heap:=h' }:=I.turned (t':=s.toks) (λb o hb e=>(sb.2 b hb).trans e) f0 f1 f3 f4 f5;obtain⟨o,e,c,d⟩:=id st';exact⟨u,M,Ov (s:={s with heap:=h' }) e c d (by decide) ⟨x,H,I1,ru,⟨M,λys hy=>by rw[I.FE hy hq];exact hx⟩,st',λb hb=>(hf b hb).1⟩⟩
 done:=by
  intro X hP hw hK hc i vy s U H E I hf st hg;subst hP hw hK;obtain⟨xs,hq,hx⟩:=hg;obtain⟨AC,rv,p,hz⟩:=I.list hq;obtain⟨f0,f1,f2,f3,f4,f5⟩:=hf it (by simp);have hl:=rv.length;exact wpAny_pyNext_list_end (I.ok.hd hc) st p.isList (by simp;omega) λh' eb=>⟨M,I.turned (t':=s.toks) (λb o hb e=>eb b o hb e) f0 f1 f3 f4 f5⟩
 self:=λ_ _ _ _ _ st h=>wpAny_pyIter_listiter st h
theorem GK {P:Program}{w:World}{K:Frag}{tg:Expr}(a it:Addr):Turn P w K tg (Itt K a) [it] it (λi h=>h.IsTupleIter it a i) where
 mem:=by simp
 obj:=λi h st b hb=>by
  have e:b=it:=by simpa using hb
  subst e;obtain⟨o,e,c,d⟩:=st;exact⟨o,e,λv z=>by rw[d] at z;cases z⟩
 keep:=λi h h' st k=>st.at λo e=>k it (by simp) o e
 item:=by
  intro X hP hw hK hc i vy s U H E I hf st hg;subst hP hw hK;obtain⟨xs,x,hq,hx⟩:=hg;obtain⟨AC,rv,p,hz⟩:=I.tuple hq;obtain⟨u,hu,ru⟩:=rv.get hx;obtain⟨f0,f1,f2,f3,f4,f5⟩:=hf it (by simp);refine wpAny_pyNext_tuple_item st (show s.heap.IsTuple a AC.toArray from p) (x:=u) (by simpa using hu) λh' st' sb=>?_;have I1:Inv X vy U H {s with heap:=h' }:=I.turned (t':=s.toks) (λb o hb e=>(sb.2 b hb).trans e) f0 f1 f3 f4 f5;obtain⟨o,e,c,d⟩:=id st';exact⟨u,M,Ov (s:={s with heap:=h' }) e c d (by decide) ⟨x,H,I1,ru,⟨M,λys hy=>by rw[I.qk hy hq];exact hx⟩,st',λb hb=>(hf b hb).1⟩⟩
 done:=by
  intro X hP hw hK hc i vy s U H E I hf st hg;subst hP hw hK;obtain⟨xs,hq,hx⟩:=hg;obtain⟨AC,rv,p,hz⟩:=I.tuple hq;obtain⟨f0,f1,f2,f3,f4,f5⟩:=hf it (by simp);have hl:=rv.length;exact wpAny_pyNext_tuple_end (I.ok.hd hc) st (show s.heap.IsTuple a AC.toArray from p) (by simp;omega) λh' eb=>⟨M,I.turned (t':=s.toks) (λb o hb e=>eb b o hb e) f0 f1 f3 f4 f5⟩
 self:=λ_ _ _ _ _ st h=>wpAny_pyIter_tupleiter st h
theorem GL {P:Program}{w:World}{K:Frag}{tg:Expr}(it:Addr)(lo:Int)(n:Nat):Turn P w K tg (Itr lo n) [it] it (λi h=>IsRangeIter h it (lo+(i:Nat)*1) ((n:Int) - (i:Nat)) 1) where
 mem:=by simp
 obj:=λi h st b hb=>by
  have e:b=it:=by simpa using hb
  subst e;exact⟨_,st,λv z=>by
   have z':Data.fields _=Data.cell v:=z;cases z'⟩
 keep:=λi h h' st k=>k it (by simp) _ st
 item:=by
  intro X hP hw hK hc i vy s U H E I hf st hg;subst hP hw hK;obtain⟨f0,f1,f2,f3,f4,f5⟩:=hf it (by simp);have W:=Walks.range (prog:=X.prog) (w:=X.w) (I.ok.hd hc) it lo 1 n;refine W.item i s _ _ hg st λv h' tk hv st' kk=>?_;obtain⟨t,rfl⟩:=hv;have I1:Inv X vy U H {s with heap:=h',toks:=tk }:=I.turned (λb o hb e=>kk b o (by simpa using hb) e) f0 f1 f3 f4 f5;refine⟨_,M,Ov (s:={s with heap:=h',toks:=tk }) (n:="range_iterator") st' rfl rfl (by decide) ⟨.int (lo+i),H,I1,⟨t,?_⟩,⟨M,M⟩,st',λb hb=>(hf b hb).1⟩⟩;rw[Int.mul_one]
 done:=by
  intro X hP hw hK hc i vy s U H E I hf st hg;subst hP hw hK;obtain⟨f0,f1,f2,f3,f4,f5⟩:=hf it (by simp);exact wpAny_pyNext_range_end (I.ok.hd hc) st (by have:n<=i:=hg;omega) λh' eb=>⟨M,I.turned (t':=s.toks) (λb o hb e=>eb b o hb e) f0 f1 f3 f4 f5⟩
 self:=λ_ _ _ _ _ st h=>wpAny_pyIter_rangeiter st h
section
variable {X:Cx}{tg:Expr}
theorem M7 {vy:jcO}{U:St}{H:Hp}{s:Shared}{R:It->Hp->Prop}{E:jcP}{lo hi:Int}{t u v:Tok}{tk:Nat}(I:Inv X vy U H s)(h1:-(2 ^ 62)<=lo)(h2:lo<2 ^ 62)(h3:-(2 ^ 62)<=hi)(h4:hi<2 ^ 62)
  (q:R (Itr lo (hi - lo).toNat) H):wpAny (model X.prog X.w) X.A (pyIter (.ref s.heap.objs.size)) (PIE X vy U tg R) E {s with heap:=s.heap.push {cls:=.type "range",data:=.fields #[.int lo t,.int hi u,.int 1 v] },toks:=tk }:=by
 refine wpAny_pyIter_range (IsRange.new ..) (small_one h1 h2 h3 h4) ?_;have I1:Inv X vy U H {s with heap:=s.heap.push {cls:=.type "range",data:=.fields #[.int lo t,.int hi u,.int 1 v] },toks:=tk }:=I.kept λb o e=>jan _ e;refine⟨(s.heap.push {cls:=.type "range",data:=.fields #[.int lo t,.int hi u,.int 1 v] }).objs.size,[(s.heap.push {cls:=.type "range",data:=.fields #[.int lo t,.int hi u,.int 1 v] }).objs.size],_,_,H,M,
  I1.kept (t':=tk) λb o e=>jan _ e,GL _ lo (hi - lo).toNat,?_,λb hb=>?_,q⟩
 .have e1:lo+((0:Nat):Int)*1=lo:=by simp
  have e2:(((hi - lo).toNat:Nat):Int) - ((0:Nat):Int)=Builtin.Range.rangeSize lo hi 1:=by rw[rangeSize_one];split<;>omega
  show IsRangeIter _ _ (lo+((0:Nat):Int)*1) ((((hi - lo).toNat:Nat):Int) - ((0:Nat):Int)) 1;rw[e1,e2];exact jaz _ rfl
 .have e:b=(s.heap.push {cls:=.type "range",data:=.fields #[.int lo t,.int hi u,.int 1 v] }).objs.size:=by simpa using hb
  subst e;exact I1.OF (jal _) (I1.hok.fresh (jal _))
def Z0 (ta:TA):TI:=λU H R=>ta U H λvs H1=>∃j:Int,vs=[.int j]/\-(2 ^ 62)<=j/\j<2 ^ 62/\R (Itr 0 j.toNat) H1
theorem K2 {a:Expr}{ta:TA}{p pos:Pos}(hg:Gl X "range")(hm:X.mg "range"=none)(ha:PA X [a] ta)(hs:autoParam (starEach [a] X.env=[(false,eval a X.env)]) zi):PI X tg (.Call (.Name "range" p) [a] [] pos) (Z0 ta):=by
 intro vy s U H R I h;refine Call_ (uV I hg hm boot_range (jcx (ez (ha pos vy s U H _ I h) λus s1 ⟨vs,H1,I1,r1,q1⟩=>?_) hs M));obtain⟨j,e,q1,q2,q⟩:=q1;subst e;cases r1 with
 |cons r rr=>
  cases rr;obtain⟨t,rfl⟩:=r;exact call_range_1 (M7 I1 (by omega) (by omega) q1 q2 (by simpa using q))
def a1S (wi:TI)(g:TG)(tb:TS):TS:=λD U H=>wi U H λJ H1=>∃W:Nat->Nat->St->Hp->Prop,(∃m,W 0 m U H1)/\∀i m U H,W i m U H->
 (J.stop i H/\D.nx U H)\/(J.go i H/\∃N:St->Hp->Prop,(∀U' H',N U' H'->∃m',m' < m/\W (i+1) m' U' H')/\∀x H',J.KI i H x H'->g x U H' λU2 H2=>tb {D with nx:=N,ct:=N,bk:=D.nx } U2 H2)
noncomputable def yx (fp:jcT)(h:Heap):jcO:=fp.filterMap λb=>(h.get? b).map λo=>(b,o)
theorem nR {fp:jcT}{h:Heap}{b:Addr}{o:Obj}(hb:b∈fp)(e:h.get? b=some o):(b,o)∈yx fp h:=List.mem_filterMap.mpr ⟨b,hb,by rw[e];rfl⟩
theorem Lg {fp:jcT}{h:Heap}{p:Addr×Obj}(hp:p∈yx fp h):p.1∈fp/\h.get? p.1=some p.2:=by
 obtain⟨b,hb,e⟩:=List.mem_filterMap.mp hp;cases q:h.get? b with
 |none=>rw[q] at e;cases e
 |some o=>
  rw[q] at e;have e':(b,o)=p:=ja2 e;subst e';exact⟨hb,q⟩
theorem Inv.pinned {vy:jcO}{U:St}{H:Hp}{s:Shared}{fp:jcT}(I:Inv X vy U H s)(hf:∀b∈fp,l7 X vy H b)(ho:∀b∈fp,∃o,s.heap.get? b=some o/\∀v,o.data≠.cell v):Inv X (vy++yx fp s.heap) U H s:=
 I.xo λp hp=>(jau.mp hp).elim (λz=>I.pin p (jaW _ z)) λz=>by
  obtain⟨hb,e⟩:=Lg z;obtain⟨f0,f1,f2,_⟩:=hf p.1 hb;obtain⟨o,e',d⟩:=ho p.1 hb;rw[e] at e';cases e';exact⟨e,f0,f1,f2,d⟩
theorem Inv.sM {vy pl:jcO}{U:St}{H:Hp}{s:Shared}(I:Inv X (vy++pl) U H s):Inv X vy U H s:=I.xo λp hp=>I.pin p (jaW _ (jaP _ hp))
theorem VO {iter:Expr}{body:List Stmt}{wi:TI}{g:TG}{tb:TS}{pos:Pos}(hp:PassesOwn (model X.prog X.w) X.A X.env X.xe)(hc:X.calm=true)(hi:PI X tg iter wi)(hg:PG X tg g)(hb:bF X body tb)
  (hs:autoParam (∀x,foldedSetIterable iter X.env x=pure x) zt):PS X (.For tg iter body [] pos) (a1S wi g tb):=by
 intro vy s U H D I h;refine wpAny_For (ez (hi vy s U H _ I h) λv s1 h1=>ez h1 λitv s2 h2=>?_) hs;obtain⟨it,fp,tn,J,H2,e,I2,T,st2,f2,W,⟨m0,w0⟩,turn⟩:=h2;subst e;have U7:∀{H':Hp},(∀b∈fp,H' b=none)->∀b∈fp,l7 X vy H' b:=λhn b hb=>⟨hn b hb,(f2 b hb).2⟩
 refine codeAny_forLoop_any (λn s'=>∃i U' H',Inv X vy U' H' s'/\tn i s'.heap/\(∀b∈fp,H' b=none)/\W i n U' H') ?_ m0 ⟨0,U,H2,I2,st2,λb hb=>(f2 b hb).1,w0⟩;rintro n s3 ⟨i,σ3,H3,I3,st3,fr3,w3⟩;rcases turn i n σ3 H3 w3 with⟨stop,qn⟩ | ⟨go,N,hN,step⟩
 .refine jcw hp (ez (T.done X rfl rfl rfl hc i vy s3 σ3 H3 X.xe I3 (U7 fr3) st3 stop) ?_);rintro r s4 ⟨hr,I4⟩;subst hr;exact wpAny_execs_nil ⟨σ3,H3,I4,qn⟩
 .refine jcw hp (ez (T.item X rfl rfl rfl hc i vy s3 σ3 H3 X.xe I3 (U7 fr3) st3 go) ?_);rintro r s4 ⟨u,hr,h4⟩;subst hr;refine jcw hp (ez h4 ?_);rintro _ s5 ⟨x,H5,I5,r5,y5,st5,fr5⟩;have I5':=I5.pinned (U7 fr5) (T.obj _ _ st5);refine jcw hp (ez (hg _ s5 σ3 H5 x u _ I5' r5 (step x H5 y5)) ?_);rintro _ s6 ⟨σ6,H6,I6,q6⟩;refine jcw hp (ez (hb _ s6 σ6 H6 _ I6 q6) λf s7 q7=>?_);have again:∀{σ7:St}{H7:Hp},Inv X (vy++yx fp s5.heap) σ7 H7 s7->N σ7 H7->∃m,m<n/\∃i U' H',Inv X vy U' H' s7/\tn i s7.heap/\(∀b∈fp,H' b=none)/\W i m U' H':=λ{σ7 H7} I7 n7=>by
   obtain⟨m',hm,w7⟩:=hN σ7 H7 n7;refine⟨m',hm,i+1,σ7,H7,I7.sM,T.keep _ _ _ st5 λb hb o e=>(I7.pin (b,o) (jaW _ (jaW _ (nR hb e)))).1,λb hb=>?_,w7⟩;obtain⟨o,e,d⟩:=T.obj _ _ st5 b hb;exact(I7.pin (b,o) (jaW _ (jaW _ (nR hb e)))).2.1
  cases f with
  |next=>obtain⟨σ7,H7,I7,n7⟩:=q7;exact again I7 n7
  |cont=>obtain⟨σ7,H7,I7,n7⟩:=q7;exact again I7 n7
  |brk=>obtain⟨σ7,H7,I7,q7⟩:=q7;exact⟨σ7,H7,I7.sM,q7⟩
  |ret v=>obtain⟨x7,σ7,H7,I7,r7,q7⟩:=q7;exact⟨x7,σ7,H7,I7.sM,r7,q7⟩
end
abbrev R2:=V->V->Hp->VK->Prop
def n5 (X:Cx)(f:Value->Value->Sem Value)(r:R2):Prop:=
 ∀(vy:jcO) (s:Shared) (U:St) (H:Hp) (x y:V) (v u:Value) (Q:VK),Inv X vy U H s->RelV x v->RelV y u->r x y H Q->
  wpAny (model X.prog X.w) X.A (f v u) (EP X vy U Q) X.xe s
def UnR (X:Cx)(f:Value->Sem Value)(r:V->Hp->VK->Prop):Prop:=
 ∀(vy:jcO) (s:Shared) (U:St) (H:Hp) (x:V) (v:Value) (Q:VK),Inv X vy U H s->RelV x v->r x H Q->
  wpAny (model X.prog X.w) X.A (f v) (EP X vy U Q) X.xe s
def fm (X:Cx)(f:Value)(r:List V->Hp->VK->Prop):Prop:=
 ∀(vy:jcO) (s:Shared) (U:St) (H:Hp) (xs:List V) (us:jcS) (Q:VK),Inv X vy U H s->Vals xs us->r xs H Q->
  wpAny (model X.prog X.w) X.A (call f us) (EP X vy U Q) X.xe s
def Yx (r:R2)(ta tb:TE):TE:=λU H Q=>ta U H λx H1=>tb U H1 λy H2=>r x y H2 Q
def tUn (r:V->Hp->VK->Prop)(ta:TE):TE:=λU H Q=>ta U H λx H1=>r x H1 Q
def rI (C:Int->Int->Prop)(g:Int->Int->V):R2:=λx y H Q=>∃i j,x=.int i/\y=.int j/\C i j/\Q (g i j) H
def Vp (g:Int->Int->V):R2:=λx y H Q=>∃i j,x=.int i/\y=.int j/\Q (g i j) H
noncomputable def rU (g:Int->V):V->Hp->VK->Prop:=λx H Q=>∃i,x=.int i/\Q (g i) H
section
variable {X:Cx}{a b c:Expr}{ta tb tc:TE}{pos:Pos}
theorem Xx (ha:PE X a ta)(hb:PE X b tb){vy:jcO}{s:Shared}{U:St}{H:Hp}{R:V->V->Hp->Prop}(I:Inv X vy U H s)
  (h:ta U H λx H1=>tb U H1 λy H2=>R x y H2) {Q:jcP} {f:Value->Value->Sem Value}
  (hf:∀v u s2 x y H2,Inv X vy U H2 s2->RelV x v->RelV y u->R x y H2->wpAny (model X.prog X.w) X.A (f v u) Q X.xe s2) :
  wpAny (model X.prog X.w) X.A (eval a X.env) (λv s₁=>wpAny (model X.prog X.w) X.A (eval b X.env) (λu s₂=>wpAny (model X.prog X.w) X.A (f v u) Q X.xe s₂) X.xe s₁) X.xe s:=by
 refine ez (ha vy s U H _ I h) ?_;rintro v s1 ⟨x,H1,I1,r1,q1⟩;refine ez (hb vy s1 U H1 _ I1 q1) ?_;rintro u s2 ⟨y,H2,I2,r2,q2⟩;exact hf v u s2 x y H2 I2 r1 r2 q2
theorem T6 {op:Operator}{r:R2}(ho:n5 X (binaryOp op) r)(ha:PE X a ta)(hb:PE X b tb):PE X (.BinOp a op b pos) (Yx r ta tb):=by
 intro vy s U H Q I h;exact wpAny_BinOp (Xx ha hb I h λv u s2 x y H2 I2 rx ry q=>ho vy s2 U H2 x y v u Q I2 rx ry q)
theorem Zl {op:UnaryOp}{r:V->Hp->VK->Prop}(ho:UnR X (unaryOp op) r)(ha:PE X a ta):PE X (.UnaryOp op a pos) (tUn r ta):=by
 intro vy s U H Q I h;exact UnaryOp_ (ez (ha vy s U H _ I h) (by rintro v s1 ⟨x,H1,I1,r1,q1⟩;exact ho vy s1 U H1 x v Q I1 r1 q1))
theorem opI {f:Value->Value->Sem Value}{C:Int->Int->Prop}{g:Int->Int->Int}
  (rule:∀(i j:Int)(t u:Tok)(s:Shared)(Q:jcP)(E:jcP),C i j->Q (.int (g i j) s.toks) {s with toks:=s.toks+1 }->wpAny (model X.prog X.w) X.A (f (.int i t) (.int j u)) Q E s) :
  n5 X f (rI C λi j=>.int (g i j)):=by
 intro vy s U H x y v u Q I rx ry h;obtain⟨i,j,rfl,rfl,hc,q⟩:=h;obtain⟨t,rfl⟩:=rx;obtain⟨t',rfl⟩:=ry;exact rule i j t t' s _ _ hc ⟨.int (g i j),H,I.tok _,⟨_,M⟩,q⟩
theorem Zu {f:Value->Value->Sem Value}{g:Int->Int->Int}
  (rule:∀(i j:Int)(t u:Tok)(s:Shared)(Q:jcP)(E:jcP),Q (.int (g i j) s.toks) {s with toks:=s.toks+1 }->wpAny (model X.prog X.w) X.A (f (.int i t) (.int j u)) Q E s) :
  n5 X f (Vp λi j=>.int (g i j)):=by
 intro vy s U H x y v u Q I rx ry h;obtain⟨i,j,rfl,rfl,q⟩:=h;obtain⟨t,rfl⟩:=rx;obtain⟨t',rfl⟩:=ry;exact rule i j t t' s _ _ ⟨.int (g i j),H,I.tok _,⟨_,M⟩,q⟩
theorem Zv {f:Value->Value->Sem Value}{g:Int->Int->Bool}
  (rule:∀(i j:Int)(t u:Tok)(s:Shared)(Q:jcP)(E:jcP),Q (.bool (g i j)) s->wpAny (model X.prog X.w) X.A (f (.int i t) (.int j u)) Q E s) :
  n5 X f (Vp λi j=>.bl (g i j)):=by
 intro vy s U H x y v u Q I rx ry h;obtain⟨i,j,rfl,rfl,q⟩:=h;obtain⟨t,rfl⟩:=rx;obtain⟨t',rfl⟩:=ry;exact rule i j t t' s _ _ ⟨.bl (g i j),H,I,M,q⟩
def a0X (i j:Int):Prop:=0<j/\j<1073741824
def SX (i j:Int):Prop:=(-(2 ^ 64)<i/\i<2 ^ 64)\/(-(2 ^ 64)<j/\j<2 ^ 64)
theorem SX.ok {i j:Int}(h:SX i j):IntMulOk i j:=by
 rcases h with⟨h1,h2⟩ | ⟨h1,h2⟩
 .exact .of_left (intBits_le_64 h1 h2)
 .exact .of_right (intBits_le_64 h1 h2)
theorem V9:n5 X (binaryOp .Add) (Vp λi j=>.int (i+j)):=Zu λ_ _ _ _ _ _ _ q=>add_int q
theorem V2:n5 X (binaryOp .Sub) (Vp λi j=>.int (i - j)):=Zu λ_ _ _ _ _ _ _ q=>sub_int q
theorem V5:n5 X (binaryOp .Mult) (rI SX λi j=>.int (i*j)):=opI λ_ _ _ _ _ _ _ hc q=>mul_int q hc.ok
theorem Rx:n5 X (binaryOp .FloorDiv) (rI a0X λi j=>.int (i / j)):=opI λi j _ _ _ _ _ hc q=>by
 have h1:(0:Int)<j:=hc.1;have h2:j<1073741824:=hc.2;exact floordiv_int (by omega) (by rw[Int.fdiv_eq_ediv_of_nonneg i (by omega)];exact q) (.inl (PyProof.noPylong_small (by omega)))
theorem V6:n5 X (binaryOp .Mod) (rI (λ_ j=>0<j) λi j=>.int (i % j)):=opI λi j _ _ _ _ _ hc q=>by
 have h1:(0:Int)<j:=hc;exact mod_int' (by omega) (by rw[Int.fmod_eq_emod_of_nonneg i (by omega)];exact q)
theorem unI {f:Value->Sem Value}{g:Int->Int}
  (rule:∀(i:Int)(t:Tok)(s:Shared)(Q:jcP)(E:jcP),Q (.int (g i) s.toks) {s with toks:=s.toks+1 }->wpAny (model X.prog X.w) X.A (f (.int i t)) Q E s) :
  UnR X f (rU λi=>.int (g i)):=by
 intro vy s U H x v Q I rx h;obtain⟨i,rfl,q⟩:=h;obtain⟨t,rfl⟩:=rx;exact rule i t s _ _ ⟨.int (g i),H,I.tok _,⟨_,M⟩,q⟩
theorem UT:UnR X (unaryOp .USub) (rU λi=>.int (-i)):=unI λ_ _ _ _ _ q=>neg_int q
end
noncomputable def QC:V->V->Bool
 |.eN,.eN=>true | .eN,.int _=>true | .int _,.eN=>true | .eN,.bl _=>true | .bl _,.eN=>true | .eN,.str _=>true | .str _,.eN=>true
 |.int _,.int _=>true | .bl _,.bl _=>true | .str _,.str _=>true | .L8 _,.L8 _=>true
 |.int _,.str _=>true | .str _,.int _=>true | .bl _,.str _=>true | .str _,.bl _=>true
 |_,_=>false
def rEq:R2:=λx y H Q=>QC x y=true/\Q (.bl (decide (x=y))) H
def rNe:R2:=λx y H Q=>QC x y=true/\Q (.bl (!decide (x=y))) H
theorem Ka {i j:Int}:decide (V.int i=V.int j)=(i==j):=by
 rw[Bool.eq_iff_iff];simp
theorem OX {i j:Bool}:decide (V.bl i=V.bl j)=(i==j):=by
 rw[Bool.eq_iff_iff];simp
theorem J9 {i j:Str}:decide (V.str i=V.str j)=(i==j):=by
 rw[Bool.eq_iff_iff];simp
theorem Kd {i j:Array UInt8}:decide (V.L8 i=V.L8 j)=(i.toList==j.toList):=by
 rw[Bool.eq_iff_iff];cases i;cases j;simp
section
variable {X:Cx}{a b c:Expr}{ta tb tc:TE}{pos:Pos}
theorem bP {vy:jcO}{U:St}{H:Hp}{s:Shared}{Q:VK}{k k':Bool}(I:Inv X vy U H s)(q:Q (.bl k) H)(e:k=k'):EP X vy U Q (.bool k') s:=by
 subst e;exact⟨.bl k,H,I,M,q⟩
theorem Zt:n5 X (compareOp .Eq) rEq:=by
 intro vy s U H x y v u Q I rx ry h;obtain⟨hs,q⟩:=h;cases x with
 |eN=>
  cases rx;cases y with
  |eN=>cases ry;exact PySem.EqNone.eq_none_none (bP I q (by simp))
  |bl j=>cases ry;exact PySem.EqNone.eq_none_bool (bP I q (by simp))
  |int j=>obtain⟨t',rfl⟩:=ry;exact PySem.EqNone.eq_none_int (bP I q (by simp))
  |str j=>obtain⟨t',rfl⟩:=ry;exact PySem.EqNone.eq_none_str (bP I q (by simp))
  |_=>exact absurd (show false=true from hs) jaL
 |bl i=>
  cases rx;cases y with
  |eN=>cases ry;exact PySem.EqNone.eq_bool_none (bP I q (by simp))
  |bl j=>cases ry;exact eq_bool (bP I q OX)
  |str j=>obtain⟨t',rfl⟩:=ry;exact PySem.EqMixed.eq_bool_str (bP I q (by simp))
  |_=>exact absurd (show false=true from hs) jaL
 |int i=>
  obtain⟨t,rfl⟩:=rx;cases y with
  |eN=>cases ry;exact PySem.EqNone.eq_int_none (bP I q (by simp))
  |int j=>obtain⟨t',rfl⟩:=ry;exact eq_int (bP I q Ka)
  |str j=>obtain⟨t',rfl⟩:=ry;exact PySem.EqMixed.eq_int_str (bP I q (by simp))
  |_=>exact absurd (show false=true from hs) jaL
 |str i=>
  obtain⟨t,rfl⟩:=rx;cases y with
  |eN=>cases ry;exact PySem.EqNone.eq_str_none (bP I q (by simp))
  |bl j=>cases ry;exact PySem.EqMixed.eq_str_bool (bP I q (by simp))
  |int j=>obtain⟨t',rfl⟩:=ry;exact PySem.EqMixed.eq_str_int (bP I q (by simp))
  |str j=>obtain⟨t',rfl⟩:=ry;exact eq_str (bP I q J9)
  |_=>exact absurd (show false=true from hs) jaL
 |L8 i=>
  obtain⟨t,rfl⟩:=rx;cases y with
  |L8 j=>obtain⟨t',rfl⟩:=ry;exact PySem.W.eq_bytes (bP I q Kd)
  |_=>exact absurd (show false=true from hs) jaL
 |_=>cases y<;>exact absurd (show false=true from hs) jaL
theorem Zq:n5 X (compareOp .NotEq) rNe:=by
 intro vy s U H x y v u Q I rx ry h;obtain⟨hs,q⟩:=h;cases x with
 |eN=>
  cases rx;cases y with
  |eN=>cases ry;exact PySem.EqNone.ne_none_none (bP I q (by simp))
  |bl j=>cases ry;exact PySem.EqNone.ne_none_bool (bP I q (by simp))
  |int j=>obtain⟨t',rfl⟩:=ry;exact PySem.EqNone.ne_none_int (bP I q (by simp))
  |str j=>obtain⟨t',rfl⟩:=ry;exact PySem.EqNone.ne_none_str (bP I q (by simp))
  |_=>exact absurd (show false=true from hs) jaL
 |bl i=>
  cases rx;cases y with
  |eN=>cases ry;exact PySem.EqNone.ne_bool_none (bP I q (by simp))
  |bl j=>cases ry;exact ne_bool (bP I q (jah not OX))
  |str j=>obtain⟨t',rfl⟩:=ry;exact PySem.EqMixed.ne_bool_str (bP I q (by simp))
  |_=>exact absurd (show false=true from hs) jaL
 |int i=>
  obtain⟨t,rfl⟩:=rx;cases y with
  |eN=>cases ry;exact PySem.EqNone.ne_int_none (bP I q (by simp))
  |int j=>obtain⟨t',rfl⟩:=ry;exact ne_int (bP I q (jah not Ka))
  |str j=>obtain⟨t',rfl⟩:=ry;exact PySem.EqMixed.ne_int_str (bP I q (by simp))
  |_=>exact absurd (show false=true from hs) jaL
 |str i=>
  obtain⟨t,rfl⟩:=rx;cases y with
  |eN=>cases ry;exact PySem.EqNone.ne_str_none (bP I q (by simp))
  |bl j=>cases ry;exact PySem.EqMixed.ne_str_bool (bP I q (by simp))
  |int j=>obtain⟨t',rfl⟩:=ry;exact PySem.EqMixed.ne_str_int (bP I q (by simp))
  |str j=>obtain⟨t',rfl⟩:=ry;exact ne_str (bP I q (jah not J9))
  |_=>exact absurd (show false=true from hs) jaL
 |L8 i=>
  obtain⟨t,rfl⟩:=rx;cases y with
  |L8 j=>obtain⟨t',rfl⟩:=ry;exact PySem.W.ne_bytes (bP I q (jah not Kd))
  |_=>exact absurd (show false=true from hs) jaL
 |_=>cases y<;>exact absurd (show false=true from hs) jaL
theorem Zr:n5 X (compareOp .Lt) (Vp λi j=>.bl (decide (i<j))):=Zv λ_ _ _ _ _ _ _ q=>lt_int q
theorem Zs:n5 X (compareOp .Gt) (Vp λi j=>.bl (decide (j<i))):=Zv λ_ _ _ _ _ _ _ q=>gt_int q
theorem n5.or {f:Value->Value->Sem Value}{r r':R2}(h:n5 X f r)(h':n5 X f r'):n5 X f (λx y H Q=>r x y H Q\/r' x y H Q):=by
 intro vy s U H x y v u Q I rx ry q;rcases q with q | q
 .exact h vy s U H x y v u Q I rx ry q
 .exact h' vy s U H x y v u Q I rx ry q
theorem aF (b:Expr){op:CmpOp}(h:autoParam (op≠.In) zn)(h2:autoParam (op≠.NotIn) zn):behindInMarks op b=false:=by
 have e1:(op==CmpOp.In)=false:=by cases op<;>first | rfl | exact absurd rfl h
 have e2:(op==CmpOp.NotIn)=false:=by cases op<;>first | rfl | exact absurd rfl h2
 cases b<;>simp[behindInMarks,e1,e2]
theorem Rr {op:CmpOp}{r:R2}(ho:n5 X (compareOp op) r)(ha:PE X a ta)(hb:PE X b tb)(hm:behindInMarks op b=false):PE X (.Compare a [op] [b] pos) (Yx r ta tb):=by
 intro vy s U H Q I h;exact wpAny_Compare1 (Xx ha hb I h λv u s2 x y H2 I2 rx ry q=>ho vy s2 U H2 x y v u Q I2 rx ry q) hm
def S9 (t:TE):TT:=λU H Q=>t U H λx H'=>∃k,x=.bl k/\Q k H'
theorem Q9 {op:CmpOp}{r:R2}(ho:n5 X (compareOp op) r)(ha:PE X a ta)(hb:PE X b tb)(hm:behindInMarks op b=false):PT X (.Compare a [op] [b] pos) (S9 (Yx r ta tb)):=by
 intro vy s U H Q I h;refine wpAny_isTrue_Compare1 (ez (ha vy s U H _ I h) λv s1 ⟨x,H1,I1,r1,q1⟩=>ez (hb vy s1 U H1 _ I1 q1) λu s2 ⟨y,H2,I2,r2,q2⟩=>
  ez (ho vy s2 U H2 x y v u _ I2 r1 r2 q2) λc s3 ⟨z,H3,I3,r3,k,e,q3⟩=>?_) hm
 subst e;cases r3;exact wpAny_truthy_bool ⟨H3,I3,q3⟩
theorem pe:(sizeLine:Nat)<2 ^ 63:=by rw[ja7];decide
theorem Hj:n5 X (binaryOp .Add) (λx y H Q=>∃i j,x=.str i/\y=.str j/\i.length+j.length<=sizeLine/\Q (.str (i++j)) H):=by
 intro vy s U H x y v u Q I rx ry h;obtain⟨i,j,rfl,rfl,hz,q⟩:=h;obtain⟨t,rfl⟩:=rx;obtain⟨t',rfl⟩:=ry;exact add_str (λt' tk=>⟨.str (i++j),H,I.tok _,⟨_,M⟩,q⟩) hz
theorem vals1 {x:V}{us:jcS}(r:Vals [x] us):∃u,us=[u]/\RelV x u:=by
 cases r with
 |cons r1 r2=>cases r2;exact⟨_,M,r1⟩
theorem vals2 {x y:V}{us:jcS}(r:Vals [x,y] us):∃u w',us=[u,w']/\RelV x u/\RelV y w':=by
 cases r with
 |cons r1 r2=>
  cases r2 with
  |cons r3 r4=>cases r4;exact⟨_,_,M,r1,r3⟩
theorem LJ:fm X (.type "int") (λxs H Q=>(∃i,xs=[.int i]/\Q (.int i) H)\/∃k,xs=[.bl k]/\Q (.int (if k then 1 else 0)) H):=by
 intro vy s U H xs us Q I r h;rcases h with⟨i,rfl,q⟩ | ⟨k,rfl,q⟩
 .obtain⟨u,rfl,t,rfl⟩:=vals1 r;exact call_int_int ⟨.int i,H,I,⟨_,M⟩,q⟩
 .obtain⟨u,rfl,r1⟩:=vals1 r;cases r1;exact call_int_bool ⟨.int (if k then 1 else 0),H,I.tok _,⟨_,M⟩,q⟩
theorem Dv:fm X (.type "str") (λxs H Q=>∃i,xs=[.int i]/\i.natAbs.log2<1920/\Q (.str (toString i)) H):=by
 intro vy s U H xs us Q I r h;obtain⟨i,rfl,hz,q⟩:=h;obtain⟨u,rfl,t,rfl⟩:=vals1 r;exact PySem.P.str_of_int hz ⟨.str _,H,I.tok _,⟨_,M⟩,q⟩
end
structure IA (h:Heap)(x dx C:Addr)(mA:Str->Option Value):Prop where
 obj:h.get? x=some (instObj C dx)
 ns:h.Ns1 dx mA
 ne:dx≠x
theorem Lm {h:Heap}{dx:Addr}{mA:Str->jcW}(n:h.Ns1 dx mA):∃od,h.get? dx=some od/\∀name,lookIn name od=some (mA name):=by
 obtain⟨o,es,ep,ho,hd,hk,_,hm⟩:=n;refine⟨o,ho,λname=>?_⟩;have e:=hm name;unfold nsFind findBy at e;rw[<- Array.find?_toList] at e;unfold lookIn;rw[hd];dsimp only;split
 .rename_i y q;rw[q] at e;exact jah some e
 .rename_i q;rw[q] at e;have a:es.toList.any (·.refKey)=false:=by
   rw[List.any_eq_false];intro y hy;obtain⟨z,t,hkey⟩:=hk y (Array.mem_toList_iff.mp hy);simp[DictEntry.refKey,hkey]
  have a':¬ es.toList.any (·.refKey)=true:=by rw[a];exact jaL
  rw[jad a'];exact jah some e
theorem IA.look {h:Heap}{x dx C:Addr}{mA:Str->jcW}(I:IA h x dx C mA):∃od,PySem.W.InstAt h x (instObj C dx) C (some od)/\∀name,lookIn name od=some (mA name):=
 let⟨od,ho,hl⟩:=Lm I.ns
 ⟨od,⟨I.obj,M,M,ho⟩,hl⟩
section
variable {prog:Program}{w:World}{A:Around}{E:jcP}{s:Shared}{K:Frag}{x dx C f:Addr}{mA:Str->jcW}{name:Str}{v:Value}
theorem get_map {expr:Bool}{Q:jcP}(X:K.In s.heap)(I:IA s.heap x dx C mA)(hg:plainGet K C name=true)(hh:hasDictIn K C=true)
  (ha:findIn K (.ref C) name=some none) (hv:mA name=some v) (hv':handedIn v=true) (h:Q v {s with toks:=s.toks+1 }) :
  wpAny (model prog w) A (getAttr (.ref x) name expr) Q E s:=by
 obtain⟨od,J,hl⟩:=I.look;exact PySem.W.get_value X J (plainGet_of hg).1 (PySem.W.findObj_own hh ha rfl (by rw[hl,hv])) hv' h
theorem Oz {pl:Sem Bool}{Q:Value×jcS->Shared->Prop}(X:K.In s.heap)(I:IA s.heap x dx C mA)(hg:plainGet K C name=true)
  (hf:findIn K (.ref C) name=some (some (.ref f))) (ht:isFn K (.ref f)=true) (hv:mA name=none) (h:Q (.ref f,[.ref x]) s) :
  wpAny (model prog w) A (getMethod (.ref x) name pl) Q E s:=by
 obtain⟨od,J,hl⟩:=I.look;exact PySem.W.method_fn X J (plainGet_of hg).1 (plainGet_of hg).2 hf (ja1.mp ht) (by show(lookIn name od).map (·.isSome)=some false;rw[hl,hv];rfl) h
theorem Qz {ns:jcR}{Q:Unit->Shared->Prop}(X:K.In s.heap)(I:IA s.heap x dx C mA)
  (hs:findIn K (.ref C) "__setattr__"=some (some (.builtin "object.__setattr__"))) (hp:plainOver K C=true) (ht:takerIn K C name=some none) (hh:hasDictIn K C=true)
  (hw:PySem.Within mA ns) (hsz:ns.length<=sizeLine)
  (h:∀h',IA h' x dx C (λy=>if y=name then some v else mA y)->Heap.SameBut dx s.heap h'->Q () {s with heap:=h',toks:=s.toks+2 }) :
  wpAny (model prog w) A (setAttr (.ref x) name v) Q E s:=by
 obtain⟨od,J,hl⟩:=I.look;refine PySem.W.set_plain X J hs (PySem.W.osa_open (s:={s with toks:=s.toks+1 }) (r:=none) X J hp ht λb=>?_);obtain⟨cd,hc,hd'⟩:=PySem.W.any_some hh;have hx:s.heap.get? x=some ⟨.ref C,some dx,.plain,#[]⟩:=I.obj;refine jaa (jac (jaa (jaa (wpAny_loadPart hx (jaa (PySem.W.Looks.here (s:={s with toks:=s.toks+1 }) (PySem.W.looks_clsIn X hc) ?_))))));rw[hd'];refine jac (a:=some dx) (jaa (jac (jaa ?_)));refine wpAny_nsSet1 (s:={s with toks:=s.toks+1 }) I.ns λh' hn2 hs2=>?_;obtain⟨oD,esD,epD,hoD,hdD,hcD⟩:=hn2.count (PySem.Within.cons name v hw);refine jaa (wpAny_lookBehind hoD (by rw[hdD];exact pastItsLine_dict (jaR hcD (by rw[jaj];omega))) ?_);exact jac (h _ ⟨(hs2.2 _ (jaO I.ne)).trans I.obj,hn2,I.ne⟩ hs2)
theorem NX {R:Result->Shared->Prop}{vs:jcS}{kw:List (Str×Value)}(X:K.In s.heap)(hm:makesIn K C=true)
  (hi:findIn K (.ref C) "__init__"=some (some (.ref f))) (hf:PySem.W.typeIn K (.ref f)=some (.type "function"))
  (h:codeAny (model prog w) (A.under (.builtin "type.__call__" ⟨.ref C::vs,kw⟩)) (.call (.ref f) ⟨.ref (s.heap.objs.size+1)::vs,kw⟩) (PySem.W.InitBack (s.heap.objs.size+1) R)
   {s with heap:=(s.heap.push emptyDict).push (instObj C s.heap.objs.size) }) :
  codeAny (model prog w) A (.call (.ref C) ⟨vs,kw⟩) R s:=by
 obtain⟨hh,g,d,t,os⟩:=s;exact PySem.W.make_core (PySem.W.makes_of X hm) (PySem.W.looks_findIn X hi) (λself=>PySem.W.bind_fn X self hf) (.inl M) h
end
noncomputable def oE (f:Str)(v:V):List (Str×V)->List (Str×V)
 |[]=>[(f,v)]
 |(g,x)::r=>if g=f then(g,v)::r else(g,x)::oE f v r
theorem vI (f g:Str)(v:V):∀fs:List (Str×V),(oE f v fs).lookup g=if g=f then some v else fs.lookup g
 |[]=>by
  show List.lookup g [(f,v)]=_;by_cases h:g=f
  .have hb:(g==f)=true:=ja1.mpr h;simp only[List.lookup,hb,jae h]
  .have hb:(g==f)=false:=jbv.mpr h;simp only[List.lookup,hb,jad h]
 |(k,x)::r=>by
  have ih:=vI f g v r;rw[show oE f v ((k,x)::r)=(if k=f then(k,v)::r else(k,x)::oE f v r) from rfl];by_cases hk:k=f
  .rw[jae hk];by_cases h:g=k
   .have hb:(g==k)=true:=ja1.mpr h;simp only[List.lookup,hb,jae (h.trans hk)]
   .have hb:(g==k)=false:=jbv.mpr h;simp only[List.lookup,hb,jad (λe:g=f=>h (e.trans hk.symm))]
  .rw[jad hk];by_cases h:g=k
   .have hb:(g==k)=true:=ja1.mpr h;simp only[List.lookup,hb,jad (λe:g=f=>hk (h.symm.trans e))]
   .have hb:(g==k)=false:=jbv.mpr h;simp only[List.lookup,hb];exact ih
theorem uW (f:Str)(v:V):∀fs:List (Str×V),f∈(oE f v fs).map (·.1)/\∀g,g∈fs.map (·.1)->g∈(oE f v fs).map (·.1)
 |[]=>⟨by simp[oE],λg h=>by simp at h⟩
 |(k,x)::r=>by
  obtain⟨i1,i2⟩:=uW f v r;rw[show oE f v ((k,x)::r)=(if k=f then(k,v)::r else(k,x)::oE f v r) from rfl];by_cases hk:k=f
  .rw[jae hk];subst hk;exact⟨by simp,λg h=>by simpa using h⟩
  .rw[jad hk];refine⟨?_,λg h=>?_⟩
   .rw[jax];exact jav _ i1
   .rw[jax] at h ⊢;rcases jag.mp h with e | e
    .exact jag.mpr (.inl e)
    .exact jav _ (i2 g e)
theorem vK (f:Str)(v:V):∀fs:List (Str×V),(oE f v fs).length<=fs.length+1
 |[]=>by simp[oE]
 |(k,x)::r=>by
  have ih:=vK f v r;rw[show oE f v ((k,x)::r)=(if k=f then(k,v)::r else(k,x)::oE f v r) from rfl];by_cases hk:k=f
  .rw[jae hk,jaj,jaj];omega
  .rw[jad hk,jaj,jaj];omega
theorem oG.some_of {v:V}{o:jcW}(r:oG (some v) o):∃u,o=some u/\RelV v u:=by
 cases o with
 |none=>exact(show False from r).elim
 |some u=>exact⟨u,M,r⟩
theorem oG.none_of {o:jcW}(r:oG none o):o=none:=by
 cases o with
 |none=>rfl
 |some u=>exact(show False from r).elim
theorem Lv {v:V}{u:Value}(r:RelV v u):handedIn u=true:=by
 cases v with
 |eN=>cases(show u=Value.none from r);rfl
 |bl b=>cases(show u=Value.bool b from r);rfl
 |int i=>obtain⟨t,e⟩:=(show ∃t,u=Value.int i t from r);cases e;rfl
 |str x=>obtain⟨t,e⟩:=(show ∃t,u=Value.str x t from r);cases e;rfl
 |L8 b=>obtain⟨t,e⟩:=(show ∃t,u=Value.bytes b t from r);cases e;rfl
 |Xd b=>obtain⟨t,e⟩:=(show ∃t,u=Value.float b t from r);cases e;rfl
 |ref a=>cases(show u=Value.ref a from r);rfl
 |ty n=>cases(show u=Value.type n from r);rfl
section
variable {P:Program}{w:World}{H H':Hp}{h h':Heap}{a C dx:Addr}{fs fs':List (Str×V)}
theorem xA (hok:sI P w H h)(e:H a=some (.ins C dx fs)):∃mA,IA h a dx C mA/\(∀f,oG (fs.lookup f) (mA f))/\PySem.Within mA (fs.map (·.1))/\fs.length<=1000/\H dx=some (.own a):=by
 obtain⟨d,z,ne,ob,mA,n,r,q⟩:=(show cT P w H h a (.ins C dx fs) from hok a _ e)
 exact⟨mA,⟨ob,n,ne⟩,r,q,z,d⟩
end
structure SW (K:Frag)(C:Addr):Prop where
 pg:plainGet K C Str.empty=true
 hd:hasDictIn K C=true
 po:plainOver K C=true
 sa:findIn K (.ref C) "__setattr__"=some (some (.builtin "object.__setattr__"))
theorem SW.get {K:Frag}{C:Addr}(c:SW K C)(f:Str):plainGet K C f=true:=c.pg
def l6 (K:Frag)(C:Addr)(f:Str):Prop:=findIn K (.ref C) f=some none
theorem l6.Yv {K:Frag}{C:Addr}{f:Str}(n:l6 K C f):takerIn K C f=some none:=by
 unfold takerIn;rw[show findIn K (.ref C) f=some none from n];rfl
structure Meth (K:Frag)(C:Addr)(m:Str)(f:Addr):Prop where
 at_:findIn K (.ref C) m=some (some (.ref f))
 fn:isFn K (.ref f)=true
 kp:keepIn K (.ref f)=true
section
variable {X:Cx}{vy:jcO}{U:St}{H:Hp}{s:Shared}{a C dx:Addr}{fs:List (Str×V)}{f:Str}{v:V}{A:Around}{E:jcP}
theorem HV {b:Bool}{Q:jcP}(I:Inv X vy U H s)(e:H a=some (.ins C dx fs))(c:SW X.K C)(n:l6 X.K C f)(l:fs.lookup f=some v)
  (h:∀u s',Inv X vy U H s'->RelV v u->Q u s'):wpAny (model X.prog X.w) A (getAttr (.ref a) f b) Q E s:=by
 obtain⟨mA,O,r,_,_,_⟩:=xA I.hok e;obtain⟨u,hu,ru⟩:=oG.some_of (v:=v) (o:=mA f) (by rw[<- l];exact r f);exact get_map I.uB O (c.get f) c.hd n hu (Lv ru) (h u _ (I.tok _) ru)
theorem y9 {m:Str}{g:Addr}{pl:Sem Bool}{Q:Value×jcS->Shared->Prop}(I:Inv X vy U H s)(e:H a=some (.ins C dx fs))(c:SW X.K C)(k:Meth X.K C m g)(l:fs.lookup m=none)
  (h:Q (.ref g,[.ref a]) s):wpAny (model X.prog X.w) A (getMethod (.ref a) m pl) Q E s:=by
 obtain⟨mA,O,r,_,_,_⟩:=xA I.hok e;have hn:mA m=none:=oG.none_of (by rw[<- l];exact r m);exact Oz I.uB O (c.get m) k.at_ k.fn hn h
theorem GX {y:V}{u:Value}{Q:Unit->Shared->Prop}(I:Inv X vy U H s)(e:H a=some (.ins C dx fs))(c:SW X.K C)(n:l6 X.K C f)(hl:fs.length<1000)(ry:RelV y u)
  (h:∀s',Inv X vy U (upd H a (.ins C dx (oE f y fs))) s'->Q () s'):wpAny (model X.prog X.w) A (setAttr (.ref a) f u) Q E s:=by
 obtain⟨mA,O,r,wi,_,ho⟩:=xA I.hok e;have hz:(fs.map (·.1)).length<=sizeLine:=by rw[jab,ja7];omega
 refine Qz I.uB O c.sa c.po n.Yv c.hd wi hz λh' O' sb=>h _ ?_;have hd:∃o,h'.get? dx=some o:=let⟨o,_,_,e',_⟩:=O'.ns;⟨o,e'⟩;refine I.write (x:=a) (e:=dx) (by rw[e];exact True.intro) (.inr ho) (λb q hb z=>(sb.2 b hb).trans z) hd ?_;refine⟨by rw[aY O.ne];exact ho,?_,O.ne,O'.obj,_,O'.ns,λg=>?_,λg hg=>?_⟩
 .have:=vK f y fs;omega
 .show oG ((oE f y fs).lookup g) (if g=f then some u else mA g);rw[vI];by_cases q:g=f
  .rw[jae q,jae q];exact ry
  .rw[jad q,jad q];exact r g
 .by_cases q:g=f
  .rw[q];exact(uW f y fs).1
  .refine(uW f y fs).2 g (wi g λz=>hg ?_);show(if g=f then some u else mA g)=none;rw[jad q];exact z
theorem Inv.made (I:Inv X vy U H s):Inv X vy U (upd (upd H s.heap.objs.size (.own (s.heap.objs.size+1))) (s.heap.objs.size+1) (.ins C s.heap.objs.size []))
  {s with heap:=(s.heap.push emptyDict).push (instObj C s.heap.objs.size) }:=by
 have e1:(s.heap.push emptyDict).get? s.heap.objs.size=some emptyDict:=jaz s.heap rfl;have e2:((s.heap.push emptyDict).push (instObj C s.heap.objs.size)).get? (s.heap.objs.size+1)=some (instObj C s.heap.objs.size):=by
  have:=jaz (s.heap.push emptyDict) (o:=instObj C s.heap.objs.size) rfl;rwa[ja0] at this
 have e3:(s.heap.push emptyDict).Ns s.heap.objs.size (λ_=>none):=⟨emptyDict,#[],_,e1,M,(λe he=>absurd he (by simp)),λ_=>rfl⟩
 have I1:=I.laid (a:=s.heap.objs.size) (o:=.own (s.heap.objs.size+1)) (h':=s.heap.push emptyDict) (t':=s.toks) (λb u q=>jan _ q) (jal _) ⟨_,e1⟩;refine I1.laid (a:=s.heap.objs.size+1) (o:=.ins C s.heap.objs.size []) (t':=s.toks) (λb u q=>jan _ q) (Nat.le_of_eq (ja0 _ _)) ?_;have ne:s.heap.objs.size≠s.heap.objs.size+1:=jap (jcd _);refine⟨by rw[aY ne,fE],ja3 _,ne,e2,λ_=>none,(Heap.Ns1.of_empty e3).at λo q=>jan _ q,λ_=>True.intro,λy hy=>absurd rfl hy⟩
theorem Sz {prog:Program}{w:World}{env:Env}{e:Expr}{f:Str}{pos:Pos}{s:Shared}{Q:jcP}(hb:attributeBase e f env (eval e env)=eval e env)
  (h:wpAny (model prog w) A (eval e env) (λo s₁=>wpAny (model prog w) A (getAttr o f true) Q E s₁) E s):wpAny (model prog w) A (eval (.Attribute e f pos) env) Q E s:=
 Attribute_any_ h (by rw[arm_eval_Attribute,hb])
end
def a1T (K:Frag)(ta:TE)(f:Str):TE:=λU H Q=>ta U H λx H1=>∃a C dx fs v,x=.ref a/\H1 a=some (.ins C dx fs)/\SW K C/\l6 K C f/\fs.lookup f=some v/\Q v H1
def a10 (K:Frag)(ta tv:TE)(f:Str):TS:=λD U H=>tv U H λy H1=>ta U H1 λx H2=>∃a C dx fs,x=.ref a/\H2 a=some (.ins C dx fs)/\SW K C/\l6 K C f/\fs.length<1000/\
 D.nx U (upd H2 a (.ins C dx (oE f y fs)))
section
variable {X:Cx}{o e value:Expr}{f:Str}{pos pos' tpos:Pos}{ta tv:TE}
theorem VX (he:PE X e ta)(hb:attributeBase e f X.env (eval e X.env)=eval e X.env):PE X (.Attribute e f pos) (a1T X.K ta f):=by
 intro vy s U H Q I h;refine Sz hb (ez (he vy s U H _ I h) ?_);rintro u s1 ⟨x,H1,I1,rx,a,C,dx,fs,v,ex,ea,c,n,l,q⟩;subst ex;obtain rfl:u=Value.ref a:=rx;exact HV I1 ea c n l λu' s2 I2 ru=>⟨v,H1,I2,ru,q⟩
theorem VP (ha:PE X o ta)(hv:PE X value tv)(hs:swapsWith value (some (.Attribute o f pos')) pos.line X.env=pure false):PS X (.Assign [.Attribute o f pos'] value pos) (a10 X.K ta tv f):=by
 intro vy s U H D I h;refine plainObj_wpAny_Assign_Attribute (ez (hv vy s U H _ I h) ?_) hs;rintro u s1 ⟨y,H1,I1,ry,q⟩;refine ez (ha vy s1 U H1 _ I1 q) ?_;rintro ov s2 ⟨x,H2,I2,rx,a,C,dx,fs,ex,ea,c,n,l,q2⟩;subst ex;obtain rfl:ov=Value.ref a:=rx;exact GX I2 ea c n l ry λs3 I3=>⟨U,_,I3,q2⟩
end
section
variable {X:Cx}{vy:jcO}{U:St}{H:Hp}{s:Shared}{A:Around}{E:jcP}{Q:jcP}{c:Value}{b:Bool}
inductive ue (K:Frag) (H:Hp):V->Value->Prop where
 |eN:ue K H .eN (.type "NoneType")
 |bl (x:Bool):ue K H (.bl x) (.type "bool")
 |int (i:Int):ue K H (.int i) (.type "int")
 |str (x:Str):ue K H (.str x) (.type "str")
 |Xd (x:UInt64):ue K H (.Xd x) (.type "float")
 |lst {a:Addr} {xs:List V} (e:H a=some (.lst xs)):ue K H (.ref a) (.type "list")
 |HX {a:Addr} {o:Obj} {xs:List V} (e:H a=some (.HX o (.lst xs))):ue K H (.ref a) (.type "list")
 |tup {a:Addr} {xs:List V} (e:H a=some (.tup xs)):ue K H (.ref a) (.type "tuple")
 |dK {a:Addr} {kvs:List (Key×V)} (e:H a=some (.dK kvs)):ue K H (.ref a) (.type "dict")
 |dT {a:Addr} {kvs:List (List Key×V)} (e:H a=some (.dT kvs)):ue K H (.ref a) (.type "dict")
 |ins {a C dx:Addr} {fs:List (Str×V)} (e:H a=some (.ins C dx fs)) (cl:SW K C) (ha:findIn K (.ref C) "__class__"=some (some (.builtin "object.__class__")))
   (hn:specialIn K (.builtin "object.__class__") "__get__"=some (some (.builtin "getset_descriptor.__get__"))) (htk:takesIn K (.builtin "object.__class__")=some true)
   (hm:mroIn K C (.type "object")=some true):ue K H (.ref a) (.ref C)
theorem Lr {x:V}{u t:Value}(I:Inv X vy U H s)(rx:RelV x u)(ty:ue X.K H x t)(e:kitOne X.K t c=some b)(h:∀tk,Q (.bool b) {s with toks:=tk }) :
  wpAny (model X.prog X.w) A (call (.builtin "isinstance") [u,c]) Q E s:=by
 cases ty with
 |eN=>cases(show u=Value.none from rx);exact jbp PySem.W.kitx_none I.uB True.intro e (λz=>nomatch z) h
 |bl y=>cases(show u=Value.bool y from rx);exact jbp PySem.W.kitx_bool I.uB True.intro e (λz=>nomatch z) h
 |int i=>obtain⟨t,q⟩:=(show ∃t,u=Value.int i t from rx);cases q;exact jbp PySem.W.kitx_int I.uB True.intro e (λz=>nomatch z) h
 |str y=>obtain⟨t,q⟩:=(show ∃t,u=Value.str y t from rx);cases q;exact jbp PySem.W.kitx_str I.uB True.intro e (λz=>nomatch z) h
 |Xd y=>obtain⟨t,q⟩:=(show ∃t,u=Value.float y t from rx);cases q;exact jbp PySem.W.kitx_float I.uB True.intro e (λz=>nomatch z) h
 | @lst a xs ea=>
  cases(show u=Value.ref a from rx);obtain⟨_,_,n,_,h1⟩:=(show cT X.prog X.w H s.heap a (.lst xs) from I.hok a _ ea)
  exact jbp kitx_list I.uB ⟨_,h1,M⟩ e (λz=>nomatch z) h
 | @HX a ob xs ea=>
  cases(show u=Value.ref a from rx);obtain⟨_,_,_,n,_,h1⟩:=(show cT X.prog X.w H s.heap a (.HX ob (.lst xs)) from I.hok a _ ea)
  exact jbp kitx_list I.uB ⟨_,h1,M⟩ e (λz=>nomatch z) h
 | @tup a xs ea=>
  cases(show u=Value.ref a from rx);obtain⟨_,_,_,p⟩:=(show cT X.prog X.w H s.heap a (.tup xs) from I.hok a _ ea)
  obtain⟨o,h1,h2,_⟩:=p;exact jbp PySem.W.kitx_tuple I.uB ⟨o,h1,h2⟩ e (λz=>nomatch z) h
 | @dK a kvs ea=>
  cases(show u=Value.ref a from rx);obtain⟨_,_,vs,_,p⟩:=(show cT X.prog X.w H s.heap a (.dK kvs) from I.hok a _ ea)
  obtain⟨o,es,ep,h1,h2,_⟩:=p;exact jbp kitx_dict I.uB ⟨o,h1,h2.1⟩ e (λz=>nomatch z) h
 | @dT a kvs ea=>
  cases(show u=Value.ref a from rx);obtain⟨_,_,xs,_,o,es,ep,h1,h2,_⟩:=(show cT X.prog X.w H s.heap a (.dT kvs) from I.hok a _ ea)
  exact jbp kitx_dict I.uB ⟨o,h1,h2.1⟩ e (λz=>nomatch z) h
 | @ins a C dx fs ea cl ha hn htk hm=>
  cases(show u=Value.ref a from rx);obtain⟨mA,O,_⟩:=xA I.hok ea;obtain⟨od,J,_⟩:=O.look;exact jbp (PySem.W.kitx_own (cl.get _) cl.hd ha hn htk hm) I.uB J e (λz=>nomatch z) h
end
structure dW (k:Nat)(A:Around):Prop where
 hd:A.handled=none
 dp:A.depth+3*k+5<recursionLimit
 un:A.units+16*k+200<cLine
theorem dW.mono {j k:Nat}{A:Around}(r:dW k A)(h:j<=k):dW j A:=⟨r.hd,by have:=r.dp;omega,by have:=r.un;omega⟩
theorem dW.m {j k:Nat}{A:Around}(r:dW k A)(h:j<=k:=by first | decide | omega):dW j A:=r.mono h
theorem dW.deeper {k:Nat}{A:Around}(r:dW (k+1) A)(env:Env):dW k (A.deeper env):=
 ⟨r.hd,by have:=r.dp;show A.depth+1+3*k+5<_;omega,by have:=r.un;show A.units+3+16*k+200<_;omega⟩
theorem HG {A:Around}{C:Addr}{us:jcS}{kw:List (Str×Value)}:(A.under (.builtin "type.__call__" ⟨.ref C::us,kw⟩)).depth=A.depth+1:=by
 first | rfl | simp[Around.under,Code.weight,Code.isCreation,Code.isGuard,Code.isCaller,Code.frames,Code.isFrame,guardIds]
theorem HF {A:Around}{C:Addr}{us:jcS}{kw:List (Str×Value)}:(A.under (.builtin "type.__call__" ⟨.ref C::us,kw⟩)).units=A.units+1:=by
 first | rfl | simp[Around.under,Code.cUnits,Code.frames,Code.isFrame]
theorem dW.make {k:Nat}{A:Around}(r:dW (k+1) A)(C:Addr)(us:jcS)(kw:List (Str×Value)):dW k (A.under (.builtin "type.__call__" ⟨.ref C::us,kw⟩)):=
 ⟨r.hd,by have:=r.dp;rw[HG];omega,by have:=r.un;rw[HF];omega⟩
theorem dW.depth {k:Nat}{A:Around}(r:dW k A):A.depth<recursionLimit:=by have:=r.dp;omega
theorem dW.units {k:Nat}{A:Around}(r:dW k A):A.units+64<cLine:=by have:=r.un;omega
def a1P:TA:=λ_ H Q=>Q [] H
def Tn (ta:TE)(tr:TA):TA:=λU H Q=>ta U H λx H1=>tr U H1 λxs H2=>Q (x::xs) H2
section
variable {X:Cx}{e:Expr}{es:jcU}{te:TE}{t:TA}{pos:Pos}
theorem rL:PA X [] a1P:=λ_ _ _ _ H Q I h=>Calls.spliced_nil ⟨[],H,I,.nil,h⟩
theorem JI (ha:PE X e te)(hr:PA X es t)(hs:autoParam (starEach (e::es) X.env=(false,eval e X.env)::starEach es X.env) zi):PA X (e::es) (Tn te t):=by
 intro pos vy s U H Q I h;rw[hs];show wpAny _ _ (spliced ((false,eval e X.env)::backTo pos (starEach es X.env))) _ _ s;refine Calls.spliced_cons (ez (ha vy s U H _ I h) ?_);rintro u s1 ⟨x,H1,I1,r1,q1⟩;exact ez (hr pos vy s1 U H1 _ I1 q1) (by rintro us s2 ⟨xs,H2,I2,r2,q2⟩;exact⟨x::xs,H2,I2,.cons r1 r2,q2⟩)
def a1I (t:TA):TE:=λU H Q=>t U H λxs H1=>xs.length<=sizeLine/\∀p,H1 p=none->Q (.ref p) (upd H1 p (.tup xs))
def YC (t:TA):TE:=λU H Q=>t U H λxs H1=>xs.length<=sizeLine/\∀p,H1 p=none->Q (.ref p) (upd H1 p (.lst xs))
theorem VU {x1}(h:PA X es t):PE X (.Tuple es x1 pos) (a1I t):=by
 intro vy s U H Q I hq;refine wpAny_Tuple_spliced (ez (h pos vy s U H _ I hq) λus s1 ⟨xs,H1,I1,r,z,q⟩=>⟨by rw[<- r.length];exact z,?_⟩);have hf:H1 s1.heap.objs.size=none:=I1.hok.fresh (jal _);refine⟨.ref s1.heap.objs.size,upd H1 s1.heap.objs.size (.tup xs),I1.laid (t':=s1.toks) (λb u e=>jan _ e) (jal _) ?_,M,q _ hf⟩;exact⟨z,us,r,⟨_,jaz _ M,M,_,M⟩⟩
theorem CG (h:PA X es t):PE X (.List es pos) (YC t):=by
 intro vy s U H Q I hq;refine wpAny_List_spliced (ez (h pos vy s U H _ I hq) λus s1 ⟨xs,H1,I1,r,z,q⟩=>⟨by rw[<- r.length];exact z,?_⟩);have hf:H1 s1.heap.objs.size=none:=I1.hok.fresh (jal _);refine⟨.ref s1.heap.objs.size,upd H1 s1.heap.objs.size (.lst xs),I1.laid (t':=s1.toks) (λb u e=>jan _ e) (jal _) ?_,M,q _ hf⟩;exact⟨z,us,0,r,jaz _ M⟩
end
abbrev Sp:=List V->Hp->VK->XK->Prop
abbrev KH:=List Env->Hp->Shared->XK->Value->Shared->Prop
structure IC (P:Program)(w:World)(K:Frag)(mg:Str->Option Value)(base:Heap)(A:Around)(outer:List Env)(s:Shared)(H:Hp):Prop where
 frames:A.frames=some outer
 mod:Mod K mg base
 bs:∀b o,base.get? b=some o->s.heap.get? b=some o/\H b=none
 Sy:base.objs.size<=s.heap.objs.size
 wo:s.heap.FunFrames base outer
 Xb:∀b∈frs outer,H b=none
 hok:sI P w H s.heap
 bare:AllBare s.gens
def CE (outer:List Env)(P:Program)(w:World)(H:Hp)(s:Shared)(Q:VK)(u:Value)(s':Shared):Prop:=
 ∃v H',s'.os=s.os/\AllBare s'.gens/\Un (frs outer) [] H H' s.heap s'.heap/\sI P w H' s'.heap/\RelV v u/\Q v H'
def CR (CX:KH)(outer:List Env)(P:Program)(w:World)(H:Hp)(s:Shared)(Q:VK)(E:XK)(r:Result)(s':Shared):Prop:=
 match r with
 |.ok (.ret u)=>CE outer P w H s Q u s'
 |.ok _=>False
 |.error e=>CX outer H s E e s'
structure az (P:Program)(w:World)(K:Frag)(mg:Str->Option Value)(base:Heap)(CX:KH)(k:Nat)(f:Addr)(fd:FuncData)(ps:List Str)(sp:Sp):Prop where
 len:∀vs H Q E,sp vs H Q E->vs.length=ps.length
 run:∀(A:Around)(outer:List Env)(s:Shared)(H:Hp)(args:Args)(us:List Value)(vs:List V) (Q:VK) (E:XK),dW k A->IC P w K mg base A outer s H->BindsTo s fd args (ps.zip us)->Vals vs us->sp vs H Q E->
  codeAny (model P w) A (.call (.ref f) args) (CR CX outer P w H s Q E) s
theorem az.mono {P:Program}{w:World}{K:Frag}{mg:Str->jcW}{base:Heap}{CX:KH}{j k:Nat}{f:Addr}{fd:FuncData}{ps:jcR}{sp:Sp}(F:az P w K mg base CX j f fd ps sp)(h:j<=k) :
  az P w K mg base CX k f fd ps sp:=⟨F.len,λA outer s H args us vs Q E hr=>F.run A outer s H args us vs Q E (hr.mono h)⟩
theorem IC.make {P:Program}{w:World}{K:Frag}{mg:Str->jcW}{base:Heap}{A:Around}{outer:List Env}{s:Shared}{H:Hp}(e:IC P w K mg base A outer s H)(C:Addr)(us:jcS)(kw:List (Str×Value)) :
  IC P w K mg base (A.under (.builtin "type.__call__" ⟨.ref C::us,kw⟩)) outer s H:=⟨by first | exact e.frames | (simpa[Around.under,Code.envs,Code.isFrame,pushEnvs] using e.frames),e.mod,e.bs,e.Sy,e.wo,e.Xb,e.hok,e.bare⟩
section
variable {X:Cx}{vy:jcO}{U:St}{H:Hp}{s s':Shared}
theorem Inv.a0s (I:Inv X vy U H s):IC X.prog X.w X.K X.mg X.base X.A X.stack s H:=
 ⟨I.ok.frames,I.ok.mod,I.bs,jaR I.ok.Sy I.sz,I.stack,I.IY,I.hok,I.bare⟩
theorem Inv.after {Q:VK}{u:Value}(I:Inv X vy U H s)(h:CE X.stack X.prog X.w H s Q u s'):EP X vy U Q u s':=by
 obtain⟨v,H',os,bare,un,hok,r,q⟩:=h;obtain⟨hh,g,d,t,os'⟩:=s';obtain rfl:os'=s.os:=os;exact⟨v,H',I.call (h':=hh) (g':=g) (d':=d) (t':=t) (ch:=[]) un hok bare (λb z=>absurd z (by simp)),r,q⟩
end
def To (sp:Sp)(Bw:List V)(E:XK)(t:TA):TE:=λU H Q=>t U H λvs H1=>sp (vs++Bw) H1 Q E
def Te (C:Addr)(sp:Sp)(Bw:List V)(E:XK)(t:TA):TE:=λU H Q=>t U H λvs H1=>∀x dx,H1 x=none->H1 dx=none->dx≠x->
 sp (.ref x::(vs++Bw)) (upd (upd H1 dx (.own x)) x (.ins C dx [])) (λv H2=>v=.eN/\Q (.ref x) H2) E
def Binds (K:Frag)(fd:FuncData)(ps:jcR)(ds:jcS):Prop:=
 ∀(s:Shared)(us:jcS),K.In s.heap->(us++ds).length=ps.length->BindsTo s fd ⟨us,[]⟩ (ps.zip (us++ds))
theorem Binds.all {K:Frag}{fd:FuncData}{ps:jcR}(h:∀us:jcS,us.length=ps.length->bindArgs fd ⟨us,[]⟩=pure (ps.zip us)):Binds K fd ps []:=λs us _ hl=>by
 rw[jaJ] at hl ⊢;exact .of_eq (h us hl)
def Passes (CX:KH)(X:Cx)(E:XK):Prop:=∀(vy:jcO) (U:St) (H:Hp) (s:Shared) (e:Value) (s':Shared),Inv X vy U H s->CX X.stack H s E e s'->X.xe e s'
section
variable {X:Cx}{CX:KH}{k:Nat}{f C:Addr}{fd:FuncData}{ps:jcR}{sp:Sp}{Bw:List V}{ds:jcS}{E:XK}{x m:Str}{p pos B1:Pos}{e o:Expr}{es:jcU}{ta:TE}{t:TA}
theorem CA {vy:jcO}{U:St}{H:Hp}{s:Shared}{Q:VK}{us:jcS}{vs:List V}(F:az X.prog X.w X.K X.mg X.base CX k f fd ps sp)(hr:dW k X.A)(hb:Binds X.K fd ps ds)(hd:Vals Bw ds)(hx:Passes CX X E)
  (I:Inv X vy U H s) (r:Vals vs us) (h:sp (vs++Bw) H Q E):wpAny (model X.prog X.w) X.A (call (.ref f) us) (EP X vy U Q) X.xe s:=by
 have r2:Vals (vs++Bw) (us++ds):=r.append hd;have hl:(us++ds).length=ps.length:=by rw[<- r2.length];exact F.len _ _ _ _ h
 refine wpAny_call (jbN (F.run X.A X.stack s H ⟨us,[]⟩ (us++ds) (vs++Bw) Q E hr I.a0s (hb s us I.uB hl) r2 h) λr s' hq=>?_);cases r with
 |error e=>exact hx vy U H s e s' I hq
 |ok fl=>
  cases fl with
  |ret u=>exact I.after hq
  |next=>exact False.elim hq
  |brk=>exact False.elim hq
  |cont=>exact False.elim hq
theorem Ru (F:az X.prog X.w X.K X.mg X.base CX k f fd ps sp)(hr:dW k X.A)(hg:Gl X x)(hm:X.mg x=some (.ref f))(hk:keepIn X.K (.ref f)=true)(hb:Binds X.K fd ps ds)(hd:Vals Bw ds)(hx:Passes CX X E)
  (ha:PA X (e::es) t) (hdb:autoParam ((x==("__debug__":Str))=false) zn) (he:autoParam (starEach (e::es) X.env=(false,eval e X.env)::starEach es X.env) zi) (hpl:autoParam ((backTo pos (starEach es X.env)).any (·.1)=false) zi) :
  PE X (.Call (.Name x p) (e::es) [] pos) (To sp Bw E t):=by
 intro vy s U H Q I h;refine wpAny_Call_Name_kw (xy I hg hm ?_ hdb);refine callWith_K (h₀:=X.base) I.ok.mod.XW hk (ez (ha pos vy s U H _ I h) λus s1 ⟨vs,H1,I1,r,q⟩=>⟨I1.uB,?_⟩) he hpl;exact CA F hr hb hd hx I1 r q
structure Mk (K:Frag)(C f:Addr):Prop where
 makes:makesIn K C=true
 init:findIn K (.ref C) "__init__"=some (some (.ref f))
 fn:isFn K (.ref f)=true
 kp:keepIn K (.ref C)=true
theorem M5 {vy:jcO}{U:St}{H:Hp}{s:Shared}{Q:VK}{us:jcS}{vs:List V}(jcN:Mk X.K C f)(F:az X.prog X.w X.K X.mg X.base CX k f fd ps sp)(hr:dW (k+1) X.A)(hb:Binds X.K fd ps ds)(hd:Vals Bw ds)
  (hx:Passes CX X E) (I:Inv X vy U H s) (r:Vals vs us)
  (h:∀x dx,H x=none->H dx=none->dx≠x->sp (.ref x::(vs++Bw)) (upd (upd H dx (.own x)) x (.ins C dx [])) (λv H2=>v=.eN/\Q (.ref x) H2) E) :
  wpAny (model X.prog X.w) X.A (call (.ref C) us) (EP X vy U Q) X.xe s:=by
 have hq:=h (s.heap.objs.size+1) s.heap.objs.size (I.hok.fresh (jb2 _)) (I.hok.fresh (jal _)) (jap (jcd _));have I2:=Inv.made (C:=C) I;have r2:Vals (V.ref (s.heap.objs.size+1)::(vs++Bw)) (Value.ref (s.heap.objs.size+1)::(us++ds)):=.cons rfl (r.append hd);have hl:(Value.ref (s.heap.objs.size+1)::us++ds).length=ps.length:=by
  have e:=r2.length;rw[F.len _ _ _ _ hq] at e;exact e.symm
 refine wpAny_call (NX (f:=f) I.uB jcN.makes jcN.init (ja1.mp jcN.fn) (jbN (F.run _ X.stack _ _ ⟨Value.ref (s.heap.objs.size+1)::us,[]⟩ (Value.ref (s.heap.objs.size+1)::(us++ds)) _ _ E (hr.make C us [])
  (I2.a0s.make C us []) (hb _ (Value.ref (s.heap.objs.size+1)::us) I2.uB hl) r2 hq) λr s' hq'=>?_))
 cases r with
 |error e=>exact hx vy U _ _ e s' I2 hq'
 |ok fl=>
  cases fl with
  |ret u=>
   obtain⟨v,H',I3,rv,ev,q3⟩:=I2.after hq';subst ev;exact⟨rv,⟨V.ref (s.heap.objs.size+1),H',I3,M,q3⟩⟩
  |next=>exact False.elim hq'
  |brk=>exact False.elim hq'
  |cont=>exact False.elim hq'
theorem Ro (jcN:Mk X.K C f)(F:az X.prog X.w X.K X.mg X.base CX k f fd ps sp)(hr:dW (k+1) X.A)(hg:Gl X x)(hm:X.mg x=some (.ref C))(hb:Binds X.K fd ps ds)(hd:Vals Bw ds)(hx:Passes CX X E)
  (ha:PA X (e::es) t) (hdb:autoParam ((x==("__debug__":Str))=false) zn) (he:autoParam (starEach (e::es) X.env=(false,eval e X.env)::starEach es X.env) zi) (hpl:autoParam ((backTo pos (starEach es X.env)).any (·.1)=false) zi) :
  PE X (.Call (.Name x p) (e::es) [] pos) (Te C sp Bw E t):=by
 intro vy s U H Q I h;refine wpAny_Call_Name_kw (xy I hg hm ?_ hdb);refine callWith_K (h₀:=X.base) I.ok.mod.XW jcN.kp (ez (ha pos vy s U H _ I h) λus s1 ⟨vs,H1,I1,r,q⟩=>⟨I1.uB,?_⟩) he hpl;exact M5 jcN F hr hb hd hx I1 r q
end
section
variable {X:Cx}{CX:KH}{k:Nat}{f C:Addr}{fd:FuncData}{ps ks:jcR}{sp:Sp}{E:XK}{x m:Str}{p pos B1 kpos:Pos}{e o:Expr}{es:jcU}{kws:List Keyword}{te ta:TE}{t tk:TA}{nm:Option Str}
variable {g:jcS->jcS->jcS}{gV:List V->List V->List V}
end
structure aj (N P:List Str)(sc:Scope):Prop where
 kind:sc.kind=.function
 co:sc.isCoroutine=false
 gen:sc.isGenerator=false
 nd:N.Nodup
 pre:N.take P.length=P
 par:∀x∈P,sc.names.lookup x=some .local\/sc.names.lookup x=some .cell
 Wf:∀y∈sc.names,y.2≠.free
theorem bW {N P:jcR}{sc:Scope}(a:autoParam (sc.kind=.function) zi)(b:autoParam (sc.isCoroutine=false) zi)(c:autoParam (sc.isGenerator=false) zi)(d:autoParam (N.Nodup) ka)(e:autoParam (N.take P.length=P) zi)(f:autoParam (∀x∈P,sc.names.lookup x=some .local\/sc.names.lookup x=some .cell) ka)(g:autoParam (∀y∈sc.names,y.2≠.free) ka):aj N P sc:=⟨a,b,c,d,e,f,g⟩
theorem BE {kindOf:Str->Option NameKind}{x:Str}:∀{binds:List (Str×Value)} {m:Str->jcW},(∀v,(x,v)∉binds)->bindL kindOf binds m x=m x
 |[],_,_=>rfl
 |(n,v)::r,m,h=>by
  unfold bindL;rw[BE λw hw=>h w (jav _ hw)];split
  .have:x≠n:=by rintro rfl;exact h v jar
   simp[this]
  .rfl
theorem BG {kindOf:Str->Option NameKind}{x:Str}:∀{binds:List (Str×Value)} {m:Str->jcW},(∀v,(x,v)∉binds)->bindC kindOf binds m x=m x
 |[],_,_=>rfl
 |(n,v)::r,m,h=>by
  unfold bindC;rw[BG λw hw=>h w (jav _ hw)];split
  .rfl
  .have:x≠n:=by rintro rfl;exact h v jar
   simp[this]
theorem BF {kindOf:Str->Option NameKind}{x:Str}{v:Value}:∀{P:jcR}{vs:jcS}{i:Nat}{m:Str->jcW},P.Nodup->P[i]?=some x->vs[i]?=some v->kindOf x=some .local->
  bindL kindOf (P.zip vs) m x=some v
 |[],_,_,_,_,h,_,_=>by simp at h
 |_::_,[],_,_,_,_,h,_=>by simp at h
 |p::P,w::vs,0,m,nd,h1,h2,hk=>by
  simp at h1 h2;subst h1;subst h2;show bindL kindOf ((p,w)::P.zip vs) m p=_;unfold bindL;rw[BE λv hv=>(jbq.mp nd).1 (List.of_mem_zip hv).1,jae hk];simp
 |p::P,w::vs,i+1,m,nd,h1,h2,hk=>by
  show bindL kindOf ((p,w)::P.zip vs) m x=_;unfold bindL;exact BF (i:=i) (jbq.mp nd).2 (by simpa using h1) (by simpa using h2) hk
theorem BH {kindOf:Str->Option NameKind}{x:Str}{v:Value}:∀{P:jcR}{vs:jcS}{i:Nat}{m:Str->jcW},P.Nodup->P[i]?=some x->vs[i]?=some v->kindOf x≠some .local->
  bindC kindOf (P.zip vs) m x=some v
 |[],_,_,_,_,h,_,_=>by simp at h
 |_::_,[],_,_,_,_,h,_=>by simp at h
 |p::P,w::vs,0,m,nd,h1,h2,hk=>by
  simp at h1 h2;subst h1;subst h2;show bindC kindOf ((p,w)::P.zip vs) m p=_;unfold bindC;rw[BG λv hv=>(jbq.mp nd).1 (List.of_mem_zip hv).1,jad hk];simp
 |p::P,w::vs,i+1,m,nd,h1,h2,hk=>by
  show bindC kindOf ((p,w)::P.zip vs) m x=_;unfold bindC;exact BH (i:=i) (jbq.mp nd).2 (by simpa using h1) (by simpa using h2) hk
noncomputable def start (N:jcR)(vs:List V):St:=vs.map some++List.replicate (N.length - vs.length) none
noncomputable def FU (CX:KH)(P:Program)(w:World)(K:Frag)(mg:Str->jcW)(base:Heap)(N:jcR)(qual:Str)(scope:Scope)(f:Addr)(cd:Value)(A:Around)(outer:List Env)(s:Shared)(H:Hp)(E:XK):Cx where
 prog:=P
 w:=w
 K:=K
 mg:=mg
 base:=base
 A:=A.deeper (envOfC qual scope s.heap.objs.size f cd)
 N:=N
 s₀:=s
 H₀:=H
 env:=envOfC qual scope s.heap.objs.size f cd
 outer:=outer
 stack:=envOfC qual scope s.heap.objs.size f cd::outer
 ex:=[]
 calm:=true
 fn:=λ_=>true
 pn:=[]
 xe:=λe s'=>wpAny (model P w) (A.deeper (envOfC qual scope s.heap.objs.size f cd)) (leaving (envOfC qual scope s.heap.objs.size f cd) e) (λ_ s''=>CX outer H s E e s'') (λe' s''=>CX outer H s E e' s'') s'
theorem F2 {sc:Scope}{n:Nat}{x:Str}(h:sc.names.lookup x=some .cell):∃c,(cellsFrom n sc.names []).lookup x=some c:=by
 have q:=cellsFrom_some sc.names n [] (.inl h);exact Option.isSome_iff_exists.mp q
theorem Ls {CX:KH}{P:Program}{w:World}{K:Frag}{mg:Str->jcW}{base:Heap}{N ps:jcR}{qual:Str}{scope:Scope}{f:Addr}{cd:Value}{A:Around}{outer:List Env}{s s1:Shared}{H:Hp}{E:XK}{us:jcS}{vs:List V}
  (S:aj N ps scope) (hd:A.handled=none) (e0:IC P w K mg base A outer s H) (hl:vs.length=ps.length) (r:Vals vs us)
  (x:InCallC s s.heap.objs.size (bindL (envOfC qual scope s.heap.objs.size f cd).kindOf (ps.zip us) λ_=>none) (cellsFrom (s.heap.objs.size+1) scope.names []) (bindC (envOfC qual scope s.heap.objs.size f cd).kindOf (ps.zip us) λ_=>none) s1) :
  Inv (FU CX P w K mg base N qual scope f cd A outer s H E) [] (start N vs) H s1:=by
 have hpl:ps.length<=N.length:=by have:=jah List.length S.pre;rw[jby] at this;omega
 obtain⟨h1,tk,rfl,hk⟩:=x.done;have ZG:∀b:Addr,b∉(FU CX P w K mg base N qual scope f cd A outer s H E).ex:=λb z=>absurd (show b∈([]:jcT) from z) (by simp);refine⟨⟨e0.mod,S.kind,M,M,jal _,λy z c h1 h2=>?_,λy hy=>?_,λy c _ h=>?_,λ_=>hd,Around.frames_deeper e0.frames,.inr ⟨M,M⟩,λb z=>absurd z (ZG b),e0.bs,e0.Sy,λb _ _=>ZG b,λb z=>absurd z (ZG b),e0.wo,e0.Xb⟩,
  M,e0.bare,Un.kept hk,⟨_,x.toInCall.ns,λi y v h1 h2 h3=>?_⟩,λy c h=>⟨_,x.cell y c h⟩,e0.hok.fresh (jal _),λy c h=>?_,λp hp=>absurd (show p∈([]:jcO) from hp) (by simp),e0.hok.kept hk,?_⟩
 .exact name_of_addr x.apart (jbU h1) (jbU h2)
 .have hy:scope.names.lookup y=some .cell\/scope.names.lookup y=some .free:=hy;rcases hy with hy | hy
  .exact F2 hy
  .exact absurd rfl (S.Wf _ (jbU hy))
 .exact Nat.le_of_lt (x.above y c (jbU h))
 .have hi:i<vs.length:=by
   unfold start at h2;by_cases hi:i<vs.length
   .exact hi
   .rw[jbj (by simpa using hi)] at h2;rw[jck] at h2;split at h2<;>cases h2
  have ha:vs[i]?=some v:=by
   unfold start at h2;rw[jaS (by simpa using hi),jaA] at h2;cases e:vs[i]? with
   |none=>rw[e] at h2;cases h2
   |some a=>rw[e] at h2;cases h2;rfl
  obtain⟨u,hu,rv⟩:=r.get ha;have hp:ps[i]?=some y:=by
   rw[<- S.pre,List.getElem?_take_of_lt (by omega)];exact h1
  have ndP:ps.Nodup:=by rw[<- S.pre];exact S.nd.sublist (List.take_sublist _ _)
  refine⟨u,rv,?_⟩;rcases S.par y (jbH hp) with k | k
  .exact .inl ⟨k,BF ndP hp hu k⟩
  .obtain⟨c,e⟩:=F2 (n:=s.heap.objs.size+1) k;refine .inr ⟨.inl k,c,e,?_⟩;have q:=x.cell y c e;rw[BH ndP hp hu (by show scope.names.lookup y≠_;rw[k];decide)] at q;exact q
 .exact e0.hok.fresh (Nat.le_of_lt (x.above y c (jbU h)))
 .unfold start;show _=N.length;rw[jaf,jab,jcE];omega
theorem a0n {CX:KH}{P:Program}{w:World}{K:Frag}{mg:Str->jcW}{base:Heap}{k:Nat}{f:Addr}{name qual:Str}{params:Arguments}{body:List Stmt}{scope:Scope}{dV kV doc pm AT ct oc:Value}{an od:jcV}
  {osl:jcQ} {N ps:jcR} {sp:Sp} (lk:K.lookup f=some ⟨oc,od,.func (fnOf name qual params body scope dV kV doc pm an AT ct),osl⟩) (hcd:codeIn K AT qual=true) (S:aj N ps scope)
  (len:∀vs H Q E,sp vs H Q E->vs.length=ps.length)
  (hbody:∀(A:Around)(outer:List Env)(s:Shared)(H:Hp)(vs:List V)(Q:VK)(E:XK),dW k (A.deeper (envOfC qual scope s.heap.objs.size f AT))->sp vs H Q E->
   ∃t,bF (FU CX P w K mg base N qual scope f AT A outer s H E) body t/\t {nx:=λ_ H'=>Q .eN H',rt:=Q } (start N vs) H) :
  az P w K mg base CX (k+1) f (fnOf name qual params body scope dV kV doc pm an AT ct) ps sp:=by
 refine⟨len,λA outer s H args us vs Q E hr e0 hb r Uj=>?_⟩;have hl:=len _ _ _ _ Uj;have KX:K.In s.heap:=e0.mod.XW.keeps λb o e=>(e0.bs b o e).1;have lim:s.heap.NoLimit:=e0.mod.nolimit.keeps λb o e=>(e0.bs b o e).1;have hkind:∀y∈ps.zip us,scope.names.lookup y.1=some .local\/(scope.names.lookup y.1=some .cell/\((cellsFrom (s.heap.objs.size+1) scope.names []).lookup y.1).isSome=true):=λ⟨n,v⟩ hy=>by
  rcases S.par n (List.of_mem_zip hy).1 with q | q
  .exact .inl q
  .exact .inr ⟨q,cellsFrom_some _ _ _ (.inl q)⟩
 refine codeAny_call_function hr.depth (KX _ _ lk) rfl S.co S.gen rfl (PySem.W.codeRec_of KX hcd) (hb _ _ _ _ ?_);refine wpAny_newFunctionEnv_cells S.kind hkind λenv he s1 x=>?_;subst he;refine⟨lim.keeps x.toInCall.keep,codeAny_func ?_⟩;obtain⟨t,ht,hq⟩:=hbody A outer s H vs Q E (hr.deeper _) Uj;have I:Inv (FU CX P w K mg base N qual scope f AT A outer s H E) [] (start N vs) H s1:=Ls S hr.hd e0 hl r x;refine jaV (ht [] s1 (start N vs) H _ I hq) (λfl s' hs=>?_) λe s' hs=>hs;have fin:∀{U':St}{H':Hp}{v:V}{u:Value},Inv (FU CX P w K mg base N qual scope f AT A outer s H E) [] U' H' s'->RelV v u->Q v H'->CE outer P w H s Q u s':=
  λ{U' H' v u} J rv q=>⟨v,H',J.os,J.bare,J.base,J.hok,rv,q⟩
 cases fl with
 |ret u=>
  obtain⟨v,U',H',J,rv,q⟩:=hs;exact fin J rv q
 |next=>
  obtain⟨U',H',J,q⟩:=hs;exact fin (v:=V.eN) (u:=Value.none) J rfl q
 |brk=>
  obtain⟨_,_,_,q⟩:=hs;exact False.elim q
 |cont=>
  obtain⟨_,_,_,q⟩:=hs;exact False.elim q
section
variable {X:Cx}{x:Str}{p pos:Pos}{e:Expr}{es:jcU}{t:TA}{id T:String}{r:List V->Hp->VK->Prop}
def YH (r:List V->Hp->VK->Prop)(t:TA):TE:=λU H Q=>t U H λvs H1=>r vs H1 Q
theorem Nv (hc:fm X (.builtin id) r)(hg:Gl X x)(hm:X.mg x=none)(hv:bootBuiltins x=some (.builtin id))(ha:PA X (e::es) t)(hn:autoParam (x≠"__name__") zn)(hdb:autoParam ((x==("__debug__":Str))=false) zn)
  (he:autoParam (starEach (e::es) X.env=(false,eval e X.env)::starEach es X.env) zi) (hpl:autoParam ((backTo pos (starEach es X.env)).any (·.1)=false) zi):PE X (.Call (.Name x p) (e::es) [] pos) (YH r t):=by
 intro vy s U H Q I h;refine wpAny_Call_Name_kw (uV I hg hm hv ?_ hn hdb);exact PyProof.Rows.callWith_builtin1 (ez (ha pos vy s U H _ I h) (by rintro us s1 ⟨vs,H1,I1,r1,q1⟩;exact hc vy s1 U H1 vs us Q I1 r1 q1)) he hpl
theorem K3 (hc:fm X (.type T) r)(hg:Gl X x)(hm:X.mg x=none)(hv:bootBuiltins x=some (.type T))(ha:PA X (e::es) t)(hn:autoParam (x≠"__name__") zn)(hdb:autoParam ((x==("__debug__":Str))=false) zn)
  (he:autoParam (starEach (e::es) X.env=(false,eval e X.env)::starEach es X.env) zi) (hpl:autoParam ((backTo pos (starEach es X.env)).any (·.1)=false) zi):PE X (.Call (.Name x p) (e::es) [] pos) (YH r t):=by
 intro vy s U H Q I h;refine wpAny_Call_Name_kw (uV I hg hm hv ?_ hn hdb);exact jcx (ez (ha pos vy s U H _ I h) (by rintro us s1 ⟨vs,H1,I1,r1,q1⟩;exact hc vy s1 U H1 vs us Q I1 r1 q1)) he hpl
end
end L2
namespace HT
open PySem PyProof.Rows
section
open PySem.SeqAt
open PySem.AutoSeq1 (wpAny_loadPart')
open PySem.MeetsSeq PySem.MeetsSeq2 PySem.MeetsSeq3
end
section
variable {prog:Program}{w:World}{A:Around}{E:jcP}{s:Shared}
theorem Sv {t b:Addr}{vs ws:jcS}{Q:jcP}(ht:IsTup s.heap t vs.toArray)(hb:IsTup s.heap b ws.toArray)(hv:vs≠[])
  (h1:ws=[]->Q (.ref t) s) (h2:ws≠[]->Q (.ref s.heap.objs.size) {s with heap:=s.heap.push {cls:=.type "tuple",data:=.seq (vs++ws).toArray } })
  (hsz:vs.length+ws.length<=sizeLine):wpAny (model prog w) A (binaryOp .Add (.ref t) (.ref b)) Q E s:=by
 obtain⟨⟨cls,dd,data,sl⟩,ho,hc,n,hd⟩:=id ht;obtain⟨⟨a3y,dd2,data2,sl2⟩,ho2,hc2,n2,hd2⟩:=id hb;simp only at hc hd hc2 hd2;subst hc hd hc2 hd2;have e:vs.toArray++ws.toArray=(vs++ws).toArray:=by simp
 by_cases hw:ws=[]
 .exact concat_meets ⟨_,ho,M⟩ ⟨_,ho2,M⟩ noFill_tuple_add seq_tuple_add PySem.F.slot_tuple_add PySem.F.entry_tuple_add (PySem.F.args_tuple_add_2 _ _)
   (tuple_addW1 t b vs.toArray ws.toArray n n2 dd dd2 sl sl2 (by simpa using hv) (by simp[hw])) ⟨ho,ho2,h1 hw⟩
 .refine concat_meets ⟨_,ho,M⟩ ⟨_,ho2,M⟩ noFill_tuple_add seq_tuple_add PySem.F.slot_tuple_add PySem.F.entry_tuple_add (PySem.F.args_tuple_add_2 _ _)
   (tuple_addW2 t b vs.toArray ws.toArray n n2 dd dd2 sl sl2 (by simpa using hv) (by simpa using hw) (by rw[jaw,jaw];exact hsz)) ⟨ho,ho2,?_⟩
  rw[e];exact h2 hw
noncomputable def eZ (n d:Nat):Option Int->Nat
 |none=>d
 |some v=>if v<0 then(v+(n:Int)).toNat else min v.toNat n
theorem EL (n d:Nat):eZ n d none=d:=rfl
theorem Ju (n d k:Nat):eZ n d (some (k:Int))=min k n:=by
 show(if(k:Int)<0 then((k:Int)+(n:Int)).toNat else min (k:Int).toNat n)=min k n;rw[jad (by omega),jbW]
theorem Vi (n d:Nat)(hd:d<=n)(o:Option Int):eZ n d o<=n:=by
 cases o with
 |none=>exact hd
 |some v=>
  show(if v<0 then(v+(n:Int)).toNat else min v.toNat n)<=n;by_cases hv:v<0
  .rw[jae hv];omega
  .rw[jad hv];exact Nat.min_le_right _ _
theorem Kh (v:Int)(n d:Nat):(if v<0 then max (v+(n:Int)) 0 else min v (n:Int))=((eZ n d (some v):Nat):Int):=by
 show(if v<0 then max (v+(n:Int)) 0 else min v (n:Int))=(((if v<0 then(v+(n:Int)).toNat else min v.toNat n):Nat):Int);by_cases hv:v<0
 .simp only[jae hv];omega
 .simp only[jad hv];omega
theorem Iw (lo hi:Option Int)(n:Nat):Builtin.Slice.sliceAdjust lo hi 1 (n:Int)=(((eZ n 0 lo:Nat):Int),((eZ n n hi:Nat):Int)):=by
 have h1:¬((1:Int)<0):=by omega
 unfold Builtin.Slice.sliceAdjust;simp only[h1,jaH];refine Prod.ext ?_ ?_
 .cases lo with
  |none=>rfl
  |some v=>exact Kh v n 0
 .cases hi with
  |none=>rfl
  |some v=>exact Kh v n n
theorem Hh (i j:Nat):Builtin.Slice.slicePlaces (i:Int) (j:Int) 1=j - i:=by
 unfold Builtin.Slice.slicePlaces;have h1:(1:Int) > 0:=by omega
 simp only[h1,ja4,Int.ediv_one];split<;>omega
theorem xX {v:Value}{o:Option Int}{Q:Option Int->Shared->Prop}(p:IsPart v o)(h:Q o s):wpAny (model prog w) A (Builtin.Slice.slicePartIndex v) Q E s:=by
 cases p with
 |none=>exact slicePart_none h
 |int i t=>exact slicePart_int h
theorem uL {sl:Addr}{vl vu:Value}{lo hi:Option Int}{n:Nat}{Q:Int×Int×Nat->Shared->Prop}(hs:s.heap.IsSliceOf sl vl vu .none)(pl:IsPart vl lo)(pu:IsPart vu hi)
  (h:Q (((eZ n 0 lo:Nat):Int),1,eZ n n hi - eZ n 0 lo) s):wpAny (model prog w) A (Builtin.Slice.sliceApplied (.ref sl) (pure (n:Int))) Q E s:=by
 obtain⟨os,hos,hcs,hds⟩:=id hs;unfold Builtin.Slice.sliceApplied Builtin.Slice.sliceFields;refine jaa (jaa (ja9 hos hds (x:=vl) rfl (jaa (ja9 hos hds (x:=vu) rfl (jaa (ja9 hos hds (x:=.none) rfl (jac ?_)))))));refine jaa (slicePart_none ?_);show wpAny _ _ (if((1:Int)==0)=true then _ else _) _ _ s;rw[jad (by decide)];refine jaa (xX pl (jaa (xX pu (jaa (jac ?_)))));show wpAny _ _ (match Builtin.Slice.sliceAdjust lo hi 1 (n:Int) with | (lo,hi)=>pure (lo,(1:Int),Builtin.Slice.slicePlaces lo hi 1)) _ _ s;rw[Iw lo hi n];show wpAny _ _ (pure (((eZ n 0 lo:Nat):Int),(1:Int),Builtin.Slice.slicePlaces ((eZ n 0 lo:Nat):Int) ((eZ n n hi:Nat):Int) 1)) _ _ s;rw[Hh];exact jac h
theorem Nl (xs:Array Value)(i k:Nat):((List.range k).filterMap λ(m:Nat)=>xs[((i:Int)+(m:Int)*1).toNat]?).toArray=((xs.toList.drop i).take k).toArray:=by
 have e:(λ(m:Nat)=>xs[((i:Int)+(m:Int)*1).toNat]?)=λm=>xs[i+m]?:=by
  funext m;have:((i:Int)+(m:Int)*1).toNat=i+m:=by omega
  rw[this]
 rw[e];have:=pick_run xs i k;rw[List.filterMap_map] at this;have e2:((λx=>xs[x]?) ∘ λx=>i+x)=λm=>xs[i+m]?:=rfl;rw[e2] at this;rw[this]
theorem tR {t sl:Addr}{items:Array Value}{vl vu:Value}{lo hi:Option Int}{Q:jcP}(ht:IsTup s.heap t items)(hs:s.heap.IsSliceOf sl vl vu .none)(pl:IsPart vl lo)(pu:IsPart vu hi)
  (hw:¬(eZ items.size 0 lo=0/\eZ items.size items.size hi=items.size))
  (h:Q (.ref s.heap.objs.size) {s with heap:=s.heap.push {cls:=.type "tuple",data:=.seq ((items.toList.drop (eZ items.size 0 lo)).take (eZ items.size items.size hi - eZ items.size 0 lo)).toArray } })
  (hsz:items.size<=sizeLine):wpAny (model prog w) A (getItem (.ref t) (.ref sl)) Q E s:=by
 have JY:sizeOk (.seq ((items.toList.drop (eZ items.size 0 lo)).take (eZ items.size items.size hi - eZ items.size 0 lo)).toArray):=by
  show((items.toList.drop (eZ items.size 0 lo)).take (eZ items.size items.size hi - eZ items.size 0 lo)).toArray.size<=sizeLine;rw[jaw,jby,jbP,jaq];omega
 have hj:eZ items.size items.size hi<=items.size:=Vi _ _ (jal _) hi;obtain⟨os,hos,hcs,hds⟩:=id hs;have hTs:s.TypeIs (.ref sl) "slice":=⟨os,hos,hcs⟩
 unfold getItem
 try with_reducible refine jbh ?_
 first | refine jaa (jac ?_) | skip
 refine jaa (wpAny_sequenceKey ht.typeIs (by decide) ?_);refine jaa (jbE (name:=Str.ofString "__getitem__") ht.typeIs jcL
  (jbd jcL ht.typeIs entry_tuple_getitem ?_ (args_tuple_getitem _ _)))
 show wpAny _ _ (Builtin.Tuple.tupleItemsOf (.ref t) >>=_) _ _ s;refine jaa (tupleItemsOf_ ht ?_);refine jaa (wpAny_typeOf hTs ?_);rw[jae (by decide)];refine jaa (uL hs pl pu ?_);have hno:¬((((eZ items.size 0 lo:Nat):Int)==0&&(1:Int)==1&&(eZ items.size items.size hi - eZ items.size 0 lo)==items.size)=true):=by
  intro q;rw[jaU,jaU] at q;have q1:((eZ items.size 0 lo:Nat):Int)=0:=eq_of_beq q.1.1;have q2:eZ items.size items.size hi - eZ items.size 0 lo=items.size:=eq_of_beq q.2;exact hw ⟨by omega,by omega⟩
 show wpAny _ _ (if(((eZ items.size 0 lo:Nat):Int)==0&&(1:Int)==1&&(eZ items.size items.size hi - eZ items.size 0 lo)==items.size)=true then _ else _) _ _ s;rw[jad hno,Nl]
 first
  |exact jaa (m:=Builtin.Tuple.tupleExact _) (jba (jac ⟨_,M,jac h⟩) JY)
  |exact jaa (m:=Builtin.Tuple.tupleExact _) (jba (jaa (jac (jac ⟨_,M,jac h⟩))) JY)
  |exact jaa (jaa (m:=Builtin.Tuple.tupleExact _) (jba (jac (jac ⟨_,M,jac h⟩)) JY))
  |exact jaa (jaa (m:=Builtin.Tuple.tupleExact _) (jba (jac ⟨_,M,jac h⟩) JY))
end
end HT
namespace L2
open PySem PySem.Spec PyProof.Rows
abbrev TO:=St->Hp->(Option Int->Hp->Prop)->Prop
def PO (X:Cx)(e:Option Expr)(t:TO):Prop:=
 ∀(vy:jcO) (s:Shared) (U:St) (H:Hp) (Q:Option Int->Hp->Prop),Inv X vy U H s->t U H Q->
  wpAny (model X.prog X.w) X.A (evalPart e X.env) (λu s'=>∃o H',Inv X vy U H' s'/\IsPart u o/\Q o H') X.xe s
def Qp:TO:=λ_ H Q=>Q none H
def Yw (t:TE):TO:=λU H Q=>t U H λx H1=>∃i,x=.int i/\Q (some i) H1
section
variable {X:Cx}{e:Expr}{te:TE}{lo hi:Option Expr}{tl th:TO}{pos p2:Pos}
theorem Rk:PO X none Qp:=by
 intro vy s U H Q I h;rw[evalPart_none];exact jac ⟨none,H,I,.none,h⟩
theorem Rj (h:PE X e te):PO X (some e) (Yw te):=by
 intro vy s U H Q I hw;rw[evalPart_some];refine ez (h vy s U H _ I hw) ?_;rintro u s1 ⟨x,H1,I1,r1,q1⟩;obtain⟨i,rfl,q⟩:=q1;obtain⟨t,rfl⟩:=r1;exact⟨some i,H1,I1,.int i t,q⟩
def SK (X:Cx)(r:V->Option Int->Option Int->Hp->VK->Prop):Prop:=
 ∀(vy:jcO) (s:Shared) (U:St) (H:Hp) (x:V) (v vl vu:Value) (lo hi:Option Int) (sl:Addr) (Q:VK),Inv X vy U H s->RelV x v->s.heap.IsSliceOf sl vl vu .none->IsPart vl lo->IsPart vu hi->r x lo hi H Q->
  ∃T id,typeLookup (.type T) "__getitem__"=pure (some (.builtin id))/\s.TypeIs v T/\wpAny (model X.prog X.w) X.A (getItem v (.ref sl)) (EP X vy U Q) X.xe s
theorem SK.or {r r':V->Option Int->Option Int->Hp->VK->Prop}(h:SK X r)(h':SK X r'):SK X (λx lo hi H Q=>r x lo hi H Q\/r' x lo hi H Q):=by
 intro vy s U H x v vl vu lo hi sl Q I rx hs pl pu q;rcases q with q | q
 .exact h vy s U H x v vl vu lo hi sl Q I rx hs pl pu q
 .exact h' vy s U H x v vl vu lo hi sl Q I rx hs pl pu q
def tSl (r:V->Option Int->Option Int->Hp->VK->Prop)(te:TE)(tl th:TO):TE:=λU H Q=>te U H λx H1=>tl U H1 λl H2=>th U H2 λu H3=>r x l u H3 Q
theorem Np {r:V->Option Int->Option Int->Hp->VK->Prop}(hr:SK X r)(he:PE X e te)(hl:PO X lo tl)(hu:PO X hi th):PE X (.Subscript e (.Slice lo hi none p2) pos) (tSl r te tl th):=by
 intro vy s U H Q I h;refine Subscript_ (ez (he vy s U H _ I h) ?_);rintro v s1 ⟨x,H1,I1,r1,q1⟩;refine wpAny_Slice (ez (hl vy s1 U H1 _ I1 q1) λvl s2 ⟨l,H2,I2,pl,q2⟩=>ez (hu vy s2 U H2 _ I2 q2) ?_);rintro vu s3 ⟨u,H3,I3,pu,q3⟩;rw[evalPart_none];refine jac ?_;have I4:Inv X vy U H3 {s3 with heap:=s3.heap.push {cls:=.type "slice",data:=.fields #[vl,vu,.none] } }:=I3.kept (t':=s3.toks) λb ob q=>jan _ q;obtain⟨T,id,hT,ht,hg⟩:=hr vy {s3 with heap:=s3.heap.push {cls:=.type "slice",data:=.fields #[vl,vu,.none] } } U H3 x v vl vu l u s3.heap.objs.size Q I4 r1 (Heap.IsSliceOf.new ..) pl pu q3;show wpAny (model X.prog X.w) X.A (subscriptTail e (.Slice lo hi none p2) v (.ref s3.heap.objs.size)) (EP X vy U Q) X.xe {s3 with heap:=s3.heap.push {cls:=.type "slice",data:=.fields #[vl,vu,.none] } };exact tail_any (ops:=[.ref s3.heap.objs.size,v]) ht hT hg (by with_unfolding_all rfl)
noncomputable def FW (xs:List V)(lo hi:Option Int):List V:=(xs.drop (HT.eZ xs.length 0 lo)).take (HT.eZ xs.length xs.length hi - HT.eZ xs.length 0 lo)
theorem vM (xs:List V)(lo hi:Option Int):(FW xs lo hi).length<=xs.length:=by
 unfold FW;rw[jby,jbP];omega
noncomputable def a15 (K:Frag):V->Option Int->Option Int->Hp->VK->Prop:=λx lo hi H Q=>∃a xs,x=.ref a/\ko K H a xs/\
 ¬(HT.eZ xs.length 0 lo=0/\HT.eZ xs.length xs.length hi=xs.length)/\∀p,H p=none->Q (.ref p) (upd H p (.tup (FW xs lo hi)))
theorem Vc:SK X (a15 X.K):=by
 intro vy s U H x v vl vu lo hi sl Q I rx hs pl pu h;obtain⟨a,xs,rfl,hx,hw,q⟩:=h;cases rx;obtain⟨AC,r,ht,hz⟩:=I.tuple hx;have hlen:AC.toArray.size=xs.length:=by rw[jaw];exact r.length.symm
 refine⟨"tuple",_,jcL.lookup,ht.typeIs,?_⟩;refine HT.tR ht hs pl pu (by rw[hlen];exact hw) ?_ (by rw[hlen];exact hz);rw[hlen];refine⟨.ref s.heap.objs.size,_,I.laid (t':=s.toks) (o:=.tup (FW xs lo hi)) (λb ob q=>jan _ q) (jal _) ?_,M,q _ (I.hok.fresh (jal _))⟩;exact⟨jaR (vM xs lo hi) hz,_,(r.drop (HT.eZ xs.length 0 lo)).take (HT.eZ xs.length xs.length hi - HT.eZ xs.length 0 lo),IsTup.new _ _⟩
def Za (K:Frag):R2:=λx y H Q=>∃a b xs ys,x=.ref a/\y=.ref b/\ko K H a xs/\ko K H b ys/\xs≠[]/\xs.length+ys.length<=sizeLine/\
 (ys=[]->Q (.ref a) H)/\(ys≠[]->∀p,H p=none->Q (.ref p) (upd H p (.tup (xs++ys))))
theorem Vals.d9 {xs:List V}{us:jcS}(r:Vals xs us):us=[]↔xs=[]:=by
 cases r with
 |nil=>simp
 |cons _ _=>simp
theorem Rz:n5 X (binaryOp .Add) (Za X.K):=by
 intro vy s U H x y v u Q I rx ry h;obtain⟨a,b,xs,ys,rfl,rfl,ha,hb,hx,hz,q1,q2⟩:=h;cases rx;cases ry;obtain⟨AC,r1,p1,_⟩:=I.tuple ha;obtain⟨its2,r2,p2,_⟩:=I.tuple hb;refine HT.Sv p1 p2 (λz=>hx (r1.d9.mp z)) (λz=>⟨.ref a,H,I,M,q1 (r2.d9.mp z)⟩) (λz=>?_) (by rw[<- r1.length,<- r2.length];exact hz);refine⟨.ref s.heap.objs.size,_,I.laid (t':=s.toks) (o:=.tup (xs++ys)) (λb ob q=>jan _ q) (jal _) ?_,M,q2 (λw=>z (r2.d9.mpr w)) _ (I.hok.fresh (jal _))⟩;exact⟨by rw[jaf];exact hz,_,r1.append r2,IsTup.new _ _⟩
end
noncomputable def R7 (n:Nat)(i:Int):Option Nat:=if 0<=i then(if i<n then some i.toNat else none) else if -(n:Int)<=i then some (i+n).toNat else none
noncomputable def mO {α:Type}(xs:List α)(i:Int):Option α:=(R7 xs.length i).bind λj=>xs[j]?
theorem JQ {n:Nat}{i:Int}{j:Nat}(h:R7 n i=some j):seqIndex? i n=some j/\j<n/\-(n:Int)<=i/\i<n:=by
 unfold R7 at h;by_cases h0:0<=i
 .rw[jae h0] at h;by_cases h1:i<n
  .rw[jae h1] at h;have e:i.toNat=j:=ja2 h;exact⟨by rw[seqIndex_of h0 h1,e],by omega,by omega,h1⟩
  .rw[jad h1] at h;cases h
 .rw[jad h0] at h;by_cases h1:-(n:Int)<=i
  .rw[jae h1] at h;have e:(i+n).toNat=j:=ja2 h;exact⟨by rw[seqIndex_neg (by omega) h1,e],by omega,h1,by omega⟩
  .rw[jad h1] at h;cases h
theorem DE {α:Type}{xs:List α}{i:Int}{v:α}(h:mO xs i=some v):∃j,seqIndex? i xs.length=some j/\xs[j]?=some v/\j<xs.length/\-(xs.length:Int)<=i/\i<xs.length:=by
 unfold mO at h;cases e:R7 xs.length i with
 |none=>rw[e] at h;cases h
 |some j=>
  rw[e] at h;obtain⟨h1,h2,h3,h4⟩:=JQ e;exact⟨j,h1,h,h2,h3,h4⟩
theorem iU {α:Type}{xs:List α}{j:Nat}{v:α}(h:xs[j]?=some v):mO xs (j:Int)=some v:=by
 have hj:j<xs.length:=(jao.mp h).1;have e:R7 xs.length (j:Int)=some j:=by
  unfold R7;rw[jae (by omega),jae (by omega)];simp
 unfold mO;rw[e];exact h
def KG (b:Expr):Prop:=∀o i,subscripted b false o i=operate [o,i] (getItem o i)
def P6 (X:Cx)(r:R2):Prop:=
 ∀(value slice:Expr)(vy:jcO) (s:Shared) (U:St) (H:Hp) (x y:V) (v u:Value) (Q:VK),Inv X vy U H s->RelV x v->RelV y u->r x y H Q->
  subscripted slice false v u=operate [v,u] (getItem v u)->wpAny (model X.prog X.w) X.A (subscriptTail value slice v u) (EP X vy U Q) X.xe s
def Gk (X:Cx)(id:String)(r:V->List V->Hp->VK->Prop):Prop:=
 ∀(vy:jcO) (s:Shared) (U:St) (H:Hp) (x:V) (xs:List V) (v:Value) (us:jcS) (Q:VK),Inv X vy U H s->RelV x v->Vals xs us->r x xs H Q->
  wpAny (model X.prog X.w) X.A (call (.builtin id) (v::us)) (EP X vy U Q) X.xe s
section
variable {X:Cx}{a b:Expr}{ta tb:TE}{pos:Pos}
theorem P6.or {r r':R2}(h:P6 X r)(h':P6 X r'):P6 X (λx y H Q=>r x y H Q\/r' x y H Q):=by
 intro value slice vy s U H x y v u Q I rx ry q hs;rcases q with q | q
 .exact h value slice vy s U H x y v u Q I rx ry q hs
 .exact h' value slice vy s U H x y v u Q I rx ry q hs
theorem Gk.or {id:String}{r r':V->List V->Hp->VK->Prop}(h:Gk X id r)(h':Gk X id r'):Gk X id (λx xs H Q=>r x xs H Q\/r' x xs H Q):=by
 intro vy s U H x xs v us Q I rx rs q;rcases q with q | q
 .exact h vy s U H x xs v us Q I rx rs q
 .exact h' vy s U H x xs v us Q I rx rs q
theorem Zm {r:R2}(hr:P6 X r)(ha:PE X a ta)(hb:PE X b tb)(hs:KG b):PE X (.Subscript a b pos) (Yx r ta tb):=by
 intro vy s U H Q I h;exact Subscript_ (Xx ha hb I h λv u s2 x y H2 I2 rx ry q=>hr a b vy s2 U H2 x y v u Q I2 rx ry q (hs _ _))
def Y8 (K:Frag):R2:=λx y H Q=>∃p xs i v,x=.ref p/\y=.int i/\mJ K H p xs/\mO xs i=some v/\Q v H
def Y6 (K:Frag):R2:=λx y H Q=>∃p xs i v,x=.ref p/\y=.int i/\ko K H p xs/\mO xs i=some v/\Q v H
def Y7:R2:=λx y H Q=>∃z i c,x=.str z/\y=.int i/\z.length<=sizeLine/\mO z.cps.toList i=some c/\Q (.str ⟨#[c]⟩) H
theorem R6:P6 X (Y8 X.K):=by
 intro value slice vy s U H x y v u Q I rx ry h hs;obtain⟨p,xs,i,z,rfl,rfl,hq,he,q⟩:=h;cases rx;obtain⟨t,rfl⟩:=ry;obtain⟨AC,r,pl,hz⟩:=I.list hq;obtain⟨j,h1,h2,h3,h4,h5⟩:=DE he;obtain⟨w,ew,rw'⟩:=r.get h2;have hl:=r.length;have hn:=pe;have fin:EP X vy U Q w s:=⟨z,H,I,rw',q⟩
 by_cases h0:0<=i
 .have hj:i.toNat=j:=by
   rw[seqIndex_of h0 h5] at h1;exact ja2 h1
  exact item_listR pl.isList h0 (by omega) (by rw[hj];simpa using ew) fin hs
 .have hj:(i+(AC.toArray.size:Int)).toNat=j:=by
   rw[seqIndex_neg (by omega) h4] at h1;rw[jaw,<- hl];exact ja2 h1
  exact subscriptTail_builtinR (x:=w) pl.isList.typeIs slot_list_getitem.lookup
   (wpAny_getItem_list_neg (Q:=λr s'=>r=w/\EP X vy U Q r s') pl.isList (by omega) (by rw[jaw]<;>omega) (by omega) (by rw[hj];simpa using ew) ⟨M,fin⟩) hs
theorem WO:P6 X (Y6 X.K):=by
 intro value slice vy s U H x y v u Q I rx ry h hs;obtain⟨p,xs,i,z,rfl,rfl,hq,he,q⟩:=h;cases rx;obtain⟨t,rfl⟩:=ry;obtain⟨AC,r,pl,hz⟩:=I.tuple hq;obtain⟨j,h1,h2,h3,h4,h5⟩:=DE he;obtain⟨w,ew,rw'⟩:=r.get h2;have hl:=r.length;have hn:=pe;have fin:EP X vy U Q w s:=⟨z,H,I,rw',q⟩
 exact subscriptTail_builtinR (x:=w) pl.typeIs slot_tuple_getitem.lookup
  (getItem_tuple (j:=j) (Q:=λr s'=>r=w/\EP X vy U Q r s') pl (by omega) (by omega) (by rw[jaw,<- hl];exact h1) (by simpa using ew) ⟨M,fin⟩) hs
theorem WQ:P6 X Y7:=by
 intro value slice vy s U H x y v u Q I rx ry h hs;obtain⟨z,i,c,rfl,rfl,hz,he,q⟩:=h;obtain⟨t,rfl⟩:=rx;obtain⟨t',rfl⟩:=ry;obtain⟨j,h1,h2,h3,h4,h5⟩:=DE he;have hl:z.cps.toList.length=z.length:=by simp[Str.length]
 rw[hl] at h1 h4 h5;have hn:=pe;exact tail_any (typeIs_str s z t) slot_str_getitem.lookup (getItem_str (c:=c) (by
  have e1:decide (i < -(2 ^ 63:Int))=false:=jat (by omega);have e2:decide (i ≥ 2 ^ 63)=false:=jat (by omega);rw[e1,e2,Bool.or_false]) (by rw[h1];simpa using h2) ⟨.str ⟨#[c]⟩,H,I.tok _,⟨_,M⟩,q⟩) hs
def rIx (K:Frag):R2:=λx y H Q=>Y8 K x y H Q\/Y6 K x y H Q\/Y7 x y H Q
theorem WR:P6 X (rIx X.K):=R6.or (WO.or WQ)
theorem HE (AC:jcS)(n j:Nat)(u:Value):Obj.mapSeq (·.setIfInBounds j u) {cls:=.type "list",data:=.seq AC.toArray n }={cls:=.type "list",data:=.seq (AC.set j u).toArray n }:=by
 simp[Obj.mapSeq]
theorem Inv.lst {vy:jcO}{U:St}{H:Hp}{s:Shared}{p:Addr}{xs:List V}(I:Inv X vy U H s)(h:H p=some (.lst xs)) :
  ∃(AC:jcS)(n:Nat),Vals xs AC/\s.heap.get? p=some {cls:=.type "list",data:=.seq AC.toArray n }/\xs.length<=sizeLine:=by
 obtain⟨z,AC,n,r,e⟩:=I.hok p _ h;exact⟨AC,n,r,e,z⟩
theorem Inv.Ws {vy:jcO}{U:St}{H:Hp}{s:Shared}{p:Addr}{xs ys:List V}{AC its':jcS}{n n':Nat}{f:Obj->Obj}(I:Inv X vy U H s)(h:H p=some (.lst xs))
  (ho:s.heap.get? p=some {cls:=.type "list",data:=.seq AC.toArray n }) (hf:f {cls:=.type "list",data:=.seq AC.toArray n }={cls:=.type "list",data:=.seq its'.toArray n' }) (r:Vals ys its') (hz:ys.length<=sizeLine) (t:Nat) :
  Inv X vy U (upd H p (.lst ys)) {s with heap:=s.heap.update p f,toks:=t }:=by
 have e:(s.heap.update p f).get? p=some {cls:=.type "list",data:=.seq its'.toArray n' }:=by
  rw[jbo f ho (by rw[hf]<;>rfl),hf]
 refine I.write (x:=p) (e:=p) (by rw[h];trivial) (.inl M) (λb u hb q=>(jbn _ _ (jaO hb)).trans q) ⟨_,e⟩ ?_;exact⟨hz,its',n',r,e⟩
noncomputable def Y5:V->V->V->Hp->(Hp->Prop)->Prop:=λo i v H Q=>∃p xs k j,o=.ref p/\i=.int k/\H p=some (.lst xs)/\R7 xs.length k=some j/\Q (upd H p (.lst (xs.set j v)))
theorem set_list:a0P X Y5:=by
 intro vy s U H o i v ov iv u Q I ro ri rv h;obtain⟨p,xs,k,j,rfl,rfl,hp,hj,q⟩:=h;cases ro;obtain⟨t,rfl⟩:=ri;obtain⟨AC,n,r,ho,hz⟩:=I.lst hp;obtain⟨h1,h2,h3,h4⟩:=JQ hj;have hl:=r.length;have hn:=pe;have I':Inv X vy U (upd H p (.lst (xs.set j v))) {s with heap:=s.heap.update p (Obj.mapSeq (·.setIfInBounds j u)) }:=
  I.Ws hp ho (HE AC n j u) (r.set rv j) (by rw[jaE];exact hz) s.toks
 by_cases h0:0<=k
 .have hk:k.toNat=j:=by
   rw[seqIndex_of h0 h4] at h1;exact ja2 h1
  exact PySem.W.ki_setAt ho h0 (by omega) (by rw[jaw,<- hl];exact h4) (by rw[hk];exact⟨_,I',q⟩)
 .have hk:(k+(AC.toArray.size:Int)).toNat=j:=by
   rw[seqIndex_neg (by omega) h3] at h1;rw[jaw,<- hl];exact ja2 h1
  exact PySem.W.ki_setBack ho (by omega) (by rw[jaw,<- hl];exact h3) (by omega) (by rw[hk];exact⟨_,I',q⟩)
theorem B0 (lo hi:Option Int)(n:Nat):(sliceBounds lo hi none n).1=((HT.eZ n 0 lo:Nat):Int)/\(sliceBounds lo hi none n).2.1=((HT.eZ n n hi:Nat):Int)/\(sliceBounds lo hi none n).2.2=1:=by
 refine⟨?_,?_,M⟩
 .cases lo with
  |none=>simp[sliceBounds,HT.eZ]
  |some i=>
   simp only[sliceBounds,HT.eZ,Option.getD_none,show(1:Int) > 0 by decide,ja4];by_cases h:i<0
   .simp only[h,ja4]<;>omega
   .simp only[h,jaH]<;>omega
 .cases hi with
  |none=>simp[sliceBounds,HT.eZ]
  |some i=>
   simp only[sliceBounds,HT.eZ,Option.getD_none,show(1:Int) > 0 by decide,ja4];by_cases h:i<0
   .simp only[h,ja4]<;>omega
   .simp only[h,jaH]<;>omega
theorem zT (AC:jcS)(lo hi:Option Int):slicePick AC.toArray lo hi none=((AC.drop (HT.eZ AC.length 0 lo)).take (HT.eZ AC.length AC.length hi - HT.eZ AC.length 0 lo)).toArray:=by
 obtain⟨h1,h2,h3⟩:=B0 lo hi AC.toArray.size;unfold slicePick;rw[h1,h2,h3];simp only[sliceRange_one,pick_run,jaw]<;>rfl
noncomputable def a17 (K:Frag):V->Option Int->Option Int->Hp->VK->Prop:=λx lo hi H Q=>∃a xs,x=.ref a/\mJ K H a xs/\∀p,H p=none->Q (.ref p) (upd H p (.lst (FW xs lo hi)))
theorem Qy:SK X (a17 X.K):=by
 intro vy s U H x v vl vu lo hi sl Q I rx hs pl pu h;obtain⟨a,xs,rfl,hx,q⟩:=h;cases rx;obtain⟨AC,r,ht,hz⟩:=I.list hx;have hlen:=r.length;refine⟨"list",_,slot_list_getitem.lookup,ht.isList.typeIs,?_⟩;refine wpAny_getItem_list_slice ht.isList hs pl pu .none (by simp) ?_ (by rw[jaw]<;>omega);rw[zT,<- hlen];refine⟨.ref s.heap.objs.size,_,I.laid (t':=s.toks) (o:=.lst (FW xs lo hi)) (λb ob q=>jan _ q) (jal _) ?_,M,q _ (I.hok.fresh (jal _))⟩;exact⟨jaR (vM xs lo hi) hz,_,0,(r.drop (HT.eZ xs.length 0 lo)).take (HT.eZ xs.length xs.length hi - HT.eZ xs.length 0 lo),jaz _ M⟩
noncomputable def gQ:V->Bool
 |.eN=>true
 |.bl _=>true
 |.int _=>true
 |.str _=>true
 |_=>false
noncomputable def HZ:V->V->Bool
 |.eN,.eN=>true
 |.bl a,.bl b=>a==b
 |.bl a,.int b=>(if a then 1 else 0)==b
 |.int a,.bl b=>a==(if b then 1 else 0)
 |.int a,.int b=>a==b
 |.str a,.str b=>a==b
 |_,_=>false
theorem H9 {A:Around}{s:Shared}{y x:V}{u v:Value}(ry:RelV y u)(rx:RelV x v)(fy:gQ y=true)(fx:gQ x=true):SeqAt.EqAt A s u v (HZ y x):=by
 cases y with
 |eN=>
  cases ry;cases x with
  |eN=>cases rx;exact SeqAt.EqAt.same _
  |bl b=>cases rx;exact SeqAt.EqAt.none_bool b
  |int b=>obtain⟨t,rfl⟩:=rx;exact SeqAt.EqAt.none_int b t
  |str b=>obtain⟨t,rfl⟩:=rx;exact SeqAt.EqAt.none_str b t
  |_=>exact absurd (show false=true from fx) jaL
 |bl a=>
  cases ry;cases x with
  |eN=>cases rx;exact SeqAt.EqAt.bool_none a
  |bl b=>cases rx;exact SeqAt.EqAt.bool_bool a b
  |int b=>obtain⟨t,rfl⟩:=rx;exact SeqAt.EqAt.bool_int a b t
  |str b=>obtain⟨t,rfl⟩:=rx;exact SeqAt.EqAt.bool_str a b t
  |_=>exact absurd (show false=true from fx) jaL
 |int a=>
  obtain⟨t',rfl⟩:=ry;cases x with
  |eN=>cases rx;exact SeqAt.EqAt.int_none a t'
  |bl b=>cases rx;exact SeqAt.EqAt.int_bool a t' b
  |int b=>obtain⟨t,rfl⟩:=rx;exact SeqAt.EqAt.int_int a t' b t
  |str b=>obtain⟨t,rfl⟩:=rx;exact SeqAt.EqAt.int_str a t' b t
  |_=>exact absurd (show false=true from fx) jaL
 |str a=>
  obtain⟨t',rfl⟩:=ry;cases x with
  |eN=>cases rx;exact SeqAt.EqAt.str_none a t'
  |bl b=>cases rx;exact SeqAt.EqAt.str_bool a t' b
  |int b=>obtain⟨t,rfl⟩:=rx;exact SeqAt.EqAt.str_int a t' b t
  |str b=>obtain⟨t,rfl⟩:=rx;exact SeqAt.EqAt.str_str a t' b t
  |_=>exact absurd (show false=true from fx) jaL
 |_=>exact absurd (show false=true from fy) jaL
noncomputable def H8 (x:V)(u:Value):Bool:=match u with
 |.none=>HZ .eN x
 |.bool b=>HZ (.bl b) x
 |.int i _=>HZ (.int i) x
 |.str z _=>HZ (.str z) x
 |_=>false
theorem OO {x y:V}{u:Value}(r:RelV y u)(f:gQ y=true):H8 x u=HZ y x:=by
 cases y with
 |eN=>cases r;rfl
 |bl b=>cases r;rfl
 |int i=>obtain⟨t,rfl⟩:=r;rfl
 |str z=>obtain⟨t,rfl⟩:=r;rfl
 |_=>exact absurd (show false=true from f) jaL
theorem uc {x:V}:∀{xs:List V}{us:jcS},Vals xs us->xs.all gQ=true->us.any (H8 x)=xs.any λy=>HZ y x
 |_,_,.nil,_=>rfl
 |y::xs,u::us,.cons r t,f=>by
  rw[List.all_cons,jaU] at f;rw[jbS,jbS,OO r f.1,uc t f.2]
theorem o9 {A:Around}{s:Shared}{x:V}{v:Value}(rx:RelV x v)(fx:gQ x=true):∀{xs:List V}{us:jcS},Vals xs us->xs.all gQ=true->∀u∈us,SeqAt.EqAt A s u v (H8 x u)
 |_,_,.nil,_=>λu hu=>by cases hu
 |y::xs,u::us,.cons r t,f=>λu' hu=>by
  rw[List.all_cons,jaU] at f;rcases jag.mp hu with rfl | hu
  .rw[OO r f.1];exact H9 r rx f.1 fx
  .exact o9 rx fx t f.2 u' hu
noncomputable def R8 (x:V)(xs:List V):Bool:=xs.any λy=>HZ y x
def rIn (K:Frag)(neg:Bool):R2:=λx y H Q=>∃p xs,y=.ref p/\(mJ K H p xs\/ko K H p xs)/\gQ x=true/\xs.all gQ=true/\Q (.bl (if neg then !R8 x xs else R8 x xs)) H
theorem K5:n5 X (compareOp .In) (rIn X.K false):=by
 intro vy s U H x y v u Q I rx ry h;obtain⟨p,xs,rfl,hq,fx,fs,q⟩:=h;cases ry;rcases hq with hq | hq
 .obtain⟨AC,r,pl,hz⟩:=I.list hq;refine SeqAt.in_listAt (H8 x) pl.isList (λw hw=>o9 rx fx r fs w (by simpa using hw)) ⟨.bl _,H,I,M,?_⟩;rw[show AC.toArray.any (H8 x)=AC.any (H8 x) by simp,uc r fs];exact q
 .obtain⟨AC,r,pl,hz⟩:=I.tuple hq;refine SeqAt.in_tupleAt (H8 x) pl (λw hw=>o9 rx fx r fs w (by simpa using hw)) ⟨.bl _,H,I,M,?_⟩;rw[show AC.toArray.any (H8 x)=AC.any (H8 x) by simp,uc r fs];exact q
theorem CI:n5 X (compareOp .NotIn) (rIn X.K true):=by
 intro vy s U H x y v u Q I rx ry h;obtain⟨p,xs,rfl,hq,fx,fs,q⟩:=h;cases ry;rcases hq with hq | hq
 .obtain⟨AC,r,pl,hz⟩:=I.list hq;refine SeqAt.notIn_listAt (H8 x) pl.isList (λw hw=>o9 rx fx r fs w (by simpa using hw)) ⟨.bl _,H,I,M,?_⟩;rw[show AC.toArray.any (H8 x)=AC.any (H8 x) by simp,uc r fs];exact q
 .obtain⟨AC,r,pl,hz⟩:=I.tuple hq;refine SeqAt.notIn_tupleAt (H8 x) pl (λw hw=>o9 rx fx r fs w (by simpa using hw)) ⟨.bl _,H,I,M,?_⟩;rw[show AC.toArray.any (H8 x)=AC.any (H8 x) by simp,uc r fs];exact q
theorem Dz:fm X (.builtin "len") (λxs H Q=>∃p ys,xs=[.ref p]/\(mJ X.K H p ys\/ko X.K H p ys)/\Q (.int ys.length) H):=by
 intro vy s U H xs us Q I r h;obtain⟨p,ys,rfl,hq,q⟩:=h;obtain⟨u,rfl,rx⟩:=vals1 r;cases rx;have hn:=pe;rcases hq with hq | hq
 .obtain⟨AC,r',pl,hz⟩:=I.list hq;have hlen:=r'.length;exact Calls.call_len_list pl.isList (by simp only[jaw]<;>omega) ⟨.int ys.length,H,I.tok _,⟨s.toks+1,by rw[jaw,hlen]⟩,q⟩
 .obtain⟨AC,r',pl,hz⟩:=I.tuple hq;have hlen:=r'.length;exact len_tuple pl (by simp only[jaw]<;>omega) ⟨.int ys.length,H,I.tok _,⟨s.toks+1,by rw[jaw,hlen]⟩,q⟩
theorem Dy:fm X (.builtin "len") (λxs H Q=>∃z,xs=[.str z]/\z.length<=sizeLine/\Q (.int z.length) H):=by
 intro vy s U H xs us Q I r h;obtain⟨z,rfl,hz,q⟩:=h;obtain⟨u,rfl,t,rfl⟩:=vals1 r;have hn:=pe;exact len_str (by omega) ⟨.int z.length,H,I.tok _,⟨_,M⟩,q⟩
theorem fm.or {f:Value}{r r':List V->Hp->VK->Prop}(h:fm X f r)(h':fm X f r'):fm X f (λxs H Q=>r xs H Q\/r' xs H Q):=by
 intro vy s U H xs us Q I rs q;rcases q with q | q
 .exact h vy s U H xs us Q I rs q
 .exact h' vy s U H xs us Q I rs q
theorem tZ:fm X (.type "list") (λxs H Q=>∃p ys,xs=[.ref p]/\(mJ X.K H p ys\/ko X.K H p ys)/\∀l,H l=none->Q (.ref l) (upd H l (.lst ys))):=by
 intro vy s U H xs us Q I r h;obtain⟨p,ys,rfl,hq,q⟩:=h;obtain⟨u,rfl,rx⟩:=vals1 r;cases rx;have fin:∀(AC:jcS),Vals ys AC->ys.length<=sizeLine->∀(h':Heap)(c':Nat),(∀b o',s.heap.get? b=some o'->h'.get? b=some o')->
   h'.get? s.heap.objs.size=some {cls:=.type "list",dict:=none,data:=.seq AC.toArray c',slots:=#[] }->EP X vy U Q (.ref s.heap.objs.size) {s with heap:=h' }:=λAC r' hz h' c' kp e=>
  ⟨.ref s.heap.objs.size,_,I.laid (t':=s.toks) kp (jal _) (show cT X.prog X.w _ h' _ (.lst ys) from⟨hz,AC,c',r',e⟩),M,q _ (I.hok.fresh (jal _))⟩
 rcases hq with hq | hq
 .obtain⟨AC,r',pl,hz⟩:=I.list hq;have hlen:=r'.length;obtain⟨o,ho,hc,n,hd⟩:=pl.isList;exact call_list_seq p (.inl M) ho hc hd (λh' c' kp e=>fin AC r' hz h' c' kp e) (by simp only[jaw]<;>omega)
 .obtain⟨AC,r',pl,hz⟩:=I.tuple hq;have hlen:=r'.length;obtain⟨o,ho,hc,n,hd⟩:=pl;exact call_list_seq p (.inr M) ho hc hd (λh' c' kp e=>fin AC r' hz h' c' kp e) (by simp only[jaw]<;>omega)
theorem Aq:fm X (.type "tuple") (λxs H Q=>∃p ys,xs=[.ref p]/\((mJ X.K H p ys/\∀l,H l=none->Q (.ref l) (upd H l (.tup ys)))\/(ko X.K H p ys/\Q (.ref p) H))):=by
 intro vy s U H xs us Q I r h;obtain⟨p,ys,rfl,h⟩:=h;obtain⟨u,rfl,rx⟩:=vals1 r;cases rx;rcases h with⟨hq,q⟩ | ⟨hq,q⟩
 .obtain⟨AC,r',pl,hz⟩:=I.list hq;have hlen:=r'.length;refine call_tuple_list pl.isList (λh' kp=>?_) (by simp only[jaw]<;>omega);have I1:Inv X vy U H {s with heap:=h' }:=I.kept (t':=s.toks) kp;have I2:Inv X vy U (upd H h'.objs.size (.tup ys)) {s with heap:=h'.push {cls:=.type "tuple",data:=.seq AC.toArray } }:=
   I1.laid (t':=s.toks) (λb o e=>jan _ e) (jal _) (show cT X.prog X.w _ _ _ (.tup ys) from⟨hz,AC,r',IsTup.new _ _⟩)
  exact⟨.ref h'.objs.size,_,I2,M,q _ (I1.hok.fresh (jal _))⟩
 .obtain⟨AC,r',pl,hz⟩:=I.tuple hq;exact call_tuple_same pl ⟨.ref p,H,I,M,q⟩
def tyV (K:Frag)(T:String)(x:V)(H:Hp):Prop:=match x with
 |.str _=>T="str"
 |.int _=>T="int"
 |.ref p=>(T="list"/\∃xs,mJ K H p xs)\/(T="tuple"/\∃o,K.lookup p=some o/\o.cls=.type "tuple"/\o.dict=none)\/
   (T="dict"/\((∃kvs,H p=some (.dK kvs))\/∃kvs,H p=some (.dT kvs)))\/(T="set"/\∃S n,H p=some (.set S n))
 |_=>False
theorem UU {vy:jcO}{U:St}{H:Hp}{s:Shared}{T:String}{x:V}{v:Value}(I:Inv X vy U H s)(r:RelV x v)(ty:tyV X.K T x H) :
  s.TypeIs v T/\∀a,v=.ref a->∃ob,s.heap.get? a=some ob/\ob.dict=none:=by
 cases x with
 |str z=>
  obtain⟨t,rfl⟩:=r;cases(show T="str" from ty);exact⟨typeIs_str s z t,λ_ e=>nomatch e⟩
 |int i=>
  obtain⟨t,rfl⟩:=r;cases(show T="int" from ty);exact⟨typeIs_int s i t,λ_ e=>nomatch e⟩
 |ref p=>
  cases r;rcases ty with⟨rfl,xs,hq⟩ | ⟨rfl,o,hk,hc,hd⟩ | ⟨rfl,hk⟩ | ⟨rfl,S,n,hk⟩
  .obtain⟨AC,_,pl,_⟩:=I.list hq;refine⟨pl.isList.typeIs,λa e=>?_⟩;cases e;obtain⟨o,n,e,c,hd,_⟩:=pl;exact⟨o,e,hd⟩
  .refine⟨⟨o,I.uB p o hk,hc⟩,λa e=>?_⟩;cases e;exact⟨o,I.uB _ o hk,hd⟩
  .have z:∃o,s.heap.get? p=some o/\o.ExactDict:=by
    rcases hk with⟨kvs,hk⟩ | ⟨kvs,hk⟩
    .obtain⟨_,_,_,_,o,_,_,e,ex,_⟩:=I.hok p _ hk;exact⟨o,e,ex⟩
    .obtain⟨_,_,_,_,o,_,_,e,ex,_⟩:=I.hok p _ hk;exact⟨o,e,ex⟩
   obtain⟨o,e,ex⟩:=z;refine⟨⟨o,e,ex.1⟩,λa e2=>?_⟩;cases e2;exact⟨o,e,ex.2.1⟩
  .obtain⟨o,_,_,_,e,ex,_⟩:=I.hok p _ hk;refine⟨⟨o,e,ex.1⟩,λa e2=>?_⟩;cases e2;exact⟨o,e,ex.2.1⟩
 |_=>exact False.elim ty
def tBM (K:Frag)(T:String)(r:V->List V->Hp->VK->Prop)(to:TE)(t:TA):TE:=λU H Q=>to U H λx H1=>tyV K T x H1/\t U H1 λxs H2=>r x xs H2 Q
variable {o e:Expr}{es:jcU}{to:TE}{t:TA}{name:Str}{B1 cpos:Pos}{T id:String}{r:V->List V->Hp->VK->Prop}
theorem Zn (pa:PlainAttrs T)(slot:Slot T name id)(hty:typeOf (.builtin id)=pure (.type "method_descriptor"))(hm:Gk X id r)(ho:PE X o to)(ha:PA X (e::es) t)
  (Ap:autoParam (attributeBase o name X.env (eval o X.env)=eval o X.env) zi)
  (hfew:autoParam (((backTo cpos (starEach (e::es) X.env)).all (λx=>!x.1)&&(backToKw cpos (keywordEach [] X.env)).all (λx=>x.1.isSome)
  &&decide ((e::es).length+([]:List Keyword).length+(if([]:List Keyword).isEmpty then 0 else 1)<30))=true) zi)
  (At:autoParam ((B1.endLine==cpos.line)=true) zi) (hs:autoParam (starEach (e::es) X.env=(false,eval e X.env)::starEach es X.env) zi) (hplain:autoParam ((backTo cpos (starEach es X.env)).any (·.1)=false) zi) :
  PE X (.Call (.Attribute o name B1) (e::es) [] cpos) (tBM X.K T r to t):=by
 intro vy s U H Q I h;refine wpAny_Call_method_late Ap hfew At rfl (ez (ho vy s U H _ I h) ?_);rintro v s1 ⟨x,H1,I1,r1,ty,q1⟩;obtain⟨h1,h2⟩:=UU I1 r1 ty;refine⟨T,id,pa,slot,hty,h1,h2,?_⟩;have hA:=ha cpos vy s1 U H1 _ I1 q1;rw[hs] at hA ⊢;refine Calls.callWith_builtin (by show(false||(backTo cpos (starEach es X.env)).any (·.1))=false;rw[hplain]<;>rfl) (Calls.evalArgs_plain ?_);exact ez hA (by rintro us s2 ⟨vs,H2,I2,r2,q2⟩;exact hm vy s2 U H2 x vs v us Q I2 r1 r2 q2)
end
def MtM (X:Cx)(id:String)(r:V->List V->Hp->VK->Prop):Prop:=
 ∀(vy:jcO) (s:Shared) (U:St) (H:Hp) (x:V) (xs:List V) (v:Value) (us:jcS) (Q:VK),Inv X vy U H s->RelV x v->Vals xs us->r x xs H Q->
  wpAny (model X.prog X.w) X.A (call (.builtin id) (v::us)) (EP X vy U Q) X.xe s
theorem Vals.one:∀{x:V}{us:jcS},Vals [x] us->∃u,us=[u]/\RelV x u:=by
 intro x us h;cases h with
 |cons r t=>cases t;exact⟨_,M,r⟩
theorem Vals.two:∀{x y:V}{us:jcS},Vals [x,y] us->∃u v,us=[u,v]/\RelV x u/\RelV y v:=by
 intro x y us h;cases h with
 |cons r t=>
  cases t with
  |cons q t=>cases t;exact⟨_,_,M,r,q⟩
theorem Vals.rep {xs:List V}{us:jcS}(h:Vals xs us):∀k:Nat,Vals (List.replicate k xs).flatten (List.replicate k us).flatten
 |0=>.nil
 |k+1=>by
  rw[jbV,jbV,jbb,jbb];exact Vals.append h (Vals.rep h k)
theorem foldl_rep (AC:jcS):∀(k:Nat)(acc:jcS),
  List.foldl (λx1 x2=>x1++x2) acc.toArray (List.replicate k AC.toArray)=(acc++(List.replicate k AC).flatten).toArray
 |0,acc=>by simp
 |k+1,acc=>by
  have e:acc.toArray++AC.toArray=(acc++AC).toArray:=by simp
  have e2:(acc++AC)++(List.replicate k AC).flatten=acc++(List.replicate (k+1) AC).flatten:=by
   rw[jbV,jbb,jaX]
  rw[<- e2,<- foldl_rep AC k (acc++AC),<- e,jbV,List.foldl_cons]
section
variable {X:Cx}{vy:jcO}{U:St}{H:Hp}{s:Shared}{l b:Addr}{xs ys zs:List V}
theorem Inv.RM {AC its':jcS}{n:Nat}{f:Array Value->Array Value}{t':Nat}(I:Inv X vy U H s)(hH:H l=some (.lst xs))
  (e:s.heap.get? l=some {cls:=.type "list",data:=.seq AC.toArray n }) (hf:f AC.toArray=its'.toArray) (hv:Vals ys its') (hz:ys.length<=sizeLine) :
  Inv X vy U (upd H l (.lst ys)) {s with heap:=s.heap.update l (Obj.mapSeq f),toks:=t' }:=by
 have q:=PySem.IsL.update e f;rw[hf] at q;refine I.write (x:=l) (e:=l) (by rw[hH];exact trivial) (.inl M) (λb' u hb hu=>(jbn s.heap (Obj.mapSeq f) (jaO hb)).trans hu) ⟨_,q⟩ ?_;exact⟨hz,its',_,hv,q⟩
theorem Inv.ZS {AC:jcS}{t':Nat}(I:Inv X vy U H s)(hv:Vals ys AC)(hz:ys.length<=sizeLine) :
  Inv X vy U (upd H s.heap.objs.size (.lst ys)) {s with heap:=s.heap.push {cls:=.type "list",data:=.seq AC.toArray },toks:=t' }:=
 I.laid (λ_ _ q=>jan _ q) (jal _) ⟨hz,AC,0,hv,jaz _ M⟩
theorem Inv.fresh (I:Inv X vy U H s):H s.heap.objs.size=none:=I.hok.fresh (jal _)
theorem Inv.FD (I:Inv X vy U H s)(hH:H l=some (.lst xs)):xs.length<=sizeLine/\∃(AC:jcS)(n:Nat),Vals xs AC/\xs.length=AC.length/\s.heap.get? l=some {cls:=.type "list",data:=.seq AC.toArray n }:=by
 obtain⟨z,AC,n,r,e⟩:=I.hok l _ hH;exact⟨z,AC,n,r,r.length,e⟩
theorem yM {n:Nat}(h:n<=sizeLine):Builtin.List.listTooLong n=false:=by
 unfold Builtin.List.listTooLong;exact jat (by omega)
end
section
variable {X:Cx}
noncomputable def QV:V->List V->Hp->VK->Prop:=λx vs H Q=>∃l xs y,x=.ref l/\vs=[y]/\H l=some (.lst xs)/\xs.length<sizeLine/\Q .eN (upd H l (.lst (xs++[y])))
theorem Lk:MtM X "list.append" QV:=by
 intro vy s U H x vs v us Q I rx rv h;obtain⟨l,xs,y,rfl,rfl,hH,hz,q⟩:=h;cases rx;obtain⟨u,rfl,ru⟩:=rv.one;obtain⟨z,AC,n,r,hl,e⟩:=I.FD hH;refine call_meets F.slot_list_append ⟨_,e,M⟩ F.entry_list_append (F.args_list_append_2 _ _) (PySem.list_append l AC.toArray n u (by rw[jaw];omega)) ⟨e,?_⟩;refine⟨.eN,_,I.RM (its':=AC++[u]) hH e (by simp) (r.append (.cons ru .nil)) ?_,M,q⟩;rw[jaf,jbF];omega
noncomputable def QN:V->List V->Hp->VK->Prop:=λx vs H Q=>∃l b xs zs,x=.ref l/\vs=[.ref b]/\H l=some (.lst xs)/\H b=some (.lst zs)/\xs.length+zs.length<=sizeLine/\Q .eN (upd H l (.lst (xs++zs)))
theorem Lj:MtM X "list.extend" QN:=by
 intro vy s U H x vs v us Q I rx rv h;obtain⟨l,b,xs,zs,rfl,rfl,hH,hB,hz,q⟩:=h;cases rx;obtain⟨u,rfl,ru⟩:=rv.one;cases ru;obtain⟨z,AC,n,r,hl,e⟩:=I.FD hH;obtain⟨z2,its2,n2,r2,hl2,e2⟩:=I.FD hB;have hsz:AC.toArray.size+its2.toArray.size<=sizeLine:=by rw[jaw,jaw];omega
 have FN:¬(!AC.toArray.isEmpty&&Builtin.List.listTooLong (AC.toArray.size+its2.toArray.size))=true:=by
  rw[yM hsz,Bool.and_false];exact jaL
 refine call_meets F.slot_list_extend ⟨_,e,M⟩ F.entry_list_extend (F.args_list_extend_2 _ _)
  (AutoSeq1.list_extend_list_list_0 l AC.toArray n b its2.toArray n2 FN (by rw[jaw];omega) (by omega)) ⟨e,e2,?_⟩
 refine⟨.eN,_,I.RM (its':=AC++its2) hH e (by simp) (r.append r2) ?_,M,q⟩;rw[jaf];omega
def a2c:R2:=λx y H Q=>∃l b xs zs,x=.ref l/\y=.ref b/\H l=some (.lst xs)/\H b=some (.lst zs)/\xs.length+zs.length<=sizeLine/\∀p,H p=none->Q (.ref p) (upd H p (.lst (xs++zs)))
theorem NF:n5 X (binaryOp .Add) a2c:=by
 intro vy s U H x y v u Q I rx ry h;obtain⟨l,b,xs,zs,rfl,rfl,hH,hB,hz,q⟩:=h;cases rx;cases ry;obtain⟨z,AC,n,r,hl,e⟩:=I.FD hH;obtain⟨z2,its2,n2,r2,hl2,e2⟩:=I.FD hB;refine PySem.P.add_list e e2 ?_ (by rw[jaw,jaw];omega);have ea:AC.toArray++its2.toArray=(AC++its2).toArray:=by simp
 rw[ea];exact⟨.ref _,_,I.ZS (t':=s.toks) (r.append r2) (by rw[jaf];omega),M,q _ I.fresh⟩
def a18:R2:=λx y H Q=>∃l k xs,x=.ref l/\y=.int k/\H l=some (.lst xs)/\-(2 ^ 63)<=k/\k<2 ^ 63/\xs.length*k.toNat<=sizeLine/\
 ∀p,H p=none->Q (.ref p) (upd H p (.lst (List.replicate k.toNat xs).flatten))
theorem len_rep {α:Type}(xs:List α)(k:Nat):(List.replicate k xs).flatten.length=k*xs.length:=by
 induction k with
 |zero=>simp
 |succ k ih=>rw[jbV,jbb,jaf,ih,Nat.succ_mul,Nat.add_comm]
theorem V3:n5 X (binaryOp .Mult) a18:=by
 intro vy s U H x y v u Q I rx ry h;obtain⟨l,k,xs,rfl,rfl,hH,h1,h2,hz,q⟩:=h;cases rx;obtain⟨t,rfl⟩:=ry;obtain⟨z,AC,n,r,hl,e⟩:=I.FD hH;have hlen:AC.toArray.size*k.toNat<=sizeLine:=by rw[jaw,<- hl];exact hz
 have hcap:¬ AC.toArray.size*k.toNat > (2 ^ 63 - 1) / 8:=by
  have:(sizeLine:Nat)<=(2 ^ 63 - 1) / 8:=by decide
  omega
 have hfit:¬(!Builtin.List.listFitsIndex k)=true:=by
  rw[fitsIndex_both h1 h2];exact jaL
 have FN:¬ Builtin.List.listTooLong (AC.toArray.size*k.toNat)=true:=by
  rw[yM hlen];exact jaL
 have hnew:List.foldl (λx1 x2=>x1++x2) #[] (List.replicate (if AC.toArray.isEmpty=true then 0 else k.toNat) AC.toArray)=(List.replicate k.toNat AC).flatten.toArray:=by
  have f0:∀m:Nat,List.foldl (λx1 x2=>x1++x2) #[] (List.replicate m AC.toArray)=(List.replicate m AC).flatten.toArray:=λm=>by
   have:=foldl_rep AC m [];rw[List.nil_append] at this;exact this
  rw[f0];cases AC with
  |nil=>simp
  |cons a r'=>rw[jad (by simp)]
 refine wpAny_binaryOp_repeat_ref (T:="list") (U:="int") (by decide) ⟨_,e,M⟩ (λs'=>typeIs_int s' k t) noFill_list_mul F.fills_int_mul F.slot_int_rmul repeat_list F.slot_int_index.lookup
  (call_meets F.slot_int_rmul (typeIs_int s k t) F.entry_int_rmul (F.args_int_rmul_2 _ _) (int___rmul___int_list k t l AC.toArray n)
   ⟨e,M,⟨_,e,M⟩,call_meets F.slot_list_mul ⟨_,e,M⟩ F.entry_list_mul (F.args_list_mul_2 _ _) (AutoListH.list___mul___list_int_3 l AC.toArray n k t hfit hcap FN) ⟨e,?_⟩⟩)
 rw[hnew];exact⟨.ref _,_,I.ZS (t':=s.toks) (r.rep k.toNat) (by rw[len_rep,Nat.mul_comm];exact hz),M,q _ I.fresh⟩
end
section
variable {prog:Program}{w:World}{A:Around}{E:jcP}{s:Shared}
end
section
variable {X:Cx}
end
end L2
namespace Att
open PySem PySem.W PySem.Calls PyProof.Rows
theorem wm {P:Params}{h:Heap}:∀(ns:List Int)(vs:jcS),WellAll P h vs (ns.map WData.int)->IntsAre vs ns:=by
 intro ns
 induction ns with
 |nil=>
  intro vs w;rw[jbC] at w;cases w;exact .nil
 |cons n ns ih=>
  intro vs w;rw[jax] at w;cases w with
  |cons a b=>
   cases a;exact .cons _ _ (ih _ b)
theorem KR {l:OpenLaw}{n:Nat}(hn:l.most=some n){P:Params}{h:Heap}{args:List WData}{vals:jcS}
  (hpre:l.row.toRowW.claim.pre args=true) (hwl:WellAll P h vals args) :
  ∃a vs ns,vals=[Value.ref a]/\args=[WData.list (ns.map WData.int)]/\h.get? a=some {cls:=.type "list",data:=.seq vs.toArray }/\IntsAre vs ns/\ns.length<=n:=by
 have hsh:WShape.hasAll [] args [.list .int]=true:=(pre_splitW hpre).1;have hc:l.pre.holds [] {args:=args }=true:=(pre_splitW hpre).2;obtain⟨d,r,rfl,h1,h2⟩:=hasAllW_cons hsh;obtain rfl:=hasAllW_nil h2;obtain⟨xs,rfl,h3⟩:=hasW_list h1;obtain⟨ns,rfl⟩:=items_int h3;have hlen:ns.length<=n:=by
  unfold OpenLaw.pre at hc;have h4:(WTm.not (.lt (.lit (.int (n:Int))) (.len (.arg 0)))).holds [] {args:=[.list (ns.map .int)] }=true:=by
   have h4:=(holds_andW hc).1;rw[hn] at h4;exact h4
  have h5:=condW_of h4 (w_not (w_lt w_lit (w_len_list (w_arg M))));rw[jab] at h5;refine Nat.le_of_not_lt λq=>?_;have q':(n:Int)<((ns.length:Nat):Int):=by omega
  first
   |(rw[jaF q'] at h5;exact absurd h5 (by decide))
   |(simp at h5;omega)
 cases hwl with
 |cons w1 w2=>
  cases w2;cases w1 with
  |list ho hall=>exact⟨_,_,ns,M,M,ho,wm ns _ hall,hlen⟩
theorem K1 (l:OpenLaw)(args:List WData):l.row.toRowW.claim.post args (.bool true) args=true:=
 postW_of (r:=l.row.toRowW) (X:=(true==true))
  (show WShape.has [] (.bool true) .bool=true by first | rfl | decide | simp[WShape.has,WShape.arms,WShape.armsAll])
  (show(WTm.eq .res (.lit (.bool true))).value [] {args:=args,res:=some (.bool true),after:=args }=some (.bool (true==true)) from w_eq_bool (w_res M) w_lit) rfl
theorem Gh {l:OpenLaw}{n:Nat}{q:Program}{loose:jcR}{XP:(Str->jcW)->Heap->Prop}{YP:World->Heap->Prop}{d:DefRec}
  (hn:l.most=some n) (hdf:d.params.defaults=[])
  (call:∀(w:World)(s₀ s₁:Shared)(mg mb:Str->jcW)(fa:Addr)(o:Obj)(pm cd doc:Value)(a:Addr) (vs:jcS) (ns:List Int),
   Ground q loose [] XP w s₀ mg mb s₁.heap->YP w s₁.heap->
   s₁.heap.get? fa=some o->o.data=.func (docDef d.name d.params d.body d.scope pm cd doc)->s₁.heap.CodeRec cd d.name->mg d.name=some (.ref fa)->
   s₁.heap.get? a=some {cls:=.type "list",data:=.seq vs.toArray }->IntsAre vs ns->ns.length<=n->s₁.gens=#[]->
   codeAny (model l.prog w) callerA (.call (.ref fa) ⟨[.ref a],[]⟩) (λr s'=>r=.ok (.ret (.bool true))/\OldK s₁.heap s'.heap/\s'.os=s₁.os/\AllBare s'.gens) s₁) :
  WalkO q loose XP YP l.row.toRowW d [] (λf vs=>PySem.call f vs):=by
 intro w s₀ s₁ mg mb G QR fa o pm cd doc dV kV ho hd hcd hD hmg hg args vals as hpre hlay hrd hwl hlo;obtain rfl:dV=.none:=Dflts.none hD hdf;obtain rfl:kV=.none:=Dflts.noKw hD;obtain⟨a,vs,ns,rfl,rfl,hobj,hints,hlen⟩:=KR hn hpre hwl;refine enter_call (jbN (call w s₀ s₁ mg mb fa o pm cd doc a vs ns G QR ho (fd_plain hd) hcd hmg hobj hints hlen hg) λr s' hq=>?_);obtain⟨rfl,h2,h3,h4⟩:=hq;exact⟨.inl ⟨.bool true,.bool true,[],M,λ_=>rfl,.bool true,K1 l _,λ_=>⟨List.Pairwise.nil,λ_ hm=>(nomatch hm)⟩⟩,h2,h3,h4⟩
section
variable {prog:Program}{w:World}{A:Around}{E:jcP}{s:Shared}{K:Frag}
end
end Att
namespace L2
open PySem PySem.Spec PyProof.Rows
theorem AZ:∀{vs:jcS}{ns:List Int},IntsAre vs ns->Vals (ns.map V.int) vs
 |_,_,.nil=>.nil
 |_,_,.cons n t h=>.cons ⟨t,M⟩ (AZ h)
def XI (H:Hp):Prop:=∀b,H b=none\/∃o xs,H b=some (.HX o (.lst xs))
theorem N6 {P:Program}{w:World}{K:Frag}{mg mb:Str->jcW}{CX:KH}{k:Nat}{fa a:Addr}{fd:FuncData}{x:Str}{sp:Sp}{s₁:Shared}{vs:jcS}{ns:List Int}
  (KX:K.In s₁.heap) (hns:s₁.heap.Ns mainGlobals mg) (hb:s₁.heap.Ns builtinsNs mb) (hbb:∀x:Str,x≠"__name__"->mb x=bootBuiltins x) (hlim:s₁.heap.NoLimit) (hg:s₁.gens=#[])
  (ha:s₁.heap.get? a=some {cls:=.type "list",data:=.seq vs.toArray }) (hi:IntsAre vs ns) (hl:ns.length<=sizeLine) (hr:dW k callerA)
  (F:∀base:Heap,K.In base->base.Ns mainGlobals mg->az P w K mg base CX k fa fd [x] sp) (hbind:∀(s:Shared)(u:Value),BindsTo s fd ⟨[u],[]⟩ [(x,u)])
  (Uj:∀H:Hp,XI H->mJ K H a (ns.map V.int)->sp [.ref a] H (λv _=>v=.bl true) λ_ _ _=>False)
  (hCX:∀H e s',CX [] H s₁ (λ_ _ _=>False) e s'->False) :
  codeAny (model P w) callerA (.call (.ref fa) ⟨[.ref a],[]⟩) (λr s'=>r=.ok (.ret (.bool true))/\OldK s₁.heap s'.heap/\s'.os=s₁.os/\AllBare s'.gens) s₁:=by
 have rv:=AZ hi;have a2w:=hi.length;have core:∀H:Hp,XI H->mJ K H a (ns.map V.int)->sI P w H s₁.heap->(∀b,H b≠none->b=a)->(H a≠none->K.lookup a=none)->
   codeAny (model P w) callerA (.call (.ref fa) ⟨[.ref a],[]⟩) (λr s'=>r=.ok (.ret (.bool true))/\OldK s₁.heap s'.heap/\s'.os=s₁.os/\AllBare s'.gens) s₁:=by
  intro H hO hS hok hA hK;have Kw:∀{b:Addr}{o:Obj},s₁.heap.get? b=some o->H b=none->(Di s₁.heap H).get? b=some o:=λe n=>Oo e n;have ZG:∀{b:Addr}{o:Obj}{es:Array DictEntry}{ep:Nat},s₁.heap.get? b=some o->o.data=.dict es ep->H b=none:=λ{b o es ep} e d=>by
   cases q:H b with
   |none=>rfl
   |some u=>
    have e':b=a:=hA b (by rw[q];simp);subst e';rw[ha] at e;cases e;have d':Data.seq vs.toArray _=Data.dict es ep:=d;cases d'
  have nsK:∀{b:Addr}{m:Str->jcW},s₁.heap.Ns b m->(Di s₁.heap H).Ns b m:=λ{b m} ⟨o,es,ep,e,d,r⟩=>⟨o,es,ep,Kw e (ZG e d),d,r⟩
  have hKb:K.In (Di s₁.heap H):=λb o e=>Kw (KX b o e) (by
   cases q:H b with
   |none=>rfl
   |some u=>
    have e':b=a:=hA b (by rw[q];simp);subst e';rw[hK (by rw[q];simp)] at e;cases e)
  have hM:Mod K mg (Di s₁.heap H):=⟨hKb,nsK hns,⟨mb,nsK hb,hbb⟩,let⟨mc,h1,h2⟩:=hlim;⟨mc,nsK h1,h2⟩⟩
  have e0:IC P w K mg (Di s₁.heap H) callerA [] s₁ H:=⟨M,hM,λb o e=>RD e,Nat.le_of_eq (Lu _ _),trivial,λb hb=>absurd (show b∈([]:jcT) from hb) (by simp),hok,.of_eq hg⟩
  refine jbN ((F _ hKb (nsK hns)).run callerA [] s₁ H ⟨[.ref a],[]⟩ [.ref a] [.ref a] _ _ hr e0 (hbind s₁ (.ref a)) (.cons rfl .nil) (Uj H hO hS)) λr s' h=>?_;cases r with
  |error e=>exact(hCX H e s' h).elim
  |ok fl=>
   cases fl with
   |next=>exact False.elim h
   |brk=>exact False.elim h
   |cont=>exact False.elim h
   |ret u=>
    obtain⟨v,H',os,bare,un,a2V,r',q⟩:=h;have q':v=.bl true:=q;subst q';obtain rfl:u=Value.bool true:=r';refine⟨M,OldK.of_keep λb o e=>?_,os,bare⟩;cases q:H b with
    |none=>exact un.keep b o e q (by intro z;exact absurd (show b∈([]:jcT) from z) (by simp)) (by simp)
    |some u=>
     rcases hO b with z | ⟨ob,xs,z⟩
     .rw[q] at z;cases z
     .have z2:=un.Ak b ob _ z;obtain⟨e1,_⟩:=hok b _ z;obtain⟨e2,_⟩:=a2V b _ z2;rw[e] at e1;cases e1;exact e2
 cases hk:K.lookup a with
 |some o=>
  have e:=KX a o hk;rw[ha] at e;cases e;refine core (λ_=>none) (λ_=>.inl M) (.inr ⟨_,vs.toArray,_,hk,M,M,M,by rw[jaw,a2w];exact hl,by simpa using rv⟩) (λb u z=>by have z':(none:Option HO)=some u:=z;cases z') (λb z=>absurd rfl z) λz=>absurd rfl z
 |none=>
  refine core (λb=>if b=a then some (.HX {cls:=.type "list",data:=.seq vs.toArray } (.lst (ns.map V.int))) else none) (λb=>?_) (.inl (.inr ⟨{cls:=.type "list",data:=.seq vs.toArray },jae M⟩)) (λb u z=>?_) (λb z=>?_) λ_=>hk
  .by_cases hb:b=a
   .exact .inr ⟨_,_,jae hb⟩
   .exact .inl (jad hb)
  .by_cases hb:b=a
   .have z':=(jae hb).symm.trans z;cases z';subst hb;exact⟨ha,by rw[jab];exact hl,vs,_,rv,ha⟩
   .have z':=(jad hb).symm.trans z;cases z'
  .by_cases hb:b=a
   .exact hb
   .exact absurd (jad hb) z
theorem Qe {l:OpenLaw}{n k:Nat}{q:Program}{loose:jcR}{XP:(Str->jcW)->Heap->Prop}{YP:World->Heap->Prop}{d:DefRec}{K:Params->Frag}{CX:World->KH}{sp:World->Sp}{x:Str}
  (hn:l.most=some n) (hn2:n<=sizeLine) (hdf:d.params.defaults=[]) (hr:dW k callerA)
  (hY:∀(w:World)(h:Heap),YP w h->(K w.params).In h)
  (F:∀(w:World)(mg:Str->jcW)(fa:Addr)(h:Heap),(K w.params).In h->h.Ns mainGlobals mg->mg d.name=some (.ref fa)->
   ∃fd:FuncData,(∀(s:Shared)(u:Value),BindsTo s fd ⟨[u],[]⟩ [(x,u)])/\
    ∀base:Heap,(K w.params).In base->base.Ns mainGlobals mg->az l.prog w (K w.params) mg base (CX w) k fa fd [x] (sp w))
  (Uj:∀(w:World)(H:Hp)(a:Addr)(ns:List Int),ns.length<=n->XI H->mJ (K w.params) H a (ns.map V.int)->sp w [.ref a] H (λv _=>v=.bl true) λ_ _ _=>False)
  (hCX:∀(w:World)(H:Hp)(s:Shared)(e:Value)(s':Shared),CX w [] H s (λ_ _ _=>False) e s'->False) :
  WalkO q loose XP YP l.row.toRowW d [] (λf vs=>PySem.call f vs):=by
 refine Att.Gh hn hdf λw s₀ s₁ mg mb fa o pm cd doc a vs ns G QR ho hd hcd hmg hobj hints hlen hg=>?_;have KX:=hY w _ QR;obtain⟨fd,hb,hF⟩:=F w mg fa _ KX G.T.g hmg;exact N6 KX G.T.g G.T.b G.T.builtins G.T.nolimit hg hobj hints (jaR hlen hn2) hr hF hb (λH hO hS=>Uj w H a ns hlen hO hS) λH e s'=>hCX w H s₁ e s'
noncomputable def inClass (s:Stmt)(j:Nat):Stmt:=match s with
 |.ClassDef _ _ _ body _ _ _ _ _ _ _=>body.getD j (.Pass ⟨0,0,0,0⟩)
 |_=>.Pass ⟨0,0,0,0⟩
noncomputable def ff (s:Stmt):Arguments:=match s with
 |.FunctionDef _ a _ _ _ _ _ _ _ _=>a
 |_=>{posonlyargs:=[],args:=[],vararg:=none,kwonlyargs:=[],kw_defaults:=[],kwarg:=none,defaults:=[] }
noncomputable def ai (s:Stmt):List Stmt:=match s with
 |.FunctionDef _ _ b _ _ _ _ _ _ _=>b
 |_=>[]
noncomputable def aa (s:Stmt):Scope:=match s with
 |.FunctionDef _ _ _ _ _ _ sc _ _ _=>sc
 |_=>{kind:=.function,names:=[],isGenerator:=false,isCoroutine:=false }
abbrev bz:KH:=λ_ _ _ _ _ _=>False
abbrev E0:XK:=λ_ _ _=>False
theorem Bg {X:Cx}:Passes bz X E0:=λ_ _ _ _ _ _ _ h=>h.elim
structure bG (K:Frag)(x qual:Str)(st:Stmt)(f:Addr)(fd:FuncData):Prop where
 ex:∃(oc:Value)(od:Option Addr)(kV doc pm:Value)(an:Option Addr)(AT ct:Value)(osl:Array (Option Value)),
  fd=fnOf x qual (ff st) (ai st) (aa st) .none kV doc pm an AT ct/\K.lookup f=some ⟨oc,od,.func fd,osl⟩/\codeIn K AT qual=true
 kp:keepIn K (.ref f)=true
section
variable {P:Program}{w:World}{K:Frag}{mg:Str->jcW}{base:Heap}
theorem bG.ok {x qual:Str}{st:Stmt}{f:Addr}{fd:FuncData}{N ps:jcR}{k:Nat}{sp:Sp}(F:bG K x qual st f fd)(S:aj N ps (aa st))(len:∀vs H Q E,sp vs H Q E->vs.length=ps.length)
  (hbody:∀(AT:Value)(A:Around)(outer:List Env)(s:Shared)(H:Hp)(vs:List V)(Q:VK) (E:XK),dW k (A.deeper (envOfC qual (aa st) s.heap.objs.size f AT))->sp vs H Q E->
   ∃t,bF (FU bz P w K mg base N qual (aa st) f AT A outer s H E).XS (ai st) t/\t {nx:=λ_ H'=>Q .eN H',rt:=Q } (start N vs) H):az P w K mg base bz (k+1) f fd ps sp:=by
 obtain⟨oc,od,kV,doc,pm,an,AT,ct,osl,rfl,lk,hcd⟩:=F.ex;refine a0n lk hcd S len λA outer s H vs Q E hr Uj=>?_;obtain⟨t,h,q⟩:=hbody AT A outer s H vs Q E hr Uj;exact⟨t,h.XS,q⟩
theorem bG.binds {x qual:Str}{st:Stmt}{f:Addr}{fd:FuncData}{ps:jcR}(F:bG K x qual st f fd)
  (h:∀(kV doc pm:Value)(an:jcV)(AT ct:Value)(us:jcS),us.length=ps.length->bindArgs (fnOf x qual (ff st) (ai st) (aa st) .none kV doc pm an AT ct) ⟨us,[]⟩=pure (ps.zip us)):Binds K fd ps []:=by
 obtain⟨oc,od,kV,doc,pm,an,AT,ct,osl,rfl,lk,hcd⟩:=F.ex;exact .all (h kV doc pm an AT ct)
theorem Xa {x qual:Str}{st:Stmt}{f:Addr}{oc:Value}{od an:jcV}{osl:jcQ}{kV doc pm AT ct:Value}(l:K.lookup f=some ⟨oc,od,.func (fnOf x qual (ff st) (ai st) (aa st) .none kV doc pm an AT ct),osl⟩)
  (c:codeIn K AT qual=true) (k:keepIn K (.ref f)=true):bG K x qual st f (fnOf x qual (ff st) (ai st) (aa st) .none kV doc pm an AT ct):=⟨⟨oc,od,kV,doc,pm,an,AT,ct,osl,M,l,c⟩,k⟩
end
theorem gM {A:Around}{k:Nat}(hr:dW k A):A.units+1<cLine:=Nat.lt_of_le_of_lt (Nat.add_le_add_left (by decide:1<=64) _) hr.units
theorem KQ {n:Nat}(h:n<=1000):n<sizeLine:=Nat.lt_of_le_of_lt h (by decide)
section
variable {X:Cx}
end
section
variable {κ:Type} [DecidableEq κ]
noncomputable def qT (kvs:List (κ×V))(k:κ):Option V:=(kvs.find? λkv=>decide (kv.1=k)).map (·.2)
noncomputable def putK (kvs:List (κ×V))(k:κ)(v:V):List (κ×V):=
 if(kvs.any λkv=>decide (kv.1=k))=true then kvs.map (λkv=>if kv.1=k then(kv.1,v) else kv) else kvs++[(k,v)]
theorem sJ {p:κ×V}{r:List (κ×V)}{k:κ}(e:p.1=k):qT (p::r) k=some p.2:=by simp[qT,jbm,e]
theorem sL {p:κ×V}{r:List (κ×V)}{k:κ}(e:¬ p.1=k):qT (p::r) k=qT r k:=by simp[qT,jbm,e]
theorem Eb (k:κ):∀kvs:List (κ×V),(kvs.any λkv=>decide (kv.1=k))=(qT kvs k).isSome
 |[]=>rfl
 |p::r=>by
  rw[jbS];by_cases e:p.1=k
  .simp only[sJ e,jaF e,Bool.true_or,Option.isSome_some]
  .rw[sL e,jat e,Bool.false_or];exact Eb k r
theorem vJ (kvs:List (κ×V))(k:κ)(v:V):(putK kvs k v).length<=kvs.length+1:=by
 unfold putK;split
 .rw[jab];omega
 .rw[jaf,jaj,jaT];omega
theorem oG.uX {o:Option V}{u:jcW}(r:oG o u):o.isSome=u.isSome:=by
 cases o with
 |none=>cases u with
  |none=>rfl
  |some _=>exact(show False from r).elim
 |some _=>cases u with
  |none=>exact(show False from r).elim
  |some _=>rfl
theorem oG.getD {o:Option V}{u:jcW}{d:V}{d':Value}(r:oG o u)(rd:RelV d d'):RelV (o.getD d) (u.getD d'):=by
 cases o with
 |none=>cases u with
  |none=>exact rd
  |some _=>exact(show False from r).elim
 |some _=>cases u with
  |none=>exact(show False from r).elim
  |some _=>exact r
theorem KV.val {kvs:List (κ×V)}{vs:List (κ×Value)}(r:KV kvs vs)(k:κ):oG (qT kvs k) (valueAt vs k):=by
 unfold KV at r
 induction r with
 |nil=>exact True.intro
 | @cons p q ps qs h t ih=>
  obtain⟨h1,h2⟩:=h;by_cases e:p.1=k
  .have e':q.1=k:=h1.symm.trans e;have b:valueAt (q::qs) k=some q.2:=by simp[valueAt,jbm,e']
   rw[sJ e,b];exact h2
  .have e':¬ q.1=k:=λz=>e (h1.trans z);have b:valueAt (q::qs) k=valueAt qs k:=by simp[valueAt,jbm,e']
   rw[sL e,b];exact ih
theorem KV.any {kvs:List (κ×V)}{vs:List (κ×Value)}(r:KV kvs vs)(k:κ):(kvs.any λkv=>decide (kv.1=k))=vs.any λkv=>decide (kv.1=k):=by
 unfold KV at r
 induction r with
 |nil=>rfl
 |cons h t ih=>rw[jbS,jbS,ih,h.1]
theorem KV.repl {kvs:List (κ×V)}{vs:List (κ×Value)}(r:KV kvs vs)(k:κ){y:V}{u:Value}(ry:RelV y u) :
  KV (kvs.map λkv=>if kv.1=k then(kv.1,y) else kv) (vs.map λkv=>if kv.1=k then(kv.1,u) else kv):=by
 unfold KV at r ⊢
 induction r with
 |nil=>exact .nil
 | @cons p q ps qs h t ih=>
  rw[jax,jax];refine .cons ?_ ih;obtain⟨h1,h2⟩:=h;by_cases e:p.1=k
  .rw[jae e,jae (h1.symm.trans e)];exact⟨h1,ry⟩
  .rw[jad e,jad (λz=>e (h1.trans z))];exact⟨h1,h2⟩
theorem KV.put {kvs:List (κ×V)}{vs:List (κ×Value)}(r:KV kvs vs)(k:κ){y:V}{u:Value}(ry:RelV y u):KV (putK kvs k y) (stored vs k u):=by
 unfold putK stored;rw[r.any k];by_cases e:(vs.any λkv=>decide (kv.1=k))=true
 .rw[jae e,jae e];exact r.repl k ry
 .rw[jad e,jad e];exact Paired.snoc r ⟨M,ry⟩
theorem KV.keys {kvs:List (κ×V)}{vs:List (κ×Value)}(r:KV kvs vs):kvs.map (·.1)=vs.map (·.1):=by
 unfold KV at r
 induction r with
 |nil=>rfl
 |cons h t ih=>rw[jax,jax,ih,h.1]
theorem KV.length {kvs:List (κ×V)}{vs:List (κ×Value)}(r:KV kvs vs):kvs.length=vs.length:=jbM r
end
theorem FH {P:Program}{w:World}{k:Key}{u:Value}(r:RelV (kV k) u):(aJ P w).is k u=true:=by
 cases k with
 |inl i=>obtain⟨t,e⟩:=(show ∃t,u=Value.int i t from r);subst e;exact Fy P w i t
 |inr x=>obtain⟨t,e⟩:=(show ∃t,u=Value.str x t from r);subst e;exact c6 P w x t
theorem Bo {P:Program}{w:World}:∀{ks:List Key}{us:jcS},Vals (ks.map kV) us->ItemsAre (aJ P w) ks us
 |[],_,r=>by rw[jbC] at r;cases r;exact .nil
 |k::ks,_,r=>by
  rw[jax] at r;cases r with
  |cons h t=>exact .cons (FH h) (Bo t)
abbrev KT (H:Hp):List (List Key×V)->List (List Key×Addr×Value)->Prop:=Paired λp q=>p.1=q.1/\H q.2.1=some (.tup (p.1.map kV))/\RelV p.2 q.2.2
theorem KT.val {H:Hp}{kvs:List (List Key×V)}{xs:List (List Key×Addr×Value)}(r:KT H kvs xs)(k:List Key):oG (qT kvs k) ((atKey xs k).map (·.2)):=by
 induction r with
 |nil=>exact True.intro
 | @cons p q ps qs h t ih=>
  obtain⟨h1,_,h2⟩:=h;by_cases e:p.1=k
  .have e':q.1=k:=h1.symm.trans e;have b:atKey (q::qs) k=some q.2:=by simp[atKey,jbm,e']
   rw[sJ e,b];exact h2
  .have e':¬ q.1=k:=λz=>e (h1.trans z);have b:atKey (q::qs) k=atKey qs k:=by simp[atKey,jbm,e']
   rw[sL e,b];exact ih
theorem KT.repl {H:Hp}{kvs:List (List Key×V)}{xs:List (List Key×Addr×Value)}(r:KT H kvs xs)(k:List Key){y:V}{u:Value}(ry:RelV y u) :
  KT H (kvs.map λkv=>if kv.1=k then(kv.1,y) else kv) (xs.map (putAt k u)):=by
 induction r with
 |nil=>exact .nil
 | @cons p q ps qs h t ih=>
  rw[jax,jax];refine .cons ?_ ih;obtain⟨h1,h2,h3⟩:=h;unfold putAt;by_cases e:p.1=k
  .rw[jae e,jae (h1.symm.trans e)];exact⟨h1,h2,ry⟩
  .rw[jad e,jad (λz=>e (h1.trans z))];exact⟨h1,h2,h3⟩
theorem KT.put {H:Hp}{kvs:List (List Key×V)}{xs:List (List Key×Addr×Value)}(r:KT H kvs xs)(k:List Key){b:Addr}{y:V}{u:Value}(hb:H b=some (.tup (k.map kV)))(ry:RelV y u) :
  KT H (putK kvs k y) (storedH xs k b u):=by
 have e:(kvs.any λkv=>decide (kv.1=k))=(atKey xs k).isSome:=by
  rw[Eb,(r.val k).uX,Option.isSome_map]
 unfold putK storedH;rw[e];by_cases q:(atKey xs k).isSome=true
 .rw[jae q,jae q];exact r.repl k ry
 .rw[jad q,jad q];exact Paired.snoc r ⟨M,hb,ry⟩
theorem KT.keeps {H H':Hp}{kvs:List (List Key×V)}{xs:List (List Key×Addr×Value)}(r:KT H kvs xs)(ht:∀b ys,H b=some (.tup ys)->H' b=some (.tup ys)):KT H' kvs xs:=
 Paired.Wo r λ_ _ z=>⟨z.1,ht _ _ z.2.1,z.2.2⟩
section
variable {P:Program}{w:World}{H:Hp}{h:Heap}{a:Addr}
theorem TV {u:HO}(ok:sI P w H h)(e:Rd H a u):cT P w H h a u:=e.ok ok
theorem zg {kvs:List (Key×V)}(ok:sI P w H h)(e:Rd H a (.dK kvs)):kvs.length<=sizeLine/\(a==sysModules)=false/\∃vs,KV kvs vs/\h.DictOf (aJ P w) a vs:=
 show cT P w H h a (.dK kvs) from TV ok e
theorem a0v {kvs:List (Key×V)}(ok:sI P w H h)(e:H a=some (.dK kvs)):kvs.length<=sizeLine/\(a==sysModules)=false/\∃vs,KV kvs vs/\h.DictOf (aJ P w) a vs:=zg ok (.inl e)
theorem yR {ks:List Key}(ok:sI P w H h)(e:H a=some (.tup (ks.map kV))):(tupleKind (aJ P w)).is h ks a:=by
 obtain⟨_,AC,r,o,h1,h2,n,h3⟩:=(show cT P w H h a (.tup (ks.map kV)) from ok a _ e)
 exact⟨o,AC.toArray,n,h1,h2,h3,by simpa using Bo r⟩
theorem Bx {kvs:List (List Key×V)}(ok:sI P w H h)(e:Rd H a (.dT kvs)):kvs.length<=sizeLine/\(a==sysModules)=false/\
  ∃xs,KT H kvs xs/\h.DictOfH (tupleKind (aJ P w)) a xs:=by
 obtain⟨z,y,xs,r,o,es,ep,h1,h2,h3,h4,h5⟩:=(show cT P w H h a (.dT kvs) from TV ok e)
 refine⟨z,y,xs,r,o,es,ep,h1,h2,h3,h4,λx hx=>?_,h5⟩;have all:∀{l:List (List Key×V)} {m:List (List Key×Addr×Value)},KT H l m->∀x∈m,(tupleKind (aJ P w)).is h x.1 x.2.1:=by
  intro l m q
  induction q with
  |nil=>intro x hx;exact nomatch hx
  | @cons p q ps qs hq t ih=>
   intro x hx;rcases jag.mp hx with e | hx
   .subst e;exact yR ok (by rw[<- hq.1];exact hq.2.1)
   .exact ih x hx
 exact all r x hx
theorem a0u {kvs:List (List Key×V)}(ok:sI P w H h)(e:H a=some (.dT kvs)):kvs.length<=sizeLine/\(a==sysModules)=false/\
  ∃xs,KT H kvs xs/\h.DictOfH (tupleKind (aJ P w)) a xs:=Bx ok (.inl e)
end
def vv (H:Hp)(a:Addr)(y:V)(r:Option V):Prop:=
 (∃kvs k,Rd H a (.dK kvs)/\y=kV k/\r=qT kvs k)\/∃kvs k b,Rd H a (.dT kvs)/\y=.ref b/\H b=some (.tup (k.map kV))/\r=qT kvs k
def PN (H:Hp)(a:Addr)(y v:V)(H':Hp):Prop:=
 (∃kvs k,H a=some (.dK kvs)/\y=kV k/\kvs.length<sizeLine/\H'=upd H a (.dK (putK kvs k v)))\/
 ∃kvs k b,H a=some (.dT kvs)/\y=.ref b/\H b=some (.tup (k.map kV))/\kvs.length<sizeLine/\H'=upd H a (.dT (putK kvs k v))
theorem vv.k {H:Hp}{a:Addr}{kvs:List (Key×V)}{k:Key}(e:H a=some (.dK kvs)):vv H a (kV k) (qT kvs k):=.inl ⟨kvs,k,.inl e,M,M⟩
theorem PN.k {H:Hp}{a:Addr}{kvs:List (Key×V)}{k:Key}{v:V}(e:H a=some (.dK kvs))(hl:kvs.length<sizeLine):PN H a (kV k) v (upd H a (.dK (putK kvs k v))):=.inl ⟨kvs,k,e,M,hl,M⟩
section
variable {X:Cx}{vy:jcO}{U:St}{H:Hp}{s:Shared}{a:Addr}{y v:V}{u r:Value}{o:Option V}{A:Around}{E:jcP}
theorem Inv.big (I:Inv X vy U H s):sysModules<s.heap.objs.size:=by
 have h:mainGlobals<s.heap.objs.size:=(I.mod.glob.keeps I.bk).lt;exact Nat.lt_trans (by decide) h
theorem LF {Q:jcP}(hu:A.units+1<cLine)(I:Inv X vy U H s)(g:vv H a y (some v))(ry:RelV y u)(h:∀w' s',Inv X vy U H s'->RelV v w'->Q w' s') :
  wpAny (model X.prog X.w) A (getItem (.ref a) u) Q E s:=by
 rcases g with⟨kvs,k,e,ey,l⟩ | ⟨kvs,k,b,e,ey,eb,l⟩
 .subst ey;obtain⟨z,hd,vs,rel,dd⟩:=zg I.hok e;obtain⟨w',hw,rw'⟩:=oG.some_of (v:=v) (o:=valueAt vs k) (by rw[l];exact rel.val k);exact wpAny_getItem_of (FH ry) dd.mapOf hw (h w' _ (I.tok _) rw')
 .subst ey;cases(show u=Value.ref b from ry);obtain⟨z,hd,xs,rel,dd⟩:=Bx I.hok e;obtain⟨w',hw,rw'⟩:=oG.some_of (v:=v) (o:=(atKey xs k).map (·.2)) (by rw[l];exact rel.val k);obtain⟨p,hp,hp2⟩:=Option.map_eq_some_iff.mp hw;refine wpAny_getItem_heap (tupleKind_room_in1 hu) (yR I.hok eb) dd hp ?_;rw[hp2];exact h w' _ (I.tok _) rw'
theorem a3x {Q:jcP}(hu:A.units+1<cLine)(I:Inv X vy U H s)(g:vv H a y o)(ry:RelV y u)(h:∀s',Inv X vy U H s'->Q (.bool o.isSome) s') :
  wpAny (model X.prog X.w) A (compareOp .In u (.ref a)) Q E s:=by
 rcases g with⟨kvs,k,e,ey,l⟩ | ⟨kvs,k,b,e,ey,eb,l⟩
 .subst ey;obtain⟨z,hd,vs,rel,dd⟩:=zg I.hok e;refine wpAny_in_of (FH ry) hd dd.mapOf ?_;rw[<- (rel.val k).uX,<- l];exact h _ (I.tok _)
 .subst ey;cases(show u=Value.ref b from ry);obtain⟨z,hd,xs,rel,dd⟩:=Bx I.hok e;refine wpAny_in_heap (tupleKind_room_in1 hu) (yR I.hok eb) hd dd ?_;have q:=(rel.val k).uX;rw[Option.isSome_map] at q;rw[<- q,<- l];exact h _ (I.tok _)
theorem Ke {h':Heap}{t':Nat}{ob:HO}(I:Inv X vy U H s)(mu:Mut (H a))(hs:Heap.SameBut a s.heap h')(he:∃q,h'.get? a=some q)(new:cT X.prog X.w (upd H a ob) h' a ob) :
  Inv X vy U (upd H a ob) {s with heap:=h',toks:=t' }:=
 I.write (x:=a) (e:=a) mu (.inl M) (λb q hb z=>(hs.2 b hb).trans z) he new
theorem Xi {P:Program}{w:World}{H':Hp}{h':Heap}{kvs:List (Key×V)}{vs:List (Key×Value)}(z:kvs.length<=sizeLine)(hd:(a==sysModules)=false)(rel:KV kvs vs)(dd:h'.DictOf (aJ P w) a vs) :
  cT P w H' h' a (.dK kvs):=⟨z,hd,vs,rel,dd⟩
theorem LD {H':Hp}{Q:Unit->Shared->Prop}(hu:A.units+1<cLine)(I:Inv X vy U H s)(g:PN H a y v H')(ry:RelV y u)(rv:RelV v r)(h:∀s',Inv X vy U H' s'->Q () s') :
  wpAny (model X.prog X.w) A (setItem (.ref a) u r) Q E s:=by
 rcases g with⟨kvs,k,e,ey,l,eH⟩ | ⟨kvs,k,b,e,ey,eb,l,eH⟩
 .subst ey eH;obtain⟨z,hd,vs,rel,dd⟩:=a0v I.hok e;have hz:vs.length<=sizeLine:=by rw[<- rel.length];exact z
  have hl:(putK kvs k v).length<=sizeLine:=by have:=vJ kvs k v;omega
  refine wpAny_setItem_pairs (hsz:=hz) (FH ry) dd λh' dd' hs=>h _ ?_;have he:∃q,h'.get? a=some q:=let⟨q,_,_,hq,_⟩:=dd';⟨q,hq⟩;exact Ke I (by rw[e];exact True.intro) hs he (Xi hl hd (rel.put k rv) dd')
 .subst ey eH;cases(show u=Value.ref b from ry);obtain⟨z,hd,xs,rel,dd⟩:=a0u I.hok e;have hz:xs.length<=sizeLine:=by rw[<- jbM rel];exact z
  have hl:(putK kvs k v).length<=sizeLine:=by have:=vJ kvs k v;omega
  refine wpAny_setItem_heap (hsz:=hz) (tupleKind_room_in1 hu) (yR I.hok eb) dd λh' dd' hs=>h _ ?_;obtain⟨q,es,ep,hq,h2,h3,h4,_,h5⟩:=dd';refine Ke I (by rw[e];exact True.intro) hs ⟨q,hq⟩ ⟨hl,hd,_,(rel.put k eb rv).keeps λc ys ec=>?_,q,es,ep,hq,h2,h3,h4,h5⟩;rw[aY (ZJ ec e (λz=>nomatch z))];exact ec
end
section
variable {X:Cx}{vy:jcO}{U:St}{H:Hp}{s:Shared}{a:Addr}{kvs:List (Key×V)}{k:Key}{u:Value}{A:Around}{E:jcP}
end
def XJ (i:Expr):Prop:=∀ov iv,subscripted i false ov iv=operate [ov,iv] (getItem ov iv)
theorem Qu {prog:Program}{w:World}{A:Around}{E:jcP}{s:Shared}{env:Env}{value slice:Expr}{pos:Pos}{T id:String}{Q:jcP}
  (hl:typeLookup (.type T) "__getitem__"=pure (some (.builtin id))) (hs:XJ slice)
  (h:wpAny (model prog w) A (eval value env) (λo s₁=>wpAny (model prog w) A (eval slice env) (λi s₂=>s₂.TypeIs o T/\wpAny (model prog w) A (getItem o i) Q E s₂) E s₁) E s) :
  wpAny (model prog w) A (eval (.Subscript value slice pos) env) Q E s:=by
 refine Subscript_ (jaV h (λo s₁ h₁=>jaV h₁ (λi s₂ h₂=>?_) λ_ _ x=>x) λ_ _ x=>x);obtain⟨hT,h₂⟩:=h₂;unfold subscriptTail;refine jaa ?_;rw[getitemInPython_of_ne hT.not_modules];refine jaa (wpAny_specialOf hT hl ?_);have fin:wpAny (model prog w) A (subscripted slice false o i) (λr s₃=>wpAny (model prog w) A (letTemporaryGo value o r >>=λ_=>pure r) Q E s₃) E s₂:=by
  rw[hs o i];exact wpAny_operating (jaV h₂ (λr s₃ h₃=>jaa (wpAny_letTemporaryGo (jac h₃))) λ_ _ x=>x)
 first
  |exact jac (jaa fin)
  |exact jaa (jac (jaa fin))
  |exact jaa fin
theorem FT {X:Cx}{vy:jcO}{U:St}{H:Hp}{s:Shared}{a:Addr}{y:V}{o:Option V}(I:Inv X vy U H s)(g:vv H a y o):s.TypeIs (.ref a) "dict":=by
 rcases g with⟨kvs,k,e,_,_⟩ | ⟨kvs,k,b,e,_,_,_⟩
 .obtain⟨_,_,vs,_,dd⟩:=zg I.hok e;exact dd.typeIs
 .obtain⟨_,_,xs,_,dd⟩:=Bx I.hok e;exact dd.typeIs
def YF (td ty:TE):TE:=λU H Q=>td U H λx H1=>ty U H1 λy H2=>∃a v,x=.ref a/\vv H2 a y (some v)/\Q v H2
def a1U (ty td:TE):TE:=λU H Q=>ty U H λy H1=>td U H1 λx H2=>∃a o,x=.ref a/\vv H2 a y o/\Q (.bl o.isSome) H2
def YY (td ty tv:TE):TS:=λD U H=>tv U H λv H1=>td U H1 λx H2=>ty U H2 λy H3=>∃a H4,x=.ref a/\PN H3 a y v H4/\D.nx U H4
section
variable {X:Cx}{o i e value:Expr}{pos pos' tpos:Pos}{td ty tv:TE}
theorem Rq (hu:X.A.units+1<cLine)(ho:PE X o td)(hi:PE X i ty)(hs:XJ i):PE X (.Subscript o i pos) (YF td ty):=by
 intro vy s U H Q I h;refine Qu PySem.F.slot_dict_getitem.lookup hs (ez (ho vy s U H _ I h) λu s1 ⟨x,H1,I1,rx,q1⟩=>ez (hi vy s1 U H1 _ I1 q1) ?_);rintro iv s2 ⟨y,H2,I2,ry,a,v,ex,g,q2⟩;subst ex;obtain rfl:u=Value.ref a:=rx;exact⟨FT I2 g,LF hu I2 g ry λw' s3 I3 rw'=>⟨v,H2,I3,rw',q2⟩⟩
theorem VZ (hu:X.A.units+1<cLine)(hi:PE X i ty)(ho:PE X o td):PC X .In i o (a1U ty td):=by
 intro vy s U H Q I h;refine ez (hi vy s U H _ I h) λiv s1 ⟨y,H1,I1,ry,q1⟩=>ez (ho vy s1 U H1 _ I1 q1) ?_;rintro u s2 ⟨x,H2,I2,rx,a,ov,ex,g,q2⟩;subst ex;obtain rfl:u=Value.ref a:=rx;exact a3x hu I2 g ry λs3 I3=>⟨.bl ov.isSome,H2,I3,M,q2⟩
theorem Rg (hu:X.A.units+1<cLine)(ho:PE X o td)(hi:PE X i ty)(hv:PE X value tv)(hs:swapsWith value (some (.Subscript o i pos')) pos.line X.env=pure false) :
  PS X (.Assign [.Subscript o i pos'] value pos) (YY td ty tv):=by
 intro vy s U H D I h;refine wpAny_Assign_Subscript (ez (hv vy s U H _ I h) λr s1 ⟨v,H1,I1,rv,q1⟩=>ez (ho vy s1 U H1 _ I1 q1) λu s2 ⟨x,H2,I2,rx,q2⟩=>ez (hi vy s2 U H2 _ I2 q2) λiv s3 ⟨y,H3,I3,ry,a,H4,ex,g,q3⟩=>?_) hs;subst ex;obtain rfl:u=Value.ref a:=rx;exact LD hu I3 g ry rv λs4 I4=>⟨U,H4,I4,q3⟩
end
theorem OU {P:Program}{w:World}{H:Hp}(h:Heap)(hb:sysModules<h.objs.size):cT P w H (h.push {cls:=.type "dict",data:=.dict #[] }) h.objs.size (.dK []):=
 ⟨ja3 _,jbv.mpr (jaO (jap hb)),[],.nil,Heap.DictOf.new h⟩
def UZ:TE:=λ_ H Q=>∀p,H p=none->Q (.ref p) (upd H p (.dK []))
section
variable {X:Cx}{pos:Pos}
theorem Nr:PE X (.Dict [] [] pos) UZ:=λvy s U H Q I h=>
 wpAny_Dict_empty ⟨.ref s.heap.objs.size,_,I.laid (a:=s.heap.objs.size) (o:=.dK []) (t':=s.toks) (λ_ _ q=>jan _ q) (jal _) (OU s.heap I.big),M,h _ (I.hok.fresh (jal _))⟩
end
structure M2 (X:Cx)(o:Expr)(m:Str)(B1:Pos)(e f:Expr)(cpos:Pos):Prop where
 base:attributeBase o m X.env (eval o X.env)=eval o X.env
 few:((backTo cpos (starEach [e,f] X.env)).all (λx=>!x.1)&&(backToKw cpos (keywordEach [] X.env)).all (λx=>x.1.isSome)
 &&decide (([e,f]:List Expr).length+([]:List Keyword).length+(if([]:List Keyword).isEmpty then 0 else 1)<30))=true
 line:(B1.endLine==cpos.line)=true
 trees:backTo cpos (starEach [e,f] X.env)=[(false,eval e X.env),(false,eval f X.env)]
def IsD (H:Hp)(a:Addr):Prop:=(∃kvs,Rd H a (.dK kvs))\/∃kvs,Rd H a (.dT kvs)
theorem WU {X:Cx}{vy:jcO}{U:St}{H:Hp}{s:Shared}{a:Addr}(I:Inv X vy U H s)(d:IsD H a) :
  s.TypeIs (.ref a) "dict"/\(∀b,Value.ref a=.ref b->∃ob,s.heap.get? b=some ob/\ob.dict=none)/\(a==sysModules)=false:=by
 rcases d with⟨kvs,e⟩ | ⟨kvs,e⟩
 .obtain⟨_,hd,vs,_,dd⟩:=zg I.hok e;refine⟨dd.typeIs,λb q=>?_,hd⟩;cases q;obtain⟨ob,_,_,h1,h2,_⟩:=dd;exact⟨ob,h1,h2.2.1⟩
 .obtain⟨_,hd,xs,_,dd⟩:=Bx I.hok e;refine⟨dd.typeIs,λb q=>?_,hd⟩;cases q;obtain⟨ob,_,_,h1,h2,_⟩:=dd;exact⟨ob,h1,h2.2.1⟩
section
variable {X:Cx}{vy:jcO}{U:St}{H:Hp}{s:Shared}{a:Addr}{y d:V}{u r:Value}{o:Option V}{A:Around}{E:jcP}
theorem Xj {Q:jcP}(hu:A.units+1<cLine)(I:Inv X vy U H s)(g:vv H a y o)(ry:RelV y u)(rd:RelV d r)(h:∀w' s',Inv X vy U H s'->RelV (o.getD d) w'->Q w' s') :
  wpAny (model X.prog X.w) A (call (.builtin "dict.get") [.ref a,u,r]) Q E s:=by
 rcases g with⟨kvs,k,e,ey,l⟩ | ⟨kvs,k,b,e,ey,eb,l⟩
 .subst ey;obtain⟨z,hd,vs,rel,dd⟩:=zg I.hok e;refine call_meetsIn PySem.F.slot_dict_get dd.typeIs PySem.F.entry_dict_get (PySem.F.args_dict_get_3 _ _ _) (meets_dict_get_default (aJ X.prog X.w) a (FH ry) hd r) ⟨_,dd.mapOf,h _ _ (I.tok _) ?_⟩;rw[l];exact(rel.val k).getD rd
 .subst ey;cases(show u=Value.ref b from ry);obtain⟨z,hd,xs,rel,dd⟩:=Bx I.hok e;refine call_meetsIn PySem.F.slot_dict_get dd.typeIs PySem.F.entry_dict_get (PySem.F.args_dict_get_3 _ _ _) (meetsH_dict_get_default (tupleKind (aJ X.prog X.w)) a b hd r) ⟨tupleKind_room_in1 hu,k,xs,yR I.hok eb,dd,h _ _ (I.tok _) ?_⟩;rw[l];exact(rel.val k).getD rd
end
def U1 (td ty tx:TE):TE:=λU H Q=>td U H λx H1=>∃a,x=.ref a/\IsD H1 a/\ty U H1 λy H2=>tx U H2 λz H3=>∃o,vv H3 a y o/\Q (o.getD z) H3
section
variable {X:Cx}{o e f:Expr}{B1 cpos:Pos}{td ty tx:TE}
theorem Nt (hu:X.A.units+1<cLine)(ho:PE X o td)(he:PE X e ty)(hf:PE X f tx)(m:M2 X o "get" B1 e f cpos):PE X (.Call (.Attribute o "get" B1) [e,f] [] cpos) (U1 td ty tx):=by
 intro vy s U H Q I h;refine wpAny_Call_method m.base m.few m.line PySem.F.plainAttrs_dict PySem.F.slot_dict_get PySem.F.type_dict_get (ez (ho vy s U H _ I h) ?_);rintro u s1 ⟨x,H1,I1,rx,a,ex,d,q1⟩;subst ex;obtain rfl:u=Value.ref a:=rx;obtain⟨t1,t2,_⟩:=WU I1 d;refine⟨t1,t2,?_⟩;rw[m.trees];refine Calls.callWith_builtin rfl (Calls.evalArgs_plain (Calls.spliced_cons (ez (he vy s1 U H1 _ I1 q1) λiv s2 ⟨y,H2,I2,ry,q2⟩=>
  Calls.spliced_cons (ez (hf vy s2 U H2 _ I2 q2) λfv s3 ⟨z,H3,I3,rz,ov,g,q3⟩=>Calls.spliced_nil ?_))))
 exact Xj hu I3 g ry rz λw' s4 I4 rw'=>⟨_,H3,I4,rw',q3⟩
end
section
variable {X:Cx}{vy:jcO}{U:St}{H:Hp}{s:Shared}{a:Addr}{kvs:List (Key×V)}{A:Around}{E:jcP}
end
section
variable {X:Cx}{vy:jcO}{U:St}{H:Hp}{s:Shared}{a:Addr}{y:V}{u:Value}{A:Around}{E:jcP}
end
section
variable {X:Cx}
end
section
variable {κ:Type} [DecidableEq κ]
end
end L2
set_option maxHeartbeats 4000000
namespace L2
open PySem PySem.Spec PyProof.Rows
abbrev lR:Value->Shared->Prop:=λ_ _=>False
abbrev tU (X:Cx)(sc:Scope)(N:jcR)(cl:List (Str×Addr))(C:Addr)(s:Shared)(H:Hp)(fp:jcT):Cx:=
 {X with N:=N,s₀:=s,H₀:=H,env:=compEnvC sc cl C X.env,outer:=X.stack,ex:=fp,fn:=λ_=>false,pn:=[],xe:=lR }
def Ext (U U':St):Prop:=U'.length=U.length/\∀(i:Nat) v,U[i]?=some (some v)->U'[i]?=some (some v)
noncomputable def IV (cs:jcU)(env:Env):Sem Bool:=forIn cs true λc r=>if r=true then do let ok <- isTrue c env (eval c env);pure (ForInStep.yield ok) else pure (ForInStep.yield r)
def Ye (X:Cx)(cs:jcU)(t:TT):Prop:=
 ∀(vy:jcO) (s:Shared) (U:St) (H:Hp) (Q:Bool->Hp->Prop),Inv X vy U H s->t U H Q->wpAny (model X.prog X.w) X.A (IV cs X.env) (TP X vy U Q) X.xe s
def Qs:TT:=λ_ H Q=>Q true H
theorem Q8 {X:Cx}:Ye X [] Qs:=λvy s U H Q I h=>wpAny_tests_nil ⟨H,I,h⟩
theorem Q7 {X:Cx}{c:Expr}{t:TT}(hc:PT X c t):Ye X [c] t:=λvy s U H Q I h=>wpAny_tests_one (hc vy s U H Q I h)
section
variable {prog:Program}{w:World}{A:Around}{R:Result->Shared->Prop}{s:Shared}
theorem LH {elt target iter:Expr}{cs:jcU}{scope:Scope}{pos:Pos}{it acc:Value}{env:Env}(J:Nat->Shared->Prop)
  (turn:∀n s,J n s->wpAny (model prog w) A (pyNext it) (λr s1=>match r with
   |none=>R (.ok .next) s1
   |some v=>wpAny (model prog w) A (letOwnedTupleGo target it v) (λ_ s2=>wpAny (model prog w) A (assign target env v) (λ_ s3=>
     wpAny (model prog w) A (IV cs env) (λok s4=>if ok=true then wpAny (model prog w) A (eval elt env) (λx s5=>
       wpAny (model prog w) A (call (.builtin "list.append") [acc,x]) (λ_ s6=>∃m,m<n/\J m s6) lR s5) lR s4
      else ∃m,m<n/\J m s4) lR s3) lR s2) lR s1) lR s) (n:Nat) (h:J n s) :
  codeAny (model prog w) A (.compLoop (.ListComp elt [⟨target,iter,cs,0⟩] scope pos) 0 it acc env) R s:=by
 refine codeAny_loop rfl J (λk s' hk=>?_) n h;show wpAny (model prog w) A ((compTurn (.ListComp elt [⟨target,iter,cs,0⟩] scope pos) 0 it acc env).onRaise (λx=>do noteFrame x env;theTreesLotGoes x)) _ _ s';refine wpAny_noted ?_;have no:∀(e:Value)(s2:Shared),lR e s2->notedBy (model prog w) A env (λe s'=>R (.error e) s') e s2:=λ_ _ f=>f.elim;rw[compTurn_list];refine jaa (wpAny_standAt (jaa (jaV (turn k s' hk) (λr s1 g1=>?_) no)));cases r with
 |none=>exact jac g1
 |some v=>
  refine jaa (jaV g1 (λ_ s2 g2=>?_) no);refine jaa (jaV g2 (λ_ s3 g3=>?_) no);refine jaa (jaV g3 (λok s4 g4=>?_) no);cases ok with
  |false=>exact jac ⟨M,g4⟩
  |true=>exact jaa (jaa (jaV g4 (λx s5 g5=>jaa (jaV g5 (λ_ s6 g6=>jac (jac ⟨M,g6⟩)) no)) no))
end
def Pj (J:It)(g:TG)(tt:TT)(te:TE)(σ0:St)(W:Nat->Nat->List V->Hp->Prop)(R:List V->Hp->Prop):Prop:=
 ∀i m ys H,W i m ys H->(J.stop i H/\R ys H)\/(J.go i H/\∃F:List V->Hp->Prop,(∀ys' H',F ys' H'->∃m',m' < m/\W (i+1) m' ys' H')/\∀x H',J.KI i H x H'->g x σ0 H' λU2 H2=>Ext σ0 U2/\tt U2 H2 λb H3=>
  if b=true then te U2 H3 λv H4=>ys.length<sizeLine/\F (ys++[v]) H4 else F ys H3)
structure qf (X:Cx)(sc:Scope)(cl:List (Str×Addr))(own:Nat)(N:List Str)(fr:List Nat):Prop where
 kind:sc.kind=.function
 names:∀x∈sc.names,x.2=.local->sc.names.lookup x.1=some .local
 C4:∀x∈sc.names,x.2≠.cell
 clos:closureFor sc X.env=pure cl
 cells:∀x c,cl.lookup x=some c->X.env.cells.lookup x=some c
 has:∀x,((relabel sc X.env).names.lookup x=some .cell\/(relabel sc X.env).names.lookup x=some .free)->∃c,cl.lookup x=some c
 len:N.length=own+fr.length
 fro:∀(i:Nat) j,fr[i]?=some j->∃x,N[own+i]?=some x/\X.N[j]?=some x/\(X.env.kindOf x=some .cell\/X.env.kindOf x=some .free)/\((relabel sc X.env).names.lookup x=some .cell\/(relabel sc X.env).names.lookup x=some .free)
def SY (env:Env):List (Str×Addr)->Prop
 |[]=>True
 |p::r=>env.cells.lookup p.1=some p.2/\SY env r
theorem SY.mem {env:Env}:∀{cl:List (Str×Addr)},SY env cl->∀p∈cl,env.cells.lookup p.1=some p.2
 |[],_,_,h=>nomatch h
 |_::_,h,p,hp=>by
  rcases jag.mp hp with rfl | hp
  .exact h.1
  .exact h.2.mem p hp
noncomputable def Df (k:Option NameKind):Bool:=match k with
 |some .cell=>true
 |some .free=>true
 |_=>false
theorem JS {k:Option NameKind}(h:Df k=true):k=some .cell\/k=some .free:=by
 cases k with
 |none=>cases h
 |some k=>cases k<;>first | exact .inl rfl | exact .inr rfl | cases h
noncomputable def J3 (X:Cx)(sc:Scope):jcR->jcX->Bool
 |[],[]=>true
 |x::ns,j::fr=>decide (X.N[j]?=some x)&&Df (X.env.kindOf x)&&Df ((relabel sc X.env).names.lookup x)&&J3 X sc ns fr
 |_,_=>false
theorem FQ {X:Cx}{sc:Scope}:∀{ns:jcR}{fr:jcX},J3 X sc ns fr=true->ns.length=fr.length/\∀(i:Nat) j,fr[i]?=some j->∃x,ns[i]?=some x/\X.N[j]?=some x/\Df (X.env.kindOf x)=true/\Df ((relabel sc X.env).names.lookup x)=true
 |[],[],_=>⟨M,λi j h=>by simp at h⟩
 |[],_::_,h=>by cases h
 |_::_,[],h=>by cases h
 |x::ns,j::fr,h=>by
  have h:(decide (X.N[j]?=some x)&&Df (X.env.kindOf x)&&Df ((relabel sc X.env).names.lookup x)&&J3 X sc ns fr)=true:=h;rw[jaU,jaU,jaU] at h;obtain⟨⟨⟨h1,h2⟩,h3⟩,h4⟩:=h;obtain⟨l,g⟩:=FQ h4;refine⟨by simp[l],λi k e=>?_⟩;cases i with
  |zero=>cases e;exact⟨x,M,jbc h1,h2,h3⟩
  |succ i=>exact g i k e
theorem aM {X:Cx}{sc:Scope}{cl:List (Str×Addr)}(Zp J4:jcR)(fr:jcX)(kind:sc.kind=.function)(names:(sc.names.all λx=>x.2 !=.local||sc.names.lookup x.1==some .local)=true)
  (C4:(sc.names.all λx=>x.2 !=.cell)=true) (clos:closureFor sc X.env=pure cl) (cells:SY X.env cl) (has:((relabel sc X.env).names.all λy=>!Df (some y.2)||(cl.lookup y.1).isSome)=true)
  (len:J4.length=fr.length) (fro:J3 X sc J4 fr=true):qf X sc cl Zp.length (Zp++J4) fr where
 kind:=kind
 names:=λx hx hl=>by
  have:=List.all_eq_true.mp names x hx;rw[hl] at this;simpa using this
 C4:=λx hx=>by simpa using List.all_eq_true.mp C4 x hx
 clos:=clos
 cells:=λx c h=>cells.mem (x,c) (jbU h)
 has:=λx h=>by
  obtain⟨k,hk,e⟩:∃k,(relabel sc X.env).names.lookup x=some k/\Df (some k)=true:=by
   rcases h with h | h
   .exact⟨_,h,M⟩
   .exact⟨_,h,M⟩
  have:=List.all_eq_true.mp has (x,k) (jbU hk);rw[e] at this;exact Option.isSome_iff_exists.mp (by simpa using this)
 len:=by rw[jaf,len]
 fro:=λi j e=>by
  obtain⟨_,g⟩:=FQ fro;obtain⟨x,e1,e2,e3,e4⟩:=g i j e;refine⟨x,?_,e2,JS e3,JS e4⟩;rw[jbj (Nat.le_add_right _ _),jcl];exact e1
noncomputable def BV (own:Nat)(fr:jcX)(U:St):St:=List.replicate own none++fr.map λj=>(U[j]?).join
section
variable {X:Cx}{sc:Scope}{cl:List (Str×Addr)}{own:Nat}{N:jcR}{fr:jcX}
theorem U8 {U:St}{i:Nat}{v:V}(h:(BV own fr U)[i]?=some (some v)):∃k j,i=own+k/\fr[k]?=some j/\U[j]?=some (some v):=by
 unfold BV at h;by_cases hi:i<own
 .rw[jaS (by simpa using hi),jck,jae hi] at h;cases h
 .rw[jbj (by simpa using hi),jcE,jaA] at h;cases e:fr[i - own]? with
  |none=>rw[e] at h;cases h
  |some j=>
   rw[e] at h;have h:(U[j]?).join=some v:=ja2 h;refine⟨i - own,j,by omega,e,?_⟩;cases q:U[j]? with
   |none=>rw[q] at h;cases h
   |some o=>rw[q] at h;exact jah some h
theorem LP {vy:jcO}{U:St}{H:Hp}{s:Shared}{fp:jcT}{h1:Heap}{m1:Str->jcW}{t:Nat}{C D:Addr}{od:Obj}(S:qf X sc cl own N fr)(I:Inv X vy U H s)(hfp:∀b∈fp,l7 X vy H b)
  (hob:∀b∈fp,∃o,s.heap.get? b=some o) (kp:∀b o,s.heap.get? b=some o->h1.get? b=some o) (hC:s.heap.objs.size<=C) (hns:h1.Ns C m1) (hD:s.heap.objs.size<=D) (hDC:D≠C) (ho:h1.get? D=some od) (hod:∀v,od.data≠.cell v) :
  Inv (tU X sc N cl C s H fp) [(D,od)] (BV own fr U) H {s with heap:=h1,toks:=t }:=by
 have Qt:∀b∈fp,b<s.heap.objs.size:=λb hb=>let⟨o,e⟩:=hob b hb;jak e;refine⟨⟨I.ok.mod,S.kind,I.ok.glob,I.ok.blt,hC,λx y c a b=>I.ok.inj x y c (S.cells x c a) (S.cells y c b),S.has,(λx c z=>nomatch z),I.ok.hd,I.ok.frames,.inl M,λb hb=>?_,I.bs,jaR I.ok.Sy I.sz,λb o e hb=>?_,λb hb hf=>?_,I.stack,I.IY⟩,
  M,I.bare,Un.kept kp,⟨m1,hns,λi x v e1 e2 e3=>?_⟩,λx c e=>?_,I.hok.fresh hC,λx c e=>I.oB x c (S.cells x c e),λp hp=>?_,I.hok.kept kp,?_⟩
 .exact⟨jap (jaY (Qt b hb) hC),λx c e=>(hfp b hb).2.2.2.2.1 x c (S.cells x c e)⟩
 .rcases(hfp b hb).2.2.2.1 with z | z
  .exact I.ok.NT b o e z
  .exact absurd (jaY (jak e) (jaR I.ok.Sy z)) (jb1 _)
 .rcases jag.mp (I.BU b hf) with z | z
  .exact(hfp b hb).2.1 z
  .exact(hfp b hb).2.2.1 z
 .obtain⟨k,j,rfl,ej,eσ⟩:=U8 e2;obtain⟨y,n1,n2,k1,k2⟩:=S.fro k j ej;have e1:N[own+k]?=some x:=e1;rw[n1] at e1;cases e1;obtain⟨m,hn,hl⟩:=I.loc;obtain⟨u,ru,l⟩:=hl j x v n2 eσ (by rcases k1 with z | z;exact .inr (.inl z);exact .inr (.inr z));refine⟨u,ru,.inr ⟨k2,?_⟩⟩;obtain⟨c,hc⟩:=S.has x k2;refine⟨c,hc,?_⟩;rcases l with⟨q,_⟩ | ⟨_,c',e',z⟩
  .rcases k1 with k1 | k1<;>(rw[k1] at q;cases q)
  .have:=S.cells x c hc;rw[e'] at this;cases this;obtain⟨o,Ul,h2'⟩:=z;exact⟨o,kp _ _ Ul,h2'⟩
 .obtain⟨v,o,Ul,h2'⟩:=I.cell x c (S.cells x c e);exact⟨v,o,kp _ _ Ul,h2'⟩
 .have hp:p=(D,od):=by simpa using hp
  subst hp;refine⟨ho,I.hok.fresh hD,hDC,λhf=>?_,hod⟩;have:D∈X.env.locals::X.fs:=I.BU D hf;rcases jag.mp this with z | z
  .exact absurd (jaY I.lt hD) (by rw[z];exact jb1 _)
  .exact I.ZE hD z
 .unfold BV;rw[jaf,jcE,jab];exact S.len.symm
theorem LQ {vy pl:jcO}{U τ:St}{H H':Hp}{s s':Shared}{fp:jcT}{C D:Addr}{ys:List V}{AC:jcS}{n:Nat}(I:Inv X vy U H s)(hfp:∀b∈fp,l7 X vy H b)(hC:s.heap.objs.size<=C)(hD:s.heap.objs.size<=D)
  (B:Inv (tU X sc N cl C s H fp) pl τ H' s') (hn:H' D=none) (ho:s'.heap.get? D=some {cls:=.type "list",data:=.seq AC.toArray n }) (r:Vals ys AC) (hz:ys.length<=sizeLine) :
  Inv X vy U (upd H' D (.lst ys)) s':=by
 have ne:∀b o,s.heap.get? b=some o->b≠D:=λb o e=>jap (jaY (jak e) hD);have nt:∀b u,H' b=some u->b≠D:=λb u e=>bL e hn;refine I.a0C (ch:=fp) B.os ⟨B.base.keep,B.base.slot,λb o e q hx=>?_,B.base.there,λb xs e=>?_,λb o u e=>?_,λb ps e=>?_⟩ (λb u e=>?_) B.bare λb hb=>?_
 .rw[aY (ne b o e)];exact B.base.free b o e q hx
 .have:=B.base.tups b xs e;rw[aY (nt _ _ this)];exact this
 .have:=B.base.Ak b o u e;rw[aY (nt _ _ this)];exact this
 .obtain⟨mo,this⟩:=B.base.BQ b ps e;exact⟨mo,by rw[aY (nt _ _ this)];exact this⟩
 .by_cases hb:b=D
  .subst hb;rw[fE] at e;cases e;exact⟨hz,AC,n,r,ho⟩
  .rw[aY hb] at e;exact(B.hok b u e).stay (λ_ _ _ q=>q) (λc q=>by rw[aY (nt _ _ q)];exact q) λc xs q=>by rw[aY (nt _ _ q)];exact q
 .obtain⟨_,f1,_,f3,f4,f5⟩:=hfp b hb;exact⟨f3,f1,f4,f5⟩
end
section
variable {X:Cx}{sc:Scope}{cl:List (Str×Addr)}{own:Nat}{N:jcR}{fr:jcX}
theorem Inv.Nk {vy yy:jcO}{U:St}{H:Hp}{s:Shared}(I:Inv X vy U H s)(h:∀p∈yy,p∈vy):Inv X yy U H s:=I.xo λp hp=>I.pin p (jaW _ (h p hp))
theorem BB {elt tg iter:Expr}{cs:jcU}{pos:Pos}{g:TG}{tt:TT}{te:TE}{vy:jcO}{U:St}{H:Hp}{s:Shared}{it:Addr}{fp:jcT}{tn:Nat->Heap->Prop}{J:It}{RR:Value->Addr->Result->Shared->Prop}
  (S:qf X sc cl own N fr) (hc:X.calm=true) (I:Inv X vy U H s) (T:Turn X.prog X.w X.K tg J fp it tn) (st:tn 0 s.heap) (hfp:∀b∈fp,l7 X vy H b)
  (hg:∀C s H,PG (tU X sc N cl C s H fp) tg g) (ht:∀C s H,Ye (tU X sc N cl C s H fp) cs tt) (he:∀C s H,PE (tU X sc N cl C s H fp) elt te)
  {W:Nat->Nat->List V->Hp->Prop} {R:List V->Hp->Prop} (w0:∃m,W 0 m [] H) (walk:Pj J g tt te (BV own fr U) W R)
  (fin:∀D C H' ys s' m,s'.heap.Ns C m->H' D=none->l7 X vy (upd H' D (.lst ys)) C->Inv X vy U (upd H' D (.lst ys)) s'->R ys H'->RR (.ref D) C (.ok .next) s') :
  wpAny (model X.prog X.w) X.A (newList []) (λacc s3=>wpAny (model X.prog X.w) X.A (newFunctionEnv sc X.env.globals cl [] X.env.qual none .none (some X.env)) (λcenv s4=>
   codeAny (model X.prog X.w) X.A (.compStart (.ListComp elt [⟨tg,iter,cs,0⟩] sc pos) 0 (.ref it) acc {cenv with scope:=relabel sc X.env }) (RR acc cenv.locals) s4) X.xe s3) X.xe s:=by
 refine jba (wpAny_newFunctionEnv S.C4 (by intro y hy;simp at hy) (λh1 hns Se=>?_) S.kind);dsimp only at hns Se ⊢;generalize hH:s.heap.push {cls:=.type "list",dict:=none,data:=.seq ([]:jcS).toArray }=hp at hns Se ⊢;have sC:hp.objs.size=s.heap.objs.size+1:=by rw[<- hH,ja0]
 have hDC:s.heap.objs.size≠hp.objs.size:=by omega
 have kp:∀b o,s.heap.get? b=some o->h1.get? b=some o:=λb o e=>by
  have l:=jak e;exact Se.extBut b o (jap (by rw[sC];exact jbx l)) (jan _ (hH ▸ jan _ e))
 have hD1:h1.get? s.heap.objs.size=some {cls:=.type "list",data:=.seq ([]:jcS).toArray }:=Se.extBut _ _ hDC (jan _ (hH ▸ jaz _ M));have Qt:∀b∈fp,b<s.heap.objs.size:=λb hb=>let⟨o,e,_⟩:=T.obj 0 _ st b hb;jak e;generalize hCC:hp.objs.size=C at *;generalize hDD:s.heap.objs.size=D at *;have I1:∀t,Inv (tU X sc N cl C s H fp) [(D,{cls:=.type "list",data:=.seq ([]:jcS).toArray })] (BV own fr U) H {s with heap:=h1,toks:=t }:=λt=>
  LP S I hfp (λb hb=>let⟨o,e,_⟩:=T.obj 0 _ st b hb;⟨o,e⟩) kp (by omega) hns (by omega) hDC hD1 (by intro v z;cases z)
 have st1:tn 0 h1:=T.keep 0 _ _ st λb hb o e=>kp b o e;have fpo:∀{H':Hp}{s':Shared}{τ:St}{pl:jcO} {od:Obj},Inv (tU X sc N cl C s H fp) pl τ H' s'->(∀p∈pl,p.1=D)->(∀b∈fp,H' b=none)->∀b∈fp,l7 (tU X sc N cl C s H fp) pl H' b:=λ{H' s' τ pl od} B hpl hn b hb=>by
  have q:=Qt b hb;refine⟨hn b hb,(B.ok.exf b hb).1,B.ok.OM b hb,.inl hb,(B.ok.exf b hb).2,λp hp=>?_⟩;have hp:p∈pl:=by simpa using hp
  rw[hpl p hp];exact(jap q).symm
 have loop:∀t,codeAny (model X.prog X.w) X.A (.compLoop (.ListComp elt [⟨tg,iter,cs,0⟩] sc pos) 0 (.ref it) (.ref D) (compEnvC sc cl C X.env)) (RR (.ref D) C) {s with heap:=h1,toks:=t }:=by
  intro t;obtain⟨m0,w0⟩:=w0;refine LH (λn s'=>∃i ys AC k H',Inv (tU X sc N cl C s H fp) [(D,{cls:=.type "list",data:=.seq (List.toArray AC) k })] (BV own fr U) H' s'/\tn i s'.heap/\(∀b∈fp,H' b=none)/\Vals ys AC/\ys.length<=sizeLine/\W i n ys H') ?_ m0
   ⟨0,[],[],_,H,I1 t,st1,λb hb=>(hfp b hb).1,.nil,ja3 _,w0⟩
  rintro n s2 ⟨i,ys,AC,k,H2,B2,st2,fr2,rv,hz,w2⟩;have pD:=B2.pin (D,{cls:=.type "list",data:=.seq (List.toArray AC) k }) (jaW _ (jai.mpr M));rcases walk i n ys H2 w2 with⟨stop,rr⟩ | ⟨go,nx,hnx,tk⟩
  .refine jaV (T.done (tU X sc N cl C s H fp) rfl rfl rfl hc i _ s2 _ H2 lR B2 (fpo (od:=default) B2 (by simp) fr2) st2 stop) (λr s3 ⟨hr,B3⟩=>?_) λ_ _ z=>z;subst hr;obtain⟨m3,n3,_⟩:=B3.loc;have pD3:=B3.pin (D,{cls:=.type "list",data:=.seq (List.toArray AC) k }) (jaW _ (jai.mpr M));refine fin D C H2 ys s3 m3 n3 pD3.2.1 ?_ (LQ I hfp (by omega) (by omega) B3 pD3.2.1 pD3.1 rv hz) rr;exact I.OF (by omega) (by rw[aY (jaO hDC)];exact B3.free)
  .refine jaV (T.item (tU X sc N cl C s H fp) rfl rfl rfl hc i _ s2 _ H2 lR B2 (fpo (od:=default) B2 (by simp) fr2) st2 go) (λr s3 ⟨u,hr,g3⟩=>?_) λ_ _ z=>z;subst hr;refine jaV g3 (λ_ s4 ⟨x,H4,B4,rx,y4,st4,fr4⟩=>?_) λ_ _ z=>z;have B5:=B4.pinned (fpo (od:=default) B4 (by simp) fr4) (T.obj _ _ st4);refine jaV (hg C s H _ s4 _ H4 x u _ B5 rx (tk x H4 y4)) (λ_ s5 ⟨σ5,H5,B6,ex,q5⟩=>?_) λ_ _ z=>z;refine jaV (ht C s H _ s5 σ5 H5 _ B6 q5) (λb s6 ⟨H6,B7,q6⟩=>?_) λ_ _ z=>z;have back:∀{H':Hp}{s':Shared},Inv (tU X sc N cl C s H fp) ([(D,{cls:=.type "list",data:=.seq (List.toArray AC) k })]++yx fp s4.heap) σ5 H' s'->tn (i+1) s'.heap/\∀b∈fp,H' b=none:=λ{H' s'} B=>by
    refine⟨T.keep _ _ _ st4 λb hb o e=>(B.pin (b,o) (jaW _ (jaW _ (nR hb e)))).1,λb hb=>?_⟩;obtain⟨o,e,_⟩:=T.obj _ _ st4 b hb;exact(B.pin (b,o) (jaW _ (jaW _ (nR hb e)))).2.1
   cases b with
   |false=>
    obtain⟨m',hm,w'⟩:=hnx _ _ q6;obtain⟨t7,f7⟩:=back B7;exact⟨m',hm,i+1,ys,AC,k,H6,(B7.sM).weak ex.1.symm ex.2,t7,f7,rv,hz,w'⟩
   |true=>
    refine jaV (he C s H _ s6 σ5 H6 _ B7 q6) (λx7 s7 ⟨v7,H7,B8,r7,hz7,q7⟩=>?_) λ_ _ z=>z;obtain⟨m',hm,w'⟩:=hnx _ _ q7;obtain⟨t8,f8⟩:=back B8;have V0:=B8.pin (D,{cls:=.type "list",data:=.seq (List.toArray AC) k }) (jaW _ (jaP _ (jai.mpr M)));have lz:AC.length=ys.length:=rv.length.symm;refine call_meets F.slot_list_append ⟨_,V0.1,M⟩ F.entry_list_append (F.args_list_append_2 _ _) (PySem.list_append D AC.toArray k x7 (by rw[jaw];omega)) ⟨V0.1,?_⟩;have q:=PySem.IsL.update V0.1 (·.push x7);have eo:AC.toArray.push x7=(AC++[x7]).toArray:=by simp
    have B9:Inv (tU X sc N cl C s H fp) [] (BV own fr U) H7 {s7 with heap:=s7.heap.update D (Obj.mapSeq (·.push x7)) }:=
     Inv.turned (t':=s7.toks) (((B8.Nk (yy:=[]) (by intro p hp;simp at hp)).weak ex.1.symm ex.2)) (λb o hb e=>(jbn _ _ (jaO hb)).trans e) V0.2.1 hDC (.inr (by show s.heap.objs.size<=D;omega)) (λy c e z=>by
      have:=B8.cell y c e;obtain⟨v,o,Ul,h2'⟩:=this;have Ul:s7.heap.get? c=some o:=Ul;rw[z,V0.1] at Ul;cases Ul;cases h2') (by intro p hp;simp at hp)
    have B10:∀o',(s7.heap.update D (Obj.mapSeq (·.push x7))).get? D=some o'->(∀v,o'.data≠.cell v)->Inv (tU X sc N cl C s H fp) [(D,o')] (BV own fr U) H7 {s7 with heap:=s7.heap.update D (Obj.mapSeq (·.push x7)) }:=λo' e1 e2=>
     Inv.xo B9 λp hp=>by
      have hp:p=(D,o'):=by simpa using hp
      subst hp;exact⟨e1,V0.2.1,hDC,V0.2.2.2.1,e2⟩
    rw[eo] at q;refine⟨m',hm,i+1,ys++[v7],AC++[x7],_,H7,B10 _ q (by intro v z;cases z),T.keep _ _ _ t8 λb hb o e=>(jbn _ _ (ja6 (Qt b hb))).trans e,f8,rv.append (.cons r7 .nil),by rw[jaf,jbF];omega,w'⟩
 exact codeAny_compStart_list (loop _) (T.self _ 0 _ _ _ st1 (loop _))
def IX (own:Nat)(fr:jcX)(wi:TI)(g:TG)(tt:TT)(te:TE):TE:=λU H Q=>wi U H λJ H1=>∃W:Nat->Nat->List V->Hp->Prop,(∃m,W 0 m [] H1)/\
 Pj J g tt te (BV own fr U) W λys H2=>∀p,H2 p=none->Q (.ref p) (upd H2 p (.lst ys))
theorem JF {elt tg iter:Expr}{cs:jcU}{pos:Pos}{wi:TI}{g:TG}{tt:TT}{te:TE}(S:qf X sc cl own N fr)(hc:X.calm=true)(hi:PI X tg iter wi)(hg:∀C s H fp,PG (tU X sc N cl C s H fp) tg g)
  (ht:∀C s H fp,Ye (tU X sc N cl C s H fp) cs tt) (he:∀C s H fp,PE (tU X sc N cl C s H fp) elt te) (hs:autoParam (∀x,foldedSetIterable iter X.env x=pure x) zt) :
  PE X (.ListComp elt [⟨tg,iter,cs,0⟩] sc pos) (IX own fr wi g tt te):=by
 intro vy s U H Q I h;rw[eval_ListComp];refine wpAny_comprehension_free (use:=none) rfl hs S.clos S.kind S.names (ez (hi vy s U H _ I h) λv s1 h1=>ez h1 λitv s2 h2=>?_);obtain⟨it,fp,tn,J,H2,e,I2,T,st2,f2,W,w0,walk⟩:=h2;subst e;refine BB (RR:=λacc C=>compPost (model X.prog X.w) X.A X.xe none (EP X vy U Q) acc C) S hc I2 T st2 f2 (λC s H=>hg C s H fp) (λC s H=>ht C s H fp) (λC s H=>he C s H fp) w0 walk ?_;intro D C H' ys s' m hn hD fC I' rr;obtain⟨f0,f1,f2',f3,f4,f5⟩:=fC;exact⟨m,hn,λh' hs'=>⟨.ref D,_,Inv.turned (t':=s'.toks) I' (λb o hb e=>hs'.extBut b o hb e) f0 f1 f3 f4 f5,M,rr D hD⟩⟩
theorem Rc {elt tg iter:Expr}{cs:jcU}{pos spos py:Pos}{wi:TI}{g:TG}{tt:TT}{te:TE}{i:Nat}{y:Str}(hN:X.N.Nodup)(hiy:X.N[i]?=some y)(hy:Loc X.env.scope y)(S:qf X sc cl own N fr)(hc:X.calm=true)(hi:PI X tg iter wi)
  (hg:∀C s H fp,PG (tU X sc N cl C s H fp) tg g) (ht:∀C s H fp,Ye (tU X sc N cl C s H fp) cs tt) (he:∀C s H fp,PE (tU X sc N cl C s H fp) elt te)
  (hsw:autoParam (swapsWith (.ListComp elt [⟨tg,iter,cs,0⟩] sc pos) (some (.Name y py)) spos.line X.env=pure true) zi) (hs:autoParam (∀x,foldedSetIterable iter X.env x=pure x) zt)
  (hf:autoParam (X.fn y=true\/X.env.scope.names.lookup y=some .local) zr) :
  PS X (.Assign [.Name y py] (.ListComp elt [⟨tg,iter,cs,0⟩] sc pos) spos) (U3 (IX own fr wi g tt te) (OC i)):=by
 intro vy s U H D0 I h;rw[exec_Assign_Name_used _ _ _ _ hsw];refine jaa (wpAny_standAt (jaa ?_));show wpAny _ X.A (do let _ <- comprehension (.ListComp elt [⟨tg,iter,cs,0⟩] sc pos) sc X.env _ (newList []) false (eval iter X.env) (some (assign (.Name y py) X.env))) _ _ s;refine jaa (ez (wpAny_comprehension_free (use:=some (assign (.Name y py) X.env)) (Q:=λ_ s'=>SP X vy D0 .next s') rfl hs S.clos S.kind S.names
  (ez (hi vy s U H _ I h) λv s1 h1=>ez h1 λitv s2 h2=>?_)) λ_ s' hq=>jac (jac hq))
 obtain⟨it,fp,tn,J,H2,e,I2,T,st2,f2,W,w0,walk⟩:=h2;subst e;refine BB (RR:=λacc C=>compPost (model X.prog X.w) X.A X.xe (some (assign (.Name y py) X.env)) (λ_ s'=>SP X vy D0 .next s') acc C) S hc I2 T st2 f2 (λC s H=>hg C s H fp) (λC s H=>ht C s H fp) (λC s H=>he C s H fp) w0 walk ?_;intro D C H' ys s' m hn hD fC I' rr;obtain⟨f0,f1,f2',f3,f4,f5⟩:=fC;show wpAny _ X.A (assign (.Name y py) X.env (.ref D)) _ _ _;refine wpAny_assign_Name (A5 I' hN hiy hy (v:=.ref D) rfl (λs2 I2 ⟨a,sb,ha⟩=>?_) hf);have aC:C≠a:=by
  rcases ha with z | z
  .rw[z];exact f1
  .exact λq=>f4 y a z q.symm
 exact⟨m,hn.sameBut sb aC,λh' hs'=>⟨_,_,Inv.turned (t':=s2.toks) I2 (λb o hb e=>hs'.extBut b o hb e) f0 f1 f3 f4 f5,rr D hD⟩⟩
end
def a2I (K:Frag)(tl:TE):TI:=λU H R=>tl U H λx H1=>∃a,x=.ref a/\(((∃xs,mJ K H1 a xs)/\R (Itl K a) H1)\/((∃xs,ko K H1 a xs)/\R (Itt K a) H1))
theorem VS {X:Cx}{tg l:Expr}{tl:TE}(hl:PE X l tl):PI X tg l (a2I X.K tl):=by
 intro vy s U H R I h;refine ez (hl vy s U H _ I h) ?_;rintro v s1 ⟨x,H1,I1,r1,q1⟩;obtain⟨a,e,q⟩:=q1;subst e;cases r1;have fo:∀b∈[s1.heap.objs.size],l7 X vy H1 b:=λb hb=>by
  have e:b=s1.heap.objs.size:=by simpa using hb
  subst e;exact I1.OF (jal _) (I1.hok.fresh (jal _))
 rcases q with⟨⟨xs,hq⟩,q⟩ | ⟨⟨xs,hq⟩,q⟩
 .obtain⟨AC,rv,p,hz⟩:=I1.list hq;refine wpAny_pyIter_list p.isList ?_;exact⟨s1.heap.objs.size,[s1.heap.objs.size],_,_,H1,M,I1.kept (t':=s1.toks) λb o e=>jan _ e,KL a _,⟨_,jaz _ M,M,M⟩,fo,q⟩
 .obtain⟨AC,rv,p,hz⟩:=I1.tuple hq;refine jb9 (show s1.heap.IsTuple a AC.toArray from p) ?_;exact⟨s1.heap.objs.size,[s1.heap.objs.size],_,_,H1,M,I1.kept (t':=s1.toks) λb o e=>jan _ e,GK a _,⟨_,jaz _ M,M,M⟩,fo,q⟩
end L2
namespace Hw
open PySem PySem.Spec
noncomputable def lt (a b:Str):Bool:=ltCps a.cps.toList b.cps.toList
theorem Ux:∀a:jcX,ltCps a a=false
 |[]=>rfl
 |x::r=>by simp[ltCps,Ux r]
theorem Ko:∀a b c:jcX,ltCps a b=true->ltCps b c=true->ltCps a c=true
 |[],[],_,h,_=>by simp[ltCps] at h
 |[],_::_,[],_,h=>by simp[ltCps] at h
 |[],_::_,_::_,_,_=>rfl
 |_::_,[],_,h,_=>by simp[ltCps] at h
 |_::_,_::_,[],_,h=>by simp[ltCps] at h
 |x::a,y::b,z::c,h,g=>by
  simp only[ltCps,Bool.or_eq_true,jaU,decide_eq_true_eq,ja1] at h g ⊢;rcases h with h | ⟨h,h'⟩<;>rcases g with g | ⟨g,g'⟩
  .left;omega
  .left;omega
  .left;omega
  .right;exact⟨by omega,Ko a b c h' g'⟩
theorem Uw:∀a b:jcX,ltCps a b=true\/a=b\/ltCps b a=true
 |[],[]=>.inr (.inl M)
 |[],_::_=>.inl rfl
 |_::_,[]=>.inr (.inr M)
 |x::a,y::b=>by
  simp only[ltCps,Bool.or_eq_true,jaU,decide_eq_true_eq,ja1,List.cons.injEq];rcases Nat.lt_trichotomy x y with h | h | h
  .exact .inl (.inl h)
  .rcases Uw a b with g | g | g
   .exact .inl (.inr ⟨h,g⟩)
   .exact .inr (.inl ⟨h,g⟩)
   .exact .inr (.inr (.inr ⟨h.symm,g⟩))
  .exact .inr (.inr (.inl h))
theorem uU (a:Str):lt a a=false:=Ux _
theorem lt_trans {a b c:Str}:lt a b=true->lt b c=true->lt a c=true:=Ko _ _ _
theorem C8 (a b:Str):lt a b=true\/a=b\/lt b a=true:=by
 rcases Uw a.cps.toList b.cps.toList with h | h | h
 .exact .inl h
 .refine .inr (.inl ?_);obtain⟨⟨x⟩⟩:=a;obtain⟨⟨y⟩⟩:=b;have h:x=y:=h;rw[h]
 .exact .inr (.inr h)
theorem NZ {a b:Str}(h:lt a b=true):a≠b:=λe=>by rw[e,uU] at h;cases h
theorem not_lt_trans {a b c:Str}(h:lt b a=false)(g:lt c b=false):lt c a=false:=by
 rcases C8 c a with e | e | e
 .rcases C8 b a with k | k | k
  .rw[h] at k;cases k
  .rw[k] at g;rw[g] at e;cases e
  .rw[lt_trans e k] at g;cases g
 .rw[e];exact uU a
 .cases q:lt c a with
  |false=>rfl
  |true=>have:=lt_trans e q;rw[uU] at this;cases this
end Hw
namespace L2
open PySem PySem.Spec PyProof.Rows
section
variable {X:Cx}
theorem vE:∀(p:Str)(l:jcR),risingS p l=true->(p::l).Pairwise λa b=>Hw.lt b a=false
 |p,[],_=>by simp
 |p,x::r,h=>by
  have h:(!ltCps x.cps.toList p.cps.toList&&risingS x r)=true:=h;rw[jaU,Bool.not_eq_true'] at h;have ih:=vE x r h.2;refine jbI.mpr ⟨λy hy=>?_,ih⟩;rcases jag.mp hy with rfl | hy
  .exact h.1
  .exact Hw.not_lt_trans h.1 ((jbI.mp ih).1 y hy)
theorem sQ:∀(l:jcR),sortedS l=true->l.Pairwise λa b=>Hw.lt b a=false
 |[],_=>.nil
 |x::r,h=>vE x r h
theorem rH:∀{ss:jcR}{us:jcS},StrsAre us ss->Vals (ss.map V.str) us
 |_,_,.nil=>.nil
 |_,_,.cons x t h=>.cons ⟨t,M⟩ (rH h)
theorem k9:∀{ss:jcR}{us:jcS},Vals (ss.map V.str) us->StrsAre us ss:=by
 intro ss
 induction ss with
 |nil=>intro us r;rw[jbC] at r;cases r;exact .nil
 |cons x ss ih=>
  intro us r;rw[jax] at r;cases r with
  |cons r1 r2=>
   obtain⟨t,e⟩:=r1;subst e;exact .cons x t (ih r2)
theorem vA:∀{xs:List V}{us:jcS},xs.length=us.length->(∀(i:Nat) x,xs[i]?=some x->∃u,us[i]?=some u/\RelV x u)->Vals xs us
 |[],[],_,_=>.nil
 |[],_::_,h,_=>by simp at h
 |_::_,[],h,_=>by simp at h
 |x::xs,u::us,h,g=>by
  obtain⟨v,e,r⟩:=g 0 x rfl;cases e;exact .cons r (vA (by simpa using h) λi y hy=>g (i+1) y hy)
theorem cT.here {P:Program}{w:World}{H:Hp}{h:Heap}{a:Addr}{o:HO}(x:cT P w H h a o):∃u,h.get? a=some u:=by
 cases o with
 |lst xs=>obtain⟨_,_,_,_,e⟩:=x;exact⟨_,e⟩
 |tup xs=>obtain⟨_,_,_,o,e,_⟩:=x;exact⟨_,e⟩
 |dK kvs=>obtain⟨_,_,_,_,o,_,_,e,_⟩:=x;exact⟨_,e⟩
 |dT kvs=>obtain⟨_,_,_,_,o,_,_,e,_⟩:=x;exact⟨_,e⟩
 |set S n=>obtain⟨o,_,_,_,e,_⟩:=x;exact⟨_,e⟩
 |ins C dx fs=>obtain⟨_,_,_,e,_⟩:=x;exact⟨_,e⟩
 |own y=>obtain⟨_,e⟩:=x;exact⟨_,e⟩
 |xd fs=>obtain⟨_,⟨_,_,_,e,_⟩,_⟩:=x;exact⟨_,e⟩
 |rng lo hi=>obtain⟨_,_,_,e⟩:=x;exact⟨_,e⟩
 |HX ob u=>obtain⟨e,_⟩:=x;exact⟨_,e⟩
 |S8 ps=>exact⟨_,(show h.get? a=some _ from x)⟩
 |met f y=>exact⟨_,(show h.get? a=some _ from x)⟩
 |ext φ=>obtain⟨_,⟨_,e⟩,_⟩:=x;exact⟨_,e⟩
theorem Inv.Bm {vy:jcO}{U:St}{H:Hp}{s:Shared}{h':Heap}{a:Addr}{o:HO}{t':Nat}(I:Inv X vy U H s)(k:∀b u,s.heap.get? b=some u->h'.get? b=some u)(hp:∀b u,s.heap.get? b=some u->b≠a)(new:cT X.prog X.w (upd H a o) h' a o) :
  H a=none/\Inv X vy U (upd H a o) {s with heap:=h',toks:=t' }:=by
 have hn:H a=none:=by
  cases q:H a with
  |none=>rfl
  |some u=>obtain⟨v,e⟩:=(I.hok a u q).here;exact absurd rfl (hp a v e)
 refine⟨hn,I.un ⟨λb u e _ _ _=>k b u e,λb u e _ _ _=>⟨u.slots,k b u e⟩,λb u e n _=>by rw[aY (hp b u e)];exact n,λb u e _=>⟨u,k b u e⟩,λb xs e=>by rw[aY (bL e hn)];exact e,λb u xs e=>by rw[aY (bL e hn)];exact e,λb ps e=>⟨#[],by rw[aY (bL e hn),e];simp⟩⟩ λb u e=>?_⟩;by_cases hb:b=a
 .subst hb;rw[fE] at e;cases e;exact new
 .rw[aY hb] at e;exact(I.hok b u e).stay (λc v _ q=>k c v q) (λc q=>by rw[aY (bL q hn)];exact q) λc xs q=>by rw[aY (bL q hn)];exact q
theorem Dw (hc:X.calm=true):fm X (.builtin "sorted") (λxs H Q=>∃p kvs ss,xs=[.ref p]/\H p=some (.dK kvs)/\kvs.map (·.1)=List.map (Sum.inr:Str->Key) ss/\kvs.length<64/\
  ∀l ys,H l=none->List.Perm ys ss->ys.Pairwise (λa b=>Hw.lt b a=false)->Q (.ref l) (upd H l (.lst (ys.map V.str)))):=by
 intro vy s U H xs us Q I r h;obtain⟨p,kvs,ss,rfl,hp,hk,h64,q⟩:=h;obtain⟨u,rfl,ru⟩:=vals1 r;cases ru;obtain⟨hz,lo,vs,rel,dd⟩:=zg I.hok (.inl hp);obtain⟨ep,hat⟩:=dd.dictAt;have hlv:=rel.length;refine Calls.call_function_entry kind_sorted plain_sorted entry_sorted (args_sorted1 _) ?_;unfold Builtin.«sorted»;refine jaa (m:=checkCount "sorted" 1 1 _) (jac (jaa (PySem.W.kdu_collect (A:=X.A.in1) (PySem.W.kdl_dict (knd:=aJ X.prog X.w) (kvs:=vs) (ep:=ep) lo) (I.ok.hd hc) hat (by rw[<- hlv];exact hz) λh' tk acc kp hacc=>?_)));have hS:StrsAre acc.toList ss:=by
  refine k9 (vA ?_ λi x hx=>?_)
  .have:(kvs.map (·.1)).length=(List.map (Sum.inr:Str->Key) ss).length:=by rw[hk]
   rw[jab,jab] at this;have el:acc.toList.length=kvs.length:=by rw[jaq,hacc.1,<- hlv]
   rw[jab,el,this]
  .rw[jaA] at hx;cases e:ss[i]? with
   |none=>rw[e] at hx;cases hx
   |some y=>
    rw[e] at hx;cases hx;have hi:i<acc.size:=by
     have h1:i<ss.length:=(jao.mp e).1;have:(kvs.map (·.1)).length=(List.map (Sum.inr:Str->Key) ss).length:=by rw[hk]
     rw[jab,jab] at this;rw[hacc.1];omega
    obtain⟨k,x,hv,hkk⟩:=hacc.2 i acc[i] (by simp);have ek:(vs.map (·.1))[i]?=some (Sum.inr y):=by rw[<- rel.keys,hk,jaA,e];rfl
    rw[jaA,hv] at ek;have ek:k=Sum.inr y:=ja2 ek;subst ek;rcases cK (show yS (Sum.inr y) acc[i]=true from hkk) with⟨_,_,z,_⟩ | ⟨z,t,z1,z2⟩
    .cases z
    .cases z1;exact⟨acc[i],by simp,t,z2⟩
 have hla:acc.toList.length<64:=by rw[jaq,hacc.1,<- hlv];exact h64
 refine jaa (wpAny_newList ?_ (by
   have:64<=sizeLine:=by rw[ja7];decide
   omega))
 have ho:(h'.push (seqObj "list" acc.toList.toArray 0)).get? h'.objs.size=some (seqObj "list" acc.toList.toArray 0):=jaz _ rfl;refine jaa (jbh (jbd slot_list_sort ⟨_,ho,M⟩ entry_list_sort (list_sort_treeK (s:={s with heap:=h'.push (seqObj "list" acc.toList.toArray 0),toks:=tk }) strKind_oneLt ho hS.keysOf (λv1 v2 rest e=>keyKind_strs (by rw[<- e];exact hS)) hla λst' a1 a2=>⟨_,M,?_⟩) (args_list_sort _)));obtain⟨ss',b1,b2,b3⟩:=sorted_out_str hS a1 a2;obtain⟨e,he⟩:=sortedHeap_at (out:=(arrOf st').map (·.2)) ho;have hss:(ss'.map V.str).length<=sizeLine:=by
  have h1:64<=sizeLine:=by rw[ja7];decide
  have h2:(ss'.map V.str).length=acc.toList.length:=by rw[jab,b2.length_eq,<- jcg hS]
  rw[h2];exact jaR (Nat.le_of_lt hla) h1
 have L:=I.Bm (h':=sortedHeap (h'.push (seqObj "list" acc.toList.toArray 0)) h'.objs.size acc.toList ((arrOf st').map (·.2))) (a:=h'.objs.size) (o:=.lst (ss'.map V.str)) (t':=tk)
  (λb u q=>by
   have l:=jak (kp b u q);rw[sortedHeap_old (jap l) (by rw[ja0];exact jbx l)];exact jan _ (kp b u q))
  (λb u q=>jap (jak (kp b u q)))
  ⟨hss,((arrOf st').map (·.2)).toList,e,rH b1,by rw[Array.toArray_toList];exact he⟩
 exact jac ⟨_,M,.ref h'.objs.size,_,L.2,M,q _ ss' L.1 b2 (sQ _ b3)⟩
def IB (K:Frag)(H:Hp):Nat->V->V->Prop
 |0,x,y=>gQ x=true/\x=y
 |n+1,x,y=>(gQ x=true/\x=y)\/∃a b xs ys,x=.ref a/\y=.ref b/\((mJ K H a xs/\mJ K H b ys)\/(ko K H a xs/\ko K H b ys))/\Paired (IB K H n) xs ys
theorem ON {x:V}(h:gQ x=true):HZ x x=true:=by
 cases x with
 |eN=>rfl
 |bl b=>simp[HZ]
 |int i=>simp[HZ]
 |str z=>simp[HZ]
 |_=>cases h
theorem EX {F:V->V->Prop}:∀{xs ys:List V},Paired F xs ys->∀{i:Nat}{x y:V},xs[i]?=some x->ys[i]?=some y->F x y
 |_,_,.nil,_,_,_,e,_=>by simp at e
 |_,_,.cons r t,0,_,_,e,e'=>by simp at e e';rw[<- e,<- e'];exact r
 |_,_,.cons r t,i+1,_,_,e,e'=>EX t (by simpa using e) (by simpa using e')
theorem gY {K:Frag}{n:Nat}{H:Hp}{A:Around}{s:Shared}{xs ys:List V}{us vs:jcS}(p:Paired (IB K H n) xs ys)(r:Vals xs us)(r':Vals ys vs)
  (ih:∀x y u v,RelV x u->RelV y v->IB K H n x y->SeqAt.EqAt A s u v true):∀(j:Nat)(h1:j<us.toArray.size)(h2:j<vs.toArray.size),SeqAt.EqAt A s us.toArray[j] vs.toArray[j] true:=by
 intro j h1 h2;have l1:=r.length;have l2:=r'.length;simp only[jaw] at h1 h2;have e1:xs[j]?=some xs[j]:=jaD (by omega);have e2:ys[j]?=some ys[j]:=jaD (by omega);obtain⟨u,hu,ru⟩:=r.get e1;obtain⟨v,hv,rv⟩:=r'.get e2;have hu':us.toArray[j]=u:=by
  rw[jaD h1] at hu;simpa using hu
 have hv':vs.toArray[j]=v:=by
  rw[jaD h2] at hv;simpa using hv
 rw[hu',hv'];exact ih _ _ u v ru rv (EX p e1 e2)
theorem pP (n:Nat):((List.range n).all λ_=>true)=true:=by rw[List.all_eq_true];intro _ _;rfl
theorem like_eq {vy:jcO}{U:St}{H:Hp}{s:Shared}(I:Inv X vy U H s):∀(n:Nat)(A:Around),A.units+n<cLine->∀x y u v,RelV x u->RelV y v->IB X.K H n x y->SeqAt.EqAt A s u v true:=by
 intro n;have flat:∀(A:Around)(x y:V)(u v:Value),RelV x u->RelV y v->gQ x=true/\x=y->SeqAt.EqAt A s u v true:=by
  rintro A x y u v ru rv ⟨f,rfl⟩;have:=H9 (A:=A) (s:=s) ru rv f f;rw[ON f] at this;exact this
 induction n with
 |zero=>intro A hu x y u v ru rv h;exact flat A x y u v ru rv h
 |succ n ih=>
  intro A hu x y u v ru rv h;rcases h with h | ⟨a,b,xs,ys,rfl,rfl,h,p⟩
  .exact flat A x y u v ru rv h
  .cases ru;cases rv;have ih':=ih A.in1 (by show A.units+1+n<cLine;omega);by_cases hab:a=b
   .subst hab;exact SeqAt.EqAt.same _
   .refine .of_refs hab ?_;have lp:xs.length=ys.length:=jbM p;rcases h with⟨ha,hb⟩ | ⟨ha,hb⟩
    .obtain⟨us,r1,p1,_⟩:=I.list ha;obtain⟨vs,r2,p2,_⟩:=I.list hb;have l1:=r1.length;have l2:=r2.length;have:=SeqAt.RcAt.lists (A:=A) (e:=λ_=>true) p1.isList p2.isList (by simp only[jaw];omega) (by omega) (gY p r1 r2 ih');rw[pP] at this;exact this
    .obtain⟨us,r1,p1,_⟩:=I.tuple ha;obtain⟨vs,r2,p2,_⟩:=I.tuple hb;have l1:=r1.length;have l2:=r2.length;have:=SeqAt.RcAt.tuples (A:=A) (e:=λ_=>true) (show s.heap.IsTuple a us.toArray from p1) (show s.heap.IsTuple b vs.toArray from p2) (by omega) (gY p r1 r2 ih');have e:(us.toArray.size==vs.toArray.size)=true:=by simp only[jaw,ja1];omega
     rw[pP,e] at this;exact this
def TX (K:Frag)(n:Nat)(k:Bool):R2:=λx y H Q=>∃a b xs ys,x=.ref a/\y=.ref b/\((mJ K H a xs/\mJ K H b ys)\/(ko K H a xs/\ko K H b ys))/\Paired (IB K H n) xs ys/\Q (.bl k) H
theorem V8 (n:Nat)(hu:X.A.units+1+n<cLine):n5 X (compareOp .Eq) (TX X.K n true):=by
 intro vy s U H x y v u Q I rx ry h;obtain⟨a,b,xs,ys,rfl,rfl,h,p,q⟩:=h;cases rx;cases ry;have ih':=like_eq I n X.A.in1 (by show X.A.units+1+n<cLine;omega);have lp:xs.length=ys.length:=jbM p;have fin:EP X vy U Q (.bool true) s:=⟨.bl true,H,I,M,q⟩
 rcases h with⟨ha,hb⟩ | ⟨ha,hb⟩
 .obtain⟨us,r1,p1,_⟩:=I.list ha;obtain⟨vs,r2,p2,_⟩:=I.list hb;have l1:=r1.length;have l2:=r2.length;exact SeqAt.eq_listAt (e:=λ_=>true) p1.isList p2.isList (by simp only[jaw];omega) (by omega) (gY p r1 r2 ih') (by rw[pP];exact fin)
 .obtain⟨us,r1,p1,_⟩:=I.tuple ha;obtain⟨vs,r2,p2,_⟩:=I.tuple hb;have l1:=r1.length;have l2:=r2.length;have e:(us.toArray.size==vs.toArray.size)=true:=by simp only[jaw,ja1];omega
  exact SeqAt.eq_tupleAt (e:=λ_=>true) (show s.heap.IsTuple a us.toArray from p1) (show s.heap.IsTuple b vs.toArray from p2) (by omega) (gY p r1 r2 ih') (by rw[pP,e];exact fin)
theorem V4 (n:Nat)(hu:X.A.units+1+n<cLine):n5 X (compareOp .NotEq) (TX X.K n false):=by
 intro vy s U H x y v u Q I rx ry h;obtain⟨a,b,xs,ys,rfl,rfl,h,p,q⟩:=h;cases rx;cases ry;have ih':=like_eq I n X.A.in1 (by show X.A.units+1+n<cLine;omega);have lp:xs.length=ys.length:=jbM p;have fin:EP X vy U Q (.bool false) s:=⟨.bl false,H,I,M,q⟩
 rcases h with⟨ha,hb⟩ | ⟨ha,hb⟩
 .obtain⟨us,r1,p1,_⟩:=I.list ha;obtain⟨vs,r2,p2,_⟩:=I.list hb;have l1:=r1.length;have l2:=r2.length;exact SeqAt.RcNeAt.lists (A:=X.A) (e:=λ_=>true) p1.isList p2.isList (by simp only[jaw];omega) (by omega) (gY p r1 r2 ih') _ _ _ _ (by rw[pP];exact fin)
 .obtain⟨us,r1,p1,_⟩:=I.tuple ha;obtain⟨vs,r2,p2,_⟩:=I.tuple hb;have l1:=r1.length;have l2:=r2.length;have e:(us.toArray.size==vs.toArray.size)=true:=by simp only[jaw,ja1];omega
  exact SeqAt.RcNeAt.tuples (A:=X.A) (e:=λ_=>true) (show s.heap.IsTuple a us.toArray from p1) (show s.heap.IsTuple b vs.toArray from p2) (by omega) (gY p r1 r2 ih') _ _ _ _ (by rw[pP,e];exact fin)
noncomputable def rJoin:V->List V->Hp->VK->Prop:=λx vs H Q=>∃sep p ss,x=.str sep/\vs=[.ref p]/\H p=some (.lst (List.map V.str ss))/\(ss.map (·.length)).sum+ss.length*sep.length<=16777216/\Q (.str (Txt.join sep ss)) H
theorem RK:Gk X "str.join" rJoin:=by
 intro vy s U H x vs v us Q I rx rv h;obtain⟨sep,p,ss,rfl,rfl,hp,hz,q⟩:=h;obtain⟨t,rfl⟩:=rx;obtain⟨u,rfl,ru⟩:=rv.one;cases ru;obtain⟨AC,r,pl,_⟩:=I.list (mJ.of hp);exact join_list pl.isList (by simpa using k9 r) hz λt' k=>⟨.str _,H,I.tok _,⟨_,M⟩,q⟩
noncomputable def a2A (xs:List V)(k:Nat)(y:V):List V:=xs.take k++[y]++xs.drop k
noncomputable def QM:V->List V->Hp->VK->Prop:=λx vs H Q=>∃(l:Addr)(xs:List V)(i:Int)(k:Nat)(y:V),x=.ref l/\vs=[.int i,y]/\i=k/\H l=some (.lst xs)/\k<=xs.length/\xs.length<sizeLine/\Q .eN (upd H l (.lst (a2A xs k y)))
theorem Li:MtM X "list.insert" QM:=by
 intro vy s U H x vs v us Q I rx rv h;obtain⟨l,xs,i,k,y,rfl,rfl,hik,hH,hk,hz,q⟩:=h;cases rx;obtain⟨u,w',rfl,⟨t,rfl⟩,ru⟩:=rv.two;obtain⟨z,AC,n,r,hl,e⟩:=I.FD hH;have hn:=pe;have fit:¬(!Builtin.List.listFitsIndex i)=true:=by
  rw[fitsIndex_of (by omega) (by omega)];decide
 have hsz:AC.toArray.size<=sizeLine:=by rw[jaw];omega
 refine call_meets F.slot_list_insert ⟨_,e,M⟩ F.entry_list_insert (F.args_list_insert_3 _ _ _) (PySem.AutoSeq1.list_insert_list_int_val_1 l AC.toArray n i t w' fit hsz) ⟨e,?_⟩;refine⟨.eN,_,I.RM (its':=AC.take k++[w']++AC.drop k) hH e ?_ (((r.take k).append (.cons ru .nil)).append (r.drop k)) ?_,M,q⟩
 .have e1:¬ i<0:=by omega
  have e2:min i.toNat AC.length=k:=by omega
  simp only[jaw,e1,jaH,e2];apply Array.ext';simp only[Array.toList_append,Array.toList_push,Array.toList_extract,List.extract_eq_take_drop];rw[jcC (l:=List.drop k AC) (by rw[jbP];simp)];simp
 .simp only[jaf,jby,jbP,jbF];omega
noncomputable def a2a (K:Frag)(c:V):List V->Hp->VK->Prop:=λvs H Q=>∃x t u b,vs=[x,c]/\ue K H x t/\RelV c u/\kitOne K t u=some b/\Q (.bl b) H
theorem RelV.a2B {c:V}{u u':Value}(hc:match c with | .ref _=>True | .ty _=>True | _=>False)(r:RelV c u)(r':RelV c u'):u=u':=by
 cases c with
 |ref a=>cases r;cases r';rfl
 |ty n=>cases r;cases r';rfl
 |_=>exact hc.elim
theorem O8 {c:V}(hc:match c with | .ref _=>True | .ty _=>True | _=>False):fm X (.builtin "isinstance") (a2a X.K c):=by
 intro vy s U H xs us Q I r h;obtain⟨x,t,u,b,rfl,ty,rc,hb,q⟩:=h;obtain⟨w1,w2,rfl,rx,r2⟩:=vals2 r;rw[RelV.a2B hc r2 rc];exact Lr I rx ty hb λtk=>⟨.bl b,H,I.tok _,M,q⟩
def Y9 (K:Frag):R2:=λx y H Q=>∃a b xs ys,x=.ref a/\y=.ref b/\ko K H a xs/\ko K H b ys/\xs.length+ys.length<=sizeLine/\
 (xs=[]->Q (.ref b) H)/\(xs≠[]->ys=[]->Q (.ref a) H)/\(xs≠[]->ys≠[]->∀p,H p=none->Q (.ref p) (upd H p (.tup (xs++ys))))
theorem Ry:n5 X (binaryOp .Add) (Y9 X.K):=by
 intro vy s U H x y v u Q I rx ry h;obtain⟨a,b,xs,ys,rfl,rfl,ha,hb,hz,q0,q1,q2⟩:=h;by_cases hx:xs=[]
 .cases rx;cases ry;obtain⟨AC,r1,p1,_⟩:=I.tuple ha;obtain⟨its2,r2,p2,_⟩:=I.tuple hb;obtain⟨⟨cls,dd,data,sl⟩,ho,hc,n,hd⟩:=id p1;obtain⟨⟨a3y,dd2,data2,sl2⟩,ho2,hc2,n2,hd2⟩:=id p2;simp only at hc hd hc2 hd2;subst hc hd hc2 hd2;have hi:AC=[]:=r1.d9.mpr hx;refine concat_meets ⟨_,ho,M⟩ ⟨_,ho2,M⟩ noFill_tuple_add seq_tuple_add PySem.F.slot_tuple_add PySem.F.entry_tuple_add (PySem.F.args_tuple_add_2 _ _)
   (tuple_addW0 a b AC.toArray its2.toArray n n2 dd dd2 sl sl2 (by simp[hi])) ⟨ho,ho2,?_⟩
  exact⟨.ref b,H,I,M,q0 hx⟩
 .exact Rz vy s U H _ _ v u Q I rx ry ⟨a,b,xs,ys,M,M,ha,hb,hx,hz,q1 hx,λhy=>q2 hx hy⟩
def a19 (K:Frag):R2:=λx y H Q=>∃p xs k v,x=.ref p/\y=.int (k:Nat)/\mJ K H p xs/\xs[k]?=some v/\Q v H
theorem OA:a0Q X (a19 X.K):=by
 intro vy s U H o i ov iv Q I ro ri h;obtain⟨p,xs,k,v,rfl,rfl,hq,he,q⟩:=h;cases ro;obtain⟨t,rfl⟩:=ri;obtain⟨AC,r,pl,hz⟩:=I.list hq;obtain⟨w,ew,rw'⟩:=r.get he;have hk:k<xs.length:=(jao.mp he).1;have hn:=pe;exact wpAny_getItem_list pl.isList (by omega) (by omega) (by simpa using ew) ⟨v,H,I,rw',q⟩
end
end L2
namespace Hw
open PySem L2
def Dn (P:Program)(w:World)(K:Frag)(mg:Str->jcW)(base:Heap)(k:Nat)(x:Str)(ps:jcR)(sp:Sp):Prop:=
 ∃(f:Addr)(fd:FuncData),az P w K mg base bz k f fd ps sp/\mg x=some (.ref f)/\keepIn K (.ref f)=true/\Binds K fd ps []
def Mt (P:Program)(w:World)(K:Frag)(mg:Str->jcW)(base:Heap)(k:Nat)(C:Addr)(m:Str)(ps:jcR)(sp:Sp):Prop:=
 ∃(f:Addr)(fd:FuncData),az P w K mg base bz k f fd ps sp/\Meth K C m f/\Binds K fd ps []
def Mr (P:Program)(w:World)(K:Frag)(mg:Str->jcW)(base:Heap)(k:Nat)(C:Addr)(ps:jcR)(sp:Sp):Prop:=
 ∃(f:Addr)(fd:FuncData),az P w K mg base bz k f fd ps sp/\Mk K C f/\Binds K fd ps []
theorem line (n:Nat)(h:n<=100000):n<sizeLine:=by rw[ja7];omega
theorem szl (n:Nat)(h:autoParam (n<=100000) zn):n<=sizeLine:=Nat.le_of_lt (line n h)
end Hw
namespace L2
open PySem PySem.Spec PyProof.Rows
section
variable {X:Cx}{K:Frag}
noncomputable def strsOf:jcU->Option (jcR)
 |[]=>some []
 |.Constant (.str x) _ _::r=>(strsOf r).map (x::·)
 |_=>none
def Tc (xs:jcR):TA:=λ_ H Q=>Q (xs.map V.str) H
theorem JH:∀{es:jcU}{xs:jcR},strsOf es=some xs->PA X es (Tc xs)
 |[],xs,h=>by
  cases h;exact rL
 |e::r,xs,h=>by
  unfold strsOf at h;split at h
  .rename_i he;cases he
  .rename_i x j pos r' he;cases he;cases q:strsOf r with
   |none=>rw[q] at h;cases h
   |some ys=>
    rw[q] at h;cases h;have ih:=JH q;exact JI Nn ih rfl
  .cases h
noncomputable def Ub:Expr->Option (jcR)
 |.List es _=>strsOf es
 |_=>none
theorem Rn {xs:jcR}:∀{e:Expr},Ub e=some xs->PE X e (YC (Tc xs)):=by
 intro e h;cases e<;>first|exact CG (JH h)|exact(Option.some_ne_none _ h.symm).elim
end
end L2
namespace Hw
open PySem L2
def Je (K:Frag):Sp:=λvs H Q _=>∃(a:Addr)(ns:List Int),vs=[.ref a]/\mJ K H a (ns.map V.int)/\ns.length<=63/\∀H',Q (.bl true) H'
theorem RU (K:Frag)(C:Addr):kitOne K (.ref C) (.ref C)=some true:=by
 unfold kitOne;rw[jae (by simp)]
theorem RT (K:Frag):kitOne K (.type "tuple") (.type "tuple")=some true:=by
 unfold kitOne;rw[jae (by simp)]
end Hw
namespace L2
open PySem PySem.Spec PyProof.Rows
section
variable {X:Cx}{K:Frag}
noncomputable def a16:V->Option Int->Option Int->Hp->VK->Prop:=λx lo hi H Q=>∃z,x=.str z/\z.length<=sizeLine/\Q (.str (Txt.slice z lo hi)) H
theorem Vd:SK X a16:=by
 intro vy s U H x v vl vu lo hi sl Q I rx hs pl pu h;obtain⟨z,rfl,hz,q⟩:=h;obtain⟨t,rfl⟩:=rx;have fin:(Txt.slice z lo hi).length<=sizeLine/\∀t' k,EP X vy U Q (.str (Txt.slice z lo hi) t') {s with toks:=k }:=⟨jaR (Txt.slice_le z _ _) hz,λt' k=>⟨.str _,H,I.tok _,⟨_,M⟩,q⟩⟩
 refine⟨"str",_,PySem.F.slot_str_getitem.lookup,typeIs_str _ _ _,?_⟩;cases pl with
 |none=>cases pu with
  |none=>exact jcB (l:=none) (u:=none) (st:=none) hs rfl (post_val_or_str fin)
  |int j t'=>exact jcB (l:=none) (u:=some (j,t')) (st:=none) hs rfl (post_val_or_str fin)
 |int i ti=>cases pu with
  |none=>exact jcB (l:=some (i,ti)) (u:=none) (st:=none) hs rfl (post_val_or_str fin)
  |int j t'=>exact jcB (l:=some (i,ti)) (u:=some (j,t')) (st:=none) hs rfl (post_val_or_str fin)
def Vq (K:Frag):R2:=λx y H Q=>∃a b xs,x=.ref a/\y=.ref b/\ko K H a xs/\ko K H b []/\Q (.bl (decide (xs=[]))) H
theorem ND (hu:X.A.units<cLine):n5 X (compareOp .Eq) (Vq X.K):=by
 intro vy s U H x y v u Q I rx ry h;obtain⟨a,b,xs,rfl,rfl,ha,hb,q⟩:=h;cases rx;cases ry;obtain⟨us,r1,p1,_⟩:=I.tuple ha;obtain⟨vs,r2,p2,_⟩:=I.tuple hb;cases r2;refine SeqAt.eq_tupleAt (e:=λ_=>true) (show s.heap.IsTuple a us.toArray from p1) (show s.heap.IsTuple b ([]:jcS).toArray from p2) hu (λj h1 h2=>absurd h2 (by simp)) ?_;have e:((List.range (min us.toArray.size ([]:jcS).toArray.size)).all (λ_=>true)&&us.toArray.size==([]:jcS).toArray.size)=decide (xs=[]):=by
  have l:=r1.length;rw[pP,Bool.true_and];by_cases hx:xs=[]
  .subst hx;cases r1;simp
  .rw[jat hx];have:us≠[]:=λz=>hx (by rw[z] at l;exact jbu.mp l);cases us with
   |nil=>exact absurd rfl this
   |cons _ _=>simp
 rw[e];exact⟨.bl _,H,I,M,q⟩
end
end L2
namespace HT
open PySem PySem.Spec PyProof.Rows
section
variable {prog:Program}{w:World}{A:Around}{E:jcP}{s:Shared}
end
end HT
namespace L2
open PySem PySem.Spec PyProof.Rows
section
variable {X:Cx}{K:Frag}
end
section
variable {X:Cx}{K:Frag}
variable {o e:Expr}{to:TE}{B1 cpos:Pos}
theorem HY (l b:Addr)(xs ys:Array Value)(n m:Nat)(dd:jcV)(sl:jcQ)(h0:¬(!xs.isEmpty&&Builtin.List.listTooLong (xs.size+ys.size))=true)(h1:xs.size<=sizeLine)(h2:xs.size+ys.size<=sizeLine+1) :
  Meets (Builtin.«list.extend» ⟨[.ref l,.ref b],[]⟩) (λ_ R s=>s.heap.get? l=some ⟨.type "list",none,.seq xs n,#[]⟩/\s.heap.get? b=some ⟨.type "tuple",dd,.seq ys m,sl⟩/\
   R (.ok (.ret Value.none)) {s with heap:=s.heap.update l (Obj.mapSeq λx=>x++ys),toks:=s.toks }):=
 .of_wp λprog w A R s h=>by
  obtain⟨hp,g,d,tk,os⟩:=s;obtain⟨hl,hb,h⟩:=h;have q1:=PySem.AutoSeq1.idx_int;have q2:=PySem.AutoSeq1.sub_tuple_tuple;have q3:=PySem.AutoSeq1.sub_list_list;have q4:=PySem.AutoSeq1.sub_tuple_list;have q5:=PySem.AutoSeq1.sub_list_tuple;have z:(xs++ys).size<=sizeLine+1:=by
   rw[Array.size_append];exact h2
  wp_walk using(wpAny_updateSeq hl rfl (hz:=h1) (_hz':=z)),PySem.AutoSeq1.wpAny_loadPart' hl,PySem.AutoSeq1.wpAny_loadPart' hb
  exact⟨_,M,h⟩
noncomputable def M8 (K:Frag):V->List V->Hp->VK->Prop:=λx vs H Q=>∃l b xs zs,x=.ref l/\vs=[.ref b]/\H l=some (.lst xs)/\ko K H b zs/\xs.length+zs.length<=sizeLine/\Q .eN (upd H l (.lst (xs++zs)))
theorem HD:MtM X "list.extend" (M8 X.K):=by
 intro vy s U H x vs v us Q I rx rv h;obtain⟨l,b,xs,zs,rfl,rfl,hH,hB,hz,q⟩:=h;cases rx;obtain⟨u,rfl,ru⟩:=rv.one;cases ru;obtain⟨z,AC,n,r,hl,e⟩:=I.FD hH;obtain⟨its2,r2,p2,z2⟩:=I.tuple hB;have hl2:=r2.length;have hsz:AC.toArray.size+its2.toArray.size<=sizeLine:=by rw[jaw,jaw];omega
 have FN:¬(!AC.toArray.isEmpty&&Builtin.List.listTooLong (AC.toArray.size+its2.toArray.size))=true:=by
  rw[yM hsz,Bool.and_false];exact jaL
 have go:∀n2 dd sl,s.heap.get? b=some {cls:=.type "tuple",dict:=dd,data:=.seq its2.toArray n2,slots:=sl }->wpAny (model X.prog X.w) X.A (call (.builtin "list.extend") [.ref l,.ref b]) (EP X vy U Q) X.xe s:=λn2 dd sl e2=>by
  refine call_meets F.slot_list_extend ⟨_,e,M⟩ F.entry_list_extend (F.args_list_extend_2 _ _)
   (HY l b AC.toArray its2.toArray n n2 dd sl FN (by rw[jaw];omega) (by omega)) ⟨e,e2,?_⟩
  refine⟨.eN,_,I.RM (its':=AC++its2) hH e (by simp) (r.append r2) ?_,M,q⟩;rw[jaf];omega
 obtain⟨⟨cls,dd,data,sl⟩,ho,hc,n2,hd⟩:=id p2;simp only at hc hd;subst hc hd;exact go n2 dd sl ho
def Vo (K:Frag):R2:=λx y H Q=>∃a b xs,x=.ref a/\y=.ref b/\mJ K H a xs/\mJ K H b []/\Q (.bl (!decide (xs=[]))) H
theorem NC (hu:X.A.units<cLine):n5 X (compareOp .NotEq) (Vo X.K):=by
 intro vy s U H x y v u Q I rx ry h;obtain⟨a,b,xs,rfl,rfl,ha,hb,q⟩:=h;cases rx;cases ry;obtain⟨us,r1,p1,_⟩:=I.list ha;obtain⟨vs,r2,p2,_⟩:=I.list hb;cases r2;have l1:=r1.length;by_cases hx:xs=[]
 .rw[jaF hx] at q;subst hx;cases r1;exact SeqAt.RcNeAt.lists (A:=X.A) (e:=λ_=>true) p1.isList p2.isList rfl hu (λj h1 h2=>absurd h2 (by simp)) _ _ _ _ ⟨.bl false,H,I,M,q⟩
 .rw[jat hx] at q;have:us≠[]:=λz=>hx (by rw[z] at l1;exact jbu.mp l1);refine SeqAt.RcNeAt.lists_lengths (A:=X.A) p1.isList p2.isList ?_ hu _ _ _ _ ⟨.bl true,H,I,M,q⟩;cases us with
  |nil=>exact absurd rfl this
  |cons _ _=>simp
end
section
variable {X:Cx}{e:Expr}{te:TE}
end
end L2
namespace Hw
open PySem L2
noncomputable def abc:Str:="abcdefghijklmnopqrstuvwxyz"
theorem SI:abc.cps.toList=(List.range 26).map (97+·):=by symm
theorem KC:abc.length<=sizeLine:=Nat.le_of_lt (line _ (by symm))
theorem Pp {r:Nat}(h:r<26):mO abc.cps.toList (r:Int)=some (97+r):=iU (by rw[SI,jaA,jb8 h];rfl)
theorem SH (i:Int):mO abc.cps.toList (i % 26)=some (97+(i % 26).toNat):=by
 have h0:=jcf i (show(26:Int)≠0 by decide);have h1:=jca i (show(0:Int)<26 by decide);have e:i % 26=((i % 26).toNat:Int):=(Int.toNat_of_nonneg h0).symm;have:=Pp (r:=(i % 26).toNat) (by omega);rw[<- e] at this;exact this
abbrev Xs (c:Nat):Str:=⟨#[c]⟩
theorem tW (c:Nat):(Xs c).length=1:=rfl
theorem ua (a b:Str):(a++b).cps.toList=a.cps.toList++b.cps.toList:=PySem.W.KT.app_list a b
theorem lE (a b:Str):(a++b).length=a.length+b.length:=by
 have h:∀x:Str,x.length=x.cps.toList.length:=λx=>by simp[Str.length]
 rw[h,h,h,ua,jaf]
theorem Dh (w:Str)(xs:jcR):R8 (.str w) (xs.map V.str)=decide (w∈xs):=by
 unfold R8;rw[List.any_map];by_cases h:w∈xs
 .rw[jaF h,jbQ];exact⟨w,h,by simp[HZ]⟩
 .rw[jat h,List.any_eq_false];intro y hy;simp only[Function.comp,HZ,ja1];intro e;exact h (e ▸ hy)
theorem Ob (ss:jcR)(h:∀a∈ss,a.length=1):(Txt.join (Str.ofString "") ss).length=ss.length:=PySem.W.KT.join_ones ss h
theorem Ef:∀ss:jcR,(∀a∈ss,a.length=1)->(ss.map (·.length)).sum=ss.length
 |[],_=>rfl
 |a::r,h=>by
  rw[jax,List.sum_cons,Ef r λb hb=>h b (jav _ hb),jaj,h a (jar ..)];omega
abbrev cp (x:Str):jcX:=x.cps.toList
theorem Ig (x:Str):x.length=(cp x).length:=by simp[Str.length]
theorem Kf:∀ss:jcR,cp (Str.join (Str.ofString "") ss)=(ss.map cp).flatten
 |[]=>rfl
 |[x]=>by simp[Str.join]
 |x::y::r=>by
  show cp (x++Str.ofString ""++Str.join (Str.ofString "") (y::r))=_;rw[cp,ua,ua];have ih:=Kf (y::r);rw[show(Str.join (Str.ofString "") (y::r)).cps.toList=cp (Str.join (Str.ofString "") (y::r)) from M,ih];have z:(Str.ofString "").cps.toList=[]:=by decide
  rw[z,jaJ];rfl
theorem Ie (ss:jcR):cp (Txt.join (Str.ofString "") ss)=(ss.map cp).flatten:=by
 show cp (Builtin.Str.glued (Str.ofString "") ss)=_;rw[StrLaws.glued_eq_join];exact Kf ss
section
variable {C:Addr}{H H':Hp}{tl pq q0 q1 hq du u0 u1 sl sa sb:Addr}{xs:jcR}{ps0 t0 t1:Ps}{h0 h1:Int}
end
section
variable {H H':Hp}{z:Addr}{o:HO}
end
section
variable {H0 H H':Hp}{d tl ro:Addr}{xs:jcR}{t0:Ps}{n0:Int}
end
end Hw
namespace L2
open PySem PySem.Spec PyProof.Rows Hw
section
variable {X:Cx}{k:Nat}{m:Str}{pos B1:Pos}{o e:Expr}{es:jcU}{ta:TE}{t:TA}{ul:Cz}{ps:jcR}{sp:Nat->Sp}
end
end L2
namespace Hw
open PySem L2
end Hw
namespace L2
open PySem PySem.Spec PyProof.Rows Hw
section
variable {X:Cx}{K:Frag}
end
end L2
namespace Hw
open PySem L2
end Hw
namespace L2
open PySem PySem.Spec PyProof.Rows Hw
section
variable {X:Cx}{x:Str}{D:Addr}{kvs:List (Key×V)}{i:Expr}{ty:TE}{p pos:Pos}
end
end L2
namespace Hw
open PySem L2
end Hw
namespace L2
open PySem PySem.Spec PyProof.Rows Hw
section
variable {X:Cx}
theorem VJ {body:List Stmt}{h₀:ExceptHandler}{hs:List ExceptHandler}{pos:Pos}{t:TS}(hx:∀e s,¬ X.xe e s)(hb:bF X body t):PS X (.Try body (h₀::hs) [] [] pos) t:=by
 intro vy s U H D I h;refine wpAny_Try_except (jaV (hb vy s U H D I h) (λf s1 q=>?_) λe s1 z=>(hx e s1 z).elim);cases f with
 |next=>exact jac q
 |brk=>exact q
 |cont=>exact q
 |ret u=>exact q
end
end L2
namespace Hw
open PySem L2
end Hw
namespace L2
open PySem PySem.Spec PyProof.Rows Hw
section
variable {X:Cx}
def QU (K:Frag):R2:=λx y H Q=>∃a b xs,x=.ref a/\y=.ref b/\mJ K H a xs/\mJ K H b []/\Q (.bl (decide (xs=[]))) H
theorem K6 (hu:X.A.units<cLine):n5 X (compareOp .Eq) (QU X.K):=by
 intro vy s U H x y v u Q I rx ry h;obtain⟨a,b,xs,rfl,rfl,ha,hb,q⟩:=h;cases rx;cases ry;obtain⟨us,r1,p1,_⟩:=I.list ha;obtain⟨vs,r2,p2,_⟩:=I.list hb;cases r2;have l1:=r1.length;by_cases hx:xs=[]
 .rw[jaF hx] at q;subst hx;cases r1;exact SeqAt.RcAt.lists (A:=X.A) (e:=λ_=>true) p1.isList p2.isList rfl hu (λj h1 h2=>absurd h2 (by simp)) _ _ _ _ ⟨.bl true,H,I,M,q⟩
 .rw[jat hx] at q;have:us≠[]:=λz=>hx (by rw[z] at l1;exact jbu.mp l1);refine SeqAt.RcAt.lists_lengths (A:=X.A) p1.isList p2.isList ?_ hu _ _ _ _ ⟨.bl false,H,I,M,q⟩;cases us with
  |nil=>exact absurd rfl this
  |cons _ _=>simp
end
end L2
namespace Hw
open PySem L2
theorem tH {α:Type} [DecidableEq α]:∀{l m:List α},l.Nodup->(∀x∈l,x∈m)->l.length<=m.length
 |[],m,_,_=>ja3 _
 |a::r,m,h,hs=>by
  have ha:a∈m:=hs a (jar ..);have hn:=jbq.mp h;have ih:=tH (m:=m.erase a) hn.2 λx hx=>by
   have hne:x≠a:=λe=>hn.1 (e ▸ hx);exact(List.mem_erase_of_ne hne).mpr (hs x (jav _ hx))
  rw[List.length_erase_of_mem ha] at ih;have:0<m.length:=List.length_pos_of_mem ha;show r.length+1<=m.length;omega
section
variable {ul:Cz}{H0 H H':Hp}{d tl sd hd p pf:Addr}{xs:jcR}{vt:V}{c c':Cd}{kvs kh:List (Key×V)}{S:Sb}
end
end Hw
namespace PySem
section
variable {prog:Program}{w:World}{A:Around}{E:jcP}{h:Heap}{g:Array GenState}{d:Drawn}{t:Nat}{os:OsState}
variable {nm q:Str}{C N:Addr}{bs bm:jcS}{hdct:Bool}{sn:jcR}{sub:jcS}{ab:Bool}{col:Option Bool}{dd:jcV}{k0 k1 k2 k3 k5:jcW}
end
end PySem
namespace PySem
section
variable {jcN:Model}{A:Around}{E:jcP}{s:Shared}{base:Heap}{env:Env}{outer:List Env}{L a C:Addr}{oe:Obj}{vs:Array Value}
end
end PySem
namespace L2
open PySem PySem.Spec PyProof.Rows
section
variable {P:Program}{w:World}{K:Frag}{mg:Str->jcW}{base:Heap}{N:jcR}{qual:Str}{scope:Scope}{f C:Addr}{cd:Value}{A:Around}{outer:List Env}{s:Shared}{H:Hp}{E:XK}
end
section
variable {X:Cx}{CX:KH}{k:Nat}{f C D fI:Addr}{fd:FuncData}{ps:jcR}{sp:Sp}{E:XK}{x m:Str}{p pos B1:Pos}{e o:Expr}{es:jcU}{t:TA}{bm:jcS}
def YG (sp:Sp)(E:XK)(to:TE)(t:TA):TE:=λU H Q=>to U H λ_ H1=>t U H1 λvs H2=>sp (vs++[]) H2 Q E
theorem Rt {pl:Sem Bool}(hg:Gl X x)(hm:X.mg x=some (.ref D))(h1:specialIn X.K (.ref D) "__getattribute__"=some (some (.builtin "type.__getattribute__")))(h2:readsIn X.K D (.type "type")=true)
  (h3:findCls X.K (.ref D) (.type "type") m=some (.val (.ref f))) (h4:handedIn (.ref f)=true) (hk:keepIn X.K (.ref f)=true) (F:az X.prog X.w X.K X.mg X.base CX k f fd ps sp) (hr:dW k X.A) (hb:Binds X.K fd ps [])
  (hx:Passes CX X E) (ha:PA X (e::es) t) (hst:autoParam (starEach (e::es) X.env=(false,eval e X.env)::starEach es X.env) zi) (hpl:autoParam ((backTo pos (starEach es X.env)).any (·.1)=false) zi) (hdb:autoParam ((x==("__debug__":Str))=false) zn)
  (ht:autoParam (eval (.Call (.Attribute (.Name x p) m B1) (e::es) [] pos) X.env=(do
   let ov <- eval (.Name x p) X.env
   standAt B1.atName
   let(f,first) <- holding [ov] (getMethod ov m pl)
   callWith pos f first (backTo pos (starEach (e::es) X.env)) (backToKw pos (keywordEach [] X.env)))) zi) :
  PE X (.Call (.Attribute (.Name x p) m B1) (e::es) [] pos) (YG sp E (tC (.ref D)) t):=by
 intro vy s U H Q I h;refine methodCall_KW (pl:=pl) (xy I hg hm ?_ hdb) ht;refine PySem.W.method_cls I.uB h1 (PySem.W.cls_value I.uB h2 h3 h4 ?_);have I1:=I.tok (s.toks+1);refine callWith_K (first:=[]) (h₀:=X.base) I.ok.mod.XW hk (ez (ha pos vy _ U H _ I1 h) λus s2 ⟨vs,H2,I2,r,q2⟩=>⟨I2.uB,?_⟩) hst hpl;exact CA F hr hb .nil hx I2 r q2
end
section
variable {X:Cx}{tg:Expr}
end
end L2
namespace PySem
open L2
theorem RQ (t:SetTable)(es:Array (Int×Value))(h:Int)(x:Value):(layNew t es h x).2.1.led=t.led:=by
 unfold layNew;split
 .dsimp only;rename_i slot wd _;have e:((t.put slot).1).led=t.led:=rfl;have o:∀(u:SetTable)(n:Nat),(u.orStandIn n).led=u.led:=λu n=>by
   unfold SetTable.orStandIn;split<;>rfl
  exact(o _ _).trans e
 .rfl
theorem KW (t:SetTable)(es:Array (Int×Value))(k:Nat):(relayAll t es k).2.1.led=t.led/\(t.plain=false->(relayAll t es k).2.1.plain=false):=by
 unfold relayAll;split
 .rename_i t' order hr;dsimp only;have e:t'.led=t.led/\t'.plain=t.plain:=by
   unfold SetTable.relaid SetTable.laid at hr;simp only[Option.bind_eq_bind,Option.bind_eq_some_iff,Option.pure_def,Option.some.injEq,Prod.mk.injEq] at hr;obtain⟨owner,_,rfl,_⟩:=hr;exact⟨M,M⟩
  split
  .exact⟨e.1,λz=>e.2.trans z⟩
  .exact⟨M,λ_=>rfl⟩
 .exact⟨M,λ_=>rfl⟩
noncomputable def strOf:Value->Str
 |.str z _=>z
 |_=>Str.empty
def bI (prog:Program)(w:World)(h:Heap)(a:Addr)(zs:jcR):Prop:=
 ∃o es ep t,h.get? a=some o/\o.ExactSet/\o.data=.set es ep t/\ElemsOf (aJ prog w) es.toList/\(∀e∈es.toList,∃z k,e.2=Value.str z k)/\es.toList.map (λe=>strOf e.2)=zs/\zs.Nodup/\
  es.size<scanBound/\t.fits es.size=true/\t.led=!w.params.followText "set-order"/\(t.plain=false\/es.size=0)
section
variable {prog:Program}{w:World}{A:Around}{E:jcP}{s:Shared}
theorem bI.store {h:Heap}{a:Addr}{o:Obj}{es:Array (Int×Value)}{ep:Nat}{t:SetTable}(ho:h.get? a=some o)(hex:o.ExactSet)(hd:o.data=.set es ep t){es':Array (Int×Value)}{t':SetTable}
  (h1:ElemsOf (aJ prog w) es'.toList) (h2:∀e∈es'.toList,∃z k,e.2=Value.str z k) (h3:(es'.toList.map λe=>strOf e.2).Nodup) (h4:es'.size<scanBound) (h5:t'.fits es'.size=true) (h6:t'.led=!w.params.followText "set-order") (h7:t'.plain=false) :
  (h.update a (Obj.putSet es' t')).get? a=some {o with data:=.set es' (ep+1) t' }/\bI prog w (h.update a (Obj.putSet es' t')) a (es'.toList.map λe=>strOf e.2):=by
 have hg:(h.update a (Obj.putSet es' t')).get? a=some {o with data:=.set es' (ep+1) t' }:=by
  have:=jbo (Obj.putSet es' t') ho (by rw[putSet_of es' t' hd];rfl);rw[putSet_of es' t' hd] at this;exact this
 exact⟨hg,_,es',ep+1,t',hg,hex,M,h1,h2,M,h3,h4,h5,h6,.inl h7⟩
theorem yU {x z:Str}{k:Tok}:(aJ prog w).is (Sum.inr x) (.str z k)=decide (z=x):=by
 by_cases e:z=x
 .subst e;rw[c6,jaF rfl]
 .rw[jat e];cases q:(aJ prog w).is (Sum.inr x) (.str z k) with
  |false=>rfl
  |true=>exact absurd (Sum.inr.inj ((aJ prog w).inj _ _ _ q (c6 prog w z k))) λz=>e z.symm
theorem Jr {a:Addr}{zs:jcR}{x:Str}{k:Tok}{Q:Bool->Shared->Prop}(hS:bI prog w s.heap a zs)(hroom:zs.length+1<scanBound)
  (h:∀h' zs',Heap.SameBut a s.heap h'->bI prog w h' a zs'->(x∈zs->zs'=zs)->(x∉zs->List.Perm zs' (zs++[x]))->Q (!decide (x∈zs)) {s with heap:=h' }) :
  wpAny (model prog w) A (setAddHashed a (.str x k) ((aJ prog w).hash (Sum.inr x))) Q E s:=by
 obtain⟨o,es,ep,t,ho,hex,hd,hel,hst,hzs,hnd,hb,hf,gm,hpl⟩:=id hS;have hn:es.size=zs.length:=by rw[<- hzs,jab,jaq]
 have hsc:(Value.str x k).scannable=true:=rfl;have hkey:=c6 prog w x k;unfold setAddHashed setAddHashedIn;refine jbh (jaa (jaB ho hd hf ?_));dsimp only;rw[byScan_of hsc hb hel];simp only[↓reduceIte];unfold setAddByScan;refine jaa ?_;refine jaa (jbs ?_);refine jaa (wpAny_setScan_of hkey ho hd hf hel ?_);have mem:x∈zs↔∃e∈es.toList,(aJ prog w).is (Sum.inr x) e.2=true:=by
  rw[<- hzs,jas];constructor
  .rintro⟨e,he,q⟩;obtain⟨z,k',e2⟩:=hst e he;refine⟨e,he,?_⟩;rw[e2] at q ⊢;rw[yU];exact jaF q
  .rintro⟨e,he,q⟩;obtain⟨z,k',e2⟩:=hst e he;refine⟨e,he,?_⟩;rw[e2] at q ⊢;rw[yU] at q;exact jbc q
 cases hr:List.findIdx? (λe=>(aJ prog w).is (Sum.inr x) e.2) es.toList with
 |some j=>
  dsimp only;obtain⟨hj,X0,_⟩:=jcK.mp hr;have hm:x∈zs:=mem.mpr ⟨es.toList[j],jce hj,X0⟩;refine jac (jac ?_);have e:s={s with heap:=s.heap }:=by cases s;rfl
  have:=h s.heap zs (jcb a s.heap) hS (λ_=>rfl) (λz=>absurd hm z);rw[jaF hm] at this;rw[e];exact this
 |none=>
  dsimp only;have hm:x∉zs:=λz=>by
   obtain⟨e,he,q⟩:=mem.mp z;have:=List.findIdx?_eq_none_iff.mp hr e he;rw[q] at this;exact Bool.noConfusion this
  have hgw:∀(b:Bool){s₁:Shared}{Q':Unit->Shared->Prop},Q' () s₁->wpAny (model prog w) A (match b with | true=>rule "set.scan.the-table-gave-way" |false=>pure ()) Q' E s₁:=
   λb s₁ Q' hq=>by cases b<;>first | exact jac hq | exact jbs hq
  have yX:=layNew_perm t es ((aJ prog w).hash (Sum.inr x)) (.str x k);have J0:=layNew_fits t es ((aJ prog w).hash (Sum.inr x)) (.str x k);have hl:=RQ t es ((aJ prog w).hash (Sum.inr x)) (.str x k);generalize hL:layNew t es ((aJ prog w).hash (Sum.inr x)) (.str x k)=L at yX J0 hl ⊢;obtain⟨es1,t1,wasDummy,a5Q⟩:=L;dsimp only at yX J0 hl ⊢;rw[Array.toList_push] at yX;have hel1:ElemsOf (aJ prog w) es1.toList:=(hel.push hkey hsc).perm yX;have Z5:∀e∈es1.toList,∃z k,e.2=Value.str z k:=λe he=>by
   rcases jau.mp (yX.mem_iff.mp he) with q | q
   .exact hst e q
   .rw[jai.mp q];exact⟨_,_,M⟩
  have hz1:List.Perm (es1.toList.map λe=>strOf e.2) (zs++[x]):=by
   have:=yX.map λe=>strOf e.2;rw[jam,hzs] at this;exact this
  have a0c:(es1.toList.map λe=>strOf e.2).Nodup:=hz1.nodup_iff.mpr (by
   rw[jcc];refine⟨hnd,by simp,λu hu v hv e=>?_⟩;rw[jai.mp hv] at e;exact hm (e ▸ hu))
  have hb1:es1.size<scanBound:=by
   rw[<- jaq,yX.length_eq,jaf,jaq];simpa[hn] using hroom
  refine jaa (hgw _ ?_);have hend:∀h' zs',Heap.SameBut a s.heap h'->bI prog w h' a zs'->List.Perm zs' (zs++[x])->Q true {s with heap:=h' }:=by
   intro h' zs' Se hS' hp;have:=h h' zs' Se hS' (λz=>absurd z hm) (λ_=>hp);rw[jat hm] at this;exact this
  have tail:∀t2:SetTable,t2.fits es1.size=true->t2.led=t.led->t2.plain=false->wpAny (model prog w) A (do
    storeSet a es1 t2
    if(!wasDummy&&t2.tooFull)=true then do
      (match(relayAll t2 es1 (SetTable.grown es1.size)).2.2 with | true=>rule "set.scan.the-table-gave-way" |false=>pure ())
      storeSet a (relayAll t2 es1 (SetTable.grown es1.size)).1 (relayAll t2 es1 (SetTable.grown es1.size)).2.1
      pure (some true)
     else pure (some true)) (λr s'=>wpAny (model prog w) A (match r with | some added=>pure added | none=>setAddHashedIn a (.str x k) ((aJ prog w).hash (Sum.inr x)) 99999) Q E s') E s:=by
   intro t2 hf2 hl2 hp2;refine jaa (jbJ ho hd ?_ (fits_of_scanBound hb1));obtain⟨W2,Ou⟩:=bI.store (prog:=prog) (w:=w) ho hex hd hel1 Z5 a0c hb1 hf2 (hl2.trans gm) hp2;have Z7:=jbg s.heap a (Obj.putSet es1 t2);split
   .have hp:=relayAll_perm t2 es1 (SetTable.grown es1.size);have hfr:=relayAll_fits t2 es1 (SetTable.grown es1.size);have hlr:=KW t2 es1 (SetTable.grown es1.size);generalize hRl:relayAll t2 es1 (SetTable.grown es1.size)=Rl at hp hfr hlr ⊢;obtain⟨es2,t3,a4o⟩:=Rl;dsimp only at hp hfr hlr ⊢;have hsz:es2.size=es1.size:=by rw[<- jaq,hp.length_eq,jaq]
    refine jaa (hgw _ ?_);refine jaa (jbJ W2 rfl ?_ (fits_of_scanBound (by rw[hsz];exact hb1)));obtain⟨_,hS2⟩:=bI.store (prog:=prog) (w:=w) W2 hex rfl (hel1.perm hp) (λe he=>Z5 e (hp.mem_iff.mp he)) ((hp.map _).nodup_iff.mpr a0c) (by rw[hsz];exact hb1) hfr (hlr.1.trans (hl2.trans gm)) (hlr.2 hp2);exact jac (jac (hend _ _ (Z7.trans (jbg _ a _)) hS2 ((hp.map _).trans hz1)))
   .exact jac (jac (hend _ _ Z7 Ou hz1))
  split
  .refine jaa ?_;rw[hashByValue_scannable 8 hsc];refine jac ?_;exact tail {t1 with plain:=false } (SetTable.fits_plain_off J0) hl rfl
  .rename_i hpp;refine jaa (jac ?_);simp only[↓reduceIte];exact tail t1 J0 hl (by simpa using hpp)
end
end PySem
namespace PySem
open L2 PyProof.Rows
section
variable {prog:Program}{w:World}{A:Around}{R:Result->Shared->Prop}{I:Addr}{fp wr:jcT}{G:Array GenState->Array GenState->Prop}{n:Nat}{P:Nat->Value->Prop}{St:Nat->Shared->Prop}
theorem bI.at {h h':Heap}{a:Addr}{zs:jcR}(x:bI prog w h a zs)(k:∀o,h.get? a=some o->h'.get? a=some o):bI prog w h' a zs:=by
 obtain⟨o,es,ep,t,ho,r⟩:=x;exact⟨o,es,ep,t,k o ho,r⟩
theorem Eu (W:WalksS prog w A.in1 I fp wr G n P St)(S:Addr)(hSf:S∉fp)(ss:jcR)(hlen:ss.length=n)(hval:∀i v,i<n->P i v->∃t,v=.str (ss.getD i Str.empty) t)(hb:n+1<scanBound) :
  ∀(k i:Nat)(s:Shared)(zs:jcR),n - i=k->i<=n->St i s->bI prog w s.heap S zs->zs.length<=i->(∀x,x∈zs↔x∈ss.take i)->
   (∀s' zs',Moved (S::wr) G s s'->bI prog w s'.heap S zs'->zs'.length<=n->(∀x,x∈zs'↔x∈ss)->R (.ok (.ret .none)) s')->
   codeAny (model prog w) A (.builtin "set.update.loop" ⟨[.ref S,.ref I],[]⟩) R s:=by
 have hSw:S∉wr:=λh=>hSf (W.sub _ h);have hsub:∀b∈wr,b∈S::wr:=λb hb=>jav _ hb;intro k
 induction k with
 |zero=>
  intro i s zs hk hi hst hS hl hm hR;have hin:i=n:=by omega
  subst hin;refine jbY F.entry_set_update_loop ?_;rw[jcp F.plain_set_update_loop _];show wpAny _ A.in1 (pyNext (.ref I) >>=_) _ _ s;refine jaa (W.done s _ _ hst λs' hmv=>?_);show wpAny _ A.in1 (ret Value.none) _ _ s';refine jac (hR s' zs (hmv.mono hsub) (hS.at λo ho=>hmv.heap S _ hSw ho) hl λx=>?_);rw[hm x,<- hlen,List.take_length]
 |succ k ih=>
  intro i s zs hk hi hst hS hl hm hR;have hlt:i<n:=by omega
  refine jbY F.entry_set_update_loop ?_;rw[jcp F.plain_set_update_loop _];show wpAny _ A.in1 (pyNext (.ref I) >>=_) _ _ s;refine jaa (W.item i s _ _ hlt hst λv s' hP a2P hmv=>?_);obtain⟨t,rfl⟩:=hval i v hlt hP;have hS':bI prog w s'.heap S zs:=hS.at λo ho=>hmv.heap S _ hSw ho;show wpAny _ A.in1 (holding [Value.str (ss.getD i Str.empty) t] (setAdd S (.str (ss.getD i Str.empty) t)) >>=_) _ _ s';refine jaa (jbh ?_);unfold setAdd;refine jbh ?_;refine jaa ((aJ prog w).pyHash (k:=Sum.inr (ss.getD i Str.empty)) (c6 _ _ _ _) ?_);refine Jr (s:={s' with toks:=s'.toks+1 }) hS' (by omega) λh' zs' Se hS2 hin hout=>?_;have hx:ss[i]?=some (ss.getD i Str.empty):=by
   rw[List.getD_eq_getElem?_getD,jaD (by omega)];rfl
  have hmem:∀x,x∈zs'↔x∈ss.take (i+1):=λx=>by
   rw[List.take_add_one,hx,jau];by_cases q:ss.getD i Str.empty∈zs
   .rw[hin q,hm x];constructor
    .exact .inl
    .rintro(z | z)
     .exact z
     .have:x=ss.getD i Str.empty:=by simpa using z
      rw[this];exact(hm _).mp q
   .rw[(hout q).mem_iff,jau,hm x];simp
  have hl':zs'.length<=i+1:=by
   by_cases q:ss.getD i Str.empty∈zs
   .rw[hin q];omega
   .rw[(hout q).length_eq,jaf,jbF];omega
  refine jac ⟨plainId_quiet F.plain_set_update_loop _,ih (i+1) _ zs' (by omega) hlt (W.frame _ s' _ _ a2P (jb2 _) λb hb o e=>?_) hS2 hl' hmem λs'' a1B a2Z a3f a22 hm2=>?_⟩
  .rw[Se.2 b (λh:b=S=>hSf (by rw[<- h];exact hb))];exact e
  .refine hR s'' a1B (Moved.trans W.gtrans ((hmv.mono hsub).then_heap (jb2 _) λb o hb e=>?_) a2Z) a3f a22 hm2;rw[Se.2 b (λh:b=S=>hb (by rw[h];exact jar))];exact e
end
section
variable {prog:Program}{w:World}{A:Around}{E:jcP}{s:Shared}
theorem pI (a:Value){Q₁:jcP}
  (h:Q₁ (.ref s.heap.objs.size) {s with heap:=s.heap.push {cls:=.type "set",dict:=none,data:=.set #[] 0 (.fresh 0 0 (!w.params.followText "set-order")) } }) :
  codeAny (model prog w) A (.call (.builtin "set.__new__") ⟨[.type "set",a],[]⟩) (wants Q₁ E) s:=by
 refine codeAny_of_tree ?_;show wpAny _ A.in1 (do checkBuiltinCall "set.__new__" ⟨[.type "set",a],[]⟩;again (.builtin "set.__new__" ⟨[.type "set",a],[]⟩)) _ _ s;refine jaa (wpAny_of_eq (F.newCall_set_1 a) (jac ⟨plainId_quiet F.plain_set_new _,jbY F.entry_set_new ?_⟩));rw[jcp F.plain_set_new _];unfold Builtin.«set.__new__» Builtin.Frozenset.newClass;have hsub:=sub_set_self;obtain⟨hp,g,d,tk,os⟩:=s;dsimp only
 wp_walk
 refine jbe (jac ?_);dsimp only;simp only[newObj];refine jaa (wpAny_alloc (jac ?_));exact jac h
theorem StrsAre.Mx:∀{vs:jcS}{ss:jcR},StrsAre vs ss->∀(i:Nat)(v:Value),vs[i]?=some v->∃t,v=.str (ss.getD i Str.empty) t:=by
 intro vs ss h
 induction h with
 |nil=>intro i v e;simp at e
 |cons x t hr ih=>
  intro i v e;cases i with
  |zero=>simp at e;exact⟨t,e.symm⟩
  |succ i=>
   simp only[List.getElem?_cons_succ] at e;obtain⟨t',e'⟩:=ih i v e;exact⟨t',by rw[e'];rfl⟩
set_option maxHeartbeats 3200000 in
theorem Ar {l:Addr}{items:Array Value}{ss:jcR}{Q:jcP}(hh:A.handled=none)(hl:s.heap.IsList l items)(hi:StrsAre items.toList ss)(hb:items.size+1<scanBound)
  (h:∀(h':Heap)(tk:Nat)(zs:jcR),bI prog w h' s.heap.objs.size zs->(∀x,x∈zs↔x∈ss)->zs.length<=items.size->
   (∀b o,b<s.heap.objs.size->s.heap.get? b=some o->h'.get? b=some o)->Q (.ref s.heap.objs.size) {s with heap:=h',toks:=tk }) :
  wpAny (model prog w) A (call (.type "set") [.ref l]) Q E s:=by
 have hlen:ss.length=items.size:=by rw[<- jcg hi,jaq]
 obtain⟨c,tl,a2Y⟩:=ja8.mro;have hmade:=ja8.made;have hsub:=ja8.sub;refine wpAny_call (codeAny_of_tree ?_);show wpAny _ _ (callAny (.type "set") _) _ _ _;refine jac ⟨Code.quiet_builtin _ (by symm),jbY F.entry_type_call ?_⟩;rw[Around.under_plain (weight_type_call_type "set" [.ref l] []) rfl];have h1:=ja8.notType;have h2:=ja8.canCreate;have hct:=F.typeCall_set_1 (.ref l)
 repeat (any_goals (first | assumption | wp_step))
 refine jbN (pI (.ref l) (E:=E) (Q₁:=λobj s₁=>obj=.ref s.heap.objs.size/\s₁={s with heap:=s.heap.push {cls:=.type "set",dict:=none,data:=.set #[] 0 (.fresh 0 0 (!w.params.followText "set-order")) } }) ⟨M,M⟩) λr s₁ hr=>?_;cases r with
 |error e=>exact hr
 |ok fl=>
  cases fl with
  |ret obj=>
   obtain⟨rfl,rfl⟩:=hr;have hS:(s.heap.push {cls:=.type "set",dict:=none,data:=.set #[] 0 (.fresh 0 0 (!w.params.followText "set-order")) }).get? s.heap.objs.size=some {cls:=.type "set",dict:=none,data:=.set #[] 0 (.fresh 0 0 (!w.params.followText "set-order")) }:=jaz _ rfl;have hT:Shared.TypeIs {s with heap:=s.heap.push {cls:=.type "set",dict:=none,data:=.set #[] 0 (.fresh 0 0 (!w.params.followText "set-order")) } } (.ref s.heap.objs.size) "set":=⟨_,hS,M⟩
   have hli:=ja8.init.lookup;have hbi:=ja8.init.bind (.ref s.heap.objs.size)
   repeat (any_goals (first | assumption | wp_step))
   refine jbN (codeAny_call_builtin (R:=wants (λr s₂=>r=.none/\∃h' tk zs,s₂={s with heap:=h',toks:=tk }/\bI prog w h' s.heap.objs.size zs/\(∀x,x∈zs↔x∈ss)/\zs.length<=items.size/\
     (∀b o,b<s.heap.objs.size->s.heap.get? b=some o->h'.get? b=some o)) E) ja8.init.plain F.entry_set_init (check_set_init_1 hT ?_)) λr₂ s₂ hr₂=>?_
   .obtain⟨ol,hol,hcl,nl,hdl⟩:=hl;obtain⟨a2i,NO,Zw,Hi⟩:=ol;simp only at hcl hdl;subst hcl;subst hdl;have W0:(s.heap.push {cls:=.type "set",dict:=none,data:=.set #[] 0 (.fresh 0 0 (!w.params.followText "set-order")) }).get? l=some {cls:=.type "list",dict:=NO,data:=.seq items nl,slots:=Hi }:=jan _ hol;have a2Q:=F.sub_list_set;have a2R:=F.sub_list_frozenset;have hne:(Value.type "list" ==Value.type "dict")=false:=by decide
    have hl1:(s.heap.push {cls:=.type "set",dict:=none,data:=.set #[] 0 (.fresh 0 0 (!w.params.followText "set-order")) }).IsList l items:=⟨_,W0,M,nl,M⟩
    unfold Builtin.«set.__init__» noKeywords Builtin.Frozenset.updateFrom;generalize hPI:pyIter=PI
    wp_walk
    subst hPI;refine wpAny_pyIter_list hl1 ?_;refine jaa (wpAny_runValue ?_);have hlS:l<s.heap.objs.size:=jak hol;have hh3:A.in1.in1.in1.handled=none:=by simp[hh]
    have W4:l≠(s.heap.push {cls:=.type "set",dict:=none,data:=.set #[] 0 (.fresh 0 0 (!w.params.followText "set-order")) }).objs.size:=by rw[ja0];exact jap (jbx hlS)
    have hSf:s.heap.objs.size∉[(s.heap.push {cls:=.type "set",dict:=none,data:=.set #[] 0 (.fresh 0 0 (!w.params.followText "set-order")) }).objs.size,l]:=by
     rw[ja0];simp only[jag,jai,jaI,jbt,not_or];exact⟨jap (jcd _),ja6 hlS⟩
    refine Eu ((Walks.list hh3 _ l W4 items).toS) s.heap.objs.size hSf ss hlen (λi v _ hv=>StrsAre.Mx hi i v (by rw[jb6];exact hv)) hb (items.size - 0) 0 _ [] (by omega) (ja3 _)
     ⟨⟨_,jaz _ M,M,M⟩,(hl1.push _)⟩ ?hS0 (jal _) (λx=>by simp) ?hR
    case hS0=>
     have hget:((s.heap.push {cls:=.type "set",dict:=none,data:=.set #[] 0 (.fresh 0 0 (!w.params.followText "set-order")) }).push {cls:=.type "list_iterator",data:=.fields #[.ref l,.int 0 0] }).get? s.heap.objs.size=some {cls:=.type "set",dict:=none,data:=.set #[] 0 (.fresh 0 0 (!w.params.followText "set-order")) }:=jan _ hS;exact⟨_,#[],0,_,hget,⟨M,M,M⟩,M,(λe he=>by simp at he),(λe he=>by simp at he),M,.nil,by decide,by rfl,M,.inr M⟩
    case hR=>
     intro s' zs hm hS' PX hmem;obtain⟨h',g',d',tk',os'⟩:=s';have eg:g'=s.gens:=hm.gens;have ed:d'=s.drawn:=hm.drawn;have eo:os'=s.os:=hm.os;subst eg;subst ed;subst eo;show wpAny _ _ _ _ _ _;refine jac ?_;show wpAny _ _ (ret Value.none) _ _ _;refine jac ⟨M,h',tk',zs,M,hS',hmem,PX,λb o hb e=>?_⟩;have hb1:b≠s.heap.objs.size:=jap hb;have hb2:b≠(s.heap.push {cls:=.type "set",dict:=none,data:=.set #[] 0 (.fresh 0 0 (!w.params.followText "set-order")) }).objs.size:=by rw[ja0];exact jap (jbx hb)
     exact hm.heap b o (by simp only[jag,jai,jaI,jbt,not_or];exact⟨hb1,hb2⟩) (jan _ (jan _ e))
   .cases r₂ with
    |error e=>exact hr₂
    |ok fl₂=>
     cases fl₂ with
     |ret r=>
      obtain⟨rfl,h',tk,zs,rfl,hS',hmem,PX,hk'⟩:=hr₂
      repeat (any_goals (first | assumption | wp_step))
      exact h _ _ zs hS' hmem PX hk'
     |_=>exact hr₂.elim
  |_=>exact hr.elim
end
end PySem
namespace PySem
open L2 PyProof.Rows
namespace F
theorem wu:entryFor table "set.__iter__"=some Builtin.«frozenset.__iter__»:=entryFor_alias (id':="frozenset.__iter__") (by kernel_rfl) rfl (by symm) (by kernel_rfl)
theorem rM:Manifest.owners.lookup (String.ofList ['r','o','t','a','r','e','t','i','_','t','e','s'].reverse)=some Manifest.sig_set_iterator:=by kernel_rfl
theorem aN:Slot "set_iterator" "__next__" "set_iterator.__next__":=
 .of (owner:="set_iterator") (n:="__next__") (by rw[typeLookup_type,builtinLookup_eq_fast];kernel_rfl) (by symm) (by symm) (by symm)
  (by first | exact .inl (by symm) | exact .inr (by symm)) (by rw[isSubtype_type];kernel_rfl)
theorem dO:entryFor table "set_iterator.__next__"=some Builtin.«set_iterator.__next__»:=entryFor_of_tree (by kernel_rfl)
theorem dB (a:Value):argsOk "set_iterator.__next__" ⟨[a],[]⟩:=by
 unfold argsOk;rw[signature?_of (id:="set_iterator.__next__") (n:=['_','_','t','x','e','n','_','_']) (o:=['r','o','t','a','r','e','t','i','_','t','e','s']) (by kernel_rfl) rM];kernel_rfl
theorem gp:Slot "set_iterator" "__iter__" "set_iterator.__iter__":=
 .of (owner:="set_iterator") (n:="__iter__") (by rw[typeLookup_type,builtinLookup_eq_fast];kernel_rfl) (by symm) (by symm) (by symm)
  (by first | exact .inl (by symm) | exact .inr (by symm)) (by rw[isSubtype_type];kernel_rfl)
theorem mE:entryFor table "set_iterator.__iter__"=some Builtin.«dict_keyiterator.__iter__»:=
 entryFor_alias (id':="dict_keyiterator.__iter__") (by kernel_rfl) rfl (by symm) (by kernel_rfl)
theorem lZ (a:Value):argsOk "set_iterator.__iter__" ⟨[a],[]⟩:=by unfold argsOk;kernel_rfl
end F
def ug (h:Heap)(I:Addr)(first:Value)(i:Nat)(a:Addr)(n ep:Nat):Prop:=
 ∃o,h.get? I=some o/\o.cls=.type "set_iterator"/\o.data=.fields #[first,.int i 0,.ref a,.int n 0,.int ep 0]
def j7 (h:Heap)(a:Addr)(es:Array (Int×Value))(ep:Nat)(t:SetTable):Prop:=∃o,h.get? a=some o/\o.data=.set es ep t/\t.fits es.size=true
theorem ug.typeIs {s:Shared}{I a:Addr}{first:Value}{i n ep:Nat}(x:ug s.heap I first i a n ep):s.TypeIs (.ref I) "set_iterator":=let⟨o,ho,hc,_⟩:=x;⟨o,ho,hc⟩
section
variable {prog:Program}{w:World}{A:Around}{E:jcP}{s:Shared}{I a tp:Addr}{i n ep:Nat}{es:Array (Int×Value)}{t:SetTable}
theorem uQ {first:Value}{Q:jcP}(hit:ug s.heap I first i a n ep)(h:Q (.ref I) s):wpAny (model prog w) A (pyIter (.ref I)) Q E s:=by
 refine wpAny_pyIter_slot hit.typeIs F.gp (jbd F.gp hit.typeIs F.mE ?_ (F.lZ _));show wpAny _ _ (ret (.ref I)) _ _ s;exact jac ⟨_,M,"set_iterator",_,hit.typeIs,F.aN.lookup,h⟩
end
end PySem
namespace PySem
open L2 PyProof.Rows
section
variable {prog:Program}{w:World}{A:Around}{E:jcP}{s:Shared}{I a tp:Addr}{i n ep:Nat}{es:Array (Int×Value)}{t:SetTable}
theorem uM {es:Array (Int×Value)}{n:Nat}(hn:es.size=n):(((es.size:Nat):Int) !=((n:Nat):Int))=false:=by rw[hn];simp
theorem Wk {Q:jcW->Shared->Prop}{ps:jcS}{k p:Nat}{tk:Tok}{ot:Obj}{e:Int×Value}(hit:ug s.heap I (.ref tp) i a n ep)(hs:j7 s.heap a es ep t)(hn:es.size=n)(ht:s.heap.get? tp=some ot)(hd:ot.data=.seq ps.toArray k)
  (hp:ps[i]?=some (.int p tk)) (he:es[p]?=some e) (hQ:∀h',ug h' I (.ref tp) (i+1) a n ep->Heap.SameBut I s.heap h'->Q (some e.2) {s with heap:=h' }):wpAny (model prog w) A (pyNext (.ref I)) Q E s:=by
 obtain⟨o,ho,hc,hdo⟩:=id hit;obtain⟨os,hos,hds,hf⟩:=hs;unfold pyNext;refine jaa (jci (jbE (name:=Str.ofString "__next__") hit.typeIs F.aN
  (jbd F.aN hit.typeIs F.dO ?_ (F.dB _))))
 show wpAny _ _ (fieldsOf (.ref I) >>=_) _ _ s;refine jaa (wpAny_fieldsOf ho hdo ?_);dsimp only;refine jaa (jcJ hos hds hf ?_);rw[uM hn];simp only[jaM,jaH];refine jaa (jbL ht hd ?_);dsimp only;have hp':ps.toArray[(i:Int).toNat]?=some (.int p tk):=by rw[jbW];simpa using hp
 rw[hp'];dsimp only;unfold setNextDrawn;refine jaa (jaa (jaB hos hds hf ?_));dsimp only;simp only[jbW,bne_self_eq_false,jaM,jaH,he];refine jac ?_;refine jaa (jbR ho hdo (by simp) (jac ⟨_,M,jac (hQ _ ?_ (jbg ..))⟩));exact⟨_,jbo _ ho (jco (jbl hdo _)),(Obj.cls_mapFields ..).trans hc,by rw[jbl hdo];simp[rawInt]⟩
theorem a0t {Q:jcW->Shared->Prop}{ps:jcS}{k:Nat}{ot:Obj}(hh:A.handled=none)(hit:ug s.heap I (.ref tp) i a n ep)(hs:j7 s.heap a es ep t)(hn:es.size=n)(ht:s.heap.get? tp=some ot)(hd:ot.data=.seq ps.toArray k)
  (hp:ps[i]?=none) (hQ:∀h',(∀b o,b≠I->s.heap.get? b=some o->h'.get? b=some o)->Q none {s with heap:=h' }):wpAny (model prog w) A (pyNext (.ref I)) Q E s:=by
 obtain⟨o,ho,hc,hdo⟩:=id hit;obtain⟨os,hos,hds,hf⟩:=hs;unfold pyNext;refine jaa (jci (jbE (name:=Str.ofString "__next__") hit.typeIs F.aN
  (jbd F.aN hit.typeIs F.dO ?_ (F.dB _))))
 show wpAny _ _ (fieldsOf (.ref I) >>=_) _ _ s;refine jaa (wpAny_fieldsOf ho hdo ?_);dsimp only;refine jaa (jcJ hos hds hf ?_);rw[uM hn];simp only[jaM,jaH];refine jaa (jbL ht hd ?_);dsimp only;have hp':ps.toArray[(i:Int).toNat]?=none:=by rw[jbW];simpa using hp
 rw[hp'];dsimp only;refine jaa (jbR ho hdo (by simp) ?_);have W2:=jbo (Obj.mapFields (·.setIfInBounds 0 (rawInt 0))) ho (jco (jbl hdo _));refine jaa (jbR W2 (jbl hdo _) (by simp) ?_);show wpAny _ _ (newExc (.type "StopIteration") [] >>=_) _ _ _;refine jaa ?_;simp only[newExc,newTuple];refine jaa (jba ?_ (by size_fits));refine jaa (m:=firstArgMember _ _) (wpAny_of_eq (a:=Value.none) (by first | rfl | (simp only[firstArgMember];rfl)) ?_);refine jba ?_ (by size_fits);simp only[raiseNew];refine jaa (wpAny_handled ?_);rw[show A.in1.handled=none from hh];refine jaa (jac (wpAny_throw ?_));refine jaa (jbz (T:="StopIteration") (b:=true) ⟨_,jaz _ M,M⟩ isSubtype_stop ?_);refine jac (hQ _ λb o' hb e=>?_);exact jan _ (jan _ ((jbn _ _ (jaO hb)).trans ((jbn _ _ (jaO hb)).trans e)))
theorem C5 {Q:jcW->Shared->Prop}{sl:Nat}{r:Option (Value×Nat)}(hh:A.handled=none)(hit:ug s.heap I (.int sl 0) i a n ep)(hs:j7 s.heap a es ep t)(hn:es.size=n)
  (hr:∀(A':Around)(E':jcP)(Q':Option (Value×Nat)->Shared->Prop),Q' r s->wpAny (model prog w) A' (setNext a sl i ep) Q' E' s)
  (hQ:∀x nx h',r=some (x,nx)->ug h' I (.int nx 0) (i+1) a n ep->Heap.SameBut I s.heap h'->Q (some x) {s with heap:=h' })
  (hE:r=none->∀h',(∀b o,b≠I->s.heap.get? b=some o->h'.get? b=some o)->Q none {s with heap:=h' }):wpAny (model prog w) A (pyNext (.ref I)) Q E s:=by
 obtain⟨o,ho,hc,hdo⟩:=id hit;obtain⟨os,hos,hds,hf⟩:=hs;unfold pyNext;refine jaa (jci (jbE (name:=Str.ofString "__next__") hit.typeIs F.aN
  (jbd F.aN hit.typeIs F.dO ?_ (F.dB _))))
 show wpAny _ _ (fieldsOf (.ref I) >>=_) _ _ s;refine jaa (wpAny_fieldsOf ho hdo ?_);dsimp only;refine jaa (jcJ hos hds hf ?_);rw[uM hn];simp only[jaM,jaH,jbW];refine jaa (hr _ _ _ ?_);cases r with
 |some q=>
  obtain⟨x,nx⟩:=q;dsimp only;refine jaa (jbR ho hdo (by simp) ?_);have W2:=jbo (Obj.mapFields (·.setIfInBounds 0 (rawInt nx))) ho (jco (jbl hdo _));refine jaa (jbR W2 (jbl hdo _) (by simp) (jac ⟨_,M,jac (hQ x nx _ rfl ?_ ((jbg ..).trans (jbg ..)))⟩));exact⟨_,jbo _ W2 (jco (jbl (jbl hdo _) _)),((Obj.cls_mapFields ..).trans (Obj.cls_mapFields ..)).trans hc,by rw[jbl (jbl hdo _)];simp[rawInt]⟩
 |none=>
  dsimp only;refine jaa (jbR ho hdo (by simp) ?_);show wpAny _ _ (newExc (.type "StopIteration") [] >>=_) _ _ _;refine jaa ?_;simp only[newExc,newTuple];refine jaa (jba ?_ (by size_fits));refine jaa (m:=firstArgMember _ _) (wpAny_of_eq (a:=Value.none) (by first | rfl | (simp only[firstArgMember];rfl)) ?_);refine jba ?_ (by size_fits);simp only[raiseNew];refine jaa (wpAny_handled ?_);rw[show A.in1.handled=none from hh];refine jaa (jac (wpAny_throw ?_));refine jaa (jbz (T:="StopIteration") (b:=true) ⟨_,jaz _ M,M⟩ isSubtype_stop ?_);refine jac (hE rfl _ λb o' hb e=>?_);exact jan _ (jan _ ((jbn _ _ (jaO hb)).trans e))
end
end PySem
namespace PySem
open L2 PyProof.Rows
theorem rS {α:Type}:∀{l:List α}{i:Nat}(h:i<l.length),List.Perm (l[i]::l.eraseIdx i) l
 |x::r,0,_=>.refl _
 |x::r,i+1,h=>by
  have hi:i<r.length:=by simpa using h
  show List.Perm (r[i]::x::r.eraseIdx i) (x::r);exact(List.Perm.swap ..).trans (.cons _ (rS hi))
theorem Be {α:Type}(next:Nat->Nat):∀(n k:Nat)(l:List α)(out:Array α),l.length=n->List.Perm (pickOrder.go next n k l out).toList (out.toList++l)
 |0,k,l,out,h=>by
  have:l=[]:=jbu.mp h;subst this;unfold pickOrder.go;simp
 |n+1,k,l,out,h=>by
  unfold pickOrder.go;have hi:next k % l.length<l.length:=jbT _ (by omega)
  rw[jaD hi];dsimp only;refine(Be next n (k+1) (l.eraseIdx (next k % l.length)) (out.push l[next k % l.length]) (by rw[List.length_eraseIdx_of_lt hi];omega)).trans ?_;rw[Array.toList_push,jaX];refine List.Perm.append_left _ ?_;show List.Perm (l[next k % l.length]::l.eraseIdx (next k % l.length)) l;exact rS hi
theorem eU {α:Type}(next:Nat->Nat)(xs:Array α):List.Perm (pickOrder next xs).toList xs.toList:=by
 unfold pickOrder;have:=Be next xs.size 0 xs.toList #[] (by simp)
 simpa using this
section
variable {jcN:Model}{A:Around}{E:jcP}{s:Shared}
theorem zR {src:Source}{n:Nat}{Q:Nat->Shared->Prop}(hn:n≠0)(h:∀i d,i<n->Q i {s with drawn:=d }):wpAny jcN A (choose src n) Q E s:=by
 intro Γ p hΓ;unfold choose;rw[Sem.wp_choose];refine⟨hn,?_⟩;simp only[Sem.wp_pure];exact h _ _ (jbT _ (Nat.pos_of_ne_zero hn))
theorem u9 {α:Type}:∀(n:Nat)(xs:List α)(s:Shared)(Q:List α->Shared->Prop),xs.length=n->(∀ys d,List.Perm ys xs->Q ys {s with drawn:=d })->wpAny jcN A (drawOrder n xs) Q E s
 |0,xs,s,Q,hl,h=>by
  have:xs=[]:=jbu.mp hl;subst this;unfold drawOrder;have e:s={s with drawn:=s.drawn }:=by cases s;rfl
  rw[e];exact jac (h [] _ .nil)
 |n+1,xs,s,Q,hl,h=>by
  cases xs with
  |nil=>cases hl
  |cons x0 r0=>
   unfold drawOrder;refine jaa (zR (by rw[hl];omega) λi d hi=>?_);rw[jaD hi];dsimp only;refine jaa (u9 n _ _ _ (by rw[List.length_eraseIdx_of_lt hi,hl];omega) λys d' hp=>jac ?_);exact h _ d' ((List.Perm.cons _ hp).trans (rS hi))
end
section
variable {prog:Program}{w:World}{A:Around}{E:jcP}{s:Shared}{I a tp:Addr}{i n ep:Nat}{es:Array (Int×Value)}{t:SetTable}
theorem Ba {Q:Option (Value×Nat)->Shared->Prop}{sl:Nat}(hT:w.params.followText "set-order"=true)(hs:j7 s.heap a es ep t)
  (h:Q (((pickOrder (w.params.setOrder a ep) es)[i]?).map λe=>(e.2,sl)) s):wpAny (model prog w) A (setNext a sl i ep) Q E s:=by
 obtain⟨o,ho,hd,hf⟩:=hs;unfold setNext;refine jaa (jaB ho hd hf ?_);dsimp only;unfold setsByText;refine jaa (jaa (jbe (jac ?_)));show wpAny _ _ (if(w.params.followText "set-order")=true then _ else _) _ _ _;rw[hT];simp only[ja4,bne_self_eq_false,jaM,jaH];unfold setWalk;refine jaa (jaa (jaB ho hd hf ?_));dsimp only;unfold setsByText;refine jaa (jaa (jbe (jac ?_)));show wpAny _ _ (if(w.params.followText "set-order")=true then _ else _) _ _ _;rw[hT];simp only[ja4];refine jaa (jbe (jac (jac ?_)));exact h
theorem Bb {Q:Option (Value×Nat)->Shared->Prop}{sl:Nat}(hT:w.params.followText "set-order"=false)(hs:j7 s.heap a es ep t)(hl:t.led=true)(hn:es.size<=1)
  (h:Q (match es[SetTable.below t.place sl]?,t.place[SetTable.below t.place sl]? with | some (_,x),some j=>some (x,j+1) | _,_=>none) s):wpAny (model prog w) A (setNext a sl i ep) Q E s:=by
 obtain⟨o,ho,hd,hf⟩:=hs;unfold setNext;refine jaa (jaB ho hd hf ?_);dsimp only;unfold setsByText;refine jaa (jaa (jbe (jac ?_)));show wpAny _ _ (if(w.params.followText "set-order")=true then _ else _) _ _ _;rw[hT];simp only[jaM,jaH];show wpAny _ _ (if((!t.plain&&decide (es.size > 1))=true) then _ else _) _ _ _;rw[show decide (es.size > 1)=false from jat (by omega),Bool.and_false];simp only[jaM,jaH];refine jaa ?_;show wpAny _ _ (if((!t.led&&!es.isEmpty)=true) then _ else _) _ _ _;rw[hl];simp only[jbB,jbZ,jaM,jaH];exact jac (jac h)
end
end PySem
namespace PySem
open L2 PyProof.Rows
section
variable {prog:Program}{w:World}{A:Around}{E:jcP}{s:Shared}{I a tp:Addr}{i n ep:Nat}{es:Array (Int×Value)}{t:SetTable}
theorem j7.at {h h':Heap}(x:j7 h a es ep t)(k:∀o,h.get? a=some o->h'.get? a=some o):j7 h' a es ep t:=let⟨o,ho,r⟩:=x;⟨o,k o ho,r⟩
theorem ug.at {h h':Heap}{first:Value}(x:ug h I first i a n ep)(k:∀o,h.get? I=some o->h'.get? I=some o):ug h' I first i a n ep:=let⟨o,ho,r⟩:=x;⟨o,k o ho,r⟩
theorem Qa (hT:w.params.followText "set-order"=true)(hh:A.handled=none)(hne:a≠I)(hn:es.size=n) :
  Walks prog w A I [I,a] [I] n (λi v=>((pickOrder (w.params.setOrder a ep) es).toList.map (·.2))[i]?=some v) (λi h=>(∃sl:Nat,ug h I (.int sl 0) i a n ep)/\j7 h a es ep t) where
 sub:=λb hb=>by simp at hb;simp[hb]
 frame:=λ_ _ _ st hk=>⟨let⟨sl,x⟩:=st.1;⟨sl,x.at λo e=>hk I (by simp) o e⟩,st.2.at λo e=>hk a (by simp) o e⟩
 item:=λi s Q E hi st hQ=>by
  obtain⟨⟨sl,x⟩,tb⟩:=st;have hp:(pickOrder (w.params.setOrder a ep) es).size=n:=by rw[<- jaq,(eU _ es).length_eq,jaq,hn]
  have hg:(pickOrder (w.params.setOrder a ep) es)[i]?=some ((pickOrder (w.params.setOrder a ep) es)[i]'(by omega)):=by simp[hp,hi]
  refine C5 hh x tb hn (λA' E' Q' q=>Ba hT tb q) (λv nx h' e x' sb=>?_) (λe=>?_)
  .rw[hg] at e;cases e;refine hQ _ h' s.toks ?_ ⟨⟨_,x'⟩,tb.at λo e=>(sb.2 a hne).trans e⟩ λb o hb e=>(sb.2 b (λh=>hb (by simp[h]))).trans e;rw[jaA,jb6,hg];rfl
  .rw[hg] at e;cases e
 done:=λs Q E st hQ=>by
  obtain⟨⟨sl,x⟩,tb⟩:=st;have hp:(pickOrder (w.params.setOrder a ep) es).size=n:=by rw[<- jaq,(eU _ es).length_eq,jaq,hn]
  have hg:(pickOrder (w.params.setOrder a ep) es)[n]?=none:=by simp[hp]
  refine C5 hh x tb hn (λA' E' Q' q=>Ba hT tb q) (λv nx h' e x' sb=>?_) (λe h' kp=>?_)
  .rw[hg] at e;cases e
  .exact hQ h' s.toks λb o hb e=>kp b o (λh=>hb (by simp[h])) e
 self:=λ_ _ _ _ st hQ=>let⟨⟨_,x⟩,_⟩:=st;uQ x hQ
theorem a0H {α:Type}{l:Array α}(h:l.size=1):∃j,l=#[j]:=by
 obtain⟨l⟩:=l
 match l,h with
 |[j],_=>exact⟨j,M⟩
theorem Kv (j:Nat):SetTable.below #[j] 0=0:=by simp[SetTable.below,SetTable.below.go]
theorem below_1 (j:Nat):SetTable.below #[j] (j+1)=1:=by simp[SetTable.below,SetTable.below.go]
noncomputable def XO (t:SetTable):Nat->Nat
 |0=>0
 |_+1=>t.place.getD 0 0+1
theorem Qc (hT:w.params.followText "set-order"=false)(hh:A.handled=none)(hne:a≠I)(hn:es.size=n)(h1:n<=1)(hl:t.led=true)(hf:t.fits es.size=true) :
  Walks prog w A I [I,a] [I] n (λi v=>(es.toList.map (·.2))[i]?=some v) (λi h=>ug h I (.int (XO t i) 0) i a n ep/\j7 h a es ep t) where
 sub:=λb hb=>by simp at hb;simp[hb]
 frame:=λ_ _ _ st hk=>⟨st.1.at λo e=>hk I (by simp) o e,st.2.at λo e=>hk a (by simp) o e⟩
 item:=λi s Q E hi st hQ=>by
  obtain⟨x,tb⟩:=st;have i0:i=0:=by omega
  have n1:n=1:=by omega
  subst i0;subst n1;have hp:t.place.size=1:=by simp only[SetTable.fits,jaU,ja1] at hf;omega
  obtain⟨j,hj⟩:=a0H hp;refine C5 hh x tb hn (λA' E' Q' q=>Bb hT tb hl (by omega) q) (λv nx h' e x' sb=>?_) (λe=>?_)
  .have hz:XO t 0=0:=rfl;rw[hz,hj,Kv] at e;have h0:es[0]?=some (es[0]'(by omega)):=by simp[hn]
   rw[h0] at e;simp at e;obtain⟨e1,e2⟩:=e;refine hQ _ h' s.toks ?_ ⟨?_,tb.at λo e=>(sb.2 a hne).trans e⟩ λb o hb e=>(sb.2 b (λh=>hb (by simp[h]))).trans e
   .rw[jaA,jb6,h0,<- e1];rfl
   .have:XO t 1=nx:=by show t.place.getD 0 0+1=nx;rw[hj,<- e2];rfl
    rw[this];exact x'
  .have hz:XO t 0=0:=rfl;rw[hz,hj,Kv] at e;have h0:es[0]?=some (es[0]'(by omega)):=by simp[hn]
   rw[h0] at e;simp at e
 done:=λs Q E st hQ=>by
  obtain⟨x,tb⟩:=st;have hp:t.place.size=n:=by simp only[SetTable.fits,jaU,ja1] at hf;omega
  refine C5 hh x tb hn (λA' E' Q' q=>Bb hT tb hl (by omega) q) (λv nx h' e x' sb=>?_) (λe h' kp=>?_)
  .exfalso;have:n=0\/n=1:=by omega
   rcases this with z | z
   .subst z;have h0:es=#[]:=by simpa using hn
    rw[h0] at e;simp at e
   .subst z;obtain⟨j,hj⟩:=a0H hp;have hz:XO t 1=j+1:=by show t.place.getD 0 0+1=j+1;rw[hj];rfl
    rw[hz,hj,below_1] at e;have h0:es[1]?=none:=by simp[hn]
    rw[h0] at e;simp at e
  .exact hQ h' s.toks λb o hb e=>kp b o (λh=>hb (by simp[h])) e
 self:=λ_ _ _ _ st hQ=>uQ st.1 hQ
theorem Qd {ps:jcX}(hh:A.handled=none)(hne:a≠I)(htp:tp≠I)(hn:es.size=n)(hps:List.Perm ps (List.range n)) :
  Walks prog w A I [I,tp,a] [I] n (λi v=>((ps.filterMap λp=>es[p]?).map (·.2))[i]?=some v) (λi h=>ug h I (.ref tp) i a n ep/\(∃ot k,h.get? tp=some ot/\ot.data=.seq (ps.map λp:Nat=>rawInt p).toArray k)/\j7 h a es ep t) where
 sub:=λb hb=>by simp at hb;simp[hb]
 frame:=λ_ _ _ st hk=>⟨st.1.at λo e=>hk I (by simp) o e,let⟨ot,k,e,d⟩:=st.2.1;⟨ot,k,hk tp (by simp) _ e,d⟩,st.2.2.at λo e=>hk a (by simp) o e⟩
 item:=λi s Q E hi st hQ=>by
  obtain⟨x,⟨ot,k,et,dt⟩,tb⟩:=st;have hpl:ps.length=n:=by rw[hps.length_eq,jaZ]
  have X3:ps[i]?=some (ps[i]'(by omega)):=jaD _;have hlt:ps[i]'(by omega)<n:=jbr.mp (hps.mem_iff.mp (jce _));have he:es[ps[i]'(by omega)]?=some (es[ps[i]'(by omega)]'(by omega)):=by simp[hn,hlt]
  have hall:∀q:jcX,(∀p∈q,p<n)->(q.filterMap λp=>es[p]?)=q.map λp=>es.getD p (0,.none):=by
   intro q
   induction q with
   |nil=>intro _;rfl
   |cons p r ih=>
    intro hq;have h1:=hq p (jar ..);rw[jb4 (b:=es.getD p (0,.none)) (by simp[hn,h1]),ih λp hp=>hq p (jav _ hp)];rfl
  refine Wk x tb hn et dt (p:=ps[i]'(by omega)) (tk:=0) (by rw[jaA,X3];rfl) he λh' x' sb=>?_;refine hQ _ h' s.toks ?_ ⟨x',⟨ot,k,(sb.2 tp htp).trans et,dt⟩,tb.at λo e=>(sb.2 a hne).trans e⟩ λb o hb e=>(sb.2 b (λh=>hb (by simp[h]))).trans e;rw[hall ps (λp hp=>jbr.mp (hps.mem_iff.mp hp)),jaN,jaA,X3];simp[hn,hlt]
 done:=λs Q E st hQ=>by
  obtain⟨x,⟨ot,k,et,dt⟩,tb⟩:=st;have hpl:ps.length=n:=by rw[hps.length_eq,jaZ]
  exact a0t hh x tb hn et dt (by rw[jaA,List.getElem?_eq_none (by omega)];rfl) λh' kp=>hQ h' s.toks λb o hb e=>kp b o (λh=>hb (by simp[h])) e
 self:=λ_ _ _ _ st hQ=>uQ st.1 hQ
end
end PySem
namespace PySem
open L2 PyProof.Rows
theorem strs_map:∀{L:List (Int×Value)},(∀e∈L,∃z k,e.2=Value.str z k)->StrsAre (L.map (·.2)) (L.map λe=>strOf e.2)
 |[],_=>.nil
 |e::r,h=>by
  obtain⟨z,k,q⟩:=h e (jar ..);show StrsAre (e.2::r.map (·.2)) (strOf e.2::r.map λe=>strOf e.2);rw[q];exact .cons z k (strs_map λe he=>h e (jav _ he))
section
variable {prog:Program}{w:World}{A:Around}{E:jcP}{s:Shared}{a:Addr}
theorem Od {zs:jcR}{Q:jcP}(hS:bI prog w s.heap a zs)
  (hQ:∀(I:Addr)(fp:jcT)(St:Nat->Heap->Prop)(vs:jcS)(zs':jcR)(h':Heap)(d:Drawn),(∀A':Around,A'.handled=none->Walks prog w A' I fp [I] zs.length (λi v=>vs[i]?=some v) St)->St 0 h'->StrsAre vs zs'->List.Perm zs' zs->
   (∀b o,s.heap.get? b=some o->h'.get? b=some o)->s.heap.objs.size<=I->(∀b∈fp,b=a\/s.heap.objs.size<=b)->Q (.ref I) {s with heap:=h',drawn:=d }):wpAny (model prog w) A (pyIter (.ref a)) Q E s:=by
 obtain⟨o,es,ep,t,ho,hex,hd,hel,hst,hzs,hnd,hb,hf,gm,hpl⟩:=hS;have hn:es.size=zs.length:=by rw[<- hzs,jab,jaq]
 have hTy:s.TypeIs (.ref a) "set":=⟨o,ho,hex.1⟩
 have hlt:a<s.heap.objs.size:=jak ho;refine wpAny_pyIter_slot hTy F.slot_set_iter (jbd F.slot_set_iter hTy F.wu ?_ (F.args_set_iter_1 _));show wpAny _ _ (Builtin.Frozenset.sizeOf a >>=_) _ _ s;unfold Builtin.Frozenset.sizeOf;refine jaa (jaa (jcJ ho hd hf (jac ?_)));unfold setDrawn;refine jaa ?_;refine jaa (jaB ho hd hf ?_);dsimp only;unfold setsByText;refine jaa (jaa (jbe (jac (jac ?_))));show wpAny _ _ (if(!(w.params.followText "set-order")&&(!t.plain&&decide (es.size > 1)))=true then _ else _) _ _ _;cases hT:w.params.followText "set-order" with
 |true=>
  simp only[jbB,jbZ,jaM,jaH];refine jaa (jac ?_);unfold setEpoch;refine jaa (jaa (jaB ho hd hf (jac ?_)));refine jaa (jba (jac ⟨_,M,"set_iterator",_,⟨_,jaz _ M,M⟩,F.aN.lookup,?_⟩));have e:∀h':Heap,({s with heap:=h' }:Shared)={s with heap:=h',drawn:=s.drawn }:=λ_=>by cases s;rfl
  rw[e];refine hQ _ [s.heap.objs.size,a] _ _ _ _ _ (λA' hA=>Qa (ep:=ep) (t:=t) hT hA (jap hlt) hn) ⟨⟨0,_,jaz _ M,M,by simp[rawInt,hn]⟩,o,jan _ ho,hd,hf⟩ (strs_map λe he=>hst e ((eU _ es).mem_iff.mp he)) ?_ (λb o e=>jan _ e) (jal _) (λb hb=>?_)
  .rw[<- hzs];exact(eU _ es).map _
  .rcases jag.mp hb with z | z
   .exact .inr (by rw[z];exact jal _)
   .exact .inl (jai.mp z)
 |false=>
  simp only[Bool.not_false,Bool.true_and];by_cases h1:es.size<=1
  .rw[show decide (es.size > 1)=false from jat (by omega),Bool.and_false];simp only[jaM,jaH];refine jaa (jac ?_);unfold setEpoch;refine jaa (jaa (jaB ho hd hf (jac ?_)));refine jaa (jba (jac ⟨_,M,"set_iterator",_,⟨_,jaz _ M,M⟩,F.aN.lookup,?_⟩));have e:∀h':Heap,({s with heap:=h' }:Shared)={s with heap:=h',drawn:=s.drawn }:=λ_=>by cases s;rfl
   rw[e];rw[hT] at gm;refine hQ _ [s.heap.objs.size,a] _ _ _ _ _ (λA' hA=>Qc (ep:=ep) (t:=t) hT hA (jap hlt) hn (by omega) gm hf) ⟨⟨_,jaz _ M,M,by simp[rawInt,hn,XO]⟩,o,jan _ ho,hd,hf⟩ (strs_map hst) (by rw[hzs]) (λb o e=>jan _ e) (jal _) (λb hb=>?_);rcases jag.mp hb with z | z
   .exact .inr (by rw[z];exact jal _)
   .exact .inl (jai.mp z)
  .have hp:t.plain=false:=hpl.resolve_right (by omega);rw[show decide (es.size > 1)=true from jaF (by omega),hp];simp only[Bool.not_false,Bool.and_self,ja4];refine jaa (u9 _ _ _ _ (jaZ ..) λps d hps=>?_);have HS:ps.length=es.size:=by rw[hps.length_eq,jaZ]
   refine jaa (wpAny_newTuple ?_ (by rw[jab,HS];exact fits_of_scanBound hb));unfold setEpoch;refine jaa (jaa (jaB (jan _ ho) hd hf (jac ?_)));refine jaa (jba (jac ⟨_,M,"set_iterator",_,⟨_,jaz _ M,M⟩,F.aN.lookup,?_⟩));dsimp only;rw[ja0];have hall:∀q:jcX,(∀p∈q,p<es.size)->∀e∈(q.filterMap λp=>es[p]?),e∈es.toList:=λq _ e he=>by
    obtain⟨p,_,z⟩:=List.mem_filterMap.mp he;exact Array.mem_toList_iff.mpr (Array.mem_of_getElem? z)
   have hpe:List.Perm (ps.filterMap λp=>es[p]?) es.toList:=by
    refine(hps.filterMap _).trans ?_;have:=List.filterMap_getElem?_range_length es.toList;rw[jaq] at this;have e2:(λp:Nat=>es[p]?)=λp:Nat=>es.toList[p]?:=by funext p;rw[jb6]
    rw[e2,this]
   refine hQ (s.heap.objs.size+1) [s.heap.objs.size+1,s.heap.objs.size,a] _ _ _ _ d (λA' hA=>Qd (ep:=ep) (t:=t) (tp:=s.heap.objs.size) hA (jap (jbx hlt)) (jap (jcd _)) hn (by rw[<- hn];exact hps)) ⟨⟨_,Heap.get?_push_at (by rw[ja0]) M,M,by simp[rawInt,hn]⟩,⟨_,_,jan _ (jaz _ M),M⟩,o,jan _ (jan _ ho),hd,hf⟩ (strs_map λe he=>hst e (hpe.mem_iff.mp he)) ?_ (λb o e=>jan _ (jan _ e)) (jb2 _) (λb hb=>?_)
   .rw[<- hzs];exact hpe.map _
   .rcases jag.mp hb with z | z
    .exact .inr (by rw[z];exact jb2 _)
    .rcases jag.mp z with z | z
     .exact .inr (by rw[z];exact jal _)
     .exact .inl (jai.mp z)
end
end PySem
namespace PySem
open L2 PyProof.Rows
section
variable {prog:Program}{w:World}{A:Around}{E:jcP}{s:Shared}{a:Addr}{zs:jcR}
theorem Om {Q:Bool->Shared->Prop}(hT:s.TypeIs (.ref a) "set")(h:Q false s):wpAny (model prog w) A (Builtin.List.listLengthHint (.ref a)) Q E s:=by
 unfold Builtin.List.listLengthHint;refine jaa (wpAny_specialOf hT PySem.F.slot_set_len.lookup ?_);generalize hid:("set.__len__":String)=id0
 wp_delta
 rw[show splitId id0=some ("set","__len__") from by subst hid;symm];subst hid;refine jaa (jbz (T:="set") (b:=true) hT (by rw[isSubtype_type];kernel_rfl) ?_);refine wpAny_ite_split (λhab=>absurd hab (by decide)) (λ_=>?_);refine wpAny_ite_split (λ_=>?_) (λhab=>absurd (by symm) hab);refine jaa (wpAny_typeOf hT ?_);exact jac h
theorem Oe {vs:jcS}{acc:Array Value}(h:ItemsOf (λi v=>vs[i]?=some v) acc vs.length):acc.toList=vs:=by
 apply List.ext_getElem?;intro i;rw[jb6];by_cases hi:i<acc.size
 .rw[jb3 hi,h.2 i acc[i] (by simp[hi])]
 .have h1:=h.1;rw[Array.getElem?_eq_none (by omega),List.getElem?_eq_none (by omega)]
theorem So {R:Result->Shared->Prop}(hh:A.handled=none)(hS:bI prog w s.heap a zs)(S:Addr)(hSa:S≠a)(res:Value)(c₀:Nat)(hL:s.heap.get? S=some {cls:=.type "list",data:=.seq #[] c₀ })
  (hR:∀h' tk d acc' c' zs',(∀b o,b≠S->s.heap.get? b=some o->h'.get? b=some o)->h'.get? S=some {cls:=.type "list",dict:=none,data:=.seq acc' c',slots:=#[] }->StrsAre acc'.toList zs'->List.Perm zs' zs->
   R (.ok (.ret res)) {s with heap:=h',toks:=tk,drawn:=d }) (hn:zs.length<=sizeLine) :
  wpAny (model prog w) A.in1 (Builtin.List.listExtendWith (.ref S) (.ref a) res)
   (λfin s'=>match fin with | .done f=>R (.ok f) s' | .again c'=>c'.quiet=true/\codeAny (model prog w) A c' R s') (λe s'=>R (.error e) s') s:=by
 have hTy:s.TypeIs (.ref a) "set":=let⟨o,_,_,_,ho,hex,_⟩:=hS;⟨o,ho,hex.1⟩;have hSl:S<s.heap.objs.size:=jak hL;unfold Builtin.List.listExtendWith;refine jaa (wpAny_typeOf (T:="set") hTy ?_);have h1:Builtin.List.listSameRef (.ref S) (.ref a)=false:=by simp[Builtin.List.listSameRef,hSa]
 have nl:(Value.type "set" ==Value.type "list")=false:=by decide
 have nt:(Value.type "set" ==Value.type "tuple")=false:=by decide
 simp only[h1,nl,nt,Bool.or_false,jaM,jaH];refine jaa (Od hS λI fp St vs zs' hI d W st hvs hp kp hIl hfp=>?_);have hvl:vs.length=zs.length:=by rw[jcg hvs,hp.length_eq]
 have hSf:S∉fp:=λhm=>(hfp S hm).elim hSa λz=>absurd hSl (Nat.not_lt.mpr z);have key:∀(h:Heap)(c₁ tk:Nat),St 0 h->(∀b o,b≠S->s.heap.get? b=some o->h.get? b=some o)->
   h.get? S=some {cls:=.type "list",data:=.seq #[] c₁ }->codeAny (model prog w) A (.builtin "list.extend.loop" ⟨[.ref S,.ref I,res],[]⟩) R {s with heap:=h,toks:=tk,drawn:=d }:=by
  intro h c₁ tk hst hk hS₁;refine codeAny_extend_loopS (W A.in1 hh).toS hn S hSf res zs.length 0 _ #[] c₁ rfl (ja3 _) hst hS₁ (ItemsOf.nil _) λs' acc' c' hm hS' hacc=>?_;rw[Moved.eq_with hm];refine hR s'.heap s'.toks d acc' c' zs' (λb o hb e=>hm.heap b o (λhmem=>?_) (hk b o hb e)) hS' ?_ hp
  .rcases jag.mp hmem with e' | hmem
   .exact hb e'
   .exact absurd (jak e) (by rw[jai.mp hmem];exact Nat.not_lt.mpr hIl)
  .rw[Oe (by rw[hvl];exact hacc)];exact hvs
 have hS₁:=kp S _ hL;refine jaa (jbh (Om (let⟨o,ho,hc⟩:=hTy;⟨o,kp _ _ ho,hc⟩) ?_));refine wpAny_ite_split (λ_=>?_) (λ_=>jac ⟨plainId_quiet PySem.F.plain_extend_loop _,key _ c₀ _ st (λb o _ e=>kp b o e) hS₁⟩);refine jaa (jbs ?_);refine jaa ?_;show wpAny _ _ (updateSeq S (·.push .none) >>=λ_=>updateSeq S (·.pop)) _ _ _;refine jaa (wpAny_updateSeq hS₁ rfl ?_);have hS₂:=jbo (Obj.mapSeq (·.push Value.none)) hS₁ rfl;refine wpAny_updateSeq (hz:=by seq_fits) hS₂ rfl ?_;have hS₃:=jbo (Obj.mapSeq (·.pop)) hS₂ rfl;refine jac ⟨plainId_quiet PySem.F.plain_extend_loop _,key _ _ _ ?_ (λb o hb e=>?_) hS₃⟩
 .refine(W A.in1 hh).frame 0 _ _ st λb hb o e=>?_;have hbS:b≠S:=λh=>hSf (h ▸ hb);exact(jbn _ _ (jaO hbS)).trans ((jbn _ _ (jaO hbS)).trans e)
 .exact(jbn _ _ (jaO hb)).trans ((jbn _ _ (jaO hb)).trans (kp b o e))
theorem O2 {R:jcS->Shared->Prop}(hh:A.handled=none)(hS:bI prog w s.heap a zs)(hn:zs.length<=sizeLine)
  (h:∀(h':Heap)(tk:Nat)(d:Drawn)(acc:Array Value)(zs':jcR),(∀b o,s.heap.get? b=some o->h'.get? b=some o)->StrsAre acc.toList zs'->List.Perm zs' zs->R acc.toList {s with heap:=h',toks:=tk,drawn:=d }) :
  wpAny (model prog w) A (collect (.ref a)) R E s:=by
 have hlt:a<s.heap.objs.size:=let⟨o,_,_,_,ho,_⟩:=hS;jak ho;unfold collect;refine jaa (wpAny_runValue (jbY entry_proto_collect' ?_));rw[jcp PySem.F.plain_proto_collect _];show wpAny _ A.in1 (newList [] >>=λl=>again (.builtin "list.__iadd__" ⟨[l,.ref a],[]⟩)) _ _ s;refine jaa (jba ?_);refine jac ⟨plainId_quiet PySem.F.plain_list_iadd _,jbY entry_list_iadd' ?_⟩;rw[jcp PySem.F.plain_list_iadd _];have hS₁:(s.heap.push {cls:=.type "list",data:=.seq ([]:jcS).toArray }).get? s.heap.objs.size=some {cls:=.type "list",data:=.seq #[] }:=jaz _ rfl;show wpAny _ A.in1 (Builtin.List.listExtendWith (.ref s.heap.objs.size) (.ref a) (.ref s.heap.objs.size)) _ _ _;have key:=So (A:=A) (s:={s with heap:=s.heap.push {cls:=.type "list",data:=.seq ([]:jcS).toArray } })
  (R:=λ(q:Result) (s':Shared)=>∃(h':Heap)(tk:Nat)(d:Drawn)(acc':Array Value)(c':Nat)(zs':jcR),q=.ok (.ret (.ref s.heap.objs.size))/\s'={s with heap:=h',toks:=tk,drawn:=d }/\
   (∀b o,s.heap.get? b=some o->h'.get? b=some o)/\h'.get? s.heap.objs.size=some {cls:=.type "list",dict:=none,data:=.seq acc' c',slots:=#[] }/\StrsAre acc'.toList zs'/\List.Perm zs' zs)
  hh (hS.at λo e=>jan _ e) s.heap.objs.size (ja6 hlt) (.ref s.heap.objs.size) 0 hS₁
  (λh' tk d acc' c' zs' hk hS' hacc hp=>⟨h',tk,d,acc',c',zs',M,M,λb o e=>hk b o (jap (jak e)) (jan _ e),hS',hacc,hp⟩) hn
 refine jaV key (λfin s' x=>?_) λe s' x=>?_
 .cases fin with
  |done f=>
   obtain⟨h',tk,d,acc',c',zs',e,rfl,hk,hS',hacc,hp⟩:=x;cases e;show wpAny _ A (load s.heap.objs.size >>=_) _ _ _;refine jaa (wpAny_load hS' ?_);exact jac (h h' tk d acc' zs' hk hacc hp)
  |again c₁=>
   refine⟨x.1,jbN x.2 λq s₂ y=>?_⟩;obtain⟨h',tk,d,acc',c',zs',rfl,rfl,hk,hS',hacc,hp⟩:=y;show wpAny _ A (load s.heap.objs.size >>=_) _ _ _;refine jaa (wpAny_load hS' ?_);exact jac (h h' tk d acc' zs' hk hacc hp)
 .obtain⟨_,_,_,_,_,_,e',_⟩:=x;cases e'
end
end PySem
namespace L2
open PySem PySem.Spec PyProof.Rows Hw
noncomputable def oR (P:Program)(w:World)(a:Addr)(ss:jcR):HO:=.ext λh=>∃zs,bI P w h a zs/\(∀x,x∈zs↔x∈ss)/\zs.length<64
section
variable {X:Cx}
theorem Inv.drew {vy:jcO}{U:St}{H:Hp}{s:Shared}(I:Inv X vy U H s)(d:Drawn):Inv X vy U H {s with drawn:=d }:=⟨I.ok,I.os,I.bare,I.base,I.loc,I.cell,I.free,I.oB,I.pin,I.hok,I.len⟩
theorem tY (hc:X.calm=true):fm X (.builtin "sorted") (λxs H Q=>∃(p:Addr)(ss:jcR),xs=[.ref p]/\H p=some (oR X.prog X.w p ss)/\
  ∀(l:Addr)(ys:jcR),H l=none->(∀x,x∈ys↔x∈ss)->ys.Nodup->ys.length<64->ys.Pairwise (λa b=>Hw.lt b a=false)->Q (.ref l) (upd H l (.lst (ys.map V.str)))):=by
 intro vy s U H xs us Q I r h;obtain⟨p,ss,rfl,hp,q⟩:=h;obtain⟨u,rfl,ru⟩:=vals1 r;cases ru;obtain⟨⟨zs,hS,hm,h64⟩,_,_⟩:=I.hok p _ hp;have hnd:zs.Nodup:=let⟨_,_,_,_,_,_,_,_,_,_,n,_⟩:=hS;n;have s64:64<=sizeLine:=by rw[ja7];decide
 refine Calls.call_function_entry kind_sorted plain_sorted entry_sorted (args_sorted1 _) ?_;unfold Builtin.«sorted»;refine jaa (m:=checkCount "sorted" 1 1 _) (jac (jaa (O2 (A:=X.A.in1) (I.ok.hd hc) hS (by omega) λh' tk d acc zs' kp hS' hpm=>?_)));have hla:acc.toList.length<64:=by rw[jcg hS',hpm.length_eq];exact h64
 refine jaa (wpAny_newList ?_ (by omega));have ho:(h'.push (seqObj "list" acc.toList.toArray 0)).get? h'.objs.size=some (seqObj "list" acc.toList.toArray 0):=jaz _ rfl;refine jaa (jbh (jbd slot_list_sort ⟨_,ho,M⟩ entry_list_sort (list_sort_treeK (s:={s with heap:=h'.push (seqObj "list" acc.toList.toArray 0),toks:=tk,drawn:=d }) strKind_oneLt ho hS'.keysOf (λv1 v2 rest e=>keyKind_strs (by rw[<- e];exact hS')) hla λst' a1 a2=>⟨_,M,?_⟩) (args_list_sort _)));obtain⟨ss',b1,b2,b3⟩:=sorted_out_str hS' a1 a2;obtain⟨e,he⟩:=sortedHeap_at (out:=(arrOf st').map (·.2)) ho;have hss:(ss'.map V.str).length<=sizeLine:=by
  have h2:(ss'.map V.str).length=acc.toList.length:=by rw[jab,b2.length_eq,<- jcg hS']
  omega
 have L:=I.Bm (h':=sortedHeap (h'.push (seqObj "list" acc.toList.toArray 0)) h'.objs.size acc.toList ((arrOf st').map (·.2))) (a:=h'.objs.size) (o:=.lst (ss'.map V.str)) (t':=tk)
  (λb u q=>by
   have l:=jak (kp b u q);rw[sortedHeap_old (jap l) (by rw[ja0];exact jbx l)];exact jan _ (kp b u q))
  (λb u q=>jap (jak (kp b u q)))
  ⟨hss,((arrOf st').map (·.2)).toList,e,rH b1,by rw[Array.toArray_toList];exact he⟩
 have hall:=b2.trans hpm;exact jac ⟨_,M,.ref h'.objs.size,_,L.2.drew d,M,q _ ss' L.1 (λx=>(hall.mem_iff).trans (hm x)) (hall.nodup_iff.mpr hnd) (by rw[hall.length_eq];exact h64) (sQ _ b3)⟩
end
end L2
namespace Hw
open PySem L2
theorem MX (z:Str)(lo hi:Option Int):(Txt.slice z lo hi).length<=z.length:=Txt.slice_le z _ _
end Hw
namespace L2
open PySem PySem.Spec PyProof.Rows Hw
section
variable {X:Cx}
end
end L2
namespace Hw
open PySem L2
theorem EN {ys:jcR}(h:ys.Pairwise (λa b=>lt b a=false))(n:ys.Nodup):ys.Pairwise (λa b=>lt a b=true):=by
 unfold List.Nodup at n;exact(h.and n).imp λ{a b} ⟨h1,h2⟩=>by
  rcases C8 a b with z | z | z
  .exact z
  .exact absurd z h2
  .rw[h1] at z;cases z
theorem mC:∀{xs ys:jcR},xs.Pairwise (λa b=>lt a b=true)->ys.Pairwise (λa b=>lt a b=true)->(∀x,x∈xs↔x∈ys)->xs=ys
 |[],[],_,_,_=>rfl
 |[],y::_,_,_,h=>absurd ((h y).mpr (jar ..)) (λz=>nomatch z)
 |x::_,[],_,_,h=>absurd ((h x).mp (jar ..)) (λz=>nomatch z)
 |x::xs,y::ys,p,q,h=>by
  obtain⟨px,p'⟩:=jbI.mp p;obtain⟨qy,q'⟩:=jbI.mp q;have e:x=y:=by
   rcases jag.mp ((h x).mp (jar ..)) with z | z
   .exact z
   .rcases jag.mp ((h y).mpr (jar ..)) with u | u
    .exact u.symm
    .have:=lt_trans (px y u) (qy x z);rw[uU] at this;cases this
  subst e;have t:xs=ys:=mC p' q' λz=>by
   constructor
   .intro hz;rcases jag.mp ((h z).mp (jav _ hz)) with u | u
    .subst u;have:=px z hz;rw[uU] at this;cases this
    .exact u
   .intro hz;rcases jag.mp ((h z).mpr (jav _ hz)) with u | u
    .subst u;have:=qy z hz;rw[uU] at this;cases this
    .exact u
  rw[t]
end Hw
namespace L2
open PySem PySem.Spec PyProof.Rows Hw
section
variable {X:Cx}
end
end L2
namespace Hw
open PySem L2
end Hw
namespace PySem.W
open PySem PySem.Spec PySem.Calls PyProof.Rows
section
variable {prog:Program}{w:World}{A:Around}{E:jcP}{K:Frag}{x D:Addr}{ox:Obj}
end
end PySem.W
namespace L2
open PySem PySem.Spec PyProof.Rows
section
variable {X:Cx}{a C:Addr}{oe:Obj}
end
end L2
namespace PySem
section
variable {jcN:Model}{A:Around}{E:jcP}
variable {nm q nm' q':Str}{C N W N':Addr}{bs bm bs' bm':jcS}{hdct a4e:Bool}{sn sn':jcR}{sub sub':jcS}{ab ab':Bool}{col col':Option Bool}{dd dd':jcV}{k0 k1 k2 k3 k5 j0 j1 j2 j3 j5:jcW}{newId newId':String}
end
section
variable {jcN:Model}{A:Around}{E:jcP}{s:Shared}{base:Heap}{env:Env}{outer:List Env}{L a C:Addr}{oe:Obj}{vs:Array Value}
end
end PySem
namespace L2
open PySem PySem.Spec PyProof.Rows
section
variable {X:Cx}{pn:jcO}{xe:jcP}{vy yy:jcO}{U:St}{H:Hp}{s:Shared}{a:Addr}
end
section
variable {X:Cx}{C W fI fW:Addr}{bm bmW:jcS}{xc n:Str}{i:Nat}{np hpos pos:Pos}{body:List Stmt}{b₀:Stmt}{suite:List Stmt}{tb:XK->TS}{ts:Addr->TS}
end
end L2
namespace Hw
open PySem L2
end Hw
namespace L2
open PySem PySem.Spec PyProof.Rows Hw
section
variable {X:Cx}{C:Addr}{k:Nat}{m:Str}{pos B1:Pos}{o:Expr}{ta:TE}{ul:Cz}{ps:jcR}{sp:Nat->Sp}{E:XK}
end
end L2
namespace Hw
open PySem L2
section
variable {xs:jcR}{H H' H'':Hp}{d l P:Addr}{us:List V}{cs:List Cd}
end
end Hw
namespace L2
open PySem PySem.Spec PyProof.Rows
end L2
namespace Hw
open PySem L2
end Hw
namespace L2
open PySem PySem.Spec PyProof.Rows Hw
section
variable {X:Cx}{k:Nat}{m:Str}{pos B1:Pos}{o:Expr}{ta:TE}{QR:Cy}{ps:jcR}{sp:Nat->Sp}
end
end L2
namespace Hw
open PySem L2
def Chr (x:Str):Prop:=∃c,x=Xs c/\97<=c
theorem Chr.len {x:Str}(h:Chr x):x.length=1:=by obtain⟨c,rfl,_⟩:=h;rfl
end Hw
namespace L2
open PySem PySem.Spec PyProof.Rows
noncomputable def notStar:Expr->Bool
 |.Starred ..=>false
 |_=>true
theorem ig {e:Expr}{es:jcU}{env:Env}(h:notStar e=true):starEach (e::es) env=(false,eval e env)::starEach es env:=by
 cases e<;>first | rfl | cases h
theorem iV {pos:Pos}{env:Env}:∀{es:jcU},es.all notStar=true->(backTo pos (starEach es env)).any (·.1)=false
 |[],_=>rfl
 |e::es,h=>by
  have h:(notStar e&&es.all notStar)=true:=h;rw[jaU] at h;rw[ig h.1];show(false||(backTo pos (starEach es env)).any (·.1))=false;rw[iV h.2];rfl
theorem Eh {pos:Pos}{env:Env}:∀{es:jcU},es.all notStar=true->(backTo pos (starEach es env)).all (λx=>!x.1)=true
 |[],_=>rfl
 |e::es,h=>by
  have h:(notStar e&&es.all notStar)=true:=h;rw[jaU] at h;rw[ig h.1];show(true&&(backTo pos (starEach es env)).all (λx=>!x.1))=true;rw[Eh h.2];rfl
section
variable {X:Cx}{CX:KH}{k:Nat}{f C:Addr}{fd:FuncData}{ps:jcR}{sp:Sp}{Bw:List V}{ds:jcS}{E:XK}{x:Str}{p pos:Pos}{e:Expr}{es:jcU}{te:TE}{t:TA}
theorem mD (ha:PE X e te)(hr:PA X es t)(h:autoParam (notStar e=true) zi):PA X (e::es) (Tn te t):=JI ha hr (ig h)
theorem Nu (F:az X.prog X.w X.K X.mg X.base CX k f fd ps sp)(hr:dW k X.A)(hg:Gl X x)(hm:X.mg x=some (.ref f))(hk:keepIn X.K (.ref f)=true)(hb:Binds X.K fd ps ds)(hd:Vals Bw ds)(hx:Passes CX X E)
  (ha:PA X (e::es) t) (h1:autoParam (notStar e=true) zi) (h2:autoParam (es.all notStar=true) zi) (hdb:autoParam ((x==("__debug__":Str))=false) zn):PE X (.Call (.Name x p) (e::es) [] pos) (To sp Bw E t):=
 Ru F hr hg hm hk hb hd hx ha hdb (ig h1) (iV h2)
theorem EW (jcN:Mk X.K C f)(F:az X.prog X.w X.K X.mg X.base CX k f fd ps sp)(hr:dW (k+1) X.A)(hg:Gl X x)(hm:X.mg x=some (.ref C))(hb:Binds X.K fd ps ds)(hd:Vals Bw ds)(hx:Passes CX X E)
  (ha:PA X (e::es) t) (h1:autoParam (notStar e=true) zi) (h2:autoParam (es.all notStar=true) zi) (hdb:autoParam ((x==("__debug__":Str))=false) zn):PE X (.Call (.Name x p) (e::es) [] pos) (Te C sp Bw E t):=
 Ro jcN F hr hg hm hb hd hx ha hdb (ig h1) (iV h2)
theorem uR {id:String}{r:List V->Hp->VK->Prop}(hc:fm X (.builtin id) r)(hg:Gl X x)(hm:X.mg x=none)(hv:bootBuiltins x=some (.builtin id))(ha:PA X (e::es) t)(h1:autoParam (notStar e=true) zi)(h2:autoParam (es.all notStar=true) zi)(hn:autoParam (x≠"__name__") zn)(hdb:autoParam ((x==("__debug__":Str))=false) zn) :
  PE X (.Call (.Name x p) (e::es) [] pos) (YH r t):=Nv hc hg hm hv ha hn hdb (ig h1) (iV h2)
theorem nM {T:String}{r:List V->Hp->VK->Prop}(hc:fm X (.type T) r)(hg:Gl X x)(hm:X.mg x=none)(hv:bootBuiltins x=some (.type T))(ha:PA X (e::es) t)(h1:autoParam (notStar e=true) zi)(h2:autoParam (es.all notStar=true) zi)(hn:autoParam (x≠"__name__") zn)(hdb:autoParam ((x==("__debug__":Str))=false) zn) :
  PE X (.Call (.Name x p) (e::es) [] pos) (YH r t):=K3 hc hg hm hv ha hn hdb (ig h1) (iV h2)
theorem VY {T id:String}{name:Str}{r:V->List V->Hp->VK->Prop}{o:Expr}{to:TE}{B1 cpos:Pos}(pa:PlainAttrs T)(slot:Slot T name id)(hty:typeOf (.builtin id)=pure (.type "method_descriptor"))(hm:Gk X id r)(ho:PE X o to)(ha:PA X (e::es) t)
  (h1:autoParam (notStar e=true) zi) (h2:autoParam (es.all notStar=true) zi) (h3:autoParam (es.length<20) zn) (Ap:autoParam (attributeBase o name X.env (eval o X.env)=eval o X.env) zi) (At:autoParam ((B1.endLine==cpos.line)=true) zi) :
  PE X (.Call (.Attribute o name B1) (e::es) [] cpos) (tBM X.K T r to t):=
 Zn pa slot hty hm ho ha Ap (by
  rw[Eh (show(e::es).all notStar=true by show(notStar e&&es.all notStar)=true;rw[h1,h2];rfl)];show(true&&true&&decide (es.length+1+0+0<30))=true;rw[jaF (by omega)];rfl) At (ig h1) (iV h2)
end
end L2
namespace Hw
open PySem L2
section
variable {H0 H H':Hp}{d p q a1 a2 a3 a4:Addr}{o:Own}{us:List V}{hs:List Hl}
end
end Hw
namespace L2
open PySem PySem.Spec PyProof.Rows
end L2
namespace Hw
open PySem L2
end Hw
namespace PySem
open Sem (wp)
open Builtin
section
variable {prog:Program}{w:World}{A:Around}{E:jcP}{h:Heap}{g:Array GenState}{d:Drawn}{t:Nat}{os:OsState}{K:W.Frag}{C x:Addr}{o:Obj}
end
end PySem
namespace L2
open PySem PySem.Spec PyProof.Rows
end L2
namespace Hw
open PySem L2
section
variable {QR:Cy}{G G':Hp}{tt pg pc pb pl:Addr}{us ws:List V}{hs:List Hl}{c:Cd}{h0:Hl}{u0:V}
end
end Hw
namespace PySem
open L2
section
variable {prog:Program}{w:World}{A:Around}{E:jcP}{s:Shared}
theorem MY {a:Addr}{zs:jcR}{x:Str}{k:Tok}{Q:Option Nat->Shared->Prop}(hS:bI prog w s.heap a zs)
  (h:∀r,r.isSome=decide (x∈zs)->Q r s):wpAny (model prog w) A (setFind a (.str x k) ((aJ prog w).hash (Sum.inr x))) Q E s:=by
 obtain⟨o,es,ep,t,ho,hex,hd,hel,hst,hzs,hnd,hb,hf,gm,hpl⟩:=id hS;have hsc:(Value.str x k).scannable=true:=rfl;have hkey:=c6 prog w x k;unfold setFind setFindIn;refine jaa (jaB ho hd hf ?_);dsimp only;rw[byScan_of hsc hb hel];simp only[↓reduceIte];refine jaa (jbs ?_);refine jaa (wpAny_setScan_of hkey ho hd hf hel ?_);have mem:x∈zs↔∃e∈es.toList,(aJ prog w).is (Sum.inr x) e.2=true:=by
  rw[<- hzs,jas];constructor
  .rintro⟨e,he,q⟩;obtain⟨z,k',e2⟩:=hst e he;refine⟨e,he,?_⟩;rw[e2] at q ⊢;rw[yU];exact jaF q
  .rintro⟨e,he,q⟩;obtain⟨z,k',e2⟩:=hst e he;refine⟨e,he,?_⟩;rw[e2] at q ⊢;rw[yU] at q;exact jbc q
 cases hr:List.findIdx? (λe=>(aJ prog w).is (Sum.inr x) e.2) es.toList with
 |some j=>
  dsimp only;obtain⟨hj,X0,_⟩:=jcK.mp hr;have hm:x∈zs:=mem.mpr ⟨es.toList[j],jce hj,X0⟩;exact jac (h _ (by rw[jaF hm];rfl))
 |none=>
  dsimp only;have hm:x∉zs:=λz=>by
   obtain⟨e,he,q⟩:=mem.mp z;have:=List.findIdx?_eq_none_iff.mp hr e he;rw[q] at this;exact Bool.noConfusion this
  exact jac (h _ (by rw[jat hm];rfl))
def pQ (prog:Program)(w:World)(l:List (Int×Value))(zs:jcR):Prop:=List.Perm (l.map λe=>strOf e.2) zs/\∀e∈l,∃z k,e=((aJ prog w).hash (Sum.inr z),Value.str z k)
theorem lW {h:Heap}{a:Addr}{zs:jcR}(hS:bI prog w h a zs):∃o es ep t,h.get? a=some o/\o.ExactSet/\o.data=.set es ep t/\t.fits es.size=true/\t.led=(!w.params.followText "set-order")/\(t.plain=false\/es.size=0)/\es.size=zs.length/\pQ prog w es.toList zs/\∀e∈es.toList,∃z k,e.2=Value.str z k:=by
 obtain⟨o,es,ep,t,ho,hex,hd,hel,hst,hzs,hnd,hb,hf,gm,hpl⟩:=hS;refine⟨o,es,ep,t,ho,hex,hd,hf,gm,hpl,by rw[<- hzs,jab,jaq],⟨by rw[hzs],λe he=>?_⟩,hst⟩;obtain⟨⟨k,hk,e1⟩,_⟩:=hel e he;obtain⟨z,tk,e2⟩:=hst e he;refine⟨z,tk,?_⟩;rw[e2] at hk;have:=(aJ prog w).inj _ _ _ hk (c6 prog w z tk);rw[this] at e1;rw[<- e1,<- e2]
theorem G7:∀{l:jcT},(∀a∈l,∃zs,bI prog w s.heap a zs)->∀{Q:Bool->Shared->Prop},Q true s->wpAny (model prog w) A (setsQuiet l) Q E s:=by
 intro l hl Q h;unfold setsQuiet;refine jaa (wpAny_forIn_list _ (λl' b s'=>s'=s/\b=⟨none,()⟩/\∀a∈l',∃zs,bI prog w s.heap a zs) _ ?_ ?_ _ _ ⟨M,M,hl⟩)
 .rintro a rest b s' ⟨rfl,rfl,ha⟩;obtain⟨zs,hS⟩:=ha a (jar ..);obtain⟨o,es,ep,t,ho,hex,hd,hf,gm,hpl,_,_,hst⟩:=lW hS;unfold setEntries;refine jaa (jaa (jaB ho hd hf (jac ?_)));refine jaa (wpAny_forIn_array' _ (λl' b s2=>s2=s'/\b=⟨none,()⟩/\∀e∈l',∃z k,e.2=Value.str z k) _ ?_ ?_ _ _ ⟨M,M,hst⟩)
  .rintro e a3U b s2 ⟨rfl,rfl,he⟩;obtain⟨z,k,q⟩:=he e (jar ..);obtain⟨e1,e2⟩:=e;simp only at q;subst q;exact jac ⟨M,M,λe he'=>he e (jav _ he')⟩
  .rintro b s2 ⟨rfl,rfl,_⟩;exact jac ⟨M,M,λa ha'=>ha a (jav _ ha')⟩
 .rintro b s' ⟨rfl,rfl,_⟩;exact jac h
theorem pQ.perm {l l':List (Int×Value)}{zs:jcR}(h:pQ prog w l zs)(p:List.Perm l' l):pQ prog w l' zs:=⟨(p.map _).trans h.1,λe he=>h.2 e (p.mem_iff.mp he)⟩
theorem xQ {a:Addr}{zs:jcR}{Q:Array (Int×Value)->Shared->Prop}(hS:bI prog w s.heap a zs)(h:∀es' d,pQ prog w es'.toList zs->Q es' {s with drawn:=d }):wpAny (model prog w) A (setWalk a) Q E s:=by
 obtain⟨o,es,ep,t,ho,hex,hd,hf,gm,hpl,hn,hent,hst⟩:=lW hS;have h0:∀es',pQ prog w es'.toList zs->Q es' s:=λes' q=>by
  have:=h es' s.drawn q;exact this
 unfold setWalk;refine jaa (jaB ho hd hf ?_);dsimp only;unfold setsByText;refine jaa (jaa (jbe (jac ?_)));show wpAny _ _ (if(w.params.followText "set-order")=true then _ else _) _ _ _;cases hT:w.params.followText "set-order" with
 |true=>
  simp only[ja4];refine jaa (jbe (jac ?_));exact h0 _ (hent.perm (eU _ _))
 |false=>
  simp only[jaM,jaH];show wpAny _ _ (if(!t.plain&&decide (es.size > 1))=true then _ else _) _ _ _;split
  .refine jaa (u9 _ _ _ _ (by simp) λys d hp=>jac ?_);exact h _ d (by simpa using hent.perm hp)
  .show wpAny _ _ ((if(!t.led&&decide (es.size > 1))=true then unsupported "set:maker-not-led" else pure ()) >>=λ_=>pure es) _ _ _;rw[gm,hT];simp only[Bool.not_false,jbB,jbZ,jaM,jaH];exact jaa (jac (jac (h0 _ hent)))
theorem D9 {a o r:Addr}{zs zo:jcR}{Q:Array (Int×Value)->Shared->Prop}(hS:bI prog w s.heap a zs)(hO:bI prog w s.heap o zo)(hR:bI prog w s.heap r [])
  (h:∀es' d h',Heap.SameBut r s.heap h'->bI prog w h' r []->pQ prog w es'.toList zs->Q es' {s with heap:=h',drawn:=d }):wpAny (model prog w) A (setWalkUnseen a [o,r] (some r)) Q E s:=by
 obtain⟨oa,es,ep,t,ho,hex,hd,hf,gm,hpl,hn,hent,hst⟩:=lW hS;have hw:wpAny (model prog w) A (setWalk a) Q E s:=xQ hS λes' d q=>by
  have:=h es' d s.heap (jcb _ _) hR q;exact this
 unfold setWalkUnseen;refine jaa (jaB ho hd hf ?_);dsimp only;unfold setsByText;refine jaa (jaa (jbe (jac ?_)));split
 .exact hw
 .rename_i hno;refine jaa (G7 (λb hb=>?_) ?_)
  .simp only[jag,jaI,jbt] at hb;rcases hb with rfl | rfl | rfl
   .exact⟨_,hS⟩
   .exact⟨_,hO⟩
   .exact⟨_,hR⟩
  .simp only[jbB,jaM,jaH];refine jaa (jbs ?_);obtain⟨orr,er,epr,tr,hor,a27,hdr,a29,hstr,hzr,a2X,hbr,hfr,a0e,a5n⟩:=id hR;have er0:er.size=0:=by
    have:=jah List.length hzr;rw[jab,jaq] at this;exact this
   refine jaa (jaB hor hdr hfr ?_);dsimp only;split
   .refine jaa (jbJ hor hdr ?_ (fits_of_scanBound hbr));have hg:(s.heap.update r (Obj.putSet er {tr with led:=tr.led&&t.led,plain:=tr.plain&&t.plain })).get? r=some {orr with data:=.set er (epr+1) {tr with led:=tr.led&&t.led,plain:=tr.plain&&t.plain } }:=by
     have:=jbo (Obj.putSet er {tr with led:=tr.led&&t.led,plain:=tr.plain&&t.plain }) hor (by rw[putSet_of er _ hdr];rfl);rw[putSet_of er _ hdr] at this;exact this
    refine jac (h es s.drawn _ (jbg _ _ _) ⟨_,er,epr+1,_,hg,a27,M,a29,hstr,hzr,a2X,hbr,hfr,?_,.inr er0⟩ hent);show(tr.led&&t.led)=_;rw[a0e,gm,Bool.and_self]
   .exact jac (h es s.drawn s.heap (jcb _ _) hR hent)
theorem bI.typeIs {a:Addr}{zs:jcR}(hS:bI prog w s.heap a zs):s.TypeIs (.ref a) "set":=by
 obtain⟨o,es,ep,t,ho,hex,_⟩:=hS;exact⟨o,ho,hex.1⟩
theorem jE {a:Addr}{zs:jcR}{Q:Bool->Shared->Prop}(hS:bI prog w s.heap a zs)(h:Q true s):wpAny (model prog w) A (Builtin.Frozenset.isAnySet (.ref a)) Q E s:=by
 unfold Builtin.Frozenset.isAnySet;refine jaa (jbz hS.typeIs sub_set_self ?_);exact jac h
theorem size_set {a:Addr}{zs:jcR}{Q:Nat->Shared->Prop}(hS:bI prog w s.heap a zs)(h:Q zs.length s):wpAny (model prog w) A (Builtin.Frozenset.sizeOf a) Q E s:=by
 obtain⟨o,es,ep,t,ho,hex,hd,hf,gm,hpl,hn,hent,hst⟩:=lW hS;unfold Builtin.Frozenset.sizeOf setEntries;refine jaa (jaa (jaB ho hd hf (jac (jac ?_))));rw[hn];exact h
theorem By {id:String}{a o:Addr}{zs zo:jcR}{Q:jcP}(hS:bI prog w s.heap a zs)(hO:bI prog w s.heap o zo)(hz:zs.length / 4<=zo.length)(h64:zs.length<64)
  (h:∀h' d ys,(∀b ob,s.heap.get? b=some ob->h'.get? b=some ob)->bI prog w h' s.heap.objs.size ys->(∀x,x∈ys↔x∈zs/\x∉zo)->ys.length<64->Q (.ref s.heap.objs.size) {s with heap:=h',drawn:=d }) :
  wpAny (model prog w) A (Builtin.Frozenset.difference id a (.ref o)) Q E s:=by
 unfold Builtin.Frozenset.difference;refine jaa (jE hO ?_);simp only[jbB,jaM,jaH,jbZ];refine jaa (jac ?_);refine jaa (size_set hO ?_);refine jaa (size_set hS ?_);rw[jad (by omega)];unfold Builtin.Frozenset.baseOf;refine jaa (jaa (jbz hS.typeIs sub_set_self (jac ?_)));simp only[ja4];unfold newSet setsByText;refine jaa (jaa (jaa (jbe (jac ?_))));dsimp only;simp only[newObj];refine jaa (wpAny_alloc (jac ?_));refine jaa (jac ?_);show wpAny (model prog w) A _ _ _ {s with heap:=s.heap.push {cls:=.type "set",dict:=none,data:=.set #[] 0 (.fresh 0 0 (!w.params.followText "set-order")) } };generalize Oq:s.heap.push {cls:=.type "set",dict:=none,data:=.set #[] 0 (.fresh 0 0 (!w.params.followText "set-order")) }=h1;have L6:∀b ob,s.heap.get? b=some ob->h1.get? b=some ob:=λb ob e=>Oq ▸ jan _ e;have hr1:h1.get? s.heap.objs.size=some {cls:=.type "set",dict:=none,data:=.set #[] 0 (.fresh 0 0 (!w.params.followText "set-order")) }:=Oq ▸ jaz _ rfl;have hR1:bI prog w h1 s.heap.objs.size []:=⟨_,_,_,_,hr1,⟨M,M,M⟩,M,(λe he=>absurd he (by simp)),(λe he=>absurd he (by simp)),M,.nil,by decide,by rfl,M,.inr M⟩
 have Ou:bI prog w h1 a zs:=hS.at (L6 a);have hO1:bI prog w h1 o zo:=hO.at (L6 o);have la:a<s.heap.objs.size:=let⟨_,_,_,_,e,_⟩:=hS;jak e;have lo:o<s.heap.objs.size:=let⟨_,_,_,_,e,_⟩:=hO;jak e;obtain⟨oa,es,ep,t,ho,hex,hd,hf,gm,hpl,hn,hent,hst⟩:=lW Ou;unfold setEpoch;refine jaa (jaa (jaB (s:={s with heap:=h1 }) ho hd hf (jac ?_)));refine jaa (jbh (jaa ?_));refine D9 (s:={s with heap:=h1 }) Ou hO1 hR1 λes' d h2 L1 X8 q8=>?_;have s2a:bI prog w h2 a zs:=Ou.at λob e=>(L1.2 a (jap la)).trans e;have s2o:bI prog w h2 o zo:=hO1.at λob e=>(L1.2 o (jap lo)).trans e;have ho2:h2.get? a=some oa:=(L1.2 a (jap la)).trans ho;refine jaa (wpAny_forIn_array' _ (λl _ s'=>∃h' ys dn,s'={s with heap:=h',drawn:=d }/\Heap.SameBut s.heap.objs.size h2 h'/\bI prog w h' s.heap.objs.size ys/\es'.toList=dn++l/\(∀x,x∈ys↔x∈dn.map (λe=>strOf e.2)/\x∉zo)/\ys.length<=dn.length) _ ?_ ?_ _ _
  ⟨h2,[],[],M,jcb _ _,X8,M,by simp,jal _⟩)
 .rintro e rest b s' ⟨h',ys,dn,rfl,sb,hR,el,hm,hl⟩;obtain⟨z,k,rfl⟩:=q8.2 e (by rw[el];exact jaW _ (jar ..));have Uk:bI prog w h' o zo:=s2o.at λob e=>(sb.2 o (jap lo)).trans e;have a52:dn.length<64:=by
   have:=q8.1.length_eq;rw[jab,el,jaf,jaj] at this;omega
  have nx:es'.toList=(dn++[((aJ prog w).hash (Sum.inr z),Value.str z k)])++rest:=by rw[el,jaX];rfl
  have same:∀h'':Heap,Heap.SameBut s.heap.objs.size h' h''->∀ys',bI prog w h'' s.heap.objs.size ys'->(∀x,x∈ys'↔x∈(dn++[((aJ prog w).hash (Sum.inr z),Value.str z k)]).map (λe=>strOf e.2)/\x∉zo)->ys'.length<=dn.length+1->
    wpAny (model prog w) A (Builtin.Frozenset.unchanged id a ep) (λ_ s''=>∃h' ys dn,s''={s with heap:=h',drawn:=d }/\Heap.SameBut s.heap.objs.size h2 h'/\bI prog w h' s.heap.objs.size ys/\es'.toList=dn++rest/\(∀x,x∈ys↔x∈dn.map (λe=>strOf e.2)/\x∉zo)/\ys.length<=dn.length) E {s with heap:=h'',drawn:=d }:=by
   intro h'' sb' ys' hR' hm' hl';unfold Builtin.Frozenset.unchanged setEpoch;refine jaa (jaa (jaB (s:={s with heap:=h'',drawn:=d }) (((sb.trans sb').2 a (jap la)).trans ho2) hd hf (jac ?_)));rw[jad (by simp)];exact jac ⟨h'',ys',_,M,sb.trans sb',hR',nx,hm',by simpa using hl'⟩
  refine jaa (jbh (jaa ?_));refine MY (s:={s with heap:=h',drawn:=d }) Uk λr hr=>?_;refine jaa (jac ?_);by_cases XY:z∈zo
  .rw[jaF XY] at hr;rw[hr];simp only[jbB,jaM,jaH];refine jac (jaa (jaV (same h' (jcb _ _) ys hR (λx=>?_) (by omega)) (λ_ _ q=>jac q) λ_ _ q=>q));rw[hm x,jam,jau];constructor
   .rintro⟨q1,q2⟩;exact⟨.inl q1,q2⟩
   .rintro⟨q1 | q1,q2⟩
    .exact⟨q1,q2⟩
    .exact absurd (by rw[jai.mp q1];exact XY) q2
  .rw[jat XY] at hr;rw[hr];simp only[Bool.not_false,ja4];refine jaa (Jr (s:={s with heap:=h',drawn:=d }) hR (by unfold scanBound;omega) λh'' ys' sb' hR' q1 q2=>?_);have hin:∀x,x∈ys'↔x∈ys\/x=z:=λx=>by
    by_cases hy:z∈ys
    .rw[q1 hy];exact⟨.inl,λq=>q.elim (λq=>q) λq=>q ▸ hy⟩
    .rw[(q2 hy).mem_iff,jau,jai]
   have hlen:ys'.length<=ys.length+1:=by
    by_cases hy:z∈ys
    .rw[q1 hy];omega
    .rw[(q2 hy).length_eq,jaf];exact jal _
   refine jac (jaa (jaV (same h'' sb' ys' hR' (λx=>?_) (by omega)) (λ_ _ q=>jac q) λ_ _ q=>q));rw[hin x,hm x,jam,jau];constructor
   .rintro(⟨q1,q2⟩ | q1)
    .exact⟨.inl q1,q2⟩
    .subst q1;exact⟨.inr (jai.mpr M),XY⟩
   .rintro⟨q1 | q1,q2⟩
    .exact .inl ⟨q1,q2⟩
    .exact .inr (jai.mp q1)
 .rintro b s' ⟨h',ys,dn,rfl,sb,hR,el,hm,hl⟩;rw[jaJ] at el;refine jac (jac (h h' d ys (λb ob e=>?_) hR (λx=>?_) ?_))
  .have l:=jap (jak e);exact(sb.2 b l).trans ((L1.2 b l).trans (L6 b ob e))
  .rw[hm x,<- el,(q8.1.mem_iff)]
  .have:=q8.1.length_eq;rw[jab,el] at this;omega
end
end PySem
namespace L2
open PySem PySem.Spec PyProof.Rows Hw
theorem pG:entryFor table "set.__sub__"=some Builtin.«frozenset.__sub__»:=entryFor_alias (id':="frozenset.__sub__") (by kernel_rfl) rfl (by symm) (by kernel_rfl)
section
variable {X:Cx}
theorem BC (hc:X.calm=true):fm X (.type "set") (λxs H Q=>∃(p:Addr)(ss ds:jcR),xs=[.ref p]/\mJ X.K H p (ss.map V.str)/\ss.length<4000/\ds.length<64/\(∀x∈ss,x∈ds)/\∀q,H q=none->Q (.ref q) (upd H q (oR X.prog X.w q ss))):=by
 intro vy s U H xs us Q I r h;obtain⟨p,ss,ds,rfl,hq,hl,hd,hin,q⟩:=h;obtain⟨u,rfl,rx⟩:=vals1 r;cases rx;obtain⟨AC,r',pl,hz⟩:=I.list hq;have hlen:=r'.length;rw[jab] at hlen;refine Ar (I.ok.hd hc) pl.isList (ss:=ss) (by simpa using k9 r') (by simp only[jaw];unfold scanBound;omega) λh' tk zs hS hm PX kp=>?_;have hnd:zs.Nodup:=let⟨_,_,_,_,_,_,_,_,_,_,n,_⟩:=hS;n;have a5j:=tH hnd λx hx=>hin x ((hm x).mp hx);have L:=I.Bm (h':=h') (a:=s.heap.objs.size) (o:=oR X.prog X.w s.heap.objs.size ss) (t':=tk) (λb u e=>kp b u (jak e) e) (λb u e=>jap (jak e))
  ⟨⟨zs,hS,hm,by omega⟩,let⟨o,_,_,_,ho,_⟩:=hS;⟨o,ho⟩,λh1 h2 ⟨zs,x,y⟩ k=>⟨zs,x.at k,y⟩⟩
 exact⟨.ref s.heap.objs.size,_,L.2,M,q _ L.1⟩
end
end L2
namespace PySem
open L2 PyProof.Rows
section
variable {prog:Program}{w:World}{A:Around}{E:jcP}{s:Shared}
set_option maxHeartbeats 3200000 in
theorem zj {l:Addr}{items:Array Value}{ss:jcR}{Q:jcP}(hh:A.handled=none)(hl:s.heap.IsTuple l items)(hi:StrsAre items.toList ss)(hb:items.size+1<scanBound)
  (h:∀(h':Heap)(tk:Nat)(zs:jcR),bI prog w h' s.heap.objs.size zs->(∀x,x∈zs↔x∈ss)->zs.length<=items.size->
   (∀b o,b<s.heap.objs.size->s.heap.get? b=some o->h'.get? b=some o)->Q (.ref s.heap.objs.size) {s with heap:=h',toks:=tk }) :
  wpAny (model prog w) A (call (.type "set") [.ref l]) Q E s:=by
 have hlen:ss.length=items.size:=by rw[<- jcg hi,jaq]
 obtain⟨c,tl,a2Y⟩:=ja8.mro;have hmade:=ja8.made;have hsub:=ja8.sub;refine wpAny_call (codeAny_of_tree ?_);show wpAny _ _ (callAny (.type "set") _) _ _ _;refine jac ⟨Code.quiet_builtin _ (by symm),jbY F.entry_type_call ?_⟩;rw[Around.under_plain (weight_type_call_type "set" [.ref l] []) rfl];have h1:=ja8.notType;have h2:=ja8.canCreate;have hct:=F.typeCall_set_1 (.ref l)
 repeat (any_goals (first | assumption | wp_step))
 refine jbN (pI (.ref l) (E:=E) (Q₁:=λobj s₁=>obj=.ref s.heap.objs.size/\s₁={s with heap:=s.heap.push {cls:=.type "set",dict:=none,data:=.set #[] 0 (.fresh 0 0 (!w.params.followText "set-order")) } }) ⟨M,M⟩) λr s₁ hr=>?_;cases r with
 |error e=>exact hr
 |ok fl=>
  cases fl with
  |ret obj=>
   obtain⟨rfl,rfl⟩:=hr;have hS:(s.heap.push {cls:=.type "set",dict:=none,data:=.set #[] 0 (.fresh 0 0 (!w.params.followText "set-order")) }).get? s.heap.objs.size=some {cls:=.type "set",dict:=none,data:=.set #[] 0 (.fresh 0 0 (!w.params.followText "set-order")) }:=jaz _ rfl;have hT:Shared.TypeIs {s with heap:=s.heap.push {cls:=.type "set",dict:=none,data:=.set #[] 0 (.fresh 0 0 (!w.params.followText "set-order")) } } (.ref s.heap.objs.size) "set":=⟨_,hS,M⟩
   have hli:=ja8.init.lookup;have hbi:=ja8.init.bind (.ref s.heap.objs.size)
   repeat (any_goals (first | assumption | wp_step))
   refine jbN (codeAny_call_builtin (R:=wants (λr s₂=>r=.none/\∃h' tk zs,s₂={s with heap:=h',toks:=tk }/\bI prog w h' s.heap.objs.size zs/\(∀x,x∈zs↔x∈ss)/\zs.length<=items.size/\
     (∀b o,b<s.heap.objs.size->s.heap.get? b=some o->h'.get? b=some o)) E) ja8.init.plain F.entry_set_init (check_set_init_1 hT ?_)) λr₂ s₂ hr₂=>?_
   .obtain⟨ol,hol,hcl,nl,hdl⟩:=hl;obtain⟨a2i,NO,Zw,Hi⟩:=ol;simp only at hcl hdl;subst hcl;subst hdl;have W0:(s.heap.push {cls:=.type "set",dict:=none,data:=.set #[] 0 (.fresh 0 0 (!w.params.followText "set-order")) }).get? l=some {cls:=.type "tuple",dict:=NO,data:=.seq items nl,slots:=Hi }:=jan _ hol;have a2Q:=F.sub_tuple_set;have a2R:=F.sub_tuple_frozenset;have hne:(Value.type "tuple" ==Value.type "dict")=false:=by decide
    have hl1:(s.heap.push {cls:=.type "set",dict:=none,data:=.set #[] 0 (.fresh 0 0 (!w.params.followText "set-order")) }).IsTuple l items:=⟨_,W0,M,nl,M⟩
    unfold Builtin.«set.__init__» noKeywords Builtin.Frozenset.updateFrom;generalize hPI:pyIter=PI
    wp_walk
    subst hPI;refine jb9 hl1 ?_;refine jaa (wpAny_runValue ?_);have hlS:l<s.heap.objs.size:=jak hol;have hh3:A.in1.in1.in1.handled=none:=by simp[hh]
    have W4:l≠(s.heap.push {cls:=.type "set",dict:=none,data:=.set #[] 0 (.fresh 0 0 (!w.params.followText "set-order")) }).objs.size:=by rw[ja0];exact jap (jbx hlS)
    have hSf:s.heap.objs.size∉[(s.heap.push {cls:=.type "set",dict:=none,data:=.set #[] 0 (.fresh 0 0 (!w.params.followText "set-order")) }).objs.size,l]:=by
     rw[ja0];simp only[jag,jai,jaI,jbt,not_or];exact⟨jap (jcd _),ja6 hlS⟩
    refine Eu ((Walks.tuple hh3 _ l W4 items).toS) s.heap.objs.size hSf ss hlen (λi v _ hv=>StrsAre.Mx hi i v (by rw[jb6];exact hv)) hb (items.size - 0) 0 _ [] (by omega) (ja3 _)
     ⟨⟨_,jaz _ M,M,M⟩,(hl1.push _)⟩ ?hS0 (jal _) (λx=>by simp) ?hR
    case hS0=>
     have hget:((s.heap.push {cls:=.type "set",dict:=none,data:=.set #[] 0 (.fresh 0 0 (!w.params.followText "set-order")) }).push {cls:=.type "tuple_iterator",data:=.fields #[.ref l,.int 0 0] }).get? s.heap.objs.size=some {cls:=.type "set",dict:=none,data:=.set #[] 0 (.fresh 0 0 (!w.params.followText "set-order")) }:=jan _ hS;exact⟨_,#[],0,_,hget,⟨M,M,M⟩,M,(λe he=>by simp at he),(λe he=>by simp at he),M,.nil,by decide,by rfl,M,.inr M⟩
    case hR=>
     intro s' zs hm hS' PX hmem;obtain⟨h',g',d',tk',os'⟩:=s';have eg:g'=s.gens:=hm.gens;have ed:d'=s.drawn:=hm.drawn;have eo:os'=s.os:=hm.os;subst eg;subst ed;subst eo;show wpAny _ _ _ _ _ _;refine jac ?_;show wpAny _ _ (ret Value.none) _ _ _;refine jac ⟨M,h',tk',zs,M,hS',hmem,PX,λb o hb e=>?_⟩;have hb1:b≠s.heap.objs.size:=jap hb;have hb2:b≠(s.heap.push {cls:=.type "set",dict:=none,data:=.set #[] 0 (.fresh 0 0 (!w.params.followText "set-order")) }).objs.size:=by rw[ja0];exact jap (jbx hb)
     exact hm.heap b o (by simp only[jag,jai,jaI,jbt,not_or];exact⟨hb1,hb2⟩) (jan _ (jan _ e))
   .cases r₂ with
    |error e=>exact hr₂
    |ok fl₂=>
     cases fl₂ with
     |ret r=>
      obtain⟨rfl,h',tk,zs,rfl,hS',hmem,PX,hk'⟩:=hr₂
      repeat (any_goals (first | assumption | wp_step))
      exact h _ _ zs hS' hmem PX hk'
     |_=>exact hr₂.elim
  |_=>exact hr.elim
end
end PySem
namespace L2
open PySem PySem.Spec PyProof.Rows Hw
section
variable {X:Cx}
theorem LI (hc:X.calm=true):fm X (.type "set") (λxs H Q=>∃(p:Addr)(ss:jcR),xs=[.ref p]/\ko X.K H p (ss.map V.str)/\ss.length<64/\∀q,H q=none->Q (.ref q) (upd H q (oR X.prog X.w q ss))):=by
 intro vy s U H xs us Q I r h;obtain⟨p,ss,rfl,hq,hl,q⟩:=h;obtain⟨u,rfl,rx⟩:=vals1 r;cases rx;obtain⟨AC,r',pl,hz⟩:=I.tuple hq;have hlen:=r'.length;rw[jab] at hlen;refine zj (I.ok.hd hc) (show s.heap.IsTuple p AC.toArray from pl) (ss:=ss) (by simpa using k9 r') (by simp only[jaw];unfold scanBound;omega) λh' tk zs hS hm PX kp=>?_;simp only[jaw] at PX;have L:=I.Bm (h':=h') (a:=s.heap.objs.size) (o:=oR X.prog X.w s.heap.objs.size ss) (t':=tk) (λb u e=>kp b u (jak e) e) (λb u e=>jap (jak e))
  ⟨⟨zs,hS,hm,by omega⟩,let⟨o,_,_,_,ho,_⟩:=hS;⟨o,ho⟩,λh1 h2 ⟨zs,x,y⟩ k=>⟨zs,x.at k,y⟩⟩
 exact⟨.ref s.heap.objs.size,_,L.2,M,q _ L.1⟩
end
end L2
namespace PySem
section
variable {jcN:Model}{A:Around}{E:jcP}{s:Shared}{base:Heap}{env:Env}{outer:List Env}{L a C T:Addr}{z:Value}
end
end PySem
namespace L2
open PySem PySem.Spec PyProof.Rows
section
variable {prog:Program}{w:World}{A:Around}{R:Result->Shared->Prop}{s:Shared}
end
section
variable {X:Cx}{sc:Scope}{cl:List (Str×Addr)}{own:Nat}{N:jcR}{fr:jcX}
end
section
variable {P:Program}{w:World}{K:Frag}{mg:Str->jcW}{base:Heap}{N:jcR}{qual:Str}{scope:Scope}{f TM:Addr}{cd:Value}{A:Around}{outer:List Env}{s:Shared}{H:Hp}{E:XK}
end
section
variable {P:Program}{w:World}{K:Frag}{mg:Str->jcW}{base:Heap}{N0:jcR}{qual:Str}{scope:Scope}{f00 TM:Addr}{cd:Value}{A:Around}{outer:List Env}{s0:Shared}{H00:Hp}{E:XK}{sc:Scope}{cl:List (Str×Addr)}{own:Nat}{N:jcR}{fr:jcX}
end
end L2
namespace Hw
open PySem L2
end Hw
namespace L2
open PySem PySem.Spec PyProof.Rows Hw
section
variable {X:Cx}{k:Nat}{m:Str}{pos B1:Pos}{o:Expr}{ta:TE}{QR:Cy}{ps:jcR}{sp:Nat->Sp}
noncomputable def QK:V->List V->Hp->VK->Prop:=λx vs H Q=>∃a b,x=.str a/\vs=[.str b]/\Q (.bl (Txt.startswith a b)) H
theorem Lh:Gk X "str.startswith" QK:=by
 intro vy s U H x vs v us Q I rx rv h;obtain⟨a,b,rfl,rfl,q⟩:=h;obtain⟨t,rfl⟩:=rx;obtain⟨u,rfl,ru⟩:=rv.one;obtain⟨t2,rfl⟩:=ru;exact PySem.SC.startswith ⟨.bl _,H,I,M,q⟩
end
end L2
namespace Hw
open PySem L2
section
variable {QR:Cy}{H:Hp}{s:Stp}{p:Addr}
end
section
variable {QR:Cy}{H H':Hp}
end
section
variable {ul:Cz}{Bk Db:Addr}{H H':Hp}{b F:Addr}{pg:V}{ds:List V}{dd:List Dt}
end
section
variable {N:jcR}{QR:Cy}{H:Hp}{s:Stp}{p:Addr}
end
end Hw
namespace PySem
open L2
noncomputable def Ol:Nat->Nat->Bool
 |0,i=>decide (i<=22)
 |n+1,i=>decide (i<=22)||Ol n ((i*5+1) % 32)
theorem Oj:∀i,i<32->Ol 9 i=true:=by symm
theorem pF {α β:Type}{f g:α->Option β}:∀{l:List α},(∀x∈l,f x=g x)->l.filterMap f=l.filterMap g
 |[],_=>rfl
 |a::r,h=>by
  have e:=pF (l:=r) λx hx=>h x (jav _ hx);have ha:=h a (jar ..);simp only[jbw,ha,e]
theorem iP {α β:Type}(f:α->Option β){a:α}{b:β}{l:List α}(h:f a=some b):(a::l).filterMap f=b::l.filterMap f:=by simp only[jbw,h]
theorem qJ {α β:Type}(f:α->Option β){a:α}{l:List α}(h:f a=none):(a::l).filterMap f=l.filterMap f:=by simp only[jbw,h]
noncomputable def gn (ow:Array (Option Nat)):jcX:=(List.range 32).filterMap λj=>ow.getD j none
theorem M6 {ow:Array (Option Nat)}(hs:ow.size=32)(hc:(gn ow).length<=9){i:Nat}(hi:i<=22):∃k,(List.range (SetTable.runEnd 31 i+1 - i)).find? (λk=>(ow.getD (i+k) (some 0)).isNone)=some k/\i+k<32/\ow.getD (i+k) none=none:=by
 have e:SetTable.runEnd 31 i+1 - i=10:=by unfold SetTable.runEnd;rw[jae (by omega)];omega
 rw[e];cases h:(List.range 10).find? (λk=>(ow.getD (i+k) (some 0)).isNone) with
 |some k=>
  have h1:=List.find?_some h;have h2:=jbr.mp (jcz h);refine⟨k,M,by omega,?_⟩;simp only[jbD] at h1 ⊢;have hk:i+k<ow.size:=by omega
  rw[jb3 hk] at h1 ⊢;simp only[Option.getD_some,Option.isNone_iff_eq_none] at h1 ⊢;exact h1
 |none=>
  exfalso;have h1:=List.find?_eq_none.mp h;have sub:List.Sublist (List.range' i 10) (List.range 32):=by
   rw[jcq];have:List.range' 0 32=List.range' 0 i++(List.range' i 10++List.range' (i+10) (22 - i)):=by
    rw[jcH];have e2:=jcH (s:=0) (m:=i) (n:=10+(22 - i));rw[jbi] at e2;rw[e2];congr 1;omega
   rw[this];exact(List.sublist_append_left _ _).trans (List.sublist_append_right _ _)
  have l1:=(sub.filterMap (λj=>ow.getD j none)).length_le;have l2:((List.range' i 10).filterMap (λj=>ow.getD j none)).length=10:=by
   have:∀l:jcX,(∀j∈l,(ow.getD j none).isSome=true)->(l.filterMap (λj=>ow.getD j none)).length=l.length:=λl=>by
    induction l with
    |nil=>intro _;rfl
    |cons a r ih=>
     intro hl;obtain⟨v,hv⟩:=Option.isSome_iff_exists.mp (hl a (jar ..));rw[iP (λj=>ow.getD j none) hv,jaj,jaj,ih λj hj=>hl j (jav _ hj)]
   rw[this _ λj hj=>?_,List.length_range'];have hj':=List.mem_range'_1.mp hj;have:=h1 (j - i) (jbr.mpr (by omega));rw[show i+(j - i)=j by omega] at this;simp only[jbD] at this ⊢;have hk:j<ow.size:=by omega
   rw[jb3 hk] at this ⊢;simp only[Option.getD_some] at this ⊢;cases z:ow[j] with
   |none=>rw[z] at this;exact absurd rfl this
   |some v=>rfl
  unfold gn at hc;omega
theorem Dj {ow:Array (Option Nat)}(hs:ow.size=32)(hc:(gn ow).length<=9){fuel i p:Nat}(hi:i<=22):∃j,SetTable.layClean.free 31 ow (fuel+1) i p=some j/\j<32/\ow.getD j none=none:=by
 obtain⟨k,e,l,n⟩:=M6 hs hc hi;refine⟨i+k,?_,l,n⟩;unfold SetTable.layClean.free;rw[e]
theorem Bs {ow:Array (Option Nat)}(hs:ow.size=32)(hc:(gn ow).length<=9){fuel i p:Nat}(hi:i<32)(h:∃j,SetTable.layClean.free 31 ow fuel ((i*5+1+p / 32) % 32) (p / 32)=some j/\j<32/\ow.getD j none=none):∃j,SetTable.layClean.free 31 ow (fuel+1) i p=some j/\j<32/\ow.getD j none=none:=by
 by_cases h22:i<=22
 .exact Dj hs hc h22
 .obtain⟨j,e,l,n⟩:=h;unfold SetTable.layClean.free;have er:SetTable.runEnd 31 i+1 - i=1:=by unfold SetTable.runEnd;rw[jad (by omega)];omega
  rw[er];cases z:(List.range 1).find? (λk=>(ow.getD (i+k) (some 0)).isNone) with
  |some k=>
   have h1:=List.find?_some z;have h2:=jbr.mp (jcz z);refine⟨i+k,M,by omega,?_⟩;simp only[jbD] at h1 ⊢;have hk:i+k<ow.size:=by omega
   rw[jb3 hk] at h1 ⊢;simp only[Option.getD_some,Option.isNone_iff_eq_none] at h1 ⊢;exact h1
  |none=>exact⟨j,e,l,n⟩
theorem Br {ow:Array (Option Nat)}(hs:ow.size=32)(hc:(gn ow).length<=9):∀(n fuel i:Nat),i<32->Ol n i=true->n<fuel->∃j,SetTable.layClean.free 31 ow fuel i 0=some j/\j<32/\ow.getD j none=none
 |0,fuel+1,i,hi,h,_=>Dj hs hc (jbc h)
 |n+1,fuel+1,i,hi,h,hl=>by
  rcases(Bool.or_eq_true _ _).mp h with q | q
  .exact Dj hs hc (jbc q)
  .refine Bs hs hc hi ?_;rw[Nat.zero_div,Nat.add_zero];exact Br hs hc n fuel _ (jbT _ (by decide)) q (by omega)
theorem Bt {ow:Array (Option Nat)}(hs:ow.size=32)(hc:(gn ow).length<=9):∀(k fuel i p:Nat),i<32->p<32 ^ k->k+10<=fuel->∃j,SetTable.layClean.free 31 ow fuel i p=some j/\j<32/\ow.getD j none=none
 |0,fuel,i,p,hi,hp,hf=>by
  have:p=0:=by omega
  rw[this];exact Br hs hc 9 fuel i hi (Oj i hi) (by omega)
 |k+1,fuel+1,i,p,hi,hp,hf=>by
  refine Bs hs hc hi (Bt hs hc k fuel _ _ (jbT _ (by decide)) ?_ (by omega));rw[Nat.div_lt_iff_lt_mul (by decide)];rw[Nat.pow_succ] at hp;exact hp
theorem take_set {ow:Array (Option Nat)}(hs:ow.size=32){j k:Nat}(hj:j<32)(hn:ow.getD j none=none):List.Perm (gn (ow.setIfInBounds j (some k))) (k::gn ow):=by
 unfold gn;have sp:List.range 32=List.range j++(j::List.range' (j+1) (31 - j)):=by
  rw[jcq,jcq];have e2:=jcH (s:=0) (m:=j) (n:=1+(31 - j));rw[jbi] at e2;have e3:List.range' j (1+(31 - j))=j::List.range' (j+1) (31 - j):=by rw[Nat.add_comm,List.range'_succ]
  rw[<- e3,e2];congr 1;omega
 have f1:∀m,m≠j->(ow.setIfInBounds j (some k)).getD m none=ow.getD m none:=λm hm=>by
  simp only[jbD];rw[Array.getElem?_setIfInBounds_ne (jaO hm)]
 have f2:(ow.setIfInBounds j (some k)).getD j none=some k:=by
  simp only[jbD];rw[Array.getElem?_setIfInBounds_self_of_lt (by omega)];rfl
 have g:∀l:jcX,j∉l->l.filterMap (λm=>(ow.setIfInBounds j (some k)).getD m none)=l.filterMap (λm=>ow.getD m none):=λl hl=>by
  refine pF λm hm=>?_;exact f1 m λz=>hl (z ▸ hm)
 rw[sp,jcF,jcF,iP (λm=>(ow.setIfInBounds j (some k)).getD m none) f2,qJ (λm=>ow.getD m none) hn,g _ (λz=>by have:=jbr.mp z;omega),g _ (λz=>by have:=(List.mem_range'_1.mp z).1;omega)];exact List.perm_middle
theorem Ku (h:Int):SetTable.bits h<32 ^ 13:=by
 unfold SetTable.bits;have h1:=jcf h (show(2 ^ 64:Int)≠0 by decide);have h2:=jca h (show(0:Int)<2 ^ 64 by decide);omega
theorem FG:∀(hs:List Int)(ow:Array (Option Nat)) (k:Nat),ow.size=32->List.Perm (gn ow) (List.range k)->k+hs.length<=9->∃NB,(hs.foldl (λacc h=>do
  let(owner,k) <- acc
  let j <- SetTable.layClean.free 31 owner (SetTable.turns 31) (SetTable.bits h % (31+1)) (SetTable.bits h)
  pure (owner.setIfInBounds j (some k),k+1)) (some (ow,k)))=some (NB,k+hs.length)/\NB.size=32/\List.Perm (gn NB) (List.range (k+hs.length))
 |[],ow,k,hs,hp,hl=>⟨ow,M,hs,hp⟩
 |h::r,ow,k,hs,hp,hl=>by
  rw[jaj] at hl ⊢;have lt:=hp.length_eq;rw[jaZ] at lt;obtain⟨j,e,lj,nj⟩:=Bt hs (by omega) 13 (SetTable.turns 31) (SetTable.bits h % (31+1)) (SetTable.bits h) (jbT _ (by decide)) (Ku h) (by decide);have p2:List.Perm (gn (ow.setIfInBounds j (some k))) (List.range (k+1)):=(take_set hs lj nj).trans (by
   rw[List.range_succ];exact(hp.cons k).trans (List.perm_append_singleton k (List.range k)).symm)
  obtain⟨NB,e',s',q'⟩:=FG r (ow.setIfInBounds j (some k)) (k+1) (by rw[Array.size_setIfInBounds];exact hs) p2 (by omega);refine⟨NB,?_,s',by rw[show k+(r.length+1)=k+1+r.length by omega];exact q'⟩;rw[List.foldl_cons];have:(do
    let(owner,k) <- some (ow,k)
    let j <- SetTable.layClean.free 31 owner (SetTable.turns 31) (SetTable.bits h % (31+1)) (SetTable.bits h)
    pure (owner.setIfInBounds j (some k),k+1))=some (ow.setIfInBounds j (some k),k+1):=by
   show(do
    let j <- SetTable.layClean.free 31 ow (SetTable.turns 31) (SetTable.bits h % (31+1)) (SetTable.bits h)
    pure (ow.setIfInBounds j (some k),k+1))=some (ow.setIfInBounds j (some k),k+1)
   rw[e];rfl
  rw[this,e',show k+(r.length+1)=k+1+r.length by omega]
theorem HN {fi mo:Nat}{led plain:Bool}{hs:Array Int}(h:hs.size<=9):∃t order,SetTable.laid 31 fi mo led plain hs=some (t,order)/\List.Perm order.toList (List.range hs.size)/\t.place.size=hs.size/\t.mask=31/\t.dummies=#[]/\t.led=led/\t.plain=plain:=by
 obtain⟨ow,e,so,po⟩:=FG hs.toList (Array.replicate 32 none) 0 (by simp) (by symm) (by rw[jaq];omega);unfold SetTable.laid SetTable.layClean;rw[<- Array.foldl_toList];rw[e];refine⟨_,_,M,?_,?_,M,M,M,M⟩
 .rw[jbi,jaq] at po;refine List.Perm.trans (l₂:=gn ow) ?_ po;unfold gn;simp only[List.map_filterMap];refine .of_eq (pF λj _=>?_);cases ow.getD j none<;>rfl
 .have len:=po.length_eq;rw[jaZ,jbi,jaq] at len;have key:∀l:jcX,(l.filterMap λj=>(ow.getD j none).map (j,·)).length=(l.filterMap λj=>ow.getD j none).length:=λl=>by
   induction l with
   |nil=>rfl
   |cons a r ih=>
    cases z:ow.getD a none with
    |none=>rw[qJ (λj=>(ow.getD j none).map (j,·)) (by show(ow.getD a none).map _=none;rw[z];rfl),qJ (λj=>ow.getD j none) z];exact ih
    |some v=>rw[iP (λj=>(ow.getD j none).map (j,·)) (b:=(a,v)) (by show(ow.getD a none).map _=_;rw[z];rfl),iP (λj=>ow.getD j none) z,jaj,jaj,ih]
  refine Eq.trans ?_ len;rw[jaw,jab];exact key _
end PySem
namespace PySem
open L2
noncomputable def G6 (es:Array (Int×Value))(laid:Option (SetTable×Array Nat)):Sem (Array (Int×Value)×SetTable):=do
 let some (t,order):=laid | unsupported "internal:set-table-without-room"
 let es':=order.filterMap (es[·]?)
 if es'.size !=es.size then unsupported "internal:set-table-lost-an-element"
 pure (es',t)
section
variable {prog:Program}{w:World}{A:Around}{E:jcP}{s:Shared}
theorem yt {es:Array (Int×Value)}{l:Option (SetTable×Array Nat)}{t:SetTable}{order:Array Nat}{Q:Array (Int×Value)×SetTable->Shared->Prop}(e:l=some (t,order))(hp:List.Perm order.toList (List.range es.size))
  (h:∀es',List.Perm es'.toList es.toList->Q (es',t) s):wpAny (model prog w) A (G6 es l) Q E s:=by
 subst e;have p:List.Perm (order.filterMap (es[·]?)).toList es.toList:=by
  rw[Array.toList_filterMap];exact(hp.filterMap _).trans (by rw[filterMap_getElem?_range])
 have sz:(order.filterMap (es[·]?)).size=es.size:=by have:=p.length_eq;rw[jaq,jaq] at this;exact this
 unfold G6;dsimp only;rw[jad (by simp[sz])];exact jaa (jac (jac (h _ p)))
theorem qj {h:Heap}{r:Addr}{o:Obj}{es es':Array (Int×Value)}{ep:Nat}{t t':SetTable}(ho:h.get? r=some o)(hd:o.data=.set es ep t):(h.update r (Obj.putSet es' t')).get? r=some {o with data:=.set es' (ep+1) t' }:=by
 have:=jbo (Obj.putSet es' t') ho (by rw[putSet_of es' t' hd];rfl);rw[putSet_of es' t' hd] at this;exact this
theorem HM (led:Bool):(SetTable.fresh 0 0 led).relaid #[] 16=some ({mask:=31,place:=#[],dummies:=#[],finger:=0,led:=led,moves:=1,plain:=true },#[]):=by
 cases led<;>symm
structure Yi (prog:Program)(w:World)(h:Heap)(r:Addr)(zs:List Str):Prop where
 e:∃o es ep t,h.get? r=some o/\o.ExactSet/\o.data=.set es ep t/\pQ prog w es.toList zs/\(∀e∈es.toList,∃z k,e.2=Value.str z k)/\t.place.size=es.size/\t.mask=31/\t.dummies=#[]/\t.led=(!w.params.followText "set-order")/\t.plain=false
theorem FY {a:Addr}{zs:jcR}{Q:jcP}(hS:bI prog w s.heap a zs)(h8:zs.length=8)
  (h:∀h',(∀b ob,s.heap.get? b=some ob->h'.get? b=some ob)->Yi prog w h' s.heap.objs.size zs->Q (.ref s.heap.objs.size) {s with heap:=h' }):wpAny (model prog w) A (Builtin.Frozenset.copyOf a) Q E s:=by
 unfold Builtin.Frozenset.copyOf Builtin.Frozenset.baseOf;refine jaa (jaa (jbz hS.typeIs sub_set_self (jac ?_)));simp only[ja4];unfold newSet setsByText;refine jaa (jaa (jaa (jbe (jac ?_))));dsimp only;simp only[newObj];refine jaa (wpAny_alloc (jac ?_));refine jaa (jac ?_);show wpAny (model prog w) A _ _ _ {s with heap:=s.heap.push {cls:=.type "set",dict:=none,data:=.set #[] 0 (.fresh 0 0 (!w.params.followText "set-order")) } };generalize Oq:s.heap.push {cls:=.type "set",dict:=none,data:=.set #[] 0 (.fresh 0 0 (!w.params.followText "set-order")) }=h1;have L6:∀b ob,s.heap.get? b=some ob->h1.get? b=some ob:=λb ob e=>Oq ▸ jan _ e;have hr1:h1.get? s.heap.objs.size=some {cls:=.type "set",dict:=none,data:=.set #[] 0 (.fresh 0 0 (!w.params.followText "set-order")) }:=Oq ▸ jaz _ rfl;have la:a<s.heap.objs.size:=let⟨_,_,_,_,e,_⟩:=hS;jak e;have ZC:(s.heap.objs.size==a)=false:=jbv.mpr (ja6 la);have Ou:bI prog w h1 a zs:=hS.at (L6 a);obtain⟨oa,es,ep,t,ho,hex,hd,hf,gm,hpl,hn,hent,hst⟩:=lW Ou;have X4:es.size=8:=by omega
 have HS:t.plain=false:=hpl.resolve_right (by omega);refine jaa ?_;unfold setMerge;rw[ZC];simp only[jaM,jaH];refine jaa (jaB (s:={s with heap:=h1 }) ho hd hf ?_);dsimp only;rw[jad (by simp[Array.isEmpty,X4])];unfold setRoomFor;refine jaa (jaa (jaB (s:={s with heap:=h1 }) hr1 rfl rfl ?_));dsimp only;have er:(SetTable.fresh 0 0 (!w.params.followText "set-order")).roomFor es.size=some 16:=by rw[X4];rfl
 rw[er];dsimp only;unfold setRelay;refine jaa (jaB (s:={s with heap:=h1 }) hr1 rfl rfl ?_);dsimp only;rw[jad (by rw[ja7];decide)];refine jaa ?_;show wpAny _ _ (G6 #[] ((SetTable.fresh 0 0 (!w.params.followText "set-order")).relaid (Array.map (λx:Int×Value=>x.1) #[]) 16)) _ _ _;have em:(Array.map (λx:Int×Value=>x.1) #[])=#[]:=by simp
 refine yt (by rw[em];exact HM _) (by simp) λes0 p0=>?_;obtain rfl:es0=#[]:=by have:=p0.length_eq;simp at this;exact this
 dsimp only;refine jbJ (s:={s with heap:=h1 }) hr1 rfl ?_;have hr2:=qj (es':=#[]) (t':={mask:=31,place:=#[],dummies:=#[],finger:=0,led:=!w.params.followText "set-order",moves:=1,plain:=true }) hr1 rfl;have L1:Heap.SameBut s.heap.objs.size h1 (h1.update s.heap.objs.size (Obj.putSet #[] {mask:=31,place:=#[],dummies:=#[],finger:=0,led:=!w.params.followText "set-order",moves:=1,plain:=true })):=jbg _ _ _;dsimp only at hr2;generalize h1.update s.heap.objs.size (Obj.putSet #[] {mask:=31,place:=#[],dummies:=#[],finger:=0,led:=!w.params.followText "set-order",moves:=1,plain:=true })=h2 at hr2 L1 ⊢;refine jaa (jaB (s:={s with heap:=h2 }) hr2 rfl rfl ?_);dsimp only;have N5:((!w.params.followText "set-order")&&t.led)=(!w.params.followText "set-order"):=by rw[gm,Bool.and_self]
 have Zk:(true&&t.plain)=false:=by rw[HS];rfl
 rw[N5,Zk];have fin:∀es' t',List.Perm es'.toList es.toList->t'.place.size=es'.size->t'.mask=31->t'.dummies=#[]->t'.led=(!w.params.followText "set-order")->t'.plain=false->wpAny (model prog w) A (storeSet s.heap.objs.size es' t') (λ_ s'=>wpAny (model prog w) A (pure (Value.ref s.heap.objs.size)) Q E s') E {s with heap:=h2 }:=by
  intro es' t' p e1 e2 e3 e4 e5;have sz:es'.size=8:=by have:=p.length_eq;rw[jaq,jaq] at this;omega
  refine jbJ (s:={s with heap:=h2 }) hr2 rfl (jac ?_) (by rw[sz,ja7];decide);have sH:=qj (es':=es') (t':=t') hr2 rfl;refine h _ (λb ob e=>?_) ⟨_,es',_,t',sH,⟨M,M,M⟩,M,hent.perm p,λe he=>hst e (p.mem_iff.mp he),e1,e2,e3,e4,e5⟩;have l:=jap (jak e);exact((jbg _ _ _).2 b l).trans ((L1.2 b l).trans (L6 b ob e))
 unfold SetTable.road;rw[jad (by simp[SetTable.fill])];dsimp only;have Z8:t.place.size=es.size:=by
  unfold SetTable.fits at hf;simp only[jaU,ja1] at hf;exact hf.1
 by_cases hm:(31==t.mask&&t.dummies.isEmpty)=true
 .rw[jae hm];dsimp only;simp only[jaU,ja1,Array.isEmpty_iff] at hm;exact fin es _ .rfl Z8 hm.1.symm hm.2 rfl rfl
 .rw[jad hm];dsimp only;refine jaa ?_;obtain⟨t',order,el,po,p1,p2,p3,p4,p5⟩:=HN (fi:=0) (mo:=1) (led:=!w.params.followText "set-order") (plain:=false) (hs:=es.map (·.1)) (by rw[jch];omega);show wpAny _ _ (G6 es (SetTable.laid 31 0 1 (!w.params.followText "set-order") false (es.map (·.1)))) _ _ _;rw[jch] at po p1;refine yt el po λes' p=>?_;have sz:es'.size=es.size:=by have:=p.length_eq;rw[jaq,jaq] at this;exact this
  exact fin es' t' p (by omega) p2 p3 p4 p5
end
end PySem
namespace PySem
open L2
section
variable {prog:Program}{w:World}{A:Around}{E:jcP}{s:Shared}
theorem OH {a:Addr}{o:Obj}{es:Array (Int×Value)}{ep:Nat}{t:SetTable}{x:Str}{k:Tok}{Q:Option Nat->Shared->Prop}(ho:s.heap.get? a=some o)(hd:o.data=.set es ep t)(hf:t.fits es.size=true)(hel:ElemsOf (aJ prog w) es.toList)(hb:es.size<scanBound)
  (h:Q (List.findIdx? (λe=>(aJ prog w).is (Sum.inr x) e.2) es.toList) s):wpAny (model prog w) A (setFind a (.str x k) ((aJ prog w).hash (Sum.inr x))) Q E s:=by
 have hsc:(Value.str x k).scannable=true:=rfl;have hkey:=c6 prog w x k;unfold setFind setFindIn;refine jaa (jaB ho hd hf ?_);dsimp only;rw[byScan_of hsc hb hel];simp only[↓reduceIte];refine jaa (jbs ?_);refine jaa (wpAny_setScan_of hkey ho hd hf hel ?_);cases hr:List.findIdx? (λe=>(aJ prog w).is (Sum.inr x) e.2) es.toList with
 |some j=>
  dsimp only;rw[hr] at h;exact jac (by rw[jbi];exact h)
 |none=>
  dsimp only;rw[hr] at h;exact jac h
theorem uZ {l:List (Int×Value)}{zs:jcR}(h:pQ prog w l zs):ElemsOf (aJ prog w) l:=λe he=>by
 obtain⟨z,k,rfl⟩:=h.2 e he;exact⟨⟨_,c6 prog w z k,M⟩,M⟩
structure EnW (prog:Program)(w:World)(h:Heap)(r:Addr)(zs:List Str):Prop where
 e:∃o es ep t,h.get? r=some o/\o.ExactSet/\o.data=.set es ep t/\pQ prog w es.toList zs/\t.fits es.size=true/\t.mask=31/\t.dummies.size<=1/\t.led=(!w.params.followText "set-order")/\t.plain=false
theorem EnW.Ve {h:Heap}{r:Addr}{zs:jcR}(H:EnW prog w h r zs)(hn:zs.Nodup)(hl:zs.length<64):∃ys,bI prog w h r ys/\List.Perm ys zs:=by
 obtain⟨o,es,ep,t,ho,hex,hd,he,hf,_,_,gm,hpl⟩:=H.e;refine⟨es.toList.map (λe=>strOf e.2),⟨o,es,ep,t,ho,hex,hd,uZ he,λe hm=>?_,M,(he.1.nodup_iff).mpr hn,?_,hf,gm,.inl hpl⟩,he.1⟩
 .obtain⟨z,k,rfl⟩:=he.2 e hm;exact⟨z,k,M⟩
 .have:=he.1.length_eq;rw[jab,jaq] at this;unfold scanBound;omega
theorem Yi.enW {h:Heap}{r:Addr}{zs:jcR}(H:Yi prog w h r zs)(h8:zs.length<=8):EnW prog w h r zs:=by
 obtain⟨o,es,ep,t,ho,hex,hd,he,hst,hp,hm,PY,gm,hpl⟩:=H.e;refine⟨o,es,ep,t,ho,hex,hd,he,?_,hm,by rw[PY];decide,gm,hpl⟩;have:=he.1.length_eq;rw[jab,jaq] at this;unfold SetTable.fits SetTable.fill;rw[PY,hp,hm];simp;omega
theorem oK {α:Type}(xs:Array α)(p:Nat):(SetTable.eraseAt xs p).toList=xs.toList.take p++xs.toList.drop (p+1):=by
 simp[SetTable.eraseAt,List.extract_eq_take_drop,jcC]
theorem Ly {t:SetTable}{n i:Nat}(hp:t.place.size=n)(hm:t.mask=31)(hd:t.dummies=#[])(hi:i<n)(hn:n<=8):(t.drop i).fits (n - 1)=true/\(t.drop i).mask=31/\(t.drop i).dummies.size<=1/\(t.drop i).led=t.led/\(t.drop i).plain=t.plain:=by
 obtain⟨j,hj⟩:∃j,t.place[i]?=some j:=⟨t.place[i]'(by omega),jb3 _⟩
 have e:t.drop i={t with place:=SetTable.eraseAt t.place i,dummies:=SetTable.insertAt t.dummies (SetTable.below t.dummies j) j }:=by
  unfold SetTable.drop;rw[hj]
 rw[e];have l1:(SetTable.eraseAt t.place i).size=n - 1:=by
  rw[<- jaq,oK,jaf,jby,jbP,jaq,hp];omega
 have l2:(SetTable.insertAt t.dummies (SetTable.below t.dummies j) j).size=1:=by
  rw[<- jaq,(SetTable.insertAt_perm _ _ _).length_eq,hd];rfl
 refine⟨?_,hm,by show(SetTable.insertAt t.dummies (SetTable.below t.dummies j) j).size<=1;omega,M,M⟩;show((SetTable.eraseAt t.place i).size==n - 1&&decide ((SetTable.eraseAt t.place i).size+(SetTable.insertAt t.dummies (SetTable.below t.dummies j) j).size<=t.mask))=true;rw[l1,l2,hm];simp;omega
theorem OV {r:Addr}{zs:jcR}{z:Str}{k:Tok}{Q:Bool->Shared->Prop}(hC:Yi prog w s.heap r zs)(hnd:zs.Nodup)(h8:zs.length<=8)
  (h:∀b h' ys,Heap.SameBut r s.heap h'->EnW prog w h' r ys->ys.Nodup->(∀x,x∈ys↔x∈zs/\x≠z)->ys.length<=8->Q b {s with heap:=h' }) :
  wpAny (model prog w) A (setDiscardHashed r (.str z k) ((aJ prog w).hash (Sum.inr z))) Q E s:=by
 have hE:=hC.enW h8;obtain⟨o,es,ep,t,ho,hex,hd,he,hst,hp,hm,PY,gm,hpl⟩:=hC.e;have hf:t.fits es.size=true:=by
  have:=he.1.length_eq;rw[jab,jaq] at this;unfold SetTable.fits SetTable.fill;rw[PY,hp,hm];simp;omega
 have hl:=he.1.length_eq;rw[jab,jaq] at hl;unfold setDiscardHashed;refine jaa (OH ho hd hf (uZ he) (by unfold scanBound;omega) ?_);have Ui:∀e∈es.toList,(aJ prog w).is (Sum.inr z) e.2=decide (strOf e.2=z):=λe hm'=>by
  obtain⟨z',k',e2⟩:=hst e hm';rw[e2,yU];rfl
 cases hr:List.findIdx? (λe=>(aJ prog w).is (Sum.inr z) e.2) es.toList with
 |none=>
  dsimp only;refine jac (h false s.heap zs (jcb _ _) hE hnd (λx=>⟨λq=>⟨q,λe=>?_⟩,λq=>q.1⟩) h8);subst e;obtain⟨e,hm',es'⟩:=jas.mp (he.1.mem_iff.mpr q);have:=List.findIdx?_eq_none_iff.mp hr e hm';rw[Ui e hm',jaF es'] at this;cases this
 |some i=>
  dsimp only;obtain⟨hj,X0,_⟩:=jcK.mp hr;rw[Ui _ (jce hj)] at X0;have hz:=jbc X0;refine jaa (jaB ho hd hf ?_);dsimp only;have hi8:i<es.size:=by rw[jaq] at hj;exact hj
  obtain⟨f1,f2,f3,f4,f5⟩:=Ly hp hm PY hi8 (by omega);have le:=oK es i;have sz:(SetTable.eraseAt es i).size=es.size - 1:=by
   rw[<- jaq,le,jaf,jby,jbP,jaq];omega
  refine jaa (jbJ ho hd (jaa (wpAny_point (jac ?_))) (by rw[sz,ja7];omega));have sH:=qj (es':=SetTable.eraseAt es i) (t':=t.drop i) ho hd;have sub:List.Sublist (SetTable.eraseAt es i).toList es.toList:=by
   rw[le]
   conv=>rhs;rw[<- List.take_append_drop i es.toList]
   exact(List.Sublist.refl _).append (List.drop_sublist_drop_left _ (by omega))
  have cut:es.toList=es.toList.take i++es.toList[i]::es.toList.drop (i+1):=by
   rw[<- jcj,List.take_append_drop]
  have nd0:(es.toList.map λe=>strOf e.2).Nodup:=he.1.nodup_iff.mpr hnd;refine h true _ ((SetTable.eraseAt es i).toList.map λe=>strOf e.2) (jbg _ _ _) ⟨_,_,_,_,sH,hex,M,⟨.rfl,λe hm'=>he.2 e (sub.mem hm')⟩,by rw[sz];exact f1,f2,f3,f4.trans gm,f5.trans hpl⟩ (nd0.sublist (sub.map _)) (λx=>?_) (by rw[jab,jaq];omega);rw[<- he.1.mem_iff,le];rw[cut,jam,jax,hz] at nd0
  conv=>rhs;rw[cut]
  rw[jam,jam,jax,hz];have n1:=List.perm_middle.nodup_iff.mp nd0;obtain⟨nz,_⟩:=jbq.mp n1;constructor
  .intro q;refine⟨?_,λe=>nz (e ▸ q)⟩;rcases jau.mp q with q | q
   .exact jaP _ q
   .exact jaW _ (jav _ q)
  .rintro⟨q,ne⟩;rcases jau.mp q with q | q
   .exact jaP _ q
   .rcases jag.mp q with q | q
    .exact absurd q ne
    .exact jaW _ q
theorem LC {id:String}{a o:Addr}{zs zo:jcR}{Q:jcP}(hS:bI prog w s.heap a zs)(hO:bI prog w s.heap o zo)(h8:zs.length=8)(h1:zo.length=1)
  (h:∀h' d ys,(∀b ob,s.heap.get? b=some ob->h'.get? b=some ob)->bI prog w h' s.heap.objs.size ys->(∀x,x∈ys↔x∈zs/\x∉zo)->ys.length<64->Q (.ref s.heap.objs.size) {s with heap:=h',drawn:=d }) :
  wpAny (model prog w) A (Builtin.Frozenset.difference id a (.ref o)) Q E s:=by
 have hnd:zs.Nodup:=let⟨_,_,_,_,_,_,_,_,_,_,n,_⟩:=hS;n;obtain⟨z,rfl⟩:∃z,zo=[z]:=by match zo,h1 with | [z],_=>exact⟨z,M⟩
 have lo:o<s.heap.objs.size:=let⟨_,_,_,_,e,_⟩:=hO;jak e;unfold Builtin.Frozenset.difference;refine jaa (jE hO ?_);simp only[jbB,jaM,jaH,jbZ];refine jaa (jac ?_);refine jaa (size_set hO ?_);refine jaa (size_set hS ?_);rw[jae (by rw[h8];show 8 / 4 > 1;decide)];refine jaa (jbs ?_);refine jaa (FY hS h8 λh2 ZT hC=>?_);refine jaa (jac ?_);refine jaa (jbh ?_);unfold Builtin.Frozenset.differenceUpdate;have Sh:bI prog w h2 o [z]:=hO.at (ZT o);have nro:((Value.ref o) ==.ref s.heap.objs.size)=false:=by
  refine jbv.mpr λe=>?_;injection e with e
  exact absurd e (jap lo)
 rw[nro];simp only[jaM,jaH];refine jaa (jE (s:={s with heap:=h2 }) Sh ?_);simp only[ja4];have hEn:=hC.enW (by omega);obtain⟨ys0,X8,p0⟩:=hEn.Ve hnd (by omega);refine jaa (jac ?_);refine jaa (size_set (s:={s with heap:=h2 }) Sh ?_);refine jaa (size_set (s:={s with heap:=h2 }) X8 ?_);rw[jad (by show ¬ 1 / 8 > ys0.length;simp)];obtain⟨oo,eo,epo,to,Uk,a28,hdo,hfo,a0f,a2T,hno,a0i,a2O⟩:=lW Sh;have W3:eo.size=1:=hno;unfold setEpoch;refine jaa (jaa (jaB (s:={s with heap:=h2 }) Uk hdo hfo (jac ?_)));refine jaa (jbh (jaa ?_));unfold setWalkUnseen;refine jaa (jaB (s:={s with heap:=h2 }) Uk hdo hfo ?_);dsimp only;unfold setsByText;refine jaa (jaa (jbe (jac ?_)));rw[jae (by simp[W3])];refine xQ (s:={s with heap:=h2 }) Sh λes' d q8=>?_;have l1:es'.toList.length=1:=by have:=q8.1.length_eq;rw[jab] at this;exact this
 refine jaa (wpAny_forIn_array' _ (λl _ s'=>(l=es'.toList/\s'={s with heap:=h2,drawn:=d })\/(l=[]/\∃h3 ys,s'={s with heap:=h3,drawn:=d }/\Heap.SameBut s.heap.objs.size h2 h3/\EnW prog w h3 s.heap.objs.size ys/\ys.Nodup/\(∀x,x∈ys↔x∈zs/\x≠z)/\ys.length<=8)) _ ?_ ?_ _ _ (.inl ⟨M,M⟩))
 .rintro e rest b s' (⟨el,rfl⟩ | ⟨el,_⟩)
  .rw[<- el,jaj] at l1;obtain rfl:rest=[]:=jcM (by omega);obtain⟨z',k,rfl⟩:=q8.2 e (by rw[<- el];exact jar ..);obtain rfl:z'=z:=by
    have:=q8.1.mem_iff (a:=z');rw[<- el] at this;exact jai.mp (this.mp (jar ..))
   refine jaa (jbh (OV (s:={s with heap:=h2,drawn:=d }) hC hnd (by omega) λbb h3 ys sb hE hn hm hl=>?_));refine jaa ?_;unfold Builtin.Frozenset.unchanged setEpoch;refine jaa (jaa (jaB (s:={s with heap:=h3,drawn:=d }) ((sb.2 o (jap lo)).trans Uk) hdo hfo (jac ?_)));rw[jad (by simp)];exact jac (jac (.inr ⟨M,h3,ys,M,sb,hE,hn,hm,hl⟩))
  .cases el
 .rintro b s' (⟨el,_⟩ | ⟨_,h3,ys,rfl,sb,hE,hn,hm,hl⟩)
  .rw[<- el] at l1;cases l1
  .refine jac ?_;unfold setTidy;obtain⟨o4,e4,ep4,t4,g1,g2,g3,g4,g5,g6,g7,g8,g9⟩:=hE.e;refine jaa (jaB (s:={s with heap:=h3,drawn:=d }) g1 g3 g5 ?_);dsimp only;rw[jad (by unfold SetTable.tooManyDummies;rw[g6];simp;omega)];refine jac (jac ?_);obtain⟨ys',hY,py⟩:=hE.Ve hn (by omega);refine h h3 d ys' (λb ob e=>(sb.2 b (jap (jak e))).trans (ZT b ob e)) hY (λx=>?_) (by rw[py.length_eq];omega);rw[py.mem_iff,hm x,jai]
end
end PySem
namespace L2
open PySem PySem.Spec PyProof.Rows Hw
section
variable {X:Cx}
def Y4 (P:Program)(w:World):R2:=λx y H Q=>∃(p o:Addr)(ss so ds:jcR),x=.ref p/\y=.ref o/\H p=some (oR P w p ss)/\H o=some (oR P w o so)/\ds.length<=8/\(∀x∈ss,x∈ds)/\so≠[]/\
 ∀(q:Addr)(ws:jcR),H q=none->(∀x,x∈ws↔x∈ss/\x∉so)->Q (.ref q) (upd H q (oR P w q ws))
theorem Rw:n5 X (binaryOp .Sub) (Y4 X.prog X.w):=by
 intro vy s U H x y v u Q I rx ry h;obtain⟨p,o,ss,so,ds,rfl,rfl,hp,ho,hd,hin,hne,q⟩:=h;cases rx;cases ry;obtain⟨⟨zs,hS,hm,h64⟩,_,_⟩:=I.hok p _ hp;obtain⟨⟨zo,hO,hmo,a3m⟩,_,_⟩:=I.hok o _ ho;have hnd:zs.Nodup:=let⟨_,_,_,_,_,_,_,_,_,_,n,_⟩:=hS;n;have hz8:=tH hnd λx hx=>hin x ((hm x).mp hx);have hz1:1<=zo.length:=by
  cases so with
  |nil=>exact absurd rfl hne
  |cons a r=>exact List.length_pos_of_mem ((hmo a).mpr (jar ..))
 refine wpAny_binaryOp_same (op:=.Sub) (T:="set") hS.typeIs hO.typeIs F.fills_set_sub F.slot_set_sub (jbd F.slot_set_sub hS.typeIs pG ?_ (F.args_set_sub_2 _ _));show wpAny _ _ (Builtin.Frozenset.slot1 "__sub__" ⟨[.ref p,.ref o],[]⟩ >>=_) _ _ _;refine jaa (jac ?_);dsimp only;simp only[jaM,jaH];refine jaa (jaa (jE hS ?_));refine jE hO ?_;simp only[jbB,jaM,jaH];refine jaa (jac (jaa ?_));have go:∀(h':Heap) d (ys:jcR),(∀b ob,s.heap.get? b=some ob->h'.get? b=some ob)->bI X.prog X.w h' s.heap.objs.size ys->(∀x,x∈ys↔x∈zs/\x∉zo)->ys.length<64->_:=λh' d ys kp hY Oi hl=>by
  have L:=I.Bm (h':=h') (a:=s.heap.objs.size) (o:=oR X.prog X.w s.heap.objs.size ys) (t':=s.toks) (λb u e=>kp b u e) (λb u e=>jap (jak e))
   ⟨⟨ys,hY,λ_=>Iff.rfl,hl⟩,let⟨o,_,_,_,ho,_⟩:=hY;⟨o,ho⟩,λh1 h2 ⟨zs,x,y⟩ k=>⟨zs,x.at k,y⟩⟩
  exact(⟨_,L.2.drew d,q _ ys L.1 λx=>by rw[Oi x,hm x,hmo x]⟩:∃H',Inv X vy U H' {s with heap:=h',drawn:=d }/\Q (.ref s.heap.objs.size) H')
 by_cases h4:zs.length / 4<=zo.length
 .refine By hS hO h4 h64 λh' d ys kp hY Oi hl=>?_;obtain⟨H',I',q'⟩:=go h' d ys kp hY Oi hl;exact jac ⟨_,M,(λz=>by cases z),.ref s.heap.objs.size,_,I',M,q'⟩
 .refine LC hS hO (by omega) (by omega) λh' d ys kp hY Oi hl=>?_;obtain⟨H',I',q'⟩:=go h' d ys kp hY Oi hl;exact jac ⟨_,M,(λz=>by cases z),.ref s.heap.objs.size,_,I',M,q'⟩
end
end L2
namespace PySem
open Sem (wp)
section
variable {prog:Program}{w:World}{A:Around}{E:jcP}{s:Shared}
theorem RE {j t:Addr}{i:Nat}{AC:Array Value}{x:Value}{Q:jcP}(hj:s.heap.IsTupleIter j t i)(ht:s.heap.IsTuple t AC)(hx:AC[i]?=some x)
  (hQ:∀h',h'.IsTupleIter j t (i+1)->Heap.SameBut j s.heap h'->Q x {s with heap:=h' }):wpAny (model prog w) A (Builtin.SmallTypes.nextOf (.ref j)) Q E s:=by
 obtain⟨oj,ej,cj,dj⟩:=id hj;obtain⟨ot,et,_,nt,dt⟩:=ht;unfold Builtin.SmallTypes.nextOf;refine jaa (jbE (name:=Str.ofString "__next__") hj.typeIs jcy (jbd jcy hj.typeIs F.entry_tuple_iterator_next ?_ (F.args_tuple_iterator_next_1 _)));show wpAny _ _ (field (Value.ref j) 0 >>=_) _ _ s;refine jaa (ja9 ej dj (x:=.ref t) rfl ?_);show wpAny _ _ (if(Value.ref t==Value.none)=true then _ else _) _ _ _;rw[jad (by intro z;cases z)];show wpAny _ _ (field (Value.ref j) 1 >>=_) _ _ s;refine jaa (ja9 ej dj (x:=.int i 0) rfl ?_);show wpAny _ _ (seqItems? (Value.ref t) >>=_) _ _ s;refine jaa (jbL et dt ?_);simp only[hx,jbW];refine jaa (jbR ej dj (by simp) (jac ⟨x,M,jac (hQ _ ⟨_,jbo _ ej (jco (jbl dj _)),(Obj.cls_mapFields ..).trans cj,?_⟩ (jbg ..))⟩));rw[jbl dj];simp[rawInt]
theorem Fi {j t:Addr}{i:Nat}{AC:Array Value}{Q:jcP}(hh:A.handled=none)(hj:s.heap.IsTupleIter j t i)(ht:s.heap.IsTuple t AC)(hx:AC[i]?=none)
  (hE:∀h' e,Heap.ExtBut j s.heap h'->(∃o,h'.get? e=some o/\o.cls=.type "StopIteration")->E (.ref e) {s with heap:=h' }):wpAny (model prog w) A (Builtin.SmallTypes.nextOf (.ref j)) Q E s:=by
 obtain⟨oj,ej,cj,dj⟩:=id hj;obtain⟨ot,et,_,nt,dt⟩:=ht;unfold Builtin.SmallTypes.nextOf;refine jaa (jbE (name:=Str.ofString "__next__") hj.typeIs jcy (jbd jcy hj.typeIs F.entry_tuple_iterator_next ?_ (F.args_tuple_iterator_next_1 _)));show wpAny _ _ (field (Value.ref j) 0 >>=_) _ _ s;refine jaa (ja9 ej dj (x:=.ref t) rfl ?_);show wpAny _ _ (if(Value.ref t==Value.none)=true then _ else _) _ _ _;rw[jad (by intro z;cases z)];show wpAny _ _ (field (Value.ref j) 1 >>=_) _ _ s;refine jaa (ja9 ej dj (x:=.int i 0) rfl ?_);show wpAny _ _ (seqItems? (Value.ref t) >>=_) _ _ s;refine jaa (jbL et dt ?_);simp only[hx,jbW];refine jaa (jbs (jaa (jbR ej dj (by simp) ?_)));show wpAny _ _ (newExc (Value.type "StopIteration") [] >>=_) _ _ _;refine jaa ?_;simp only[newExc,newTuple];refine jaa (jba ?_ (by size_fits));refine jaa (m:=firstArgMember _ _) (wpAny_of_eq (a:=Value.none) (by first | rfl | (simp only[firstArgMember]<;>rfl)) ?_);refine jba ?_ (by size_fits);simp only[raiseNew];refine jaa (wpAny_handled ?_)
 first
  |rw[show A.in1.handled=none from hh]
  |rw[hh]
 refine jaa (jac (wpAny_throw (hE _ _ (((jbg ..).extBut.push _).push _) ⟨_,jaz _ M,M⟩)))
theorem xC {B:Around}(hh:B.handled=none)(j t:Addr)(hne:t≠j)(AC:Array Value) :
  Draws prog w B j [j,t] AC.size (λi v=>AC[i]?=some v) (λi h=>h.IsTupleIter j t i/\h.IsTuple t AC) where
 live:=λ_ _ st=>let⟨o,ho,_⟩:=st.1;⟨o,ho⟩
 frame:=λ_ _ _ st hk=>⟨let⟨o,ho,r⟩:=st.1;⟨o,hk j (by simp) o ho,r⟩,let⟨o,ho,r⟩:=st.2;⟨o,hk t (by simp) o ho,r⟩⟩
 item:=λi s Q E hi st hQ=>RE st.1 st.2 (x:=AC[i]) (by simp[hi]) λh' a b=>hQ _ h' s.toks (by simp[hi]) ⟨a,st.2.extBut b.extBut hne⟩ b
 done:=λs Q E st hE=>Fi hh st.1 st.2 (by simp) hE
set_option maxHeartbeats 4000000 in
theorem OP (t:Addr)(AC:Array Value)(n:Nat)(dd:jcV)(sl:jcQ) :
  Meets (Builtin.«enumerate.__new__» ⟨[.type "enumerate",.ref t],[]⟩) (λ_ R s=>s.heap.get? t=some {cls:=.type "tuple",dict:=dd,data:=.seq AC n,slots:=sl }/\
   R (.ok (.ret (.ref (s.heap.push {cls:=.type "tuple_iterator",data:=.fields #[.ref t,.int 0 0] }).objs.size)))
    {s with heap:=(s.heap.push {cls:=.type "tuple_iterator",data:=.fields #[.ref t,.int 0 0] }).push {cls:=.type "enumerate",data:=.fields #[.none,.bool false,.ref s.heap.objs.size,rawInt 0,.none,.none] } }):=
 .of_wp λprog w A R s h=>by
  obtain⟨hp,g,d,tk,os⟩:=s;obtain⟨hl,h⟩:=h;have hsub:=sub_enumerate;have hT:Heap.IsTuple (Shared.heap ⟨hp,g,d,tk,os⟩) t AC:=⟨_,hl,M,n,M⟩
  wp_walk using AutoSeq1.wpAny_loadPart' hl
  refine wpAny_stack_any λst=>jac ?_;split
  .rename_i c _ _ _ _ _;cases(c==Value.type "enumerate")<;>(wp_walk using AutoSeq1.wpAny_loadPart' hl,jb9 hT;exact⟨_,M,h⟩)
  .wp_walk using AutoSeq1.wpAny_loadPart' hl,jb9 hT
   exact⟨_,M,h⟩
theorem LK {t:Addr}{AC:Array Value}{Q:jcP}(hT:s.heap.IsTuple t AC)
  (h:∀h',IsEnum h' (s.heap.objs.size+1) s.heap.objs.size 0 .none->h'.IsTupleIter s.heap.objs.size t 0->h'.objs.size=s.heap.objs.size+2->(∀b o,s.heap.get? b=some o->h'.get? b=some o)->Q (.ref (s.heap.objs.size+1)) {s with heap:=h' }) :
  wpAny (model prog w) A (call (.type "enumerate") [.ref t]) Q E s:=by
 obtain⟨⟨c,dd,dt,sl⟩,hl,hc,n,hd⟩:=hT
 replace hc:c=.type "tuple":=hc
 replace hd:dt=.seq AC n:=hd
 subst hc hd;refine callType_new F.called_enumerate (by decide) (F.typeCall_enumerate_1 _) (F.newCall_enumerate_1 _) (λobj=>F.args_object_init_2 obj _) F.entry_enumerate_new (OP t AC n dd sl) ⟨hl,?_⟩;have hz:(s.heap.push {cls:=.type "tuple_iterator",data:=.fields #[.ref t,.int 0 0] }).objs.size=s.heap.objs.size+1:=ja0 ..;show _/\_;rw[hz];have he:IsEnum ((s.heap.push {cls:=.type "tuple_iterator",data:=.fields #[.ref t,.int 0 0] }).push {cls:=.type "enumerate",data:=.fields #[.none,.bool false,.ref s.heap.objs.size,rawInt 0,.none,.none] }) (s.heap.objs.size+1) s.heap.objs.size 0 .none:=by
  have q:=jaz (s.heap.push {cls:=.type "tuple_iterator",data:=.fields #[.ref t,.int 0 0] }) (o:={cls:=.type "enumerate",data:=.fields #[.none,.bool false,.ref s.heap.objs.size,rawInt 0,.none,.none] }) rfl;rw[hz] at q;exact q
 exact⟨⟨_,he,M⟩,h _ he ⟨_,jan _ (jaz _ M),M,M⟩ (by rw[ja0,hz]) λb o x=>jan _ (jan _ x)⟩
end
end PySem
namespace L2
open PySem PySem.Spec PyProof.Rows Hw
section
variable {X:Cx}
theorem Inv.Qi {vy:jcO}{U:St}{H:Hp}{s:Shared}{h':Heap}{t':Nat}{a b:Addr}(I:Inv X vy U H s)(k:∀c o,c≠a->c≠b->s.heap.get? c=some o->h'.get? c=some o)(fa:l7 X vy H a)(fb:l7 X vy H b):Inv X vy U H {s with heap:=h',toks:=t' }:=by
 have na:∀c u,H c=some u->c≠a:=λc u e z=>by rw[z,fa.1] at e;cases e
 have nb:∀c u,H c=some u->c≠b:=λc u e z=>by rw[z,fb.1] at e;cases e
 have k2:∀c o,c∉[a,b]->s.heap.get? c=some o->h'.get? c=some o:=λc o hc e=>k c o (λz=>hc (by simp[z])) (λz=>hc (by simp[z])) e;refine I.step (g':=s.gens) (d':=s.drawn) (ch:=[a,b]) (λc hc=>?_) (λc o _ _ hc e _=>k2 c o hc e) (λc o _ _ hc e _=>⟨o.slots,k2 c o hc e⟩) (λ_ _ _ _ n=>n)
  (λc o hc e=>⟨o,k2 c o hc e⟩) (λ_ _ e=>e) (λ_ _ _ e=>e) (λc ps e=>⟨#[],by rw[e];simp⟩) (λm hm=>?_) (λc u e=>?_) I.bare
 .obtain⟨_,a1,_,a3,a4,a5⟩:=fa;obtain⟨_,b1,_,b3,b4,b5⟩:=fb;have e:c=a\/c=b:=by simpa using hc
  rcases e with e | e<;>subst e
  .exact⟨a3,a1,a4,a5⟩
  .exact⟨b3,b1,b4,b5⟩
 .obtain⟨o,es,ep,ho,r⟩:=hm;exact⟨o,es,ep,k _ o (jaO fa.2.1) (jaO fb.2.1) ho,r⟩
 .refine(I.hok c u e).stay (λd v hd q=>k d v ?_ ?_ q) (λ_ q=>q) λ_ _ q=>q
  .rcases hd with z | z
   .rw[z];exact na c u e
   .exact na d _ z
  .rcases hd with z | z
   .rw[z];exact nb c u e
   .exact nb d _ z
end
def Yd (K:Frag)(k:Bool)(H:Hp)(a:Addr)(xs:List V):Prop:=if k then mJ K H a xs else ko K H a xs
noncomputable def Ien (K:Frag)(k:Bool)(a:Addr):It:=
 ⟨λi H=>∃xs x,Yd K k H a xs/\xs[i]?=some x,λi H x H'=>∃t y,H t=none/\x=.ref t/\(∀xs,Yd K k H a xs->xs[i]?=some y)/\H'=upd H t (.tup [.int i,y]),λi H=>∃xs,Yd K k H a xs/\xs.length<=i⟩
theorem Qx {X:Cx}{vy:jcO}{U:St}{H:Hp}{s:Shared}{k:Bool}{a:Addr}{xs ys:List V}(I:Inv X vy U H s)(h:Yd X.K k H a xs)(g:Yd X.K k H a ys):xs=ys:=by
 cases k
 .exact I.qk h g
 .exact I.FE h g
def Yg (k:Bool)(j a:Addr)(i:Nat)(h:Heap):Prop:=if k then h.IsListIter j a i else h.IsTupleIter j a i
theorem JW {k:Bool}{j a:Addr}{i:Nat}{h:Heap}(st:Yg k j a i h):∃o,h.get? j=some o/\∀v,o.data≠.cell v:=by
 cases k
 .obtain⟨o,e,c,d⟩:=(show h.IsTupleIter j a i from st)
  exact⟨o,e,λv z=>by rw[d] at z;cases z⟩
 .obtain⟨o,e,c,d⟩:=(show h.IsListIter j a i from st)
  exact⟨o,e,λv z=>by rw[d] at z;cases z⟩
theorem FJ {k:Bool}{j a:Addr}{i:Nat}{h h':Heap}(st:Yg k j a i h)(e:∀o,h.get? j=some o->h'.get? j=some o):Yg k j a i h':=by
 cases k
 .obtain⟨o,q,r⟩:=(show h.IsTupleIter j a i from st)
  exact⟨o,e o q,r⟩
 .obtain⟨o,q,r⟩:=(show h.IsListIter j a i from st)
  exact⟨o,e o q,r⟩
theorem Og {X:Cx}{vy:jcO}{U:St}{H:Hp}{s:Shared}{k:Bool}{j a:Addr}{xs:List V}(hc:X.calm=true)(I:Inv X vy U H s)(hq:Yd X.K k H a xs)(nja:a≠j) :
  ∃AC:jcS,Vals xs AC/\∃St:Nat->Heap->Prop,Draws X.prog X.w X.A.in1 j [j,a] AC.length (λi v=>AC[i]?=some v) St/\(∀i,Yg k j a i s.heap->St i s.heap)/\∀i h,St i h->Yg k j a i h:=by
 have hh:X.A.in1.handled=none:=I.ok.hd hc;cases k
 .obtain⟨AC,rv,p,_⟩:=I.tuple (show ko X.K H a xs from hq);have D:=xC (prog:=X.prog) (w:=X.w) (B:=X.A.in1) hh j a nja AC.toArray;refine⟨AC,rv,λi h=>h.IsTupleIter j a i/\h.IsTuple a AC.toArray,?_,λi st=>⟨st,p⟩,λi h st=>st.1⟩;simpa using D
 .obtain⟨AC,rv,p,_⟩:=I.list (show mJ X.K H a xs from hq);have D:=Draws.list (prog:=X.prog) (w:=X.w) (A:=X.A.in1) hh j a nja AC.toArray;refine⟨AC,rv,λi h=>h.IsListIter j a i/\h.IsList a AC.toArray,?_,λi st=>⟨st,p.isList⟩,λi h st=>st.1⟩;simpa using D
theorem A3 {P:Program}{w:World}{K:Frag}{elts:jcU}{x1:Nat}{pos:Pos}(k:Bool)(a e j:Addr)(nej:e≠j)(nae:a≠e)(naj:a≠j) :
  Turn P w K (.Tuple elts x1 pos) (Ien K k a) [e,j] e (λi h=>(∃old,IsEnum h e j i old)/\Yg k j a i h) where
 mem:=by simp
 obj:=λi h st b hb=>by
  obtain⟨⟨old,he⟩,hi⟩:=st;have q:b=e\/b=j:=by simpa using hb
  rcases q with q | q<;>subst q
  .exact⟨_,he,λv z=>by
    have z':Data.fields _=Data.cell v:=z;cases z'⟩
  .exact JW hi
 keep:=λi h h' st q=>⟨let⟨old,he⟩:=st.1;⟨old,q e (by simp) _ he⟩,FJ st.2 λo z=>q j (by simp) o z⟩
 item:=by
  intro X hP hw hK hc i vy s U H E I hf st hg;subst hP hw hK;obtain⟨⟨old,he⟩,hi⟩:=st;obtain⟨xs,x,hq,hx⟩:=hg;obtain⟨AC,rv,St,D,d1,d2⟩:=Og hc I hq naj;obtain⟨u,hu,ru⟩:=rv.get hx;have fe:=hf e (by simp);have fj:=hf j (by simp);have hlt:i<AC.length:=(jao.mp hu).1;have hel:e<s.heap.objs.size:=jak he;have hjl:j<s.heap.objs.size:=by obtain⟨o,z,_⟩:=JW hi;exact jak z
  refine wpAny_pyNext_enum_itemD D he (d1 i hi) hlt nej (by simp[nej,jaO nae]) λy h1 tk hP out st1 ht hsz hk=>?_;have hyu:y=u:=ja2 (hP.symm.trans hu);subst hyu;refine⟨_,M,?_⟩;refine wpAny_letOwnedTupleGo_enum out λh2 he2 sb=>?_;have hn:H s.heap.objs.size=none:=I.hok.fresh (jal _);have I1:Inv X vy U (upd H s.heap.objs.size (.tup [.int i,x])) {s with heap:=s.heap.push {cls:=.type "tuple",data:=.seq #[.int i tk,y] },toks:=tk+1 }:=
   I.laid (t':=tk+1) (o:=.tup [.int i,x]) (λb o q=>jan _ q) (jal _)
    ⟨by show 2<=sizeLine;rw[ja7];omega,[.int i tk,y],.cons ⟨_,M⟩ (.cons ru .nil),_,jaz _ M,M,_,M⟩
  have ne1:s.heap.objs.size≠e:=ja6 hel;have ne2:s.heap.objs.size≠j:=ja6 hjl;have up:∀{b:Addr},b≠s.heap.objs.size->l7 X vy H b->l7 X vy (upd H s.heap.objs.size (.tup [.int i,x])) b:=λnb f=>⟨by rw[aY nb];exact f.1,f.2⟩
  have I2:Inv X vy U (upd H s.heap.objs.size (.tup [.int i,x])) {s with heap:=h2,toks:=tk+1 }:=
   Inv.Qi (s:={s with heap:=s.heap.push {cls:=.type "tuple",data:=.seq #[.int i tk,y] },toks:=tk+1 }) (t':=tk+1) (h':=h2) (a:=e) (b:=j) I1 (λc o hce hcj q=>by
    refine sb.extBut c o hce ?_;rcases Heap.get?_push_cases (show(s.heap.push {cls:=.type "tuple",data:=.seq #[.int i tk,y] }).get? c=some o from q) with⟨e1,e2⟩ | e1
    .rw[e1,e2];exact ht
    .exact hk c o hce hcj e1) (up ne1.symm fe) (up ne2.symm fj)
  refine⟨.ref s.heap.objs.size,_,I2,M,⟨_,x,hn,M,λys hy=>by rw[Qx I hy hq];exact hx,M⟩,⟨⟨y,by simpa using he2⟩,FJ (d2 _ _ st1) λo z=>sb.extBut j o (jaO nej) z⟩,λb hb=>?_⟩;have q:b=e\/b=j:=by simpa using hb
  rcases q with q | q<;>subst q
  .exact(up ne1.symm fe).1
  .exact(up ne2.symm fj).1
 done:=by
  intro X hP hw hK hc i vy s U H E I hf st hg;subst hP hw hK;obtain⟨⟨old,he⟩,hi⟩:=st;obtain⟨xs,hq,hx⟩:=hg;obtain⟨f0,f1,f2,f3,f4,f5⟩:=hf j (by simp);have key:∀(AC:jcS),Vals xs AC->(AC.toArray)[i]?=none:=λAC rv=>by
   have:=rv.length;rw[List.getElem?_toArray];exact List.getElem?_eq_none_iff.mpr (by omega)
  have fin:∀h',Heap.ExtBut j s.heap h'->(none:jcW)=none/\Inv X vy U H {s with heap:=h' }:=λh' eb=>⟨M,I.turned (t':=s.toks) (λb o hb z=>eb b o hb z) f0 f1 f3 f4 f5⟩
  have hT:s.TypeIs (.ref e) "enumerate":=⟨_,he,M⟩
  unfold pyNext;refine jaa (jci (jbE (name:=Str.ofString "__next__") hT F.slot_enumerate_next (jbd F.slot_enumerate_next hT F.entry_enumerate_next ?_ (F.args_enumerate_next_1 _))));show wpAny _ _ (field (Value.ref e) 2 >>=_) _ _ _;refine jaa (ja9 he rfl (x:=.ref j) rfl ?_);have nx:∀{Q:jcP}{E':jcP},(∀h' z,Heap.ExtBut j s.heap h'->(∃o,h'.get? z=some o/\o.cls=.type "StopIteration")->E' (.ref z) {s with heap:=h' })->wpAny (model X.prog X.w) X.A.in1 (Builtin.SmallTypes.nextOf (.ref j)) Q E' s:=λhE=>by
   cases k
   .obtain⟨AC,rv,p,_⟩:=I.tuple (show ko X.K H a xs from hq);exact Fi (I.ok.hd hc) hi p (key AC rv) hE
   .obtain⟨AC,rv,p,_⟩:=I.list (show mJ X.K H a xs from hq);exact wpAny_nextOf_list_end (I.ok.hd hc) hi p.isList (key AC rv) hE
  refine jaa (nx λh' x he' hx'=>?_);obtain⟨o,ho,hcl⟩:=hx';refine jaa (jbz (T:="StopIteration") (b:=true) ⟨o,ho,hcl⟩ isSubtype_stop ?_);exact jac (fin _ he')
 self:=λ_ _ _ _ _ st h=>let⟨_,e⟩:=st.1;wpAny_pyIter_enum e h
section
variable {X:Cx}{l:Expr}{tl:TE}{p pos:Pos}
def Z1 (K:Frag)(tl:TA):TI:=λU H R=>tl U H λvs H1=>∃a,vs=[.ref a]/\(((∃xs,mJ K H1 a xs)/\R (Ien K true a) H1)\/((∃xs,ko K H1 a xs)/\R (Ien K false a) H1))
theorem Rm {elts:jcU}{x1:Nat}{tpos:Pos}{ta:TA}(hg:Gl X "enumerate")(hm:X.mg "enumerate"=none)(hv:bootBuiltins "enumerate"=some (.type "enumerate"))(ha:PA X [l] ta)(hs:autoParam (starEach [l] X.env=[(false,eval l X.env)]) zi):PI X (.Tuple elts x1 tpos) (.Call (.Name "enumerate" p) [l] [] pos) (Z1 X.K ta):=by
 intro vy s U H R I h;refine Call_ (uV I hg hm hv (jcx (ez (ha pos vy s U H _ I h) λus s1 ⟨vs,H1,I1,r1,q1⟩=>?_) hs M));obtain⟨a,rfl,q⟩:=q1;obtain⟨u,rfl,ru⟩:=vals1 r1;cases ru;have fp:∀b,s1.heap.objs.size<=b->l7 X vy H1 b:=λb hb=>I1.OF hb (I1.hok.fresh hb);have fps:∀b∈[s1.heap.objs.size+1,s1.heap.objs.size],l7 X vy H1 b:=λb hb=>by
  have z:b=s1.heap.objs.size+1\/b=s1.heap.objs.size:=by simpa using hb
  rcases z with z | z<;>subst z
  .exact fp _ (jb2 _)
  .exact fp _ (jal _)
 rcases q with⟨⟨xs,hq⟩,q⟩ | ⟨⟨xs,hq⟩,q⟩
 .obtain⟨AC,rv,pl,hz⟩:=I1.list hq;have hlt:a<s1.heap.objs.size:=by obtain⟨o,e,_⟩:=pl.isList;exact jak e
  refine call_enumerate_list pl.isList λh' e1 e2 e3 kp=>wpAny_pyIter_enum e1 ?_;exact⟨_,_,_,_,H1,M,I1.kept (t':=s1.toks) kp,A3 true a _ _ (Nat.succ_ne_self _) (jap (jbx hlt)) (jap hlt),⟨⟨_,e1⟩,e2⟩,fps,q⟩
 .obtain⟨AC,rv,pl,hz⟩:=I1.tuple hq;have hlt:a<s1.heap.objs.size:=by obtain⟨o,e,_⟩:=(show s1.heap.IsTuple a AC.toArray from pl);exact jak e
  refine LK (show s1.heap.IsTuple a AC.toArray from pl) λh' e1 e2 e3 kp=>wpAny_pyIter_enum e1 ?_;exact⟨_,_,_,_,H1,M,I1.kept (t':=s1.toks) kp,A3 false a _ _ (Nat.succ_ne_self _) (jap (jbx hlt)) (jap hlt),⟨⟨_,e1⟩,e2⟩,fps,q⟩
end
end L2
namespace PySem
open Sem (wp)
structure Zap (z ti tw i1 i2:Addr)(f1 f2:List Addr):Prop where
 a1:ti≠z
 a2:tw≠z
 a3:i1≠z
 a4:i2≠z
 a5:ti≠tw
 a6:ti≠i1
 a7:ti≠i2
 a8:tw≠i1
 a9:tw≠i2
 b1:i1≠i2
 c1:z∉f1
 c2:tw∉f1
 c3:i2∉f1
 d1:z∉f2
 d2:tw∉f2
 d3:i1∉f2
section
variable {prog:Program}{w:World}{A:Around}{E:jcP}{s:Shared}{z ti tw i1 i2:Addr}{f1 f2:jcT}{n1 n2 k:Nat}{P1 P2:Nat->Value->Prop}{S1 S2:Nat->Heap->Prop}{a b:Value}
theorem Draws.but {it c:Addr}{fp:jcT}{n i:Nat}{P:Nat->Value->Prop}{St:Nat->Heap->Prop}{h h':Heap}(D:Draws prog w A it fp n P St)(st:St i h)(nc:c∉fp)(sb:Heap.SameBut c h h'):St i h':=
 D.frame i h h' st λb hb o e=>(sb.2 b λq=>nc (q ▸ hb)).trans e
theorem P7 {Q:jcP}(D1:Draws prog w A i1 f1 n1 P1 S1)(D2:Draws prog w A i2 f2 n2 P2 S2)(G:Zap z ti tw i1 i2 f1 f2)(l1:k<n1)(l2:k<n2)
  (hz:IsZip s.heap z ti tw .none) (ht:IsPair s.heap ti (.ref i1) (.ref i2)) (ho:IsPair s.heap tw a b) (t1:S1 k s.heap) (t2:S2 k s.heap)
  (hQ:∀x y h' tk,P1 k x->P2 k y->IsZip h' z ti tw (rawInt s.heap.objs.size)->IsPair h' tw x y->S1 (k+1) h'->S2 (k+1) h'->IsPair h' s.heap.objs.size x y->
   (∀c o,c≠z->c≠tw->c≠i1->c≠i2->s.heap.get? c=some o->h'.get? c=some o)->Q (.ref s.heap.objs.size) {s with heap:=h',toks:=tk }) :
  wpAny (model prog w) A (Builtin.«zip.__next__» ⟨[.ref z],[]⟩) (λfin s'=>∃v,fin=.done (.ret v)/\Q v s') E s:=by
 show wpAny _ _ (field (.ref z) 2 >>=_) _ _ _;refine jaa (ja9 (x:=.bool false) hz rfl rfl ?_);show wpAny _ _ (field (.ref z) 3 >>=_) _ _ _;refine jaa (ja9 (x:=.ref ti) hz rfl rfl (jaa (jbL ht rfl ?_)));show wpAny _ _ (Builtin.SmallTypes.ownedTupleIsFree (.ref z) >>=_) _ _ _;unfold Builtin.SmallTypes.ownedTupleIsFree;refine jaa (jaa (ja9 (x:=.none) hz rfl rfl (jac ?_)));simp only[ja4];refine jaa (jbs (jaa (ja9 (x:=.ref tw) hz rfl rfl ?_)));refine jaa (jct hz (by simp) λg1 z1 b1=>?_);have z1:IsZip g1 z ti tw .ellipsis:=z1;refine jaa ?_;simp only[List.zipIdx_cons,List.zipIdx_nil,List.forIn_cons,List.forIn_nil];refine jaa (jaa (wpAny_onRaise ?_));show wpAny _ _ (Builtin.SmallTypes.nextOf (.ref i1) >>=_) _ _ _;refine jaa (D1.item k {s with heap:=g1 } _ _ l1 (D1.but t1 G.c1 b1) λx g2 k2 px u1 b2=>jac ?_);have o2:IsPair g2 tw a b:=(b2.2 _ G.a8).trans ((b1.2 _ G.a2).trans ho);refine jaa (jbL o2 rfl (jaa (wpAny_updateSeq_pair o2 λg3 o3 b3=>?_)));have o3:IsPair g3 tw x b:=o3;refine jaa (wpAny_letGo (jac (jaa (jaa (wpAny_onRaise ?_)))));show wpAny _ _ (Builtin.SmallTypes.nextOf (.ref i2) >>=_) _ _ _;refine jaa (D2.item k {s with heap:=g3,toks:=k2 } _ _ l2 (D2.but (D2.but (D2.but t2 G.d1 b1) G.d3 b2) G.d2 b3) λy g4 k4 py u2 b4=>jac ?_);have o4:IsPair g4 tw x b:=(b4.2 _ G.a9).trans o3;refine jaa (jbL o4 rfl (jaa (wpAny_updateSeq_pair o4 λg5 o5 b5=>?_)));have o5:IsPair g5 tw x y:=o5;refine jaa (wpAny_letGo (jac (jac ?_)));refine jaa (jbL o5 rfl (jaa (wpAny_newTuple ?_)));have sz:g5.objs.size=s.heap.objs.size:=by rw[b5.1,b4.1,b3.1,b2.1,b1.1]
 have kp:∀c o,c≠z->c≠tw->c≠i1->c≠i2->s.heap.get? c=some o->g5.get? c=some o:=λc o n1 n2 n3 n4 e=>
  (b5.2 c n2).trans ((b4.2 c n4).trans ((b3.2 c n2).trans ((b2.2 c n3).trans ((b1.2 c n1).trans e))))
 have z5:IsZip g5 z ti tw .ellipsis:=(b5.2 _ G.a2.symm).trans ((b4.2 _ G.a4.symm).trans ((b3.2 _ G.a2.symm).trans ((b2.2 _ G.a3.symm).trans z1)));have lz:z<g5.objs.size:=jak z5;show wpAny _ _ (Builtin.SmallTypes.ownedTupleHandOut (.ref z) (.ref g5.objs.size) >>=_) _ _ _;unfold Builtin.SmallTypes.ownedTupleHandOut;have z6:IsZip (g5.push {cls:=.type "tuple",data:=.seq #[x,y] }) z ti tw .ellipsis:=jan _ z5;refine jaa (jaa (jct z6 (by simp) λg7 z7 b7=>?_));have z7:IsZip g7 z ti tw (rawInt g5.objs.size):=z7;refine jct z7 (by simp) λg8 z8 b8=>?_;have z8:IsZip g8 z ti tw (rawInt g5.objs.size):=z8;have up:∀c o,c≠z->g5.get? c=some o->g8.get? c=some o:=λc o n e=>(b8.2 c n).trans ((b7.2 c n).trans (jan _ e));have nw:IsPair g8 g5.objs.size x y:=(b8.2 _ (ja6 lz)).trans ((b7.2 _ (ja6 lz)).trans (jaz _ M));have f1':S1 (k+1) g8:=D1.frame _ _ _ (D1.but (D1.but (D1.but u1 G.c2 b3) G.c3 b4) G.c2 b5) λc hc o e=>up c o (λq=>G.c1 (q ▸ hc)) e;have f2':S2 (k+1) g8:=D2.frame _ _ _ (D2.but u2 G.d2 b5) λc hc o e=>up c o (λq=>G.d1 (q ▸ hc)) e;rw[sz] at z8 nw;refine jac ⟨_,M,?_⟩;show Q (.ref g5.objs.size) _;rw[sz];exact hQ x y g8 k4 px py z8 (up _ _ G.a2 o5) f1' f2' nw λc o m1 m2 m3 m4 e=>up c o m1 (kp c o m1 m2 m3 m4 e)
theorem UJ {Q:Fin->Shared->Prop}(D1:Draws prog w A i1 f1 n1 P1 S1)(G:Zap z ti tw i1 i2 f1 f2)
  (hz:IsZip s.heap z ti tw .none) (ht:IsPair s.heap ti (.ref i1) (.ref i2)) (t1:S1 n1 s.heap)
  (hE:∀h' e,(∀c o,c≠z->c≠tw->c≠i1->c≠i2->s.heap.get? c=some o->h'.get? c=some o)->(∃o,h'.get? e=some o/\o.cls=.type "StopIteration")->E (.ref e) {s with heap:=h' }) :
  wpAny (model prog w) A (Builtin.«zip.__next__» ⟨[.ref z],[]⟩) Q E s:=by
 show wpAny _ _ (field (.ref z) 2 >>=_) _ _ _;refine jaa (ja9 (x:=.bool false) hz rfl rfl ?_);show wpAny _ _ (field (.ref z) 3 >>=_) _ _ _;refine jaa (ja9 (x:=.ref ti) hz rfl rfl (jaa (jbL ht rfl ?_)));show wpAny _ _ (Builtin.SmallTypes.ownedTupleIsFree (.ref z) >>=_) _ _ _;unfold Builtin.SmallTypes.ownedTupleIsFree;refine jaa (jaa (ja9 (x:=.none) hz rfl rfl (jac ?_)));simp only[ja4];refine jaa (jbs (jaa (ja9 (x:=.ref tw) hz rfl rfl ?_)));refine jaa (jct hz (by simp) λg1 z1 b1=>?_);have z1:IsZip g1 z ti tw .ellipsis:=z1;refine jaa ?_;simp only[List.zipIdx_cons,List.zipIdx_nil,List.forIn_cons,List.forIn_nil];refine jaa (jaa (wpAny_onRaise ?_));show wpAny _ _ (Builtin.SmallTypes.nextOf (.ref i1) >>=_) _ _ _;refine jaa (D1.done {s with heap:=g1 } _ _ (D1.but t1 G.c1 b1) λg2 e b2 he=>?_);obtain⟨oe,eo,ec⟩:=he;have z2:IsZip g2 z ti tw .ellipsis:=b2 _ _ G.a3.symm z1;have nz:e≠z:=λq=>by subst q;rw[z2] at eo;cases eo;simp at ec
 exact jct z2 (by simp) λg3 _ b3=>hE g3 e (λc o n1 _ n3 _ q=>(b3.2 c n1).trans (b2 c o n3 ((b1.2 c n1).trans q))) ⟨oe,(b3.2 e nz).trans eo,ec⟩
set_option maxHeartbeats 4000000 in
theorem UI (t u:Addr)(xs ys:Array Value)(n m:Nat)(d1 d2:jcV)(q1 q2:jcQ) :
  Meets (Builtin.«zip.__new__» ⟨[.type "zip",.ref t,.ref u],[]⟩) (λ_ R s=>s.heap.get? t=some {cls:=.type "tuple",dict:=d1,data:=.seq xs n,slots:=q1 }/\s.heap.get? u=some {cls:=.type "tuple",dict:=d2,data:=.seq ys m,slots:=q2 }/\
   R (.ok (.ret (.ref ((((s.heap.push {cls:=.type "tuple_iterator",data:=.fields #[.ref t,.int 0 0] }).push {cls:=.type "tuple_iterator",data:=.fields #[.ref u,.int 0 0] }).push {cls:=.type "tuple",data:=.seq #[.ref s.heap.objs.size,.ref (s.heap.push {cls:=.type "tuple_iterator",data:=.fields #[.ref t,.int 0 0] }).objs.size] }).push {cls:=.type "tuple",data:=.seq #[.none,.none] }).objs.size)))
    {s with heap:=((((s.heap.push {cls:=.type "tuple_iterator",data:=.fields #[.ref t,.int 0 0] }).push {cls:=.type "tuple_iterator",data:=.fields #[.ref u,.int 0 0] }).push {cls:=.type "tuple",data:=.seq #[.ref s.heap.objs.size,.ref (s.heap.push {cls:=.type "tuple_iterator",data:=.fields #[.ref t,.int 0 0] }).objs.size] }).push {cls:=.type "tuple",data:=.seq #[.none,.none] }).push {cls:=.type "zip",data:=.fields #[.none,.bool false,.bool false,.ref ((s.heap.push {cls:=.type "tuple_iterator",data:=.fields #[.ref t,.int 0 0] }).push {cls:=.type "tuple_iterator",data:=.fields #[.ref u,.int 0 0] }).objs.size,.ref (((s.heap.push {cls:=.type "tuple_iterator",data:=.fields #[.ref t,.int 0 0] }).push {cls:=.type "tuple_iterator",data:=.fields #[.ref u,.int 0 0] }).push {cls:=.type "tuple",data:=.seq #[.ref s.heap.objs.size,.ref (s.heap.push {cls:=.type "tuple_iterator",data:=.fields #[.ref t,.int 0 0] }).objs.size] }).objs.size] } }):=
 .of_wp λprog w A R s h=>by
  obtain⟨hp,g,d,tk,os⟩:=s;obtain⟨h1,h2,h⟩:=h;have hsub:=sub_zip;have T1:Heap.IsTuple (Shared.heap ⟨hp,g,d,tk,os⟩) t xs:=⟨_,h1,M,n,M⟩
  have T2:Heap.IsTuple (Shared.heap ⟨hp.push {cls:=.type "tuple_iterator",data:=.fields #[.ref t,.int 0 0] },g,d,tk,os⟩) u ys:=⟨_,jan _ h2,M,m,M⟩
  wp_walk using jb9 T1,jb9 T2
  exact⟨_,M,h⟩
end
end PySem
namespace PySem
section
variable {prog:Program}{w:World}{A:Around}{E:jcP}{s:Shared}
theorem Sw {t u:Addr}{xs ys:Array Value}{Q:jcP}(h1:s.heap.IsTuple t xs)(h2:s.heap.IsTuple u ys)
  (h:∀h',IsZip h' (s.heap.objs.size+4) (s.heap.objs.size+2) (s.heap.objs.size+3) .none->IsPair h' (s.heap.objs.size+2) (.ref s.heap.objs.size) (.ref (s.heap.objs.size+1))->IsPair h' (s.heap.objs.size+3) .none .none->
   h'.IsTupleIter s.heap.objs.size t 0->h'.IsTupleIter (s.heap.objs.size+1) u 0->(∀c o,s.heap.get? c=some o->h'.get? c=some o)->Q (.ref (s.heap.objs.size+4)) {s with heap:=h' }) :
  wpAny (model prog w) A (call (.type "zip") [.ref t,.ref u]) Q E s:=by
 obtain⟨⟨c1,dd1,dt1,sl1⟩,hl1,hc1,n1,hd1⟩:=h1;obtain⟨⟨c2,dd2,dt2,sl2⟩,hl2,hc2,n2,hd2⟩:=h2;have hc1:c1=.type "tuple":=hc1;have hc2:c2=.type "tuple":=hc2;have hd1:dt1=.seq xs n1:=hd1;have hd2:dt2=.seq ys n2:=hd2;subst hc1 hc2 hd1 hd2;refine callType_new F.called_zip (by decide) (F.typeCall_zip_2 _ _) (F.newCall_zip_2 _ _) (λobj=>F.args_object_init_3 obj _ _) F.entry_zip_new (UI t u xs ys n1 n2 dd1 dd2 sl1 sl2) ⟨hl1,hl2,?_⟩;generalize e1:s.heap.push {cls:=.type "tuple_iterator",data:=.fields #[.ref t,.int 0 0] }=g1;have z1:g1.objs.size=s.heap.objs.size+1:=by rw[<- e1,ja0]
 generalize e2:g1.push {cls:=.type "tuple_iterator",data:=.fields #[.ref u,.int 0 0] }=g2;have z2:g2.objs.size=s.heap.objs.size+2:=by rw[<- e2,ja0,z1]
 generalize e3:g2.push {cls:=.type "tuple",data:=.seq #[.ref s.heap.objs.size,.ref g1.objs.size] }=g3;have z3:g3.objs.size=s.heap.objs.size+3:=by rw[<- e3,ja0,z2]
 generalize e4:g3.push {cls:=.type "tuple",data:=.seq #[.none,.none] }=g4;have z4:g4.objs.size=s.heap.objs.size+4:=by rw[<- e4,ja0,z3]
 have k1:∀c o,s.heap.get? c=some o->g1.get? c=some o:=λc o q=>e1 ▸ jan _ q;have k2:∀c o,g1.get? c=some o->g2.get? c=some o:=λc o q=>e2 ▸ jan _ q;have k3:∀c o,g2.get? c=some o->g3.get? c=some o:=λc o q=>e3 ▸ jan _ q;have k4:∀c o,g3.get? c=some o->g4.get? c=some o:=λc o q=>e4 ▸ jan _ q;have y1:g1.get? s.heap.objs.size=some {cls:=.type "tuple_iterator",data:=.fields #[.ref t,.int 0 0] }:=e1 ▸ jaz _ rfl;have y2:g2.get? (s.heap.objs.size+1)=some {cls:=.type "tuple_iterator",data:=.fields #[.ref u,.int 0 0] }:=by rw[<- z1,<- e2];exact jaz _ rfl
 have y3:g3.get? (s.heap.objs.size+2)=some {cls:=.type "tuple",data:=.seq #[.ref s.heap.objs.size,.ref (s.heap.objs.size+1)] }:=by rw[<- z2,<- z1,<- e3];exact jaz _ rfl
 have y4:g4.get? (s.heap.objs.size+3)=some {cls:=.type "tuple",data:=.seq #[.none,.none] }:=by rw[<- z3,<- e4];exact jaz _ rfl
 show _/\_;rw[z2,z3];have y5:(g4.push {cls:=.type "zip",data:=.fields #[.none,.bool false,.bool false,.ref (s.heap.objs.size+2),.ref (s.heap.objs.size+3)] }).get? (s.heap.objs.size+4)=some {cls:=.type "zip",data:=.fields #[.none,.bool false,.bool false,.ref (s.heap.objs.size+2),.ref (s.heap.objs.size+3)] }:=by rw[<- z4];exact jaz _ rfl
 have k5:∀c o,g4.get? c=some o->(g4.push {cls:=.type "zip",data:=.fields #[.none,.bool false,.bool false,.ref (s.heap.objs.size+2),.ref (s.heap.objs.size+3)] }).get? c=some o:=λc o q=>jan _ q;rw[z4];exact⟨⟨_,y5,M⟩,h _ y5 (k5 _ _ (k4 _ _ y3)) (k5 _ _ y4) ⟨_,k5 _ _ (k4 _ _ (k3 _ _ (k2 _ _ y1))),M,M⟩ ⟨_,k5 _ _ (k4 _ _ (k3 _ _ y2)),M,M⟩ λc o q=>k5 _ _ (k4 _ _ (k3 _ _ (k2 _ _ (k1 _ _ q))))⟩
end
end PySem
namespace L2
open PySem PySem.Spec PyProof.Rows Hw
section
variable {X:Cx}
theorem Inv.IU {vy:jcO}{U:St}{H:Hp}{s:Shared}{h':Heap}{t':Nat}{ch:jcT}(I:Inv X vy U H s)(k:∀c o,c∉ch->s.heap.get? c=some o->h'.get? c=some o)(f:∀c∈ch,l7 X vy H c):Inv X vy U H {s with heap:=h',toks:=t' }:=by
 have nk:∀c u,H c=some u->c∉ch:=λc u e z=>by rw[(f c z).1] at e;cases e
 refine I.step (g':=s.gens) (d':=s.drawn) (ch:=ch) (λc hc=>?_) (λc o _ _ hc e _=>k c o hc e) (λc o _ _ hc e _=>⟨o.slots,k c o hc e⟩) (λ_ _ _ _ n=>n)
  (λc o hc e=>⟨o,k c o hc e⟩) (λ_ _ e=>e) (λ_ _ _ e=>e) (λc ps e=>⟨#[],by rw[e];simp⟩) (λm hm=>?_) (λc u e=>?_) I.bare
 .obtain⟨_,a1,_,a3,a4,a5⟩:=f c hc;exact⟨a3,a1,a4,a5⟩
 .obtain⟨o,es,ep,ho,r⟩:=hm;exact⟨o,es,ep,k _ o (λz=>(f _ z).2.1 M) ho,r⟩
 .refine(I.hok c u e).stay (λd v hd q=>k d v ?_ q) (λ_ q=>q) λ_ _ q=>q;rcases hd with z | z
  .rw[z];exact nk c u e
  .exact nk d _ z
end
noncomputable def Izp (K:Frag)(a b:Addr):It:=
 ⟨λi H=>∃xs ys x y,ko K H a xs/\ko K H b ys/\xs[i]?=some x/\ys[i]?=some y,λi H v H'=>∃t x y,H t=none/\v=.ref t/\(∀xs,ko K H a xs->xs[i]?=some x)/\(∀ys,ko K H b ys->ys[i]?=some y)/\H'=upd H t (.tup [x,y]),λi H=>∃xs,ko K H a xs/\xs.length=i⟩
theorem Mi {P:Program}{w:World}{K:Frag}{elts:jcU}{x1:Nat}{pos:Pos}(a b z ti tw i1 i2:Addr)(G:Zap z ti tw i1 i2 [i1,a] [i2,b])(n1:a≠i1)(n2:b≠i2) :
  Turn P w K (.Tuple elts x1 pos) (Izp K a b) [z,ti,tw,i1,i2] z (λi h=>IsZip h z ti tw .none/\IsPair h ti (.ref i1) (.ref i2)/\(∃u v,IsPair h tw u v)/\h.IsTupleIter i1 a i/\h.IsTupleIter i2 b i) where
 mem:=by simp
 obj:=λi h st c hc=>by
  obtain⟨h1,h2,⟨u,v,h3⟩,⟨o4,h4,_,d4⟩,⟨o5,h5,_,d5⟩⟩:=st;simp only[jag,jaI,jbt] at hc;rcases hc with e | e | e | e | e<;>subst e
  .exact⟨_,h1,λv q=>by have q':Data.fields _=Data.cell v:=q;cases q'⟩
  .exact⟨_,h2,λv q=>by have q':Data.seq _ _=Data.cell v:=q;cases q'⟩
  .exact⟨_,h3,λv q=>by have q':Data.seq _ _=Data.cell v:=q;cases q'⟩
  .exact⟨_,h4,λv q=>by rw[d4] at q;cases q⟩
  .exact⟨_,h5,λv q=>by rw[d5] at q;cases q⟩
 keep:=λi h h' st q=>by
  obtain⟨h1,h2,⟨u,v,h3⟩,⟨o4,h4,r4⟩,⟨o5,h5,r5⟩⟩:=st;exact⟨q z (by simp) _ h1,q ti (by simp) _ h2,⟨u,v,q tw (by simp) _ h3⟩,⟨o4,q i1 (by simp) _ h4,r4⟩,⟨o5,q i2 (by simp) _ h5,r5⟩⟩
 item:=by
  intro X hP hw hK hc i vy s U H E I hf st hg;subst hP hw hK;obtain⟨hz,ht,⟨u0,v0,ho⟩,j1,j2⟩:=st;obtain⟨xs,ys,x,y,qa,qb,hx,hy⟩:=hg;obtain⟨De,rv1,p1,_⟩:=I.tuple qa;obtain⟨its2,rv2,p2,_⟩:=I.tuple qb;have hh:X.A.in1.handled=none:=I.ok.hd hc;have D1:=xC (prog:=X.prog) (w:=X.w) (B:=X.A.in1) hh i1 a n1 De.toArray;have D2:=xC (prog:=X.prog) (w:=X.w) (B:=X.A.in1) hh i2 b n2 its2.toArray;obtain⟨u1,hu1,ru1⟩:=rv1.get hx;obtain⟨u2,hu2,ru2⟩:=rv2.get hy;have l1:i<De.toArray.size:=by simpa using(jao.mp hu1).1
  have l2:i<its2.toArray.size:=by simpa using(jao.mp hu2).1
  have hT:s.TypeIs (.ref z) "zip":=⟨_,hz,M⟩
  unfold pyNext;refine jaa (jci (jbE (name:=Str.ofString "__next__") hT F.slot_zip_next (jbd F.slot_zip_next hT F.entry_zip_next ?_ (F.args_zip_next_1 _))));refine P7 D1 D2 G l1 l2 hz ht ho ⟨j1,p1⟩ ⟨j2,p2⟩ λv1 v2 h1 tk e1 e2 z1 o1 t1 t2 nw kp=>jac ?_;have e1:v1=u1:=by
   have q:De[i]?=some v1:=by simpa using e1
   exact ja2 (q.symm.trans hu1)
  have e2:v2=u2:=by
   have q:its2[i]?=some v2:=by simpa using e2
   exact ja2 (q.symm.trans hu2)
  subst e1 e2;refine⟨_,M,wpAny_letOwnedTupleGo_zip z1 λh2 z2 b2=>?_⟩;have hn:H s.heap.objs.size=none:=I.hok.fresh (jal _);have lt:∀{c:Addr},c∈[z,ti,tw,i1,i2]->s.heap.objs.size≠c:=λ{c} hc'=>by
   simp only[jag,jaI,jbt] at hc';rcases hc' with e | e | e | e | e<;>subst e
   .exact ja6 (jak hz)
   .exact ja6 (jak ht)
   .exact ja6 (jak ho)
   .obtain⟨_,q,_⟩:=j1;exact ja6 (jak q)
   .obtain⟨_,q,_⟩:=j2;exact ja6 (jak q)
  have I1:Inv X vy U (upd H s.heap.objs.size (.tup [x,y])) {s with heap:=s.heap.push {cls:=.type "tuple",data:=.seq #[v1,v2] },toks:=tk }:=
   I.laid (t':=tk) (o:=.tup [x,y]) (λc o q=>jan _ q) (jal _) ⟨by show 2<=sizeLine;rw[ja7];omega,[v1,v2],.cons ru1 (.cons ru2 .nil),_,jaz _ M,M,_,M⟩
  have fp2:∀c∈[z,ti,tw,i1,i2],l7 X vy (upd H s.heap.objs.size (.tup [x,y])) c:=λc hc'=>⟨by rw[aY (lt hc').symm];exact(hf c hc').1,(hf c hc').2⟩
  have I2:Inv X vy U (upd H s.heap.objs.size (.tup [x,y])) {s with heap:=h2,toks:=tk }:=
   Inv.IU (s:={s with heap:=s.heap.push {cls:=.type "tuple",data:=.seq #[v1,v2] },toks:=tk }) (t':=tk) (h':=h2) (ch:=[z,ti,tw,i1,i2]) I1 (λc o hc' q=>by
    have m1:c≠z:=λe=>hc' (by simp[e]);have m2:c≠tw:=λe=>hc' (by simp[e]);have m3:c≠i1:=λe=>hc' (by simp[e]);have m4:c≠i2:=λe=>hc' (by simp[e]);refine(b2.2 c m1).trans ?_;rcases Heap.get?_push_cases (show(s.heap.push {cls:=.type "tuple",data:=.seq #[v1,v2] }).get? c=some o from q) with⟨e1,e2⟩ | e1
    .rw[e1,e2];exact nw
    .exact kp c o m1 m2 m3 m4 e1) fp2
  refine⟨.ref s.heap.objs.size,_,I2,M,⟨_,x,y,hn,M,λzs hz'=>by rw[I.qk hz' qa];exact hx,λzs hz'=>by rw[I.qk hz' qb];exact hy,M⟩,⟨z2,(b2.2 _ G.a1).trans (kp _ _ G.a1 G.a5 G.a6 G.a7 ht),⟨_,_,(b2.2 _ G.a2).trans o1⟩,?_,?_⟩,λc hc'=>(fp2 c hc').1⟩
  .obtain⟨o,q,r⟩:=t1.1;exact⟨o,(b2.2 _ G.a3).trans q,r⟩
  .obtain⟨o,q,r⟩:=t2.1;exact⟨o,(b2.2 _ G.a4).trans q,r⟩
 done:=by
  intro X hP hw hK hc i vy s U H E I hf st hg;subst hP hw hK;obtain⟨hz,ht,⟨u0,v0,ho⟩,j1,j2⟩:=st;obtain⟨xs,qa,hx⟩:=hg;obtain⟨De,rv1,p1,_⟩:=I.tuple qa;have hh:X.A.in1.handled=none:=I.ok.hd hc;have D1:=xC (prog:=X.prog) (w:=X.w) (B:=X.A.in1) hh i1 a n1 De.toArray;have el:De.toArray.size=i:=by have:=rv1.length;simp only[jaw];omega
  have hT:s.TypeIs (.ref z) "zip":=⟨_,hz,M⟩
  unfold pyNext;refine jaa (jci (jbE (name:=Str.ofString "__next__") hT F.slot_zip_next (jbd F.slot_zip_next hT F.entry_zip_next (UJ D1 G hz ht ⟨by rw[el];exact j1,p1⟩ λh' e kp he=>?_) (F.args_zip_next_1 _))));obtain⟨o,eo,ec⟩:=he;refine jaa (jbz (T:="StopIteration") (b:=true) ⟨o,eo,ec⟩ isSubtype_stop (jac ⟨M,?_⟩));exact Inv.IU (t':=s.toks) (ch:=[z,ti,tw,i1,i2]) I (λc o hc' q=>kp c o (λe=>hc' (by simp[e])) (λe=>hc' (by simp[e])) (λe=>hc' (by simp[e])) (λe=>hc' (by simp[e])) q) hf
 self:=λ_ _ _ _ _ st h=>wpAny_pyIter_zip st.1 h
theorem L5 {x y:Nat}(h:x≠y):(show Addr from x)≠(show Addr from y):=h
theorem XU {c e f:Nat}(h:c≠e)(g:c≠f):(show Addr from c)∉[(show Addr from e),(show Addr from f)]:=λq=>by
 rcases jag.mp q with q | q
 .exact h q
 .exact g (jai.mp q)
theorem UL {n a b:Nat}(la:a<n)(lb:b<n):Zap (n+4) (n+2) (n+3) n (n+1) [n,a] [n+1,b]/\(show Addr from a)≠n/\(show Addr from b)≠n+1:=
 ⟨⟨L5 (by omega),L5 (by omega),L5 (by omega),L5 (by omega),L5 (by omega),L5 (by omega),L5 (by omega),L5 (by omega),L5 (by omega),L5 (by omega),XU (by omega) (by omega),XU (by omega) (by omega),XU (by omega) (by omega),XU (by omega) (by omega),XU (by omega) (by omega),XU (by omega) (by omega)⟩,L5 (by omega),L5 (by omega)⟩
section
variable {X:Cx}{l m:Expr}{p pos:Pos}
def a2H (K:Frag)(tl:TA):TI:=λU H R=>tl U H λvs H1=>∃a b,vs=[.ref a,.ref b]/\(∃xs,ko K H1 a xs)/\(∃ys,ko K H1 b ys)/\R (Izp K a b) H1
theorem VR {elts:jcU}{x1:Nat}{tpos:Pos}{ta:TA}(hg:Gl X "zip")(hm:X.mg "zip"=none)(hv:bootBuiltins "zip"=some (.type "zip"))(ha:PA X [l,m] ta)(hs:autoParam (starEach [l,m] X.env=(false,eval l X.env)::starEach [m] X.env) zi)(hs2:autoParam (starEach [m] X.env=[(false,eval m X.env)]) zi):PI X (.Tuple elts x1 tpos) (.Call (.Name "zip" p) [l,m] [] pos) (a2H X.K ta):=by
 intro vy s U H R I h;refine Call_ (uV I hg hm hv (jcx (ez (ha pos vy s U H _ I h) λus s1 ⟨vs,H1,I1,r1,q1⟩=>?_) hs (by rw[hs2];rfl)));obtain⟨a,b,rfl,⟨xs,qa⟩,⟨ys,qb⟩,q⟩:=q1;obtain⟨u1,u2,rfl,ru1,ru2⟩:=vals2 r1;cases ru1;cases ru2;obtain⟨De,rv1,p1,_⟩:=I1.tuple qa;obtain⟨its2,rv2,p2,_⟩:=I1.tuple qb;have la:a<s1.heap.objs.size:=by obtain⟨o,e,_⟩:=(show s1.heap.IsTuple a De.toArray from p1);exact jak e
 have lb:b<s1.heap.objs.size:=by obtain⟨o,e,_⟩:=(show s1.heap.IsTuple b its2.toArray from p2);exact jak e
 refine Sw (show s1.heap.IsTuple a De.toArray from p1) (show s1.heap.IsTuple b its2.toArray from p2) λh' e1 e2 e3 e4 e5 kp=>wpAny_pyIter_zip e1 ?_;have fps:∀c∈[s1.heap.objs.size+4,s1.heap.objs.size+2,s1.heap.objs.size+3,s1.heap.objs.size,s1.heap.objs.size+1],l7 X vy H1 c:=λc hc=>by
  have:s1.heap.objs.size<=c:=by
   simp only[jag,jaI,jbt] at hc;rcases hc with e | e | e | e | e<;>rw[e]<;>first | exact Nat.le_add_right _ _ | exact jal _
  exact I1.OF this (I1.hok.fresh this)
 obtain⟨G,m1,m2⟩:=UL la lb;exact⟨_,_,_,_,H1,M,I1.kept (t':=s1.toks) kp,Mi a b _ _ _ _ _ G m1 m2,⟨e1,e2,⟨_,_,e3⟩,e4,e5⟩,fps,q⟩
end
end L2
namespace Hw
open PySem L2
end Hw
namespace L2
open PySem PySem.Spec PyProof.Rows Hw
end L2
namespace Hw
open PySem L2
def kq (x:Str):Prop:=(∃c r,x.cps.toList=c::r/\97<=c)/\x.length<=20
theorem gU {x:Str}{c:Nat}{r:jcX}(e:x.cps.toList=c::r):Txt.startswith x "#"=decide (c=35):=by
 have hc:x.cps=(c::r).toArray:=by rw[<- e]
 have hl:("#":Str).length=1:=by symm
 have hp:("#":Str).cps=#[35]:=by symm
 unfold PySem.Txt.startswith Builtin.Str.subAt;rw[hl,hp];unfold Str.length;rw[hc];simp;by_cases h:c=35<;>simp[h]
def AX (x:Str):Prop:=∀c∈cp x,97<=c
theorem zw {x y:Str}(h:AX x)(g:AX y):AX (x++y):=λc hc=>by
 unfold cp at hc;rw[ua] at hc;rcases jau.mp hc with q | q
 .exact h c q
 .exact g c q
theorem Gi {c:Nat}(h:97<=c):AX (Xs c):=λd hd=>by
 have:d∈[c]:=hd;rw[jai.mp this];exact h
theorem LS {ss:jcR}(h:∀x∈ss,Chr x):AX (Txt.join (Str.ofString "") ss):=λc hc=>by
 rw[Ie] at hc;obtain⟨l,hl,hc⟩:=ja5.mp hc;obtain⟨x,hx,rfl⟩:=jas.mp hl;obtain⟨d,rfl,hd⟩:=h x hx;exact Gi hd c hc
theorem SD {x:Str}{j:Nat}(h:j<=x.length)(a:AX x):AX (Txt.slice x none (some (j:Int))):=λc hc=>by
 have:=StrLaws.sliceText_to (x:=x) (j:=(j:Int)) ⟨by omega,by rw[Ig] at h;have h:j<=x.cps.toList.length:=h;omega⟩;have e:Txt.slice x none (some (j:Int))=StrLaws.sliceText x none (some (j:Int)):=rfl;rw[e,this] at hc;refine a c ?_;unfold cp at hc ⊢;simp only[] at hc;exact jcI (jcr hc)
theorem LU {x:Str}{j:Nat}(h:j<=x.length)(a:AX x):AX (Txt.slice x (some (j:Int)) none):=λc hc=>by
 have:=StrLaws.sliceText_from (x:=x) (i:=(j:Int)) ⟨by omega,by rw[Ig] at h;have h:j<=x.cps.toList.length:=h;omega⟩
 have e:Txt.slice x (some (j:Int)) none=StrLaws.sliceText x (some (j:Int)) none:=rfl;rw[e,this] at hc;refine a c ?_;unfold cp at hc ⊢;simp only[] at hc;exact jcI (jcr hc)
theorem RO {x:Str}(a:AX x)(h1:1<=x.length)(h2:x.length<=20):kq x:=by
 refine⟨?_,h2⟩;rw[Ig] at h1;cases e:cp x with
 |nil=>rw[e] at h1;exact absurd h1 (by decide)
 |cons c r=>exact⟨c,r,e,a c (by rw[e];exact jar ..)⟩
end Hw
namespace L2
open PySem PySem.Spec PyProof.Rows Hw
theorem mtM {P:Program}{w:World}{K:Frag}{mg:Str->jcW}{base:Heap}{k:Nat}{m:Str}{C f:Addr}{fd:FuncData}{ps:jcR}{sp:Sp}(a:az P w K mg base bz k f fd ps sp)(b:findIn K (.ref C) m=some (some (.ref f)))(e:isFn K (.ref f)=true)(c:keepIn K (.ref f)=true)(d:Binds K fd ps []):Mt P w K mg base k C m ps sp:=⟨f,fd,a,⟨b,e,c⟩,d⟩
theorem mrM {P:Program}{w:World}{K:Frag}{mg:Str->jcW}{base:Heap}{k:Nat}{C f:Addr}{fd:FuncData}{ps:jcR}{sp:Sp}(a:az P w K mg base bz k f fd ps sp)(m:makesIn K C=true)(b:findIn K (.ref C) "__init__"=some (some (.ref f)))(e:isFn K (.ref f)=true)(c:keepIn K (.ref C)=true)(d:Binds K fd ps []):Mr P w K mg base k C ps sp:=⟨f,fd,a,⟨m,b,e,c⟩,d⟩
end L2
namespace Hw
open PySem L2
end Hw
namespace L2
open PySem PySem.Spec PyProof.Rows Hw
end L2
namespace Hw
open PySem L2
end Hw
namespace L3
open PySem L2
inductive T where
 |v (x:V) | tup (l:List T) | lst (l:List T) | GY (l:List T) | ins (C:Addr) (ns:List Str) (l:List T)
inductive D where
 |t (x:T) | ob (n:Nat)
inductive O where
 |lst (l:List T) | ly (l:List (Key×T)) | ins (C:Addr) (ns:List Str) (l:List D)
abbrev aA:=List O
abbrev Sl:=List (Option D)
abbrev T.int (i:Int):T:=.v (.int i)
abbrev T.str (x:Str):T:=.v (.str x)
abbrev D.int (i:Int):D:=.t (.v (.int i))
abbrev D.str (x:Str):D:=.t (.v (.str x))
abbrev D.bl (b:Bool):D:=.t (.v (.bl b))
abbrev D.eN:D:=.t (.v .eN)
abbrev D.tup (l:List T):D:=.t (.tup l)
abbrev D.lst (l:List T):D:=.t (.lst l)
noncomputable def D.iD:D->Option Int
 |.t (.v (.int i))=>some i
 |_=>none
noncomputable def D.sD:D->Option Str
 |.t (.v (.str i))=>some i
 |_=>none
noncomputable def D.tD:D->Option (List T)
 |.t (.tup i)=>some i
 |_=>none
theorem D.Bp {d:D}{i:Int}(h:d.iD=some i):d=.int i:=by
 cases d with
 |ob n=>cases h
 |t x=>cases x with
  |v x=>cases x with
   |int j=>cases h;rfl
   |_=>cases h
  |_=>cases h
theorem D.Jv {d:D}{i:Str}(h:d.sD=some i):d=.str i:=by
 cases d with
 |ob n=>cases h
 |t x=>cases x with
  |v x=>cases x with
   |str j=>cases h;rfl
   |_=>cases h
  |_=>cases h
theorem D.Ti {d:D}{i:List T}(h:d.tD=some i):d=.tup i:=by
 cases d with
 |ob n=>cases h
 |t x=>cases x with
  |tup j=>cases h;rfl
  |_=>cases h
theorem OQ {α:Type}{o:Option α}{n:Prop}{f:α->Prop}(h:o.elim n f):n\/∃a,o=some a/\f a:=by
 cases o with
 |none=>exact .inl h
 |some a=>exact .inr ⟨a,M,h⟩
def Le (G G':Hp):Prop:=∀a o,G a=some o->G' a=some o
theorem Le.refl (G:Hp):Le G G:=λ_ _ h=>h
theorem Le.trans {A B C:Hp}(h:Le A B)(k:Le B C):Le A C:=λa o e=>k a o (h a o e)
theorem Y0 {G G':Hp}(h:Le G G'){a:Addr}{u:HO}:Rd G a u->Rd G' a u
 |.inl e=>.inl (h _ _ e)
 |.inr ⟨o,e⟩=>.inr ⟨o,h _ _ e⟩
theorem GU {K:Frag}{G G':Hp}(h:Le G G'){a:Addr}{xs:List V}:mJ K G a xs->mJ K G' a xs
 |.inl e=>.inl (Y0 h e)
 |.inr e=>.inr e
structure zM (K:Frag)(C:Addr)(ns:List Str):Prop where
 cls:SW K C
 no:∀f∈ns,l6 K C f
 ca:findIn K (.ref C) "__class__"=some (some (.builtin "object.__class__"))
 cg:specialIn K (.builtin "object.__class__") "__get__"=some (some (.builtin "getset_descriptor.__get__"))
 ct:takesIn K (.builtin "object.__class__")=some true
 cm:mroIn K C (.type "object")=some true
mutual
def Rp (K:Frag)(G:Hp):T->V->Prop
 |.v x,w=>w=x
 |.tup l,w=>∃a vs,w=.ref a/\G a=some (.tup vs)/\bK K G l vs
 |.lst l,w=>∃a vs,w=.ref a/\G a=some (.lst vs)/\bK K G l vs
 |.GY l,w=>∃a vs,w=.ref a/\mJ K G a vs/\bK K G l vs
 |.ins C ns l,w=>∃a dx vs,w=.ref a/\G a=some (.ins C dx (ns.zip vs))/\ns.length=vs.length/\zM K C ns/\bK K G l vs
def bK (K:Frag)(G:Hp):List T->List V->Prop
 |[],vs=>vs=[]
 |x::r,vs=>∃v vr,vs=v::vr/\Rp K G x v/\bK K G r vr
end
mutual
theorem Rp.le {K:Frag}{G G':Hp}(h:Le G G'):∀{x:T}{w:V},Rp K G x w->Rp K G' x w
 |.v x,w,e=>by unfold Rp at *;exact e
 |.tup l,w,e=>by
  unfold Rp at *;obtain⟨a,vs,e1,e2,e3⟩:=e;exact⟨a,vs,e1,h _ _ e2,bK.le h e3⟩
 |.lst l,w,e=>by
  unfold Rp at *;obtain⟨a,vs,e1,e2,e3⟩:=e;exact⟨a,vs,e1,h _ _ e2,bK.le h e3⟩
 |.GY l,w,e=>by
  unfold Rp at *;obtain⟨a,vs,e1,e2,e3⟩:=e;exact⟨a,vs,e1,GU h e2,bK.le h e3⟩
 |.ins C ns l,w,e=>by
  unfold Rp at *;obtain⟨a,dx,vs,e1,e2,e3,e4,e5⟩:=e;exact⟨a,dx,vs,e1,h _ _ e2,e3,e4,bK.le h e5⟩
theorem bK.le {K:Frag}{G G':Hp}(h:Le G G'):∀{l:List T}{vs:List V},bK K G l vs->bK K G' l vs
 |[],vs,e=>by unfold bK at *;exact e
 |x::r,vs,e=>by
  unfold bK at *;obtain⟨v,vr,e1,e2,e3⟩:=e;exact⟨v,vr,e1,Rp.le h e2,bK.le h e3⟩
end
section
variable {K:Frag}{G:Hp}
theorem bK.nil:bK K G [] []:=by unfold bK;rfl
theorem bK.cons {x:T}{v:V}{l:List T}{vs:List V}(h:Rp K G x v)(r:bK K G l vs):bK K G (x::l) (v::vs):=by
 unfold bK;exact⟨v,vs,M,h,r⟩
theorem bK.len:∀{l:List T}{vs:List V},bK K G l vs->l.length=vs.length
 |[],vs,e=>by unfold bK at e;rw[e];rfl
 |x::r,vs,e=>by
  unfold bK at e;obtain⟨v,vr,e1,_,e3⟩:=e;rw[e1,jaj,jaj,e3.len]
theorem bK.app:∀{l m:List T}{vs ws:List V},bK K G l vs->bK K G m ws->bK K G (l++m) (vs++ws)
 |[],m,vs,ws,e,k=>by unfold bK at e;rw[e];exact k
 |x::r,m,vs,ws,e,k=>by
  unfold bK at e;obtain⟨v,vr,e1,e2,e3⟩:=e;rw[e1];exact .cons e2 (e3.app k)
theorem bK.get:∀{l:List T}{vs:List V}{i:Nat}{x:T},bK K G l vs->l[i]?=some x->∃v,vs[i]?=some v/\Rp K G x v
 |[],vs,i,x,e,k=>by simp at k
 |y::r,vs,0,x,e,k=>by
  unfold bK at e;obtain⟨v,vr,e1,e2,e3⟩:=e;simp at k;subst k;exact⟨v,by rw[e1];rfl,e2⟩
 |y::r,vs,i+1,x,e,k=>by
  unfold bK at e;obtain⟨v,vr,e1,e2,e3⟩:=e;obtain⟨u,h1,h2⟩:=e3.get (i:=i) (x:=x) (by simpa using k);exact⟨u,by rw[e1];simpa using h1,h2⟩
theorem bK.tk:∀{l:List T}{vs:List V}(n:Nat),bK K G l vs->bK K G (l.take n) (vs.take n)
 |_,_,0,_=>by simp;exact .nil
 |[],vs,n+1,e=>by unfold bK at e;rw[e];simp;exact .nil
 |y::r,vs,n+1,e=>by
  unfold bK at e;obtain⟨v,vr,e1,e2,e3⟩:=e;rw[e1,List.take_succ_cons,List.take_succ_cons];exact .cons e2 (e3.tk n)
theorem bK.dp:∀{l:List T}{vs:List V}(n:Nat),bK K G l vs->bK K G (l.drop n) (vs.drop n)
 |_,_,0,e=>by simpa using e
 |[],vs,n+1,e=>by unfold bK at e;rw[e];simp;exact .nil
 |y::r,vs,n+1,e=>by
  unfold bK at e;obtain⟨v,vr,e1,e2,e3⟩:=e;rw[e1,List.drop_succ_cons,List.drop_succ_cons];exact e3.dp n
theorem bK.yO:∀{ns:jcR}{vs:List V}{f:Str},f∉ns->(ns.zip vs).lookup f=none
 |[],vs,f,_=>by simp
 |n::ns,[],f,_=>by simp
 |n::ns,v::vs,f,h=>by
  rw[jcu,List.lookup_cons];have q:(f==n)=false:=by
   cases q:(f==n) with
   |false=>rfl
   |true=>exact absurd (jag.mpr (.inl (eq_of_beq q))) h
  rw[q];exact bK.yO λz=>h (jav _ z)
end
theorem qH:∀{l:jcT}{i j:Nat}{a:Addr},l.Nodup->l[i]?=some a->l[j]?=some a->i=j
 |[],_,_,_,_,h,_=>by simp at h
 |x::r,0,0,_,_,_,_=>rfl
 |x::r,0,j+1,a,nd,h,k=>by
  simp at h k;subst h;exact absurd (jbH k) (jbq.mp nd).1
 |x::r,i+1,0,a,nd,h,k=>by
  simp at h k;subst k;exact absurd (jbH h) (jbq.mp nd).1
 |x::r,i+1,j+1,a,nd,h,k=>jah (·+1) (qH (l:=r) (jbq.mp nd).2 (by simpa using h) (by simpa using k))
noncomputable def res (Y:jcT)(H:Hp):Hp:=λa=>if a∈Y then none else H a
def ki (K:Frag)(Y:jcT)(G:Hp):D->V->Prop
 |.t x,w=>Rp K G x w
 |.ob n,w=>∃a,Y[n]?=some a/\w=.ref a
noncomputable def fk (K:Frag)(Y:jcT)(G:Hp):List D->List V->Prop:=Paired (ki K Y G)
def Iz (K:Frag)(Y:jcT)(G:Hp)(h:Option HO):O->Prop
 |.lst l=>∃vs,h=some (.lst vs)/\bK K G l vs
 |.ly l=>∃kvs,h=some (.dK kvs)/\Paired (λ(p:Key×T) (q:Key×V)=>p.1=q.1/\Rp K G p.2 q.2) l kvs
 |.ins C ns l=>∃dx vs,h=some (.ins C dx (ns.zip vs))/\ns.length=vs.length/\zM K C ns/\fk K Y G l vs
structure R3 (K:Frag)(Y:List Addr)(S:aA)(H:Hp):Prop where
 len:Y.length=S.length
 nd:Y.Nodup
 ok:∀(n:Nat)(a:Addr)(o:O),Y[n]?=some a->S[n]?=some o->Iz K Y (res Y H) (H a) o
structure Gr (Y:List Addr)(H:Hp)(Y':List Addr)(H':Hp):Prop where
 ext:∃e,Y'=Y++e
 le:Le (res Y H) (res Y' H')
theorem Gr.refl {Y:jcT}{H:Hp}:Gr Y H Y H:=⟨⟨[],by simp⟩,Le.refl _⟩
theorem Gr.trans {Y Y' Y'':jcT}{H H' H'':Hp}(a:Gr Y H Y' H')(b:Gr Y' H' Y'' H''):Gr Y H Y'' H'':=by
 obtain⟨e,rfl⟩:=a.ext;obtain⟨f,rfl⟩:=b.ext;exact⟨⟨e++f,by simp⟩,a.le.trans b.le⟩
theorem Gr.at {Y Y':jcT}{H H':Hp}(a:Gr Y H Y' H'){n:Nat}{x:Addr}(h:Y[n]?=some x):Y'[n]?=some x:=by
 obtain⟨e,rfl⟩:=a.ext;have hl:n<Y.length:=(jao.mp h).1;rw[jaS hl];exact h
section
variable {K:Frag}{Y Y':jcT}{G G' H H':Hp}
theorem ki.le' (he:∀(n:Nat)(a:Addr),Y[n]?=some a->Y'[n]?=some a)(h:Le G G'):∀{d:D}{w:V},ki K Y G d w->ki K Y' G' d w
 |.t x,w,e=>Rp.le h e
 |.ob n,w,⟨a,e1,e2⟩=>⟨a,he n a e1,e2⟩
theorem ki.gr (g:Gr Y H Y' H'){d:D}{w:V}(e:ki K Y (res Y H) d w):ki K Y' (res Y' H') d w:=ki.le' (λ_ _=>g.at) g.le e
theorem jR {α β:Type}{F F':α->β->Prop}(h:∀a b,F a b->F' a b):∀{l:List α}{m:List β},Paired F l m->Paired F' l m
 |_,_,.nil=>.nil
 |_,_,.cons r t=>.cons (h _ _ r) (jR h t)
theorem fk.gr (g:Gr Y H Y' H'){l:List D}{w:List V}(e:fk K Y (res Y H) l w):fk K Y' (res Y' H') l w:=jR (λ_ _=>ki.gr g) e
theorem fk.t:∀{l:List T}{vs:List V},fk K Y G (l.map .t) vs->bK K G l vs
 |[],_,.nil=>.nil
 |_::_,_,.cons r t=>.cons r (fk.t t)
theorem fk.of:∀{l:List T}{vs:List V},bK K G l vs->fk K Y G (l.map .t) vs
 |[],vs,e=>by unfold bK at e;subst e;exact .nil
 |x::r,vs,e=>by
  unfold bK at e;obtain⟨v,vr,e1,e2,e3⟩:=e;subst e1;exact .cons e2 (fk.of e3)
theorem Iz.le' (he:∀(n:Nat)(a:Addr),Y[n]?=some a->Y'[n]?=some a)(h:Le G G'){x:Option HO}:∀{o:O},Iz K Y G x o->Iz K Y' G' x o
 |.lst l,⟨vs,e1,e2⟩=>⟨vs,e1,e2.le h⟩
 |.ly l,⟨vs,e1,e2⟩=>⟨vs,e1,jR (λ_ _ z=>⟨z.1,z.2.le h⟩) e2⟩
 |.ins C ns l,⟨dx,vs,e1,e2,e3,e4⟩=>⟨dx,vs,e1,e2,e3,jR (λ_ _=>ki.le' he h) e4⟩
theorem Iz.some {x:Option HO}:∀{o:O},Iz K Y G x o->∃u,x=some u
 |.lst l,⟨vs,e1,e2⟩=>⟨_,e1⟩
 |.ly l,⟨vs,e1,e2⟩=>⟨_,e1⟩
 |.ins C ns l,⟨dx,vs,e1,e2,e3,e4⟩=>⟨_,e1⟩
theorem res_some {a:Addr}{o:HO}(h:res Y H a=some o):a∉Y/\H a=some o:=by
 unfold res at h;split at h
 .cases h
 .exact⟨by assumption,h⟩
theorem oU {a:Addr}{o:HO}(n:a∉Y)(h:H a=some o):res Y H a=some o:=by unfold res;rw[jad n];exact h
theorem QJ:res [] H=H:=by funext a;unfold res;rw[jad (by simp)]
end
section
variable {K:Frag}{Y:jcT}{S:aA}{H:Hp}
theorem R3.tracked (r:R3 K Y S H){a:Addr}(h:a∈Y):∃u,H a=some u:=by
 obtain⟨n,hn⟩:=jcG.mp h;have hl:n<S.length:=by rw[<- r.len];exact(jao.mp hn).1
 exact(r.ok n a S[n] hn (jaD hl)).some
theorem R3.fresh (r:R3 K Y S H){p:Addr}(h:H p=none):p∉Y:=λz=>by
 obtain⟨u,e⟩:=r.tracked z;rw[h] at e;cases e
theorem R3.new (r:R3 K Y S H){p:Addr}{o:HO}(h:H p=none):R3 K Y S (upd H p o)/\Gr Y H Y (upd H p o)/\res Y (upd H p o) p=some o:=by
 have np:=r.fresh h;have le:Le (res Y H) (res Y (upd H p o)):=λa u e=>by
  obtain⟨e1,e2⟩:=res_some e;refine oU e1 ?_;rw[aY (bL e2 h)];exact e2
 refine⟨⟨r.len,r.nd,λn a u e1 e2=>?_⟩,⟨⟨[],by simp⟩,le⟩,oU np fE⟩;have q:=r.ok n a u e1 e2;obtain⟨x,ex⟩:=q.some;rw[aY (bL ex h)];exact q.le' (λ_ _ z=>z) le
theorem R3.push (r:R3 K Y S H){p:Addr}{o:HO}{u:O}(h:H p=none)(hu:Iz K (Y++[p]) (res Y H) (some o) u):R3 K (Y++[p]) (S++[u]) (upd H p o)/\Gr Y H (Y++[p]) (upd H p o):=by
 have np:=r.fresh h;have le:Le (res Y H) (res (Y++[p]) (upd H p o)):=λa u e=>by
  obtain⟨e1,e2⟩:=res_some e;have ne:=bL e2 h;refine oU (λz=>?_) ?_
  .rcases jau.mp z with z | z
   .exact e1 z
   .exact ne (jai.mp z)
  .rw[aY ne];exact e2
 have he:∀(n:Nat)(a:Addr),Y[n]?=some a->(Y++[p])[n]?=some a:=λn a e=>by
  rw[jaS (jao.mp e).1];exact e
 refine⟨⟨by simp[r.len],?_,λn a x e1 e2=>?_⟩,⟨⟨[p],M⟩,le⟩⟩
 .rw[jcc];refine⟨r.nd,by simp,λa ha b hb=>?_⟩;rw[jai.mp hb];exact λz=>np (z ▸ ha)
 .by_cases hn:n<Y.length
  .rw[jaS hn] at e1;rw[jaS (by rw[<- r.len];exact hn)] at e2;have q:=r.ok n a x e1 e2;obtain⟨y,ey⟩:=q.some;rw[aY (bL ey h)];exact q.le' he le
  .have hn':n=Y.length:=by
    have:=(jao.mp e1).1;rw[jaf,jbF] at this;omega
   subst hn';rw[jbj (jal _),Nat.sub_self] at e1;rw[jbj (by rw[r.len];exact jal _),r.len,Nat.sub_self] at e2;cases e1;cases e2;rw[fE];exact hu.le' (λ_ _ z=>z) le
theorem R3.put (r:R3 K Y S H){n:Nat}{a:Addr}{o:HO}{u:O}(ha:Y[n]?=some a)(hu:Iz K Y (res Y H) (some o) u):R3 K Y (S.set n u) (upd H a o)/\Gr Y H Y (upd H a o):=by
 have hm:a∈Y:=jbH ha;have le:Le (res Y H) (res Y (upd H a o)):=λb u e=>by
  obtain⟨e1,e2⟩:=res_some e;refine oU e1 ?_;rw[aY (λz=>e1 (by rw[z];exact hm))];exact e2
 refine⟨⟨by rw[jaE];exact r.len,r.nd,λm b x e1 e2=>?_⟩,⟨⟨[],by simp⟩,le⟩⟩;by_cases hmn:n=m
 .subst hmn;rw[ha] at e1;cases e1;have hl:n<S.length:=by rw[<- r.len];exact(jao.mp ha).1
  rw[jaG hl] at e2;cases e2;rw[fE];exact hu.le' (λ_ _ z=>z) le
 .rw[jbG hmn] at e2;have nb:b≠a:=λz=>by
   subst z;exact hmn (qH r.nd ha e1)
  rw[aY nb];exact(r.ok m b x e1 e2).le' (λ_ _ z=>z) le
end
abbrev KD:=D->aA->Prop
abbrev KS:=Sl->aA->Prop
abbrev dR:=Sl->aA->KD->Prop
abbrev vP:=Sl->aA->(Bool->aA->Prop)->Prop
abbrev oH:=Sl->aA->(List D->aA->Prop)->Prop
structure rq where
 nx:KS
 rt:KD
 bk:KS:=λ_ _=>False
 ct:KS:=λ_ _=>False
abbrev uf:=rq->Sl->aA->Prop
section
variable (K:Frag)(Y:jcT)(H:Hp)
def up (k:KD):VK:=λv H'=>∃Y' S' d,Gr Y H Y' H'/\R3 K Y' S' H'/\ki K Y' (res Y' H') d v/\k d S'
noncomputable def upT (k:Bool->aA->Prop):Bool->Hp->Prop:=λb H'=>∃Y' S',Gr Y H Y' H'/\R3 K Y' S' H'/\k b S'
noncomputable def upA (k:List D->aA->Prop):List V->Hp->Prop:=λv H'=>∃Y' S' d,Gr Y H Y' H'/\R3 K Y' S' H'/\fk K Y' (res Y' H') d v/\k d S'
def vQ (G:Hp)(Z:Sl)(U:St):Prop:=Z.length=U.length/\∀(i:Nat) d,Z[i]?=some (some d)->∃v,U[i]?=some (some v)/\ki K Y G d v
noncomputable def Mg (k:KS):St->Hp->Prop:=λU H'=>∃Y' S' Z,Gr Y H Y' H'/\R3 K Y' S' H'/\vQ K Y' (res Y' H') Z U/\k Z S'
structure DH (E:rq)(D:Ends):Prop where
 nx:∀U H',Mg K Y H E.nx U H'->D.nx U H'
 rt:∀v H',up K Y H E.rt v H'->D.rt v H'
 bk:∀U H',Mg K Y H E.bk U H'->D.bk U H'
 ct:∀U H',Mg K Y H E.ct U H'->D.ct U H'
end
section
variable (K:Frag)
def li (t:dR):TE:=λU H Q=>∃Y S Z k,R3 K Y S H/\vQ K Y (res Y H) Z U/\t Z S k/\∀v H',up K Y H k v H'->Q v H'
def PV (t:vP):TT:=λU H Q=>∃Y S Z k,R3 K Y S H/\vQ K Y (res Y H) Z U/\t Z S k/\∀v H',upT K Y H k v H'->Q v H'
def liA (t:oH):TA:=λU H Q=>∃Y S Z k,R3 K Y S H/\vQ K Y (res Y H) Z U/\t Z S k/\∀v H',upA K Y H k v H'->Q v H'
def liS (t:uf):TS:=λD U H=>∃Y S Z E,R3 K Y S H/\vQ K Y (res Y H) Z U/\t E Z S/\DH K Y H E D
end
section
variable {K:Frag}{Y Y':jcT}{H H':Hp}
theorem vQ.gr (g:Gr Y H Y' H'){Z:Sl}{U:St}(r:vQ K Y (res Y H) Z U):vQ K Y' (res Y' H') Z U:=
 ⟨r.1,λi d e=>let⟨v,e1,e2⟩:=r.2 i d e;⟨v,e1,e2.gr g⟩⟩
theorem vQ.set {G:Hp}{Z:Sl}{U:St}(r:vQ K Y G Z U){d:D}{v:V}(h:ki K Y G d v)(i:Nat):vQ K Y G (Z.set i (some d)) (U.set i (some v)):=by
 refine⟨by simp[r.1],λj e q=>?_⟩;by_cases hij:i=j
 .subst hij;have hl:i<Z.length:=by
   have:=(jao.mp q).1;simpa using this
  rw[jaG hl] at q;cases q;exact⟨v,by rw[jaG (by rw[<- r.1];exact hl)],h⟩
 .rw[jbG hij] at q;rw[jbG hij];exact r.2 j e q
theorem up.gr (g:Gr Y H Y' H'){k:KD}{v:V}{H2:Hp}:up K Y' H' k v H2->up K Y H k v H2:=λ⟨r,s,d,g2,x⟩=>⟨r,s,d,g.trans g2,x⟩
theorem upT.gr (g:Gr Y H Y' H'){k:Bool->aA->Prop}{v:Bool}{H2:Hp}:upT K Y' H' k v H2->upT K Y H k v H2:=λ⟨r,s,g2,x⟩=>⟨r,s,g.trans g2,x⟩
theorem Mg.gr (g:Gr Y H Y' H'){k:KS}{v:St}{H2:Hp}:Mg K Y' H' k v H2->Mg K Y H k v H2:=λ⟨r,s,d,g2,x⟩=>⟨r,s,d,g.trans g2,x⟩
theorem DH.gr (g:Gr Y H Y' H'){E:rq}{D:Ends}(u:DH K Y H E D):DH K Y' H' E D:=
 ⟨λU H2 h=>u.nx U H2 (h.gr g),λU H2 h=>u.rt U H2 (h.gr g),λU H2 h=>u.bk U H2 (h.gr g),λU H2 h=>u.ct U H2 (h.gr g)⟩
end
def QE (X:Cx)(e:Expr)(t:dR):Prop:=PE X e (li X.K t)
def QT (X:Cx)(e:Expr)(t:vP):Prop:=PT X e (PV X.K t)
def QW (X:Cx)(e:Expr)(t:vP):Prop:=PW X e (PV X.K t)
def QA (X:Cx)(e:jcU)(t:oH):Prop:=PA X e (liA X.K t)
def QS (X:Cx)(e:Stmt)(t:uf):Prop:=PS X e (liS X.K t)
def bN (X:Cx)(e:List Stmt)(t:uf):Prop:=bF X e (liS X.K t)
section
variable {X:Cx}{e:Expr}
theorem dD {t t':TE}(h:PE X e t)(m:∀U H Q,t' U H Q->t U H Q):PE X e t':=λvy s U H Q I q=>h vy s U H Q I (m _ _ _ q)
theorem JA {t t':TT}(h:PT X e t)(m:∀U H Q,t' U H Q->t U H Q):PT X e t':=λvy s U H Q I q=>h vy s U H Q I (m _ _ _ q)
theorem T3 {t t':TT}(h:PW X e t)(m:∀U H Q,t' U H Q->t U H Q):PW X e t':=λw vy s U H Q I q=>h w vy s U H Q I (m _ _ _ q)
theorem T7 {es:jcU}{t t':TA}(h:PA X es t)(m:∀U H Q,t' U H Q->t U H Q):PA X es t':=λp vy s U H Q I q=>h p vy s U H Q I (m _ _ _ q)
theorem qV {st:Stmt}{t t':TS}(h:PS X st t)(m:∀D U H,t' D U H->t D U H):PS X st t':=λvy s U H D I q=>h vy s U H D I (m _ _ _ q)
theorem Hf {st:List Stmt}{t t':TS}(h:bF X st t)(m:∀D U H,t' D U H->t D U H):bF X st t':=λvy s U H D I q=>h vy s U H D I (m _ _ _ q)
end
theorem bK.put {K:Frag}{G:Hp}{x:T}{v:V}(h:Rp K G x v):∀{l:List T}{vs:List V}{j:Nat},bK K G l vs->bK K G (l.set j x) (vs.set j v)
 |[],vs,j,e=>by unfold bK at e;subst e;exact .nil
 |y::r,vs,0,e=>by
  unfold bK at e;obtain⟨w,wr,e1,e2,e3⟩:=e;subst e1;exact .cons h e3
 |y::r,vs,j+1,e=>by
  unfold bK at e;obtain⟨w,wr,e1,e2,e3⟩:=e;subst e1;exact .cons e2 (bK.put h e3)
section
variable {K:Frag}{Y:jcT}{S:aA}{H:Hp}{k:KD}{Q:VK}
theorem lN:Le (res Y H) H:=λa o e=>(res_some e).2
theorem fin {d:D}{v:V}(R:R3 K Y S H)(hk:∀v H',up K Y H k v H'->Q v H')(r:ki K Y (res Y H) d v)(q:k d S):Q v H:=hk _ _ ⟨Y,S,d,.refl,R,r,q⟩
theorem Sn {l:List T}{vs:List V}(R:R3 K Y S H)(hk:∀v H',up K Y H k v H'->Q v H')(r:bK K (res Y H) l vs)(q:k (.tup l) S)(p:Addr)(hp:H p=none):Q (.ref p) (upd H p (.tup vs)):=by
 obtain⟨R',g,e⟩:=R.new (o:=.tup vs) hp;refine hk _ _ ⟨Y,S,.tup l,g,R',?_,q⟩;show Rp _ _ _ _;unfold Rp;exact⟨p,vs,M,e,r.le g.le⟩
theorem zf {l:List T}{vs:List V}(R:R3 K Y S H)(hk:∀v H',up K Y H k v H'->Q v H')(r:bK K (res Y H) l vs)(q:k (.lst l) S)(p:Addr)(hp:H p=none):Q (.ref p) (upd H p (.lst vs)):=by
 obtain⟨R',g,e⟩:=R.new (o:=.lst vs) hp;refine hk _ _ ⟨Y,S,.lst l,g,R',?_,q⟩;show Rp _ _ _ _;unfold Rp;exact⟨p,vs,M,e,r.le g.le⟩
theorem a0q {o:O}{h:HO}(R:R3 K Y S H)(hk:∀v H',up K Y H k v H'->Q v H')(p:Addr)(hp:H p=none)(r:Iz K (Y++[p]) (res Y H) (some h) o)(q:k (.ob S.length) (S++[o])):Q (.ref p) (upd H p h):=by
 obtain⟨R',g⟩:=R.push hp r;exact hk _ _ ⟨_,_,.ob S.length,g,R',⟨p,by rw[<- R.len];simp,M⟩,q⟩
theorem OJ {l:List T}{vs:List V}(R:R3 K Y S H)(hk:∀v H',up K Y H k v H'->Q v H')(r:bK K (res Y H) l vs)(q:k (.ob S.length) (S++[.lst l]))(p:Addr)(hp:H p=none):Q (.ref p) (upd H p (.lst vs)):=
 a0q (o:=.lst l) R hk p hp ⟨vs,M,r⟩ q
theorem OI {n:Nat}{a:Addr}{o:O}{h:HO}{d:D}{v:V}(R:R3 K Y S H)(hk:∀v H',up K Y H k v H'->Q v H')(ha:Y[n]?=some a)(r:Iz K Y (res Y H) (some h) o)(rv:ki K Y (res Y H) d v)(q:k d (S.set n o)):Q v (upd H a h):=by
 obtain⟨R',g⟩:=R.put ha r;exact hk _ _ ⟨_,_,d,g,R',rv.gr g,q⟩
end
noncomputable def lq (S:aA):D->Option (List T)
 |.t (.lst l)=>some l
 |.ob n=>match S[n]? with
  |some (.lst l)=>some l
  |_=>none
 |_=>none
noncomputable def sq (S:aA):D->Option (List T)
 |.t (.tup l)=>some l
 |.t (.GY l)=>some l
 |d=>lq S d
section
variable {K:Frag}{Y:jcT}{S:aA}{H:Hp}
theorem dm (R:R3 K Y S H):∀{d:D}{v:V}{l:List T},ki K Y (res Y H) d v->lq S d=some l->∃a vs,v=.ref a/\H a=some (.lst vs)/\bK K (res Y H) l vs
 |.t (.lst l'),v,l,r,e=>by
  have e:some l'=some l:=e;cases e;have r:Rp _ _ _ _:=r;unfold Rp at r;obtain⟨a,vs,e1,e2,e3⟩:=r;exact⟨a,vs,e1,lN _ _ e2,e3⟩
 |.t (.GY _),_,_,_,e=>nomatch e
 |.t (.v _),_,_,_,e=>nomatch e
 |.t (.tup _),_,_,_,e=>nomatch e
 |.t (.ins _ _ _),_,_,_,e=>nomatch e
 |.ob n,v,l,⟨a,ha,r⟩,e=>by
  have e:(match S[n]? with | some (.lst l)=>some l | _=>none)=some l:=e;cases q:S[n]? with
  |none=>rw[q] at e;cases e
  |some o=>
   rw[q] at e;cases o with
   |lst m=>
    have e:some m=some l:=e;cases e;obtain⟨vs,h1,h2⟩:=R.ok n a _ ha q;exact⟨a,vs,r,h1,h2⟩
   |ly m=>cases e
   |ins C ns m=>cases e
theorem uK (R:R3 K Y S H){d:D}{v:V}{l:List T}(r:ki K Y (res Y H) d v)(e:sq S d=some l):∃a vs,v=.ref a/\(mJ K H a vs\/ko K H a vs)/\bK K (res Y H) l vs:=by
 unfold sq at e;split at e
 .cases e;have r:Rp _ _ _ _:=r;unfold Rp at r;obtain⟨a,vs,e1,e2,e3⟩:=r;exact⟨a,vs,e1,.inr (.of (lN _ _ e2)),e3⟩
 .cases e;have r:Rp _ _ _ _:=r;unfold Rp at r;obtain⟨a,vs,e1,e2,e3⟩:=r;exact⟨a,vs,e1,.inl (GU lN e2),e3⟩
 .obtain⟨a,vs,h1,h2,h3⟩:=dm R r e;exact⟨a,vs,h1,.inl (.of h2),h3⟩
theorem dZ {v:V}{l:List T}(r:ki K Y (res Y H) (.tup l) v):∃a vs,v=.ref a/\H a=some (.tup vs)/\bK K (res Y H) l vs:=by
 have r:Rp _ _ _ _:=r;unfold Rp at r;obtain⟨a,vs,e1,e2,e3⟩:=r;exact⟨a,vs,e1,lN _ _ e2,e3⟩
theorem bq {G:Hp}{x w:V}(r:ki K Y G (.t (.v x)) w):w=x:=by
 have r:Rp _ _ _ _:=r;unfold Rp at r;exact r
theorem bS {G:Hp}{x:V}:ki K Y G (.t (.v x)) x:=by show Rp _ _ _ _;unfold Rp;rfl
end
section
variable {X:Cx}{a b e:Expr}{ta tb:dR}{pos:Pos}
def L4 {α:Type}:Option α->(α->Prop)->Prop
 |some a,f=>f a
 |none,_=>False
theorem oe {α:Type}{o:Option α}{a:α}{f:α->Prop}(h:o=some a)(hk:f a):L4 o f:=by rw[h];exact hk
theorem oz {α:Type}{o:Option α}{f:α->Prop}(h:L4 o f):∃a,o=some a/\f a:=by
 cases o with
 |none=>exact h.elim
 |some a=>exact⟨a,M,h⟩
def cnd:Bool->Prop->Prop
 |true,p=>p
 |false,_=>False
theorem zh {b:Bool}{p:Prop}(h:cnd b p):b=true/\p:=by
 cases b with
 |true=>exact⟨M,h⟩
 |false=>exact h.elim
theorem cn {b:Bool}{p:Prop}(e:b=true)(h:p):cnd b p:=by rw[e];exact h
def SJ (Z:Sl)(i:Nat)(S:aA)(k:KD):Prop:=L4 Z[i]? λo=>L4 o λd=>k d S
theorem SJ.of {Z:Sl}{i:Nat}{S:aA}{k:KD}(h:SJ Z i S k):∃d,Z[i]?=some (some d)/\k d S:=by
 obtain⟨o,e,h⟩:=oz h;obtain⟨d,rfl,h⟩:=oz h;exact⟨d,e,h⟩
def vB (i:Nat):dR:=λZ S k=>SJ Z i S k
def Mv (d:D):dR:=λ_ S k=>k d S
theorem q_v (i:Nat){x:Str}{pos:Pos}(hN:autoParam (X.N[i]?=some x) zi)(hv:Vis X.env.scope x:=by first | exact Or.inl rfl | exact Or.inr (Or.inl M) | exact Or.inr (Or.inr M))(hd:autoParam ((x==("__debug__":Str))=false) zn)
  (hcd:autoParam ((x==("__classdict__":Str))=false) zn):QE X (.Name x pos) (vB i):=
 dD (VT hN hv hd hcd) (by
  rintro U H Q ⟨Y,S,Z,k,R,D,q,hk⟩;obtain⟨d,e,q⟩:=q.of;obtain⟨v,e1,e2⟩:=D.2 i d e;exact⟨v,e1,fin R hk e2 q⟩)
theorem iW {v:V}(h:PE X e (tC v)):QE X e (Mv (.t (.v v))):=dD h (by rintro U H Q ⟨Y,S,Z,k,R,D,q,hk⟩;exact fin R hk bS q)
theorem aH {i j pos}:QE X (.Constant (.int i) j pos) (Mv (.int i)):=iW VW
theorem a2f {b j pos}:QE X (.Constant (.bool b) j pos) (Mv (.bl b)):=iW Zo
theorem TY {j pos}:QE X (.Constant .none j pos) (Mv .eN):=iW VV
theorem aX {x j pos}:QE X (.Constant (.str x) j pos) (Mv (.str x)):=iW Nn
abbrev Az:=D->D->aA->KD->Prop
def liR (K:Frag)(r:Az):R2:=λx y H Q=>∃Y S a b k,R3 K Y S H/\ki K Y (res Y H) a x/\ki K Y (res Y H) b y/\r a b S k/\∀v H',up K Y H k v H'->Q v H'
def D6 (X:Cx)(f:Value->Value->Sem Value)(r:Az):Prop:=n5 X f (liR X.K r)
theorem i9 {f:Value->Value->Sem Value}{r r':R2}(h:n5 X f r)(m:∀x y H Q,r' x y H Q->r x y H Q):n5 X f r':=λvy s U H x y v u Q I rx ry q=>h vy s U H x y v u Q I rx ry (m _ _ _ _ q)
def uF (r:Az)(ta tb:dR):dR:=λZ S k=>ta Z S λx S1=>tb Z S1 λy S2=>r x y S2 k
theorem xr {r:Az}:∀U H Q,li X.K (uF r ta tb) U H Q->Yx (liR X.K r) (li X.K ta) (li X.K tb) U H Q:=(by rintro U H Q ⟨Y,S,Z,k,R,D,q,hk⟩;exact  ⟨Y,S,Z,_,R,D,q,(by rintro v H1 ⟨Y1,S1,d1,g1,R1,r1,q1⟩;exact⟨Y1,S1,Z,_,R1,D.gr g1,q1,(by rintro w H2 ⟨Y2,S2,d2,g2,R2,r2,q2⟩;exact   ⟨Y2,S2,d1,d2,k,R2,r1.gr g2,r2,q2,λz H3 u=>hk z H3 (u.gr (g1.trans g2))⟩)⟩)⟩)
theorem bh {op:Operator}{r:Az}(ho:D6 X (binaryOp op) r)(ha:QE X a ta)(hb:QE X b tb):QE X (.BinOp a op b pos) (uF r ta tb):=dD (T6 ho ha hb) xr
theorem ER {op:CmpOp}{r:Az}(ho:D6 X (compareOp op) r)(ha:QE X a ta)(hb:QE X b tb)(hm:behindInMarks op b=false):QE X (.Compare a [op] [b] pos) (uF r ta tb):=dD (Rr ho ha hb hm) xr
inductive BlR (d:D) (S:aA) (k:Bool->aA->Prop):Prop
 |mk (b:Bool) (h:d=.bl b) (hk:k b S)
def oN (t:dR):vP:=λZ S k=>t Z S λd S1=>BlR d S1 k
theorem uC {t:dR}{t':TE}(m:∀U H Q,li X.K t U H Q->t' U H Q):∀U H Q,PV X.K (oN t) U H Q->S9 t' U H Q:=(by rintro U H Q ⟨Y,S,Z,k,R,D,q,hk⟩;exact  m _ _ _ ⟨Y,S,Z,_,R,D,q,(by
  rintro v H1 ⟨Y1,S1,d1,g1,R1,r1,b,e,q1⟩;subst e;exact⟨b,bq r1,hk _ _ ⟨Y1,S1,g1,R1,q1⟩⟩)⟩)
theorem aE {op:CmpOp}{r:Az}(ho:D6 X (compareOp op) r)(ha:QE X a ta)(hb:QE X b tb)(hm:behindInMarks op b=false):QT X (.Compare a [op] [b] pos) (oN (uF r ta tb)):=JA (Q9 ho ha hb hm) (uC xr)
end
inductive Gj (a b:D) (S:aA) (k:KD):Prop
 |mk (l m:List T) (h:lq S a=some l) (h1:lq S b=some m) (h2:l.length+m.length<=sizeLine) (hk:k (.lst (l++m)) S)
def SE:Az:=λa b S k=>a.iD.elim (a.sD.elim (a.tD.elim (Gj a b S k) λx=>b.tD.elim (Gj a b S k) λy=>x.length+y.length<=sizeLine/\k (.tup (x++y)) S) λx=>b.sD.elim (Gj a b S k) λy=>x.length+y.length<=sizeLine/\k (.str (x++y)) S) λi=>b.iD.elim (Gj a b S k) λj=>k (.int (i+j)) S
def Qv:Az
 |.t (.v (.int i)),.t (.v (.int j)),S,k=>k (.int (i - j)) S
 |_,_,_,_=>False
def ZL:Az:=λa b S k=>b.iD.elim False λj=>a.iD.elim (∃l,lq S a=some l/\-(2 ^ 63)<=j/\j<2 ^ 63/\l.length*j.toNat<=sizeLine/\k (.lst (List.replicate j.toNat l).flatten) S) λi=>SX i j/\k (.int (i*j)) S
def OL:Az
 |.t (.v (.int i)),.t (.v (.int j)),S,k=>a0X i j/\k (.int (i / j)) S
 |_,_,_,_=>False
def Wn:Az
 |.t (.v (.int i)),.t (.v (.int j)),S,k=>0<j/\k (.int (i % j)) S
 |_,_,_,_=>False
def O3 (f:Int->Int->Bool):Az
 |.t (.v (.int i)),.t (.v (.int j)),S,k=>k (.bl (f i j)) S
 |_,_,_,_=>False
mutual
def Fl:Nat->T->Prop
 |_,.v x=>gQ x=true
 |0,_=>False
 |n+1,.tup l=>Mb n l
 |n+1,.lst l=>Mb n l
 |_+1,_=>False
def Mb:Nat->List T->Prop
 |_,[]=>True
 |n,x::r=>Fl n x/\Mb n r
end
def ScR (x y:V)(p:Prop):Prop:=cnd (QC x y) p
def eq3 (n:Nat)(neg:Bool):Az
 |.t (.v x),.t (.v y),S,k=>ScR x y (k (.bl (xor neg (decide (x=y)))) S)
 |.t (.tup l),.t (.tup m),S,k=>(l=m/\Mb n l/\k (.bl (!neg)) S)\/(m=[]/\k (.bl (xor neg (decide (l=[])))) S)
 |a,b,S,k=>∃l m,lq S a=some l/\lq S b=some m/\((l=m/\Mb n l/\k (.bl (!neg)) S)\/(m=[]/\k (.bl (xor neg (decide (l=[])))) S))
noncomputable def flT:T->Option V
 |.v x=>if gQ x=true then some x else none
 |_=>none
noncomputable def ze:List T->Option (List V)
 |[]=>some []
 |x::r=>match flT x,ze r with
  |some v,some vs=>some (v::vs)
  |_,_=>none
inductive in3 (neg:Bool) (a b:D) (S:aA) (k:KD):Prop
 |mk (x:V) (l:List T) (vs:List V) (h:a=.t (.v x)) (h1:gQ x=true) (h2:sq S b=some l) (h3:ze l=some vs) (hk:k (.bl (xor neg (R8 x vs))) S)
section
variable {X:Cx}
theorem bK.rep {K:Frag}{G:Hp}{l:List T}{vs:List V}(r:bK K G l vs):∀n:Nat,bK K G (List.replicate n l).flatten (List.replicate n vs).flatten
 |0=>.nil
 |n+1=>by
  rw[jbV,jbV,jbb,jbb];exact r.app (bK.rep r n)
theorem bK.d9 {K:Frag}{G:Hp}{l:List T}{vs:List V}(r:bK K G l vs):vs=[]↔l=[]:=by
 have:=r.len;constructor
 .intro e;subst e;exact jbu.mp this
 .intro e;subst e;exact jbu.mp this.symm
theorem zd {K:Frag}{G:Hp}:∀{l:List T}{us vs:List V},ze l=some vs->bK K G l us->us=vs/\vs.all gQ=true
 |[],us,vs,e,r=>by
  unfold bK at r;have e:some []=some vs:=e;cases e;exact⟨r,M⟩
 |x::l,us,vs,e,r=>by
  unfold bK at r;obtain⟨v,vr,e1,e2,e3⟩:=r;cases x with
  |v y=>
   by_cases hf:gQ y=true
   .have q1:flT (.v y)=some y:=jae hf;cases q2:ze l with
    |none=>unfold ze at e;rw[q1,q2] at e;cases e
    |some vs'=>
     unfold ze at e;rw[q1,q2] at e;have e:some (y::vs')=some vs:=e;cases e;obtain⟨h1,h2⟩:=zd q2 e3;subst h1;unfold Rp at e2;subst e2;exact⟨e1,by rw[List.all_cons,hf,h2];rfl⟩
   .have q1:flT (.v y)=none:=jad hf;unfold ze at e;rw[q1] at e;cases e
  |_=>unfold ze at e;cases e
end
section
variable {K:Frag}{H:Hp}{G:Hp}
mutual
theorem Wu (le:Le G H):∀(n:Nat){x:T}{v w:V},Fl n x->Rp K G x v->Rp K G x w->IB K H n v w
 |n,.v y,v,w,f,r1,r2=>by
  unfold Rp at r1 r2;unfold Fl at f;subst r1;subst r2;cases n with
  |zero=>exact⟨f,M⟩
  |succ n=>exact .inl ⟨f,M⟩
 |n+1,.tup l,v,w,f,r1,r2=>by
  unfold Rp at r1 r2;unfold Fl at f;obtain⟨a,vs,e1,e2,e3⟩:=r1;obtain⟨b,ws,e4,e5,e6⟩:=r2;exact .inr ⟨a,b,vs,ws,e1,e4,.inr ⟨.of (le _ _ e2),.of (le _ _ e5)⟩,rO le n f e3 e6⟩
 |n+1,.lst l,v,w,f,r1,r2=>by
  unfold Rp at r1 r2;unfold Fl at f;obtain⟨a,vs,e1,e2,e3⟩:=r1;obtain⟨b,ws,e4,e5,e6⟩:=r2;exact .inr ⟨a,b,vs,ws,e1,e4,.inl ⟨.of (le _ _ e2),.of (le _ _ e5)⟩,rO le n f e3 e6⟩
 |n+1,.GY l,v,w,f,r1,r2=>by unfold Fl at f;exact f.elim
 |n+1,.ins C ns l,v,w,f,r1,r2=>by unfold Fl at f;exact f.elim
 |0,.tup l,v,w,f,r1,r2=>by unfold Fl at f;exact f.elim
 |0,.lst l,v,w,f,r1,r2=>by unfold Fl at f;exact f.elim
 |0,.GY l,v,w,f,r1,r2=>by unfold Fl at f;exact f.elim
 |0,.ins C ns l,v,w,f,r1,r2=>by unfold Fl at f;exact f.elim
theorem rO (le:Le G H):∀(n:Nat){l:List T}{vs ws:List V},Mb n l->bK K G l vs->bK K G l ws->Paired (IB K H n) vs ws
 |n,[],vs,ws,f,r1,r2=>by
  unfold bK at r1 r2;subst r1;subst r2;exact .nil
 |n,x::l,vs,ws,f,r1,r2=>by
  unfold bK at r1 r2;unfold Mb at f;obtain⟨v,vr,e1,e2,e3⟩:=r1;obtain⟨w,wr,e4,e5,e6⟩:=r2;subst e1;subst e4;exact .cons (Wu le n f.1 e2 e5) (rO le n f.2 e3 e6)
end
end
section
variable {X:Cx}
theorem Yu {A G:Prop}(h:A->G)(m:(A->G)->G):G:=m h
theorem aS:D6 X (binaryOp .Add) SE:=by
 refine i9 ((V9.or (Hj.or (Ry.or NF)))) ?_;rintro x y H Q ⟨Y,S,a,b,k,R,ra,rb,q,hk⟩;refine Yu (A:=Gj a b S k) ?_ λdl=>?_
 .rintro⟨l,m,h1,h2,h3,h4⟩;obtain⟨p1,vs,e1,e2,e3⟩:=dm R ra h1;obtain⟨p2,ws,f1,f2,f3⟩:=dm R rb h2;exact .inr (.inr (.inr ⟨p1,p2,vs,ws,e1,f1,e2,f2,by rw[<- e3.len,<- f3.len];exact h3,λp hp=>zf R hk (e3.app f3) h4 p hp⟩))
 rcases OQ q with q | ⟨i,ha,q⟩
 .rcases OQ q with q | ⟨x,ha,q⟩
  .rcases OQ q with q | ⟨x,ha,q⟩
   .exact dl q
   rcases OQ q with q | ⟨y,hb,q⟩
   .exact dl q
   cases D.Ti ha;cases D.Ti hb;obtain⟨p1,vs,e1,e2,e3⟩:=dZ ra;obtain⟨p2,ws,f1,f2,f3⟩:=dZ rb;refine .inr (.inr (.inl ⟨p1,p2,vs,ws,e1,f1,.of e2,.of f2,by rw[<- e3.len,<- f3.len];exact q.1,λz=>?_,λ_ z=>?_,λ_ _ p hp=>Sn R hk (e3.app f3) q.2 p hp⟩))
   .have z:=e3.d9.mp z;subst z;rw[<- f1];exact fin R hk rb q.2
   .have z:=f3.d9.mp z;subst z;rw[<- e1];refine fin R hk ra ?_;have:=q.2;rwa[jaJ] at this
  rcases OQ q with q | ⟨y,hb,q⟩
  .exact dl q
  cases D.Jv ha;cases D.Jv hb;exact .inr (.inl ⟨_,_,bq ra,bq rb,q.1,fin R hk bS q.2⟩)
 rcases OQ q with q | ⟨j,hb,q⟩
 .exact dl q
 cases D.Bp ha;cases D.Bp hb;exact .inl ⟨_,_,bq ra,bq rb,fin R hk bS q⟩
theorem NP:D6 X (binaryOp .Sub) Qv:=by
 refine i9 V2 ?_;rintro x y H Q ⟨Y,S,a,b,k,R,ra,rb,q,hk⟩;unfold Qv at q;split at q
 .exact⟨_,_,bq ra,bq rb,fin R hk bS q⟩
 .exact q.elim
theorem NQ:D6 X (binaryOp .Mult) ZL:=by
 refine i9 (V5.or V3) ?_;rintro x y H Q ⟨Y,S,a,b,k,R,ra,rb,q,hk⟩;rcases OQ q with q | ⟨j,hb,q2⟩
 .exact q.elim
 cases D.Bp hb;rcases OQ q2 with⟨l,h1,h2,h3,h4,h5⟩ | ⟨i,ha,q⟩
 .obtain⟨p1,vs,e1,e2,e3⟩:=dm R ra h1;exact .inr ⟨p1,_,vs,e1,bq rb,e2,h2,h3,by rw[<- e3.len];exact h4,λp hp=>zf R hk (e3.rep _) h5 p hp⟩
 cases D.Bp ha;exact .inl ⟨_,_,bq ra,bq rb,q.1,fin R hk bS q.2⟩
theorem NS:D6 X (binaryOp .FloorDiv) OL:=by
 refine i9 Rx ?_;rintro x y H Q ⟨Y,S,a,b,k,R,ra,rb,q,hk⟩;unfold OL at q;split at q
 .exact⟨_,_,bq ra,bq rb,q.1,fin R hk bS q.2⟩
 .exact q.elim
theorem NR:D6 X (binaryOp .Mod) Wn:=by
 refine i9 V6 ?_;rintro x y H Q ⟨Y,S,a,b,k,R,ra,rb,q,hk⟩;unfold Wn at q;split at q
 .exact⟨_,_,bq ra,bq rb,q.1,fin R hk bS q.2⟩
 .exact q.elim
theorem T9 {op:CmpOp}{f:Int->Int->Bool}(h:n5 X (compareOp op) (Vp λi j=>.bl (f i j))):D6 X (compareOp op) (O3 f):=by
 refine i9 h ?_;rintro x y H Q ⟨Y,S,a,b,k,R,ra,rb,q,hk⟩;unfold O3 at q;split at q
 .exact⟨_,_,bq ra,bq rb,fin R hk bS q⟩
 .exact q.elim
theorem Wd:D6 X (compareOp .Lt) (O3 λi j=>decide (i<j)):=T9 Zr
theorem Fg:D6 X (compareOp .Gt) (O3 λi j=>decide (j<i)):=T9 Zs
def QL (K:Frag):R2:=λx y H Q=>∃a b xs,x=.ref a/\y=.ref b/\ko K H a xs/\ko K H b []/\Q (.bl (!decide (xs=[]))) H
theorem K4 (hu:X.A.units<cLine):n5 X (compareOp .NotEq) (QL X.K):=by
 intro vy s U H x y v u Q I rx ry h;obtain⟨a,b,xs,rfl,rfl,ha,hb,q⟩:=h;cases rx;cases ry;obtain⟨us,r1,p1,_⟩:=I.tuple ha;obtain⟨vs,r2,p2,_⟩:=I.tuple hb;cases r2;refine SeqAt.RcNeAt.tuples (A:=X.A) (e:=λ_=>true) (show s.heap.IsTuple a us.toArray from p1) (show s.heap.IsTuple b ([]:jcS).toArray from p2) hu (λj h1 h2=>absurd h2 (by simp)) _ _ _ _ ?_;have e:(!((List.range (min us.toArray.size ([]:jcS).toArray.size)).all (λ_=>true)&&us.toArray.size==([]:jcS).toArray.size))=!decide (xs=[]):=by
  have l:=r1.length;rw[pP,Bool.true_and];by_cases hx:xs=[]
  .subst hx;cases r1;simp
  .rw[jat hx];have:us≠[]:=λz=>hx (by rw[z] at l;exact jbu.mp l);cases us with
   |nil=>exact absurd rfl this
   |cons _ _=>simp
 rw[e];exact⟨.bl _,H,I,M,q⟩
theorem cU (n:Nat)(hu:X.A.units+1+n<cLine):D6 X (compareOp .Eq) (eq3 n false):=by
 have Z3:X.A.units<cLine:=by omega
 refine i9 (Zt.or ((V8 n hu).or ((ND Z3).or (K6 Z3)))) ?_;rintro x y H Q ⟨Y,S,a,b,k,R,ra,rb,q,hk⟩;unfold eq3 at q;split at q
 .rw[bq ra,bq rb];refine .inl ⟨(zh q).1,fin R hk bS ?_⟩;have:=(zh q).2;rwa[jb0] at this
 .obtain⟨p1,vs,e1,e2,e3⟩:=dZ ra;obtain⟨p2,ws,f1,f2,f3⟩:=dZ rb;rcases q with⟨z,h1,h2⟩ | ⟨z,h2⟩
  .subst z;exact .inr (.inl ⟨p1,p2,vs,ws,e1,f1,.inr ⟨.of e2,.of f2⟩,rO lN n h1 e3 f3,fin R hk bS h2⟩)
  .subst z;have w:=f3.d9.mpr rfl;subst w;refine .inr (.inr (.inl ⟨p1,p2,vs,e1,f1,.of e2,.of f2,?_⟩));rw[jb0] at h2;rw[jbX.mpr e3.d9];exact fin R hk bS h2
 .obtain⟨l,m,h1,h2,q⟩:=q;obtain⟨p1,vs,e1,e2,e3⟩:=dm R ra h1;obtain⟨p2,ws,f1,f2,f3⟩:=dm R rb h2;rcases q with⟨z,g1,g2⟩ | ⟨z,g2⟩
  .subst z;exact .inr (.inl ⟨p1,p2,vs,ws,e1,f1,.inl ⟨.of e2,.of f2⟩,rO lN n g1 e3 f3,fin R hk bS g2⟩)
  .subst z;have w:=f3.d9.mpr rfl;subst w;refine .inr (.inr (.inr ⟨p1,p2,vs,e1,f1,.of e2,.of f2,?_⟩));rw[jb0] at g2;rw[jbX.mpr e3.d9];exact fin R hk bS g2
theorem Ff (n:Nat)(hu:X.A.units+1+n<cLine):D6 X (compareOp .NotEq) (eq3 n true):=by
 have Z3:X.A.units<cLine:=by omega
 refine i9 (Zq.or ((V4 n hu).or ((K4 Z3).or (NC Z3)))) ?_;rintro x y H Q ⟨Y,S,a,b,k,R,ra,rb,q,hk⟩;unfold eq3 at q;split at q
 .rw[bq ra,bq rb];refine .inl ⟨(zh q).1,fin R hk bS ?_⟩;have:=(zh q).2;rwa[Bool.true_xor] at this
 .obtain⟨p1,vs,e1,e2,e3⟩:=dZ ra;obtain⟨p2,ws,f1,f2,f3⟩:=dZ rb;rcases q with⟨z,h1,h2⟩ | ⟨z,h2⟩
  .subst z;exact .inr (.inl ⟨p1,p2,vs,ws,e1,f1,.inr ⟨.of e2,.of f2⟩,rO lN n h1 e3 f3,fin R hk bS h2⟩)
  .subst z;have w:=f3.d9.mpr rfl;subst w;refine .inr (.inr (.inl ⟨p1,p2,vs,e1,f1,.of e2,.of f2,?_⟩));rw[Bool.true_xor] at h2;rw[jbX.mpr e3.d9];exact fin R hk bS h2
 .obtain⟨l,m,h1,h2,q⟩:=q;obtain⟨p1,vs,e1,e2,e3⟩:=dm R ra h1;obtain⟨p2,ws,f1,f2,f3⟩:=dm R rb h2;rcases q with⟨z,g1,g2⟩ | ⟨z,g2⟩
  .subst z;exact .inr (.inl ⟨p1,p2,vs,ws,e1,f1,.inl ⟨.of e2,.of f2⟩,rO lN n g1 e3 f3,fin R hk bS g2⟩)
  .subst z;have w:=f3.d9.mpr rfl;subst w;refine .inr (.inr (.inr ⟨p1,p2,vs,e1,f1,.of e2,.of f2,?_⟩));rw[Bool.true_xor] at g2;rw[jbX.mpr e3.d9];exact fin R hk bS g2
theorem ZA:D6 X (compareOp .In) (in3 false):=by
 refine i9 K5 ?_;rintro x y H Q ⟨Y,S,a,b,k,R,ra,rb,⟨z,l,vs,h1,h2,h3,h4,q⟩,hk⟩;subst h1;obtain⟨p,us,e1,e2,e3⟩:=uK R rb h3;obtain⟨f1,f2⟩:=zd h4 e3;subst f1;rw[bq ra];rw[jb0] at q;exact⟨p,us,e1,e2,h2,f2,fin R hk bS q⟩
theorem JJ:D6 X (compareOp .NotIn) (in3 true):=by
 refine i9 CI ?_;rintro x y H Q ⟨Y,S,a,b,k,R,ra,rb,⟨z,l,vs,h1,h2,h3,h4,q⟩,hk⟩;subst h1;obtain⟨p,us,e1,e2,e3⟩:=uK R rb h3;obtain⟨f1,f2⟩:=zd h4 e3;subst f1;rw[bq ra];rw[Bool.true_xor] at q;exact⟨p,us,e1,e2,h2,f2,fin R hk bS q⟩
end
end L3
namespace L3
open PySem L2 Hw
section
variable {X:Cx}{a b c e:Expr}{ta tb:dR}{tA tB:vP}{rest:jcU}{pos:Pos}
def YK (t u:vP):vP:=λZ S k=>t Z S λc S1=>if c=true then u Z S1 k else k false S1
def a1M (t u:vP):vP:=λZ S k=>t Z S λc S1=>if c=true then k true S1 else u Z S1 k
def Yy (t:vP):vP:=λZ S k=>t Z S λc S1=>k (!c) S1
theorem M9 (ha:QT X a tA)(hb:QW X (.BoolOp .And (b::rest) pos) tB):QW X (.BoolOp .And (a::b::rest) pos) (YK tA tB):=
 T3 (VF ha hb) (by rintro U H Q ⟨Y,S,Z,k,R,D,q,hk⟩;exact⟨Y,S,Z,_,R,D,q,(by
  rintro c H1 ⟨Y1,S1,g1,R1,q1⟩;cases c with
  |true=>exact⟨Y1,S1,Z,k,R1,D.gr g1,q1,λz H2 u=>hk z H2 (u.gr g1)⟩
  |false=>exact hk _ _ ⟨Y1,S1,g1,R1,q1⟩)⟩)
theorem EO (ha:QT X a tA)(hb:QW X (.BoolOp .Or (b::rest) pos) tB):QW X (.BoolOp .Or (a::b::rest) pos) (a1M tA tB):=
 T3 (Zi ha hb) (by rintro U H Q ⟨Y,S,Z,k,R,D,q,hk⟩;exact⟨Y,S,Z,_,R,D,q,(by
  rintro c H1 ⟨Y1,S1,g1,R1,q1⟩;cases c with
  |false=>exact⟨Y1,S1,Z,k,R1,D.gr g1,q1,λz H2 u=>hk z H2 (u.gr g1)⟩
  |true=>exact hk _ _ ⟨Y1,S1,g1,R1,q1⟩)⟩)
theorem Jy (ha:QT X a tA):QW X (.BoolOp .And [a] pos) tA:=Q6 ha
theorem yu (ha:QT X a tA):QW X (.BoolOp .Or [a] pos) tA:=VE ha
theorem qw (h:QW X e tA):QT X e tA:=h.pt
theorem G8 (ha:QT X a tA):QT X (.UnaryOp .Not a pos) (Yy tA):=
 JA (VH ha) (by rintro U H Q ⟨Y,S,Z,k,R,D,q,hk⟩;exact⟨Y,S,Z,_,R,D,q,(by rintro c H1 ⟨Y1,S1,g1,R1,q1⟩;exact hk _ _ ⟨Y1,S1,g1,R1,q1⟩)⟩)
def a1R (t:vP)(ta tb:dR):dR:=λZ S k=>t Z S λc S1=>if c=true then ta Z S1 k else tb Z S1 k
theorem a2e (hc:QT X c tA)(ha:QE X a ta)(hb:QE X b tb):QE X (.IfExp c a b pos) (a1R tA ta tb):=
 dD (Nq hc ha hb) (by rintro U H Q ⟨Y,S,Z,k,R,D,q,hk⟩;exact⟨Y,S,Z,_,R,D,q,(by
  rintro c H1 ⟨Y1,S1,g1,R1,q1⟩;cases c with
  |true=>exact⟨Y1,S1,Z,k,R1,D.gr g1,q1,λz H2 u=>hk z H2 (u.gr g1)⟩
  |false=>exact⟨Y1,S1,Z,k,R1,D.gr g1,q1,λz H2 u=>hk z H2 (u.gr g1)⟩)⟩)
theorem fu {t:dR}(h:QE X e t)(he:autoParam (∀whole,isTrue e X.env whole=(do let v <- whole;standAt e.pos;holding [v] (truthy v))) zt):QT X e (oN t):=JA (VG h he) (uC λ_ _ _ z=>z)
def vD:oH:=λ_ S k=>k [] S
def oO (ta:dR)(tr:oH):oH:=λZ S k=>ta Z S λx S1=>tr Z S1 λxs S2=>k (x::xs) S2
variable {es:jcU}{te:dR}{t:oH}
theorem af:QA X [] vD:=T7 rL (by rintro U H Q ⟨Y,S,Z,k,R,D,q,hk⟩;exact hk _ _ ⟨Y,S,[],.refl,R,.nil,q⟩)
theorem qa (ha:QE X e te)(hr:QA X es t)(h:autoParam (notStar e=true) zi):QA X (e::es) (oO te t):=
 T7 (mD ha hr h) (by rintro U H Q ⟨Y,S,Z,k,R,D,q,hk⟩;exact⟨Y,S,Z,_,R,D,q,(by rintro v H1 ⟨Y1,S1,d,g1,R1,r1,q1⟩;exact   ⟨Y1,S1,Z,_,R1,D.gr g1,q1,(by rintro w H2 ⟨Y2,S2,ds,g2,R2,r2,q2⟩;exact hk _ _ ⟨Y2,S2,d::ds,g1.trans g2,R2,.cons (r1.gr g2) r2,q2⟩)⟩)⟩)
noncomputable def ts?:List D->Option (List T)
 |[]=>some []
 |.t x::r=>match ts? r with
  |some l=>some (x::l)
  |none=>none
 |.ob _::_=>none
theorem xS {K:Frag}{Y:jcT}{G:Hp}:∀{ds:List D}{l:List T}{vs:List V},ts? ds=some l->fk K Y G ds vs->bK K G l vs
 |[],l,_,e,.nil=>by
  have e:some []=some l:=e;cases e;exact .nil
 |.t x::r,l,_,e,.cons h t=>by
  cases q:ts? r with
  |none=>unfold ts? at e;rw[q] at e;cases e
  |some m=>
   unfold ts? at e;rw[q] at e;have e:some (x::m)=some l:=e;cases e;exact .cons h (xS q t)
 |.ob n::r,l,_,e,.cons h t=>by cases(show none=some l from e)
def Pq (ds:List D)(f:List T->Prop):Prop:=L4 (ts? ds) λl=>cnd (Nat.ble l.length 1000) (f l)
theorem Pq.of {ds:List D}{f:List T->Prop}(h:Pq ds f):∃l,ts? ds=some l/\l.length<=sizeLine/\f l:=by
 obtain⟨l,e,h⟩:=oz h;obtain⟨b,h⟩:=zh h;exact⟨l,e,jaR (Nat.le_of_ble_eq_true b) (by rw[ja7];decide),h⟩
def IW (t:oH):dR:=λZ S k=>t Z S λds S1=>Pq ds λl=>k (.tup l) S1
def Tg (t:oH):dR:=λZ S k=>t Z S λds S1=>Pq ds λl=>k (.lst l) S1
def Tf (t:oH):dR:=λZ S k=>t Z S λds S1=>Pq ds λl=>k (.ob S1.length) (S1++[.lst l])
theorem bx {x1}(h:QA X es t):QE X (.Tuple es x1 pos) (IW t):=
 dD (VU h) (by rintro U H Q ⟨Y,S,Z,k,R,D,q,hk⟩;exact⟨Y,S,Z,_,R,D,q,(by
  rintro vs H1 ⟨Y1,S1,ds,g1,R1,r1,q1⟩;obtain⟨l,e,z,q1⟩:=q1.of;have r2:=xS e r1;exact⟨by rw[<- r2.len];exact z,Sn R1 (λv H' u=>hk v H' (u.gr g1)) r2 q1⟩)⟩)
theorem cz (h:QA X es t):QE X (.List es pos) (Tg t):=
 dD (CG h) (by rintro U H Q ⟨Y,S,Z,k,R,D,q,hk⟩;exact⟨Y,S,Z,_,R,D,q,(by
  rintro vs H1 ⟨Y1,S1,ds,g1,R1,r1,q1⟩;obtain⟨l,e,z,q1⟩:=q1.of;have r2:=xS e r1;exact⟨by rw[<- r2.len];exact z,zf R1 (λv H' u=>hk v H' (u.gr g1)) r2 q1⟩)⟩)
theorem gI (h:QA X es t):QE X (.List es pos) (Tf t):=
 dD (CG h) (by rintro U H Q ⟨Y,S,Z,k,R,D,q,hk⟩;exact⟨Y,S,Z,_,R,D,q,(by
  rintro vs H1 ⟨Y1,S1,ds,g1,R1,r1,q1⟩;obtain⟨l,e,z,q1⟩:=q1.of;have r2:=xS e r1;exact⟨by rw[<- r2.len];exact z,OJ R1 (λv H' u=>hk v H' (u.gr g1)) r2 q1⟩)⟩)
end
noncomputable def iq (S:aA):D->Option (Addr×jcR×List D)
 |.t (.ins C ns l)=>some (C,ns,l.map .t)
 |.ob n=>match S[n]? with
  |some (.ins C ns l)=>some (C,ns,l)
  |_=>none
 |_=>none
theorem fk.len {K:Frag}{Y:jcT}{G:Hp}{l:List D}{vs:List V}(r:fk K Y G l vs):l.length=vs.length:=jbM r
theorem fk.look {K:Frag}{Y:jcT}{G:Hp}:∀{ns:jcR}{l:List D}{vs:List V}{f:Str}{x:D},fk K Y G l vs->(ns.zip l).lookup f=some x->∃v,(ns.zip vs).lookup f=some v/\ki K Y G x v
 |[],l,vs,f,x,_,k=>by simp at k
 |n::ns,[],vs,f,x,_,k=>by simp at k
 |n::ns,y::l,_,f,x,.cons (b:=v) (l₂:=vr) e2 e3,k=>by
  rw[jcu,List.lookup_cons] at k;rw[jcu,List.lookup_cons];cases q:(f==n) with
  |true=>rw[q] at k;cases k;exact⟨v,M,e2⟩
  |false=>rw[q] at k;exact fk.look e3 k
section
variable {K:Frag}{Y:jcT}{S:aA}{H:Hp}
theorem Dg (R:R3 K Y S H):∀{d:D}{v:V}{C:Addr}{ns:jcR}{l:List D},ki K Y (res Y H) d v->iq S d=some (C,ns,l)->
  ∃a dx vs,v=.ref a/\H a=some (.ins C dx (ns.zip vs))/\ns.length=vs.length/\zM K C ns/\fk K Y (res Y H) l vs
 |.t (.ins C' ns' l'),v,C,ns,l,r,e=>by
  have e:some (C',ns',l'.map D.t)=some (C,ns,l):=e;cases e;have r:Rp _ _ _ _:=r;unfold Rp at r;obtain⟨a,dx,vs,e1,e2,e3,e4,e5⟩:=r;exact⟨a,dx,vs,e1,lN _ _ e2,e3,e4,fk.of e5⟩
 |.t (.v _),_,_,_,_,_,e=>nomatch e
 |.t (.tup _),_,_,_,_,_,e=>nomatch e
 |.t (.lst _),_,_,_,_,_,e=>nomatch e
 |.t (.GY _),_,_,_,_,_,e=>nomatch e
 |.ob n,v,C,ns,l,⟨a,ha,r⟩,e=>by
  have e:(match S[n]? with | some (.ins C ns l)=>some (C,ns,l) | _=>none)=some (C,ns,l):=e;cases q:S[n]? with
  |none=>rw[q] at e;cases e
  |some o=>
   rw[q] at e;cases o with
   |ins C' ns' m=>
    have e:some (C',ns',m)=some (C,ns,l):=e;cases e;obtain⟨dx,vs,h1,h2,h3,h4⟩:=R.ok n a _ ha q;exact⟨a,dx,vs,r,h1,h2,h3,h4⟩
   |ly m=>cases e
   |lst m=>cases e
end
section
variable {X:Cx}{o e:Expr}{es:jcU}{ta tv:dR}{t:oH}{f m:Str}{pos B1 pos':Pos}
def XM (f:Str)(d:D)(S:aA)(k:KD):Prop:=L4 (iq S d) λp=>L4 ((p.2.1.zip p.2.2).lookup f) λx=>k x S
theorem XM.of {f:Str}{d:D}{S:aA}{k:KD}(h:XM f d S k):∃C ns l x,iq S d=some (C,ns,l)/\(ns.zip l).lookup f=some x/\k x S:=by
 obtain⟨⟨C,ns,l⟩,e,h⟩:=oz h;obtain⟨x,e2,h⟩:=oz h;exact⟨C,ns,l,x,e,e2,h⟩
def Th (ta:dR)(f:Str):dR:=λZ S k=>ta Z S λd S1=>XM f d S1 k
theorem Fz {α:Type}:∀{ns:jcR}{l:List α}{f:Str}{x:α},(ns.zip l).lookup f=some x->f∈ns
 |[],l,f,x,h=>by simp at h
 |n::ns,[],f,x,h=>by simp at h
 |n::ns,y::l,f,x,h=>by
  rw[jcu,List.lookup_cons] at h;cases q:(f==n) with
  |true=>exact jag.mpr (.inl (eq_of_beq q))
  |false=>rw[q] at h;exact jav _ (Fz h)
theorem Ze (he:QE X e ta)(hb:attributeBase e f X.env (eval e X.env)=eval e X.env):QE X (.Attribute e f pos) (Th ta f):=
 dD (VX he hb) (by rintro U H Q ⟨Y,S,Z,k,R,D,q,hk⟩;exact⟨Y,S,Z,_,R,D,q,(by
  rintro v H1 ⟨Y1,S1,d,g1,R1,r1,q1⟩;obtain⟨C,ns,l,x,h1,h2,q1⟩:=q1.of;obtain⟨a,dx,vs,e1,e2,e3,e4,e5⟩:=Dg R1 r1 h1;obtain⟨w,e6,e7⟩:=fk.look e5 h2;exact⟨a,C,dx,_,w,e1,e2,e4.cls,e4.no f (Fz h2),e6,hk _ _ ⟨Y1,S1,x,g1,R1,e7,q1⟩⟩)⟩)
abbrev rZ:=List D->aA->KD->Prop
def aQ (K:Frag)(sp:rZ):Sp:=λvs H Q _=>∃Y S ds k,R3 K Y S H/\fk K Y (res Y H) ds vs/\sp ds S k/\∀v H',up K Y H k v H'->Q v H'
def uG (sp:rZ)(t:oH):dR:=λZ S k=>t Z S λds S1=>sp ds S1 k
variable {k:Nat}{x:Str}{ps:jcR}{sp:rZ}{p:Pos}{C:Addr}
theorem N4 {K:Frag}{Y Y1:jcT}{S1:aA}{H H1:Hp}{kk:KD}{Q:VK}{E:XK}{ds:List D}{vs:List V}(g1:Gr Y H Y1 H1)(R1:R3 K Y1 S1 H1)(r1:fk K Y1 (res Y1 H1) ds vs)(q1:sp ds S1 kk)(hk:∀v H',up K Y H kk v H'->Q v H'):aQ K sp vs H1 Q E:=
 ⟨Y1,S1,ds,kk,R1,r1,q1,λv H' u=>hk v H' (u.gr g1)⟩
theorem ah (F:Dn X.prog X.w X.K X.mg X.base k x ps (aQ X.K sp))(hr:dW k X.A)(hg:Gl X x)(ha:QA X (e::es) t)(h1:autoParam (notStar e=true) zi)(h2:autoParam (es.all notStar=true) zi)(hdb:autoParam ((x==("__debug__":Str))=false) zn) :
  QE X (.Call (.Name x p) (e::es) [] pos) (uG sp t):=by
 obtain⟨f,fd,F,hm,hk,hb⟩:=F;refine dD (Nu F hr hg hm hk hb .nil Bg ha h1 h2 hdb) λU H Q ⟨Y,S,Z,k,R,D,q,hk⟩=>⟨Y,S,Z,_,R,D,q,?_⟩
 rintro v H1 ⟨Y1,S1,d,g1,R1,r1,q1⟩;show aQ X.K sp (v++[]) H1 Q E0;rw[jaJ];exact N4 g1 R1 r1 q1 hk
def Ms (P:Program)(w:World)(K:Frag)(mg:Str->jcW)(base:Heap)(k:Nat)(n:Nat)(cl:Nat->Addr)(m:Str)(ps:jcR)(sp:Nat->rZ):Prop:=
 ∀j,j<n->Mt P w K mg base k (cl j) m ps (aQ K (sp j))
inductive a0S (n:Nat) (cl:Nat->Addr) (m:Str) (sp:Nat->rZ) (t:oH) (Z:Sl) (d:D) (S:aA) (k:KD):Prop
 |mk (j:Nat) (ns:List Str) (l:List D) (h:j<n) (h1:iq S d=some (cl j,ns,l)) (h2:ns.contains m=false) (hk:t Z S λds S2=>sp j (d::ds) S2 k)
def Mn (n:Nat)(cl:Nat->Addr)(m:Str)(sp:Nat->rZ)(ta:dR)(t:oH):dR:=λZ S k=>ta Z S λd S1=>a0S n cl m sp t Z d S1 k
variable {n:Nat}{cl:Nat->Addr}{U9:Nat->rZ}
theorem yO {ns:jcR}{vs:List V}(h:ns.contains m=false):(ns.zip vs).lookup m=none:=bK.yO (by
 intro z;rw[List.contains_iff_mem.mpr z] at h;cases h)
theorem cD {pl:Sem Bool}(he:QE X o ta)(jcN:Ms X.prog X.w X.K X.mg X.base k n cl m ps U9)(hr:dW k X.A)(ha:QA X (e::es) t)(h1:autoParam (notStar e=true) zi)(h2:autoParam (es.all notStar=true) zi)
  (ht:autoParam (eval (.Call (.Attribute o m B1) (e::es) [] pos) X.env=(do
   let ov <- eval o X.env
   standAt B1.atName
   let(f,first) <- holding [ov] (getMethod ov m pl)
   callWith pos f first (backTo pos (starEach (e::es) X.env)) (backToKw pos (keywordEach [] X.env)))) zi) :
  QE X (.Call (.Attribute o m B1) (e::es) [] pos) (Mn n cl m U9 ta t):=by
 rintro vy s U H Q I ⟨Y,S,Z,k,R,D,q,hk⟩;refine methodCall_KW (pl:=pl) (ez (he vy s U H _ I ⟨Y,S,Z,_,R,D,q,λv H' z=>z⟩) ?_) ht;rintro u s1 ⟨x,H1,I1,rx,Y1,S1,d,g1,R1,r1,j,ns,l,hj,i1,hm0,q1⟩;obtain⟨a,dx,vs,e1,e2,e3,e4,e5⟩:=Dg R1 r1 i1;subst e1;obtain rfl:u=Value.ref a:=rx;obtain⟨f,fd,F,hm,hb⟩:=jcN j hj;refine y9 I1 e2 e4.cls hm (yO hm0) ?_;refine callWith_K (first:=[.ref a]) (h₀:=X.base) I.ok.mod.XW hm.kp (ez (ha pos vy s1 U H1 _ I1 ⟨Y1,S1,Z,_,R1,D.gr g1,q1,λv H' z=>z⟩) ?_) (ig h1) (iV h2);rintro us s2 ⟨ws,H2,I2,r,Y2,S2,ds,g2,R2,r2,q2⟩;refine⟨I2.uB,CA (us:=.ref a::us) (vs:=.ref a::ws) F hr hb .nil Bg I2 (.cons rfl r) ?_⟩;rw[jaJ];exact⟨Y2,S2,d::ds,k,R2,.cons (r1.gr g2) r2,q2,λv H' u=>hk v H' (u.gr (g1.trans g2))⟩
theorem aW {pl:Sem Bool}(he:QE X o ta)(jcN:Ms X.prog X.w X.K X.mg X.base k n cl m ps U9)(hr:dW k X.A)
  (ht:autoParam (eval (.Call (.Attribute o m B1) [] [] pos) X.env=(do
   let ov <- eval o X.env
   standAt B1.atName
   let(f,first) <- holding [ov] (getMethod ov m pl)
   callWith pos f first (backTo pos (starEach [] X.env)) (backToKw pos (keywordEach [] X.env)))) zi) :
  QE X (.Call (.Attribute o m B1) [] [] pos) (Mn n cl m U9 ta vD):=by
 rintro vy s U H Q I ⟨Y,S,Z,k,R,D,q,hk⟩;refine methodCall_KW (pl:=pl) (ez (he vy s U H _ I ⟨Y,S,Z,_,R,D,q,λv H' z=>z⟩) ?_) ht;rintro u s1 ⟨x,H1,I1,rx,Y1,S1,d,g1,R1,r1,j,ns,l,hj,i1,hm0,q1⟩;obtain⟨a,dx,vs,e1,e2,e3,e4,e5⟩:=Dg R1 r1 i1;subst e1;obtain rfl:u=Value.ref a:=rx;obtain⟨f,fd,F,hm,hb⟩:=jcN j hj;refine y9 I1 e2 e4.cls hm (yO hm0) ?_;refine PySem.W.callWith_K0 (first:=[.ref a]) I1.uB hm.kp (CA (us:=[.ref a]) (vs:=[.ref a]) F hr hb .nil Bg I1 (.cons rfl .nil) ?_);exact⟨Y1,S1,[d],k,R1,.cons r1 .nil,q1,λv H' u=>hk v H' (u.gr g1)⟩
end
def clD (n:Nat):D->Prop
 |.t _=>True
 |.ob m=>m<n
def Ds (n:Nat):O->Prop
 |.ins _ _ l=>∀d∈l,clD n d
 |_=>True
section
variable {K:Frag}{Y e:jcT}{S:aA}{H:Hp}{G G':Hp}
theorem oX {α β:Type}{F:α->β->Prop}:∀{l:List α}{m:List β},Paired F l m->∀a∈l,∃b,F a b
 |_,_,.nil,a,h=>nomatch h
 |_,_,.cons r t,a,h=>by
  rcases jag.mp h with rfl | h
  .exact⟨_,r⟩
  .exact oX t a h
theorem ki.cl {d:D}{w:V}(r:ki K Y G d w):clD Y.length d:=by
 cases d with
 |t x=>trivial
 |ob n=>obtain⟨a,h,_⟩:=r;exact(jao.mp h).1
theorem Iz.cl {h:Option HO}:∀{o:O},Iz K Y G h o->Ds Y.length o
 |.lst l,_=>trivial
 |.ly l,_=>trivial
 |.ins C ns l,⟨dx,vs,_,_,_,r⟩=>λd hd=>let⟨_,q⟩:=oX r d hd;q.cl
theorem R3.cl (r:R3 K Y S H):∀o∈S,Ds S.length o:=λo ho=>by
 obtain⟨n,hn⟩:=jcG.mp ho;have hl:n<Y.length:=by rw[r.len];exact(jao.mp hn).1
 rw[<- r.len];exact(r.ok n Y[n] o (jaD hl) hn).cl
theorem ki.pop (le:Le G G'){d:D}{w:V}(r:ki K (Y++e) G d w)(c:clD Y.length d):ki K Y G' d w:=by
 cases d with
 |t x=>exact Rp.le le r
 |ob n=>
  obtain⟨a,h,q⟩:=r;refine⟨a,?_,q⟩;rw[jaS (show n<Y.length from c)] at h;exact h
theorem vF {α β:Type}{F F':α->β->Prop}:∀{l:List α}{m:List β},(∀a∈l,∀b,F a b->F' a b)->Paired F l m->Paired F' l m
 |_,_,_,.nil=>.nil
 |_,_,h,.cons r t=>.cons (h _ jar _ r) (vF (λa ha b=>h a (jav _ ha) b) t)
theorem Iz.pop (le:Le G G'){h:Option HO}:∀{o:O},Iz K (Y++e) G h o->Ds Y.length o->Iz K Y G' h o
 |.lst l,⟨vs,e1,e2⟩,_=>⟨vs,e1,e2.le le⟩
 |.ly l,⟨vs,e1,e2⟩,_=>⟨vs,e1,jR (λ_ _ z=>⟨z.1,z.2.le le⟩) e2⟩
 |.ins C ns l,⟨dx,vs,e1,e2,e3,e4⟩,c=>⟨dx,vs,e1,e2,e3,vF (λa ha b z=>z.pop le (c a ha)) e4⟩
theorem nJ:Le (res (Y++e) H) (res Y H):=λa o h=>by
 obtain⟨h1,h2⟩:=res_some h;exact oU (λz=>h1 (jaP _ z)) h2
theorem R3.pop {S':aA}(r:R3 K (Y++e) (S++S') H)(hl:Y.length=S.length)(c:∀o∈S,Ds S.length o):R3 K Y S H:=by
 refine⟨hl,(jcc.mp r.nd).1,λn a o h1 h2=>?_⟩;have l1:=(jao.mp h1).1;have l2:=(jao.mp h2).1;have q:=r.ok n a o (by rw[jaS l1];exact h1) (by rw[jaS l2];exact h2);exact q.pop nJ (by rw[hl];exact c o (jbH h2))
end
section
variable {X:Cx}{o e:Expr}{es:jcU}{ta tv:dR}{t:oH}{f m x:Str}{pos B1 pos' p:Pos}{k:Nat}{ps:jcR}{sp:rZ}{C:Addr}
structure Mkr (P:Program)(w:World)(K:Frag)(mg:Str->Option Value)(base:Heap)(k:Nat)(C:Addr)(x:Str)(ps:List Str)(sp:rZ):Prop where
 mr:Mr P w K mg base k C ps (aQ K sp)
 ok:zM K C []
 mg:mg x=some (.ref C)
def Ua (C:Addr)(S1:aA)(k:KD)(d:D)(S2:aA):Prop:=d=.eN/\∃ns l,S2=S1++[.ins C ns (l.map .t)]/\k (.t (.ins C ns l)) S1
def Mq (C:Addr)(sp:rZ)(t:oH):dR:=λZ S k=>t Z S λds S1=>sp (.ob S1.length::ds) (S1++[.ins C [] []]) (Ua C S1 k)
def Mp (C:Addr)(sp:rZ)(t:oH):dR:=λZ S k=>t Z S λds S1=>sp (.ob S1.length::ds) (S1++[.ins C [] []]) λd S2=>d=.eN/\k (.ob S1.length) S2
theorem yP {K:Frag}{Y:jcT}{S:aA}{H:Hp}(R:R3 K Y S H)(ok:zM K C []){x dx:Addr}(hx:H x=none)(hd:H dx=none)(ne:dx≠x) :
  R3 K (Y++[x]) (S++[.ins C [] []]) (upd (upd H dx (.own x)) x (.ins C dx []))/\Gr Y H (Y++[x]) (upd (upd H dx (.own x)) x (.ins C dx [])):=by
 obtain⟨R1,g1,_⟩:=R.new (o:=.own x) hd;have hx1:upd H dx (.own x) x=none:=by rw[aY (jaO ne)];exact hx
 obtain⟨R2,g2⟩:=R1.push (o:=.ins C dx []) (u:=.ins C [] []) hx1 ⟨dx,[],M,M,ok,.nil⟩;exact⟨R2,g1.trans g2⟩
theorem Vw (F:Mkr X.prog X.w X.K X.mg X.base k C x ps sp)(hr:dW (k+1) X.A)(hg:Gl X x)(ha:QA X (e::es) t)(h1:autoParam (notStar e=true) zi)(h2:autoParam (es.all notStar=true) zi)(hdb:autoParam ((x==("__debug__":Str))=false) zn) :
  QE X (.Call (.Name x p) (e::es) [] pos) (Mq C sp t):=by
 obtain⟨f,fd,F',hM,hb⟩:=F.mr;refine dD (EW hM F' hr hg F.mg hb .nil Bg ha h1 h2 hdb) λU H Q ⟨Y,S,Z,k,R,D,q,hk⟩=>⟨Y,S,Z,_,R,D,q,λvs H1 ⟨Y1,S1,ds,g1,R1,r1,q1⟩ y dy hy hdy ne=>?_⟩
 obtain⟨R2,g2⟩:=yP R1 F.ok hy hdy ne;refine⟨Y1++[y],S1++[.ins C [] []],.ob S1.length::ds,_,R2,.cons ⟨y,by rw[<- R1.len];simp,M⟩ ?_,q1,?_⟩
 .rw[jaJ];exact r1.gr g2
 .rintro v H3 ⟨ρ3,S3,d,g3,zz,r3,rfl,ns,l,rfl,q3⟩;refine⟨bq r3,?_⟩;have hρ:ρ3=Y1++[y]:=by
   obtain⟨ex,he⟩:=g3.ext;have:=zz.len;rw[he] at this;simp only[jaf,jbF] at this;have l0:=R1.len;have:ex=[]:=jbu.mp (by omega);rw[he,this,jaJ]
  subst hρ;have R4:R3 X.K Y1 S1 H3:=zz.pop R1.len R1.cl;have g4:Gr Y1 H1 Y1 H3:=⟨⟨[],by simp⟩,(g2.le.trans g3.le).trans nJ⟩
  refine hk _ _ ⟨Y1,S1,.t (.ins C ns l),g1.trans g4,R4,?_,q3⟩;obtain⟨dx,ws,h3,h4,h5,h6⟩:=zz.ok S1.length y (.ins C ns (l.map .t)) (by rw[<- R1.len];simp) (by simp);show Rp _ _ _ _;unfold Rp;have ny:y∉Y1:=R1.fresh hy;exact⟨y,dx,ws,M,oU ny h3,h4,h5,(fk.t h6).le nJ⟩
theorem Q0 (F:Mkr X.prog X.w X.K X.mg X.base k C x ps sp)(hr:dW (k+1) X.A)(hg:Gl X x)(ha:QA X (e::es) t)(h1:autoParam (notStar e=true) zi)(h2:autoParam (es.all notStar=true) zi)(hdb:autoParam ((x==("__debug__":Str))=false) zn) :
  QE X (.Call (.Name x p) (e::es) [] pos) (Mp C sp t):=by
 obtain⟨f,fd,F',hM,hb⟩:=F.mr;refine dD (EW hM F' hr hg F.mg hb .nil Bg ha h1 h2 hdb) λU H Q ⟨Y,S,Z,k,R,D,q,hk⟩=>⟨Y,S,Z,_,R,D,q,λvs H1 ⟨Y1,S1,ds,g1,R1,r1,q1⟩ y dy hy hdy ne=>?_⟩
 obtain⟨R2,g2⟩:=yP R1 F.ok hy hdy ne;refine⟨Y1++[y],S1++[.ins C [] []],.ob S1.length::ds,_,R2,.cons ⟨y,by rw[<- R1.len];simp,M⟩ ?_,q1,?_⟩
 .rw[jaJ];exact r1.gr g2
 .rintro v H3 ⟨ρ3,S3,d,g3,zz,r3,rfl,q3⟩;refine⟨bq r3,hk _ _ ⟨ρ3,S3,.ob S1.length,(g1.trans g2).trans g3,zz,⟨y,?_,M⟩,q3⟩⟩;exact g3.at (by rw[<- R1.len];simp)
noncomputable def pN (f:Str):jcR->jcR
 |[]=>[f]
 |g::r=>if g=f then g::r else g::pN f r
noncomputable def pD {α:Type}(f:Str)(y:α):jcR->List α->List α
 |[],_=>[y]
 |_::_,[]=>[]
 |g::r,x::l=>if g=f then y::l else x::pD f y r l
theorem ET (f:Str)(y:V):∀{ns:jcR}{vs:List V},ns.length=vs.length->oE f y (ns.zip vs)=(pN f ns).zip (pD f y ns vs)/\(pN f ns).length=(pD f y ns vs).length
 |[],[],_=>⟨M,M⟩
 |[],_::_,h=>by simp at h
 |_::_,[],h=>by simp at h
 |g::ns,v::vs,h=>by
  have h':ns.length=vs.length:=by simpa using h
  obtain⟨i1,i2⟩:=ET f y h';rw[jcu];unfold oE pN pD;by_cases e:g=f
  .rw[jae e,jae e,jae e];exact⟨M,by simpa using h'⟩
  .rw[jad e,jad e,jad e,i1];exact⟨M,by simpa using i2⟩
theorem Nz {K:Frag}{Y:jcT}{G:Hp}{d:D}{v:V}(r:ki K Y G d v):∀{ns:jcR}{l:List D}{vs:List V},fk K Y G l vs->fk K Y G (pD f d ns l) (pD f v ns vs)
 |[],_,_,_=>by unfold pD;exact .cons r .nil
 |_::_,[],_,.nil=>by unfold pD;exact .nil
 |g::ns,_::_,_,.cons h t=>by
  unfold pD;by_cases e:g=f
  .rw[jae e,jae e];exact .cons r t
  .rw[jad e,jad e];exact .cons h (Nz r t)
theorem Ny {g:Str}:∀{ns:jcR},g∈pN f ns->g=f\/g∈ns
 |[],h=>.inl (jai.mp h)
 |n::ns,h=>by
  unfold pN at h;by_cases e:n=f
  .rw[jae e] at h;exact .inr h
  .rw[jad e] at h;rcases jag.mp h with h | h
   .exact .inr (jag.mpr (.inl h))
   .rcases Ny h with h | h
    .exact .inl h
    .exact .inr (jav _ h)
inductive a0L (K:Frag) (f:Str) (x y:D) (Z:Sl) (S:aA) (nx:KS):Prop
 |mk (n:Nat) (C:Addr) (ns:List Str) (l:List D) (h:x=.ob n) (h1:S[n]?=some (.ins C ns l)) (h2:l6 K C f) (h3:ns.length<1000) (hk:nx Z (S.set n (.ins C (pN f ns) (pD f y ns l))))
def YX (K:Frag)(ta tv:dR)(f:Str):uf:=λE Z S=>tv Z S λy S1=>ta Z S1 λx S2=>a0L K f x y Z S2 E.nx
theorem bf {value:Expr}(ha:QE X o ta)(hv:QE X value tv)(hs:swapsWith value (some (.Attribute o f pos')) pos.line X.env=pure false):QS X (.Assign [.Attribute o f pos'] value pos) (YX X.K ta tv f):=
 qV (VP ha hv hs) λD U H ⟨Y,S,Z,E,R,RS,q,eu⟩=>⟨Y,S,Z,_,R,RS,q,λv H1 ⟨Y1,S1,d,g1,R1,r1,q1⟩=>⟨Y1,S1,Z,_,R1,RS.gr g1,q1,(by
  rintro w H2 ⟨Y2,S2,d2,g2,R2,r2,n,C,ns,l,h1,h2,h3,h4,q2⟩;subst h1;obtain⟨a,ha,e⟩:=r2;obtain⟨dx,vs,e1,e2,e3,e4⟩:=R2.ok n a _ ha h2;refine⟨a,C,dx,ns.zip vs,e,e1,e3.cls,h3,by rw[List.length_zip];omega,?_⟩;obtain⟨i1,i2⟩:=ET f v e2;rw[i1];obtain⟨R4,g4⟩:=R2.put (o:=.ins C dx ((pN f ns).zip (pD f v ns vs))) (u:=.ins C (pN f ns) (pD f d ns l)) ha
   ⟨dx,_,M,i2,⟨e3.cls,λg hg=>by rcases Ny hg with z | z;rw[z];exact h3;exact e3.no g z,e3.ca,e3.cg,e3.ct,e3.cm⟩,Nz (r1.gr g2) e4⟩
  exact eu.nx _ _ ⟨Y2,_,Z,(g1.trans g2).trans g4,R4,(RS.gr (g1.trans g2)).gr g4,q2⟩)⟩⟩
end
abbrev Ma:=List D->aA->KD->Prop
noncomputable def liC (K:Frag)(r:Ma):List V->Hp->VK->Prop:=λvs H Q=>∃Y S ds k,R3 K Y S H/\fk K Y (res Y H) ds vs/\r ds S k/\∀v H',up K Y H k v H'->Q v H'
def Call3 (X:Cx)(f:Value)(r:Ma):Prop:=fm X f (liC X.K r)
theorem lC {X:Cx}{f:Value}{r r':List V->Hp->VK->Prop}(h:fm X f r)(m:∀vs H Q,r' vs H Q->r vs H Q):fm X f r':=λvy s U H xs us Q I rx q=>h vy s U H xs us Q I rx (m _ _ _ q)
theorem fk.one {K:Frag}{Y:jcT}{G:Hp}{d:D}{vs:List V}(r:fk K Y G [d] vs):∃v,vs=[v]/\ki K Y G d v:=by
 cases r with
 |cons h t=>cases t;exact⟨_,M,h⟩
theorem fk.two {K:Frag}{Y:jcT}{G:Hp}{d e:D}{vs:List V}(r:fk K Y G [d,e] vs):∃v w,vs=[v,w]/\ki K Y G d v/\ki K Y G e w:=by
 cases r with
 |cons h t=>
  cases t with
  |cons h2 t2=>cases t2;exact⟨_,_,M,h,h2⟩
def SqR (S:aA)(d:D)(f:List T->Prop):Prop:=L4 (sq S d) f
def Wy:Ma
 |[d],S,k=>d.sD.elim (SqR S d λl=>k (.int l.length) S) λz=>z.length<=sizeLine/\k (.int z.length) S
 |_,_,_=>False
def Mj:Ma
 |[d],S,k=>SqR S d λl=>k (.tup l) S
 |_,_,_=>False
def Ud:Ma
 |[d],S,k=>SqR S d λl=>k (.lst l) S
 |_,_,_=>False
def Uc:Ma
 |[d],S,k=>SqR S d λl=>k (.ob S.length) (S++[.lst l])
 |_,_,_=>False
def WW:Ma
 |[.t (.v (.int i))],S,k=>k (.int i) S
 |[.t (.v (.bl b))],S,k=>k (.int (if b then 1 else 0)) S
 |_,_,_=>False
def YN:Ma
 |[.t (.v (.int i))],S,k=>i.natAbs.log2<1920/\k (.str (toString i)) S
 |_,_,_=>False
section
variable {X:Cx}{x:Str}{p pos B1 cpos:Pos}{e o:Expr}{es:jcU}{t:oH}{to:dR}{id ty:String}{r:Ma}
theorem bK.strs {K:Frag}{G:Hp}:∀{ns:jcR}{vs:List V},bK K G (ns.map T.str) vs->vs=ns.map V.str
 |[],vs,r=>by unfold bK at r;exact r
 |n::ns,vs,r=>by
  rw[jax] at r;unfold bK at r;obtain⟨v,vr,e1,e2,e3⟩:=r;unfold Rp at e2;rw[e1,e2,bK.strs e3];rfl
theorem bK.ofStrs {K:Frag}{G:Hp}:∀(ns:jcR),bK K G (ns.map T.str) (ns.map V.str)
 |[]=>.nil
 |n::ns=>.cons (by unfold Rp;rfl) (bK.ofStrs ns)
def KO (r:Ma)(t:oH):dR:=λZ S k=>t Z S λds S1=>r ds S1 k
theorem Kn:∀U H Q,li X.K (KO r t) U H Q->YH (liC X.K r) (liA X.K t) U H Q:=(by rintro U H Q ⟨Y,S,Z,k,R,D,q,hk⟩;exact  ⟨Y,S,Z,_,R,D,q,(by rintro v H1 ⟨Y1,S1,d,g1,R1,r1,q1⟩;exact⟨Y1,S1,d,k,R1,r1,q1,λw H2 u=>hk w H2 (u.gr g1)⟩)⟩)
theorem aU (hc:Call3 X (.builtin id) r)(hg:Gl X x)(hm:X.mg x=none)(hv:bootBuiltins x=some (.builtin id))(ha:QA X (e::es) t)(h1:autoParam (notStar e=true) zi)(h2:autoParam (es.all notStar=true) zi)(hn:autoParam (x≠"__name__") zn)(hdb:autoParam ((x==("__debug__":Str))=false) zn) :
  QE X (.Call (.Name x p) (e::es) [] pos) (KO r t):=dD (uR hc hg hm hv ha h1 h2 hn hdb) Kn
theorem aK (hc:Call3 X (.type ty) r)(hg:Gl X x)(hm:X.mg x=none)(hv:bootBuiltins x=some (.type ty))(ha:QA X (e::es) t)(h1:autoParam (notStar e=true) zi)(h2:autoParam (es.all notStar=true) zi)(hn:autoParam (x≠"__name__") zn)(hdb:autoParam ((x==("__debug__":Str))=false) zn) :
  QE X (.Call (.Name x p) (e::es) [] pos) (KO r t):=dD (nM hc hg hm hv ha h1 h2 hn hdb) Kn
theorem eO:Call3 X (.builtin "len") Wy:=by
 refine lC (Dy.or Dz) ?_;rintro vs H Q ⟨Y,S,ds,k,R,rd,q,hk⟩;unfold Wy at q;split at q
 .obtain⟨v,rfl,rv⟩:=rd.one;rcases OQ q with q | ⟨z,hd,q⟩
  .obtain⟨l,h1,h2⟩:=oz q;obtain⟨a,us,e1,e2,e3⟩:=uK R rv h1;refine .inr ⟨a,us,by rw[e1],e2,?_⟩;rw[<- e3.len];exact fin R hk bS h2
  .cases D.Jv hd;rw[bq rv];exact .inl ⟨_,M,q.1,fin R hk bS q.2⟩
 .exact q.elim
theorem Ml {K:Frag}{Y:jcT}{S:aA}{H:Hp}(R:R3 K Y S H):∀{d:D}{v:V}{l:List T},ki K Y (res Y H) d v->sq S d=some l->
  (∃a vs,v=.ref a/\mJ K H a vs/\bK K (res Y H) l vs)\/(d=.tup l/\∃a vs,v=.ref a/\ko K H a vs)
 |.t (.tup m),v,l,r,e=>by
  have e:some m=some l:=e;cases e;obtain⟨a,vs,e1,e2,e3⟩:=dZ r;exact .inr ⟨M,a,vs,e1,.of e2⟩
 |.t (.GY m),v,l,r,e=>by
  have e:some m=some l:=e;cases e;have r:Rp _ _ _ _:=r;unfold Rp at r;obtain⟨a,vs,e1,e2,e3⟩:=r;exact .inl ⟨a,vs,e1,GU lN e2,e3⟩
 |.t (.lst m),v,l,r,e=>by
  obtain⟨a,vs,e1,e2,e3⟩:=dm R r (show lq S (.t (.lst m))=some l from e);exact .inl ⟨a,vs,e1,.of e2,e3⟩
 |.t (.v _),_,_,_,e=>nomatch e
 |.t (.ins _ _ _),_,_,_,e=>nomatch e
 |.ob n,v,l,r,e=>by
  obtain⟨a,vs,e1,e2,e3⟩:=dm R r (show lq S (.ob n)=some l from e);exact .inl ⟨a,vs,e1,.of e2,e3⟩
theorem bA:Call3 X (.type "tuple") Mj:=by
 refine lC Aq ?_;rintro vs H Q ⟨Y,S,ds,k,R,rd,q,hk⟩;unfold Mj at q;split at q
 .obtain⟨v,rfl,rv⟩:=rd.one;obtain⟨l,h1,h2⟩:=oz q;rcases Ml R rv h1 with⟨a,us,e1,e2,e3⟩ | ⟨hd,a,us,e1,e2⟩
  .exact⟨a,us,by rw[e1],.inl ⟨e2,Sn R hk e3 h2⟩⟩
  .subst hd;refine⟨a,us,by rw[e1],.inr ⟨e2,?_⟩⟩;rw[<- e1];exact fin R hk rv h2
 .exact q.elim
theorem Ik:Call3 X (.type "list") Ud:=by
 refine lC tZ ?_;rintro vs H Q ⟨Y,S,ds,k,R,rd,q,hk⟩;unfold Ud at q;split at q
 .obtain⟨v,rfl,rv⟩:=rd.one;obtain⟨l,h1,h2⟩:=oz q;obtain⟨a,us,e1,e2,e3⟩:=uK R rv h1;exact⟨a,us,by rw[e1],e2,zf R hk e3 h2⟩
 .exact q.elim
theorem Kq:Call3 X (.type "list") Uc:=by
 refine lC tZ ?_;rintro vs H Q ⟨Y,S,ds,k,R,rd,q,hk⟩;unfold Uc at q;split at q
 .obtain⟨v,rfl,rv⟩:=rd.one;obtain⟨l,h1,h2⟩:=oz q;obtain⟨a,us,e1,e2,e3⟩:=uK R rv h1;exact⟨a,us,by rw[e1],e2,OJ R hk e3 h2⟩
 .exact q.elim
theorem Pb:Call3 X (.type "int") WW:=by
 refine lC LJ ?_;rintro vs H Q ⟨Y,S,ds,k,R,rd,q,hk⟩;unfold WW at q;split at q
 .obtain⟨v,rfl,rv⟩:=rd.one;rw[bq rv];exact .inl ⟨_,M,fin R hk bS q⟩
 .obtain⟨v,rfl,rv⟩:=rd.one;rw[bq rv];exact .inr ⟨_,M,fin R hk bS q⟩
 .exact q.elim
theorem O9:Call3 X (.type "str") YN:=by
 refine lC Dv ?_;rintro vs H Q ⟨Y,S,ds,k,R,rd,q,hk⟩;unfold YN at q;split at q
 .obtain⟨v,rfl,rv⟩:=rd.one;rw[bq rv];exact⟨_,M,q.1,fin R hk bS q.2⟩
 .exact q.elim
noncomputable def tyT:T->jcW
 |.v .eN=>some (.type "NoneType")
 |.v (.bl _)=>some (.type "bool")
 |.v (.int _)=>some (.type "int")
 |.v (.str _)=>some (.type "str")
 |.tup _=>some (.type "tuple")
 |.lst _=>some (.type "list")
 |.ins C _ _=>some (.ref C)
 |_=>none
noncomputable def tyD (S:aA):D->jcW
 |.t x=>tyT x
 |.ob n=>match S[n]? with
  |some (.lst _)=>some (.type "list")
  |some (.ins C _ _)=>some (.ref C)
  |some (.ly _)=>some (.type "dict")
  |none=>none
theorem Qg {K:Frag}{Y:jcT}{S:aA}{H:Hp}(R:R3 K Y S H){d:D}{v:V}{u:Value}(r:ki K Y (res Y H) d v)(e:tyD S d=some u):ue K H v u:=by
 cases d with
 |t x=>
  have e:tyT x=some u:=e;cases x with
  |v y=>
   rw[bq r];cases y with
   |eN=>cases e;exact .eN
   |bl b=>cases e;exact .bl b
   |int i=>cases e;exact .int i
   |str z=>cases e;exact .str z
   |_=>cases e
  |tup l=>obtain⟨a,vs,e1,e2,e3⟩:=dZ r;cases e;rw[e1];exact .tup e2
  |lst l=>obtain⟨a,vs,e1,e2,e3⟩:=dm R r rfl;cases e;rw[e1];exact .lst e2
  |GY l=>cases e
  |ins C ns l=>obtain⟨a,dx,vs,e1,e2,e3,e4,e5⟩:=Dg R r rfl;cases e;rw[e1];exact .ins e2 e4.cls e4.ca e4.cg e4.ct e4.cm
 |ob n=>
  have e:(match S[n]? with | some (.lst _)=>some (Value.type "list") | some (.ins C _ _)=>some (.ref C) | some (.ly _)=>some (.type "dict") | none=>none)=some u:=e;obtain⟨a,ha,rfl⟩:=r;cases q:S[n]? with
  |none=>rw[q] at e;cases e
  |some o=>
   rw[q] at e;have z:=R.ok n a o ha q;cases o with
   |lst l=>obtain⟨vs,h1,h2⟩:=z;cases e;exact .lst h1
   |ly l=>obtain⟨vs,h1,h2⟩:=z;cases e;exact .dK h1
   |ins C ns l=>obtain⟨dx,vs,h1,h2,h3,h4⟩:=z;cases e;exact .ins h1 h3.cls h3.ca h3.cg h3.ct h3.cm
def ZY (K:Frag)(c:V)(u:Value):Ma
 |[d,.t (.v c')],S,k=>c'=c/\∃t b,tyD S d=some t/\kitOne K t u=some b/\k (.bl b) S
 |_,_,_=>False
theorem mG {c:V}{u:Value}(hc:match c with | .ref _=>True | .ty _=>True | _=>False)(ru:RelV c u):Call3 X (.builtin "isinstance") (ZY X.K c u):=by
 refine lC (O8 hc) ?_;rintro vs H Q ⟨Y,S,ds,k,R,rd,q,hk⟩;unfold ZY at q;split at q
 .obtain⟨v,w,rfl,rv,rw'⟩:=rd.two;obtain⟨rfl,t,b,h1,h2,h3⟩:=q;rw[bq rw'];exact⟨v,t,u,b,M,Qg R rv h1,ru,h2,fin R hk bS h3⟩
 .exact q.elim
end
abbrev UD:=D->List D->aA->KD->Prop
noncomputable def Ww (K:Frag)(r:UD):V->List V->Hp->VK->Prop:=λv vs H Q=>∃Y S d ds k,R3 K Y S H/\ki K Y (res Y H) d v/\fk K Y (res Y H) ds vs/\r d ds S k/\∀v H',up K Y H k v H'->Q v H'
noncomputable def xq (S:aA):D->Option (List T)
 |.t (.tup l)=>some l
 |d=>lq S d
def XC:UD
 |.ob n,[.t x],S,k=>∃l,S[n]?=some (.lst l)/\l.length<sizeLine/\k .eN (S.set n (.lst (l++[x])))
 |_,_,_,_=>False
def ext3:UD
 |.ob n,[d],S,k=>∃l m,S[n]?=some (.lst l)/\xq S d=some m/\l.length+m.length<=sizeLine/\k .eN (S.set n (.lst (l++m)))
 |_,_,_,_=>False
def WX:UD
 |.ob n,[.t (.v (.int i)),.t x],S,k=>∃(l:List T)(j:Nat),S[n]?=some (.lst l)/\i=j/\j<=l.length/\l.length<sizeLine/\k .eN (S.set n (.lst (l.take j++[x]++l.drop j)))
 |_,_,_,_=>False
def U5:UD
 |.t (.v (.str a)),[.t (.v (.str b))],S,k=>k (.bl (Txt.startswith a b)) S
 |_,_,_,_=>False
def Oc:UD
 |.t (.v (.str sep)),[d],S,k=>∃ss:jcR,lq S d=some (ss.map T.str)/\(ss.map (·.length)).sum+ss.length*sep.length<=16777216/\k (.str (Txt.join sep ss)) S
 |_,_,_,_=>False
section
variable {X:Cx}{x:Str}{p pos B1 cpos:Pos}{e o i value:Expr}{es:jcU}{t:oH}{to ti tv:dR}{id ty:String}{r:UD}
theorem Fv {r r':V->List V->Hp->VK->Prop}(h:Gk X id r)(m:∀v vs H Q,r' v vs H Q->r v vs H Q):Gk X id r':=λvy s U H x xs u us Q I rx rv q=>h vy s U H x xs u us Q I rx rv (m _ _ _ _ q)
def tyM (S:aA)(ty:String):D->Prop
 |.t (.v (.str _))=>ty="str"
 |d=>ty="list"/\∃l,lq S d=some l
def GP (ty:String)(r:UD)(to:dR)(t:oH):dR:=λZ S k=>to Z S λd S1=>tyM S1 ty d/\t Z S1 λds S2=>r d ds S2 k
theorem Qf {K:Frag}{Y:jcT}{S:aA}{H:Hp}(R:R3 K Y S H){d:D}{v:V}(r:ki K Y (res Y H) d v)(e:tyM S ty d):tyV K ty v H:=by
 unfold tyM at e;split at e
 .rw[bq r];exact e
 .obtain⟨e1,l,e2⟩:=e;obtain⟨a,vs,h1,h2,h3⟩:=dm R r e2;rw[h1];exact .inl ⟨e1,vs,.of h2⟩
theorem RJ:∀U H Q,li X.K (GP ty r to t) U H Q->tBM X.K ty (Ww X.K r) (li X.K to) (liA X.K t) U H Q:=(by rintro U H Q ⟨Y,S,Z,k,R,D,q,hk⟩;exact  ⟨Y,S,Z,_,R,D,q,(by rintro v H1 ⟨Y1,S1,d,g1,R1,r1,h1,q1⟩;exact⟨Qf R1 r1 h1,Y1,S1,Z,_,R1,D.gr g1,q1,(by rintro vs H2 ⟨Y2,S2,ds,g2,R2,r2,q2⟩;exact   ⟨Y2,S2,d,ds,k,R2,r1.gr g2,r2,q2,λw H3 u=>hk w H3 (u.gr (g1.trans g2))⟩)⟩)⟩)
theorem Nb {name:Str}(pa:PlainAttrs ty)(slot:Slot ty name id)(hty:typeOf (.builtin id)=pure (.type "method_descriptor"))(hm:Gk X id (Ww X.K r))(ho:QE X o to)(ha:QA X (e::es) t)
  (h1:autoParam (notStar e=true) zi) (h2:autoParam (es.all notStar=true) zi) (h3:autoParam (es.length<20) zn) (Ap:autoParam (attributeBase o name X.env (eval o X.env)=eval o X.env) zi) (At:autoParam ((B1.endLine==cpos.line)=true) zi) :
  QE X (.Call (.Attribute o name B1) (e::es) [] cpos) (GP ty r to t):=dD (VY pa slot hty hm ho ha h1 h2 h3 Ap At) RJ
theorem ZQ:Gk X "list.append" (Ww X.K XC):=by
 refine Fv Lk ?_;rintro v vs H Q ⟨Y,S,d,ds,k,R,rd,rs,q,hk⟩;unfold XC at q;split at q
 .obtain⟨l,h1,h2,h3⟩:=q;obtain⟨a,ha,rfl⟩:=rd;obtain⟨w,rfl,rw'⟩:=rs.one;obtain⟨us,e1,e2⟩:=R.ok _ a _ ha h1;exact⟨a,us,w,M,M,e1,by rw[<- e2.len];exact h2,OI R hk ha (o:=.lst (l++[_])) ⟨_,M,e2.app (.cons rw' .nil)⟩ bS h3⟩
 .exact q.elim
theorem ZP:Gk X "list.extend" (Ww X.K ext3):=by
 refine Fv (Gk.or Lj HD) λv vs H Q ⟨Y,S,d,ds,k,R,rd,rs,q,hk⟩=>?_;unfold ext3 at q;split at q
 .obtain⟨l,m,h1,h2,h3,h4⟩:=q;obtain⟨a,ha,rfl⟩:=rd;obtain⟨w,rfl,rw'⟩:=rs.one;obtain⟨us,e1,e2⟩:=R.ok _ a _ ha h1;rename_i d2 _;cases d2 with
  |ob m'=>
   obtain⟨b,ws,f1,f2,f3⟩:=dm R rw' (show lq S (.ob m')=some m from h2);exact .inl ⟨a,b,us,ws,M,by rw[f1],e1,f2,by rw[<- e2.len,<- f3.len];exact h3,OI R hk ha (o:=.lst (l++m)) ⟨_,M,e2.app f3⟩ bS h4⟩
  |t y=>
   cases y with
   |lst m'=>
    obtain⟨b,ws,f1,f2,f3⟩:=dm R rw' (show lq S (.t (.lst m'))=some m from h2);exact .inl ⟨a,b,us,ws,M,by rw[f1],e1,f2,by rw[<- e2.len,<- f3.len];exact h3,OI R hk ha (o:=.lst (l++m)) ⟨_,M,e2.app f3⟩ bS h4⟩
   |tup m'=>
    have h2:some m'=some m:=h2;injection h2 with h2
    subst h2;obtain⟨b,ws,f1,f2,f3⟩:=dZ rw';exact .inr ⟨a,b,us,ws,M,by rw[f1],e1,.of f2,by rw[<- e2.len,<- f3.len];exact h3,OI R hk ha (o:=.lst (l++m')) ⟨_,M,e2.app f3⟩ bS h4⟩
   |GY m'=>cases h2
   |v _=>cases h2
   |ins _ _ _=>cases h2
 .exact q.elim
theorem ZO:Gk X "list.insert" (Ww X.K WX):=by
 refine Fv Li ?_;rintro v vs H Q ⟨Y,S,d,ds,k,R,rd,rs,q,hk⟩;unfold WX at q;split at q
 .obtain⟨l,j,h1,h2,h3,h4,h5⟩:=q;obtain⟨a,ha,rfl⟩:=rd;obtain⟨w,w2,rfl,rw',r2⟩:=rs.two;obtain⟨us,e1,e2⟩:=R.ok _ a _ ha h1;rw[bq rw'];exact⟨a,us,_,j,w2,M,M,h2,e1,by rw[<- e2.len];exact h3,by rw[<- e2.len];exact h4,OI R hk ha (o:=.lst (l.take j++[_]++l.drop j)) ⟨_,M,((e2.tk j).app (.cons r2 .nil)).app (e2.dp j)⟩ bS h5⟩
 .exact q.elim
theorem ZN:Gk X "str.startswith" (Ww X.K U5):=by
 refine Fv Lh ?_;rintro v vs H Q ⟨Y,S,d,ds,k,R,rd,rs,q,hk⟩;unfold U5 at q;split at q
 .obtain⟨w,rfl,rw'⟩:=rs.one;rw[bq rd,bq rw'];exact⟨_,_,M,M,fin R hk bS q⟩
 .exact q.elim
theorem Wr:Gk X "str.join" (Ww X.K Oc):=by
 refine Fv RK ?_;rintro v vs H Q ⟨Y,S,d,ds,k,R,rd,rs,q,hk⟩;unfold Oc at q;split at q
 .obtain⟨ss,h1,h2,h3⟩:=q;obtain⟨w,rfl,rw'⟩:=rs.one;obtain⟨a,us,e1,e2,e3⟩:=dm R rw' h1;rw[bq rd];rw[e3.strs] at e2;exact⟨_,a,ss,M,by rw[e1],e2,h2,fin R hk bS h3⟩
 .exact q.elim
theorem oq (ho:QE X o to)(ha:QA X [e] t)(h1:autoParam (notStar e=true) zi)(Ap:autoParam (attributeBase o "append" X.env (eval o X.env)=eval o X.env) zi)(At:autoParam ((B1.endLine==cpos.line)=true) zi) :
  QE X (.Call (.Attribute o "append" B1) [e] [] cpos) (GP "list" XC to t):=Nb PySem.F.plainAttrs_list PySem.F.slot_list_append PySem.F.type_list_append ZQ ho ha h1 rfl (by decide) Ap At
theorem yv (ho:QE X o to)(ha:QA X [e] t)(h1:autoParam (notStar e=true) zi)(Ap:autoParam (attributeBase o "extend" X.env (eval o X.env)=eval o X.env) zi)(At:autoParam ((B1.endLine==cpos.line)=true) zi) :
  QE X (.Call (.Attribute o "extend" B1) [e] [] cpos) (GP "list" ext3 to t):=Nb PySem.F.plainAttrs_list PySem.F.slot_list_extend PySem.F.type_list_extend ZP ho ha h1 rfl (by decide) Ap At
theorem TZ {e2:Expr}(ho:QE X o to)(ha:QA X [e,e2] t)(h1:autoParam (notStar e=true) zi)(h2:autoParam ([e2].all notStar=true) zi)(Ap:autoParam (attributeBase o "insert" X.env (eval o X.env)=eval o X.env) zi)(At:autoParam ((B1.endLine==cpos.line)=true) zi) :
  QE X (.Call (.Attribute o "insert" B1) [e,e2] [] cpos) (GP "list" WX to t):=Nb PySem.F.plainAttrs_list PySem.F.slot_list_insert PySem.F.type_list_insert ZO ho ha h1 h2 (by show 1<20;decide) Ap At
theorem Zc (ho:QE X o to)(ha:QA X [e] t)(h1:autoParam (notStar e=true) zi)(Ap:autoParam (attributeBase o "startswith" X.env (eval o X.env)=eval o X.env) zi)(At:autoParam ((B1.endLine==cpos.line)=true) zi) :
  QE X (.Call (.Attribute o "startswith" B1) [e] [] cpos) (GP "str" U5 to t):=Nb PySem.F.plainAttrs_str PySem.F.slot_str_startswith PySem.F.type_str_startswith ZN ho ha h1 rfl (by decide) Ap At
theorem Vy (ho:QE X o to)(ha:QA X [e] t)(h1:autoParam (notStar e=true) zi)(Ap:autoParam (attributeBase o "join" X.env (eval o X.env)=eval o X.env) zi)(At:autoParam ((B1.endLine==cpos.line)=true) zi) :
  QE X (.Call (.Attribute o "join" B1) [e] [] cpos) (GP "str" Oc to t):=Nb PySem.F.plainAttrs_str PySem.F.slot_str_join PySem.F.type_str_join Wr ho ha h1 rfl (by decide) Ap At
end
def IxL (a:D)(i:Int)(S:aA)(k:KD):Prop:=L4 (sq S a) λl=>L4 (L2.mO l i) λx=>k (.t x) S
theorem IxL.of {a:D}{i:Int}{S:aA}{k:KD}(h:IxL a i S k):∃l x,sq S a=some l/\L2.mO l i=some x/\k (.t x) S:=by
 obtain⟨l,e,h⟩:=oz h;obtain⟨x,e2,h⟩:=oz h;exact⟨l,x,e,e2,h⟩
def XX:Az:=λa b S k=>b.iD.elim False λi=>a.sD.elim (IxL a i S k) λz=>z.length<=sizeLine/\∃c,mO z.cps.toList i=some c/\k (.str ⟨#[c]⟩) S
section
variable {X:Cx}{a b e:Expr}{ta tb te:dR}{pos p2:Pos}
theorem bK.mO {K:Frag}{G:Hp}{l:List T}{vs:List V}{i:Int}{x:T}(r:bK K G l vs)(h:L2.mO l i=some x):∃v,L2.mO vs i=some v/\Rp K G x v:=by
 unfold L2.mO at h ⊢;rw[<- r.len];cases q:R7 l.length i with
 |none=>rw[q] at h;cases h
 |some j=>rw[q] at h;exact r.get h
theorem ZW:P6 X (liR X.K XX):=by
 intro value slice vy s U H x y v u Q I rx ry ⟨Y,S,a,b,k,R,ra,rb,q,hk⟩ hs;refine WR value slice vy s U H x y v u Q I rx ry ?_ hs;rcases OQ q with q | ⟨i,hb,q2⟩
 .exact q.elim
 cases D.Bp hb;rcases OQ q2 with q3 | ⟨z,ha,h1,c,h2,h3⟩
 .obtain⟨l,x',h1,h2,h3⟩:=q3.of;obtain⟨p,us,e1,e2,e3⟩:=uK R ra h1;obtain⟨w,f1,f2⟩:=e3.mO h2;rcases e2 with e2 | e2
  .exact .inl ⟨p,us,_,w,e1,bq rb,e2,f1,fin R hk (d:=.t x') f2 h3⟩
  .exact .inr (.inl ⟨p,us,_,w,e1,bq rb,e2,f1,fin R hk (d:=.t x') f2 h3⟩)
 cases D.Jv ha;exact .inr (.inr ⟨_,_,c,bq ra,bq rb,h1,h2,fin R hk bS h3⟩)
theorem oV (ha:QE X a ta)(hb:QE X b tb)(hs:KG b:=by intro _ _;rfl):QE X (.Subscript a b pos) (uF XX ta tb):=dD (Zm ZW ha hb hs) xr
noncomputable def rW (l:List T)(lo hi:Option Int):List T:=(l.drop (HT.eZ l.length 0 lo)).take (HT.eZ l.length l.length hi - HT.eZ l.length 0 lo)
theorem bK.cut {K:Frag}{G:Hp}{l:List T}{vs:List V}(r:bK K G l vs)(lo hi:Option Int):bK K G (rW l lo hi) (FW vs lo hi):=by
 unfold rW FW;rw[<- r.len];exact(r.dp _).tk _
abbrev Yc:=Sl->aA->(Option Int->aA->Prop)->Prop
def liO (K:Frag)(t:Yc):TO:=λU H Q=>∃Y S Z k,R3 K Y S H/\vQ K Y (res Y H) Z U/\t Z S k/\∀o H',(∃Y' S',Gr Y H Y' H'/\R3 K Y' S' H'/\k o S')->Q o H'
def QO (X:Cx)(e:Option Expr)(t:Yc):Prop:=PO X e (liO X.K t)
def a1O:Yc:=λ_ S k=>k none S
def PtR (d:D)(f:Int->Prop):Prop:=L4 d.iD f
def tPt (t:dR):Yc:=λZ S k=>t Z S λd S1=>PtR d λi=>k (some i) S1
theorem T4 {o:Option Expr}{t t':TO}(h:PO X o t)(m:∀U H Q,t' U H Q->t U H Q):PO X o t':=λvy s U H Q I q=>h vy s U H Q I (m _ _ _ q)
theorem nK:QO X none a1O:=T4 Rk (by rintro U H Q ⟨Y,S,Z,k,R,D,q,hk⟩;exact hk _ _ ⟨Y,S,.refl,R,q⟩)
theorem bT (h:QE X e te):QO X (some e) (tPt te):=T4 (Rj h) (by rintro U H Q ⟨Y,S,Z,k,R,D,q,hk⟩;exact⟨Y,S,Z,_,R,D,q,(by
 rintro v H1 ⟨Y1,S1,d,g1,R1,r1,q1⟩;obtain⟨i,e,q1⟩:=oz q1;cases L3.D.Bp e;exact⟨i,bq r1,hk _ _ ⟨Y1,S1,g1,R1,q1⟩⟩)⟩)
def sl3 (mu:Bool):D->Option Int->Option Int->aA->KD->Prop
 |.t (.v (.str z)),lo,hi,S,k=>z.length<=sizeLine/\k (.str (Txt.slice z lo hi)) S
 |.t (.tup l),lo,hi,S,k=>¬(HT.eZ l.length 0 lo=0/\HT.eZ l.length l.length hi=l.length)/\k (.tup (rW l lo hi)) S
 |d,lo,hi,S,k=>∃l,lq S d=some l/\(if mu then k (.ob S.length) (S++[.lst (rW l lo hi)]) else k (.lst (rW l lo hi)) S)
noncomputable def a2r (K:Frag)(r:D->Option Int->Option Int->aA->KD->Prop):V->Option Int->Option Int->Hp->VK->Prop:=λv lo hi H Q=>∃Y S d k,R3 K Y S H/\ki K Y (res Y H) d v/\r d lo hi S k/\∀v H',up K Y H k v H'->Q v H'
theorem YT (mu:Bool):SK X (a2r X.K (sl3 mu)):=by
 intro vy s U H x v vl vu lo hi sl Q I rx hs pl pu ⟨Y,S,d,k,R,rd,q,hk⟩;refine(Vd.or (Vc.or Qy)) vy s U H x v vl vu lo hi sl Q I rx hs pl pu ?_;unfold sl3 at q;split at q
 .exact .inl ⟨_,bq rd,q.1,fin R hk bS q.2⟩
 .obtain⟨a,vs,e1,e2,e3⟩:=dZ rd;refine .inr (.inl ⟨a,vs,e1,.of e2,by rw[<- e3.len];exact q.1,Sn R hk (e3.cut lo hi) q.2⟩)
 .obtain⟨l,h1,h2⟩:=q;obtain⟨a,vs,e1,e2,e3⟩:=dm R rd h1;refine .inr (.inr ⟨a,vs,e1,.of e2,?_⟩);cases mu with
  |true=>exact OJ R hk (e3.cut lo hi) h2
  |false=>exact zf R hk (e3.cut lo hi) h2
def a1J (mu:Bool)(te:dR)(tl th:Yc):dR:=λZ S k=>te Z S λx S1=>tl Z S1 λl S2=>th Z S2 λu S3=>sl3 mu x l u S3 k
theorem rJ (mu:Bool){lo hi:Option Expr}{tl th:Yc}(he:QE X e te)(hl:QO X lo tl)(hu:QO X hi th):QE X (.Subscript e (.Slice lo hi none p2) pos) (a1J mu te tl th):=
 dD (Np (YT mu) he hl hu) (by rintro U H Q ⟨Y,S,Z,k,R,D,q,hk⟩;exact⟨Y,S,Z,_,R,D,q,(by rintro v H1 ⟨Y1,S1,d,g1,R1,r1,q1⟩;exact⟨Y1,S1,Z,_,R1,D.gr g1,q1,(by rintro o H2 ⟨Y2,S2,g2,R2,q2⟩;exact   ⟨Y2,S2,Z,_,R2,D.gr (g1.trans g2),q2,(by rintro o2 H3 ⟨ρ3,S3,g3,zz,q3⟩;exact⟨ρ3,S3,d,k,zz,r1.gr (g2.trans g3),q3,λw H4 u=>hk w H4 (u.gr ((g1.trans g2).trans g3))⟩)⟩)⟩)⟩)
end
abbrev zy:=D->Sl->aA->KS->Prop
abbrev Ay:=List T->Sl->aA->KS->Prop
def liG (K:Frag)(g:zy):TG:=λv U H Q=>∃Y S Z d k,R3 K Y S H/\vQ K Y (res Y H) Z U/\ki K Y (res Y H) d v/\g d Z S k/\∀U' H',Mg K Y H k U' H'->Q U' H'
def a2u (K:Frag)(g:Ay):P4:=λvs U H Q=>∃Y S Z l k,R3 K Y S H/\vQ K Y (res Y H) Z U/\bK K (res Y H) l vs/\g l Z S k/\∀U' H',Mg K Y H k U' H'->Q U' H'
def QG (X:Cx)(tg:Expr)(g:zy):Prop:=PG X tg (liG X.K g)
def QGs (X:Cx)(tg:jcU)(g:Ay):Prop:=UE X tg (a2u X.K g)
def Sj (i:Nat):zy:=λd Z S k=>k (Z.set i (some d)) S
def Uo:Ay:=λl Z S k=>l=[]/\k Z S
def OB (g:zy)(gs:Ay):Ay:=λl Z S k=>∃x r,l=x::r/\g (.t x) Z S λδ1 S1=>gs r δ1 S1 k
def Um (n:Nat)(gs:Ay):zy:=λd Z S k=>∃l,d=.tup l/\l.length=n/\gs l Z S k
section
variable {X:Cx}{pos:Pos}{tg e c:Expr}{es:jcU}{te:dR}{g:zy}{gs:Ay}
theorem JE {t t':TG}(h:PG X tg t)(m:∀v U H Q,t' v U H Q->t v U H Q):PG X tg t':=λvy s U H v u Q I r q=>h vy s U H v u Q I r (m _ _ _ _ q)
theorem CF {t t':P4}(h:UE X es t)(m:∀v U H Q,t' v U H Q->t v U H Q):UE X es t':=λvy s U H v u Q I r q=>h vy s U H v u Q I r (m _ _ _ _ q)
theorem qg {i:Nat}{x:Str}(hN:X.N.Nodup)(hi:autoParam (X.N[i]?=some x) zi)(hx:autoParam (Loc X.env.scope x) kb)(hf:autoParam (X.fn x=true\/X.env.scope.names.lookup x=some .local) zr):QG X (.Name x pos) (Sj i):=
 JE (JD hN hi hx hf) (by rintro v U H Q ⟨Y,S,Z,d,k,R,RS,rd,q,hk⟩;exact hk _ _ ⟨Y,S,Z.set i (some d),.refl,R,RS.set rd i,q⟩)
theorem fc:QGs X [] Uo:=CF JC (by
 rintro v U H Q ⟨Y,S,Z,l,k,R,RS,rl,⟨e,q⟩,hk⟩;subst e;unfold bK at rl;exact⟨rl,hk _ _ ⟨Y,S,Z,.refl,R,RS,q⟩⟩)
theorem uA (h1:QG X e g)(h2:QGs X es gs)(hs:autoParam ((assignEach (e::es) X.env).map (·.2)=assign e X.env::(assignEach es X.env).map (·.2)) zi):QGs X (e::es) (OB g gs):=
 CF (EV h1 h2 hs) (by
  rintro v U H Q ⟨Y,S,Z,l,k,R,RS,rl,⟨x,r,e,q⟩,hk⟩;subst e;unfold bK at rl;obtain⟨w,wr,e1,e2,e3⟩:=rl;refine⟨w,wr,e1,Y,S,Z,.t x,_,R,RS,e2,q,(by rintro σ1 H1 ⟨Y1,S1,δ1,g1,R1,RS1,q1⟩;exact⟨Y1,S1,δ1,r,k,R1,RS1,e3.le g1.le,q1,λU2 H2 u=>hk U2 H2 (u.gr g1)⟩)⟩)
theorem gX {k0 n:Nat}(hc:X.calm=true)(h:QGs X es gs)(hn:autoParam ((assignEach es X.env).length=n) zi)(hst:autoParam ((assignEach es X.env).findIdx? (·.1)=none) zi):QG X (.Tuple es k0 pos) (Um n gs):=
 JE (Nm hc h hn hst) (by
  rintro v U H Q ⟨Y,S,Z,d,k,R,RS,rd,⟨l,e,hl,q⟩,hk⟩;subst e;obtain⟨a,vs,e1,e2,e3⟩:=dZ rd;exact⟨a,vs,e1,.of e2,by rw[<- e3.len];exact hl,Y,S,Z,l,k,R,RS,e3,q,hk⟩)
def GO:uf:=λE Z S=>E.nx Z S
def vC (t u:uf):uf:=λE Z S=>t {E with nx:=λδ1 S1=>u E δ1 S1 } Z S
def A4 (te:dR)(g:zy):uf:=λE Z S=>te Z S λd S1=>g d Z S1 E.nx
def UY (te:dR):uf:=λE Z S=>te Z S λ_ S1=>E.nx Z S1
def Td (te:dR):uf:=λE Z S=>te Z S E.rt
def Ed (c:vP)(t u:uf):uf:=λE Z S=>c Z S λb S1=>if b=true then t E Z S1 else u E Z S1
def YA:uf:=λ_ _ _=>False
variable {st:Stmt}{rest a b:List Stmt}{t u:uf}{tc:vP}
theorem aD:bN X [] GO:=Hf Rb (by rintro D U H ⟨Y,S,Z,E,R,RS,q,eu⟩;exact eu.nx _ _ ⟨Y,S,Z,.refl,R,RS,q⟩)
theorem qs (h1:QS X st t)(h2:bN X rest u):bN X (st::rest) (vC t u):=Hf (Nj h1 h2) (by rintro D U H ⟨Y,S,Z,E,R,RS,q,eu⟩;exact  ⟨Y,S,Z,_,R,RS,q,⟨(by rintro σ1 H1 ⟨Y1,S1,δ1,g1,R1,RS1,q1⟩;exact⟨Y1,S1,δ1,E,R1,RS1,q1,eu.gr g1⟩),eu.rt,eu.bk,eu.ct⟩⟩)
theorem aO (h1:QS X st t):bN X [st] t:=Ra h1
theorem iN {sts:List Stmt}:bN X sts YA:=Hf K0 (by rintro D U H ⟨Y,S,Z,E,R,RS,q,eu⟩;exact q)
theorem gk (he:QE X e te)(hs:autoParam (swapsWith e none pos.line X.env=pure false) zi):QS X (.Expr e pos) (UY te):=qV (Rf he hs) (by rintro D U H ⟨Y,S,Z,E,R,RS,q,eu⟩;exact  ⟨Y,S,Z,_,R,RS,q,(by rintro v H1 ⟨Y1,S1,d,g1,R1,r1,q1⟩;exact eu.nx _ _ ⟨Y1,S1,Z,g1,R1,RS.gr g1,q1⟩)⟩)
theorem ao (he:QE X e te):QS X (.Return (some e) pos) (Td te):=qV (VM he) (by rintro D U H ⟨Y,S,Z,E,R,RS,q,eu⟩;exact⟨Y,S,Z,_,R,RS,q,eu.rt⟩)
theorem aR (hc:QT X c tc)(ha:bN X a t)(hb:bN X b u):QS X (.If c a b pos) (Ed tc t u):=qV (Zj hc ha hb) (by rintro D U H ⟨Y,S,Z,E,R,RS,q,eu⟩;exact  ⟨Y,S,Z,_,R,RS,q,(by
  rintro v H1 ⟨Y1,S1,g1,R1,q1⟩;cases v with
  |true=>exact⟨Y1,S1,Z,E,R1,RS.gr g1,q1,eu.gr g1⟩
  |false=>exact⟨Y1,S1,Z,E,R1,RS.gr g1,q1,eu.gr g1⟩)⟩)
theorem aq {i:Nat}{x:Str}{pos':Pos}(hN:X.N.Nodup)(he:QE X e te)(hi:autoParam (X.N[i]?=some x) zi)(hx:autoParam (Loc X.env.scope x) kb)(hs:autoParam (swapsWith e (some (.Name x pos')) pos.line X.env=pure false) zi)(hf:autoParam (X.fn x=true\/X.env.scope.names.lookup x=some .local) zr) :
  QS X (.Assign [.Name x pos'] e pos) (A4 te (Sj i)):=qV (VL hN hi hx he hs hf) (by rintro D U H ⟨Y,S,Z,E,R,RS,q,eu⟩;exact  ⟨Y,S,Z,_,R,RS,q,(by rintro v H1 ⟨Y1,S1,d,g1,R1,r1,q1⟩;exact eu.nx _ _ ⟨Y1,S1,Z.set i (some d),g1,R1,(RS.gr g1).set r1 i,q1⟩)⟩)
theorem Na (he:QE X e te)(hg:QG X tg g)(hs:autoParam (swapsWithSole [tg] e pos.line X.env=pure false) zi)(hw:autoParam (swappedStores [tg] e X.env=pure none) zi)(h1:autoParam ((assignEach [tg] X.env).map (·.2)=[assign tg X.env]) zi) :
  QS X (.Assign [tg] e pos) (A4 te g):=qV (VQ he hg hs hw h1) (by rintro D U H ⟨Y,S,Z,E,R,RS,q,eu⟩;exact  ⟨Y,S,Z,_,R,RS,q,(by rintro v H1 ⟨Y1,S1,d,g1,R1,r1,q1⟩;exact⟨Y1,S1,Z,d,E.nx,R1,RS.gr g1,r1,q1,λU2 H2 u=>eu.nx _ _ (u.gr g1)⟩)⟩)
def YJ (to ti te:dR)(f:Int->Int->Int):uf:=λE Z S=>to Z S λo S1=>ti Z S1 λi S2=>∃(n j:Nat)(l:List T)(a:Int),o=.ob n/\i=.int (j:Nat)/\S2[n]?=some (.lst l)/\l[j]?=some (.int a)/\
 te Z S2 λd S3=>∃b l',d=.int b/\S3[n]?=some (.lst l')/\j<l'.length/\E.nx Z (S3.set n (.lst (l'.set j (.int (f a b)))))
theorem QZ {o i:Expr}{to ti:dR}{op:Operator}{f:Int->Int->Int}{tpos:Pos}(ho:QE X o to)(hi:QE X i ti)(he:QE X e te)(hp:PIp X op (ipI f))
  (ha:autoParam (∀ov iv new,augStore i ov iv new=(do holding [new,ov,iv] (setItem ov iv new);release [new,ov,iv] [];pure .next)) jp):QS X (.AugAssign (.Subscript o i tpos) op e pos) (YJ to ti te f):=
 qV (Rh ho hi OA he hp set_list ha) λD U H ⟨Y,S,Z,E,R,RS,q,eu⟩=>⟨Y,S,Z,_,R,RS,q,λv1 H1 ⟨Y1,S1,d1,g1,R1,r1,q1⟩=>⟨Y1,S1,Z,_,R1,RS.gr g1,q1,(by
  rintro v2 H2 ⟨Y2,S2,d2,g2,R2,r2,n,j,l,a,h1,h2,h3,h4,q2⟩;subst h1 h2;obtain⟨p,hp,e1⟩:=r1.gr g2;obtain⟨vs,e2,e3⟩:=R2.ok n p _ hp h3;obtain⟨w,e4,e5⟩:=e3.get h4;refine⟨p,vs,j,w,e1,bq r2,.of e2,e4,Y2,S2,Z,_,R2,RS.gr (g1.trans g2),q2,?_⟩;rintro v3 H3 ⟨ρ3,S3,d3,g3,zz,r3,b,l',h5,h6,h7,q3⟩;subst h5;have ew:w=V.int a:=by unfold Rp at e5;exact e5
  refine⟨a,b,ew,bq r3,?_⟩;have hp3:=g3.at hp;obtain⟨us,f1,f2⟩:=zz.ok n p _ hp3 h6;refine⟨p,us,j,j,e1,bq r2,f1,?_,?_⟩
  .unfold R7;rw[jae (by omega),jae (by rw[<- f2.len];omega)];simp
  .have key:bK X.K (res ρ3 H3) (l'.set j (.int (f a b))) (us.set j (.int (f a b))):=bK.put (by unfold Rp;rfl) f2;obtain⟨R4,g4⟩:=zz.put (o:=.lst (us.set j (.int (f a b)))) (u:=.lst (l'.set j (.int (f a b)))) hp3 ⟨_,M,key⟩;exact eu.nx _ _ ⟨ρ3,_,Z,((g1.trans g2).trans g3).trans g4,R4,(RS.gr ((g1.trans g2).trans g3)).gr g4,q3⟩)⟩⟩
end
abbrev Pu:=Sl->aA->(List D->(aA->Prop)->aA->Prop)->Prop
structure UG (K:Frag)(J:It)(AC:List D)(G:aA->Prop)(ρ0:List Addr)(H0:Hp):Prop where
 go:∀i Y S H,Gr ρ0 H0 Y H->R3 K Y S H->G S->i<AC.length->J.go i H
 KI:∀i x Y S H H' d,Gr ρ0 H0 Y H->R3 K Y S H->G S->AC[i]?=some d->J.KI i H x H'->∃Y',Gr Y H Y' H'/\R3 K Y' S H'/\ki K Y' (res Y' H') d x
 stop:∀i Y S H,Gr ρ0 H0 Y H->R3 K Y S H->G S->AC.length<=i->i<=AC.length->J.stop i H
def liI (K:Frag)(w:Pu):TI:=λU H R=>∃Y S Z k,R3 K Y S H/\vQ K Y (res Y H) Z U/\w Z S k/\∀J H',(∃Y' S' AC G,Gr Y H Y' H'/\R3 K Y' S' H'/\UG K J AC G Y' H'/\k AC G S')->R J H'
def QI (X:Cx)(tg iter:Expr)(w:Pu):Prop:=PI X tg iter (liI X.K w)
def aG (d:D)(S1:aA)(k:List D->(aA->Prop)->aA->Prop):Prop:=(∃l,(d=.tup l\/d=.lst l)/\k (l.map .t) (λ_=>True) S1)\/(∃n l,d=.ob n/\S1[n]?=some (.lst l)/\k (l.map .t) (λS=>S[n]?=some (.lst l)) S1)
def iSq (te:dR):Pu:=λZ S k=>te Z S λd S1=>aG d S1 k
def a2J (t:oH):Pu:=λZ S k=>t Z S λds S1=>∃j:Int,ds=[.int j]/\-(2 ^ 62)<=j/\j<2 ^ 62/\k ((List.range j.toNat).map λ(i:Nat)=>D.int i) (λ_=>True) S1
section
variable {X:Cx}{tg iter e:Expr}{te:dR}{pos p:Pos}
theorem JB {t t':TI}(h:PI X tg iter t)(m:∀U H R,t' U H R->t U H R):PI X tg iter t':=λvy s U H R I q=>h vy s U H R I (m _ _ _ q)
theorem Oa {K:Frag}{Y:jcT}{H:Hp}{a:Addr}{l:List T}{vs:List V}(h:res Y H a=some (.lst vs))(r:bK K (res Y H) l vs):UG K (Itl K a) (l.map .t) (λ_=>True) Y H where
 go:=λi Y1 S1 H1 g R _ hi=>by
  have e:=(res_some (g.le _ _ h)).2;have hl:i<vs.length:=by rw[<- r.len];simpa using hi
  exact⟨vs,vs[i],.of e,jaD hl⟩
 KI:=λi x Y1 S1 H1 H' d g R _ hd y=>by
  obtain⟨rfl,y⟩:=y;have e:=(res_some (g.le _ _ h)).2;rw[jaA] at hd;cases q:l[i]? with
  |none=>rw[q] at hd;cases hd
  |some z=>
   rw[q] at hd;cases hd;obtain⟨v,e1,e2⟩:=r.get q;have:=y vs (.of e);rw[e1] at this;cases this;exact⟨Y1,.refl,R,e2.le g.le⟩
 stop:=λi Y1 S1 H1 g R _ hi _=>by
  have e:=(res_some (g.le _ _ h)).2;exact⟨vs,.of e,by rw[<- r.len];simpa using hi⟩
theorem RY {K:Frag}{Y:jcT}{H:Hp}{a:Addr}{l:List T}{vs:List V}(h:res Y H a=some (.tup vs))(r:bK K (res Y H) l vs):UG K (Itt K a) (l.map .t) (λ_=>True) Y H where
 go:=λi Y1 S1 H1 g R _ hi=>by
  have e:=(res_some (g.le _ _ h)).2;have hl:i<vs.length:=by rw[<- r.len];simpa using hi
  exact⟨vs,vs[i],.of e,jaD hl⟩
 KI:=λi x Y1 S1 H1 H' d g R _ hd y=>by
  obtain⟨rfl,y⟩:=y;have e:=(res_some (g.le _ _ h)).2;rw[jaA] at hd;cases q:l[i]? with
  |none=>rw[q] at hd;cases hd
  |some z=>
   rw[q] at hd;cases hd;obtain⟨v,e1,e2⟩:=r.get q;have:=y vs (.of e);rw[e1] at this;cases this;exact⟨Y1,.refl,R,e2.le g.le⟩
 stop:=λi Y1 S1 H1 g R _ hi _=>by
  have e:=(res_some (g.le _ _ h)).2;exact⟨vs,.of e,by rw[<- r.len];simpa using hi⟩
theorem WM {K:Frag}{Y:jcT}{H:Hp}{n:Nat}{a:Addr}{l:List T}(ha:Y[n]?=some a):UG K (Itl K a) (l.map .t) (λS=>S[n]?=some (.lst l)) Y H where
 go:=λi Y1 S1 H1 g R hS hi=>by
  obtain⟨vs,e,r⟩:=R.ok n a _ (g.at ha) hS;have hl:i<vs.length:=by rw[<- r.len];simpa using hi
  exact⟨vs,vs[i],.of e,jaD hl⟩
 KI:=λi x Y1 S1 H1 H' d g R hS hd y=>by
  obtain⟨rfl,y⟩:=y;obtain⟨vs,e,r⟩:=R.ok n a _ (g.at ha) hS;rw[jaA] at hd;cases q:l[i]? with
  |none=>rw[q] at hd;cases hd
  |some z=>
   rw[q] at hd;cases hd;obtain⟨v,e1,e2⟩:=r.get q;have:=y vs (.of e);rw[e1] at this;cases this;exact⟨Y1,.refl,R,e2⟩
 stop:=λi Y1 S1 H1 g R hS hi _=>by
  obtain⟨vs,e,r⟩:=R.ok n a _ (g.at ha) hS;exact⟨vs,.of e,by rw[<- r.len];simpa using hi⟩
theorem qi (he:QE X iter te):QI X tg iter (iSq te):=JB (VS he) (by rintro U H Q ⟨Y,S,Z,k,R,D,q,hk⟩;exact⟨Y,S,Z,_,R,D,q,(by
 rintro v H1 ⟨Y1,S1,d,g1,R1,r1,q1⟩;rcases q1 with⟨l,rfl | rfl,q1⟩ | ⟨n,l,rfl,h,q1⟩
 .have r1:Rp _ _ _ _:=r1;unfold Rp at r1;obtain⟨a,vs,e1,e2,e3⟩:=r1;exact⟨a,e1,.inr ⟨⟨vs,.of (res_some e2).2⟩,hk _ _ ⟨Y1,S1,_,_,g1,R1,RY e2 e3,q1⟩⟩⟩
 .have r1:Rp _ _ _ _:=r1;unfold Rp at r1;obtain⟨a,vs,e1,e2,e3⟩:=r1;exact⟨a,e1,.inl ⟨⟨vs,.of (res_some e2).2⟩,hk _ _ ⟨Y1,S1,_,_,g1,R1,Oa e2 e3,q1⟩⟩⟩
 .obtain⟨a,ha,e⟩:=r1;obtain⟨vs,e2,e3⟩:=R1.ok n a _ ha h;exact⟨a,e,.inl ⟨⟨vs,.of e2⟩,hk _ _ ⟨Y1,S1,_,_,g1,R1,WM ha,q1⟩⟩⟩)⟩)
theorem RZ {K:Frag}{Y:jcT}{H:Hp}{n:Nat}:UG K (Itr 0 n) ((List.range n).map λ(i:Nat)=>D.int i) (λ_=>True) Y H where
 go:=λi Y1 S1 H1 g R _ hi=>by show i<n;simpa using hi
 KI:=λi x Y1 S1 H1 H' d g R _ hd y=>by
  obtain⟨rfl,y⟩:=y;rw[jaA] at hd;cases q:(List.range n)[i]? with
  |none=>rw[q] at hd;cases hd
  |some z=>
   rw[q] at hd;cases hd;have:=jb8 (n:=n) (i:=i) (by have:=(jao.mp q).1;simpa using this);rw[this] at q;cases q;subst y;refine⟨Y1,.refl,R,?_⟩;show Rp _ _ _ _;unfold Rp;rw[Int.zero_add]
 stop:=λi Y1 S1 H1 g R _ hi _=>by show n<=i;simpa using hi
theorem nL {a:Expr}{t:oH}(hg:Gl X "range")(hm:X.mg "range"=none)(ha:QA X [a] t)(hs:autoParam (starEach [a] X.env=[(false,eval a X.env)]) zi):QI X tg (.Call (.Name "range" p) [a] [] pos) (a2J t):=
 JB (K2 hg hm ha hs) (by rintro U H Q ⟨Y,S,Z,k,R,D,q,hk⟩;exact⟨Y,S,Z,_,R,D,q,(by
  rintro v H1 ⟨Y1,S1,d,g1,R1,r1,j,e,h1,h2,q1⟩;subst e;obtain⟨w,rfl,rw'⟩:=r1.one;rw[bq rw'];exact⟨j,M,h1,h2,hk _ _ ⟨Y1,S1,_,_,g1,R1,RZ,q1⟩⟩)⟩)
noncomputable def Al (G:aA->Prop)(g:zy)(tb:uf):List D->uf
 |[]=>λE Z S=>G S/\E.nx Z S
 |x::r=>λE Z S=>G S/\g x Z S λδ1 S1=>tb {E with nx:=Al G g tb r E,ct:=Al G g tb r E,bk:=E.nx } δ1 S1
def YD (w:Pu)(g:zy)(tb:uf):uf:=λE Z S=>w Z S λAC G S1=>Al G g tb AC E Z S1
variable {g:zy}{tb:uf}{body:List Stmt}
theorem aZ {w:Pu}(hp:PassesOwn (model X.prog X.w) X.A X.env X.xe)(hc:X.calm=true)(hi:QI X tg iter w)(hg:QG X tg g)(hb:bN X body tb)(hs:autoParam (∀x,foldedSetIterable iter X.env x=pure x) zt) :
  QS X (.For tg iter body [] pos) (YD w g tb):=qV (VO hp hc hi hg hb hs) λD U H ⟨Y,S,Z,E,R,RS,q,eu⟩=>⟨Y,S,Z,_,R,RS,q,λJ H1 ⟨Y1,S1,AC,G,g1,R1,jo,q1⟩=>by
 refine⟨λi m U' H'=>m=AC.length - i/\i<=AC.length/\∃Y' S' Z',Gr Y1 H1 Y' H'/\R3 X.K Y' S' H'/\vQ X.K Y' (res Y' H') Z' U'/\Al G g tb (AC.drop i) E Z' S',⟨AC.length,by simp,ja3 _,Y1,S1,Z,.refl,R1,RS.gr g1,q1⟩,?_⟩;rintro i m U' H' ⟨rfl,hi,Y',S',Z',g',R',RS',q'⟩;by_cases hlt:i<AC.length
 .rw[jcj hlt] at q';obtain⟨hG,q'⟩:=q';refine .inr ⟨jo.go i Y' S' H' g' R' hG hlt,_,λU2 H2 z=>z,λx H2 y=>?_⟩;obtain⟨Y2,g2,R2,r2⟩:=jo.KI i x Y' S' H' H2 AC[i] g' R' hG (jaD hlt) y;refine⟨Y2,S',Z',AC[i],_,R2,RS'.gr g2,r2,q',λσ3 H3 ⟨ρ3,S3,δ3,g3,zz,RS3,q3⟩=>⟨ρ3,S3,δ3,_,zz,RS3,q3,?_⟩⟩;have gg:=((g1.trans g').trans g2).trans g3;have fwd:∀σ4 H4,Mg X.K ρ3 H3 (Al G g tb (AC.drop (i+1)) E) σ4 H4->∃m',m' < AC.length - i/\(m'=AC.length - (i+1)/\i+1<=AC.length/\∃Y' S' Z',Gr Y1 H1 Y' H4/\R3 X.K Y' S' H4/\vQ X.K Y' (res Y' H4) Z' σ4/\Al G g tb (AC.drop (i+1)) E Z' S'):=
   (by rintro σ4 H4 ⟨ρ4,S4,δ4,g4,R4,RS4,q4⟩;exact⟨AC.length - (i+1),by omega,M,hlt,ρ4,S4,δ4,((g'.trans g2).trans g3).trans g4,R4,RS4,q4⟩)
  exact⟨fwd,λv H4 u=>eu.rt v H4 (u.gr gg),λσ4 H4 u=>eu.nx σ4 H4 (u.gr gg),fwd⟩
 .have e:AC.drop i=[]:=List.drop_eq_nil_of_le (by omega);rw[e] at q';exact .inl ⟨jo.stop i Y' S' H' g' R' q'.1 (by omega) (by omega),eu.nx _ _ ⟨Y',S',Z',g1.trans g',R',RS',q'.2⟩⟩⟩
end
def SmS (own:Nat)(U U':St):Prop:=U'.length=U.length/\∀i:Nat,own<=i->U'[i]?=U[i]?
def Wv (K:Frag)(own:Nat)(g:zy):TG:=λv U H Q=>∃Y S Z d k,R3 K Y S H/\vQ K Y (res Y H) Z U/\ki K Y (res Y H) d v/\g d Z S k/\∀U' H',Mg K Y H k U' H'->SmS own U U'->Q U' H'
def a2q (K:Frag)(own:Nat)(g:Ay):P4:=λvs U H Q=>∃Y S Z l k,R3 K Y S H/\vQ K Y (res Y H) Z U/\bK K (res Y H) l vs/\g l Z S k/\∀U' H',Mg K Y H k U' H'->SmS own U U'->Q U' H'
def QX (X:Cx)(own:Nat)(tg:Expr)(g:zy):Prop:=PG X tg (Wv X.K own g)
def QXs (X:Cx)(own:Nat)(tg:jcU)(g:Ay):Prop:=UE X tg (a2q X.K own g)
section
variable {X:Cx}{pos:Pos}{tg e:Expr}{es:jcU}{g:zy}{gs:Ay}{own:Nat}
theorem qx {i:Nat}{x:Str}(hN:X.N.Nodup)(hi:autoParam (X.N[i]?=some x) zi)(ho:autoParam (i<own) zn)(hx:autoParam (Loc X.env.scope x) kb)(hf:autoParam (X.fn x=true\/X.env.scope.names.lookup x=some .local) zr):QX X own (.Name x pos) (Sj i):=
 JE (JD hN hi hx hf) λv U H Q ⟨Y,S,Z,d,k,R,RS,rd,q,hk⟩=>hk _ _ ⟨Y,S,Z.set i (some d),.refl,R,RS.set rd i,q⟩ ⟨by simp,λj hj=>jbG (by omega)⟩
theorem gH:QXs X own [] Uo:=CF JC (by
 rintro v U H Q ⟨Y,S,Z,l,k,R,RS,rl,⟨e,q⟩,hk⟩;subst e;unfold bK at rl;exact⟨rl,hk _ _ ⟨Y,S,Z,.refl,R,RS,q⟩ ⟨M,λ_ _=>rfl⟩⟩)
theorem zO (h1:QX X own e g)(h2:QXs X own es gs)(hs:autoParam ((assignEach (e::es) X.env).map (·.2)=assign e X.env::(assignEach es X.env).map (·.2)) zi):QXs X own (e::es) (OB g gs):=
 CF (EV h1 h2 hs) (by
  rintro v U H Q ⟨Y,S,Z,l,k,R,RS,rl,⟨x,r,e,q⟩,hk⟩;subst e;unfold bK at rl;obtain⟨w,wr,e1,e2,e3⟩:=rl;refine⟨w,wr,e1,Y,S,Z,.t x,_,R,RS,e2,q,λσ1 H1 ⟨Y1,S1,δ1,g1,R1,RS1,q1⟩ m1=>⟨Y1,S1,δ1,r,k,R1,RS1,e3.le g1.le,q1,λU2 H2 u m2=>hk U2 H2 (u.gr g1) ⟨m2.1.trans m1.1,λi hi=>(m2.2 i hi).trans (m1.2 i hi)⟩⟩⟩)
theorem jQ {k0 n:Nat}(hc:X.calm=true)(h:QXs X own es gs)(hn:autoParam ((assignEach es X.env).length=n) zi)(hst:autoParam ((assignEach es X.env).findIdx? (·.1)=none) zi):QX X own (.Tuple es k0 pos) (Um n gs):=
 JE (Nm hc h hn hst) (by
  rintro v U H Q ⟨Y,S,Z,d,k,R,RS,rd,⟨l,e,hl,q⟩,hk⟩;subst e;obtain⟨a,vs,e1,e2,e3⟩:=dZ rd;exact⟨a,vs,e1,.of e2,by rw[<- e3.len];exact hl,Y,S,Z,l,k,R,RS,e3,q,hk⟩)
end
noncomputable def st3 (own:Nat)(fr:jcX)(Z:Sl):Sl:=List.replicate own none++fr.map λj=>(Z[j]?).join
def iX (G:aA->Prop)(g:zy)(tt:vP)(te:dR)(δ0:Sl):List D->aA->List T->(List T->aA->Prop)->Prop
 |[],S,ys,k=>G S/\k ys S
 |x::r,S,ys,k=>G S/\g x δ0 S λδ1 S1=>tt δ1 S1 λb S2=>if b=true then te δ1 S2 λd S3=>∃y,d=.t y/\ys.length<sizeLine/\iX G g tt te δ0 r S3 (ys++[y]) k else iX G g tt te δ0 r S2 ys k
def GQ (own:Nat)(fr:jcX)(w:Pu)(g:zy)(tt:vP)(te:dR):dR:=λZ S k=>w Z S λAC G S1=>iX G g tt te (st3 own fr Z) AC S1 [] λys S2=>k (.lst ys) S2
def Mu (own:Nat)(fr:jcX)(w:Pu)(g:zy)(tt:vP)(te:dR):dR:=λZ S k=>w Z S λAC G S1=>iX G g tt te (st3 own fr Z) AC S1 [] λys S2=>k (.ob S2.length) (S2++[.lst ys])
def QTs (X:Cx)(cs:jcU)(t:vP):Prop:=Ye X cs (PV X.K t)
def YL:vP:=λ_ S k=>k true S
theorem vQ.BV {K:Frag}{Y:jcT}{G:Hp}{Z:Sl}{U:St}(r:vQ K Y G Z U)(own:Nat)(fr:jcX):vQ K Y G (st3 own fr Z) (BV own fr U):=by
 refine⟨by unfold st3 L2.BV;simp,λi d h=>?_⟩;unfold st3 at h;unfold L2.BV;by_cases hi:i<own
 .rw[jaS (by simpa using hi),jck,jae hi] at h;cases h
 .rw[jbj (by simpa using hi),jcE,jaA] at h ⊢;cases e:fr[i - own]? with
  |none=>rw[e] at h;cases h
  |some j=>
   rw[e] at h;have h:(Z[j]?).join=some d:=ja2 h;have h2:Z[j]?=some (some d):=by
    cases q:Z[j]? with
    |none=>rw[q] at h;cases h
    |some o=>rw[q] at h;exact jah some h
   obtain⟨v,e1,e2⟩:=r.2 j d h2;exact⟨v,by show some ((U[j]?).join)=some (some v);rw[e1];rfl,e2⟩
theorem My {own:Nat}{fr:jcX}{U U':St}(h:SmS own (BV own fr U) U'):Ext (BV own fr U) U':=by
 refine⟨h.1,λi v e=>?_⟩;by_cases hi:i<own
 .unfold L2.BV at e;rw[jaS (by simpa using hi),jck,jae hi] at e;cases e
 .rw[h.2 i (by omega)];exact e
section
variable {X:Cx}{sc:Scope}{cl:List (Str×Addr)}{own:Nat}{N:jcR}{fr:jcX}{elt tg iter:Expr}{cs:jcU}{pos spos py:Pos}{w:Pu}{g:zy}{tt:vP}{te:dR}
theorem bD:QTs X [] YL:=(by rintro vy s U H Q I ⟨Y,S,Z,k,R,D,q,hk⟩;exact Q8 vy s U H Q I (hk _ _ ⟨Y,S,.refl,R,q⟩))
theorem tu {c:Expr}{t:vP}(hc:QT X c t):QTs X [c] t:=Q7 hc
theorem S7 {U:St}{H1:Hp}{Y1:jcT}{S1:aA}{Z:Sl}{J:It}{AC:List D}{G:aA->Prop}{k:List T->aA->Prop}{R:List V->Hp->Prop}(RS:vQ X.K Y1 (res Y1 H1) Z U)(R1:R3 X.K Y1 S1 H1)(jo:UG X.K J AC G Y1 H1)
  (q:iX G g tt te (st3 own fr Z) AC S1 [] k) (hR:∀Y2 S2 H2 ys l,Gr Y1 H1 Y2 H2->R3 X.K Y2 S2 H2->bK X.K (res Y2 H2) l ys->k l S2->R ys H2) :
  ∃W:Nat->Nat->List V->Hp->Prop,(∃m,W 0 m [] H1)/\Pj J (Wv X.K own g) (PV X.K tt) (li X.K te) (BV own fr U) W R:=by
 refine⟨λi m ys H'=>m=AC.length - i/\i<=AC.length/\∃Y' S' l,Gr Y1 H1 Y' H'/\R3 X.K Y' S' H'/\bK X.K (res Y' H') l ys/\iX G g tt te (st3 own fr Z) (AC.drop i) S' l k,⟨AC.length,by simp,ja3 _,Y1,S1,[],.refl,R1,.nil,q⟩,?_⟩;rintro i m ys H' ⟨rfl,hi,Y',S',l,g',R',rl,q'⟩;by_cases hlt:i<AC.length
 .rw[jcj hlt] at q';obtain⟨hG,q'⟩:=q';refine .inr ⟨jo.go i Y' S' H' g' R' hG hlt,λys' H2=>∃Y2 S2 l2,Gr Y1 H1 Y2 H2/\R3 X.K Y2 S2 H2/\bK X.K (res Y2 H2) l2 ys'/\iX G g tt te (st3 own fr Z) (AC.drop (i+1)) S2 l2 k,λys' H2 z=>⟨AC.length - (i+1),by omega,M,hlt,z⟩,λx H2 y=>?_⟩;obtain⟨Y2,g2,R2,r2⟩:=jo.KI i x Y' S' H' H2 AC[i] g' R' hG (jaD hlt) y;refine⟨Y2,S',st3 own fr Z,AC[i],_,R2,(RS.gr (g'.trans g2)).BV own fr,r2,q',λσ3 H3 ⟨ρ3,S3,δ3,g3,zz,RS3,q3⟩ sm=>⟨My sm,ρ3,S3,δ3,_,zz,RS3,q3,?_⟩⟩;rintro b H4 ⟨ρ4,S4,g4,R4,q4⟩;cases b with
  |false=>exact⟨ρ4,S4,l,(((g'.trans g2).trans g3).trans g4),R4,rl.le ((g2.trans g3).trans g4).le,q4⟩
  |true=>
   refine⟨ρ4,S4,δ3,_,R4,RS3.gr g4,q4,?_⟩;rintro v H5 ⟨ρ5,S5,d,g5,R5,r5,z,hz,hl,q5⟩;subst hz;have gg:=((g2.trans g3).trans g4).trans g5;exact⟨by rw[<- rl.len];exact hl,ρ5,S5,l++[z],g'.trans gg,R5,(rl.le gg.le).app (.cons r5 .nil),q5⟩
 .have e:AC.drop i=[]:=List.drop_eq_nil_of_le (by omega);rw[e] at q';exact .inl ⟨jo.stop i Y' S' H' g' R' q'.1 (by omega) (by omega),hR Y' S' H' ys l g' R' rl q'.2⟩
theorem BA:∀U H Q,li X.K (GQ own fr w g tt te) U H Q->IX own fr (liI X.K w) (Wv X.K own g) (PV X.K tt) (li X.K te) U H Q:=(by rintro U H Q ⟨Y,S,Z,k,R,D,q,hk⟩;exact  ⟨Y,S,Z,_,R,D,q,(by rintro J H1 ⟨Y1,S1,AC,G,g1,R1,jo,q1⟩;exact S7 (D.gr g1) R1 jo q1 λY2 S2 H2 ys l g2 R2 rl q2=>zf R2 (λv H' u=>hk v H' (u.gr (g1.trans g2))) rl q2)⟩)
theorem Ih:∀U H Q,li X.K (Mu own fr w g tt te) U H Q->IX own fr (liI X.K w) (Wv X.K own g) (PV X.K tt) (li X.K te) U H Q:=(by rintro U H Q ⟨Y,S,Z,k,R,D,q,hk⟩;exact  ⟨Y,S,Z,_,R,D,q,(by rintro J H1 ⟨Y1,S1,AC,G,g1,R1,jo,q1⟩;exact S7 (D.gr g1) R1 jo q1 λY2 S2 H2 ys l g2 R2 rl q2=>OJ R2 (λv H' u=>hk v H' (u.gr (g1.trans g2))) rl q2)⟩)
theorem cu (S:qf X sc cl own N fr)(hc:X.calm=true)(hi:QI X tg iter w)(hg:∀C s H fp,QX (tU X sc N cl C s H fp) own tg g)
  (ht:∀C s H fp,QTs (tU X sc N cl C s H fp) cs tt) (he:∀C s H fp,QE (tU X sc N cl C s H fp) elt te) (hs:autoParam (∀x,foldedSetIterable iter X.env x=pure x) zt) :
  QE X (.ListComp elt [⟨tg,iter,cs,0⟩] sc pos) (GQ own fr w g tt te):=dD (JF (g:=Wv X.K own g) (tt:=PV X.K tt) (te:=li X.K te) S hc hi hg ht he hs) BA
theorem Q2 (S:qf X sc cl own N fr)(hc:X.calm=true)(hi:QI X tg iter w)(hg:∀C s H fp,QX (tU X sc N cl C s H fp) own tg g)
  (ht:∀C s H fp,QTs (tU X sc N cl C s H fp) cs tt) (he:∀C s H fp,QE (tU X sc N cl C s H fp) elt te) (hs:autoParam (∀x,foldedSetIterable iter X.env x=pure x) zt) :
  QE X (.ListComp elt [⟨tg,iter,cs,0⟩] sc pos) (Mu own fr w g tt te):=dD (JF (g:=Wv X.K own g) (tt:=PV X.K tt) (te:=li X.K te) S hc hi hg ht he hs) Ih
theorem xj {i:Nat}{y:Str}(hN:X.N.Nodup)(S:qf X sc cl own N fr)(hc:X.calm=true)(hi:QI X tg iter w)(hg:∀C s H fp,QX (tU X sc N cl C s H fp) own tg g)
  (ht:∀C s H fp,QTs (tU X sc N cl C s H fp) cs tt) (he:∀C s H fp,QE (tU X sc N cl C s H fp) elt te) (hiy:autoParam (X.N[i]?=some y) zi) (hy:autoParam (Loc X.env.scope y) kb)
  (hsw:autoParam (swapsWith (.ListComp elt [⟨tg,iter,cs,0⟩] sc pos) (some (.Name y py)) spos.line X.env=pure true) zi) (hs:autoParam (∀x,foldedSetIterable iter X.env x=pure x) zt)
  (hf:autoParam (X.fn y=true\/X.env.scope.names.lookup y=some .local) zr) :
  QS X (.Assign [.Name y py] (.ListComp elt [⟨tg,iter,cs,0⟩] sc pos) spos) (A4 (GQ own fr w g tt te) (Sj i)):=
 qV (Rc (g:=Wv X.K own g) (tt:=PV X.K tt) (te:=li X.K te) hN hiy hy S hc hi hg ht he hsw hs hf) (by rintro D U H ⟨Y,S,Z,E,R,RS,q,eu⟩;exact BA _ _ _ ⟨Y,S,Z,_,R,RS,q,(by rintro v H1 ⟨Y1,S1,d,g1,R1,r1,q1⟩;exact eu.nx _ _ ⟨Y1,S1,Z.set i (some d),g1,R1,(RS.gr g1).set r1 i,q1⟩)⟩)
end
def closes (L:Nat)(d:D)(S':aA)(k:KD):Prop:=
 (∃S0 S1,S'=S0++S1/\S0.length=L/\(∀o∈S0,Ds L o)/\clD L d/\k d S0)\/
 (∃m o S0 S1,d=.ob m/\L<=m/\S'=S0++S1/\S0.length=L/\(∀o∈S0,Ds L o)/\S'[m]?=some o/\Ds L o/\k (.ob L) (S0++[o]))\/
 (∃m l S0 S1,d=.ob m/\L<=m/\S'=S0++S1/\S0.length=L/\(∀o∈S0,Ds L o)/\S'[m]?=some (.lst l)/\k (.lst l) S0)\/k d S'
noncomputable def uI (N:jcR)(ds:List D):Sl:=ds.map some++List.replicate (N.length - ds.length) none
theorem vQ.start {K:Frag}{Y:jcT}{G:Hp}{ds:List D}{vs:List V}(r:fk K Y G ds vs)(N:jcR):vQ K Y G (uI N ds) (start N vs):=by
 have hl:ds.length=vs.length:=fk.len r;refine⟨by unfold uI L2.start;simp[hl],λi d h=>?_⟩;unfold uI at h;unfold L2.start;by_cases hi:i<ds.length
 .rw[jaS (by simpa using hi),jaA] at h;rw[jaS (by simpa[<- hl] using hi),jaA];cases e:ds[i]? with
  |none=>rw[e] at h;cases h
  |some x=>
   rw[e] at h;cases h;have gt:∀{l:List D}{m:List V}{i:Nat}{x:D},Paired (ki K Y G) l m->l[i]?=some x->∃v,m[i]?=some v/\ki K Y G x v:=by
    intro l m i x r
    induction r generalizing i with
    |nil=>intro e;simp at e
    |cons a t ih=>
     intro e;cases i with
     |zero=>simp at e;subst e;exact⟨_,M,a⟩
     |succ i=>obtain⟨v,h1,h2⟩:=ih (i:=i) (by simpa using e);exact⟨v,by simpa using h1,h2⟩
   obtain⟨v,h1,h2⟩:=gt r e;exact⟨v,by rw[h1];rfl,h2⟩
 .rw[jbj (by simpa using hi),jck] at h;split at h<;>cases h
theorem FZ {K:Frag}{Y:jcT}{S:aA}{H:Hp}{k:KD}{v:V}{H':Hp}(R:R3 K Y S H)(h:up K Y H (λd S'=>closes S.length d S' k) v H'):up K Y H k v H':=by
 obtain⟨Y',S',d,g,R',r,c⟩:=h;obtain⟨ex,hex⟩:=g.ext;subst hex;rcases c with⟨S0,S1,rfl,hl,hc,hd,q⟩ | ⟨m,o,S0,S1,rfl,hm,rfl,hl,hc,ho,hco,q⟩ | ⟨m,l,S0,S1,rfl,hm,rfl,hl,hc,ho,q⟩ | q
 .refine⟨Y,S0,d,⟨⟨[],by simp⟩,g.le.trans nJ⟩,R'.pop (by rw[R.len,hl]) (by rw[hl];exact hc),r.pop nJ (by rw[R.len];exact hd),q⟩
 .obtain⟨a,ha,rfl⟩:=r;have hρ:Y.length=S0.length:=by rw[R.len,hl]
  have R0:R3 K Y S0 H':=R'.pop hρ (by rw[hl];exact hc);have na:a∉Y:=λz=>by
   obtain⟨n,hn⟩:=jcG.mp z;have l1:=(jao.mp hn).1;have:=qH R'.nd (by rw[jaS l1];exact hn) ha;have:=R.len;omega
  have le:Le (res (Y++ex) H') (res (Y++[a]) H'):=λb o h=>by
   obtain⟨h1,h2⟩:=res_some h;refine oU (λz=>h1 ?_) h2;rcases jau.mp z with z | z
   .exact jaP _ z
   .rw[jai.mp z];exact jbH ha
  have pre:∀(n:Nat)(b:Addr),Y[n]?=some b->(Y++[a])[n]?=some b:=λn b e=>by
   rw[jaS (jao.mp e).1];exact e
  refine⟨Y++[a],S0++[o],.ob S.length,⟨⟨[a],M⟩,g.le.trans le⟩,⟨by simp[hρ],?_,λn b u e1 e2=>?_⟩,⟨a,by rw[<- R.len];simp,M⟩,q⟩
  .rw[jcc];refine⟨R0.nd,by simp,λx hx y hy=>?_⟩;rw[jai.mp hy];exact λz=>na (z ▸ hx)
  .by_cases hn:n<Y.length
   .rw[jaS hn] at e1;have hn2:n<S0.length:=by omega
    rw[jaS hn2] at e2;have q0:=R'.ok n b u (by rw[jaS hn];exact e1) (by rw[jaS hn2];exact e2);exact(q0.pop le (by rw[R.len];exact hc u (jbH e2))).le' pre (Le.refl _)
   .have l1:=(jao.mp e1).1;rw[jaf,jbF] at l1;have hn':n=Y.length:=by omega
    subst hn';rw[jbj (jal _),Nat.sub_self] at e1;rw[jbj (by omega),hρ,Nat.sub_self] at e2;cases e1;cases e2;exact((R'.ok m a o ha ho).pop le (by rw[R.len];exact hco)).le' pre (Le.refl _)
 .obtain⟨a,ha,rfl⟩:=r;have hρ:Y.length=S0.length:=by rw[R.len,hl]
  have na:a∉Y:=λz=>by
   obtain⟨n,hn⟩:=jcG.mp z;have l1:=(jao.mp hn).1;have:=qH R'.nd (by rw[jaS l1];exact hn) ha;have:=R.len;omega
  obtain⟨vs,h1,h2⟩:=R'.ok m a _ ha ho;refine⟨Y,S0,.lst l,⟨⟨[],by simp⟩,g.le.trans nJ⟩,R'.pop hρ (by rw[hl];exact hc),?_,q⟩;show Rp _ _ _ _;unfold Rp;exact⟨a,vs,M,oU na h1,h2.le nJ⟩
 .exact⟨_,S',d,g,R',r,q⟩
noncomputable def endsF (S:aA)(k:KD):rq:={nx:=λ_ S'=>closes S.length .eN S' k,rt:=λd S'=>closes S.length d S' k }
theorem F1 {S S1:aA}{x:T}{k:KD}(c:∀o∈S,Ds S.length o)(h:k (.t x) S):closes S.length (.t x) (S++S1) k:=.inl ⟨S,S1,M,M,c,trivial,h⟩
theorem aL {S:aA}{x:T}{k:KD}(c:∀o∈S,Ds S.length o)(h:k (.t x) S):closes S.length (.t x) S k:=.inr (.inr (.inr h))
theorem O4 {S S1:aA}{j:Nat}{l:List T}{k:KD}(c:∀o∈S,Ds S.length o)(e:S1[j]?=some (.lst l))(h:k (.lst l) S):closes S.length (.ob (S.length+j)) (S++S1) k:=
 .inr (.inr (.inl ⟨_,l,S,S1,M,by omega,M,M,c,by rw[jbj (by omega),jcl];exact e,h⟩))
theorem a3z {S S1:aA}{j:Nat}{o:O}{k:KD}(c:∀o∈S,Ds S.length o)(e:S1[j]?=some o)(co:Ds S.length o)(h:k (.ob S.length) (S++[o])):closes S.length (.ob (S.length+j)) (S++S1) k:=
 .inr (.inl ⟨_,o,S,S1,M,by omega,M,M,c,by rw[jbj (by omega),jcl];exact e,co,h⟩)
theorem dH {S S1:aA}{j:Nat}:(S++S1)[S.length+j]?=S1[j]?:=by rw[jbj (by omega),jcl]
theorem cB {S S1:aA}{j:Nat}{o:O}:(S++S1).set (S.length+j) o=S++S1.set j o:=by rw[List.set_append_right _ _ (by omega),jcl]
def Cl (S:aA):Prop:=∀o∈S,Ds S.length o
section
variable {P:Program}{w:World}{K:Frag}{mg:Str->jcW}{base:Heap}
inductive DfR (X:Cx) (b:List Stmt) (N:List Str) (sp:rZ):Prop
 |mk (t:uf) (h:bN X b t) (h2:∀ds S kk,Cl S->(∀d∈ds,clD S.length d)->sp ds S kk->t (endsF S kk) (uI N ds) S)
theorem Am {x qual:Str}{st:Stmt}{f:Addr}{fd:FuncData}{N ps:jcR}{k:Nat}{sp:rZ}(F:bG K x qual st f fd)(S:aj N ps (aa st))(len:∀ds S k,sp ds S k->ds.length=ps.length)
  (hb:∀(AT:Value)(A:Around)(outer:List Env)(s:Shared)(H:Hp)(E:XK),dW k (A.deeper (PyProof.Rows.envOfC qual (aa st) s.heap.objs.size f AT))->
   DfR (FU bz P w K mg base N qual (aa st) f AT A outer s H E).XS (ai st) N sp):az P w K mg base bz (k+1) f fd ps (aQ K sp):=by
 refine F.ok S (λvs H Q E ⟨Y,S,ds,kk,R,rd,q,_⟩=>by rw[<- fk.len rd];exact len ds S kk q) ?_;rintro AT A outer s H vs Q E hr ⟨Y,S,ds,kk,R,rd,q,hk⟩;obtain⟨t,h1,h2⟩:=hb AT A outer s H E hr;refine⟨_,h1,Y,S,uI N ds,endsF S kk,R,vQ.start rd N,h2 ds S kk R.cl (λd hd=>?_) q,?_⟩
 .obtain⟨v,z⟩:=oX rd d hd;rw[<- R.len];exact z.cl
 .refine⟨(by rintro U H' ⟨Y',S',Z',g',R',RS',q'⟩;exact hk _ _ (FZ R ⟨Y',S',.eN,g',R',bS,q'⟩)),λv H' u=>hk _ _ (FZ R u),(by rintro U H' ⟨_,_,_,_,_,_,z⟩;exact z),(by rintro U H' ⟨_,_,_,_,_,_,z⟩;exact z)⟩
end
end L3
namespace PySem
open L2
noncomputable def itW (m:Nat):Nat->Nat->Nat
 |0,i=>i
 |n+1,i=>itW m n ((i*5+1) % (m+1))
def zA (m:Nat):Prop:=∀i,i<m+1->∀j,j<m+1->∃n,n<m+1/\itW m n i=j
theorem a0k:zA 7:=by unfold zA;symm
theorem W7:zA 15:=by unfold zA;symm
section
variable {m:Nat}{ow:Array (Option Nat)}
theorem a0l {i:Nat}(hi:i<ow.size):(ow.getD i (some 0)).isNone=true↔ow.getD i none=none:=by
 simp only[jbD];rw[jb3 hi];simp only[Option.getD_some,Option.isNone_iff_eq_none]
theorem OE (hs:ow.size=m+1){fuel i p:Nat}(hi:i<m+1)(h:ow.getD i none=none\/∃j,SetTable.layClean.free m ow fuel ((i*5+1+p / 32) % (m+1)) (p / 32)=some j/\j<m+1/\ow.getD j none=none):∃j,SetTable.layClean.free m ow (fuel+1) i p=some j/\j<m+1/\ow.getD j none=none:=by
 have hr:i<=SetTable.runEnd m i/\SetTable.runEnd m i<=m:=by unfold SetTable.runEnd;split<;>omega
 unfold SetTable.layClean.free;cases z:(List.range (SetTable.runEnd m i+1 - i)).find? (λk=>(ow.getD (i+k) (some 0)).isNone) with
 |some k=>
  have h1:=List.find?_some z;have h2:=jbr.mp (jcz z);exact⟨i+k,M,by omega,(a0l (by omega)).mp h1⟩
 |none=>
  rcases h with h | ⟨j,e,l,n⟩
  .have:=List.find?_eq_none.mp z 0 (jbr.mpr (by omega));rw[Nat.add_zero] at this;exact absurd ((a0l (by omega)).mpr h) this
  .exact⟨j,e,l,n⟩
theorem Up (hs:ow.size=m+1){j:Nat}(hj:ow.getD j none=none):∀(n fuel i:Nat),i<m+1->itW m n i=j->n<fuel->∃j,SetTable.layClean.free m ow fuel i 0=some j/\j<m+1/\ow.getD j none=none
 |0,fuel+1,i,hi,h,_=>OE hs hi (.inl (by have h:i=j:=h;rw[h];exact hj))
 |n+1,fuel+1,i,hi,h,hl=>by
  refine OE hs hi (.inr ?_);rw[Nat.zero_div,Nat.add_zero];exact Up hs hj n fuel _ (jbT _ (by omega)) h (by omega)
theorem Uq (g:zA m)(hs:ow.size=m+1){j:Nat}(hl:j<m+1)(hj:ow.getD j none=none):∀(k fuel i p:Nat),i<m+1->p<32 ^ k->k+(m+1)<=fuel->∃j,SetTable.layClean.free m ow fuel i p=some j/\j<m+1/\ow.getD j none=none
 |0,fuel,i,p,hi,hp,hf=>by
  have:p=0:=by omega
  rw[this];obtain⟨n,hn,e⟩:=g i hi j hl;exact Up hs hj n fuel i hi e (by omega)
 |k+1,fuel+1,i,p,hi,hp,hf=>by
  refine OE hs hi (.inr (Uq g hs hl hj k fuel _ _ (jbT _ (by omega)) ?_ (by omega)));rw[Nat.div_lt_iff_lt_mul (by decide)];rw[Nat.pow_succ] at hp;exact hp
noncomputable def uD (m:Nat)(ow:Array (Option Nat)):jcX:=(List.range (m+1)).filterMap λj=>ow.getD j none
theorem Mm (hc:(uD m ow).length<m+1):∃j,j<m+1/\ow.getD j none=none:=by
 rcases Classical.em (∃j,j<m+1/\ow.getD j none=none) with h | h
 .exact h
 .exfalso;have key:∀l:jcX,(∀j∈l,j<m+1)->(l.filterMap λj=>ow.getD j none).length=l.length:=by
   intro l
   induction l with
   |nil=>intro _;rfl
   |cons a r ih=>
    intro hl;cases z:ow.getD a none with
    |none=>exact absurd ⟨a,hl a jar,z⟩ h
    |some v=>rw[iP (λj=>ow.getD j none) z,jaj,jaj,ih λj hj=>hl j (jav _ hj)]
  have:=key (List.range (m+1)) λj hj=>jbr.mp hj;unfold uD at hc;rw[this,jaZ] at hc;omega
theorem Ql (hs:ow.size=m+1){j k:Nat}(hj:j<m+1)(hn:ow.getD j none=none):List.Perm (uD m (ow.setIfInBounds j (some k))) (k::uD m ow):=by
 unfold uD;have sp:List.range (m+1)=List.range j++(j::List.range' (j+1) (m - j)):=by
  rw[jcq,jcq];have e2:=jcH (s:=0) (m:=j) (n:=1+(m - j));rw[jbi] at e2;have e3:List.range' j (1+(m - j))=j::List.range' (j+1) (m - j):=by rw[Nat.add_comm,List.range'_succ]
  rw[<- e3,e2];congr 1;omega
 have f1:∀m,m≠j->(ow.setIfInBounds j (some k)).getD m none=ow.getD m none:=λm hm=>by
  simp only[jbD];rw[Array.getElem?_setIfInBounds_ne (jaO hm)]
 have f2:(ow.setIfInBounds j (some k)).getD j none=some k:=by
  simp only[jbD];rw[Array.getElem?_setIfInBounds_self_of_lt (by omega)];rfl
 have g:∀l:jcX,j∉l->l.filterMap (λm=>(ow.setIfInBounds j (some k)).getD m none)=l.filterMap (λm=>ow.getD m none):=λl hl=>by
  refine pF λm hm=>?_;exact f1 m λz=>hl (z ▸ hm)
 rw[sp,jcF,jcF,iP (λm=>(ow.setIfInBounds j (some k)).getD m none) f2,qJ (λm=>ow.getD m none) hn,g _ (λz=>by have:=jbr.mp z;omega),g _ (λz=>by have:=(List.mem_range'_1.mp z).1;omega)];exact List.perm_middle
end
theorem Bl {m:Nat}(g:zA m):∀(hs:List Int)(ow:Array (Option Nat)) (k:Nat),ow.size=m+1->List.Perm (uD m ow) (List.range k)->k+hs.length<=m->∃NB,(hs.foldl (λacc h=>do
  let(owner,k) <- acc
  let j <- SetTable.layClean.free m owner (SetTable.turns m) (SetTable.bits h % (m+1)) (SetTable.bits h)
  pure (owner.setIfInBounds j (some k),k+1)) (some (ow,k)))=some (NB,k+hs.length)/\NB.size=m+1/\List.Perm (uD m NB) (List.range (k+hs.length))
 |[],ow,k,hs,hp,hl=>⟨ow,M,hs,hp⟩
 |h::r,ow,k,hs,hp,hl=>by
  rw[jaj] at hl ⊢;have lt:=hp.length_eq;rw[jaZ] at lt;obtain⟨j0,l0,n0⟩:=Mm (m:=m) (ow:=ow) (by omega);obtain⟨j,e,lj,nj⟩:=Uq g hs l0 n0 13 (SetTable.turns m) (SetTable.bits h % (m+1)) (SetTable.bits h) (jbT _ (by omega)) (Ku h) (by unfold SetTable.turns;omega);have p2:List.Perm (uD m (ow.setIfInBounds j (some k))) (List.range (k+1)):=(Ql hs lj nj).trans (by
   rw[List.range_succ];exact(hp.cons k).trans (List.perm_append_singleton k (List.range k)).symm)
  obtain⟨NB,e',s',q'⟩:=Bl g r (ow.setIfInBounds j (some k)) (k+1) (by rw[Array.size_setIfInBounds];exact hs) p2 (by omega);refine⟨NB,?_,s',by rw[show k+(r.length+1)=k+1+r.length by omega];exact q'⟩;rw[List.foldl_cons];have:(do
    let(owner,k) <- some (ow,k)
    let j <- SetTable.layClean.free m owner (SetTable.turns m) (SetTable.bits h % (m+1)) (SetTable.bits h)
    pure (owner.setIfInBounds j (some k),k+1))=some (ow.setIfInBounds j (some k),k+1):=by
   show(do
    let j <- SetTable.layClean.free m ow (SetTable.turns m) (SetTable.bits h % (m+1)) (SetTable.bits h)
    pure (ow.setIfInBounds j (some k),k+1))=some (ow.setIfInBounds j (some k),k+1)
   rw[e];rfl
  rw[this,e',show k+(r.length+1)=k+1+r.length by omega]
theorem Qm (m:Nat):List.Perm (uD m (Array.replicate (m+1) none)) (List.range 0):=by
 have:uD m (Array.replicate (m+1) none)=[]:=by
  unfold uD;rw[List.filterMap_eq_nil_iff];intro j hj;simp only[jbD,Array.getElem?_replicate];split<;>rfl
 rw[this];exact .refl _
theorem Ue {m:Nat}(g:zA m){fi mo:Nat}{led plain:Bool}{hs:Array Int}(h:hs.size<=m):∃t order,SetTable.laid m fi mo led plain hs=some (t,order)/\List.Perm order.toList (List.range hs.size)/\t.place.size=hs.size/\t.mask=m/\t.dummies=#[]/\t.led=led/\t.plain=plain:=by
 obtain⟨ow,e,so,po⟩:=Bl g hs.toList (Array.replicate (m+1) none) 0 (by simp) (Qm m) (by rw[jaq];omega);unfold SetTable.laid SetTable.layClean;rw[<- Array.foldl_toList];rw[e];refine⟨_,_,M,?_,?_,M,M,M,M⟩
 .rw[jbi,jaq] at po;refine List.Perm.trans (l₂:=uD m ow) ?_ po;unfold uD;simp only[List.map_filterMap];refine .of_eq (pF λj _=>?_);cases ow.getD j none<;>rfl
 .have len:=po.length_eq;rw[jaZ,jbi,jaq] at len;have key:∀l:jcX,(l.filterMap λj=>(ow.getD j none).map (j,·)).length=(l.filterMap λj=>ow.getD j none).length:=λl=>by
   induction l with
   |nil=>rfl
   |cons a r ih=>
    cases z:ow.getD a none with
    |none=>rw[qJ (λj=>(ow.getD j none).map (j,·)) (by show(ow.getD a none).map _=none;rw[z];rfl),qJ (λj=>ow.getD j none) z];exact ih
    |some v=>rw[iP (λj=>(ow.getD j none).map (j,·)) (b:=(a,v)) (by show(ow.getD a none).map _=_;rw[z];rfl),iP (λj=>ow.getD j none) z,jaj,jaj,ih]
  refine Eq.trans ?_ len;rw[jaw,jab];exact key _
end PySem
namespace PySem
open L2
section
variable {prog:Program}{w:World}{A:Around}{E:jcP}{s:Shared}
theorem C9 (led:Bool){n:Nat}(h1:10<=n)(h2:n<16):(SetTable.fresh 0 0 led).relaid #[] n=some ({mask:=15,place:=#[],dummies:=#[],finger:=0,led:=led,moves:=1,plain:=true },#[]):=by
 have:n=10\/n=11\/n=12\/n=13\/n=14\/n=15:=by omega
 rcases this with rfl | rfl | rfl | rfl | rfl | rfl<;>cases led<;>symm
theorem SG {n:Nat}(h1:10<=n)(h2:n<16):SetTable.sizeAbove n=16:=by
 have:n=10\/n=11\/n=12\/n=13\/n=14\/n=15:=by omega
 rcases this with rfl | rfl | rfl | rfl | rfl | rfl<;>symm
def CpN (prog:Program)(w:World)(h:Heap)(r:Addr)(zs:jcR):Prop:=(∃ys,bI prog w h r ys/\List.Perm ys zs)/\∃o es ep t,h.get? r=some o/\o.data=.set es ep t/\t.fits es.size=true/\t.dummies=#[]
theorem enN {h:Heap}{r:Addr}{zs:jcR}{o:Obj}{es:Array (Int×Value)}{ep:Nat}{t:SetTable}(ho:h.get? r=some o)(hex:o.ExactSet)(hd:o.data=.set es ep t)(he:pQ prog w es.toList zs)(hn:zs.Nodup)(hl:zs.length<64)(hf:t.fits es.size=true)(gm:t.led=(!w.params.followText "set-order"))(hpl:t.plain=false)(PY:t.dummies=#[]):CpN prog w h r zs:=by
 refine⟨⟨es.toList.map (λe=>strOf e.2),⟨o,es,ep,t,ho,hex,hd,uZ he,λe hm=>?_,M,(he.1.nodup_iff).mpr hn,?_,hf,gm,.inl hpl⟩,he.1⟩,o,es,ep,t,ho,hd,hf,PY⟩
 .obtain⟨z,k,rfl⟩:=he.2 e hm;exact⟨z,k,M⟩
 .have:=he.1.length_eq;rw[jab,jaq] at this;unfold scanBound;omega
theorem Xq {a:Addr}{zs:jcR}{Q:jcP}(hS:bI prog w s.heap a zs)(h5:5<=zs.length)(h7:zs.length<=7)
  (h:∀h',(∀b ob,s.heap.get? b=some ob->h'.get? b=some ob)->CpN prog w h' s.heap.objs.size zs->Q (.ref s.heap.objs.size) {s with heap:=h' }):wpAny (model prog w) A (Builtin.Frozenset.copyOf a) Q E s:=by
 unfold Builtin.Frozenset.copyOf Builtin.Frozenset.baseOf;refine jaa (jaa (jbz hS.typeIs sub_set_self (jac ?_)));simp only[ja4];unfold newSet setsByText;refine jaa (jaa (jaa (jbe (jac ?_))));dsimp only;simp only[newObj];refine jaa (wpAny_alloc (jac ?_));refine jaa (jac ?_);show wpAny (model prog w) A _ _ _ {s with heap:=s.heap.push {cls:=.type "set",dict:=none,data:=.set #[] 0 (.fresh 0 0 (!w.params.followText "set-order")) } };generalize Oq:s.heap.push {cls:=.type "set",dict:=none,data:=.set #[] 0 (.fresh 0 0 (!w.params.followText "set-order")) }=h1;have L6:∀b ob,s.heap.get? b=some ob->h1.get? b=some ob:=λb ob e=>Oq ▸ jan _ e;have hr1:h1.get? s.heap.objs.size=some {cls:=.type "set",dict:=none,data:=.set #[] 0 (.fresh 0 0 (!w.params.followText "set-order")) }:=Oq ▸ jaz _ rfl;have la:a<s.heap.objs.size:=let⟨_,_,_,_,e,_⟩:=hS;jak e;have ZC:(s.heap.objs.size==a)=false:=jbv.mpr (ja6 la);have hnd:zs.Nodup:=let⟨_,_,_,_,_,_,_,_,_,_,n,_⟩:=hS;n;have Ou:bI prog w h1 a zs:=hS.at (L6 a);obtain⟨oa,es,ep,t,ho,hex,hd,hf,gm,hpl,hn,hent,hst⟩:=lW Ou;have X4:es.size=zs.length:=by omega
 have HS:t.plain=false:=hpl.resolve_right (by omega);refine jaa ?_;unfold setMerge;rw[ZC];simp only[jaM,jaH];refine jaa (jaB (s:={s with heap:=h1 }) ho hd hf ?_);dsimp only;rw[jad (by simp only[Array.isEmpty,decide_eq_true_eq];omega)];unfold setRoomFor;refine jaa (jaa (jaB (s:={s with heap:=h1 }) hr1 rfl rfl ?_));dsimp only;have er:(SetTable.fresh 0 0 (!w.params.followText "set-order")).roomFor es.size=some (es.size*2):=by unfold SetTable.roomFor SetTable.fill SetTable.fresh;simp;omega
 rw[er];dsimp only;unfold setRelay;refine jaa (jaB (s:={s with heap:=h1 }) hr1 rfl rfl ?_);dsimp only;rw[jad (by rw[ja7,SG (by omega) (by omega)];decide)];refine jaa ?_;show wpAny _ _ (G6 #[] ((SetTable.fresh 0 0 (!w.params.followText "set-order")).relaid (Array.map (λx:Int×Value=>x.1) #[]) (es.size*2))) _ _ _;have em:(Array.map (λx:Int×Value=>x.1) #[])=#[]:=by simp
 refine yt (by rw[em];exact C9 _ (by omega) (by omega)) (by simp) λes0 p0=>?_;obtain rfl:es0=#[]:=by have:=p0.length_eq;simp at this;exact this
 dsimp only;refine jbJ (s:={s with heap:=h1 }) hr1 rfl ?_;have hr2:=qj (es':=#[]) (t':={mask:=15,place:=#[],dummies:=#[],finger:=0,led:=!w.params.followText "set-order",moves:=1,plain:=true }) hr1 rfl;have L1:Heap.SameBut s.heap.objs.size h1 (h1.update s.heap.objs.size (Obj.putSet #[] {mask:=15,place:=#[],dummies:=#[],finger:=0,led:=!w.params.followText "set-order",moves:=1,plain:=true })):=jbg _ _ _;dsimp only at hr2;generalize h1.update s.heap.objs.size (Obj.putSet #[] {mask:=15,place:=#[],dummies:=#[],finger:=0,led:=!w.params.followText "set-order",moves:=1,plain:=true })=h2 at hr2 L1 ⊢;refine jaa (jaB (s:={s with heap:=h2 }) hr2 rfl rfl ?_);dsimp only;have N5:((!w.params.followText "set-order")&&t.led)=(!w.params.followText "set-order"):=by rw[gm,Bool.and_self]
 have Zk:(true&&t.plain)=false:=by rw[HS];rfl
 rw[N5,Zk];have fin:∀es' t',List.Perm es'.toList es.toList->t'.place.size=es'.size->t'.mask=15->t'.dummies=#[]->t'.led=(!w.params.followText "set-order")->t'.plain=false->wpAny (model prog w) A (storeSet s.heap.objs.size es' t') (λ_ s'=>wpAny (model prog w) A (pure (Value.ref s.heap.objs.size)) Q E s') E {s with heap:=h2 }:=by
  intro es' t' p e1 e2 e3 e4 e5;have sz:es'.size=zs.length:=by have:=p.length_eq;rw[jaq,jaq] at this;omega
  refine jbJ (s:={s with heap:=h2 }) hr2 rfl (jac ?_) (by rw[sz,ja7];omega);have sH:=qj (es':=es') (t':=t') hr2 rfl;refine h _ (λb ob e=>?_) (enN sH ⟨M,M,M⟩ rfl (hent.perm p) hnd (by omega) ?_ e4 e5 e3)
  .have l:=jap (jak e);exact((jbg _ _ _).2 b l).trans ((L1.2 b l).trans (L6 b ob e))
  .unfold SetTable.fits SetTable.fill;rw[e3,e1,e2];simp;omega
 unfold SetTable.road;rw[jad (by simp[SetTable.fill])];dsimp only;have Z8:t.place.size=es.size:=by
  unfold SetTable.fits at hf;simp only[jaU,ja1] at hf;exact hf.1
 by_cases hm:(15==t.mask&&t.dummies.isEmpty)=true
 .rw[jae hm];dsimp only;simp only[jaU,ja1,Array.isEmpty_iff] at hm;exact fin es _ .rfl Z8 hm.1.symm hm.2 rfl rfl
 .rw[jad hm];dsimp only;refine jaa ?_;obtain⟨t',order,el,po,p1,p2,p3,p4,p5⟩:=Ue W7 (fi:=0) (mo:=1) (led:=!w.params.followText "set-order") (plain:=false) (hs:=es.map (·.1)) (by rw[jch];omega);show wpAny _ _ (G6 es (SetTable.laid 15 0 1 (!w.params.followText "set-order") false (es.map (·.1)))) _ _ _;rw[jch] at po p1;refine yt el po λes' p=>?_;have sz:es'.size=es.size:=by have:=p.length_eq;rw[jaq,jaq] at this;exact this
  exact fin es' t' p (by omega) p2 p3 p4 p5
theorem a0y {a:Addr}{zs:jcR}{Q:jcP}(hS:bI prog w s.heap a zs)(h4:zs.length=4)
  (h:∀h',(∀b ob,s.heap.get? b=some ob->h'.get? b=some ob)->CpN prog w h' s.heap.objs.size zs->Q (.ref s.heap.objs.size) {s with heap:=h' }):wpAny (model prog w) A (Builtin.Frozenset.copyOf a) Q E s:=by
 unfold Builtin.Frozenset.copyOf Builtin.Frozenset.baseOf;refine jaa (jaa (jbz hS.typeIs sub_set_self (jac ?_)));simp only[ja4];unfold newSet setsByText;refine jaa (jaa (jaa (jbe (jac ?_))));dsimp only;simp only[newObj];refine jaa (wpAny_alloc (jac ?_));refine jaa (jac ?_);show wpAny (model prog w) A _ _ _ {s with heap:=s.heap.push {cls:=.type "set",dict:=none,data:=.set #[] 0 (.fresh 0 0 (!w.params.followText "set-order")) } };generalize Oq:s.heap.push {cls:=.type "set",dict:=none,data:=.set #[] 0 (.fresh 0 0 (!w.params.followText "set-order")) }=h1;have L6:∀b ob,s.heap.get? b=some ob->h1.get? b=some ob:=λb ob e=>Oq ▸ jan _ e;have hr1:h1.get? s.heap.objs.size=some {cls:=.type "set",dict:=none,data:=.set #[] 0 (.fresh 0 0 (!w.params.followText "set-order")) }:=Oq ▸ jaz _ rfl;have la:a<s.heap.objs.size:=let⟨_,_,_,_,e,_⟩:=hS;jak e;have ZC:(s.heap.objs.size==a)=false:=jbv.mpr (ja6 la);have hnd:zs.Nodup:=let⟨_,_,_,_,_,_,_,_,_,_,n,_⟩:=hS;n;have Ou:bI prog w h1 a zs:=hS.at (L6 a);obtain⟨oa,es,ep,t,ho,hex,hd,hf,gm,hpl,hn,hent,hst⟩:=lW Ou;have X4:es.size=zs.length:=by omega
 have HS:t.plain=false:=hpl.resolve_right (by omega);refine jaa ?_;unfold setMerge;rw[ZC];simp only[jaM,jaH];refine jaa (jaB (s:={s with heap:=h1 }) ho hd hf ?_);dsimp only;rw[jad (by simp only[Array.isEmpty,decide_eq_true_eq];omega)];unfold setRoomFor;refine jaa (jaa (jaB (s:={s with heap:=h1 }) hr1 rfl rfl ?_));dsimp only;have er:(SetTable.fresh 0 0 (!w.params.followText "set-order")).roomFor es.size=none:=by unfold SetTable.roomFor SetTable.fill SetTable.fresh;simp;omega
 rw[er];dsimp only;refine jac ?_;have hr2:=hr1;have L1:Heap.SameBut s.heap.objs.size h1 h1:=⟨M,λ_ _=>rfl⟩
 refine jaa (jaB (s:={s with heap:=h1 }) hr2 rfl rfl ?_);dsimp only;have ef:SetTable.fresh 0 0 (!w.params.followText "set-order")={mask:=7,place:=#[],dummies:=#[],finger:=0,led:=!w.params.followText "set-order",moves:=0,plain:=true }:=rfl;rw[ef];dsimp only;have N5:((!w.params.followText "set-order")&&t.led)=(!w.params.followText "set-order"):=by rw[gm,Bool.and_self]
 have Zk:(true&&t.plain)=false:=by rw[HS];rfl
 rw[N5,Zk];have fin:∀es' t',List.Perm es'.toList es.toList->t'.place.size=es'.size->t'.mask=7->t'.dummies=#[]->t'.led=(!w.params.followText "set-order")->t'.plain=false->wpAny (model prog w) A (storeSet s.heap.objs.size es' t') (λ_ s'=>wpAny (model prog w) A (pure (Value.ref s.heap.objs.size)) Q E s') E {s with heap:=h1 }:=by
  intro es' t' p e1 e2 e3 e4 e5;have sz:es'.size=zs.length:=by have:=p.length_eq;rw[jaq,jaq] at this;omega
  refine jbJ (s:={s with heap:=h1 }) hr2 rfl (jac ?_) (by rw[sz,ja7];omega);have sH:=qj (es':=es') (t':=t') hr2 rfl;refine h _ (λb ob e=>?_) (enN sH ⟨M,M,M⟩ rfl (hent.perm p) hnd (by omega) ?_ e4 e5 e3)
  .have l:=jap (jak e);exact((jbg _ _ _).2 b l).trans ((L1.2 b l).trans (L6 b ob e))
  .unfold SetTable.fits SetTable.fill;rw[e3,e1,e2];simp;omega
 unfold SetTable.road;rw[jad (by simp[SetTable.fill])];dsimp only;have Z8:t.place.size=es.size:=by
  unfold SetTable.fits at hf;simp only[jaU,ja1] at hf;exact hf.1
 by_cases hm:(7==t.mask&&t.dummies.isEmpty)=true
 .rw[jae hm];dsimp only;simp only[jaU,ja1,Array.isEmpty_iff] at hm;exact fin es _ .rfl Z8 hm.1.symm hm.2 rfl rfl
 .rw[jad hm];dsimp only;refine jaa ?_;obtain⟨t',order,el,po,p1,p2,p3,p4,p5⟩:=Ue a0k (fi:=0) (mo:=0) (led:=!w.params.followText "set-order") (plain:=false) (hs:=es.map (·.1)) (by rw[jch];omega);show wpAny _ _ (G6 es (SetTable.laid 7 0 0 (!w.params.followText "set-order") false (es.map (·.1)))) _ _ _;rw[jch] at po p1;refine yt el po λes' p=>?_;have sz:es'.size=es.size:=by have:=p.length_eq;rw[jaq,jaq] at this;exact this
  exact fin es' t' p (by omega) p2 p3 p4 p5
theorem Yi.cpN {h:Heap}{r:Addr}{zs:jcR}(H:Yi prog w h r zs)(hn:zs.Nodup)(h8:zs.length<=8):CpN prog w h r zs:=by
 refine⟨(H.enW h8).Ve hn (by omega),?_⟩;obtain⟨o,es,ep,t,ho,hex,hd,he,hst,hp,hm,PY,gm,hpl⟩:=H.e;have:=he.1.length_eq;rw[jab,jaq] at this;refine⟨o,es,ep,t,ho,hd,?_,PY⟩;unfold SetTable.fits SetTable.fill;rw[PY,hp,hm];simp;omega
theorem Ib {id:String}{a o:Addr}{zs:jcR}{Q:jcP}(hS:bI prog w s.heap a zs)(hO:bI prog w s.heap o [])(h4:4<=zs.length)(h8:zs.length<=8)
  (h:∀h' d ys,(∀b ob,s.heap.get? b=some ob->h'.get? b=some ob)->bI prog w h' s.heap.objs.size ys->(∀x,x∈ys↔x∈zs)->ys.length<64->Q (.ref s.heap.objs.size) {s with heap:=h',drawn:=d }) :
  wpAny (model prog w) A (Builtin.Frozenset.difference id a (.ref o)) Q E s:=by
 have hnd:zs.Nodup:=let⟨_,_,_,_,_,_,_,_,_,_,n,_⟩:=hS;n;have cp:∀{Q':jcP},(∀h',(∀b ob,s.heap.get? b=some ob->h'.get? b=some ob)->CpN prog w h' s.heap.objs.size zs->Q' (.ref s.heap.objs.size) {s with heap:=h' })->wpAny (model prog w) A (Builtin.Frozenset.copyOf a) Q' E s:=λk=>by
  rcases(by omega:zs.length=4\/(5<=zs.length/\zs.length<=7)\/zs.length=8) with e | ⟨e1,e2⟩ | e
  .exact a0y hS e k
  .exact Xq hS e1 e2 k
  .exact FY hS e λh' kp hC=>k h' kp (hC.cpN hnd (by omega))
 have lo:o<s.heap.objs.size:=let⟨_,_,_,_,e,_⟩:=hO;jak e;unfold Builtin.Frozenset.difference;refine jaa (jE hO ?_);simp only[jbB,jaM,jaH,jbZ];refine jaa (jac ?_);refine jaa (size_set hO ?_);refine jaa (size_set hS ?_);rw[jae (by show zs.length / 4 > 0;omega)];refine jaa (jbs ?_);refine jaa (cp λh2 ZT hC=>?_);obtain⟨⟨ys0,X8,p0⟩,o4,e4,ep4,t4,g1,g3,g5,g7⟩:=hC;refine jaa (jac ?_);refine jaa (jbh ?_);unfold Builtin.Frozenset.differenceUpdate;have Sh:bI prog w h2 o []:=hO.at (ZT o);have nro:((Value.ref o) ==.ref s.heap.objs.size)=false:=by
  refine jbv.mpr λe=>?_;injection e with e
  exact absurd e (jap lo)
 rw[nro];simp only[jaM,jaH];refine jaa (jE (s:={s with heap:=h2 }) Sh ?_);simp only[ja4];refine jaa (jac ?_);refine jaa (size_set (s:={s with heap:=h2 }) Sh ?_);refine jaa (size_set (s:={s with heap:=h2 }) X8 ?_);rw[jad (by show ¬ 0 / 8 > ys0.length;simp)];obtain⟨oo,eo,epo,to,Uk,a28,hdo,hfo,a0f,a2T,hno,a0i,a2O⟩:=lW Sh;have W3:eo.size=0:=hno;unfold setEpoch;refine jaa (jaa (jaB (s:={s with heap:=h2 }) Uk hdo hfo (jac ?_)));refine jaa (jbh (jaa ?_));unfold setWalkUnseen;refine jaa (jaB (s:={s with heap:=h2 }) Uk hdo hfo ?_);dsimp only;unfold setsByText;refine jaa (jaa (jbe (jac ?_)));rw[jae (by simp[W3])];refine xQ (s:={s with heap:=h2 }) Sh λes' d q8=>?_;have l1:es'.toList.length=0:=by have:=q8.1.length_eq;rw[jab] at this;exact this
 refine jaa (wpAny_forIn_array' _ (λl _ s'=>l=[]/\s'={s with heap:=h2,drawn:=d }) _ ?_ ?_ _ _ ⟨jcM l1,M⟩)
 .rintro e rest b s' ⟨el,_⟩;cases el
 .rintro b s' ⟨_,rfl⟩;refine jac ?_;unfold setTidy;refine jaa (jaB (s:={s with heap:=h2,drawn:=d }) g1 g3 g5 ?_);dsimp only;rw[jad (by unfold SetTable.tooManyDummies;rw[g7];simp)];refine jac (jac ?_);exact h h2 d ys0 ZT X8 (λx=>p0.mem_iff) (by rw[p0.length_eq];omega)
end
end PySem
namespace L2
open PySem PySem.Spec PyProof.Rows Hw
section
variable {X:Cx}
def Y3 (P:Program)(w:World):R2:=λx y H Q=>∃(p o:Addr)(ss so ds:jcR),x=.ref p/\y=.ref o/\H p=some (oR P w p ss)/\H o=some (oR P w o so)/\ds.length<=8/\(∀x∈ss,x∈ds)/\
 ∀(q:Addr)(ws:jcR),H q=none->(∀x,x∈ws↔x∈ss/\x∉so)->Q (.ref q) (upd H q (oR P w q ws))
theorem Rv:n5 X (binaryOp .Sub) (Y3 X.prog X.w):=by
 intro vy s U H x y v u Q I rx ry h;obtain⟨p,o,ss,so,ds,rfl,rfl,hp,ho,hd,hin,q⟩:=h;by_cases hne:so=[]
 .subst hne;cases rx;cases ry;obtain⟨⟨zs,hS,hm,h64⟩,_,_⟩:=I.hok p _ hp;obtain⟨⟨zo,hO,hmo,a3m⟩,_,_⟩:=I.hok o _ ho;have XY:zo=[]:=by
   cases zo with
   |nil=>rfl
   |cons a r=>exact absurd ((hmo a).mp (jar ..)) jaI
  subst XY;have hnd:zs.Nodup:=let⟨_,_,_,_,_,_,_,_,_,_,n,_⟩:=hS;n;have hz8:=tH hnd λx hx=>hin x ((hm x).mp hx);refine wpAny_binaryOp_same (op:=.Sub) (T:="set") hS.typeIs hO.typeIs F.fills_set_sub F.slot_set_sub (jbd F.slot_set_sub hS.typeIs pG ?_ (F.args_set_sub_2 _ _));show wpAny _ _ (Builtin.Frozenset.slot1 "__sub__" ⟨[.ref p,.ref o],[]⟩ >>=_) _ _ _;refine jaa (jac ?_);dsimp only;simp only[jaM,jaH];refine jaa (jaa (jE hS ?_));refine jE hO ?_;simp only[jbB,jaM,jaH];refine jaa (jac (jaa ?_));have go:∀(h':Heap) d (ys:jcR),(∀b ob,s.heap.get? b=some ob->h'.get? b=some ob)->bI X.prog X.w h' s.heap.objs.size ys->(∀x,x∈ys↔x∈zs)->ys.length<64->_:=λh' d ys kp hY Oi hl=>by
   have L:=I.Bm (h':=h') (a:=s.heap.objs.size) (o:=oR X.prog X.w s.heap.objs.size ys) (t':=s.toks) (λb u e=>kp b u e) (λb u e=>jap (jak e))
    ⟨⟨ys,hY,λ_=>Iff.rfl,hl⟩,let⟨o,_,_,_,ho,_⟩:=hY;⟨o,ho⟩,λh1 h2 ⟨zs,x,y⟩ k=>⟨zs,x.at k,y⟩⟩
   exact(⟨_,L.2.drew d,q _ ys L.1 λx=>by rw[Oi x,hm x];simp⟩:∃H',Inv X vy U H' {s with heap:=h',drawn:=d }/\Q (.ref s.heap.objs.size) H')
  by_cases h4:zs.length / 4<=([]:jcR).length
  .refine By hS hO h4 h64 λh' d ys kp hY Oi hl=>?_;obtain⟨H',I',q'⟩:=go h' d ys kp hY (λx=>by rw[Oi x];simp) hl;exact jac ⟨_,M,(λz=>by cases z),.ref s.heap.objs.size,_,I',M,q'⟩
  .rw[jaT] at h4;refine Ib hS hO (by omega) (by omega) λh' d ys kp hY Oi hl=>?_;obtain⟨H',I',q'⟩:=go h' d ys kp hY Oi hl;exact jac ⟨_,M,(λz=>by cases z),.ref s.heap.objs.size,_,I',M,q'⟩
 .exact Rw vy s U H _ _ v u Q I rx ry ⟨p,o,ss,so,ds,M,M,hp,ho,hd,hin,hne,q⟩
end
end L2
namespace L3
open PySem L2 Hw
noncomputable def Lp:D->Option Key
 |.t (.v (.str x))=>some (Sum.inr x)
 |.t (.v (.int i))=>some (Sum.inl i)
 |_=>none
noncomputable def jY (l:List (Key×T))(k:Key):Option T:=(l.find? λp=>decide (p.1=k)).map (·.2)
noncomputable def dput (l:List (Key×T))(k:Key)(v:T):List (Key×T):=if(l.any λp=>decide (p.1=k))=true then l.map (λp=>if p.1=k then(p.1,v) else p) else l++[(k,v)]
abbrev XG (K:Frag)(G:Hp):List (Key×T)->List (Key×V)->Prop:=Paired λp q=>p.1=q.1/\Rp K G p.2 q.2
section
variable {K:Frag}{G:Hp}
theorem tO {Y:jcT}{d:D}{v:V}{k:Key}(r:ki K Y G d v)(h:Lp d=some k):v=kV k:=by
 unfold Lp at h;split at h
 .cases h;exact bq r
 .cases h;exact bq r
 .cases h
theorem pH {l:List (Key×T)}{kvs:List (Key×V)}(r:XG K G l kvs)(k:Key):(∀x,jY l k=some x->∃v,qT kvs k=some v/\Rp K G x v)/\(jY l k=none->qT kvs k=none):=by
 induction r with
 |nil=>exact⟨(λx h=>nomatch h),λ_=>rfl⟩
 | @cons p q ps qs h t ih=>
  by_cases e:p.1=k
  .have e':q.1=k:=h.1 ▸ e;have a:jY (p::ps) k=some p.2:=by unfold jY;simp[jbm,e]
   rw[a,sJ e'];exact⟨λx z=>by cases z;exact⟨_,M,h.2⟩,λz=>nomatch z⟩
  .have e':¬ q.1=k:=λz=>e (h.1.trans z);have a:jY (p::ps) k=jY ps k:=by unfold jY;simp[jbm,e]
   rw[a,sL e'];exact ih
theorem SA {l:List (Key×T)}{kvs:List (Key×V)}(r:XG K G l kvs)(k:Key):(l.any λp=>decide (p.1=k))=(kvs.any λp=>decide (p.1=k)):=by
 induction r with
 |nil=>rfl
 | @cons p q ps qs h t ih=>rw[jbS,jbS,ih,h.1]
theorem RL {l:List (Key×T)}{kvs:List (Key×V)}(r:XG K G l kvs)(k:Key){x:T}{v:V}(h:Rp K G x v):XG K G (l.map λp=>if p.1=k then(p.1,x) else p) (kvs.map λp=>if p.1=k then(p.1,v) else p):=by
 induction r with
 |nil=>exact .nil
 | @cons p q ps qs h' t ih=>
  rw[jax,jax];refine .cons ?_ ih;by_cases e:p.1=k
  .rw[jae e,jae (h'.1 ▸ e)];exact⟨h'.1,h⟩
  .rw[jad e,jad (λz=>e (h'.1.trans z))];exact h'
theorem yz {α β:Type}{F:α->β->Prop}:∀{l l':List α}{m m':List β},Paired F l m->Paired F l' m'->Paired F (l++l') (m++m')
 |_,_,_,_,.nil,h=>h
 |_,_,_,_,.cons r t,h=>.cons r (yz t h)
theorem OT {l:List (Key×T)}{kvs:List (Key×V)}(r:XG K G l kvs)(k:Key){x:T}{v:V}(h:Rp K G x v):XG K G (dput l k x) (putK kvs k v):=by
 unfold dput putK;rw[SA r k];by_cases e:(kvs.any λp=>decide (p.1=k))=true
 .rw[jae e,jae e];exact RL r k h
 .rw[jad e,jad e];exact yz r (.cons ⟨M,h⟩ .nil)
end
inductive a0w (a b:D) (S:aA) (k:KD):Prop
 |mk (n:Nat) (l:List (Key×T)) (key:Key) (x:T) (h:a=.ob n) (h1:S[n]?=some (.ly l)) (h2:Lp b=some key) (h3:jY l key=some x) (hk:k (.t x) S)
section
variable {X:Cx}{o i e f value:Expr}{to ti te tx tv:dR}{pos pos' B1 cpos:Pos}{t:oH}
theorem yw (hu:X.A.units+1<cLine)(ho:QE X o to)(hi:QE X i ti)(hs:XJ i:=by intro _ _;rfl):QE X (.Subscript o i pos) (uF a0w to ti):=
 dD (Rq hu ho hi hs) (by rintro U H Q ⟨Y,S,Z,k,R,D,q,hk⟩;exact⟨Y,S,Z,_,R,D,q,(by rintro v H1 ⟨Y1,S1,d1,g1,R1,r1,q1⟩;exact⟨Y1,S1,Z,_,R1,D.gr g1,q1,(by
  rintro w H2 ⟨Y2,S2,d2,g2,R2,r2,n,l,key,x,h1,h2,h3,h4,q2⟩;subst h1;obtain⟨a,ha,e1⟩:=r1.gr g2;obtain⟨kvs,e2,e3⟩:=R2.ok n a _ ha h2;obtain⟨u,e4,e5⟩:=(pH e3 key).1 x h4;exact⟨a,u,e1,by rw[tO r2 h3,<- e4];exact vv.k e2,hk _ _ ⟨Y2,S2,.t x,g1.trans g2,R2,e5,q2⟩⟩)⟩)⟩)
def U0:dR:=λ_ S k=>k (.ob S.length) (S++[.ly []])
theorem CB:QE X (.Dict [] [] pos) U0:=dD Nr λU H Q ⟨Y,S,Z,k,R,D,q,hk⟩ p hp=>a0q R hk p hp (o:=.ly []) ⟨[],M,.nil⟩ q
def Vj (to ti tv:dR):uf:=λE Z S=>tv Z S λy S1=>to Z S1 λo S2=>ti Z S2 λi S3=>∃n l key x,o=.ob n/\S3[n]?=some (.ly l)/\Lp i=some key/\y=.t x/\l.length<sizeLine/\E.nx Z (S3.set n (.ly (dput l key x)))
theorem jB (hu:X.A.units+1<cLine)(ho:QE X o to)(hi:QE X i ti)(hv:QE X value tv)(hs:autoParam (swapsWith value (some (.Subscript o i pos')) pos.line X.env=pure false) zi):QS X (.Assign [.Subscript o i pos'] value pos) (Vj to ti tv):=
 qV (Rg hu ho hi hv hs) (by rintro D U H ⟨Y,S,Z,E,R,RS,q,eu⟩;exact⟨Y,S,Z,_,R,RS,q,(by rintro v H1 ⟨Y1,S1,d1,g1,R1,r1,q1⟩;exact⟨Y1,S1,Z,_,R1,RS.gr g1,q1,(by rintro w H2 ⟨Y2,S2,d2,g2,R2,r2,q2⟩;exact   ⟨Y2,S2,Z,_,R2,RS.gr (g1.trans g2),q2,(by
   rintro z H3 ⟨ρ3,S3,d3,g3,zz,r3,n,l,key,x,h1,h2,h3,h4,h5,q3⟩;subst h1 h4;obtain⟨a,ha,e1⟩:=r2.gr g3;obtain⟨kvs,e2,e3⟩:=zz.ok n a _ ha h2;have hl:kvs.length<sizeLine:=by rw[<- jbM e3];exact h5
   obtain⟨R4,g4⟩:=zz.put (o:=.dK (putK kvs key v)) (u:=.ly (dput l key x)) ha ⟨_,M,OT e3 key (r1.gr (g2.trans g3))⟩;refine⟨a,_,e1,by rw[tO r3 h3];exact PN.k e2 hl,eu.nx _ _ ⟨ρ3,_,Z,((g1.trans g2).trans g3).trans g4,R4,(RS.gr ((g1.trans g2).trans g3)).gr g4,q3⟩⟩)⟩)⟩)⟩)
def Qq (to ti tx:dR):dR:=λZ S k=>to Z S λo S1=>∃n l0,o=.ob n/\S1[n]?=some (.ly l0)/\ti Z S1 λi S2=>tx Z S2 λz S3=>∃l key,S3[n]?=some (.ly l)/\Lp i=some key/\k (match jY l key with | some x=>.t x | none=>z) S3
theorem CC (hu:X.A.units+1<cLine)(ho:QE X o to)(he:QE X e te)(hf:QE X f tx)(m:M2 X o "get" B1 e f cpos:=by exact⟨M,M,M,M⟩):QE X (.Call (.Attribute o "get" B1) [e,f] [] cpos) (Qq to te tx):=
 dD (Nt hu ho he hf m) λU H Q ⟨Y,S,Z,k,R,D,q,hk⟩=>⟨Y,S,Z,_,R,D,q,(by
  rintro v H1 ⟨Y1,S1,d1,g1,R1,r1,n,l0,h1,h2,q1⟩;subst h1;obtain⟨a,ha,e1⟩:=r1;obtain⟨kvs,e2,e3⟩:=R1.ok n a _ ha h2;refine⟨a,e1,.inl ⟨kvs,.inl e2⟩,Y1,S1,Z,_,R1,D.gr g1,q1,λw H2 ⟨Y2,S2,d2,g2,R2,r2,q2⟩=>⟨Y2,S2,Z,_,R2,D.gr (g1.trans g2),q2,?_⟩⟩;rintro z H3 ⟨ρ3,S3,d3,g3,zz,r3,l,key,h3,h4,q3⟩;obtain⟨kvs',f1,f2⟩:=zz.ok n a _ ((g2.trans g3).at ha) h3;refine⟨qT kvs' key,by rw[tO (r2.gr g3) h4];exact vv.k f1,?_⟩;have gg:=(g1.trans g2).trans g3;cases c:jY l key with
  |none=>rw[c] at q3;rw[(pH f2 key).2 c];exact hk _ _ ⟨ρ3,S3,d3,gg,zz,r3,q3⟩
  |some x=>
   rw[c] at q3;obtain⟨u,i1,i2⟩:=(pH f2 key).1 x c;rw[i1];exact hk _ _ ⟨ρ3,S3,.t x,gg,zz,i2,q3⟩)⟩
def Tj (neg:Bool)(ti to:dR):dR:=λZ S k=>ti Z S λi S1=>to Z S1 λo S2=>∃n l key,o=.ob n/\S2[n]?=some (.ly l)/\Lp i=some key/\k (.bl (xor neg (jY l key).isSome)) S2
theorem OW (neg:Bool){t':TE}(ht:∀U H Q,(li X.K ti U H λy H1=>li X.K to U H1 λx H2=>∃a o,x=.ref a/\vv H2 a y o/\Q (.bl (xor neg o.isSome)) H2)->t' U H Q):∀U H Q,li X.K (Tj neg ti to) U H Q->t' U H Q:=λU H Q ⟨Y,S,Z,k,R,D,q,hk⟩=>
 ht _ _ _ ⟨Y,S,Z,_,R,D,q,λv H1 ⟨Y1,S1,d1,g1,R1,r1,q1⟩=>⟨Y1,S1,Z,_,R1,D.gr g1,q1,(by
  rintro w H2 ⟨Y2,S2,d2,g2,R2,r2,n,l,key,h1,h2,h3,q2⟩;subst h1;obtain⟨a,ha,e1⟩:=r2;obtain⟨kvs,e2,e3⟩:=R2.ok n a _ ha h2;refine⟨a,qT kvs key,e1,by rw[tO (r1.gr g2) h3];exact vv.k e2,hk _ _ ⟨Y2,S2,_,g1.trans g2,R2,bS,?_⟩⟩;have:(qT kvs key).isSome=(jY l key).isSome:=by
   cases c:jY l key with
   |none=>rw[(pH e3 key).2 c];rfl
   |some x=>obtain⟨u,i1,_⟩:=(pH e3 key).1 x c;rw[i1];rfl
  rw[this];exact q2)⟩⟩
theorem Vr (hu:X.A.units+1<cLine)(hi:QE X i ti)(ho:QE X o to)(h1:autoParam (behindInMarks .In o=false) zi):QT X (.Compare i [.In] [o] pos) (oN (Tj false ti to)):=
 JA (VI (VZ hu hi ho) h1) (uC (OW false λU H Q h=>by simp only[jb0] at h;exact h))
end
noncomputable def tP (x:Str):jcR->jcR
 |[]=>[x]
 |y::r=>if lt x y=true then x::y::r else if x=y then y::r else y::tP x r
noncomputable def uz:jcR->jcR:=List.foldr tP []
theorem yW {x z:Str}:∀{l:jcR},z∈tP x l↔z=x\/z∈l
 |[]=>by simp[tP]
 |y::r=>by
  unfold tP;by_cases h:lt x y=true
  .rw[jae h,jag]
  .rw[jad h];by_cases e:x=y
   .subst e;rw[jae M,jag];constructor
    .intro q;exact .inr q
    .rintro(q | q)
     .exact .inl q
     .exact q
   .rw[jad e,jag,yW,jag];constructor
    .rintro(q | q | q)
     .exact .inr (.inl q)
     .exact .inl q
     .exact .inr (.inr q)
    .rintro(q | q | q)
     .exact .inr (.inl q)
     .exact .inl q
     .exact .inr (.inr q)
theorem dG {z:Str}:∀{l:jcR},z∈uz l↔z∈l
 |[]=>Iff.rfl
 |x::r=>by
  show z∈tP x (uz r)↔_;rw[yW,dG,jag]
theorem JU {x:Str}:∀{l:jcR},l.Pairwise (λa b=>lt a b=true)->(tP x l).Pairwise λa b=>lt a b=true
 |[],_=>by unfold tP;simp
 |y::r,h=>by
  unfold tP;by_cases e:lt x y=true
  .rw[jae e];refine jbI.mpr ⟨λz hz=>?_,h⟩;rcases jag.mp hz with rfl | hz
   .exact e
   .exact lt_trans e ((jbI.mp h).1 z hz)
  .rw[jad e];by_cases q:x=y
   .rw[jae q];exact h
   .rw[jad q];refine jbI.mpr ⟨λz hz=>?_,JU (jbI.mp h).2⟩;rcases yW.mp hz with rfl | hz
    .rcases C8 z y with a | a | a
     .exact absurd a e
     .exact absurd a q
     .exact a
    .exact(jbI.mp h).1 z hz
theorem jK:∀(l:jcR),(uz l).Pairwise λa b=>lt a b=true
 |[]=>.nil
 |x::r=>JU (jK r)
theorem GS {l ys:jcR}(h:ys.Pairwise (λa b=>lt b a=false))(n:ys.Nodup)(m:∀x,x∈ys↔x∈l):ys=uz l:=mC (EN h n) (jK l) λx=>(m x).trans dG.symm
theorem Mz {l m:jcR}(h:∀x,x∈l↔x∈m):uz l=uz m:=mC (jK l) (jK m) λx=>(dG.trans (h x)).trans dG.symm
def MU:Ma
 |[.ob n],S,k=>∃l ss,S[n]?=some (.ly l)/\l.map (·.1)=List.map (Sum.inr:Str->Key) ss/\ss.Nodup/\l.length<64/\k (.lst ((uz ss).map T.str)) S
 |_,_,_=>False
section
variable {X:Cx}{e f:Expr}{te tf:dR}{p1 p2 p3 p4 p5 pos pos':Pos}
theorem N7 {K:Frag}{G:Hp}{l:List (Key×T)}{kvs:List (Key×V)}(r:XG K G l kvs):kvs.map (·.1)=l.map (·.1):=by
 induction r with
 |nil=>rfl
 |cons h t ih=>rw[jax,jax,ih,h.1]
theorem Kp (hc:X.calm=true):Call3 X (.builtin "sorted") MU:=by
 refine lC (Dw hc) ?_;rintro vs H Q ⟨Y,S,ds,k,R,rd,q,hk⟩;unfold MU at q;split at q
 .obtain⟨l,ss,h1,h2,h3,h4,h5⟩:=q;obtain⟨v,rfl,a,ha,rfl⟩:=rd.one;obtain⟨kvs,e1,e2⟩:=R.ok _ a _ ha h1;refine⟨a,kvs,ss,M,e1,by rw[N7 e2];exact h2,by rw[<- jbM e2];exact h4,λl' ys hl hp hs=>?_⟩;rw[GS hs (hp.nodup_iff.mpr h3) (λx=>hp.mem_iff)];exact zf R hk (bK.ofStrs _) h5 l' hl
 .exact q.elim
def tSS (te:dR):dR:=λZ S k=>te Z S λd S1=>∃ss ds:jcR,lq S1 d=some (ss.map T.str)/\ss.length<4000/\ds.length<64/\(∀x∈ss,x∈ds)/\k (.lst ((uz ss).map T.str)) S1
theorem Vv (hg1:Gl X "sorted")(hm1:X.mg "sorted"=none)(X6:Gl X "set")(hm2:X.mg "set"=none)(hc:X.calm=true)(he:QE X e te)(h0:autoParam (notStar e=true) zi) :
  QE X (.Call (.Name "sorted" p1) [.Call (.Name "set" p2) [e] [] p3] [] p4) (tSS te):=
 dD (uR (tY hc) hg1 hm1 PyProof.Rows.boot_sorted (mD (nM (BC hc) X6 hm2 PyProof.Rows.boot_set (mD he rL h0) h0 M) rL M) rfl M) λU H Q ⟨Y,S,Z,k,R,D,q,hk⟩=>
  ⟨Y,S,Z,_,R,D,q,(by
   rintro v H1 ⟨Y1,S1,d,g1,R1,r1,ss,ds,h1,h2,h3,h4,q1⟩;obtain⟨a,vs,e1,e2,e3⟩:=dm R1 r1 h1;rw[e3.strs] at e2;refine⟨a,ss,ds,by rw[e1],.of e2,h2,h3,h4,λq hq=>⟨q,ss,M,fE,λl ys hl hm hn hz hs=>?_⟩⟩;obtain⟨R2,g2,_⟩:=R1.new (o:=oR X.prog X.w q ss) hq;rw[GS hs hn hm];exact zf R2 (λv H' u=>hk v H' (u.gr (g1.trans g2))) (bK.ofStrs _) q1 l hl)⟩
def tSD (te tf:dR):dR:=λZ S k=>te Z S λd S1=>∃ss ds:jcR,lq S1 d=some (ss.map T.str)/\ss.length<4000/\ds.length<=8/\(∀x∈ss,x∈ds)/\tf Z S1 λd' S2=>∃so:jcR,d'=.tup (so.map T.str)/\so.length<64/\k (.lst ((uz (ss.filter λx=>!so.contains x)).map T.str)) S2
theorem a2d (hg1:Gl X "sorted")(hm1:X.mg "sorted"=none)(X6:Gl X "set")(hm2:X.mg "set"=none)(hc:X.calm=true)(he:QE X e te)(hf:QE X f tf)(h0:autoParam (notStar e=true) zi)(h0':autoParam (notStar f=true) zi) :
  QE X (.Call (.Name "sorted" p1) [.BinOp (.Call (.Name "set" p2) [e] [] p3) .Sub (.Call (.Name "set" p4) [f] [] p5) pos] [] pos') (tSD te tf):=
 dD (uR (tY hc) hg1 hm1 PyProof.Rows.boot_sorted (mD (T6 Rv (nM (BC hc) X6 hm2 PyProof.Rows.boot_set (mD he rL h0) h0 M) (nM (LI hc) X6 hm2 PyProof.Rows.boot_set (mD hf rL h0') h0' M)) rL M) rfl M) λU H Q ⟨Y,S,Z,k,R,D,q,hk⟩=>
  ⟨Y,S,Z,_,R,D,q,(by
   rintro v H1 ⟨Y1,S1,d,g1,R1,r1,ss,ds,h1,h2,h3,h4,q1⟩;obtain⟨a,vs,e1,e2,e3⟩:=dm R1 r1 h1;rw[e3.strs] at e2;refine⟨a,ss,ds,by rw[e1],.of e2,h2,by omega,h4,λp hp=>?_⟩;obtain⟨R2,g2,f1⟩:=R1.new (o:=oR X.prog X.w p ss) hp;refine⟨Y1,S1,Z,_,R2,D.gr (g1.trans g2),q1,?_⟩;rintro w H2 ⟨Y2,S2,d2,g3,zz,r2,so,i1,i2,q2⟩;subst i1;obtain⟨b,ws,f2,f3,f4⟩:=dZ r2;rw[f4.strs] at f3;refine⟨b,so,by rw[f2],.of f3,i2,λo ho=>?_⟩;obtain⟨R4,g4,f5⟩:=zz.new (o:=oR X.prog X.w o so) ho;have f6:=(res_some (g4.le _ _ (g3.le _ _ f1))).2;refine⟨p,o,ss,so,ds,M,M,f6,(res_some f5).2,h3,h4,λr ws' hr hws=>⟨r,ws',M,fE,λl ys hl hm hn hz hs=>?_⟩⟩;obtain⟨R5,g5,_⟩:=R4.new (o:=oR X.prog X.w r ws') hr;rw[GS (l:=ss.filter λx=>!so.contains x) hs hn (λx=>(hm x).trans ((hws x).trans (by simp[jbK])))];exact zf R5 (λv H' u=>hk v H' (u.gr ((((g1.trans g2).trans g3).trans g4).trans g5))) (bK.ofStrs _) q2 l hl)⟩
end
theorem FI (x:Str):∀l:jcR,(tP x l).length<=l.length+1
 |[]=>by simp[tP]
 |y::r=>by
  unfold tP;split
  .simp
  .split
   .simp
   .have:=FI x r;simp only[jaj];omega
theorem mP:∀l:jcR,(uz l).length<=l.length
 |[]=>jal _
 |x::r=>by
  have h1:=FI x (uz r);have h2:=mP r;show(tP x (uz r)).length<=r.length+1;omega
theorem uE {k:Nat}{A:Around}(hr:dW k A):A.units+1+40<cLine:=by have:=hr.un;omega
section
variable {P:Program}{w:World}{K:Frag}{mg:Str->jcW}{base:Heap}{j k:Nat}{x m:Str}{C:Addr}{ps:jcR}
theorem Dn.up {sp:Sp}(h:Dn P w K mg base j x ps sp)(l:j<=k):Dn P w K mg base k x ps sp:=let⟨f,fd,F,a⟩:=h;⟨f,fd,F.mono l,a⟩
theorem Mt.up {sp:Sp}(h:Mt P w K mg base j C m ps sp)(l:j<=k):Mt P w K mg base k C m ps sp:=let⟨f,fd,F,a⟩:=h;⟨f,fd,F.mono l,a⟩
theorem Ms.up {n:Nat}{cl:Nat->Addr}{sp:Nat->rZ}(h:Ms P w K mg base j n cl m ps sp)(l:j<=k):Ms P w K mg base k n cl m ps sp:=λi hi=>Mt.up (h i hi) l
def vR (P:Program)(w:World)(K:Frag)(mg:Str->jcW)(base:Heap)(k:Nat)(C:Addr)(x:Str)(ps:jcR)(sp:rZ):Prop:=∃j,j<k/\Mkr P w K mg base j C x ps sp
theorem vR.up {sp:rZ}(h:vR P w K mg base j C x ps sp)(l:j<=k):vR P w K mg base k C x ps sp:=let⟨i,a,b⟩:=h;⟨i,jaY a l,b⟩
end
section
variable {X:Cx}{o e i:Expr}{es:jcU}{ta te:dR}{t:oH}{f m x:Str}{pos B1 p:Pos}{k:Nat}{ps:jcR}{sp:rZ}{C:Addr}
theorem fz (F:vR X.prog X.w X.K X.mg X.base k C x ps sp)(hr:dW k X.A)(hg:Gl X x)(ha:QA X (e::es) t)(h1:autoParam (notStar e=true) zi)(h2:autoParam (es.all notStar=true) zi)(hdb:autoParam ((x==("__debug__":Str))=false) zn) :
  QE X (.Call (.Name x p) (e::es) [] pos) (Mq C sp t):=let⟨_,hj,F⟩:=F;Vw F (hr.mono hj) hg ha h1 h2 hdb
theorem Zd (F:vR X.prog X.w X.K X.mg X.base k C x ps sp)(hr:dW k X.A)(hg:Gl X x)(ha:QA X (e::es) t)(h1:autoParam (notStar e=true) zi)(h2:autoParam (es.all notStar=true) zi)(hdb:autoParam ((x==("__debug__":Str))=false) zn) :
  QE X (.Call (.Name x p) (e::es) [] pos) (Mp C sp t):=let⟨_,hj,F⟩:=F;Q0 F (hr.mono hj) hg ha h1 h2 hdb
structure Cm (P:Program)(w:World)(K:Frag)(mg:Str->Option Value)(base:Heap)(k:Nat)(x m:Str)(ps:List Str)(sp:rZ):Prop where
 ok:∃(C f:Addr)(fd:FuncData),az P w K mg base bz k f fd ps (aQ K sp)/\mg x=some (.ref C)/\specialIn K (.ref C) "__getattribute__"=some (some (.builtin "type.__getattribute__"))/\readsIn K C (.type "type")=true/\
  findCls K (.ref C) (.type "type") m=some (.val (.ref f))/\keepIn K (.ref f)=true/\Binds K fd ps []
theorem rK {pl:Sem Bool}(F:Cm X.prog X.w X.K X.mg X.base k x m ps sp)(hr:dW k X.A)(hg:Gl X x)(ha:QA X (e::es) t)(h1:autoParam (notStar e=true) zi)(h2:autoParam (es.all notStar=true) zi)(hdb:autoParam ((x==("__debug__":Str))=false) zn)
  (ht:autoParam (eval (.Call (.Attribute (.Name x p) m B1) (e::es) [] pos) X.env=(do
   let ov <- eval (.Name x p) X.env
   standAt B1.atName
   let(f,first) <- holding [ov] (getMethod ov m pl)
   callWith pos f first (backTo pos (starEach (e::es) X.env)) (backToKw pos (keywordEach [] X.env)))) zi) :
  QE X (.Call (.Attribute (.Name x p) m B1) (e::es) [] pos) (uG sp t):=by
 obtain⟨C,f,fd,F,hm,s1,s2,s3,hk,hb⟩:=F.ok;refine dD (Rt hg hm s1 s2 s3 rfl hk F hr hb Bg ha (ig h1) (iV h2) hdb ht) λU H Q ⟨Y,S,Z,k,R,D,q,hk⟩=>⟨Y,S,Z,_,R,D,q,?_⟩
 rintro v H1 ⟨Y1,S1,d,g1,R1,r1,q1⟩;show aQ X.K sp (v++[]) H1 Q E0;rw[jaJ];exact N4 g1 R1 r1 q1 hk
def Wl:D->aA->KD->Prop
 |.t (.v (.int i)),S,k=>k (.int (-i)) S
 |_,_,_=>False
def YB (t:dR):dR:=λZ S k=>t Z S λd S1=>Wl d S1 k
theorem Bd (h:QE X e te):QE X (.UnaryOp .USub e pos) (YB te):=dD (Zl UT h) (by rintro U H Q ⟨Y,S,Z,k,R,D,q,hk⟩;exact⟨Y,S,Z,_,R,D,q,(by
 rintro v H1 ⟨Y1,S1,d,g1,R1,r1,q1⟩
 replace q1:Wl d S1 k:=q1
 unfold Wl at q1;split at q1
 .exact⟨_,bq r1,hk _ _ ⟨Y1,S1,_,g1,R1,bS,q1⟩⟩
 .exact q1.elim)⟩)
theorem Vu {xs:jcR}(h:Ub e=some xs):QE X e (λ_ S k=>xs.length<=sizeLine/\k (.lst (xs.map T.str)) S):=dD (Rn h) (by rintro U H Q ⟨Y,S,Z,k,R,D,q,hk⟩;exact⟨by rw[jab];exact q.1,zf R hk (bK.ofStrs xs) q.2⟩)
theorem Vs {body:List Stmt}{h₀:ExceptHandler}{hs:List ExceptHandler}{t:uf}(hb:bN X body t)(hx:∀e s,¬ X.xe e s:=by intro _ _ h;exact h):QS X (.Try body (h₀::hs) [] [] pos) t:=VJ hx hb
end
section
variable {G:aA->Prop}{g:zy}{tb:uf}{tt:vP}{te:dR}{δ0:Sl}
theorem nV {E:rq}{Z:Sl}{S:aA}{AC:List D}(I:Nat->Sl->aA->Prop)(h0:I 0 Z S)
  (hs:∀i x Z S (N:KS),AC[i]?=some x->I i Z S->(∀Z' S',I (i+1) Z' S'->N Z' S')->G S/\g x Z S λδ1 S1=>tb {E with nx:=N,ct:=N,bk:=E.nx } δ1 S1)
  (hd:∀Z S,I AC.length Z S->G S/\E.nx Z S):Al G g tb AC E Z S:=by
 have go:∀(n i:Nat)(Z:Sl)(S:aA),AC.length - i=n->i<=AC.length->I i Z S->Al G g tb (AC.drop i) E Z S:=by
  intro n
  induction n with
  |zero=>
   intro i Z S e hi h;have:i=AC.length:=by omega
   subst this;rw[List.drop_length];exact hd Z S h
  |succ n ih=>
   intro i Z S e hi h;have hlt:i<AC.length:=by omega
   rw[jcj hlt];exact hs i AC[i] Z S _ (jaD hlt) h λZ' S' h'=>ih (i+1) Z' S' (by omega) hlt h'
 have:=go _ 0 Z S rfl (ja3 _) h0;rwa[List.drop_zero] at this
def elem (g:zy)(tt:vP)(te:dR)(δ0:Sl)(x:D)(S:aA)(k:Option T->aA->Prop):Prop:=
 g x δ0 S λδ1 S1=>tt δ1 S1 λb S2=>if b=true then te δ1 S2 λd S3=>∃y,d=.t y/\k (some y) S3 else k none S2
noncomputable def a0J (ys:List T):Option T->List T
 |some y=>ys++[y]
 |none=>ys
theorem O1 {k:List T->aA->Prop}{ys:List T}{S:aA}{AC:List D}(I:Nat->List T->aA->Prop)(h0:I 0 ys S)
  (hs:∀i x ys S (k':Option T->aA->Prop),AC[i]?=some x->I i ys S->(∀o S',I (i+1) (a0J ys o) S'->k' o S')->G S/\ys.length<sizeLine/\elem g tt te δ0 x S k')
  (hd:∀ys S,I AC.length ys S->G S/\k ys S):iX G g tt te δ0 AC S ys k:=by
 have go:∀(n i:Nat)(ys:List T)(S:aA),AC.length - i=n->i<=AC.length->I i ys S->iX G g tt te δ0 (AC.drop i) S ys k:=by
  intro n
  induction n with
  |zero=>
   intro i ys S e hi h;have:i=AC.length:=by omega
   subst this;rw[List.drop_length];exact hd ys S h
  |succ n ih=>
   intro i ys S e hi h;have hlt:i<AC.length:=by omega
   rw[jcj hlt];obtain⟨h1,h2,h3⟩:=hs i AC[i] ys S (λo S'=>match o with | some y=>ys.length<sizeLine/\iX G g tt te δ0 (AC.drop (i+1)) S' (ys++[y]) k | none=>iX G g tt te δ0 (AC.drop (i+1)) S' ys k) (jaD hlt) h λo S' h'=>by
    cases o with
    |none=>exact ih (i+1) ys S' (by omega) hlt h'
    |some y=>exact⟨(hs i AC[i] ys S (λ_ _=>True) (jaD hlt) h λ_ _ _=>trivial).2.1,ih (i+1) (ys++[y]) S' (by omega) hlt h'⟩
   exact⟨h1,h3⟩
 have:=go _ 0 ys S rfl (ja3 _) h0;rwa[List.drop_zero] at this
end
abbrev Sm:=List (Str×Int)×Int
noncomputable def wt (l:List (Str×Int))(x:Str):Int:=((l.filter λp=>decide (p.1=x)).map (·.2)).sum
noncomputable def norm (l:List (Str×Int)):List (Str×Int):=((uz (l.map (·.1))).map λx=>(x,wt l x)).filter λp=>decide (p.2≠0)
noncomputable def sumOf (l:List (Str×Int))(n:Int):Sm:=(norm l,n)
noncomputable def Sm.plus (a b:Sm):Sm:=sumOf (a.1++b.1) (a.2+b.2)
noncomputable def Sm.times (a:Sm)(k:Int):Sm:=sumOf (a.1.map λp=>(p.1,p.2*k)) (a.2*k)
noncomputable def Sm.less (a b:Sm):Sm:=a.plus (b.times (-1))
noncomputable def pT (p:Str×Int):T:=.tup [.str p.1,.int p.2]
theorem GJ (x:Str):wt [] x=0:=rfl
theorem kr (p:Str×Int)(l:List (Str×Int))(x:Str):wt (p::l) x=(if p.1=x then p.2 else 0)+wt l x:=by
 unfold wt;by_cases h:p.1=x
 .rw[jcm (by simpa using h),jax,List.sum_cons,jae h]
 .rw[jcn (by simpa using h),jad h];omega
theorem xO (l m:List (Str×Int))(x:Str):wt (l++m) x=wt l x+wt m x:=by
 induction l with
 |nil=>rw[GJ];simp
 |cons p r ih=>rw[jbA,kr,kr,ih];omega
theorem rF {l:List (Str×Int)}{x:Str}(h:x∉l.map (·.1)):wt l x=0:=by
 induction l with
 |nil=>rfl
 |cons p r ih=>
  rw[jax,jag,not_or] at h;rw[kr,jad (λe=>h.1 e.symm),ih h.2];rfl
structure Gx (l:List (Str×Int))(d:List (Key×T)):Prop where
 val:∀x,jY d (.inr x)=if x∈l.map (·.1) then some (.int (wt l x)) else none
 keys:∃ss:List Str,d.map (·.1)=ss.map Sum.inr/\ss.Nodup/\∀x,x∈ss↔x∈l.map (·.1)
 len:d.length<=l.length
theorem OS (d:List (Key×T))(a b:Key)(v:T):jY (dput d a v) b=if a=b then some v else jY d b:=by
 unfold dput;by_cases h:(d.any λp=>decide (p.1=a))=true
 .rw[jae h]
  induction d with
  |nil=>simp at h
  |cons p r ih=>
   rw[jax];unfold jY at ih ⊢;by_cases e:p.1=a
   .rw[jae e];by_cases q:a=b
    .subst q;rw[jae rfl];simp[jbm,e]
    .rw[jad q];have ne:¬ p.1=b:=λz=>q (e ▸ z);rw[jb5 (by simpa using ne),jb5 (by simpa using ne)];by_cases h2:(r.any λp=>decide (p.1=a))=true
     .rw[ih h2,jad q]
     .have:r.map (λp=>if p.1=a then(p.1,v) else p)=r:=by
       have hn:∀z∈r,¬ z.1=a:=λz hz e=>h2 (jbQ.mpr ⟨z,hz,by simpa using e⟩);have:∀(r:List (Key×T)),(∀z∈r,¬ z.1=a)->r.map (λp=>if p.1=a then(p.1,v) else p)=r:=by
        intro r
        induction r with
        |nil=>intro _;rfl
        |cons z s ih=>intro hz;rw[jax,jad (hz z jar),ih λy hy=>hz y (jav _ hy)]
       exact this r hn
      rw[this]
   .rw[jad e];have h2:(r.any λp=>decide (p.1=a))=true:=by
     rw[jbS,jat e,Bool.false_or] at h;exact h
    by_cases q:p.1=b
    .have:¬ a=b:=λz=>e (q.trans z.symm);rw[jad this,jcD (by simpa using q),jcD (by simpa using q)]
    .rw[jb5 (by simpa using q),jb5 (by simpa using q)];exact ih h2
 .rw[jad h];unfold jY;have hn:∀z∈d,¬ z.1=a:=λz hz e=>h (jbQ.mpr ⟨z,hz,by simpa using e⟩);by_cases q:a=b
  .subst q;rw[jae M,List.find?_append];have:d.find? (λp=>decide (p.1=a))=none:=List.find?_eq_none.mpr λz hz=>by simpa using hn z hz
   rw[this];simp
  .rw[jad q,List.find?_append];have:([(a,v)]:List (Key×T)).find? (λp=>decide (p.1=b))=none:=by simp[jbm,q]
   rw[this];simp
theorem Lz (d:List (Key×T))(a:Key)(v:T):(a∈d.map (·.1)->(dput d a v).map (·.1)=d.map (·.1))/\(a∉d.map (·.1)->(dput d a v).map (·.1)=d.map (·.1)++[a]):=by
 unfold dput;by_cases h:(d.any λp=>decide (p.1=a))=true
 .obtain⟨z,hz,e⟩:=jbQ.mp h;have hm:a∈d.map (·.1):=jas.mpr ⟨z,hz,by simpa using e⟩;refine⟨λ_=>?_,λz=>absurd hm z⟩;rw[jae h,jaN];refine jcs λp _=>?_;show(if p.1=a then(p.1,v) else p).1=p.1;split<;>rfl
 .have hm:a∉d.map (·.1):=λhm=>by
   obtain⟨z,hz,e⟩:=jas.mp hm;exact h (jbQ.mpr ⟨z,hz,by simpa using e⟩)
  refine⟨λz=>absurd z hm,λ_=>?_⟩;rw[jad h,jam];rfl
theorem Gx.nil:Gx [] []:=⟨λx=>by simp[jY],⟨[],M,.nil,λx=>by simp⟩,jal _⟩
theorem Gx.snoc {l:List (Str×Int)}{d:List (Key×T)}(h:Gx l d)(x:Str)(w:Int){i:Int}(hi:i=wt l x+w):Gx (l++[(x,w)]) (dput d (.inr x) (.int i)):=by
 obtain⟨ss,h1,h2,h3⟩:=h.keys;refine⟨λy=>?_,?_,?_⟩
 .rw[OS,h.val y,jam,xO,kr,GJ];by_cases e:x=y
  .subst e;rw[jae M,jae (by simp),jae M,hi];congr 3;omega
  .have:¬(Sum.inr x:Key)=Sum.inr y:=λz=>e (Sum.inr.inj z);rw[jad this,jad e];by_cases m:y∈l.map (·.1)
   .rw[jae m,jae (jaP _ m)];congr 3;omega
   .rw[jad m,jad];intro z;rcases jau.mp z with z | z
    .exact m z
    .simp at z;exact e z.symm
 .obtain⟨k1,k2⟩:=Lz d (.inr x) (.int i);rw[h1] at k1 k2;by_cases m:(Sum.inr x:Key)∈ss.map Sum.inr
  .have mx:x∈ss:=by
    obtain⟨y,hy,e⟩:=jas.mp m;rw[<- Sum.inr.inj e];exact hy
   refine⟨ss,k1 m,h2,λy=>?_⟩;rw[h3 y,jam,jau];constructor
   .exact .inl
   .rintro(z | z)
    .exact z
    .simp at z;subst z;exact(h3 y).mp mx
  .have mx:x∉ss:=λz=>m (jas.mpr ⟨x,z,M⟩);refine⟨ss++[x],by rw[k2 m];simp,?_,λy=>?_⟩
   .rw[jcc];refine⟨h2,by simp,λa ha b hb=>?_⟩;rw[jai.mp hb];exact λz=>mx (z ▸ ha)
   .rw[jam,jau,jau,h3 y];simp
 .have:(dput d (.inr x) (.int i)).length<=d.length+1:=by
   unfold dput;split
   .simp
   .simp
  have:=h.len;simp;omega
theorem sz (n:Nat)(h:autoParam (n<=1000) zn):n<=sizeLine:=jaR h (by rw[ja7];decide)
theorem ck {n:Nat}(h:n<=1000):n<=sizeLine:=sz n h
theorem vS {n:Nat}(h:n<=1000):n<sizeLine:=KQ h
theorem au {S:aA}{o:O}:(S++[o])[S.length]?=some o:=by simp
theorem cP {S:aA}{o o':O}:(S++[o]).set S.length o'=S++[o']:=by simp
theorem made {S:aA}{C:Addr}{ns:jcR}{l:List T}{o:O}{k:KD}(h:k (.t (.ins C ns l)) S):Ua C S k .eN ((S++[o]).set S.length (.ins C ns (l.map .t))):=⟨M,ns,l,cP,h⟩
theorem JL (l:List (Str×Int)):(uz (l.map (·.1))).filterMap (λx=>if wt l x≠0 then some (pT (x,wt l x)) else none)=(norm l).map pT:=by
 unfold norm;generalize uz (l.map (·.1))=r
 induction r with
 |nil=>rfl
 |cons a r ih=>
  rw[jax];by_cases h:wt l a≠0
  .rw[jb4 (f:=λx=>if wt l x≠0 then some (pT (x,wt l x)) else none) (jae h),ih,jcm (by simpa using h)];rfl
  .rw[jcA (f:=λx=>if wt l x≠0 then some (pT (x,wt l x)) else none) (jad h),ih,jcn (by simpa using h)]
theorem gK (l:List (Str×Int)):(norm l).length<=l.length:=by
 unfold norm;have h1:=List.length_filter_le (λp:Str×Int=>decide (p.2≠0)) ((uz (l.map (·.1))).map λx=>(x,wt l x));have h2:=mP (l.map (·.1));rw[jab] at h1 h2;omega
theorem rP {a b:Int}:decide (V.int a=V.int b)=decide (a=b):=by
 rw[jbX];exact⟨λh=>V.int.inj h,λh=>by rw[h]⟩
theorem BS {a b:Str}:decide (V.str a=V.str b)=decide (a=b):=by
 rw[jbX];exact⟨λh=>V.str.inj h,λh=>by rw[h]⟩
structure Ad where
 (j6 cF dI fB jh lY bZ dz nZ fK cW fV fT fL fU dg pM ji:Addr)
noncomputable def xD (A:Ad):Nat->Addr
 |0=>A.lY | 1=>A.bZ | 2=>A.dz | 3=>A.nZ | 4=>A.fK | 5=>A.cW | 6=>A.fL | 7=>A.fV | _=>A.fT
inductive aI where
 |cmp (a:Sm) (s:Str) (b:Sm) | neg (c:aI) | con (k:Bool) (cs:List aI)
structure UH where
 (name:Str) (params answers:List Str) (needs gives:List (Int×aI))
inductive aV where
 |lt (a:Int) (x:Str) (s:Sm) | dv (a:Int) (x wd:Str) (s b:Sm) | ft (a:Int) (x r:Str) (p:Sm) | pt (a:Int) (r:Str) (p s:Sm) | mq (a:Int) (r:Str) (z:Sm) | cm (a:Int) (c:aI) | cl (a:Int) (ns:List Str) (h:UH) (gs:List Sm)
structure eK where
 (at_:Int) (name:Str) (params answers:List Str) (needs gives:List (Int×aI)) (steps:List aV)
inductive eX where
 |any (x:Str) | lt (x:Str) (s:Sm) | hd (c:aI)
structure wK where
 (kind:Str) (at_:Int) (ahead:List eX) (cond:aI)
noncomputable def mw (l:jcR):T:=.tup (l.map T.str)
noncomputable def i8 (s:Sm):T:=.tup [.tup (s.1.map pT),.int s.2]
section
variable (A:Ad)
noncomputable def cY (s:Sm):T:=.ins A.j6 ["terms","number"] [.tup (s.1.map pT),.int s.2]
mutual
noncomputable def dU:aI->T
 |.cmp a s b=>.ins A.cF ["one","sign","other"] [cY A a,.str s,cY A b]
 |.neg c=>.ins A.dI ["condition"] [dU c]
 |.con k cs=>.ins (if k=true then A.fB else A.jh) ["conditions"] [.tup (Su cs)]
noncomputable def Su:List aI->List T
 |[]=>[]
 |c::r=>dU c::Su r
end
noncomputable def atT (p:Int×aI):T:=.tup [.int p.1,dU A p.2]
noncomputable def jJ:aV->T
 |.lt a x s=>.ins A.lY ["at","name","total"] [.int a,.str x,cY A s]
 |.dv a x wd s b=>.ins A.bZ ["at","name","word","total","by"] [.int a,.str x,.str wd,cY A s,cY A b]
 |.ft a x r p=>.ins A.dz ["at","name","row","place"] [.int a,.str x,.str r,cY A p]
 |.pt a r p s=>.ins A.nZ ["at","row","place","total"] [.int a,.str r,cY A p,cY A s]
 |.mq a r z=>.ins A.fK ["at","row","size"] [.int a,.str r,cY A z]
 |.cm a c=>.ins A.cW ["at","condition"] [.int a,dU A c]
 |.cl a ns h gs=>.ins A.fL ["at","names","helper","given"] [.int a,mw ns,.str h.name,.tup (gs.map (cY A))]
noncomputable def pB (h:eK):T:=.ins A.fU ["at","name","params","answers","needs","gives","steps"] [.int h.at_,.str h.name,mw h.params,mw h.answers,.tup (h.needs.map (atT A)),.tup (h.gives.map (atT A)),.tup (h.steps.map (jJ A))]
noncomputable def Bf (hs:List eK):T:=.ins A.dg ["helpers"] [.tup (hs.map (pB A))]
noncomputable def nG:eX->T
 |.any x=>.tup [.str "any",.str x]
 |.lt x s=>.tup [.str "let",.str x,cY A s]
 |.hd c=>.tup [.str "hold",dU A c]
noncomputable def An (d:wK):T:=.ins A.pM ["kind","at","ahead","condition"] [.str d.kind,.int d.at_,.tup (d.ahead.map (nG A)),dU A d.cond]
end
mutual
noncomputable def jC:aI->T
 |.cmp a s b=>.tup [.str "compare",i8 a,.str s,i8 b]
 |.neg c=>.tup [.str "not",jC c]
 |.con k cs=>.tup (.str (if k=true then "and" else "or")::Ij cs)
noncomputable def Ij:List aI->List T
 |[]=>[]
 |c::r=>jC c::Ij r
end
noncomputable def P0 (p:Int×aI):T:=.tup [.int p.1,jC p.2]
noncomputable def zN:aV->T
 |.lt a x s=>.tup [.str "let",.int a,.str x,i8 s]
 |.dv a x wd s b=>.tup [.str "divide",.int a,.str x,.str wd,i8 s,i8 b]
 |.ft a x r p=>.tup [.str "fetch",.int a,.str x,.str r,i8 p]
 |.pt a r p s=>.tup [.str "put",.int a,.str r,i8 p,i8 s]
 |.mq a r z=>.tup [.str "make",.int a,.str r,i8 z]
 |.cm a c=>.tup [.str "claim",.int a,jC c]
 |.cl a ns h gs=>.tup [.str "call",.int a,mw ns,.str h.name,.tup (gs.map i8)]
noncomputable def pC (h:eK):T:=.tup [.str "helper",.int h.at_,.str h.name,mw h.params,mw h.answers,.tup (h.needs.map P0),.tup (h.gives.map P0),.tup (h.steps.map zN)]
noncomputable def nH:eX->T
 |.any x=>.tup [.str "any",.str x]
 |.lt x s=>.tup [.str "let",.str x,i8 s]
 |.hd c=>.tup [.str "hold",jC c]
noncomputable def Dm (d:wK):T:=.tup [.str d.kind,.int d.at_,.tup (d.ahead.map nH),jC d.cond]
theorem iY (A:Ad):∀l:List aI,Su A l=l.map (dU A)
 |[]=>rfl
 |c::r=>by rw[Su,iY A r];rfl
theorem tX:∀l:List aI,Ij l=l.map jC
 |[]=>rfl
 |c::r=>by rw[Ij,tX r];rfl
mutual
noncomputable def aI.dep:aI->Nat
 |.cmp _ _ _=>0
 |.neg c=>c.dep+1
 |.con _ cs=>nW cs+1
noncomputable def nW:List aI->Nat
 |[]=>0
 |c::r=>max c.dep (nW r)
end
noncomputable def Sm.bC (s:Sm):jcR:=s.1.map (·.1)
mutual
noncomputable def aI.sums:aI->List Sm
 |.cmp a _ b=>[a,b]
 |.neg c=>c.sums
 |.con _ cs=>cZ cs
noncomputable def cZ:List aI->List Sm
 |[]=>[]
 |c::r=>c.sums++cZ r
end
noncomputable def aI.bC (c:aI):jcR:=uz (c.sums.map Sm.bC).flatten
theorem lA {c:aI}:∀{l:List aI},c∈l->c.dep<=nW l
 |d::r,h=>by
  unfold nW;rcases jag.mp h with rfl | h
  .exact Nat.le_max_left _ _
  .exact jaR (lA h) (Nat.le_max_right _ _)
section
variable (A:Ad)
inductive MB (ds:List D) (S:aA) (k:KD):Prop
 |mk (n:Nat) (d:D) (l:List (Str×Int)) (m:Int) (h0:ds=[.ob n,d,.int m]) (h1:S[n]?=some (.ins A.j6 [] [])) (h2:xq S d=some (l.map pT)) (h3:l.length<64) (h4:k .eN (S.set n (.ins A.j6 ["terms","number"] ([.tup (l.map pT),.int m].map .t))))
inductive I8 (ds:List D) (S:aA) (k:KD):Prop
 |mk (d:D) (l:List (Str×Int)) (m:Int) (h0:ds=[d,.int m]) (h1:xq S d=some (l.map pT)) (h2:l.length<64) (h3:k (.t (cY A (sumOf l m))) S)
inductive MG  (ds:List D) (S:aA) (k:KD):Prop
 |mk (x:Str) (h0:ds=[.str x]) (h1:k (.t (cY A ([(x,1)],0))) S)
end
section
variable {S loc:aA}{d:D}{l:List T}
theorem tM (h:lq S d=some l):lq (S++loc) d=some l:=by
 cases d with
 |t x=>cases x<;>exact h
 |ob n=>
  have h:(match S[n]? with | some (.lst l)=>some l | _=>none)=some l:=h;show(match(S++loc)[n]? with | some (.lst l)=>some l | _=>none)=some l;cases q:S[n]? with
  |none=>rw[q] at h;cases h
  |some o=>
   rw[jaS (jao.mp q).1,q];rw[q] at h;exact h
theorem xN (h:xq S d=some l):d=.tup l\/lq S d=some l:=by
 cases d with
 |ob n=>exact .inr h
 |t x=>
  cases x with
  |tup m=>left;have h:some m=some l:=h;injection h with h;rw[h]
  |_=>exact .inr h
theorem vz (h:xq S d=some l):sq S d=some l:=by
 rcases xN h with rfl | h
 .rfl
 .cases d with
  |ob n=>exact h
  |t x=>
   cases x with
   |tup m=>cases h
   |GY m=>cases h
   |_=>exact h
theorem lD {n:Nat}{o:O}(h:S[n]?=some o):(S++loc)[n]?=some o:=by rw[jaS (jao.mp h).1];exact h
theorem JR {k:List D->(aA->Prop)->aA->Prop}(h:xq S d=some l)(hk:∀G:aA->Prop,(∀loc,G (S++loc))->k (l.map .t) G (S++loc)):aG d (S++loc) k:=by
 rcases xN h with rfl | h
 .exact .inl ⟨l,.inl M,hk _ λ_=>trivial⟩
 .cases d with
  |t x=>
   cases x with
   |lst m=>
    have h:some m=some l:=h;injection h with h
    subst h;exact .inl ⟨m,.inr M,hk _ λ_=>trivial⟩
   |_=>cases h
  |ob n=>
   have h':(match S[n]? with | some (.lst l)=>some l | _=>none)=some l:=h;cases q:S[n]? with
   |none=>rw[q] at h';cases h'
   |some o=>
    rw[q] at h';cases o with
    |lst m=>
     have h':some m=some l:=h';injection h' with h'
     subst h';exact .inr ⟨n,m,M,lD q,hk _ λloc=>lD q⟩
    |_=>cases h'
theorem Uh {k:List D->(aA->Prop)->aA->Prop}(h:xq S d=some l)(hk:∀G:aA->Prop,(∀loc,G (S++loc))->k (l.map .t) G S):aG d S k:=by
 have:=JR (loc:=[]) (k:=k) h (by simpa using hk);simpa using this
theorem bJ {k:List D->(aA->Prop)->aA->Prop}(hk:k (l.map .t) (λ_=>True) S):aG (.tup l) S k:=.inl ⟨l,.inl M,hk⟩
theorem jX {k:List D->(aA->Prop)->aA->Prop}(hk:k (l.map .t) (λ_=>True) S):aG (.lst l) S k:=.inl ⟨l,.inr M,hk⟩
end
theorem vc {α:Type}{G:aA->Prop}{g:zy}{tt:vP}{te:dR}{δ0:Sl}{k:List T->aA->Prop}{S:aA}{l:List α}(c:α->T)(f:α->Option T)(hG:G S)(hl:l.length<=sizeLine)(hs:∀x∈l,∀k':Option T->aA->Prop,k' (f x) S->elem g tt te δ0 (.t (c x)) S k')
  (hk:k (l.filterMap f) S):iX G g tt te δ0 ((l.map c).map .t) S [] k:=by
 have go:∀(r:List α)(ys:List T),ys.length+r.length<=sizeLine->(∀x∈r,∀k':Option T->aA->Prop,k' (f x) S->elem g tt te δ0 (.t (c x)) S k')->k (ys++r.filterMap f) S->iX G g tt te δ0 ((r.map c).map .t) S ys k:=by
  intro r
  induction r with
  |nil=>intro ys _ _ q;rw[jcv,jaJ] at q;exact⟨hG,q⟩
  |cons a r ih=>
   intro ys hz hs q;rw[jaj] at hz;refine⟨hG,hs a jar (λo S'=>match o with | some y=>ys.length<sizeLine/\iX G g tt te δ0 ((r.map c).map .t) S' (ys++[y]) k | none=>iX G g tt te δ0 ((r.map c).map .t) S' ys k) ?_⟩;cases e:f a with
   |none=>exact ih ys (by omega) (λx hx=>hs x (jav _ hx)) (by rw[jcA e] at q;exact q)
   |some y=>exact⟨by omega,ih (ys++[y]) (by simp;omega) (λx hx=>hs x (jav _ hx)) (by rw[jb4 e] at q;simpa using q)⟩
 exact go l [] (by simpa using hl) hs (by simpa using hk)
theorem iP {α β:Type}(f:α->β)(l:List α):l.filterMap (λx=>some (f x))=l.map f:=by
 induction l with
 |nil=>rfl
 |cons a r ih=>rw[jb4 (f:=λx=>some (f x)) M,ih];rfl
theorem cV {α:Type}{G:aA->Prop}{g:zy}{tt:vP}{te:dR}{δ0:Sl}{k:List T->aA->Prop}{S:aA}{l:List α}(c f:α->T)(hG:G S)(hl:l.length<=sizeLine)(hs:∀x∈l,∀k':Option T->aA->Prop,k' (some (f x)) S->elem g tt te δ0 (.t (c x)) S k')
  (hk:k (l.map f) S):iX G g tt te δ0 ((l.map c).map .t) S [] k:=vc c (λx=>some (f x)) hG hl hs (by rw[iP];exact hk)
theorem dF {α:Type}{G:aA->Prop}{g:zy}{tb:uf}{E:rq}{Z:Sl}{S:aA}{l:List α}(c:α->T)(I:List α->Sl->aA->Prop)(h0:I [] Z S)
  (hs:∀pre x post Z S (N:KS),l=pre++x::post->I pre Z S->(∀Z' S',I (pre++[x]) Z' S'->N Z' S')->G S/\g (.t (c x)) Z S λδ1 S1=>tb {E with nx:=N,ct:=N,bk:=E.nx } δ1 S1)
  (hd:∀Z S,I l Z S->G S/\E.nx Z S):Al G g tb ((l.map c).map .t) E Z S:=by
 have go:∀(r pre:List α)(Z:Sl)(S:aA),l=pre++r->I pre Z S->Al G g tb ((r.map c).map .t) E Z S:=by
  intro r
  induction r with
  |nil=>intro pre Z S e h;rw[jaJ] at e;subst e;exact hd Z S h
  |cons a r ih=>intro pre Z S e h;exact hs pre a r Z S _ e h λZ' S' h'=>ih (pre++[a]) Z' S' (by rw[e];simp) h'
 exact go l [] Z S rfl h0
noncomputable def xY:aI->Nat
 |.cmp _ _ _=>0 | .neg _=>1 | .con true _=>2 | .con false _=>3
noncomputable def Ao (A:Ad):Nat->Addr
 |0=>A.cF | 1=>A.dI | 2=>A.fB | _=>A.jh
noncomputable def kd:aV->Nat
 |.lt ..=>0 | .dv ..=>1 | .ft ..=>2 | .pt ..=>3 | .mq ..=>4 | .cm ..=>5 | .cl ..=>6
noncomputable def aV.at_:aV->Int
 |.lt a ..=>a | .dv a ..=>a | .ft a ..=>a | .pt a ..=>a | .mq a ..=>a | .cm a _=>a | .cl a ..=>a
noncomputable def hsh (x:Str):Str:="#"++x
noncomputable def aV.us:aV->jcR
 |.lt _ x s=>x::s.bC
 |.dv _ x _ s b=>x::(s.bC++b.bC)
 |.ft _ x r p=>x::hsh r::p.bC
 |.pt _ r p s=>hsh r::(p.bC++s.bC)
 |.mq _ r z=>hsh r::z.bC
 |.cm _ c=>c.bC
 |.cl _ ns _ gs=>ns++(gs.map Sm.bC).flatten
mutual
noncomputable def aI.sz:aI->Nat
 |.cmp _ _ _=>1
 |.neg c=>c.sz+1
 |.con _ cs=>uH cs+1
noncomputable def uH:List aI->Nat
 |[]=>0
 |c::r=>c.sz+uH r
end
mutual
theorem jj:∀c:aI,c.sums.length<=2*c.sz
 |.cmp a s b=>by unfold aI.sums aI.sz;exact jal _
 |.neg c=>by unfold aI.sums aI.sz;have:=jj c;omega
 |.con k cs=>by unfold aI.sums aI.sz;have:=sO cs;omega
theorem sO:∀l:List aI,(cZ l).length<=2*uH l
 |[]=>jal _
 |c::r=>by unfold cZ uH;rw[jaf];have:=jj c;have:=sO r;omega
end
theorem U4 (c:aI):1<=c.sz:=by cases c<;>(unfold aI.sz;omega)
theorem qm:∀l:List aI,l.length<=uH l
 |[]=>jal _
 |c::r=>by unfold uH;rw[jaj];have:=U4 c;have:=qm r;omega
theorem rG {c:aI}:∀{l:List aI},c∈l->c.sz<=uH l
 |d::r,h=>by
  unfold uH;rcases jag.mp h with rfl | h
  .omega
  .have:=rG h;omega
theorem BR:∀l m:List aI,uH (l++m)=uH l+uH m
 |[],m=>by simp[uH]
 |c::r,m=>by rw[jbA,uH,uH,BR];omega
def Sm.few (s:Sm):Prop:=s.1.length<=4
def aI.few (c:aI):Prop:=c.sz<=7/\∀s∈c.sums,s.few
def aV.few:aV->Prop
 |.lt _ x s=>s.few/\x.length<=100
 |.dv _ x _ s b=>s.few/\b.few
 |.ft _ x r p=>p.few/\r.length<=100
 |.pt _ r p s=>p.few/\s.few/\r.length<=100
 |.mq _ r z=>z.few/\r.length<=100
 |.cm _ c=>c.few
 |.cl _ ns h gs=>(∀s∈gs,s.few)/\gs.length<=8/\ns.length<=8
def aV.tk (n:Nat)(s:aV):Prop:=(∀a c,s=.cm a c->c.dep<n/\c.sz<=40)/\∀a ns h gs,s=.cl a ns h gs->gs.length<=8
section
variable (K:Frag)(A:Ad)
inductive D4 (C:Addr) (ns:List Str) (ds:List D) (S:aA) (k:KD):Prop
 |mk (n:Nat) (l:List T) (h0:ds=.ob n::l.map .t) (h1:l.length=ns.length) (h2:S[n]?=some (.ins C [] [])) (h3:k .eN (S.set n (.ins C ns (l.map .t))))
inductive GV (C:Addr) (ds:List D) (S:aA) (k:KD):Prop
 |mk (n:Nat) (d:D) (l:List T) (h0:ds=[.ob n,d]) (h1:S[n]?=some (.ins C [] [])) (h2:xq S d=some l) (h3:k .eN (S.set n (.ins C ["conditions"] ([.tup l].map .t))))
inductive sP (ds:List D) (S:aA) (k:KD):Prop
 |mk (n:Nat) (x:T) (C:Addr) (h0:ds=[.ob n,.t x]) (h1:S[n]?=some (.ins C [] [])) (h2:l6 K C "at") (h3:k .eN (S.set n (.ins C ["at"] ([x].map .t))))
inductive ME (ds:List D) (S:aA) (k:KD):Prop
 |mk (a b:Sm) (h0:ds=[.t (cY A a),.t (cY A b)]) (h1:a.1.length+b.1.length<64) (h2:k (.t (cY A (a.plus b))) S)
inductive I0 (ds:List D) (S:aA) (k:KD):Prop
 |mk (a:Sm) (m:Int) (h0:ds=[.t (cY A a),.int m]) (h1:a.1.length<64) (h2:(-(2 ^ 64)<m/\m<2 ^ 64)) (h3:k (.t (cY A (a.times m))) S)
inductive MH (ds:List D) (S:aA) (k:KD):Prop
 |mk (a b:Sm) (h0:ds=[.t (cY A a),.t (cY A b)]) (h1:a.1.length+b.1.length<64) (h2:k (.t (cY A (a.less b))) S)
inductive Tu  (ds:List D) (S:aA) (k:KD):Prop
 |mk (a:Sm) (h0:ds=[.t (cY A a)]) (h1:a.1.length<64) (h2:k (.t (mw a.bC)) S)
inductive BW  (ds:List D) (S:aA) (k:KD):Prop
 |mk (a:Sm) (h0:ds=[.t (cY A a)]) (h1:k (.t (i8 a)) S)
inductive fO (n j:Nat) (ds:List D) (S:aA) (k:KD):Prop
 |mk (c:aI) (h0:ds=[.t (dU A c)]) (h1:xY c=j) (h2:c.dep<n) (h3:c.sz<=40) (h4:k (.t (jC c)) S)
inductive mR (n j:Nat) (ds:List D) (S:aA) (k:KD):Prop
 |mk (c:aI) (h0:ds=[.t (dU A c)]) (h1:xY c=j) (h2:c.dep<n) (h3:c.sz<=40) (h4:k (.lst (c.sums.map (cY A))) S)
inductive MA (n:Nat) (j:Nat) (ds:List D) (S:aA) (k:KD):Prop
 |mk (c:aI) (h0:ds=[.t (dU A c)]) (h1:xY c=j) (h2:c.dep<n) (h3:c.few) (h4:k (.t (mw c.bC)) S)
inductive ku (n j:Nat) (ds:List D) (S:aA) (k:KD):Prop
 |mk (s:aV) (h0:ds=[.t (jJ A s)]) (h1:kd s=j) (h2:s.tk n) (h3:k (.t (zN s)) S)
inductive mQ (n j:Nat) (ds:List D) (S:aA) (k:KD):Prop
 |mk (s:aV) (h0:ds=[.t (jJ A s)]) (h1:kd s=j) (h2:s.few) (h3:(∀a c,s=.cm a c->c.dep<n)) (h4:k (.t (mw s.us)) S)
inductive MT (j:Nat) (ds:List D) (S:aA) (k:KD):Prop
 |mk (s:aV) (h0:ds=[.t (jJ A s)]) (h1:kd s=j) (h2:k (.tup []) S)
inductive Jd  (ds:List D) (S:aA) (k:KD):Prop
 |mk (x:Str) (h0:ds=[.str x]) (h1:x.length<=1000) (h2:k (.str (hsh x)) S)
inductive Jl  (ds:List D) (S:aA) (k:KD):Prop
 |mk (x:Str) (h0:ds=[.str x]) (h1:k (.bl (Txt.startswith x "#")) S)
end
theorem pA (A:Ad)(S:aA)(c:aI):∃ns l,iq S (.t (dU A c))=some (Ao A (xY c),ns,l)/\ns.contains "told"=false/\ns.contains "things"=false/\ns.contains "all_sums"=false:=by
 cases c with
 |cmp a s b=>exact⟨_,_,by unfold dU;rfl,by symm,by symm,by symm⟩
 |neg c=>exact⟨_,_,by unfold dU;rfl,by symm,by symm,by symm⟩
 |con k cs=>
  cases k with
  |true=>exact⟨_,_,by unfold dU;rfl,by symm,by symm,by symm⟩
  |false=>exact⟨_,_,by unfold dU;rfl,by symm,by symm,by symm⟩
theorem JT (A:Ad)(S:aA)(s:aV):∃ns l,iq S (.t (jJ A s))=some (xD A (kd s),ns,l)/\ns.contains "told"=false/\ns.contains "uses"=false/\ns.contains "blocks"=false/\(ns.zip l).lookup ("at":Str)=some (D.int s.at_):=by
 cases s<;>exact⟨_,_,M,by symm,by symm,by symm,M⟩
theorem fq (c:aI):xY c<4:=by
 cases c with
 |cmp a s b=>show 0<4;decide
 |neg c=>show 1<4;decide
 |con k cs=>cases k<;>(first | (show 2<4;decide) | (show 3<4;decide))
theorem qZ (s:aV):kd s<7:=by cases s<;>simp[kd]
theorem ln1 {l:List T}(h:l.length=1):∃a,l=[a]:=by
 match l,h with
 |[a],_=>exact⟨a,M⟩
theorem ln2 {l:List T}(h:l.length=2):∃a b,l=[a,b]:=by
 match l,h with
 |[a,b],_=>exact⟨a,b,M⟩
theorem ln3 {l:List T}(h:l.length=3):∃a b c,l=[a,b,c]:=by
 match l,h with
 |[a,b,c],_=>exact⟨a,b,c,M⟩
theorem ln4 {l:List T}(h:l.length=4):∃a b c d,l=[a,b,c,d]:=by
 match l,h with
 |[a,b,c,d],_=>exact⟨a,b,c,d,M⟩
theorem ln5 {l:List T}(h:l.length=5):∃a b c d e,l=[a,b,c,d,e]:=by
 match l,h with
 |[a,b,c,d,e],_=>exact⟨a,b,c,d,e,M⟩
theorem Lw {S:aA}{i:Nat}{o:O}(h:i<S.length):(S.set i o)[i]?=some o:=jaG h
theorem eG {S loc:aA}{j:Nat}{l:List T}(h:loc[j]?=some (.lst l)):lq (S++loc) (.ob (S.length+j))=some l:=by
 show(match(S++loc)[S.length+j]? with | some (.lst l)=>some l | _=>none)=some l;rw[dH,h]
theorem mj:∀l m:List aI,cZ (l++m)=cZ l++cZ m
 |[],m=>rfl
 |c::r,m=>by rw[jbA,cZ,cZ,mj,jaX]
abbrev As:=List (Str×Sm)
noncomputable def kj (l:As)(x:Str)(s:Sm):As:=if(l.any λp=>decide (p.1=x))=true then l.map (λp=>if p.1=x then(p.1,s) else p) else l++[(x,s)]
noncomputable def ud (l:As)(x:Str):Option Sm:=(l.find? λp=>decide (p.1=x)).map (·.2)
noncomputable def kv (f:Sm->T)(p:Str×Sm):Key×T:=(.inr p.1,f p.2)
theorem JV (a b:Str):decide ((Sum.inr a:Key)=Sum.inr b)=decide (a=b):=by
 rw[jbX];exact⟨λh=>Sum.inr.inj h,λh=>by rw[h]⟩
theorem DG {f:Sm->T}(l:As)(x:Str):jY (l.map (kv f)) (.inr x)=(ud l x).map f:=by
 unfold jY ud
 induction l with
 |nil=>rfl
 |cons p r ih=>
  rw[jax,jbm,jbm];have e:decide ((kv f p).1=(Sum.inr x:Key))=decide (p.1=x):=JV p.1 x;rw[e];cases decide (p.1=x) with
  |true=>rfl
  |false=>exact ih
theorem qP {f:Sm->T}(l:As)(x:Str)(s:Sm):(kj l x s).map (kv f)=dput (l.map (kv f)) (.inr x) (f s):=by
 unfold dput kj;have e:((l.map (kv f)).any λp=>decide (p.1=(Sum.inr x:Key)))=l.any λp=>decide (p.1=x):=by
  rw[List.any_map];congr 1;funext p;exact JV p.1 x
 rw[e];split
 .rw[jaN,jaN];refine jcs λp _=>?_;show kv f (if p.1=x then(p.1,s) else p)=if(kv f p).1=Sum.inr x then((kv f p).1,f s) else kv f p
  by_cases h:p.1=x
  .rw[jae h,jae (by show(Sum.inr p.1:Key)=_;rw[h])];rfl
  .have ne:¬(kv f p).1=Sum.inr x:=λz=>h (Sum.inr.inj z);rw[jad h,jad ne]
 .rw[jam];rfl
theorem t9 (l:As)(x:Str)(s:Sm):(kj l x s).length<=l.length+1:=by
 unfold kj;split<;>simp
theorem zu {P:Sm->Prop}{l:As}{x:Str}{s:Sm}(h:∀p∈l,P p.2)(hs:P s):∀p∈kj l x s,P p.2:=λp hp=>by
 unfold kj at hp;split at hp
 .obtain⟨q,hq,rfl⟩:=jas.mp hp;by_cases e:q.1=x
  .rw[jae e];exact hs
  .rw[jad e];exact h q hq
 .rcases jau.mp hp with hp | hp
  .exact h p hp
  .rw[jai.mp hp];exact hs
theorem zx {P:Sm->Prop}{l:As}{x:Str}{s:Sm}(h:∀p∈l,P p.2)(e:ud l x=some s):P s:=by
 unfold ud at e;cases q:l.find? (λp=>decide (p.1=x)) with
 |none=>rw[q] at e;cases e
 |some p=>rw[q] at e;cases e;exact h p (jcz q)
noncomputable def prs (m:As):List (Str×Int)->List (Str×Int)
 |[]=>[]
 |p::r=>(match ud m p.1 with | some s=>(s.times p.2).1 | none=>[p])++prs m r
noncomputable def nms (m:As):List (Str×Int)->Int
 |[]=>0
 |p::r=>(match ud m p.1 with | some s=>(s.times p.2).2 | none=>0)+nms m r
noncomputable def Sm.put (m:As)(s:Sm):Sm:=sumOf (prs m s.1) (s.2+nms m s.1)
mutual
noncomputable def aI.put (m:As):aI->aI
 |.cmp a s b=>.cmp (a.put m) s (b.put m)
 |.neg c=>.neg (c.put m)
 |.con k cs=>.con k (putL m cs)
noncomputable def putL (m:As):List aI->List aI
 |[]=>[]
 |c::r=>c.put m::putL m r
end
theorem oW (m:As):∀l:List aI,putL m l=l.map (aI.put m)
 |[]=>by rw[putL];rfl
 |c::r=>by rw[putL,oW m r];rfl
mutual
theorem CD (m:As):∀c:aI,(c.put m).dep=c.dep
 |.cmp a s b=>by rw[aI.put,aI.dep,aI.dep]
 |.neg c=>by rw[aI.put,aI.dep,aI.dep,CD m c]
 |.con k cs=>by rw[aI.put,aI.dep,aI.dep,ES m cs]
theorem ES (m:As):∀l:List aI,nW (putL m l)=nW l
 |[]=>by rw[putL]
 |c::r=>by rw[putL,nW,nW,CD m c,ES m r]
end
mutual
theorem G9 (m:As):∀c:aI,(c.put m).sz=c.sz
 |.cmp a s b=>by rw[aI.put,aI.sz,aI.sz]
 |.neg c=>by rw[aI.put,aI.sz,aI.sz,G9 m c]
 |.con k cs=>by rw[aI.put,aI.sz,aI.sz,Jz m cs]
theorem Jz (m:As):∀l:List aI,uH (putL m l)=uH l
 |[]=>by rw[putL]
 |c::r=>by rw[putL,uH,uH,G9 m c,Jz m r]
end
theorem xm {m:As}(h:∀p∈m,p.2.1.length<=4):∀l:List (Str×Int),(prs m l).length<=4*l.length
 |[]=>jal _
 |p::r=>by
  unfold prs;have h1:=xm h r;have h2:(match ud m p.1 with | some s=>(s.times p.2).1 | none=>[p]).length<=4:=by
   split
   .rename_i s e;have h3:=zx (P:=λs=>s.1.length<=4) h e;have h4:=gK (s.1.map λq=>(q.1,q.2*p.2));rw[jab] at h4;exact jaR h4 h3
   .show 1<=4;decide
  rw[jaf,jaj];omega
theorem Ri (m:As)(l k:List (Str×Int)):prs m (l++k)=prs m l++prs m k:=by
 induction l with
 |nil=>rfl
 |cons p r ih=>rw[jbA,prs,prs,ih,jaX]
theorem RI (m:As)(l k:List (Str×Int)):nms m (l++k)=nms m l+nms m k:=by
 induction l with
 |nil=>show _=0+_;rw[Int.zero_add];rfl
 |cons p r ih=>rw[jbA,nms,nms,ih,Int.add_assoc]
theorem yN {l:List (Str×Int)}{p:Str×Int}:p∈norm l↔p.2=wt l p.1/\p.2≠0:=by
 unfold norm;rw[jbK];constructor
 .rintro⟨h1,h2⟩;obtain⟨x,hx,rfl⟩:=jas.mp h1;exact⟨M,by simpa using h2⟩
 .rintro⟨h1,h2⟩;refine⟨jas.mpr ⟨p.1,dG.mpr ?_,?_⟩,by simpa using h2⟩
  .refine Classical.byContradiction λh=>h2 ?_;rw[h1,rF h]
  .rw[<- h1]
noncomputable def nk (l:List (Str×Int)):jcR:=(uz (l.map (·.1))).filter λx=>decide (wt l x≠0)
theorem C3 (l:List (Str×Int)):norm l=(nk l).map λx=>(x,wt l x):=by
 unfold norm nk;generalize uz (l.map (·.1))=r
 induction r with
 |nil=>rfl
 |cons a r ih=>
  rw[jax];by_cases h:wt l a≠0
  .rw[jcm (by simpa using h),ih,jcm (by simpa using h),jax]
  .rw[jcn (by simpa using h),ih,jcn (by simpa using h)]
theorem NW {l:List (Str×Int)}{x:Str}:x∈nk l↔wt l x≠0:=by
 unfold nk;rw[jbK,dG];constructor
 .exact λh=>by simpa using h.2
 .exact λh=>⟨Classical.byContradiction λn=>h (rF n),by simpa using h⟩
theorem Fp {l m:List (Str×Int)}(h:∀x,wt l x=wt m x):norm l=norm m:=by
 have e:nk l=nk m:=mC ((jK _).filter _) ((jK _).filter _) λx=>by rw[NW,NW,h x]
 rw[C3,C3,e];exact jcs λx _=>by rw[h x]
theorem ZI (l:List (Str×Int)):(nk l).Nodup:=((jK _).filter _).imp λ{a b} hab=>NZ hab
theorem JK (l:List (Str×Int)):((norm l).map (·.1)).Nodup:=by
 rw[C3,jaN];have:((λx:Str×Int=>x.1) ∘ λx=>(x,wt l x))=id:=rfl;rw[this,List.map_id];exact ZI l
theorem Ys {l:List (Str×Int)}(h:(l.map (·.1)).Nodup){p:Str×Int}(hp:p∈l):wt l p.1=p.2:=by
 induction l with
 |nil=>cases hp
 |cons q r ih=>
  rw[jax,jbq] at h;rw[kr];rcases jag.mp hp with rfl | hp
  .rw[jae M,rF h.1];omega
  .have:¬ q.1=p.1:=λe=>h.1 (e ▸ jas.mpr ⟨p,hp,M⟩);rw[jad this,ih h.2 hp];omega
theorem BO (l:List (Str×Int))(x:Str):wt (norm l) x=wt l x:=by
 by_cases h:wt l x=0
 .rw[h];refine rF λhx=>?_;obtain⟨p,hp,rfl⟩:=jas.mp hx;obtain⟨h1,h2⟩:=yN.mp hp;exact h2 (h1.trans h)
 .exact Ys (JK l) (p:=(x,wt l x)) (yN.mpr ⟨M,h⟩)
theorem D8 (l:List (Str×Int))(k:Int)(x:Str):wt (l.map λp=>(p.1,p.2*k)) x=wt l x*k:=by
 induction l with
 |nil=>simp[wt]
 |cons p r ih=>
  rw[jax,kr,kr,ih,Int.add_mul];by_cases h:p.1=x
  .rw[jae h,jae h]
  .rw[jad h,jad h,Int.zero_mul]
noncomputable def on (x:Str):Sm:=([(x,1)],0)
noncomputable def zP (a b:Sm):aI:=.cmp a "<=" b
noncomputable def J4 (s:Sm):aI:=zP ([],0) s
noncomputable def aT (x:Str):List eX:=if Txt.startswith x "#"=true then[.any x,.hd (J4 (on x))] else[.any x]
noncomputable def others (h:eK):jcR:=uz ((h.answers++(h.steps.map aV.us).flatten).filter λx=>!h.params.contains x)
noncomputable def dX (h:eK):List eX:=(h.params.map aT).flatten++(others h).map (λx=>.lt x ([],0))++h.needs.map λp=>.hd p.2
noncomputable def within (r:Str)(p:Sm):aI:=.con true [J4 p,zP p ((on (hsh r)).less ([],1))]
noncomputable def quot (by_:Int):aI:=
 if 0<by_ then .con true [zP ((on "^^").times by_) (on "^"),zP (on "^") (((on "^^").times by_).plus ([],by_ - 1))]
 else .con true [zP (on "^") ((on "^^").times by_),zP (((on "^^").times by_).plus ([],by_+1)) (on "^")]
noncomputable def v5 (k:Str)(a:Int)(p:List eX)(c:aI):wK:=⟨k,a,p,c⟩
noncomputable def LB (x wd:Str)(s b:Sm)(p:List eX):List eX:=
 if b.1≠[]\/b.2=0 then p++aT x else p++[.lt "^" s]++aT "^^"++[.hd (quot b.2)]++[.lt x (if wd="div" then on "^^" else(on "^").less ((on "^^").times b.2))]
noncomputable def eK.hd (h:eK):UH:=⟨h.name,h.params,h.answers,h.needs,h.gives⟩
noncomputable def hat (i:Nat):Str:="^"++(toString (i:Int):String)
noncomputable def inN (ps:jcR)(gs:List Sm)(p:List eX):Nat->List eX×As
 |0=>(p,[])
 |i+1=>match ps[i]?,gs[i]? with
  |some x,some g=>if Txt.startswith x "#"=true then((inN ps gs p i).1,kj (inN ps gs p i).2 x g) else((inN ps gs p i).1++[.lt (hat i) g],kj (inN ps gs p i).2 x (on (hat i)))
  |_,_=>inN ps gs p i
noncomputable def wB (ns DF:jcR)(m:As):Nat->As
 |0=>m
 |i+1=>match ns[i]?,DF[i]? with
  |some x,some y=>kj (wB ns DF m i) y (on x)
  |_,_=>wB ns DF m i
noncomputable def allOf (l:List (Int×aI)):aI:=if l.length=1 then(match l with | q::_=>q.2 | []=>.con true []) else .con true (l.map (·.2))
noncomputable def goN (p:List eX)(a:Int)(m:As)(nd:List (Int×aI)):List wK×List eX:=if nd=[] then([],p) else([v5 "needs" a p ((allOf nd).put m)],p++[.hd ((allOf nd).put m)])
noncomputable def J2 (p:List eX)(a:Int)(ns:jcR)(h:UH)(gs:List Sm):List wK×List eX:=
 ((goN (inN h.params gs p h.params.length).1 a (inN h.params gs p h.params.length).2 h.needs).1,
  (goN (inN h.params gs p h.params.length).1 a (inN h.params gs p h.params.length).2 h.needs).2++(ns.map aT).flatten++h.gives.map λq=>.hd (q.2.put (wB ns h.answers (inN h.params gs p h.params.length).2 ns.length)))
def Sm.bw (s:Sm):Prop:=∀p∈s.1,-(2 ^ 63)<p.2/\p.2<2 ^ 63
def aI.bw (c:aI):Prop:=∀s∈c.sums,s.bw
structure IS (n:Nat)(ns:List Str)(h:UH)(gs:List Sm):Prop where
 pl:h.params.length=gs.length/\gs.length<=8
 al:ns.length=h.answers.length/\ns.length<=8
 nl:h.needs.length<=8/\h.gives.length<=8
 gs:∀s∈gs,s.few
 ps:∀y∈h.params,y.length<=100/\∃c r,y.cps.toList=c::r
 nd:∀q∈h.needs,q.2.few/\q.2.dep+1<n/\q.2.sz<=4/\q.2.bw
 gv:∀q∈h.gives,q.2.few/\q.2.dep+1<n/\q.2.sz<=4/\q.2.bw
def Has (hs:List eK)(h:UH):Prop:=hs.length<=100/\∃x,hs.find? (λy=>decide (y.name=h.name))=some x/\x.hd=h
def Ca (hs:List eK)(s:aV):Prop:=∀a ns h gs,s=.cl a ns h gs->Has hs h
noncomputable def qI (p:List eX):aV->List wK×List eX
 |.lt _ x s=>([],p++[.lt x s])
 |.dv a x wd s b=>([v5 "nought" a p (.cmp b "!=" ([],0))],LB x wd s b (p++[.hd (.cmp b "!=" ([],0))]))
 |.ft a x r z=>([v5 "beyond" a p (within r z)],p++[.hd (within r z)]++aT x)
 |.pt a r z s=>([v5 "beyond" a p (within r z)],p++[.hd (within r z)])
 |.mq a r z=>([v5 "short" a p (J4 z)],p++[.hd (J4 z)]++[.lt (hsh r) z])
 |.cm a c=>([v5 "claim" a p c],p++[.hd c])
 |.cl a ns h gs=>J2 p a ns h gs
noncomputable def cE (p:List eX):List aV->List wK×List eX
 |[]=>([],p)
 |s::r=>((qI p s).1++(cE (qI p s).2 r).1,(cE (qI p s).2 r).2)
noncomputable def br (k:Str)(p:List eX):List (Int×aI)->List wK×List eX
 |[]=>([],p)
 |q::r=>(v5 k q.1 p q.2::(br k (p++[.hd q.2]) r).1,(br k (p++[.hd q.2]) r).2)
noncomputable def iR (h:eK):List wK:=(cE (dX h) h.steps).1++(br "gives" (cE (dX h) h.steps).2 h.gives).1
structure aV.Ok (n:Nat)(s:aV):Prop where
 few:s.few
 dep:∀a c,s=.cm a c->c.dep<n
 by_:∀a x wd t b,s=.dv a x wd t b->-(2 ^ 63)<b.2/\b.2<2 ^ 63
 cl:∀a ns h gs,s=.cl a ns h gs->IS n ns h gs
theorem aV.Ok.tk0 {n:Nat}{s:aV}(h:s.Ok n):∀a ns g gs,s=.cl a ns g gs->gs.length<=8:=λa ns g gs e=>(h.cl a ns g gs e).pl.2
theorem aV.Ok.cd {n:Nat}{s:aV}(h:s.Ok n):∀a c,s=.cm a c->c.dep<n/\c.sz<=40:=λa c e=>⟨h.dep a c e,by have:=h.few;subst e;exact jaR this.1 (by decide)⟩
theorem aV.Ok.tk {n:Nat}{s:aV}(h:s.Ok n):s.tk n:=⟨h.cd,h.tk0⟩
def Bk (A:Ad)(S:aA)(b f:Nat)(pg:T)(cy:List wK):Prop:=S[b]?=some (.ins A.ji ["program","found"] [.t pg,.ob f])/\S[f]?=some (.lst (cy.map (An A)))
theorem Bk.ne {A:Ad}{S:aA}{b f:Nat}{pg:T}{cy:List wK}(h:Bk A S b f pg cy):b≠f:=λe=>by
 have h1:=h.1;rw[e,h.2] at h1;cases h1
theorem Bk.put {A:Ad}{S:aA}{b f:Nat}{pg:T}{cy:List wK}(h:Bk A S b f pg cy)(ds:List wK):Bk A (S.set f (.lst (ds.map (An A)))) b f pg ds:=
 ⟨by rw[jbG (jaO h.ne)];exact h.1,jaG (jao.mp h.2).1⟩
theorem Bk.up {A:Ad}{S loc:aA}{b f:Nat}{pg:T}{cy:List wK}(h:Bk A S b f pg cy):Bk A (S++loc) b f pg cy:=⟨lD h.1,lD h.2⟩
theorem set_same {S:aA}{f:Nat}{o:O}(h:S[f]?=some o):S.set f o=S:=by
 obtain⟨h1,h2⟩:=jao.mp h;rw[<- h2];exact List.set_getElem_self h1
section
variable (K:Frag)(A:Ad)
inductive Ja  (ds:List D) (S:aA) (k:KD):Prop
 |mk (d:D) (l:List (Int×aI)) (h0:ds=[d]) (h1:xq S d=some (l.map (atT A))) (h2:l.length<=100) (h3:k (.tup (l.map (atT A))) S)
inductive IZ (n:Nat) (ds:List D) (S:aA) (k:KD):Prop
 |mk (l:List (Int×aI)) (h0:ds=[.tup (l.map (atT A))]) (h1:l.length<=100) (h2:(∀p∈l,p.2.dep<n/\p.2.sz<=40)) (h3:k (.tup (l.map P0)) S)
structure Yh (n:Nat)(x:eK):Prop where
 nd:∀p∈x.needs,p.2.dep<n/\p.2.sz<=40
 gv:∀p∈x.gives,p.2.dep<n/\p.2.sz<=40
 st:∀s∈x.steps,s.tk n
 len:x.needs.length<=100/\x.gives.length<=100/\x.steps.length<=100
inductive Tx (n:Nat) (q:Nat):T->T->Nat->Prop
 |s (s:aV) (h:s.tk n) (hq:1<=q):Tx n q (jJ A s) (zN s) (kd s)
 |m (s:Sm):Tx n q (cY A s) (i8 s) 8
 |h (x:eK) (hx:Yh n x) (hq:2<=q):Tx n q (pB A x) (pC x) 7
noncomputable def Yb:Nat->Addr
 |7=>A.fU
 |8=>A.j6
 |j=>xD A j
inductive jk (n:Nat) (q:Nat) (j:Nat) (ds:List D) (S:aA) (k:KD):Prop
 |mk (x y:_) (h0:ds=[.t x]) (h1:Tx A n q x y j) (h2:k (.t y) S)
inductive wV (n:Nat) (q:Nat) (ds:List D) (S:aA) (k:KD):Prop
 |mk (l:List (T×T)) (h0:ds=[.tup (l.map (·.1))]) (h1:l.length<=100) (h2:(∀p∈l,∃j,Tx A n q p.1 p.2 j)) (h3:k (.tup (l.map (·.2))) S)
inductive Ei  (ds:List D) (S:aA) (k:KD):Prop
 |mk (d:D) (l:List aV) (h0:ds=[d]) (h1:xq S d=some (l.map (jJ A))) (h2:l.length<=100) (h3:k (.lst (l.map (jJ A))) S)
inductive Ej (n:Nat) (ds:List D) (S:aA) (k:KD):Prop
 |mk (s:aV) (h0:ds=[.t (jJ A s)]) (h1:s.Ok n) (h2:k (.lst [.tup [.int s.at_,mw s.us]]) S)
inductive TL  (ds:List D) (S:aA) (k:KD):Prop
 |mk (i:Nat) (a:Int) (x:Str) (d1 d2 d3 d4 d5:D) (h:eK) (h0:ds=[.ob i,.int h.at_,.str h.name,d1,d2,d3,d4,d5]) (h1:S[i]?=some (.ins A.fU [] [])) (h2:xq S d1=some (h.params.map T.str)) (h3:xq S d2=some (h.answers.map T.str)) (h4:xq S d3=some (h.needs.map (atT A))) (h5:xq S d4=some (h.gives.map (atT A))) (h6:xq S d5=some (h.steps.map (jJ A))) (h7:h.needs.length<=100) (h8:h.gives.length<=100) (h9:k .eN (S.set i (.ins A.fU ["at","name","params","answers","needs","gives","steps"] ([.int h.at_,.str h.name,mw h.params,mw h.answers,.tup (h.needs.map (atT A)),.tup (h.gives.map (atT A)),.tup (h.steps.map (jJ A))].map .t))))
inductive Tv  (ds:List D) (S:aA) (k:KD):Prop
 |mk (i:Nat) (d:D) (hs:List eK) (h0:ds=[.ob i,d]) (h1:S[i]?=some (.ins A.dg [] [])) (h2:xq S d=some (hs.map (pB A))) (h3:k .eN (S.set i (.ins A.dg ["helpers"] ([.tup (hs.map (pB A))].map .t))))
inductive Jc  (ds:List D) (S:aA) (k:KD):Prop
 |mk (x:Str) (h:eK) (hs:List eK) (h0:ds=[.t (Bf A hs),.str x]) (h1:hs.find? (λy=>decide (y.name=x))=some h) (h2:k (.t (pB A h)) S)
inductive xT (n:Nat) (ds:List D) (S:aA) (k:KD):Prop
 |mk (hs:List eK) (h0:ds=[.t (Bf A hs)]) (h1:hs.length<=100) (h2:(∀h∈hs,Yh n h)) (h3:k (.tup (hs.map pC)) S)
inductive xW (n:Nat) (ds:List D) (S:aA) (k:KD):Prop
 |mk (h:eK) (h0:ds=[.t (pB A h)]) (h1:Yh n h) (h2:k (.t (pC h)) S)
structure LV (n:Nat)(h:eK)(N:List Str):Prop where
 st:∀s∈h.steps,s.Ok n
 us:∀s∈h.steps,∀x∈s.us,x∈N
 an:∀x∈h.answers,x∈N
 nl:N.length<=8
 pl:h.params.length<=8/\h.answers.length<=8/\h.steps.length<=8/\h.needs.length<=8/\h.gives.length<=8
 sh:∀x∈h.params,x.length<=100
inductive Jb (n:Nat) (ds:List D) (S:aA) (k:KD):Prop
 |mk (h:eK) (N:List Str) (h0:ds=[.t (pB A h)]) (h1:LV n h N) (h2:k (.lst ((others h).map T.str)) S)
inductive TU  (ds:List D) (S:aA) (k:KD):Prop
 |mk (a b:Sm) (h0:ds=[.t (cY A a),.t (cY A b)]) (h1:k (.t (dU A (zP a b))) S)
inductive TN  (ds:List D) (S:aA) (k:KD):Prop
 |mk (a:Sm) (h0:ds=[.t (cY A a)]) (h1:k (.t (dU A (J4 a))) S)
inductive TF  (ds:List D) (S:aA) (k:KD):Prop
 |mk (x:Str) (s:Sm) (h0:ds=[.str x,.t (cY A s)]) (h1:k (.t (nG A (.lt x s))) S)
inductive MQ  (ds:List D) (S:aA) (k:KD):Prop
 |mk (c:aI) (h0:ds=[.t (dU A c)]) (h1:k (.t (nG A (.hd c))) S)
inductive Jm  (ds:List D) (S:aA) (k:KD):Prop
 |mk (l:List (Int×aI)) (h0:ds=[.tup (l.map (atT A))]) (h1:l.length<=100) (h2:k (.tup ((l.map λp=>eX.hd p.2).map (nG A))) S)
inductive A6  (ds:List D) (S:aA) (k:KD):Prop
 |mk (x:Str) (h0:ds=[.str x]) (h1:k (.tup ((aT x).map (nG A))) S)
inductive I9 (n:Nat) (ds:List D) (S:aA) (k:KD):Prop
 |mk (h:eK) (N:List Str) (h0:ds=[.t (pB A h)]) (h1:LV n h N) (h2:k (.tup ((dX h).map (nG A))) S)
inductive TR  (ds:List D) (S:aA) (k:KD):Prop
 |mk (i:Nat) (pg:T) (h0:ds=[.ob i,.t pg]) (h1:S[i]?=some (.ins A.ji [] [])) (h2:k .eN (S.set i (.ins A.ji ["program","found"] [.t pg,.ob S.length])++[.lst []]))
inductive MF (_:Nat) (ds:List D) (S:aA) (k:KD):Prop
 |mk (b f:Nat) (pg:T) (cy:List wK) (p:List eX) (kn:Str) (a:Int) (c:aI) (h0:ds=[.ob b,.tup (p.map (nG A)),.str kn,.int a,.t (dU A c)]) (h1:Bk A S b f pg cy) (h2:cy.length<100) (h3:p.length<=900) (h4:k (.tup ((p++[eX.hd c]).map (nG A))) (S.set f (.lst ((cy++[v5 kn a p c]).map (An A)))))
inductive GW (_:Nat) (ds:List D) (S:aA) (k:KD):Prop
 |mk (b f:Nat) (pg:T) (cy:List wK) (p:List eX) (kn:Str) (l:List (Int×aI)) (h0:ds=[.ob b,.tup (p.map (nG A)),.str kn,.tup (l.map (atT A))]) (h1:Bk A S b f pg cy) (h2:cy.length+l.length<=100) (h3:p.length+l.length<=900) (h4:k (.tup ((br kn p l).2.map (nG A))) (S.set f (.lst ((cy++(br kn p l).1).map (An A)))))
inductive YR  (ds:List D) (S:aA) (k:KD):Prop
 |mk (s:aV) (r:Str) (p:Sm) (h0:ds=[.t (jJ A s)]) (h1:((∃a x,s=.ft a x r p)\/∃a t,s=.pt a r p t)) (h2:r.length<=100) (h3:k (.t (dU A (within r p))) S)
inductive MC  (ds:List D) (S:aA) (k:KD):Prop
 |mk (i:Int) (h0:ds=[.int i]) (h1:(-(2 ^ 63)<i/\i<2 ^ 63)) (h2:k (.t (dU A (quot i))) S)
inductive Es (n:Nat) (ok:aV->Prop) (mk:List eX->T) (ds:List D) (S:aA) (k:KD):Prop
 |mk (b f:Nat) (hs:List eK) (cy:List wK) (p:List eX) (s:aV) (h0:ds=[.ob b,.tup (p.map (nG A)),.t (jJ A s)]) (h1:Bk A S b f (Bf A hs) cy) (h2:cy.length<99) (h3:p.length<=800) (h4:s.Ok n) (h5:Ca hs s) (h6:ok s) (h7:k (.t (mk (qI p s).2)) (S.set f (.lst ((cy++(qI p s).1).map (An A)))))
inductive MR (n:Nat) (ds:List D) (S:aA) (k:KD):Prop
 |mk (b f:Nat) (hs:List eK) (cy:List wK) (p:List eX) (l:List aV) (h0:ds=[.ob b,.tup (p.map (nG A)),.tup (l.map (jJ A))]) (h1:Bk A S b f (Bf A hs) cy) (h2:cy.length+l.length<99) (h3:p.length+40*l.length<=700) (h4:(∀s∈l,s.Ok n/\Ca hs s)) (h5:k (.lst [.tup ((cE p l).2.map (nG A))]) (S.set f (.lst ((cy++(cE p l).1).map (An A)))))
inductive Jp  (ds:List D) (S:aA) (k:KD):Prop
 |mk (l:List aV) (h0:ds=[.tup (l.map (jJ A))]) (h1:k (.int 1) S)
inductive Jo (n:Nat) (ds:List D) (S:aA) (k:KD):Prop
 |mk (h:eK) (hs:List eK) (N:List Str) (h0:ds=[.t (Bf A hs),.str h.name]) (h1:hs.find? (λy=>decide (y.name=h.name))=some h) (h2:(∀s∈h.steps,Ca hs s)) (h3:LV n h N) (h4:k (.ob S.length) (S++[.lst ((iR h).map (An A))]))
end
theorem ZZ (A:Ad)(S:aA){n j:Nat}{q:Nat}{x y:T}(h:Tx A n q x y j):∃ns l,iq S (.t x)=some (Yb A j,ns,l)/\ns.contains "told"=false/\j<9:=by
 cases h with
 |s s h hq=>
  obtain⟨ns,l,i1,i2,_⟩:=JT A S s;have hk:=qZ s;refine⟨ns,l,?_,i2,by omega⟩;rw[i1];have:Yb A (kd s)=xD A (kd s):=by cases s<;>rfl
  rw[this]
 |m s=>exact⟨_,_,M,by symm,by decide⟩
 |h x hx hq=>exact⟨_,_,M,by symm,by decide⟩
theorem A0 (A:Ad)(S:aA)(s:aV):tyD S (.t (jJ A s))=some (.ref (xD A (kd s))):=by cases s<;>rfl
section
variable {K:Frag}{A:Ad}{i j:Nat}
theorem tN (kk:∀j i,j<7->i<9->kitOne K (.ref (xD A j)) (.ref (xD A i))=some (decide (j=i)))(hj:j<7)(hi:i<9)(ne:j≠i):kitOne K (.ref (xD A j)) (.ref (xD A i))=some false:=by rw[kk j i hj hi,jat ne]
theorem RV (kk:∀j i,j<7->i<9->kitOne K (.ref (xD A j)) (.ref (xD A i))=some (decide (j=i)))(hj:j<7):kitOne K (.ref (xD A j)) (.ref (xD A j))=some true:=by rw[kk j j hj (by omega),jaF rfl]
end
theorem Mf {n:Nat}{s:aV}(h:s.Ok n):s.us.length<=56:=by
 have hf:=h.few;cases s with
 |lt a x s=>have:s.1.length<=4:=hf.1;simp[aV.us,Sm.bC];omega
 |dv a x wd s b=>have:s.1.length<=4:=hf.1;have:b.1.length<=4:=hf.2;simp[aV.us,Sm.bC];omega
 |ft a x r p=>have:p.1.length<=4:=hf.1;simp[aV.us,Sm.bC];omega
 |pt a r p s=>have:p.1.length<=4:=hf.1;have:s.1.length<=4:=hf.2.1;simp[aV.us,Sm.bC];omega
 |mq a r z=>have:z.1.length<=4:=hf.1;simp[aV.us,Sm.bC];omega
 |cl a ns h gs=>
  have h5:∀l:List Sm,(∀s∈l,s.few)->(l.map Sm.bC).flatten.length<=4*l.length:=by
   intro l
   induction l with
   |nil=>intro _;exact jal _
   |cons a r ih=>
    intro hm;rw[jax,jbb,jaf,jaj];have h1:=ih λs hs'=>hm s (jav _ hs');have h2:a.1.length<=4:=hm a jar;have h3:a.bC.length=a.1.length:=by unfold Sm.bC;rw[jab]
    omega
  have:=h5 gs hf.1;have:=hf.2;show(ns++_).length<=56;rw[jaf];omega
 |cm a c=>
  obtain⟨h1,h2⟩:=hf;have h3:=mP (c.sums.map Sm.bC).flatten;have h4:=jj c;have h5:∀l:List Sm,(∀s∈l,s.few)->(l.map Sm.bC).flatten.length<=4*l.length:=by
   intro l
   induction l with
   |nil=>intro _;exact jal _
   |cons a r ih=>
    intro hm;rw[jax,jbb,jaf,jaj];have h1:=ih λs hs'=>hm s (jav _ hs');have h2:a.1.length<=4:=hm a jar;have h3:a.bC.length=a.1.length:=by unfold Sm.bC;rw[jab]
    omega
  have h6:=h5 c.sums h2;show(uz _).length<=56;omega
theorem fG:∀l:jcR,((l.map aT).flatten).length<=2*l.length
 |[]=>jal _
 |a::r=>by
  rw[jax,jbb,jaf,jaj];have:=fG r;have:(aT a).length<=2:=by unfold aT;split<;>simp
  omega
theorem fX (x:Str):(aT x).length<=2:=by unfold aT;split<;>simp
theorem jI {α β:Type}(f:α->List β)(g:β->T)(pre:List α)(s:α):((pre++[s]).map f).flatten.map g=(pre.map f).flatten.map g++(f s).map g:=by simp
theorem mL {S S':aA}{d:D}{k:KD}(h:k d S'):closes S.length d S' k:=.inr (.inr (.inr h))
theorem oA {S:aA}{b:Nat}{C:Addr}{ns:jcR}{l:List D}(h:S[b]?=some (.ins C ns l)):iq S (.ob b)=some (C,ns,l):=by
 show(match S[b]? with | some (.ins C ns l)=>some (C,ns,l) | _=>none)=_;rw[h]
theorem jL {S:aA}{b:Nat}{l:List T}(h:S[b]?=some (.lst l)):sq S (.ob b)=some l:=by
 unfold sq;show(match S[b]? with | some (.lst l)=>some l | _=>none)=_;rw[h]
theorem fH {S:aA}{b:Nat}{l:List T}(h:S[b]?=some (.lst l)):lq S (.ob b)=some l:=by
 show(match S[b]? with | some (.lst l)=>some l | _=>none)=_;rw[h]
theorem rE {S:aA}{i:Nat}{C:Addr}{ns ns':jcR}{l l':List D}(h1:S[i]?=some (.ins C ns l)){d:D}{m:List T}(h:xq S d=some m):xq (S.set i (.ins C ns' l')) d=some m:=by
 rcases xN h with rfl | h
 .rfl
 .have key:lq (S.set i (.ins C ns' l')) d=some m:=by
   unfold lq at h ⊢;split at h
   .exact h
   .rename_i n hq;have hn:n≠i:=λe=>by subst e;rw[h1] at h;cases h
    show(match(S.set i (O.ins C ns' l'))[n]? with | some (.lst l)=>some l | _=>none)=some m;rw[jbG (jaO hn)];exact h
   .cases h
  unfold xq;split
  .unfold lq at key;cases key
  .exact key
theorem Bh {l:jcR}:∀{m:jcR},l.Nodup->(∀x∈l,x∈m)->l.length<=m.length:=by
 induction l with
 |nil=>intro m _ _;exact ja3 _
 |cons a r ih=>
  intro m hn hm;obtain⟨h1,h2⟩:=jbq.mp hn;have ha:=hm a jar;have:=ih (m:=m.erase a) h2 λx hx=>(List.mem_erase_of_ne λ(e:x=a)=>h1 (e ▸ hx)).mpr (hm x (jav _ hx));rw[List.length_erase_of_mem ha] at this;have:=List.length_pos_of_mem ha;rw[jaj];omega
theorem CH {n:Nat}{h:eK}{N:jcR}(ok:LV n h N):(others h).length<=8:=by
 have hn:(others h).Nodup:=by
  unfold others;exact(jK _).imp λ{a b} hab=>NZ hab
 refine jaR (Bh hn λx hx=>?_) ok.nl;have:=dG.mp hx;rw[jbK] at this;rcases jau.mp this.1 with hu | hu
 .exact ok.an x hu
 .obtain⟨l,hl,hul⟩:=ja5.mp hu;obtain⟨s,hs,rfl⟩:=jas.mp hl;exact ok.us s hs x hul
theorem qK (kn:Str):∀(p:List eX)(l:List (Int×aI)),(br kn p l).1.length=l.length
 |p,[]=>rfl
 |p,q::r=>by unfold br;rw[jaj,qK kn _ r];rfl
theorem u5 (kn:Str):∀(p:List eX)(l:List (Int×aI)),(br kn p l).2.length=p.length+l.length
 |p,[]=>rfl
 |p,q::r=>by unfold br;rw[u5 kn _ r,jaf,jaj,jaj];simp;omega
theorem rV (kn:Str):∀(p:List eX)(l:List (Int×aI)) (q:Int×aI),(br kn p (l++[q])).1=(br kn p l).1++[v5 kn q.1 (br kn p l).2 q.2]
 |p,[],q=>rfl
 |p,a::r,q=>by rw[jbA];unfold br;rw[rV kn _ r q];rfl
theorem rT (kn:Str):∀(p:List eX)(l:List (Int×aI)) (q:Int×aI),(br kn p (l++[q])).2=(br kn p l).2++[eX.hd q.2]
 |p,[],q=>rfl
 |p,a::r,q=>by rw[jbA];unfold br;rw[rT kn _ r q]
theorem WY {a b:Int}(h:a=b):xor false (decide (V.int a=V.int b))=true:=by rw[rP,jaF h];rfl
theorem Oh {a b:Int}(h:a≠b):xor false (decide (V.int a=V.int b))=false:=by rw[rP,jat h];rfl
theorem seq {a b:Str}(h:a=b):xor false (decide (V.str a=V.str b))=true:=by rw[BS,jaF h];rfl
theorem dS {a b:Str}(h:a≠b):xor false (decide (V.str a=V.str b))=false:=by rw[BS,jat h];rfl
theorem tF {a b:Str}(h:autoParam (a≠b) ka):D.bl (xor false (decide (V.str a=V.str b)))=D.bl false:=jah D.bl (dS h)
theorem tT {a b:Str}(h:autoParam (a=b) zi):D.bl (xor false (decide (V.str a=V.str b)))=D.bl true:=jah D.bl (seq h)
theorem iF {a b:Int}(h:a≠b:=by omega):D.bl (xor false (decide (V.int a=V.int b)))=D.bl false:=jah D.bl (Oh h)
theorem iT {a b:Int}(h:a=b:=by omega):D.bl (xor false (decide (V.int a=V.int b)))=D.bl true:=jah D.bl (WY h)
theorem a2F {a b:Int}(h:a=b):xor true (decide (V.int a=V.int b))=false:=by rw[rP,jaF h];rfl
theorem a2C {a b:Int}(h:a≠b):xor true (decide (V.int a=V.int b))=true:=by rw[rP,jat h];rfl
def KP:rZ:=λ_ _ _=>False
theorem xE (A:Ad)(a b:Sm)(s:Str):dU A (.cmp a s b)=.ins A.cF ["one","sign","other"] [cY A a,.str s,cY A b]:=by rw[dU]
def Pd (L:Nat)(loc:aA)(pd:D)(m:List T):Prop:=pd=.lst m\/∃q,pd=.ob (L+q)/\loc[q]?=some (.lst m)
theorem bg {S loc:aA}{L q:Nat}(h:S.length=L):(S++loc)[L+q]?=loc[q]?:=by subst h;exact dH
theorem N3 {S loc:aA}{L:Nat}{o:O}(h:S.length=L):(S++(loc++[o]))[L+loc.length]?=some o:=by rw[bg h];simp
theorem RN {S loc:aA}{L:Nat}{o o':O}(h:S.length=L):(S++(loc++[o])).set (L+loc.length) o'=S++(loc++[o']):=by subst h;rw[cB];simp
theorem JP {loc:aA}{o:O}:(loc++[o])[loc.length]?=some o:=by simp
theorem WS {L:Nat}{loc more S0:aA}{pd:D}{m:List T}{k:List D->(aA->Prop)->aA->Prop}(h:Pd L loc pd m)(hS:S0.length=L)
  (hk:∀G:aA->Prop,(∀(S1 JN:aA),S1.length=L->G (S1++(loc++JN)))->k (m.map .t) G (S0++(loc++more))):aG pd (S0++(loc++more)) k:=by
 rcases h with rfl | ⟨q,rfl,hq⟩
 .exact jX (hk _ λ_ _ _=>trivial)
 .have hz:∀S1 JN:aA,S1.length=L->(S1++(loc++JN))[L+q]?=some (.lst m):=λS1 JN h1=>by rw[bg h1];exact lD hq
  exact .inr ⟨_,m,M,hz _ _ hS,hk _ hz⟩
theorem Ii {S:aA}{j:Nat}{l:List T}(c:Cl S):∀o∈S.set j (.lst l),Ds S.length o:=λo ho=>by
 rcases List.mem_or_eq_of_mem_set ho with h | rfl
 .exact c o h
 .trivial
theorem a0z {L:Nat}{loc S0:aA}{pd:D}{m:List T}{k:KD}(h:Pd L loc pd m)(hS:S0.length=L)(c:∀o∈S0,Ds L o)(q:k (.lst m) S0):closes L pd (S0++loc) k:=by
 rcases h with rfl | ⟨i,rfl,hq⟩
 .exact .inl ⟨S0,loc,M,hS,c,trivial,q⟩
 .exact .inr (.inr (.inl ⟨_,m,S0,loc,M,by omega,M,hS,c,by rw[bg hS];exact hq,q⟩))
theorem tQ (ps:jcR)(gs:List Sm)(p:List eX):∀i,(inN ps gs p i).1.length<=p.length+i
 |0=>jal _
 |i+1=>by
  have:=tQ ps gs p i;unfold inN;split
  .split
   .show(inN ps gs p i).1.length<=_;omega
   .simp only[jaf,jaj,jaT];omega
  .omega
theorem yZ (p:List eX)(a:Int)(m:As)(nd:List (Int×aI)):(goN p a m nd).1.length<=1:=by unfold goN;split<;>simp
theorem yY (p:List eX)(a:Int)(m:As)(nd:List (Int×aI)):(goN p a m nd).2.length<=p.length+1:=by unfold goN;split<;>simp
theorem Si {n:Nat}{p:List eX}{a:Int}{ns:jcR}{h:UH}{gs:List Sm}(ok:IS n ns h gs):(J2 p a ns h gs).2.length<=p.length+40:=by
 have h1:=tQ h.params gs p h.params.length;have h2:=yY (inN h.params gs p h.params.length).1 a (inN h.params gs p h.params.length).2 h.needs;have h3:=fG ns;have:=ok.pl;have:=ok.al;have:=ok.nl;unfold J2;simp only[jaf,jab];omega
theorem Ow (p:List eX)(s:aV):(qI p s).1.length<=1:=by
 cases s with
 |cl a ns h gs=>exact yZ ..
 |_=>simp[qI]
theorem FP (p:List eX)(s:aV){n:Nat}(ok:s.Ok n):(qI p s).2.length<=p.length+40:=by
 cases s with
 |cl a ns h gs=>exact Si (ok.cl _ _ _ _ M)
 |lt a x s=>simp[qI]
 |dv a x wd s b=>
  simp only[qI,LB];have:=fX x;have:=fX "^^";split<;>simp only[jaf,jaj,jaT]<;>omega
 |ft a x r z=>have:=fX x;simp only[qI,jaf,jaj,jaT];omega
 |pt a r z s=>simp[qI]
 |mq a r z=>simp[qI]
 |cm a c=>simp[qI]
theorem jH:∀(p:List eX)(l:List aV),(cE p l).1.length<=l.length
 |p,[]=>jal _
 |p,s::r=>by unfold cE;have:=Ow p s;have:=jH (qI p s).2 r;rw[jaf,jaj];omega
theorem jG {n:Nat}:∀(p:List eX)(l:List aV),(∀s∈l,s.Ok n)->(cE p l).2.length<=p.length+40*l.length
 |p,[],_=>jal _
 |p,s::r,ok=>by unfold cE;have:=FP p s (ok s jar);have:=jG (qI p s).2 r λs hs=>ok s (jav _ hs);rw[jaj];show(cE (qI p s).2 r).2.length<=_;omega
theorem rR:∀(p:List eX)(l:List aV)(s:aV),(cE p (l++[s])).1=(cE p l).1++(qI (cE p l).2 s).1
 |p,[],s=>by simp[cE]
 |p,a::r,s=>by rw[jbA];unfold cE;rw[rR _ r s,jaX]
theorem rQ:∀(p:List eX)(l:List aV)(s:aV),(cE p (l++[s])).2=(qI (cE p l).2 s).2
 |p,[],s=>by simp[cE]
 |p,a::r,s=>by rw[jbA];unfold cE;rw[rQ _ r s]
theorem uS {n:Nat}{h:eK}{N:jcR}(ok:LV n h N):(dX h).length<=32:=by
 obtain⟨p1,p2,p3,p4,p5⟩:=ok.pl;have:=fG h.params;have:=CH ok;unfold dX;simp only[jaf,jab];omega
noncomputable def bX (S:aA)(d:Nat)(c m:Int):aA:=S.set d (.lst [.int c,.int m])
def Dq (S:aA)(d:Nat):Prop:=∃c m:Int,S[d]?=some (.lst [.int c,.int m])
section
variable {S loc:aA}{d:Nat}{a b c m:Int}
theorem Dq.lt (h:Dq S d):d<S.length:=by obtain⟨_,_,e⟩:=h;exact(jao.mp e).1
theorem u7 (h:d<S.length):(bX S d c m)[d]?=some (.lst [.int c,.int m]):=jaG h
theorem Dq.bX (h:Dq S d):Dq (bX S d c m) d:=⟨c,m,u7 h.lt⟩
theorem bV:L3.bX (L3.bX S d a b) d c m=L3.bX S d c m:=jaC ..
theorem ay:(bX S d c m).length=S.length:=jaE
theorem bE (h:d<S.length):bX (S++loc) d c m=bX S d c m++loc:=jb7 _ _ h
theorem Dq.up (h:Dq S d):Dq (S++loc) d:=let⟨c,m,e⟩:=h;⟨c,m,lD e⟩
theorem Dq.self (h:Dq S d):∃c m,S=L3.bX S d c m:=let⟨c,m,e⟩:=h;⟨c,m,(set_same e).symm⟩
theorem lT {x:D}{N:jcR}(hd:Dq S d)(h:lq S x=some (N.map T.str)):lq (bX S d c m) x=some (N.map T.str):=by
 cases x with
 |t x=>cases x<;>exact h
 |ob n=>
  obtain⟨c0,m0,e0⟩:=hd;have h:(match S[n]? with | some (.lst l)=>some l | _=>none)=some (N.map T.str):=h;have hn:n≠d:=λe=>by
   subst e;rw[e0] at h;cases N with
   |nil=>cases h
   |cons y r=>have h:=ja2 h;cases h
  show(match(L3.bX S d c m)[n]? with | some (.lst l)=>some l | _=>none)=some (N.map T.str);unfold bX;rw[jbG (jaO hn)];exact h
theorem O5 (hc:Cl S):∀o∈bX S d c m,Ds S.length o:=Ii hc
theorem F0 {x:T}{k:KD}(hc:Cl S)(h:k (.t x) (bX S d c m)):closes S.length (.t x) (bX S d c m++loc) k:=.inl ⟨_,_,M,ay,O5 hc,trivial,h⟩
theorem Dr {n:Nat}{g:zy}{tt:vP}{te:dR}{δ0:Sl}{k:List T->aA->Prop}(hd:Dq S d)(P:T->Prop)(hn:n<=1000)
  (hs:∀(i:Nat) c m (k':Option T->aA->Prop),(∀y c' m',P y->k' (some y) (bX S d c' m'))->elem g tt te δ0 (.int i) (bX S d c m) k')
  (hk:∀ys c m,ys.length=n->(∀y∈ys,P y)->k ys (bX S d c m)):iX (λ_=>True) g tt te δ0 ((List.range n).map λ(i:Nat)=>D.int i) (bX S d a b) [] k:=by
 refine O1 (λi ys S'=>ys.length=i/\(∀y∈ys,P y)/\∃c m,S'=L3.bX S d c m) ⟨M,λ_ h=>absurd h jaI,a,b,M⟩ ?_ ?_
 .rintro i x ys S' k' hx ⟨hl,hp,c,m,rfl⟩ hk';rw[jaA] at hx;have hi:i<n:=by
   rcases Nat.lt_or_ge i n with h | h
   .exact h
   .rw[List.getElem?_eq_none (by rw[jaZ];exact h)] at hx;cases hx
  rw[jb8 hi] at hx;cases hx;refine⟨trivial,vS (by omega),hs i c m k' λy c' m' hy=>hk' _ _ ⟨by simp[a0J,hl],λz hz=>?_,c',m',M⟩⟩;rcases jau.mp (show z∈ys++[y] from hz) with h | h
  .exact hp z h
  .rw[jai.mp h];exact hy
 .rintro ys S' ⟨hl,hp,c,m,rfl⟩;rw[jab,jaZ] at hl;exact⟨trivial,hk ys c m hl hp⟩
end
structure l5 (N:List Str)(s:Sm):Prop where
 few:s.1.length<=2
 mem:∀x∈s.bC,x∈N
 num:-(2 ^ 63)<s.2/\s.2<2 ^ 63
 bw:s.bw
structure jg (N:List Str)(c:aI):Prop where
 dep:c.dep<2
 sz:c.sz<=4
 mem:∀s∈c.sums,l5 N s
theorem jg.few {N:jcR}{c:aI}(h:jg N c):c.few:=⟨by have:=h.sz;omega,λs hs=>by have:=(h.mem s hs).few;show s.1.length<=4;omega⟩
def nmS:aV->Prop
 |.dv _ x wd _ _=>kq x/\(wd="div"\/wd="mod")
 |.ft _ x _ _=>kq x
 |.cl _ ns _ _=>∀x∈ns,kq x
 |_=>True
structure gR (N:List Str)(s:aV):Prop where
 ok:s.Ok 3
 us:∀x∈s.us,x∈N
 nm:nmS s
 cd:∀a c,s=.cm a c->jg N c
structure cX (h:eK)(N:List Str):Prop where
 ok:LV 3 h N
 st:∀s∈h.steps,gR N s
 nd:∀p∈h.needs,jg h.params p.2
 gv:∀p∈h.gives,jg (h.params++h.answers) p.2
 ne:∀x∈h.params,∃c r,x.cps.toList=c::r
 al:h.answers.length<=2
 aw:∀x∈h.answers,kq x
theorem cX.told {h:eK}{N:jcR}(g:cX h N):Yh 3 h:=by
 obtain⟨p1,p2,p3,p4,p5⟩:=g.ok.pl;exact⟨λp hp=>⟨by have:=(g.nd p hp).dep;omega,by have:=(g.nd p hp).sz;omega⟩,λp hp=>⟨by have:=(g.gv p hp).dep;omega,by have:=(g.gv p hp).sz;omega⟩,λs hs=>(g.ok.st s hs).tk,by omega,by omega,by omega⟩
structure Pw (ns N ms us:List Str):Prop where
 n:ns≠[]/\ns.length<=8
 nm:∀x∈ns,kq x/\x∈N
 nN:N.length<=8/\N≠[]
 m:∀r∈ms,r.length<=20/\hsh r∈N
 ml:ms.length<=8
 u:us≠[]/\us.length<=8
 um:∀r∈us,r.length<=20/\hsh r∈N
noncomputable def jW (l:jcR):T:=.lst (l.map T.str)
section
variable (K:Frag)(A:Ad)
inductive Tz  (ds:List D) (S:aA) (k:KD):Prop
 |mk (c j:Int) (h0:ds=[.int c,.int j]) (h1:∀r:Int,0<=r->r<2147483399->k (.int r) S)
inductive MS  (ds:List D) (S:aA) (k:KD):Prop
 |mk (l:List Int) (j:Nat) (h0:ds=[.t (.GY (l.map T.int)),.int j]) (h1:∀r:Int,k (.int r) S)
inductive YS  (ds:List D) (S:aA) (k:KD):Prop
 |mk (d:Nat) (n:Int) (h0:ds=[.ob d,.int n]) (h1:Dq S d) (h2:0<n) (h3:∀(r:Nat) c m,(r:Int)<n->k (.int r) (bX S d c m))
inductive Tw  (ds:List D) (S:aA) (k:KD):Prop
 |mk (d:Nat) (h0:ds=[.ob d,.int 8]) (h1:Dq S d) (h2:∀(ns:List Str) c m,ns.length=8->(∀x∈ns,kq x)->k (.t (jW ns)) (bX S d c m))
inductive BX  (ds:List D) (S:aA) (k:KD):Prop
 |mk (d:Nat) (x:D) (N:List Str) (h0:ds=[.ob d,x]) (h1:Dq S d) (h2:lq S x=some (N.map T.str)) (h3:N.length<=100) (h4:∀s c m,l5 N s->k (.t (cY A s)) (bX S d c m))
inductive BZ (n:Nat) (ds:List D) (S:aA) (k:KD):Prop
 |mk (d:Nat) (x:D) (N:List Str) (h0:n<2) (h1:ds=[.ob d,x,.int n]) (h2:Dq S d) (h3:lq S x=some (N.map T.str)) (h4:N.length<=100) (h5:∀e c m,jg N e->(n=0->e.dep=0/\e.sz=1)->k (.t (dU A e)) (bX S d c m))
noncomputable def xV:Nat->rZ
 |0=>KP
 |n+1=>BZ A n
inductive BY  (ds:List D) (S:aA) (k:KD):Prop
 |mk (d:Nat) (ns N ms us:List Str) (h0:ds=[.ob d,.tup [jW ns,jW N,jW ms,jW us]]) (h1:Dq S d) (h2:Pw ns N ms us) (h3:∀s c m,gR N s->kd s<6->k (.t (jJ A s)) (bX S d c m))
structure SO (hs:List eK):Prop where
 l:hs.length<=3
 g:∀h∈hs,∃N,cX h N
def Of (hs:List eK)(s:aV):Prop:=∀a ns h gs,s=.cl a ns h gs->∃x∈hs,x.hd=h
structure SN (hs:List eK):Prop where
 l:0<hs.length/\hs.length<=3
 g:∀h∈hs,∃N,cX h N
 f:∀h∈hs,hs.find? (λy=>decide (y.name=h.name))=some h
 c:∀h∈hs,∀s∈h.steps,Of hs s
inductive Jj  (ds:List D) (S:aA) (k:KD):Prop
 |mk (d:Nat) (ns N ms us jcN:List Str) (h:eK) (a:Int) (h0:ds=[.ob d,.tup [jW ns,jW N,jW ms,jW us],.t (pB A h),.int a]) (h1:Dq S d) (h2:Pw ns N ms us) (h3:4<=ns.length) (h4:cX h jcN) (h5:h.answers.length<=2) (h6:∀ms gs c m,gR N (.cl a ms h.hd gs)->k (.t (jJ A (.cl a ms h.hd gs))) (bX S d c m))
inductive Jf  (ds:List D) (S:aA) (k:KD):Prop
 |mk (d:Nat) (ns N ms us:List Str) (x:D) (hs:List eK) (h0:ds=[.ob d,.tup [jW ns,jW N,jW ms,jW us],x,.lst (hs.map (pB A))]) (h1:Dq S d) (h2:Pw ns N ms us) (h3:4<=ns.length) (h4:SO hs) (h5:∀s c m,gR N s->Of hs s->k (.t (jJ A s)) (bX S d c m))
inductive El  (ds:List D) (S:aA) (k:KD):Prop
 |mk (d:Nat) (ns N ms us:List Str) (j:Nat) (x:D) (hs:List eK) (h0:ds=[.ob d,.tup [jW ns,jW N,jW ms,jW us],.int j,x,.lst (hs.map (pB A))]) (h1:Dq S d) (h2:Pw ns N ms us) (h3:4<=ns.length) (h4:SO hs) (h5:j<=100) (h6:∀(l:List aV) c m,l.length=j->(∀s∈l,gR N s/\Of hs s)->k (.ob S.length) (bX S d c m++[.lst (l.map (jJ A))]))
inductive Eo  (ds:List D) (S:aA) (k:KD):Prop
 |mk (d:Nat) (x:D) (N:List Str) (j:Nat) (h0:ds=[.ob d,x,.int j]) (h1:Dq S d) (h2:lq S x=some (N.map T.str)) (h3:N.length<=100) (h4:j<=100) (h5:∀(l:List (Int×aI)) c m,l.length=j->(∀p∈l,jg N p.2)->k (.lst (l.map (atT A))) (bX S d c m))
inductive A7  (ds:List D) (S:aA) (k:KD):Prop
 |mk (d:Nat) (ns:List Str) (j:Nat) (nm:Str) (x:D) (hs:List eK) (h0:ds=[.ob d,.str nm,.int j,x,.lst (hs.map (pB A)),.t (jW ns)]) (h1:Dq S d) (h2:j<=3) (h3:ns.length=8) (h4:(∀x∈ns,kq x)) (h5:SO hs) (h6:∀h N c m,cX h N->h.name=nm->(∀s∈h.steps,Of hs s)->k (.t (pB A h)) (bX S d c m))
inductive Jh  (ds:List D) (S:aA) (k:KD):Prop
 |mk (d:Nat) (h0:ds=[.ob d,.int 3,.int 1,.int 3]) (h1:Dq S d) (h2:∀(hs:List eK) c m,SN hs->k (.t (Bf A hs)) (bX S d c m))
end
theorem ex_map {α β:Type}{f:α->β}{P:α->Prop}:∀{ys:List β},(∀y∈ys,∃x,y=f x/\P x)->∃xs:List α,ys=xs.map f/\xs.length=ys.length/\∀x∈xs,P x
 |[],_=>⟨[],M,M,λ_ h=>absurd h jaI⟩
 |y::r,h=>by
  obtain⟨x,e,p⟩:=h y jar;obtain⟨xs,e1,e2,e3⟩:=ex_map (ys:=r) λz hz=>h z (jav _ hz);exact⟨x::xs,by rw[e,e1];rfl,by rw[jaj,jaj,e2],λz hz=>by
   rcases jag.mp hz with rfl | hz
   .exact p
   .exact e3 z hz⟩
section
variable {S:aA}{x:D}{l:List T}{k:KD}
theorem Sq {n:Nat}{neg:Bool}(h:lq S x=some l)(hk:k (.bl (xor neg (decide (l=[])))) S):eq3 n neg x (.lst []) S k:=by
 cases x with
 |ob i=>exact⟨l,[],h,M,.inr ⟨M,hk⟩⟩
 |t x=>
  cases x with
  |lst m=>exact⟨l,[],h,M,.inr ⟨M,hk⟩⟩
  |_=>cases h
theorem Wx (h:lq S x=some l)(hk:k (.int l.length) S):Wy [x] S k:=by
 cases x with
 |ob i=>
  have h:(match S[i]? with | some (.lst l)=>some l | _=>none)=some l:=h;exact oe h hk
 |t x=>
  cases x with
  |lst m=>cases h;exact hk
  |_=>cases h
theorem ZX {i:Int}{y:T}(h:lq S x=some l)(e:mO l i=some y)(hk:k (.t y) S):XX x (.int i) S k:=by
 cases x with
 |ob j=>
  have h:(match S[j]? with | some (.lst l)=>some l | _=>none)=some l:=h;exact oe h (oe e hk)
 |t x=>
  cases x with
  |lst m=>cases h;exact oe e hk
  |_=>cases h
end
theorem pO {N:jcR}{r:Nat}(h:(r:Int)<N.length):∃y,y∈N/\mO (N.map T.str) (r:Int)=some (T.str y):=by
 have h:r<N.length:=by omega
 exact⟨N[r],jce h,iU (by rw[jaA,jaD h];rfl)⟩
theorem four {a b c e:Int}{r:Nat}(h:(r:Int)<4){P:Int->Prop}(ha:P a)(hb:P b)(hc:P c)(he:P e):∃v,mO [T.int a,.int b,.int c,.int e] (r:Int)=some (T.int v)/\P v:=by
 match r,h with
 |0,_=>exact⟨a,M,ha⟩
 |1,_=>exact⟨b,M,hb⟩
 |2,_=>exact⟨c,M,hc⟩
 |3,_=>exact⟨e,M,he⟩
 |n+4,h=>omega
theorem Fj {N:jcR}{l:List (Str×Int)}(h:∀p∈l,p.1∈N):∀x∈(norm l).map (·.1),x∈N:=by
 intro x hx;obtain⟨p,hp,rfl⟩:=jas.mp hx;unfold norm at hp;obtain⟨y,hy,rfl⟩:=jas.mp (jbK.mp hp).1;obtain⟨q,hq,rfl⟩:=jas.mp (dG.mp hy);exact h q hq
theorem nX (A:Ad)(q:Bool)(cs:List aI):dU A (.con q cs)=.ins (if q=true then A.fB else A.jh) ["conditions"] [.tup (cs.map (dU A))]:=by rw[dU,iY]
theorem Du (A:Ad)(c:aI):dU A (.neg c)=.ins A.dI ["condition"] [dU A c]:=by rw[dU]
theorem qY {S:aA}{d:D}{l:List T}(h:lq S d=some l):xq S d=some l:=by
 cases d with
 |ob i=>exact h
 |t x=>
  cases x with
  |lst m=>exact h
  |_=>cases h
theorem Xu {N:jcR}{a e:aI}(ha:jg N a)(za:a.dep=0/\a.sz=1)(he:jg N e)(z2:e.dep=0)(z3:e.sz=1):jg N (.con true [a,e]):=by
 refine⟨?_,?_,λs hs=>?_⟩
 .simp[aI.dep,nW,za.1,z2]
 .simp[aI.sz,uH,za.2,z3]
 .simp only[aI.sums,cZ,jaJ] at hs;rcases jau.mp hs with h | h
  .exact ha.mem s h
  .exact he.mem s h
theorem Ss {N:jcR}{a e:aI}(ha:jg N a)(za:a.dep=0/\a.sz=1)(he:jg N e)(z2:e.dep=0)(z3:e.sz=1):jg N (.con false [a,e,a]):=by
 refine⟨?_,?_,λs hs=>?_⟩
 .simp[aI.dep,nW,za.1,z2]
 .simp[aI.sz,uH,za.2,z3]
 .simp only[aI.sums,cZ,jaJ] at hs;rcases jau.mp hs with h | h
  .exact ha.mem s h
  .rcases jau.mp h with h | h
   .exact he.mem s h
   .exact ha.mem s h
theorem two {r:Nat}(h:(r:Int)<2):∃wd:Str,mO [T.str "div",.str "mod"] (r:Int)=some (T.str wd)/\(wd="div"\/wd="mod"):=by
 match r,h with
 |0,_=>exact⟨_,M,.inl M⟩
 |1,_=>exact⟨_,M,.inr M⟩
 |n+2,h=>omega
theorem YW {r:Nat}(h:(r:Int)<7):∃v:Int,mO [T.int 2,.int 3,.int (-2),.int 1,.int 7,.int 0,.int (-5)] (r:Int)=some (T.int v)/\(-20<v/\v<20):=by
 match r,h with
 |0,_=>exact⟨_,M,by decide,by decide⟩
 |1,_=>exact⟨_,M,by decide,by decide⟩
 |2,_=>exact⟨_,M,by decide,by decide⟩
 |3,_=>exact⟨_,M,by decide,by decide⟩
 |4,_=>exact⟨_,M,by decide,by decide⟩
 |5,_=>exact⟨_,M,by decide,by decide⟩
 |6,_=>exact⟨_,M,by decide,by decide⟩
 |n+7,h=>omega
theorem Vb {N:jcR}{v:Int}(h:-20<v/\v<20):l5 N (sumOf [] v):=⟨by show 0<=2;decide,λ_ h=>absurd h (by simp[sumOf,norm,Sm.bC,uz]),⟨by show -(2 ^ 63)<v;omega,by show v<2 ^ 63;omega⟩,λ_ h=>by cases h⟩
theorem Wh {ms:jcR}(h:ms=[]):xor true (decide (ms.map T.str=[]))=false:=by subst h;rfl
theorem RH {ms:jcR}(h:ms≠[]):xor true (decide (ms.map T.str=[]))=true:=by
 rw[jat (λe=>h (List.map_eq_nil_iff.mp e))];rfl
section
variable {N:jcR}{a:Int}{x r wd:Str}{s b p z:Sm}{c:aI}
theorem l5.four (h:l5 N s):s.few:=by have:=h.few;show s.1.length<=4;omega
theorem Tp (hs:l5 N s)(hx:x∈N)(hl:x.length<=100):gR N (.lt a x s):=⟨⟨⟨hs.four,hl⟩,λ_ _ e=>(by cases e),λ_ _ _ _ _ e=>(by cases e),λ_ _ _ _ e=>by cases e⟩,λy hy=>(by
 rcases jag.mp hy with rfl | hy
 .exact hx
 .exact hs.mem y hy),trivial,λ_ _ e=>(by cases e)⟩
theorem Tr (hs:l5 N s)(hb:l5 N b)(hl:kq x)(hx:x∈N)(hw:wd="div"\/wd="mod"):gR N (.dv a x wd s b):=⟨⟨⟨hs.four,hb.four⟩,λ_ _ e=>(by cases e),λ_ _ _ _ _ e=>(by cases e;exact hb.num),λ_ _ _ _ e=>by cases e⟩,λy hy=>(by
 rcases jag.mp hy with rfl | hy
 .exact hx
 .rcases jau.mp hy with hy | hy
  .exact hs.mem y hy
  .exact hb.mem y hy),⟨hl,hw⟩,λ_ _ e=>(by cases e)⟩
theorem Tq (hp:l5 N p)(hl:kq x)(hx:x∈N)(hr:r.length<=20/\hsh r∈N):gR N (.ft a x r p):=⟨⟨⟨hp.four,by omega⟩,λ_ _ e=>(by cases e),λ_ _ _ _ _ e=>(by cases e),λ_ _ _ _ e=>by cases e⟩,λy hy=>(by
 rcases jag.mp hy with rfl | hy
 .exact hx
 .rcases jag.mp hy with rfl | hy
  .exact hr.2
  .exact hp.mem y hy),hl,λ_ _ e=>(by cases e)⟩
theorem YO (hp:l5 N p)(hs:l5 N s)(hr:r.length<=20/\hsh r∈N):gR N (.pt a r p s):=⟨⟨⟨hp.four,hs.four,by omega⟩,λ_ _ e=>(by cases e),λ_ _ _ _ _ e=>(by cases e),λ_ _ _ _ e=>by cases e⟩,λy hy=>(by
 rcases jag.mp hy with rfl | hy
 .exact hr.2
 .rcases jau.mp hy with hy | hy
  .exact hp.mem y hy
  .exact hs.mem y hy),trivial,λ_ _ e=>(by cases e)⟩
theorem YQ (hz:l5 N z)(hr:r.length<=20/\hsh r∈N):gR N (.mq a r z):=⟨⟨⟨hz.four,by omega⟩,λ_ _ e=>(by cases e),λ_ _ _ _ _ e=>(by cases e),λ_ _ _ _ e=>by cases e⟩,λy hy=>(by
 rcases jag.mp hy with rfl | hy
 .exact hr.2
 .exact hz.mem y hy),trivial,λ_ _ e=>(by cases e)⟩
theorem O6 {c:aI}(hc:jg N c):∀y∈(c.sums.map Sm.bC).flatten,y∈N:=λy hy=>by
 obtain⟨l,hl,hy⟩:=ja5.mp hy;obtain⟨s,hs,rfl⟩:=jas.mp hl;exact(hc.mem s hs).mem y hy
theorem Tt (hc:jg N c):gR N (.cm a c):=⟨⟨hc.few,λ_ _ e=>(by cases e;have:=hc.dep;omega),λ_ _ _ _ _ e=>(by cases e),λ_ _ _ _ e=>by cases e⟩,λy hy=>O6 hc y (dG.mp hy),trivial,λ_ _ e=>by cases e;exact hc⟩
end
theorem cX.call {h:eK}{jcN N ns:jcR}{gs:List Sm}{a:Int}(g:cX h jcN)(hn:ns.length=h.answers.length)(hw:∀x∈ns,kq x/\x∈N)(hl:h.params.length=gs.length)(hg:∀s∈gs,l5 N s):gR N (.cl a ns h.hd gs):=by
 obtain⟨p1,p2,p3,p4,p5⟩:=g.ok.pl;have fw:∀s∈gs,s.few:=λs hs=>by have:=(hg s hs).few;show s.1.length<=4;omega
 refine⟨⟨⟨fw,by omega,by omega⟩,λ_ _ e=>(by cases e),λ_ _ _ _ _ e=>(by cases e),λ_ _ _ _ e=>?_⟩,λy hy=>?_,λx hx=>(hw x hx).1,λ_ _ e=>by cases e⟩
 .cases e;exact⟨⟨hl,by omega⟩,⟨hn,by omega⟩,⟨p4,p5⟩,fw,λy hy=>⟨g.ok.sh y hy,g.ne y hy⟩,λq hq=>⟨(g.nd q hq).few,by have:=(g.nd q hq).dep;omega,(g.nd q hq).sz,λs hs=>((g.nd q hq).mem s hs).bw⟩,λq hq=>⟨(g.gv q hq).few,by have:=(g.gv q hq).dep;omega,(g.gv q hq).sz,λs hs=>((g.gv q hq).mem s hs).bw⟩⟩
 .rcases jau.mp hy with hy | hy
  .exact(hw y hy).2
  .obtain⟨l,hl,hy⟩:=ja5.mp hy;obtain⟨s,hs,rfl⟩:=jas.mp hl;exact(hg s hs).mem y hy
theorem a0A {L j:Nat}{S0 S1:aA}{o:O}{k:KD}(c:∀o∈S0,Ds L o)(hS:S0.length=L)(e:S1[j]?=some o)(co:Ds L o)(h:k (.ob L) (S0++[o])):closes L (.ob (L+j)) (S0++S1) k:=
 .inr (.inl ⟨_,o,S0,S1,M,by omega,M,hS,c,by rw[bg hS];exact e,co,h⟩)
def SM (x:Str):Prop:=x.length<=100/\∃c r,x.cps.toList=c::r
theorem Hg {x:Str}(h:kq x):SM x:=let⟨⟨c,r,e,_⟩,l⟩:=h;⟨by omega,c,r,e⟩
theorem Sa (x:Str):(hsh x).cps.toList=35::x.cps.toList:=by
 unfold hsh;rw[ua];have:("#":Str).cps.toList=[35]:=by symm
 rw[this];rfl
theorem R9 (x:Str):(hsh x).length=x.length+1:=by
 unfold hsh;rw[lE];have:("#":Str).length=1:=by symm
 omega
theorem VN {x:Str}(h:kq x):SM (hsh x):=⟨by rw[R9];have:=h.2;omega,_,_,Sa x⟩
theorem JZ {a:Int}{nm:Str}{ps Pn N:jcR}{nd gv:List (Int×aI)}{sts:List aV}(hp:ps.length<=8)(ha:Pn.length<=8)(hs:sts.length<=8)(hn:nd.length<=8)(hg:gv.length<=8)(hN:N.length<=8)(han:∀x∈Pn,x∈N)(hst:∀s∈sts,gR N s)(hnd:∀p∈nd,jg ps p.2)(hgv:∀p∈gv,jg (ps++Pn) p.2)(Z9:∀x∈ps,SM x)(ha2:Pn.length<=2)(haw:∀x∈Pn,kq x):cX ⟨a,nm,ps,Pn,nd,gv,sts⟩ N:=
 ⟨⟨λs hs=>(hst s hs).ok,λs hs=>(hst s hs).us,han,hN,⟨hp,ha,hs,hn,hg⟩,λx hx=>(Z9 x hx).1⟩,hst,hnd,hgv,λx hx=>(Z9 x hx).2,ha2,haw⟩
theorem OR {ns:jcR}(h:ns.length=8):∃a0 a1 a2 a3 a4 a5 a6 a7,ns=[a0,a1,a2,a3,a4,a5,a6,a7]:=by
 match ns,h with
 |[a0,a1,a2,a3,a4,a5,a6,a7],_=>exact⟨_,_,_,_,_,_,_,_,M⟩
section
variable {a0 a1 a2 a3 a4 a5 a6 a7:Str}{r:Nat}
theorem Xl (h:(r:Int)<3):∃ps:jcR,rW ([a0,a1,a2,a3,a4,a5,a6,a7].map T.str) none (some (r:Int))=ps.map T.str/\ps.length<=2/\∀x∈ps,x∈[a0,a1]:=by
 match r,h with
 |0,_=>exact⟨[],M,by decide,λx h=>by cases h⟩
 |1,_=>exact⟨[a0],M,by simp,λx h=>by simp at h;simp[h]⟩
 |2,_=>exact⟨[a0,a1],M,by simp,λx h=>h⟩
 |n+3,h=>omega
theorem Xk (h:(r:Int)<3):∃ps:jcR,rW ([a0,a1,a2,a3,a4,a5,a6,a7].map T.str) (some 6) (some (6+(r:Int)))=ps.map T.str/\ps.length<=2/\∀x∈ps,x∈[a6,a7]:=by
 match r,h with
 |0,_=>exact⟨[],M,by decide,λx h=>by cases h⟩
 |1,_=>exact⟨[a6],M,by simp,λx h=>by simp at h;simp[h]⟩
 |2,_=>exact⟨[a6,a7],M,by simp,λx h=>h⟩
 |n+3,h=>omega
theorem Xn (h:(r:Int)<3):∃ps:jcR,rW ([a0,a1,a2,a3,a4,a5,a6,a7].map T.str) (some 3) (some (3+(r:Int)))=ps.map T.str/\ps.length<=2/\∀x∈ps,x∈[a3,a4]:=by
 match r,h with
 |0,_=>exact⟨[],M,by decide,λx h=>by cases h⟩
 |1,_=>exact⟨[a3],M,by simp,λx h=>by simp at h;simp[h]⟩
 |2,_=>exact⟨[a3,a4],M,by simp,λx h=>h⟩
 |n+3,h=>omega
theorem Xm:rW ([a0,a1,a2,a3,a4,a5,a6,a7].map T.str) none (some 6)=[a0,a1,a2,a3,a4,a5].map T.str:=rfl
theorem Ic:rW ([a0,a1,a2,a3,a4,a5,a6,a7].map T.str) (some 6) (some 8)=[a6,a7].map T.str:=rfl
theorem Xo:rW ([a0,a1,a2,a3,a4,a5,a6,a7].map T.str) (some 2) (some 6)=[a2,a3,a4,a5].map T.str:=rfl
end
theorem Dk:∀l:jcR,ze (l.map T.str)=some (l.map V.str)
 |[]=>rfl
 |a::r=>by
  show(match flT (T.str a),ze (r.map T.str) with | some v,some vs=>some (v::vs) | _,_=>none)=_;rw[Dk r];rfl
noncomputable def AY:aV->jcR
 |.lt _ x _=>[x] | .dv _ x _ _ _=>[x] | .ft _ x _ _=>[x] | .mq _ r _=>[hsh r] | .cl _ ns _ _=>ns | _=>[]
noncomputable def ql:aV->jcR
 |.lt _ _ s=>s.bC | .dv _ _ _ s b=>s.bC++b.bC | .ft _ _ r p=>p.bC++[hsh r] | .pt _ r p s=>p.bC++s.bC++[hsh r] | .mq _ _ z=>z.bC | .cm _ c=>(c.sums.map Sm.bC).flatten | .cl _ _ _ gs=>(gs.map Sm.bC).flatten
noncomputable def zQ (l:List aV):jcR:=uz (l.map AY).flatten
noncomputable def uJ (l:List aV):jcR:=zQ l++(l.map ql).flatten
noncomputable def u6 (x wd:Str)(s b:Sm):List eX:=
 if b.1≠[]\/b.2=0 then[.any x] else[.lt "^" s,.any "^^",.hd (quot b.2),.lt x (if wd="div" then on "^^" else(on "^").less ((on "^^").times b.2))]
theorem KA {x:Str}(h:kq x):aT x=[.any x]:=by
 obtain⟨⟨c,r,e,hc⟩,_⟩:=h;unfold aT;rw[jad];rw[gU e,jat (by omega)];decide
theorem XD:aT "^^"=[.any "^^"]:=by
 unfold aT;rw[jad];have e:("^^":Str).cps.toList=[94,94]:=by symm
 rw[gU e];decide
theorem LA {x wd:Str}{s b:Sm}{p:List eX}(h:kq x):LB x wd s b p=p++u6 x wd s b:=by
 unfold LB u6;rw[KA h,XD];split
 .rfl
 .simp
theorem US {N:jcR}{l:List aV}(h:∀s∈l,gR N s):∀x∈(l.map AY).flatten,x∈N:=λx hx=>by
 obtain⟨m,hm,hx⟩:=ja5.mp hx;obtain⟨s,hs,rfl⟩:=jas.mp hm;have us:=(h s hs).us;cases s with
 |cl a ns h gs=>exact us x (jaP _ hx)
 |_=>simp[AY] at hx<;>subst hx<;>exact us _ (by simp[aV.us])
theorem xR (s:aV)(x:Str):x∈s.us↔x∈AY s\/x∈ql s:=by
 cases s<;>simp[aV.us,AY,ql,aI.bC,dG,or_assoc,or_comm,or_left_comm]
theorem xP {N:jcR}:∀{l:List aV},(∀s∈l,gR N s)->(l.map AY).flatten.length<=8*l.length
 |[],_=>jal _
 |s::r,ok=>by
  have:=xP (l:=r) λs hs=>ok s (jav _ hs);have:(AY s).length<=8:=by
   have hf:=(ok s jar).ok.few;cases s with
   |cl a ns h gs=>exact hf.2.2
   |_=>simp[AY]
  rw[jax,jbb,jaf,jaj];omega
theorem gP:∀{l:List Sm}{n:Nat},(∀s∈l,s.1.length<=n)->(l.map Sm.bC).flatten.length<=n*l.length
 |[],_,_=>ja3 _
 |a::r,n,h=>by
  have h1:=gP (l:=r) (n:=n) λs hs=>h s (jav _ hs);have h2:=h a jar;have h3:a.bC.length=a.1.length:=by unfold Sm.bC;rw[jab]
  rw[jax,jbb,jaf,jaj,Nat.mul_succ];omega
theorem oM {N:jcR}{s:aV}(h:gR N s):(ql s).length<=56:=by
 have hf:=h.ok.few;cases s with
 |lt a x s=>have:s.1.length<=4:=hf.1;simp[ql,Sm.bC];omega
 |dv a x wd s b=>have:s.1.length<=4:=hf.1;have:b.1.length<=4:=hf.2;simp[ql,Sm.bC];omega
 |ft a x r p=>have:p.1.length<=4:=hf.1;simp[ql,Sm.bC];omega
 |pt a r p s=>have:p.1.length<=4:=hf.1;have:s.1.length<=4:=hf.2.1;simp[ql,Sm.bC];omega
 |mq a r z=>have:z.1.length<=4:=hf.1;simp[ql,Sm.bC];omega
 |cm a c=>
  have h1:=gP (n:=4) hf.2;have h2:=jj c;have h3:=hf.1;show(c.sums.map Sm.bC).flatten.length<=56;omega
 |cl a ns h gs=>
  have h1:=gP (n:=4) hf.1;have h2:=hf.2;show(gs.map Sm.bC).flatten.length<=56;omega
noncomputable def dN (a b:Sm)(t:Int):Sm:=sumOf (a.1++b.1.map λp=>(p.1,t*p.2)) (a.2+t*b.2)
structure IJ (d:wK):Prop where
 c:d.cond.dep<3/\d.cond.sz<=40
 a:∀r∈d.ahead,∀c,r=.hd c->c.dep<3/\c.sz<=40
 al:d.ahead.length<=900
section
variable (K:Frag)(A:Ad)
inductive Ji  (ds:List D) (S:aA) (k:KD):Prop
 |mk (a b:Sm) (t:Int) (h0:ds=[.t (i8 a),.t (i8 b),.int t]) (h1:a.1.length<=32) (h2:(a.1.map (·.1)).Nodup) (h3:b.1.length<=8) (h4:(-(2 ^ 63)<t/\t<2 ^ 63)) (h5:k (.t (i8 (dN a b t))) S)
inductive MM  (ds:List D) (S:aA) (k:KD):Prop
 |mk (x:Str) (h0:ds=[.str x]) (h1:k (.t (i8 (on x))) S)
inductive MP  (ds:List D) (S:aA) (k:KD):Prop
 |mk (a b:Sm) (h0:ds=[.t (i8 a),.t (i8 b)]) (h1:k (.t (jC (zP a b))) S)
inductive TH  (ds:List D) (S:aA) (k:KD):Prop
 |mk (l:List aV) (N:List Str) (h0:ds=[.tup (l.map zN)]) (h1:(∀s∈l,gR N s)) (h2:N.length<=8) (h3:l.length<=8) (h4:k (.t (jW (zQ l))) S)
inductive Ek (n:Nat) (ds:List D) (S:aA) (k:KD):Prop
 |mk (c:aI) (h0:ds=[.t (jC c)]) (h1:c.dep<n) (h2:c.few) (h3:k (.t (jW (c.sums.map Sm.bC).flatten)) S)
inductive MJ  (ds:List D) (S:aA) (k:KD):Prop
 |mk (x:D) (l:List Sm) (h0:ds=[x]) (h1:(x=.lst (l.map i8)\/x=.tup (l.map i8))) (h2:l.length<=8) (h3:(∀s∈l,s.few)) (h4:k (.t (jW (l.map Sm.bC).flatten)) S)
inductive Em  (ds:List D) (S:aA) (k:KD):Prop
 |mk (l:List aV) (N:List Str) (h0:ds=[.tup (l.map zN)]) (h1:(∀s∈l,gR N s)) (h2:N.length<=8) (h3:l.length<=8) (h4:k (.t (jW (uJ l))) S)
inductive ML  (ds:List D) (S:aA) (k:KD):Prop
 |mk (f:Nat) (cy:List wK) (p:List eX) (kn:Str) (a:Int) (c:aI) (h0:ds=[.ob f,.tup (p.map nH),.str kn,.int a,.t (jC c)]) (h1:S[f]?=some (.lst (cy.map Dm))) (h2:cy.length<=900) (h3:p.length<=900) (h4:k (.tup ((p++[eX.hd c]).map nH)) (S.set f (.lst ((cy++[v5 kn a p c]).map Dm))))
inductive Jk  (ds:List D) (S:aA) (k:KD):Prop
 |mk (l:List Str) (h0:ds=[.tup (l.map T.str)]) (h1:l.length<=8) (h2:(∀x∈l,x.length<=100/\∃c r,x.cps.toList=c::r)) (h3:k (.tup (((l.map aT).flatten).map nH)) S)
inductive MO  (ds:List D) (S:aA) (k:KD):Prop
 |mk (a:Int) (x wd:Str) (s b:Sm) (h0:ds=[.t (zN (.dv a x wd s b))]) (h1:(wd="div"\/wd="mod")) (h2:(-(2 ^ 63)<b.2/\b.2<2 ^ 63)) (h3:k (.tup ((u6 x wd s b).map nH)) S)
inductive A9  (ds:List D) (S:aA) (k:KD):Prop
 |mk (f:Nat) (hs:List eK) (cy:List wK) (p:List eX) (s:aV) (N:List Str) (h0:ds=[.ob f,.tup (hs.map pC),.t (zN s),.tup (p.map nH)]) (h1:S[f]?=some (.lst (cy.map Dm))) (h2:cy.length<=800) (h3:p.length<=700) (h4:gR N s) (h5:Ca hs s) (h6:k (.lst [.tup ((qI p s).2.map nH)]) (S.set f (.lst ((cy++(qI p s).1).map Dm))))
inductive TJ  (ds:List D) (S:aA) (k:KD):Prop
 |mk (f:Nat) (hs:List eK) (cy:List wK) (p:List eX) (l:List aV) (N:List Str) (h0:ds=[.ob f,.tup (hs.map pC),.tup (l.map zN),.tup (p.map nH)]) (h1:S[f]?=some (.lst (cy.map Dm))) (h2:cy.length+l.length<=700) (h3:p.length+40*l.length<=700) (h4:(∀s∈l,gR N s/\Ca hs s)) (h5:k (.lst [.tup ((cE p l).2.map nH)]) (S.set f (.lst ((cy++(cE p l).1).map Dm))))
inductive MN  (ds:List D) (S:aA) (k:KD):Prop
 |mk (hs:List eK) (h:eK) (N:List Str) (h0:ds=[.tup (hs.map pC),.t (pC h)]) (h1:cX h N) (h2:(∀s∈h.steps,Ca hs s)) (h3:k (.lst ((iR h).map Dm)) S)
def Dc (S:aA)(n:Nat)(f:Sm->T)(m:As):Prop:=S[n]?=some (.ly (m.map (kv f)))
def Fw (m:As):Prop:=∀p∈m,p.2.1.length<=4
inductive Jg  (ds:List D) (S:aA) (k:KD):Prop
 |mk (n:Nat) (m:As) (s:Sm) (h0:ds=[.t (i8 s),.ob n]) (h1:Dc S n i8 m) (h2:Fw m) (h3:s.few) (h4:s.bw) (h5:k (.t (i8 (s.put m))) S)
inductive xU (j:Nat) (ds:List D) (S:aA) (k:KD):Prop
 |mk (n:Nat) (m:As) (c:aI) (h0:ds=[.t (jC c),.ob n]) (h1:Dc S n i8 m) (h2:Fw m) (h3:c.few) (h4:c.bw) (h5:c.dep<j) (h6:k (.t (jC (c.put m))) S)
inductive Ep  (ds:List D) (S:aA) (k:KD):Prop
 |mk (x:Str) (h:eK) (hs:List eK) (h0:ds=[.tup (hs.map pC),.str x]) (h1:hs.length<=100) (h2:hs.find? (λy=>decide (y.name=x))=some h) (h3:k (.t (pC h)) S)
inductive A8  (ds:List D) (S:aA) (k:KD):Prop
 |mk (f:Nat) (hs:List eK) (cy:List wK) (p:List eX) (a:Int) (ns:List Str) (h:UH) (gs:List Sm) (N:List Str) (h0:ds=[.ob f,.tup (hs.map pC),.t (zN (.cl a ns h gs)),.tup (p.map nH)]) (h1:S[f]?=some (.lst (cy.map Dm))) (h2:cy.length<=800) (h3:p.length<=700) (h4:gR N (.cl a ns h gs)) (h5:Has hs h) (h6:k (.tup ((J2 p a ns h gs).2.map nH)) (S.set f (.lst ((cy++(J2 p a ns h gs).1).map Dm))))
inductive MK  (ds:List D) (S:aA) (k:KD):Prop
 |mk (r:eX) (h0:ds=[.t (nG A r)]) (h1:(∀c,r=.hd c->c.dep<3/\c.sz<=40)) (h2:k (.t (nH r)) S)
inductive En  (ds:List D) (S:aA) (k:KD):Prop
 |mk (f:Nat) (cy:List wK) (h0:ds=[.ob f]) (h1:S[f]?=some (.lst (cy.map (An A)))) (h2:cy.length<=900) (h3:(∀d∈cy,IJ d)) (h4:k (.lst (cy.map Dm)) S)
inductive Er  (ds:List D) (S:aA) (k:KD):Prop
 |mk (h:eK) (hs:List eK) (N:List Str) (h0:ds=[.t (Bf A hs),.str h.name]) (h1:hs.find? (λy=>decide (y.name=h.name))=some h) (h2:(∀s∈h.steps,Ca hs s)) (h3:cX h N) (h4:k (.lst ((iR h).map Dm)) S)
inductive MI  (ds:List D) (S:aA) (k:KD):Prop
 |mk (l:List Int) (h0:ds=[.t (.GY (l.map T.int))]) (h1:S=[]) (h2:∀S',k (.bl true) S')
end
theorem qL (a b:Sm)(s:Str):jC (.cmp a s b)=.tup [.str "compare",i8 a,.str s,i8 b]:=by rw[jC]
theorem xF (c:aI):jC (.neg c)=.tup [.str "not",jC c]:=by rw[jC]
theorem iS (q:Bool)(cs:List aI):jC (.con q cs)=.tup (.str (if q=true then "and" else "or")::cs.map jC):=by rw[jC,tX]
noncomputable def lU (m:As):List (Str×Int)->Sm->Sm
 |[],f=>f
 |p::r,f=>lU m r (dN f (match ud m p.1 with | some s=>s | none=>([(p.1,1)],0)) p.2)
theorem KJ (l:List (Str×Int))(k:Int)(x:Str):wt (l.map λp=>(p.1,k*p.2)) x=wt l x*k:=by
 rw[<- D8];congr 2;funext p;rw[Int.mul_comm]
theorem xx (m:As):∀(l L:List (Str×Int)) (i:Int),lU m l (norm L,i)=(norm (L++prs m l),i+nms m l)
 |[],L,i=>by rw[lU,prs,nms,jaJ,Int.add_zero]
 |p::r,L,i=>by
  rw[lU,prs,nms];cases e:ud m p.1 with
  |none=>
   have e1:dN (norm L,i) ([(p.1,1)],0) p.2=(norm (L++[p]),i):=by
    unfold dN sumOf;have h1:norm (norm L++[(p.1,p.2*1)])=norm (L++[p]):=Fp λx=>by
     rw[xO,xO,BO,Int.mul_one]
    show(norm (norm L++[(p.1,p.2*1)]),i+p.2*0)=_;rw[h1,Int.mul_zero,Int.add_zero]
   show lU m r (dN (norm L,i) ([(p.1,1)],0) p.2)=(norm (L++([p]++prs m r)),i+(0+nms m r));rw[e1,xx m r,jaX,Int.zero_add]
  |some s=>
   have e1:dN (norm L,i) s p.2=(norm (L++(s.times p.2).1),i+(s.times p.2).2):=by
    unfold dN;show(norm (norm L++s.1.map λq=>(q.1,p.2*q.2)),i+p.2*s.2)=(norm (L++norm (s.1.map λq=>(q.1,q.2*p.2))),i+s.2*p.2);have h1:norm (norm L++s.1.map λq=>(q.1,p.2*q.2))=norm (L++norm (s.1.map λq=>(q.1,q.2*p.2))):=Fp λx=>by
     rw[xO,xO,BO,BO,D8,KJ]
    rw[h1,Int.mul_comm]
   show lU m r (dN (norm L,i) s p.2)=(norm (L++((s.times p.2).1++prs m r)),i+((s.times p.2).2+nms m r));rw[e1,xx m r,jaX,Int.add_assoc]
theorem N1 (m:As)(s:Sm):lU m s.1 ([],s.2)=s.put m:=xx m s.1 [] s.2
theorem Bj (m:As)(p:Str×Int):∀(l:List (Str×Int)) (f:Sm),lU m (l++[p]) f=dN (lU m l f) (match ud m p.1 with | some s=>s | none=>([(p.1,1)],0)) p.2
 |[],f=>rfl
 |q::r,f=>by rw[jbA,lU,lU,Bj m p r]
def a2b (K:Frag):R2:=λx y H Q=>∃p q xs s0,x=.ref p/\y=.ref q/\ko K H p [.str s0]/\mJ K H q xs/\(∀v∈xs,∃a zs z,v=.ref a/\ko K H a (.str z::zs)/\z≠s0)/\Q (.bl false) H
section
variable {X:Cx}
theorem Ea {P:V->Prop}:∀{xs:List V}{us:jcS},Vals xs us->(∀v∈xs,P v)->∀u∈us,∃v,P v/\RelV v u
 |_,_,.nil,_=>λu hu=>by cases hu
 |y::xs,u::us,.cons r t,f=>λu' hu=>by
  rcases jag.mp hu with rfl | hu
  .exact⟨y,f y jar,r⟩
  .exact Ea t (λv hv=>f v (jav _ hv)) u' hu
theorem V7 (hu:X.A.units+1<cLine):n5 X (compareOp .In) (a2b X.K):=by
 intro vy s U H x y v u Q I rx ry h;obtain⟨p,q,xs,s0,rfl,rfl,hp,hq,hm,k⟩:=h;cases rx;cases ry;obtain⟨AC,r,pl,hz⟩:=I.list hq;obtain⟨us,r1,p1,_⟩:=I.tuple hp;have key:∀w∈AC.toArray,SeqAt.EqAt X.A.in1 s w (.ref p) ((λ_=>false) w):=by
  intro w hw;obtain⟨v,⟨a,zs,z,rfl,ha,hz⟩,rv⟩:=Ea r hm w (by simpa using hw);cases rv;obtain⟨vs,r2,p2,_⟩:=I.tuple ha;cases r1 with
  |cons ra rt=>
   cases rt;cases r2 with
   |cons rb rt2=>
    rename_i u1 u2 us2;have hab:a≠p:=by
     intro e;subst e;have e1:s.heap.IsTuple a [u1].toArray:=p1;have e2:s.heap.IsTuple a (u2::us2).toArray:=p2;obtain⟨o,g1,_,n,d1⟩:=e1;obtain⟨o',g2,_,n',d2⟩:=e2;rw[g1] at g2;cases g2;rw[d1] at d2;cases d2;obtain⟨t,e4⟩:=ra;obtain⟨t',e5⟩:=rb;rw[e4] at e5;cases e5;exact hz rfl
    refine .of_refs hab ?_;have:=SeqAt.RcAt.tuples (A:=X.A.in1) (e:=λ_=>false) (show s.heap.IsTuple a (u2::us2).toArray from p2) (show s.heap.IsTuple p [u1].toArray from p1) (by show X.A.units+1<cLine;omega) ?_
    .have e:((List.range (min (u2::us2).toArray.size [u1].toArray.size)).all λ_=>false)=false:=by simp
     rw[e] at this;exact this
    .intro j h1 h2;have:j=0:=by simp at h2;exact h2
     subst this;have:=H9 (A:=X.A.in1.in1) (s:=s) rb ra rfl rfl;have e:HZ (V.str z) (V.str s0)=false:=by show(z==s0)=false;simpa using hz
     rw[e] at this;exact this
 refine SeqAt.in_listAt (λ_=>false) pl.isList key ⟨.bl false,H,I,?_,k⟩;have e:AC.toArray.any (λ_=>false)=false:=by simp
 rw[e];rfl
def a2D:Az:=λa b S k=>∃(x:Str)(l:List T),a=.tup [.str x]/\lq S b=some l/\(∀y∈l,∃z r,y=.tup (.str z::r)/\z≠x)/\k (.bl false) S
theorem bK.mem {K:Frag}{G:Hp}{P:T->Prop}:∀{l:List T}{vs:List V},bK K G l vs->(∀y∈l,P y)->∀v∈vs,∃y,P y/\Rp K G y v
 |[],vs,r,_=>λv hv=>by unfold bK at r;subst r;cases hv
 |y::l,vs,r,f=>λv hv=>by
  unfold bK at r;obtain⟨w,ws,rfl,r1,r2⟩:=r;rcases jag.mp hv with rfl | hv
  .exact⟨y,f y jar,r1⟩
  .exact bK.mem r2 (λz hz=>f z (jav _ hz)) v hv
theorem Zz (hu:X.A.units+1<cLine):D6 X (compareOp .In) a2D:=by
 refine i9 (V7 hu) ?_;rintro x y H Q ⟨Y,S,a,b,k,R,ra,rb,⟨z,l,ha,hb,hm,q⟩,hk⟩;subst ha;obtain⟨p,vs,e1,e2,e3⟩:=dZ ra;obtain⟨p2,vs2,f1,f2,f3⟩:=dm R rb hb;have e3:vs=[.str z]:=bK.strs (ns:=[z]) e3;rw[e3] at e2;refine⟨p,p2,vs2,z,e1,f1,.of e2,.of f2,λv hv=>?_,fin R hk bS q⟩;obtain⟨y,⟨z',r,rfl,hne⟩,ry⟩:=f3.mem hm v hv;have ry:ki X.K Y (res Y H) (.tup (.str z'::r)) v:=ry;obtain⟨p3,vs3,g1,g2,g3⟩:=dZ ry;unfold bK at g3;obtain⟨w,ws,rfl,h1,h2⟩:=g3;unfold Rp at h1;subst h1;exact⟨p3,ws,z',g1,.of g2,hne⟩
end
theorem lV {w:Str}{xs:jcR}{b:Bool}(h:decide (w∈xs)=b):xor false (R8 (V.str w) (xs.map V.str))=b:=by rw[Dh,h];cases b<;>rfl
theorem YV {l:List T}(h:l≠[]):HT.eZ l.length 0 (some 1)=1:=by
 have:=HT.Ju l.length 0 1;have e:HT.eZ l.length 0 (some 1)=min 1 l.length:=this;rw[e];have:=jbO.mpr h;omega
theorem Dp {l:List T}(h:l≠[]):¬(HT.eZ l.length 0 (some 1)=0/\HT.eZ l.length l.length none=l.length):=by rw[YV h];rintro⟨h,_⟩;cases h
theorem tV {x:T}{l:List T}:rW (x::l) (some 1) none=l:=by
 unfold rW;rw[YV (by simp),HT.EL];simp
theorem Uz {α:Type}{x:α}{l:List α}:mO (x::l) 0=some x:=iU (j:=0) rfl
theorem BP {N:jcR}:∀{l:List aV},(∀s∈l,gR N s)->(l.map ql).flatten.length<=56*l.length
 |[],_=>ja3 _
 |s::r,h=>by
  have h1:=BP (l:=r) λs hs=>h s (jav _ hs);have h2:=oM (h s jar);rw[jax,jbb,jaf,jaj,Nat.mul_succ];omega
theorem mF {c:Nat}:(⟨#[c]⟩:Str)="#"↔c=35:=by
 have e:("#":Str)=⟨#[35]⟩:=by symm
 rw[e];constructor
 .intro h;injection h with h;simpa using h
 .rintro rfl;rfl
theorem JM {α:Type}{f:α->T}{l:List α}(h:l=[]):xor true (decide (l.map f=[]))=false:=by subst h;rfl
theorem Ft {α:Type}{f:α->T}{l:List α}(h:l≠[]):xor true (decide (l.map f=[]))=true:=by
 rw[jat (λe=>h (List.map_eq_nil_iff.mp e))];rfl
theorem Fo (x:Str){w:Int}(h:w≠0):norm [(x,w)]=[(x,w)]:=by
 have:wt [(x,w)] x=w:=by simp[wt]
 simp[norm,uz,tP,this,h]
theorem Ec (x:Str){i:Int}(h:i≠0):(on x).times i=([(x,i)],0):=by
 unfold Sm.times on sumOf;simp only[jax,jbC,Int.one_mul,Int.zero_mul];rw[Fo x h]
theorem EU {m:Sm}{i:Int}:m.plus ([],i)=dN m ([],i) 1:=by
 unfold Sm.plus dN;simp only[jbC,Int.one_mul]
theorem RP {i:Int}(h:i≠0):(on "^").less ((on "^^").times i)=dN (on "^") ([("^^",i)],0) (-1):=by
 rw[Ec _ h];unfold Sm.less Sm.plus Sm.times dN sumOf;simp only[jax,jbC];rw[Fo _ (by omega:i*-1≠0)];rw[Int.mul_comm i (-1)];simp
theorem FF {x:Str}:(on x).less ([],1)=dN (on x) ([],-1) 1:=by
 unfold Sm.less Sm.plus Sm.times dN sumOf;rfl
theorem QY (i:Int):(quot i).dep<3/\(quot i).sz<=40:=by
 unfold quot zP;split<;>simp[aI.dep,nW,aI.sz,uH]
theorem qh (r:Str)(z:Sm):(within r z).dep<3/\(within r z).sz<=40:=by
 unfold within J4 zP;simp[aI.dep,nW,aI.sz,uH]
theorem vd (a b:Sm)(s:Str):(aI.cmp a s b).dep<3/\(aI.cmp a s b).sz<=40:=by simp[aI.dep,aI.sz]
def sG (c:aI):Prop:=c.dep<3/\c.sz<=40
def oF (p:List eX):Prop:=∀r∈p,∀c,r=eX.hd c->sG c
theorem cR {p q:List eX}(hp:oF p)(hq:oF q):oF (p++q):=λr hr=>(jau.mp hr).elim (hp r) (hq r)
theorem nI {c:aI}(h:sG c):oF [eX.hd c]:=λr hr c' e=>by rw[jai.mp hr] at e;cases e;exact h
theorem EM {x:Str}{s:Sm}:oF [eX.lt x s]:=λr hr c' e=>by rw[jai.mp hr] at e;cases e
theorem yr (x:Str):oF (aT x):=λr hr c e=>by
 unfold aT at hr;split at hr
 .rcases jag.mp hr with rfl | hr
  .cases e
  .rw[jai.mp hr] at e;cases e;exact vd ..
 .rw[jai.mp hr] at e;cases e
theorem JX {ps:jcR}{gs:List Sm}{p:List eX}(hp:oF p):∀i,oF (inN ps gs p i).1
 |0=>hp
 |i+1=>by
  unfold inN;split
  .split
   .exact JX hp i
   .exact cR (JX hp i) EM
  .exact JX hp i
theorem Jw (ns:jcR):oF (ns.map aT).flatten:=λr hr=>by
 obtain⟨l,hl,hr⟩:=ja5.mp hr;obtain⟨x,_,rfl⟩:=jas.mp hl;exact yr x r hr
theorem GR {n:Nat}:∀{l:List aI},(∀c∈l,c.sz<=n)->uH l<=n*l.length
 |[],_=>ja3 _
 |c::r,h=>by
  have:=GR (l:=r) λc hc=>h c (jav _ hc);have:=h c jar;rw[uH,jaj,Nat.mul_succ];omega
theorem Dl {n:Nat}:∀{l:List aI},(∀c∈l,c.dep<=n)->nW l<=n
 |[],_=>ja3 _
 |c::r,h=>by
  have h1:=Dl (l:=r) λc hc=>h c (jav _ hc);have h2:=h c jar;rw[nW];exact Nat.max_le.mpr ⟨h2,h1⟩
theorem Po {l:List (Int×aI)}(h:∀q∈l,q.2.dep+1<3/\q.2.sz<=4)(hl:l.length<=8):(allOf l).dep<3/\(allOf l).sz<=40:=by
 unfold allOf;split
 .split
  .rename_i q r _;have:=h q jar;omega
  .simp[aI.dep,nW,aI.sz,uH]
 .have h1:=GR (n:=4) (l:=l.map (·.2)) λc hc=>by obtain⟨q,hq,rfl⟩:=jas.mp hc;exact(h q hq).2
  have h2:=Dl (n:=1) (l:=l.map (·.2)) λc hc=>by obtain⟨q,hq,rfl⟩:=jas.mp hc;have:=(h q hq).1;omega
  rw[jab] at h1;rw[aI.dep,aI.sz];omega
theorem Ni {m:As}{c:aI}(h:sG c):sG (c.put m):=by unfold sG;rw[CD,G9];exact h
theorem W9 {a:Int}{ns:jcR}{h:UH}{gs:List Sm}{p:List eX}(ok:IS 3 ns h gs)(hp:oF p)(hl:p.length<=800):(∀d∈(J2 p a ns h gs).1,IJ d)/\oF (J2 p a ns h gs).2:=by
 have h1:=JX (ps:=h.params) (gs:=gs) hp h.params.length;have h2:=tQ h.params gs p h.params.length;have h3:=ok.pl;have ha:sG ((allOf h.needs).put (inN h.params gs p h.params.length).2):=Ni (Po (λq hq=>⟨(ok.nd q hq).2.1,(ok.nd q hq).2.2.1⟩) ok.nl.1);have hg:oF (h.gives.map λq=>eX.hd (q.2.put (wB ns h.answers (inN h.params gs p h.params.length).2 ns.length))):=λr hr c e=>by
  obtain⟨q,hq,rfl⟩:=jas.mp hr;cases e;have:=ok.gv q hq;exact Ni ⟨by omega,by omega⟩
 unfold J2 goN;by_cases hn:h.needs=[]
 .rw[jae hn];exact⟨λd hd=>(jaI hd).elim,cR (cR h1 (Jw ns)) hg⟩
 .rw[jad hn];refine⟨λd hd=>?_,cR (cR (cR h1 (nI ha)) (Jw ns)) hg⟩;rw[jai.mp hd];exact⟨ha,h1,by show(inN h.params gs p h.params.length).1.length<=900;omega⟩
theorem W8 {N:jcR}{s:aV}{p:List eX}(ok:gR N s)(hp:oF p)(hl:p.length<=800):(∀d∈(qI p s).1,IJ d)/\oF (qI p s).2:=by
 have one:∀{k:Str}{a:Int}{c:aI},sG c->∀d∈[v5 k a p c],IJ d:=λhc d hd=>by
  rw[jai.mp hd];exact⟨hc,hp,by show p.length<=900;omega⟩
 cases s with
 |lt a x s=>exact⟨λd hd=>(jaI hd).elim,cR hp EM⟩
 |dv a x wd s b=>
  refine⟨one (vd ..),?_⟩;simp only[qI,LB];split
  .exact cR (cR hp (nI (vd ..))) (yr x)
  .exact cR (cR (cR (cR (cR hp (nI (vd ..))) EM) (yr _)) (nI (QY _))) EM
 |ft a x r z=>exact⟨one (qh ..),cR (cR hp (nI (qh ..))) (yr x)⟩
 |pt a r z s=>exact⟨one (qh ..),cR hp (nI (qh ..))⟩
 |mq a r z=>exact⟨one (vd ..),cR (cR hp (nI (vd ..))) EM⟩
 |cl a ns h gs=>exact W9 (ok.ok.cl _ _ _ _ M) hp hl
 |cm a c=>have:=ok.cd a c rfl;have hc:sG c:=⟨by have:=this.dep;omega,by have:=this.sz;omega⟩;exact⟨one hc,cR hp (nI hc)⟩
theorem J1 {N:jcR}:∀{l:List aV}{p:List eX},(∀s∈l,gR N s)->oF p->p.length+40*l.length<=800->(∀d∈(cE p l).1,IJ d)/\oF (cE p l).2
 |[],p,_,hp,_=>⟨λd hd=>(jaI hd).elim,hp⟩
 |s::r,p,ok,hp,hl=>by
  rw[jaj] at hl;obtain⟨h1,h2⟩:=W8 (ok s jar) hp (by omega);have h3:=FP p s (ok s jar).ok;obtain⟨h4,h5⟩:=J1 (l:=r) (λs hs=>ok s (jav _ hs)) h2 (by omega);unfold cE;exact⟨λd hd=>(jau.mp hd).elim (h1 d) (h4 d),h5⟩
theorem J8 {k:Str}:∀{l:List (Int×aI)} {p:List eX},(∀q∈l,sG q.2)->oF p->p.length+l.length<=900->∀d∈(br k p l).1,IJ d
 |[],p,_,_,_=>λd hd=>(jaI hd).elim
 |q::r,p,ok,hp,hl=>λd hd=>by
  rw[jaj] at hl;unfold br at hd;rcases jag.mp hd with rfl | hd
  .exact⟨ok q jar,hp,by show p.length<=900;omega⟩
  .exact J8 (l:=r) (λq hq=>ok q (jav _ hq)) (cR hp (nI (ok q jar))) (by rw[jaf,jbF];omega) d hd
theorem cX.cy {h:eK}{N:jcR}(g:cX h N):(iR h).length<=100/\∀d∈iR h,IJ d:=by
 obtain⟨p1,p2,p3,p4,p5⟩:=g.ok.pl;have hp0:=uS g.ok;have t:=g.told;have r0:oF (dX h):=by
  unfold dX;refine cR (cR (λr hr=>?_) λr hr c e=>?_) λr hr c e=>?_
  .obtain⟨l,hl,hr⟩:=ja5.mp hr;obtain⟨x,_,rfl⟩:=jas.mp hl;exact yr x r hr
  .obtain⟨x,_,rfl⟩:=jas.mp hr;cases e
  .obtain⟨q,hq,rfl⟩:=jas.mp hr;cases e;exact t.nd q hq
 obtain⟨h1,h2⟩:=J1 g.st r0 (by omega);have h3:=jH (dX h) h.steps;have h4:=jG (dX h) h.steps g.ok.st;unfold iR;refine⟨?_,λd hd=>(jau.mp hd).elim (h1 d) ?_⟩
 .rw[jaf,qK];omega
 .exact J8 t.gv h2 (by omega) d
theorem Xz {A B:T}{b:Bool}(h:b=true):mO [A,B] (if b=true then 1 else 0)=some B:=by subst h;rfl
theorem XA {A B:T}{b:Bool}(h:b=false):mO [A,B] (if b=true then 1 else 0)=some A:=by subst h;rfl
theorem l5.up {jcN N:jcR}{s:Sm}(h:l5 jcN s)(m:∀x∈jcN,x∈N):l5 N s:=⟨h.few,λx hx=>m x (h.mem x hx),h.num,h.bw⟩
theorem jg.up {jcN N:jcR}{c:aI}(h:jg jcN c)(m:∀x∈jcN,x∈N):jg N c:=⟨h.dep,h.sz,λs hs=>(h.mem s hs).up m⟩
theorem Km {N:jcR}{c:aI}(h:jg N c):(c.sums.map Sm.bC).flatten.length<=16:=by
 have h1:=gP (n:=2) (l:=c.sums) λs hs=>(h.mem s hs).few;have h2:=jj c;have h3:=h.sz;omega
theorem Bv {N:jcR}:∀{l:List (Int×aI)},(∀q∈l,jg N q.2)->((l.map λq=>(q.2.sums.map Sm.bC).flatten).flatten).length<=16*l.length
 |[],_=>ja3 _
 |q::r,h=>by
  have h1:=Bv (l:=r) λq hq=>h q (jav _ hq);have h2:=Km (h q jar);rw[jax,jbb,jaf,jaj,Nat.mul_succ];omega
theorem Et {h:eK}{t:Str}:t∈(h.answers++(h.steps.map aV.us).flatten)↔t∈uJ h.steps++h.answers:=by
 have key:t∈(h.steps.map aV.us).flatten↔t∈uJ h.steps:=by
  unfold uJ zQ;rw[jau,dG];constructor
  .intro ht;obtain⟨l,hl,ht⟩:=ja5.mp ht;obtain⟨s,hs,rfl⟩:=jas.mp hl;rcases(xR s t).mp ht with h | h
   .exact .inl (ja5.mpr ⟨_,jas.mpr ⟨s,hs,M⟩,h⟩)
   .exact .inr (ja5.mpr ⟨_,jas.mpr ⟨s,hs,M⟩,h⟩)
  .rintro(ht | ht)
   .obtain⟨l,hl,ht⟩:=ja5.mp ht;obtain⟨s,hs,rfl⟩:=jas.mp hl;exact ja5.mpr ⟨_,jas.mpr ⟨s,hs,M⟩,(xR s t).mpr (.inl ht)⟩
   .obtain⟨l,hl,ht⟩:=ja5.mp ht;obtain⟨s,hs,rfl⟩:=jas.mp hl;exact ja5.mpr ⟨_,jas.mpr ⟨s,hs,M⟩,(xR s t).mpr (.inr ht)⟩
 rw[jau,jau,key];exact or_comm
theorem Kl {h:eK}{N:jcR}(g:cX h N){t:Str}(ht:t∈((h.needs++h.gives).map λq=>(q.2.sums.map Sm.bC).flatten).flatten):t∈h.params++h.answers:=by
 obtain⟨l,hl,ht⟩:=ja5.mp ht;obtain⟨q,hq,rfl⟩:=jas.mp hl;rcases jau.mp hq with hq | hq
 .exact jaP _ (O6 (g.nd q hq) t ht)
 .exact O6 (g.gv q hq) t ht
theorem MV {h:eK}{N:jcR}(g:cX h N):∀t,t∉h.params->(t∈(uJ h.steps++h.answers)++((h.needs++h.gives).map λq=>(q.2.sums.map Sm.bC).flatten).flatten↔t∈h.answers++(h.steps.map aV.us).flatten):=λt hn=>by
 rw[jau,Et];constructor
 .rintro(h | h)
  .exact h
  .rcases jau.mp (Kl g h) with q | q
   .exact absurd q hn
   .exact jaW _ q
 .exact .inl
theorem MW {h:eK}{N:jcR}(g:cX h N):∀t∈(uJ h.steps++h.answers)++((h.needs++h.gives).map λq=>(q.2.sums.map Sm.bC).flatten).flatten,t∈N++(h.params++h.answers):=λt ht=>by
 rcases jau.mp ht with q | q
 .rcases jau.mp (Et.mpr q) with q | q
  .exact jaP _ (g.ok.an t q)
  .obtain⟨l,hl,q⟩:=ja5.mp q;obtain⟨s,hs,rfl⟩:=jas.mp hl;exact jaP _ (g.ok.us s hs t q)
 .exact jaW _ (Kl g q)
theorem Qw {jcN ds:jcR}(h:∀x∈jcN,x∈ds)(l:ds.length<=64):(uz jcN).length<=64:=
 jaR (Bh ((jK jcN).imp λhab=>NZ hab) λx hx=>h x (dG.mp hx)) l
theorem V1 {h:eK}{jcN:jcR}{β:Type}{G:Str->β}(hm:∀t,t∉h.params->(t∈jcN↔t∈h.answers++(h.steps.map aV.us).flatten)):(uz jcN).filterMap (λt=>if h.params.contains t=true then none else some (G t))=(others h).map G:=by
 have e1:∀l:jcR,l.filterMap (λt=>if h.params.contains t=true then none else some (G t))=(l.filter λt=>!h.params.contains t).map G:=by
  intro l
  induction l with
  |nil=>rfl
  |cons a r ih=>
   by_cases q:h.params.contains a=true
   .rw[jcA (by rw[jae q]),jcn (by rw[q];decide),ih]
   .rw[jb4 (b:=G a) (by rw[jad q]),jcm (by simpa using q),ih];rfl
 rw[e1];congr 1;unfold others;refine mC ((jK jcN).filter _) (jK _) λt=>?_;rw[jbK,dG,dG,jbK];constructor
 .rintro⟨h1,h2⟩;exact⟨(hm t (by simpa using h2)).mp h1,h2⟩
 .rintro⟨h1,h2⟩;exact⟨(hm t (by simpa using h2)).mpr h1,h2⟩
theorem Ox {p:List eX}{s:aV}:∀d∈(qI p s).1,d.kind≠"many":=λd hd=>by
 cases s with
 |lt a x s=>exact(jaI hd).elim
 |dv a x wd s b=>rw[jai.mp hd];show("nought":Str)≠"many";symm
 |ft a x r z=>rw[jai.mp hd];show("beyond":Str)≠"many";symm
 |pt a r z s=>rw[jai.mp hd];show("beyond":Str)≠"many";symm
 |mq a r z=>rw[jai.mp hd];show("short":Str)≠"many";symm
 |cm a c=>rw[jai.mp hd];show("claim":Str)≠"many";symm
 |cl a ns h gs=>
  have hd:d∈(J2 p a ns h gs).1:=hd;unfold J2 goN at hd;split at hd
  .exact(jaI hd).elim
  .rw[jai.mp hd];show("needs":Str)≠"many";symm
theorem Bq:∀{l:List aV}{p:List eX},∀d∈(cE p l).1,d.kind≠"many"
 |[],p=>λd hd=>(jaI hd).elim
 |s::r,p=>λd hd=>by
  unfold cE at hd;exact(jau.mp hd).elim (Ox d) (Bq d)
theorem Bu:∀{l:List (Int×aI)} {p:List eX},∀d∈(br "gives" p l).1,d.kind≠"many"
 |[],p=>λd hd=>(jaI hd).elim
 |q::r,p=>λd hd=>by
  unfold br at hd;rcases jag.mp hd with rfl | hd
  .show("gives":Str)≠"many";symm
  .exact Bu d hd
theorem OY (h:eK):∀d∈iR h,d.kind≠"many":=λd hd=>(jau.mp hd).elim (Bq d) (Bu d)
theorem xB {n:Nat}:∀{l:List T},(∀x∈l,Fl n x)->Mb n l
 |[],_=>by simp[Mb]
 |x::r,h=>by
  unfold Mb;exact⟨h x jar,xB λy hy=>h y (jav _ hy)⟩
theorem a0o {n:Nat}{x:V}(h:gQ x=true):Fl n (.v x):=by cases n<;>(unfold Fl;exact h)
theorem dw {n:Nat}{l:List T}(h:∀x∈l,Fl n x):Fl (n+1) (.tup l):=by unfold Fl;exact xB h
theorem cC {n:Nat}(x:Str):Fl n (.str x):=a0o rfl
theorem iQ {n:Nat}(x:Int):Fl n (.int x):=a0o rfl
theorem a0p {n:Nat}(p:Str×Int):Fl (n+1) (pT p):=dw λx hx=>by
 rcases jag.mp hx with rfl | hx
 .exact cC _
 .rw[jai.mp hx];exact iQ _
theorem zc {n:Nat}(s:Sm):Fl (n+3) (i8 s):=dw λx hx=>by
 rcases jag.mp hx with rfl | hx
 .exact dw λy hy=>by obtain⟨p,_,rfl⟩:=jas.mp hy;exact a0p p
 .rw[jai.mp hx];exact iQ _
mutual
theorem uY:∀(c:aI){n:Nat},c.dep+4<=n->Fl n (jC c)
 |.cmp a s b,n,h=>by
  obtain⟨m,rfl⟩:∃m,n=m+4:=⟨n - 4,by omega⟩
  rw[qL];refine dw λx hx=>?_;rcases jag.mp hx with rfl | hx
  .exact cC _
  rcases jag.mp hx with rfl | hx
  .exact zc _
  rcases jag.mp hx with rfl | hx
  .exact cC _
  .rw[jai.mp hx];exact zc _
 |.neg c,n,h=>by
  unfold aI.dep at h;obtain⟨m,rfl⟩:∃m,n=m+1:=⟨n - 1,by omega⟩
  rw[xF];refine dw λx hx=>?_;rcases jag.mp hx with rfl | hx
  .exact cC _
  .rw[jai.mp hx];exact uY c (by omega)
 |.con q cs,n,h=>by
  unfold aI.dep at h;obtain⟨m,rfl⟩:∃m,n=m+1:=⟨n - 1,by omega⟩
  rw[jC];refine dw λx hx=>?_;rcases jag.mp hx with rfl | hx
  .exact cC _
  .exact J7 cs (by omega) x hx
theorem J7:∀(l:List aI){n:Nat},nW l+4<=n->∀x∈Ij l,Fl n x
 |[],n,h=>λx hx=>by rw[Ij] at hx;exact(jaI hx).elim
 |c::r,n,h=>λx hx=>by
  unfold nW at h;rw[Ij] at hx;rcases jag.mp hx with rfl | hx
  .exact uY c (by have:=Nat.le_max_left c.dep (nW r);omega)
  .exact J7 r (by have:=Nat.le_max_right c.dep (nW r);omega) x hx
end
theorem Xf {n:Nat}{r:eX}(h:∀c,r=.hd c->sG c):Fl (n+7) (nH r):=by
 cases r with
 |any x=>
  exact dw λy hy=>by
   rcases jag.mp hy with rfl | hy
   .exact cC _
   .rw[jai.mp hy];exact cC _
 |lt x s=>
  exact dw λy hy=>by
   rcases jag.mp hy with rfl | hy
   .exact cC _
   rcases jag.mp hy with rfl | hy
   .exact cC _
   .rw[jai.mp hy];exact zc (n:=n+3) _
 |hd c=>
  exact dw λy hy=>by
   rcases jag.mp hy with rfl | hy
   .exact cC _
   .rw[jai.mp hy];exact uY c (by have:=(h c M).1;omega)
theorem OZ {h:eK}{N:jcR}(g:cX h N):Mb 40 ((iR h).map Dm):=xB λx hx=>by
 obtain⟨d,hd,rfl⟩:=jas.mp hx;have ok:=g.cy.2 d hd;refine dw (n:=39) λy hy=>?_;rcases jag.mp hy with rfl | hy
 .exact cC _
 rcases jag.mp hy with rfl | hy
 .exact iQ _
 rcases jag.mp hy with rfl | hy
 .exact dw (n:=38) λz hz=>by
   obtain⟨r,hr,rfl⟩:=jas.mp hz;exact Xf (n:=31) (ok.a r hr)
 .rw[jai.mp hy];exact uY _ (by have:=ok.c.1;omega)
theorem aP {P:Program}{w:World}{K:Frag}{mg:Str->jcW}{base:Heap}{x qual:Str}{st:Stmt}{f:Addr}{fd:FuncData}{N ps:jcR}{k:Nat}{sp:rZ}(F:bG K x qual st f fd)(S:aj N ps (aa st))
  (hb:∀(AT:Value)(A:Around)(outer:List Env)(s:Shared)(H:Hp)(E:XK),dW k (A.deeper (PyProof.Rows.envOfC qual (aa st) s.heap.objs.size f AT))->
   DfR (FU bz P w K mg base N qual (aa st) f AT A outer s H E).XS (ai st) N sp)
  (len:∀ds S k,sp ds S k->ds.length=ps.length:=by intro ds S k h;first | (cases h;subst_vars;rfl) | repeat (first | (obtain⟨rfl,_⟩:=h;rfl) | obtain⟨_,h⟩:=h)):az P w K mg base bz (k+1) f fd ps (aQ K sp):=Am F S len hb
class Pf (t:dR) (f:outParam (Sl->aA->Option D)):Prop where
 ok:∀Z S d (k:KD),f Z S=some d->k d S->t Z S k
class XH (t:oH) (f:outParam (Sl->aA->Option (List D))):Prop where
 ok:∀Z S d (k:List D->aA->Prop),f Z S=some d->k d S->t Z S k
class Pr (r:Az) (g:outParam (D->D->aA->Option D)):Prop where
 ok:∀a b S d (k:KD),g a b S=some d->k d S->r a b S k
noncomputable def a0r (i:Nat):Sl->aA->Option D:=λZ _=>match Z[i]? with | some o=>o | none=>none
noncomputable def fC (d:D):Sl->aA->Option D:=λ_ _=>some d
noncomputable def fOp (g:D->D->aA->Option D)(fa fb:Sl->aA->Option D):Sl->aA->Option D:=λZ S=>match fa Z S with | none=>none | some a=>match fb Z S with | none=>none | some b=>g a b S
noncomputable def a3q:Sl->aA->Option (List D):=λ_ _=>some []
noncomputable def Us (f:Sl->aA->Option D)(r:Sl->aA->Option (List D)):Sl->aA->Option (List D):=λZ S=>match f Z S with | none=>none | some a=>match r Z S with | none=>none | some l=>some (a::l)
noncomputable def tlT (q:Bool)(l:List T):T:=match q with | true=>.tup l | false=>.lst l
noncomputable def fTs (q:Bool)(r:Sl->aA->Option (List D)):Sl->aA->Option D:=λZ S=>match r Z S with | none=>none | some ds=>match ts? ds with | none=>none | some l=>match Nat.ble l.length 1000 with | true=>some (.t (tlT q l)) | false=>none
instance (i:Nat):Pf (vB i) (a0r i):=⟨λZ S d k h hk=>by
 refine oe (a:=some d) ?_ hk;unfold a0r at h;split at h
 .rename_i o e;rw[e,h]
 .cases h⟩
instance (d:D):Pf (Mv d) (fC d):=⟨λZ S x k h hk=>by cases h;exact hk⟩
instance {r:Az} {g:D->D->aA->Option D} {ta tb:dR} {fa fb:Sl->aA->Option D} [p:Pr r g] [a:Pf ta fa] [b:Pf tb fb]:Pf (uF r ta tb) (fOp g fa fb):=⟨λZ S d k h hk=>by
 unfold fOp at h;split at h
 .cases h
 rename_i x e1;split at h
 .cases h
 rename_i y e2;exact a.ok Z S x _ e1 (b.ok Z S y _ e2 (p.ok x y S d k h hk))⟩
instance:XH vD a3q:=⟨λZ S d k h hk=>by cases h;exact hk⟩
instance {ta:dR} {tr:oH} {fa:Sl->aA->Option D} {fr:Sl->aA->Option (List D)} [a:Pf ta fa] [b:XH tr fr]:XH (oO ta tr) (Us fa fr):=⟨λZ S d k h hk=>by
 unfold Us at h;split at h
 .cases h
 rename_i x e1;split at h
 .cases h
 rename_i y e2;cases h;exact a.ok Z S x _ e1 (b.ok Z S y _ e2 hk)⟩
theorem OD {q:Bool}{r:Sl->aA->Option (List D)}{Z:Sl}{S:aA}{d:D}(h:fTs q r Z S=some d):∃ds l,r Z S=some ds/\ts? ds=some l/\Nat.ble l.length 1000=true/\d=.t (tlT q l):=by
 unfold fTs at h;split at h
 .cases h
 rename_i ds e1;split at h
 .cases h
 rename_i l e2;split at h
 .rename_i e3;cases h;exact⟨ds,l,e1,e2,e3,M⟩
 .cases h
instance {tr:oH} {fr:Sl->aA->Option (List D)} [b:XH tr fr]:Pf (IW tr) (fTs true fr):=⟨λZ S d k h hk=>by
 obtain⟨ds,l,e1,e2,e3,rfl⟩:=OD h;exact b.ok Z S ds _ e1 (oe e2 (cn e3 hk))⟩
instance {tr:oH} {fr:Sl->aA->Option (List D)} [b:XH tr fr]:Pf (Tg tr) (fTs false fr):=⟨λZ S d k h hk=>by
 obtain⟨ds,l,e1,e2,e3,rfl⟩:=OD h;exact b.ok Z S ds _ e1 (oe e2 (cn e3 hk))⟩
noncomputable def Lx (f:Int->Int->D):D->D->aA->Option D
 |.t (.v (.int i)),.t (.v (.int j)),_=>some (f i j)
 |_,_,_=>none
instance {f:Int->Int->Bool}:Pr (O3 f) (Lx λi j=>.bl (f i j)):=⟨λa b S d k h hk=>by
 unfold Lx at h;split at h
 .cases h;exact hk
 .cases h⟩
instance:Pr SE (Lx λi j=>.int (i+j)):=⟨λa b S d k h hk=>by
 unfold Lx at h;split at h
 .cases h;exact hk
 .cases h⟩
instance:Pr Qv (Lx λi j=>.int (i - j)):=⟨λa b S d k h hk=>by
 unfold Lx at h;split at h
 .cases h;exact hk
 .cases h⟩
noncomputable def gEq (neg:Bool):D->D->aA->Option D
 |.t (.v x),.t (.v y),_=>match QC x y with | true=>some (.bl (xor neg (decide (x=y)))) | false=>none
 |_,_,_=>none
instance {n:Nat} {neg:Bool}:Pr (eq3 n neg) (gEq neg):=⟨λa b S d k h hk=>by
 unfold gEq at h;split at h
 .split at h
  .rename_i e;cases h;exact cn e hk
  .cases h
 .cases h⟩
noncomputable def gIx:D->D->aA->Option D
 |.t (.tup l),.t (.v (.int i)),_=>(mO l i).map .t
 |.t (.lst l),.t (.v (.int i)),_=>(mO l i).map .t
 |_,_,_=>none
instance:Pr XX gIx:=⟨λa b S d k h hk=>by
 unfold gIx at h;split at h
 .rename_i l i;cases e:mO l i with
  |none=>rw[e] at h;cases h
  |some x=>rw[e] at h;cases h;exact oe e hk
 .rename_i l i;cases e:mO l i with
  |none=>rw[e] at h;cases h
  |some x=>rw[e] at h;cases h;exact oe e hk
 .cases h⟩
section
variable {te tb:dR}{tr:oH}{f:Sl->aA->Option D}{fr:Sl->aA->Option (List D)}{Z:Sl}{S:aA}{E:rq}{d:D}{ds:List D}{k:KD}{i:Nat}{u a b:uf}{sp:rZ}
theorem yq [p:Pf te f] (e:f Z S=some d) (h:u E (Z.set i (some d)) S):vC (A4 te (Sj i)) u E Z S:=p.ok Z S d _ e h
theorem EK {b':Bool} [p:Pf te f] (e:f Z S=some (.bl b')) (hb:b'=true) (h:a {E with nx:=λδ1 S1=>u E δ1 S1 } Z S):vC (Ed (oN te) a b) u E Z S:=by
 subst hb;exact p.ok Z S _ _ e ⟨_,M,h⟩
theorem fD {b':Bool} [p:Pf te f] (e:f Z S=some (.bl b')) (hb:b'=false) (h:u E Z S):vC (Ed (oN te) a GO) u E Z S:=by
 subst hb;exact p.ok Z S _ _ e ⟨_,M,h⟩
theorem s_call [p:XH tr fr] (e:fr Z S=some ds) (h:sp ds S λd S1=>u E (Z.set i (some d)) S1):vC (A4 (uG sp tr) (Sj i)) u E Z S:=p.ok Z S ds _ e h
theorem Pc [p:XH tr fr] (e:fr Z S=some ds) (h:sp ds S k):uG sp tr Z S k:=p.ok Z S ds _ e h
theorem Xv {ta tb:dR}{fa fb:Sl->aA->Option D}{l m:List T} [p:Pf ta fa] [q:Pf tb fb] (e1:fa Z S=some (.tup l)) (e2:fb Z S=some (.tup m)) (hl:l.length+m.length<=1000) (h:k (.tup (l++m)) S):uF SE ta tb Z S k:=p.ok Z S _ _ e1 (q.ok Z S _ _ e2 ⟨ck hl,h⟩)
end
noncomputable def PZ:Nat->List T->List T
 |_,[]=>[]
 |i,x::r=>.tup [.int i,x]::PZ (i+1) r
theorem Ia:∀(l:List T)(i j:Nat),(PZ i l)[j]?=(l[j]?).map λx=>.tup [.int (i+j:Nat),x]
 |[],i,j=>by simp[PZ]
 |x::r,i,0=>by simp[PZ]
 |x::r,i,j+1=>by
  rw[PZ,List.getElem?_cons_succ,List.getElem?_cons_succ,Ia r (i+1) j];congr 1;funext y;congr 4;omega
theorem tS:∀(l:List T)(i:Nat),(PZ i l).length=l.length
 |[],_=>rfl
 |x::r,i=>by rw[PZ,jaj,jaj,tS r]
noncomputable def S6 (l m:List T):List T:=(l.zip m).map λp=>.tup [p.1,p.2]
section
variable {X:Cx}{K:Frag}{Y:jcT}{H:Hp}{a b:Addr}{l m:List T}{vs us:List V}
theorem Jx {Y1:jcT}{S1:aA}{H1:Hp}(R:R3 K Y1 S1 H1){t:Addr}{x y:T}{v w:V}(ht:H1 t=none)(rx:Rp K (res Y1 H1) x v)(ry:Rp K (res Y1 H1) y w):∃Y',Gr Y1 H1 Y' (upd H1 t (.tup [v,w]))/\R3 K Y' S1 (upd H1 t (.tup [v,w]))/\ki K Y' (res Y' (upd H1 t (.tup [v,w]))) (.tup [x,y]) (.ref t):=by
 obtain⟨R',g,e⟩:=R.new (o:=.tup [v,w]) ht;refine⟨Y1,g,R',?_⟩;show Rp _ _ _ _;unfold Rp;exact⟨t,_,M,e,.cons (rx.le g.le) (.cons (ry.le g.le) .nil)⟩
theorem WN (h:res Y H a=some (.tup vs))(r:bK K (res Y H) l vs):UG K (Ien K false a) ((PZ 0 l).map .t) (λ_=>True) Y H where
 go:=λi Y1 S1 H1 g R _ hi=>by
  have e:=(res_some (g.le _ _ h)).2;have hl:i<vs.length:=by rw[<- r.len];rw[jab,tS] at hi;exact hi
  exact⟨vs,vs[i],.of e,jaD hl⟩
 KI:=λi x Y1 S1 H1 H' d g R _ hd y=>by
  obtain⟨t,w,ht,rfl,hy,rfl⟩:=y;have e:=(res_some (g.le _ _ h)).2;rw[jaA,Ia] at hd;cases q:l[i]? with
  |none=>rw[q] at hd;cases hd
  |some z=>
   rw[q] at hd;cases hd;obtain⟨v,e1,e2⟩:=r.get q;have:=hy vs (.of e);rw[e1] at this;cases this;have:=Jx (x:=.int ((0+i:Nat):Int)) (v:=.int (i:Int)) R ht (by unfold Rp;rw[jbi]) (e2.le g.le);exact this
 stop:=λi Y1 S1 H1 g R _ hi _=>by
  have e:=(res_some (g.le _ _ h)).2;exact⟨vs,.of e,by rw[<- r.len];rw[jab,tS] at hi;exact hi⟩
theorem wU (h:l.length=m.length):(S6 l m).length=l.length:=by unfold S6;rw[jab,List.length_zip,h,Nat.min_self]
theorem RX (hlm:l.length=m.length)(h:res Y H a=some (.tup vs))(r:bK K (res Y H) l vs)(h2:res Y H b=some (.tup us))(r2:bK K (res Y H) m us):UG K (Izp K a b) ((S6 l m).map .t) (λ_=>True) Y H where
 go:=λi Y1 S1 H1 g R _ hi=>by
  have e:=(res_some (g.le _ _ h)).2;have e2:=(res_some (g.le _ _ h2)).2;rw[jab,wU hlm] at hi;have hl:i<vs.length:=by rw[<- r.len];exact hi
  have hl2:i<us.length:=by rw[<- r2.len,<- hlm];exact hi
  exact⟨vs,us,vs[i],us[i],.of e,.of e2,jaD hl,jaD hl2⟩
 KI:=λi x Y1 S1 H1 H' d g R _ hd y=>by
  obtain⟨t,w,w2,ht,rfl,hy,hy2,rfl⟩:=y;have e:=(res_some (g.le _ _ h)).2;have f:=(res_some (g.le _ _ h2)).2;unfold S6 at hd;rw[jaA,jaA] at hd;cases q:(l.zip m)[i]? with
  |none=>rw[q] at hd;cases hd
  |some z=>
   rw[q] at hd;cases hd;obtain⟨z1,z2⟩:=z;obtain⟨q1,q2⟩:=List.getElem?_zip_eq_some.mp q;obtain⟨v,e1,e2⟩:=r.get q1;obtain⟨u,f1,f2⟩:=r2.get q2;have:=hy vs (.of e);rw[e1] at this;cases this;have:=hy2 us (.of f);rw[f1] at this;cases this;exact Jx R ht (e2.le g.le) (f2.le g.le)
 stop:=λi Y1 S1 H1 g R _ hi hi2=>by
  have e:=(res_some (g.le _ _ h)).2;rw[jab,wU hlm] at hi hi2;exact⟨vs,.of e,by rw[<- r.len];omega⟩
def a2K (t:oH):Pu:=λZ S k=>t Z S λds S1=>∃l,ds=[.tup l]/\k ((PZ 0 l).map .t) (λ_=>True) S1
def a2G (t:oH):Pu:=λZ S k=>t Z S λds S1=>∃l m,ds=[.tup l,.tup m]/\l.length=m.length/\k ((S6 l m).map .t) (λ_=>True) S1
variable {e e2:Expr}{t:oH}{p pos tpos:Pos}{elts:jcU}{x1:Nat}
theorem Zb (hg:Gl X "enumerate")(hm:X.mg "enumerate"=none)(ha:QA X [e] t)(hs:autoParam (starEach [e] X.env=[(false,eval e X.env)]) zi):QI X (.Tuple elts x1 tpos) (.Call (.Name "enumerate" p) [e] [] pos) (a2K t):=
 JB (Rm hg hm (by rfl) ha hs) (by
  rintro U H Q ⟨Y,S,Z,k,R,D,q,hk⟩;refine⟨Y,S,Z,_,R,D,q,?_⟩;rintro v H1 ⟨Y1,S1,d,g1,R1,r1,l,rfl,q1⟩;obtain⟨w,rfl,rw'⟩:=r1.one;have r1:Rp _ _ _ _:=rw';unfold Rp at r1;obtain⟨a,vs,e1,e2,e3⟩:=r1;exact⟨a,by rw[e1],.inr ⟨⟨vs,.of (res_some e2).2⟩,hk _ _ ⟨Y1,S1,_,_,g1,R1,WN e2 e3,q1⟩⟩⟩)
theorem Vt (hg:Gl X "zip")(hm:X.mg "zip"=none)(ha:QA X [e,e2] t)(hs:autoParam (starEach [e,e2] X.env=(false,eval e X.env)::starEach [e2] X.env) zi)(hs2:autoParam (starEach [e2] X.env=[(false,eval e2 X.env)]) zi):QI X (.Tuple elts x1 tpos) (.Call (.Name "zip" p) [e,e2] [] pos) (a2G t):=
 JB (VR hg hm (by rfl) ha hs hs2) (by
  rintro U H Q ⟨Y,S,Z,k,R,D,q,hk⟩;refine⟨Y,S,Z,_,R,D,q,?_⟩;rintro v H1 ⟨Y1,S1,d,g1,R1,r1,l,m,rfl,hl,q1⟩;obtain⟨w,ws,rfl,ra,rs⟩:=r1.two;have r1:Rp _ _ _ _:=ra;unfold Rp at r1;obtain⟨a,vs,e1,e2,e3⟩:=r1;have r2:Rp _ _ _ _:=rs;unfold Rp at r2;obtain⟨b,us,f1,f2,f3⟩:=r2;exact⟨a,b,by rw[e1,f1],⟨vs,.of (res_some e2).2⟩,⟨us,.of (res_some f2).2⟩,hk _ _ ⟨Y1,S1,_,_,g1,R1,RX hl e2 e3 f2 f3,q1⟩⟩)
end
section
variable (A:Ad)
inductive MD  (ds:List D) (S:aA) (k:KD):Prop
 |mk (n:Nat) (m:As) (s:Sm) (h0:ds=[.t (cY A s),.ob n]) (h1:Dc S n (cY A) m) (h2:Fw m) (h3:m.length<=100) (h4:s.few) (h5:s.bw) (h6:k (.t (cY A (s.put m))) S)
inductive lM (n j:Nat) (ds:List D) (S:aA) (k:KD):Prop
 |mk (nd:Nat) (m:As) (c:aI) (h0:ds=[.t (dU A c),.ob nd]) (h1:xY c=j) (h2:c.dep<n) (h3:c.sz<=40) (h4:(∀s∈c.sums,s.few/\s.bw)) (h5:Dc S nd (cY A) m) (h6:Fw m) (h7:m.length<=100) (h8:k (.t (dU A (c.put m))) S)
inductive Jq  (ds:List D) (S:aA) (k:KD):Prop
 |mk (l:List (Int×aI)) (h0:ds=[.tup (l.map (atT A))]) (h1:l≠[]) (h2:l.length<=8) (h3:k (.t (dU A (allOf l))) S)
end
theorem Dc.up {S loc:aA}{n:Nat}{f:Sm->T}{m:As}(h:Dc S n f m):Dc (S++loc) n f m:=lD h
theorem J6 {l:List Sm}(h:∀s∈l,s.few):(l.map Sm.bC).flatten.length<=4*l.length:=gP h
theorem ZR {S:aA}{d:D}{l:List T}(h:lq S d=some l):sq S d=some l:=vz (qY h)
theorem yV (A:Ad)(S:aA)(c:aI):∃ns l,iq S (.t (dU A c))=some (Ao A (xY c),ns,l)/\ns.contains "put_in"=false:=by
 cases c with
 |cmp a s b=>exact⟨_,_,by unfold dU;rfl,by symm⟩
 |neg c=>exact⟨_,_,by unfold dU;rfl,by symm⟩
 |con k cs=>
  cases k with
  |true=>exact⟨_,_,by unfold dU;rfl,by symm⟩
  |false=>exact⟨_,_,by unfold dU;rfl,by symm⟩
inductive TQ (A:Ad) (ds:List D) (S:aA) (k:KD):Prop
 |mk (i:Nat) (a:Int) (d1 d2:D) (ns:List Str) (f:Str) (gs:List Sm) (h0:ds=[.ob i,.int a,d1,.str f,d2]) (h1:S[i]?=some (.ins A.fL [] [])) (h2:xq S d1=some (ns.map T.str)) (h3:xq S d2=some (gs.map (cY A))) (h4:k .eN (S.set i (.ins A.fL ["at","names","helper","given"] ([.int a,mw ns,.str f,.tup (gs.map (cY A))].map .t))))
theorem oQ {c:aI}{s:Sm}:∀{l:List aI},c∈l->s∈c.sums->s∈cZ l
 |d::r,h,hs=>by
  unfold cZ;rcases jag.mp h with rfl | h
  .exact jaP _ hs
  .exact jaW _ (oQ h hs)
theorem HQ {ps:jcR}{gs:List Sm}{p:List eX}(h:∀s∈gs,s.few):∀i,Fw (inN ps gs p i).2/\(inN ps gs p i).2.length<=i
 |0=>⟨λ_ h=>(jaI h).elim,jal _⟩
 |i+1=>by
  obtain⟨h1,h2⟩:=HQ (ps:=ps) (p:=p) h i;unfold inN;split
  .rename_i x g e1 e2;split
   .have:=t9 (inN ps gs p i).2 x g;exact⟨zu (P:=λs=>s.1.length<=4) h1 (h g (jbH e2)),by show(kj _ _ _).length<=_;omega⟩
   .have:=t9 (inN ps gs p i).2 x (on (hat i));exact⟨zu (P:=λs=>s.1.length<=4) h1 (by show 1<=4;decide),by show(kj _ _ _).length<=_;omega⟩
  .exact⟨h1,by omega⟩
theorem Iu {ns DF:jcR}{m:As}(h:Fw m):∀i,Fw (wB ns DF m i)/\(wB ns DF m i).length<=m.length+i
 |0=>⟨h,jal _⟩
 |i+1=>by
  obtain⟨h1,h2⟩:=Iu (ns:=ns) (DF:=DF) h i;unfold wB;split
  .rename_i x y e1 e2;have:=t9 (wB ns DF m i) y (on x);exact⟨zu (P:=λs=>s.1.length<=4) h1 (by show 1<=4;decide),by omega⟩
  .exact⟨h1,by omega⟩
theorem FL {ps:jcR}{gs:List Sm}{p:List eX}{i:Nat}:∀{x:Str}{g:Sm},ps[i]?=some x->gs[i]?=some g->inN ps gs p (i+1)=if Txt.startswith x "#"=true then((inN ps gs p i).1,kj (inN ps gs p i).2 x g) else((inN ps gs p i).1++[.lt (hat i) g],kj (inN ps gs p i).2 x (on (hat i))):=λ{x g} e1 e2=>by
 rw[inN,e1,e2]
theorem UA {ns DF:jcR}{m:As}{i:Nat}{x y:Str}(e1:ns[i]?=some x)(e2:DF[i]?=some y):wB ns DF m (i+1)=kj (wB ns DF m i) y (on x):=by rw[wB,e1,e2]
theorem YM:∀j:Fin 8,("^":Str).length+(Str.ofString (toString (j.1:Int))).length<=1000:=by symm
theorem U6 {i:Nat}(h:i<8):("^":Str).length+(Str.ofString (toString (i:Int))).length<=1000:=YM ⟨i,h⟩
theorem Wt {i:Nat}(h:i<8):(i:Int).natAbs.log2<1920:=Nat.lt_of_le_of_lt (Nat.log2_le_self _) (by show i<1920;omega)
theorem QB {t u:uf}{E:rq}{Z:Sl}{S:aA}(P:Sl->aA->Prop)(h1:∀N:KS,(∀δ1 S1,P δ1 S1->N δ1 S1)->t {E with nx:=N } Z S)(h2:∀δ1 S1,P δ1 S1->u E δ1 S1):vC t u E Z S:=h1 _ h2
theorem Uv {S S0 loc:aA}{j:Nat}{l:List T}{x:T}{k:KD}(hc:Cl S)(h:k (.t x) (S.set j (.lst l))):closes S.length (.t x) (S.set j (.lst l)++loc) k:=.inl ⟨_,_,M,jaE,Ii hc,trivial,h⟩
theorem UK (ns DF:jcR)(i:Nat){x y:Str}(e1:ns[i]?=some x)(e2:DF[i]?=some y):(S6 (ns.map T.str) (DF.map T.str))[i]?=some (.tup [.str x,.str y]):=by
 unfold S6;rw[jaA];have:((ns.map T.str).zip (DF.map T.str))[i]?=some (T.str x,T.str y):=List.getElem?_zip_eq_some.mpr ⟨by rw[jaA,e1];rfl,by rw[jaA,e2];rfl⟩;rw[this];rfl
theorem Iv {l:List (Int×aI)}{P:Sm->Prop}(h:∀q∈l,∀s∈q.2.sums,P s):∀s∈(allOf l).sums,P s:=by
 unfold allOf;split
 .split
  .rename_i q r _;exact h q jar
  .intro s hs;simp[aI.sums,cZ] at hs
 .intro s hs;rw[aI.sums] at hs;have key:∀l:List (Int×aI),(∀q∈l,∀s∈q.2.sums,P s)->∀s∈cZ (l.map (·.2)),P s:=by
   intro l
   induction l with
   |nil=>intro _ s hs;simp[cZ] at hs
   |cons q r ih=>
    intro h s hs;rw[jax,cZ] at hs;rcases jau.mp hs with hs | hs
    .exact h q jar s hs
    .exact ih (λq hq=>h q (jav _ hq)) s hs
  exact key l h s hs
theorem LR {n:Nat}{l:List (Int×aI)}(h:∀q∈l,q.2.dep+1<n/\q.2.sz<=4)(hl:l.length<=8)(h0:l≠[]):(allOf l).dep<n/\(allOf l).sz<=40:=by
 unfold allOf;have h3:1<n:=by
  cases l with
  |nil=>exact absurd rfl h0
  |cons q r=>have:=(h q jar).1;omega
 split
 .split
  .rename_i q r _;have:=h q jar;omega
  .exact absurd rfl h0
 .have h1:=GR (n:=4) (l:=l.map (·.2)) λc hc=>by obtain⟨q,hq,rfl⟩:=jas.mp hc;exact(h q hq).2
  have h2:=Dl (n:=n - 2) (l:=l.map (·.2)) λc hc=>by obtain⟨q,hq,rfl⟩:=jas.mp hc;have:=(h q hq).1;omega
  rw[jab] at h1;rw[aI.dep,aI.sz];omega
theorem Yt {l:List (Str×Int)}(h:∀p∈l,-4<p.2/\p.2<4)(x:Str):-(4*(l.length:Int))<=wt l x/\wt l x<=4*(l.length:Int):=by
 induction l with
 |nil=>rw[GJ];exact⟨by decide,by decide⟩
 |cons p r ih=>
  have h1:=ih λq hq=>h q (jav _ hq);have h2:=h p jar;rw[kr,jaj];split<;>omega
theorem Mw {l:List (Str×Int)}{v:Int}(h:∀p∈l,-4<p.2/\p.2<4)(hl:l.length<=8):(sumOf l v).bw:=λp hp=>by
 obtain⟨h1,h2⟩:=yN.mp hp;have:=Yt h p.1;omega
theorem WT {S:aA}{x:D}{l:List T}{k:List D->(aA->Prop)->aA->Prop}(h:x=.lst l\/x=.tup l)(hk:k (l.map .t) (λ_=>True) S):aG x S k:=.inl ⟨l,h.symm,hk⟩
theorem a0I (l:As)(x:Str)(a b:Sm):kj (kj l x a) x b=kj l x b:=by
 unfold kj;by_cases h:(l.any λp=>decide (p.1=x))=true
 .rw[jae h,jae h];have:((l.map λp=>if p.1=x then(p.1,a) else p).any λp=>decide (p.1=x))=true:=by
   obtain⟨q,hq,e⟩:=jbQ.mp h;have e:q.1=x:=by simpa using e
   exact jbQ.mpr ⟨_,jas.mpr ⟨q,hq,M⟩,by rw[jae e];simpa using e⟩
  rw[jae this,jaN];refine jcs λp _=>?_;show(if(if p.1=x then(p.1,a) else p).1=x then _ else _)=_;by_cases e:p.1=x
  .rw[jae e];simp[e]
  .rw[jad e,jad e,jad e]
 .rw[jad h,jad h];have:((l++[(x,a)]).any λp=>decide (p.1=x))=true:=by simp
  rw[jae this,jam];have hn:∀z∈l,¬ z.1=x:=λz hz e=>h (jbQ.mpr ⟨z,hz,by simpa using e⟩);congr 1
  .conv=>rhs;rw[<- List.map_id l]
   exact jcs λz hz=>by rw[jad (hn z hz)];rfl
  .simp
def a3A:Az:=λa b S k=>∃l m,lq S a=some l/\lq S b=some m/\l.length+m.length<=sizeLine/\k (.ob S.length) (S++[.lst (l++m)])
theorem We {X:Cx}:D6 X (binaryOp .Add) a3A:=by
 refine i9 NF ?_;rintro x y H Q ⟨Y,S,a,b,k,R,ra,rb,⟨l,m,h1,h2,h3,h4⟩,hk⟩;obtain⟨p1,vs,e1,e2,e3⟩:=dm R ra h1;obtain⟨p2,ws,f1,f2,f3⟩:=dm R rb h2;exact⟨p1,p2,vs,ws,e1,f1,e2,f2,by rw[<- e3.len,<- f3.len];exact h3,λp hp=>OJ R hk (e3.app f3) h4 p hp⟩
noncomputable def gIn (neg:Bool):D->D->aA->Option D
 |.t (.v x),b,S=>match gQ x with
  |false=>none
  |true=>match sq S b with
   |none=>none
   |some l=>match ze l with
    |none=>none
    |some vs=>some (.bl (xor neg (R8 x vs)))
 |_,_,_=>none
instance {neg:Bool}:Pr (in3 neg) (gIn neg):=⟨λa b S d k h hk=>by
 unfold gIn at h;split at h
 .split at h
  .cases h
  .rename_i e0;split at h
   .cases h
   .rename_i l e1;split at h
    .cases h
    .rename_i vs e2;cases h;exact⟨_,l,vs,M,e0,e1,e2,hk⟩
 .cases h⟩
section
variable {te:dR}{f:Sl->aA->Option D}{Z:Sl}{S:aA}{E:rq}{a b:uf}
theorem YZ {b':Bool} [p:Pf te f] (e:f Z S=some (.bl b')) (hb:b'=true) (h:a E Z S):Ed (oN te) a b E Z S:=by
 subst hb;exact p.ok Z S _ _ e ⟨_,M,h⟩
theorem vZ {b':Bool} [p:Pf te f] (e:f Z S=some (.bl b')) (hb:b'=false) (h:E.nx Z S):Ed (oN te) a GO E Z S:=by
 subst hb;exact p.ok Z S _ _ e ⟨_,M,h⟩
end
theorem J5 {x:Str}{h:eK}:∀{hs:List eK},hs.find? (λy=>decide (y.name=x))=some h->mO (hs.filterMap λy=>if y.name=x then some (pC y) else none) 0=some (pC h)
 |y::r,e=>by
  by_cases q:y.name=x
  .rw[jcD (by simpa using q)] at e;have e:=ja2 e;subst e;rw[jb4 (b:=pC y) (by rw[jae q])];exact Uz
  .rw[jb5 (by simpa using q)] at e;rw[jcA (by rw[jad q])];exact J5 e
theorem N2 {m:As}(hw:Fw m)(l:List (Str×Int))(i:Int):(lU m l ([],i)).1.length<=4*l.length/\((lU m l ([],i)).1.map (·.1)).Nodup:=by
 have e:lU m l ([],i)=(norm ([]++prs m l),i+nms m l):=xx m l [] i;rw[e];exact⟨jaR (gK _) (xm hw l),JK _⟩
theorem O0 (l:jcR)(k:Nat):rW (l.map T.str) none (some (k:Int))=(l.take k).map T.str:=by
 unfold rW;rw[HT.EL,HT.Ju,List.drop_zero,Nat.sub_zero,jab,List.map_take];rcases Nat.le_total k l.length with h | h
 .rw[Nat.min_eq_left h]
 .rw[Nat.min_eq_right h,jcC (by rw[jab];exact jal _),jcC (by rw[jab];exact h)]
theorem Va {N:jcR}{x:Str}(h:x∈N):l5 N (sumOf [(x,1)] 0):=by
 have hl:=gK [(x,(1:Int))];refine⟨by show(norm _).length<=2;exact jaR hl (by show 1<=2;decide),Fj λp hp=>?_,⟨by show -(2 ^ 63)<(0:Int);decide,by show(0:Int)<2 ^ 63;decide⟩,Mw (λp hp=>?_) (by show 1<=8;decide)⟩
 .rw[jai.mp hp];exact h
 .rw[jai.mp hp];exact⟨by show(-4:Int)<1;decide,by show(1:Int)<4;decide⟩
theorem T8 {hs:List eK}{s:aV}(h:kd s<6):Of hs s:=λa ns g gs e=>by subst e;exact absurd h (by show ¬ 6<6;decide)
theorem NN {hs ks:List eK}{s:aV}(h:Of hs s):Of (hs++ks) s:=λa ns g gs e=>let⟨x,hx,q⟩:=h a ns g gs e;⟨x,jaP _ hx,q⟩
theorem Uy {hs:List eK}{r:Nat}{f:eK->T}(h:(r:Int)<hs.length):∃y,y∈hs/\mO (hs.map f) (r:Int)=some (f y):=by
 have h:r<hs.length:=by omega
 exact⟨hs[r],jce h,iU (by rw[jaA,jaD h];rfl)⟩
theorem Xy {hs:List eK}{z:Int}{f:eK->T}(h:0<hs.length):∃y,y∈hs/\mO (hs.map f) (z % (hs.length:Int))=some (f y):=by
 have e:(((z % (hs.length:Int)).toNat:Nat):Int)=z % (hs.length:Int):=Int.toNat_of_nonneg (jcf _ (by omega));rw[<- e];exact Uy (by rw[e];exact jca _ (by omega))
noncomputable def XT:Nat->Str
 |0=>"one" |1=>"two" |_=>"three"
theorem a0G {i:Nat}(h:i<3):mO [T.str "one",T.str "two",T.str "three"] (i:Int)=some (T.str (XT i)):=by
 match i,h with
 |0,_=>rfl
 |1,_=>rfl
 |2,_=>rfl
 |n+3,h=>omega
structure P5 (hs:List eK):Prop where
 nm:∀(j:Nat)(h:eK),hs[j]?=some h->h.name=XT j
 g:∀h∈hs,∃N,cX h N
 c:∀h∈hs,∀s∈h.steps,Of hs s
theorem P5.nil:P5 []:=⟨λj h e=>by simp at e,λh e=>(jaI e).elim,λh e=>(jaI e).elim⟩
theorem P5.snoc {hs:List eK}{h:eK}{N:jcR}(p:P5 hs)(hn:h.name=XT hs.length)(g:cX h N)(c:∀s∈h.steps,Of hs s):P5 (hs++[h]):=by
 refine⟨λj y e=>?_,λy hy=>?_,λy hy s hs'=>?_⟩
 .rcases Nat.lt_or_ge j hs.length with q | q
  .rw[jaS q] at e;exact p.nm j y e
  .rw[jbj q] at e;have:j - hs.length=0:=by
    have:=(jao.mp e).1;simp at this;omega
   rw[this] at e;cases e;have:j=hs.length:=by omega
   rw[this];exact hn
 .rcases jau.mp hy with q | q
  .exact p.g y q
  .rw[jai.mp q];exact⟨N,g⟩
 .rcases jau.mp hy with q | q
  .exact NN (p.c y q s hs')
  .rw[jai.mp q] at hs';exact NN (c s hs')
theorem Wi:∀i,i<3->∀j,j<3->XT i=XT j->i=j:=by symm
theorem P5.ok {hs:List eK}(p:P5 hs)(h0:0<hs.length)(h3:hs.length<=3):SN hs:=by
 refine⟨⟨h0,h3⟩,p.g,λh hh=>?_,p.c⟩;obtain⟨j,hj,rfl⟩:=List.mem_iff_getElem.mp hh;have ej:=p.nm j _ (jaD hj);refine List.find?_eq_some_iff_getElem.mpr ⟨by simp,j,hj,M,λi hi=>?_⟩;have ei:=p.nm i _ (jaD (by omega));have:¬ hs[i].name=hs[j].name:=λe=>by
  rw[ei,ej] at e;have:=Wi i (by omega) j (by omega) e;omega
 simpa using this
theorem P5.hs {hs:List eK}(p:P5 hs)(h3:hs.length<=3):SO hs:=⟨h3,p.g⟩
theorem SN.ca {hs:List eK}(p:SN hs){h:eK}(hh:h∈hs):∀s∈h.steps,Ca hs s:=λs hs' a ns g gs e=>by
 obtain⟨x,hx,rfl⟩:=p.c h hh s hs' a ns g gs e;exact⟨by have:=p.l;omega,x,p.f x hx,M⟩
theorem zb {n:Nat}(l:jcR):Fl (n+1) (mw l):=dw λx hx=>by obtain⟨y,_,rfl⟩:=jas.mp hx;exact cC _
theorem Xe {n:Nat}{s:aV}(h:∀a c,s=.cm a c->sG c):Fl (n+8) (zN s):=by
 have hm:∀s:Sm,Fl (n+7) (i8 s):=λs=>zc (n:=n+4) s;cases s with
 |cm a c=>
  refine dw λy hy=>?_;rcases jag.mp hy with rfl | hy
  .exact cC _
  rcases jag.mp hy with rfl | hy
  .exact iQ _
  .rw[jai.mp hy];exact uY c (by have:=(h a c M).1;omega)
 |cl a ns g gs=>
  refine dw λy hy=>?_;simp only[jag,jaI,jbt] at hy;rcases hy with rfl | rfl | rfl | rfl | rfl
  .exact cC _
  .exact iQ _
  .exact zb (n:=n+6) _
  .exact cC _
  .exact dw (n:=n+6) λz hz=>by obtain⟨s,_,rfl⟩:=jas.mp hz;exact zc (n:=n+3) s
 |_=>
  refine dw λy hy=>?_;simp only[jag,jaI,jbt] at hy
  first
  |(rcases hy with rfl | rfl | rfl | rfl<;>first | exact cC _ | exact iQ _ | exact hm _)
  |(rcases hy with rfl | rfl | rfl | rfl | rfl<;>first | exact cC _ | exact iQ _ | exact hm _)
  |(rcases hy with rfl | rfl | rfl | rfl | rfl | rfl<;>first | exact cC _ | exact iQ _ | exact hm _)
theorem OG {n:Nat}{q:Int×aI}(h:sG q.2):Fl (n+8) (P0 q):=dw λy hy=>by
 rcases jag.mp hy with rfl | hy
 .exact iQ _
 .rw[jai.mp hy];exact uY _ (by have:=h.1;omega)
theorem cX.cc {h:eK}{N:jcR}(g:cX h N):(∀q∈h.needs,sG q.2)/\(∀q∈h.gives,sG q.2)/\∀s∈h.steps,∀a c,s=.cm a c->sG c:=
 ⟨λq hq=>g.told.nd q hq,λq hq=>g.told.gv q hq,λs hs a c e=>(g.told.st s hs).1 a c e⟩
theorem Xg {h:eK}{N:jcR}(g:cX h N):Fl 40 (pC h):=by
 obtain⟨c1,c2,c3⟩:=g.cc;refine dw (n:=39) λy hy=>?_;simp only[jag,jaI,jbt] at hy;rcases hy with rfl | rfl | rfl | rfl | rfl | rfl | rfl | rfl
 .exact cC _
 .exact iQ _
 .exact cC _
 .exact zb (n:=38) _
 .exact zb (n:=38) _
 .exact dw (n:=38) λz hz=>by obtain⟨q,hq,rfl⟩:=jas.mp hz;exact OG (n:=30) (c1 q hq)
 .exact dw (n:=38) λz hz=>by obtain⟨q,hq,rfl⟩:=jas.mp hz;exact OG (n:=30) (c2 q hq)
 .exact dw (n:=38) λz hz=>by obtain⟨q,hq,rfl⟩:=jas.mp hz;exact Xe (n:=30) (c3 q hq)
end L3
namespace L3
open PySem L2
noncomputable def rxN:jcR->Str->jcX->Option Nat
 |y::r,x,j::js=>if y=x then some j else rxN r x js
 |_,_,_=>none
noncomputable def rxL:jcX:=[0,1,2,3,4,5,6,7,8,9,10,11,12,13,14,15,16,17,18,19,20,21,22,23,24,25,26,27,28,29]
noncomputable def rxV (sc:Scope)(x:Str):Bool:=match sc.names.lookup x with
 |some .local=>true
 |some .cell=>true
 |some .free=>true
 |_=>false
noncomputable def rxO:Operator->Option Az
 |.Add=>some SE
 |.Sub=>some Qv
 |.Mult=>some ZL
 |.FloorDiv=>some OL
 |.Mod=>some Wn
 |_=>none
noncomputable def rxC:Const->Option dR
 |.int i=>some (Mv (.int i))
 |.str x=>some (Mv (.str x))
 |.bool b=>some (Mv (.bl b))
 |.none=>some (Mv .eN)
 |_=>none
noncomputable def rxA (f:Expr->Option dR):jcU->Option oH
 |[]=>some vD
 |e::r=>(f e).bind λt=>(rxA f r).bind λu=>bif notStar e then some (oO t u) else none
noncomputable def QH (X:Cx):Nat->Expr->Option dR
 |0,_=>none
 |n+1,e=>match e with
  |.Name x _=>(rxN X.N x rxL).bind λi=>bif rxV X.env.scope x&&!(x==("__debug__":Str))&&!(x==("__classdict__":Str)) then some (vB i) else none
  |.Constant c _ _=>rxC c
  |.Attribute e f _=>(QH X n e).bind λt=>some (Th t f)
  |.Subscript a b _=>(QH X n a).bind λt=>(QH X n b).bind λu=>some (uF XX t u)
  |.Tuple es _ _=>(rxA (QH X n) es).bind λt=>some (IW t)
  |.BinOp a o b _=>(rxO o).bind λr=>(QH X n a).bind λt=>(QH X n b).bind λu=>some (uF r t u)
  |_=>none
theorem Vm {x:Str}{j:Nat}:∀{l:jcR}{js:jcX}{i:Nat},(∀k m,js[k]?=some m->m=i+k)->rxN l x js=some j->∃k,j=i+k/\l[k]?=some x:=by
 intro l
 induction l with
 |nil=>intro js i _ h;cases h
 |cons y r ih=>
  intro js i hj h;cases js with
  |nil=>cases h
  |cons m js=>
   have h:(if y=x then some m else rxN r x js)=some j:=h;by_cases e:y=x
   .rw[jae e] at h;cases h;exact⟨0,hj 0 _ M,by rw[e];rfl⟩
   .rw[jad e] at h;obtain⟨k,rfl,hk⟩:=ih (i:=i+1) (λk n q=>by have:=hj (k+1) n q;omega) h;exact⟨k+1,by omega,hk⟩
theorem Vn:∀k m,rxL[k]?=some m->m=0+k:=λk m h=>by
 rw[show rxL=List.range 30 from by decide] at h;obtain⟨_,h⟩:=jao.mp h;rw[List.getElem_range] at h;omega
theorem Vk {sc:Scope}{x:Str}(h:rxV sc x=true):Vis sc x:=by
 unfold rxV at h;unfold Vis;cases q:sc.names.lookup x with
 |none=>rw[q] at h;cases h
 |some k=>
  rw[q] at h;cases k with
  | «local»=>exact .inl rfl
  |cell=>exact .inr (.inl M)
  |free=>exact .inr (.inr M)
  |_=>cases h
theorem a0E {α:Type}{b:Bool}{x y:α}(h:(bif b then some x else none)=some y):b=true/\x=y:=by
 cases b with
 |true=>cases h;exact⟨M,M⟩
 |false=>cases h
theorem PU {α β:Type}{o:Option α}{f:α->Option β}{y:β}(h:o.bind f=some y):∃a,o=some a/\f a=some y:=by
 cases o with
 |none=>cases h
 |some a=>exact⟨a,M,h⟩
section
variable {X:Cx}
theorem M4 {f:Expr->Option dR}(hf:∀e t,f e=some t->QE X e t):∀{es:jcU}{t:oH},rxA f es=some t->QA X es t:=by
 intro es
 induction es with
 |nil=>intro t h;cases h;exact af
 |cons e r ih=>
  intro t h;obtain⟨u,h1,h⟩:=PU h;obtain⟨v,h2,h⟩:=PU h;obtain⟨h3,rfl⟩:=a0E h;exact qa (hf _ _ h1) (ih h2) h3
theorem Vl {o:Operator}{r:Az}(h:rxO o=some r):D6 X (binaryOp o) r:=by
 cases o with
 |Add=>cases h;exact aS
 |Sub=>cases h;exact NP
 |Mult=>cases h;exact NQ
 |FloorDiv=>cases h;exact NS
 |Mod=>cases h;exact NR
 |_=>cases h
theorem M3:∀(n:Nat){e:Expr}{t:dR},QH X n e=some t->QE X e t:=by
 intro n
 induction n with
 |zero=>intro e t h;cases h
 |succ n ih=>
  intro e t h;cases e with
  |Name x p=>
   obtain⟨i,h1,h⟩:=PU h;obtain⟨h2,rfl⟩:=a0E h;obtain⟨k,rfl,hk⟩:=Vm Vn h1;rw[jaU,jaU,Bool.not_eq_true',Bool.not_eq_true'] at h2;rw[jbi];exact q_v k hk (Vk h2.1.1) h2.1.2 h2.2
  |Constant c k p=>
   have h:rxC c=some t:=h;cases c with
   |int i=>cases h;exact aH
   |str i=>cases h;exact aX
   |bool i=>cases h;exact a2f
   |none=>cases h;exact TY
   |_=>cases h
  |Attribute e f p=>
   obtain⟨u,h1,h⟩:=PU h;cases h;refine Ze (ih h1) ?_;cases e with
   |Call _ _ _ _=>cases n<;>cases h1
   |_=>rfl
  |Subscript a b p=>
   obtain⟨u,h1,h⟩:=PU h;obtain⟨v,h2,h⟩:=PU h;cases h;refine oV (ih h1) (ih h2) ?_;cases b with
   |Slice _ _ _ _=>cases n<;>cases h2
   |_=>intro _ _;rfl
  |Tuple es k p=>
   obtain⟨u,h1,h⟩:=PU h;cases h;exact bx (M4 (λ_ _=>ih) h1)
  |BinOp a o b p=>
   obtain⟨r,h0,h⟩:=PU h;obtain⟨u,h1,h⟩:=PU h;obtain⟨v,h2,h⟩:=PU h;cases h;exact bh (Vl h0) (ih h1) (ih h2)
  |_=>cases h
inductive a3D (ds:List D) (f:List T->Prop):Prop
 |mk (l:List T) (h:ts? ds=some l) (h2:l.length<=sizeLine) (hk:f l)
theorem Vx {X:Cx}{es:jcU}{t:oH}{pos:Pos}(h:QA X es t):QE X (.List es pos) (λZ S k=>t Z S λds S1=>a3D ds λl=>k (.lst l) S1):=
 dD (CG h) (by rintro U H Q ⟨Y,S,Z,k,R,D,q,hk⟩;exact⟨Y,S,Z,_,R,D,q,(by
  rintro vs H1 ⟨Y1,S1,ds,g1,R1,r1,l,e,z,q1⟩;have r2:=xS e r1;exact⟨by rw[<- r2.len];exact z,zf R1 (λv H' u=>hk v H' (u.gr g1)) r2 q1⟩)⟩)
theorem ixb {Z:Sl}{S:aA}{k:KD}{i n:Nat}{x y:Str}{a b c:T}(h:mO [a,b] (if(xor false (decide (V.str x=V.str y)))=true then 1 else 0)=some c)(hi:Z[i]?=some (some (.str x)))(hk:k (.t c) S) :
  KO WW (oO (uF (eq3 n false) (vB i) (Mv (.str y))) vD) Z S (λy S2=>XX (.lst [a,b]) y S2 k):=by
 unfold KO oO uF vB SJ;rw[hi];show L4 (mO [a,b] (if(xor false (decide (V.str x=V.str y)))=true then 1 else 0)) _;exact oe h hk
theorem Vh {u:uf}{E:rq}{Z:Sl}{S:aA}{i:Nat}(h:u E (Z.set i (some (.ob S.length))) (S++[.lst []])):vC (A4 (Tf vD) (Sj i)) u E Z S:=h
theorem q_r {e:Expr}{t:dR}(h:autoParam (QH X 20 e=some t) zi):QE X e t:=M3 20 h
theorem ak {es:jcU}{t:oH}(h:autoParam (rxA (QH X 20) es=some t) zi):QA X es t:=M4 (λ_ _=>M3 20) h
end
end L3
set_option maxHeartbeats 8000000
namespace L3
open PySem L2 Hw PyProof.Rows
noncomputable def top (i:Nat):Stmt:=PySem.Challenge.pw_holdwright_k31_calls.main.body.getD i (.Pass ⟨0,0,0,0⟩)
structure PR (K:Frag)(C:Addr):Prop where
 pg:plainGet K C Str.empty=true
 hd:hasDictIn K C=true
 po:plainOver K C=true
 sa:findIn K (.ref C) "__setattr__"=some (some (.builtin "object.__setattr__"))
 mi:makesIn K C=true
 kc:keepIn K (.ref C)=true
 ca:findIn K (.ref C) "__class__"=some (some (.builtin "object.__class__"))
 cm:mroIn K C (.type "object")=some true
def Nfs (K:Frag)(C:Addr):jcR->Prop
 |[]=>True
 |x::r=>findIn K (.ref C) x=some none/\Nfs K C r
structure Kc (K:Frag)(mg:Str->Option Value)(x:Str)(C:Addr)(fs:List Str):Prop where
 g:mg x=some (.ref C)
 q:PR K C
 k:zM K C []
 n:Nfs K C fs
structure Fx (K:Frag)(mg:Str->Option Value)(A:Ad):Prop where
 eS:mg "len"=none
 bu:mg "tuple"=none
 zq:mg "list"=none
 mH:mg "sorted"=none
 Kz:mg "set"=none
 a4z:mg "sum"=none
 Pk:mg "int"=none
 Ky:mg "str"=none
 bB:mg "isinstance"=none
 jD:mg "range"=none
 a4A:mg "any"=none
 a4B:mg "all"=none
 Gg:mg "enumerate"=none
 a0F:mg "zip"=none
 Pg:Kc K mg "Sum" A.j6 ["terms","number"]
 qO:Kc K mg "Compare" A.cF ["one","sign","other"]
 Ga:Kc K mg "Turned" A.dI ["condition"]
 Ks:Kc K mg "Every" A.fB ["conditions"]
 Ph:Kc K mg "Some" A.jh ["conditions"]
 Ge:Kc K mg "Let" A.lY ["at","name","total"]
 j4:Kc K mg "Divide" A.bZ ["at","name","word","total","by"]
 qN:Kc K mg "Fetch" A.dz ["at","name","row","place"]
 Gd:Kc K mg "Put" A.nZ ["at","row","place","total"]
 zp:Kc K mg "Make" A.fK ["at","row","size"]
 xG:Kc K mg "Claim" A.cW ["at","condition"]
 Gf:Kc K mg "Choose" A.fV []
 Gb:Kc K mg "Repeat" A.fT []
 vf:Kc K mg "Call" A.fL ["at","names","helper","given"]
 i6:Kc K mg "Helper" A.fU ["at","name","params","answers","needs","gives","steps"]
 BD:Kc K mg "Program" A.dg ["helpers"]
 ve:Kc K mg "Debt" A.pM ["kind","at","ahead","condition"]
 Ir:Kc K mg "Book" A.ji ["program","found"]
 nT:∃t,mg "MOST_PATHS"=some (.int 16 t)
 nU:∃t,mg "MOST_DEBTS"=some (.int 100 t)
 ia:∃t,mg "DIVIDED"=some (.str "^" t)
 eW:∃t,mg "QUOTIENT"=some (.str "^^" t)
 kk:∀j i,j<7->i<9->kitOne K (.ref (xD A j)) (.ref (xD A i))=some (decide (j=i))
 WK:kitOne K (.type "tuple") (.type "str")=some false
 gl:∀(x:Str)(a:Addr),nsIn K mainGlobals x=some (some (.ref a))->mg x=some (.ref a)
section
variable (P:Program)(w:World)(K:Frag)(mg:Str->jcW)(base:Heap)(k:Nat)(A:Ad)(n:Nat)(q:Nat)
abbrev n8:=vR P w K mg base k A.j6 "Sum" ["self","terms","number"] (MB A)
abbrev gc:=Dn P w K mg base k "sum_of" ["pairs","number"] (aQ K (I8 A))
abbrev Gm:=Ms P w K mg base k 1 (λ_=>A.j6) "plus" ["self","other"] (λ_=>ME A)
abbrev qQ:=Ms P w K mg base k 1 (λ_=>A.j6) "times" ["self","number"] (λ_=>I0 A)
abbrev ie:=Ms P w K mg base k 1 (λ_=>A.j6) "told" ["self"] (λ_=>BW A)
abbrev j8:=Ms P w K mg base k 4 (Ao A) "told" ["self"] (fO A n)
abbrev n6:=Ms P w K mg base k 4 (Ao A) "all_sums" ["self"] (mR A n)
abbrev ee:=Ms P w K mg base k 1 (λ_=>A.j6) "things" ["self"] (λ_=>Tu A)
abbrev fM:=Dn P w K mg base k "length_of" ["row"] (aQ K Jd)
abbrev DI:=Ms P w K mg base k 4 (Ao A) "things" ["self"] (MA A n)
abbrev ID:=Ms P w K mg base k 9 (Yb A) "told" ["self"] (jk A n q)
abbrev zB:=Ms P w K mg base k 7 (xD A) "blocks" ["self"] (MT A)
abbrev Px:=Ms P w K mg base k 7 (xD A) "uses" ["self"] (mQ A n)
abbrev vg:=Dn P w K mg base k "steps_within" ["steps"] (aQ K (Ei A))
abbrev vh:=Dn P w K mg base k "rows_of_step" ["step"] (aQ K (Ej A n))
abbrev DP:=Dn P w K mg base k "as_pairs" ["pairs"] (aQ K (Ja A))
abbrev zD:=Dn P w K mg base k "told_pairs" ["pairs"] (aQ K (IZ A n))
abbrev lF:=vR P w K mg base k A.cF "Compare" ["self","one","sign","other"] (D4 A.cF ["one","sign","other"])
abbrev pV:=Dn P w K mg base k "at_most" ["one","other"] (aQ K (TU A))
abbrev pU:=Dn P w K mg base k "hold" ["condition"] (aQ K (MQ A))
abbrev rB:=Dn P w K mg base k "is_length" ["thing"] (aQ K Jl)
abbrev jc:=Dn P w K mg base k "from_nought" ["total"] (aQ K (TN A))
abbrev pR:=Dn P w K mg base k "once" ["thing"] (aQ K (MG A))
abbrev DM:=Dn P w K mg base k "holds_of" ["writings"] (aQ K (Jm A))
abbrev vj:=Dn P w K mg base k "other_things" ["helper"] (aQ K (Jb A n))
abbrev xJ:=Dn P w K mg base k "let" ["thing","total"] (aQ K (TF A))
abbrev fY:=Dn P w K mg base k "rows_of_any" ["thing"] (aQ K (A6 A))
abbrev Pz:=vR P w K mg base k A.pM "Debt" ["self","kind","at","ahead","condition"] (D4 A.pM ["kind","at","ahead","condition"])
abbrev xH:=Ms P w K mg base k 1 (λ_=>A.ji) "owe" ["self","path","kind","at","condition"] (MF A)
abbrev mK:=vR P w K mg base k A.fB "Every" ["self","conditions"] (GV A.fB)
abbrev Gn:=Ms P w K mg base k 1 (λ_=>A.j6) "less" ["self","other"] (λ_=>MH A)
abbrev wI:=Dn P w K mg base k "is_quotient" ["by"] (aQ K (MC A))
abbrev AJ:=Dn P w K mg base k "is_within" ["step"] (aQ K (YR A))
abbrev DO:=Dn P w K mg base k "go_plain" ["book","path","step"] (aQ K (Es A n (λs=>kd s≠1/\kd s≠6) (λp=>.tup (p.map (nG A)))))
abbrev AK:=Dn P w K mg base k "go_divide" ["book","path","step"] (aQ K (Es A n (λs=>kd s=1) (λp=>.tup (p.map (nG A)))))
abbrev Gw:=Dn P w K mg base k "go_call" ["book","path","step"] (aQ K (Es A n (λs=>kd s=6) (λp=>.tup (p.map (nG A)))))
abbrev Gv:=Dn P w K mg base k "go_step" ["book","path","step"] (aQ K (Es A n (λ_=>True) (λp=>.lst [.tup (p.map (nG A))])))
abbrev DN:=Dn P w K mg base k "go_steps" ["book","path","steps"] (aQ K (MR A n))
abbrev uh:=Dn P w K mg base k "path_at_first" ["helper"] (aQ K (I9 A n))
abbrev DJ:=Ms P w K mg base k 1 (λ_=>A.ji) "owe_each" ["self","path","kind","writings"] (GW A)
abbrev PD:=vR P w K mg base k A.ji "Book" ["self","program"] (TR A)
abbrev wJ:=Dn P w K mg base k "count_paths" ["steps"] (aQ K (Jp A))
abbrev BI:=Ms P w K mg base k 1 (λ_=>A.dg) "named" ["self","name"] (λ_=>Jc A)
abbrev rA:=Dn P w K mg base k "_law_mixed" ["_law_cell","_law_k"] (aQ K Tz)
abbrev cG:=Dn P w K mg base k "_law_next" ["_law_draw","_law_size"] (aQ K YS)
abbrev Gp:=vR P w K mg base k A.jh "Some" ["self","conditions"] (GV A.jh)
abbrev zC:=vR P w K mg base k A.dI "Turned" ["self","condition"] (D4 A.dI ["condition"])
abbrev lH:=Dn P w K mg base k "_law_sum" ["_law_draw","_law_things"] (aQ K (BX A))
abbrev SR:=vR P w K mg base k A.lY "Let" ["self","at","name","total"] (D4 A.lY ["at","name","total"])
abbrev BJ:=vR P w K mg base k A.cW "Claim" ["self","at","condition"] (D4 A.cW ["at","condition"])
abbrev gS:=Dn P w K mg base k "_law_condition" ["_law_draw","_law_things","_law_deep"] (aQ K (BZ A 1))
abbrev Py:=vR P w K mg base k A.fK "Make" ["self","at","row","size"] (D4 A.fK ["at","row","size"])
abbrev AE:=Dn P w K mg base k "_law_place" ["_law_draw","_law_things"] (aQ K (BX A))
abbrev SQ:=vR P w K mg base k A.nZ "Put" ["self","at","row","place","total"] (D4 A.nZ ["at","row","place","total"])
abbrev LX:=vR P w K mg base k A.dz "Fetch" ["self","at","name","row","place"] (D4 A.dz ["at","name","row","place"])
abbrev IF:=vR P w K mg base k A.bZ "Divide" ["self","at","name","word","total","by"] (D4 A.bZ ["at","name","word","total","by"])
abbrev DK:=Dn P w K mg base k "_law_step" ["_law_draw","_law_own","_law_deep","_law_helpers"] (aQ K (Jf A))
abbrev IE:=vR P w K mg base k A.fU "Helper" ["self","at","name","params","answers","needs","gives","steps"] (TL A)
abbrev uq:=Dn P w K mg base k "_law_call" ["_law_draw","_law_own","_law_helper_here","_law_at"] (aQ K (Jj A))
abbrev AA:=Dn P w K mg base k "_law_steps" ["_law_draw","_law_own","_law_many","_law_deep","_law_helpers"] (aQ K (El A))
abbrev AF:=Dn P w K mg base k "_law_pairs" ["_law_draw","_law_things","_law_many"] (aQ K (Eo A))
abbrev r9:=Dn P w K mg base k "_law_sum_things" ["_law_sums"] (aQ K MJ)
abbrev lG:=Dn P w K mg base k "_law_things_of" ["_law_told"] (aQ K (Ek 2))
abbrev wC:=Dn P w K mg base k "_law_written" ["_law_steps_here"] (aQ K TH)
abbrev jb:=Dn P w K mg base k "_law_at_most" ["_law_one_here","_law_other"] (aQ K MP)
abbrev lI:=Dn P w K mg base k "_law_one" ["_law_thing"] (aQ K MM)
abbrev n9:=Dn P w K mg base k "_law_plus" ["_law_one_here","_law_other","_law_times"] (aQ K Ji)
abbrev zF:=Dn P w K mg base k "_law_called" ["_law_found","_law_helpers","_law_step_here","_law_path"] (aQ K A8)
abbrev pS:=Dn P w K mg base k "_law_owe" ["_law_found","_law_path","_law_kind","_law_at","_law_told"] (aQ K ML)
abbrev wG:=Dn P w K mg base k "_law_divided" ["_law_step_here"] (aQ K MO)
abbrev zG:=Dn P w K mg base k "_law_behind" ["_law_found","_law_helpers","_law_step_here","_law_path"] (aQ K A9)
abbrev uo:=Dn P w K mg base k "_law_row_shown" ["_law_row"] (aQ K (MK A))
abbrev AD:=Dn P w K mg base k "_law_shown" ["_law_found"] (aQ K (En A))
abbrev IG:=Dn P w K mg base k "_law_go" ["_law_found","_law_helpers","_law_steps_here","_law_path"] (aQ K TJ)
abbrev ur:=Dn P w K mg base k "_law_anys" ["_law_things"] (aQ K Jk)
abbrev AB:=Dn P w K mg base k "_law_stand" ["_law_steps_here"] (aQ K Em)
abbrev AI:=Dn P w K mg base k "_law_asked" ["_law_program_here","_law_name"] (aQ K (Er A))
abbrev Gu:=Dn P w K mg base k "_law_due" ["_law_helpers","_law_helper_here"] (aQ K MN)
abbrev wH:=Dn P w K mg base k "_law_cell_at" ["_law_script","_law_k"] (aQ K MS)
abbrev wF:=Dn P w K mg base k "_law_program" ["_law_draw","_law_many","_law_deep","_law_most"] (aQ K (Jh A))
abbrev LW:=Ms P w K mg base k 1 (λ_=>A.j6) "put_in" ["self","sums"] (λ_=>MD A)
abbrev qR:=Ms P w K mg base k 4 (Ao A) "put_in" ["self","sums"] (lM A n)
abbrev II:=Dn P w K mg base k "all_of" ["writings"] (aQ K (Jq A))
abbrev wD:=Dn P w K mg base k "_law_put_sum" ["_law_one_here","_law_sums"] (aQ K Jg)
abbrev Gs:=Dn P w K mg base k "_law_put" ["_law_told","_law_sums"] (aQ K (xU 3))
abbrev AH:=Dn P w K mg base k "_law_named" ["_law_helpers","_law_name"] (aQ K Ep)
abbrev PB:=vR P w K mg base k A.fL "Call" ["self","at","names","helper","given"] (TQ A)
abbrev DL:=Dn P w K mg base k "_law_line" ["_law_draw","_law_own"] (aQ K (BY A))
abbrev Gq:=vR P w K mg base k A.dg "Program" ["self","helpers"] (Tv A)
abbrev zE:=Dn P w K mg base k "_law_helper" ["_law_draw","_law_name","_law_many","_law_deep","_law_helpers","_law_names_here"] (aQ K (A7 A))
abbrev AG:=Dn P w K mg base k "_law_names" ["_law_draw","_law_many"] (aQ K Tw)
end
section
variable {P:Program}{w:World}{K:Frag}{mg:Str->jcW}{base:Heap}{k:Nat}{f:Addr}{fd:FuncData}{A:Ad}{n:Nat}
seal L2.PE L2.PS L2.bF L2.PA L2.PT QE QT QA QS bN QW
abbrev Cu:Stmt:=top 6
theorem QD:aj ["thing"] ["thing"] (aa Cu):=bW
seal aG in
theorem RA (J:Fx K mg A)(lu:n8 P w K mg base k A)(F:bG K "once" "once" Cu f fd):az P w K mg base bz (k+1) f fd ["thing"] (aQ K (MG A)):=by
 refine aP F QD λAT B outer s H E hr=>?_;rw[show ai Cu=[_] from rfl];refine⟨_,(aO (ao (fz lu hr rfl ak))),λds S kk hc hd h=>?_⟩;obtain⟨x,rfl,h⟩:=h;refine⟨_,_,[(x,1)],0,M,au,M,by simp,made (aL hc h)⟩
abbrev nu:Stmt:=inClass (top 5) 0
theorem EC:aj ["self","terms","number"] ["self","terms","number"] (aa nu):=bW
seal aG in
theorem E9 (J:Fx K mg A)(F:bG K "__init__" "Sum.__init__" nu f fd):az P w K mg base bz (k+1) f fd ["self","terms","number"] (aQ K (MB A)):=by
 refine aP F EC λAT B outer s H E hr=>?_;rw[show ai nu=[_,_] from rfl];refine⟨_,(qs (bf q_r (aK bA (by rfl) J.bu jaK (qa (cu (aM ["pair"] [] [] rfl (by symm) (by symm) (by with_unfolding_all rfl) (by exact trivial) (by rfl) rfl (by rfl)) rfl (qi q_r) (λ_ _ _ _=>(qx (i:=0) (show List.Nodup (["pair"]:jcR) by symm))) (λ_ _ _ _=>bD) (λ_ _ _ _=>(aK bA (by rfl) J.bu jaK ak))) af)) M) (aO (bf q_r q_r M))),λds S kk hc hd h=>?_⟩;obtain⟨i,d,l,m,rfl,h1,h2,h3,h4⟩:=h;refine(Uh h2 λG hG=>cV pT pT (by simpa using hG []) (ck (by omega)) (λx _ k' hk=>⟨_,M,hk⟩) ?_);refine⟨i,A.j6,[],[],M,h1,J.Pg.n.1,by decide,i,_,_,_,M,jaG (jao.mp h1).1,J.Pg.n.2.1,by decide,?_⟩;rw[jaC];exact .inr (.inr (.inr h4))
abbrev sU:Stmt:=top 7
theorem qo:aj ["pairs","number","weights","thing","weight"] ["pairs","number"] (aa sU):=bW
seal aG in
theorem K7 (J:Fx K mg A)(lu:n8 P w K mg base k A)(F:bG K "sum_of" "sum_of" sU f fd):az P w K mg base bz (k+1) f fd ["pairs","number"] (aQ K (I8 A)):=by
 refine aP F qo λAT B outer s H E hr=>?_;rw[show ai sU=[_,_,_] from rfl];refine⟨_,(qs (aq (i:=2) qo.nd CB) (qs (aZ jay rfl (qi q_r) (gX (n:=2) rfl (uA (qg (i:=3) qo.nd) (uA (qg (i:=4) qo.nd) fc))) (aO (jB (gM hr) q_r q_r (bh aS (CC (gM hr) q_r q_r aH) q_r)))) (aO (ao (fz lu hr rfl (qa (cu (aM ["thing"] ["weights"] [2] rfl (by symm) (by symm) (by with_unfolding_all rfl) (by exact⟨M,trivial⟩) (by rfl) rfl (by rfl)) rfl (qi (aU (Kp M) (by rfl) J.mH boot_sorted ak)) (λ_ _ _ _=>(qx (i:=0) (show List.Nodup (["thing","weights"]:jcR) by symm))) (λ_ _ _ _=>(tu (aE (Ff 40 (uE hr)) (yw (gM hr) q_r q_r) aH (aF _)))) (λ_ _ _ _=>(bx (qa q_r (qa (yw (gM hr) q_r q_r) af))))) ak)))))),λds S kk hc hd h=>?_⟩;obtain⟨d,l,m,rfl,h2,h3,h4⟩:=h;refine(JR h2 λG hG=>dF pT (λpre Z S'=>∃x y dd,Z=[some d,some (.int m),some (.ob S.length),x,y]/\S'=S++[O.ly dd]/\Gx pre dd) ⟨_,_,_,M,M,.nil⟩ ?_ ?_)
 .rintro pre ⟨x,v⟩ post Z S' N rfl ⟨x0,y0,dd,rfl,rfl,hz⟩ hN;refine⟨hG _,_,M,M,_,_,M,_,_,M,M,?_⟩;have hl:dd.length<sizeLine:=vS (by have:=hz.len;simp at h3;omega);refine⟨_,_,M,au,_,_,au,M,?_⟩;rw[hz.val x];by_cases hx:x∈pre.map (·.1)
  .rw[jae hx];refine⟨_,_,_,_,M,au,M,M,hl,?_⟩;rw[cP];exact hN _ _ ⟨_,_,_,M,M,hz.snoc x v M⟩
  .rw[jad hx];refine⟨_,_,_,_,M,au,M,M,hl,?_⟩;rw[cP];exact hN _ _ ⟨_,_,_,M,M,hz.snoc x v (by rw[rF hx])⟩
 .rintro Z S' ⟨x0,y0,dd,rfl,rfl,hz⟩;refine⟨hG _,?_⟩;obtain⟨ss,k1,k2,k3⟩:=hz.keys;refine⟨_,_,au,k1,k2,by have:=hz.len;omega,?_⟩;rw[Mz k3];have hsl:=mP (l.map (·.1));rw[jab] at hsl;refine jX (vc T.str (λx=>if wt l x≠0 then some (pT (x,wt l x)) else none) trivial (ck (by omega)) ?_ ?_)
  .intro x hx k' hk;have hv:jY dd (Sum.inr x)=some (.int (wt l x)):=by rw[hz.val x,jae (dG.mp hx)]
   refine⟨_,_,_,_,M,au,M,hv,_,M,?_⟩;rw[rP,Bool.true_xor];by_cases hw:wt l x=0
   .rw[jaF hw];rw[jad (by simpa using hw)] at hk;exact hk
   .rw[jat hw];rw[jae hw] at hk;exact⟨_,_,_,_,M,au,M,hv,_,M,hk⟩
  .rw[JL];have hnl:=gK l;exact⟨_,_,norm l,m,M,au,M,by omega,made (F1 hc h4)⟩
abbrev ni:Stmt:=inClass (top 5) 2
theorem EA:aj ["self","other"] ["self","other"] (aa ni):=bW
seal aG in
theorem E7 (J:Fx K mg A)(dP:gc P w K mg base k A)(F:bG K "plus" "Sum.plus" ni f fd):az P w K mg base bz (k+1) f fd ["self","other"] (aQ K (ME A)):=by
 refine aP F EA λAT B outer s H E hr=>?_;rw[show ai ni=[_] from rfl];refine⟨_,(aO (ao (ah dP hr rfl ak))),λds S kk hc hd h=>?_⟩;obtain⟨a,b,rfl,h1,h2⟩:=h;refine(?_);refine⟨ck (by simp;omega),_,a.1++b.1,_,M,?_,by simp;omega,aL hc h2⟩;show some _=some _;rw[jam]
abbrev kN:Stmt:=inClass (top 5) 4
theorem Cg:aj ["self","number"] ["self","number"] (aa kN):=bW
seal aG in
theorem CU (J:Fx K mg A)(dP:gc P w K mg base k A)(F:bG K "times" "Sum.times" kN f fd):az P w K mg base bz (k+1) f fd ["self","number"] (aQ K (I0 A)):=by
 refine aP F Cg λAT B outer s H E hr=>?_;rw[show ai kN=[_] from rfl];refine⟨_,(aO (ao (ah dP hr rfl (qa (cu (aM ["thing","weight"] ["number"] [1] rfl (by symm) (by symm) (by with_unfolding_all rfl) (by exact⟨M,trivial⟩) (by rfl) rfl (by rfl)) rfl (qi q_r) (λ_ _ _ _=>(jQ (n:=2) rfl (zO (qx (i:=0) (show List.Nodup (["thing","weight","number"]:jcR) by symm)) (zO (qx (i:=1) (show List.Nodup (["thing","weight","number"]:jcR) by symm)) gH)))) (λ_ _ _ _=>bD) (λ_ _ _ _=>q_r)) ak)))),λds S kk hc hd h=>?_⟩;obtain⟨a,m,rfl,h1,h2,h3⟩:=h;refine(bJ (cV pT (λp=>pT (p.1,p.2*m)) trivial (ck (by omega)) (λx _ k' hk=>?_) ?_))
 .exact⟨_,M,M,_,_,M,_,_,M,M,.inr h2,_,M,hk⟩
 .refine⟨.inr h2,_,(a.1.map λ(p:Str×Int)=>(p.1,p.2*m)),_,M,?_,by simpa using h1,aL hc h3⟩;show some _=some _;rw[jaN];rfl
abbrev nq:Stmt:=inClass (top 5) 3
theorem EB:aj ["self","other"] ["self","other"] (aa nq):=bW
seal aG in
theorem E8 (J:Fx K mg A)(C6:Gm P w K mg base k A)(nS:qQ P w K mg base k A)(F:bG K "less" "Sum.less" nq f fd):az P w K mg base bz (k+1) f fd ["self","other"] (aQ K (MH A)):=by
 refine aP F EB λAT B outer s H E hr=>?_;rw[show ai nq=[_] from rfl];refine⟨_,(aO (ao (cD q_r C6 hr (qa (cD q_r nS hr (qa (Bd aH) af)) af)))),λds S kk hc hd h=>?_⟩;obtain⟨a,b,rfl,h1,h2⟩:=h;have hl:=gK (b.1.map λp=>(p.1,p.2*(-1)));rw[jab] at hl;refine⟨0,_,_,by decide,M,by symm,0,_,_,by decide,M,by symm,b,-1,M,by omega,⟨by decide,by decide⟩,a,b.times (-1),M,?_,aL hc h2⟩;show a.1.length+(norm _).length<64;omega
abbrev jt:Stmt:=inClass (top 5) 6
theorem zX:aj ["self"] ["self"] (aa jt):=bW
seal aG in
theorem Af (J:Fx K mg A)(F:bG K "things" "Sum.things" jt f fd):az P w K mg base bz (k+1) f fd ["self"] (aQ K (Tu A)):=by
 refine aP F zX λAT B outer s H E hr=>?_;rw[show ai jt=[_] from rfl];refine⟨_,(aO (ao (aK bA (by rfl) J.bu jaK (qa (cu (aM ["thing","weight"] [] [] rfl (by symm) (by symm) (by with_unfolding_all rfl) (by exact trivial) (by rfl) rfl (by rfl)) rfl (qi q_r) (λ_ _ _ _=>(jQ (n:=2) rfl (zO (qx (i:=0) (show List.Nodup (["thing","weight"]:jcR) by symm)) (zO (qx (i:=1) (show List.Nodup (["thing","weight"]:jcR) by symm)) gH)))) (λ_ _ _ _=>bD) (λ_ _ _ _=>q_r)) af)))),λds S kk hc hd h=>?_⟩;obtain⟨a,rfl,h1,h2⟩:=h;refine(bJ (cV pT (λp=>T.str p.1) trivial (ck (by omega)) (λx _ k' hk=>⟨_,M,M,_,_,M,_,_,M,M,_,M,hk⟩) (aL hc ?_)));have e:a.1.map (λp=>T.str p.1)=a.bC.map T.str:=by unfold Sm.bC;rw[jaN];rfl
 rw[e];exact h2
abbrev nh:Stmt:=inClass (top 5) 7
theorem Ez:aj ["self"] ["self"] (aa nh):=bW
seal aG in
theorem k7 (J:Fx K mg A)(F:bG K "told" "Sum.told" nh f fd):az P w K mg base bz (k+1) f fd ["self"] (aQ K (BW A)):=by
 refine aP F Ez λAT B outer s H E hr=>?_;rw[show ai nh=[_] from rfl];refine⟨_,(aO (ao q_r)),λds S kk hc hd h=>?_⟩;obtain⟨a,rfl,h2⟩:=h;exact(aL hc h2)
abbrev gG:Stmt:=inClass (top 11) 0
theorem vY:aj ["self","one","sign","other"] ["self","one","sign","other"] (aa gG):=bW
seal aG in
theorem wk (J:Fx K mg A)(F:bG K "__init__" "Compare.__init__" gG f fd):az P w K mg base bz (k+1) f fd ["self","one","sign","other"] (aQ K (D4 A.cF ["one","sign","other"])):=by
 refine Am F vY (λds S kk h=>by obtain⟨i,l,rfl,hl,h1,h4⟩:=h;simpa using hl) λAT B outer s H E hr=>?_;rw[show ai gG=[_,_,_] from rfl];refine⟨_,(qs (bf q_r q_r M) (qs (bf q_r q_r M) (aO (bf q_r q_r M)))),λds S kk hc hd h=>?_⟩;obtain⟨i,l,rfl,hl,h1,h4⟩:=h;obtain⟨x0,x1,x2,rfl⟩:∃x0 x1 x2,l=[x0,x1,x2]:=ln3 hl;have hz:=(jao.mp h1).1;refine⟨_,_,_,_,M,h1,J.qO.n.1,by decide,_,_,_,_,M,(jaG (by first | exact hz | (simp only[jaE];exact hz))),J.qO.n.2.1,by decide,_,_,_,_,M,(jaG (by first | exact hz | (simp only[jaE];exact hz))),J.qO.n.2.2.1,by decide,?_⟩;rw[jaC];rw[jaC];exact .inr (.inr (.inr h4))
abbrev iE:Stmt:=inClass (top 12) 0
theorem yg:aj ["self","condition"] ["self","condition"] (aa iE):=bW
seal aG in
theorem yI (J:Fx K mg A)(F:bG K "__init__" "Turned.__init__" iE f fd):az P w K mg base bz (k+1) f fd ["self","condition"] (aQ K (D4 A.dI ["condition"])):=by
 refine Am F yg (λds S kk h=>by obtain⟨i,l,rfl,hl,h1,h4⟩:=h;simpa using hl) λAT B outer s H E hr=>?_;rw[show ai iE=[_] from rfl];refine⟨_,(aO (bf q_r q_r M)),λds S kk hc hd h=>?_⟩;obtain⟨i,l,rfl,hl,h1,h4⟩:=h;obtain⟨x0,rfl⟩:∃x0,l=[x0]:=ln1 hl;have hz:=(jao.mp h1).1;refine⟨_,_,_,_,M,h1,J.Ga.n.1,by decide,?_⟩;exact .inr (.inr (.inr h4))
abbrev nF:Stmt:=inClass (top 18) 0
theorem EJ:aj ["self","at","name","total"] ["self","at","name","total"] (aa nF):=bW
seal aG in
theorem Fe (J:Fx K mg A)(bO:Cm P w K mg base k "Step" "__init__" ["self","at"] (sP K))(F:bG K "__init__" "Let.__init__" nF f fd):az P w K mg base bz (k+1) f fd ["self","at","name","total"] (aQ K (D4 A.lY ["at","name","total"])):=by
 refine Am F EJ (λds S kk h=>by obtain⟨i,l,rfl,hl,h1,h4⟩:=h;simpa using hl) λAT B outer s H E hr=>?_;rw[show ai nF=[_,_,_] from rfl];refine⟨_,(qs (gk (rK bO hr rfl ak)) (qs (bf q_r q_r M) (aO (bf q_r q_r M)))),λds S kk hc hd h=>?_⟩;obtain⟨i,l,rfl,hl,h1,h4⟩:=h;obtain⟨x0,x1,x2,rfl⟩:∃x0 x1 x2,l=[x0,x1,x2]:=ln3 hl;have hz:=(jao.mp h1).1;refine⟨_,_,_,M,h1,J.Ge.n.1,_,_,_,_,M,(jaG (by first | exact hz | (simp only[jaE];exact hz))),J.Ge.n.2.1,by decide,_,_,_,_,M,(jaG (by first | exact hz | (simp only[jaE];exact hz))),J.Ge.n.2.2.1,by decide,?_⟩;rw[jaC];rw[jaC];exact .inr (.inr (.inr h4))
abbrev iK:Stmt:=inClass (top 19) 0
theorem ym:aj ["self","at","name","word","total","by"] ["self","at","name","word","total","by"] (aa iK):=bW
seal aG in
theorem yL (J:Fx K mg A)(bO:Cm P w K mg base k "Step" "__init__" ["self","at"] (sP K))(F:bG K "__init__" "Divide.__init__" iK f fd):az P w K mg base bz (k+1) f fd ["self","at","name","word","total","by"] (aQ K (D4 A.bZ ["at","name","word","total","by"])):=by
 refine Am F ym (λds S kk h=>by obtain⟨i,l,rfl,hl,h1,h4⟩:=h;simpa using hl) λAT B outer s H E hr=>?_;rw[show ai iK=[_,_,_,_,_] from rfl];refine⟨_,(qs (gk (rK bO hr rfl ak)) (qs (bf q_r q_r M) (qs (bf q_r q_r M) (qs (bf q_r q_r M) (aO (bf q_r q_r M)))))),λds S kk hc hd h=>?_⟩;obtain⟨i,l,rfl,hl,h1,h4⟩:=h;obtain⟨x0,x1,x2,x3,x4,rfl⟩:∃x0 x1 x2 x3 x4,l=[x0,x1,x2,x3,x4]:=ln5 hl;have hz:=(jao.mp h1).1;refine⟨_,_,_,M,h1,J.j4.n.1,_,_,_,_,M,(jaG (by first | exact hz | (simp only[jaE];exact hz))),J.j4.n.2.1,by decide,_,_,_,_,M,(jaG (by first | exact hz | (simp only[jaE];exact hz))),J.j4.n.2.2.1,by decide,_,_,_,_,M,(jaG (by first | exact hz | (simp only[jaE];exact hz))),J.j4.n.2.2.2.1,by decide,_,_,_,_,M,(jaG (by first | exact hz | (simp only[jaE];exact hz))),J.j4.n.2.2.2.2.1,by decide,?_⟩;rw[jaC];rw[jaC];rw[jaC];rw[jaC];exact .inr (.inr (.inr h4))
abbrev jw:Stmt:=inClass (top 20) 0
theorem z0:aj ["self","at","name","row","place"] ["self","at","name","row","place"] (aa jw):=bW
seal aG in
theorem Ah (J:Fx K mg A)(bO:Cm P w K mg base k "Step" "__init__" ["self","at"] (sP K))(F:bG K "__init__" "Fetch.__init__" jw f fd):az P w K mg base bz (k+1) f fd ["self","at","name","row","place"] (aQ K (D4 A.dz ["at","name","row","place"])):=by
 refine Am F z0 (λds S kk h=>by obtain⟨i,l,rfl,hl,h1,h4⟩:=h;simpa using hl) λAT B outer s H E hr=>?_;rw[show ai jw=[_,_,_,_] from rfl];refine⟨_,(qs (gk (rK bO hr rfl ak)) (qs (bf q_r q_r M) (qs (bf q_r q_r M) (aO (bf q_r q_r M))))),λds S kk hc hd h=>?_⟩;obtain⟨i,l,rfl,hl,h1,h4⟩:=h;obtain⟨x0,x1,x2,x3,rfl⟩:∃x0 x1 x2 x3,l=[x0,x1,x2,x3]:=ln4 hl;have hz:=(jao.mp h1).1;refine⟨_,_,_,M,h1,J.qN.n.1,_,_,_,_,M,(jaG (by first | exact hz | (simp only[jaE];exact hz))),J.qN.n.2.1,by decide,_,_,_,_,M,(jaG (by first | exact hz | (simp only[jaE];exact hz))),J.qN.n.2.2.1,by decide,_,_,_,_,M,(jaG (by first | exact hz | (simp only[jaE];exact hz))),J.qN.n.2.2.2.1,by decide,?_⟩;rw[jaC];rw[jaC];rw[jaC];exact .inr (.inr (.inr h4))
abbrev nC:Stmt:=inClass (top 21) 0
theorem EG:aj ["self","at","row","place","total"] ["self","at","row","place","total"] (aa nC):=bW
seal aG in
theorem Fc (J:Fx K mg A)(bO:Cm P w K mg base k "Step" "__init__" ["self","at"] (sP K))(F:bG K "__init__" "Put.__init__" nC f fd):az P w K mg base bz (k+1) f fd ["self","at","row","place","total"] (aQ K (D4 A.nZ ["at","row","place","total"])):=by
 refine Am F EG (λds S kk h=>by obtain⟨i,l,rfl,hl,h1,h4⟩:=h;simpa using hl) λAT B outer s H E hr=>?_;rw[show ai nC=[_,_,_,_] from rfl];refine⟨_,(qs (gk (rK bO hr rfl ak)) (qs (bf q_r q_r M) (qs (bf q_r q_r M) (aO (bf q_r q_r M))))),λds S kk hc hd h=>?_⟩;obtain⟨i,l,rfl,hl,h1,h4⟩:=h;obtain⟨x0,x1,x2,x3,rfl⟩:∃x0 x1 x2 x3,l=[x0,x1,x2,x3]:=ln4 hl;have hz:=(jao.mp h1).1;refine⟨_,_,_,M,h1,J.Gd.n.1,_,_,_,_,M,(jaG (by first | exact hz | (simp only[jaE];exact hz))),J.Gd.n.2.1,by decide,_,_,_,_,M,(jaG (by first | exact hz | (simp only[jaE];exact hz))),J.Gd.n.2.2.1,by decide,_,_,_,_,M,(jaG (by first | exact hz | (simp only[jaE];exact hz))),J.Gd.n.2.2.2.1,by decide,?_⟩;rw[jaC];rw[jaC];rw[jaC];exact .inr (.inr (.inr h4))
abbrev kT:Stmt:=inClass (top 22) 0
theorem Co:aj ["self","at","row","size"] ["self","at","row","size"] (aa kT):=bW
seal aG in
theorem CY (J:Fx K mg A)(bO:Cm P w K mg base k "Step" "__init__" ["self","at"] (sP K))(F:bG K "__init__" "Make.__init__" kT f fd):az P w K mg base bz (k+1) f fd ["self","at","row","size"] (aQ K (D4 A.fK ["at","row","size"])):=by
 refine Am F Co (λds S kk h=>by obtain⟨i,l,rfl,hl,h1,h4⟩:=h;simpa using hl) λAT B outer s H E hr=>?_;rw[show ai kT=[_,_,_] from rfl];refine⟨_,(qs (gk (rK bO hr rfl ak)) (qs (bf q_r q_r M) (aO (bf q_r q_r M)))),λds S kk hc hd h=>?_⟩;obtain⟨i,l,rfl,hl,h1,h4⟩:=h;obtain⟨x0,x1,x2,rfl⟩:∃x0 x1 x2,l=[x0,x1,x2]:=ln3 hl;have hz:=(jao.mp h1).1;refine⟨_,_,_,M,h1,J.zp.n.1,_,_,_,_,M,(jaG (by first | exact hz | (simp only[jaE];exact hz))),J.zp.n.2.1,by decide,_,_,_,_,M,(jaG (by first | exact hz | (simp only[jaE];exact hz))),J.zp.n.2.2.1,by decide,?_⟩;rw[jaC];rw[jaC];exact .inr (.inr (.inr h4))
abbrev jA:Stmt:=inClass (top 23) 0
theorem Ac:aj ["self","at","condition"] ["self","at","condition"] (aa jA):=bW
seal aG in
theorem Aj (J:Fx K mg A)(bO:Cm P w K mg base k "Step" "__init__" ["self","at"] (sP K))(F:bG K "__init__" "Claim.__init__" jA f fd):az P w K mg base bz (k+1) f fd ["self","at","condition"] (aQ K (D4 A.cW ["at","condition"])):=by
 refine Am F Ac (λds S kk h=>by obtain⟨i,l,rfl,hl,h1,h4⟩:=h;simpa using hl) λAT B outer s H E hr=>?_;rw[show ai jA=[_,_] from rfl];refine⟨_,(qs (gk (rK bO hr rfl ak)) (aO (bf q_r q_r M))),λds S kk hc hd h=>?_⟩;obtain⟨i,l,rfl,hl,h1,h4⟩:=h;obtain⟨x0,x1,rfl⟩:∃x0 x1,l=[x0,x1]:=ln2 hl;have hz:=(jao.mp h1).1;refine⟨_,_,_,M,h1,J.xG.n.1,_,_,_,_,M,(jaG (by first | exact hz | (simp only[jaE];exact hz))),J.xG.n.2.1,by decide,?_⟩;rw[jaC];exact .inr (.inr (.inr h4))
abbrev kW:Stmt:=inClass (top 42) 0
theorem Cq:aj ["self","kind","at","ahead","condition"] ["self","kind","at","ahead","condition"] (aa kW):=bW
seal aG in
theorem CZ (J:Fx K mg A)(F:bG K "__init__" "Debt.__init__" kW f fd):az P w K mg base bz (k+1) f fd ["self","kind","at","ahead","condition"] (aQ K (D4 A.pM ["kind","at","ahead","condition"])):=by
 refine Am F Cq (λds S kk h=>by obtain⟨i,l,rfl,hl,h1,h4⟩:=h;simpa using hl) λAT B outer s H E hr=>?_;rw[show ai kW=[_,_,_,_] from rfl];refine⟨_,(qs (bf q_r q_r M) (qs (bf q_r q_r M) (qs (bf q_r q_r M) (aO (bf q_r q_r M))))),λds S kk hc hd h=>?_⟩;obtain⟨i,l,rfl,hl,h1,h4⟩:=h;obtain⟨x0,x1,x2,x3,rfl⟩:∃x0 x1 x2 x3,l=[x0,x1,x2,x3]:=ln4 hl;have hz:=(jao.mp h1).1;refine⟨_,_,_,_,M,h1,J.ve.n.1,by decide,_,_,_,_,M,(jaG (by first | exact hz | (simp only[jaE];exact hz))),J.ve.n.2.1,by decide,_,_,_,_,M,(jaG (by first | exact hz | (simp only[jaE];exact hz))),J.ve.n.2.2.1,by decide,_,_,_,_,M,(jaG (by first | exact hz | (simp only[jaE];exact hz))),J.ve.n.2.2.2.1,by decide,?_⟩;rw[jaC];rw[jaC];rw[jaC];exact .inr (.inr (.inr h4))
abbrev kO:Stmt:=inClass (top 17) 0
theorem Ci:aj ["self","at"] ["self","at"] (aa kO):=bW
seal aG in
theorem CV (J:Fx K mg A)(F:bG K "__init__" "Step.__init__" kO f fd):az P w K mg base bz (k+1) f fd ["self","at"] (aQ K (sP K)):=by
 refine aP F Ci λAT B outer s H E hr=>?_;rw[show ai kO=[_] from rfl];refine⟨_,(aO (bf q_r q_r M)),λds S kk hc hd h=>?_⟩;obtain⟨i,x,C,rfl,h1,h2,h4⟩:=h;refine⟨_,_,_,_,M,h1,h2,by decide,.inr (.inr (.inr h4))⟩
abbrev eT:Stmt:=inClass (top 13) 0
theorem vU:aj ["self","conditions"] ["self","conditions"] (aa eT):=bW
seal aG in
theorem ou {C:Addr}(hn:l6 K C "conditions")(J:Fx K mg A)(F:bG K "__init__" "Several.__init__" eT f fd):az P w K mg base bz (k+1) f fd ["self","conditions"] (aQ K (GV C)):=by
 refine aP F vU λAT B outer s H E hr=>?_;rw[show ai eT=[_] from rfl];refine⟨_,(aO (bf q_r (aK bA (by rfl) J.bu jaK ak) M)),λds S kk hc hd h=>?_⟩;obtain⟨i,d,l,rfl,h1,h2,h4⟩:=h;refine(oe (vz h2) ⟨_,_,_,_,M,h1,hn,by decide,.inr (.inr (.inr h4))⟩)
abbrev gF:Stmt:=inClass (top 11) 4
theorem vX:aj ["self"] ["self"] (aa gF):=bW
seal aG in
theorem ja (J:Fx K mg A)(c7:ie P w K mg base k A)(F:bG K "told" "Compare.told" gF f fd):az P w K mg base bz (k+1) f fd ["self"] (aQ K (fO A (n+1) 0)):=by
 refine aP F vX λAT B outer s H E hr=>?_;rw[show ai gF=[_] from rfl];refine⟨_,(aO (ao (bx (qa aX (qa (aW q_r c7 hr) (qa q_r (qa (aW q_r c7 hr) af))))))),λds S kk hc hd h=>?_⟩;obtain⟨c,rfl,hj,hn,hs,h⟩:=h;cases c with
 |cmp a s b=>
  unfold dU;exact⟨0,_,_,by decide,M,by symm,a,M,0,_,_,by decide,M,by symm,b,M,aL hc (by unfold jC at h;exact h)⟩
 |neg c=>cases hj
 |con q cs=>cases q<;>cases hj
abbrev iC:Stmt:=inClass (top 12) 4
theorem yf:aj ["self"] ["self"] (aa iC):=bW
seal aG in
theorem jS (J:Fx K mg A)(dM:j8 P w K mg base k A n)(F:bG K "told" "Turned.told" iC f fd):az P w K mg base bz (k+1) f fd ["self"] (aQ K (fO A (n+1) 1)):=by
 refine aP F yf λAT B outer s H E hr=>?_;rw[show ai iC=[_] from rfl];refine⟨_,(aO (ao (bx (qa aX (qa (aW q_r dM hr) af))))),λds S kk hc hd h=>?_⟩;obtain⟨c,rfl,hj,hn,hs,h⟩:=h;cases c with
 |cmp a s b=>cases hj
 |neg c=>
  unfold aI.dep at hn;unfold aI.sz at hs;obtain⟨ns,l,i1,i2,_⟩:=pA A S c;unfold dU;exact⟨xY c,ns,l,fq c,i1,i2,c,M,M,by omega,by omega,aL hc (by unfold jC at h;exact h)⟩
 |con q cs=>cases q<;>cases hj
abbrev jx:Stmt:=inClass (top 14) 2
theorem z9:aj ["self"] ["self"] (aa jx):=bW
seal aG in
theorem lQ (J:Fx K mg A)(dM:j8 P w K mg base k A n)(F:bG K "told" "Every.told" jx f fd):az P w K mg base bz (k+1) f fd ["self"] (aQ K (fO A (n+1) 2)):=by
 refine aP F z9 λAT B outer s H E hr=>?_;rw[show ai jx=[_] from rfl];refine⟨_,(aO (ao (bh aS q_r (aK bA (by rfl) J.bu jaK (qa (cu (aM ["condition"] [] [] rfl (by symm) (by symm) (by with_unfolding_all rfl) (by exact trivial) (by rfl) rfl (by rfl)) rfl (qi q_r) (λ_ _ _ _=>(qx (i:=0) (show List.Nodup (["condition"]:jcR) by symm))) (λ_ _ _ _=>bD) (λ_ _ _ _=>(aW q_r dM hr))) af))))),λds S kk hc hd h=>?_⟩;obtain⟨c,rfl,hj,hn,hs,h⟩:=h;cases c with
 |cmp a s b=>cases hj
 |neg c=>cases hj
 |con q cs=>
  cases q with
  |false=>cases hj
  |true=>
   unfold aI.dep at hn;unfold aI.sz at hs;have hl:=qm cs;unfold dU;rw[iY];refine(bJ (cV (dU A) jC trivial (ck (by omega)) (λc vL k' hk=>?_) ?_))
   .have h1:=lA vL;have h2:=rG vL;obtain⟨ns,l,i1,i2,_⟩:=pA A S c;exact⟨xY c,ns,l,fq c,i1,i2,c,M,M,by omega,by omega,_,M,hk⟩
   .refine⟨ck (by simp;omega),aL hc ?_⟩;unfold jC at h;rw[tX] at h;exact h
abbrev kP:Stmt:=inClass (top 15) 2
theorem Cj:aj ["self"] ["self"] (aa kP):=bW
seal aG in
theorem nP (J:Fx K mg A)(dM:j8 P w K mg base k A n)(F:bG K "told" "Some.told" kP f fd):az P w K mg base bz (k+1) f fd ["self"] (aQ K (fO A (n+1) 3)):=by
 refine aP F Cj λAT B outer s H E hr=>?_;rw[show ai kP=[_] from rfl];refine⟨_,(aO (ao (bh aS q_r (aK bA (by rfl) J.bu jaK (qa (cu (aM ["condition"] [] [] rfl (by symm) (by symm) (by with_unfolding_all rfl) (by exact trivial) (by rfl) rfl (by rfl)) rfl (qi q_r) (λ_ _ _ _=>(qx (i:=0) (show List.Nodup (["condition"]:jcR) by symm))) (λ_ _ _ _=>bD) (λ_ _ _ _=>(aW q_r dM hr))) af))))),λds S kk hc hd h=>?_⟩;obtain⟨c,rfl,hj,hn,hs,h⟩:=h;cases c with
 |cmp a s b=>cases hj
 |neg c=>cases hj
 |con q cs=>
  cases q with
  |true=>cases hj
  |false=>
   unfold aI.dep at hn;unfold aI.sz at hs;have hl:=qm cs;unfold dU;rw[iY];refine(bJ (cV (dU A) jC trivial (ck (by omega)) (λc vL k' hk=>?_) ?_))
   .have h1:=lA vL;have h2:=rG vL;obtain⟨ns,l,i1,i2,_⟩:=pA A S c;exact⟨xY c,ns,l,fq c,i1,i2,c,M,M,by omega,by omega,_,M,hk⟩
   .refine⟨ck (by simp;omega),aL hc ?_⟩;unfold jC at h;rw[tX] at h;exact h
abbrev iM:Stmt:=inClass (top 11) 1
theorem yp:aj ["self"] ["self"] (aa iM):=bW
seal aG in
theorem jU (J:Fx K mg A)(F:bG K "all_sums" "Compare.all_sums" iM f fd):az P w K mg base bz (k+1) f fd ["self"] (aQ K (mR A (n+1) 0)):=by
 refine aP F yp λAT B outer s H E hr=>?_;rw[show ai iM=[_] from rfl];refine⟨_,(aO (ao (cz ak))),λds S kk hc hd h=>?_⟩;obtain⟨c,rfl,hj,hn,hs,h⟩:=h;cases c with
 |cmp a s b=>
  unfold dU;exact(aL hc (by unfold aI.sums at h;exact h))
 |neg c=>cases hj
 |con q cs=>cases q<;>cases hj
abbrev jr:Stmt:=inClass (top 12) 1
theorem zW:aj ["self"] ["self"] (aa jr):=bW
seal aG in
theorem lP (J:Fx K mg A)(jV:n6 P w K mg base k A n)(F:bG K "all_sums" "Turned.all_sums" jr f fd):az P w K mg base bz (k+1) f fd ["self"] (aQ K (mR A (n+1) 1)):=by
 refine aP F zW λAT B outer s H E hr=>?_;rw[show ai jr=[_] from rfl];refine⟨_,(aO (ao (aW q_r jV hr))),λds S kk hc hd h=>?_⟩;obtain⟨c,rfl,hj,hn,hs,h⟩:=h;cases c with
 |cmp a s b=>cases hj
 |neg c=>
  unfold aI.dep at hn;unfold aI.sz at hs;unfold aI.sums at h;obtain⟨ns,l,i1,_,_,i2⟩:=pA A S c;unfold dU;exact⟨xY c,ns,l,fq c,i1,i2,c,M,M,by omega,by omega,aL hc h⟩
 |con q cs=>cases q<;>cases hj
abbrev fF:Stmt:=inClass (top 13) 1
theorem jO:aj ["self","found","condition"] ["self"] (aa fF):=bW
seal aG in
theorem dJ {j:Nat}(hv:j=2\/j=3)(J:Fx K mg A)(jV:n6 P w K mg base k A n)(F:bG K "all_sums" "Several.all_sums" fF f fd):az P w K mg base bz (k+1) f fd ["self"] (aQ K (mR A (n+1) j)):=by
 refine aP F jO λAT B outer s H E hr=>?_;rw[show ai fF=[_,_,_] from rfl];refine⟨_,(qs (aq (i:=1) jO.nd (gI af)) (qs (aZ jay rfl (qi q_r) (qg (i:=2) jO.nd) (aO (gk (yv q_r (qa (aW q_r jV hr) af))))) (aO (ao q_r)))),λds S kk hc hd h=>?_⟩;obtain⟨c,rfl,hj,hn,hs,h⟩:=h;cases c with
 |cmp a s b=>subst hj;rcases hv with h | h<;>cases h
 |neg c=>subst hj;rcases hv with h | h<;>cases h
 |con q cs=>
  unfold aI.dep at hn;unfold aI.sz at hs;unfold aI.sums at h;unfold dU;rw[iY];refine(bJ (dF (dU A) (λpre Z S'=>∃x,Z=[some (D.t (.ins (if q=true then A.fB else A.jh) ["conditions"] [.tup (cs.map (dU A))])),some (D.ob (S.length+0)),x]/\S'=S++[O.lst ((cZ pre).map (cY A))]) ⟨_,M,M⟩ ?_ ?_))
  .rintro pre c post Z S' N rfl ⟨x,rfl,rfl⟩ hN;have h1:=lA (c:=c) (l:=pre++c::post) (by simp);rw[BR,uH] at hs;have hs2:=sO pre;have hs3:=jj c;obtain⟨ns,l,i1,_,_,i2⟩:=pA A (S++[O.lst ((cZ pre).map (cY A))]) c;refine⟨trivial,⟨M,_,eG M⟩,xY c,ns,l,fq c,i1,i2,c,M,M,by omega,by omega,_,_,dH,M,ck (by simp;omega),?_⟩;rw[cB];refine hN _ _ ⟨_,M,?_⟩;rw[mj,cZ,cZ,jaJ,jam];rfl
  .rintro Z S' ⟨x,rfl,rfl⟩;exact⟨trivial,O4 hc rfl h⟩
abbrev di:Stmt:=inClass (top 10) 0
theorem jP:aj ["self","found","total"] ["self"] (aa di):=bW
seal aG in
theorem gJ {j:Nat}(J:Fx K mg A)(jV:n6 P w K mg base k A n)(bM:ee P w K mg base k A)(F:bG K "things" "Condition.things" di f fd):az P w K mg base bz (k+1) f fd ["self"] (aQ K (MA A n j)):=by
 refine aP F jP λAT B outer s H E hr=>?_;rw[show ai di=[_,_,_] from rfl];refine⟨_,(qs (aq (i:=1) jP.nd (gI af)) (qs (aZ jay rfl (qi (aW q_r jV hr)) (qg (i:=2) jP.nd) (aO (gk (yv q_r (qa (aW q_r bM hr) af))))) (aO (ao (aK bA (by rfl) J.bu jaK (qa (Vv rfl J.mH rfl J.Kz rfl q_r) af)))))),λds S kk hc hd h=>?_⟩;obtain⟨c,rfl,hj,hn,hf,h⟩:=h;obtain⟨hs0,hf⟩:=hf;have hs:c.sums.length<=14:=by have:=jj c;omega
 obtain⟨ns,l,i1,_,_,i2⟩:=pA A (S++[O.lst []]) c;have key:∀pre post:List Sm,c.sums=pre++post->(pre.map Sm.bC).flatten.length<=4*pre.length:=by
  intro pre post e;have hm:∀s∈pre,s.few:=λs hs'=>hf s (by rw[e];exact jaP _ hs');clear e
  induction pre with
  |nil=>exact jal _
  |cons a r ih=>
   rw[jax,jbb,jaf,jaj];have h1:=ih λs hs'=>hm s (jav _ hs');have h2:a.1.length<=4:=hm a jar;have h3:a.bC.length=a.1.length:=by unfold Sm.bC;rw[jab]
   omega
 refine⟨xY c,ns,l,fq c,i1,i2,c,M,M,hn,(by omega),jX (dF (cY A) (λpre Z S'=>∃x,Z=[some (D.t (dU A c)),some (D.ob (S.length+0)),x]/\S'=S++[O.lst ((pre.map Sm.bC).flatten.map T.str)]) ⟨_,M,M⟩ ?_ ?_)⟩
 .rintro pre s post Z S' N e ⟨x,rfl,rfl⟩ hN;have h1:=key pre (s::post) e;have h2:s.1.length<=4:=hf s (by rw[e];simp);have h3:s.bC.length=s.1.length:=by unfold Sm.bC;rw[jab]
  have h4:pre.length<=14:=by rw[e,jaf] at hs;omega
  refine⟨trivial,⟨M,_,eG M⟩,0,_,_,by decide,M,by symm,s,M,by omega,_,_,dH,M,ck (by rw[jab,jab];omega),?_⟩;rw[cB];refine hN _ _ ⟨_,M,?_⟩;rw[jam,List.flatten_append,jam];simp
 .rintro Z S' ⟨x,rfl,rfl⟩;have h1:=key c.sums [] (by simp);refine⟨trivial,_,(c.sums.map Sm.bC).flatten,eG M,by omega,by omega,λx hx=>hx,F1 hc h⟩
abbrev kD:Stmt:=top 27
theorem Cc:aj ["row"] ["row"] (aa kD):=bW
seal aG in
theorem CJ (J:Fx K mg A)(F:bG K "length_of" "length_of" kD f fd):az P w K mg base bz (k+1) f fd ["row"] (aQ K Jd):=by
 refine aP F Cc λAT B outer s H E hr=>?_;rw[show ai kD=[_] from rfl];refine⟨_,(aO (ao q_r)),λds S kk hc hd h=>?_⟩;obtain⟨x,rfl,h1,h⟩:=h;exact⟨jaR (Nat.add_le_add (jal _) h1) (by rw[ja7];symm),aL hc h⟩
abbrev kL:Stmt:=top 36
theorem Cf:aj ["thing"] ["thing"] (aa kL):=bW
seal aG in
theorem CS (J:Fx K mg A)(F:bG K "is_length" "is_length" kL f fd):az P w K mg base bz (k+1) f fd ["thing"] (aQ K Jl):=by
 refine aP F Cf λAT B outer s H E hr=>?_;rw[show ai kL=[_] from rfl];refine⟨_,(aO (ao (Zc q_r ak))),λds S kk hc hd h=>?_⟩;obtain⟨x,rfl,h⟩:=h;exact⟨M,aL hc h⟩
abbrev nE:Stmt:=inClass (top 18) 1
theorem EI:aj ["self"] ["self"] (aa nE):=bW
seal aG in
theorem vH (J:Fx K mg A)(c7:ie P w K mg base k A)(F:bG K "told" "Let.told" nE f fd):az P w K mg base bz (k+1) f fd ["self"] (aQ K (ku A n 0)):=by
 refine aP F EI λAT B outer s H E hr=>?_;rw[show ai nE=[_] from rfl];refine⟨_,(aO (ao (bx (qa aX (qa q_r (qa q_r (qa (aW q_r c7 hr) af))))))),λds S kk hc hd h=>?_⟩;obtain⟨s,rfl,hj,hd2,h⟩:=h;cases s with
 |lt a x s=>
  refine⟨0,_,_,by decide,M,by symm,s,M,aL hc h⟩
 |dv a x wd s b=>cases hj
 |ft a x r p=>cases hj
 |pt a r p s=>cases hj
 |mq a r z=>cases hj
 |cm a c=>cases hj
 |cl a ns g gs=>cases hj
abbrev iJ:Stmt:=inClass (top 19) 1
theorem yl:aj ["self"] ["self"] (aa iJ):=bW
seal aG in
theorem o8 (J:Fx K mg A)(c7:ie P w K mg base k A)(F:bG K "told" "Divide.told" iJ f fd):az P w K mg base bz (k+1) f fd ["self"] (aQ K (ku A n 1)):=by
 refine aP F yl λAT B outer s H E hr=>?_;rw[show ai iJ=[_] from rfl];refine⟨_,(aO (ao (bx (qa aX (qa q_r (qa q_r (qa q_r (qa (aW q_r c7 hr) (qa (aW q_r c7 hr) af))))))))),λds S kk hc hd h=>?_⟩;obtain⟨s,rfl,hj,hd2,h⟩:=h;cases s with
 |lt a x s=>cases hj
 |dv a x wd s b=>
  refine⟨0,_,_,by decide,M,by symm,s,M,0,_,_,by decide,M,by symm,b,M,aL hc h⟩
 |ft a x r p=>cases hj
 |pt a r p s=>cases hj
 |mq a r z=>cases hj
 |cm a c=>cases hj
 |cl a ns g gs=>cases hj
abbrev jv:Stmt:=inClass (top 20) 1
theorem zZ:aj ["self"] ["self"] (aa jv):=bW
seal aG in
theorem qW (J:Fx K mg A)(c7:ie P w K mg base k A)(F:bG K "told" "Fetch.told" jv f fd):az P w K mg base bz (k+1) f fd ["self"] (aQ K (ku A n 2)):=by
 refine aP F zZ λAT B outer s H E hr=>?_;rw[show ai jv=[_] from rfl];refine⟨_,(aO (ao (bx (qa aX (qa q_r (qa q_r (qa q_r (qa (aW q_r c7 hr) af)))))))),λds S kk hc hd h=>?_⟩;obtain⟨s,rfl,hj,hd2,h⟩:=h;cases s with
 |lt a x s=>cases hj
 |dv a x wd s b=>cases hj
 |ft a x r p=>
  refine⟨0,_,_,by decide,M,by symm,p,M,aL hc h⟩
 |pt a r p s=>cases hj
 |mq a r z=>cases hj
 |cm a c=>cases hj
 |cl a ns g gs=>cases hj
abbrev nB:Stmt:=inClass (top 21) 1
theorem EF:aj ["self"] ["self"] (aa nB):=bW
seal aG in
theorem vG (J:Fx K mg A)(c7:ie P w K mg base k A)(F:bG K "told" "Put.told" nB f fd):az P w K mg base bz (k+1) f fd ["self"] (aQ K (ku A n 3)):=by
 refine aP F EF λAT B outer s H E hr=>?_;rw[show ai nB=[_] from rfl];refine⟨_,(aO (ao (bx (qa aX (qa q_r (qa q_r (qa (aW q_r c7 hr) (qa (aW q_r c7 hr) af)))))))),λds S kk hc hd h=>?_⟩;obtain⟨s,rfl,hj,hd2,h⟩:=h;cases s with
 |lt a x s=>cases hj
 |dv a x wd s b=>cases hj
 |ft a x r p=>cases hj
 |pt a r p s=>
  refine⟨0,_,_,by decide,M,by symm,p,M,0,_,_,by decide,M,by symm,s,M,aL hc h⟩
 |mq a r z=>cases hj
 |cm a c=>cases hj
 |cl a ns g gs=>cases hj
abbrev kR:Stmt:=inClass (top 22) 1
theorem Cn:aj ["self"] ["self"] (aa kR):=bW
seal aG in
theorem tE (J:Fx K mg A)(c7:ie P w K mg base k A)(F:bG K "told" "Make.told" kR f fd):az P w K mg base bz (k+1) f fd ["self"] (aQ K (ku A n 4)):=by
 refine aP F Cn λAT B outer s H E hr=>?_;rw[show ai kR=[_] from rfl];refine⟨_,(aO (ao (bx (qa aX (qa q_r (qa q_r (qa (aW q_r c7 hr) af))))))),λds S kk hc hd h=>?_⟩;obtain⟨s,rfl,hj,hd2,h⟩:=h;cases s with
 |lt a x s=>cases hj
 |dv a x wd s b=>cases hj
 |ft a x r p=>cases hj
 |pt a r p s=>cases hj
 |mq a r z=>
  refine⟨0,_,_,by decide,M,by symm,z,M,aL hc h⟩
 |cm a c=>cases hj
 |cl a ns g gs=>cases hj
abbrev jz:Stmt:=inClass (top 23) 1
theorem Ab:aj ["self"] ["self"] (aa jz):=bW
seal aG in
theorem qX (J:Fx K mg A)(dM:j8 P w K mg base k A n)(F:bG K "told" "Claim.told" jz f fd):az P w K mg base bz (k+1) f fd ["self"] (aQ K (ku A n 5)):=by
 refine aP F Ab λAT B outer s H E hr=>?_;rw[show ai jz=[_] from rfl];refine⟨_,(aO (ao (bx (qa aX (qa q_r (qa (aW q_r dM hr) af)))))),λds S kk hc hd h=>?_⟩;obtain⟨s,rfl,hj,hd2,h⟩:=h;cases s with
 |lt a x s=>cases hj
 |dv a x wd s b=>cases hj
 |ft a x r p=>cases hj
 |pt a r p s=>cases hj
 |mq a r z=>cases hj
 |cm a c=>
  obtain⟨ns,l,i1,i2,_⟩:=pA A S c;refine⟨xY c,ns,l,fq c,i1,i2,c,M,M,(hd2.1 _ _ M).1,(hd2.1 _ _ M).2,aL hc h⟩
 |cl a ns g gs=>cases hj
abbrev nD:Stmt:=inClass (top 18) 2
theorem EH:aj ["self"] ["self"] (aa nD):=bW
seal aG in
theorem Fd (J:Fx K mg A)(bM:ee P w K mg base k A)(F:bG K "uses" "Let.uses" nD f fd):az P w K mg base bz (k+1) f fd ["self"] (aQ K (mQ A n 0)):=by
 refine aP F EH λAT B outer s H E hr=>?_;rw[show ai nD=[_] from rfl];refine⟨_,(aO (ao (bh aS q_r (aW q_r bM hr)))),λds S kk hc hd h=>?_⟩;obtain⟨s,rfl,hj,hf,hd2,h⟩:=h;cases s with
 |lt a x s=>
  have h1:s.1.length<=4:=hf.1;refine⟨0,_,_,by decide,M,by symm,s,M,by omega,ck ?_,aL hc h⟩;simp[Sm.bC];omega
 |dv a x wd s b=>cases hj
 |ft a x r p=>cases hj
 |pt a r p s=>cases hj
 |mq a r z=>cases hj
 |cm a c=>cases hj
 |cl a ns g gs=>cases hj
abbrev iI:Stmt:=inClass (top 19) 2
theorem yk:aj ["self"] ["self"] (aa iI):=bW
seal aG in
theorem yK (J:Fx K mg A)(bM:ee P w K mg base k A)(F:bG K "uses" "Divide.uses" iI f fd):az P w K mg base bz (k+1) f fd ["self"] (aQ K (mQ A n 1)):=by
 refine aP F yk λAT B outer s H E hr=>?_;rw[show ai iI=[_] from rfl];refine⟨_,(aO (ao (bh aS (bh aS q_r (aW q_r bM hr)) (aW q_r bM hr)))),λds S kk hc hd h=>?_⟩;obtain⟨s,rfl,hj,hf,hd2,h⟩:=h;cases s with
 |lt a x s=>cases hj
 |dv a x wd s b=>
  have h1:s.1.length<=4:=hf.1;have h2:b.1.length<=4:=hf.2;refine⟨0,_,_,by decide,M,by symm,s,M,by omega,ck ?_,0,_,_,by decide,M,by symm,b,M,by omega,ck ?_,aL hc ?_⟩
  .simp[Sm.bC];omega
  .simp[Sm.bC];omega
  .have e:mw (aV.us (.dv a x wd s b))=.tup (([T.str x]++s.bC.map T.str)++b.bC.map T.str):=by unfold mw aV.us;simp
   rw[e] at h;exact h
 |ft a x r p=>cases hj
 |pt a r p s=>cases hj
 |mq a r z=>cases hj
 |cm a c=>cases hj
 |cl a ns g gs=>cases hj
abbrev ju:Stmt:=inClass (top 20) 2
theorem zY:aj ["self"] ["self"] (aa ju):=bW
seal aG in
theorem Ag (J:Fx K mg A)(dc:fM P w K mg base k)(bM:ee P w K mg base k A)(F:bG K "uses" "Fetch.uses" ju f fd):az P w K mg base bz (k+1) f fd ["self"] (aQ K (mQ A n 2)):=by
 refine aP F zY λAT B outer s H E hr=>?_;rw[show ai ju=[_] from rfl];refine⟨_,(aO (ao (bh aS (bx (qa q_r (qa (ah dc hr rfl ak) af))) (aW q_r bM hr)))),λds S kk hc hd h=>?_⟩;obtain⟨s,rfl,hj,hf,hd2,h⟩:=h;cases s with
 |lt a x s=>cases hj
 |dv a x wd s b=>cases hj
 |ft a x r p=>
  have h1:p.1.length<=4:=hf.1;refine⟨r,M,by have:=hf.2;omega,0,_,_,by decide,M,by symm,p,M,by omega,ck ?_,aL hc h⟩;simp[Sm.bC];omega
 |pt a r p s=>cases hj
 |mq a r z=>cases hj
 |cm a c=>cases hj
 |cl a ns g gs=>cases hj
abbrev nA:Stmt:=inClass (top 21) 2
theorem EE:aj ["self"] ["self"] (aa nA):=bW
seal aG in
theorem Fb (J:Fx K mg A)(dc:fM P w K mg base k)(bM:ee P w K mg base k A)(F:bG K "uses" "Put.uses" nA f fd):az P w K mg base bz (k+1) f fd ["self"] (aQ K (mQ A n 3)):=by
 refine aP F EE λAT B outer s H E hr=>?_;rw[show ai nA=[_] from rfl];refine⟨_,(aO (ao (bh aS (bh aS (bx (qa (ah dc hr rfl ak) af)) (aW q_r bM hr)) (aW q_r bM hr)))),λds S kk hc hd h=>?_⟩;obtain⟨t,rfl,hj,hf,hd2,h⟩:=h;cases t with
 |lt a x s=>cases hj
 |dv a x wd s b=>cases hj
 |ft a x r p=>cases hj
 |pt a r p s=>
  have h1:p.1.length<=4:=hf.1;have h2:s.1.length<=4:=hf.2.1;refine⟨r,M,by have:=hf.2.2;omega,0,_,_,by decide,M,by symm,p,M,by omega,ck ?_,0,_,_,by decide,M,by symm,s,M,by omega,ck ?_,aL hc ?_⟩
  .simp[Sm.bC];omega
  .simp[Sm.bC];omega
  .have e:mw (aV.us (.pt a r p s))=.tup (([T.str (hsh r)]++p.bC.map T.str)++s.bC.map T.str):=by unfold mw aV.us;simp
   rw[e] at h;exact h
 |mq a r z=>cases hj
 |cm a c=>cases hj
 |cl a ns g gs=>cases hj
abbrev kQ:Stmt:=inClass (top 22) 2
theorem Ck:aj ["self"] ["self"] (aa kQ):=bW
seal aG in
theorem CW (J:Fx K mg A)(dc:fM P w K mg base k)(bM:ee P w K mg base k A)(F:bG K "uses" "Make.uses" kQ f fd):az P w K mg base bz (k+1) f fd ["self"] (aQ K (mQ A n 4)):=by
 refine aP F Ck λAT B outer s H E hr=>?_;rw[show ai kQ=[_] from rfl];refine⟨_,(aO (ao (bh aS (bx (qa (ah dc hr rfl ak) af)) (aW q_r bM hr)))),λds S kk hc hd h=>?_⟩;obtain⟨s,rfl,hj,hf,hd2,h⟩:=h;cases s with
 |lt a x s=>cases hj
 |dv a x wd s b=>cases hj
 |ft a x r p=>cases hj
 |pt a r p s=>cases hj
 |mq a r z=>
  have h1:z.1.length<=4:=hf.1;refine⟨r,M,by have:=hf.2;omega,0,_,_,by decide,M,by symm,z,M,by omega,ck ?_,aL hc h⟩;simp[Sm.bC];omega
 |cm a c=>cases hj
 |cl a ns g gs=>cases hj
abbrev jy:Stmt:=inClass (top 23) 2
theorem Aa:aj ["self"] ["self"] (aa jy):=bW
seal aG in
theorem Ai (J:Fx K mg A)(HH:DI P w K mg base k A n)(F:bG K "uses" "Claim.uses" jy f fd):az P w K mg base bz (k+1) f fd ["self"] (aQ K (mQ A n 5)):=by
 refine aP F Aa λAT B outer s H E hr=>?_;rw[show ai jy=[_] from rfl];refine⟨_,(aO (ao (aW q_r HH hr))),λds S kk hc hd h=>?_⟩;obtain⟨s,rfl,hj,hf,hd2,h⟩:=h;cases s with
 |lt a x s=>cases hj
 |dv a x wd s b=>cases hj
 |ft a x r p=>cases hj
 |pt a r p s=>cases hj
 |mq a r z=>cases hj
 |cm a c=>
  obtain⟨ns,l,i1,_,i2,_⟩:=pA A S c;exact⟨xY c,ns,l,fq c,i1,i2,c,M,M,hd2 _ _ M,hf,aL hc h⟩
 |cl a ns g gs=>cases hj
abbrev kY:Stmt:=inClass (top 26) 1
theorem Cr:aj ["self"] ["self"] (aa kY):=bW
seal aG in
theorem tG (J:Fx K mg A)(iZ:Dn P w K mg base k "told_each" ["parts"] (aQ K (wV A n 0)))(F:bG K "told" "Call.told" kY f fd):az P w K mg base bz (k+1) f fd ["self"] (aQ K (ku A n 6)):=by
 refine aP F Cr λAT B outer s H E hr=>?_;rw[show ai kY=[_] from rfl];refine⟨_,(aO (ao (bx (qa aX (qa q_r (qa q_r (qa q_r (qa (ah iZ hr rfl ak) af)))))))),λds S kk hc hd h=>?_⟩;obtain⟨s,rfl,hj,hd2,h⟩:=h;cases s with
 |lt a x s=>cases hj
 |dv a x wd s b=>cases hj
 |ft a x r p=>cases hj
 |pt a r p s=>cases hj
 |mq a r z=>cases hj
 |cm a c=>cases hj
 |cl a ns g gs=>
  have hl:gs.length<=8:=hd2.2 _ _ _ _ rfl;refine⟨gs.map (λs=>(cY A s,i8 s)),?_,by rw[jab];omega,?_,aL hc ?_⟩
  .rw[jaN];rfl
  .intro p hp;obtain⟨s,hs,rfl⟩:=jas.mp hp;exact⟨_,.m s⟩
  .rw[jaN];exact h
abbrev kX:Stmt:=inClass (top 26) 2
theorem mV:aj ["self","found","total"] ["self"] (aa kX):=bW
seal aG in
theorem C0 (J:Fx K mg A)(bM:ee P w K mg base k A)(F:bG K "uses" "Call.uses" kX f fd):az P w K mg base bz (k+1) f fd ["self"] (aQ K (mQ A n 6)):=by
 refine aP F mV λAT B outer s H E hr=>?_;rw[show ai kX=[_,_,_] from rfl];refine⟨_,(qs (aq (i:=1) mV.nd (aK Kq (by rfl) J.zq boot_list ak)) (qs (aZ jay rfl (qi q_r) (qg (i:=2) mV.nd) (aO (gk (yv q_r (qa (aW q_r bM hr) af))))) (aO (ao (aK bA (by rfl) J.bu jaK ak))))),λds S kk hc hd h=>?_⟩;obtain⟨s,rfl,hj,hf,hd2,h⟩:=h;cases s with
 |lt a x s=>cases hj
 |dv a x wd s b=>cases hj
 |ft a x r p=>cases hj
 |pt a r p s=>cases hj
 |mq a r z=>cases hj
 |cm a c=>cases hj
 |cl a ns g gs=>
  obtain⟨hf1,hf2,hf3⟩:=hf;refine(bJ (dF (cY A) (λpre Z S'=>∃y,Z=[some (D.t (jJ A (.cl a ns g gs))),some (D.ob (S.length+0)),y]/\S'=S++[O.lst ((ns++(pre.map Sm.bC).flatten).map T.str)]) ⟨_,M,by simp⟩ ?_ ?_))
  .rintro pre s post Z S' N e ⟨y,rfl,rfl⟩ hN;have h1:s.1.length<=4:=hf1 s (by rw[e];simp);have h2:=J6 (l:=pre) λs hs=>hf1 s (by rw[e];exact jaP _ hs);have h3:pre.length<=8:=by rw[e,jaf] at hf2;omega
   have h4:s.bC.length=s.1.length:=by unfold Sm.bC;rw[jab]
   refine⟨trivial,⟨M,_,eG M⟩,0,_,_,by decide,M,by symm,s,M,by omega,_,_,dH,M,ck (by rw[jab,jab,jaf];omega),?_⟩;rw[cB];refine hN _ _ ⟨_,M,?_⟩;simp
  .rintro Z S' ⟨y,rfl,rfl⟩;have h2:=J6 hf1;exact⟨trivial,oe (ZR (eG M)) (F1 hc h)⟩
abbrev bQ:Stmt:=inClass (top 17) 2
theorem yh:aj ["self"] ["self"] (aa bQ):=bW
seal aG in
theorem cS {j:Nat}(J:Fx K mg A)(F:bG K "blocks" "Step.blocks" bQ f fd):az P w K mg base bz (k+1) f fd ["self"] (aQ K (MT A j)):=by
 refine aP F yh λAT B outer s H E hr=>?_;rw[show ai bQ=[_] from rfl];refine⟨_,(aO (ao q_r)),λds S kk hc hd h=>?_⟩;obtain⟨s,rfl,hj,h⟩:=h;exact(aL hc h)
abbrev ng:Stmt:=top 28
theorem Ey:aj ["pairs"] ["pairs"] (aa ng):=bW
seal aG in
theorem E6 (J:Fx K mg A)(F:bG K "as_pairs" "as_pairs" ng f fd):az P w K mg base bz (k+1) f fd ["pairs"] (aQ K (Ja A)):=by
 refine aP F Ey λAT B outer s H E hr=>?_;rw[show ai ng=[_] from rfl];refine⟨_,(aO (ao (aK bA (by rfl) J.bu jaK (qa (cu (aM ["pair"] [] [] rfl (by symm) (by symm) (by with_unfolding_all rfl) (by exact trivial) (by rfl) rfl (by rfl)) rfl (qi q_r) (λ_ _ _ _=>(qx (i:=0) (show List.Nodup (["pair"]:jcR) by symm))) (λ_ _ _ _=>bD) (λ_ _ _ _=>(aK bA (by rfl) J.bu jaK ak))) af)))),λds S kk hc hd h=>?_⟩;obtain⟨d,l,rfl,h1,h2,h⟩:=h;exact(Uh h1 λG hG=>cV (atT A) (atT A) (by simpa using hG []) (ck (by omega)) (λx _ k' hk=>⟨_,M,hk⟩) (aL hc h))
abbrev jn:Stmt:=top 30
theorem zU:aj ["pairs"] ["pairs"] (aa jn):=bW
seal aG in
theorem Ae (J:Fx K mg A)(dM:j8 P w K mg base k A n)(F:bG K "told_pairs" "told_pairs" jn f fd):az P w K mg base bz (k+1) f fd ["pairs"] (aQ K (IZ A n)):=by
 refine aP F zU λAT B outer s H E hr=>?_;rw[show ai jn=[_] from rfl];refine⟨_,(aO (ao (aK bA (by rfl) J.bu jaK (qa (cu (aM ["at","condition"] [] [] rfl (by symm) (by symm) (by with_unfolding_all rfl) (by exact trivial) (by rfl) rfl (by rfl)) rfl (qi q_r) (λ_ _ _ _=>(jQ (n:=2) rfl (zO (qx (i:=0) (show List.Nodup (["at","condition"]:jcR) by symm)) (zO (qx (i:=1) (show List.Nodup (["at","condition"]:jcR) by symm)) gH)))) (λ_ _ _ _=>bD) (λ_ _ _ _=>(bx (qa q_r (qa (aW q_r dM hr) af))))) af)))),λds S kk hc hd h=>?_⟩;obtain⟨l,rfl,h1,h2,h⟩:=h;refine(bJ (cV (atT A) P0 trivial (ck (by omega)) (λx hx k' hk=>?_) (aL hc h)));obtain⟨ns,l,i1,i2,_⟩:=pA A S x.2;exact⟨_,M,M,_,_,M,_,_,M,M,xY x.2,ns,l,fq x.2,i1,i2,x.2,M,M,(h2 x hx).1,(h2 x hx).2,_,M,hk⟩
abbrev kC:Stmt:=top 29
theorem Cb:aj ["parts"] ["parts"] (aa kC):=bW
seal aG in
theorem nO {q:Nat}(J:Fx K mg A)(NY:ID P w K mg base k A n q)(F:bG K "told_each" "told_each" kC f fd):az P w K mg base bz (k+1) f fd ["parts"] (aQ K (wV A n q)):=by
 refine aP F Cb λAT B outer s H E hr=>?_;rw[show ai kC=[_] from rfl];refine⟨_,(aO (ao (aK bA (by rfl) J.bu jaK (qa (cu (aM ["part"] [] [] rfl (by symm) (by symm) (by with_unfolding_all rfl) (by exact trivial) (by rfl) rfl (by rfl)) rfl (qi q_r) (λ_ _ _ _=>(qx (i:=0) (show List.Nodup (["part"]:jcR) by symm))) (λ_ _ _ _=>bD) (λ_ _ _ _=>(aW q_r NY hr))) af)))),λds S kk hc hd h=>?_⟩;obtain⟨l,rfl,h1,h2,h⟩:=h;refine(bJ (cV (λp:T×T=>p.1) (λp=>p.2) trivial (ck (by omega)) (λx hx k' hk=>?_) (aL hc h)));obtain⟨j,tx⟩:=h2 x hx;obtain⟨ns,l,i1,i2,i3⟩:=ZZ A S tx;exact⟨j,ns,l,i3,i1,i2,x.1,x.2,M,tx,_,M,hk⟩
abbrev gz:Stmt:=top 32
theorem fP:aj ["steps","found","step","block"] ["steps"] (aa gz):=bW
seal aG in
theorem v8 (J:Fx K mg A)(yQ:zB P w K mg base k A)(jZ:Dn P w K mg base k "steps_within" ["steps"] (aQ K KP))(F:bG K "steps_within" "steps_within" gz f fd):az P w K mg base bz (k+1) f fd ["steps"] (aQ K (Ei A)):=by
 refine aP F fP λAT B outer s H E hr=>?_;rw[show ai gz=[_,_,_] from rfl];refine⟨_,(qs (aq (i:=1) fP.nd (gI af)) (qs (aZ jay rfl (qi q_r) (qg (i:=2) fP.nd) (qs (gk (oq q_r ak)) (aO (aZ jay rfl (qi (aW q_r yQ hr)) (qg (i:=3) fP.nd) (aO (gk (yv q_r (qa (ah jZ hr rfl ak) af)))))))) (aO (ao q_r)))),λds S kk hc hd h=>?_⟩;obtain⟨d,l,rfl,h1,h2,h⟩:=h;refine(JR h1 λG hG=>dF (jJ A) (λpre Z S'=>∃x y,Z=[some d,some (D.ob (S.length+0)),x,y]/\S'=S++[O.lst (pre.map (jJ A))]) ⟨_,_,M,M⟩ ?_ ?_)
 .rintro pre s post Z S' N rfl ⟨x,y,rfl,rfl⟩ hN;obtain⟨ns,l,i1,_,_,i2,_⟩:=JT A (S++[O.lst (pre.map (jJ A)++[jJ A s])]) s;refine⟨hG _,⟨M,_,eG M⟩,_,dH,vS (by simp at h2 ⊢;omega),?_⟩;rw[cB];refine⟨kd s,ns,l,qZ s,i1,i2,s,M,M,bJ ⟨trivial,hN _ _ ⟨_,_,M,?_⟩⟩⟩;rw[jam];rfl
 .rintro Z S' ⟨x,y,rfl,rfl⟩;exact⟨hG _,O4 hc rfl h⟩
abbrev gA:Stmt:=top 33
theorem om:aj ["step","rows"] ["step"] (aa gA):=bW
seal aG in
theorem v9 (J:Fx K mg A)(Wq:Px P w K mg base k A n)(F:bG K "rows_of_step" "rows_of_step" gA f fd):az P w K mg base bz (k+1) f fd ["step"] (aQ K (Ej A n)):=by
 refine aP F om λAT B outer s H E hr=>?_;rw[show ai gA=[_,_,_] from rfl];refine⟨_,(qs (aq (i:=1) om.nd (gI (qa (bx (qa q_r (qa (aW q_r Wq hr) af))) af))) (qs (aR (fu (aU (mG (c:=.ref A.fT) trivial M) (by rfl) J.bB jbk (qa q_r (qa (iW (cA (v:=.ref A.fT) rfl J.Gb.g M)) af)))) iN aD) (aO (ao q_r)))),λds S kk hc hd h=>?_⟩;obtain⟨s,rfl,ok,h⟩:=h;obtain⟨ns,l,i1,_,i2,_,i3⟩:=JT A S s;refine(oe i1 (oe i3 ⟨kd s,ns,l,qZ s,i1,i2,s,M,M,ok.few,ok.dep,M,_,false,A0 A _ s,tN (i:=8) J.kk (by have:=qZ s;omega) (by decide) (by have:=qZ s;omega),_,M,O4 (j:=0) hc rfl h⟩))
abbrev gB:Stmt:=top 34
theorem eB:aj ["helper","found","step","at","things"] ["helper"] (aa gB):=bW
seal aG in
theorem wc (J:Fx K mg A)(jZ:vg P w K mg base k A)(zk:vh P w K mg base k A n)(F:bG K "other_things" "other_things" gB f fd):az P w K mg base bz (k+1) f fd ["helper"] (aQ K (Jb A n)):=by
 refine aP F eB λAT B outer s H E hr=>?_;rw[show ai gB=[_,_,_] from rfl];refine⟨_,(qs (aq (i:=1) eB.nd (aK Kq (by rfl) J.zq boot_list ak)) (qs (aZ jay rfl (qi (ah jZ hr rfl ak)) (qg (i:=2) eB.nd) (aO (aZ jay rfl (qi (ah zk hr rfl ak)) (gX (n:=2) rfl (uA (qg (i:=3) eB.nd) (uA (qg (i:=4) eB.nd) fc))) (aO (gk (yv q_r ak)))))) (aO (ao (a2d rfl J.mH rfl J.Kz rfl q_r q_r))))),λds S kk hc hd h=>?_⟩;obtain⟨x,N,rfl,ok,h⟩:=h;obtain⟨p1,p2,p3,_⟩:=ok.pl;have hlen:∀l:List aV,(∀s∈l,s∈x.steps)->((l.map aV.us).flatten).length<=56*l.length:=by
  intro l
  induction l with
  |nil=>intro _;exact jal _
  |cons a r ih=>
   intro hm;rw[jax,jbb,jaf,jaj];have:=ih λs hs'=>hm s (jav _ hs');have:=Mf (ok.st a (hm a jar));omega
 refine⟨_,_,M,M,by omega,jX ?_⟩;refine dF (jJ A) (λpre Z S'=>∃y z w,Z=[some (D.t (pB A x)),some (D.ob (S.length+0)),y,z,w]/\S'=S++[O.lst ((x.answers++(pre.map aV.us).flatten).map T.str)]) ⟨_,_,_,M,by simp⟩ ?_ ?_
 .rintro pre s post Z S' Nx e ⟨y,z,w,rfl,rfl⟩ hN;have hs:s∈x.steps:=by rw[e];simp
  have hu:=Mf (ok.st s hs);have h1:=hlen pre λs hs'=>by rw[e];exact jaP _ hs'
  have h2:pre.length<=12:=by rw[e,jaf] at p3;omega
  refine⟨trivial,s,M,ok.st s hs,jX ⟨trivial,_,M,M,_,_,M,_,_,M,M,?_⟩⟩;refine⟨⟨M,_,eG M⟩,_,_,dH,M,ck (by rw[jab,jab,jaf];omega),?_⟩;rw[cB];refine⟨trivial,hN _ _ ⟨_,_,_,M,?_⟩⟩;rw[jam (l₁:=pre),List.flatten_append];simp
 .rintro Z S' ⟨y,z,w,rfl,rfl⟩;have h1:=hlen x.steps λ_ h=>h;refine⟨trivial,_,N,eG M,by rw[jaf];omega,ok.nl,?_,x.params,M,by omega,F1 hc h⟩;intro u hu;rcases jau.mp hu with hu | hu
  .exact ok.an u hu
  .obtain⟨l,hl,hul⟩:=ja5.mp hu;obtain⟨s,hs,rfl⟩:=jas.mp hl;exact ok.us s hs u hul
abbrev iH:Stmt:=inClass (top 66) 0
theorem yj:aj ["self","at","name","params","answers","needs","gives","steps"] ["self","at","name","params","answers","needs","gives","steps"] (aa iH):=bW
seal aG in
theorem yJ (J:Fx K mg A)(zm:DP P w K mg base k A)(F:bG K "__init__" "Helper.__init__" iH f fd):az P w K mg base bz (k+1) f fd ["self","at","name","params","answers","needs","gives","steps"] (aQ K (TL A)):=by
 refine aP F yj λAT B outer s H E hr=>?_;rw[show ai iH=[_,_,_,_,_,_,_] from rfl];refine⟨_,(qs (bf q_r q_r M) (qs (bf q_r q_r M) (qs (bf q_r (aK bA (by rfl) J.bu jaK ak) M) (qs (bf q_r (aK bA (by rfl) J.bu jaK ak) M) (qs (bf q_r (ah zm hr rfl ak) M) (qs (bf q_r (ah zm hr rfl ak) M) (aO (bf q_r (aK bA (by rfl) J.bu jaK ak) M)))))))),λds S kk hc hd h=>?_⟩;obtain⟨i,a,x,d1,d2,d3,d4,d5,h,rfl,h1,e1,e2,e3,e4,e5,l3,l4,hk⟩:=h;have hz:=(jao.mp h1).1;refine⟨_,_,_,_,M,h1,J.i6.n.1,by decide,_,_,_,_,M,Lw hz,J.i6.n.2.1,by decide,?_⟩;rw[jaC];refine(oe (vz (rE h1 e1)) ⟨_,_,_,_,M,Lw hz,J.i6.n.2.2.1,by decide,?_⟩);rw[jaC];refine(oe (vz (rE h1 e2)) ⟨_,_,_,_,M,Lw hz,J.i6.n.2.2.2.1,by decide,?_⟩);rw[jaC];refine⟨_,_,M,rE h1 e3,l3,_,_,_,_,M,Lw hz,J.i6.n.2.2.2.2.1,by decide,?_⟩;rw[jaC];refine⟨_,_,M,rE h1 e4,l4,_,_,_,_,M,Lw hz,J.i6.n.2.2.2.2.2.1,by decide,?_⟩;rw[jaC];refine(oe (vz (rE h1 e5)) ⟨_,_,_,_,M,Lw hz,J.i6.n.2.2.2.2.2.2.1,by decide,?_⟩);rw[jaC];exact .inr (.inr (.inr hk))
abbrev gE:Stmt:=inClass (top 67) 0
theorem vW:aj ["self","helpers"] ["self","helpers"] (aa gE):=bW
seal aG in
theorem wj (J:Fx K mg A)(F:bG K "__init__" "Program.__init__" gE f fd):az P w K mg base bz (k+1) f fd ["self","helpers"] (aQ K (Tv A)):=by
 refine aP F vW λAT B outer s H E hr=>?_;rw[show ai gE=[_] from rfl];refine⟨_,(aO (bf q_r (aK bA (by rfl) J.bu jaK ak) M)),λds S kk hc hd h=>?_⟩;obtain⟨i,d,hs,rfl,h1,e1,hk⟩:=h;exact(oe (vz e1) ⟨_,_,_,_,M,h1,J.BD.n.1,by decide,.inr (.inr (.inr hk))⟩)
abbrev wW:Stmt:=inClass (top 67) 1
theorem Ew:aj ["self","name","helper"] ["self","name"] (aa wW):=bW
seal aG in
theorem NG (J:Fx K mg A)(F:bG K "named" "Program.named" wW f fd):az P w K mg base bz (k+1) f fd ["self","name"] (aQ K (Jc A)):=by
 refine aP F Ew λAT B outer s H E hr=>?_;rw[show ai wW=[_,_] from rfl];refine⟨_,(qs (aZ jay rfl (qi q_r) (qg (i:=2) Ew.nd) (aO (aR (aE (cU 40 (uE hr)) q_r q_r (aF _)) (aO (ao q_r)) aD))) (aO (ao TY))),λds S kk hc hd h=>?_⟩;obtain⟨x,hl,hs,rfl,hf,h⟩:=h;refine(bJ (dF (pB A) (λpre Z S'=>∃y,Z=[some (D.t (Bf A hs)),some (D.str x),y]/\S'=S/\pre.find? (λy=>decide (y.name=x))=none) ⟨_,M,M,M⟩ ?_ ?_))
 .rintro pre z post Z S' N e ⟨y,rfl,rfl,hn⟩ hN;refine⟨trivial,?_⟩;by_cases q:z.name=x
  .refine⟨true,jah D.bl (seq q),aL hc ?_⟩;rw[e,List.find?_append,hn,Option.none_or,jcD (by simpa using q)] at hf;cases hf;exact h
  .refine⟨false,jah D.bl (dS q),hN _ _ ⟨_,M,M,?_⟩⟩;rw[List.find?_append,hn,Option.none_or,jb5 (by simpa using q)];rfl
 .rintro Z S' ⟨y,rfl,rfl,hn⟩;rw[hn] at hf;cases hf
abbrev gD:Stmt:=inClass (top 67) 2
theorem vV:aj ["self"] ["self"] (aa gD):=bW
seal aG in
theorem wg (J:Fx K mg A)(iZ:Dn P w K mg base k "told_each" ["parts"] (aQ K (wV A n 2)))(F:bG K "told" "Program.told" gD f fd):az P w K mg base bz (k+1) f fd ["self"] (aQ K (xT A n)):=by
 refine aP F vV λAT B outer s H E hr=>?_;rw[show ai gD=[_] from rfl];refine⟨_,(aO (ao (ah iZ hr rfl ak))),λds S kk hc hd h=>?_⟩;obtain⟨hs,rfl,hl,tx,h⟩:=h;refine⟨hs.map (λx=>(pB A x,pC x)),?_,by rw[jab];exact hl,λp hp=>?_,aL hc ?_⟩
 .rw[jaN];rfl
 .obtain⟨x,hx,rfl⟩:=jas.mp hp;exact⟨7,.h x (tx x hx) (jal _)⟩
 .rw[jaN];exact h
abbrev iG:Stmt:=inClass (top 66) 1
theorem yi:aj ["self"] ["self"] (aa iG):=bW
seal aG in
theorem o7 (J:Fx K mg A)(iZ:Dn P w K mg base k "told_each" ["parts"] (aQ K (wV A n 1)))(t6:zD P w K mg base k A n)(F:bG K "told" "Helper.told" iG f fd):az P w K mg base bz (k+1) f fd ["self"] (aQ K (xW A n)):=by
 refine aP F yi λAT B outer s H E hr=>?_;rw[show ai iG=[_] from rfl];refine⟨_,(aO (ao (bx (qa aX (qa q_r (qa q_r (qa q_r (qa q_r (qa (ah t6 hr rfl ak) (qa (ah t6 hr rfl ak) (qa (ah iZ hr rfl ak) af))))))))))),λds S kk hc hd h=>?_⟩;obtain⟨x,rfl,tx,h⟩:=h;obtain⟨h1,h2,h3,hl⟩:=tx;refine⟨x.needs,M,hl.1,h1,x.gives,M,hl.2.1,h2,x.steps.map (λs=>(jJ A s,zN s)),?_,by rw[jab];exact hl.2.2,?_,aL hc ?_⟩
 .rw[jaN];rfl
 .intro p hp;obtain⟨s,hs,rfl⟩:=jas.mp hp;exact⟨_,.s s (h3 s hs) (jal _)⟩
 .rw[jaN];exact h
abbrev qF:Stmt:=top 46
theorem G5:aj ["one","other"] ["one","other"] (aa qF):=bW
seal aG in
theorem HB (J:Fx K mg A)(gZ:lF P w K mg base k A)(F:bG K "at_most" "at_most" qF f fd):az P w K mg base bz (k+1) f fd ["one","other"] (aQ K (TU A)):=by
 refine aP F G5 λAT B outer s H E hr=>?_;rw[show ai qF=[_] from rfl];refine⟨_,(aO (ao (fz gZ hr rfl ak))),λds S kk hc hd h=>?_⟩;obtain⟨a,b,rfl,h⟩:=h;exact⟨_,[cY A a,.str "<=",cY A b],M,M,au,made (aL hc (by unfold zP dU at h;exact h))⟩
abbrev iA:Stmt:=top 47
theorem ye:aj ["total"] ["total"] (aa iA):=bW
seal aG in
theorem yG (J:Fx K mg A)(gi:pV P w K mg base k A)(lu:n8 P w K mg base k A)(F:bG K "from_nought" "from_nought" iA f fd):az P w K mg base bz (k+1) f fd ["total"] (aQ K (TN A)):=by
 refine aP F ye λAT B outer s H E hr=>?_;rw[show ai iA=[_] from rfl];refine⟨_,(aO (ao (ah gi hr rfl (qa (fz lu hr rfl ak) ak)))),λds S kk hc hd h=>?_⟩;obtain⟨a,rfl,h⟩:=h;exact⟨_,_,[],0,M,au,M,by simp,made ⟨([],0),a,M,aL hc h⟩⟩
abbrev Jt:Stmt:=top 48
theorem Vg:aj ["thing","total"] ["thing","total"] (aa Jt):=bW
seal aG in
theorem Wb (J:Fx K mg A)(F:bG K "let" "let" Jt f fd):az P w K mg base bz (k+1) f fd ["thing","total"] (aQ K (TF A)):=by
 refine aP F Vg λAT B outer s H E hr=>?_;rw[show ai Jt=[_] from rfl];refine⟨_,(aO (ao q_r)),λds S kk hc hd h=>?_⟩;obtain⟨x,s,rfl,h⟩:=h;exact(aL hc h)
abbrev Cw:Stmt:=top 49
theorem QF:aj ["condition"] ["condition"] (aa Cw):=bW
seal aG in
theorem RC (J:Fx K mg A)(F:bG K "hold" "hold" Cw f fd):az P w K mg base bz (k+1) f fd ["condition"] (aQ K (MQ A)):=by
 refine aP F QF λAT B outer s H E hr=>?_;rw[show ai Cw=[_] from rfl];refine⟨_,(aO (ao q_r)),λds S kk hc hd h=>?_⟩;obtain⟨c,rfl,h⟩:=h;exact(aL hc h)
abbrev m5:Stmt:=top 50
theorem Ex:aj ["writings"] ["writings"] (aa m5):=bW
seal aG in
theorem E3 (J:Fx K mg A)(nY:pU P w K mg base k A)(F:bG K "holds_of" "holds_of" m5 f fd):az P w K mg base bz (k+1) f fd ["writings"] (aQ K (Jm A)):=by
 refine aP F Ex λAT B outer s H E hr=>?_;rw[show ai m5=[_] from rfl];refine⟨_,(aO (ao (aK bA (by rfl) J.bu jaK (qa (cu (aM ["at","condition"] [] [] rfl (by symm) (by symm) (by with_unfolding_all rfl) (by exact trivial) (by rfl) rfl (by rfl)) rfl (qi q_r) (λ_ _ _ _=>(jQ (n:=2) rfl (zO (qx (i:=0) (show List.Nodup (["at","condition"]:jcR) by symm)) (zO (qx (i:=1) (show List.Nodup (["at","condition"]:jcR) by symm)) gH)))) (λ_ _ _ _=>bD) (λ_ _ _ _=>(ah nY hr rfl ak))) af)))),λds S kk hc hd h=>?_⟩;obtain⟨l,rfl,h1,h⟩:=h;refine(bJ (cV (atT A) (λp=>nG A (.hd p.2)) trivial (ck (by omega)) (λx hx k' hk=>⟨_,M,M,_,_,M,_,_,M,M,x.2,M,_,M,hk⟩) (aL hc ?_)));rw[jaN] at h;exact h
abbrev ir:Stmt:=top 51
theorem xZ:aj ["thing"] ["thing"] (aa ir):=bW
seal aG in
theorem yC (J:Fx K mg A)(pL:rB P w K mg base k)(nY:pU P w K mg base k A)(fJ:jc P w K mg base k A)(ic:pR P w K mg base k A)(F:bG K "rows_of_any" "rows_of_any" ir f fd):az P w K mg base bz (k+1) f fd ["thing"] (aQ K (A6 A)):=by
 refine aP F xZ λAT B outer s H E hr=>?_;rw[show ai ir=[_,_] from rfl];refine⟨_,(qs (aR (fu (ah pL hr rfl ak)) (aO (ao (bx (qa q_r (qa (ah nY hr rfl (qa (ah fJ hr rfl (qa (ah ic hr rfl ak) af)) af)) af))))) aD) (aO (ao q_r))),λds S kk hc hd h=>?_⟩;obtain⟨x,rfl,h⟩:=h;refine⟨x,M,_,M,?_⟩;unfold aT at h;cases e:Txt.startswith x "#" with
 |true=>
  rw[jae e] at h;exact⟨x,M,on x,M,_,M,aL hc h⟩
 |false=>
  rw[jad (by rw[e];decide)] at h;exact(aL hc h)
abbrev fR:Stmt:=top 52
theorem cM:aj ["helper","path","param","thing"] ["helper"] (aa fR):=bW
seal aG in
theorem uT (J:Fx K mg A)(Io:DM P w K mg base k A)(zl:vj P w K mg base k A n)(q9:xJ P w K mg base k A)(lu:n8 P w K mg base k A)(cL:fY P w K mg base k A)(F:bG K "path_at_first" "path_at_first" fR f fd):az P w K mg base bz (k+1) f fd ["helper"] (aQ K (I9 A n)):=by
 refine aP F cM λAT B outer s H E hr=>?_;rw[show ai fR=[_,_,_,_] from rfl];refine⟨_,(qs (aq (i:=1) cM.nd q_r) (qs (aZ jay rfl (qi q_r) (qg (i:=2) cM.nd) (aO (aq (i:=1) cM.nd (bh aS q_r (ah cL hr rfl ak))))) (qs (aZ jay rfl (qi (ah zl hr rfl ak)) (qg (i:=3) cM.nd) (aO (aq (i:=1) cM.nd (bh aS q_r (bx (qa (ah q9 hr rfl (qa q_r (qa (fz lu hr rfl ak) af))) af)))))) (aO (ao (bh aS q_r (ah Io hr rfl ak))))))),λds S kk hc hd h=>?_⟩;obtain⟨x,N,rfl,ok,h⟩:=h;obtain⟨p1,p2,p3,p4,p5⟩:=ok.pl;refine(bJ ?_);refine dF T.str (λpre Z S'=>∃y z,Z=[some (D.t (pB A x)),some (.tup (((pre.map aT).flatten).map (nG A))),y,z]/\S'=S) ⟨_,_,M,M⟩ ?_ ?_
 .rintro pre s post Z S' Nx e ⟨y,z,rfl,rfl⟩ hN;have h1:=fG pre;have h2:=fX s;have h3:pre.length<=8:=by rw[e,jaf] at p1;omega
  refine⟨trivial,s,M,ck (by rw[jab,jab];omega),?_⟩;rw[<- jI];exact hN _ _ ⟨_,_,M,M⟩
 .rintro Z S0 ⟨y,z,rfl,rfl⟩;have h1:=fG x.params;have h2:=CH ok;refine⟨trivial,x,N,M,ok,jX ?_⟩;refine dF T.str (λpre Z S'=>∃y z,Z=[some (D.t (pB A x)),some (.tup ((((x.params.map aT).flatten)++pre.map λx=>eX.lt x ([],0)).map (nG A))),y,z]/\S'=S0) ⟨y,z,by rw[jbC,jaJ],M⟩ ?_ ?_
  .rintro pre s post Z S' Nx e ⟨y,z,rfl,rfl⟩ hN;have h3:pre.length<=8:=by rw[e,jaf] at h2;omega
   refine⟨trivial,_,_,[],0,M,au,M,by simp,made ⟨s,([],0),M,ck (by simp only[jaf,jab,jaj,jaT];omega),?_⟩⟩;have e2:(((x.params.map aT).flatten)++(pre++[s]).map λx=>eX.lt x ([],0)).map (nG A)=(((x.params.map aT).flatten)++pre.map λx=>eX.lt x ([],0)).map (nG A)++[nG A (.lt s ([],0))]:=by simp
   rw[<- e2];exact hN _ _ ⟨_,_,M,M⟩
  .rintro Z S' ⟨y,z,rfl,rfl⟩;refine⟨trivial,x.needs,M,by omega,ck (by simp only[jaf,jab,jaj,jaT];omega),aL hc ?_⟩;rw[<- jam];exact h
abbrev k6:Stmt:=inClass (top 43) 0
theorem Ct:aj ["self","program"] ["self","program"] (aa k6):=bW
seal aG in
theorem C2 (J:Fx K mg A)(F:bG K "__init__" "Book.__init__" k6 f fd):az P w K mg base bz (k+1) f fd ["self","program"] (aQ K (TR A)):=by
 refine aP F Ct λAT B outer s H E hr=>?_;rw[show ai k6=[_,_] from rfl];refine⟨_,(qs (bf q_r q_r M) (aO (bf q_r (gI af) M))),λds S kk hc hd h=>?_⟩;obtain⟨i,pg,rfl,h1,h⟩:=h;have hz:=(jao.mp h1).1;refine⟨_,_,_,_,M,h1,J.Ir.n.1,by decide,_,_,_,_,M,lD (Lw hz),J.Ir.n.2.1,by decide,?_⟩;rw[jb7 _ _ (by rw[jaE];exact hz),jaC,jaE];exact mL h
abbrev Js:Stmt:=inClass (top 43) 1
theorem Vf:aj ["self","path","kind","at","condition"] ["self","path","kind","at","condition"] (aa Js):=bW
seal aG in
theorem Wa {q:Nat}(J:Fx K mg A)(nY:pU P w K mg base k A)(WH:Pz P w K mg base k A)(F:bG K "owe" "Book.owe" Js f fd):az P w K mg base bz (k+1) f fd ["self","path","kind","at","condition"] (aQ K (MF A q)):=by
 obtain⟨Qo,nU⟩:=J.nU;refine aP F Vf λAT B outer s H E hr=>?_;rw[show ai Js=[_,_,_] from rfl];refine⟨_,(qs (aR (aE (cU 40 (uE hr)) (aU eO (by rfl) J.eS jaQ ak) (iW (cA (v:=.int 100) rfl nU ⟨_,M⟩)) (aF _)) iN aD) (qs (gk (oq q_r (qa (fz WH hr rfl ak) af))) (aO (ao (bh aS q_r (bx (qa (ah nY hr rfl ak) af))))))),λds S kk hc hd h=>?_⟩;obtain⟨i,j,pg,cy,p,kn,a,c,rfl,hB,h1,h2,h⟩:=h;refine(oe (oA hB.1) (oe rfl (oe (jL hB.2) ⟨_,M,?_⟩)));rw[rP,jb0,jat (by rw[jab];omega)];refine(oe (oA hB.1) ⟨⟨M,_,fH hB.2⟩,_,[.str kn,.int a,.tup (p.map (nG A)),dU A c],M,M,au,made ⟨_,hB.2,vS (by rw[jab];omega),?_⟩⟩);refine⟨c,M,ck (by simp;omega),mL ?_⟩;rw[jam,jam] at h;exact h
abbrev mW:Stmt:=inClass (top 43) 2
theorem kB:aj ["self","path","kind","writings","at","condition"] ["self","path","kind","writings"] (aa mW):=bW
seal aG in
theorem EY {q:Nat}(J:Fx K mg A)(tL:xH P w K mg base k A)(F:bG K "owe_each" "Book.owe_each" mW f fd):az P w K mg base bz (k+1) f fd ["self","path","kind","writings"] (aQ K (GW A q)):=by
 refine aP F kB λAT B outer s H E hr=>?_;rw[show ai mW=[_,_] from rfl];refine⟨_,(qs (aZ jay rfl (qi q_r) (gX (n:=2) rfl (uA (qg (i:=4) kB.nd) (uA (qg (i:=5) kB.nd) fc))) (aO (aq (i:=1) kB.nd (cD q_r tL hr ak)))) (aO (ao q_r))),λds S kk hc hd h=>?_⟩;obtain⟨i,j,pg,cy,p,kn,l,rfl,hB,h1,h2,h⟩:=h;refine(bJ (dF (atT A) (λpre Z S'=>∃y z,Z=[some (D.ob i),some (.tup ((br kn p pre).2.map (nG A))),some (.str kn),some (.tup (l.map (atT A))),y,z]/\S'=S.set j (.lst ((cy++(br kn p pre).1).map (An A)))) ⟨_,_,M,?_⟩ ?_ ?_))
 .have e:cy++(br kn p []).1=cy:=by unfold br;simp
  rw[e,set_same hB.2]
 .rintro pre x post Z S' N e ⟨y,z,rfl,rfl⟩ hN;have hl1:=qK kn p pre;have hl2:=u5 kn p pre;have hp:pre.length<l.length:=by rw[e];simp
  refine⟨trivial,_,M,M,_,_,M,_,_,M,M,?_⟩;refine⟨0,_,_,by decide,oA (hB.put _).1,by symm,i,j,pg,_,_,kn,x.1,x.2,M,hB.put _,by rw[jaf];omega,by omega,?_⟩;rw[jaC,jaX,<- rV,<- rT];exact hN _ _ ⟨_,_,M,M⟩
 .rintro Z S' ⟨y,z,rfl,rfl⟩;exact⟨trivial,mL h⟩
abbrev kK:Stmt:=top 56
theorem sR:aj ["step","last"] ["step"] (aa kK):=bW
seal aG in
theorem CQ (J:Fx K mg A)(iO:mK P w K mg base k A)(gi:pV P w K mg base k A)(fJ:jc P w K mg base k A)(ic:pR P w K mg base k A)(dc:fM P w K mg base k)(HK:Gn P w K mg base k A)(lu:n8 P w K mg base k A)(F:bG K "is_within" "is_within" kK f fd):az P w K mg base bz (k+1) f fd ["step"] (aQ K (YR A)):=by
 refine aP F sR λAT B outer s H E hr=>?_;rw[show ai kK=[_,_] from rfl];refine⟨_,(qs (aq (i:=1) sR.nd (cD (ah ic hr rfl (qa (ah dc hr rfl ak) af)) HK hr (qa (fz lu hr rfl ak) af))) (aO (ao (fz iO hr rfl (qa (cz (qa (ah fJ hr rfl ak) (qa (ah gi hr rfl ak) af))) af))))),λds S kk hc hd h=>?_⟩;obtain⟨s,r,p,rfl,hs,hr2,h⟩:=h;have hi:∃C ns l,iq S (.t (jJ A s))=some (C,ns,l)/\(ns.zip l).lookup ("row":Str)=some (D.str r)/\(ns.zip l).lookup ("place":Str)=some (D.t (cY A p)):=by
  rcases hs with⟨a,x,rfl⟩ | ⟨a,t,rfl⟩<;>exact⟨_,_,_,M,M,M⟩
 obtain⟨C,ns,l,i1,i2,i3⟩:=hi;refine(oe i1 (oe i2 ⟨r,M,by omega,hsh r,M,0,_,_,by decide,M,by symm,_,_,[],1,M,au,M,by simp,made ⟨on (hsh r),([],1),M,by show 1+0<64;decide,?_⟩⟩));refine(oe i1 (oe i3 ⟨p,M,oe i1 (oe i3 ⟨p,(on (hsh r)).less ([],1),M,_,_,[dU A (J4 p),dU A (zP p ((on (hsh r)).less ([],1)))],M,au,M,made (aL hc ?_)⟩)⟩));unfold within at h;rw[dU,iY] at h;exact h
abbrev iz:Stmt:=top 58
theorem jN:aj ["by","divided","product"] ["by"] (aa iz):=bW
seal aG in
theorem yF (J:Fx K mg A)(iO:mK P w K mg base k A)(gi:pV P w K mg base k A)(C6:Gm P w K mg base k A)(lu:n8 P w K mg base k A)(ic:pR P w K mg base k A)(nS:qQ P w K mg base k A)(F:bG K "is_quotient" "is_quotient" iz f fd):az P w K mg base bz (k+1) f fd ["by"] (aQ K (MC A)):=by
 obtain⟨GN,eW⟩:=J.eW;obtain⟨KN,ia⟩:=J.ia;refine aP F jN λAT B outer s H E hr=>?_;rw[show ai iz=[_,_,_,_] from rfl];refine⟨_,(qs (aq (i:=1) jN.nd (ah ic hr rfl (qa (iW (cA (v:=.str "^") rfl ia ⟨_,M⟩)) af))) (qs (aq (i:=2) jN.nd (cD (ah ic hr rfl (qa (iW (cA (v:=.str "^^") rfl eW ⟨_,M⟩)) af)) nS hr ak)) (qs (aR (aE Fg q_r aH (aF _)) (aO (ao (fz iO hr rfl (qa (cz (qa (ah gi hr rfl ak) (qa (ah gi hr rfl (qa q_r (qa (cD q_r C6 hr (qa (fz lu hr rfl ak) af)) af))) af))) af)))) aD) (aO (ao (fz iO hr rfl (qa (cz (qa (ah gi hr rfl ak) (qa (ah gi hr rfl (qa (cD q_r C6 hr (qa (fz lu hr rfl ak) af)) ak)) af))) af))))))),λds S kk hc hd h=>?_⟩;obtain⟨i,rfl,hi,h⟩:=h;refine⟨"^",M,"^^",M,0,_,_,by decide,M,by symm,on "^^",i,M,by show 1<64;decide,⟨by omega,by omega⟩,?_⟩;have hl:((on "^^").times i).1.length<=1:=gK _;unfold quot at h;by_cases hp:0<i
 .rw[jae hp] at h;refine⟨true,jah D.bl (jaF hp),(on "^^").times i,on "^",M,0,_,_,by decide,M,by symm,_,_,[],i - 1,M,au,M,by simp,made ⟨(on "^^").times i,([],i - 1),M,by show _+0<64;omega,on "^",((on "^^").times i).plus ([],i - 1),M,_,_,[dU A _,dU A _],M,au,M,made (aL hc ?_)⟩⟩;rw[dU,iY] at h;exact h
 .rw[jad hp] at h;refine⟨false,jah D.bl (jat hp),on "^",(on "^^").times i,M,0,_,_,by decide,M,by symm,_,_,[],i+1,M,au,M,by simp,made ⟨(on "^^").times i,([],i+1),M,by show _+0<64;omega,((on "^^").times i).plus ([],i+1),on "^",M,_,_,[dU A _,dU A _],M,au,M,made (aL hc ?_)⟩⟩;rw[dU,iY] at h;exact h
abbrev kM:Stmt:=top 57
theorem jm:aj ["book","path","step","by"] ["book","path","step"] (aa kM):=bW
seal aG in
theorem CT (J:Fx K mg A)(q9:xJ P w K mg base k A)(ic:pR P w K mg base k A)(HK:Gn P w K mg base k A)(nS:qQ P w K mg base k A)(cL:fY P w K mg base k A)(nY:pU P w K mg base k A)(Ax:wI P w K mg base k A)(tL:xH P w K mg base k A)(gZ:lF P w K mg base k A)(lu:n8 P w K mg base k A)(F:bG K "go_divide" "go_divide" kM f fd):az P w K mg base bz (k+1) f fd ["book","path","step"] (aQ K (Es A n (λs=>kd s=1) (λp=>.tup (p.map (nG A))))):=by
 obtain⟨KN,ia⟩:=J.ia;obtain⟨GN,eW⟩:=J.eW;refine aP F jm λAT B outer s H E hr=>?_;rw[show ai kM=[_,_,_,_,_,_] from rfl];refine⟨_,(qs (aq (i:=1) jm.nd (cD q_r tL hr (qa q_r (qa aX (qa q_r (qa (fz gZ hr rfl (qa q_r (qa aX (qa (fz lu hr rfl ak) af)))) af)))))) (qs (aR (qw (EO (aE Fg (aU eO (by rfl) J.eS jaQ ak) aH (aF _)) (yu (aE (cU 40 (uE hr)) q_r aH (aF _))))) (aO (ao (bh aS q_r (ah cL hr rfl ak)))) aD) (qs (aq (i:=3) jm.nd q_r) (qs (aq (i:=1) jm.nd (bh aS (bh aS (bh aS q_r (bx (qa (ah q9 hr rfl (qa (iW (cA (v:=.str "^") rfl ia ⟨_,M⟩)) ak)) af))) (ah cL hr rfl (qa (iW (cA (v:=.str "^^") rfl eW ⟨_,M⟩)) af))) (bx (qa (ah nY hr rfl (qa (ah Ax hr rfl ak) af)) af)))) (qs (aR (aE (cU 40 (uE hr)) q_r aX (aF _)) (aO (ao (bh aS q_r (bx (qa (ah q9 hr rfl (qa q_r (qa (ah ic hr rfl (qa (iW (cA (v:=.str "^^") rfl eW ⟨_,M⟩)) af)) af))) af))))) aD) (aO (ao (bh aS q_r (bx (qa (ah q9 hr rfl (qa q_r (qa (cD (ah ic hr rfl (qa (iW (cA (v:=.str "^") rfl ia ⟨_,M⟩)) af)) HK hr (qa (cD (ah ic hr rfl (qa (iW (cA (v:=.str "^^") rfl eW ⟨_,M⟩)) af)) nS hr ak) af)) af))) af)))))))))),λds S kk hc hd h=>?_⟩;obtain⟨i,j,hs,cy,p,s,rfl,hB,h1,h2,ok,hca,hk,h⟩:=h;cases s with
 |lt a x s=>cases hk
 |ft a x r p=>cases hk
 |pt a r p s=>cases hk
 |mq a r z=>cases hk
 |cm a c=>cases hk
 |cl a ns g gs=>cases hk
 |dv a x wd s b=>
  have hbb:=ok.by_ _ _ _ _ _ rfl;refine⟨0,_,_,by decide,oA hB.1,by symm,_,_,[],0,M,au,M,by simp,made ⟨_,[cY A b,.str "!=",cY A ([],0)],M,M,au,made ⟨i,j,Bf A hs,cy,p,"nought",a,.cmp b "!=" ([],0),by rw[xE],hB,by omega,by omega,?_⟩⟩⟩;refine(?_);have e1:decide ((0:Int)<((b.1.map pT).length:Nat))=decide (b.1≠[]):=by
   rw[jab];cases b.1 with
   |nil=>rfl
   |cons a r=>simp
  have a4g:=hB.put (cy++[v5 "nought" a p (.cmp b "!=" ([],0))]);simp only[qI,LB] at h;by_cases hb:b.1=[]
  .refine⟨false,jah D.bl (e1.trans (jat (by simpa using hb))),?_⟩;by_cases hz:b.2=0
   .rw[jae (.inr hz)] at h;refine⟨true,jah D.bl (WY hz),x,M,ck ?_,mL ?_⟩
    .have:=fX x;simp;omega
    .rw[<- jam];exact h
   .rw[jad (by rintro(h | h)<;>contradiction)] at h;refine⟨false,jah D.bl (Oh hz),"^",s,M,ck ?_,"^^",M,ck ?_,b.2,M,hbb,quot b.2,M,ck ?_,?_⟩
    .simp;omega
    .have:=fX "^^";simp;omega
    .have:=fX "^^";simp;omega
    by_cases hw:wd="div"
    .rw[jae hw] at h;refine⟨true,jah D.bl (seq hw),"^^",M,x,on "^^",M,ck ?_,mL ?_⟩
     .have:=fX "^^";simp;omega
     .simp only[jam] at h ⊢;exact h
    .rw[jad hw] at h;have hl:((on "^^").times b.2).1.length<=1:=gK _;refine⟨false,jah D.bl (dS hw),"^",M,0,_,_,by decide,M,by symm,"^^",M,0,_,_,by decide,M,by symm,on "^^",b.2,M,by show 1<64;decide,⟨by omega,by omega⟩,on "^",(on "^^").times b.2,M,by show 1+_<64;omega,x,(on "^").less ((on "^^").times b.2),M,ck ?_,mL ?_⟩
     .have:=fX "^^";simp;omega
     .simp only[jam] at h ⊢;exact h
  .rw[jae (.inl hb)] at h;refine⟨true,jah D.bl (e1.trans (jaF (by simpa using hb))),x,M,ck ?_,mL ?_⟩
   .have:=fX x;simp;omega
   .rw[<- jam];exact h
abbrev m7:Stmt:=top 55
theorem oS:aj ["book","path","step"] ["book","path","step"] (aa m7):=bW
seal aG in
theorem E5 (J:Fx K mg A)(cL:fY P w K mg base k A)(tL:xH P w K mg base k A)(F8:AJ P w K mg base k A)(q9:xJ P w K mg base k A)(dc:fM P w K mg base k)(fJ:jc P w K mg base k A)(F:bG K "go_plain" "go_plain" m7 f fd):az P w K mg base bz (k+1) f fd ["book","path","step"] (aQ K (Es A n (λs=>kd s≠1/\kd s≠6) (λp=>.tup (p.map (nG A))))):=by
 refine aP F oS λAT B outer s H E hr=>?_;rw[show ai m7=[_,_,_,_,_,_] from rfl];refine⟨_,(qs (aR (fu (aU (mG (c:=.ref A.lY) trivial M) (by rfl) J.bB jbk (qa q_r (qa (iW (cA (v:=.ref A.lY) rfl J.Ge.g M)) af)))) (aO (ao (bh aS q_r (bx (qa (ah q9 hr rfl ak) af))))) aD) (qs (aR (fu (aU (mG (c:=.ref A.cW) trivial M) (by rfl) J.bB jbk (qa q_r (qa (iW (cA (v:=.ref A.cW) rfl J.xG.g M)) af)))) (aO (ao (cD q_r tL hr ak))) aD) (qs (aR (fu (aU (mG (c:=.ref A.fK) trivial M) (by rfl) J.bB jbk (qa q_r (qa (iW (cA (v:=.ref A.fK) rfl J.zp.g M)) af)))) (qs (aq (i:=1) oS.nd (cD q_r tL hr (qa q_r (qa aX (qa q_r (qa (ah fJ hr rfl ak) af)))))) (aO (ao (bh aS q_r (bx (qa (ah q9 hr rfl (qa (ah dc hr rfl ak) ak)) af)))))) aD) (qs (aq (i:=1) oS.nd (cD q_r tL hr (qa q_r (qa aX (qa q_r (qa (ah F8 hr rfl ak) af)))))) (qs (aR (fu (aU (mG (c:=.ref A.dz) trivial M) (by rfl) J.bB jbk (qa q_r (qa (iW (cA (v:=.ref A.dz) rfl J.qN.g M)) af)))) (aO (ao (bh aS q_r (ah cL hr rfl ak)))) aD) (aO (ao q_r))))))),λds S kk hc hd h=>?_⟩;obtain⟨i,j,hs,cy,p,s,rfl,hB,h1,h2,ok,hca,hk,h⟩:=h;cases s with
 |dv a x wd s b=>exact absurd rfl hk.1
 |cl a ns g gs=>exact absurd rfl hk.2
 |lt a x s=>
  refine⟨M,_,true,M,RV (j:=0) J.kk (by decide),_,M,x,s,M,ck ?_,mL ?_⟩
  .simp;omega
  .simp only[qI] at h;rw[jaJ,set_same hB.2,jam] at h;exact h
 |cm a c=>
  exact⟨M,_,false,M,tN (j:=5) (i:=0) J.kk (by decide) (by decide) (by decide),_,M,M,_,true,M,RV (j:=5) J.kk (by decide),_,M,0,_,_,by decide,oA hB.1,by symm,i,j,Bf A hs,cy,p,"claim",a,c,M,hB,by omega,by omega,mL h⟩
 |mq a r z=>
  refine⟨M,_,false,M,tN (j:=4) (i:=0) J.kk (by decide) (by decide) (by decide),_,M,M,_,false,M,tN (j:=4) (i:=5) J.kk (by decide) (by decide) (by decide),_,M,M,_,true,M,RV (j:=4) J.kk (by decide),_,M,0,_,_,by decide,oA hB.1,by symm,z,M,i,j,Bf A hs,cy,p,"short",a,J4 z,M,hB,by omega,by omega,r,M,by have:=ok.few.2;omega,hsh r,z,M,ck ?_,mL ?_⟩
  .simp;omega
  .simp only[qI] at h;rw[jam (l₁:=p++_)] at h;exact h
 |ft a x r z=>
  refine⟨M,_,false,M,tN (j:=2) (i:=0) J.kk (by decide) (by decide) (by decide),_,M,M,_,false,M,tN (j:=2) (i:=5) J.kk (by decide) (by decide) (by decide),_,M,M,_,false,M,tN (j:=2) (i:=4) J.kk (by decide) (by decide) (by decide),_,M,0,_,_,by decide,oA hB.1,by symm,.ft a x r z,r,z,M,.inl ⟨_,_,M⟩,ok.few.2,i,j,Bf A hs,cy,p,"beyond",a,within r z,M,hB,by omega,by omega,M,_,true,M,RV (j:=2) J.kk (by decide),_,M,x,M,ck ?_,mL ?_⟩
  .have:=fX x;simp;omega
  .simp only[qI] at h;rw[jam (l₁:=p++_)] at h;exact h
 |pt a r z t=>
  exact⟨M,_,false,M,tN (j:=3) (i:=0) J.kk (by decide) (by decide) (by decide),_,M,M,_,false,M,tN (j:=3) (i:=5) J.kk (by decide) (by decide) (by decide),_,M,M,_,false,M,tN (j:=3) (i:=4) J.kk (by decide) (by decide) (by decide),_,M,0,_,_,by decide,oA hB.1,by symm,.pt a r z t,r,z,M,.inr ⟨_,_,M⟩,ok.few.2.2,i,j,Bf A hs,cy,p,"beyond",a,within r z,M,hB,by omega,by omega,M,_,false,M,tN (j:=3) (i:=2) J.kk (by decide) (by decide) (by decide),_,M,mL h⟩
abbrev qD:Stmt:=top 54
theorem G4:aj ["book","path","step"] ["book","path","step"] (aa qD):=bW
seal aG in
theorem Hz (J:Fx K mg A)(Iq:DO P w K mg base k A n)(F9:AK P w K mg base k A n)(LO:Gw P w K mg base k A n)(F:bG K "go_step" "go_step" qD f fd):az P w K mg base bz (k+1) f fd ["book","path","step"] (aQ K (Es A n (λ_=>True) (λp=>.lst [.tup (p.map (nG A))]))):=by
 refine aP F G4 λAT B outer s H E hr=>?_;rw[show ai qD=[_,_,_,_,_] from rfl];refine⟨_,(qs (aR (fu (aU (mG (c:=.ref A.fV) trivial M) (by rfl) J.bB jbk (qa q_r (qa (iW (cA (v:=.ref A.fV) rfl J.Gf.g M)) af)))) iN aD) (qs (aR (fu (aU (mG (c:=.ref A.fT) trivial M) (by rfl) J.bB jbk (qa q_r (qa (iW (cA (v:=.ref A.fT) rfl J.Gb.g M)) af)))) iN aD) (qs (aR (fu (aU (mG (c:=.ref A.fL) trivial M) (by rfl) J.bB jbk (qa q_r (qa (iW (cA (v:=.ref A.fL) rfl J.vf.g M)) af)))) (aO (ao (cz (qa (ah LO hr rfl ak) af)))) aD) (qs (aR (fu (aU (mG (c:=.ref A.bZ) trivial M) (by rfl) J.bB jbk (qa q_r (qa (iW (cA (v:=.ref A.bZ) rfl J.j4.g M)) af)))) (aO (ao (cz (qa (ah F9 hr rfl ak) af)))) aD) (aO (ao (cz (qa (ah Iq hr rfl ak) af)))))))),λds S kk hc hd h=>?_⟩;obtain⟨i,j,hs,cy,p,s,rfl,hB,h1,h2,ok,hca,hk,h⟩:=h;have hkl:=qZ s;have ne7:kd s≠7:=by omega
 have ne8:kd s≠8:=by omega
 refine⟨M,_,false,A0 A _ s,tN (i:=7) J.kk hkl (by decide) ne7,_,M,M,_,false,A0 A _ s,tN (i:=8) J.kk hkl (by decide) ne8,_,M,M,_,decide (kd s=6),A0 A _ s,J.kk _ 6 hkl (by decide),_,M,?_⟩;by_cases hc6:kd s=6
 .rw[jaF hc6];exact⟨i,j,hs,cy,p,s,M,hB,h1,h2,ok,hca,hc6,mL h⟩
 rw[jat hc6];refine⟨M,_,decide (kd s=1),A0 A _ s,J.kk _ 1 hkl (by decide),_,M,?_⟩;by_cases hd:kd s=1
 .rw[jaF hd];exact⟨i,j,hs,cy,p,s,M,hB,h1,h2,ok,hca,hd,mL h⟩
 .rw[jat hd];exact⟨i,j,hs,cy,p,s,M,hB,h1,h2,ok,hca,⟨hd,hc6⟩,mL h⟩
abbrev iB:Stmt:=top 45
theorem gx:aj ["steps","count","step","within"] ["steps"] (aa iB):=bW
seal aG in
theorem yH (J:Fx K mg A)(yQ:zB P w K mg base k A)(lX:Dn P w K mg base k "count_paths" ["steps"] (aQ K KP))(F:bG K "count_paths" "count_paths" iB f fd):az P w K mg base bz (k+1) f fd ["steps"] (aQ K (Jp A)):=by
 obtain⟨Qn,nT⟩:=J.nT;refine aP F gx λAT B outer s H E hr=>?_;rw[show ai iB=[_,_,_,_] from rfl];refine⟨_,(qs (aq (i:=1) gx.nd aH) (qs (aZ jay rfl (qi q_r) (qg (i:=2) gx.nd) (qs (xj (i:=3) gx.nd (aM ["block"] [] [] rfl (by symm) (by symm) (by with_unfolding_all rfl) (by exact trivial) (by rfl) rfl (by rfl)) rfl (qi (aW q_r yQ hr)) (λ_ _ _ _=>(qx (i:=0) (show List.Nodup (["block"]:jcR) by symm))) (λ_ _ _ _=>bD) (λ_ _ _ _=>(ah lX hr rfl ak))) (aO (aR (fu (aU (mG (c:=.ref A.fV) trivial M) (by rfl) J.bB jbk (qa q_r (qa (iW (cA (v:=.ref A.fV) rfl J.Gf.g M)) af)))) iN aD)))) (qs (aR (aE Fg q_r (iW (cA (v:=.int 16) rfl nT ⟨_,M⟩)) (aF _)) iN aD) (aO (ao q_r))))),λds S kk hc hd h=>?_⟩;obtain⟨l,rfl,h⟩:=h;refine(bJ (dF (jJ A) (λpre Z S'=>∃y z,Z=[some (.tup (l.map (jJ A))),some (.int 1),y,z]/\S'=S) ⟨_,_,M,M⟩ ?_ ?_))
 .rintro pre s post Z S' N e ⟨y,z,rfl,rfl⟩ hN;have hkl:=qZ s;obtain⟨ns,l2,i1,_,_,i2,_⟩:=JT A S' s;exact⟨trivial,kd s,ns,l2,qZ s,i1,i2,s,M,M,bJ ⟨trivial,M,_,false,A0 A _ s,tN (i:=7) J.kk (by omega) (by decide) (by omega),_,M,hN _ _ ⟨_,_,M,M⟩⟩⟩
 .rintro Z S' ⟨y,z,rfl,rfl⟩;exact⟨trivial,_,M,aL hc h⟩
abbrev m6:Stmt:=top 53
theorem gh:aj ["book","path","steps","paths","step","found","each"] ["book","path","steps"] (aa m6):=bW
seal aG in
theorem E4 (J:Fx K mg A)(LM:Gv P w K mg base k A n)(F:bG K "go_steps" "go_steps" m6 f fd):az P w K mg base bz (k+1) f fd ["book","path","steps"] (aQ K (MR A n)):=by
 refine aP F gh λAT B outer s H E hr=>?_;rw[show ai m6=[_,_,_] from rfl];refine⟨_,(qs (aq (i:=3) gh.nd (cz ak)) (qs (aZ jay rfl (qi q_r) (qg (i:=4) gh.nd) (qs (aq (i:=5) gh.nd (gI af)) (qs (aZ jay rfl (qi q_r) (qg (i:=6) gh.nd) (aO (gk (yv q_r (qa (ah LM hr rfl ak) af))))) (aO (aq (i:=3) gh.nd q_r))))) (aO (ao q_r)))),λds S kk hc hd h=>?_⟩;obtain⟨i,j,hs,cy,p,l,rfl,hB,h1,h2,ok,h⟩:=h;refine(bJ (dF (jJ A) (λpre Z S'=>∃pd y z w loc,Z=[some (D.ob i),some (.tup (p.map (nG A))),some (.tup (l.map (jJ A))),some pd,y,z,w]/\S'=S.set j (.lst ((cy++(cE p pre).1).map (An A)))++loc/\Pd S.length loc pd [.tup ((cE p pre).2.map (nG A))]) ⟨_,_,_,_,[],M,?_,.inl M⟩ ?_ ?_))
 .have e:cy++(cE p []).1=cy:=by unfold cE;simp
  rw[e,set_same hB.2,jaJ]
 .rintro pre s post Z S' N e ⟨pd,y,z,w,loc,rfl,rfl,hp⟩ hN;have hl1:=jH p pre;have hl2:=jG p pre λs hs'=>(ok s (by rw[e];exact jaP _ hs')).1;have hp1:pre.length<l.length:=by rw[e];simp
  have hL:(S.set j (.lst ((cy++(cE p pre).1).map (An A)))).length=S.length:=jaE;refine⟨trivial,?_⟩;dsimp only[Sj];refine Vh ?_;rw[jaX,jaf,hL];refine(WS hp hL λG hG=>⟨hG _ _ hL,⟨M,_,fH (N3 hL)⟩,i,j,hs,cy++(cE p pre).1,(cE p pre).2,s,M,(hB.put _).up,by rw[jaf];omega,by omega,(ok s (by rw[e];simp)).1,(ok s (by rw[e];simp)).2,trivial,?_⟩);rw[jb7 _ _ (by rw[hL];exact(jao.mp hB.2).1),jaC];refine⟨_,_,N3 jaE,M,sz 1,?_⟩;rw[RN jaE];refine⟨hG _ _ jaE,hN _ _ ⟨_,_,_,_,loc++[O.lst ([]++[.tup ((qI (cE p pre).2 s).2.map (nG A))])],M,?_,.inr ⟨loc.length,M,?_⟩⟩⟩
  .rw[rR,jaX]
  .rw[rQ];exact JP
 .rintro Z S' ⟨pd,y,z,w,loc,rfl,rfl,hp⟩;have hL:(S.set j (.lst ((cy++(cE p l).1).map (An A)))).length=S.length:=jaE;exact⟨trivial,a0z hp hL (Ii hc) h⟩
abbrev xh:Stmt:=top 44
theorem sS:aj ["program","name","helper","book","path"] ["program","name"] (aa xh):=bW
seal aG in
theorem NL (J:Fx K mg A)(Ip:DN P w K mg base k A n)(wz:uh P w K mg base k A n)(HJ:DJ P w K mg base k A)(WJ:PD P w K mg base k A)(lX:wJ P w K mg base k A)(C7:BI P w K mg base k A)(F:bG K "debts" "debts" xh f fd):az P w K mg base bz (k+1) f fd ["program","name"] (aQ K (Jo A n)):=by
 refine aP F sS λAT B outer s H E hr=>?_;rw[show ai xh=[_,_,_,_,_] from rfl];refine⟨_,(qs (aq (i:=2) sS.nd (cD q_r C7 hr ak)) (qs (gk (ah lX hr rfl ak)) (qs (aq (i:=3) sS.nd (Zd WJ hr rfl ak)) (qs (aZ jay rfl (qi (ah Ip hr rfl (qa q_r (qa (ah wz hr rfl ak) ak)))) (qg (i:=4) sS.nd) (aO (gk (cD q_r HJ hr ak)))) (aO (ao q_r)))))),λds S kk hc hd h=>?_⟩;obtain⟨x,hs,N,rfl,hfi,hca,ok,h⟩:=h;obtain⟨p1,p2,p3,p4,p5⟩:=ok.pl;have hp0:=uS ok;have hg1:=jH (dX x) x.steps;have X6:=jG (dX x) x.steps ok.st;refine⟨0,_,_,by decide,M,by symm,x.name,x,hs,M,hfi,x.steps,M,S.length,Bf A hs,M,au,M,?_⟩;rw[cP,jaf,jaX];have hB:Bk A (S++[O.ins A.ji ["program","found"] [.t (Bf A hs),.ob (S.length+1)],O.lst []]) S.length (S.length+1) (Bf A hs) []:=⟨dH (j:=0),dH (j:=1)⟩
 refine⟨x,N,M,ok,S.length,S.length+1,hs,[],dX x,x.steps,M,hB,by simp;omega,by omega,λs h=>⟨ok.st s h,hca s h⟩,jX ⟨trivial,?_⟩⟩;have hB2:=hB.put ([]++(cE (dX x) x.steps).1);refine⟨0,_,_,by decide,oA hB2.1,by symm,S.length,S.length+1,Bf A hs,_,_,"gives",x.gives,M,hB2,by rw[List.nil_append];omega,by omega,trivial,?_⟩;have hB3:=hB2.put ([]++(cE (dX x) x.steps).1++(br "gives" (cE (dX x) x.steps).2 x.gives).1);refine(oe (oA hB3.1) (?_));rw[jaC,cB];refine a3z (j:=1) hc rfl trivial ?_;exact h
abbrev qB:Stmt:=top 70
theorem x9:aj ["_law_cell","_law_k","_law_mix"] ["_law_cell","_law_k"] (aa qB):=bW
seal aG in
theorem Hx (J:Fx K mg A)(F:bG K "_law_mixed" "_law_mixed" qB f fd):az P w K mg base bz (k+1) f fd ["_law_cell","_law_k"] (aQ K Tz):=by
 refine aP F x9 λAT B outer s H E hr=>?_;rw[show ai qB=[_,_] from rfl];refine⟨_,(qs (aq (i:=2) x9.nd q_r) (aO (ao q_r))),λds S kk hc hd h=>?_⟩;obtain⟨c,j,rfl,h⟩:=h;refine⟨.inl ⟨by decide,by decide⟩,.inr ⟨by decide,by decide⟩,by decide,?_⟩;have h1:=jcf ((c+7919*j+11)*48271) (b:=2147483647) (by decide);have h2:=jca ((c+7919*j+11)*48271) (b:=2147483647) (by decide);exact⟨.inl ⟨by omega,by omega⟩,.inl ⟨by decide,by decide⟩,by decide,mL (h _ (jcf _ (by decide)) (jca _ (by decide)))⟩
abbrev kI:Stmt:=top 69
theorem mU:aj ["_law_script","_law_k","_law_cell"] ["_law_script","_law_k"] (aa kI):=bW
seal aG in
theorem CO (J:Fx K mg A)(pK:rA P w K mg base k)(F:bG K "_law_cell_at" "_law_cell_at" kI f fd):az P w K mg base bz (k+1) f fd ["_law_script","_law_k"] (aQ K MS):=by
 refine aP F mU λAT B outer s H E hr=>?_;rw[show ai kI=[_,_,_] from rfl];refine⟨_,(qs (aq (i:=2) mU.nd aH) (qs (aR (aE Wd q_r (aU eO (by rfl) J.eS jaQ ak) (aF _)) (aO (aq (i:=2) mU.nd q_r)) aD) (aO (ao (ah pK hr rfl ak))))),λds S kk hc hd h=>?_⟩;obtain⟨l,j,rfl,h⟩:=h;refine(?_);by_cases hj:j<l.length
 .exact⟨true,jah D.bl (jaF (by rw[jab];omega)),oe (iU (by rw[jaA,jaD hj];rfl)) ⟨_,_,M,λr _ _=>mL (h r)⟩⟩
 .exact⟨false,jah D.bl (jat (by rw[jab];omega)),_,_,M,λr _ _=>mL (h r)⟩
abbrev sX:Stmt:=top 71
theorem KU:aj ["_law_draw","_law_size"] ["_law_draw","_law_size"] (aa sX):=bW
seal aG in
theorem La (J:Fx K mg A)(pK:rA P w K mg base k)(F:bG K "_law_next" "_law_next" sX f fd):az P w K mg base bz (k+1) f fd ["_law_draw","_law_size"] (aQ K YS):=by
 refine aP F KU λAT B outer s H E hr=>?_;rw[show ai sX=[_,_] from rfl];refine⟨_,(qs (QZ q_r aH aH WV) (aO (ao (bh NR (bh NS (ah pK hr rfl ak) aH) q_r)))),λds S kk hc hd0 h=>?_⟩;obtain⟨d,n,rfl,hd,hn,h⟩:=h;have hlt:=hd.lt;obtain⟨c,m,e0⟩:=hd;refine⟨d,1,_,_,M,M,e0,M,1,_,M,e0,by show 1<2;decide,oe (jL (Lw hlt)) (oe rfl (oe (jL (Lw hlt)) ⟨_,_,M,λr _ _=>⟨⟨by decide,by decide⟩,hn,?_⟩⟩))⟩;have e:((r / 7 % n).toNat:Int)=r / 7 % n:=Int.toNat_of_nonneg (jcf _ (by omega));rw[<- e];exact mL (h _ _ _ (by rw[e];exact jca _ hn))
abbrev qz:Stmt:=top 72
theorem jM:aj ["_law_draw","_law_many","_law_some","_law_base","_law_at","_law_shift"] ["_law_draw","_law_many"] (aa qz):=bW
seal aG in
theorem Hu (J:Fx K mg A)(av:cG P w K mg base k)(F:bG K "_law_names" "_law_names" qz f fd):az P w K mg base bz (k+1) f fd ["_law_draw","_law_many"] (aQ K Tw):=by
 refine aP F jM λAT B outer s H E hr=>?_;rw[show ai qz=[_,_,_,_,_] from rfl];refine⟨_,(qs (aq (i:=2) jM.nd aX) (qs (aq (i:=3) jM.nd (Vy aX (qa (cu (aM ["_law_k"] ["_law_some","_law_draw"] [2,0] rfl (by symm) (by symm) (by with_unfolding_all rfl) (by exact⟨M,M,trivial⟩) (by rfl) rfl (by rfl)) rfl (nL rfl J.jD (qa (ah av hr rfl ak) af)) (λ_ _ _ _=>(qx (i:=0) (show List.Nodup (["_law_k","_law_some","_law_draw"]:jcR) by symm))) (λ_ _ _ _=>bD) (λ_ _ _ _=>(oV q_r (ah av hr rfl ak)))) af))) (qs (aq (i:=4) jM.nd (ah av hr rfl (qa q_r (qa (bh aS (aU eO (by rfl) J.eS jaQ ak) aH) af)))) (qs (aq (i:=5) jM.nd (ah av hr rfl ak)) (aO (ao (cu (aM ["_law_k"] ["_law_base","_law_some","_law_at","_law_shift"] [3,2,4,5] rfl (by symm) (by symm) (by with_unfolding_all rfl) (by exact⟨M,M,M,M,trivial⟩) (by rfl) rfl (by rfl)) rfl (nL rfl J.jD ak) (λ_ _ _ _=>(qx (i:=0) (show List.Nodup (["_law_k","_law_base","_law_some","_law_at","_law_shift"]:jcR) by symm))) (λ_ _ _ _=>bD) (λ_ _ _ _=>(bh aS (bh aS (bh aS (rJ false q_r nK (bT q_r)) q_r) (rJ false q_r (bT q_r) nK)) aX))))))))),λds S kk hc hd0 h=>?_⟩;obtain⟨d,rfl,hd,h⟩:=h;refine⟨M,d,6,M,hd,by first | decide | omega,λr1 Xp Wm hr1=>?_⟩;refine⟨(r1:Int),M,by omega,by omega,Dr (n:=r1) hd (λy=>∃x,y=T.str x/\Chr x) (by omega) (λi c m k' hk=>?_) λys c m hl hp=>?_⟩
 .refine⟨d,26,M,hd.bX,by first | decide | omega,λr2 cr2 mr2 hr2=>?_⟩;rw[bV];have h26:r2<26:=by omega
  exact⟨KC,_,Pp h26,_,M,hk _ _ _ ⟨_,M,_,M,by omega⟩⟩
 obtain⟨ss,rfl,hl2,hc2⟩:=ex_map hp;rw[hl] at hl2;refine⟨ss,M,?_,?_⟩
 .rw[Ef ss (λx hx=>(hc2 x hx).len)];show _+_*0<=_;omega
 have aB:=LS hc2;have lB:=Ob ss λx hx=>(hc2 x hx).len;generalize Txt.join (Str.ofString "") ss=B at aB lB;refine⟨ck (by omega),d,_,M,hd.bX,by omega,λr2 c2 m2 hr2=>?_⟩;rw[bV];have ha:r2<=B.length:=by omega
 refine⟨d,26,M,hd.bX,by first | decide | omega,λr3 LG Ll sH=>?_⟩;rw[bV];refine⟨8,M,by omega,by omega,Dr (n:=8) hd (λy=>∃x,y=T.str x/\kq x) (by omega) (λi c m k' hk=>?_) λys c m hl hp=>?_⟩
 .have l1:=MX B none (some (r2:Int));have l2:=MX B (some (r2:Int)) none;have A1:=SD ha aB;have A2:=LU ha aB;have lz:("z":Str).length=1:=by symm
  refine⟨ck (by omega),.inl ⟨by decide,by decide⟩,(by show(0:Int)<26;decide),KC,_,SH _,ck (by rw[tW];omega),ck (by omega),ck (by rw[lE,tW];omega),ck (by rw[lE,lE,tW,lz];omega),_,M,hk _ _ _ ⟨_,M,?_⟩⟩;refine RO (zw (zw (zw A1 (Gi (by omega))) A2) (λc hc=>?_)) ?_ ?_
  .have:c∈[122]:=hc;rw[jai.mp this];decide
  .rw[lE,lz];omega
  .rw[lE,lE,lE,tW,lz];omega
 obtain⟨ns,rfl,hl2,hc2⟩:=ex_map hp;exact mL (h ns c m (by rw[hl2,hl]) hc2)
abbrev wX:Stmt:=top 73
theorem x6:aj ["_law_draw","_law_things","_law_pairs_here","_law_k"] ["_law_draw","_law_things"] (aa wX):=bW
seal aG in
theorem NH (J:Fx K mg A)(dP:gc P w K mg base k A)(av:cG P w K mg base k)(F:bG K "_law_sum" "_law_sum" wX f fd):az P w K mg base bz (k+1) f fd ["_law_draw","_law_things"] (aQ K (BX A)):=by
 refine aP F x6 λAT B outer s H E hr=>?_;rw[show ai wX=[_,_,_] from rfl];refine⟨_,(qs (aq (i:=2) x6.nd (gI af)) (qs (aZ jay rfl (nL rfl J.jD (qa (bh NQ (ah av hr rfl ak) (aK Pb (by rfl) J.Pk boot_int (qa (ER (Ff 40 (uE hr)) q_r (cz af) (aF _)) af))) af)) (qg (i:=3) x6.nd) (aO (gk (oq q_r (qa (bx (qa (oV q_r (ah av hr rfl (qa q_r (qa (aU eO (by rfl) J.eS jaQ ak) af)))) (qa (bh NP (ah av hr rfl ak) aH) af))) af))))) (aO (ao (ah dP hr rfl (qa q_r (qa (oV (cz (qa aH (qa aH (qa (Bd aH) (qa (bh NP (ah av hr rfl ak) aH) af))))) (ah av hr rfl ak)) af))))))),λds S kk hc hd0 h=>?_⟩;obtain⟨d,x,N,rfl,hd,hx,hn,h⟩:=h;have hlt:=hd.lt;refine⟨d,3,M,hd.up,by first | decide | omega,λr1 Xp Wm hr1=>?_⟩;rw[bE hlt];refine(Sq (tM (lT hd hx)) ⟨.inr ?_,?_⟩)
 .split<;>exact⟨by decide,by decide⟩
 have hb:∃j:Nat,(r1:Int)*(if(xor true (decide (N.map T.str=[])))=true then 1 else 0)=(j:Int)/\j<=2/\(0<j->N≠[]):=by
  cases N with
  |nil=>exact⟨0,by simp,by decide,λh=>absurd h (by decide)⟩
  |cons a r=>exact⟨r1,by simp,by omega,λ_ h=>by cases h⟩
 obtain⟨j,ej,hj2,hjN⟩:=hb;refine⟨_,M,?_⟩;rw[ej];refine⟨by omega,by omega,nV (λi Z S'=>∃y c m,∃l:List (Str×Int),Z=[some (D.ob d),some x,some (D.ob (S.length+0)),y]/\S'=bX S d c m++[O.lst (l.map pT)]/\l.length=i/\∀p∈l,p.1∈N/\(-4<p.2/\p.2<4)) ⟨_,_,_,[],M,M,M,λ_ h=>absurd h jaI⟩ ?_ ?_⟩
 .rintro i z Z S' Nx hz ⟨y,c,m,l,rfl,rfl,hl,hp⟩ hN;have hi:=(jao.mp hz).1;rw[jab,jaZ] at hi;have hi:i<j:=by omega
  have hN0:=hjN (by omega);have hNl:0<N.length:=jbO.mpr hN0;refine⟨trivial,⟨M,_,fH (bg ay)⟩,?_⟩;dsimp only[oO,IW,uF,vB,uG,KO,vD];refine oe (a:=some x) rfl (oe (a:=x) rfl (oe (a:=some (D.ob d)) rfl (oe (a:=D.ob d) rfl (oe (a:=some x) rfl (oe (a:=x) rfl ?_)))));refine Wx (tM (lT hd hx)) ?_;refine⟨d,_,M,hd.bX.up,by rw[jab];omega,λr2 c2 m2 hr2=>?_⟩;rw[bE (by rw[ay];exact hlt),bV];rw[jab] at hr2;obtain⟨y2,hy2,ey2⟩:=pO hr2;refine ZX (tM (lT hd hx)) ey2 ⟨d,7,M,hd.bX.up,by first | decide | omega,λr3 LG Ll sH=>?_⟩;rw[bE (by rw[ay];exact hlt),bV];refine⟨_,bg ay,vS (by rw[jab];omega),?_⟩;have e:(bX S d LG Ll++[O.lst (l.map pT)]).set (S.length+0) (O.lst (l.map pT++[pT (y2,(r3:Int) - 3)]))=bX S d LG Ll++[O.lst ((l++[(y2,(r3:Int) - 3)]).map pT)]:=by
   rw[<- ay (S:=S) (d:=d) (c:=LG) (m:=Ll),cB,jam];rfl
  have e':(bX S d LG Ll++[O.lst (l.map pT)]).set (S.length+0) (O.lst (l.map pT++[.tup [.str y2,.int ((r3:Int) - 3)]]))=bX S d LG Ll++[O.lst ((l++[(y2,(r3:Int) - 3)]).map pT)]:=e;rw[e'];refine hN _ _ ⟨_,_,_,_,M,M,by rw[jaf,hl];rfl,λp hp'=>?_⟩;rcases jau.mp hp' with q | q
  .exact hp p q
  .rw[jai.mp q];exact⟨hy2,by show -4<(r3:Int) - 3;omega,by show(r3:Int) - 3<4;omega⟩
 .rintro Z S' ⟨y,c,m,l,rfl,rfl,hl,hp⟩;rw[jab,jaZ] at hl;refine⟨trivial,d,19,M,hd.bX.up,by first | decide | omega,λr2 cr2 mr2 hr2=>?_⟩;rw[bE (by rw[ay];exact hlt),bV];refine⟨d,4,M,hd.bX.up,by first | decide | omega,λr3 LG Ll sH=>?_⟩;rw[bE (by rw[ay];exact hlt),bV];obtain⟨v,ev,hv⟩:=four (a:=0) (b:=1) (c:=-1) (e:=(r2:Int) - 9) (P:=λv=>-20<v/\v<20) sH ⟨by decide,by decide⟩ ⟨by decide,by decide⟩ ⟨by decide,by decide⟩ ⟨by omega,by omega⟩;refine(oe ev ⟨_,l,v,M,qY (fH (bg ay)),by omega,F0 hc (h _ _ _ ⟨?_,Fj λp h=>(hp p h).1,⟨by show -(2 ^ 63)<v;omega,by show v<2 ^ 63;omega⟩,Mw (λp h=>(hp p h).2) (by omega)⟩)⟩);have:=gK l;show(norm l).length<=2;omega
abbrev iy:Stmt:=top 74
theorem gw:aj ["_law_draw","_law_things","_law_deep","_law_sign","_law_one_here","_law_kind"] ["_law_draw","_law_things","_law_deep"] (aa iy):=bW
seal aG in
theorem oZ (J:Fx K mg A)(HP:Gp P w K mg base k A)(bH:Dn P w K mg base k "_law_condition" ["_law_draw","_law_things","_law_deep"] (aQ K (xV A n)))(iO:mK P w K mg base k A)(yT:zC P w K mg base k A)(av:cG P w K mg base k)(gZ:lF P w K mg base k A)(dQ:lH P w K mg base k A)(F:bG K "_law_condition" "_law_condition" iy f fd):az P w K mg base bz (k+1) f fd ["_law_draw","_law_things","_law_deep"] (aQ K (BZ A n)):=by
 refine aP F gw λAT B outer s H E hr=>?_;rw[show ai iy=[_,_,_,_,_,_,_] from rfl];refine⟨_,(qs (aq (i:=3) gw.nd (oV (Vu (xs:=["<","<=","=","!=",">=",">"]) M) (ah av hr rfl ak))) (qs (aq (i:=4) gw.nd (fz gZ hr rfl (qa (ah dQ hr rfl ak) (qa q_r (qa (ah dQ hr rfl ak) af))))) (qs (aq (i:=5) gw.nd (bh aS (ah av hr rfl ak) (bh NQ aH (aK Pb (by rfl) J.Pk boot_int (qa (ER (cU 40 (uE hr)) q_r aH (aF _)) af))))) (qs (aR (aE (cU 40 (uE hr)) q_r aH (aF _)) (aO (ao (fz yT hr rfl (qa (ah bH hr rfl ak) af)))) aD) (qs (aR (aE (cU 40 (uE hr)) q_r aH (aF _)) (aO (ao (fz iO hr rfl (qa (bx (qa q_r (qa (ah bH hr rfl ak) af))) af)))) aD) (qs (aR (aE (cU 40 (uE hr)) q_r aH (aF _)) (aO (ao (fz HP hr rfl (qa (bx (qa q_r (qa (ah bH hr rfl ak) ak))) af)))) aD) (aO (ao q_r)))))))),λds S kk hc hd h=>?_⟩;obtain⟨d,x,N,hn2,rfl,dq,hx,hn,h⟩:=h;refine⟨sz 6,d,6,M,dq,by first | decide | omega,λr1 Xp Wm hr1=>?_⟩;obtain⟨sg,_,esg⟩:=pO (N:=["<","<=","=","!=",">=",">"]) (r:=r1) (by simpa using hr1);refine(oe esg ⟨d,x,N,M,dq.bX,lT dq hx,hn,λs1 c m hs1=>?_⟩);rw[bV];refine⟨d,x,N,M,dq.bX,lT dq hx,hn,λs2 c m hs2=>?_⟩;rw[bV];refine⟨_,[cY A s1,.str sg,cY A s2],M,M,au,made ⟨d,8,M,dq.bX,by first | decide | omega,λr2 cr2 mr2 hr2=>?_⟩⟩;rw[bV];have c1:jg N (.cmp s1 sg s2):=⟨by unfold aI.dep;decide,by unfold aI.sz;decide,λs hs=>by
  unfold aI.sums at hs;rcases jag.mp hs with rfl | hs
  .exact hs1
  .rw[jai.mp hs];exact hs2⟩
 have z1:(aI.cmp s1 sg s2).dep=0/\(aI.cmp s1 sg s2).sz=1:=⟨by unfold aI.dep;rfl,by unfold aI.sz;rfl⟩
 have hT:T.ins A.cF ["one","sign","other"] [cY A s1,.str sg,cY A s2]=dU A (.cmp s1 sg s2):=(xE ..).symm;refine⟨.inl ⟨by decide,by decide⟩,?_⟩;obtain⟨q,eq,hq⟩:∃q:Int,(if(xor false (decide (V.int (n:Int)=V.int 0)))=true then(1:Int) else 0)=q/\((n=0/\q=1)\/(n=1/\q=0)):=by
  rw[rP,jb0];by_cases h0:n=0
  .exact⟨1,by rw[jaF (by omega)];rfl,.inl ⟨h0,M⟩⟩
  .exact⟨0,by rw[jat (by omega)];rfl,.inr ⟨by omega,M⟩⟩
 rw[eq];clear eq;by_cases h0:(r2:Int)+8*q=0
 .have hn1:n=1:=by omega
  subst hn1;refine⟨true,jah D.bl (WY h0),d,x,N,by decide,M,dq.bX,lT dq hx,hn,λe c m he hz=>?_⟩;rw[bV];obtain⟨z2,z3⟩:=hz rfl;refine⟨_,[dU A e],M,M,au,made (mL ?_)⟩;have:T.ins A.dI ["condition"] [dU A e]=dU A (.neg e):=(Du ..).symm;rw[this];exact h _ _ _ ⟨by unfold aI.dep;omega,by unfold aI.sz;omega,λs hs=>he.mem s (by unfold aI.sums at hs;exact hs)⟩ λh=>absurd h (by decide)
 by_cases h1:(r2:Int)+8*q=1
 .have hn1:n=1:=by omega
  subst hn1;refine⟨false,jah D.bl (Oh h0),true,jah D.bl (WY h1),d,x,N,by decide,M,dq.bX,lT dq hx,hn,λe c m he hz=>?_⟩;rw[bV];obtain⟨z2,z3⟩:=hz rfl;refine⟨_,_,_,M,au,M,made (mL ?_)⟩;rw[hT];have:T.ins A.fB ["conditions"] [.tup [dU A (.cmp s1 sg s2),dU A e]]=dU A (.con true [.cmp s1 sg s2,e]):=by rw[nX];rfl
  rw[this];exact h _ _ _ (Xu c1 z1 he z2 z3) λh=>absurd h (by decide)
 by_cases h2:(r2:Int)+8*q=2
 .have hn1:n=1:=by omega
  subst hn1;refine⟨false,jah D.bl (Oh h0),false,jah D.bl (Oh h1),true,jah D.bl (WY h2),d,x,N,by decide,M,dq.bX,lT dq hx,hn,λe c m he hz=>?_⟩;rw[bV];obtain⟨z2,z3⟩:=hz rfl;refine⟨_,_,_,M,au,M,made (mL ?_)⟩;rw[hT];have:T.ins A.jh ["conditions"] [.tup [dU A (.cmp s1 sg s2),dU A e,dU A (.cmp s1 sg s2)]]=dU A (.con false [.cmp s1 sg s2,e,.cmp s1 sg s2]):=by rw[nX];rfl
  rw[this];exact h _ _ _ (Ss c1 z1 he z2 z3) λh=>absurd h (by decide)
 refine⟨false,jah D.bl (Oh h0),false,jah D.bl (Oh h1),false,jah D.bl (Oh h2),mL ?_⟩;rw[hT];exact h _ _ _ c1 λ_=>z1
abbrev qu:Stmt:=top 75
theorem G0:aj ["_law_draw","_law_things"] ["_law_draw","_law_things"] (aa qu):=bW
seal aG in
theorem Hs (J:Fx K mg A)(dP:gc P w K mg base k A)(av:cG P w K mg base k)(dQ:lH P w K mg base k A)(F:bG K "_law_place" "_law_place" qu f fd):az P w K mg base bz (k+1) f fd ["_law_draw","_law_things"] (aQ K (BX A)):=by
 refine aP F G0 λAT B outer s H E hr=>?_;rw[show ai qu=[_,_] from rfl];refine⟨_,(qs (aR (aE (cU 40 (uE hr)) (ah av hr rfl ak) aH (aF _)) (aO (ao (ah dQ hr rfl ak))) aD) (aO (ao (ah dP hr rfl (qa q_r (qa (ah av hr rfl ak) af)))))),λds S kk hc hd0 h=>?_⟩;obtain⟨d,x,N,rfl,hd,hx,hn,h⟩:=h;refine⟨d,2,M,hd,by first | decide | omega,λr1 Xp Wm hr1=>?_⟩;by_cases h0:r1=0
 .refine⟨true,iT,d,x,N,M,hd.bX,lT hd hx,hn,λs c m hs=>?_⟩;rw[bV];exact mL (h s c m hs)
 .refine⟨false,iF,d,3,M,hd.bX,by first | decide | omega,λr2 cr2 mr2 hr2=>?_⟩;rw[bV];refine⟨_,[],(r2:Int),M,M,by decide,mL (h _ _ _ ⟨by show 0<=2;decide,λ_ h=>absurd h (by simp[sumOf,norm,Sm.bC,uz]),⟨by show -(2 ^ 63)<(r2:Int);omega,by show(r2:Int)<2 ^ 63;omega⟩,λ_ h=>by cases h⟩)⟩
abbrev sY:Stmt:=top 76
theorem eF:aj ["_law_draw","_law_own","_law_names_here","_law_things","_law_makes","_law_uses","_law_at","_law_kind","_law_name","_law_by"] ["_law_draw","_law_own"] (aa sY):=bW
seal aG in
theorem Lb (J:Fx K mg A)(ZV:SR P w K mg base k A)(dQ:lH P w K mg base k A)(Dd:BJ P w K mg base k A)(bH:gS P w K mg base k A)(WG:Py P w K mg base k A)(pJ:AE P w K mg base k A)(av:cG P w K mg base k)(ZU:SQ P w K mg base k A)(RW:LX P w K mg base k A)(N9:IF P w K mg base k A)(dP:gc P w K mg base k A)(F:bG K "_law_line" "_law_line" sY f fd):az P w K mg base bz (k+1) f fd ["_law_draw","_law_own"] (aQ K (BY A)):=by
 refine aP F eF λAT B outer s H E hr=>?_;rw[show ai sY=[_,_,_,_,_,_,_,_,_,_] from rfl];refine⟨_,(qs (Na q_r (gX (n:=4) rfl (uA (qg (i:=2) eF.nd) (uA (qg (i:=3) eF.nd) (uA (qg (i:=4) eF.nd) (uA (qg (i:=5) eF.nd) fc)))))) (qs (aq (i:=6) eF.nd q_r) (qs (aq (i:=7) eF.nd (ah av hr rfl ak)) (qs (aq (i:=8) eF.nd (oV q_r (ah av hr rfl (qa q_r (qa (aU eO (by rfl) J.eS jaQ ak) af))))) (qs (aR (aE Wd q_r aH (aF _)) (qs (aq (i:=9) eF.nd (ah dP hr rfl (qa q_r (qa (oV (cz (qa aH (qa aH (qa (Bd aH) (qa aH (qa aH (qa aH (qa (Bd aH) af)))))))) (ah av hr rfl ak)) af)))) (qs (aR (aE (cU 40 (uE hr)) (ah av hr rfl ak) aH (aF _)) (aO (aq (i:=9) eF.nd (ah dQ hr rfl ak))) aD) (aO (ao (fz N9 hr rfl (qa q_r (qa q_r (qa (oV (cz ak) q_r) (qa (ah dQ hr rfl ak) ak))))))))) aD) (qs (aR (qw (EO (aE (cU 40 (uE hr)) q_r aH (aF _)) (yu (aE (cU 40 (uE hr)) q_r aH (aF _))))) (aO (ao (fz RW hr rfl (qa q_r (qa q_r (qa (oV q_r (ah av hr rfl (qa q_r (qa (aU eO (by rfl) J.eS jaQ ak) af)))) (qa (ah pJ hr rfl ak) af))))))) aD) (qs (aR (aE (cU 40 (uE hr)) q_r aH (aF _)) (aO (ao (fz ZU hr rfl (qa q_r (qa (oV q_r (ah av hr rfl (qa q_r (qa (aU eO (by rfl) J.eS jaQ ak) af)))) (qa (ah pJ hr rfl ak) (qa (ah dQ hr rfl ak) af))))))) aD) (qs (aR (qw (M9 (aE (cU 40 (uE hr)) q_r aH (aF _)) (Jy (aE (Ff 40 (uE hr)) q_r (cz af) (aF _))))) (aO (ao (fz WG hr rfl (qa q_r (qa (oV q_r (ah av hr rfl (qa q_r (qa (aU eO (by rfl) J.eS jaQ ak) af)))) (qa (ah pJ hr rfl ak) af)))))) aD) (qs (aR (aE (cU 40 (uE hr)) q_r aH (aF _)) (aO (ao (fz Dd hr rfl (qa q_r (qa (ah bH hr rfl ak) af))))) aD) (aO (ao (fz ZV hr rfl (qa q_r (qa q_r (qa (ah dQ hr rfl ak) af))))))))))))))),λds S kk hc hd h=>?_⟩;obtain⟨d,ns,N,ms,us,rfl,dq,ok,h⟩:=h;have D5:N.length<=100:=by have:=ok.nN.1;omega
 have hnp:0<ns.length:=jbO.mpr ok.n.1;have hup:0<us.length:=jbO.mpr ok.u.1;obtain⟨c0,m0,e0⟩:=id dq;refine⟨_,M,M,_,_,M,_,_,M,_,_,M,_,_,M,M,oe (jL e0) (?_)⟩;refine⟨d,9,M,dq,by first | decide | omega,λr1 Xp Wm hr1=>?_⟩;refine⟨d,_,M,dq.bX,by rw[jab];omega,λr2 c2 m2 hr2=>?_⟩;rw[bV];rw[jab] at hr2;obtain⟨x,hx,ex⟩:=pO hr2;have Z2:=(ok.nm x hx).1;have XZ:=(ok.nm x hx).2;have hxs:x.length<=100:=by have:=Z2.2;omega
 refine(oe ex (?_));have fin:∀(s:aV)(c m:Int),kd s<6->gR N s->closes S.length (.t (jJ A s)) (bX S d c m) kk:=λs c m hk hs=>mL (h s c m hs hk);by_cases hk2:(r1:Int)<2
 .obtain⟨wd,ewd,hwd⟩:=two (r:=r1) hk2;refine⟨true,jah D.bl (jaF hk2),d,7,M,dq.bX,by first | decide | omega,λr3 LG Ll sH=>?_⟩;rw[bV];obtain⟨v,ev,hv⟩:=YW (r:=r3) sH;refine(oe ev ⟨_,[],v,M,M,by decide,d,4,M,dq.bX,by first | decide | omega,λr4 cr4 mr4 hr4=>?_⟩);rw[bV];by_cases h4:r4=0
  .refine⟨true,iT,d,_,N,M,dq.bX,M,D5,λb c m hb=>?_⟩;rw[bV];refine(oe ewd ⟨d,_,N,M,dq.bX,M,D5,λs c m hs=>?_⟩);rw[bV];exact⟨_,[.int m0,.str x,.str wd,cY A s,cY A b],M,M,au,made (fin (.dv m0 x wd s b) _ _ (jbc M) (Tr hs hb Z2 XZ hwd))⟩
  .have hb:l5 N (sumOf [] v):=Vb hv;refine⟨false,iF,?_⟩;refine(oe ewd ⟨d,_,N,M,dq.bX,M,D5,λs c m hs=>?_⟩);rw[bV];exact⟨_,[.int m0,.str x,.str wd,cY A s,cY A (sumOf [] v)],M,M,au,made (fin (.dv m0 x wd s (sumOf [] v)) _ _ (jbc M) (Tr hs hb Z2 XZ hwd))⟩
 by_cases k2:r1=2
 .refine⟨false,jah D.bl (jat hk2),true,iT,d,_,M,dq.bX,by rw[jab];omega,λr3 LG Ll sH=>?_⟩;rw[bV];rw[jab] at sH;obtain⟨r,hr,er⟩:=pO sH;refine(oe er ⟨d,_,N,M,dq.bX,M,D5,λp c m hp=>?_⟩);rw[bV];exact⟨_,[.int m0,.str x,.str r,cY A p],M,M,au,made (fin (.ft m0 x r p) _ _ (jbc M) (Tq hp Z2 XZ (ok.um r hr)))⟩
 by_cases k8:r1=8
 .refine⟨false,jah D.bl (jat hk2),false,iF,true,iT,d,_,M,dq.bX,by rw[jab];omega,λr3 LG Ll sH=>?_⟩;rw[bV];rw[jab] at sH;obtain⟨r,hr,er⟩:=pO sH;refine(oe er ⟨d,_,N,M,dq.bX,M,D5,λp c m hp=>?_⟩);rw[bV];exact⟨_,[.int m0,.str x,.str r,cY A p],M,M,au,made (fin (.ft m0 x r p) _ _ (jbc M) (Tq hp Z2 XZ (ok.um r hr)))⟩
 by_cases k3:r1=3
 .refine⟨false,jah D.bl (jat hk2),false,iF,false,iF,true,iT,d,_,M,dq.bX,by rw[jab];omega,λr3 LG Ll sH=>?_⟩;rw[bV];rw[jab] at sH;obtain⟨r,hr,er⟩:=pO sH;refine(oe er ⟨d,_,N,M,dq.bX,M,D5,λp c m hp=>?_⟩);rw[bV];refine⟨d,_,N,M,dq.bX,M,D5,λs c m hs=>?_⟩;rw[bV];exact⟨_,[.int m0,.str r,cY A p,cY A s],M,M,au,made (fin (.pt m0 r p s) _ _ (jbc M) (YO hp hs (ok.um r hr)))⟩
 by_cases k5:r1=5
 .refine⟨false,jah D.bl (jat hk2),false,iF,false,iF,false,iF,false,iF,true,iT,d,_,N,by decide,M,dq.bX,M,D5,λe c m he _=>?_⟩;rw[bV];exact⟨_,[.int m0,dU A e],M,M,au,made (fin (.cm m0 e) _ _ (jbc M) (Tt he))⟩
 by_cases k4:r1=4
 .by_cases hm:ms=[]
  .refine⟨false,jah D.bl (jat hk2),false,iF,false,iF,false,iF,true,iT,_,[],M,M,.inr ⟨M,false,jah D.bl (Wh hm),false,iF,d,_,N,M,dq.bX,M,D5,λs c m hs=>?_⟩⟩;rw[bV];exact⟨_,[.int m0,.str x,cY A s],M,M,au,made (fin (.lt m0 x s) _ _ (jbc M) (Tp hs XZ hxs))⟩
  .have hmp:0<ms.length:=jbO.mpr hm;refine⟨false,jah D.bl (jat hk2),false,iF,false,iF,false,iF,true,iT,_,[],M,M,.inr ⟨M,true,jah D.bl (RH hm),d,_,M,dq.bX,by rw[jab];omega,λr3 LG Ll sH=>?_⟩⟩;rw[bV];rw[jab] at sH;obtain⟨r,hr,er⟩:=pO sH;refine(oe er ⟨d,_,N,M,dq.bX,M,D5,λz c m hz=>?_⟩);rw[bV];exact⟨_,[.int m0,.str r,cY A z],M,M,au,made (fin (.mq m0 r z) _ _ (jbc M) (YQ hz (ok.m r hr)))⟩
 refine⟨false,jah D.bl (jat hk2),false,iF,false,iF,false,iF,false,iF,false,iF,d,_,N,M,dq.bX,M,D5,λs c m hs=>?_⟩;rw[bV];exact⟨_,[.int m0,.str x,cY A s],M,M,au,made (fin (.lt m0 x s) _ _ (jbc M) (Tp hs XZ hxs))⟩
abbrev qp:Stmt:=top 77
theorem GZ:aj ["_law_draw","_law_own","_law_many","_law_deep","_law_helpers"] ["_law_draw","_law_own","_law_many","_law_deep","_law_helpers"] (aa qp):=bW
seal aG in
theorem Ho (J:Fx K mg A)(Il:DK P w K mg base k A)(F:bG K "_law_steps" "_law_steps" qp f fd):az P w K mg base bz (k+1) f fd ["_law_draw","_law_own","_law_many","_law_deep","_law_helpers"] (aQ K (El A)):=by
 refine aP F GZ λAT B outer s H E hr=>?_;rw[show ai qp=[_] from rfl];refine⟨_,(aO (ao (Q2 (aM ["_law_k"] ["_law_draw","_law_own","_law_deep","_law_helpers"] [0,1,3,4] rfl (by symm) (by symm) (by with_unfolding_all rfl) (by exact⟨M,M,M,M,trivial⟩) (by rfl) rfl (by rfl)) rfl (nL rfl J.jD ak) (λ_ _ _ _=>(qx (i:=0) (show List.Nodup (["_law_k","_law_draw","_law_own","_law_deep","_law_helpers"]:jcR) by symm))) (λ_ _ _ _=>bD) (λ_ _ _ _=>(ah Il hr rfl ak))))),λds S kk hc hd h=>?_⟩;obtain⟨d,ns,N,ms,us,j,x,hs,rfl,dq,ok,h4,hok,hj,h⟩:=h;obtain⟨c0,m0,e0⟩:=dq.self;refine⟨(j:Int),M,by omega,by omega,?_⟩;rw[e0];refine Dr (n:=j) dq (λy=>∃s,y=jJ A s/\gR N s/\Of hs s) (by omega) (λi c m k' hk=>?_) λys c m hl hp=>?_
 .refine⟨d,ns,N,ms,us,x,hs,M,dq.bX,ok,h4,hok,λs c m hs ho=>?_⟩;rw[bV];exact⟨_,M,hk _ _ _ ⟨s,M,hs,ho⟩⟩
 obtain⟨l,rfl,hl2,hp2⟩:=ex_map hp;rw[<- e0];have e1:(bX S d c m).length=S.length+0:=ay;rw[e1];refine a0A (O5 hc) ay rfl trivial (h l c m (by rw[hl2,hl]) hp2)
abbrev qv:Stmt:=top 78
theorem G1:aj ["_law_draw","_law_things","_law_many"] ["_law_draw","_law_things","_law_many"] (aa qv):=bW
seal aG in
theorem Ht (J:Fx K mg A)(bH:gS P w K mg base k A)(F:bG K "_law_pairs" "_law_pairs" qv f fd):az P w K mg base bz (k+1) f fd ["_law_draw","_law_things","_law_many"] (aQ K (Eo A)):=by
 refine aP F G1 λAT B outer s H E hr=>?_;rw[show ai qv=[_] from rfl];refine⟨_,(aO (ao (cu (aM ["_law_k"] ["_law_draw","_law_things"] [0,1] rfl (by symm) (by symm) (by with_unfolding_all rfl) (by exact⟨M,M,trivial⟩) (by rfl) rfl (by rfl)) rfl (nL rfl J.jD ak) (λ_ _ _ _=>(qx (i:=0) (show List.Nodup (["_law_k","_law_draw","_law_things"]:jcR) by symm))) (λ_ _ _ _=>bD) (λ_ _ _ _=>(bx (qa q_r (qa (ah bH hr rfl ak) af))))))),λds S kk hc hd h=>?_⟩;obtain⟨d,x,N,j,rfl,dq,hx,hn,hj,h⟩:=h;obtain⟨c0,m0,e0⟩:=dq.self;refine⟨(j:Int),M,by omega,by omega,?_⟩;rw[e0];refine Dr (n:=j) dq (λy=>∃p,y=atT A p/\jg N p.2) (by omega) (λi c m k' hk=>?_) λys c m hl hp=>?_
 .refine(oe (jL (u7 dq.lt)) ⟨d,x,N,by decide,M,dq.bX,lT dq hx,hn,λe c2 m2 he _=>?_⟩);rw[bV];exact⟨_,M,hk _ _ _ ⟨(m,e),M,he⟩⟩
 obtain⟨l,rfl,hl2,hp2⟩:=ex_map hp;rw[<- e0];exact mL (h l c m (by rw[hl2,hl]) hp2)
abbrev mX:Stmt:=top 81
theorem cH:aj ["_law_draw","_law_name","_law_many","_law_deep","_law_helpers","_law_names_here","_law_params","_law_row","_law_answers","_law_needs","_law_gives","_law_makes","_law_own","_law_steps_here","_law_one_here"] ["_law_draw","_law_name","_law_many","_law_deep","_law_helpers","_law_names_here"] (aa mX):=bW
seal aG in
theorem EZ (J:Fx K mg A)(N8:IE P w K mg base k A)(av:cG P w K mg base k)(Dd:BJ P w K mg base k A)(bH:gS P w K mg base k A)(rX:uq P w K mg base k A)(F3:AA P w K mg base k A)(vN:AF P w K mg base k A)(F:bG K "_law_helper" "_law_helper" mX f fd):az P w K mg base bz (k+1) f fd ["_law_draw","_law_name","_law_many","_law_deep","_law_helpers","_law_names_here"] (aQ K (A7 A)):=by
 refine aP F cH λAT B outer s H E hr=>?_;rw[show ai mX=[_,_,_,_,_,_,_,_,_,_,_] from rfl];refine⟨_,(qs (aq (i:=6) cH.nd (rJ true q_r nK (bT (ah av hr rfl ak)))) (qs (aZ jay rfl (qi (rJ false q_r (bT aH) (bT (bh aS aH (ah av hr rfl ak))))) (qg (i:=7) cH.nd) (aO (gk (TZ q_r (qa (ah av hr rfl (qa q_r (qa (bh aS (aU eO (by rfl) J.eS jaQ ak) aH) af))) ak))))) (qs (aq (i:=8) cH.nd (rJ false q_r (bT aH) (bT (bh aS aH (ah av hr rfl ak))))) (qs (aq (i:=9) cH.nd (ah vN hr rfl (qa q_r (qa q_r (qa (ah av hr rfl ak) af))))) (qs (aq (i:=10) cH.nd (ah vN hr rfl (qa q_r (qa q_r (qa (ah av hr rfl ak) af))))) (qs (xj (i:=11) cH.nd (aM ["_law_row"] ["_law_params"] [6] rfl (by symm) (by symm) (by with_unfolding_all rfl) (by exact⟨M,trivial⟩) (by rfl) rfl (by rfl)) rfl (qi (rJ false q_r (bT aH) (bT aH))) (λ_ _ _ _=>(qx (i:=0) (show List.Nodup (["_law_row","_law_params"]:jcR) by symm))) (λ_ _ _ _=>(tu (aE JJ q_r q_r (by rfl)))) (λ_ _ _ _=>q_r)) (qs (aq (i:=12) cH.nd (bx (qa (rJ false q_r (bT aH) (bT aH)) (qa (bh aS (rJ false q_r nK (bT aH)) (cu (aM ["_law_row"] [] [] rfl (by symm) (by symm) (by with_unfolding_all rfl) (by exact trivial) (by rfl) rfl (by rfl)) rfl (qi (rJ false q_r (bT aH) (bT aH))) (λ_ _ _ _=>(qx (i:=0) (show List.Nodup (["_law_row"]:jcR) by symm))) (λ_ _ _ _=>bD) (λ_ _ _ _=>q_r))) (qa q_r (qa (rJ false q_r (bT aH) (bT aH)) af)))))) (qs (aq (i:=13) cH.nd (ah F3 hr rfl ak)) (qs (aZ jay rfl (qi q_r) (qg (i:=14) cH.nd) (aO (aR (aE Fg (ah av hr rfl ak) aH (aF _)) (aO (gk (TZ q_r (qa (ah av hr rfl (qa q_r (qa (bh aS (aU eO (by rfl) J.eS jaQ ak) aH) af))) (qa (ah rX hr rfl ak) af))))) aD))) (qs (aR (aE (cU 40 (uE hr)) (ah av hr rfl ak) aH (aF _)) (aO (gk (oq q_r (qa (fz Dd hr rfl (qa q_r (qa (ah bH hr rfl ak) af))) af)))) aD) (aO (ao (fz N8 hr rfl ak))))))))))))),λds S kk hc hd h=>?_⟩;obtain⟨d,ns,j,nm,x4,hs,rfl,dq,hj,X4,hw,hok,h⟩:=h;have hlt:=dq.lt;obtain⟨a0,a1,a2,a3,a4,a5,a6,a7,rfl⟩:=OR X4;have w0:=hw a0 (by simp);have w1:=hw a1 (by simp);have w2:=hw a2 (by simp);have w3:=hw a3 (by simp);have w4:=hw a4 (by simp);have w5:=hw a5 (by simp);have w6:=hw a6 (by simp);have w7:=hw a7 (by simp);have D5:[a0,a1,a2,a3,a4,a5,hsh a6,hsh a7].length<=100:=by simp
 refine⟨d,3,M,dq,by first | decide | omega,λr1 Xp Wm hr1=>?_⟩;obtain⟨p0,ep0,hp0,a2U⟩:=Xl (a0:=a0) (a1:=a1) (a2:=a2) (a3:=a3) (a4:=a4) (a5:=a5) (a6:=a6) (a7:=a7) hr1;refine⟨_,M,?_⟩;rw[ep0];refine⟨d,3,M,dq.bX.up,by first | decide | omega,λr2 cr2 mr2 hr2=>?_⟩;rw[bE (by rw[ay];exact hlt),bV];obtain⟨rs,ers,hrs,a2S⟩:=Xk (a0:=a0) (a1:=a1) (a2:=a2) (a3:=a3) (a4:=a4) (a5:=a5) (a6:=a6) (a7:=a7) hr2;refine⟨_,M,?_⟩;rw[ers,ay,jad jaL];refine jX ?_;refine dF T.str (λpre Z S'=>∃y c m,∃ps:jcR,Z=[some (D.ob d),some (D.str nm),some (D.int j),some x4,some (D.lst (hs.map (pB A))),some (D.t (jW [a0,a1,a2,a3,a4,a5,a6,a7])),some (D.ob (S.length+0)),y,none,none,none,none,none,none,none]/\S'=bX S d c m++[O.lst (ps.map T.str)]/\ps.length<=2+pre.length/\∀x∈ps,SM x) ⟨_,_,_,p0,M,M,by simpa using hp0,λx hx=>?_⟩ ?_ ?_
 .have:=a2U x hx;simp at this;rcases this with rfl | rfl
  .exact Hg w0
  .exact Hg w1
 .rintro pre r post Z S' Nx e ⟨y,c,m,ps,rfl,rfl,hl,hp⟩ hN;have hr:=a2S r (by rw[e];simp);have hpre:pre.length<=2:=by rw[e,jaf] at hrs;omega
  have hrw:kq r:=by
   simp at hr;rcases hr with rfl | rfl
   .exact w6
   .exact w7
  refine⟨trivial,⟨M,_,fH (bg ay)⟩,oe (jL (bg ay)) ⟨d,_,M,dq.bX.up,by omega,λr3 c3 m3 sH=>?_⟩⟩;rw[bE (by rw[ay];exact hlt),bV];rw[jab] at sH;refine⟨by have:=hrw.2;exact ck (by show 1+_<=1000;omega),_,r3,bg ay,M,by rw[jab];omega,vS (by rw[jab];omega),?_⟩;have e2:(bX S d c3 m3++[O.lst (ps.map T.str)]).set (S.length+0) (O.lst ((ps.map T.str).take r3++[T.str ("#"++r)]++(ps.map T.str).drop r3))=bX S d c3 m3++[O.lst ((ps.take r3++[hsh r]++ps.drop r3).map T.str)]:=by
   rw[<- ay (S:=S) (d:=d) (c:=c3) (m:=m3),cB,jam,jam,List.map_take,List.map_drop];rfl
  rw[e2];refine hN _ _ ⟨_,_,_,_,M,M,?_,λx hx=>?_⟩
  .simp only[jaf,jby,jbP,jaj,jaT];omega
  .rcases jau.mp hx with hx | hx
   .rcases jau.mp hx with hx | hx
    .exact hp x (jcr hx)
    .rw[jai.mp hx];exact VN hrw
   .exact hp x (jcI hx)
 rintro Z S' ⟨y,c,m,ps,rfl,rfl,hpl,Z9⟩;have hps:ps.length<=4:=by omega
 refine⟨trivial,d,3,M,dq.bX.up,by first | decide | omega,λr3 LG Ll sH=>?_⟩;rw[bE (by rw[ay];exact hlt),bV];obtain⟨Pn,ean,han,Sg⟩:=Xn (a0:=a0) (a1:=a1) (a2:=a2) (a3:=a3) (a4:=a4) (a5:=a5) (a6:=a6) (a7:=a7) sH;refine⟨_,M,?_⟩;rw[ean];refine⟨d,3,M,dq.bX.up,by first | decide | omega,λr4 cr4 mr4 hr4=>?_⟩;rw[bE (by rw[ay];exact hlt),bV];refine⟨d,_,ps,r4,M,dq.bX.up,fH (bg ay),by omega,by omega,λnd c m a5q hnd=>?_⟩;rw[bE (by rw[ay];exact hlt),bV];refine⟨_,_,fH (bg ay),M,ck (by rw[jab,jab];omega),d,3,M,dq.bX.up,by first | decide | omega,λr5 cr5 mr5 hr5=>?_⟩;rw[bE (by rw[ay];exact hlt),bV];refine⟨d,_,ps++Pn,r5,M,dq.bX.up,by rw[jam];rfl,by rw[jaf];omega,by omega,λgv c m a5w hgv=>?_⟩;rw[bE (by rw[ay];exact hlt),bV];refine⟨_,M,?_⟩;rw[Ic,jad jaL];refine jX ?_;refine vc T.str (λx=>if ps.contains (hsh x)=true then none else some (T.str x)) trivial (sz 2) (λx hx k' hk=>?_) ?_
 .have hxw:kq x:=by
   simp at hx;rcases hx with rfl | rfl
   .exact w6
   .exact w7
  refine⟨by have:=hxw.2;exact ck (by show 1+_<=1000;omega),_,_,_,M,M,jL (bg ay),Dk ps,?_⟩;have e3:R8 (V.str ("#"++x)) (ps.map V.str)=ps.contains (hsh x):=by rw[Dh,List.contains_eq_mem];rfl
  rw[e3];cases q:ps.contains (hsh x) with
  |true=>rw[jae q] at hk;exact⟨false,M,hk⟩
  |false=>rw[jad (by rw[q];decide)] at hk;exact⟨true,M,_,M,hk⟩
 obtain⟨ms,ems,hms⟩:∃ms:jcR,[a6,a7].filterMap (λx=>if ps.contains (hsh x)=true then none else some (T.str x))=ms.map T.str/\ms.length<=2/\∀x∈ms,x∈[a6,a7]:=by
  by_cases q6:ps.contains (hsh a6)=true<;>by_cases q7:ps.contains (hsh a7)=true
  .exact⟨[],by simp only[jbw,jcv,jae q6,jae q7];rfl,by decide,λx h=>by cases h⟩
  .exact⟨[a7],by simp only[jbw,jcv,jae q6,jad q7];rfl,by simp,λx h=>by simp at h;simp[h]⟩
  .exact⟨[a6],by simp only[jbw,jcv,jad q6,jae q7];rfl,by simp,λx h=>by simp at h;simp[h]⟩
  .exact⟨[a6,a7],by simp only[jbw,jcv,jad q6,jad q7];rfl,by simp,λx h=>h⟩
 rw[ems];refine⟨_,M,?_⟩;rw[Xo];refine⟨_,M,?_⟩;rw[Xm];refine⟨_,M,?_⟩;rw[Ic,jad jaL];refine jX ?_;refine cV T.str (λx=>T.str (hsh x)) trivial (sz 2) (λx hx k' hk=>?_) ?_
 .have hxw:kq x:=by
   simp at hx;rcases hx with rfl | rfl
   .exact w6
   .exact w7
  exact⟨by have:=hxw.2;exact ck (by show 1+_<=1000;omega),_,M,hk⟩
 refine⟨_,_,M,M,sz 8,_,M,?_⟩;rw[Ic];have LN:Pw [a2,a3,a4,a5] [a0,a1,a2,a3,a4,a5,hsh a6,hsh a7] ms [a6,a7]:=by
  refine⟨⟨by simp,by simp⟩,λx hx=>?_,⟨by simp,by simp⟩,λx hx=>?_,by omega,⟨by simp,by simp⟩,λx hx=>?_⟩
  .simp at hx;rcases hx with rfl | rfl | rfl | rfl
   .exact⟨w2,by simp⟩
   .exact⟨w3,by simp⟩
   .exact⟨w4,by simp⟩
   .exact⟨w5,by simp⟩
  .have:=hms.2 x hx;simp at this;rcases this with rfl | rfl
   .exact⟨w6.2,by simp⟩
   .exact⟨w7.2,by simp⟩
  .simp at hx;rcases hx with rfl | rfl
   .exact⟨w6.2,by simp⟩
   .exact⟨w7.2,by simp⟩
 refine⟨d,_,_,ms,_,j,_,hs,M,dq.bX.up,LN,jal _,hok,by omega,λsts c m hsl hst=>?_⟩;rw[bE (by rw[ay];exact hlt),bV];rw[jaX,jaf,ay];have Z6:sts.length<=3:=by omega
 clear hsl;refine(jX ?_);refine dF (pB A) (λpre Z S'=>∃z c m,∃sts:List aV,Z=[some (D.ob d),some (D.str nm),some (D.int j),some x4,some (D.lst (hs.map (pB A))),some (D.t (jW [a0,a1,a2,a3,a4,a5,a6,a7])),some (D.ob (S.length+0)),y,some (D.lst (Pn.map T.str)),some (D.lst (nd.map (atT A))),some (D.lst (gv.map (atT A))),some (D.lst (ms.map T.str)),some (D.t (.tup [jW [a2,a3,a4,a5],jW [a0,a1,a2,a3,a4,a5,hsh a6,hsh a7],jW ms,jW [a6,a7]])),some (D.ob (S.length+1)),z]/\S'=bX S d c m++([O.lst (ps.map T.str)]++[O.lst (sts.map (jJ A))])/\sts.length<=3+pre.length/\∀s∈sts,gR [a0,a1,a2,a3,a4,a5,hsh a6,hsh a7] s/\Of hs s) ⟨none,c,m,sts,M,M,Z6,hst⟩ ?_ ?_
 .clear hst Z6;rintro pre one post Z S' Nx e ⟨z,c,m,sts,rfl,rfl,Z6,hst⟩ hN;have hone:one∈hs:=by rw[e];simp
  obtain⟨jcN,gy⟩:=hok.g one hone;have hpl:pre.length<3:=by have:=hok.l;rw[e,jaf,jaj] at this;omega
  refine⟨trivial,d,3,M,dq.bX.up,by first | decide | omega,λr7 cr7 mr7 hr7=>?_⟩;rw[bE (by rw[ay];exact hlt),bV];by_cases h7:(0:Int)<r7
  .refine⟨true,jah D.bl (jaF h7),⟨M,_,fH (bg (q:=1) ay)⟩,oe (jL (bg (q:=1) ay)) ⟨d,_,M,dq.bX.up,by omega,λr8 c8 m8 h8=>?_⟩⟩;rw[bE (by rw[ay];exact hlt),bV];rw[jab] at h8;refine(oe (jL (lD (u7 hlt))) ⟨d,_,_,ms,_,jcN,one,_,M,dq.bX.up,LN,jal _,gy,gy.al,λXR gs2 c9 m9 h9=>?_⟩);rw[bE (by rw[ay];exact hlt),bV];refine⟨_,r8,bg (q:=1) ay,M,by rw[jab];omega,vS (by rw[jab];omega),?_⟩;have e2:(bX S d c9 m9++([O.lst (ps.map T.str)]++[O.lst (sts.map (jJ A))])).set (S.length+1) (O.lst ((sts.map (jJ A)).take r8++[jJ A (.cl m8 XR one.hd gs2)]++(sts.map (jJ A)).drop r8))=bX S d c9 m9++([O.lst (ps.map T.str)]++[O.lst ((sts.take r8++[aV.cl m8 XR one.hd gs2]++sts.drop r8).map (jJ A))]):=by
    rw[<- ay (S:=S) (d:=d) (c:=c9) (m:=m9),cB,jam,jam,List.map_take,List.map_drop];rfl
   rw[e2];refine hN _ _ ⟨_,_,_,_,M,M,?_,λs hs'=>?_⟩
   .simp only[jaf,jby,jbP,jaj,jaT];omega
   .rcases jau.mp hs' with q | q
    .rcases jau.mp q with q | q
     .exact hst s (jcr q)
     .rw[jai.mp q];exact⟨h9,λa ns g gs e=>by cases e;exact⟨one,hone,M⟩⟩
    .exact hst s (jcI q)
  .exact⟨false,jah D.bl (jat h7),hN _ _ ⟨_,_,_,sts,M,M,by rw[jaf];omega,hst⟩⟩
 clear hst Z6;rintro Z S' ⟨z,c,m,sts,rfl,rfl,Z6,hst⟩;have hsl:sts.length<=6:=by have:=hok.l;omega
 refine⟨trivial,d,2,M,dq.bX.up,by first | decide | omega,λr6 cr6 ZM hr6=>?_⟩;rw[bE (by rw[ay];exact hlt),bV];by_cases h6:r6=0
 .refine⟨true,iT,⟨M,_,fH (bg (q:=1) ay)⟩,oe (jL (lD (u7 hlt))) ⟨d,_,[a0,a1,a2,a3,a4,a5,hsh a6,hsh a7],by decide,M,dq.bX.up,M,D5,λe c m he _=>?_⟩⟩;rw[bE (by rw[ay];exact hlt),bV];refine⟨_,[.int ZM,dU A e],M,M,au,made ⟨_,bg (q:=1) ay,vS (by rw[jab];omega),?_⟩⟩;have e4:(bX S d c m++([O.lst (ps.map T.str)]++[O.lst (sts.map (jJ A))])).set (S.length+1) (O.lst (sts.map (jJ A)++[T.ins A.cW ["at","condition"] [.int ZM,dU A e]]))=bX S d c m++([O.lst (ps.map T.str)]++[O.lst ((sts++[aV.cm ZM e]).map (jJ A))]):=by
   rw[<- ay (S:=S) (d:=d) (c:=c) (m:=m),cB,jam];rfl
  rw[e4];have Z4:∀s∈sts++[aV.cm ZM e],gR [a0,a1,a2,a3,a4,a5,hsh a6,hsh a7] s/\Of hs s:=λs hs=>by
   rcases jau.mp hs with hs | hs
   .exact hst s hs
   .rw[jai.mp hs];exact⟨Tt he,T8 (by show 5<6;decide)⟩
  refine(oe (jL (lD (u7 hlt))) ⟨_,0,"",_,_,_,_,_,⟨_,nm,ps,Pn,nd,gv,sts++[.cm ZM e]⟩,M,au,qY (tM (fH (bg (q:=0) ay))),M,M,M,qY (tM (fH (bg (q:=1) ay))),by show nd.length<=100;omega,by show gv.length<=100;omega,made (F0 hc (h _ _ _ _ (JZ (N:=[a0,a1,a2,a3,a4,a5,hsh a6,hsh a7]) (by omega) (by omega) (by rw[jaf,jbF];omega) (by omega) (by omega) (by simp) (λx hx=>by have:=Sg x hx;simp at this;rcases this with rfl | rfl<;>simp) (λs h=>(Z4 s h).1) hnd hgv Z9 han (λx hx=>by have:=Sg x hx;simp at this;rcases this with rfl | rfl;exact w3;exact w4)) rfl (λs h=>(Z4 s h).2)))⟩)
 .refine⟨false,iF,?_⟩;refine(oe (jL (lD (u7 hlt))) ⟨_,0,"",_,_,_,_,_,⟨_,nm,ps,Pn,nd,gv,sts⟩,M,au,qY (tM (fH (bg (q:=0) ay))),M,M,M,qY (tM (fH (bg (q:=1) ay))),by show nd.length<=100;omega,by show gv.length<=100;omega,made (F0 hc (h _ _ _ _ (JZ (N:=[a0,a1,a2,a3,a4,a5,hsh a6,hsh a7]) (by omega) (by omega) (by omega) (by omega) (by omega) (by simp) (λx hx=>by have:=Sg x hx;simp at this;rcases this with rfl | rfl<;>simp) (λs h=>(hst s h).1) hnd hgv Z9 han (λx hx=>by have:=Sg x hx;simp at this;rcases this with rfl | rfl;exact w3;exact w4)) rfl (λs h=>(hst s h).2)))⟩)
abbrev sW:Stmt:=top 83
theorem gW:aj ["_law_one_here","_law_other","_law_times","_law_found","_law_thing","_law_many","_law_terms"] ["_law_one_here","_law_other","_law_times"] (aa sW):=bW
seal aG in
theorem K9 (J:Fx K mg A)(F:bG K "_law_plus" "_law_plus" sW f fd):az P w K mg base bz (k+1) f fd ["_law_one_here","_law_other","_law_times"] (aQ K Ji):=by
 refine aP F gW λAT B outer s H E hr=>?_;rw[show ai sW=[_,_,_,_,_] from rfl];refine⟨_,(qs (aq (i:=3) gW.nd CB) (qs (aZ jay rfl (qi q_r) (gX (n:=2) rfl (uA (qg (i:=4) gW.nd) (uA (qg (i:=5) gW.nd) fc))) (aO (jB (gM hr) q_r q_r q_r))) (qs (aZ jay rfl (qi q_r) (gX (n:=2) rfl (uA (qg (i:=4) gW.nd) (uA (qg (i:=5) gW.nd) fc))) (aO (jB (gM hr) q_r q_r (bh aS (CC (gM hr) q_r q_r aH) q_r)))) (qs (aq (i:=6) gW.nd (aK bA (by rfl) J.bu jaK (qa (cu (aM ["_law_thing"] ["_law_found"] [3] rfl (by symm) (by symm) (by with_unfolding_all rfl) (by exact⟨M,trivial⟩) (by rfl) rfl (by rfl)) rfl (qi (aU (Kp M) (by rfl) J.mH boot_sorted ak)) (λ_ _ _ _=>(qx (i:=0) (show List.Nodup (["_law_thing","_law_found"]:jcR) by symm))) (λ_ _ _ _=>(tu (aE (Ff 40 (uE hr)) (yw (gM hr) q_r q_r) aH (aF _)))) (λ_ _ _ _=>(bx (qa q_r (qa (yw (gM hr) q_r q_r) af))))) af))) (aO (ao q_r)))))),λds S kk hc hd h=>?_⟩;obtain⟨a,b,t,rfl,ha,hnd,hb,ht,h⟩:=h;refine(bJ (dF pT (λpre Z S'=>∃x y dd,Z=[some (D.t (i8 a)),some (.t (i8 b)),some (.int t),some (D.ob S.length),x,y,none]/\S'=S++[O.ly dd]/\Gx pre dd) ⟨_,_,_,M,M,.nil⟩ ?_ ?_))
 .rintro pre ⟨x,v⟩ post Z S' N e ⟨x0,y0,dd,rfl,rfl,hz⟩ hN;have hp:x∉pre.map (·.1):=by
   rw[e,jam,jax] at hnd;exact λhx=>(jcc.mp hnd).2.2 x hx x jar rfl
  have hl:dd.length<sizeLine:=vS (by have h0:=hz.len;rw[e,jaf] at ha;omega);refine⟨trivial,_,M,M,_,_,M,_,_,M,M,_,_,_,_,M,au,M,M,hl,?_⟩;rw[cP];exact hN _ _ ⟨_,_,_,M,M,hz.snoc x v (by rw[rF hp];omega)⟩
 rintro Z S' ⟨x0,y0,dd,rfl,rfl,hz⟩;refine⟨trivial,bJ (dF pT (λpre Z S'=>∃x y dd,Z=[some (D.t (i8 a)),some (.t (i8 b)),some (.int t),some (D.ob S.length),x,y,none]/\S'=S++[O.ly dd]/\Gx (a.1++pre.map λp=>(p.1,t*p.2)) dd) ⟨_,_,_,M,M,by simpa using hz⟩ ?_ ?_)⟩
 .clear hz;rintro pre ⟨x,v⟩ post Z S' N e ⟨x0,y0,dd,rfl,rfl,hz⟩ hN;have hp:pre.length<=8:=by rw[e,jaf] at hb;omega
  have hl:dd.length<sizeLine:=vS (by have h0:=hz.len;rw[jaf,jab] at h0;omega);refine⟨trivial,_,M,M,_,_,M,_,_,M,M,?_⟩;refine⟨_,_,M,au,_,_,au,M,.inl ⟨by omega,by omega⟩,?_⟩;rw[hz.val x];by_cases hx:x∈(a.1++pre.map λp=>(p.1,t*p.2)).map (·.1)
  .rw[jae hx];refine⟨_,_,_,_,M,au,M,M,hl,?_⟩;rw[cP];refine hN _ _ ⟨_,_,_,M,M,?_⟩;have:=hz.snoc x (t*v) rfl;rw[jaX] at this;rw[jam];exact this
  .rw[jad hx];refine⟨_,_,_,_,M,au,M,M,hl,?_⟩;rw[cP];refine hN _ _ ⟨_,_,_,M,M,?_⟩;have:=hz.snoc x (t*v) (i:=0+t*v) (by rw[rF hx]);rw[jaX] at this;rw[jam];exact this
 clear hz;rintro Z S' ⟨x0,y0,dd,rfl,rfl,hz⟩;have hL:(a.1++b.1.map λp=>(p.1,t*p.2)).length<=40:=by rw[jaf,jab];omega
 obtain⟨ss,k1,k2,k3⟩:=hz.keys;refine⟨trivial,_,_,au,k1,k2,by have:=hz.len;omega,?_⟩;rw[Mz k3];have hsl:=mP ((a.1++b.1.map λp=>(p.1,t*p.2)).map (·.1));rw[jab] at hsl;refine jX ?_;refine vc T.str (λx=>if wt (a.1++b.1.map λp=>(p.1,t*p.2)) x≠0 then some (pT (x,wt (a.1++b.1.map λp=>(p.1,t*p.2)) x)) else none) trivial (ck (by omega)) ?_ ?_
 .intro x hx k' hk;have hv:jY dd (Sum.inr x)=some (.int (wt (a.1++b.1.map λp=>(p.1,t*p.2)) x)):=by rw[hz.val x,jae (dG.mp hx)]
  refine⟨_,_,_,_,M,au,M,hv,?_⟩;by_cases hw:wt (a.1++b.1.map λp=>(p.1,t*p.2)) x=0
  .rw[jad (by simpa using hw)] at hk;exact⟨false,jah D.bl (a2F hw),hk⟩
  .rw[jae hw] at hk;exact⟨true,jah D.bl (a2C hw),_,_,_,_,M,au,M,hv,_,M,hk⟩
 .rw[JL];exact⟨.inl ⟨by omega,by omega⟩,F1 hc h⟩
abbrev w9:Stmt:=top 86
theorem M1:aj ["_law_thing"] ["_law_thing"] (aa w9):=bW
seal aG in
theorem NJ (J:Fx K mg A)(F:bG K "_law_one" "_law_one" w9 f fd):az P w K mg base bz (k+1) f fd ["_law_thing"] (aQ K MM):=by
 refine aP F M1 λAT B outer s H E hr=>?_;rw[show ai w9=[_] from rfl];refine⟨_,(aO (ao q_r)),λds S kk hc hd h=>?_⟩;obtain⟨x,rfl,h⟩:=h;exact(aL hc h)
abbrev kJ:Stmt:=top 87
theorem Ce:aj ["_law_one_here","_law_other"] ["_law_one_here","_law_other"] (aa kJ):=bW
seal aG in
theorem CP (J:Fx K mg A)(F:bG K "_law_at_most" "_law_at_most" kJ f fd):az P w K mg base bz (k+1) f fd ["_law_one_here","_law_other"] (aQ K MP):=by
 refine aP F Ce λAT B outer s H E hr=>?_;rw[show ai kJ=[_] from rfl];refine⟨_,(aO (ao q_r)),λds S kk hc hd h=>?_⟩;obtain⟨a,b,rfl,h⟩:=h;unfold zP at h;rw[qL] at h;exact(aL hc h)
abbrev kE:Stmt:=top 88
theorem jl:aj ["_law_steps_here","_law_found","_law_step_here"] ["_law_steps_here"] (aa kE):=bW
seal aG in
theorem CK (J:Fx K mg A)(F:bG K "_law_written" "_law_written" kE f fd):az P w K mg base bz (k+1) f fd ["_law_steps_here"] (aQ K TH):=by
 refine aP F jl λAT B outer s H E hr=>?_;rw[show ai kE=[_,_,_] from rfl];refine⟨_,(qs (aq (i:=1) jl.nd (gI af)) (qs (aZ jay rfl (qi q_r) (qg (i:=2) jl.nd) (qs (aR (aE ZA q_r q_r (by rfl)) (aO (gk (oq q_r ak))) aD) (qs (aR (aE (cU 40 (uE hr)) q_r aX (aF _)) (aO (gk (oq q_r ak))) aD) (aO (aR (aE (cU 40 (uE hr)) q_r aX (aF _)) (aO (aq (i:=1) jl.nd (bh We q_r (aK Ik (by rfl) J.zq boot_list ak)))) aD))))) (aO (ao (Vv rfl J.mH rfl J.Kz rfl q_r))))),λds S kk hc hd h=>?_⟩;obtain⟨l,N,rfl,ok,D5,hl,h⟩:=h;refine(bJ (dF zN (λpre Z S'=>∃y loc q,Z=[some (.tup (l.map zN)),some (D.ob (S.length+q)),y]/\S'=S++loc/\loc[q]?=some (O.lst (((pre.map AY).flatten).map T.str))) ⟨none,[O.lst []],0,M,M,M⟩ ?_ ?_))
 .rintro pre s post Z S' Nx e ⟨y,loc,q,rfl,rfl,hq⟩ hN;have h1:=xP (l:=pre) λs hs=>ok s (by rw[e];exact jaP _ hs);have h2:pre.length<=8:=by rw[e,jaf] at hl;omega
  have hb:(((pre.map AY).flatten).map T.str).length<=900:=by rw[jab];omega
  have hb:(((pre.map AY).flatten).map T.str).length<=900/\(((pre.map AY).flatten).map T.str).length<=1000:=⟨hb,by omega⟩
  obtain⟨hb9,hb⟩:=hb;have Sd:∀o,(loc.set q o)[q]?=some o:=λo=>jaG (jao.mp hq).1;have en:∀(hw:AY s=[]),(((pre++[s]).map AY).flatten).map T.str=((pre.map AY).flatten).map T.str:=λhw=>by rw[jI,hw];simp
  have es:∀{x:Str}(hw:AY s=[x]),(((pre++[s]).map AY).flatten).map T.str=((pre.map AY).flatten).map T.str++[T.str x]:=λhw=>by rw[jI,hw];rfl
  refine⟨trivial,?_⟩;cases s with
  |lt a x s=>
   refine EK rfl (lV (xs:=["let","divide","fetch"]) (by symm)) ?_;refine⟨⟨M,_,eG hq⟩,_,dH.trans hq,vS hb,?_⟩;rw[cB];dsimp only;exact fD rfl (dS (by symm)) (vZ rfl (dS (by symm)) (hN _ _ ⟨_,_,q,M,M,(Sd _).trans (by rw[es rfl])⟩))
  |dv a x wd s b=>
   refine EK rfl (lV (xs:=["let","divide","fetch"]) (by symm)) ?_;refine⟨⟨M,_,eG hq⟩,_,dH.trans hq,vS hb,?_⟩;rw[cB];dsimp only;exact fD rfl (dS (by symm)) (vZ rfl (dS (by symm)) (hN _ _ ⟨_,_,q,M,M,(Sd _).trans (by rw[es rfl])⟩))
  |ft a x r p=>
   refine EK rfl (lV (xs:=["let","divide","fetch"]) (by symm)) ?_;refine⟨⟨M,_,eG hq⟩,_,dH.trans hq,vS hb,?_⟩;rw[cB];dsimp only;exact fD rfl (dS (by symm)) (vZ rfl (dS (by symm)) (hN _ _ ⟨_,_,q,M,M,(Sd _).trans (by rw[es rfl])⟩))
  |pt a r p s=>
   exact fD rfl (lV (xs:=["let","divide","fetch"]) (by symm)) (fD rfl (dS (by symm)) (vZ rfl (dS (by symm)) (hN _ _ ⟨_,loc,q,M,M,by rw[en rfl];exact hq⟩)))
  |mq a r z=>
   refine fD rfl (lV (xs:=["let","divide","fetch"]) (by symm)) (EK rfl (seq M) ?_);refine⟨⟨M,_,eG hq⟩,by have:=(ok (.mq a r z) (by rw[e];simp)).ok.few.2;exact ck (by show 1+_<=1000;omega),_,dH.trans hq,vS hb,?_⟩;rw[cB];dsimp only;exact vZ rfl (dS (by symm)) (hN _ _ ⟨_,_,q,M,M,(Sd _).trans (by rw[es (x:=hsh r) rfl];rfl)⟩)
  |cm a c=>
   exact fD rfl (lV (xs:=["let","divide","fetch"]) (by symm)) (fD rfl (dS (by symm)) (vZ rfl (dS (by symm)) (hN _ _ ⟨_,loc,q,M,M,by rw[en rfl];exact hq⟩)))
  |cl a ns g gs=>
   have hf:=(ok (.cl a ns g gs) (by rw[e];simp)).ok.few.2.2;refine fD rfl (lV (xs:=["let","divide","fetch"]) (by symm)) (fD rfl (dS (by symm)) (YZ rfl (seq M) ?_));refine⟨_,_,eG hq,M,ck (by rw[jab (f:=T.str) (as:=ns)];omega),?_⟩;rw[jaX,jaf];refine hN _ _ ⟨_,_,loc.length,M,M,?_⟩;rw[jI];exact JP
 .rintro Z S' ⟨y,loc,q,rfl,rfl,hq⟩;have h1:=xP ok;exact⟨trivial,_,N,eG hq,by omega,by omega,US ok,F1 hc h⟩
abbrev iu:Stmt:=top 89
theorem gq:aj ["_law_told","_law_found","_law_one_here"] ["_law_told"] (aa iu):=bW
seal aG in
theorem oY (J:Fx K mg A)(eE:Dn P w K mg base k "_law_things_of" ["_law_told"] (aQ K (Ek n)))(F:bG K "_law_things_of" "_law_things_of" iu f fd):az P w K mg base bz (k+1) f fd ["_law_told"] (aQ K (Ek (n+1))):=by
 refine aP F gq λAT B outer s H E hr=>?_;rw[show ai iu=[_,_,_,_,_] from rfl];refine⟨_,(qs (aR (fu (aU (mG (c:=.ty "str") trivial M) (by rfl) J.bB jbk (qa q_r (qa (iW (JG (v:=.ty "str") rfl J.Ky boot_str M)) af)))) (aO (ao (cz af))) aD) (qs (aR (aE (cU 40 (uE hr)) q_r aX (aF _)) (aO (ao (cu (aM ["_law_thing","_law_times"] [] [] rfl (by symm) (by symm) (by with_unfolding_all rfl) (by exact trivial) (by rfl) rfl (by rfl)) rfl (qi q_r) (λ_ _ _ _=>(jQ (n:=2) rfl (zO (qx (i:=0) (show List.Nodup (["_law_thing","_law_times"]:jcR) by symm)) (zO (qx (i:=1) (show List.Nodup (["_law_thing","_law_times"]:jcR) by symm)) gH)))) (λ_ _ _ _=>bD) (λ_ _ _ _=>q_r)))) aD) (qs (aq (i:=1) gq.nd (cz af)) (qs (aZ jay rfl (qi (rJ false q_r (bT aH) nK)) (qg (i:=2) gq.nd) (aO (aq (i:=1) gq.nd (bh aS q_r (ah eE hr rfl ak))))) (aO (ao q_r)))))),λds S kk hc hd h=>?_⟩;obtain⟨c,rfl,hd2,hf,h⟩:=h;obtain⟨hf1,hf2⟩:=hf;cases c with
 |cmp a s b=>
  rw[qL];have ha:a.1.length<=4:=hf2 a (by unfold aI.sums;simp);have hb:b.1.length<=4:=hf2 b (by unfold aI.sums;simp);refine⟨M,_,false,M,J.WK,_,M,true,tT,ck (by rw[jab,jab];omega),?_⟩;rw[<- jam];refine bJ ?_;refine cV pT (λp=>T.str p.1) trivial (ck (by rw[jaf];omega)) (λx _ k' hk=>⟨_,M,M,_,_,M,_,_,M,M,_,M,hk⟩) (aL hc ?_);have e:(a.1++b.1).map (λp=>T.str p.1)=((aI.cmp a s b).sums.map Sm.bC).flatten.map T.str:=by
   unfold aI.sums;show _=(a.bC++(b.bC++[])).map T.str;unfold Sm.bC;rw[jaJ,jam,jam,jaN,jaN];rfl
  rw[e];exact h
 |neg c=>
  rw[xF];unfold aI.dep at hd2;unfold aI.sz at hf1;unfold aI.sums at hf2 h;refine⟨M,_,false,M,J.WK,_,M,false,tF,Dp (by simp),?_⟩;rw[tV];refine bJ ⟨trivial,c,M,by omega,⟨by omega,hf2⟩,?_⟩;have hl:=gP (n:=4) hf2;have hl2:=jj c;refine⟨_,_,M,M,ck (by show([]:List T).length+_<=1000;rw[jaT,jab];omega),trivial,aL hc h⟩
 |con q cs=>
  rw[iS];unfold aI.dep at hd2;unfold aI.sz at hf1;unfold aI.sums at hf2 h;refine⟨M,_,false,M,J.WK,_,M,oe Uz ⟨false,jah D.bl (dS (by cases q<;>symm)),Dp (by simp),?_⟩⟩;rw[tV];refine bJ ?_;have hl:∀pre post:List aI,cs=pre++post->((cZ pre).map Sm.bC).flatten.length<=56:=λpre post e=>by
   have h1:=gP (n:=4) (l:=cZ pre) λs hs=>hf2 s (by rw[e,mj];exact jaP _ hs);have h2:=sO pre;have h3:uH pre<=6:=by rw[e,BR] at hf1;omega
   omega
  refine dF jC (λpre Z S'=>∃y,Z=[some (.tup (.str (if q=true then "and" else "or")::cs.map jC)),some (D.t (jW ((cZ pre).map Sm.bC).flatten)),y]/\S'=S) ⟨_,M,M⟩ ?_ ?_
  .rintro pre c post Z S' N e ⟨y,rfl,rfl⟩ hN;have vL:c∈cs:=by rw[e];simp
   have h1:=lA vL;have h2:=rG vL;have h3:∀s∈c.sums,s.few:=λs hs=>hf2 s (by rw[e,mj,cZ];exact jaW _ (jaP _ hs));have h4:=hl pre (c::post) e;have h5:=gP (n:=4) h3;have h6:=jj c;refine⟨trivial,c,M,by omega,⟨by omega,h3⟩,_,_,M,M,ck (by rw[jab,jab];omega),?_⟩;have e2:(((cZ pre).map Sm.bC).flatten.map T.str)++((c.sums.map Sm.bC).flatten.map T.str)=((cZ (pre++[c])).map Sm.bC).flatten.map T.str:=by
    rw[mj,cZ,cZ];simp
   rw[e2];exact hN _ _ ⟨_,M,M⟩
  .rintro Z S' ⟨y,rfl,rfl⟩;exact⟨trivial,aL hc h⟩
abbrev gC:Stmt:=top 90
theorem fQ:aj ["_law_sums","_law_found","_law_one_here"] ["_law_sums"] (aa gC):=bW
seal aG in
theorem we (J:Fx K mg A)(F:bG K "_law_sum_things" "_law_sum_things" gC f fd):az P w K mg base bz (k+1) f fd ["_law_sums"] (aQ K MJ):=by
 refine aP F fQ λAT B outer s H E hr=>?_;rw[show ai gC=[_,_,_] from rfl];refine⟨_,(qs (aq (i:=1) fQ.nd (cz af)) (qs (aZ jay rfl (qi q_r) (qg (i:=2) fQ.nd) (aO (aq (i:=1) fQ.nd (bh aS q_r (cu (aM ["_law_thing","_law_times"] [] [] rfl (by symm) (by symm) (by with_unfolding_all rfl) (by exact trivial) (by rfl) rfl (by rfl)) rfl (qi q_r) (λ_ _ _ _=>(jQ (n:=2) rfl (zO (qx (i:=0) (show List.Nodup (["_law_thing","_law_times"]:jcR) by symm)) (zO (qx (i:=1) (show List.Nodup (["_law_thing","_law_times"]:jcR) by symm)) gH)))) (λ_ _ _ _=>bD) (λ_ _ _ _=>q_r)))))) (aO (ao q_r)))),λds S kk hc hd h=>?_⟩;obtain⟨x0,l,rfl,hx0,hl,hf,h⟩:=h;refine(WT hx0 (dF i8 (λpre Z S'=>∃y,Z=[some x0,some (D.t (jW (pre.map Sm.bC).flatten)),y]/\S'=S) ⟨_,M,M⟩ ?_ ?_))
 .rintro pre s post Z S' N e ⟨y,rfl,rfl⟩ hN;have h1:s.1.length<=4:=hf s (by rw[e];simp);have h2:=gP (n:=4) (l:=pre) λs hs=>hf s (by rw[e];exact jaP _ hs);have h3:pre.length<=8:=by rw[e,jaf] at hl;omega
  refine⟨trivial,?_⟩;refine bJ ?_;refine cV pT (λp=>T.str p.1) trivial (ck (by omega)) (λx _ k' hk=>⟨_,M,M,_,_,M,_,_,M,M,_,M,hk⟩) ?_;refine⟨_,_,M,M,ck (by rw[jab,jab];omega),?_⟩;have e2:((pre.map Sm.bC).flatten.map T.str)++(s.1.map λp=>T.str p.1)=((pre++[s]).map Sm.bC).flatten.map T.str:=by simp[Sm.bC]
  rw[e2];exact hN _ _ ⟨_,M,M⟩
 .rintro Z S' ⟨y,rfl,rfl⟩;exact⟨trivial,aL hc h⟩
abbrev qq:Stmt:=top 91
theorem dh:aj ["_law_steps_here","_law_found","_law_step_here"] ["_law_steps_here"] (aa qq):=bW
seal aG in
theorem Hq (J:Fx K mg A)(cN:r9 P w K mg base k)(eE:lG P w K mg base k)(Au:wC P w K mg base k)(F:bG K "_law_stand" "_law_stand" qq f fd):az P w K mg base bz (k+1) f fd ["_law_steps_here"] (aQ K Em):=by
 refine aP F dh λAT B outer s H E hr=>?_;rw[show ai qq=[_,_,_] from rfl];refine⟨_,(qs (aq (i:=1) dh.nd (ah Au hr rfl ak)) (qs (aZ jay rfl (qi q_r) (qg (i:=2) dh.nd) (qs (aR (aE (cU 40 (uE hr)) q_r aX (aF _)) (aO (aq (i:=1) dh.nd (bh aS q_r (ah cN hr rfl (qa (cz ak) af))))) aD) (qs (aR (aE (cU 40 (uE hr)) q_r aX (aF _)) (aO (aq (i:=1) dh.nd (bh aS q_r (ah cN hr rfl (qa (cz ak) af))))) aD) (qs (aR (aE (cU 40 (uE hr)) q_r aX (aF _)) (aO (aq (i:=1) dh.nd (bh aS (bh aS q_r (ah cN hr rfl (qa (cz ak) af))) (cz ak)))) aD) (qs (aR (aE (cU 40 (uE hr)) q_r aX (aF _)) (aO (aq (i:=1) dh.nd (bh aS (bh aS q_r (ah cN hr rfl (qa (cz ak) af))) (cz ak)))) aD) (qs (aR (aE (cU 40 (uE hr)) q_r aX (aF _)) (aO (aq (i:=1) dh.nd (bh aS q_r (ah cN hr rfl (qa (cz ak) af))))) aD) (qs (aR (aE (cU 40 (uE hr)) q_r aX (aF _)) (aO (aq (i:=1) dh.nd (bh aS q_r (ah eE hr rfl ak)))) aD) (aO (aR (aE (cU 40 (uE hr)) q_r aX (aF _)) (aO (aq (i:=1) dh.nd (bh aS q_r (ah cN hr rfl ak)))) aD))))))))) (aO (ao q_r)))),λds S kk hc hd h=>?_⟩;obtain⟨l,N,rfl,ok,D5,hl,h⟩:=h;refine⟨l,N,M,ok,D5,hl,bJ (dF zN (λpre Z S'=>∃y,Z=[some (.tup (l.map zN)),some (D.t (jW (zQ l++(pre.map ql).flatten))),y]/\S'=S) ⟨none,by rw[jbC,List.flatten_nil,jaJ];rfl,M⟩ ?_ ?_)⟩
 .rintro pre s post Z S' Nx e ⟨y,rfl,rfl⟩ hN;have hs:s∈l:=by rw[e];simp
  have hq:(zQ l++(pre.map ql).flatten).length<=700:=by
   have h1:=mP (l.map AY).flatten;have h2:=xP ok;have h3:=BP (l:=pre) λs hs=>ok s (by rw[e];exact jaP _ hs);have h4:pre.length<=8:=by rw[e,jaf] at hl;omega
   unfold zQ;rw[jaf];omega
  generalize hQ:zQ l++(pre.map ql).flatten=Q at hq ⊢;have en2:Q++ql s=zQ l++((pre++[s]).map ql).flatten:=by rw[<- hQ];simp
  have en:Q.map T.str++(ql s).map T.str=(zQ l++((pre++[s]).map ql).flatten).map T.str:=by rw[<- en2,jam]
  have bd:∀{m:jcR},m.length<=56->(Q.map T.str).length+(m.map T.str).length<=sizeLine:=λhm=>ck (by rw[jab,jab];omega);refine⟨trivial,?_⟩;cases s with
  |lt a x s=>
   have hk:=(ok (.lt a x s) hs).ok.few;have HR:(ql (.lt a x s)).length<=56:=oM (ok _ hs);have en:Q.map T.str++(s.bC).map T.str=_:=en;refine EK rfl (seq M) ?_;refine⟨_,[s],M,.inl M,by simp,(λt ht=>by rw[jai.mp ht];exact hk.1),_,_,M,M,bd (by rw[show([s].map Sm.bC).flatten=s.bC from by simp];exact HR),?_⟩;rw[show([s].map Sm.bC).flatten=s.bC from by simp,en];dsimp only;exact fD rfl (dS (by symm)) (fD rfl (dS (by symm)) (fD rfl (dS (by symm)) (fD rfl (dS (by symm)) (fD rfl (dS (by symm)) (vZ rfl (dS (by symm)) (hN _ _ ⟨_,M,M⟩))))))
  |dv a x wd s b=>
   have hk:=(ok (.dv a x wd s b) hs).ok.few;have HR:(ql (.dv a x wd s b)).length<=56:=oM (ok _ hs);have en:Q.map T.str++(s.bC++b.bC).map T.str=_:=en;refine fD rfl (dS (by symm)) (EK rfl (seq M) ?_);refine⟨_,[s,b],M,.inl M,by simp,(λt ht=>by rcases jag.mp ht with rfl | ht;exact hk.1;rw[jai.mp ht];exact hk.2),_,_,M,M,bd (by rw[show([s,b].map Sm.bC).flatten=s.bC++b.bC from by simp];exact HR),?_⟩;rw[show([s,b].map Sm.bC).flatten=s.bC++b.bC from by simp,en];dsimp only;exact fD rfl (dS (by symm)) (fD rfl (dS (by symm)) (fD rfl (dS (by symm)) (fD rfl (dS (by symm)) (vZ rfl (dS (by symm)) (hN _ _ ⟨_,M,M⟩)))))
  |ft a x r p=>
   have hk:=(ok (.ft a x r p) hs).ok.few;have HR:(ql (.ft a x r p)).length<=56:=oM (ok _ hs);refine fD rfl (dS (by symm)) (fD rfl (dS (by symm)) (EK rfl (seq M) ?_));refine⟨_,[p],M,.inl M,by simp,(λt ht=>by rw[jai.mp ht];exact hk.1),_,_,M,M,bd (by rw[show([p].map Sm.bC).flatten=p.bC from by simp];have:=HR;simp only[ql,jaf] at this;(try simp only[jaf]);omega),by have:=hk.2;exact ck (by show 1+_<=1000;omega),_,_,M,M,?_,?_⟩
   .rw[show([p].map Sm.bC).flatten=p.bC from by simp];have:=HR;simp only[ql,jaf] at this;exact ck (by simp only[jaf,jab,jaj,jaT] at this ⊢;omega)
   have e9:((Q.map T.str++([p].map Sm.bC).flatten.map T.str)++[T.str (hsh r)])=(Q++ql (.ft a x r p)).map T.str:=by simp[ql]
   have e8:((Q.map T.str++([p].map Sm.bC).flatten.map T.str)++[T.str ("#"++r)])=(Q++ql (.ft a x r p)).map T.str:=e9;rw[e8,en2];dsimp only;exact fD rfl (dS (by symm)) (fD rfl (dS (by symm)) (fD rfl (dS (by symm)) (vZ rfl (dS (by symm)) (hN _ _ ⟨_,M,M⟩))))
  |pt a r p s=>
   have hk:=(ok (.pt a r p s) hs).ok.few;have HR:(ql (.pt a r p s)).length<=56:=oM (ok _ hs);refine fD rfl (dS (by symm)) (fD rfl (dS (by symm)) (fD rfl (dS (by symm)) (EK rfl (seq M) ?_)));refine⟨_,[p,s],M,.inl M,by simp,(λt ht=>by rcases jag.mp ht with rfl | ht;exact hk.1;rw[jai.mp ht];exact hk.2.1),_,_,M,M,bd (by rw[show([p,s].map Sm.bC).flatten=p.bC++s.bC from by simp];have:=HR;simp only[ql,jaf] at this;(try simp only[jaf]);omega),by have:=hk.2.2;exact ck (by show 1+_<=1000;omega),_,_,M,M,?_,?_⟩
   .rw[show([p,s].map Sm.bC).flatten=p.bC++s.bC from by simp];have:=HR;simp only[ql,jaf] at this;exact ck (by simp only[jaf,jab,jaj,jaT] at this ⊢;omega)
   have e9:((Q.map T.str++([p,s].map Sm.bC).flatten.map T.str)++[T.str (hsh r)])=(Q++ql (.pt a r p s)).map T.str:=by simp[ql]
   have e8:((Q.map T.str++([p,s].map Sm.bC).flatten.map T.str)++[T.str ("#"++r)])=(Q++ql (.pt a r p s)).map T.str:=e9;rw[e8,en2];dsimp only;exact fD rfl (dS (by symm)) (fD rfl (dS (by symm)) (vZ rfl (dS (by symm)) (hN _ _ ⟨_,M,M⟩)))
  |mq a r z=>
   have hk:=(ok (.mq a r z) hs).ok.few;have HR:(ql (.mq a r z)).length<=56:=oM (ok _ hs);have en:Q.map T.str++(z.bC).map T.str=_:=en;refine fD rfl (dS (by symm)) (fD rfl (dS (by symm)) (fD rfl (dS (by symm)) (fD rfl (dS (by symm)) (EK rfl (seq M) ?_))));refine⟨_,[z],M,.inl M,by simp,(λt ht=>by rw[jai.mp ht];exact hk.1),_,_,M,M,bd (by rw[show([z].map Sm.bC).flatten=z.bC from by simp];exact HR),?_⟩;rw[show([z].map Sm.bC).flatten=z.bC from by simp,en];dsimp only;exact fD rfl (dS (by symm)) (vZ rfl (dS (by symm)) (hN _ _ ⟨_,M,M⟩))
  |cm a c=>
   have hk:=(ok (.cm a c) hs).ok.few;have HR:(ql (.cm a c)).length<=56:=oM (ok _ hs);have en:Q.map T.str++(c.sums.map Sm.bC).flatten.map T.str=_:=en;refine fD rfl (dS (by symm)) (fD rfl (dS (by symm)) (fD rfl (dS (by symm)) (fD rfl (dS (by symm)) (fD rfl (dS (by symm)) (EK rfl (seq M) ?_)))));refine⟨c,M,(ok (.cm a c) hs).cd a c rfl |>.dep,hk,_,_,M,M,bd HR,?_⟩;rw[en];dsimp only;exact vZ rfl (dS (by symm)) (hN _ _ ⟨_,M,M⟩)
  |cl a ns g gs=>
   have hk:=(ok (.cl a ns g gs) hs).ok.few;have HR:(ql (.cl a ns g gs)).length<=56:=oM (ok _ hs);have en:Q.map T.str++(gs.map Sm.bC).flatten.map T.str=_:=en;refine fD rfl (dS (by symm)) (fD rfl (dS (by symm)) (fD rfl (dS (by symm)) (fD rfl (dS (by symm)) (fD rfl (dS (by symm)) (fD rfl (dS (by symm)) (YZ rfl (seq M) ?_))))));refine⟨_,gs,M,.inr M,hk.2.1,hk.1,_,_,M,M,bd HR,?_⟩;rw[en];dsimp only;exact hN _ _ ⟨_,M,M⟩
 .rintro Z S' ⟨y,rfl,rfl⟩;exact⟨trivial,aL hc h⟩
abbrev wZ:Stmt:=top 92
theorem M0:aj ["_law_found","_law_path","_law_kind","_law_at","_law_told"] ["_law_found","_law_path","_law_kind","_law_at","_law_told"] (aa wZ):=bW
seal aG in
theorem NI (J:Fx K mg A)(F:bG K "_law_owe" "_law_owe" wZ f fd):az P w K mg base bz (k+1) f fd ["_law_found","_law_path","_law_kind","_law_at","_law_told"] (aQ K ML):=by
 refine aP F M0 λAT B outer s H E hr=>?_;rw[show ai wZ=[_,_] from rfl];refine⟨_,(qs (gk (oq q_r ak)) (aO (ao q_r))),λds S kk hc hd h=>?_⟩;obtain⟨f,cy,p,kn,a,c,rfl,e0,h1,h2,h⟩:=h;refine⟨⟨M,_,fH e0⟩,_,e0,vS (by rw[jab];omega),ck (by simp only[jab,jaj,jaT];omega),mL ?_⟩;rw[jam,jam] at h;exact h
abbrev s8:Stmt:=top 93
theorem mz:aj ["_law_things","_law_rows","_law_thing"] ["_law_things"] (aa s8):=bW
seal aG in
theorem Ld (J:Fx K mg A)(bR:jb P w K mg base k)(cO:lI P w K mg base k)(F:bG K "_law_anys" "_law_anys" s8 f fd):az P w K mg base bz (k+1) f fd ["_law_things"] (aQ K Jk):=by
 refine aP F mz λAT B outer s H E hr=>?_;rw[show ai s8=[_,_,_] from rfl];refine⟨_,(qs (aq (i:=1) mz.nd q_r) (qs (aZ jay rfl (qi q_r) (qg (i:=2) mz.nd) (qs (aq (i:=1) mz.nd q_r) (aO (aR (aE (cU 40 (uE hr)) q_r aX (aF _)) (aO (aq (i:=1) mz.nd (bh aS q_r (bx (qa (bx (qa aX (qa (ah bR hr rfl (qa q_r (qa (ah cO hr rfl ak) af))) af))) af))))) aD)))) (aO (ao q_r)))),λds S kk hc hd h=>?_⟩;obtain⟨l,rfl,hl,hp,h⟩:=h;refine(bJ (dF T.str (λpre Z S'=>∃y,Z=[some (.tup (l.map T.str)),some (.tup (((pre.map aT).flatten).map nH)),y]/\S'=S) ⟨_,M,M⟩ ?_ ?_))
 .rintro pre x post Z S' N e ⟨y,rfl,rfl⟩ hN;obtain⟨hx1,c,r,hx2⟩:=hp x (by rw[e];simp);have h1:=fG pre;have h2:pre.length<=8:=by rw[e,jaf] at hl;omega
  refine⟨trivial,ck (by simp only[jab,jaj,jaT];omega),ck (by omega),c,by rw[hx2];exact Uz,?_⟩;by_cases L7:c=35
  .have er:aT x=[.any x,.hd (J4 (on x))]:=by unfold aT;rw[gU hx2,jae (jaF L7)]
   refine⟨true,jah D.bl (seq (mF.mpr L7)),x,M,([],0),on x,M,ck (by simp only[jab,jaf,jaj,jaT];omega),?_⟩;have e2:((((pre++[x]).map aT).flatten).map nH)=(((pre.map aT).flatten).map nH++[.tup [.str "any",.str x]])++[.tup [.str "hold",jC (zP ([],0) (on x))]]:=by
    rw[jI,er,jaX];rfl
   rw[<- e2];exact hN _ _ ⟨_,M,M⟩
  .have er:aT x=[.any x]:=by unfold aT;rw[gU hx2,jat L7];rfl
   refine⟨false,jah D.bl (dS λz=>L7 (mF.mp z)),?_⟩;have e2:((((pre++[x]).map aT).flatten).map nH)=((pre.map aT).flatten).map nH++[.tup [.str "any",.str x]]:=by
    rw[jI,er];rfl
   have e3:=hN [some (.tup (l.map T.str)),some (.tup ((((pre++[x]).map aT).flatten).map nH)),some (.str x)] S' ⟨_,M,M⟩;rw[e2] at e3;exact e3
 .rintro Z S' ⟨y,rfl,rfl⟩;exact⟨trivial,aL hc h⟩
abbrev kH:Stmt:=top 96
theorem d8:aj ["_law_step_here","_law_by","_law_times","_law_bounds","_law_left"] ["_law_step_here"] (aa kH):=bW
seal aG in
theorem CN (J:Fx K mg A)(gb:n9 P w K mg base k)(cO:lI P w K mg base k)(bR:jb P w K mg base k)(F:bG K "_law_divided" "_law_divided" kH f fd):az P w K mg base bz (k+1) f fd ["_law_step_here"] (aQ K MO):=by
 refine aP F d8 λAT B outer s H E hr=>?_;rw[show ai kH=[_,_,_,_,_,_,_,_] from rfl];refine⟨_,(qs (aq (i:=1) d8.nd q_r) (qs (aR (qw (EO (aE (Ff 40 (uE hr)) q_r q_r (aF _)) (yu (aE (cU 40 (uE hr)) q_r aH (aF _))))) (aO (ao q_r)) aD) (qs (aq (i:=2) d8.nd q_r) (qs (aq (i:=3) d8.nd (bx (qa (ah bR hr rfl (qa q_r (qa (ah cO hr rfl ak) af))) (qa (ah bR hr rfl (qa (ah cO hr rfl ak) (qa (ah gb hr rfl ak) af))) af)))) (qs (aR (aE Wd q_r aH (aF _)) (aO (aq (i:=3) d8.nd (bx (qa (ah bR hr rfl (qa (ah cO hr rfl ak) ak)) (qa (ah bR hr rfl (qa (ah gb hr rfl ak) (qa (ah cO hr rfl ak) af))) af))))) aD) (qs (aq (i:=4) d8.nd (ah cO hr rfl ak)) (qs (aR (aE (cU 40 (uE hr)) q_r aX (aF _)) (aO (aq (i:=4) d8.nd (ah gb hr rfl (qa (ah cO hr rfl ak) (qa q_r (qa (Bd aH) af)))))) aD) (aO (ao q_r))))))))),λds S kk hc hd h=>?_⟩;obtain⟨a,x,wd,s,b,rfl,hw,hb2,h⟩:=h;unfold u6 at h;refine(.inr ⟨M,?_⟩);by_cases hb:b.1=[]
 .refine⟨false,jah D.bl (JM hb),?_⟩;by_cases hz:b.2=0
  .rw[jae (.inr hz)] at h;exact⟨true,jah D.bl (WY hz),aL hc h⟩
  .rw[jad (by rintro(h | h)<;>contradiction)] at h;have eM:=Ec "^^" hz;have eL:=RP hz;refine⟨false,jah D.bl (Oh hz),"^",M,([("^^",b.2)],0),on "^",M,"^",M,([("^^",b.2)],0),([],b.2 - 1),1,M,by simp,by simp,by simp,⟨by decide,by decide⟩,on "^",dN ([("^^",b.2)],0) ([],b.2 - 1) 1,M,?_⟩;by_cases hp:0<b.2
   .have eq:quot b.2=.con true [zP ([("^^",b.2)],0) (on "^"),zP (on "^") (dN ([("^^",b.2)],0) ([],b.2 - 1) 1)]:=by unfold quot;rw[jae hp,eM,EU]
    rw[eL,eq] at h;refine⟨false,jah D.bl (jat (by omega)),?_⟩;rcases hw with rfl | rfl
    .rw[jae rfl] at h;refine⟨"^^",M,false,tF,ck (by simp),aL hc ?_⟩;simpa[nH,iS] using h
    .rw[jad (by symm)] at h;refine⟨"^^",M,true,tT,"^",M,on "^",([("^^",b.2)],0),-1,M,by show 1<=32;decide,by simp[on],by simp,⟨by decide,by decide⟩,ck (by simp),aL hc ?_⟩;simpa[nH,iS] using h
   .have eq:quot b.2=.con true [zP (on "^") ([("^^",b.2)],0),zP (dN ([("^^",b.2)],0) ([],b.2+1) 1) (on "^")]:=by unfold quot;rw[jad hp,eM,EU]
    rw[eL,eq] at h;refine⟨true,jah D.bl (jaF (by omega)),"^",M,on "^",([("^^",b.2)],0),M,([("^^",b.2)],0),([],b.2+1),1,M,by simp,by simp,by simp,⟨by decide,by decide⟩,"^",M,dN ([("^^",b.2)],0) ([],b.2+1) 1,on "^",M,?_⟩;rcases hw with rfl | rfl
    .rw[jae rfl] at h;refine⟨"^^",M,false,tF,ck (by simp),aL hc ?_⟩;simpa[nH,iS] using h
    .rw[jad (by symm)] at h;refine⟨"^^",M,true,tT,"^",M,on "^",([("^^",b.2)],0),-1,M,by show 1<=32;decide,by simp[on],by simp,⟨by decide,by decide⟩,ck (by simp),aL hc ?_⟩;simpa[nH,iS] using h
 .rw[jae (.inl hb)] at h;exact⟨true,jah D.bl (Ft hb),aL hc h⟩
abbrev mZ:Stmt:=top 95
theorem cJ:aj ["_law_found","_law_helpers","_law_step_here","_law_path","_law_kind","_law_row","_law_place_here","_law_last","_law_told"] ["_law_found","_law_helpers","_law_step_here","_law_path"] (aa mZ):=bW
seal aG in
theorem E2 (J:Fx K mg A)(DB:zF P w K mg base k)(fh:pS P w K mg base k)(bR:jb P w K mg base k)(gb:n9 P w K mg base k)(cO:lI P w K mg base k)(Aw:wG P w K mg base k)(F:bG K "_law_behind" "_law_behind" mZ f fd):az P w K mg base bz (k+1) f fd ["_law_found","_law_helpers","_law_step_here","_law_path"] (aQ K A9):=by
 refine aP F cJ λAT B outer s H E hr=>?_;rw[show ai mZ=[_,_,_,_,_,_,_] from rfl];refine⟨_,(qs (aq (i:=4) cJ.nd q_r) (qs (aR (aE (cU 40 (uE hr)) q_r aX (aF _)) (aO (ao (cz ak))) aD) (qs (aR (aE (cU 40 (uE hr)) q_r aX (aF _)) (aO (ao (cz (qa (ah fh hr rfl ak) af)))) aD) (qs (aR (aE (cU 40 (uE hr)) q_r aX (aF _)) (qs (aq (i:=3) cJ.nd (ah fh hr rfl ak)) (aO (ao (cz (qa (bh aS q_r (ah Aw hr rfl ak)) af))))) aD) (qs (aR (aE (cU 40 (uE hr)) q_r aX (aF _)) (qs (aq (i:=3) cJ.nd (ah fh hr rfl (qa q_r (qa q_r (qa aX (qa q_r (qa (ah bR hr rfl ak) af))))))) (aO (ao (cz ak)))) aD) (qs (aR (aE ZA q_r q_r (by rfl)) (qs (Na (oV (Vx (qa (rJ false q_r (bT aH) (bT aH)) (qa (rJ false q_r (bT aH) (bT aH)) af))) (aK Pb (by rfl) J.Pk boot_int (qa (ER (cU 40 (uE hr)) q_r aX (aF _)) af))) (gX (n:=2) rfl (uA (qg (i:=5) cJ.nd) (uA (qg (i:=6) cJ.nd) fc)))) (qs (aq (i:=7) cJ.nd (ah gb hr rfl (qa (ah cO hr rfl ak) (qa (bx (qa q_r (qa (Bd aH) af))) ak)))) (qs (aq (i:=8) cJ.nd (bx (qa aX (qa (ah bR hr rfl ak) (qa (ah bR hr rfl ak) af))))) (qs (aq (i:=3) cJ.nd (ah fh hr rfl ak)) (qs (aR (aE (cU 40 (uE hr)) q_r aX (aF _)) (aO (aq (i:=3) cJ.nd q_r)) aD) (aO (ao (cz ak)))))))) aD) (aO (ao (cz (qa (ah DB hr rfl ak) af)))))))))),λds S kk hc hd h=>?_⟩;obtain⟨f,hs,cy,p,s,N,rfl,e0,h1,h2,ok,hca,h⟩:=h;have hf:=ok.ok.few;cases s with
 |lt a x s=>
  refine yq rfl (EK rfl (seq M) (Xv rfl rfl (by simp only[jab,jaf,jaj,jaT];omega) (mL ?_)));simp only[qI] at h;rw[jaJ,set_same e0,jam] at h;exact h
 |cm a c=>
  exact yq rfl (fD rfl (dS (by symm)) (EK rfl (seq M) (Pc rfl ⟨f,cy,p,"claim",a,c,M,e0,by omega,by omega,mL h⟩)))
 |dv a x wd s b=>
  obtain⟨hl,hwd⟩:=ok.nm;refine yq rfl (fD rfl (dS (by symm)) (fD rfl (dS (by symm)) (EK rfl (seq M) (s_call rfl ⟨f,cy,p,"nought",a,.cmp b "!=" ([],0),by rw[qL];rfl,e0,by omega,by omega,a,x,wd,s,b,M,hwd,ok.ok.by_ _ _ _ _ _ M,?_⟩))));simp only[qI] at h;rw[LA hl] at h;have hd6:(u6 x wd s b).length<=4:=by unfold u6;split<;>simp
  refine⟨ck (by simp only[jab,jaf,jaj,jaT];omega),mL ?_⟩;rw[jam (l₁:=p++_)] at h;exact h
 |mq a r z=>
  have hr:r.length<=100:=hf.2;refine yq rfl (fD rfl (dS (by symm)) (fD rfl (dS (by symm)) (fD rfl (dS (by symm)) (EK rfl (seq M) (?_)))));refine⟨([],0),z,M,f,cy,p,"short",a,J4 z,M,e0,by omega,by omega,?_⟩;refine⟨ck (by show 1+_<=1000;omega),ck (by simp only[jab,jaf,jaj,jaT];omega),mL ?_⟩;simp only[qI] at h;rw[jam (l₁:=p++_)] at h;exact h
 |ft a x r z=>
  have hr:r.length<=100:=hf.2;refine yq rfl (fD rfl (dS (by symm)) (fD rfl (dS (by symm)) (fD rfl (dS (by symm)) (fD rfl (dS (by symm)) (EK rfl (lV (xs:=["fetch","put"]) (by symm)) ?_)))));refine⟨(by show ¬(HT.eZ 5 0 (some 2)=0/\HT.eZ 5 5 (some 4)=5);decide),(by show ¬(HT.eZ 5 0 (some 3)=0/\HT.eZ 5 5 (some 5)=5);decide),_,M,sz 2,?_⟩;refine ixb (Xz (seq M)) rfl ?_;refine⟨_,M,M,_,_,M,_,_,M,M,by exact ck (by show 1+_<=1000;omega),hsh r,M,on (hsh r),([],-1),1,M,by show 1<=32;decide,by simp[on],by simp,⟨by decide,by decide⟩,?_⟩;have ew:jC (within r z)=.tup [.str "and",jC (zP ([],0) z),jC (zP z (dN (on (hsh r)) ([],-1) 1))]:=by unfold within;rw[iS,FF];rfl
  refine⟨([],0),z,M,z,dN (on (hsh r)) ([],-1) 1,M,f,cy,p,"beyond",a,within r z,by rw[ew],e0,by omega,by omega,true,tT,ck (by simp only[jab,jaf,jaj,jaT];omega),mL ?_⟩;simp only[qI] at h;rw[KA ok.nm,jam (l₁:=p++_)] at h;exact h
 |pt a r z t=>
  have hr:r.length<=100:=hf.2.2;refine yq rfl (fD rfl (dS (by symm)) (fD rfl (dS (by symm)) (fD rfl (dS (by symm)) (fD rfl (dS (by symm)) (EK rfl (lV (xs:=["fetch","put"]) (by symm)) ?_)))));refine⟨(by show ¬(HT.eZ 5 0 (some 2)=0/\HT.eZ 5 5 (some 4)=5);decide),(by show ¬(HT.eZ 5 0 (some 3)=0/\HT.eZ 5 5 (some 5)=5);decide),_,M,sz 2,?_⟩;refine ixb (XA (dS (by symm))) rfl ?_;refine⟨_,M,M,_,_,M,_,_,M,M,by exact ck (by show 1+_<=1000;omega),hsh r,M,on (hsh r),([],-1),1,M,by show 1<=32;decide,by simp[on],by simp,⟨by decide,by decide⟩,?_⟩;have ew:jC (within r z)=.tup [.str "and",jC (zP ([],0) z),jC (zP z (dN (on (hsh r)) ([],-1) 1))]:=by unfold within;rw[iS,FF];rfl
  refine⟨([],0),z,M,z,dN (on (hsh r)) ([],-1) 1,M,f,cy,p,"beyond",a,within r z,by rw[ew],e0,by omega,by omega,false,tF,mL h⟩
 |cl a ns g gs=>
  exact yq rfl (fD rfl (dS (by symm)) (fD rfl (dS (by symm)) (fD rfl (dS (by symm)) (fD rfl (dS (by symm)) (fD rfl (lV (xs:=["fetch","put"]) (by symm)) (Pc rfl ⟨f,hs,cy,p,a,ns,g,gs,N,M,e0,by omega,by omega,ok,hca _ _ _ _ M,mL h⟩))))))
abbrev Cv:Stmt:=top 94
theorem mT:aj ["_law_found","_law_helpers","_law_steps_here","_law_path","_law_paths","_law_step_here","_law_behind_here","_law_one_here"] ["_law_found","_law_helpers","_law_steps_here","_law_path"] (aa Cv):=bW
seal aG in
theorem RB (J:Fx K mg A)(DC:zG P w K mg base k)(F:bG K "_law_go" "_law_go" Cv f fd):az P w K mg base bz (k+1) f fd ["_law_found","_law_helpers","_law_steps_here","_law_path"] (aQ K TJ):=by
 refine aP F mT λAT B outer s H E hr=>?_;rw[show ai Cv=[_,_,_] from rfl];refine⟨_,(qs (aq (i:=4) mT.nd (cz ak)) (qs (aZ jay rfl (qi q_r) (qg (i:=5) mT.nd) (qs (aq (i:=6) mT.nd (cz af)) (qs (aZ jay rfl (qi q_r) (qg (i:=7) mT.nd) (aO (aq (i:=6) mT.nd (bh aS q_r (ah DC hr rfl ak))))) (qs (aR (aE Fg (aU eO (by rfl) J.eS jaQ ak) aH (aF _)) iN aD) (aO (aq (i:=4) mT.nd q_r)))))) (aO (ao q_r)))),λds S kk hc hd h=>?_⟩;obtain⟨f,hs,cy,p,l,N,rfl,e0,h1,h2,ok,h⟩:=h;have hlt:=(jao.mp e0).1;refine(bJ (dF zN (λpre Z S'=>∃y z w,Z=[some (D.ob f),some (.tup (hs.map pC)),some (.tup (l.map zN)),some (.tup (p.map nH)),some (.lst [.tup ((cE p pre).2.map nH)]),y,z,w]/\S'=S.set f (.lst ((cy++(cE p pre).1).map Dm))) ⟨_,_,_,M,?_⟩ ?_ ?_))
 .have e:cy++(cE p []).1=cy:=by unfold cE;simp
  rw[e,set_same e0]
 .rintro pre s post Z S' Nx e ⟨y,z,w,rfl,rfl⟩ hN;have hl1:=jH p pre;have hl2:=jG p pre λs hs'=>(ok s (by rw[e];exact jaP _ hs')).1.ok;have hp1:pre.length<l.length:=by rw[e];simp
  refine⟨trivial,jX ⟨trivial,f,hs,cy++(cE p pre).1,(cE p pre).2,s,N,M,Lw hlt,by rw[jaf];omega,by omega,(ok s (by rw[e];simp)).1,(ok s (by rw[e];simp)).2,?_⟩⟩;rw[jaC,jaX,<- rR,<- rQ];refine⟨_,_,M,M,sz 1,trivial,false,jah D.bl (by show decide ((16:Int)<((1:Nat):Int))=false;decide),hN _ _ ⟨_,_,_,M,M⟩⟩
 .rintro Z S' ⟨y,z,w,rfl,rfl⟩;exact⟨trivial,mL h⟩
abbrev iw:Stmt:=top 100
theorem x8:aj ["_law_row"] ["_law_row"] (aa iw):=bW
seal aG in
theorem yD (J:Fx K mg A)(dM:Ms P w K mg base k 4 (Ao A) "told" ["self"] (fO A 3))(F:bG K "_law_row_shown" "_law_row_shown" iw f fd):az P w K mg base bz (k+1) f fd ["_law_row"] (aQ K (MK A)):=by
 refine aP F x8 λAT B outer s H E hr=>?_;rw[show ai iw=[_,_,_] from rfl];refine⟨_,(qs (aR (aE (cU 40 (uE hr)) q_r aX (aF _)) (aO (ao q_r)) aD) (qs (aR (aE (cU 40 (uE hr)) q_r aX (aF _)) (aO (ao (bx (qa aX (qa (aW q_r dM hr) af))))) aD) (aO (ao q_r)))),λds S kk hc hd h=>?_⟩;obtain⟨r,rfl,hr0,h⟩:=h;cases r with
 |any x=>
  exact⟨false,tF,false,tF,aL hc h⟩
 |lt x s=>
  exact⟨true,tT,aL hc h⟩
 |hd c=>
  obtain⟨ns,l,i1,i2,_⟩:=pA A S c;exact⟨false,tF,true,tT,xY c,ns,l,fq c,i1,i2,c,M,M,(hr0 c M).1,(hr0 c M).2,aL hc h⟩
abbrev qt:Stmt:=top 101
theorem mS:aj ["_law_found","_law_rows","_law_debt","_law_ahead"] ["_law_found"] (aa qt):=bW
seal aG in
theorem Hr (J:Fx K mg A)(dM:Ms P w K mg base k 4 (Ao A) "told" ["self"] (fO A 3))(wA:uo P w K mg base k A)(F:bG K "_law_shown" "_law_shown" qt f fd):az P w K mg base bz (k+1) f fd ["_law_found"] (aQ K (En A)):=by
 refine aP F mS λAT B outer s H E hr=>?_;rw[show ai qt=[_,_,_] from rfl];refine⟨_,(qs (aq (i:=1) mS.nd (gI af)) (qs (aZ jay rfl (qi q_r) (qg (i:=2) mS.nd) (qs (aq (i:=3) mS.nd (aK bA (by rfl) J.bu jaK (qa (cu (aM ["_law_row"] [] [] rfl (by symm) (by symm) (by with_unfolding_all rfl) (by exact trivial) (by rfl) rfl (by rfl)) rfl (qi q_r) (λ_ _ _ _=>(qx (i:=0) (show List.Nodup (["_law_row"]:jcR) by symm))) (λ_ _ _ _=>bD) (λ_ _ _ _=>(ah wA hr rfl ak))) af))) (qs (aR (qw (EO (G8 (fu (aU (mG (c:=.ref A.pM) trivial M) (by rfl) J.bB jbk (qa q_r (qa (iW (cA (v:=.ref A.pM) rfl J.ve.g M)) af))))) (yu (G8 (fu (aU (mG (c:=.ty "tuple") trivial M) (by rfl) J.bB jbk (qa q_r (qa (iW (JG (v:=.ty "tuple") rfl J.bu jaK M)) af)))))))) iN aD) (aO (gk (oq q_r (qa (bx (qa q_r (qa q_r (qa q_r (qa (aW q_r dM hr) af))))) af))))))) (aO (ao q_r)))),λds S kk hc hd h=>?_⟩;obtain⟨f,cy,rfl,e0,hl,ok,h⟩:=h;refine(JR (qY (fH e0)) λG hG=>?_);refine dF (An A) (λpre Z S'=>∃y z,Z=[some (D.ob f),some (D.ob (S.length+0)),y,z]/\S'=S++[O.lst (pre.map Dm)]) ⟨_,_,M,M⟩ ?_ ?_
 .rintro pre d post Z S' N e ⟨y,z,rfl,rfl⟩ hN;have hd0:=ok d (by rw[e];simp);have hp1:pre.length<cy.length:=by rw[e];simp
  refine⟨hG _,bJ ?_⟩;refine cV (nG A) nH trivial (ck (by have:=hd0.al;omega)) (λr hr k' hk=>⟨r,M,λc ec=>hd0.a r hr c ec,_,M,hk⟩) ?_;obtain⟨ns,l,i1,i2,_⟩:=pA A (S++[O.lst (pre.map Dm)]) d.cond;refine⟨M,_,true,M,RU K _,_,M,M,_,true,M,RT K,_,M,⟨M,_,eG M⟩,xY d.cond,ns,l,fq _,i1,i2,d.cond,M,M,hd0.c.1,hd0.c.2,_,dH,vS (by rw[jab];omega),?_⟩;rw[cB];refine hN _ _ ⟨_,_,M,?_⟩;rw[jam];rfl
 .rintro Z S' ⟨y,z,rfl,rfl⟩;exact⟨hG _,O4 hc rfl h⟩
abbrev qC:Stmt:=top 102
theorem G3:aj ["_law_program_here","_law_name"] ["_law_program_here","_law_name"] (aa qC):=bW
seal aG in
theorem Hy (J:Fx K mg A)(F5:AD P w K mg base k A)(Sx:Dn P w K mg base k "debts" ["program","name"] (aQ K (Jo A 3)))(F:bG K "_law_asked" "_law_asked" qC f fd):az P w K mg base bz (k+1) f fd ["_law_program_here","_law_name"] (aQ K (Er A)):=by
 refine aP F G3 λAT B outer s H E hr=>?_;rw[show ai qC=[_] from rfl];refine⟨_,(aO (Vs (aO (ao (ah F5 hr rfl (qa (ah Sx hr rfl ak) af)))))),λds S kk hc hd h=>?_⟩;obtain⟨x,hs,N,rfl,hfi,hca,g,h⟩:=h;have hok:=g.cy;refine⟨x,hs,N,M,hfi,hca,g.ok,S.length,iR x,M,au,by have:=hok.1;omega,hok.2,F1 hc h⟩
abbrev xg:Stmt:=top 99
theorem c5:aj ["_law_helpers","_law_helper_here","_law_params","_law_some","_law_at","_law_told","_law_path","_law_found","_law_end"] ["_law_helpers","_law_helper_here"] (aa xg):=bW
seal aG in
theorem NK (J:Fx K mg A)(Pa:IG P w K mg base k)(fh:pS P w K mg base k)(rY:ur P w K mg base k)(eE:lG P w K mg base k)(F4:AB P w K mg base k)(F:bG K "_law_due" "_law_due" xg f fd):az P w K mg base bz (k+1) f fd ["_law_helpers","_law_helper_here"] (aQ K MN):=by
 refine aP F c5 λAT B outer s H E hr=>?_;rw[show ai xg=[_,_,_,_,_,_,_,_,_,_] from rfl];refine⟨_,(qs (aq (i:=2) c5.nd q_r) (qs (aq (i:=3) c5.nd (bh aS (ah F4 hr rfl ak) (aK Ik (by rfl) J.zq boot_list ak))) (qs (aZ jay rfl (qi q_r) (gX (n:=2) rfl (uA (qg (i:=4) c5.nd) (uA (qg (i:=5) c5.nd) fc))) (aO (aq (i:=3) c5.nd (bh aS q_r (ah eE hr rfl ak))))) (qs (aq (i:=6) c5.nd (ah rY hr rfl ak)) (qs (aq (i:=6) c5.nd (bh aS q_r (aK bA (by rfl) J.bu jaK (qa (cu (aM ["_law_thing"] ["_law_params"] [2] rfl (by symm) (by symm) (by with_unfolding_all rfl) (by exact⟨M,trivial⟩) (by rfl) rfl (by rfl)) rfl (qi (Vv rfl J.mH rfl J.Kz rfl q_r)) (λ_ _ _ _=>(qx (i:=0) (show List.Nodup (["_law_thing","_law_params"]:jcR) by symm))) (λ_ _ _ _=>(tu (aE JJ q_r q_r (by rfl)))) (λ_ _ _ _=>q_r)) af)))) (qs (aq (i:=6) c5.nd (bh aS q_r (aK bA (by rfl) J.bu jaK (qa (cu (aM ["_law_at","_law_told"] [] [] rfl (by symm) (by symm) (by with_unfolding_all rfl) (by exact trivial) (by rfl) rfl (by rfl)) rfl (qi q_r) (λ_ _ _ _=>(jQ (n:=2) rfl (zO (qx (i:=0) (show List.Nodup (["_law_at","_law_told"]:jcR) by symm)) (zO (qx (i:=1) (show List.Nodup (["_law_at","_law_told"]:jcR) by symm)) gH)))) (λ_ _ _ _=>bD) (λ_ _ _ _=>q_r)) af)))) (qs (aq (i:=7) c5.nd (gI af)) (qs (aZ jay rfl (qi (ah Pa hr rfl ak)) (qg (i:=8) c5.nd) (aO (aZ jay rfl (qi q_r) (gX (n:=2) rfl (uA (qg (i:=4) c5.nd) (uA (qg (i:=5) c5.nd) fc))) (aO (aq (i:=8) c5.nd (ah fh hr rfl ak)))))) (qs (aR (qw (EO (aE Fg (aU eO (by rfl) J.eS jaQ ak) aH (aF _)) (yu (aE (Zz (gM hr)) (bx (qa aX af)) (q_v 7) (by rfl))))) iN aD) (aO (ao q_r))))))))))),λds S kk hc hd h=>?_⟩;obtain⟨hs,x,N,rfl,g,hca,h⟩:=h;obtain⟨p1,p2,p3,p4,p5⟩:=g.ok.pl;have hso:(uJ x.steps).length<=700:=by
  have h1:=mP (x.steps.map AY).flatten;have h2:=xP g.st;have h3:=BP g.st;unfold uJ zQ;rw[jaf];omega
 refine⟨x.steps,N,M,g.st,g.ok.nl,by omega,_,_,M,M,ck (by rw[jab,jab];omega),ck (by rw[jab,jab];omega),?_⟩;rw[<- jam,<- jam];have hq:∀q∈x.needs++x.gives,jg (x.params++x.answers) q.2:=λq hq=>by
  rcases jau.mp hq with hq | hq
  .exact(g.nd q hq).up λx hx=>jaP _ hx
  .exact g.gv q hq
 have hqf:∀pre post,x.needs++x.gives=pre++post->((pre.map λq=>(q.2.sums.map Sm.bC).flatten).flatten).length<=16*pre.length:=λpre post e=>Bv λq hq'=>hq q (by rw[e];exact jaP _ hq');refine bJ ?_;refine dF P0 (λpre Z S'=>∃y z,Z=[some (.tup (hs.map pC)),some (D.t (pC x)),some (D.t (mw x.params)),some (D.t (jW ((uJ x.steps++x.answers)++(pre.map λq=>(q.2.sums.map Sm.bC).flatten).flatten))),y,z,none,none,none]/\S'=S) ⟨none,none,by rw[jbC,List.flatten_nil,jaJ];rfl,M⟩ ?_ ?_
 .rintro pre q post Z S' Nx e ⟨y,z,rfl,rfl⟩ hN;have hc1:=hq q (by rw[e];simp);have hl1:=hqf pre (q::post) e;have hl2:pre.length<=16:=by
   have:=jah List.length e;rw[jaf,jaf] at this;omega
  have hl3:=Km hc1;refine⟨trivial,_,M,M,_,_,M,_,_,M,M,q.2,M,hc1.dep,hc1.few,_,_,M,M,ck (by rw[jab,jab,jaf,jaf];omega),?_⟩;rw[<- jam];have e2:(uJ x.steps++x.answers)++(pre.map λq=>(q.2.sums.map Sm.bC).flatten).flatten++(q.2.sums.map Sm.bC).flatten=(uJ x.steps++x.answers)++((pre++[q]).map λq=>(q.2.sums.map Sm.bC).flatten).flatten:=by simp
  rw[e2];exact hN _ _ ⟨_,_,M,M⟩
 rintro Z S0 ⟨y,z,rfl,rfl⟩;have hmem:=MV g;have hsl:((uJ x.steps++x.answers)++((x.needs++x.gives).map λq=>(q.2.sums.map Sm.bC).flatten).flatten).length<4000:=by
  have:=hqf (x.needs++x.gives) [] (by simp);rw[jaf] at this ⊢;rw[jaf];omega
 have hall:=MW g;generalize (uJ x.steps++x.answers)++((x.needs++x.gives).map λq=>(q.2.sums.map Sm.bC).flatten).flatten=jcN at hmem hsl hall;have hp0:=uS g.ok;have h1:=fG x.params;have h2:=CH g.ok;have hsM:(uz jcN).length<=64:=Qw (ds:=N++(x.params++x.answers)) hall (by rw[jaf,jaf];have:=g.ok.nl;omega);refine⟨trivial,x.params,M,p1,λy hy=>⟨g.ok.sh y hy,g.ne y hy⟩,jcN,N++(x.params++x.answers),M,hsl,by rw[jaf,jaf];have:=g.ok.nl;omega,hall,?_⟩;refine jX ?_;refine vc T.str (λt=>if x.params.contains t=true then none else some (nH (.lt t ([],0)))) trivial (ck (by omega)) (λt ht k' hk=>?_) ?_
 .refine⟨_,_,_,M,M,M,Dk x.params,?_⟩;have e3:R8 (V.str t) (x.params.map V.str)=x.params.contains t:=by rw[Dh,List.contains_eq_mem]
  rw[e3];cases q:x.params.contains t with
  |true=>rw[jae q] at hk;exact⟨false,M,hk⟩
  |false=>rw[jad (by rw[q];decide)] at hk;exact⟨true,M,_,M,hk⟩
 rw[V1 hmem];refine⟨ck (by simp only[jab];omega),bJ ?_⟩;refine cV P0 (λq=>nH (.hd q.2)) trivial (ck (by omega)) (λq hq k' hk=>⟨_,M,M,_,_,M,_,_,M,M,_,M,hk⟩) ?_;refine⟨ck (by simp only[jab,jaf];omega),?_⟩;have ep:((((x.params.map aT).flatten).map nH)++(others x).map λt=>nH (.lt t ([],0)))++x.needs.map (λq=>nH (.hd q.2))=(dX x).map nH:=by
  unfold dX;rw[jam,jam,jaN,jaN];rfl
 rw[ep];have hg1:=jH (dX x) x.steps;have X6:=jG (dX x) x.steps g.ok.st;refine⟨S0.length,hs,[],dX x,x.steps,N,M,au,by simp;omega,by omega,λs h=>⟨g.st s h,hca s h⟩,jX ⟨trivial,bJ ?_⟩⟩;rw[cP,List.nil_append];refine dF P0 (λpre Z S'=>∃y z,Z=[some (.tup (hs.map pC)),some (D.t (pC x)),some (D.t (mw x.params)),some (D.t (jW jcN)),y,z,some (.tup ((dX x).map nH)),some (D.ob S0.length),some (.tup ((br "gives" (cE (dX x) x.steps).2 pre).2.map nH))]/\S'=S0++[O.lst (((cE (dX x) x.steps).1++(br "gives" (cE (dX x) x.steps).2 pre).1).map Dm)]) ⟨_,_,M,by unfold br;rw[jaJ]⟩ ?_ ?_
 .rintro pre q post Z S' Nx e ⟨y,z,rfl,rfl⟩ hN;have hl1:=qK "gives" (cE (dX x) x.steps).2 pre;have hl2:=u5 "gives" (cE (dX x) x.steps).2 pre;have hpl:pre.length<=8:=by rw[e,jaf] at p5;omega
  refine⟨trivial,_,M,M,_,_,M,_,_,M,M,S0.length,_,_,"gives",q.1,q.2,M,au,by rw[jaf];omega,by omega,?_⟩;rw[cP,jaX,<- rV,<- rT];exact hN _ _ ⟨_,_,M,M⟩
 rintro Z S' ⟨y,z,rfl,rfl⟩;have hdb:=g.cy;refine⟨trivial,trivial,oe (jL au) ⟨false,jah D.bl (jat (by rw[jab];have:=hdb.1;unfold iR at this;omega)),"many",_,M,fH au,λt ht=>?_,_,M,O4 (j:=0) hc rfl h⟩⟩;obtain⟨d,hd,rfl⟩:=jas.mp ht;exact⟨_,_,M,OY x d hd⟩
abbrev qU:Stmt:=top 103
theorem uN:aj ["_law_script","_law_draw","_law_program_here","_law_told","_law_k","_law_helper_here"] ["_law_script"] (aa qU):=bW
seal aG in
theorem Wc (J:Fx K mg A)(FA:Ms P w K mg base k 1 (λ_=>A.dg) "told" ["self"] (λ_=>xT A 3))(F7:AI P w K mg base k A)(LL:Gu P w K mg base k)(rm:wH P w K mg base k)(Av:wF P w K mg base k A)(F:bG K "law" "law" qU f fd):az P w K mg base bz (k+1) f fd ["_law_script"] (aQ K MI):=by
 refine aP F uN λAT B outer s H E hr=>?_;rw[show ai qU=[_,_,_,_,_] from rfl];refine⟨_,(qs (aq (i:=1) uN.nd (gI (qa (ah rm hr rfl ak) ak))) (qs (aq (i:=2) uN.nd (ah Av hr rfl ak)) (qs (aq (i:=3) uN.nd (aW q_r FA hr)) (qs (aZ jay rfl (nL rfl J.jD (qa (bh aS (aU eO (by rfl) J.eS jaQ ak) aH) af)) (qg (i:=4) uN.nd) (qs (aq (i:=5) uN.nd (oV q_r (bh NR (bh aS q_r (ah rm hr rfl ak)) (aU eO (by rfl) J.eS jaQ ak)))) (aO (aR (aE (Ff 40 (uE hr)) (ah F7 hr rfl ak) (ah LL hr rfl ak) (aF _)) iN aD)))) (aO (ao (ER (cU 40 (uE hr)) (aW q_r FA hr) q_r (aF _)))))))),λds S kk hc hd h=>?_⟩;obtain⟨l,rfl,rfl,h⟩:=h;refine⟨l,0,M,λr=>?_⟩;have dq:Dq ([]++[O.lst [T.int r,T.int 0]]) 0:=⟨r,0,M⟩
 refine⟨0,M,dq,λhs c m pg=>?_⟩;generalize bX ([]++[O.lst [T.int r,T.int 0]]) 0 c m=S1;obtain⟨hl0,hl3⟩:=pg.l;have tld:∀x∈hs,Yh 3 x:=λx hx=>let⟨N,g⟩:=pg.g x hx;g.told;refine⟨0,_,_,by decide,M,by symm,hs,M,by omega,tld,?_⟩;refine⟨_,M,by rw[jab];omega,by rw[jab];omega,?_⟩;refine nV (λi Z S'=>∃y z,Z=[some (D.t (.GY (l.map T.int))),some (D.ob 0),some (D.t (Bf A hs)),some (.tup (hs.map pC)),y,z]/\S'=S1) ⟨_,_,M,M⟩ ?_ ?_
 .rintro i it Z S' Nx hit ⟨y,z,rfl,rfl⟩ hN;have HU:∃i:Nat,it=D.int (i:Int):=by
   rw[jaA] at hit;cases q:(List.range ((((hs.map pC).length:Nat):Int)+1).toNat)[i]? with
   |none=>rw[q] at hit;cases hit
   |some j=>rw[q] at hit;cases hit;exact⟨j,M⟩
  obtain⟨i2,rfl⟩:=HU;refine⟨trivial,l,1,M,λr2=>?_⟩;obtain⟨x,hx,ex⟩:=Xy (f:=pC) (z:=(i2:Int)+r2) hl0;obtain⟨N,g⟩:=pg.g x hx;have hca:=pg.ca hx;have hfl:=OZ g;refine⟨by rw[jab];omega,oe (by rw[jab];exact ex) (?_)⟩;exact⟨x,hs,N,M,pg.f x hx,hca,g,hs,x,N,M,g,hca,_,_,M,M,.inl ⟨M,hfl,_,M,hN _ _ ⟨_,_,M,M⟩⟩⟩
 rintro Z S' ⟨y,z,rfl,rfl⟩;have hfl:Mb 40 (hs.map pC):=xB λy hy=>by obtain⟨x,hx,rfl⟩:=jas.mp hy;obtain⟨N,g⟩:=pg.g x hx;exact Xg g
 exact⟨trivial,0,_,_,by decide,M,by symm,hs,M,by omega,tld,.inl ⟨M,hfl,mL (h _)⟩⟩
abbrev kZ:Stmt:=inClass (top 26) 0
theorem Cs:aj ["self","at","names","helper","given"] ["self","at","names","helper","given"] (aa kZ):=bW
seal aG in
theorem C1 (J:Fx K mg A)(bO:Cm P w K mg base k "Step" "__init__" ["self","at"] (sP K))(F:bG K "__init__" "Call.__init__" kZ f fd):az P w K mg base bz (k+1) f fd ["self","at","names","helper","given"] (aQ K (TQ A)):=by
 refine aP F Cs λAT B outer s H E hr=>?_;rw[show ai kZ=[_,_,_,_] from rfl];refine⟨_,(qs (gk (rK bO hr rfl ak)) (qs (bf q_r (aK bA (by rfl) J.bu jaK ak) M) (qs (bf q_r q_r M) (aO (bf q_r (aK bA (by rfl) J.bu jaK ak) M))))),λds S kk hc hd h=>?_⟩;obtain⟨i,a,d1,d2,ns,f,gs,rfl,h1,e1,e2,h4⟩:=h;have hz:=(jao.mp h1).1;refine⟨_,_,_,M,h1,J.vf.n.1,?_⟩;refine(oe (vz (rE h1 e1)) ⟨_,_,_,_,M,Lw hz,J.vf.n.2.1,by decide,?_⟩);rw[jaC];refine⟨_,_,_,_,M,Lw hz,J.vf.n.2.2.1,by decide,?_⟩;rw[jaC];refine(oe (vz (rE h1 e2)) ⟨_,_,_,_,M,Lw hz,J.vf.n.2.2.2.1,by decide,?_⟩);rw[jaC];exact .inr (.inr (.inr h4))
abbrev qG:Stmt:=inClass (top 5) 5
theorem f9:aj ["self","sums","pairs","number","thing","weight","stands_in"] ["self","sums"] (aa qG):=bW
seal aG in
theorem HC (J:Fx K mg A)(dP:gc P w K mg base k A)(nS:qQ P w K mg base k A)(F:bG K "put_in" "Sum.put_in" qG f fd):az P w K mg base bz (k+1) f fd ["self","sums"] (aQ K (MD A)):=by
 refine aP F f9 λAT B outer s H E hr=>?_;rw[show ai qG=[_,_,_,_] from rfl];refine⟨_,(qs (aq (i:=2) f9.nd (gI af)) (qs (aq (i:=3) f9.nd q_r) (qs (aZ jay rfl (qi q_r) (gX (n:=2) rfl (uA (qg (i:=4) f9.nd) (uA (qg (i:=5) f9.nd) fc))) (aO (aR (Vr (gM hr) q_r q_r) (qs (aq (i:=6) f9.nd (cD (yw (gM hr) q_r q_r) nS hr ak)) (qs (gk (yv q_r ak)) (aO (aq (i:=3) f9.nd q_r)))) (aO (gk (oq q_r ak)))))) (aO (ao (ah dP hr rfl ak)))))),λds S kk hc hd h=>?_⟩;obtain⟨n,m,s,rfl,hm,hw,hl,hf,hb,h⟩:=h;have hf:s.1.length<=4:=hf;refine(bJ (dF pT (λpre Z S'=>∃y z w,Z=[some (D.t (cY A s)),some (D.ob n),some (D.ob (S.length+0)),some (.int (s.2+nms m pre)),y,z,w]/\S'=S++[O.lst ((prs m pre).map pT)]) ⟨_,_,_,by rw[nms,Int.add_zero];rfl,M⟩ ?_ ?_))
 .rintro pre ⟨x,v⟩ post Z S' N e ⟨y,z,w,rfl,rfl⟩ hN;have hv:=hb (x,v) (by rw[e];simp);have h1:=xm hw pre;have h2:pre.length<4:=by rw[e,jaf,jaj] at hf;omega
  have hm2:Dc (S++[O.lst ((prs m pre).map pT)]) n (cY A) m:=hm.up;have e1:nms m (pre++[(x,v)])=nms m pre+nms m [(x,v)]:=RI ..;have e2:prs m (pre++[(x,v)])=prs m pre++prs m [(x,v)]:=Ri ..;refine⟨trivial,_,M,M,_,_,M,_,_,M,M,_,_,_,M,hm2,M,?_⟩;rw[DG];cases q:ud m x with
  |none=>
   have e3:nms m [(x,v)]=0:=by simp[nms,q]
   have e4:prs m [(x,v)]=[(x,v)]:=by simp[prs,q]
   refine⟨false,M,⟨M,_,eG M⟩,_,dH,vS (by rw[jab];omega),?_⟩;rw[cB];refine hN _ _ ⟨some (.str x),some (.int v),w,?_,?_⟩
   .rw[e1,e3,Int.add_zero];rfl
   .rw[e2,e4,jam];rfl
  |some r=>
   have hr4:r.1.length<=4:=zx (P:=λs=>s.1.length<=4) hw q;have e3:nms m [(x,v)]=(r.times v).2:=by simp[nms,q]
   have e4:prs m [(x,v)]=(r.times v).1:=by simp[prs,q]
   have hrt:(r.times v).1.length<=4:=by
    have:=gK (r.1.map λp=>(p.1,p.2*v));rw[jab] at this;exact jaR this hr4
   refine⟨true,M,_,_,_,_,M,hm2,M,by rw[DG,q];rfl,0,_,_,by decide,M,by symm,r,v,M,by omega,⟨by omega,by omega⟩,?_⟩;refine⟨⟨M,_,eG M⟩,_,_,dH,M,ck (by rw[jab,jab];omega),?_⟩;rw[cB];refine(hN _ _ ⟨some (.str x),some (.int v),some (.t (cY A (r.times v))),?_,?_⟩)
   .rw[e1,e3,<- Int.add_assoc];rfl
   .rw[e2,e4,jam];rfl
 .rintro Z S' ⟨y,z,w,rfl,rfl⟩;have h1:=xm hw s.1;exact⟨trivial,_,prs m s.1,_,M,qY (eG M),by omega,F1 hc h⟩
abbrev iL:Stmt:=inClass (top 11) 3
theorem yo:aj ["self","sums"] ["self","sums"] (aa iL):=bW
seal aG in
theorem jT (J:Fx K mg A)(gZ:lF P w K mg base k A)(JO:LW P w K mg base k A)(F:bG K "put_in" "Compare.put_in" iL f fd):az P w K mg base bz (k+1) f fd ["self","sums"] (aQ K (lM A (n+1) 0)):=by
 refine aP F yo λAT B outer s H E hr=>?_;rw[show ai iL=[_] from rfl];refine⟨_,(aO (ao (fz gZ hr rfl (qa (cD q_r JO hr ak) (qa q_r (qa (cD q_r JO hr ak) af)))))),λds S kk hc hd h=>?_⟩;obtain⟨nd,m,c,rfl,hj,hn,hs,hf,hm,hw,hl,h⟩:=h;cases c with
 |cmp a s b=>
  have ha:=hf a (by unfold aI.sums;simp);have hb:=hf b (by unfold aI.sums;simp);rw[aI.put,xE] at h;rw[xE];exact⟨0,_,_,by decide,M,by symm,nd,m,a,M,hm,hw,hl,ha.1,ha.2,0,_,_,by decide,M,by symm,nd,m,b,M,hm,hw,hl,hb.1,hb.2,_,[cY A (a.put m),.str s,cY A (b.put m)],M,M,au,made (aL hc h)⟩
 |neg c=>cases hj
 |con q cs=>cases q<;>cases hj
abbrev jq:Stmt:=inClass (top 12) 3
theorem zV:aj ["self","sums"] ["self","sums"] (aa jq):=bW
seal aG in
theorem lO (J:Fx K mg A)(yT:zC P w K mg base k A)(lg:qR P w K mg base k A n)(F:bG K "put_in" "Turned.put_in" jq f fd):az P w K mg base bz (k+1) f fd ["self","sums"] (aQ K (lM A (n+1) 1)):=by
 refine aP F zV λAT B outer s H E hr=>?_;rw[show ai jq=[_] from rfl];refine⟨_,(aO (ao (fz yT hr rfl (qa (cD q_r lg hr ak) af)))),λds S kk hc hd h=>?_⟩;obtain⟨nd,m,c,rfl,hj,hn,hs,hf,hm,hw,hl,h⟩:=h;cases c with
 |cmp a s b=>cases hj
 |neg c=>
  unfold aI.dep at hn;unfold aI.sz at hs;unfold aI.sums at hf;rw[aI.put,Du] at h;obtain⟨ns,l,i1,i2⟩:=yV A S c;rw[Du];exact⟨xY c,ns,l,fq c,i1,i2,nd,m,c,M,M,by omega,by omega,hf,hm,hw,hl,_,[dU A (c.put m)],M,M,au,made (aL hc h)⟩
 |con q cs=>cases q<;>cases hj
abbrev kU:Stmt:=inClass (top 14) 1
theorem Cp:aj ["self","sums"] ["self","sums"] (aa kU):=bW
seal aG in
theorem nQ (J:Fx K mg A)(iO:mK P w K mg base k A)(lg:qR P w K mg base k A n)(F:bG K "put_in" "Every.put_in" kU f fd):az P w K mg base bz (k+1) f fd ["self","sums"] (aQ K (lM A (n+1) 2)):=by
 refine aP F Cp λAT B outer s H E hr=>?_;rw[show ai kU=[_] from rfl];refine⟨_,(aO (ao (fz iO hr rfl (qa (cu (aM ["condition"] ["sums"] [1] rfl (by symm) (by symm) (by with_unfolding_all rfl) (by exact⟨M,trivial⟩) (by rfl) rfl (by rfl)) rfl (qi q_r) (λ_ _ _ _=>(qx (i:=0) (show List.Nodup (["condition","sums"]:jcR) by symm))) (λ_ _ _ _=>bD) (λ_ _ _ _=>(cD q_r lg hr ak))) af)))),λds S kk hc hd h=>?_⟩;obtain⟨nd,m,c,rfl,hj,hn,hs,hf,hm,hw,hl,h⟩:=h;cases c with
 |cmp a s b=>cases hj
 |neg c=>cases hj
 |con q cs=>
  cases q with
  |false=>cases hj
  |true=>
   unfold aI.dep at hn;unfold aI.sz at hs;unfold aI.sums at hf;have hl2:=qm cs;rw[aI.put,nX,oW,jaN] at h;rw[nX];refine(bJ (cV (dU A) (λc=>dU A (c.put m)) trivial (ck (by omega)) (λc vL k' hk=>?_) ?_))
   .have h1:=lA vL;have h2:=rG vL;obtain⟨ns,l,i1,i2⟩:=yV A S c;exact⟨xY c,ns,l,fq c,i1,i2,nd,m,c,M,M,by omega,by omega,λs hs=>hf s (oQ vL hs),hm,hw,hl,_,M,hk⟩
   .exact⟨_,_,_,M,au,M,made (aL hc h)⟩
abbrev nv:Stmt:=inClass (top 15) 1
theorem ED:aj ["self","sums"] ["self","sums"] (aa nv):=bW
seal aG in
theorem o6 (J:Fx K mg A)(HP:Gp P w K mg base k A)(lg:qR P w K mg base k A n)(F:bG K "put_in" "Some.put_in" nv f fd):az P w K mg base bz (k+1) f fd ["self","sums"] (aQ K (lM A (n+1) 3)):=by
 refine aP F ED λAT B outer s H E hr=>?_;rw[show ai nv=[_] from rfl];refine⟨_,(aO (ao (fz HP hr rfl (qa (cu (aM ["condition"] ["sums"] [1] rfl (by symm) (by symm) (by with_unfolding_all rfl) (by exact⟨M,trivial⟩) (by rfl) rfl (by rfl)) rfl (qi q_r) (λ_ _ _ _=>(qx (i:=0) (show List.Nodup (["condition","sums"]:jcR) by symm))) (λ_ _ _ _=>bD) (λ_ _ _ _=>(cD q_r lg hr ak))) af)))),λds S kk hc hd h=>?_⟩;obtain⟨nd,m,c,rfl,hj,hn,hs,hf,hm,hw,hl,h⟩:=h;cases c with
 |cmp a s b=>cases hj
 |neg c=>cases hj
 |con q cs=>
  cases q with
  |true=>cases hj
  |false=>
   unfold aI.dep at hn;unfold aI.sz at hs;unfold aI.sums at hf;have hl2:=qm cs;rw[aI.put,nX,oW,jaN] at h;rw[nX];refine(bJ (cV (dU A) (λc=>dU A (c.put m)) trivial (ck (by omega)) (λc vL k' hk=>?_) ?_))
   .have h1:=lA vL;have h2:=rG vL;obtain⟨ns,l,i1,i2⟩:=yV A S c;exact⟨xY c,ns,l,fq c,i1,i2,nd,m,c,M,M,by omega,by omega,λs hs=>hf s (oQ vL hs),hm,hw,hl,_,M,hk⟩
   .exact⟨_,_,_,M,au,M,made (aL hc h)⟩
abbrev s9:Stmt:=top 63
theorem Bc:aj ["writings","conditions"] ["writings"] (aa s9):=bW
seal aG in
theorem Lf (J:Fx K mg A)(iO:mK P w K mg base k A)(F:bG K "all_of" "all_of" s9 f fd):az P w K mg base bz (k+1) f fd ["writings"] (aQ K (Jq A)):=by
 refine aP F Bc λAT B outer s H E hr=>?_;rw[show ai s9=[_,_] from rfl];refine⟨_,(qs (xj (i:=1) Bc.nd (aM ["at","condition"] [] [] rfl (by symm) (by symm) (by with_unfolding_all rfl) (by exact trivial) (by rfl) rfl (by rfl)) rfl (qi q_r) (λ_ _ _ _=>(jQ (n:=2) rfl (zO (qx (i:=0) (show List.Nodup (["at","condition"]:jcR) by symm)) (zO (qx (i:=1) (show List.Nodup (["at","condition"]:jcR) by symm)) gH)))) (λ_ _ _ _=>bD) (λ_ _ _ _=>q_r)) (aO (ao (a2e (aE (cU 40 (uE hr)) (aU eO (by rfl) J.eS jaQ ak) aH (aF _)) q_r (fz iO hr rfl ak))))),λds S kk hc hd h=>?_⟩;obtain⟨l,rfl,hn,hl,h⟩:=h;refine(bJ (cV (atT A) (λp=>dU A p.2) trivial (ck (by omega)) (λx _ k' hk=>⟨_,M,M,_,_,M,_,_,M,M,_,M,hk⟩) ?_));unfold allOf at h;by_cases e:l.length=1
 .obtain⟨q,rfl⟩:=List.length_eq_one_iff.mp e;rw[jae e] at h;exact⟨_,M,aL hc h⟩
 .rw[jad e,nX,jaN] at h;refine⟨false,jah D.bl (Oh (by rw[jab];omega)),_,_,_,M,au,M,made (aL hc h)⟩
abbrev qE:Stmt:=top 62
theorem cQ:aj ["book","path","step","called","stands_for","place","param","given","name","answer"] ["book","path","step"] (aa qE):=bW
seal aG in
theorem HA (J:Fx K mg A)(nY:pU P w K mg base k A)(lg:qR P w K mg base k A n)(ic:pR P w K mg base k A)(cL:fY P w K mg base k A)(tL:xH P w K mg base k A)(Pe:II P w K mg base k A)(pL:rB P w K mg base k)(q9:xJ P w K mg base k A)(C7:BI P w K mg base k A)(F:bG K "go_call" "go_call" qE f fd):az P w K mg base bz (k+1) f fd ["book","path","step"] (aQ K (Es A n (λs=>kd s=6) (λp=>.tup (p.map (nG A))))):=by
 refine aP F cQ λAT B outer s H E hr=>?_;rw[show ai qE=[_,_,_,_,_,_] from rfl];refine⟨_,(qs (aq (i:=3) cQ.nd (cD q_r C7 hr ak)) (qs (aq (i:=4) cQ.nd CB) (qs (aZ jay rfl (Zb rfl J.Gg ak) (gX (n:=2) rfl (uA (qg (i:=5) cQ.nd) (uA (qg (i:=6) cQ.nd) fc))) (aO (aR (fu (ah pL hr rfl ak)) (aO (jB (gM hr) q_r q_r q_r)) (qs (aq (i:=7) cQ.nd (bh aS aX (aK O9 (by rfl) J.Ky boot_str ak))) (qs (aq (i:=1) cQ.nd (bh aS q_r (bx (qa (ah q9 hr rfl ak) af)))) (aO (jB (gM hr) q_r q_r (ah ic hr rfl ak)))))))) (qs (aR (aE Fg (aU eO (by rfl) J.eS jaQ ak) aH (aF _)) (aO (aq (i:=1) cQ.nd (cD q_r tL hr (qa q_r (qa aX (qa q_r (qa (cD (ah Pe hr rfl ak) lg hr ak) af))))))) aD) (qs (aZ jay rfl (Vt rfl J.a0F ak) (gX (n:=2) rfl (uA (qg (i:=8) cQ.nd) (uA (qg (i:=9) cQ.nd) fc))) (qs (aq (i:=1) cQ.nd (bh aS q_r (ah cL hr rfl ak))) (aO (jB (gM hr) q_r q_r (ah ic hr rfl ak))))) (aO (ao (bh aS q_r (aK bA (by rfl) J.bu jaK (qa (cu (aM ["at","condition"] ["stands_for"] [4] rfl (by symm) (by symm) (by with_unfolding_all rfl) (by exact⟨M,trivial⟩) (by rfl) rfl (by rfl)) rfl (qi q_r) (λ_ _ _ _=>(jQ (n:=2) rfl (zO (qx (i:=0) (show List.Nodup (["at","condition","stands_for"]:jcR) by symm)) (zO (qx (i:=1) (show List.Nodup (["at","condition","stands_for"]:jcR) by symm)) gH)))) (λ_ _ _ _=>bD) (λ_ _ _ _=>(ah nY hr rfl (qa (cD q_r lg hr ak) af)))) af)))))))))),λds S kk hc hd h=>?_⟩;obtain⟨i,j,hs,cy,p,s,rfl,hB,h1,h2,ok,hca,hk,h⟩:=h;cases s with
 |lt a x s=>cases hk
 |dv a x wd s b=>cases hk
 |ft a x r p=>cases hk
 |pt a r p s=>cases hk
 |mq a r z=>cases hk
 |cm a c=>cases hk
 |cl a ns g gs=>
 obtain⟨_,x,hx,rfl⟩:=hca _ _ _ _ rfl;have Kg:=ok.cl _ _ _ _ rfl;obtain⟨XQ,pl2⟩:=Kg.pl;obtain⟨UC,al2⟩:=Kg.al;obtain⟨Wj,ZH⟩:=Kg.nl;have hjl:=(jao.mp hB.2).1;have hfw:=HQ (ps:=x.params) (p:=p) Kg.gs;have hil:=tQ x.params gs p;refine(oe (oA hB.1) ⟨0,_,_,by decide,M,by symm,_,x,hs,M,hx,?_⟩);refine⟨_,M,?_⟩;refine nV (λq Z S'=>∃y z w,Z=[some (D.ob i),some (.tup ((inN x.params gs p q).1.map (nG A))),some (D.t (jJ A (.cl a ns x.hd gs))),some (D.t (pB A x)),some (D.ob S.length),y,z,w,none,none]/\S'=S++[O.ly ((inN x.params gs p q).2.map (kv (cY A)))]) ⟨_,_,_,M,M⟩ ?_ ?_
 .rintro q it Z S' N hit ⟨y,z,w,rfl,rfl⟩ hN;have hq:q<x.params.length:=by
   have:=(jao.mp hit).1;rw[jab,tS,jab] at this;exact this
  have hp8:x.params.length=gs.length:=XQ;obtain⟨pr,Sf⟩:∃pr,x.params[q]?=some pr:=⟨_,jaD hq⟩
  obtain⟨g,hg⟩:∃g,gs[q]?=some g:=⟨_,jaD (by omega)⟩
  rw[jaA,Ia,jaA,Sf] at hit;cases hit;have X5:mO (gs.map (cY A)) ((0+q:Nat):Int)=some (cY A g):=iU (by rw[jbi,jaA,hg];rfl);have es:=FL (p:=p) Sf hg;have hdl:((inN x.params gs p q).2.map (kv (cY A))).length<sizeLine:=vS (by rw[jab];have:=(hfw q).2;omega);refine⟨trivial,_,M,M,_,_,M,_,_,M,M,pr,M,_,M,?_⟩;cases hst:Txt.startswith pr "#" with
  |true=>
   rw[jae hst] at es;refine(oe X5 ⟨_,_,_,_,M,au,M,M,hdl,?_⟩);rw[cP,<- qP];refine hN _ _ ⟨some (.int ((0+q:Nat):Int)),some (.str pr),w,?_,?_⟩
   .rw[es];rfl
   .rw[es]
  |false=>
   rw[jad (by rw[hst];decide)] at es;refine⟨Wt (by omega),ck (U6 (by omega)),?_⟩;rw[jbi] at X5 ⊢;refine(oe X5 ⟨hat q,g,M,ck (by simp only[jab,jaj,jaT];have:=hil q;omega),?_⟩);refine⟨hat q,M,_,_,_,_,M,au,M,M,hdl,?_⟩;rw[cP];have e9:dput ((inN x.params gs p q).2.map (kv (cY A))) (.inr pr) (cY A ([(hat q,1)],0))=(kj (inN x.params gs p q).2 pr (on (hat q))).map (kv (cY A)):=(qP ..).symm;rw[e9];refine hN _ _ ⟨some (.int (q:Int)),some (.str pr),some (.str (hat q)),?_,?_⟩
   .rw[es,jam];rfl
   .rw[es]
 rintro Z S' ⟨y,z,w,rfl,rfl⟩;have eL:((PZ 0 (x.params.map T.str)).map D.t).length=x.params.length:=by rw[jab,tS,jab]
 rw[eL];have hG:J2 p a ns x.hd gs=((goN (inN x.params gs p x.params.length).1 a (inN x.params gs p x.params.length).2 x.needs).1,(goN (inN x.params gs p x.params.length).1 a (inN x.params gs p x.params.length).2 x.needs).2++(ns.map aT).flatten++x.gives.map λq=>.hd (q.2.put (wB ns x.answers (inN x.params gs p x.params.length).2 ns.length))):=rfl;have h:kk (.t (.tup ((J2 p a ns x.hd gs).2.map (nG A)))) (S.set j (.lst ((cy++(J2 p a ns x.hd gs).1).map (An A)))):=h;rw[hG] at h;have XQ:x.params.length=gs.length:=XQ;have hQl:=hil x.params.length;obtain⟨W6,hQm⟩:=hfw x.params.length;clear hil hfw hG;generalize inN x.params gs p x.params.length=Q at h hQl W6 hQm ⊢;have hn1:=yZ Q.1 a Q.2 x.needs;have hn2:=yY Q.1 a Q.2 x.needs;have hWd:goN Q.1 a Q.2 x.needs=goN Q.1 a Q.2 x.needs:=rfl;have hcn:=Kg.nd;have hcg:=Kg.gv;have Wj:x.needs.length<=8:=Wj;have ZH:x.gives.length<=8:=ZH;have UC:ns.length=x.answers.length:=UC;refine⟨trivial,?_⟩;dsimp only;refine QB (λZ S'=>∃y z w,Z=[some (D.ob i),some (.tup ((goN Q.1 a Q.2 x.needs).2.map (nG A))),some (D.t (jJ A (.cl a ns x.hd gs))),some (D.t (pB A x)),some (D.ob S.length),y,z,w,none,none]/\S'=S.set j (.lst ((cy++(goN Q.1 a Q.2 x.needs).1).map (An A)))++[O.ly (Q.2.map (kv (cY A)))]) (λN hN=>?_) ?_
 .refine(?_);have hBu:Bk A (S++[O.ly (Q.2.map (kv (cY A)))]) i j (Bf A hs) cy:=hB.up;by_cases hne:x.needs=[]
  .refine⟨false,jah D.bl (jat (by rw[jab,hne];decide)),hN _ _ ⟨y,z,w,?_,?_⟩⟩
   .unfold goN;rw[jae hne]
   .unfold goN;rw[jae hne,jaJ,set_same hB.2]
  .have hpos:0<x.needs.length:=jbO.mpr hne;obtain⟨hd1,hs1⟩:=LR (n:=n) (λq hq=>⟨(hcn q hq).2.1,(hcn q hq).2.2.1⟩) Wj hne;obtain⟨XR,l2,i1,i2⟩:=yV A (S++[O.ly (Q.2.map (kv (cY A)))]) (allOf x.needs);refine⟨true,jah D.bl (jaF (by rw[jab];omega)),0,_,_,by decide,oA hBu.1,by symm,x.needs,M,hne,Wj,?_⟩;refine⟨xY (allOf x.needs),XR,l2,fq _,i1,i2,S.length,Q.2,allOf x.needs,M,M,hd1,hs1,Iv λq hq s hs=>⟨(hcn q hq).1.2 s hs,(hcn q hq).2.2.2 s hs⟩,au,W6,by omega,?_⟩;refine⟨i,j,Bf A hs,cy,Q.1,"needs",a,(allOf x.needs).put Q.2,M,hBu,by omega,by omega,hN _ _ ⟨y,z,w,?_,?_⟩⟩
   .unfold goN;rw[jad hne];rfl
   .unfold goN;rw[jad hne,jb7 _ _ hjl]
 generalize goN Q.1 a Q.2 x.needs=W at h hn1 hn2 ⊢;clear hWd;rintro Z S' ⟨y,z,w,rfl,rfl⟩;have hLS:(S.set j (.lst ((cy++W.1).map (An A)))).length=S.length:=jaE;have FO:∀m,(S.set j (.lst ((cy++W.1).map (An A)))++[O.ly m])[S.length]?=some (O.ly m):=λm=>by rw[<- hLS];exact au
 have WZ:∀m m',(S.set j (.lst ((cy++W.1).map (An A)))++[O.ly m]).set S.length (O.ly m')=S.set j (.lst ((cy++W.1).map (An A)))++[O.ly m']:=λm m'=>by rw[<- hLS];exact cP
 have Ot:=Iu (ns:=ns) (DF:=x.answers) W6;refine⟨_,_,M,by rw[jab,jab];exact UC,?_⟩;refine nV (λq Z S'=>∃y z w u v,Z=[some (D.ob i),some (.tup ((W.2++((ns.take q).map aT).flatten).map (nG A))),some (D.t (jJ A (.cl a ns x.hd gs))),some (D.t (pB A x)),some (D.ob S.length),y,z,w,u,v]/\S'=S.set j (.lst ((cy++W.1).map (An A)))++[O.ly ((wB ns x.answers Q.2 q).map (kv (cY A)))]) ⟨y,z,w,none,none,by rw[List.take_zero,jbC,List.flatten_nil,jaJ],M⟩ ?_ ?_
 .rintro q it Z S' N hit ⟨y,z,w,u,v,rfl,rfl⟩ hN;have hq:q<ns.length:=by
   have:=(jao.mp hit).1;rw[jab,wU (by rw[jab,jab];exact UC),jab] at this;exact this
  obtain⟨nm,hnm⟩:∃pr,ns[q]?=some pr:=⟨_,jaD hq⟩
  obtain⟨an,han⟩:∃g,x.answers[q]?=some g:=⟨_,jaD (by omega)⟩
  rw[jaA,UK ns x.answers q hnm han] at hit;cases hit;have et:(ns.take (q+1))=ns.take q++[nm]:=by rw[List.take_succ,hnm];rfl
  have hr1:=fG (ns.take q);have hr2:=fX nm;rw[jby] at hr1;refine⟨trivial,_,M,M,_,_,M,_,_,M,M,nm,M,ck (by simp only[jab,jaf];omega),?_⟩;refine⟨nm,M,_,_,_,_,M,FO _,M,M,vS (by rw[jab];have:=(Ot q).2;omega),?_⟩;rw[WZ];have e9:dput ((wB ns x.answers Q.2 q).map (kv (cY A))) (.inr an) (cY A ([(nm,1)],0))=(wB ns x.answers Q.2 (q+1)).map (kv (cY A)):=by rw[UA hnm han];exact(qP ..).symm
  rw[e9];refine hN _ _ ⟨y,z,w,some (.str nm),some (.str an),?_,M⟩;rw[et,<- jam,jaX,<- List.flatten_singleton (l:=aT nm)];simp
 rintro Z S' ⟨y,z,w,u,v,rfl,rfl⟩;have eL2:((S6 (ns.map T.str) (x.answers.map T.str)).map D.t).length=ns.length:=by rw[jab,wU (by rw[jab,jab];exact UC),jab]
 rw[eL2,List.take_length];obtain⟨hA1,hA2⟩:=Ot ns.length;have hr1:=fG ns;refine⟨trivial,bJ (cV (atT A) (λq=>nG A (.hd (q.2.put (wB ns x.answers Q.2 ns.length)))) trivial (ck (by omega)) (λq hq k' hk=>?_) ⟨ck (by simp only[jab,jaf];omega),Uv (S0:=S) hc ?_⟩)⟩
 .obtain⟨XR,l2,i1,i2⟩:=yV A (S.set j (.lst ((cy++W.1).map (An A)))++[O.ly ((wB ns x.answers Q.2 ns.length).map (kv (cY A)))]) q.2;obtain⟨g1,g2,g3,g4⟩:=hcg q hq;exact⟨_,M,M,_,_,M,_,_,M,M,xY q.2,XR,l2,fq _,i1,i2,S.length,wB ns x.answers Q.2 ns.length,q.2,M,M,by omega,by omega,λs hs=>⟨g1.2 s hs,g4 s hs⟩,FO _,hA1,by omega,q.2.put (wB ns x.answers Q.2 ns.length),M,_,M,hk⟩
 .rw[jam,jaN] at h;exact h
abbrev qA:Stmt:=top 97
theorem G2:aj ["_law_helpers","_law_name"] ["_law_helpers","_law_name"] (aa qA):=bW
seal aG in
theorem Hv (J:Fx K mg A)(F:bG K "_law_named" "_law_named" qA f fd):az P w K mg base bz (k+1) f fd ["_law_helpers","_law_name"] (aQ K Ep):=by
 refine aP F G2 λAT B outer s H E hr=>?_;rw[show ai qA=[_] from rfl];refine⟨_,(aO (ao (oV (cu (aM ["_law_helper_here"] ["_law_name"] [1] rfl (by symm) (by symm) (by with_unfolding_all rfl) (by exact⟨M,trivial⟩) (by rfl) rfl (by rfl)) rfl (qi q_r) (λ_ _ _ _=>(qx (i:=0) (show List.Nodup (["_law_helper_here","_law_name"]:jcR) by symm))) (λ_ _ _ _=>(tu (aE (cU 40 (uE hr)) q_r q_r (aF _)))) (λ_ _ _ _=>q_r)) aH))),λds S kk hc hd h=>?_⟩;obtain⟨x,hl,hs,rfl,hs1,hf,h⟩:=h;refine(bJ (vc pC (λy=>if y.name=x then some (pC y) else none) trivial (ck (by omega)) (λy _ k' hk=>?_) ?_))
 .by_cases q:y.name=x
  .rw[jae q] at hk;exact⟨true,jah D.bl (seq q),_,M,hk⟩
  .rw[jad q] at hk;exact⟨false,jah D.bl (dS q),hk⟩
 .exact(oe (J5 hf) (aL hc h))
abbrev kF:Stmt:=top 84
theorem gu:aj ["_law_one_here","_law_sums","_law_found","_law_thing","_law_times"] ["_law_one_here","_law_sums"] (aa kF):=bW
seal aG in
theorem CL (J:Fx K mg A)(gb:n9 P w K mg base k)(F:bG K "_law_put_sum" "_law_put_sum" kF f fd):az P w K mg base bz (k+1) f fd ["_law_one_here","_law_sums"] (aQ K Jg):=by
 refine aP F gu λAT B outer s H E hr=>?_;rw[show ai kF=[_,_,_] from rfl];refine⟨_,(qs (aq (i:=2) gu.nd q_r) (qs (aZ jay rfl (qi q_r) (gX (n:=2) rfl (uA (qg (i:=3) gu.nd) (uA (qg (i:=4) gu.nd) fc))) (aO (aq (i:=2) gu.nd (ah gb hr rfl (qa q_r (qa (CC (gM hr) q_r q_r q_r) ak)))))) (aO (ao q_r)))),λds S kk hc hd h=>?_⟩;obtain⟨n,m,s,rfl,hm,hw,hf,hb,h⟩:=h;have hf:s.1.length<=4:=hf;refine(bJ (dF pT (λpre Z S'=>∃y z,Z=[some (.t (i8 s)),some (.ob n),some (.t (i8 (lU m pre ([],s.2)))),y,z]/\S'=S) ⟨_,_,M,M⟩ ?_ ?_))
 .rintro pre ⟨x,v⟩ post Z S' N e ⟨y,z,rfl,rfl⟩ hN;have hv:=hb (x,v) (by rw[e];simp);have h2:pre.length<4:=by rw[e,jaf,jaj] at hf;omega
  obtain⟨hl1,hl2⟩:=N2 hw pre s.2;have es:=Bj m (x,v) pre ([],s.2);refine⟨trivial,_,M,M,_,_,M,_,_,M,M,_,_,M,hm,_,_,hm,M,?_⟩;rw[DG];cases q:ud m x with
  |none=>
   have es:lU m (pre++[(x,v)]) ([],s.2)=dN (lU m pre ([],s.2)) ([(x,1)],0) v:=by rw[es];show dN _ (match ud m x with | some s=>s | none=>([(x,1)],0)) v=_;rw[q]
   refine⟨lU m pre ([],s.2),([(x,1)],0),v,M,by omega,hl2,by simp,⟨by omega,by omega⟩,?_⟩;rw[<- es];exact hN _ _ ⟨_,_,M,M⟩
  |some r=>
   have hr4:r.1.length<=4:=zx (P:=λs=>s.1.length<=4) hw q;have es:lU m (pre++[(x,v)]) ([],s.2)=dN (lU m pre ([],s.2)) r v:=by rw[es];show dN _ (match ud m x with | some s=>s | none=>([(x,1)],0)) v=_;rw[q]
   refine⟨lU m pre ([],s.2),r,v,M,by omega,hl2,by omega,⟨by omega,by omega⟩,?_⟩;rw[<- es];exact hN _ _ ⟨_,_,M,M⟩
 .rintro Z S' ⟨y,z,rfl,rfl⟩;rw[N1];exact⟨trivial,aL hc h⟩
abbrev wY:Stmt:=top 85
theorem MZ:aj ["_law_told","_law_sums"] ["_law_told","_law_sums"] (aa wY):=bW
seal aG in
theorem yE (J:Fx K mg A)(qM:Dn P w K mg base k "_law_put" ["_law_told","_law_sums"] (aQ K (xU n)))(rj:wD P w K mg base k)(F:bG K "_law_put" "_law_put" wY f fd):az P w K mg base bz (k+1) f fd ["_law_told","_law_sums"] (aQ K (xU (n+1))):=by
 refine aP F MZ λAT B outer s H E hr=>?_;rw[show ai wY=[_,_] from rfl];refine⟨_,(qs (aR (aE (cU 40 (uE hr)) q_r aX (aF _)) (aO (ao (bx (qa aX (qa (ah rj hr rfl ak) (qa q_r (qa (ah rj hr rfl ak) af))))))) aD) (aO (ao (bh aS q_r (aK bA (by rfl) J.bu jaK (qa (cu (aM ["_law_one_here"] ["_law_sums"] [1] rfl (by symm) (by symm) (by with_unfolding_all rfl) (by exact⟨M,trivial⟩) (by rfl) rfl (by rfl)) rfl (qi (rJ false q_r (bT aH) nK)) (λ_ _ _ _=>(qx (i:=0) (show List.Nodup (["_law_one_here","_law_sums"]:jcR) by symm))) (λ_ _ _ _=>bD) (λ_ _ _ _=>(ah qM hr rfl ak))) af)))))),λds S kk hc hd h=>?_⟩;obtain⟨n1,m,c,rfl,hm,hw,hf,hb,hd2,h⟩:=h;obtain⟨hf1,hf2⟩:=hf;cases c with
 |cmp a s b=>
  rw[qL];rw[aI.put,qL] at h;have ha:a∈(aI.cmp a s b).sums:=by unfold aI.sums;simp
  have hb2:b∈(aI.cmp a s b).sums:=by unfold aI.sums;simp
  exact EK rfl (seq M) ⟨n1,m,a,M,hm,hw,hf2 a ha,hb a ha,n1,m,b,M,hm,hw,hf2 b hb2,hb b hb2,aL hc h⟩
 |neg c=>
  rw[xF];rw[aI.put,xF] at h;unfold aI.dep at hd2;unfold aI.sz at hf1;unfold aI.sums at hf2;unfold aI.bw aI.sums at hb;have hsz:∀d∈[c],d.sz<=7:=λd hd=>by rw[jai.mp hd];omega
  have hsm:∀d∈[c],∀s∈d.sums,s.few:=λd hd=>by rw[jai.mp hd];exact hf2
  have hbm:∀d∈[c],d.bw:=λd hd=>by rw[jai.mp hd];exact hb
  have hdp:∀d∈[c],d.dep<n:=λd hd=>by rw[jai.mp hd];omega
  show vC _ _ _ (uI _ [.t (.tup (.str "not"::[c].map jC)),.ob n1]) _;refine fD rfl (dS (by symm)) (?_);refine⟨Dp (by simp),?_⟩;rw[tV];refine bJ ?_;exact cV jC (λc=>jC (c.put m)) trivial (sz 1) (λc vL k' hk=>⟨n1,m,c,M,hm,hw,⟨hsz c vL,hsm c vL⟩,hbm c vL,hdp c vL,_,M,hk⟩) ⟨sz 2,aL hc h⟩
 |con q cs=>
  rw[iS];rw[aI.put,iS,oW,jaN] at h;unfold aI.dep at hd2;unfold aI.sz at hf1;unfold aI.sums at hf2;unfold aI.bw aI.sums at hb;have hl:=qm cs;refine(oe Uz ⟨false,jah D.bl (dS (by cases q<;>symm)),oe Uz (?_)⟩);refine⟨Dp (by simp),?_⟩;rw[tV];refine bJ ?_;refine cV jC (λc=>jC (c.put m)) trivial (ck (by omega)) (λc vL k' hk=>⟨n1,m,c,M,hm,hw,⟨by have:=rG vL;omega,λs hs=>hf2 s (oQ vL hs)⟩,λs hs=>hb s (oQ vL hs),by have:=lA vL;omega,_,M,hk⟩) ⟨ck (by simp only[jab,jaj,jaT];omega),aL hc h⟩
abbrev mY:Stmt:=top 98
theorem cI:aj ["_law_found","_law_helpers","_law_step_here","_law_path","_law_helper_here","_law_sums","_law_k","_law_needs"] ["_law_found","_law_helpers","_law_step_here","_law_path"] (aa mY):=bW
seal aG in
theorem E1 (J:Fx K mg A)(qM:Gs P w K mg base k)(cO:lI P w K mg base k)(rY:ur P w K mg base k)(fh:pS P w K mg base k)(F6:AH P w K mg base k)(F:bG K "_law_called" "_law_called" mY f fd):az P w K mg base bz (k+1) f fd ["_law_found","_law_helpers","_law_step_here","_law_path"] (aQ K A8):=by
 refine aP F cI λAT B outer s H E hr=>?_;rw[show ai mY=[_,_,_,_,_,_,_,_,_] from rfl];refine⟨_,(qs (aq (i:=4) cI.nd (ah F6 hr rfl ak)) (qs (aq (i:=5) cI.nd CB) (qs (aZ jay rfl (nL rfl J.jD (qa (aU eO (by rfl) J.eS jaQ ak) af)) (qg (i:=6) cI.nd) (qs (jB (gM hr) q_r q_r q_r) (aO (aR (aE (Ff 40 (uE hr)) q_r aX (aF _)) (qs (aq (i:=3) cI.nd (bh aS q_r (bx (qa (bx (qa aX (qa (bh aS aX (aK O9 (by rfl) J.Ky boot_str ak)) ak))) af)))) (aO (jB (gM hr) q_r q_r (ah cO hr rfl (qa (bh aS aX (aK O9 (by rfl) J.Ky boot_str ak)) af))))) aD)))) (qs (xj (i:=7) cI.nd (aM ["_law_at","_law_told"] ["_law_sums"] [5] rfl (by symm) (by symm) (by with_unfolding_all rfl) (by exact⟨M,trivial⟩) (by rfl) rfl (by rfl)) rfl (qi q_r) (λ_ _ _ _=>(jQ (n:=2) rfl (zO (qx (i:=0) (show List.Nodup (["_law_at","_law_told","_law_sums"]:jcR) by symm)) (zO (qx (i:=1) (show List.Nodup (["_law_at","_law_told","_law_sums"]:jcR) by symm)) gH)))) (λ_ _ _ _=>bD) (λ_ _ _ _=>(ah qM hr rfl ak))) (qs (aR (aE (cU 40 (uE hr)) (aU eO (by rfl) J.eS jaQ ak) aH (aF _)) (aO (aq (i:=3) cI.nd (ah fh hr rfl ak))) aD) (qs (aR (aE Fg (aU eO (by rfl) J.eS jaQ ak) aH (aF _)) (aO (aq (i:=3) cI.nd (ah fh hr rfl (qa q_r (qa q_r (qa aX (qa q_r (qa (bh aS q_r (aK bA (by rfl) J.bu jaK ak)) af)))))))) aD) (qs (aq (i:=3) cI.nd (bh aS q_r (ah rY hr rfl ak))) (qs (aZ jay rfl (nL rfl J.jD (qa (aU eO (by rfl) J.eS jaQ ak) af)) (qg (i:=6) cI.nd) (aO (jB (gM hr) q_r q_r (ah cO hr rfl ak)))) (aO (ao (bh aS q_r (aK bA (by rfl) J.bu jaK (qa (cu (aM ["_law_at","_law_told"] ["_law_sums"] [5] rfl (by symm) (by symm) (by with_unfolding_all rfl) (by exact⟨M,trivial⟩) (by rfl) rfl (by rfl)) rfl (qi q_r) (λ_ _ _ _=>(jQ (n:=2) rfl (zO (qx (i:=0) (show List.Nodup (["_law_at","_law_told","_law_sums"]:jcR) by symm)) (zO (qx (i:=1) (show List.Nodup (["_law_at","_law_told","_law_sums"]:jcR) by symm)) gH)))) (λ_ _ _ _=>bD) (λ_ _ _ _=>(bx (qa aX (qa (ah qM hr rfl ak) af))))) af))))))))))))),λds S kk hc hd h=>?_⟩;obtain⟨f,hs,cy,p,a,ns,g,gs,N,rfl,e0,h1,h2,ok,hha,h⟩:=h;obtain⟨hs1,x,hx,rfl⟩:=hha;have Kg:=ok.ok.cl _ _ _ _ rfl;obtain⟨XQ,pl2⟩:=Kg.pl;obtain⟨UC,al2⟩:=Kg.al;obtain⟨Wj,ZH⟩:=Kg.nl;have XQ:x.params.length=gs.length:=XQ;have Wj:x.needs.length<=8:=Wj;have ZH:x.gives.length<=8:=ZH;have UC:ns.length=x.answers.length:=UC;have hjl:=(jao.mp e0).1;have hfw:=HQ (ps:=x.params) (p:=p) Kg.gs;have hil:=tQ x.params gs p;refine s_call rfl ⟨x.name,x,hs,M,hs1,hx,?_⟩;refine⟨_,M,by rw[jab];omega,by rw[jab];omega,?_⟩;refine nV (λq Z S'=>∃y,Z=[some (D.ob f),some (.tup (hs.map pC)),some (D.t (zN (.cl a ns x.hd gs))),some (.tup ((inN x.params gs p q).1.map nH)),some (D.t (pC x)),some (D.ob S.length),y,none]/\S'=S++[O.ly ((inN x.params gs p q).2.map (kv i8))]) ⟨_,M,M⟩ ?_ ?_
 .rintro q it Z S' Nx hit ⟨y,rfl,rfl⟩ hN;have hq:q<x.params.length:=by
   have:=(jao.mp hit).1;rw[jab,jaZ] at this;have e:((List.map T.str x.params).length:Int).toNat=x.params.length:=by rw[jab];rfl
   omega
  obtain⟨pr,Sf⟩:∃pr,x.params[q]?=some pr:=⟨_,jaD hq⟩
  obtain⟨g,hg⟩:∃g,gs[q]?=some g:=⟨_,jaD (by omega)⟩
  have HU:it=D.int (q:Int):=by
   rw[jaA,jb8 (by have e:((List.map T.str x.params).length:Int).toNat=x.params.length:=(by rw[jab];rfl);omega)] at hit;cases hit;rfl
  subst HU;have X5:mO (gs.map i8) (q:Int)=some (i8 g):=iU (by rw[jaA,hg];rfl);have X3:mO (x.params.map T.str) (q:Int)=some (T.str pr):=iU (by rw[jaA,Sf];rfl);have es:=FL (p:=p) Sf hg;obtain⟨hp1,c,r,hp2⟩:=Kg.ps pr (jbH Sf);have hdl:((inN x.params gs p q).2.map (kv i8)).length<sizeLine:=vS (by rw[jab];have:=(hfw q).2;omega);have a3b:((kj (inN x.params gs p q).2 pr g).map (kv i8)).length<sizeLine:=vS (by rw[jab];have:=(hfw q).2;have:=t9 (inN x.params gs p q).2 pr g;omega);refine⟨trivial,oe X5 (oe X3 ⟨_,_,_,_,M,au,M,M,hdl,?_⟩)⟩;rw[cP,<- qP];refine(oe X3 ⟨ck (by omega),c,by rw[hp2];exact Uz,?_⟩);by_cases L7:c=35
  .rw[jae (by rw[gU hp2,jaF L7])] at es;refine⟨false,jah D.bl (by rw[BS,jaF (mF.mpr L7)];rfl),hN _ _ ⟨some (.int (q:Int)),?_,?_⟩⟩
   .rw[es];rfl
   .rw[es]
  .rw[jad (by rw[gU hp2,jat L7];decide)] at es;refine⟨true,jah D.bl (by rw[BS,jat λz=>L7 (mF.mp z)];rfl),Wt (by omega),ck (U6 (by omega)),oe X5 ⟨ck (by simp only[jab,jaj,jaT];have:=hil q;omega),?_⟩⟩;refine⟨Wt (by omega),ck (U6 (by omega)),hat q,M,oe X3 ⟨_,_,_,_,M,au,M,M,a3b,?_⟩⟩;rw[cP];have e9:dput ((kj (inN x.params gs p q).2 pr g).map (kv i8)) (.inr pr) (i8 (on (hat q)))=(kj (inN x.params gs p q).2 pr (on (hat q))).map (kv i8):=by rw[<- qP,a0I]
   rw[e9];refine hN _ _ ⟨some (.int (q:Int)),?_,?_⟩
   .rw[es,jam];rfl
   .rw[es]
 rintro Z S' ⟨y,rfl,rfl⟩;have eL:((List.range ((List.map T.str x.params).length:Int).toNat).map λ(i:Nat)=>D.int i).length=x.params.length:=by rw[jab,jaZ,jab];rfl
 rw[eL];have hG:J2 p a ns x.hd gs=((goN (inN x.params gs p x.params.length).1 a (inN x.params gs p x.params.length).2 x.needs).1,(goN (inN x.params gs p x.params.length).1 a (inN x.params gs p x.params.length).2 x.needs).2++(ns.map aT).flatten++x.gives.map λq=>.hd (q.2.put (wB ns x.answers (inN x.params gs p x.params.length).2 ns.length))):=rfl;rw[hG] at h;have hQl:=hil x.params.length;obtain⟨W6,hQm⟩:=hfw x.params.length;clear hil hfw hG;generalize inN x.params gs p x.params.length=Q at h hQl W6 hQm ⊢;have hn2:=yY Q.1 a Q.2 x.needs;have hn1:=yZ Q.1 a Q.2 x.needs;have hcn:=Kg.nd;have hcg:=Kg.gv;refine⟨trivial,bJ ?_⟩;refine cV P0 (λq=>jC (q.2.put Q.2)) trivial (ck (by omega)) (λq hq k' hk=>⟨_,M,M,_,_,M,_,_,M,M,S.length,Q.2,q.2,M,au,W6,(hcn q hq).1,(hcn q hq).2.2.2,by have:=(hcn q hq).2.1;omega,_,M,hk⟩) ?_;dsimp only;obtain⟨V,hV⟩:∃V:List wK×List eX,V=(if x.needs.length=1 then goN Q.1 a Q.2 x.needs else([],Q.1)):=⟨_,M⟩
 have hVl:V.1.length<=1/\V.2.length<=Q.1.length+1:=by
  rw[hV];split
  .exact⟨hn1,hn2⟩
  .exact⟨ja3 _,jb2 _⟩
 refine QB (λZ S'=>Z=[some (D.ob f),some (.tup (hs.map pC)),some (D.t (zN (.cl a ns x.hd gs))),some (.tup (V.2.map nH)),some (D.t (pC x)),some (D.ob S.length),y,some (D.lst (x.needs.map λq=>jC (q.2.put Q.2)))]/\S'=S.set f (.lst ((cy++V.1).map Dm))++[O.ly (Q.2.map (kv i8))]) (λNx hN=>?_) ?_
 .refine(?_);by_cases h11:x.needs.length=1
  .rw[jae h11] at hV;obtain⟨q,hqn⟩:=List.length_eq_one_iff.mp h11;have hne:x.needs≠[]:=by rw[hqn];simp
   have ea:allOf x.needs=q.2:=by rw[hqn];rfl
   refine⟨true,jah D.bl (WY (by rw[jab,h11];rfl)),oe ((by rw[hqn];exact Uz)) ⟨f,cy,Q.1,"needs",a,(allOf x.needs).put Q.2,by rw[ea],lD e0,by omega,by omega,hN _ _ ⟨?_,?_⟩⟩⟩
   .rw[hV];unfold goN;rw[jad hne];rfl
   .rw[hV];unfold goN;rw[jad hne,jb7 _ _ hjl]
  .rw[jad h11] at hV;refine⟨false,jah D.bl (Oh (by rw[jab];omega)),hN _ _ ⟨?_,?_⟩⟩
   .rw[hV];rfl
   .rw[hV,jaJ,set_same e0]
 rintro Z S' ⟨rfl,rfl⟩;have hLS:∀l,(S.set f (O.lst l)).length=S.length:=λl=>jaE;have FO:∀l m,(S.set f (O.lst l)++[O.ly m])[S.length]?=some (O.ly m):=λl m=>by rw[<- hLS l];exact au
 have WZ:∀l m m',(S.set f (O.lst l)++[O.ly m]).set S.length (O.ly m')=S.set f (O.lst l)++[O.ly m']:=λl m m'=>by rw[<- hLS l];exact cP
 refine QB (λZ S'=>Z=[some (D.ob f),some (.tup (hs.map pC)),some (D.t (zN (.cl a ns x.hd gs))),some (.tup ((goN Q.1 a Q.2 x.needs).2.map nH)),some (D.t (pC x)),some (D.ob S.length),y,some (D.lst (x.needs.map λq=>jC (q.2.put Q.2)))]/\S'=S.set f (.lst ((cy++(goN Q.1 a Q.2 x.needs).1).map Dm))++[O.ly (Q.2.map (kv i8))]) (λNx hN=>?_) ?_
 .refine(?_);by_cases h12:1<x.needs.length
  .rw[jad (by omega)] at hV;have hne:x.needs≠[]:=λe=>by rw[e] at h12;simp at h12
   have ec:jC ((allOf x.needs).put Q.2)=.tup ([T.str "and"]++x.needs.map λq=>jC (q.2.put Q.2)):=by
    unfold allOf;rw[jad (by omega),aI.put,iS,oW,jaN,jaN];rfl
   subst hV;refine⟨true,jah D.bl (jaF (by rw[jab];omega)),ck (by simp only[jab,jaj,jaT];omega),f,cy,Q.1,"needs",a,(allOf x.needs).put Q.2,by rw[ec],?_,by omega,by omega,hN _ _ ⟨?_,?_⟩⟩
   .rw[jaJ];exact lD (jaG hjl)
   .unfold goN;rw[jad hne];rfl
   .unfold goN;rw[jad hne,jb7 _ _ (by rw[jaE];exact hjl),jaC]
  .refine⟨false,jah D.bl (jat (by rw[jab];omega)),hN _ _ ?_⟩;have eV:V=goN Q.1 a Q.2 x.needs:=by
    rw[hV];by_cases h11:x.needs.length=1
    .rw[jae h11]
    .rw[jad h11];have:x.needs=[]:=jbu.mp (by omega);unfold goN;rw[jae this]
   rw[eV];exact⟨M,M⟩
 rintro Z S' ⟨rfl,rfl⟩;clear hV hVl;generalize goN Q.1 a Q.2 x.needs=W at h hn1 hn2 ⊢;have Ot:=Iu (ns:=ns) (DF:=x.answers) W6;have hr1:=fG ns;have hlw:∀y∈ns,y.length<=100/\∃c r,y.cps.toList=c::r:=λy hy=>Hg (ok.nm y hy);refine⟨ns,M,al2,hlw,ck (by simp only[jab];omega),?_⟩;rw[<- jam];refine⟨_,M,by rw[jab];omega,by rw[jab];omega,?_⟩;refine nV (λq Z S'=>∃y,Z=[some (D.ob f),some (.tup (hs.map pC)),some (D.t (zN (.cl a ns x.hd gs))),some (.tup ((W.2++(ns.map aT).flatten).map nH)),some (D.t (pC x)),some (D.ob S.length),y,some (D.lst (x.needs.map λq=>jC (q.2.put Q.2)))]/\S'=S.set f (.lst ((cy++W.1).map Dm))++[O.ly ((wB ns x.answers Q.2 q).map (kv i8))]) ⟨_,M,M⟩ ?_ ?_
 .rintro q it Z S' Nx hit ⟨y,rfl,rfl⟩ hN;have eR:((List.map T.str ns).length:Int).toNat=ns.length:=by rw[jab];rfl
  have hq:q<ns.length:=by
   have:=(jao.mp hit).1;rw[jab,jaZ] at this;omega
  obtain⟨nm,hnm⟩:∃pr,ns[q]?=some pr:=⟨_,jaD hq⟩
  obtain⟨an,han⟩:∃g,x.answers[q]?=some g:=⟨_,jaD (by omega)⟩
  have HU:it=D.int (q:Int):=by
   rw[jaA,jb8 (by omega)] at hit;cases hit;rfl
  subst HU;have hni:mO (ns.map T.str) (q:Int)=some (T.str nm):=iU (by rw[jaA,hnm];rfl);have hai:mO (x.answers.map T.str) (q:Int)=some (T.str an):=iU (by rw[jaA,han];rfl);refine⟨trivial,oe hni ⟨nm,M,oe hai ⟨_,_,_,_,M,FO _ _,M,M,vS (by rw[jab];have:=(Ot q).2;omega),?_⟩⟩⟩;rw[WZ];have e9:dput ((wB ns x.answers Q.2 q).map (kv i8)) (.inr an) (i8 (on nm))=(wB ns x.answers Q.2 (q+1)).map (kv i8):=by rw[UA hnm han];exact(qP ..).symm
  rw[e9];exact hN _ _ ⟨_,M,M⟩
 rintro Z S' ⟨y,rfl,rfl⟩;have eL2:((List.range ((List.map T.str ns).length:Int).toNat).map λ(i:Nat)=>D.int i).length=ns.length:=by rw[jab,jaZ,jab];rfl
 rw[eL2];obtain⟨hA1,hA2⟩:=Ot ns.length;refine⟨trivial,bJ ?_⟩;refine cV P0 (λq=>nH (.hd (q.2.put (wB ns x.answers Q.2 ns.length)))) trivial (ck (by omega)) (λq hq k' hk=>⟨_,M,M,_,_,M,_,_,M,M,S.length,wB ns x.answers Q.2 ns.length,q.2,M,FO _ _,hA1,(hcg q hq).1,(hcg q hq).2.2.2,by have:=(hcg q hq).2.1;omega,_,M,hk⟩) ⟨ck (by simp only[jab,jaf];omega),Uv (S0:=S) hc ?_⟩;rw[jam,jaN] at h;exact h
abbrev sZ:Stmt:=top 80
theorem uP:aj ["_law_draw","_law_own","_law_helper_here","_law_at","_law_given","_law_param"] ["_law_draw","_law_own","_law_helper_here","_law_at"] (aa sZ):=bW
seal aG in
theorem Lc (J:Fx K mg A)(WI:PB P w K mg base k A)(dP:gc P w K mg base k A)(av:cG P w K mg base k)(dQ:lH P w K mg base k A)(F:bG K "_law_call" "_law_call" sZ f fd):az P w K mg base bz (k+1) f fd ["_law_draw","_law_own","_law_helper_here","_law_at"] (aQ K (Jj A)):=by
 refine aP F uP λAT B outer s H E hr=>?_;rw[show ai sZ=[_,_,_] from rfl];refine⟨_,(qs (aq (i:=4) uP.nd (gI af)) (qs (aZ jay rfl (qi q_r) (qg (i:=5) uP.nd) (aO (aR (aE (cU 40 (uE hr)) q_r aX (aF _)) (aO (gk (oq q_r (qa (ah dP hr rfl (qa (cz (qa (bx (qa (bh aS aX (oV q_r (ah av hr rfl (qa q_r (qa (aU eO (by rfl) J.eS jaQ ak) af))))) ak)) af)) ak)) af)))) (aO (gk (oq q_r (qa (ah dQ hr rfl ak) af))))))) (aO (ao (fz WI hr rfl (qa q_r (qa (rJ false q_r nK (bT (aU eO (by rfl) J.eS jaQ ak))) ak))))))),λds S kk hc hd h=>?_⟩;obtain⟨d,ns,N,ms,us,jcN,h0,a,rfl,dq,ok,h4,g,hal,h⟩:=h;have hlt:=dq.lt;obtain⟨c0,m0,e0⟩:=dq.self;obtain⟨p1,p2,p3,p4,p5⟩:=g.ok.pl;have hup:0<us.length:=jbO.mpr ok.u.1;have D5:N.length<=100:=by have:=ok.nN.1;omega
 refine(bJ (dF T.str (λpre Z S'=>∃y c m,∃gs:List Sm,Z=[some (D.ob d),some (D.t (.tup [jW ns,jW N,jW ms,jW us])),some (D.t (pB A h0)),some (.int a),some (D.ob (S.length+0)),y]/\S'=bX S d c m++[O.lst (gs.map (cY A))]/\gs.length=pre.length/\∀s∈gs,l5 N s) ⟨none,c0,m0,[],M,by rw[<- e0];rfl,M,λ_ h=>absurd h jaI⟩ ?_ ?_))
 .rintro pre pr post Z S' Nx e ⟨y,c,m,gs,rfl,rfl,hgl,hgs⟩ hN;have Sf:pr∈h0.params:=by rw[e];simp
  have hpre:pre.length<=8:=by rw[e,jaf] at p1;omega
  have hp1:=g.ok.sh pr Sf;obtain⟨cc,rr,hp2⟩:=g.ne pr Sf;have fin:∀(s:Sm)(c m:Int),l5 N s->(bX S d c m++[O.lst (gs.map (cY A))]).set (S.length+0) (O.lst (gs.map (cY A)++[cY A s]))=bX S d c m++[O.lst ((gs++[s]).map (cY A))]:=λs c m _=>by
   rw[<- ay (S:=S) (d:=d) (c:=c) (m:=m),cB,jam];rfl
  have nx:∀(s:Sm)(c m:Int),l5 N s->Nx [some (D.ob d),some (D.t (.tup [jW ns,jW N,jW ms,jW us])),some (D.t (pB A h0)),some (.int a),some (D.ob (S.length+0)),some (.str pr)] (bX S d c m++[O.lst ((gs++[s]).map (cY A))]):=λs c m hs=>hN _ _ ⟨_,c,m,gs++[s],M,M,by rw[jaf,jaf,hgl];rfl,λt ht=>by
   rcases jau.mp ht with q | q
   .exact hgs t q
   .rw[jai.mp q];exact hs⟩
  refine⟨trivial,ck (by omega),cc,by rw[hp2];exact Uz,?_⟩;by_cases L7:cc=35
  .refine⟨true,jah D.bl (seq (mF.mpr L7)),⟨M,_,fH (bg ay)⟩,d,_,M,dq.bX.up,by rw[jab];omega,λr2 c2 m2 hr2=>?_⟩;rw[bE (by rw[ay];exact hlt),bV];rw[jab] at hr2;obtain⟨u,hu,eu⟩:=pO hr2;have hul:=(ok.um u hu).1;refine(oe eu ⟨ck (by show 1+_<=1000;omega),_,[(hsh u,1)],0,M,M,by show 1<64;decide,_,bg ay,vS (by rw[jab];omega),?_⟩);have hs:=Va (ok.um u hu).2;rw[fin _ _ _ hs];exact nx _ _ _ hs
  .refine⟨false,jah D.bl (dS λz=>L7 (mF.mp z)),⟨M,_,fH (bg ay)⟩,d,_,N,M,dq.bX.up,M,D5,λs c m hs=>?_⟩;rw[bE (by rw[ay];exact hlt),bV];refine⟨_,bg ay,vS (by rw[jab];omega),?_⟩;rw[fin _ _ _ hs];exact nx _ _ _ hs
 rintro Z S' ⟨y,c,m,gs,rfl,rfl,hgl,hgs⟩;refine⟨trivial,_,M,?_⟩;rw[jad jaL,jab,O0];have hst:gR N (.cl a (ns.take h0.answers.length) h0.hd gs):=g.call (by rw[jby];omega) (λx hx=>ok.nm x (jcr hx)) (by rw[hgl]) hgs;exact⟨_,a,_,_,ns.take h0.answers.length,h0.name,gs,M,au,M,qY (tM (fH (bg (q:=0) ay))),made (F0 hc (h _ _ _ _ hst))⟩
abbrev sV:Stmt:=top 79
theorem uO:aj ["_law_draw","_law_own","_law_deep","_law_helpers","_law_at","_law_kind"] ["_law_draw","_law_own","_law_deep","_law_helpers"] (aa sV):=bW
seal aG in
theorem K8 (J:Fx K mg A)(Im:DL P w K mg base k A)(rX:uq P w K mg base k A)(av:cG P w K mg base k)(F:bG K "_law_step" "_law_step" sV f fd):az P w K mg base bz (k+1) f fd ["_law_draw","_law_own","_law_deep","_law_helpers"] (aQ K (Jf A)):=by
 refine aP F uO λAT B outer s H E hr=>?_;rw[show ai sV=[_,_,_,_] from rfl];refine⟨_,(qs (aq (i:=4) uO.nd q_r) (qs (aq (i:=5) uO.nd (ah av hr rfl ak)) (qs (aR (qw (M9 (aE (cU 40 (uE hr)) q_r aH (aF _)) (Jy (aE (Ff 40 (uE hr)) q_r (cz af) (aF _))))) (aO (ao (ah rX hr rfl (qa q_r (qa q_r (qa (oV q_r (ah av hr rfl (qa q_r (qa (aU eO (by rfl) J.eS jaQ ak) af)))) ak)))))) aD) (aO (ao (ah Im hr rfl ak)))))),λds S kk hc hd h=>?_⟩;obtain⟨d,ns,N,ms,us,x,hs,rfl,dq,ok,h4,hok,h⟩:=h;obtain⟨c0,m0,e0⟩:=id dq;refine(oe (jL e0) ⟨d,7,M,dq,by first | decide | omega,λr1 Xp Wm hr1=>?_⟩);have line:∀c m,Td (uG (BY A) (oO (vB 0) (oO (vB 1) vD))) (endsF S kk) [some (D.ob d),some (D.t (.tup [jW ns,jW N,jW ms,jW us])),some x,some (D.lst (hs.map (pB A))),some (.int m0),some (.int r1)] (bX S d c m):=λc m=>by
  refine⟨d,ns,N,ms,us,M,dq.bX,ok,λs c m hs hk=>?_⟩;rw[bV];exact mL (h s c m hs (T8 hk))
 by_cases h2:r1=2
 .by_cases hh:hs=[]
  .exact⟨true,iT,_,[],M,M,.inr ⟨M,false,jah D.bl (JM hh),line _ _⟩⟩
  .have hpos:0<hs.length:=jbO.mpr hh;refine⟨true,iT,_,[],M,M,.inr ⟨M,true,jah D.bl (Ft hh),d,_,M,dq.bX,by rw[jab];omega,λr2 c2 m2 hr2=>?_⟩⟩;rw[bV];rw[jab] at hr2;obtain⟨y,hy,ey⟩:=Uy (f:=pB A) hr2;obtain⟨jcN,gy⟩:=hok.g y hy;refine(oe ey ⟨d,ns,N,ms,us,jcN,y,m0,M,dq.bX,ok,h4,gy,gy.al,λms gs c m hst=>?_⟩);rw[bV];exact mL (h _ _ _ hst λa ns g gs e=>by cases e;exact⟨y,hy,M⟩)
 .exact⟨false,iF,line _ _⟩
abbrev kG:Stmt:=top 82
theorem d7:aj ["_law_draw","_law_many","_law_deep","_law_most","_law_helpers","_law_names_here","_law_alike","_law_k","_law_size"] ["_law_draw","_law_many","_law_deep","_law_most"] (aa kG):=bW
seal aG in
theorem CM (J:Fx K mg A)(Lq:Gq P w K mg base k A)(av:cG P w K mg base k)(DA:zE P w K mg base k A)(vO:AG P w K mg base k)(F:bG K "_law_program" "_law_program" kG f fd):az P w K mg base bz (k+1) f fd ["_law_draw","_law_many","_law_deep","_law_most"] (aQ K (Jh A)):=by
 refine aP F d7 λAT B outer s H E hr=>?_;rw[show ai kG=[_,_,_,_,_] from rfl];refine⟨_,(qs (aq (i:=4) d7.nd (gI af)) (qs (aq (i:=5) d7.nd (ah vO hr rfl ak)) (qs (aq (i:=6) d7.nd (ER (cU 40 (uE hr)) (ah av hr rfl ak) aH (aF _))) (qs (aZ jay rfl (nL rfl J.jD (qa (bh aS aH (ah av hr rfl ak)) af)) (qg (i:=7) d7.nd) (qs (aR (G8 (fu q_r)) (aO (aq (i:=5) d7.nd (ah vO hr rfl ak))) aD) (qs (aq (i:=8) d7.nd (ah av hr rfl ak)) (aO (gk (oq q_r (qa (ah DA hr rfl (qa q_r (qa (oV (cz ak) q_r) (qa q_r (qa q_r (qa (aK Ik (by rfl) J.zq boot_list ak) ak)))))) af))))))) (aO (ao (fz Lq hr rfl ak))))))),λds S kk hc hd h=>?_⟩;obtain⟨d,rfl,dq,h⟩:=h;have hlt:=dq.lt;refine⟨d,M,dq.up,λns c m hn hw=>?_⟩;rw[bE hlt];refine⟨d,2,M,dq.bX.up,by first | decide | omega,λr1 Xp Wm hr1=>?_⟩;rw[bE (by rw[ay];exact hlt),bV];obtain⟨al,hal⟩:∃al,xor false (decide (V.int (r1:Int)=V.int 0))=al:=⟨_,M⟩
 refine⟨d,3,M,dq.bX.up,by decide,λr2 c2 m2 hr2=>?_⟩;rw[bE (by rw[ay];exact hlt),bV];refine⟨_,M,by omega,by omega,?_⟩;have eR:(1+(r2:Int)).toNat=r2+1:=by omega
 rw[eR];refine nV (λi Z S'=>∃y z c m,∃(ns:jcR)(hs:List eK),Z=[some (D.ob d),some (D.int 3),some (D.int 1),some (D.int 3),some (D.ob (S.length+0)),some (D.t (jW ns)),some (D.bl al),y,z]/\S'=bX S d c m++[O.lst (hs.map (pB A))]/\hs.length=i/\ns.length=8/\(∀x∈ns,kq x)/\P5 hs) ⟨none,none,c2,m2,ns,[],by rw[<- hal];rfl,M,M,hn,hw,.nil⟩ ?_ ?_
 .clear hn hw;rintro i it Z S' Nx hit ⟨y,z,c,m,ns,hs,rfl,rfl,hl,hn,hw,pg⟩ hN;have hi:i<r2+1:=by
   have:=(jao.mp hit).1;rw[jab,jaZ] at this;exact this
  have HU:it=D.int (i:Int):=by
   rw[jaA,jb8 hi] at hit;cases hit;rfl
  subst HU;refine⟨trivial,?_⟩;dsimp only[Sj];refine QB (λZ S'=>∃c m,∃ns:jcR,Z=[some (D.ob d),some (D.int 3),some (D.int 1),some (D.int 3),some (D.ob (S.length+0)),some (D.t (jW ns)),some (D.bl al),some (D.int (i:Int)),z]/\S'=bX S d c m++[O.lst (hs.map (pB A))]/\ns.length=8/\∀x∈ns,kq x) (λN hN=>?_) ?_
  .refine⟨al,M,?_⟩;cases al with
   |true=>exact hN _ _ ⟨c,m,ns,M,M,hn,hw⟩
   |false=>
    refine⟨d,M,dq.bX.up,λns c m hn hw=>?_⟩;rw[bE (by rw[ay];exact hlt),bV];exact hN _ _ ⟨c,m,ns,M,M,hn,hw⟩
  clear hn hw;rintro Z S' ⟨c,m,ns,rfl,rfl,hn,hw⟩;refine⟨d,_,M,dq.bX.up,by decide,λr3 c3 m3 sH=>?_⟩;rw[bE (by rw[ay];exact hlt),bV];refine⟨⟨M,_,fH (bg ay)⟩,oe (a0G (by omega)) (oe (jL (bg ay)) ⟨d,ns,r3,XT i,_,hs,M,dq.bX.up,by omega,hn,hw,pg.hs (by omega),λh N c m g hnm hof=>?_⟩)⟩;rw[bE (by rw[ay];exact hlt),bV];refine⟨_,bg ay,vS (by rw[jab];omega),?_⟩;have e2:(bX S d c m++[O.lst (hs.map (pB A))]).set (S.length+0) (O.lst (hs.map (pB A)++[pB A h]))=bX S d c m++[O.lst ((hs++[h]).map (pB A))]:=by
   rw[<- ay (S:=S) (d:=d) (c:=c) (m:=m),cB,jam];rfl
  rw[e2];exact hN _ _ ⟨_,_,_,_,_,_,M,M,by rw[jaf,hl];rfl,hn,hw,pg.snoc (by rw[hnm,hl]) g hof⟩
 rintro Z S' ⟨y,z,c,m,ns,hs,rfl,rfl,hl,_,_,pg⟩;rw[jab,jaZ] at hl;exact⟨trivial,_,_,hs,M,au,qY (tM (fH (bg (q:=0) ay))),made (F0 hc (h hs c m (pg.ok (by omega) (by omega))))⟩
end
end L3
namespace Hw
open PySem L2 PyProof.Rows
theorem Sk {K:Frag}{x qual:Str}{st:Stmt}{f:Addr}{oc:Value}{od an:jcV}{osl:jcQ}{kV doc pm AT ct:Value}{A:Arguments}{B:List Stmt}{S:Scope}(l:K.lookup f=some ⟨oc,od,.func (fnOf x qual A B S .none kV doc pm an AT ct),osl⟩)(e:(A,B,S)=(ff st,ai st,aa st))(c:codeIn K AT qual=true)(k:keepIn K (.ref f)=true):bG K x qual st f (fnOf x qual (ff st) (ai st) (aa st) .none kV doc pm an AT ct):=by
 obtain⟨e1,e2⟩:=Prod.mk.inj e;obtain⟨e2,e3⟩:=Prod.mk.inj e2;rw[e1,e2,e3] at l;exact Xa l c k
noncomputable def zv:jcR->(Nat->Value)->jcS
 |[],_=>[]
 |_::r,g=>g 0::zv r λn=>g (n+1)
theorem Yj (ps:jcR):∀us:jcS,us.length=ps.length->∃g,us=zv ps g:=by
 induction ps with
 |nil=>exact λus h=>⟨λ_=>.none,jcM h⟩
 |cons p ps ih=>
  intro us h;cases us with
  |nil=>cases h
  |cons a r=>
   obtain⟨g,e⟩:=ih r (Nat.succ.inj h);exact⟨λn=>n.casesOn a λm=>g m,by rw[e];rfl⟩
theorem _root_.L2.bG.bb {K:Frag}{x qual:Str}{st:Stmt}{f:Addr}{fd:FuncData}{ps:jcR}(F:bG K x qual st f fd)(h:autoParam (∀(kV doc pm:Value)(an:jcV)(AT ct:Value)(g:Nat->Value),bindArgs (fnOf x qual (ff st) (ai st) (aa st) .none kV doc pm an AT ct) ⟨zv ps g,[]⟩=pure (ps.zip (zv ps g))) jp):Binds K fd ps []:=F.binds λkV doc pm an AT ct us e=>by
 obtain⟨g,rfl⟩:=Yj ps us e;exact h kV doc pm an AT ct g
end Hw
namespace L3
open PySem L2 Hw
theorem PR.ok {K:Frag}{C:Addr}(q:PR K C)(cg:specialIn K (.builtin "object.__class__") "__get__"=some (some (.builtin "getset_descriptor.__get__")))(ct:takesIn K (.builtin "object.__class__")=some true):zM K C []:=⟨⟨q.pg,q.hd,q.po,q.sa⟩,λ_ h=>absurd h jaI,q.ca,cg,ct,q.cm⟩
def FnAt (K:Frag)(f:Addr)(x qual:Str)(st:Stmt):Prop:=∃fd,bG K x qual st f fd/\keepIn K (.ref f)=true
def Fa (K:Frag)(x:Str)(s:Stmt):Prop:=∃f,nsIn K mainGlobals x=some (some (.ref f))/\FnAt K f x x s
def Fm (K:Frag)(C:Addr)(m q:Str)(s:Stmt):Prop:=∃f,findIn K (.ref C) m=some (some (.ref f))/\isFn K (.ref f)=true/\FnAt K f m q s
def Fas (K:Frag):List (Str×Stmt)->Prop
 |[]=>True
 |(x,s)::r=>Fa K x s/\Fas K r
def Fms (K:Frag):List (Addr×Str×Str×Stmt)->Prop
 |[]=>True
 |(C,m,q,s)::r=>Fm K C m q s/\Fms K r
def Css (K:Frag):List (Str×Addr×jcR)->Prop
 |[]=>True
 |(x,C,fs)::r=>(nsIn K mainGlobals x=some (some (.ref C))/\PR K C/\Nfs K C fs)/\Css K r
def Nzs (K:Frag):jcR->Prop
 |[]=>True
 |x::r=>nsIn K mainGlobals x=some none/\Nzs K r
def Kr (K:Frag)(a:Addr)(j:Nat):jcT->Nat->Prop
 |[],_=>True
 |b::r,i=>kitOne K (.ref a) (.ref b)=some (decide (j=i))/\Kr K a j r (i+1)
def Kt (K:Frag)(bs:jcT):jcT->Nat->Prop
 |[],_=>True
 |a::r,j=>Kr K a j bs 0/\Kt K bs r (j+1)
theorem Kr.at {K:Frag}{a:Addr}{j:Nat}:∀{l:jcT}{i:Nat},Kr K a j l i->∀{n:Nat}{b:Addr},l[n]?=some b->kitOne K (.ref a) (.ref b)=some (decide (j=i+n))
 |_::_,_,h,0,_,e=>by cases e;exact h.1
 |_::_,i,h,n+1,b,e=>by have:=h.2.at (n:=n) (b:=b) e;rwa[Nat.add_assoc,Nat.add_comm 1 n] at this
theorem Kt.at {K:Frag}{bs:jcT}:∀{l:jcT}{j:Nat},Kt K bs l j->∀{n m:Nat}{a b:Addr},l[n]?=some a->bs[m]?=some b->kitOne K (.ref a) (.ref b)=some (decide (j+n=m))
 |_::_,_,h,0,m,_,b,e,f=>by cases e;have:=h.1.at f;rwa[jbi] at this
 |_::_,j,h,n+1,m,a,b,e,f=>by have:=h.2.at (n:=n) e f;rwa[Nat.add_assoc,Nat.add_comm 1 n] at this
theorem Fas.at {K:Frag}:∀{l:List (Str×Stmt)},Fas K l->∀(n:Nat){x:Str}{s:Stmt},l[n]?=some (x,s)->Fa K x s
 |_::_,h,0,_,_,e=>by cases e;exact h.1
 |_::_,h,n+1,_,_,e=>Fas.at h.2 n e
theorem Fms.at {K:Frag}:∀{l:List (Addr×Str×Str×Stmt)},Fms K l->∀(n:Nat){C:Addr}{m q:Str}{s:Stmt},l[n]?=some (C,m,q,s)->Fm K C m q s
 |_::_,h,0,_,_,_,_,e=>by cases e;exact h.1
 |_::_,h,n+1,_,_,_,_,e=>Fms.at h.2 n e
theorem Css.ok {K:Frag}{mg:Str->jcW}(jcN:∀(x:Str)(a:Addr),nsIn K mainGlobals x=some (some (.ref a))->mg x=some (.ref a))(cg:specialIn K (.builtin "object.__class__") "__get__"=some (some (.builtin "getset_descriptor.__get__")))(ct:takesIn K (.builtin "object.__class__")=some true){x:Str}{C:Addr}{fs:jcR}(h:nsIn K mainGlobals x=some (some (.ref C))/\PR K C/\Nfs K C fs):Kc K mg x C fs:=⟨jcN _ _ h.1,h.2.1,h.2.1.ok cg ct,h.2.2⟩
section
variable {P:Program}{w:World}{K:Frag}{mg:Str->jcW}{base:Heap}{k:Nat}{f:Addr}{fd:FuncData}{ps:jcR}{sp U9:rZ}{A:Ad}
theorem Xc {s s':Sp}(h:∀vs H Q E,s' vs H Q E->s vs H Q E)(F:az P w K mg base bz k f fd ps s):az P w K mg base bz k f fd ps s':=
 ⟨λvs H Q E q=>F.len vs H Q E (h vs H Q E q),λA outer s H args us vs Q E hr he hb hv q=>F.run A outer s H args us vs Q E hr he hb hv (h _ _ _ _ q)⟩
theorem gO {s':Sp}(h:∀vs H Q E,s' vs H Q E->aQ K sp vs H Q E)(F:az P w K mg base bz k f fd ps (aQ K sp)):az P w K mg base bz k f fd ps s':=Xc h F
theorem dY (h:∀ds S k,¬ sp ds S k):az P w K mg base bz k f fd ps (aQ K sp):=
 ⟨(by rintro vs H Q E ⟨_,S,ds,kk,_,_,q,_⟩;exact(h ds S kk q).elim),(by rintro A outer s H args us vs Q E hr he hb hv ⟨_,S,ds,kk,_,_,q,_⟩;exact(h ds S kk q).elim)⟩
theorem HL (h:∀ds S k,U9 ds S k->sp ds S k):∀vs H Q E,aQ K U9 vs H Q E->aQ K sp vs H Q E:=(by rintro vs H Q E ⟨Y,S,ds,kk,R,r,q,hk⟩;exact⟨Y,S,ds,kk,R,r,h ds S kk q,hk⟩)
theorem _root_.Hw.Dn.u {x:Str}{j:Nat}{s:Sp}(h:Dn P w K mg base j x ps s)(l:autoParam (j<=k) zn):Dn P w K mg base k x ps s:=Dn.up h l
theorem Ms.u {n j:Nat}{m:Str}{cl:Nat->Addr}{s:Nat->rZ}(h:Ms P w K mg base j n cl m ps s)(l:autoParam (j<=k) zn):Ms P w K mg base k n cl m ps s:=Ms.up h l
theorem vR.u {x:Str}{C:Addr}{j:Nat}(h:vR P w K mg base j C x ps sp)(l:autoParam (j<=k) zn):vR P w K mg base k C x ps sp:=vR.up h l
theorem dA {x:Str}{st:Stmt}{s:Sp}(J:Fx K mg A)(l:Fa K x st)(o:∀{f:Addr}{fd:FuncData},bG K x x st f fd->az P w K mg base bz k f fd ps s)(b:autoParam (∀(kV doc pm:Value)(an:jcV)(AT ct:Value)(g:Nat->Value),bindArgs (fnOf x x (ff st) (ai st) (aa st) .none kV doc pm an AT ct) ⟨Hw.zv ps g,[]⟩=pure (ps.zip (Hw.zv ps g))) jp):Dn P w K mg base k x ps s:=by
 obtain⟨f,a,fd,F,kp⟩:=l;exact⟨f,fd,o F,J.gl _ _ a,kp,F.bb b⟩
theorem mA {C:Addr}{m q:Str}{st:Stmt}{s:Sp}(l:Fm K C m q st)(o:∀{f:Addr}{fd:FuncData},bG K m q st f fd->az P w K mg base bz k f fd ps s)(b:autoParam (∀(kV doc pm:Value)(an:jcV)(AT ct:Value)(g:Nat->Value),bindArgs (fnOf m q (ff st) (ai st) (aa st) .none kV doc pm an AT ct) ⟨Hw.zv ps g,[]⟩=pure (ps.zip (Hw.zv ps g))) jp):Mt P w K mg base k C m ps s:=by
 obtain⟨f,a,i,fd,F,kp⟩:=l;exact mtM (o F) a i kp (F.bb b)
theorem m1 {C:Addr}{m q:Str}{st:Stmt}{s:rZ}(l:Fm K C m q st)(o:∀{f:Addr}{fd:FuncData},bG K m q st f fd->az P w K mg base bz k f fd ps (aQ K s))(b:autoParam (∀(kV doc pm:Value)(an:jcV)(AT ct:Value)(g:Nat->Value),bindArgs (fnOf m q (ff st) (ai st) (aa st) .none kV doc pm an AT ct) ⟨Hw.zv ps g,[]⟩=pure (ps.zip (Hw.zv ps g))) jp):Ms P w K mg base k 1 (λ_=>C) m ps (λ_=>s):=λj hj=>mA l o b
theorem kA {C:Addr}{x q:Str}{fs:jcR}{st:Stmt}{s:rZ}(c:Kc K mg x C fs)(l:Fm K C "__init__" q st)(o:∀{f:Addr}{fd:FuncData},bG K "__init__" q st f fd->az P w K mg base bz k f fd ps (aQ K s))(b:autoParam (∀(kV doc pm:Value)(an:jcV)(AT ct:Value)(g:Nat->Value),bindArgs (fnOf "__init__" q (ff st) (ai st) (aa st) .none kV doc pm an AT ct) ⟨Hw.zv ps g,[]⟩=pure (ps.zip (Hw.zv ps g))) jp):vR P w K mg base (k+1) C x ps s:=by
 obtain⟨f,a,i,fd,F,kp⟩:=l;exact⟨k,jcd k,mrM (o F) c.q.mi a i c.q.kc (F.bb b),c.k,c.g⟩
theorem Cm.up {x m:Str}{j:Nat}(h:Cm P w K mg base j x m ps sp)(l:j<=k):Cm P w K mg base k x m ps sp:=let⟨C,f,fd,F,a⟩:=h.ok;⟨⟨C,f,fd,F.mono l,a⟩⟩
theorem Cm.u {x m:Str}{j:Nat}(h:Cm P w K mg base j x m ps sp)(l:autoParam (j<=k) zn):Cm P w K mg base k x m ps sp:=Cm.up h l
theorem NV:∀ds S k,¬ KP ds S k:=λ_ _ _ h=>h
theorem tK (j:Nat):∀ds S k,¬ fO A 0 j ds S k:=λ_ _ _ h=>by cases h;omega
theorem xw (j:Nat):∀ds S k,¬ mR A 0 j ds S k:=λ_ _ _ h=>by cases h;omega
theorem Wg:∀ds S k,¬ Ek 0 ds S k:=λ_ _ _ h=>by cases h;omega
theorem xu (j:Nat):∀ds S k,¬ lM A 0 j ds S k:=λ_ _ _ h=>by cases h;omega
theorem RG:∀ds S k,¬ xU 0 ds S k:=λ_ _ _ h=>by cases h;omega
theorem Mh {n j q:Nat}{x y:T}(h:Tx A n q x y j)(hj:j<7):1<=q/\∃s:aV,x=jJ A s/\y=zN s/\kd s=j/\s.tk n:=by
 cases h with
 |s s h hq=>exact⟨hq,s,M,M,M,h⟩
 |h x hx hq=>omega
 |m s=>omega
theorem rN {n j:Nat}(hj:j<7):∀ds S k,¬ jk A n 0 j ds S k:=(by rintro ds S k ⟨x,y,e,tx,h⟩;exact absurd (Mh tx hj).1 (by decide))
theorem sN {n j q:Nat}(hj:j<7):∀vs H Q E,aQ K (jk A n q j) vs H Q E->aQ K (ku A n j) vs H Q E:=HL (by
 rintro ds S k ⟨x,y,e,tx,h⟩;obtain⟨_,s,rfl,rfl,h1,h2⟩:=Mh tx hj;exact⟨s,e,h1,h2,h⟩)
theorem IT {n j q:Nat}{x y:T}(h:Tx A n q x y j)(hj:j=7):2<=q/\∃a:eK,x=pB A a/\y=pC a/\Yh n a:=by
 cases h with
 |s s h=>have:=qZ s;omega
 |h x hx hq=>exact⟨hq,x,M,M,hx⟩
 |m s=>cases hj
theorem NU {n q:Nat}(hq:q<2):∀ds S k,¬ jk A n q 7 ds S k:=λds S k ⟨x,y,e,tx,h⟩=>by have:=(IT tx M).1;omega
theorem a1G {n q:Nat}:∀vs H Q E,aQ K (jk A n q 7) vs H Q E->aQ K (xW A n) vs H Q E:=HL (by
 rintro ds S k ⟨x,y,e,tx,h⟩;obtain⟨_,a,rfl,rfl,h2⟩:=IT tx rfl;exact⟨a,e,h2,h⟩)
theorem Qh {n j q:Nat}{x y:T}(h:Tx A n q x y j)(hj:j=8):∃a:Sm,x=cY A a/\y=i8 a:=by
 cases h with
 |s s h=>have:=qZ s;omega
 |h x hx hq=>cases hj
 |m s=>exact⟨s,M,M⟩
theorem UW {n q:Nat}:∀vs H Q E,aQ K (jk A n q 8) vs H Q E->aQ K (BW A) vs H Q E:=HL (by
 rintro ds S k ⟨x,y,e,tx,h⟩;obtain⟨a,rfl,rfl⟩:=Qh tx rfl;exact⟨a,e,h⟩)
theorem bK.ofInts {G:Hp}:∀ns:List Int,bK K G (ns.map T.int) (ns.map V.int)
 |[]=>bK.nil
 |a::r=>bK.cons (by unfold Rp;rfl) (bK.ofInts r)
theorem Wz:∀vs H Q E,Je K vs H Q E->aQ K MI vs H Q E:=(by
 rintro vs H Q E ⟨a,ns,e,hs,_,h⟩;refine⟨[],[],[.t (.GY (ns.map T.int))],λd _=>d=.bl true,⟨M,.nil,λn a o h=>by cases h⟩,?_,⟨ns,M,M,λ_=>rfl⟩,λv H' u=>?_⟩
 .rw[e];refine .cons ?_ .nil;show Rp _ _ _ _;unfold Rp;rw[QJ];exact⟨a,_,M,hs,bK.ofInts ns⟩
 .obtain⟨Y',S',d,_,_,r,rfl⟩:=u;rw[bq r];exact h H')
end
theorem a2x {K:Frag}{A:Ad}(h:Kt K [A.lY,A.bZ,A.dz,A.nZ,A.fK,A.cW,A.fL,A.fV,A.fT] [A.lY,A.bZ,A.dz,A.nZ,A.fK,A.cW,A.fL] 0):∀j i,j<7->i<9->kitOne K (.ref (xD A j)) (.ref (xD A i))=some (decide (j=i)):=λj i hj hi=>by
 have e:∀i,i<9->[A.lY,A.bZ,A.dz,A.nZ,A.fK,A.cW,A.fL,A.fV,A.fT][i]?=some (xD A i):=λi hi=>by
  match i,hi with
  |0,_ | 1,_ | 2,_ | 3,_ | 4,_ | 5,_ | 6,_ | 7,_ | 8,_=>rfl
 have f:∀i,i<7->[A.lY,A.bZ,A.dz,A.nZ,A.fK,A.cW,A.fL][i]?=some (xD A i):=λi hi=>by
  match i,hi with
  |0,_ | 1,_ | 2,_ | 3,_ | 4,_ | 5,_ | 6,_=>rfl
 have:=h.at (f j hj) (e i hi);rwa[jbi] at this
end L3
namespace Hw
open PySem L2 PyProof.Rows
open PySem.W (findIn keepIn fnOf codeIn kitOne nsIn mg_of isFn plainGet hasDictIn plainOver makesIn mg_none_of mroIn)
theorem Ur {K:Frag}{x qual:Str}{st:Stmt}{f:Addr}{oc:Value}{od an:jcV}{osl:jcQ}{kV doc pm AT ct:Value}{A:Arguments}{B:List Stmt}{S:Scope}(l:K.lookup f=some ⟨oc,od,.func (fnOf x qual A B S .none kV doc pm an AT ct),osl⟩)(e:(A,B,S)=(ff st,ai st,aa st))(c:codeIn K AT qual=true)(k:keepIn K (.ref f)=true):L3.FnAt K f x qual st:=⟨_,Sk l e c k,k⟩
theorem all_mk {l:OpenLaw}{w:World}{K:Frag}{h:Heap}{mg:Str->jcW}{fa j6 cF dI fB jh lY bZ dz nZ fK cW fV fT fL fU dg pM ji Sp fS Xh:Addr}{tD1 tD2 tD3 tD4:Tok}(X:K.In h)(G:h.Ns mainGlobals mg)(hfa:mg "law"=some (.ref fa))
  {Zx UB:jcV} {YU:jcQ} {Zy Ug Ut T5 O7 Uu:Value} {a0Z:Arguments} {a0Y:List Stmt} {a0M:Scope}
  (hc:L3.Css K [("Sum",j6,["terms","number"]),("Compare",cF,["one","sign","other"]),("Turned",dI,["condition"]),("Every",fB,["conditions"]),("Some",jh,["conditions"]),("Let",lY,["at","name","total"]),("Divide",bZ,["at","name","word","total","by"]),("Fetch",dz,["at","name","row","place"]),("Put",nZ,["at","row","place","total"]),("Make",fK,["at","row","size"]),("Claim",cW,["at","condition"]),("Choose",fV,[]),("Repeat",fT,[]),("Call",fL,["at","names","helper","given"]),("Helper",fU,["at","name","params","answers","needs","gives","steps"]),("Program",dg,["helpers"]),("Debt",pM,["kind","at","ahead","condition"]),("Book",ji,["program","found"])])
  (HW:nsIn K mainGlobals "Step"=some (some (.ref Sp)))
  (UP:findCls K (.ref Sp) (.type "type") "__init__"=some (.val (.ref fS)))
  (UR:specialIn K (.builtin "object.__class__") "__get__"=some (some (.builtin "getset_descriptor.__get__")))
  (UQ:takesIn K (.builtin "object.__class__")=some true)
  (UO:specialIn K (.ref Sp) "__getattribute__"=some (some (.builtin "type.__getattribute__")))
  (UN:readsIn K Sp (.type "type")=true)
  (lS:L3.FnAt K fS "__init__" "Step.__init__" L3.kO)
  (ha:L3.Fas K (("once",L3.Cu)::("sum_of",L3.sU)::("length_of",L3.kD)::("is_length",L3.kL)::("as_pairs",L3.ng)::("told_pairs",L3.jn)::("told_each",L3.kC)::("steps_within",L3.gz)::("rows_of_step",L3.gA)::("other_things",L3.gB)::("at_most",L3.qF)::("from_nought",L3.iA)::("let",L3.Jt)::("hold",L3.Cw)::("holds_of",L3.m5)::("rows_of_any",L3.ir)::("path_at_first",L3.fR)::("is_within",L3.kK)::("is_quotient",L3.iz)::("go_divide",L3.kM)::("go_plain",L3.m7)::("go_step",L3.qD)::("count_paths",L3.iB)::("go_steps",L3.m6)::("debts",L3.xh)::("_law_mixed",L3.qB)::("_law_cell_at",L3.kI)::("_law_next",L3.sX)::("_law_names",L3.qz)::("_law_sum",L3.wX)::("_law_condition",L3.iy)::("_law_place",L3.qu)::("_law_line",L3.sY)::("_law_steps",L3.qp)::("_law_pairs",L3.qv)::("_law_helper",L3.mX)::("_law_plus",L3.sW)::("_law_one",L3.w9)::("_law_at_most",L3.kJ)::("_law_written",L3.kE)::("_law_things_of",L3.iu)::("_law_sum_things",L3.gC)::("_law_stand",L3.qq)::("_law_owe",L3.wZ)::("_law_anys",L3.s8)::("_law_divided",L3.kH)::("_law_behind",L3.mZ)::("_law_go",L3.Cv)::("_law_row_shown",L3.iw)::("_law_shown",L3.qt)::("_law_asked",L3.qC)::("_law_due",L3.xg)::("all_of",L3.s9)::("go_call",L3.qE)::("_law_named",L3.qA)::("_law_put_sum",L3.kF)::("_law_put",L3.wY)::("_law_called",L3.mY)::("_law_call",L3.sZ)::("_law_step",L3.sV)::("_law_program",L3.kG)::[]))
  (hm:L3.Fms K ((j6,"__init__","Sum.__init__",L3.nu)::(j6,"plus","Sum.plus",L3.ni)::(j6,"times","Sum.times",L3.kN)::(j6,"less","Sum.less",L3.nq)::(j6,"things","Sum.things",L3.jt)::(j6,"told","Sum.told",L3.nh)::(cF,"__init__","Compare.__init__",L3.gG)::(dI,"__init__","Turned.__init__",L3.iE)::(lY,"__init__","Let.__init__",L3.nF)::(bZ,"__init__","Divide.__init__",L3.iK)::(dz,"__init__","Fetch.__init__",L3.jw)::(nZ,"__init__","Put.__init__",L3.nC)::(fK,"__init__","Make.__init__",L3.kT)::(cW,"__init__","Claim.__init__",L3.jA)::(pM,"__init__","Debt.__init__",L3.kW)::(fB,"__init__","Several.__init__",L3.eT)::(jh,"__init__","Several.__init__",L3.eT)::(cF,"told","Compare.told",L3.gF)::(dI,"told","Turned.told",L3.iC)::(fB,"told","Every.told",L3.jx)::(jh,"told","Some.told",L3.kP)::(cF,"all_sums","Compare.all_sums",L3.iM)::(dI,"all_sums","Turned.all_sums",L3.jr)::(fB,"all_sums","Several.all_sums",L3.fF)::(jh,"all_sums","Several.all_sums",L3.fF)::(cF,"things","Condition.things",L3.di)::(dI,"things","Condition.things",L3.di)::(fB,"things","Condition.things",L3.di)::(jh,"things","Condition.things",L3.di)::(lY,"told","Let.told",L3.nE)::(bZ,"told","Divide.told",L3.iJ)::(dz,"told","Fetch.told",L3.jv)::(nZ,"told","Put.told",L3.nB)::(fK,"told","Make.told",L3.kR)::(cW,"told","Claim.told",L3.jz)::(lY,"uses","Let.uses",L3.nD)::(bZ,"uses","Divide.uses",L3.iI)::(dz,"uses","Fetch.uses",L3.ju)::(nZ,"uses","Put.uses",L3.nA)::(fK,"uses","Make.uses",L3.kQ)::(cW,"uses","Claim.uses",L3.jy)::(fL,"told","Call.told",L3.kY)::(fL,"uses","Call.uses",L3.kX)::(lY,"blocks","Step.blocks",L3.bQ)::(bZ,"blocks","Step.blocks",L3.bQ)::(dz,"blocks","Step.blocks",L3.bQ)::(nZ,"blocks","Step.blocks",L3.bQ)::(fK,"blocks","Step.blocks",L3.bQ)::(cW,"blocks","Step.blocks",L3.bQ)::(fL,"blocks","Step.blocks",L3.bQ)::(fU,"__init__","Helper.__init__",L3.iH)::(dg,"__init__","Program.__init__",L3.gE)::(dg,"named","Program.named",L3.wW)::(dg,"told","Program.told",L3.gD)::(fU,"told","Helper.told",L3.iG)::(ji,"__init__","Book.__init__",L3.k6)::(ji,"owe","Book.owe",L3.Js)::(ji,"owe_each","Book.owe_each",L3.mW)::(fL,"__init__","Call.__init__",L3.kZ)::(j6,"put_in","Sum.put_in",L3.qG)::(cF,"put_in","Compare.put_in",L3.iL)::(dI,"put_in","Turned.put_in",L3.jq)::(fB,"put_in","Every.put_in",L3.kU)::(jh,"put_in","Some.put_in",L3.nv)::[]))
  (XE:nsIn K mainGlobals "law"=some (some (.ref Xh)))
  (WA:K.lookup Xh=some ⟨Zy,Zx,.func (fnOf "law" "law" a0Z a0Y a0M .none Ug Ut T5 UB O7 Uu),YU⟩)
  (Mc:(a0Z,a0Y,a0M)=(ff L3.qU,ai L3.qU,aa L3.qU))
  (Xw:codeIn K O7 "law"=true)
  (WL:keepIn K (.ref Xh)=true)
  (hz:L3.Nzs K ["len","tuple","list","sorted","set","sum","int","str","isinstance","range","any","all","enumerate","zip"])
  (d1:nsIn K mainGlobals "MOST_PATHS"=some (some (.int 16 tD1)))
  (d2:nsIn K mainGlobals "MOST_DEBTS"=some (some (.int 100 tD2)))
  (d3:nsIn K mainGlobals "DIVIDED"=some (some (.str "^" tD3)))
  (d4:nsIn K mainGlobals "QUOTIENT"=some (some (.str "^^" tD4)))
  (hk:L3.Kt K [lY,bZ,dz,nZ,fK,cW,fL,fV,fT] [lY,bZ,dz,nZ,fK,cW,fL] 0)
  (WK:kitOne K (.type "tuple") (.type "str")=some false)
 :∃fd:FuncData,(∀(s:Shared)(v:Value),BindsTo s fd ⟨[v],[]⟩ [("_law_script",v)])/\∀base:Heap,K.In base->base.Ns mainGlobals mg->az l.prog w K mg base bz 60 fa fd ["_law_script"] (Je K):=by
 have e:=hfa.symm.trans (mg_of X G XE);cases e
 let A:L3.Ad:=⟨j6,cF,dI,fB,jh,lY,bZ,dz,nZ,fK,cW,fV,fT,fL,fU,dg,pM,ji⟩
 have jcN:∀(x:Str)(a:Addr),nsIn K mainGlobals x=some (some (.ref a))->mg x=some (.ref a):=λx a h=>mg_of X G h;have u:=@L3.Css.ok K mg jcN UR UQ;obtain⟨Yo,P8,UM,Me,Yn,Yl,Yp,Ym,BN,P9,Yq,Yr,D7,Yk,_⟩:=hz;obtain⟨Zf,KZ,Nc,Q4,Vz,Zh,Ng,Q3,Zg,VA,Q5,Nh,Nd,VC,Nf,KY,VB,VD,_⟩:=hc;have kk:∀j i,j<7->i<9->kitOne K (.ref (L3.xD A j)) (.ref (L3.xD A i))=some (decide (j=i)):=L3.a2x hk;have J:L3.Fx K mg A:=⟨jbf X G Yo,jbf X G P8,jbf X G UM,jbf X G Me,jbf X G Yn,jbf X G Yl,jbf X G Yp,jbf X G Ym,jbf X G BN,jbf X G P9,jbf X G Yq,jbf X G Yr,jbf X G D7,jbf X G Yk,u Zf,u KZ,u Nc,u Q4,u Vz,u Zh,u Ng,u Q3,u Zg,u VA,u Q5,u Nh,u Nd,u VC,u Nf,u KY,u VB,u VD,⟨_,mg_of X G d1⟩,⟨_,mg_of X G d2⟩,⟨_,mg_of X G d3⟩,⟨_,mg_of X G d4⟩,kk,WK,jcN⟩
 have a3M:=Sk (st:=L3.qU) WA Mc Xw WL;obtain⟨fdS,FS,kS⟩:=lS;refine⟨fnOf "law" "law" (ff L3.qU) (ai L3.qU) (aa L3.qU) .none Ug Ut T5 UB O7 Uu,λs v=>.of_eq M,λbase _ _=>?_⟩;have d:=@L3.dA l.prog w K mg base;have e:=@L3.m1 l.prog w K mg base;have n:=@L3.kA l.prog w K mg base;have oh:=n J.Pg (hm.at 0 M) (L3.E9 (k:=0) J );have gf:=d J (ha.at 1 M) (L3.K7 (k:=2) J oh.u);have p9:=d J (ha.at 0 M) (L3.RA (k:=2) J oh.u);have GB:=e (hm.at 1 M) (L3.E7 (k:=3) J gf.u);have qS:=e (hm.at 2 M) (L3.CU (k:=3) J gf.u);have GC:=e (hm.at 3 M) (L3.E8 (k:=4) J GB.u qS.u);have b6:=e (hm.at 4 M) (L3.Af (k:=0) J );have bY:=e (hm.at 5 M) (L3.k7 (k:=0) J );have bU:L3.Cm l.prog w K mg base 1 "Step" "__init__" ["self","at"] (L3.sP K):=⟨⟨Sp,fS,_,L3.CV (k:=0) J  FS,mg_of X G HW,UO,UN,UP,kS,FS.bb⟩⟩
 have eY:=n J.qO (hm.at 6 M) (L3.wk (k:=0) J );have kg:=n J.Ga (hm.at 7 M) (L3.yI (k:=0) J );have SV:=n J.Ge (hm.at 8 M) (L3.Fe (k:=1) J bU.u);have IM:=n J.j4 (hm.at 9 M) (L3.yL (k:=1) J bU.u);have LZ:=n J.qN (hm.at 10 M) (L3.Ah (k:=1) J bU.u);have SS:=n J.Gd (hm.at 11 M) (L3.Fc (k:=1) J bU.u);have PJ:=n J.zp (hm.at 12 M) (L3.CY (k:=1) J bU.u);have BL:=n J.xG (hm.at 13 M) (L3.Aj (k:=1) J bU.u);have PL:=n J.vf (hm.at 58 M) (L3.C1 (k:=1) J bU.u);have PK:=n J.ve (hm.at 14 M) (L3.CZ (k:=0) J );have gj:=n J.Ks (hm.at 15 M) (L3.ou (k:=0) J.Ks.n.1 J );have pZ:=n J.Ph (hm.at 16 M) (L3.ou (k:=0) J.Ph.n.1 J );have pY:L3.Ms l.prog w K mg base 1 4 ((L3.Ao A)) "told" ["self"] ((L3.fO A 0)):=λj hj=>match j,hj with | 0,_=>L3.mA (hm.at 17 M) λ_=>L3.dY (L3.tK _) | 1,_=>L3.mA (hm.at 18 M) λ_=>L3.dY (L3.tK _) | 2,_=>L3.mA (hm.at 19 M) λ_=>L3.dY (L3.tK _) | 3,_=>L3.mA (hm.at 20 M) λ_=>L3.dY (L3.tK _)
 have pX:L3.Ms l.prog w K mg base 2 4 ((L3.Ao A)) "told" ["self"] ((L3.fO A 1)):=λj hj=>match j,hj with | 0,_=>L3.mA (hm.at 17 M) (L3.ja (k:=1) J bY.u) | 1,_=>L3.mA (hm.at 18 M) (L3.jS (k:=1) J pY.u) | 2,_=>L3.mA (hm.at 19 M) (L3.lQ (k:=1) J pY.u) | 3,_=>L3.mA (hm.at 20 M) (L3.nP (k:=1) J pY.u)
 have pW:L3.Ms l.prog w K mg base 3 4 ((L3.Ao A)) "told" ["self"] ((L3.fO A 2)):=λj hj=>match j,hj with | 0,_=>L3.mA (hm.at 17 M) λF=>((L3.ja (k:=1) J bY.u F).mono (by decide:2<=3)) | 1,_=>L3.mA (hm.at 18 M) (L3.jS (k:=2) J pX.u) | 2,_=>L3.mA (hm.at 19 M) (L3.lQ (k:=2) J pX.u) | 3,_=>L3.mA (hm.at 20 M) (L3.nP (k:=2) J pX.u)
 have j9:L3.Ms l.prog w K mg base 4 4 ((L3.Ao A)) "told" ["self"] ((L3.fO A 3)):=λj hj=>match j,hj with | 0,_=>L3.mA (hm.at 17 M) λF=>((L3.ja (k:=1) J bY.u F).mono (by decide:2<=4)) | 1,_=>L3.mA (hm.at 18 M) (L3.jS (k:=3) J pW.u) | 2,_=>L3.mA (hm.at 19 M) (L3.lQ (k:=3) J pW.u) | 3,_=>L3.mA (hm.at 20 M) (L3.nP (k:=3) J pW.u)
 have mh:L3.Ms l.prog w K mg base 1 4 ((L3.Ao A)) "all_sums" ["self"] ((L3.mR A 0)):=λj hj=>match j,hj with | 0,_=>L3.mA (hm.at 21 M) λ_=>L3.dY (L3.xw _) | 1,_=>L3.mA (hm.at 22 M) λ_=>L3.dY (L3.xw _) | 2,_=>L3.mA (hm.at 23 M) λ_=>L3.dY (L3.xw _) | 3,_=>L3.mA (hm.at 24 M) λ_=>L3.dY (L3.xw _)
 have l9:L3.Ms l.prog w K mg base 2 4 ((L3.Ao A)) "all_sums" ["self"] ((L3.mR A 1)):=λj hj=>match j,hj with | 0,_=>L3.mA (hm.at 21 M) λF=>((L3.jU (k:=0) J  F).mono (by decide:1<=2)) | 1,_=>L3.mA (hm.at 22 M) (L3.lP (k:=1) J mh.u) | 2,_=>L3.mA (hm.at 23 M) (L3.dJ (k:=1) (.inl M) J mh.u) | 3,_=>L3.mA (hm.at 24 M) (L3.dJ (k:=1) (.inr M) J mh.u)
 have l8:L3.Ms l.prog w K mg base 3 4 ((L3.Ao A)) "all_sums" ["self"] ((L3.mR A 2)):=λj hj=>match j,hj with | 0,_=>L3.mA (hm.at 21 M) λF=>((L3.jU (k:=0) J  F).mono (by decide:1<=3)) | 1,_=>L3.mA (hm.at 22 M) (L3.lP (k:=2) J l9.u) | 2,_=>L3.mA (hm.at 23 M) (L3.dJ (k:=2) (.inl M) J l9.u) | 3,_=>L3.mA (hm.at 24 M) (L3.dJ (k:=2) (.inr M) J l9.u)
 have jF:L3.Ms l.prog w K mg base 4 4 ((L3.Ao A)) "all_sums" ["self"] ((L3.mR A 3)):=λj hj=>match j,hj with | 0,_=>L3.mA (hm.at 21 M) λF=>((L3.jU (k:=0) J  F).mono (by decide:1<=4)) | 1,_=>L3.mA (hm.at 22 M) (L3.lP (k:=3) J l8.u) | 2,_=>L3.mA (hm.at 23 M) (L3.dJ (k:=3) (.inl M) J l8.u) | 3,_=>L3.mA (hm.at 24 M) (L3.dJ (k:=3) (.inr M) J l8.u)
 have DQ:L3.Ms l.prog w K mg base 5 4 ((L3.Ao A)) "things" ["self"] ((L3.MA A 3)):=λj hj=>match j,hj with | 0,_=>L3.mA (hm.at 25 M) (L3.gJ (k:=4) J jF.u b6.u) | 1,_=>L3.mA (hm.at 26 M) (L3.gJ (k:=4) J jF.u b6.u) | 2,_=>L3.mA (hm.at 27 M) (L3.gJ (k:=4) J jF.u b6.u) | 3,_=>L3.mA (hm.at 28 M) (L3.gJ (k:=4) J jF.u b6.u)
 have vm:=e (hm.at 59 M) (L3.HC (k:=4) J gf.u qS.u);have sj:L3.Ms l.prog w K mg base 1 4 ((L3.Ao A)) "put_in" ["self","sums"] ((L3.lM A 0)):=λj hj=>match j,hj with | 0,_=>L3.mA (hm.at 60 M) λ_=>L3.dY (L3.xu _) | 1,_=>L3.mA (hm.at 61 M) λ_=>L3.dY (L3.xu _) | 2,_=>L3.mA (hm.at 62 M) λ_=>L3.dY (L3.xu _) | 3,_=>L3.mA (hm.at 63 M) λ_=>L3.dY (L3.xu _)
 have sf:L3.Ms l.prog w K mg base 6 4 ((L3.Ao A)) "put_in" ["self","sums"] ((L3.lM A 1)):=λj hj=>match j,hj with | 0,_=>L3.mA (hm.at 60 M) (L3.jT (k:=5) J eY.u vm.u) | 1,_=>L3.mA (hm.at 61 M) λF=>((L3.lO (k:=2) J kg.u sj.u F).mono (by decide:3<=6)) | 2,_=>L3.mA (hm.at 62 M) λF=>((L3.nQ (k:=2) J gj.u sj.u F).mono (by decide:3<=6)) | 3,_=>L3.mA (hm.at 63 M) λF=>((L3.o6 (k:=2) J pZ.u sj.u F).mono (by decide:3<=6))
 have se:L3.Ms l.prog w K mg base 7 4 ((L3.Ao A)) "put_in" ["self","sums"] ((L3.lM A 2)):=λj hj=>match j,hj with | 0,_=>L3.mA (hm.at 60 M) λF=>((L3.jT (k:=5) J eY.u vm.u F).mono (by decide:6<=7)) | 1,_=>L3.mA (hm.at 61 M) (L3.lO (k:=6) J kg.u sf.u) | 2,_=>L3.mA (hm.at 62 M) (L3.nQ (k:=6) J gj.u sf.u) | 3,_=>L3.mA (hm.at 63 M) (L3.o6 (k:=6) J pZ.u sf.u)
 have LY:L3.Ms l.prog w K mg base 8 4 ((L3.Ao A)) "put_in" ["self","sums"] ((L3.lM A 3)):=λj hj=>match j,hj with | 0,_=>L3.mA (hm.at 60 M) λF=>((L3.jT (k:=5) J eY.u vm.u F).mono (by decide:6<=8)) | 1,_=>L3.mA (hm.at 61 M) (L3.lO (k:=7) J kg.u se.u) | 2,_=>L3.mA (hm.at 62 M) (L3.nQ (k:=7) J gj.u se.u) | 3,_=>L3.mA (hm.at 63 M) (L3.o6 (k:=7) J pZ.u se.u)
 have fN:=d J (ha.at 2 M) (L3.CJ (k:=0) J );have rD:=d J (ha.at 3 M) (L3.CS (k:=0) J );have D3:=d J (ha.at 4 M) (L3.E6 (k:=0) J );have p6:=d J (ha.at 5 M) (L3.Ae (k:=4) (n:=3) J j9.u);have GA:L3.Ms l.prog w K mg base 1 9 ((L3.Yb A)) "told" ["self"] ((L3.jk A 3 0)):=λj hj=>match j,hj with | 0,_=>L3.mA (hm.at 29 M) λ_=>L3.dY (L3.rN (by decide)) | 1,_=>L3.mA (hm.at 30 M) λ_=>L3.dY (L3.rN (by decide)) | 2,_=>L3.mA (hm.at 31 M) λ_=>L3.dY (L3.rN (by decide)) | 3,_=>L3.mA (hm.at 32 M) λ_=>L3.dY (L3.rN (by decide)) | 4,_=>L3.mA (hm.at 33 M) λ_=>L3.dY (L3.rN (by decide)) | 5,_=>L3.mA (hm.at 34 M) λ_=>L3.dY (L3.rN (by decide)) | 6,_=>L3.mA (hm.at 41 M) λ_=>L3.dY (L3.rN (by decide)) | 7,_=>L3.mA (hm.at 54 M) λ_=>L3.dY (L3.NU (by decide)) | 8,_=>L3.mA (hm.at 5 M) λF=>L3.gO L3.UW ((L3.k7 (k:=0) J  F).mono (by decide:1<=1))
 have p8:=d J (ha.at 6 M) (L3.nO (k:=1) (n:=3) (q:=0) J GA.u);have Gz:L3.Ms l.prog w K mg base 5 9 ((L3.Yb A)) "told" ["self"] ((L3.jk A 3 1)):=λj hj=>match j,hj with | 0,_=>L3.mA (hm.at 29 M) λF=>L3.gO (L3.sN (by decide)) ((L3.vH (k:=1) J bY.u F).mono (by decide:2<=5)) | 1,_=>L3.mA (hm.at 30 M) λF=>L3.gO (L3.sN (by decide)) ((L3.o8 (k:=1) J bY.u F).mono (by decide:2<=5)) | 2,_=>L3.mA (hm.at 31 M) λF=>L3.gO (L3.sN (by decide)) ((L3.qW (k:=1) J bY.u F).mono (by decide:2<=5)) | 3,_=>L3.mA (hm.at 32 M) λF=>L3.gO (L3.sN (by decide)) ((L3.vG (k:=1) J bY.u F).mono (by decide:2<=5)) | 4,_=>L3.mA (hm.at 33 M) λF=>L3.gO (L3.sN (by decide)) ((L3.tE (k:=1) J bY.u F).mono (by decide:2<=5)) | 5,_=>L3.mA (hm.at 34 M) λF=>L3.gO (L3.sN (by decide)) ((L3.qX (k:=4) J j9.u F).mono (by decide:5<=5)) | 6,_=>L3.mA (hm.at 41 M) λF=>L3.gO (L3.sN (by decide)) ((L3.tG (k:=2) J p8.u F).mono (by decide:3<=5)) | 7,_=>L3.mA (hm.at 54 M) λ_=>L3.dY (L3.NU (by decide)) | 8,_=>L3.mA (hm.at 5 M) λF=>L3.gO L3.UW ((L3.k7 (k:=0) J  F).mono (by decide:1<=5))
 have p7:=d J (ha.at 6 M) (L3.nO (k:=5) (n:=3) (q:=1) J Gz.u);have Gy:L3.Ms l.prog w K mg base 7 9 ((L3.Yb A)) "told" ["self"] ((L3.jk A 3 2)):=λj hj=>match j,hj with | 0,_=>L3.mA (hm.at 29 M) λF=>L3.gO (L3.sN (by decide)) ((L3.vH (k:=1) J bY.u F).mono (by decide:2<=7)) | 1,_=>L3.mA (hm.at 30 M) λF=>L3.gO (L3.sN (by decide)) ((L3.o8 (k:=1) J bY.u F).mono (by decide:2<=7)) | 2,_=>L3.mA (hm.at 31 M) λF=>L3.gO (L3.sN (by decide)) ((L3.qW (k:=1) J bY.u F).mono (by decide:2<=7)) | 3,_=>L3.mA (hm.at 32 M) λF=>L3.gO (L3.sN (by decide)) ((L3.vG (k:=1) J bY.u F).mono (by decide:2<=7)) | 4,_=>L3.mA (hm.at 33 M) λF=>L3.gO (L3.sN (by decide)) ((L3.tE (k:=1) J bY.u F).mono (by decide:2<=7)) | 5,_=>L3.mA (hm.at 34 M) λF=>L3.gO (L3.sN (by decide)) ((L3.qX (k:=4) J j9.u F).mono (by decide:5<=7)) | 6,_=>L3.mA (hm.at 41 M) λF=>L3.gO (L3.sN (by decide)) ((L3.tG (k:=2) J p8.u F).mono (by decide:3<=7)) | 7,_=>L3.mA (hm.at 54 M) λF=>L3.gO L3.a1G ((L3.o7 (k:=6) J p7.u p6.u F).mono (by decide:7<=7)) | 8,_=>L3.mA (hm.at 5 M) λF=>L3.gO L3.UW ((L3.k7 (k:=0) J  F).mono (by decide:1<=7))
 have zI:=d J (ha.at 6 M) (L3.nO (k:=7) (n:=3) (q:=2) J Gy.u);have XN:L3.Ms l.prog w K mg base 7 1 ((λ_=>A.fU)) "told" ["self"] ((λ_=>L3.xW A 3)):=λj hj=>L3.mA (hm.at 54 M) (L3.o7 (k:=6) J p7.u p6.u);have IK:L3.Ms l.prog w K mg base 9 1 ((λ_=>A.dg)) "told" ["self"] ((λ_=>L3.xT A 3)):=λj hj=>L3.mA (hm.at 53 M) (L3.wg (k:=8) J zI.u);have PF:L3.Ms l.prog w K mg base 6 7 ((L3.xD A)) "uses" ["self"] ((L3.mQ A 3)):=λj hj=>match j,hj with | 0,_=>L3.mA (hm.at 35 M) λF=>((L3.Fd (k:=1) J b6.u F).mono (by decide:2<=6)) | 1,_=>L3.mA (hm.at 36 M) λF=>((L3.yK (k:=1) J b6.u F).mono (by decide:2<=6)) | 2,_=>L3.mA (hm.at 37 M) λF=>((L3.Ag (k:=1) J fN.u b6.u F).mono (by decide:2<=6)) | 3,_=>L3.mA (hm.at 38 M) λF=>((L3.Fb (k:=1) J fN.u b6.u F).mono (by decide:2<=6)) | 4,_=>L3.mA (hm.at 39 M) λF=>((L3.CW (k:=1) J fN.u b6.u F).mono (by decide:2<=6)) | 5,_=>L3.mA (hm.at 40 M) (L3.Ai (k:=5) J DQ.u) | 6,_=>L3.mA (hm.at 42 M) λF=>((L3.C0 (k:=1) J b6.u F).mono (by decide:2<=6))
 have zH:L3.Ms l.prog w K mg base 1 7 ((L3.xD A)) "blocks" ["self"] ((L3.MT A)):=λj hj=>match j,hj with | 0,_=>L3.mA (hm.at 43 M) (L3.cS (k:=0) J ) | 1,_=>L3.mA (hm.at 44 M) (L3.cS (k:=0) J ) | 2,_=>L3.mA (hm.at 45 M) (L3.cS (k:=0) J ) | 3,_=>L3.mA (hm.at 46 M) (L3.cS (k:=0) J ) | 4,_=>L3.mA (hm.at 47 M) (L3.cS (k:=0) J ) | 5,_=>L3.mA (hm.at 48 M) (L3.cS (k:=0) J ) | 6,_=>L3.mA (hm.at 49 M) (L3.cS (k:=0) J )
 have uu:Dn l.prog w K mg base 1 "steps_within" ["steps"] (L3.aQ K (L3.KP:L3.rZ)):=d J (ha.at 7 M) λ_=>L3.dY L3.NV;have vn:=d J (ha.at 7 M) (L3.v8 (k:=1) J zH.u uu.u);have vo:=d J (ha.at 8 M) (L3.v9 (k:=6) (n:=3) J PF.u);have vp:=d J (ha.at 9 M) (L3.wc (k:=7) (n:=3) J vn.u vo.u);have IL:=n J.i6 (hm.at 50 M) (L3.yJ (k:=1) J D3.u);have GD:=n J.BD (hm.at 51 M) (L3.wj (k:=0) J );have BK:=e (hm.at 52 M) (L3.NG (k:=0) J );have PM:=n J.Ir (hm.at 55 M) (L3.C2 (k:=0) J );have qe:=d J (ha.at 10 M) (L3.HB (k:=2) J eY.u);have jf:=d J (ha.at 11 M) (L3.yG (k:=3) J qe.u oh.u);have xM:=d J (ha.at 12 M) (L3.Wb (k:=0) J );have qd:=d J (ha.at 13 M) (L3.RC (k:=0) J );have DX:=d J (ha.at 14 M) (L3.E3 (k:=1) J qd.u);have fZ:=d J (ha.at 15 M) (L3.yC (k:=4) J rD.u qd.u jf.u p9.u);have uv:=d J (ha.at 16 M) (L3.uT (k:=8) (n:=3) J DX.u vp.u xM.u oh.u fZ.u);have xK:L3.Ms l.prog w K mg base 3 1 ((λ_=>A.ji)) "owe" ["self","path","kind","at","condition"] ((L3.MF A)):=λj hj=>L3.mA (hm.at 56 M) (L3.Wa (k:=2) J qd.u PK.u);have DR:L3.Ms l.prog w K mg base 4 1 ((λ_=>A.ji)) "owe_each" ["self","path","kind","writings"] ((L3.GW A)):=λj hj=>L3.mA (hm.at 57 M) (L3.EY (k:=3) J xK.u);have AV:=d J (ha.at 17 M) (L3.CQ (k:=5) J gj.u qe.u jf.u p9.u fN.u GC.u oh.u);have wQ:=d J (ha.at 18 M) (L3.yF (k:=4) J gj.u qe.u GB.u oh.u p9.u qS.u);have AW:=d J (ha.at 19 M) (L3.CT (k:=5) (n:=3) J xM.u p9.u GC.u qS.u fZ.u qd.u wQ.u xK.u eY.u oh.u);have DZ:=d J (ha.at 20 M) (L3.E5 (k:=6) (n:=3) J fZ.u xK.u AV.u xM.u fN.u jf.u);have IQ:=d J (ha.at 52 M) (L3.Lf (k:=2) J gj.u);have GI:=d J (ha.at 53 M) (L3.HA (k:=8) (n:=3) J qd.u LY.u p9.u fZ.u xK.u IQ.u rD.u xM.u BK.u);have GH:=d J (ha.at 21 M) (L3.Hz (k:=9) (n:=3) J DZ.u AW.u GI.u);have DY:=d J (ha.at 23 M) (L3.E4 (k:=10) (n:=3) J GH.u);have vq:Dn l.prog w K mg base 1 "count_paths" ["steps"] (L3.aQ K (L3.KP:L3.rZ)):=d J (ha.at 22 M) λ_=>L3.dY L3.NV;have wR:=d J (ha.at 22 M) (L3.yH (k:=1) J zH.u vq.u);have L0:=d J (ha.at 24 M) (L3.NL (k:=11) (n:=3) J DY.u uv.u DR.u PM.u wR.u BK.u);have rC:=d J (ha.at 25 M) (L3.Hx (k:=0) J );have wO:=d J (ha.at 26 M) (L3.CO (k:=1) J rC.u);have b9:=d J (ha.at 27 M) (L3.La (k:=1) J rC.u);have AR:=d J (ha.at 28 M) (L3.Hu (k:=2) J b9.u);have i7:=d J (ha.at 29 M) (L3.NH (k:=3) J gf.u b9.u);have sE:Dn l.prog w K mg base 1 "_law_condition" ["_law_draw","_law_things","_law_deep"] (L3.aQ K ((L3.xV A 0):L3.rZ)):=d J (ha.at 30 M) λ_=>L3.dY L3.NV;have sF:=d J (ha.at 30 M) (L3.oZ (k:=4) (n:=0) J pZ.u sE.u gj.u kg.u b9.u eY.u i7.u);have sA:Dn l.prog w K mg base 5 "_law_condition" ["_law_draw","_law_things","_law_deep"] (L3.aQ K (L3.xV A 1)):=sF;have gT:=d J (ha.at 30 M) (L3.oZ (k:=5) (n:=1) J pZ.u sA.u gj.u kg.u b9.u eY.u i7.u);have AO:=d J (ha.at 31 M) (L3.Hs (k:=4) J gf.u b9.u i7.u);have DW:=d J (ha.at 32 M) (L3.Lb (k:=6) J SV.u i7.u BL.u gT.u PJ.u AO.u b9.u SS.u LZ.u IM.u gf.u);have ux:=d J (ha.at 58 M) (L3.Lc (k:=4) J PL.u gf.u b9.u i7.u);have DS:=d J (ha.at 59 M) (L3.K8 (k:=7) J DW.u ux.u b9.u);have AL:=d J (ha.at 33 M) (L3.Ho (k:=8) J DS.u);have AQ:=d J (ha.at 34 M) (L3.Ht (k:=6) J gT.u);have zJ:=d J (ha.at 35 M) (L3.EZ (k:=9) J IL.u b9.u BL.u gT.u ux.u AL.u AQ.u);have wM:=d J (ha.at 60 M) (L3.CM (k:=10) J GD.u b9.u zJ.u AR.u);have oi:=d J (ha.at 36 M) (L3.K9 (k:=0) J );have lK:=d J (ha.at 37 M) (L3.NJ (k:=0) J );have je:=d J (ha.at 38 M) (L3.CP (k:=0) J );have wL:=d J (ha.at 39 M) (L3.CK (k:=0) J );have jd:=d J (ha.at 55 M) (L3.CL (k:=1) J oi.u);have DV:Dn l.prog w K mg base 1 "_law_put" ["_law_told","_law_sums"] (L3.aQ K ((L3.xU 0):L3.rZ)):=d J (ha.at 56 M) λ_=>L3.dY L3.RG;have DU:=d J (ha.at 56 M) (L3.yE (k:=2) (n:=0) J DV.u jd.u);have DT:=d J (ha.at 56 M) (L3.yE (k:=3) (n:=1) J DU.u jd.u);have GF:=d J (ha.at 56 M) (L3.yE (k:=4) (n:=2) J DT.u jd.u);have su:Dn l.prog w K mg base 1 "_law_things_of" ["_law_told"] (L3.aQ K ((L3.Ek 0):L3.rZ)):=d J (ha.at 40 M) λ_=>L3.dY L3.Wg;have sr:=d J (ha.at 40 M) (L3.oY (k:=1) (n:=0) J su.u);have lJ:=d J (ha.at 40 M) (L3.oY (k:=2) (n:=1) J sr.u);have sy:=d J (ha.at 41 M) (L3.we (k:=0) J );have AM:=d J (ha.at 42 M) (L3.Hq (k:=3) J sy.u lJ.u wL.u);have qc:=d J (ha.at 43 M) (L3.NI (k:=0) J );have uy:=d J (ha.at 44 M) (L3.Ld (k:=1) J je.u lK.u);have wN:=d J (ha.at 45 M) (L3.CN (k:=1) J oi.u lK.u je.u);have AS:=d J (ha.at 54 M) (L3.Hv (k:=0) J );have zK:=d J (ha.at 57 M) (L3.E1 (k:=5) J GF.u lK.u uy.u qc.u AS.u);have zL:=d J (ha.at 46 M) (L3.E2 (k:=6) J zK.u qc.u je.u oi.u lK.u wN.u);have IP:=d J (ha.at 47 M) (L3.RB (k:=7) J zL.u);have GG:=d J (ha.at 51 M) (L3.NK (k:=8) J IP.u qc.u uy.u lJ.u AM.u);have uw:=d J (ha.at 48 M) (L3.yD (k:=4) J j9.u);have AN:=d J (ha.at 49 M) (L3.Hr (k:=5) J j9.u uw.u);have AU:=d J (ha.at 50 M) (L3.Hy (k:=12) J AN.u L0.u);exact L3.gO L3.Wz ((L3.Wc (k:=13) J IK.u AU.u GG.u wO.u wM.u a3M).mono (by decide:14<=60))
theorem walk {l:OpenLaw}{q:Program}{loose:jcR}{XP:(Str->jcW)->Heap->Prop}{YP:World->Heap->Prop}{d:DefRec}{K:Params->Frag}(hn:l.most=some 63)(hdf:d.params.defaults=[])
  (hY:∀(w:World)(h:Heap),YP w h->(K w.params).In h)
  (F:∀(w:World)(mg:Str->jcW)(fa:Addr)(h:Heap),(K w.params).In h->h.Ns mainGlobals mg->mg d.name=some (.ref fa)->
   ∃fd:FuncData,(∀(s:Shared)(u:Value),BindsTo s fd ⟨[u],[]⟩ [("_law_script",u)])/\∀base:Heap,(K w.params).In base->base.Ns mainGlobals mg->az l.prog w (K w.params) mg base bz 60 fa fd ["_law_script"] (Je (K w.params))) :
  WalkO q loose XP YP l.row.toRowW d [] (λf vs=>PySem.call f vs):=
 L2.Qe (n:=63) (k:=60) (x:="_law_script") (CX:=λ_=>bz) (sp:=λw=>Je (K w.params)) hn (by decide) hdf ⟨M,by decide,by decide⟩ hY F (λ_ _ a ns hl _ hS=>⟨a,ns,M,hS,hl,λ_=>rfl⟩) λ_ _ _ _ _ z=>z
end Hw
open PySem PySem.W PyProof.Rows
set_option maxRecDepth 100000 in
set_option maxHeartbeats 0 in
theorem PySem.Challenge.cw_holdwright_k31_calls_holds : PySem.Challenge.rw_holdwright_k31_calls.Holds := by
 refine Hd ?_
 k_fill
 refine Hw.walk (l:=PySem.Challenge.rw_holdwright_k31_calls) rfl rfl (fun w h QR=>QR) ?F
 case F=>
  intro w mg fa h KX G hmg;refine' Hw.all_mk KX G hmg ?hc ?HW ?UP ?UR ?UQ ?UO ?UN ?lS ?ha ?hm ?XE ?WA ?Mc ?Xw ?WL ?hz ?d1 ?d2 ?d3 ?d4 ?hk ?WK
  (case hc=>((repeat (refine' ⟨⟨?_,⟨?_,?_,?_,?_,?_,?_,?_,?_⟩,?_⟩,?_⟩;(any_goals k_is);(repeat (refine' ⟨?_,?_⟩;(any_goals k_is)));exact trivial));exact trivial))
  (case HW|UP|UR|UQ|UO|UN|XE|WA|Xw|WL|d1|d2|d3|d4=>k_is)
  (case lS=>(refine' Hw.Ur ?ya ?yb ?yc ?yd;(case ya=>k_is);(case yb=>kernel_rfl);(case yc|yd=>k_is)))
  (case ha=>((repeat (refine' ⟨?_,?_⟩;apply Exists.intro;refine' ⟨?_,?_⟩;(any_goals k_is);(refine' Hw.Ur ?_ ?_ ?_ ?_;(any_goals k_is);kernel_rfl)));exact trivial))
  (case hm=>((repeat (refine' ⟨?_,?_⟩;apply Exists.intro;refine' ⟨?_,?_,?_⟩;(any_goals k_is);(refine' Hw.Ur ?_ ?_ ?_ ?_;(any_goals k_is);kernel_rfl)));exact trivial))
  (case Mc=>kernel_rfl)
  (case hz=>((repeat (refine' ⟨?_,?_⟩;(any_goals k_is)));exact trivial))
  (case hk=>((repeat (refine' ⟨?_,?_⟩;(repeat (refine' ⟨?_,?_⟩;(any_goals kit_is)));exact trivial));exact trivial))
  (case WK=>kit_is)
#print axioms PySem.Challenge.cw_holdwright_k31_calls_holds
