import PyProof.Rows.All
import Wide.All
import OpenK.KLine
import OpenK.KWalk
import KE.KNestM
import KE.RegKIsAll
import KE.KxBytes
import KE.KItem
import KE.KDictOf
import KE.KDictSum
import KE.LcSums
import KE.KxText
import Wide.FinOn
import Lean
import PyProof.EqAt
import PyProof.EqKinds
import PyProof.TupleCall
import PySem.Spec
import PyProof.NeKinds
import KE.KDictList
import KE.KPairComp
import PyProof.DictWalks
import PyProof.FString5
import PyProof.StrLawsIn
import PyProof.ExcClass3
import PyProof.ExcInit
import PyProof.ExcBaseAll.ValueError
import OpenK.KMore
import PyProof.RaisesMany
import PyProof.Rows.SetFrom
import PyProof.ExcAttrAll.ValueError
import KE.KIsAll
import PyProof.RulesAs
import PySem.Challenge.RW_holdwright_k30_choices_and_loops
set_option Elab.async false
set_option linter.all false
set_option compiler.extract_closed false
set_option genSizeOf false
set_option genInjectivity false
set_option maxRecDepth 100000
namespace Hq
open PySem PySem.W
noncomputable def d1 (l:List Obj):List Obj:=@List.rec Obj (fun _=>List Obj) [] (fun _ t _=>t) l
noncomputable def d4 (l:List Obj):List Obj:=d1 (d1 (d1 (d1 l)))
noncomputable def d32 (l:List Obj):List Obj:=d4 (d4 (d4 (d4 (d4 (d4 (d4 (d4 l)))))))
noncomputable def gB (l:List Obj) (k:Nat):List Obj:=@Nat.rec (fun _=>List Obj) l (fun _ r=>d32 r) k
noncomputable def gA (i:Nat):List Obj→Option Obj:=@Nat.rec (fun _=>List Obj→Option Obj) (fun l=>@List.rec Obj (fun _=>Option Obj) none (fun x _ _=>some x) l) (fun _ ih l=>ih (d1 l)) i
def nF (o:Option Obj):Option Obj:=match o with|some ⟨_,_,.freed,_⟩=>none|o=>o
noncomputable def gQ (h:Heap) (a:Addr):Option Obj:=nF (gA (Nat.mod a 32) (gB h.objs.toList (Nat.div a 32)))
def d1_eq (l:List Obj):d1 l=l.drop 1:=by cases l<;>rfl
def d32_eq (l:List Obj):d32 l=l.drop 32:=by
 unfold d32 d4;simp only [d1_eq,List.drop_drop]
theorem gB_eq (l:List Obj):∀ k,gB l k=l.drop (32*k)
 |0=>rfl
 |k+1=>by
  show d32 (gB l k)=_;rw [gB_eq l k,d32_eq,List.drop_drop,Nat.mul_succ]
theorem gA_eq:∀ (i:Nat) (l:List Obj),gA i l=l[i]?
 |0,l=>by cases l<;>rfl
 |i+1,l=>by
  show gA i (d1 l)=_;rw [gA_eq i,d1_eq,List.getElem?_drop,Nat.add_comm]
def gQ_eq:gQ=Heap.get?:=by
 funext h a;show nF (gA (a%32) (gB h.objs.toList (a/32)))=nF h.objs[a]?;rw [gA_eq,gB_eq,List.getElem?_drop,Nat.div_add_mod,Array.getElem?_toList]
noncomputable def hk (K:Params→Frag) (as:List Addr) (e:∀ P,as=(K P).map (·.1)):Hook:=⟨List (Option Obj),fun s=>as.map (gQ s.heap),fun w=>(K w.params).map fun p=>some p.2,InK K,fun w s x=>InK.of e w s (by rw [gQ_eq] at x; exact x),InK.keeps⟩
end Hq
local macro_rules|`(tactic|symm)=>`(tactic|decide +kernel)
local macro_rules|`(tactic|o_head (kHook $k $a $e))=>`(tactic|o_head (Hq.hk $k $a $e))
namespace PySem.W.Fast
noncomputable def te13052408679150730464:=0
noncomputable def te4110290226886642065:=0
noncomputable def te5369427470323729400:=0
noncomputable def te12305933238918452080:=0
noncomputable def te16555476440528808052:=0
noncomputable def te4868988410673395695:=0
noncomputable def te5452508617037859911:=0
noncomputable def te11152381544001756331:=0
end PySem.W.Fast
set_option maxHeartbeats 0 in
open_top Hd for PySem.Challenge.rw_holdwright_k30_choices_and_loops
noncomputable section
def zAzi (h:True:=by rfl):True:=h
def zi:=zAzi._auto_1
def zAzn (h:True:=by decide):True:=h
def zn:=zAzn._auto_1
def zAzr (h:True:=by intros;rfl):True:=h
def zr:=zAzr._auto_1
def zAzt (h:True:=by first | exact .inl rfl | exact .inr rfl | assumption):True:=h
def zt:=zAzt._auto_1
def zAjp (h:True:=by intro _;rfl):True:=h
def jp:=zAjp._auto_1
def zAka (h:True:=by symm):True:=h
def ka:=zAka._auto_1
def zAkb (h:True:=by lia):True:=h
def kb:=zAkb._auto_1
def zAke (h:True:=by first | exact Or.inl rfl | exact Or.inr rfl):True:=h
def ke:=zAke._auto_1
open PySem.W (instObj Frag lookIn plainGet hasDictIn findIn handedIn plainGet_of isFn plainOver takerIn makesIn emptyDict keepIn specialIn takesIn mroIn kitOne kitx_list kitx_dict kitx_own cellsFrom_some fnOf codeIn OpenLaw WalkO nsIn nsOkIn readsIn findCls kitAny)
def jaa:=@PySem.wpAny_bind
def jab:=@List.length_append
def jac:=@List.length_map
def jad:=@PySem.wpAny_pure
def jae:=@if_neg
def jaf:=@if_pos
def jag:=@List.mem_singleton
def jah:=@List.mem_cons
def jai:=@Nat.le_trans
def jaj:=@List.map_append
def jak:=@List.length_cons
def jal:=@PySem.Heap.lt_size
def jam:=@Nat.le_refl
def jan:=@List.mem_append
def jao:=@congrArg
def jap:=@PySem.Heap.get?_push_of_some
def jaq:=@List.mem_map
def jar:=@List.getElem?_eq_some_iff
def jas:=@List.map_cons
def jat:=@List.set_set
def jau:=@decide_eq_false
def jav:=@List.mem_cons_of_mem
def jaw:=@List.append_nil
def jax:=@Nat.ne_of_lt
def jay:=@List.mem_cons_self
def jaz:=@List.size_toArray
def jaA:=@List.mem_append_left
def jaB:=@decide_eq_true
def jaC:=@Nat.mul_le_mul_right
def jaD:=@Nat.zero_le
def jaE:=@Ne.symm
def jaF:=@List.length_set
def jaG:=@List.getElem?_set_self
def jaH:=@Array.length_toList
def jaI:=@List.length_nil
def jaJ:=@PySem.PassesOwn.never
def jaK:=@PySem.Heap.get?_push_size
def jaL:=@Nat.lt_of_lt_of_le
def jaM:=@List.map_map
def jaN:=@Bool.false_ne_true
def jaO:=@PySem.Heap.get?_update_other
def jaP:=@List.mem_append_right
def jaQ:=@List.append_assoc
def jaR:=@PySem.wpAny_setState_of
def jaS:=@PySem.wpAny_mono
def jaT:=@List.getElem?_eq_getElem
def jaU:=@List.getElem?_append_left
def jaV:=@List.getElem?_map
def jaW:=@List.flatten_cons
def jaX:=@List.map_nil
def jaY:=@List.not_mem_nil
def jaZ:=@List.mem_flatten
def ja0:=@List.length_singleton
def ja1:=@PySem.Obj.data_mapFields
def ja2:=@PySem.Heap.get?_update_self
def ja3:=@Bool.and_eq_true
def ja4:=@Nat.lt_irrefl
def ja5:=@List.flatten_append
def ja6:=@PyProof.Rows.boot_isinstance
def ja7:=@PySem.wpAny_field
def ja8:=@beq_iff_eq
def ja9:=@PySem.wpAny_newObj_type
def jba:=@List.filterMap_cons
def jbb:=@List.cons_append
def jbc:=@Option.some.inj
def jbd:=@PySem.wpAny_setField
def jbe:=@PySem.sizeLine_eq
def jbf:=@List.getElem?_append_right
def jbg:=@List.length_range
def jbh:=@PySem.Heap.size_push
def jbi:=@PySem.wpAny_holding
def jbj:=@Nat.le_of_lt
def jbk:=@PySem.W.mg_none_of
def jbl:=@List.getElem?_set_ne
def jbm:=@PySem.wpAny_askSetting
def jbn:=@Nat.succ_mul
def jbo:=@if_false
def jbp:=@List.length_eq_zero_iff
def jbq:=@PySem.Obj.isFreed_of_fields
def jbr:=@PySem.W.kia_one
def jbs:=@Nat.le_of_eq
def jbt:=@Nat.not_lt
def jbu:=@Array.getElem?_eq_some_iff
def jbv:=@List.nodup_cons
def jbw:=@PySem.Heap.SameBut.update
def jbx:=@List.pairwise_cons
def jby:=@PySem.wpAny_call_entry
def jbz:=@PySem.Paired.length
def jbA:=@Nat.le_succ
def jbB:=@List.mem_of_getElem?
def jbC:=@Bool.false_eq_true
def jbD:=@PySem.wpAny_loadPart_at
def jbE:=@PySem.Heap.SameBut.refl
def jbF:=@List.length_take
def jbG:=@List.flatten_nil
def jbH:=@List.nil_append
def jbI:=@List.any_cons
def jbJ:=@Nat.ne_of_gt
def jbK:=@PySem.codeAny_mono
def jbL:=@PySem.F.called_set
def jbM:=@List.getElem?_replicate
def jbN:=@beq_eq_false_iff_ne
def jbO:=@PySem.mem_of_lookup
def jbP:=@Nat.lt_succ_of_lt
def jbQ:=@PySem.PassesOwn.leaving
def jbR:=@List.length_drop
def jbS:=@List.any_eq_true
def jbT:=@decide_eq_decide
def jbU:=@List.mem_range
def jbV:=@Nat.zero_add
def jbW:=@List.length_replicate
def jbX:=@Array.getElem?_toList
def jbY:=@PySem.W.callWith_K
def jbZ:=@PySem.wpAny_truthy_bool
def jb0:=@List.nodup_append
def jb1:=@PySem.wpAny_storeSet_of
def jb2:=@Function.comp_def
def jb3:=@Nat.lt_succ_self
def jb4:=@PySem.wpAny_isInstance
def jb5:=@List.mem_filter
def jb6:=@PySem.codeAny_builtin
def jb7:=@Bool.false_xor
def jb8:=@Bool.true_xor
def jb9:=@Nat.mul_assoc
def jca:=@List.drop_eq_getElem_cons
def jcb:=@List.filterMap_cons_some
def jcc:=@Option.bind_eq_some_iff
def jcd:=@Option.map_eq_some_iff
def jce:=@PySem.Heap.size_after_update
def jcf:=@List.find?_cons_of_neg
def jcg:=@List.mem_iff_getElem?
def jch:=@PySem.W.methodCall_KW
def jci:=@PySem.wpAny_isSubtype_exc
def jcj:=@List.length_pos_iff
def jck:=@Array.append_assoc
def jcl:=@PySem.wpAny_Call_Name_kw
def jcm:=@List.zip_cons_cons
def jcn:=@List.contains_cons
def jco:=@List.filterMap_nil
def jcp:=@PySem.Obj.cls_mapFields
def jcq:=@List.getElem_mem
def jcr:=@PySem.wpAny_passesOwn
def jcs:=@List.eq_nil_of_length_eq_zero
def jct:=@Array.getD_eq_getD_getElem?
def jcu:=@PySem.wpAny_callSpecial?_slot
def jcv:=@Nat.add_sub_cancel_left
def jcw:=@PySem.wpAny_getItem_str_slice
def jcx:=@List.take_of_length_le
def jcy:=@List.mem_of_mem_take
def jcz:=@List.set_append_left
def jcA:=@PySem.wpAny_setEntries_of
def jcB:=@List.findIdx?_eq_some_iff_getElem
def jcC:=@PyProof.Rows.slot_tuple_getitem
def jcD:=@Array.getElem?_setIfInBounds_ne
abbrev jcF:=List (PySem.Addr×PySem.Obj)
abbrev jcG:=PySem.Value->PySem.Shared->Prop
abbrev jcH:=Array (Option PySem.Value)
abbrev jcI:=List PySem.Str
abbrev jcJ:=List PySem.Value
abbrev jcK:=List PySem.Addr
abbrev jcL:=List PySem.Expr
abbrev jcM:=Option PySem.Addr
abbrev jcN:=Option PySem.Value
abbrev jcO:=List Nat
def M{α:Sort u}{a:α}:a=a:=.refl a
variable {s:Shared}{A:Around}{w:World}{K:Frag}
namespace L2
open PySem PySem.Spec PyProof.Rows
abbrev Key:=Sum Int Str
noncomputable def yz:Key->Value->Bool
 |.inl k,v=>Value.isInt k v
 |.inr x,v=>Value.isStrOf x v
noncomputable def a5d (w:World):Key->Int
 |.inl k=>hashInt k
 |.inr x=>hashStr w x
theorem cL:∀{k:Key}{v:Value},yz k v=true->(∃i t,k=Sum.inl i/\v=Value.int i t)\/(∃x t,k=Sum.inr x/\v=Value.str x t)
 |.inl i,v,h=>by
  obtain⟨t,e⟩:=Value.isInt_shape h;exact .inl ⟨i,t,M,e⟩
 |.inr x,v,h=>by
  obtain⟨t,e⟩:=Value.isStrOf_shape h;exact .inr ⟨x,t,M,e⟩
def KI (i:Int)(t:Tok):yz (.inl i) (.int i t)=true:=by simp[yz,Value.isInt]
def KH (x:Str)(t:Tok):yz (.inr x) (.str x t)=true:=by simp[yz,Value.isStrOf]
def Ym (a b:Int):decide ((Sum.inl a:Key)=Sum.inl b)=(a==b):=by
 by_cases e:a=b
 .subst e;simp
 .have h:¬(Sum.inl a:Key)=Sum.inl b:=λq=>e (Sum.inl.inj q);rw[jau h];exact(jbN.mpr e).symm
def Yj (a b:Str):decide ((Sum.inr a:Key)=Sum.inr b)=decide (a=b):=by simp
def Yl (a:Int)(b:Str):decide ((Sum.inl a:Key)=Sum.inr b)=false:=rfl
def Yk (a:Str)(b:Int):decide ((Sum.inr a:Key)=Sum.inl b)=false:=rfl
noncomputable def aI (prog:Program)(w:World):PySem.KeyKind prog w Key where
 is:=yz
 hash:=a5d w
 inj:=λv a b ha hb=>by
  rcases cL ha with⟨i,t,rfl,rfl⟩ | ⟨x,t,rfl,rfl⟩
  .rcases cL hb with⟨j,u,rfl,e⟩ | ⟨y,u,rfl,e⟩
   .injection e with e1 _;rw[e1]
   .exact nomatch e
  .rcases cL hb with⟨j,u,rfl,e⟩ | ⟨y,u,rfl,e⟩
   .exact nomatch e
   .injection e with e1 _;rw[e1]
 byValue:=λk v h=>by
  rcases cL h with⟨i,t,rfl,rfl⟩ | ⟨x,t,rfl,rfl⟩<;>rfl
 pyHash:=λhv h=>by
  rcases cL hv with⟨i,t,rfl,rfl⟩ | ⟨x,t,rfl,rfl⟩
  .exact wpAny_pyHash_int h
  .exact wpAny_pyHash_str h
 eqBool:=λhu hv h=>by
  rcases cL hu with⟨i,t,rfl,rfl⟩ | ⟨x,t,rfl,rfl⟩
  .rcases cL hv with⟨j,u,rfl,rfl⟩ | ⟨y,u,rfl,rfl⟩
   .rw[Ym] at h;exact wpAny_eqBool_int h
   .rw[Yl] at h;exact SeqAt.EqAt.int_str i t y u _ _ _ _ h
  .rcases cL hv with⟨j,u,rfl,rfl⟩ | ⟨y,u,rfl,rfl⟩
   .rw[Yk] at h;exact SeqAt.EqAt.str_int x t j u _ _ _ _ h
   .rw[Yj] at h;exact wpAny_eqBool_str h
 «strs»:=λk x t v h=>by
  rcases cL h with⟨i,u,rfl,e⟩ | ⟨y,u,rfl,e⟩
  .exact nomatch e
  .injection e with e1 _
   subst e1;cases v<;>rfl
def EM (prog:Program)(w:World)(i:Int)(t:Tok):(aI prog w).is (.inl i) (.int i t)=true:=KI i t
def dB (prog:Program)(w:World)(x:Str)(t:Tok):(aI prog w).is (.inr x) (.str x t)=true:=KH x t
set_option genInjectivity true in
inductive V where
 |cP | bl (b:Bool) | int (i:Int) | str (x:Str) | Ls (b:Array UInt8) | YQ (b:UInt64) | ref (a:Addr) | ty (n:String)
 deriving DecidableEq
def RelV:V->Value->Prop
 |.cP,u=>u=Value.none
 |.bl b,u=>u=Value.bool b
 |.int i,u=>∃t,u=Value.int i t
 |.str x,u=>∃t,u=Value.str x t
 |.Ls b,u=>∃t,u=Value.bytes b t
 |.YQ b,u=>∃t,u=Value.float b t
 |.ref a,u=>u=Value.ref a
 |.ty n,u=>u=Value.type n
abbrev Vals:List V->jcJ->Prop:=Paired RelV
def Vals.length {xs:List V}{us:jcJ}(r:Vals xs us):xs.length=us.length:=jbz r
theorem Vals.get:∀{xs:List V}{us:jcJ}{i:Nat}{x:V},Vals xs us->xs[i]?=some x->∃u,us[i]?=some u/\RelV x u
 |_,_,_,_,.nil,e=>by simp at e
 |_,_,0,_,.cons r _,e=>by simp at e;subst e;exact⟨_,M,r⟩
 |_,_,i+1,x,.cons _ t,e=>by
  obtain⟨u,b,a⟩:=Vals.get t (by simpa using e);exact⟨u,by simpa using b,a⟩
theorem Vals.set (r:RelV x u):∀{xs:List V}{us:jcJ}(i:Nat),Vals xs us->Vals (xs.set i x) (us.set i u)
 |_,_,_,.nil=>.nil
 |_,_,0,.cons _ t=>.cons r t
 |_,_,i+1,.cons q t=>.cons q (Vals.set r i t)
theorem Vals.append:∀{xs ys:List V}{us ws:jcJ},Vals xs us->Vals ys ws->Vals (xs++ys) (us++ws)
 |_,_,_,_,.nil,s=>s
 |_,_,_,_,.cons r t,s=>.cons r (Vals.append t s)
theorem Vals.take:∀{xs:List V}{us:jcJ}(n:Nat),Vals xs us->Vals (xs.take n) (us.take n)
 |_,_,0,_=>.nil
 |_,_,_+1,.nil=>.nil
 |_,_,n+1,.cons r t=>.cons r (Vals.take n t)
theorem Vals.drop:∀{xs:List V}{us:jcJ}(n:Nat),Vals xs us->Vals (xs.drop n) (us.drop n)
 |_,_,0,r=>r
 |_,_,_+1,.nil=>.nil
 |_,_,n+1,.cons _ t=>Vals.drop n t
def lQ:Option V->jcN->Prop
 |some v,some u=>RelV v u
 |none,none=>True
 |_,_=>False
noncomputable def KV {κ:Type}:List (κ×V)->List (κ×Value)->Prop:=Paired λp q=>p.1=q.1/\RelV p.2 q.2
noncomputable def kV:Key->V
 |.inl i=>.int i
 |.inr x=>.str x
inductive HO where
 |lst (xs:List V)
 |tup (xs:List V)
 |dK (kvs:List (Key×V)) | dT (kvs:List (List Key×V))
 |set (S:Int->Bool) (n:Nat)
 |ins (C dx:Addr) (fs:List (Str×V))
 |own (x:Addr)
 |xd (fs:List (Str×V))
 |met (f x:Addr)
 |rng (lo hi:Int)
 |FZ (o:Obj) (u:HO)
 |Ut (ps:Array Value)
 |ext (φ:Heap->Prop)
abbrev Hp:=Addr->Option HO
noncomputable def upd (H:Hp)(a:Addr)(o:HO):Hp:=λb=>if b=a then some o else H b
def dM:upd H a o a=some o:=by unfold upd;rw[jaf rfl]
def aY (h:b≠a):upd H a o b=H b:=by unfold upd;rw[jae h]
def QY:upd (upd H a o) a u=upd H a u:=by
 funext b;unfold upd;split<;>rfl
def a1C {H:Hp}{a b:Addr}{o u:HO}(h:H a=some o)(h':H b=some u)(d:o≠u):a≠b:=by
 intro e;subst e;rw[h] at h';exact d (jbc h')
def bL {H:Hp}{a b:Addr}{o:HO}(h:H a=some o)(h':H b=none):a≠b:=by
 intro e;subst e;rw[h] at h';cases h'
section
variable (P:Program)(w:World)
def cz (H:Hp)(h:Heap)(a:Addr):HO->Prop
 |.lst c=>c.length<=sizeLine/\∃(d:jcJ)(n:Nat),Vals c d/\h.get? a=some {cls:=.type "list",data:=.seq d.toArray n }
 |.tup c=>c.length<=sizeLine/\∃d:jcJ,Vals c d/\IsTup h a d.toArray
 |.dK b=>b.length<=sizeLine/\(a==sysModules)=false/\∃g,KV b g/\h.DictOf (aI P w) a g
 |.dT b=>b.length<=sizeLine/\(a==sysModules)=false/\∃c:List (List Key×Addr×Value),
   Paired (λp q=>p.1=q.1/\H q.2.1=some (.tup (p.1.map kV))/\RelV p.2 q.2.2) b c/\
   ∃o i k,h.get? a=some o/\o.ExactDict/\o.data=.dict i k/\i.toList=c.map (entryOfKey (tupleKind (aI P w)))/\(c.map (·.1)).Nodup
 |.set S n=>h.SetOf (intKind P w) a S n
 |.ins C e fs=>H e=some (.own a)/\fs.length<=1000/\e≠a/\h.get? a=some (instObj C e)/\
   ∃mA,h.Ns1 e mA/\(∀f,lQ (fs.lookup f) (mA f))/\PySem.Within mA (fs.map (·.1))
 |.own _=>∃o,h.get? a=some o
 |.xd fs=>∃mA,h.Ns1 a mA/\∀f,lQ (fs.lookup f) (mA f)
 |.rng m j=>∃t u v,h.get? a=some {cls:=.type "range",data:=.fields #[.int m t,.int j u,.int 1 v] }
 |.FZ o u=>h.get? a=some o/\cz H h a u
 |.Ut l=>h.get? a=some {cls:=.none,data:=.fields l }
 |.met f x=>h.get? a=some (PySem.W.methodObj (.ref f) (.ref x))
 |.ext φ=>φ h/\(∃o,h.get? a=some o)/\∀h1 h2:Heap,φ h1->(∀o,h1.get? a=some o->h2.get? a=some o)->φ h2
def nY (H:Hp)(h:Heap):Prop:=∀a o,H a=some o->cz P w H h a o
end
def cz.lt (x:cz P w H h a o):a<h.objs.size:=by
 cases o with
 |lst c=>obtain⟨_,_,_,_,e⟩:=x;exact jal e
 |tup c=>obtain⟨_,_,_,p⟩:=x;exact p.lt
 |dK b=>obtain⟨_,_,_,_,o,_,_,e,_⟩:=x;exact jal e
 |dT b=>obtain⟨_,_,_,_,o,_,_,e,_⟩:=x;exact jal e
 |set S n=>obtain⟨o,_,_,_,e,_⟩:=x;exact jal e
 |ins C d fs=>obtain⟨_,_,_,e,_⟩:=x;exact jal e
 |own y=>obtain⟨_,e⟩:=x;exact jal e
 |xd fs=>obtain⟨_,⟨_,_,_,e,_⟩,_⟩:=x;exact jal e
 |rng i j=>obtain⟨_,_,_,e⟩:=x;exact jal e
 |FZ ob u=>obtain⟨e,_⟩:=x;exact jal e
 |Ut g=>exact jal (show h.get? a=some _ from x)
 |met f y=>exact jal (show h.get? a=some _ from x)
 |ext φ=>obtain⟨_,⟨_,e⟩,_⟩:=x;exact jal e
theorem Paired.X6 {α β:Type}{F G:α->β->Prop}:∀{l₁:List α}{l₂:List β},Paired F l₁ l₂->(∀a b,F a b->G a b)->Paired G l₁ l₂
 |_,_,.nil,_=>.nil
 |_,_,.cons r t,f=>.cons (f _ _ r) (Paired.X6 t f)
theorem cz.stay (x:cz P w H h a o)(k:∀b u,(b=a\/H b=some (.own a))->h.get? b=some u->h'.get? b=some u)
  (E:∀b,H b=some (.own a)->H' b=some (.own a)) (D:∀b xs,H b=some (.tup xs)->H' b=some (.tup xs)):cz P w H' h' a o:=by
 induction o with
 |lst xs=>obtain⟨z,j,n,r,e⟩:=x;exact⟨z,j,n,r,k _ _ (.inl M) e⟩
 |tup xs=>obtain⟨z,j,r,ob,e,c⟩:=x;exact⟨z,j,r,ob,k _ _ (.inl M) e,c⟩
 |dK m=>obtain⟨z,y,F,r,ob,i,g,e,c⟩:=x;exact⟨z,y,F,r,ob,i,g,k _ _ (.inl M) e,c⟩
 |dT m=>
  obtain⟨z,y,xs,r,ob,i,g,e,c⟩:=x;exact⟨z,y,xs,Paired.X6 r λp q z=>⟨z.1,D _ _ z.2.1,z.2.2⟩,ob,i,g,k _ _ (.inl M) e,c⟩
 |set S n=>obtain⟨ob,i,g,t,e,c⟩:=x;exact⟨ob,i,g,t,k _ _ (.inl M) e,c⟩
 |ins C G fs=>
  obtain⟨d,z,ne,e,mA,⟨l,i,g,B,c⟩,r⟩:=x;exact⟨E _ d,z,ne,k _ _ (.inl M) e,mA,⟨l,i,g,k _ _ (.inr d) B,c⟩,r⟩
 |own y=>obtain⟨ob,e⟩:=x;exact⟨ob,k _ _ (.inl M) e⟩
 |xd fs=>obtain⟨mA,⟨l,i,g,e,c⟩,r⟩:=x;exact⟨mA,⟨l,i,g,k _ _ (.inl M) e,c⟩,r⟩
 |rng I J=>obtain⟨t,u,v,e⟩:=x;exact⟨t,u,v,k _ _ (.inl M) e⟩
 |FZ ob u A=>obtain⟨e,q⟩:=x;exact⟨k _ _ (.inl M) e,A q⟩
 |Ut K=>
  have e:=x;exact k a _ (.inl M) e
 |met f y=>
  have e:=x;exact k a _ (.inl M) e
 |ext φ=>obtain⟨p,⟨o,e⟩,s⟩:=x;exact⟨s _ _ p λo q=>k _ _ (.inl M) q,⟨o,k _ _ (.inl M) e⟩,s⟩
def nY.lt (x:nY P w H h)(e:H a=some o):a<h.objs.size:=(x a o e).lt
def nY.fresh (x:nY P w H h)(e:h.objs.size<=a):H a=none:=by
 cases q:H a with
 |none=>rfl
 |some u=>exact absurd (jaL (x.lt q) e) (ja4 _)
theorem nY.kept (x:nY P w H h)(k:∀b u,h.get? b=some u->h'.get? b=some u):nY P w H h':=λa o e=>
 (x a o e).stay (λb u _ q=>k b u q) (λ_ q=>q) λ_ _ q=>q
theorem nY.laid (x:nY P w H h)(k:∀b u,h.get? b=some u->h'.get? b=some u)(g:h.objs.size<=a)(new:cz P w (upd H a o) h' a o):nY P w (upd H a o) h':=λb u e=>by
 have f:=x.fresh g;by_cases d:b=a
 .subst d;rw[dM] at e;cases e;exact new
 .rw[aY d] at e;exact(x b u e).stay (λc v _ q=>k c v q) (λc q=>by rw[aY (bL q f)];exact q) λc i q=>by rw[aY (bL q f)];exact q
def Rd (H:Hp)(a:Addr)(u:HO):Prop:=H a=some u\/∃o,H a=some (.FZ o u)
theorem Rd.ok {P:Program}{w:World}{H:Hp}{h:Heap}{a:Addr}{u:HO}(r:Rd H a u)(x:nY P w H h):cz P w H h a u:=by
 rcases r with r | ⟨o,r⟩
 .exact x a u r
 .obtain⟨_,q⟩:=x a _ r;exact q
def Mut:Option HO->Prop
 |some (.lst _)=>True
 |some (.dK _)=>True
 |some (.dT _)=>True
 |some (.set _ _)=>True
 |some (.ins _ _ _)=>True
 |some (.ext _)=>True
 |_=>False
theorem nY.write (ok:nY P w H h)(d:Mut (H x))(m:e=x\/H e=some (.own x))(k:∀b u,b≠e->h.get? b=some u->h'.get? b=some u)(n:∃u,h'.get? e=some u)
  (new:cz P w (upd H x o') h' x o'):nY P w (upd H x o') h':=λb u q=>by
 have a:∀c y,H c=some (.own y)->c≠x:=λc y r z=>by subst z;rw[r] at d;exact d
 have l:∀c j,H c=some (.tup j)->c≠x:=λc j r z=>by subst z;rw[r] at d;exact d
 by_cases g:b=x
 .subst g;rw[dM] at q;cases q;exact new
 .rw[aY g] at q;by_cases f:b=e
  .have q':H b=some (.own x):=by
    rcases m with z | z
    .exact absurd (f.trans z) g
    .rw[f];exact z
   rw[q] at q';cases q';obtain⟨v,o⟩:=n;exact⟨v,by rw[f];exact o⟩
  .refine(ok b u q).stay (λc v i r=>k c v ?_ r) (λc r=>by rw[aY (a c b r)];exact r) λc j r=>by rw[aY (l c j r)];exact r
   rcases i with rfl | i
   .exact f
   .rintro rfl;rcases m with z | z
    .exact a c b i z
    .rw[i] at z;cases z;exact g rfl
structure Un (fs ex:List Addr)(H H':Hp)(h h':Heap):Prop where
 keep:∀b o,h.get? b=some o->H b=none->b∉fs->b∉ex->h'.get? b=some o
 slot:∀b o,h.get? b=some o->H b=none->b∈fs->b∉ex->∃sl,h'.get? b=some {o with slots:=sl }
 free:∀b o,h.get? b=some o->H b=none->b∉ex->H' b=none
 there:∀b o,h.get? b=some o->b∉ex->∃o',h'.get? b=some o'
 tups:∀b xs,H b=some (.tup xs)->H' b=some (.tup xs)
 nO:∀b o u,H b=some (.FZ o u)->H' b=some (.FZ o u)
 oS:∀b ps,H b=some (.Ut ps)->∃more,H' b=some (.Ut (ps++more))
def Un.any (u:Un fs ex H H1 h h1)(q:h.get? b=some ob)(n:H b=none)(a:b∉ex):∃sl,h1.get? b=some {ob with slots:=sl }:=by
 by_cases c:b∈fs
 .exact u.slot b ob q n c a
 .exact⟨ob.slots,u.keep b ob q n c a⟩
theorem Un.kept (k:∀b u,h.get? b=some u->h'.get? b=some u):Un fs ex H H h h':=
 ⟨λb ob q _ _ _=>k b ob q,λb ob q _ _ _=>⟨ob.slots,k b ob q⟩,λ_ _ _ n _=>n,λb ob q _=>⟨ob,k b ob q⟩,λ_ _ q=>q,λ_ _ _ q=>q,λ_ a q=>⟨#[],by rw[q];simp⟩⟩
def Un.refl:Un fs ex H H h h:=Un.kept λ_ _ q=>q
theorem Un.laid (k:∀b u,h.get? b=some u->h'.get? b=some u)(hp:h.objs.size<=a)(hn:H a=none):Un fs ex H (upd H a o) h h' where
 keep:=λb u q _ _ _=>k b u q
 slot:=λb u q _ _ _=>⟨u.slots,k b u q⟩
 free:=λb u q n _=>by rw[aY (jax (jaL (jal q) hp))];exact n
 there:=λb u q _=>⟨u,k b u q⟩
 tups:=λb xs q=>by rw[aY (bL q hn)];exact q
 nO:=λb u xs q=>by rw[aY (bL q hn)];exact q
 oS:=λb ps q=>⟨#[],by rw[aY (bL q hn),q];simp⟩
def Un.write (a:Mut (H x))(l:e=x\/H e=some (.own x))(k:∀b u,b≠e->h.get? b=some u->h'.get? b=some u)(i:∃u,h'.get? e=some u):Un fs ex H (upd H x o) h h':=by
 have g:∀b,H b=none->b≠x:=λb n z=>by subst z;rw[n] at a;exact a
 have f:∀b,H b=none->b≠e:=λb n z=>by
  subst z;rcases l with r | r
  .exact g b n r
  .rw[n] at r;cases r
 have c:∀b u,H b=some u->¬ Mut (some u)->b≠x:=λb u q j z=>by subst z;rw[q] at a;exact j a
 refine⟨λb u q n _ _=>k b u (f b n) q,λb u q n _ _=>⟨u.slots,k b u (f b n) q⟩,λb u q n _=>by rw[aY (g b n)];exact n,λb u q _=>?_,
  λb m q=>by rw[aY (c b _ q λz=>z)];exact q,λb u m q=>by rw[aY (c b _ q λz=>z)];exact q,λb p q=>⟨#[],by rw[aY (c b _ q λz=>z),q];simp⟩⟩
 by_cases d:b=e
 .subst d;exact i
 .exact⟨u,k b u d q⟩
noncomputable def trk (h:Heap)(H:Hp):jcK:=(List.range h.objs.size).filter λa=>(H a).isSome
noncomputable def E2 (h:Heap)(H:Hp):Heap:=PySem.W.hideAll h (trk h H)
def KQ (h:Heap)(H:Hp):(E2 h H).objs.size=h.objs.size:=PySem.W.hideAll_size _ _
theorem OT (e:h.get? b=some o)(n:H b=none):(E2 h H).get? b=some o:=
 PySem.W.hideAll_get _ e λa=>by
  have q:=(jb5.mp a).2;rw[n] at q;simp at q
def SD (e:(E2 h H).get? b=some o):h.get? b=some o/\H b=none:=by
 have a:=PySem.W.of_hideAll (trk h H) e;refine⟨a,?_⟩;cases q:H b with
 |none=>rfl
 |some x=>
  have c:b∈trk h H:=jb5.mpr ⟨jbU.mpr (jal a),by simp[q]⟩;have z:(E2 h H).get? b=none:=PySem.W.hideAll_none (trk h H) c;rw[z] at e;cases e
structure Mod (K:Frag)(mg:Str->Option Value)(base:Heap):Prop where
 S8:K.In base
 glob:base.Ns mainGlobals mg
 blt:∃mb,base.Ns builtinsNs mb/\∀x:Str,x≠"__name__"->mb x=bootBuiltins x
 nolimit:base.NoLimit
structure Cx where
 prog:Program
 w:World
 K:Frag
 mg:Str->Option Value
 base:Heap
 A:Around
 N:List Str
 s₀:Shared
 H₀:Hp
 env:Env
 outer:List Env
 stack:List Env
 ex:List Addr
 fn:Str->Bool
 calm:Bool
 pn:List (Addr×Obj)
 xe:Value->Shared->Prop
end L2
variable {X:L2.Cx}
namespace L2
open PySem PySem.Spec PyProof.Rows
noncomputable def frs (l:List Env):jcK:=l.filterMap (·.frame)
abbrev Cx.fs (X:Cx):jcK:=frs X.outer
def ZZ (sc:Scope)(x:Str):Prop:=sc.names.lookup x=some .local\/sc.names.lookup x=some .cell\/sc.names.lookup x=some .free
def Loc (sc:Scope)(x:Str):Prop:=sc.names.lookup x=some .local\/sc.names.lookup x=some .cell
def Look (env:Env)(h:Heap)(m:Str->jcN)(x:Str)(u:Value):Prop:=
 (env.kindOf x=some .local/\m x=some u)\/((env.kindOf x=some .cell\/env.kindOf x=some .free)/\∃c,env.cells.lookup x=some c/\h.IsCell c (some u))
structure Cx.Ok (X:Cx):Prop where
 mod:Mod X.K X.mg X.base
 kind:X.env.scope.kind=.function
 glob:X.env.globals=mainGlobals
 blt:X.env.builtins=builtinsNs
 above:X.s₀.heap.objs.size<=X.env.locals
 inj:∀x y c,X.env.cells.lookup x=some c->X.env.cells.lookup y=some c->x=y
 has:∀x,(X.env.kindOf x=some .cell\/X.env.kindOf x=some .free)->∃c,X.env.cells.lookup x=some c
 VL:∀x c,X.fn x=true->X.env.cells.lookup x=some c->X.s₀.heap.objs.size<=c
 hd:X.calm=true->X.A.handled=none
 frames:X.A.frames=some X.stack
 stk:X.stack=X.outer\/(X.stack=X.env::X.outer/\X.env.frame=some X.env.locals)
 YU:∀b∈X.ex,b≠X.env.locals/\∀x c,X.env.cells.lookup x=some c->c≠b
 bs:∀b o,X.base.get? b=some o->X.s₀.heap.get? b=some o/\X.H₀ b=none
 Jy:X.base.objs.size<=X.s₀.heap.objs.size
 EI:∀b o,X.base.get? b=some o->b∉X.ex
 E7:∀b∈X.ex,b∉X.fs
 qo:X.s₀.heap.FunFrames X.base X.outer
 Qu:∀b∈X.fs,X.H₀ b=none
end L2
variable {X:L2.Cx}
namespace L2
open PySem PySem.Spec PyProof.Rows
structure Inv (X:Cx)(vy:List (Addr×Obj))(U:List (Option V))(H:Hp)(s:Shared):Prop where
 ok:X.Ok
 os:s.os=X.s₀.os
 bare:AllBare s.gens
 base:Un X.fs X.ex X.H₀ H X.s₀.heap s.heap
 loc:∃m,s.heap.Ns X.env.locals m/\∀(i:Nat)(x:Str)(v:V),X.N[i]?=some x->U[i]?=some (some v)->ZZ X.env.scope x->∃u,RelV v u/\Look X.env s.heap m x u
 cell:∀x c,X.env.cells.lookup x=some c->∃v,s.heap.IsCell c v
 free:H X.env.locals=none
 iO:∀x c,X.env.cells.lookup x=some c->H c=none
 pin:∀p∈X.pn++vy,s.heap.get? p.1=some p.2/\H p.1=none/\p.1≠X.env.locals/\p.1∉X.fs/\∀v,p.2.data≠.cell v
 hok:nY X.prog X.w H s.heap
 len:U.length=X.N.length
theorem Cx.Ok.a43 (ok:X.Ok)(e:X.base.get? b=some o):b∉X.fs:=λa=>by
 have:=(ok.qo.mem a).1;rw[e] at this;cases this
theorem Inv.bs (I:Inv X vy U H s):∀b o,X.base.get? b=some o->s.heap.get? b=some o/\H b=none:=λb o e=>
 ⟨I.base.keep b o (I.ok.bs b o e).1 (I.ok.bs b o e).2 (I.ok.a43 e) (I.ok.EI b o e),I.base.free b o (I.ok.bs b o e).1 (I.ok.bs b o e).2 (I.ok.EI b o e)⟩
def Inv.bk (I:Inv X vy U H s):∀b o,X.base.get? b=some o->s.heap.get? b=some o:=λb o e=>(I.bs b o e).1
def Inv.mod (I:Inv X vy U H s):Mod X.K X.mg X.base:=I.ok.mod
def Inv.mE (I:Inv X vy U H s):X.K.In s.heap:=I.ok.mod.S8.keeps I.bk
theorem Inv.fr (I:Inv X vy U H s):∃m,Fr X.base X.env.locals s.heap m:=
 let⟨m,hn,_⟩:=I.loc
 ⟨m,hn,I.bk,jai I.ok.Jy I.ok.above⟩
def Inv.lt (I:Inv X vy U H s):X.env.locals<s.heap.objs.size:=let⟨_,hn,_⟩:=I.loc;hn.lt
def Inv.sz (I:Inv X vy U H s):X.s₀.heap.objs.size<=s.heap.objs.size:=jai I.ok.above (jbj I.lt)
theorem Inv.a1x (I:Inv X vy U H s)(h:s.heap.objs.size<=a):a∉X.fs:=λc=>by
 obtain⟨_,o,b,_⟩:=I.ok.qo.mem c;exact absurd (jaL (jal b) (jai I.sz h)) (ja4 _)
theorem Inv.VG (I:Inv X vy U H s):∀x c,X.env.cells.lookup x=some c->c≠X.env.locals:=λx c e z=>by
 obtain⟨v,o,d,hd⟩:=I.cell x c e;obtain⟨m,⟨g,h,f,b,a,_⟩,_⟩:=I.loc;rw[z,b] at d;cases d;rw[a] at hd;cases hd
def Inv.qo (I:Inv X vy U H s):s.heap.FunFrames X.base X.outer:=by
 have all:∀(l:List Env),(∀b∈frs l,b∈X.fs)->X.s₀.heap.FunFrames X.base l->s.heap.FunFrames X.base l:=by
  intro l
  induction l with
  |nil=>intro _ _;trivial
  |cons env r i=>
   intro f k;obtain⟨hk,⟨L,o,a,h,j,hd⟩,g⟩:=k;have c:=f L (by unfold frs;rw[jba,a];exact jay);obtain⟨m,e⟩:=I.base.slot L o j (I.ok.Qu L c) c λz=>I.ok.E7 L z c;exact⟨hk,⟨L,_,a,h,e,hd⟩,i (λb d=>f b (by unfold frs;rw[jba,a];exact jav _ d)) g⟩
 exact all X.outer (λ_ d=>d) I.ok.qo
def Inv.stack (I:Inv X vy U H s):s.heap.FunFrames X.base X.stack:=by
 rcases I.ok.stk with e | ⟨e,b⟩
 .rw[e];exact I.qo
 .rw[e];obtain⟨m,a,_⟩:=I.loc;refine .cons (by rw[I.ok.kind];decide) b a ?_ I.qo;exact Heap.get?_none_of_le (jai I.ok.Jy I.ok.above)
theorem Inv.BA (I:Inv X vy U H s):∀b∈frs X.stack,b∈X.env.locals::X.fs:=λb a=>by
 rcases I.ok.stk with e | ⟨e,c⟩
 .rw[e] at a;exact jav _ a
 .rw[e] at a;unfold frs at a;rw[jba,c] at a;exact a
theorem Inv.oi (I:Inv X vy U H s):∀b∈frs X.stack,H b=none:=λb a=>by
 rcases jah.mp (I.BA b a) with e | a
 .rw[e];exact I.free
 .obtain⟨_,o,ho,_⟩:=I.ok.qo.mem a;exact I.base.free b o ho (I.ok.Qu b a) λz=>I.ok.E7 b z a
theorem Inv.step {U:List (Option V)}{H:Hp}{H':Hp}{s:Shared}{h':Heap}{g':Array GenState}{t':Nat}{d':Drawn}{ch:jcK}(I:Inv X vy U H s)
  (f:∀b∈ch,(b∈X.ex\/X.s₀.heap.objs.size<=b)/\b≠X.env.locals/\(∀x c,X.env.cells.lookup x=some c->c≠b)/\∀p∈X.pn++vy,p.1≠b)
  (h:∀b o,b≠X.env.locals->b∉X.fs->b∉ch->s.heap.get? b=some o->H b=none->h'.get? b=some o)
  (A:∀b o,b≠X.env.locals->b∈X.fs->b∉ch->s.heap.get? b=some o->H b=none->∃sl,h'.get? b=some {o with slots:=sl }) (free:∀b o,b∉ch->s.heap.get? b=some o->H b=none->H' b=none)
  (B:∀b o,b∉ch->s.heap.get? b=some o->∃o',h'.get? b=some o')
  (E:∀b xs,H b=some (.tup xs)->H' b=some (.tup xs)) (P:∀b o u,H b=some (.FZ o u)->H' b=some (.FZ o u)) (Q:∀b ps,H b=some (.Ut ps)->∃more,H' b=some (.Ut (ps++more)))
  (ns:∀m,s.heap.Ns X.env.locals m->h'.Ns X.env.locals m) (K:nY X.prog X.w H' h') (O:AllBare g') :
  Inv X vy U H' {s with heap:=h',gens:=g',drawn:=d',toks:=t' }:=by
 have F:∀b o,X.s₀.heap.get? b=some o->b≠X.env.locals:=λb o e=>jax (jaL (jal e) I.ok.above);have y:∀b o,X.s₀.heap.get? b=some o->b∉X.ex->b∉ch:=λb o e a C=>by
  rcases(f b C).1 with z | z
  .exact a z
  .exact absurd (jaL (jal e) z) (ja4 _)
 have j:∀x c,X.env.cells.lookup x=some c->∀v,s.heap.IsCell c v->h'.IsCell c v:=(by
  rintro x c e v ⟨o,D,hd⟩;have g:=λz=>(f c z).2.2.1 x c e rfl;by_cases N:c∈X.fs
  .obtain⟨sl,q⟩:=A c o (I.VG x c e) N g D (I.iO x c e);exact⟨_,q,hd⟩
  .exact⟨o,h c o (I.VG x c e) N g D (I.iO x c e),hd⟩)
 refine⟨I.ok,I.os,O,⟨λb o e n C a=>?_,λb o e n C a=>?_,λb o e n a=>?_,λb o e a=>?_,λb xs e=>E b xs (I.base.tups b xs e),λb o xs e=>P b o xs (I.base.nO b o xs e),λb ps e=>?_⟩,?_,λx c e=>?_,?_,λx c e=>?_,λp L=>?_,K,I.len⟩
 .exact h b o (F b o e) C (y b o e a) (I.base.keep b o e n C a) (I.base.free b o e n a)
 .obtain⟨sl,t⟩:=I.base.slot b o e n C a;obtain⟨J,G⟩:=A b _ (F b o e) C (y b o e a) t (I.base.free b o e n a);exact⟨J,G⟩
 .obtain⟨o',t⟩:=I.base.there b o e a;exact free b o' (y b o e a) t (I.base.free b o e n a)
 .obtain⟨o',t⟩:=I.base.there b o e a;exact B b o' (y b o e a) t
 .obtain⟨m1,t⟩:=I.base.oS b ps e;obtain⟨S,G⟩:=Q b _ t;exact⟨m1++S,by rw[G,jck]⟩
 .obtain⟨m,hn,hl⟩:=I.loc;refine⟨m,ns m hn,λi x v t G R=>?_⟩;obtain⟨u,r,l⟩:=hl i x v t G R;refine⟨u,r,?_⟩;rcases l with l | ⟨k,c,e,z⟩
  .exact .inl l
  .exact .inr ⟨k,c,e,j x c e _ z⟩
 .obtain⟨v,z⟩:=I.cell x c e;exact⟨v,j x c e v z⟩
 .obtain⟨m,⟨o,_,_,D,_⟩,_⟩:=I.loc;exact free _ o (λz=>(f _ z).2.1 M) D I.free
 .obtain⟨v,o,D,hd⟩:=I.cell x c e;exact free c o (λz=>(f c z).2.2.1 x c e M) D (I.iO x c e)
 .obtain⟨e,n,ne,nf,d⟩:=I.pin p L;have g:=λz=>(f p.1 z).2.2.2 p L rfl;exact⟨h p.1 p.2 ne nf g e n,free p.1 p.2 g e n,ne,nf,d⟩
def Inv.un (I:Inv X vy U H s)(u:Un X.fs [] H H' s.heap h')(f:nY X.prog X.w H' h'):Inv X vy U H' {s with heap:=h',toks:=t' }:=by
 obtain⟨m,⟨o,v,q,h,r⟩,_⟩:=id I.loc;obtain⟨p,k⟩:=u.any h I.free (by simp);exact I.step (g':=s.gens) (d':=s.drawn) (ch:=[]) (λ_ z=>nomatch z) (λb o _ g _ e n=>u.keep b o e n g (by simp)) (λb o _ g _ e n=>u.slot b o e n g (by simp)) (λb o _ e n=>u.free b o e n (by simp)) (λb o _ e=>u.there b o e (by simp)) u.tups u.nO u.oS (λl j=>by
  obtain⟨t,d,c,a,i⟩:=j;rw[h] at a;cases a;exact⟨_,d,c,k,i⟩) f I.bare
theorem Inv.call (I:Inv X vy U H s)(u:Un (frs X.stack) ch H H' s.heap h')(j:nY X.prog X.w H' h')(q:AllBare g')
  (d:∀b∈ch,(b∈X.ex\/X.s₀.heap.objs.size<=b)/\b≠X.env.locals/\(∀x c,X.env.cells.lookup x=some c->c≠b)/\∀p∈X.pn++vy,p.1≠b) :
  Inv X vy U H' {s with heap:=h',gens:=g',drawn:=d',toks:=t' }:=by
 obtain⟨m,⟨o,D,B,k,r⟩,_⟩:=id I.loc;obtain⟨A,i⟩:=u.any k I.free λz=>(d _ z).2.1 rfl;exact I.step d (λb o i v a e n=>u.keep b o e n (λz=>(jah.mp (I.BA b z)).elim i v) a) (λb o _ _ a e n=>u.any e n a) (λb o a e n=>u.free b o e n a) (λb o a e=>u.there b o e a) u.tups u.nO u.oS (λy t=>by
  obtain⟨C,h,g,f,l⟩:=t;rw[k] at f;cases f;exact⟨_,h,g,i,l⟩) j q
theorem Inv.turned (I:Inv X vy U H s)(k:∀b o,b≠a->s.heap.get? b=some o->h'.get? b=some o)(h:H a=none)(g:a≠X.env.locals)
  (j:a∈X.ex\/X.s₀.heap.objs.size<=a) (l:∀x c,X.env.cells.lookup x=some c->c≠a) (t:∀p∈X.pn++vy,p.1≠a):Inv X vy U H {s with heap:=h',toks:=t' }:=by
 have f:∀b u,H b=some u->b≠a:=λb u e z=>by rw[z,h] at e;cases e
 refine I.step (g':=s.gens) (d':=s.drawn) (ch:=[a]) (λb w=>?_) (λb o _ _ d e _=>k b o (λz=>d (by simp[z])) e) (λb o _ _ d e _=>⟨o.slots,k b o (λz=>d (by simp[z])) e⟩) (λ_ _ _ _ n=>n)
  (λb o d e=>⟨o,k b o (λz=>d (by simp[z])) e⟩) (λ_ _ e=>e) (λ_ _ _ e=>e) (λb y e=>⟨#[],by rw[e];simp⟩) (λm i=>?_) (λb u e=>?_) I.bare
 .have e:b=a:=by simpa using w
  subst e;exact⟨j,g,l,t⟩
 .obtain⟨o,es,ep,ho,r⟩:=i;exact⟨o,es,ep,k _ o (jaE g) ho,r⟩
 .refine(I.hok b u e).stay (λc v d q=>k c v ?_ q) (λ_ q=>q) λ_ _ q=>q;rcases d with z | z
  .rw[z];exact f b u e
  .exact f c _ z
def Inv.tok (I:Inv X vy U H s)(t:Nat):Inv X vy U H {s with toks:=t }:=I.un (h':=s.heap) (t':=t) Un.refl I.hok
def Inv.kept (I:Inv X vy U H s)(k:∀b u,s.heap.get? b=some u->h'.get? b=some u):Inv X vy U H {s with heap:=h',toks:=t' }:=I.un (Un.kept k) (I.hok.kept k)
theorem Inv.laid (I:Inv X vy U H s)(k:∀b u,s.heap.get? b=some u->h'.get? b=some u)(c:s.heap.objs.size<=a)(new:cz X.prog X.w (upd H a o) h' a o) :
  Inv X vy U (upd H a o) {s with heap:=h',toks:=t' }:=I.un (Un.laid k c (I.hok.fresh c)) (I.hok.laid k c new)
theorem Inv.write (I:Inv X vy U H s)(a:Mut (H x))(d:e=x\/H e=some (.own x))(k:∀b u,b≠e->s.heap.get? b=some u->h'.get? b=some u)(c:∃u,h'.get? e=some u)
  (new:cz X.prog X.w (upd H x o) h' x o):Inv X vy U (upd H x o) {s with heap:=h',toks:=t' }:=I.un (Un.write a d k c) (I.hok.write a d k c new)
theorem Inv.weak (I:Inv X vy U H s)(c:a.length=U.length)(w:∀(i:Nat) v,a[i]?=some (some v)->U[i]?=some (some v)):Inv X vy a H s:=
 ⟨I.ok,I.os,I.bare,I.base,let⟨m,hn,hl'⟩:=I.loc;⟨m,hn,λi x v e b d=>hl' i x v e (w i v b) d⟩,I.cell,I.free,I.iO,I.pin,I.hok,c.trans I.len⟩
theorem Inv.vZ (I:Inv X vy U H s)(h:∀p∈l7,s.heap.get? p.1=some p.2/\H p.1=none/\p.1≠X.env.locals/\p.1∉X.fs/\∀v,p.2.data≠.cell v):Inv X l7 U H s:=
 ⟨I.ok,I.os,I.bare,I.base,I.loc,I.cell,I.free,I.iO,λp a=>(jan.mp a).elim (λz=>I.pin p (jaA _ z)) (h p),I.hok,I.len⟩
def EJ {N:jcI}(d:N.Nodup){i j:Nat}{x:Str}(a:N[i]?=some x)(b:N[j]?=some x):i=j:=by
 obtain⟨g,c⟩:=jar.mp a;obtain⟨f,e⟩:=jar.mp b;exact(List.getElem_inj d).mp (c.trans e.symm)
theorem sS (I:Inv X vy U H s)(hN:X.N.Nodup)(D:X.N[i]?=some x)(t:Loc X.env.scope x)(r:RelV v u)
  (h:∀s',Inv X vy (U.set i (some v)) H s'->(∃a,Heap.SameBut a s.heap s'.heap/\(a=X.env.locals\/X.env.cells.lookup x=some a))->Q () s') (hf:autoParam (X.fn x=true\/X.env.scope.names.lookup x=some .local) zt):wpAny jcE A (storeName X.env x u) Q E s:=by
 obtain⟨m,T,hl⟩:=id I.loc;have K:(X.env.scope.kind ==.class||(X.env.scope.kind ==.module&&X.env.locals !=X.env.globals))=false:=by rw[I.ok.kind];rfl
 have Dσ:i<U.length:=by rw[I.len];exact(jar.mp D).1
 have VG:=I.VG;have tracked:∀{a:Addr}{G:Heap},(∃o,s.heap.get? a=some o/\H a=none)->Heap.SameBut a s.heap G->nY X.prog X.w H G:=λ{a G} ha f b ob e=>by
  obtain⟨_,_,B⟩:=ha;refine(I.hok b ob e).stay (λc P l q=>(f.2 c ?_).trans q) (λ_ q=>q) λ_ _ q=>q;rintro rfl;rcases l with rfl | l
  .rw[B] at e;cases e
  .rw[B] at l;cases l
 rcases t with hk | hk
 .refine wpAny_storeName_local hk T (λG hn' f=>?_) K;obtain⟨oL,_,_,S,_⟩:=id T;refine h _ ⟨I.ok,I.os,I.bare,⟨λb o e n F t=>?_,λb o e n F t=>?_,I.base.free,λb o e t=>?_,I.base.tups,I.base.nO,I.base.oS⟩,⟨_,hn',λj y R g C e3=>?_⟩,λy c e=>?_,I.free,I.iO,λp Y=>?_,tracked ⟨oL,S,I.free⟩ f,by simpa using I.len⟩ ⟨_,f,.inl M⟩
  .exact(f.2 b (jax (jaL (jal e) I.ok.above))).trans (I.base.keep b o e n F t)
  .obtain⟨sl,g⟩:=I.base.slot b o e n F t;exact⟨sl,(f.2 b (jax (jaL (jal e) I.ok.above))).trans g⟩
  .obtain⟨o',g⟩:=I.base.there b o e t;exact⟨o',(f.2 b (jax (jaL (jal e) I.ok.above))).trans g⟩
  .by_cases hj:j=i
   .subst hj;rw[D] at g;cases g;rw[jaG Dσ] at C;cases C;exact⟨u,r,.inl ⟨hk,by simp⟩⟩
   .rw[jbl (jaE hj)] at C;obtain⟨Z,r',q⟩:=hl j y R g C e3;refine⟨Z,r',?_⟩;rcases q with⟨k,e⟩ | ⟨k,c,e,z⟩
    .refine .inl ⟨k,?_⟩;have:y≠x:=λe=>hj (EJ hN g (e ▸ D));simp[this,e]
    .exact .inr ⟨k,c,e,z.sameBut f (VG y c e)⟩
  .obtain⟨P,z⟩:=I.cell y c e;exact⟨P,z.sameBut f (VG y c e)⟩
  .obtain⟨e,n,ne,nf,d⟩:=I.pin p Y;exact⟨(f.2 p.1 ne).trans e,n,ne,nf,d⟩
 .have hfn:X.fn x=true:=by
   rcases hf with z | z
   .exact z
   .rw[z] at hk;cases hk
  obtain⟨c,l⟩:=I.ok.has x (.inl hk);obtain⟨P,z⟩:=I.cell x c l;refine wpAny_storeName_cell I.ok.kind hk l z (λG L f=>?_);obtain⟨oc,J,W⟩:=id z;refine h {s with heap:=G } ⟨I.ok,I.os,I.bare,⟨λb o e n F t=>?_,λb o e n F t=>?_,I.base.free,λb o e t=>?_,I.base.tups,I.base.nO,I.base.oS⟩,⟨m,T.sameBut f (jaE (VG x c l)),λj y R g C e3=>?_⟩,λy O e=>?_,I.free,I.iO,λp Y=>?_,tracked ⟨oc,J,I.iO x c l⟩ f,by simpa using I.len⟩ ⟨c,f,.inr l⟩
  .exact(f.2 b (jax (jaL (jal e) (I.ok.VL x c hfn l)))).trans (I.base.keep b o e n F t)
  .obtain⟨sl,g⟩:=I.base.slot b o e n F t;exact⟨sl,(f.2 b (jax (jaL (jal e) (I.ok.VL x c hfn l)))).trans g⟩
  .obtain⟨o',g⟩:=I.base.there b o e t;exact⟨o',(f.2 b (jax (jaL (jal e) (I.ok.VL x c hfn l)))).trans g⟩
  .by_cases hj:j=i
   .subst hj;rw[D] at g;cases g;rw[jaG Dσ] at C;cases C;exact⟨u,r,.inr ⟨.inl hk,c,l,L⟩⟩
   .rw[jbl (jaE hj)] at C;obtain⟨Z,r',q⟩:=hl j y R g C e3;refine⟨Z,r',?_⟩;rcases q with q | ⟨k,O,e,z'⟩
    .exact .inl q
    .refine .inr ⟨k,O,e,z'.sameBut f ?_⟩;rintro rfl;exact hj (EJ hN g (I.ok.inj _ _ _ e l ▸ D))
  .by_cases hcc:O=c
   .subst hcc;exact⟨_,L⟩
   .obtain⟨w2,z2⟩:=I.cell y O e;exact⟨w2,z2.sameBut f hcc⟩
  .obtain⟨e,n,ne,nf,d⟩:=I.pin p Y;refine⟨(f.2 p.1 ?_).trans e,n,ne,nf,d⟩;intro q;rw[q,J] at e;have q':=jbc e;exact d P (by rw[<- q'];exact W)
theorem DH (I:Inv X vy U H s)(d:X.N.Nodup)(c:X.N[i]?=some x)(e:Loc X.env.scope x)(r:RelV v u)
  (h:∀s',Inv X vy (U.set i (some v)) H s'->Q () s') (a:autoParam (X.fn x=true\/X.env.scope.names.lookup x=some .local) zt):wpAny jcE A (storeName X.env x u) Q E s:=
 sS I d c e r (λs' b _=>h s' b) a
theorem Inv.VJ (I:Inv X vy U H s)(f:s'.os=s.os)(u:Un (frs X.stack) ch H H' s.heap s'.heap)(d:nY X.prog X.w H' s'.heap)(g:AllBare s'.gens)
  (a:∀b∈ch,(b∈X.ex\/X.s₀.heap.objs.size<=b)/\b≠X.env.locals/\(∀x c,X.env.cells.lookup x=some c->c≠b)/\∀p∈X.pn++vy,p.1≠b):Inv X vy U H' s':=by
 obtain⟨h,g',d',t',i⟩:=s';have e:=f;subst e;exact I.call (g':=g') (t':=t') (d':=d') u d g a
abbrev XK:=Value->jcM->Hp->Prop
abbrev St:=List (Option V)
abbrev VK:=V->Hp->Prop
abbrev TE:=St->Hp->VK->Prop
abbrev TT:=St->Hp->(Bool->Hp->Prop)->Prop
abbrev TA:=St->Hp->(List V->Hp->Prop)->Prop
structure Ends where
 nx:St->Hp->Prop
 rt:VK
 bk:St->Hp->Prop:=λ_ _=>False
 ct:St->Hp->Prop:=λ_ _=>False
abbrev TS:=Ends->St->Hp->Prop
def EP (X:Cx)(b:jcF)(U:St)(Q:VK)(u:Value)(s':Shared):Prop:=∃v a,Inv X b U a s'/\RelV v u/\Q v a
def TP (X:Cx)(c:jcF)(U:St)(Q:Bool->Hp->Prop)(b:Bool)(s':Shared):Prop:=∃a,Inv X c U a s'/\Q b a
def AP (X:Cx)(c:jcF)(U:St)(Q:List V->Hp->Prop)(us:jcJ)(s':Shared):Prop:=∃b a,Inv X c U a s'/\Vals b us/\Q b a
def SP (X:Cx)(c:jcF)(D:Ends)(f:Flow)(s':Shared):Prop:=
 match f with
 |.next=>∃b a,Inv X c b a s'/\D.nx b a
 |.brk=>∃b a,Inv X c b a s'/\D.bk b a
 |.cont=>∃b a,Inv X c b a s'/\D.ct b a
 |.ret u=>∃v b a,Inv X c b a s'/\RelV v u/\D.rt v a
def PE (X:Cx)(e:Expr)(t:TE):Prop:=
 ∀(vy:jcF) (s:Shared) (U:St) (H:Hp) (Q:VK),Inv X vy U H s->t U H Q->wpAny (model X.prog X.w) X.A (eval e X.env) (EP X vy U Q) X.xe s
def PT (X:Cx)(e:Expr)(t:TT):Prop:=
 ∀(vy:jcF) (s:Shared) (U:St) (H:Hp) (Q:Bool->Hp->Prop),Inv X vy U H s->t U H Q->wpAny (model X.prog X.w) X.A (isTrue e X.env (eval e X.env)) (TP X vy U Q) X.xe s
def PW (X:Cx)(e:Expr)(t:TT):Prop:=
 ∀(whole:Sem Value)(vy:jcF) (s:Shared) (U:St) (H:Hp) (Q:Bool->Hp->Prop),Inv X vy U H s->t U H Q->wpAny (model X.prog X.w) X.A (isTrue e X.env whole) (TP X vy U Q) X.xe s
def PW.pt (h:PW X e t):PT X e t:=h _
def PA (X:Cx)(a:jcL)(t:TA):Prop:=
 ∀(pos:Pos)(vy:jcF) (s:Shared) (U:St) (H:Hp) (Q:List V->Hp->Prop),Inv X vy U H s->t U H Q->wpAny (model X.prog X.w) X.A (spliced (backTo pos (starEach a X.env))) (AP X vy U Q) X.xe s
def PS (X:Cx)(st:Stmt)(t:TS):Prop:=
 ∀(vy:jcF) (s:Shared) (U:St) (H:Hp) (D:Ends),Inv X vy U H s->t D U H->wpAny (model X.prog X.w) X.A (exec st X.env) (SP X vy D) X.xe s
def Bp (X:Cx)(st:List Stmt)(t:TS):Prop:=
 ∀(vy:jcF) (s:Shared) (U:St) (H:Hp) (D:Ends),Inv X vy U H s->t D U H->wpAny (model X.prog X.w) X.A (execs st X.env) (SP X vy D) X.xe s
def dF (h:wpAny jcE A t Q E s)(c:∀a s,Q a s->b a s):wpAny jcE A t b E s:=jaS h c λ_ _ x=>x
def a0i (i:Nat):TE:=λU H Q=>∃v,U[i]?=some (some v)/\Q v H
def tC (v:V):TE:=λ_ H Q=>Q v H
def NL (o:X.N[i]?=some x)(n:ZZ X.env.scope x)(hd:autoParam ((x==("__debug__":Str))=false) zn)(b:autoParam ((x==("__classdict__":Str))=false) zn):PE X (.Name x pos) (a0i i):=by
 intro f s U H Q I h;obtain⟨v,e,h⟩:=h;obtain⟨m,g,k⟩:=I.loc;obtain⟨u,r,l⟩:=k i x v o e n;have fin:EP X f U Q u s:=⟨v,H,I,r,h⟩
 rcases l with⟨hk,j⟩ | ⟨hk,c,d,a⟩
 .exact wpAny_Name (wpAny_loadName_local I.ok.kind hk g j fin) hd
 .rcases hk with hk | hk
  .exact wpAny_Name (wpAny_loadName_cell I.ok.kind hk d a fin) hd
  .exact wpAny_Name (wpAny_loadName_free I.ok.kind hk d a fin b) hd
def Xk {i j pos}:PE X (.Constant (.int i) j pos) (tC (.int i)):=λ_ _ _ H _ I h=>wpAny_Constant_int ⟨.int i,H,I.tok _,⟨_,M⟩,h⟩
def a1h {b j pos}:PE X (.Constant (.bool b) j pos) (tC (.bl b)):=λ_ _ _ H _ I h=>Constant_bool ⟨.bl b,H,I,M,h⟩
def Xj {j pos}:PE X (.Constant .none j pos) (tC .cP):=λ_ _ _ H _ I h=>Constant_none ⟨.cP,H,I,M,h⟩
def BQ {x j pos}:PE X (.Constant (.str x) j pos) (tC (.str x)):=λ_ _ _ H _ I h=>Calls.Constant_str ⟨.str x,H,I.tok _,⟨_,M⟩,h⟩
def Gl (X:Cx)(x:Str):Prop:=X.env.kindOf x=some .globalImplicit
theorem lJ (I:Inv X a U H s)(b:Gl X x)(c:X.mg x=some u)(h:Q u s)
  (hd:autoParam ((x==("__debug__":Str))=false) zn):wpAny (model X.prog X.w) X.A (eval (.Name x pos) X.env) Q E s:=
 Calls.Name_function_global I.ok.kind b (Calls.loadGlobal_global (by rw[I.ok.glob];exact I.mod.glob.keeps I.bk) c h) hd
theorem yy (I:Inv X c U H s)(d:Gl X x)(g:X.mg x=none)(e:bootBuiltins x=some u)(h:Q u s)
  (f:autoParam (x≠"__name__") zn) (hd:autoParam ((x==("__debug__":Str))=false) zn):wpAny (model X.prog X.w) X.A (eval (.Name x pos) X.env) Q E s:=by
 obtain⟨i,b,a⟩:=I.mod.blt;exact Calls.Name_function_global I.ok.kind d (Calls.loadGlobal_builtin (by rw[I.ok.glob];exact I.mod.glob.keeps I.bk) g (by rw[I.ok.blt];exact b.keeps I.bk) ((a x f).trans e) h) hd
theorem bC (a:Gl X x)(b:X.mg x=some u)(r:RelV v u)(hd:autoParam ((x==("__debug__":Str))=false) zn):PE X (.Name x pos) (tC v):=
 λ_ _ _ H _ I h=>lJ I a b ⟨v,H,I,r,h⟩ hd
theorem IL (a:Gl X x)(d:X.mg x=none)(c:bootBuiltins x=some u)(r:RelV v u)(b:autoParam (x≠"__name__") zn)(hd:autoParam ((x==("__debug__":Str))=false) zn):PE X (.Name x pos) (tC v):=
 λ_ _ _ H _ I h=>yy I a d c ⟨v,H,I,r,h⟩ b hd
def tB (t:TE):TT:=λU H Q=>t U H λx a=>∃c,x=.bl c/\Q c a
def W4 {X:Cx}{e:Expr}{t:TE}(h:PE X e t)(g:autoParam (∀whole,isTrue e X.env whole=(do let v <- whole;standAt e.pos;holding [v] (truthy v))) jp):PT X e (tB t):=by
 intro a s U H Q I f;refine isTrue_plain (dF (h a s U H _ I f) ?_) (g _);rintro v k ⟨x,i,b,j,c⟩;obtain⟨d,rfl,q⟩:=c;cases j;exact jbZ ⟨i,b,q⟩
def a4w (t u:TT):TT:=λU H Q=>t U H λc a=>if c=true then u U a Q else Q false a
def tOr (t u:TT):TT:=λU H Q=>t U H λc a=>if c=true then Q true a else u U a Q
def a4o (t:TT):TT:=λU H Q=>t U H λc a=>Q (!c) a
def RQ (d:PT X a tA):PW X (.BoolOp .And [a] pos) tA:=by
 intro f b s U H Q I h;refine isTrue_and (dF (d b s U H Q I h) λc g e=>?_);cases c with
 |true=>exact isTrue_and_nil e
 |false=>exact e
def W2 (d:PT X a tA):PW X (.BoolOp .Or [a] pos) tA:=by
 intro f b s U H Q I h;refine isTrue_or (dF (d b s U H Q I h) λc g e=>?_);cases c with
 |false=>exact isTrue_or_nil e
 |true=>exact e
def W3 (l:PT X a tA)(j:PW X (.BoolOp .And (b::rest) pos) tB'):PW X (.BoolOp .And (a::b::rest) pos) (a4w tA tB'):=by
 intro i d s U H Q I h;refine isTrue_and (dF (l d s U H _ I h) ?_);rintro c k ⟨g,e,f⟩;cases c with
 |true=>exact j i d k U g Q e f
 |false=>exact⟨g,e,f⟩
def a1b (l:PT X a tA)(j:PW X (.BoolOp .Or (b::rest) pos) tB'):PW X (.BoolOp .Or (a::b::rest) pos) (tOr tA tB'):=by
 intro i d s U H Q I h;refine isTrue_or (dF (l d s U H _ I h) ?_);rintro c k ⟨g,e,f⟩;cases c with
 |true=>exact⟨g,e,f⟩
 |false=>exact j i d k U g Q e f
def W5 (e:PT X a tA):PT X (.UnaryOp .Not a pos) (a4o tA):=by
 intro b s U H Q I h;exact isTrue_not (e b s U H (λc d=>Q (!c) d) I h)
def a0C (b tb:TE):TE:=λU H Q=>b U H λx a=>∃c,x=.bl c/\if c=true then tb U a Q else Q (.bl false) a
def a4m (b tb:TE):TE:=λU H Q=>b U H λx a=>∃c,x=.bl c/\if c=true then Q (.bl true) a else tb U a Q
def a0n (b:TE):TE:=λU H Q=>b U H λx a=>∃c,x=.bl c/\Q (.bl (!c)) a
def Xh {op}(h:PE X a t):PE X (.BoolOp op [a] pos) t:=λc s U H Q I b=>BoolOp_one (h c s U H Q I b)
def Xn (l:PE X a ta)(i:PE X (.BoolOp .And (b::rest) pos) tb):PE X (.BoolOp .And (a::b::rest) pos) (a0C ta tb):=by
 intro e s U H Q I h;refine BoolOp_and (dF (l e s U H _ I h) ?_);rintro v k ⟨x,g,f,j,d⟩;obtain⟨c,rfl,d⟩:=d;cases j;refine jbZ ?_;cases c with
 |true=>exact i e k U g Q f d
 |false=>exact⟨.bl false,g,f,M,d⟩
def a1e (l:PE X a ta)(i:PE X (.BoolOp .Or (b::rest) pos) tb):PE X (.BoolOp .Or (a::b::rest) pos) (a4m ta tb):=by
 intro e s U H Q I h;refine BoolOp_or (dF (l e s U H _ I h) ?_);rintro v k ⟨x,g,f,j,d⟩;obtain⟨c,rfl,d⟩:=d;cases j;refine jbZ ?_;cases c with
 |false=>exact i e k U g Q f d
 |true=>exact⟨.bl true,g,f,M,d⟩
def Xi (i:PE X a ta):PE X (.UnaryOp .Not a pos) (a0n ta):=by
 intro d s U H Q I h;refine UnaryOp_ (dF (i d s U H _ I h) ?_);rintro v j ⟨x,f,e,g,b⟩;obtain⟨c,rfl,b⟩:=b;cases g;exact not_of (jbZ ⟨.bl (!c),f,e,M,b⟩)
def kL (K:Frag)(H:Hp)(a:Addr)(xs:List V):Prop:=
 Rd H a (.lst xs)\/
  ∃(o:Obj)(b:Array Value)(n:Nat),K.lookup a=some o/\o.cls=.type "list"/\o.dict=none/\o.data=.seq b n/\b.size<=sizeLine/\Vals xs b.toList
def ki (K:Frag)(H:Hp)(a:Addr)(xs:List V):Prop:=
 Rd H a (.tup xs)\/
  ∃(o:Obj)(b:Array Value)(n:Nat),K.lookup a=some o/\o.cls=.type "tuple"/\o.data=.seq b n/\b.size<=sizeLine/\Vals xs b.toList
noncomputable def a6d:Value->Option V
 |.none=>some .cP
 |.bool b=>some (.bl b)
 |.int i _=>some (.int i)
 |.str x _=>some (.str x)
 |.bytes b _=>some (.Ls b)
 |.float b _=>some (.YQ b)
 |.ref a=>some (.ref a)
 |.type n=>some (.ty n)
 |_=>none
def RelV.abs (r:RelV x u):a6d u=some x:=by
 cases x with
 |cP=>cases r;rfl
 |bl _=>cases r;rfl
 |int _=>obtain⟨t,rfl⟩:=r;rfl
 |str _=>obtain⟨t,rfl⟩:=r;rfl
 |Ls _=>obtain⟨t,rfl⟩:=r;rfl
 |YQ _=>obtain⟨t,rfl⟩:=r;rfl
 |ref _=>cases r;rfl
 |ty _=>cases r;rfl
def RelV.inj {x y:V}{u:Value}(r:RelV x u)(q:RelV y u):x=y:=jbc (r.abs.symm.trans q.abs)
theorem Vals.inj:∀{xs ys:List V}{us:jcJ},Vals xs us->Vals ys us->xs=ys
 |_,_,_,.nil,.nil=>rfl
 |_,_,_,.cons r t,.cons a b=>by rw[r.inj a,Vals.inj t b]
def kL.of (h:H a=some (.lst xs)):kL K H a xs:=.inl (.inl h)
def ki.of (h:H a=some (.tup xs)):ki K H a xs:=.inl (.inl h)
def Inv.list (I:Inv X vy U H s)(h:kL X.K H a xs):∃AC:jcJ,Vals xs AC/\PlainL s.heap a AC.toArray/\xs.length<=sizeLine:=by
 rcases h with h | ⟨o,AC,n,hk,c,hd,b,d,r⟩
 .obtain⟨z,AC,n,r,e⟩:=h.ok I.hok;exact⟨AC,r,⟨_,n,e,M,M,M⟩,z⟩
 .refine⟨AC.toList,r,⟨o,n,I.mE a o hk,c,hd,by simpa using b⟩,?_⟩;have e:=r.length;simp only[jaH] at e;lia
def Inv.tuple (I:Inv X vy U H s)(h:ki X.K H a xs):∃AC:jcJ,Vals xs AC/\IsTup s.heap a AC.toArray/\xs.length<=sizeLine:=by
 rcases h with h | ⟨o,AC,n,hk,c,b,d,r⟩
 .obtain⟨z,AC,r,p⟩:=h.ok I.hok;exact⟨AC,r,p,z⟩
 .refine⟨AC.toList,r,⟨o,I.mE a o hk,c,n,by simpa using b⟩,?_⟩;have e:=r.length;simp only[jaH] at e;lia
def Inv.Ow (I:Inv X vy U H s)(h:kL X.K H a xs)(h':kL X.K H a ys):xs=ys:=by
 obtain⟨i,r,⟨o,n,e,_,_,d⟩,_⟩:=I.list h;obtain⟨b,g,⟨k,j,f,_,_,c⟩,_⟩:=I.list h';rw[e] at f;cases f;rw[d] at c;injection c with d1 _
 have:i=b:=by simpa using jao Array.toList d1
 subst this;exact r.inj g
def Inv.JL (I:Inv X vy U H s)(h:ki X.K H a xs)(h':ki X.K H a ys):xs=ys:=by
 obtain⟨i,r,⟨o,e,_,n,d⟩,_⟩:=I.tuple h;obtain⟨b,g,⟨k,f,_,j,c⟩,_⟩:=I.tuple h';rw[e] at f;cases f;rw[d] at c;injection c with d1 _
 have:i=b:=by simpa using jao Array.toList d1
 subst this;exact r.inj g
abbrev Cx.zF (X:Cx)(E:jcG):Cx:={X with xe:=E }
abbrev Cx.ZK (X:Cx):Cx:=X.zF λ_ _=>False
theorem Cx.Ok.zF (ok:X.Ok)(E:jcG):(X.zF E).Ok:=
 ⟨ok.mod,ok.kind,ok.glob,ok.blt,ok.above,ok.inj,ok.has,ok.VL,ok.hd,ok.frames,ok.stk,ok.YU,ok.bs,ok.Jy,ok.EI,ok.E7,ok.qo,ok.Qu⟩
theorem Cx.Ok.mP (ok:(X.zF E).Ok):X.Ok:=
 ⟨ok.mod,ok.kind,ok.glob,ok.blt,ok.above,ok.inj,ok.has,ok.VL,ok.hd,ok.frames,ok.stk,ok.YU,ok.bs,ok.Jy,ok.EI,ok.E7,ok.qo,ok.Qu⟩
def Inv.zF (I:Inv X vy U H s)(E:jcG):Inv (X.zF E) vy U H s:=⟨I.ok.zF E,I.os,I.bare,I.base,I.loc,I.cell,I.free,I.iO,I.pin,I.hok,I.len⟩
def Inv.mP (I:Inv (X.zF E) vy U H s):Inv X vy U H s:=⟨I.ok.mP,I.os,I.bare,I.base,I.loc,I.cell,I.free,I.iO,I.pin,I.hok,I.len⟩
def SP.mP {D:Ends}(h:SP (X.zF E) vy D f s'):SP X vy D f s':=by
 cases f with
 |next=>obtain⟨b,a,I,q⟩:=h;exact⟨b,a,I.mP,q⟩
 |brk=>obtain⟨b,a,I,q⟩:=h;exact⟨b,a,I.mP,q⟩
 |cont=>obtain⟨b,a,I,q⟩:=h;exact⟨b,a,I.mP,q⟩
 |ret u=>obtain⟨v,b,a,I,r,q⟩:=h;exact⟨v,b,a,I.mP,r,q⟩
theorem Bp.ZK {X:Cx}{st:List Stmt}{t:TS}(h:Bp X.ZK st t):Bp X st t:=λb s U H D I a=>
 jaS (h b s U H D (I.zF _) a) (λ_ _ q=>q.mP) λ_ _ z=>False.elim z
def a0p:TS:=λD U H=>D.nx U H
def a4k (t u:TS):TS:=λD U H=>t {D with nx:=u D } U H
def RW:Bp X [] a0p:=λ_ _ U H _ I h=>wpAny_execs_nil ⟨U,H,I,h⟩
def Nv {st:Stmt}{rest:List Stmt}{t:TS}{u:TS}(c:PS X st t)(b:Bp X rest u):Bp X (st::rest) (a4k t u):=by
 intro a s U H D I h;refine wpAny_execs_cons (dF (c a s U H {D with nx:=u D } I h) λf i q=>?_);cases f with
 |next=>
  obtain⟨g,d,e,q⟩:=q;exact b a i g d D e q
 |ret v=>exact q
 |brk=>exact q
 |cont=>exact q
def BL {st:Stmt}{t:TS}(a:PS X st t):Bp X [st] t:=by
 intro b s U H D I h;refine wpAny_execs_cons (dF (a b s U H D I h) λf c q=>?_);cases f with
 |next=>exact wpAny_execs_nil q
 |ret v=>exact q
 |brk=>exact q
 |cont=>exact q
def Inv.quiet (I:Inv X a U H s):interactive X.env=false:=by simp[interactive,I.ok.kind]
def a0v (te:TE):TS:=λD U H=>te U H λ_ a=>D.nx U a
def BO (a:PE X e te)(hs:autoParam (swapsWith e none pos.line X.env=pure false) zi):PS X (.Expr e pos) (a0v te):=by
 intro b s U H D I h;exact wpAny_Expr_any (dF (a b s U H _ I h) (by rintro v i ⟨x,f,c,g,d⟩;exact⟨U,f,c,d⟩)) I.quiet hs
def a4l (te:TE):TS:=λD U H=>te U H D.rt
def W7 (a:PE X e te):PS X (.Return (some e) pos) (a4l te):=by
 intro b s U H D I h;exact wpAny_Return_some (dF (a b s U H _ I h) (by rintro v i ⟨x,f,c,g,d⟩;exact⟨x,U,f,c,g,d⟩))
def a4r (c:TT)(t u:TS):TS:=λD U H=>c U H λb a=>if b=true then t D U a else u D U a
def a1c (m:PT X c f)(n:Bp X a t)(l:Bp X b u):PS X (.If c a b pos) (a4r f t u):=by
 intro e s U H D I h;refine wpAny_If (dF (m e s U H _ I h) ?_);rintro d k ⟨j,g,i⟩;cases d with
 |true=>exact n e k U j D g i
 |false=>exact l e k U j D g i
def Wi:TS:=λ_ _ _=>False
def J2:Bp X a Wi:=λ_ _ _ _ _ _ h=>h.elim
abbrev TG:=V->St->Hp->(St->Hp->Prop)->Prop
abbrev VR:=List V->St->Hp->(St->Hp->Prop)->Prop
def PG (X:Cx)(a:Expr)(t:TG):Prop:=
 ∀(vy:jcF) (s:Shared) (U:St) (H:Hp) (v:V) (u:Value) (Q:St->Hp->Prop),Inv X vy U H s->RelV v u->t v U H Q->
  wpAny (model X.prog X.w) X.A (assign a X.env u) (λ_ d=>∃b c,Inv X vy b c d/\Q b c) X.xe s
def VT (X:Cx)(ts:jcL)(t:VR):Prop:=
 ∀(vy:jcF) (s:Shared) (U:St) (H:Hp) (vs:List V) (us:jcJ) (Q:St->Hp->Prop),Inv X vy U H s->Vals vs us->t vs U H Q->
  wpAny (model X.prog X.w) X.A (assignInOrder ((assignEach ts X.env).map (·.2)) us) (λ_ c=>∃a b,Inv X vy a b c/\Q a b) X.xe s
abbrev Zx:=V->V->V->Hp->(Hp->Prop)->Prop
def a24 (X:Cx)(t:Zx):Prop:=
 ∀(vy:jcF) (s:Shared) (U:St) (H:Hp) (o i v:V) (ov iv u:Value) (Q:Hp->Prop),Inv X vy U H s->RelV o ov->RelV i iv->RelV v u->t o i v H Q->
  wpAny (model X.prog X.w) X.A (setItem ov iv u) (λ_ b=>∃a,Inv X vy U a b/\Q a) X.xe s
abbrev TIp:=V->V->Hp->VK->Prop
def PIp (X:Cx)(op:Operator)(t:TIp):Prop:=
 ∀(vy:jcF) (s:Shared) (U:St) (H:Hp) (x y:V) (v u:Value) (Q:VK),Inv X vy U H s->RelV x v->RelV y u->t x y H Q->
  wpAny (model X.prog X.w) X.A (inplaceOp op v u) (EP X vy U Q) X.xe s
def Jh (i:Nat):TG:=λv U H Q=>Q (U.set i (some v)) H
def IG (d:X.N.Nodup)(c:X.N[i]?=some x)(e:Loc X.env.scope x)(a:autoParam (X.fn x=true\/X.env.scope.names.lookup x=some .local) zt):PG X (.Name x pos) (Jh i):=by
 intro g s U H v u Q I r h;exact wpAny_assign_Name (DH I d c e r (λf b=>⟨_,H,b,h⟩) a)
def a53:VR:=λa U H Q=>a=[]/\Q U H
def a2A (t:TG)(u:VR):VR:=λb U H Q=>∃v r,b=v::r/\t v U H λc a=>u r c a Q
def IF:VT X [] a53:=by
 intro b s U H a us Q I r h;obtain⟨e,h⟩:=h;subst e;cases r;exact assignInOrder_nil ⟨U,H,I,h⟩
theorem Eg (g:PG X e t)(f:VT X a u)
  (hs:autoParam ((assignEach (e::a) X.env).map (·.2)=assign e X.env::(assignEach a X.env).map (·.2)) zi):VT X (e::a) (a2A t u):=by
 intro b s U H n us Q I r h;obtain⟨v,m,j,h⟩:=h;subst j;cases r with
 |cons r i=>
  rw[hs];refine assignInOrder_cons (dF (g b s U H _ _ _ I r h) ?_);rintro _ l ⟨σ1,k,c,d⟩;exact f b l σ1 k _ _ Q c i d
def a52 (K:Frag)(n:Nat)(t:VR):TG:=λv U H Q=>∃a b,v=.ref a/\ki K H a b/\b.length=n/\t b U H Q
theorem NJ (x:X.calm=true)(h:VT X c t)
  (m:autoParam ((assignEach c X.env).length=n) zi) (d:autoParam ((assignEach c X.env).findIdx? (·.1)=none) zi):PG X (.Tuple c k pos) (a52 X.K n t):=by
 intro j s U H v u Q I r f;obtain⟨a,z,w,i,q,f⟩:=f;subst w;cases r;obtain⟨A,g,p,C⟩:=I.tuple i;refine assign_Tuple_tuple (I.ok.hd x) p (by simp[m,<- q,g.length]) d λB y=>?_;have l:=I.kept (t':=s.toks) λb o e=>y b o (jax (jal e)) e;exact h j _ U H z _ Q l (by simpa using g) f
def Rh (te:TE)(g:TG):TS:=λD U H=>te U H λx a=>g x U a D.nx
theorem Xb (l:PE X e te)(f:PG X a g)(hs:autoParam (swapsWithSole [a] e pos.line X.env=pure false) zi)(k:autoParam (swappedStores [a] e X.env=pure none) zi)
  (j:autoParam ((assignEach [a] X.env).map (·.2)=[assign a X.env]) zi):PS X (.Assign [a] e pos) (Rh te g):=by
 intro b s U H D I h;refine wpAny_Assign_stores (dF (l b s U H _ I h) ?_) hs k;rintro v c ⟨x,m,d,n,i⟩;rw[j];exact dF (f b c U m x v _ d n i) λ_ o q=>q
theorem W6 (b:X.N.Nodup)(o:X.N[i]?=some x)(n:Loc X.env.scope x)(j:PE X e te)(hs:autoParam (swapsWith e (some (.Name x a)) pos.line X.env=pure false) zi)(c:autoParam (X.fn x=true\/X.env.scope.names.lookup x=some .local) zt) :
  PS X (.Assign [.Name x a] e pos) (Rh te (Jh i)):=by
 intro d s U H D I h;refine wpAny_Assign_Name (dF (j d s U H _ I h) ?_) hs;rintro v p ⟨y,k,f,l,g⟩;exact DH f b o n l (λq m=>⟨_,k,m,g⟩) c
def a0A (d g te:TE)(j:V->V->Hp->VK->Prop)(a:TIp)(c:Zx):TS:=λD U H=>d U H λo k=>g U k λi e=>j o i e λx f=>te U f λy l=>a x y l λz b=>c o i z b λh=>D.nx U h
def a26 (X:Cx)(t:V->V->Hp->VK->Prop):Prop:=
 ∀(vy:jcF) (s:Shared) (U:St) (H:Hp) (o i:V) (ov iv:Value) (Q:VK),Inv X vy U H s->RelV o ov->RelV i iv->t o i H Q->
  wpAny (model X.prog X.w) X.A (getItem ov iv) (EP X vy U Q) X.xe s
theorem R7 {X:Cx}{pos:Pos}{o i e:Expr}{m f te:TE}{p:V->V->Hp->VK->Prop}{c:TIp}{k:Zx}{op:Operator}{b:Pos}(ho:PE X o m)(J:PE X i f)(r:a26 X p)(he:PE X e te)(z:PIp X op c)(hs:a24 X k)
  (G:autoParam (∀ov iv new,augStore i ov iv new=(do holding [new,ov,iv] (setItem ov iv new);release [new,ov,iv] [];pure .next)) zr):PS X (.AugAssign (.Subscript o i b) op e pos) (a0A m f te p c k):=by
 intro a s U H D I h;refine wpAny_AugAssign_SubscriptAny (dF (ho a s U H _ I h) ?_) G;rintro ov F ⟨j,H1,P,g,Q⟩;refine dF (J a F U H1 _ P Q) ?_;rintro iv E ⟨n,R,I2,l,q2⟩;refine dF (r a E U R j n ov iv _ I2 g l q2) ?_;rintro d s3 ⟨Z,w,S,L,N⟩;refine dF (he a s3 U w _ S N) ?_;rintro v O ⟨T,C,u,K,q4⟩;exact dF (z a O U C Z T d v _ u L K q4) (by rintro new B ⟨Y,q,M,y,t⟩;exact(dF (hs a B U q j n Y ov iv new _ M g l y t) (by rintro _ s6 ⟨W,x,A⟩;exact⟨U,W,x,A⟩)))
def ipI (f:Int->Int->Int):TIp:=λx y H Q=>∃i j,x=.int i/\y=.int j/\Q (.int (f i j)) H
def YA:PIp X .Add (ipI λi j=>i+j):=by
 intro e s U H x y v u Q I d b h;obtain⟨i,j,c,a,q⟩:=h;subst c;subst a;obtain⟨t,rfl⟩:=d;obtain⟨f,rfl⟩:=b;exact iadd_int ⟨.int _,H,I.tok _,⟨_,M⟩,q⟩
structure It where
 go:Nat->Hp->Prop
 Lx:Nat->Hp->V->Hp->Prop
 stop:Nat->Hp->Prop
def qD (X:Cx)(a:jcF)(H:Hp)(b:Addr):Prop:=
 H b=none/\b≠X.env.locals/\b∉X.fs/\(b∈X.ex\/X.s₀.heap.objs.size<=b)/\(∀x c,X.env.cells.lookup x=some c->c≠b)/\∀p∈X.pn++a,p.1≠b
def Inv.YM (I:Inv X f U H s)(a:s.heap.objs.size<=b)(h:d b=none):qD X f d b:=by
 refine⟨h,jbJ (jaL I.lt a),I.a1x a,.inr (jai I.sz a),λx c e z=>?_,λp g z=>?_⟩
 .obtain⟨v,q⟩:=I.cell x c e;exact absurd (jaL q.lt (by rw[z];exact a)) (ja4 _)
 .exact absurd (jaL (jal (I.pin p g).1) (by rw[z];exact a)) (ja4 _)
structure Turn (P:Program)(w:World)(K:Frag)(tg:Expr)(J:It)(fp:List Addr)(it:Addr)(tn:Nat->Heap->Prop):Prop where
 mem:it∈fp
 obj:∀i h,tn i h->∀b∈fp,∃o,h.get? b=some o/\∀v,o.data≠.cell v
 keep:∀i h h',tn i h->(∀b∈fp,∀o,h.get? b=some o->h'.get? b=some o)->tn i h'
 item:∀(X:Cx),X.prog=P->X.w=w->X.K=K->X.calm=true->∀(i:Nat)(vy:List (Addr×Obj)) (s:Shared) (U:St) (H:Hp) (E:Value->Shared->Prop),Inv X vy U H s->(∀b∈fp,qD X vy H b)->tn i s.heap->J.go i H->
  wpAny (model P w) X.A (pyNext (.ref it)) (λr s1=>∃u,r=some u/\
   wpAny (model P w) X.A (letOwnedTupleGo tg (.ref it) u) (λ_ s2=>∃x H',Inv X vy U H' s2/\RelV x u/\J.Lx i H x H'/\tn (i+1) s2.heap/\∀b∈fp,H' b=none) E s1) E s
 done:∀(X:Cx),X.prog=P->X.w=w->X.K=K->X.calm=true->∀(i:Nat)(vy:List (Addr×Obj)) (s:Shared) (U:St) (H:Hp) (E:Value->Shared->Prop),Inv X vy U H s->(∀b∈fp,qD X vy H b)->tn i s.heap->J.stop i H->
  wpAny (model P w) X.A (pyNext (.ref it)) (λr s1=>r=none/\Inv X vy U H s1) E s
 self:∀(A:Around)(i:Nat)(s:Shared)(Q:Value->Shared->Prop)(E:Value->Shared->Prop),tn i s.heap->Q (.ref it) s->wpAny (model P w) A (pyIter (.ref it)) Q E s
abbrev TI:=St->Hp->(It->Hp->Prop)->Prop
def PIE (X:Cx)(c:jcF)(U:St)(e:Expr)(R:It->Hp->Prop)(a:Value)(d:Shared):Prop:=
 ∃(it:Addr)(fp:jcK)(tn:Nat->Heap->Prop)(J:It)(H':Hp),a=.ref it/\Inv X c U H' d/\Turn X.prog X.w X.K e J fp it tn/\tn 0 d.heap/\(∀b∈fp,qD X c H' b)/\R J H'
def PI (X:Cx)(d a:Expr)(b:TI):Prop:=
 ∀(vy:jcF) (s:Shared) (U:St) (H:Hp) (R:It->Hp->Prop),Inv X vy U H s->b U H R->
  wpAny (model X.prog X.w) X.A (eval a X.env) (λv c=>wpAny (model X.prog X.w) X.A (pyIter v) (PIE X vy U d R) X.xe c) X.xe s
theorem OX (d:s.heap.get? b=some o)(e:o.cls=.type n)(hd:o.data=.fields vs)
  (f:["enumerate","zip","dict_itemiterator","dict_reverseitemiterator","odict_iterator","itertools.zip_longest","itertools.pairwise"].contains n=false) (a:Q () s):wpAny jcE A (letOwnedTupleGo c (.ref b) u) Q E s:=by
 cases c<;>first
  |exact jad a
  |(cases u<;>first
    |exact jad a
    |(
      refine jaa (wpAny_load d ?_);rw[e,hd];show wpAny jcE A (if(["enumerate","zip","dict_itemiterator","dict_reverseitemiterator","odict_iterator","itertools.zip_longest","itertools.pairwise"].contains n&&vs[0]? ==some (rawInt _))=true then _ else _) Q E s;rw[jae (by intro h;rw[f] at h;cases h)];exact jad a))
noncomputable def Itl (K:Frag)(a:Addr):It:=
 ⟨λi H=>∃b x,kL K H a b/\b[i]?=some x,λi H x c=>c=H/\∀b,kL K H a b->b[i]?=some x,λi H=>∃b,kL K H a b/\b.length<=i⟩
noncomputable def Itt (K:Frag)(a:Addr):It:=
 ⟨λi H=>∃b x,ki K H a b/\b[i]?=some x,λi H x c=>c=H/\∀b,ki K H a b->b[i]?=some x,λi H=>∃b,ki K H a b/\b.length<=i⟩
noncomputable def Itr (a:Int)(n:Nat):It:=⟨λi _=>i<n,λi H x b=>b=H/\x=.int (a+i),λi _=>n<=i⟩
theorem JK (a it:Addr):Turn P w K tg (Itl K a) [it] it (λi h=>h.IsListIter it a i) where
 mem:=by simp
 obj:=λi h st b hb=>by
  have e:b=it:=by simpa using hb
  subst e;obtain⟨o,e,c,d⟩:=st;exact⟨o,e,λv z=>by rw[d] at z;cases z⟩
 keep:=λi h h' st k=>st.at λo e=>k it (by simp) o e
 item:=by
  intro X hP hw hK hc i vy s U H E I hf st hg;subst hP hw hK;obtain⟨xs,x,hq,hx⟩:=hg;obtain⟨AC,rv,p,hz⟩:=I.list hq;obtain⟨u,hu,ru⟩:=rv.get hx;obtain⟨f0,f1,f2,f3,f4,f5⟩:=hf it (by simp);refine wpAny_pyNext_list_item st p.isList (by simpa using hu) λh' st' sb=>?_;have I1:=I.turned (t':=s.toks) (λb o hb e=>(sb.2 b hb).trans e) f0 f1 f3 f4 f5;obtain⟨o,e,c,d⟩:=id st';exact⟨u,M,OX e c d (by decide) ⟨x,H,I1,ru,⟨M,λys hy=>by rw[I.Ow hy hq];exact hx⟩,st',λb hb=>(hf b hb).1⟩⟩
 done:=by
  intro X hP hw hK hc i vy s U H E I hf st hg;subst hP hw hK;obtain⟨xs,hq,hx⟩:=hg;obtain⟨AC,rv,p,hz⟩:=I.list hq;obtain⟨f0,f1,f2,f3,f4,f5⟩:=hf it (by simp);have hl:=rv.length;exact wpAny_pyNext_list_end (I.ok.hd hc) st p.isList (by simp;lia) λh' eb=>⟨M,I.turned (t':=s.toks) (λb o hb e=>eb b o hb e) f0 f1 f3 f4 f5⟩
 self:=λ_ _ _ _ _ st h=>wpAny_pyIter_listiter st h
theorem Gg (a it:Addr):Turn P w K tg (Itt K a) [it] it (λi h=>h.IsTupleIter it a i) where
 mem:=by simp
 obj:=λi h st b hb=>by
  have e:b=it:=by simpa using hb
  subst e;obtain⟨o,e,c,d⟩:=st;exact⟨o,e,λv z=>by rw[d] at z;cases z⟩
 keep:=λi h h' st k=>st.at λo e=>k it (by simp) o e
 item:=by
  intro X hP hw hK hc i vy s U H E I hf st hg;subst hP hw hK;obtain⟨xs,x,hq,hx⟩:=hg;obtain⟨AC,rv,p,hz⟩:=I.tuple hq;obtain⟨u,hu,ru⟩:=rv.get hx;obtain⟨f0,f1,f2,f3,f4,f5⟩:=hf it (by simp);refine wpAny_pyNext_tuple_item st (show s.heap.IsTuple a AC.toArray from p) (by simpa using hu) λh' st' sb=>?_;have I1:=I.turned (t':=s.toks) (λb o hb e=>(sb.2 b hb).trans e) f0 f1 f3 f4 f5;obtain⟨o,e,c,d⟩:=id st';exact⟨u,M,OX e c d (by decide) ⟨x,H,I1,ru,⟨M,λys hy=>by rw[I.JL hy hq];exact hx⟩,st',λb hb=>(hf b hb).1⟩⟩
 done:=by
  intro X hP hw hK hc i vy s U H E I hf st hg;subst hP hw hK;obtain⟨xs,hq,hx⟩:=hg;obtain⟨AC,rv,p,hz⟩:=I.tuple hq;obtain⟨f0,f1,f2,f3,f4,f5⟩:=hf it (by simp);have hl:=rv.length;exact wpAny_pyNext_tuple_end (I.ok.hd hc) st (show s.heap.IsTuple a AC.toArray from p) (by simp;lia) λh' eb=>⟨M,I.turned (t':=s.toks) (λb o hb e=>eb b o hb e) f0 f1 f3 f4 f5⟩
 self:=λ_ _ _ _ _ st h=>wpAny_pyIter_tupleiter st h
theorem Gh (it:Addr)(lo:Int)(n:Nat):Turn P w K tg (Itr lo n) [it] it (λi h=>IsRangeIter h it (lo+(i:Nat)*1) ((n:Int) - (i:Nat)) 1) where
 mem:=by simp
 obj:=λi h st b hb=>by
  have e:b=it:=by simpa using hb
  subst e;exact⟨_,st,λv z=>by
   have z':=z;cases z'⟩
 keep:=λi h h' st k=>k it (by simp) _ st
 item:=by
  intro X hP hw hK hc i vy s U H E I hf st hg;subst hP hw hK;obtain⟨f0,f1,f2,f3,f4,f5⟩:=hf it (by simp);have W:=Walks.range (prog:=X.prog) (w:=X.w) (I.ok.hd hc) it lo 1 n;refine W.item i s _ _ hg st λv h' tk hv st' kk=>?_;obtain⟨t,rfl⟩:=hv;have I1:Inv X vy U H {s with heap:=h',toks:=tk }:=I.turned (λb o hb e=>kk b o (by simpa using hb) e) f0 f1 f3 f4 f5;refine⟨_,M,OX st' rfl rfl (by decide) ⟨.int (lo+i),H,I1,⟨t,?_⟩,⟨M,M⟩,st',λb hb=>(hf b hb).1⟩⟩;rw[Int.mul_one]
 done:=by
  intro X hP hw hK hc i vy s U H E I hf st hg;obtain⟨f0,f1,f2,f3,f4,f5⟩:=hf it (by simp);exact wpAny_pyNext_range_end (I.ok.hd hc) st (by have:n<=i:=hg;lia) λh' eb=>⟨M,I.turned (t':=s.toks) (λb o hb e=>eb b o hb e) f0 f1 f3 f4 f5⟩
 self:=λ_ _ _ _ _ st h=>wpAny_pyIter_rangeiter st h
theorem Nc (I:Inv X d U H s)(j:-(2 ^ 62)<=a)(i:a<2 ^ 62)(k:-(2 ^ 62)<=c)(g:c<2 ^ 62)
  (q:R (Itr a (c - a).toNat) H):wpAny (model X.prog X.w) X.A (pyIter (.ref s.heap.objs.size)) (PIE X d U tg R) E {s with heap:=s.heap.push {cls:=.type "range",data:=.fields #[.int a t,.int c u,.int 1 v] },toks:=tk }:=by
 refine wpAny_pyIter_range (IsRange.new ..) (small_one j i k g) ?_;have f:Inv X d U H {s with heap:=s.heap.push {cls:=.type "range",data:=.fields #[.int a t,.int c u,.int 1 v] },toks:=tk }:=I.kept λb o e=>jap _ e;refine⟨(s.heap.push {cls:=.type "range",data:=.fields #[.int a t,.int c u,.int 1 v] }).objs.size,[(s.heap.push {cls:=.type "range",data:=.fields #[.int a t,.int c u,.int 1 v] }).objs.size],_,_,H,M,
  f.kept (t':=tk) λb o e=>jap _ e,Gh _ a (c - a).toNat,?_,λb l=>?_,q⟩
 .have e1:a+((0:Nat):Int)*1=a:=by simp
  have h:(((c - a).toNat:Nat):Int) - ((0:Nat):Int)=Builtin.Range.rangeSize a c 1:=by rw[rangeSize_one];split<;>lia
  rw[e1,h];exact jaK _ rfl
 .have e:b=(s.heap.push {cls:=.type "range",data:=.fields #[.int a t,.int c u,.int 1 v] }).objs.size:=by simpa using l
  subst e;exact f.YM (jam _) (f.hok.fresh (jam _))
def a2e (a:TA):TI:=λU H R=>a U H λc b=>∃j:Int,c=[.int j]/\-(2 ^ 62)<=j/\j<2 ^ 62/\R (Itr 0 j.toNat) b
def J4 (i:Gl X "range")(k:X.mg "range"=none)(d:PA X [a] c)(hs:autoParam (starEach [a] X.env=[(false,eval a X.env)]) zi):PI X tg (.Call (.Name "range" p) [a] [] pos) (a2e c):=by
 intro f s U H R I h;refine Call_ (yy I i k boot_range (PyProof.Rows.callWith_type1 (dF (d pos f s U H _ I h) ?_) hs M));rintro us v ⟨o,u,g,m,b⟩;obtain⟨j,e,b,n,q⟩:=b;subst e;cases m with
 |cons r l=>
  cases l;obtain⟨t,rfl⟩:=r;exact call_range_1 (Nc g (by lia) (by lia) b n (by simpa using q))
def a4t (b:TI)(g:TG)(tb:TS):TS:=λD U H=>b U H λJ c=>∃W:Nat->Nat->St->Hp->Prop,(∃m,W 0 m U c)/\∀i m U H,W i m U H->
 (J.stop i H/\D.nx U H)\/(J.go i H/\∃N:St->Hp->Prop,(∀U' H',N U' H'->∃a,a < m/\W (i+1) a U' H')/\∀x H',J.Lx i H x H'->g x U H' λe d=>tb {D with nx:=N,ct:=N,bk:=D.nx } e d)
noncomputable def xK (a:jcK)(h:Heap):jcF:=a.filterMap λb=>(h.get? b).map λo=>(b,o)
def lF (c:b∈a)(e:h.get? b=some o):(b,o)∈xK a h:=List.mem_filterMap.mpr ⟨b,c,by rw[e];rfl⟩
def Ko (c:p∈xK a h):p.1∈a/\h.get? p.1=some p.2:=by
 obtain⟨b,d,e⟩:=List.mem_filterMap.mp c;cases q:h.get? b with
 |none=>rw[q] at e;cases e
 |some o=>
  rw[q] at e;have f:=jbc e;subst f;exact⟨d,q⟩
theorem Inv.pinned (I:Inv X a U H s)(l:∀b∈c,qD X a H b)(k:∀b∈c,∃o,s.heap.get? b=some o/\∀v,o.data≠.cell v):Inv X (a++xK c s.heap) U H s:=
 I.vZ λp j=>(jan.mp j).elim (λz=>I.pin p (jaP _ z)) λz=>by
  obtain⟨f,e⟩:=Ko z;obtain⟨i,h,m,_⟩:=l p.1 f;obtain⟨o,g,d⟩:=k p.1 f;rw[e] at g;cases g;exact⟨e,i,h,m,d⟩
def Inv.qM (I:Inv X (a++pl) U H s):Inv X a U H s:=I.vZ λp b=>I.pin p (jaP _ (jaA _ b))
theorem W9 (K:PassesOwn (model X.prog X.w) X.A X.env X.xe)(hc:X.calm=true)(hi:PI X tg c wi)(hg:PG X tg g)(l:Bp X q tb)
  (hs:autoParam (∀x,foldedSetIterable c X.env x=pure x) jp):PS X (.For tg c q [] pos) (a4t wi g tb):=by
 intro z s U H D I h;refine wpAny_For (dF (hi z s U H _ I h) λv s1 h1=>dF h1 λitv s2 h2=>?_) hs;obtain⟨it,G,Z,J,H2,e,I2,T,P,f2,W,⟨m0,w0⟩,B⟩:=h2;subst e;have S:∀{p:Hp},(∀b∈G,p b=none)->∀b∈G,qD X z p b:=λhn b l=>⟨hn b l,(f2 b l).2⟩
 refine codeAny_forLoop_any (λn s'=>∃i L p,Inv X z L p s'/\Z i s'.heap/\(∀b∈G,p b=none)/\W i n L p) ?_ m0 ⟨0,U,H2,I2,P,λb l=>(f2 b l).1,w0⟩;rintro n s3 ⟨i,σ3,M,I3,st3,C,w3⟩;rcases B i n σ3 M w3 with⟨F,qn⟩ | ⟨go,N,hN,step⟩
 .refine jcr K (dF (T.done X rfl rfl rfl hc i z s3 σ3 M X.xe I3 (S C) st3 F) ?_);rintro r s4 ⟨V,I4⟩;subst V;exact wpAny_execs_nil ⟨σ3,M,I4,qn⟩
 .refine jcr K (dF (T.item X rfl rfl rfl hc i z s3 σ3 M X.xe I3 (S C) st3 go) ?_);rintro r s4 ⟨u,V,h4⟩;subst V;refine jcr K (dF h4 ?_);rintro _ s5 ⟨x,Y,I5,r5,y5,y,R⟩;have Q:=I5.pinned (S R) (T.obj _ _ y);refine jcr K (dF (hg _ s5 σ3 Y x u _ Q r5 (step x Y y5)) ?_);rintro _ s6 ⟨σ6,H6,I6,q6⟩;refine jcr K (dF (l _ s6 σ6 H6 _ I6 q6) λf O t=>?_);have a:∀{σ7:St}{k:Hp},Inv X (z++xK G s5.heap) σ7 k O->N σ7 k->∃m,m<n/\∃i L p,Inv X z L p O/\Z i O.heap/\(∀b∈G,p b=none)/\W i m L p:=λ{σ7 k} j E=>by
   obtain⟨m',hm,w7⟩:=hN σ7 k E;refine⟨m',hm,i+1,σ7,k,j.qM,T.keep _ _ _ y λb l o e=>(j.pin (b,o) (jaP _ (jaP _ (lF l e)))).1,λb l=>?_,w7⟩;obtain⟨o,e,d⟩:=T.obj _ _ y b l;exact(j.pin (b,o) (jaP _ (jaP _ (lF l e)))).2.1
  cases f with
  |next=>obtain⟨σ7,k,j,E⟩:=t;exact a j E
  |cont=>obtain⟨σ7,k,j,E⟩:=t;exact a j E
  |brk=>obtain⟨σ7,k,j,t⟩:=t;exact⟨σ7,k,j.qM,t⟩
  |ret v=>obtain⟨x7,σ7,k,j,r7,t⟩:=t;exact⟨x7,σ7,k,j.qM,r7,t⟩
abbrev R2:=V->V->Hp->VK->Prop
def kP (X:Cx)(f:Value->Value->Sem Value)(r:R2):Prop:=
 ∀(vy:jcF) (s:Shared) (U:St) (H:Hp) (x y:V) (v u:Value) (Q:VK),Inv X vy U H s->RelV x v->RelV y u->r x y H Q->
  wpAny (model X.prog X.w) X.A (f v u) (EP X vy U Q) X.xe s
def UnR (X:Cx)(f:Value->Sem Value)(r:V->Hp->VK->Prop):Prop:=
 ∀(vy:jcF) (s:Shared) (U:St) (H:Hp) (x:V) (v:Value) (Q:VK),Inv X vy U H s->RelV x v->r x H Q->
  wpAny (model X.prog X.w) X.A (f v) (EP X vy U Q) X.xe s
def eB (X:Cx)(f:Value)(r:List V->Hp->VK->Prop):Prop:=
 ∀(vy:jcF) (s:Shared) (U:St) (H:Hp) (xs:List V) (us:jcJ) (Q:VK),Inv X vy U H s->Vals xs us->r xs H Q->
  wpAny (model X.prog X.w) X.A (call f us) (EP X vy U Q) X.xe s
def tOp (r:R2)(a tb:TE):TE:=λU H Q=>a U H λx b=>tb U b λy c=>r x y c Q
def tUn (r:V->Hp->VK->Prop)(b:TE):TE:=λU H Q=>b U H λx a=>r x a Q
def rI (C:Int->Int->Prop)(g:Int->Int->V):R2:=λx y H Q=>∃i j,x=.int i/\y=.int j/\C i j/\Q (g i j) H
def WM (g:Int->Int->V):R2:=λx y H Q=>∃i j,x=.int i/\y=.int j/\Q (g i j) H
noncomputable def rU (g:Int->V):V->Hp->VK->Prop:=λx H Q=>∃i,x=.int i/\Q (g i) H
theorem Zk {X:Cx}{a:Expr}{b:Expr}{ta:TE}{tb:TE}(n:PE X a ta)(k:PE X b tb){c:jcF}{s:Shared}{U:St}{H:Hp}{R:V->V->Hp->Prop}(I:Inv X c U H s)
  (h:ta U H λx H1=>tb U H1 λy H2=>R x y H2) {Q:jcG} {f:Value->Value->Sem Value}
  (e:∀v u s2 x y H2,Inv X c U H2 s2->RelV x v->RelV y u->R x y H2->wpAny (model X.prog X.w) X.A (f v u) Q X.xe s2) :
  wpAny (model X.prog X.w) X.A (eval a X.env) (λv s₁=>wpAny (model X.prog X.w) X.A (eval b X.env) (λu s₂=>wpAny (model X.prog X.w) X.A (f v u) Q X.xe s₂) X.xe s₁) X.xe s:=by
 refine dF (n c s U H _ I h) ?_;rintro v d ⟨x,H1,g,l,i⟩;exact dF (k c d U H1 _ g i) (by rintro u s2 ⟨y,H2,m,j,o⟩;exact(e v u s2 x y H2 m l j o))
def U6 (f:kP X (binaryOp op) r)(k:PE X a ta)(g:PE X b tb):PE X (.BinOp a op b pos) (tOp r ta tb):=by
 intro c s U H Q I h;exact wpAny_BinOp (Zk k g I h λv u j x y d i e l q=>f c j U d x y v u Q i e l q)
def a1d (c:UnR X (unaryOp op) r)(j:PE X a ta):PE X (.UnaryOp op a pos) (tUn r ta):=by
 intro b s U H Q I h;exact UnaryOp_ (dF (j b s U H _ I h) (by rintro v i ⟨x,f,d,g,e⟩;exact c b i U f x v Q d g e))
theorem opI {X:Cx}{f:Value->Value->Sem Value}{C:Int->Int->Prop}{g:Int->Int->Int}
  (a:∀(i j:Int)(t u:Tok)(s:Shared)(Q:jcG)(E:jcG),C i j->Q (.int (g i j) s.toks) {s with toks:=s.toks+1 }->wpAny (model X.prog X.w) X.A (f (.int i t) (.int j u)) Q E s) :
  kP X f (rI C λi j=>.int (g i j)):=by
 intro k s U H x y v u Q I c e h;obtain⟨i,j,rfl,rfl,d,q⟩:=h;obtain⟨t,rfl⟩:=c;obtain⟨b,rfl⟩:=e;exact a i j t b s _ _ d ⟨.int (g i j),H,I.tok _,⟨_,M⟩,q⟩
theorem a1p {X:Cx}{f:Value->Value->Sem Value}{g:Int->Int->Int}
  (a:∀(i j:Int)(t u:Tok)(s:Shared)(Q:jcG)(E:jcG),Q (.int (g i j) s.toks) {s with toks:=s.toks+1 }->wpAny (model X.prog X.w) X.A (f (.int i t) (.int j u)) Q E s) :
  kP X f (WM λi j=>.int (g i j)):=by
 intro e s U H x y v u Q I c d h;obtain⟨i,j,rfl,rfl,q⟩:=h;obtain⟨t,rfl⟩:=c;obtain⟨b,rfl⟩:=d;exact a i j t b s _ _ ⟨.int (g i j),H,I.tok _,⟨_,M⟩,q⟩
theorem a1q {X:Cx}{f:Value->Value->Sem Value}{g:Int->Int->Bool}
  (a:∀(i j:Int)(t u:Tok)(s:Shared)(Q:jcG)(E:jcG),Q (.bool (g i j)) s->wpAny (model X.prog X.w) X.A (f (.int i t) (.int j u)) Q E s) :
  kP X f (WM λi j=>.bl (g i j)):=by
 intro e s U H x y v u Q I c d h;obtain⟨i,j,rfl,rfl,q⟩:=h;obtain⟨t,rfl⟩:=c;obtain⟨b,rfl⟩:=d;exact a i j t b s _ _ ⟨.bl (g i j),H,I,M,q⟩
def a3c (i j:Int):Prop:=0<j/\j<1073741824
def Uo (i j:Int):Prop:=(-(2 ^ 64)<i/\i<2 ^ 64)\/(-(2 ^ 64)<j/\j<2 ^ 64)
theorem Uo.ok {i j:Int}(h:Uo i j):IntMulOk i j:=by
 rcases h with⟨b,a⟩ | ⟨b,a⟩
 .exact .of_left (intBits_le_64 b a)
 .exact .of_right (intBits_le_64 b a)
def Xz:kP X (binaryOp .Add) (WM λi j=>.int (i+j)):=a1p λ_ _ _ _ _ _ _ q=>add_int q
def Xr:kP X (binaryOp .Sub) (WM λi j=>.int (i - j)):=a1p λ_ _ _ _ _ _ _ q=>sub_int q
def Xv:kP X (binaryOp .Mult) (rI Uo λi j=>.int (i*j)):=opI λ_ _ _ _ _ _ _ a q=>mul_int q a.ok
theorem Sw:kP X (binaryOp .FloorDiv) (rI a3c λi j=>.int (i / j)):=opI λi j _ _ _ _ _ a q=>by
 have c:=a.1;have b:=a.2;exact floordiv_int (by lia) (by rw[Int.fdiv_eq_ediv_of_nonneg i (by lia)];exact q) (.inl (PyProof.noPylong_small (by lia)))
theorem Xw:kP X (binaryOp .Mod) (rI (λ_ j=>0<j) λi j=>.int (i % j)):=opI λi j _ _ _ _ _ a q=>by
 exact mod_int' (by lia) (by rw[Int.fmod_eq_emod_of_nonneg i (by lia)];exact q)
theorem unI {X:Cx}{f:Value->Sem Value}{g:Int->Int}
  (a:∀(i:Int)(t:Tok)(s:Shared)(Q:jcG)(E:jcG),Q (.int (g i) s.toks) {s with toks:=s.toks+1 }->wpAny (model X.prog X.w) X.A (f (.int i t)) Q E s) :
  UnR X f (rU λi=>.int (g i)):=by
 intro c s U H x v Q I b h;obtain⟨i,rfl,q⟩:=h;obtain⟨t,rfl⟩:=b;exact a i t s _ _ ⟨.int (g i),H,I.tok _,⟨_,M⟩,q⟩
def Wb:UnR X (unaryOp .USub) (rU λi=>.int (-i)):=unI λ_ _ _ _ _ q=>neg_int q
noncomputable def Rr:V->V->Bool
 |.cP,.cP=>true | .cP,.int _=>true | .int _,.cP=>true | .cP,.bl _=>true | .bl _,.cP=>true | .cP,.str _=>true | .str _,.cP=>true
 |.int _,.int _=>true | .bl _,.bl _=>true | .str _,.str _=>true | .Ls _,.Ls _=>true
 |.int _,.str _=>true | .str _,.int _=>true | .bl _,.str _=>true | .str _,.bl _=>true
 |_,_=>false
def rEq:R2:=λx y H Q=>Rr x y=true/\Q (.bl (decide (x=y))) H
def rNe:R2:=λx y H Q=>Rr x y=true/\Q (.bl (!decide (x=y))) H
def Jm:decide (V.int i=V.int j)=(i==j):=by
 rw[Bool.eq_iff_iff];simp
def Pu:decide (V.bl i=V.bl j)=(i==j):=by
 rw[Bool.eq_iff_iff];simp
def Jl:decide (V.str i=V.str j)=(i==j):=by
 rw[Bool.eq_iff_iff];simp
def Jo:decide (V.Ls i=V.Ls j)=(i.toList==j.toList):=by
 rw[Bool.eq_iff_iff];cases i;cases j;simp
def bM (I:Inv X a U H s)(q:Q (.bl k) H)(e:k=b):EP X a U Q (.bool b) s:=by
 subst e;exact⟨.bl k,H,I,M,q⟩
def a1o:kP X (compareOp .Eq) rEq:=by
 intro e s U H x y v u Q I d a h;obtain⟨c,q⟩:=h;cases x with
 |cP=>
  cases d;cases y with
  |cP=>cases a;exact PySem.EqNone.eq_none_none (bM I q (by simp))
  |bl j=>cases a;exact PySem.EqNone.eq_none_bool (bM I q (by simp))
  |int j=>obtain⟨b,rfl⟩:=a;exact PySem.EqNone.eq_none_int (bM I q (by simp))
  |str j=>obtain⟨b,rfl⟩:=a;exact PySem.EqNone.eq_none_str (bM I q (by simp))
  |_=>exact absurd (show false=true from c) jaN
 |bl i=>
  cases d;cases y with
  |cP=>cases a;exact PySem.EqNone.eq_bool_none (bM I q (by simp))
  |bl j=>cases a;exact eq_bool (bM I q Pu)
  |str j=>obtain⟨b,rfl⟩:=a;exact PySem.EqMixed.eq_bool_str (bM I q (by simp))
  |_=>exact absurd (show false=true from c) jaN
 |int i=>
  obtain⟨t,rfl⟩:=d;cases y with
  |cP=>cases a;exact PySem.EqNone.eq_int_none (bM I q (by simp))
  |int j=>obtain⟨b,rfl⟩:=a;exact eq_int (bM I q Jm)
  |str j=>obtain⟨b,rfl⟩:=a;exact PySem.EqMixed.eq_int_str (bM I q (by simp))
  |_=>exact absurd (show false=true from c) jaN
 |str i=>
  obtain⟨t,rfl⟩:=d;cases y with
  |cP=>cases a;exact PySem.EqNone.eq_str_none (bM I q (by simp))
  |bl j=>cases a;exact PySem.EqMixed.eq_str_bool (bM I q (by simp))
  |int j=>obtain⟨b,rfl⟩:=a;exact PySem.EqMixed.eq_str_int (bM I q (by simp))
  |str j=>obtain⟨b,rfl⟩:=a;exact eq_str (bM I q Jl)
  |_=>exact absurd (show false=true from c) jaN
 |Ls i=>
  obtain⟨t,rfl⟩:=d;cases y with
  |Ls j=>obtain⟨b,rfl⟩:=a;exact PySem.W.eq_bytes (bM I q Jo)
  |_=>exact absurd (show false=true from c) jaN
 |_=>cases y<;>exact absurd (show false=true from c) jaN
def a1l:kP X (compareOp .NotEq) rNe:=by
 intro e s U H x y v u Q I d a h;obtain⟨c,q⟩:=h;cases x with
 |cP=>
  cases d;cases y with
  |cP=>cases a;exact PySem.EqNone.ne_none_none (bM I q (by simp))
  |bl j=>cases a;exact PySem.EqNone.ne_none_bool (bM I q (by simp))
  |int j=>obtain⟨b,rfl⟩:=a;exact PySem.EqNone.ne_none_int (bM I q (by simp))
  |str j=>obtain⟨b,rfl⟩:=a;exact PySem.EqNone.ne_none_str (bM I q (by simp))
  |_=>exact absurd (show false=true from c) jaN
 |bl i=>
  cases d;cases y with
  |cP=>cases a;exact PySem.EqNone.ne_bool_none (bM I q (by simp))
  |bl j=>cases a;exact ne_bool (bM I q (jao not Pu))
  |str j=>obtain⟨b,rfl⟩:=a;exact PySem.EqMixed.ne_bool_str (bM I q (by simp))
  |_=>exact absurd (show false=true from c) jaN
 |int i=>
  obtain⟨t,rfl⟩:=d;cases y with
  |cP=>cases a;exact PySem.EqNone.ne_int_none (bM I q (by simp))
  |int j=>obtain⟨b,rfl⟩:=a;exact ne_int (bM I q (jao not Jm))
  |str j=>obtain⟨b,rfl⟩:=a;exact PySem.EqMixed.ne_int_str (bM I q (by simp))
  |_=>exact absurd (show false=true from c) jaN
 |str i=>
  obtain⟨t,rfl⟩:=d;cases y with
  |cP=>cases a;exact PySem.EqNone.ne_str_none (bM I q (by simp))
  |bl j=>cases a;exact PySem.EqMixed.ne_str_bool (bM I q (by simp))
  |int j=>obtain⟨b,rfl⟩:=a;exact PySem.EqMixed.ne_str_int (bM I q (by simp))
  |str j=>obtain⟨b,rfl⟩:=a;exact ne_str (bM I q (jao not Jl))
  |_=>exact absurd (show false=true from c) jaN
 |Ls i=>
  obtain⟨t,rfl⟩:=d;cases y with
  |Ls j=>obtain⟨b,rfl⟩:=a;exact PySem.W.ne_bytes (bM I q (jao not Jo))
  |_=>exact absurd (show false=true from c) jaN
 |_=>cases y<;>exact absurd (show false=true from c) jaN
def a1m:kP X (compareOp .Lt) (WM λi j=>.bl (decide (i<j))):=a1q λ_ _ _ _ _ _ _ q=>lt_int q
def a1n:kP X (compareOp .Gt) (WM λi j=>.bl (decide (j<i))):=a1q λ_ _ _ _ _ _ _ q=>gt_int q
def Su:kP X (compareOp .IsNot) (λx y H Q=>y=.cP/\Q (.bl (!decide (x=.cP))) H):=by
 intro c s U H x y v u Q I a b h;obtain⟨rfl,q⟩:=h;cases b;refine isnot_none_gen (bM I q ?_);cases x<;>first
  |(cases a;rfl)
  |(obtain⟨t,rfl⟩:=a;rfl)
def kP.or (h:kP X f r)(h':kP X f a):kP X f (λx y H Q=>r x y H Q\/a x y H Q):=by
 intro c s U H x y v u Q I b d q;rcases q with q | q
 .exact h c s U H x y v u Q I b d q
 .exact h' c s U H x y v u Q I b d q
def aA (b:Expr)(h:autoParam (op≠.In) zn)(a:autoParam (op≠.NotIn) zn):behindInMarks op b=false:=by
 have c:(op==CmpOp.In)=false:=by cases op<;>first | rfl | exact absurd rfl h
 have d:(op==CmpOp.NotIn)=false:=by cases op<;>first | rfl | exact absurd rfl a
 cases b<;>simp[behindInMarks,c,d]
def Sj (g:kP X (compareOp op) r)(l:PE X a ta)(i:PE X b tb)(e:behindInMarks op b=false):PE X (.Compare a [op] [b] pos) (tOp r ta tb):=by
 intro c s U H Q I h;exact wpAny_Compare1 (Zk l i I h λv u k x y d j f m q=>g c k U d x y v u Q j f m q) e
def Uu (t:TE):TT:=λU H Q=>t U H λx a=>∃k,x=.bl k/\Q k a
def RV (t:kP X (compareOp op) r)(E:PE X a ta)(w:PE X b tb)(o:behindInMarks op b=false):PT X (.Compare a [op] [b] pos) (Uu (tOp r ta tb)):=by
 intro d s U H Q I h;refine wpAny_isTrue_Compare1 (dF (E d s U H _ I h) ?_) o;rintro v f ⟨x,B,j,A,l⟩;refine dF (w d f U B _ j l) ?_;rintro u D ⟨y,m,C,n,F⟩;refine dF (t d D U m x y v u _ C A n F) ?_;rintro c G ⟨z,p,q,g,k,e,i⟩;subst e;cases g;exact jbZ ⟨p,q,i⟩
def nJ:(sizeLine:Nat)<2 ^ 63:=by decide
def GD:kP X (binaryOp .Add) (λx y H Q=>∃i j,x=.str i/\y=.str j/\i.length+j.length<=sizeLine/\Q (.str (i++j)) H):=by
 intro e s U H x y v u Q I b d h;obtain⟨i,j,rfl,rfl,c,q⟩:=h;obtain⟨t,rfl⟩:=b;obtain⟨a,rfl⟩:=d;exact add_str (λa tk=>⟨.str (i++j),H,I.tok _,⟨_,M⟩,q⟩) c
def vals1 (r:Vals [x] us):∃u,us=[u]/\RelV x u:=by
 cases r with
 |cons b a=>cases a;exact⟨_,M,b⟩
def vals2 (r:Vals [x,y] us):∃u w',us=[u,w']/\RelV x u/\RelV y w':=by
 cases r with
 |cons c b=>
  cases b with
  |cons d a=>cases a;exact⟨_,_,M,c,d⟩
def Lg:eB X (.type "int") (λxs H Q=>(∃i,xs=[.int i]/\Q (.int i) H)\/∃k,xs=[.bl k]/\Q (.int (if k then 1 else 0)) H):=by
 intro a s U H xs us Q I r h;rcases h with⟨i,rfl,q⟩ | ⟨k,rfl,q⟩
 .obtain⟨u,rfl,t,rfl⟩:=vals1 r;exact call_int_int ⟨.int i,H,I,⟨_,M⟩,q⟩
 .obtain⟨u,rfl,r1⟩:=vals1 r;cases r1;exact call_int_bool ⟨.int (if k then 1 else 0),H,I.tok _,⟨_,M⟩,q⟩
def CZ:eB X (.type "str") (λxs H Q=>∃i,xs=[.int i]/\i.natAbs.log2<1920/\Q (.str (toString i)) H):=by
 intro b s U H xs us Q I r h;obtain⟨i,rfl,a,q⟩:=h;obtain⟨u,rfl,t,rfl⟩:=vals1 r;exact PySem.P.str_of_int a ⟨.str _,H,I.tok _,⟨_,M⟩,q⟩
structure HB (h:Heap)(x dx C:Addr)(mA:Str->Option Value):Prop where
 obj:h.get? x=some (instObj C dx)
 ns:h.Ns1 dx mA
 ne:dx≠x
def Kz {h:Heap}{mA:Str->jcN}(n:h.Ns1 c mA):∃od,h.get? c=some od/\∀name,lookIn name od=some (mA name):=by
 obtain⟨o,d,k,j,hd,hk,_,g⟩:=n;refine⟨o,j,λname=>?_⟩;have e:=g name;unfold nsFind findBy at e;rw[<- Array.find?_toList] at e;unfold lookIn;rw[hd];dsimp only;split
 .rename_i y q;rw[q] at e;exact jao some e
 .rename_i q;rw[q] at e;have a:d.toList.any (·.refKey)=false:=by
   rw[List.any_eq_false];intro y i;obtain⟨z,t,b⟩:=hk y (Array.mem_toList_iff.mp i);simp[DictEntry.refKey,b]
  have f:¬ d.toList.any (·.refKey)=true:=by rw[a];exact jaN
  rw[jae f];exact jao some e
theorem HB.look {mA:Str->jcN}(I:HB h x a C mA):∃od,PySem.W.InstAt h x (instObj C a) C (some od)/\∀name,lookIn name od=some (mA name):=
 let⟨od,ho,hl⟩:=Kz I.ns
 ⟨od,⟨I.obj,M,M,ho⟩,hl⟩
section
variable {mA:Str->jcN}
theorem get_map (X:K.In s.heap)(I:HB s.heap x dx C mA)(d:plainGet K C name=true)(e:hasDictIn K C=true)
  (g:findIn K (.ref C) name=some none) (f:mA name=some v) (b:handedIn v=true) (h:Q v {s with toks:=s.toks+1 }) :
  wpAny (model prog w) A (getAttr (.ref x) name a) Q E s:=by
 obtain⟨i,J,c⟩:=I.look;exact PySem.W.get_value X J (plainGet_of d).1 (PySem.W.findObj_own e g rfl (by rw[c,f])) b h
theorem O0 (X:K.In s.heap)(I:HB s.heap x dx C mA)(a:plainGet K C name=true)
  (d:findIn K (.ref C) name=some (some (.ref f))) (b:isFn K (.ref f)=true) (e:mA name=none) (h:Q (.ref f,[.ref x]) s) :
  wpAny (model prog w) A (getMethod (.ref x) name pl) Q E s:=by
 obtain⟨g,J,c⟩:=I.look;exact PySem.W.method_fn X J (plainGet_of a).1 (plainGet_of a).2 d (ja8.mp b) (by show(lookIn name g).map (·.isSome)=some false;rw[c,e];rfl) h
theorem Rq (X:K.In s.heap)(I:HB s.heap x dx C mA)
  (hs:findIn K (.ref C) "__setattr__"=some (some (.builtin "object.__setattr__"))) (l:plainOver K C=true) (k:takerIn K C name=some none) (i:hasDictIn K C=true)
  (m:PySem.Within mA ns) (n:ns.length<=sizeLine)
  (h:∀h',HB h' x dx C (λy=>if y=name then some v else mA y)->Heap.SameBut dx s.heap h'->Q () {s with heap:=h',toks:=s.toks+2 }) :
  wpAny (model prog w) A (setAttr (.ref x) name v) Q E s:=by
 obtain⟨r,J,t⟩:=I.look;refine PySem.W.set_plain X J hs (PySem.W.osa_open X J l k λb=>?_);obtain⟨u,o,e⟩:=PySem.W.any_some i;have q:=I.obj;refine jaa (jad (jaa (jaa (wpAny_loadPart q (jaa (PySem.W.Looks.here (PySem.W.looks_clsIn X o) ?_))))));rw[e];refine jad (jaa (jad (jaa ?_)));refine wpAny_nsSet1 I.ns λh' c a=>?_;obtain⟨oD,p,j,f,g,d⟩:=c.count (PySem.Within.cons name v m);refine jaa (wpAny_lookBehind f (by rw[g];exact pastItsLine_dict (jai d (by rw[jak];lia))) ?_);exact jad (h _ ⟨(a.2 _ (jaE I.ne)).trans I.obj,c,I.ne⟩ a)
theorem Ol (X:K.In s.heap)(e:makesIn K C=true)
  (c:findIn K (.ref C) "__init__"=some (some (.ref f))) (b:PySem.W.typeIn K (.ref f)=some (.type "function"))
  (h:codeAny (model prog w) (A.under (.builtin "type.__call__" ⟨.ref C::vs,a⟩)) (.call (.ref f) ⟨.ref (s.heap.objs.size+1)::vs,a⟩) (PySem.W.InitBack (s.heap.objs.size+1) R)
   {s with heap:=(s.heap.push emptyDict).push (instObj C s.heap.objs.size) }) :
  codeAny (model prog w) A (.call (.ref C) ⟨vs,a⟩) R s:=by
 obtain⟨i,g,d,t,j⟩:=s;exact PySem.W.make_core (PySem.W.makes_of X e) (PySem.W.looks_findIn X c) (λself=>PySem.W.bind_fn X self b) (.inl M) h
end
noncomputable def mJ (f:Str)(v:V):List (Str×V)->List (Str×V)
 |[]=>[(f,v)]
 |(g,x)::r=>if g=f then(g,v)::r else(g,x)::mJ f v r
theorem uY (f g:Str)(v:V):∀fs:List (Str×V),(mJ f v fs).lookup g=if g=f then some v else fs.lookup g
 |[]=>by
  show List.lookup g [(f,v)]=_;by_cases h:g=f
  .have hb:=ja8.mpr h;simp only[List.lookup,hb,jaf h]
  .have hb:=jbN.mpr h;simp only[List.lookup,hb,jae h]
 |(k,x)::r=>by
  have a:=uY f g v r;rw[show mJ f v ((k,x)::r)=(if k=f then(k,v)::r else(k,x)::mJ f v r) from rfl];by_cases hk:k=f
  .rw[jaf hk];by_cases h:g=k
   .have hb:=ja8.mpr h;simp only[List.lookup,hb,jaf (h.trans hk)]
   .have hb:=jbN.mpr h;simp only[List.lookup,hb,jae (λe:g=f=>h (e.trans hk.symm))]
  .rw[jae hk];by_cases h:g=k
   .have hb:=ja8.mpr h;simp only[List.lookup,hb,jae (λe:g=f=>hk (h.symm.trans e))]
   .have hb:=jbN.mpr h;simp only[List.lookup,hb];exact a
theorem tQ (f:Str)(v:V):∀fs:List (Str×V),f∈(mJ f v fs).map (·.1)/\∀g,g∈fs.map (·.1)->g∈(mJ f v fs).map (·.1)
 |[]=>⟨by simp[mJ],λg h=>by simp at h⟩
 |(k,x)::r=>by
  obtain⟨b,a⟩:=tQ f v r;rw[show mJ f v ((k,x)::r)=(if k=f then(k,v)::r else(k,x)::mJ f v r) from rfl];by_cases hk:k=f
  .rw[jaf hk];subst hk;exact⟨by simp,λg h=>by simpa using h⟩
  .rw[jae hk];refine⟨?_,λg h=>?_⟩
   .rw[jas];exact jav _ b
   .rw[jas] at h ⊢;rcases jah.mp h with e | e
    .exact jah.mpr (.inl e)
    .exact jav _ (a g e)
theorem u7 (f:Str)(v:V):∀fs:List (Str×V),(mJ f v fs).length<=fs.length+1
 |[]=>by simp[mJ]
 |(k,x)::r=>by
  have a:=u7 f v r;rw[show mJ f v ((k,x)::r)=(if k=f then(k,v)::r else(k,x)::mJ f v r) from rfl];by_cases hk:k=f
  .rw[jaf hk,jak,jak];lia
  .rw[jae hk,jak,jak];lia
def lQ.some_of (r:lQ (some v) o):∃u,o=some u/\RelV v u:=by
 cases o with
 |none=>exact(show False from r).elim
 |some u=>exact⟨u,M,r⟩
def lQ.none_of (r:lQ none o):o=none:=by
 cases o with
 |none=>rfl
 |some u=>exact(show False from r).elim
def KR (r:RelV v u):handedIn u=true:=by
 cases v with
 |cP=>cases(show u=Value.none from r);rfl
 |bl b=>cases(show u=Value.bool b from r);rfl
 |int i=>obtain⟨t,e⟩:=(show ∃t,u=Value.int i t from r);cases e;rfl
 |str x=>obtain⟨t,e⟩:=(show ∃t,u=Value.str x t from r);cases e;rfl
 |Ls b=>obtain⟨t,e⟩:=(show ∃t,u=Value.bytes b t from r);cases e;rfl
 |YQ b=>obtain⟨t,e⟩:=(show ∃t,u=Value.float b t from r);cases e;rfl
 |ref a=>cases(show u=Value.ref a from r);rfl
 |ty n=>cases(show u=Value.type n from r);rfl
def rQ (b:nY P w H h)(e:H a=some (.ins C dx fs)):∃mA,HB h a dx C mA/\(∀f,lQ (fs.lookup f) (mA f))/\PySem.Within mA (fs.map (·.1))/\fs.length<=1000/\H dx=some (.own a):=by
 obtain⟨d,z,ne,ob,mA,n,r,q⟩:=(show cz P w H h a (.ins C dx fs) from b a _ e)
 exact⟨mA,⟨ob,n,ne⟩,r,q,z,d⟩
structure QH (K:Frag)(C:Addr):Prop where
 pg:plainGet K C Str.empty=true
 hd:hasDictIn K C=true
 po:plainOver K C=true
 sa:findIn K (.ref C) "__setattr__"=some (some (.builtin "object.__setattr__"))
def QH.get {K:Frag}{C:Addr}(c:QH K C)(f:Str):plainGet K C f=true:=c.pg
def ko (K:Frag)(C:Addr)(f:Str):Prop:=findIn K (.ref C) f=some none
def ko.a0h (n:ko K C f):takerIn K C f=some none:=by
 unfold takerIn;rw[show findIn K (.ref C) f=some none from n];rfl
structure Meth (K:Frag)(C:Addr)(m:Str)(f:Addr):Prop where
 at_:findIn K (.ref C) m=some (some (.ref f))
 fn:isFn K (.ref f)=true
 kp:keepIn K (.ref f)=true
theorem G1 (I:Inv X vy U H s)(e:H a=some (.ins C dx fs))(c:QH X.K C)(n:ko X.K C f)(l:fs.lookup f=some v)
  (h:∀u s',Inv X vy U H s'->RelV v u->Q u s'):wpAny (model X.prog X.w) A (getAttr (.ref a) f b) Q E s:=by
 obtain⟨mA,O,r,_,_,_⟩:=rQ I.hok e;obtain⟨u,g,d⟩:=lQ.some_of (by rw[<- l];exact r f);exact get_map I.mE O (c.get f) c.hd n g (KR d) (h u _ (I.tok _) d)
theorem qm (I:Inv X vy U H s)(e:H a=some (.ins C dx fs))(c:QH X.K C)(k:Meth X.K C m g)(l:fs.lookup m=none)
  (h:Q (.ref g,[.ref a]) s):wpAny (model X.prog X.w) A (getMethod (.ref a) m pl) Q E s:=by
 obtain⟨mA,O,r,_,_,_⟩:=rQ I.hok e;have b:=lQ.none_of (by rw[<- l];exact r m);exact O0 I.mE O (c.get m) k.at_ k.fn b h
theorem Gv (I:Inv X vy U H s)(e:H a=some (.ins C dx fs))(c:QH X.K C)(n:ko X.K C f)(x:fs.length<1000)(v:RelV y u)
  (h:∀s',Inv X vy U (upd H a (.ins C dx (mJ f y fs))) s'->Q () s'):wpAny (model X.prog X.w) A (setAttr (.ref a) f u) Q E s:=by
 obtain⟨mA,O,r,j,_,i⟩:=rQ I.hok e;have t:(fs.map (·.1)).length<=sizeLine:=by rw[jac,jbe];lia
 refine Rq I.mE O c.sa c.po n.a0h c.hd j t λm d l=>h _ ?_;have hd:∃o,m.get? dx=some o:=let⟨o,_,_,e',_⟩:=d.ns;⟨o,e'⟩;refine I.write (by rw[e];exact True.intro) (.inr i) (λb q p z=>(l.2 b p).trans z) hd ?_;refine⟨by rw[aY O.ne];exact i,?_,O.ne,d.obj,_,d.ns,λg=>?_,λg k=>?_⟩
 .have:=u7 f y fs;lia
 .show lQ ((mJ f y fs).lookup g) (if g=f then some u else mA g);rw[uY];by_cases q:g=f
  .rw[jaf q,jaf q];exact v
  .rw[jae q,jae q];exact r g
 .by_cases q:g=f
  .rw[q];exact(tQ f y fs).1
  .refine(tQ f y fs).2 g (j g λz=>k ?_);show(if g=f then some u else mA g)=none;rw[jae q];exact z
theorem Inv.made (I:Inv X vy U H s):Inv X vy U (upd (upd H s.heap.objs.size (.own (s.heap.objs.size+1))) (s.heap.objs.size+1) (.ins C s.heap.objs.size []))
  {s with heap:=(s.heap.push emptyDict).push (instObj C s.heap.objs.size) }:=by
 have a:(s.heap.push emptyDict).get? s.heap.objs.size=some emptyDict:=jaK s.heap rfl;have d:((s.heap.push emptyDict).push (instObj C s.heap.objs.size)).get? (s.heap.objs.size+1)=some (instObj C s.heap.objs.size):=by
  have:=jaK (s.heap.push emptyDict) (o:=instObj C s.heap.objs.size) rfl;rwa[jbh] at this
 have f:(s.heap.push emptyDict).Ns s.heap.objs.size (λ_=>none):=⟨emptyDict,#[],_,a,M,(λe c=>absurd c (by simp)),λ_=>rfl⟩
 have g:=I.laid (o:=.own (s.heap.objs.size+1)) (h':=s.heap.push emptyDict) (t':=s.toks) (λb u q=>jap _ q) (jam _) ⟨_,a⟩;refine g.laid (t':=s.toks) (λb u q=>jap _ q) (jbs (jbh _ _)) ?_;have ne:s.heap.objs.size≠s.heap.objs.size+1:=jax (jb3 _);refine⟨by rw[aY ne,dM],jaD _,ne,d,λ_=>none,(Heap.Ns1.of_empty f).at λo q=>jap _ q,λ_=>True.intro,λy h=>absurd rfl h⟩
theorem TZ (a:attributeBase e f env (eval e env)=eval e env)
  (h:wpAny (model prog w) A (eval e env) (λo s₁=>wpAny (model prog w) A (getAttr o f true) Q E s₁) E s):wpAny (model prog w) A (eval (.Attribute e f pos) env) Q E s:=
 Attribute_any_ h (by rw[arm_eval_Attribute,a])
def a4u (K:Frag)(d:TE)(f:Str):TE:=λU H Q=>d U H λx b=>∃a C c fs v,x=.ref a/\b a=some (.ins C c fs)/\QH K C/\ko K C f/\fs.lookup f=some v/\Q v b
def a4E (K:Frag)(g d:TE)(f:Str):TS:=λD U H=>d U H λy e=>g U e λx c=>∃a C b fs,x=.ref a/\c a=some (.ins C b fs)/\QH K C/\ko K C f/\fs.length<1000/\
 D.nx U (upd c a (.ins C b (mJ f y fs)))
def Xl (j:PE X e ta)(k:attributeBase e f X.env (eval e X.env)=eval e X.env):PE X (.Attribute e f pos) (a4u X.K ta f):=by
 intro d s U H Q I h;refine TZ k (dF (j d s U H _ I h) ?_);rintro u y ⟨x,m,g,i,a,C,r,fs,v,ex,o,c,n,l,q⟩;subst ex;obtain rfl:u=Value.ref a:=i;exact G1 g o c n l λw t p b=>⟨v,m,p,b,q⟩
def Xa (e:PE X o ta)(r:PE X value tv)(hs:swapsWith value (some (.Attribute o f pos')) pos.line X.env=pure false):PS X (.Assign [.Attribute o f pos'] value pos) (a4E X.K ta tv f):=by
 intro b s U H D I h;refine plainObj_wpAny_Assign_Attribute (dF (r b s U H _ I h) ?_) hs;rintro u d ⟨y,p,j,g,q⟩;refine dF (e b d U p _ j q) ?_;rintro i A ⟨x,B,v,m,a,C,z,fs,ex,t,c,n,l,w⟩;subst ex;obtain rfl:i=Value.ref a:=m;exact Gv v t c n l g λE k=>⟨U,_,k,w⟩
inductive sA (K:Frag) (H:Hp):V->Value->Prop where
 |cP:sA K H .cP (.type "NoneType")
 |bl (x:Bool):sA K H (.bl x) (.type "bool")
 |int (i:Int):sA K H (.int i) (.type "int")
 |str (x:Str):sA K H (.str x) (.type "str")
 |YQ (x:UInt64):sA K H (.YQ x) (.type "float")
 |lst {a:Addr} {xs:List V} (e:H a=some (.lst xs)):sA K H (.ref a) (.type "list")
 |FZ {a:Addr} {o:Obj} {xs:List V} (e:H a=some (.FZ o (.lst xs))):sA K H (.ref a) (.type "list")
 |tup {a:Addr} {xs:List V} (e:H a=some (.tup xs)):sA K H (.ref a) (.type "tuple")
 |dK {a:Addr} {kvs:List (Key×V)} (e:H a=some (.dK kvs)):sA K H (.ref a) (.type "dict")
 |dT {a:Addr} {kvs:List (List Key×V)} (e:H a=some (.dT kvs)):sA K H (.ref a) (.type "dict")
 |ins {a C dx:Addr} {fs:List (Str×V)} (e:H a=some (.ins C dx fs)) (cl:QH K C) (ha:findIn K (.ref C) "__class__"=some (some (.builtin "object.__class__")))
   (hn:specialIn K (.builtin "object.__class__") "__get__"=some (some (.builtin "getset_descriptor.__get__"))) (htk:takesIn K (.builtin "object.__class__")=some true)
   (hm:mroIn K C (.type "object")=some true):sA K H (.ref a) (.ref C)
theorem KL (I:Inv X vy U H s)(d:RelV x u)(ty:sA X.K H x t)(e:kitOne X.K t c=some b)(h:∀tk,Q (.bool b) {s with toks:=tk }) :
  wpAny (model X.prog X.w) A (call (.builtin "isinstance") [u,c]) Q E s:=by
 cases ty with
 |cP=>cases(show u=Value.none from d);exact jbr PySem.W.kitx_none I.mE True.intro e (λz=>nomatch z) h
 |bl y=>cases(show u=Value.bool y from d);exact jbr PySem.W.kitx_bool I.mE True.intro e (λz=>nomatch z) h
 |int i=>obtain⟨t,q⟩:=(show ∃t,u=Value.int i t from d);cases q;exact jbr PySem.W.kitx_int I.mE True.intro e (λz=>nomatch z) h
 |str y=>obtain⟨t,q⟩:=(show ∃t,u=Value.str y t from d);cases q;exact jbr PySem.W.kitx_str I.mE True.intro e (λz=>nomatch z) h
 |YQ y=>obtain⟨t,q⟩:=(show ∃t,u=Value.float y t from d);cases q;exact jbr PySem.W.kitx_float I.mE True.intro e (λz=>nomatch z) h
 | @lst a k f=>
  cases(show u=Value.ref a from d);obtain⟨_,_,n,_,g⟩:=(show cz X.prog X.w H s.heap a (.lst k) from I.hok a _ f)
  exact jbr kitx_list I.mE ⟨_,g,M⟩ e (λz=>nomatch z) h
 | @FZ a ob k f=>
  cases(show u=Value.ref a from d);obtain⟨_,_,_,n,_,g⟩:=(show cz X.prog X.w H s.heap a (.FZ ob (.lst k)) from I.hok a _ f)
  exact jbr kitx_list I.mE ⟨_,g,M⟩ e (λz=>nomatch z) h
 | @tup a k f=>
  cases(show u=Value.ref a from d);obtain⟨_,_,_,p⟩:=(show cz X.prog X.w H s.heap a (.tup k) from I.hok a _ f)
  obtain⟨o,g,l,_⟩:=p;exact jbr PySem.W.kitx_tuple I.mE ⟨o,g,l⟩ e (λz=>nomatch z) h
 | @dK a j f=>
  cases(show u=Value.ref a from d);obtain⟨_,_,N,_,p⟩:=(show cz X.prog X.w H s.heap a (.dK j) from I.hok a _ f)
  obtain⟨o,F,v,g,l,_⟩:=p;exact jbr kitx_dict I.mE ⟨o,g,l.1⟩ e (λz=>nomatch z) h
 | @dT a j f=>
  cases(show u=Value.ref a from d);obtain⟨_,_,k,_,o,F,v,g,l,_⟩:=(show cz X.prog X.w H s.heap a (.dT j) from I.hok a _ f)
  exact jbr kitx_dict I.mE ⟨o,g,l.1⟩ e (λz=>nomatch z) h
 | @ins a C G fs f cl D r m B=>
  cases(show u=Value.ref a from d);obtain⟨mA,O,_⟩:=rQ I.hok f;obtain⟨L,J,_⟩:=O.look;exact jbr (kitx_own (cl.get _) cl.hd D r m B) I.mE J e (λz=>nomatch z) h
structure cV (k:Nat)(A:Around):Prop where
 hd:A.handled=none
 dp:A.depth+3*k+5<recursionLimit
 un:A.units+16*k+200<cLine
def cV.mono (r:cV k A)(h:j<=k):cV j A:=⟨r.hd,by have:=r.dp;lia,by have:=r.un;lia⟩
def cV.m (r:cV k A)(h:j<=k:=by first | decide | lia):cV j A:=r.mono h
theorem cV.deeper (r:cV (k+1) A)(env:Env):cV k (A.deeper env):=
 ⟨r.hd,by have:=r.dp;show A.depth+1+3*k+5<_;lia,by have:=r.un;show A.units+3+16*k+200<_;lia⟩
def GS:(A.under (.builtin "type.__call__" ⟨.ref C::us,a⟩)).depth=A.depth+1:=by
 first | rfl | simp[guardIds]
def GR:(A.under (.builtin "type.__call__" ⟨.ref C::us,a⟩)).units=A.units+1:=by
 first | rfl | simp[Code.frames]
theorem cV.make (r:cV (k+1) A)(C:Addr)(us:jcJ)(a:List (Str×Value)):cV k (A.under (.builtin "type.__call__" ⟨.ref C::us,a⟩)):=
 ⟨r.hd,by have:=r.dp;rw[GS];lia,by have:=r.un;rw[GR];lia⟩
def cV.depth (r:cV k A):A.depth<recursionLimit:=by have:=r.dp;lia
def cV.units (r:cV k A):A.units+64<cLine:=by have:=r.un;lia
def a4q:TA:=λ_ H Q=>Q [] H
def UC (a:TE)(tr:TA):TA:=λU H Q=>a U H λx b=>tr U b λd c=>Q (x::d) c
def ly:PA X [] a4q:=λ_ _ _ _ H Q I h=>Calls.spliced_nil ⟨[],H,I,.nil,h⟩
def ou (n:PE X e te)(c:PA X es t)(hs:autoParam (starEach (e::es) X.env=(false,eval e X.env)::starEach es X.env) zi):PA X (e::es) (UC te t):=by
 intro a b s U H Q I h;rw[hs];refine Calls.spliced_cons (dF (n b s U H _ I h) ?_);rintro u d ⟨x,l,f,k,g⟩;exact dF (c a b d U l _ f g) (by rintro us q ⟨o,i,m,j,p⟩;exact⟨x::o,i,m,.cons k j,p⟩)
def a4i (t:TA):TE:=λU H Q=>t U H λb a=>b.length<=sizeLine/\∀p,a p=none->Q (.ref p) (upd a p (.tup b))
def a0s (t:TA):TE:=λU H Q=>t U H λb a=>b.length<=sizeLine/\∀p,a p=none->Q (.ref p) (upd a p (.lst b))
def Xg {x1}(h:PA X es t):PE X (.Tuple es x1 pos) (a4i t):=by
 intro g s U H Q I d;refine wpAny_Tuple_spliced (dF (h pos g s U H _ I d) ?_);rintro us a ⟨j,i,c,r,z,q⟩;refine⟨by rw[<- r.length];exact z,?_⟩;have f:=c.hok.fresh (jam _);refine⟨.ref a.heap.objs.size,upd i a.heap.objs.size (.tup j),c.laid (t':=a.toks) (λb u e=>jap _ e) (jam _) ?_,M,q _ f⟩;exact⟨z,us,r,⟨_,jaK _ M,M,_,M⟩⟩
def BR (h:PA X es t):PE X (.List es pos) (a0s t):=by
 intro g s U H Q I d;refine wpAny_List_spliced (dF (h pos g s U H _ I d) ?_);rintro us a ⟨j,i,c,r,z,q⟩;refine⟨by rw[<- r.length];exact z,?_⟩;have f:=c.hok.fresh (jam _);refine⟨.ref a.heap.objs.size,upd i a.heap.objs.size (.lst j),c.laid (t':=a.toks) (λb u e=>jap _ e) (jam _) ?_,M,q _ f⟩;exact⟨z,us,0,r,jaK _ M⟩
abbrev Sp:=List V->Hp->VK->XK->Prop
abbrev Dp:=List Env->Hp->Shared->XK->Value->Shared->Prop
structure HF (P:Program)(w:World)(K:Frag)(mg:Str->Option Value)(base:Heap)(A:Around)(outer:List Env)(s:Shared)(H:Hp):Prop where
 frames:A.frames=some outer
 mod:Mod K mg base
 bs:∀b o,base.get? b=some o->s.heap.get? b=some o/\H b=none
 Jy:base.objs.size<=s.heap.objs.size
 qo:s.heap.FunFrames base outer
 Qu:∀b∈frs outer,H b=none
 hok:nY P w H s.heap
 bare:AllBare s.gens
def CE (outer:List Env)(P:Program)(w:World)(H:Hp)(s:Shared)(Q:VK)(u:Value)(s':Shared):Prop:=
 ∃v a,s'.os=s.os/\AllBare s'.gens/\Un (frs outer) [] H a s.heap s'.heap/\nY P w a s'.heap/\RelV v u/\Q v a
def CR (a:Dp)(outer:List Env)(P:Program)(w:World)(H:Hp)(s:Shared)(Q:VK)(E:XK)(r:Result)(s':Shared):Prop:=
 match r with
 |.ok (.ret u)=>CE outer P w H s Q u s'
 |.ok _=>False
 |.error e=>a outer H s E e s'
structure dX (P:Program)(w:World)(K:Frag)(mg:Str->Option Value)(base:Heap)(CX:Dp)(k:Nat)(f:Addr)(fd:FuncData)(ps:List Str)(sp:Sp):Prop where
 len:∀vs H Q E,sp vs H Q E->vs.length=ps.length
 run:∀(A:Around)(outer:List Env)(s:Shared)(H:Hp)(args:Args)(us:List Value)(vs:List V) (Q:VK) (E:XK),cV k A->HF P w K mg base A outer s H->BindsTo s fd args (ps.zip us)->Vals vs us->sp vs H Q E->
  codeAny (model P w) A (.call (.ref f) args) (CR CX outer P w H s Q E) s
theorem dX.mono (F:dX P w K e base d j f c ps sp)(h:j<=k) :
  dX P w K e base d k f c ps sp:=⟨F.len,λA a s H b us i Q E g=>F.run A a s H b us i Q E (g.mono h)⟩
theorem HF.make (e:HF P w K a base A outer s H)(C:Addr)(us:jcJ)(b:List (Str×Value)) :
  HF P w K a base (A.under (.builtin "type.__call__" ⟨.ref C::us,b⟩)) outer s H:=⟨by first | exact e.frames | (simpa[pushEnvs] using e.frames),e.mod,e.bs,e.Jy,e.qo,e.Qu,e.hok,e.bare⟩
theorem Inv.YW (I:Inv X vy U H s):HF X.prog X.w X.K X.mg X.base X.A X.stack s H:=
 ⟨I.ok.frames,I.ok.mod,I.bs,jai I.ok.Jy I.sz,I.stack,I.oi,I.hok,I.bare⟩
def Inv.after (I:Inv X vy U H s)(h:CE X.stack X.prog X.w H s Q u s'):EP X vy U Q u s':=by
 obtain⟨v,f,j,a,un,e,r,q⟩:=h;obtain⟨i,g,d,t,c⟩:=s';obtain rfl:c=s.os:=j;exact⟨v,f,I.call (h':=i) (g':=g) (d':=d) (t':=t) un e a (λb z=>absurd z (by simp)),r,q⟩
def UD (sp:Sp)(b:List V)(E:XK)(t:TA):TE:=λU H Q=>t U H λc a=>sp (c++b) a Q E
def Ux (C:Addr)(sp:Sp)(b:List V)(E:XK)(t:TA):TE:=λU H Q=>t U H λc a=>∀x dx,a x=none->a dx=none->dx≠x->
 sp (.ref x::(c++b)) (upd (upd a dx (.own x)) x (.ins C dx [])) (λv d=>v=.cP/\Q (.ref x) d) E
def Binds (K:Frag)(a:FuncData)(ps:jcI)(ds:jcJ):Prop:=
 ∀(s:Shared)(us:jcJ),K.In s.heap->(us++ds).length=ps.length->BindsTo s a ⟨us,[]⟩ (ps.zip (us++ds))
theorem Binds.all (h:∀us:jcJ,us.length=ps.length->bindArgs a ⟨us,[]⟩=pure (ps.zip us)):Binds K a ps []:=λs us _ b=>by
 rw[jaw] at b ⊢;exact .of_eq (h us b)
def Passes (a:Dp)(X:Cx)(E:XK):Prop:=∀(vy:jcF) (U:St) (H:Hp) (s:Shared) (e:Value) (s':Shared),Inv X vy U H s->a X.stack H s E e s'->X.xe e s'
theorem xF (F:dX X.prog X.w X.K X.mg X.base CX k f fd ps sp)(d:cV k X.A)(l:Binds X.K fd ps ds)(hd:Vals A9 ds)(m:Passes CX X E)
  (I:Inv X b U H s) (r:Vals vs us) (h:sp (vs++A9) H Q E):wpAny (model X.prog X.w) X.A (call (.ref f) us) (EP X b U Q) X.xe s:=by
 have c:=r.append hd;have j:(us++ds).length=ps.length:=by rw[<- c.length];exact F.len _ _ _ _ h
 refine wpAny_call (jbK (F.run X.A X.stack s H ⟨us,[]⟩ (us++ds) (vs++A9) Q E d I.YW (l s us I.mE j) c h) λr g a=>?_);cases r with
 |error e=>exact m b U H s e g I a
 |ok i=>
  cases i with
  |ret u=>exact I.after a
  |next=>exact False.elim a
  |brk=>exact False.elim a
  |cont=>exact False.elim a
theorem Sk (F:dX X.prog X.w X.K X.mg X.base CX k f fd ps sp)(d:cV k X.A)(i:Gl X x)(j:X.mg x=some (.ref f))(hk:keepIn X.K (.ref f)=true)(m:Binds X.K fd ps ds)(hd:Vals A9 ds)(n:Passes CX X E)
  (o:PA X (e::es) t) (a:autoParam ((x==("__debug__":Str))=false) zn) (l:autoParam (starEach (e::es) X.env=(false,eval e X.env)::starEach es X.env) zi) (b:autoParam ((backTo pos (starEach es X.env)).any (·.1)=false) zi) :
  PE X (.Call (.Name x p) (e::es) [] pos) (UD sp A9 E t):=by
 intro g s U H Q I h;refine jcl (lJ I i j ?_ a);refine jbY I.ok.mod.S8 hk (dF (o pos g s U H _ I h) ?_) l b;rintro us y ⟨u,v,c,r,q⟩;refine⟨c.mE,?_⟩;exact xF F d m hd n c r q
structure Mk (K:Frag)(C f:Addr):Prop where
 makes:makesIn K C=true
 init:findIn K (.ref C) "__init__"=some (some (.ref f))
 fn:isFn K (.ref f)=true
 kp:keepIn K (.ref C)=true
theorem Na (jcE:Mk X.K C f)(F:dX X.prog X.w X.K X.mg X.base CX k f fd ps sp)(i:cV (k+1) X.A)(t:Binds X.K fd ps ds)(hd:Vals A9 ds)
  (z:Passes CX X E) (I:Inv X c U H s) (r:Vals vs us)
  (h:∀x dx,H x=none->H dx=none->dx≠x->sp (.ref x::(vs++A9)) (upd (upd H dx (.own x)) x (.ins C dx [])) (λv H2=>v=.cP/\Q (.ref x) H2) E) :
  wpAny (model X.prog X.w) X.A (call (.ref C) us) (EP X c U Q) X.xe s:=by
 have d:=h (s.heap.objs.size+1) s.heap.objs.size (I.hok.fresh (jbA _)) (I.hok.fresh (jam _)) (jax (jb3 _));have b:=Inv.made (C:=C) I;have g:Vals (V.ref (s.heap.objs.size+1)::(vs++A9)) (Value.ref (s.heap.objs.size+1)::(us++ds)):=.cons rfl (r.append hd);have q:(Value.ref (s.heap.objs.size+1)::us++ds).length=ps.length:=by
  have e:=g.length;rw[F.len _ _ _ _ d] at e;exact e.symm
 refine wpAny_call (Ol I.mE jcE.makes jcE.init (ja8.mp jcE.fn) (jbK (F.run _ X.stack _ _ ⟨Value.ref (s.heap.objs.size+1)::us,[]⟩ (Value.ref (s.heap.objs.size+1)::(us++ds)) _ _ E (i.make C us [])
  (b.YW.make C us []) (t _ (Value.ref (s.heap.objs.size+1)::us) b.mE q) g d) λr j a=>?_))
 cases r with
 |error e=>exact z c U _ _ e j b a
 |ok n=>
  cases n with
  |ret u=>
   obtain⟨v,l,p,y,o,m⟩:=b.after a;subst o;exact⟨y,⟨V.ref (s.heap.objs.size+1),l,p,M,m⟩⟩
  |next=>exact False.elim a
  |brk=>exact False.elim a
  |cont=>exact False.elim a
theorem Se (jcE:Mk X.K C f)(F:dX X.prog X.w X.K X.mg X.base CX k f fd ps sp)(d:cV (k+1) X.A)(i:Gl X x)(j:X.mg x=some (.ref C))(m:Binds X.K fd ps ds)(hd:Vals A9 ds)(n:Passes CX X E)
  (o:PA X (e::es) t) (a:autoParam ((x==("__debug__":Str))=false) zn) (l:autoParam (starEach (e::es) X.env=(false,eval e X.env)::starEach es X.env) zi) (b:autoParam ((backTo pos (starEach es X.env)).any (·.1)=false) zi) :
  PE X (.Call (.Name x p) (e::es) [] pos) (Ux C sp A9 E t):=by
 intro g s U H Q I h;refine jcl (lJ I i j ?_ a);refine jbY I.ok.mod.S8 jcE.kp (dF (o pos g s U H _ I h) ?_) l b;rintro us y ⟨u,v,c,r,q⟩;refine⟨c.mE,?_⟩;exact Na jcE F d m hd n c r q
structure iJ (N P:List Str)(sc:Scope):Prop where
 kind:sc.kind=.function
 co:sc.isCoroutine=false
 gen:sc.isGenerator=false
 nd:N.Nodup
 pre:N.take P.length=P
 par:∀x∈P,sc.names.lookup x=some .local\/sc.names.lookup x=some .cell
 XJ:∀y∈sc.names,y.2≠.free
theorem Bj:∀{binds:List (Str×Value)} {m:Str->jcN},(∀v,(x,v)∉binds)->bindL a binds m x=m x
 |[],_,_=>rfl
 |(n,v)::r,m,h=>by
  unfold bindL;rw[Bj λw b=>h w (jav _ b)];split
  .have:x≠n:=by rintro rfl;exact h v jay
   simp[this]
  .rfl
theorem Bm:∀{binds:List (Str×Value)} {m:Str->jcN},(∀v,(x,v)∉binds)->bindC a binds m x=m x
 |[],_,_=>rfl
 |(n,v)::r,m,h=>by
  unfold bindC;rw[Bm λw b=>h w (jav _ b)];split
  .rfl
  .have:x≠n:=by rintro rfl;exact h v jay
   simp[this]
theorem Bl:∀{P:jcI}{vs:jcJ}{i:Nat}{m:Str->jcN},P.Nodup->P[i]?=some x->vs[i]?=some v->a x=some .local->
  bindL a (P.zip vs) m x=some v
 |[],_,_,_,_,h,_,_=>by simp at h
 |_::_,[],_,_,_,_,h,_=>by simp at h
 |p::P,w::vs,0,m,nd,h1,h2,hk=>by
  simp at h1 h2;subst h1;subst h2;show bindL a ((p,w)::P.zip vs) m p=_;unfold bindL;rw[Bj λv b=>(jbv.mp nd).1 (List.of_mem_zip b).1,jaf hk];simp
 |p::P,w::vs,i+1,m,nd,h1,h2,hk=>by
  unfold bindL;exact Bl (jbv.mp nd).2 (by simpa using h1) (by simpa using h2) hk
theorem Bo:∀{P:jcI}{vs:jcJ}{i:Nat}{m:Str->jcN},P.Nodup->P[i]?=some x->vs[i]?=some v->a x≠some .local->
  bindC a (P.zip vs) m x=some v
 |[],_,_,_,_,h,_,_=>by simp at h
 |_::_,[],_,_,_,_,h,_=>by simp at h
 |p::P,w::vs,0,m,nd,h1,h2,hk=>by
  simp at h1 h2;subst h1;subst h2;show bindC a ((p,w)::P.zip vs) m p=_;unfold bindC;rw[Bm λv b=>(jbv.mp nd).1 (List.of_mem_zip b).1,jae hk];simp
 |p::P,w::vs,i+1,m,nd,h1,h2,hk=>by
  unfold bindC;exact Bo (jbv.mp nd).2 (by simpa using h1) (by simpa using h2) hk
noncomputable def start (N:jcI)(vs:List V):St:=vs.map some++List.replicate (N.length - vs.length) none
noncomputable def CT (CX:Dp)(P:Program)(w:World)(K:Frag)(mg:Str->jcN)(base:Heap)(N:jcI)(qual:Str)(scope:Scope)(f:Addr)(cd:Value)(A:Around)(outer:List Env)(s:Shared)(H:Hp)(E:XK):Cx where
 prog:=P
 w:=w
 K:=K
 mg:=mg
 base:=base
 A:=A.deeper (envOfC qual scope s.heap.objs.size f cd)
 N:=N
 s₀:=s
 H₀:=H
 env:=envOfC qual scope s.heap.objs.size f cd
 outer:=outer
 stack:=envOfC qual scope s.heap.objs.size f cd::outer
 ex:=[]
 calm:=true
 fn:=λ_=>true
 pn:=[]
 xe:=λe s'=>wpAny (model P w) (A.deeper (envOfC qual scope s.heap.objs.size f cd)) (leaving (envOfC qual scope s.heap.objs.size f cd) e) (λ_ s''=>CX outer H s E e s'') (λe' s''=>CX outer H s E e' s'') s'
def Fo {sc:Scope}(h:sc.names.lookup x=some .cell):∃c,(cellsFrom n sc.names []).lookup x=some c:=by
 have q:=cellsFrom_some sc.names n [] (.inl h);exact Option.isSome_iff_exists.mp q
theorem KO {D:Value}
  (S:iJ N ps d) (hd:A.handled=none) (l:HF P w K F base A outer s H) (T:vs.length=ps.length) (r:Vals vs us)
  (x:InCallC s s.heap.objs.size (bindL (envOfC g d s.heap.objs.size f D).kindOf (ps.zip us) λ_=>none) (cellsFrom (s.heap.objs.size+1) d.names []) (bindC (envOfC g d s.heap.objs.size f D).kindOf (ps.zip us) λ_=>none) I) :
  Inv (CT J P w K F base N g d f D A outer s H E) [] (start N vs) H I:=by
 have L:ps.length<=N.length:=by have:=jao List.length S.pre;rw[jbF] at this;lia
 obtain⟨B,tk,rfl,hk⟩:=x.done;have n:∀b:Addr,b∉(CT J P w K F base N g d f D A outer s H E).ex:=λb z=>absurd (show b∈([]:jcK) from z) (by simp);refine⟨⟨l.mod,S.kind,M,M,jam _,λy z c B j=>?_,λy m=>?_,λy c _ h=>?_,λ_=>hd,Around.frames_deeper l.frames,.inr ⟨M,M⟩,λb z=>absurd z (n b),l.bs,l.Jy,λb _ _=>n b,λb z=>absurd z (n b),l.qo,l.Qu⟩,
  M,l.bare,Un.kept hk,⟨_,x.toInCall.ns,λi y v B j R=>?_⟩,λy c h=>⟨_,x.cell y c h⟩,l.hok.fresh (jam _),λy c h=>?_,λp o=>absurd (show p∈([]:jcF) from o) (by simp),l.hok.kept hk,?_⟩
 .exact name_of_addr x.apart (jbO B) (jbO j)
 .have m:=m;rcases m with m | m
  .exact Fo m
  .exact absurd rfl (S.XJ _ (jbO m))
 .exact jbj (x.above y c (jbO h))
 .have C:i<vs.length:=by
   unfold start at j;by_cases C:i<vs.length
   .exact C
   .rw[jbf (by simpa using C)] at j;rw[jbM] at j;split at j<;>cases j
  have O:vs[i]?=some v:=by
   unfold start at j;rw[jaU (by simpa using C),jaV] at j;cases e:vs[i]? with
   |none=>rw[e] at j;cases j
   |some a=>rw[e] at j;cases j;rfl
  obtain⟨u,G,Q⟩:=r.get O;have o:ps[i]?=some y:=by
   rw[<- S.pre,List.getElem?_take_of_lt (by lia)];exact B
  have t:ps.Nodup:=by rw[<- S.pre];exact S.nd.sublist (List.take_sublist _ _)
  refine⟨u,Q,?_⟩;rcases S.par y (jbB o) with k | k
  .exact .inl ⟨k,Bl t o G k⟩
  .obtain⟨c,e⟩:=Fo k;refine .inr ⟨.inl k,c,e,?_⟩;have q:=x.cell y c e;rw[Bo t o G (by show d.names.lookup y≠_;rw[k];decide)] at q;exact q
 .exact l.hok.fresh (jbj (x.above y c (jbO h)))
 .unfold start;show _=N.length;rw[jab,jac,jbW];lia
theorem Vt {T kV:Value}
  {D:jcH}   (lk:K.lookup f=some ⟨oc,od,.func (fnOf h c d g a T kV m U an AT ct),D⟩) (M:codeIn K AT c=true) (S:iJ N ps a)
  (len:∀vs H Q E,sp vs H Q E->vs.length=ps.length)
  (j:∀(A:Around)(outer:List Env)(s:Shared)(H:Hp)(vs:List V)(Q:VK)(E:XK),cV k (A.deeper (envOfC c a s.heap.objs.size f AT))->sp vs H Q E->
   ∃t,Bp (CT z P w K B base N c a f AT A outer s H E) g t/\t {nx:=λ_ H'=>Q .cP H',rt:=Q } (start N vs) H) :
  dX P w K B base z (k+1) f (fnOf h c d g a T kV m U an AT ct) ps sp:=by
 refine⟨len,λA outer s H R us vs Q E F p hb r Y=>?_⟩;have hl:=len _ _ _ _ Y;have Z:=p.mod.S8.keeps λb o e=>(p.bs b o e).1;have L:=p.mod.nolimit.keeps λb o e=>(p.bs b o e).1;have i:∀y∈ps.zip us,a.names.lookup y.1=some .local\/(a.names.lookup y.1=some .cell/\((cellsFrom (s.heap.objs.size+1) a.names []).lookup y.1).isSome=true):=λ⟨n,v⟩ hy=>by
  rcases S.par n (List.of_mem_zip hy).1 with q | q
  .exact .inl q
  .exact .inr ⟨q,cellsFrom_some _ _ _ (.inl q)⟩
 refine codeAny_call_function F.depth (Z _ _ lk) rfl S.co S.gen rfl (PySem.W.codeRec_of Z M) (hb _ _ _ _ ?_);refine wpAny_newFunctionEnv_cells S.kind i λenv he X x=>?_;subst he;refine⟨L.keeps x.toInCall.keep,codeAny_func ?_⟩;obtain⟨t,ht,hq⟩:=j A outer s H vs Q E (F.deeper _) Y;have I:Inv (CT z P w K B base N c a f AT A outer s H E) [] (start N vs) H X:=KO S F.hd p hl r x;refine jaS (ht [] X (start N vs) H _ I hq) (λfl G l=>?_) λe G l=>l;have fin:∀{C:St}{H':Hp}{v:V}{u:Value},Inv (CT z P w K B base N c a f AT A outer s H E) [] C H' G->RelV v u->Q v H'->CE outer P w H s Q u G:=
  λ{C H' v u} J O q=>⟨v,H',J.os,J.bare,J.base,J.hok,O,q⟩
 cases fl with
 |ret u=>
  obtain⟨v,C,H',J,O,q⟩:=l;exact fin J O q
 |next=>
  obtain⟨C,H',J,q⟩:=l;exact fin (v:=V.cP) J rfl q
 |brk=>
  obtain⟨_,_,_,q⟩:=l;exact False.elim q
 |cont=>
  obtain⟨_,_,_,q⟩:=l;exact False.elim q
section
variable {T:String}
def tCB (r:List V->Hp->VK->Prop)(t:TA):TE:=λU H Q=>t U H λb a=>r b a Q
theorem NR {x:Str}{p:Pos}{pos:Pos}{e:Expr}{es:jcL}{t:TA}{id:String}{r:List V->Hp->VK->Prop}(q:eB X (.builtin id) r)(f:Gl X x)(j:X.mg x=none)(o:bootBuiltins x=some (.builtin id))(v:PA X (e::es) t)(i:autoParam (x≠"__name__") zn)(a:autoParam ((x==("__debug__":Str))=false) zn)
  (k:autoParam (starEach (e::es) X.env=(false,eval e X.env)::starEach es X.env) zi) (b:autoParam ((backTo pos (starEach es X.env)).any (·.1)=false) zi):PE X (.Call (.Name x p) (e::es) [] pos) (tCB r t):=by
 intro c s U H Q I h;refine jcl (yy I f j o ?_ i a);exact PyProof.Rows.callWith_builtin1 (dF (v pos c s U H _ I h) (by rintro us u ⟨l,m,d,n,g⟩;exact q c u U m l us Q d n g)) k b
theorem J5 (q:eB X (.type T) r)(f:Gl X x)(j:X.mg x=none)(o:bootBuiltins x=some (.type T))(v:PA X (e::es) t)(i:autoParam (x≠"__name__") zn)(a:autoParam ((x==("__debug__":Str))=false) zn)
  (k:autoParam (starEach (e::es) X.env=(false,eval e X.env)::starEach es X.env) zi) (b:autoParam ((backTo pos (starEach es X.env)).any (·.1)=false) zi):PE X (.Call (.Name x p) (e::es) [] pos) (tCB r t):=by
 intro c s U H Q I h;refine jcl (yy I f j o ?_ i a);exact PyProof.Rows.callWith_type1 (dF (v pos c s U H _ I h) (by rintro us u ⟨l,m,d,n,g⟩;exact q c u U m l us Q d n g)) k b
end
end L2
namespace HT
open PySem PyProof.Rows
section
open PySem.SeqAt
open PySem.AutoSeq1 (wpAny_loadPart')
open PySem.MeetsSeq PySem.MeetsSeq2 PySem.MeetsSeq3
end
theorem TR (x:IsTup s.heap t vs.toArray)(y:IsTup s.heap b a.toArray)(q:vs≠[])
  (v:a=[]->Q (.ref t) s) (u:a≠[]->Q (.ref s.heap.objs.size) {s with heap:=s.heap.push {cls:=.type "tuple",data:=.seq (vs++a).toArray } })
  (k:vs.length+a.length<=sizeLine):wpAny (model prog w) A (binaryOp .Add (.ref t) (.ref b)) Q E s:=by
 obtain⟨⟨cls,o,data,m⟩,h,z,n,hd⟩:=id x;obtain⟨⟨r,f,i,d⟩,c,l,p,j⟩:=id y;subst z hd l j;have e:vs.toArray++a.toArray=(vs++a).toArray:=by simp
 by_cases g:a=[]
 .exact concat_meets ⟨_,h,M⟩ ⟨_,c,M⟩ noFill_tuple_add seq_tuple_add PySem.F.slot_tuple_add PySem.F.entry_tuple_add (PySem.F.args_tuple_add_2 _ _)
   (tuple_addW1 t b vs.toArray a.toArray n p o f m d (by simpa using q) (by simp[g])) ⟨h,c,v g⟩
 .refine concat_meets ⟨_,h,M⟩ ⟨_,c,M⟩ noFill_tuple_add seq_tuple_add PySem.F.slot_tuple_add PySem.F.entry_tuple_add (PySem.F.args_tuple_add_2 _ _)
   (tuple_addW2 t b vs.toArray a.toArray n p o f m d (by simpa using q) (by simpa using g) (by rw[jaz];exact k)) ⟨h,c,?_⟩
  rw[e];exact u g
noncomputable def fQ (n d:Nat):Option Int->Nat
 |none=>d
 |some v=>if v<0 then(v+(n:Int)).toNat else min v.toNat n
def D7 (n d:Nat):fQ n d none=d:=rfl
def IB (n d k:Nat):fQ n d (some (k:Int))=min k n:=rfl
def a4D (n d:Nat)(hd:d<=n)(o:Option Int):fQ n d o<=n:=by
 cases o with
 |none=>exact hd
 |some v=>
  show(if v<0 then(v+(n:Int)).toNat else min v.toNat n)<=n;by_cases a:v<0
  .rw[jaf a];lia
  .rw[jae a];exact Nat.min_le_right _ _
def Jr (v:Int)(n d:Nat):(if v<0 then max (v+(n:Int)) 0 else min v (n:Int))=((fQ n d (some v):Nat):Int):=by
 show(if v<0 then max (v+(n:Int)) 0 else min v (n:Int))=(((if v<0 then(v+(n:Int)).toNat else min v.toNat n):Nat):Int);by_cases a:v<0
 .simp only[jaf a];lia
 .simp only[jae a];lia
def Hz (a b:Option Int)(n:Nat):Builtin.Slice.sliceAdjust a b 1 (n:Int)=(((fQ n 0 a:Nat):Int),((fQ n n b:Nat):Int)):=by
 have c:¬((1:Int)<0):=by lia
 unfold Builtin.Slice.sliceAdjust;refine Prod.ext ?_ ?_
 .cases a with
  |none=>rfl
  |some v=>exact Jr v n 0
 .cases b with
  |none=>rfl
  |some v=>exact Jr v n n
def GB (i j:Nat):Builtin.Slice.slicePlaces (i:Int) (j:Int) 1=j - i:=by
 unfold Builtin.Slice.slicePlaces;split<;>lia
def wR (p:IsPart v o)(h:Q o s):wpAny (model prog w) A (Builtin.Slice.slicePartIndex v) Q E s:=by
 cases p with
 |none=>exact slicePart_none h
 |int i t=>exact slicePart_int h
theorem sW {prog:Program}{w:World}{A:Around}{E:jcG}{s:Shared}{e:Addr}{f g:Value}{a d:Option Int}{n:Nat}{Q:Int×Int×Nat->Shared->Prop}(hs:s.heap.IsSliceOf e f g .none)(pl:IsPart f a)(i:IsPart g d)
  (h:Q (((fQ n 0 a:Nat):Int),1,fQ n n d - fQ n 0 a) s):wpAny (model prog w) A (Builtin.Slice.sliceApplied (.ref e) (pure (n:Int))) Q E s:=by
 obtain⟨k,c,j,b⟩:=id hs;refine jaa (jaa (ja7 c b rfl (jaa (ja7 c b rfl (jaa (ja7 c b rfl (jad ?_)))))));refine jaa (slicePart_none ?_);refine jaa (wR pl (jaa (wR i (jaa (jad ?_)))));show wpAny _ _ (match Builtin.Slice.sliceAdjust a d 1 (n:Int) with | (a,d)=>pure (a,(1:Int),Builtin.Slice.slicePlaces a d 1)) _ _ s;rw[Hz a d n];show wpAny _ _ (pure (((fQ n 0 a:Nat):Int),(1:Int),Builtin.Slice.slicePlaces ((fQ n 0 a:Nat):Int) ((fQ n n d:Nat):Int) 1)) _ _ s;rw[GB];exact jad h
def NI (xs:Array Value)(i k:Nat):((List.range k).filterMap λ(m:Nat)=>xs[((i:Int)+(m:Int)*1).toNat]?).toArray=((xs.toList.drop i).take k).toArray:=by
 have e:(λ(m:Nat)=>xs[((i:Int)+(m:Int)*1).toNat]?)=λm=>xs[i+m]?:=by
  funext m;have:((i:Int)+(m:Int)*1).toNat=i+m:=by lia
  rw[this]
 rw[e];have:=pick_run xs i k;rw[List.filterMap_map] at this;have a:((λx=>xs[x]?) ∘ λx=>i+x)=λm=>xs[i+m]?:=rfl;rw[a] at this;rw[this]
theorem rS (d:IsTup s.heap t a)(hs:s.heap.IsSliceOf f l m .none)(pl:IsPart l b)(o:IsPart m c)
  (p:¬(fQ a.size 0 b=0/\fQ a.size a.size c=a.size))
  (h:Q (.ref s.heap.objs.size) {s with heap:=s.heap.push {cls:=.type "tuple",data:=.seq ((a.toList.drop (fQ a.size 0 b)).take (fQ a.size a.size c - fQ a.size 0 b)).toArray } })
  (r:a.size<=sizeLine):wpAny (model prog w) A (getItem (.ref t) (.ref f)) Q E s:=by
 have e:sizeOk (.seq ((a.toList.drop (fQ a.size 0 b)).take (fQ a.size a.size c - fQ a.size 0 b)).toArray):=by
  show((a.toList.drop (fQ a.size 0 b)).take (fQ a.size a.size c - fQ a.size 0 b)).toArray.size<=sizeLine;rw[jaz,jbF,jbR,jaH];lia
 obtain⟨u,i,k,n⟩:=id hs;have j:s.TypeIs (.ref f) "slice":=⟨u,i,k⟩
 unfold getItem
 try with_reducible refine jbi ?_
 first | refine jaa (jad ?_) | skip
 refine jaa (wpAny_sequenceKey d.typeIs (by decide) ?_);refine jaa (jcu d.typeIs jcC
  (jby jcC d.typeIs entry_tuple_getitem ?_ (args_tuple_getitem _ _)))
 show wpAny _ _ (Builtin.Tuple.tupleItemsOf (.ref t) >>=_) _ _ s;refine jaa (tupleItemsOf_ d ?_);refine jaa (wpAny_typeOf j ?_);refine jaa (sW hs pl o ?_);have g:¬((((fQ a.size 0 b:Nat):Int)==0&&(1:Int)==1&&(fQ a.size a.size c - fQ a.size 0 b)==a.size)=true):=by
  intro q;rw[ja3,ja3] at q;have v:=eq_of_beq q.1.1;have x:=eq_of_beq q.2;exact p ⟨by lia,by lia⟩
 show wpAny _ _ (if(((fQ a.size 0 b:Nat):Int)==0&&(1:Int)==1&&(fQ a.size a.size c - fQ a.size 0 b)==a.size)=true then _ else _) _ _ s;rw[jae g,NI]
 first
  |exact jaa (ja9 (jad ⟨_,M,jad h⟩) e)
  |exact jaa (ja9 (jaa (jad (jad ⟨_,M,jad h⟩))) e)
  |exact jaa (jaa (ja9 (jad (jad ⟨_,M,jad h⟩)) e))
  |exact jaa (jaa (ja9 (jad ⟨_,M,jad h⟩) e))
end HT
namespace L2
open PySem PySem.Spec PyProof.Rows
abbrev TO:=St->Hp->(Option Int->Hp->Prop)->Prop
def PO (X:Cx)(e:Option Expr)(t:TO):Prop:=
 ∀(vy:jcF) (s:Shared) (U:St) (H:Hp) (Q:Option Int->Hp->Prop),Inv X vy U H s->t U H Q->
  wpAny (model X.prog X.w) X.A (evalPart e X.env) (λu b=>∃o a,Inv X vy U a b/\IsPart u o/\Q o a) X.xe s
def Rf:TO:=λ_ H Q=>Q none H
def a0k (t:TE):TO:=λU H Q=>t U H λx a=>∃i,x=.int i/\Q (some i) a
def intsAre_of:∀{us:jcJ},Vals (ns.map V.int) us->IntsAre us ns:=by
 induction ns with
 |nil=>intro us r;rw[jaX] at r;cases r;exact .nil
 |cons n ns c=>
  intro us r;cases r with
  |cons a b=>
   obtain⟨t,e⟩:=a;subst e;exact .cons n t (c b)
def Sa:PO X none Rf:=by
 intro a s U H Q I h;exact jad ⟨none,H,I,.none,h⟩
def R9 (h:PE X e te):PO X (some e) (a0k te):=by
 intro a s U H Q I d;refine dF (h a s U H _ I d) ?_;rintro u j ⟨x,f,b,g,c⟩;obtain⟨i,rfl,q⟩:=c;obtain⟨t,rfl⟩:=g;exact⟨some i,f,b,.int i t,q⟩
def Uh (X:Cx)(r:V->Option Int->Option Int->Hp->VK->Prop):Prop:=
 ∀(vy:jcF) (s:Shared) (U:St) (H:Hp) (x:V) (v vl vu:Value) (lo hi:Option Int) (sl:Addr) (Q:VK),Inv X vy U H s->RelV x v->s.heap.IsSliceOf sl vl vu .none->IsPart vl lo->IsPart vu hi->r x lo hi H Q->
  ∃T id,typeLookup (.type T) "__getitem__"=pure (some (.builtin id))/\s.TypeIs v T/\wpAny (model X.prog X.w) X.A (getItem v (.ref sl)) (EP X vy U Q) X.xe s
def Uh.or (h:Uh X r)(h':Uh X b):Uh X (λx lo hi H Q=>r x lo hi H Q\/b x lo hi H Q):=by
 intro d s U H x v e j lo hi c Q I g f i a q;rcases q with q | q
 .exact h d s U H x v e j lo hi c Q I g f i a q
 .exact h' d s U H x v e j lo hi c Q I g f i a q
def tSl (r:V->Option Int->Option Int->Hp->VK->Prop)(te:TE)(e a:TO):TE:=λU H Q=>te U H λx b=>e U b λl c=>a U c λu d=>r x l u d Q
def NN {e:Expr}{te:TE}{lo:Option Expr}{hi:Option Expr}{tl:TO}{th:TO}{pos:Pos}{p2:Pos}(t:Uh X r)(E:PE X e te)(F:PO X lo tl)(m:PO X hi th):PE X (.Subscript e (.Slice lo hi none p2) pos) (tSl r te tl th):=by
 intro c s U H Q I h;refine Subscript_ (dF (E c s U H _ I h) ?_);rintro v p ⟨x,J,z,n,A⟩;refine wpAny_Slice (dF (F c p U J _ z A) ?_);rintro f o ⟨l,B,K,G,L⟩;refine dF (m c o U B _ K L) ?_;rintro d a ⟨u,g,C,w,y⟩;refine jad ?_;have k:Inv X c U g {a with heap:=a.heap.push {cls:=.type "slice",data:=.fields #[f,d,.none] } }:=C.kept (t':=a.toks) λb ob q=>jap _ q;obtain⟨T,id,i,D,j⟩:=t c {a with heap:=a.heap.push {cls:=.type "slice",data:=.fields #[f,d,.none] } } U g x v f d l u a.heap.objs.size Q k n (Heap.IsSliceOf.new ..) G w y;exact tail_any D i j (by with_unfolding_all rfl)
noncomputable def Lb (xs:List V)(a b:Option Int):List V:=(xs.drop (HT.fQ xs.length 0 a)).take (HT.fQ xs.length xs.length b - HT.fQ xs.length 0 a)
def vd (xs:List V)(a b:Option Int):(Lb xs a b).length<=xs.length:=by
 unfold Lb;rw[jbF,jbR];lia
noncomputable def a4J (K:Frag):V->Option Int->Option Int->Hp->VK->Prop:=λx c d H Q=>∃a b,x=.ref a/\ki K H a b/\
 ¬(HT.fQ b.length 0 c=0/\HT.fQ b.length b.length d=b.length)/\∀p,H p=none->Q (.ref p) (upd H p (.tup (Lb b c d)))
def WB:Uh X (a4J X.K):=by
 intro u s U H x v w y e i t Q I n k o j h;obtain⟨a,d,rfl,p,l,q⟩:=h;cases n;obtain⟨m,r,f,g⟩:=I.tuple p;have c:m.toArray.size=d.length:=by rw[jaz];exact r.length.symm
 refine⟨"tuple",_,jcC.lookup,f.typeIs,?_⟩;refine HT.rS f k o j (by rw[c];exact l) ?_ (by rw[c];exact g);rw[c];refine⟨.ref s.heap.objs.size,_,I.laid (t':=s.toks) (λb ob q=>jap _ q) (jam _) ?_,M,q _ (I.hok.fresh (jam _))⟩;exact⟨jai (vd d e i) g,_,(r.drop (HT.fQ d.length 0 e)).take (HT.fQ d.length d.length i - HT.fQ d.length 0 e),IsTup.new _ _⟩
def a0Z (K:Frag):R2:=λx y H Q=>∃a b d c,x=.ref a/\y=.ref b/\ki K H a d/\ki K H b c/\d≠[]/\d.length+c.length<=sizeLine/\
 (c=[]->Q (.ref a) H)/\(c≠[]->∀p,H p=none->Q (.ref p) (upd H p (.tup (d++c))))
def Vals.eK (r:Vals xs us):us=[]↔xs=[]:=by
 cases r with
 |nil=>simp
 |cons _ _=>simp
def Sy:kP X (binaryOp .Add) (a0Z X.K):=by
 intro t s U H x y v u Q I n k h;obtain⟨a,b,B,r,rfl,rfl,j,o,i,f,l,p⟩:=h;cases n;cases k;obtain⟨A,d,g,_⟩:=I.tuple j;obtain⟨e,c,m,_⟩:=I.tuple o;refine HT.TR g m (λz=>i (d.eK.mp z)) (λz=>⟨.ref a,H,I,M,l (c.eK.mp z)⟩) (λz=>?_) (by rw[<- d.length,<- c.length];exact f);refine⟨.ref s.heap.objs.size,_,I.laid (t':=s.toks) (λb ob q=>jap _ q) (jam _) ?_,M,p (λw=>z (c.eK.mpr w)) _ (I.hok.fresh (jam _))⟩;exact⟨by rw[jab];exact f,_,d.append c,IsTup.new _ _⟩
noncomputable def Tf (n:Nat)(i:Int):Option Nat:=if 0<=i then(if i<n then some i.toNat else none) else if -(n:Int)<=i then some (i+n).toNat else none
noncomputable def p6 {α:Type}(xs:List α)(i:Int):Option α:=(Tf xs.length i).bind λj=>xs[j]?
def Ja (h:Tf n i=some j):seqIndex? i n=some j/\j<n/\-(n:Int)<=i/\i<n:=by
 unfold Tf at h;by_cases b:0<=i
 .rw[jaf b] at h;by_cases a:i<n
  .rw[jaf a] at h;have e:=jbc h;exact⟨by rw[seqIndex_of b a,e],by lia,by lia,a⟩
  .rw[jae a] at h;cases h
 .rw[jae b] at h;by_cases a:-(n:Int)<=i
  .rw[jaf a] at h;have e:=jbc h;exact⟨by rw[seqIndex_neg (by lia) a,e],by lia,a,by lia⟩
  .rw[jae a] at h;cases h
def C6 (h:p6 xs i=some v):∃j,seqIndex? i xs.length=some j/\xs[j]?=some v/\j<xs.length/\-(xs.length:Int)<=i/\i<xs.length:=by
 unfold p6 at h;cases e:Tf xs.length i with
 |none=>rw[e] at h;cases h
 |some j=>
  rw[e] at h;obtain⟨b,a,c,d⟩:=Ja e;exact⟨j,b,h,a,c,d⟩
def wB {α:Type}{xs:List α}{j:Nat}{v:α}(h:xs[j]?=some v):p6 xs (j:Int)=some v:=by
 have a:=(jar.mp h).1;have e:Tf xs.length (j:Int)=some j:=by
  unfold Tf;rw[jaf (by lia),jaf (by lia)];simp
 unfold p6;rw[e];exact h
def JG (b:Expr):Prop:=∀o i,subscripted b false o i=operate [o,i] (getItem o i)
def QC (X:Cx)(r:R2):Prop:=
 ∀(value slice:Expr)(vy:jcF) (s:Shared) (U:St) (H:Hp) (x y:V) (v u:Value) (Q:VK),Inv X vy U H s->RelV x v->RelV y u->r x y H Q->
  subscripted slice false v u=operate [v,u] (getItem v u)->wpAny (model X.prog X.w) X.A (subscriptTail value slice v u) (EP X vy U Q) X.xe s
def FH (X:Cx)(id:String)(r:V->List V->Hp->VK->Prop):Prop:=
 ∀(vy:jcF) (s:Shared) (U:St) (H:Hp) (x:V) (xs:List V) (v:Value) (us:jcJ) (Q:VK),Inv X vy U H s->RelV x v->Vals xs us->r x xs H Q->
  wpAny (model X.prog X.w) X.A (call (.builtin id) (v::us)) (EP X vy U Q) X.xe s
section
def QC.or (h:QC X r)(h':QC X c):QC X (λx y H Q=>r x y H Q\/c x y H Q):=by
 intro b a d s U H x y v u Q I f g q e;rcases q with q | q
 .exact h b a d s U H x y v u Q I f g q e
 .exact h' b a d s U H x y v u Q I f g q e
def FH.or {X:Cx}{id:String}{r a:V->List V->Hp->VK->Prop}(h:FH X id r)(h':FH X id a):FH X id (λx xs H Q=>r x xs H Q\/a x xs H Q):=by
 intro c s U H x xs v us Q I b d q;rcases q with q | q
 .exact h c s U H x xs v us Q I b d q
 .exact h' c s U H x xs v us Q I b d q
def a1f (c:QC X r)(k:PE X a ta)(g:PE X b tb)(hs:JG b):PE X (.Subscript a b pos) (tOp r ta tb):=by
 intro d s U H Q I h;exact Subscript_ (Zk k g I h λv u j x y e i f l q=>c a b d j U e x y v u Q i f l q (hs _ _))
def a0V (K:Frag):R2:=λx y H Q=>∃p a i v,x=.ref p/\y=.int i/\kL K H p a/\p6 a i=some v/\Q v H
def a0T (K:Frag):R2:=λx y H Q=>∃p a i v,x=.ref p/\y=.int i/\ki K H p a/\p6 a i=some v/\Q v H
def a0U:R2:=λx y H Q=>∃z i c,x=.str z/\y=.int i/\z.length<=sizeLine/\p6 z.cps.toList i=some c/\Q (.str ⟨#[c]⟩) H
def Te:QC X (a0V X.K):=by
 intro c b m s U H x y v u Q I D B h f;obtain⟨p,N,i,z,rfl,rfl,l,E,q⟩:=h;cases D;obtain⟨t,rfl⟩:=B;obtain⟨A,r,d,L⟩:=I.list l;obtain⟨j,a,o,J,C,n⟩:=C6 E;obtain⟨w,k,e⟩:=r.get o;have F:=r.length;have G:=nJ;have fin:EP X m U Q w s:=⟨z,H,I,e,q⟩
 by_cases g:0<=i
 .have hj:i.toNat=j:=by
   rw[seqIndex_of g n] at a;exact jbc a
  exact item_listR d.isList g (by lia) (by rw[hj];simpa using k) fin f
 .have hj:(i+(A.toArray.size:Int)).toNat=j:=by
   rw[seqIndex_neg (by lia) C] at a;rw[jaz,<- F];exact jbc a
  exact subscriptTail_builtinR d.isList.typeIs slot_list_getitem.lookup
   (wpAny_getItem_list_neg d.isList (by lia) (by rw[jaz]<;>lia) (by lia) (by rw[hj];simpa using k) ⟨M,fin⟩) f
def Yt:QC X (a0T X.K):=by
 intro b a f s U H x y v u Q I o n h l;obtain⟨p,J,i,z,rfl,rfl,e,A,q⟩:=h;cases o;obtain⟨t,rfl⟩:=n;obtain⟨F,r,d,G⟩:=I.tuple e;obtain⟨j,k,g,E,L,C⟩:=C6 A;obtain⟨w,m,c⟩:=r.get g;have B:=r.length;have D:=nJ;have fin:EP X f U Q w s:=⟨z,H,I,c,q⟩
 exact subscriptTail_builtinR d.typeIs slot_tuple_getitem.lookup
  (getItem_tuple d (by lia) (by lia) (by rw[jaz,<- B];exact k) (by simpa using m) ⟨M,fin⟩) l
def Yu:QC X a0U:=by
 intro b a w s U H x y v u Q I o m h g;obtain⟨z,i,c,rfl,rfl,D,p,q⟩:=h;obtain⟨t,rfl⟩:=o;obtain⟨B,rfl⟩:=m;obtain⟨j,d,f,C,l,e⟩:=C6 p;have r:z.cps.toList.length=z.length:=by simp[Str.length]
 rw[r] at d l e;have A:=nJ;exact tail_any (typeIs_str s z t) slot_str_getitem.lookup (getItem_str (by
  have k:decide (i < -(2 ^ 63:Int))=false:=jau (by lia);have n:decide (i ≥ 2 ^ 63)=false:=jau (by lia);rw[k,n,Bool.or_false]) (by rw[d];simpa using f) ⟨.str ⟨#[c]⟩,H,I.tok _,⟨_,M⟩,q⟩) g
def rIx (K:Frag):R2:=λx y H Q=>a0V K x y H Q\/a0T K x y H Q\/a0U x y H Q
def Yv:QC X (rIx X.K):=Te.or (Yt.or Yu)
def GQ (a:jcJ)(n j:Nat)(u:Value):Obj.mapSeq (·.setIfInBounds j u) {cls:=.type "list",data:=.seq a.toArray n }={cls:=.type "list",data:=.seq (a.set j u).toArray n }:=by
 simp[Obj.mapSeq]
theorem Inv.lst {a:jcF}{U:St}{H:Hp}{s:Shared}{p:Addr}{xs:List V}(I:Inv X a U H s)(h:H p=some (.lst xs)) :
  ∃(AC:jcJ)(n:Nat),Vals xs AC/\s.heap.get? p=some {cls:=.type "list",data:=.seq AC.toArray n }/\xs.length<=sizeLine:=by
 obtain⟨z,AC,n,r,e⟩:=I.hok p _ h;exact⟨AC,n,r,e,z⟩
theorem Inv.Yc {ys:List V}{c its':jcJ}(I:Inv X g U H s)(h:H p=some (.lst xs))
  (i:s.heap.get? p=some {cls:=.type "list",data:=.seq c.toArray n }) (d:f {cls:=.type "list",data:=.seq c.toArray n }={cls:=.type "list",data:=.seq its'.toArray a }) (r:Vals ys its') (k:ys.length<=sizeLine) (t:Nat) :
  Inv X g U (upd H p (.lst ys)) {s with heap:=s.heap.update p f,toks:=t }:=by
 have e:(s.heap.update p f).get? p=some {cls:=.type "list",data:=.seq its'.toArray a }:=by
  rw[ja2 f i (by rw[d]<;>rfl),d]
 refine I.write (by rw[h];trivial) (.inl M) (λb u j q=>(jaO _ _ (jaE j)).trans q) ⟨_,e⟩ ?_;exact⟨k,its',a,r,e⟩
noncomputable def a0S:V->V->V->Hp->(Hp->Prop)->Prop:=λo i v H Q=>∃p a k j,o=.ref p/\i=.int k/\H p=some (.lst a)/\Tf a.length k=some j/\Q (upd H p (.lst (a.set j v)))
def set_list:a24 X a0S:=by
 intro w s U H o i v F G u Q I A y C h;obtain⟨p,z,k,j,rfl,rfl,e,B,q⟩:=h;cases A;obtain⟨t,rfl⟩:=y;obtain⟨g,n,r,b,x⟩:=I.lst e;obtain⟨a,E,f,l⟩:=Ja B;have c:=r.length;have D:=nJ;have m:Inv X w U (upd H p (.lst (z.set j v))) {s with heap:=s.heap.update p (Obj.mapSeq (·.setIfInBounds j u)) }:=
  I.Yc e b (GQ g n j u) (r.set C j) (by rw[jaF];exact x) s.toks
 by_cases d:0<=k
 .have hk:k.toNat=j:=by
   rw[seqIndex_of d l] at a;exact jbc a
  exact PySem.W.ki_setAt b d (by lia) (by rw[jaz,<- c];exact l) (by rw[hk];exact⟨_,m,q⟩)
 .have hk:(k+(g.toArray.size:Int)).toNat=j:=by
   rw[seqIndex_neg (by lia) f] at a;rw[jaz,<- c];exact jbc a
  exact PySem.W.ki_setBack b (by lia) (by rw[jaz,<- c];exact f) (by lia) (by rw[hk];exact⟨_,m,q⟩)
def BF (a b:Option Int)(n:Nat):(sliceBounds a b none n).1=((HT.fQ n 0 a:Nat):Int)/\(sliceBounds a b none n).2.1=((HT.fQ n n b:Nat):Int)/\(sliceBounds a b none n).2.2=1:=by
 refine⟨?_,?_,M⟩
 .cases a with
  |none=>simp[sliceBounds,HT.fQ]
  |some i=>
   simp only[sliceBounds,HT.fQ,Option.getD_none,if_true];by_cases h:i<0
   .simp only[h,if_true]<;>lia
   .simp only[h,jbo]<;>lia
 .cases b with
  |none=>simp[sliceBounds,HT.fQ]
  |some i=>
   simp only[sliceBounds,HT.fQ,Option.getD_none,if_true];by_cases h:i<0
   .simp only[h,if_true]<;>lia
   .simp only[h,jbo]<;>lia
def zG (a:jcJ)(b c:Option Int):slicePick a.toArray b c none=((a.drop (HT.fQ a.length 0 b)).take (HT.fQ a.length a.length c - HT.fQ a.length 0 b)).toArray:=by
 obtain⟨e,d,f⟩:=BF b c a.toArray.size;unfold slicePick;rw[e,d,f];simp only[sliceRange_one,pick_run]<;>rfl
noncomputable def a4L (K:Frag):V->Option Int->Option Int->Hp->VK->Prop:=λx c d H Q=>∃a b,x=.ref a/\kL K H a b/\∀p,H p=none->Q (.ref p) (upd H p (.lst (Lb b c d)))
def Ro:Uh X (a4L X.K):=by
 intro p s U H x v t w e g o Q I k j m i h;obtain⟨a,c,rfl,n,q⟩:=h;cases k;obtain⟨u,r,f,l⟩:=I.list n;have d:=r.length;refine⟨"list",_,slot_list_getitem.lookup,f.isList.typeIs,?_⟩;refine wpAny_getItem_list_slice f.isList j m i .none (by simp) ?_ (by rw[jaz]<;>lia);rw[zG,<- d];refine⟨.ref s.heap.objs.size,_,I.laid (t':=s.toks) (λb ob q=>jap _ q) (jam _) ?_,M,q _ (I.hok.fresh (jam _))⟩;exact⟨jai (vd c e g) l,_,0,(r.drop (HT.fQ c.length 0 e)).take (HT.fQ c.length c.length g - HT.fQ c.length 0 e),jaK _ M⟩
noncomputable def gM:V->Bool
 |.cP=>true
 |.bl _=>true
 |.int _=>true
 |.str _=>true
 |_=>false
noncomputable def F0:V->V->Bool
 |.cP,.cP=>true
 |.bl a,.bl b=>a==b
 |.bl a,.int b=>(if a then 1 else 0)==b
 |.int a,.bl b=>a==(if b then 1 else 0)
 |.int a,.int b=>a==b
 |.str a,.str b=>a==b
 |_,_=>false
def CO (f:RelV y u)(c:RelV x v)(g:gM y=true)(e:gM x=true):SeqAt.EqAt A s u v (F0 y x):=by
 cases y with
 |cP=>
  cases f;cases x with
  |cP=>cases c;exact SeqAt.EqAt.same _
  |bl b=>cases c;exact SeqAt.EqAt.none_bool b
  |int b=>obtain⟨t,rfl⟩:=c;exact SeqAt.EqAt.none_int b t
  |str b=>obtain⟨t,rfl⟩:=c;exact SeqAt.EqAt.none_str b t
  |_=>exact absurd (show false=true from e) jaN
 |bl a=>
  cases f;cases x with
  |cP=>cases c;exact SeqAt.EqAt.bool_none a
  |bl b=>cases c;exact SeqAt.EqAt.bool_bool a b
  |int b=>obtain⟨t,rfl⟩:=c;exact SeqAt.EqAt.bool_int a b t
  |str b=>obtain⟨t,rfl⟩:=c;exact SeqAt.EqAt.bool_str a b t
  |_=>exact absurd (show false=true from e) jaN
 |int a=>
  obtain⟨d,rfl⟩:=f;cases x with
  |cP=>cases c;exact SeqAt.EqAt.int_none a d
  |bl b=>cases c;exact SeqAt.EqAt.int_bool a d b
  |int b=>obtain⟨t,rfl⟩:=c;exact SeqAt.EqAt.int_int a d b t
  |str b=>obtain⟨t,rfl⟩:=c;exact SeqAt.EqAt.int_str a d b t
  |_=>exact absurd (show false=true from e) jaN
 |str a=>
  obtain⟨d,rfl⟩:=f;cases x with
  |cP=>cases c;exact SeqAt.EqAt.str_none a d
  |bl b=>cases c;exact SeqAt.EqAt.str_bool a d b
  |int b=>obtain⟨t,rfl⟩:=c;exact SeqAt.EqAt.str_int a d b t
  |str b=>obtain⟨t,rfl⟩:=c;exact SeqAt.EqAt.str_str a d b t
  |_=>exact absurd (show false=true from e) jaN
 |_=>exact absurd (show false=true from g) jaN
noncomputable def G5 (x:V)(u:Value):Bool:=match u with
 |.none=>F0 .cP x
 |.bool b=>F0 (.bl b) x
 |.int i _=>F0 (.int i) x
 |.str z _=>F0 (.str z) x
 |_=>false
def Ph (r:RelV y u)(f:gM y=true):G5 x u=F0 y x:=by
 cases y with
 |cP=>cases r;rfl
 |bl b=>cases r;rfl
 |int i=>obtain⟨t,rfl⟩:=r;rfl
 |str z=>obtain⟨t,rfl⟩:=r;rfl
 |_=>exact absurd (show false=true from f) jaN
theorem su:∀{xs:List V}{us:jcJ},Vals xs us->xs.all gM=true->us.any (G5 x)=xs.any λy=>F0 y x
 |_,_,.nil,_=>rfl
 |y::xs,u::us,.cons r t,f=>by
  rw[List.all_cons,ja3] at f;rw[jbI,jbI,Ph r f.1,su t f.2]
theorem nI (b:RelV x v)(c:gM x=true):∀{xs:List V}{us:jcJ},Vals xs us->xs.all gM=true->∀u∈us,SeqAt.EqAt A s u v (G5 x u)
 |_,_,.nil,_=>λu a=>by cases a
 |y::xs,u::us,.cons r t,f=>λd a=>by
  rw[List.all_cons,ja3] at f;rcases jah.mp a with rfl | a
  .rw[Ph r f.1];exact CO r b f.1 c
  .exact nI b c t f.2 d a
noncomputable def Ti (x:V)(xs:List V):Bool:=xs.any λy=>F0 y x
def rIn (K:Frag)(neg:Bool):R2:=λx y H Q=>∃p a,y=.ref p/\(kL K H p a\/ki K H p a)/\gM x=true/\a.all gM=true/\Q (.bl (if neg then !Ti x a else Ti x a)) H
def J9:kP X (compareOp .In) (rIn X.K false):=by
 intro f s U H x y v u Q I d e h;obtain⟨p,g,rfl,a,c,fs,q⟩:=h;cases e;rcases a with a | a
 .obtain⟨AC,r,pl,hz⟩:=I.list a;refine SeqAt.in_listAt (G5 x) pl.isList (λw b=>nI d c r fs w (by simpa using b)) ⟨.bl _,H,I,M,?_⟩;rw[show AC.toArray.any (G5 x)=AC.any (G5 x) by simp,su r fs];exact q
 .obtain⟨AC,r,pl,hz⟩:=I.tuple a;refine SeqAt.in_tupleAt (G5 x) pl (λw b=>nI d c r fs w (by simpa using b)) ⟨.bl _,H,I,M,?_⟩;rw[show AC.toArray.any (G5 x)=AC.any (G5 x) by simp,su r fs];exact q
def BU:kP X (compareOp .NotIn) (rIn X.K true):=by
 intro f s U H x y v u Q I d e h;obtain⟨p,g,rfl,a,c,fs,q⟩:=h;cases e;rcases a with a | a
 .obtain⟨AC,r,pl,hz⟩:=I.list a;refine SeqAt.notIn_listAt (G5 x) pl.isList (λw b=>nI d c r fs w (by simpa using b)) ⟨.bl _,H,I,M,?_⟩;rw[show AC.toArray.any (G5 x)=AC.any (G5 x) by simp,su r fs];exact q
 .obtain⟨AC,r,pl,hz⟩:=I.tuple a;refine SeqAt.notIn_tupleAt (G5 x) pl (λw b=>nI d c r fs w (by simpa using b)) ⟨.bl _,H,I,M,?_⟩;rw[show AC.toArray.any (G5 x)=AC.any (G5 x) by simp,su r fs];exact q
def C2:eB X (.builtin "len") (λxs H Q=>∃p ys,xs=[.ref p]/\(kL X.K H p ys\/ki X.K H p ys)/\Q (.int ys.length) H):=by
 intro d s U H xs us Q I r h;obtain⟨p,ys,rfl,b,q⟩:=h;obtain⟨u,rfl,c⟩:=vals1 r;cases c;have e:=nJ;rcases b with b | b
 .obtain⟨AC,r',pl,hz⟩:=I.list b;have a:=r'.length;exact Calls.call_len_list pl.isList (by simp only[jaz]<;>lia) ⟨.int ys.length,H,I.tok _,⟨s.toks+1,by rw[jaz,a]⟩,q⟩
 .obtain⟨AC,r',pl,hz⟩:=I.tuple b;have a:=r'.length;exact len_tuple pl (by simp only[jaz]<;>lia) ⟨.int ys.length,H,I.tok _,⟨s.toks+1,by rw[jaz,a]⟩,q⟩
def C1:eB X (.builtin "len") (λxs H Q=>∃z,xs=[.str z]/\z.length<=sizeLine/\Q (.int z.length) H):=by
 intro a s U H xs us Q I r h;obtain⟨z,rfl,c,q⟩:=h;obtain⟨u,rfl,t,rfl⟩:=vals1 r;have b:=nJ;exact len_str (by lia) ⟨.int z.length,H,I.tok _,⟨_,M⟩,q⟩
def eB.or (h:eB X f r)(h':eB X f a):eB X f (λxs H Q=>r xs H Q\/a xs H Q):=by
 intro b s U H xs us Q I c q;rcases q with q | q
 .exact h b s U H xs us Q I c q
 .exact h' b s U H xs us Q I c q
def sf:eB X (.type "list") (λxs H Q=>∃p ys,xs=[.ref p]/\(kL X.K H p ys\/ki X.K H p ys)/\∀l,H l=none->Q (.ref l) (upd H l (.lst ys))):=by
 intro v s U H xs us Q I r h;obtain⟨p,ys,rfl,g,q⟩:=h;obtain⟨u,rfl,x⟩:=vals1 r;cases x;have fin:∀(c:jcJ),Vals ys c->ys.length<=sizeLine->∀(a:Heap)(d:Nat),(∀b o',s.heap.get? b=some o'->a.get? b=some o')->
   a.get? s.heap.objs.size=some {cls:=.type "list",dict:=none,data:=.seq c.toArray d,slots:=#[] }->EP X v U Q (.ref s.heap.objs.size) {s with heap:=a }:=λc f i a d k e=>
  ⟨.ref s.heap.objs.size,_,I.laid (t':=s.toks) k (jam _) (show cz X.prog X.w _ a _ (.lst ys) from⟨i,c,d,f,e⟩),M,q _ (I.hok.fresh (jam _))⟩
 rcases g with g | g
 .obtain⟨c,f,pl,i⟩:=I.list g;have j:=f.length;obtain⟨o,t,m,n,hd⟩:=pl.isList;exact call_list_seq p (.inl M) t m hd (λa d k e=>fin c f i a d k e) (by simp only[jaz]<;>lia)
 .obtain⟨c,f,pl,i⟩:=I.tuple g;have j:=f.length;obtain⟨o,t,m,n,hd⟩:=pl;exact call_list_seq p (.inr M) t m hd (λa d k e=>fin c f i a d k e) (by simp only[jaz]<;>lia)
def z7:eB X (.type "tuple") (λxs H Q=>∃p ys,xs=[.ref p]/\((kL X.K H p ys/\∀l,H l=none->Q (.ref l) (upd H l (.tup ys)))\/(ki X.K H p ys/\Q (.ref p) H))):=by
 intro i s U H xs us Q I r h;obtain⟨p,ys,rfl,h⟩:=h;obtain⟨u,rfl,k⟩:=vals1 r;cases k;rcases h with⟨a,q⟩ | ⟨a,q⟩
 .obtain⟨AC,r',pl,hz⟩:=I.list a;have f:=r'.length;refine call_tuple_list pl.isList (λc j=>?_) (by simp only[jaz]<;>lia);have d:=I.kept (t':=s.toks) j;have g:Inv X i U (upd H c.objs.size (.tup ys)) {s with heap:=c.push {cls:=.type "tuple",data:=.seq AC.toArray } }:=
   d.laid (t':=s.toks) (λb o e=>jap _ e) (jam _) (show cz X.prog X.w _ _ _ (.tup ys) from⟨hz,AC,r',IsTup.new _ _⟩)
  exact⟨.ref c.objs.size,_,g,M,q _ (d.hok.fresh (jam _))⟩
 .obtain⟨AC,r',pl,hz⟩:=I.tuple a;exact call_tuple_same pl ⟨.ref p,H,I,M,q⟩
def tyV (K:Frag)(T:String)(x:V)(H:Hp):Prop:=match x with
 |.str _=>T="str"
 |.int _=>T="int"
 |.ref p=>(T="list"/\∃b,kL K H p b)\/(T="tuple"/\∃o,K.lookup p=some o/\o.cls=.type "tuple"/\o.dict=none)\/
   (T="dict"/\((∃a,H p=some (.dK a))\/∃a,H p=some (.dT a)))\/(T="set"/\∃S n,H p=some (.set S n))
 |_=>False
theorem Wc {T:String}(I:Inv X g U H s)(r:RelV x v)(ty:tyV X.K T x H) :
  s.TypeIs v T/\∀a,v=.ref a->∃ob,s.heap.get? a=some ob/\ob.dict=none:=by
 cases x with
 |str z=>
  obtain⟨t,rfl⟩:=r;cases(show T="str" from ty);exact⟨typeIs_str s z t,λ_ e=>nomatch e⟩
 |int i=>
  obtain⟨t,rfl⟩:=r;cases(show T="int" from ty);exact⟨typeIs_int s i t,λ_ e=>nomatch e⟩
 |ref p=>
  cases r;rcases ty with⟨rfl,j,f⟩ | ⟨rfl,o,hk,h,hd⟩ | ⟨rfl,hk⟩ | ⟨rfl,S,n,hk⟩
  .obtain⟨AC,_,pl,_⟩:=I.list f;refine⟨pl.isList.typeIs,λa e=>?_⟩;cases e;obtain⟨o,n,e,c,hd,_⟩:=pl;exact⟨o,e,hd⟩
  .refine⟨⟨o,I.mE p o hk,h⟩,λa e=>?_⟩;cases e;exact⟨o,I.mE _ o hk,hd⟩
  .have z:∃o,s.heap.get? p=some o/\o.ExactDict:=by
    rcases hk with⟨d,hk⟩ | ⟨d,hk⟩
    .obtain⟨_,_,_,_,o,_,_,e,ex,_⟩:=I.hok p _ hk;exact⟨o,e,ex⟩
    .obtain⟨_,_,_,_,o,_,_,e,ex,_⟩:=I.hok p _ hk;exact⟨o,e,ex⟩
   obtain⟨o,e,ex⟩:=z;refine⟨⟨o,e,ex.1⟩,λa b=>?_⟩;cases b;exact⟨o,e,ex.2.1⟩
  .obtain⟨o,_,_,_,e,ex,_⟩:=I.hok p _ hk;refine⟨⟨o,e,ex.1⟩,λa b=>?_⟩;cases b;exact⟨o,e,ex.2.1⟩
 |_=>exact False.elim ty
def tBM (K:Frag)(T:String)(r:V->List V->Hp->VK->Prop)(b:TE)(t:TA):TE:=λU H Q=>b U H λx a=>tyV K T x a/\t U a λd c=>r x d c Q
variable {T:String}
theorem a1g {o:Expr}{e:Expr}{es:jcL}{to:TE}{t:TA}{name:Str}{B1:Pos}{cpos:Pos}{id:String}{r:V->List V->Hp->VK->Prop}(l:PlainAttrs T)(b:Slot T name id)(f:typeOf (.builtin id)=pure (.type "method_descriptor"))(u:FH X id r)(A:PE X o to)(F:PA X (e::es) t)
  (q:autoParam (attributeBase o name X.env (eval o X.env)=eval o X.env) zi)
  (c:autoParam (((backTo cpos (starEach (e::es) X.env)).all (λx=>!x.1)&&(backToKw cpos (keywordEach [] X.env)).all (λx=>x.1.isSome)
  &&decide ((e::es).length+([]:List Keyword).length+(if([]:List Keyword).isEmpty then 0 else 1)<30))=true) zi)
  (w:autoParam ((B1.endLine==cpos.line)=true) zi) (hs:autoParam (starEach (e::es) X.env=(false,eval e X.env)::starEach es X.env) zi) (a:autoParam ((backTo cpos (starEach es X.env)).any (·.1)=false) zi) :
  PE X (.Call (.Attribute o name B1) (e::es) [] cpos) (tBM X.K T r to t):=by
 intro d s U H Q I h;refine wpAny_Call_method_late q c w rfl (dF (A d s U H _ I h) ?_);rintro v k ⟨x,C,g,j,ty,m⟩;obtain⟨z,y⟩:=Wc g j ty;refine⟨T,id,l,b,f,z,y,?_⟩;have i:=F cpos d k U C _ g m;rw[hs] at i ⊢;refine Calls.callWith_builtin (by show(false||(backTo cpos (starEach es X.env)).any (·.1))=false;rw[a]<;>rfl) (Calls.evalArgs_plain ?_);exact dF i (by rintro us E ⟨B,n,D,p,G⟩;exact u d E U n x B v us Q D j p G)
end
def MtM (X:Cx)(id:String)(r:V->List V->Hp->VK->Prop):Prop:=
 ∀(vy:jcF) (s:Shared) (U:St) (H:Hp) (x:V) (xs:List V) (v:Value) (us:jcJ) (Q:VK),Inv X vy U H s->RelV x v->Vals xs us->r x xs H Q->
  wpAny (model X.prog X.w) X.A (call (.builtin id) (v::us)) (EP X vy U Q) X.xe s
def Vals.one:∀{x:V}{us:jcJ},Vals [x] us->∃u,us=[u]/\RelV x u:=by
 intro x us h;cases h with
 |cons r t=>cases t;exact⟨_,M,r⟩
def Vals.two:∀{x y:V}{us:jcJ},Vals [x,y] us->∃u v,us=[u,v]/\RelV x u/\RelV y v:=by
 intro x y us h;cases h with
 |cons r t=>
  cases t with
  |cons q t=>cases t;exact⟨_,_,M,r,q⟩
theorem Vals.rep (h:Vals xs us):∀k:Nat,Vals (List.replicate k xs).flatten (List.replicate k us).flatten
 |0=>.nil
 |k+1=>by
  exact Vals.append h (Vals.rep h k)
theorem foldl_rep (a:jcJ):∀(k:Nat)(acc:jcJ),
  List.foldl (λx1 x2=>x1++x2) acc.toArray (List.replicate k a.toArray)=(acc++(List.replicate k a).flatten).toArray
 |0,acc=>by simp
 |k+1,acc=>by
  have e:acc.toArray++a.toArray=(acc++a).toArray:=by simp
  have b:(acc++a)++(List.replicate k a).flatten=acc++(List.replicate (k+1) a).flatten:=by
   rw[List.replicate_succ,jaW,jaQ]
  rw[<- b,<- foldl_rep a k (acc++a),<- e,List.replicate_succ,List.foldl_cons]
theorem Inv.SR {a its':jcJ}(I:Inv X vy U H s)(b:H l=some (.lst xs))
  (e:s.heap.get? l=some {cls:=.type "list",data:=.seq a.toArray n }) (g:f a.toArray=its'.toArray) (i:Vals ys its') (h:ys.length<=sizeLine) :
  Inv X vy U (upd H l (.lst ys)) {s with heap:=s.heap.update l (Obj.mapSeq f),toks:=t' }:=by
 have q:=PySem.IsL.update e f;rw[g] at q;refine I.write (by rw[b];exact trivial) (.inl M) (λj u d c=>(jaO s.heap (Obj.mapSeq f) (jaE d)).trans c) ⟨_,q⟩ ?_;exact⟨h,its',_,i,q⟩
theorem Inv.a1N (I:Inv X vy U H s)(b:Vals ys a)(c:ys.length<=sizeLine) :
  Inv X vy U (upd H s.heap.objs.size (.lst ys)) {s with heap:=s.heap.push {cls:=.type "list",data:=.seq a.toArray },toks:=t' }:=
 I.laid (λ_ _ q=>jap _ q) (jam _) ⟨c,a,0,b,jaK _ M⟩
def Inv.fresh (I:Inv X vy U H s):H s.heap.objs.size=none:=I.hok.fresh (jam _)
def Inv.ER (I:Inv X vy U H s)(a:H l=some (.lst xs)):xs.length<=sizeLine/\∃(AC:jcJ)(n:Nat),Vals xs AC/\xs.length=AC.length/\s.heap.get? l=some {cls:=.type "list",data:=.seq AC.toArray n }:=by
 obtain⟨z,AC,n,r,e⟩:=I.hok l _ a;exact⟨z,AC,n,r,r.length,e⟩
def yr (h:n<=sizeLine):Builtin.List.listTooLong n=false:=by
 exact jau (by lia)
noncomputable def RD:V->List V->Hp->VK->Prop:=λx b H Q=>∃l a y,x=.ref l/\b=[y]/\H l=some (.lst a)/\a.length<sizeLine/\Q .cP (upd H l (.lst (a++[y])))
def Kv:MtM X "list.append" RD:=by
 intro g s U H x k v us Q I d f h;obtain⟨l,m,y,rfl,rfl,a,j,q⟩:=h;cases d;obtain⟨u,rfl,c⟩:=f.one;obtain⟨z,b,n,r,i,e⟩:=I.ER a;refine call_meets F.slot_list_append ⟨_,e,M⟩ F.entry_list_append (F.args_list_append_2 _ _) (PySem.list_append l b.toArray n u (by rw[jaz];lia)) ⟨e,?_⟩;refine⟨.cP,_,I.SR (its':=b++[u]) a e (by simp) (r.append (.cons c .nil)) ?_,M,q⟩;rw[jab,ja0];lia
noncomputable def RB:V->List V->Hp->VK->Prop:=λx d H Q=>∃l b c a,x=.ref l/\d=[.ref b]/\H l=some (.lst c)/\H b=some (.lst a)/\c.length+a.length<=sizeLine/\Q .cP (upd H l (.lst (c++a)))
def Ku:MtM X "list.extend" RB:=by
 intro y s U H x G v us Q I p t h;obtain⟨l,b,B,E,rfl,rfl,f,o,A,q⟩:=h;cases p;obtain⟨u,rfl,j⟩:=t.one;cases j;obtain⟨z,c,n,r,D,e⟩:=I.ER f;obtain⟨C,a,g,m,i,k⟩:=I.ER o;have d:c.toArray.size+a.toArray.size<=sizeLine:=by rw[jaz,jaz];lia
 have w:¬(!c.toArray.isEmpty&&Builtin.List.listTooLong (c.toArray.size+a.toArray.size))=true:=by
  rw[yr d,Bool.and_false];exact jaN
 refine call_meets F.slot_list_extend ⟨_,e,M⟩ F.entry_list_extend (F.args_list_extend_2 _ _)
  (AutoSeq1.list_extend_list_list_0 l c.toArray n b a.toArray g w (by lia) (by lia)) ⟨e,k,?_⟩
 refine⟨.cP,_,I.SR (its':=c++a) f e (by simp) (r.append m) ?_,M,q⟩;rw[jab];lia
def a4Q:R2:=λx y H Q=>∃l b c a,x=.ref l/\y=.ref b/\H l=some (.lst c)/\H b=some (.lst a)/\c.length+a.length<=sizeLine/\∀p,H p=none->Q (.ref p) (upd H p (.lst (c++a)))
def NX:kP X (binaryOp .Add) a4Q:=by
 intro p s U H x y v u Q I m d h;obtain⟨l,b,A,D,rfl,rfl,k,j,t,q⟩:=h;cases m;cases d;obtain⟨z,c,n,r,C,e⟩:=I.ER k;obtain⟨B,a,w,i,f,g⟩:=I.ER j;refine PySem.P.add_list e g ?_ (by rw[jaz,jaz];lia);have o:c.toArray++a.toArray=(c++a).toArray:=by simp
 rw[o];exact⟨.ref _,_,I.a1N (t':=s.toks) (r.append i) (by rw[jab];lia),M,q _ I.fresh⟩
def a4M:R2:=λx y H Q=>∃l k a,x=.ref l/\y=.int k/\H l=some (.lst a)/\-(2 ^ 63)<=k/\k<2 ^ 63/\a.length*k.toNat<=sizeLine/\
 ∀p,H p=none->Q (.ref p) (upd H p (.lst (List.replicate k.toNat a).flatten))
def len_rep {α:Type}(xs:List α)(k:Nat):(List.replicate k xs).flatten.length=k*xs.length:=by simp
def Xs:kP X (binaryOp .Mult) a4M:=by
 intro K s U H x y v u Q I D p h;obtain⟨l,k,L,rfl,rfl,B,o,j,i,q⟩:=h;cases D;obtain⟨t,rfl⟩:=p;obtain⟨z,b,n,r,E,e⟩:=I.ER B;have d:b.toArray.size*k.toNat<=sizeLine:=by rw[jaz,<- E];exact i
 have f:¬ b.toArray.size*k.toNat > (2 ^ 63 - 1) / 8:=by
  have:(sizeLine:Nat)<=(2 ^ 63 - 1) / 8:=by decide
  lia
 have c:¬(!Builtin.List.listFitsIndex k)=true:=by
  rw[fitsIndex_both o j];exact jaN
 have J:¬ Builtin.List.listTooLong (b.toArray.size*k.toNat)=true:=by
  rw[yr d];exact jaN
 have g:List.foldl (λw G=>w++G) #[] (List.replicate (if b.toArray.isEmpty=true then 0 else k.toNat) b.toArray)=(List.replicate k.toNat b).flatten.toArray:=by
  have C:=λm=>by
   have:=foldl_rep b m [];rw[jbH] at this;exact this
  rw[C];cases b with
  |nil=>simp
  |cons a N=>rw[jae (by simp)]
 refine wpAny_binaryOp_repeat_ref (by decide) ⟨_,e,M⟩ (λA=>typeIs_int A k t) noFill_list_mul F.fills_int_mul F.slot_int_rmul repeat_list F.slot_int_index.lookup
  (call_meets F.slot_int_rmul (typeIs_int s k t) F.entry_int_rmul (F.args_int_rmul_2 _ _) (int___rmul___int_list k t l b.toArray n)
   ⟨e,M,⟨_,e,M⟩,call_meets F.slot_list_mul ⟨_,e,M⟩ F.entry_list_mul (F.args_list_mul_2 _ _) (AutoListH.list___mul___list_int_3 l b.toArray n k t c f J) ⟨e,?_⟩⟩)
 rw[g];exact⟨.ref _,_,I.a1N (t':=s.toks) (r.rep k.toNat) (by rw[len_rep,Nat.mul_comm];exact i),M,q _ I.fresh⟩
end L2
namespace Att
open PySem PySem.W PySem.Calls PyProof.Rows
def vG:∀(ns:List Int)(vs:jcJ),WellAll P h vs (ns.map WData.int)->IntsAre vs ns:=by
 intro ns
 induction ns with
 |nil=>
  intro vs w;cases w;exact .nil
 |cons n ns c=>
  intro vs w;cases w with
  |cons a b=>
   cases a;exact .cons _ _ (c _ b)
theorem JX {l:OpenLaw}(k:l.most=some n){h:Heap}
  (c:l.row.toRowW.claim.pre args=true) (j:WellAll P h b args) :
  ∃a vs ns,b=[Value.ref a]/\args=[WData.list (ns.map WData.int)]/\h.get? a=some {cls:=.type "list",data:=.seq vs.toArray }/\IntsAre vs ns/\ns.length<=n:=by
 have hsh:=(pre_splitW c).1;have v:l.pre.holds [] {args:=args }=true:=(pre_splitW c).2;obtain⟨d,r,rfl,o,m⟩:=hasAllW_cons hsh;obtain rfl:=hasAllW_nil m;obtain⟨w,rfl,p⟩:=hasW_list o;obtain⟨ns,rfl⟩:=items_int p;have f:ns.length<=n:=by
  have g:(WTm.not (.lt (.lit (.int (n:Int))) (.len (.arg 0)))).holds [] {args:=[.list (ns.map .int)] }=true:=by
   have g:=(holds_andW v).1;rw[k] at g;exact g
  have i:=condW_of g (w_not (w_lt w_lit (w_len_list (w_arg M))));refine Nat.le_of_not_lt λq=>?_
  first
   |(rw[jaB q'] at i;exact absurd i (by decide))
   |(simp at i;lia)
 cases j with
 |cons u t=>
  cases t;cases u with
  |list s e=>exact⟨_,_,ns,M,M,s,vG ns _ e,f⟩
theorem J3 (l:OpenLaw)(args:List WData):l.row.toRowW.claim.post args (.bool true) args=true:=
 postW_of
  (show WShape.has [] (.bool true) .bool=true by first | rfl | decide | simp[WShape.arms])
  (show(WTm.eq .res (.lit (.bool true))).value [] {args:=args,res:=some (.bool true),after:=args }=some (.bool (true==true)) from w_eq_bool (w_res M) w_lit) rfl
theorem FE {l:OpenLaw}{n:Nat}{q:Program}{b:jcI}{A:(Str->jcN)->Heap->Prop}{E:World->Heap->Prop}{d:DefRec}
  (J:l.most=some n) (p:d.params.defaults=[])
  (call:∀(w:World)(s₀ s₁:Shared)(k x:Str->jcN)(g:Addr)(o:Obj)(t m c:Value)(a:Addr) (vs:jcJ) (ns:List Int),
   Ground q b [] A w s₀ k x s₁.heap->E w s₁.heap->
   s₁.heap.get? g=some o->o.data=.func (docDef d.name d.params d.body d.scope t m c)->s₁.heap.CodeRec m d.name->k d.name=some (.ref g)->
   s₁.heap.get? a=some {cls:=.type "list",data:=.seq vs.toArray }->IntsAre vs ns->ns.length<=n->s₁.gens=#[]->
   codeAny (model l.prog w) callerA (.call (.ref g) ⟨[.ref a],[]⟩) (λr s'=>r=.ok (.ret (.bool true))/\OldK s₁.heap s'.heap/\s'.os=s₁.os/\AllBare s'.gens) s₁) :
  WalkO q b A E l.row.toRowW d [] (λf vs=>PySem.call f vs):=by
 intro w s₀ s₁ k x G P g o t m c K kV S hd v C u I B z T i D Q y F;obtain rfl:K=.none:=Dflts.none C p;obtain rfl:kV=.none:=Dflts.noKw C;obtain⟨a,vs,ns,rfl,rfl,j,e,h⟩:=JX J i y;refine enter_call (jbK (call w s₀ s₁ k x g o t m c a vs ns G P S (fd_plain hd) v u j e h I) λr s' H=>?_);obtain⟨rfl,L,N,O⟩:=H;exact⟨.inl ⟨.bool true,.bool true,[],M,λ_=>rfl,.bool true,J3 l _,λ_=>⟨List.Pairwise.nil,λ_ R=>(nomatch R)⟩⟩,L,N,O⟩
end Att
namespace L2
open PySem PySem.Spec PyProof.Rows
theorem As:∀{vs:jcJ}{ns:List Int},IntsAre vs ns->Vals (ns.map V.int) vs
 |_,_,.nil=>.nil
 |_,_,.cons n t h=>.cons ⟨t,M⟩ (As h)
def ZC (H:Hp):Prop:=∀b,H b=none\/∃o a,H b=some (.FZ o (.lst a))
theorem OA {A:Str->jcN}{T:FuncData}
  (Z:K.In s₁.heap) (j:s₁.heap.Ns mainGlobals A) (c:s₁.heap.Ns builtinsNs R) (G:∀x:Str,x≠"__name__"->R x=bootBuiltins x) (y:s₁.heap.NoLimit) (hg:s₁.gens=#[])
  (E:s₁.heap.get? a=some {cls:=.type "list",data:=.seq vs.toArray }) (Y:IntsAre vs ns) (hl:ns.length<=sizeLine) (hr:cV k callerA)
  (F:∀base:Heap,K.In base->base.Ns mainGlobals A->dX P w K A base CX k I T [x] sp) (i:∀(s:Shared)(u:Value),BindsTo s T ⟨[u],[]⟩ [(x,u)])
  (Qs:∀H:Hp,ZC H->kL K H a (ns.map V.int)->sp [.ref a] H (λv _=>v=.bl true) λ_ _ _=>False)
  (J:∀H e s',CX [] H s₁ (λ_ _ _=>False) e s'->False) :
  codeAny (model P w) callerA (.call (.ref I) ⟨[.ref a],[]⟩) (λr s'=>r=.ok (.ret (.bool true))/\OldK s₁.heap s'.heap/\s'.os=s₁.os/\AllBare s'.gens) s₁:=by
 have rv:=As Y;have Q:=Y.length;have g:∀H:Hp,ZC H->kL K H a (ns.map V.int)->nY P w H s₁.heap->(∀b,H b≠none->b=a)->(H a≠none->K.lookup a=none)->
   codeAny (model P w) callerA (.call (.ref I) ⟨[.ref a],[]⟩) (λr s'=>r=.ok (.ret (.bool true))/\OldK s₁.heap s'.heap/\s'.os=s₁.os/\AllBare s'.gens) s₁:=by
  intro H W hS B U hK;have S:∀{b:Addr}{o:Obj},s₁.heap.get? b=some o->H b=none->(E2 s₁.heap H).get? b=some o:=λe n=>OT e n;have L:∀{b:Addr}{o:Obj}{D:Array DictEntry}{C:Nat},s₁.heap.get? b=some o->o.data=.dict D C->H b=none:=λ{b o D C} e d=>by
   cases q:H b with
   |none=>rfl
   |some u=>
    have N:=U b (by rw[q];simp);subst N;rw[E] at e;cases e;have d':=d;cases d'
  have f:∀{b:Addr}{m:Str->jcN},s₁.heap.Ns b m->(E2 s₁.heap H).Ns b m:=λ{b m} ⟨o,D,C,e,d,r⟩=>⟨o,D,C,S e (L e d),d,r⟩
  have l:=λb o e=>S (Z b o e) (by
   cases q:H b with
   |none=>rfl
   |some u=>
    have N:=U b (by rw[q];simp);subst N;rw[hK (by rw[q];simp)] at e;cases e)
  have hM:Mod K A (E2 s₁.heap H):=⟨l,f j,⟨R,f c,G⟩,let⟨mc,h1,h2⟩:=y;⟨mc,f h1,h2⟩⟩
  have e0:HF P w K A (E2 s₁.heap H) callerA [] s₁ H:=⟨M,hM,λb o e=>SD e,jbs (KQ _ _),trivial,λb c=>absurd (show b∈([]:jcK) from c) (by simp),B,.of_eq hg⟩
  refine jbK ((F _ l (f j)).run callerA [] s₁ H ⟨[.ref a],[]⟩ [.ref a] [.ref a] _ _ hr e0 (i s₁ (.ref a)) (.cons rfl .nil) (Qs H W hS)) λr s' h=>?_;cases r with
  |error e=>exact(J H e s' h).elim
  |ok fl=>
   cases fl with
   |next=>exact False.elim h
   |brk=>exact False.elim h
   |cont=>exact False.elim h
   |ret u=>
    obtain⟨v,H',os,p,un,O,r',q⟩:=h;have q':=q;subst q';obtain rfl:u=Value.bool true:=r';refine⟨M,OldK.of_keep λb o e=>?_,os,p⟩;cases q:H b with
    |none=>exact un.keep b o e q (by intro z;exact absurd (show b∈([]:jcK) from z) (by simp)) (by simp)
    |some u=>
     rcases W b with z | ⟨ob,xs,z⟩
     .rw[q] at z;cases z
     .have z2:=un.nO b ob _ z;obtain⟨X,_⟩:=B b _ z;obtain⟨e2,_⟩:=O b _ z2;rw[e] at X;cases X;exact e2
 cases hk:K.lookup a with
 |some o=>
  have e:=Z a o hk;rw[E] at e;cases e;refine g (λ_=>none) (λ_=>.inl M) (.inr ⟨_,vs.toArray,_,hk,M,M,M,by rw[jaz,Q];exact hl,by simpa using rv⟩) (λb u z=>by have t:=z;cases t) (λb z=>absurd rfl z) λz=>absurd rfl z
 |none=>
  refine g (λb=>if b=a then some (.FZ {cls:=.type "list",data:=.seq vs.toArray } (.lst (ns.map V.int))) else none) (λb=>?_) (.inl (.inr ⟨{cls:=.type "list",data:=.seq vs.toArray },jaf M⟩)) (λb u z=>?_) (λb z=>?_) λ_=>hk
  .by_cases c:b=a
   .exact .inr ⟨_,_,jaf c⟩
   .exact .inl (jae c)
  .by_cases c:b=a
   .have t:=(jaf c).symm.trans z;cases t;subst c;exact⟨E,by rw[jac];exact hl,vs,_,rv,E⟩
   .have t:=(jae c).symm.trans z;cases t
  .by_cases c:b=a
   .exact c
   .exact absurd (jae c) z
theorem QV {l:OpenLaw}{n k:Nat}{q:Program}{j:jcI}{I:(Str->jcN)->Heap->Prop}{B:World->Heap->Prop}{d:DefRec}{K:Params->Frag}{D:World->Dp}{sp:World->Sp}{x:Str}
  (N:l.most=some n) (A:n<=sizeLine) (y:d.params.defaults=[]) (P:cV k callerA)
  (L:∀(w:World)(h:Heap),B w h->(K w.params).In h)
  (F:∀(w:World)(m:Str->jcN)(r:Addr)(h:Heap),(K w.params).In h->h.Ns mainGlobals m->m d.name=some (.ref r)->
   ∃fd:FuncData,(∀(s:Shared)(u:Value),BindsTo s fd ⟨[u],[]⟩ [(x,u)])/\
    ∀base:Heap,(K w.params).In base->base.Ns mainGlobals m->dX l.prog w (K w.params) m base (D w) k r fd [x] (sp w))
  (O:∀(w:World)(H:Hp)(a:Addr)(ns:List Int),ns.length<=n->ZC H->kL (K w.params) H a (ns.map V.int)->sp w [.ref a] H (λv _=>v=.bl true) λ_ _ _=>False)
  (t:∀(w:World)(H:Hp)(s:Shared)(e:Value)(s':Shared),D w [] H s (λ_ _ _=>False) e s'->False) :
  WalkO q j I B l.row.toRowW d [] (λf vs=>PySem.call f vs):=by
 refine Att.FE N y λw s₀ s₁ m Z r o X cd E a vs ns G Q Y hd S z p i c J=>?_;have C:=L w _ Q;obtain⟨fd,U,W⟩:=F w m r _ C G.T.g z;exact OA C G.T.g G.T.b G.T.builtins G.T.nolimit J p i (jai c A) P W U (λH M R=>O w H a ns c M R) λH e s'=>t w H s₁ e s'
noncomputable def inClass (s:Stmt)(j:Nat):Stmt:=match s with
 |.ClassDef _ _ _ a _ _ _ _ _ _ _=>a.getD j (.Pass ⟨0,0,0,0⟩)
 |_=>.Pass ⟨0,0,0,0⟩
noncomputable def cY (s:Stmt):Arguments:=match s with
 |.FunctionDef _ a _ _ _ _ _ _ _ _=>a
 |_=>{posonlyargs:=[],args:=[],vararg:=none,kwonlyargs:=[],kw_defaults:=[],kwarg:=none,defaults:=[] }
noncomputable def bK (s:Stmt):List Stmt:=match s with
 |.FunctionDef _ _ b _ _ _ _ _ _ _=>b
 |_=>[]
noncomputable def aM (s:Stmt):Scope:=match s with
 |.FunctionDef _ _ _ _ _ _ sc _ _ _=>sc
 |_=>{kind:=.function,names:=[],isGenerator:=false,isCoroutine:=false }
abbrev ug:Dp:=λ_ _ _ _ _ _=>False
abbrev E0:XK:=λ_ _ _=>False
def xM:Passes ug X E0:=λ_ _ _ _ _ _ _ h=>h.elim
structure F3 (K:Frag)(x qual:Str)(st:Stmt)(f:Addr)(fd:FuncData):Prop where
 ex:∃(oc:Value)(od:Option Addr)(kV doc pm:Value)(an:Option Addr)(AT ct:Value)(osl:Array (Option Value)),
  fd=fnOf x qual (cY st) (bK st) (aM st) .none kV doc pm an AT ct/\K.lookup f=some ⟨oc,od,.func fd,osl⟩/\codeIn K AT qual=true
 kp:keepIn K (.ref f)=true
theorem F3.ok {x a:Str}{st:Stmt}{f:Addr}{d:FuncData}{N ps:jcI}{k:Nat}{sp:Sp}(F:F3 K x a st f d)(S:iJ N ps (aM st))(len:∀vs H Q E,sp vs H Q E->vs.length=ps.length)
  (b:∀(AT:Value)(A:Around)(outer:List Env)(s:Shared)(H:Hp)(vs:List V)(Q:VK) (E:XK),cV k (A.deeper (envOfC a (aM st) s.heap.objs.size f AT))->sp vs H Q E->
   ∃t,Bp (CT ug P w K mg base N a (aM st) f AT A outer s H E).ZK (bK st) t/\t {nx:=λ_ H'=>Q .cP H',rt:=Q } (start N vs) H):dX P w K mg base ug (k+1) f d ps sp:=by
 obtain⟨o,p,kV,g,r,n,AT,m,i,rfl,j,c⟩:=F.ex;refine Vt j c S len λA outer s H vs Q E e l=>?_;obtain⟨t,h,q⟩:=b AT A outer s H vs Q E e l;exact⟨t,h.ZK,q⟩
theorem F3.binds {K:Frag}{x a:Str}{st:Stmt}{f:Addr}{g:FuncData}{ps:jcI}(F:F3 K x a st f g)
  (h:∀(kV b e:Value)(d:jcM)(AT c:Value)(us:jcJ),us.length=ps.length->bindArgs (fnOf x a (cY st) (bK st) (aM st) .none kV b e d AT c) ⟨us,[]⟩=pure (ps.zip us)):Binds K g ps []:=by
 obtain⟨k,l,kV,b,e,d,AT,c,i,rfl,m,j⟩:=F.ex;exact .all (h kV b e d AT c)
theorem YL {K:Frag}{x a:Str}{st:Stmt}{f:Addr}{i:Value}{od g:jcM}{d:jcH}{kV b h AT e:Value}(l:K.lookup f=some ⟨i,od,.func (fnOf x a (cY st) (bK st) (aM st) .none kV b h g AT e),d⟩)
  (c:codeIn K AT a=true) (k:keepIn K (.ref f)=true):F3 K x a st f (fnOf x a (cY st) (bK st) (aM st) .none kV b h g AT e):=⟨⟨i,od,kV,b,h,g,AT,e,d,M,l,c⟩,k⟩
def mF (a:cV k A):A.units+1<cLine:=Nat.lt_of_le_of_lt (Nat.add_le_add_left (by decide:1<=64) _) a.units
def JW (h:n<=1000):n<sizeLine:=Nat.lt_of_le_of_lt h (by decide)
theorem pv (i:Nat)(b:autoParam (X.N[i]?=some x) zi)(c:ZZ X.env.scope x:=by first | exact Or.inl rfl | exact Or.inr (Or.inl M) | exact Or.inr (Or.inr M))(hd:autoParam ((x==("__debug__":Str))=false) zn)
  (a:autoParam ((x==("__classdict__":Str))=false) zn):PE X (.Name x pos) (a0i i):=NL b c hd a
section
variable {κ:Type}[DecidableEq κ]
noncomputable def oR (kvs:List (κ×V))(k:κ):Option V:=(kvs.find? λa=>decide (a.1=k)).map (·.2)
noncomputable def putK (kvs:List (κ×V))(k:κ)(v:V):List (κ×V):=
 if(kvs.any λa=>decide (a.1=k))=true then kvs.map (λa=>if a.1=k then(a.1,v) else a) else kvs++[(k,v)]
def qK {p:κ×V}(e:p.1=k):oR (p::r) k=some p.2:=by simp[oR,e]
def qL {p:κ×V}(e:¬ p.1=k):oR (p::r) k=oR r k:=by simp[oR,e]
theorem Dw (k:κ):∀kvs:List (κ×V),(kvs.any λkv=>decide (kv.1=k))=(oR kvs k).isSome
 |[]=>rfl
 |p::r=>by
  rw[jbI];by_cases e:p.1=k
  .simp only[qK e,jaB e,Bool.true_or,Option.isSome_some]
  .rw[qL e,jau e];exact Dw k r
def nK (kvs:List (κ×V))(k:κ)(v:V):(putK kvs k v).length<=kvs.length+1:=by
 unfold putK;split
 .rw[jac];lia
 .rw[jab,jak,jaI];lia
def lQ.KN (r:lQ o u):o.isSome=u.isSome:=by
 cases o with
 |none=>cases u with
  |none=>rfl
  |some _=>exact(show False from r).elim
 |some _=>cases u with
  |none=>exact(show False from r).elim
  |some _=>rfl
def lQ.getD (r:lQ o u)(a:RelV d d'):RelV (o.getD d) (u.getD d'):=by
 cases o with
 |none=>cases u with
  |none=>exact a
  |some _=>exact(show False from r).elim
 |some _=>cases u with
  |none=>exact(show False from r).elim
  |some _=>exact r
def KV.val (r:KV kvs vs)(k:κ):lQ (oR kvs k) (valueAt vs k):=by
 induction r with
 |nil=>exact True.intro
 | @cons p q f qs h t d=>
  obtain⟨a,c⟩:=h;by_cases e:p.1=k
  .have e':=a.symm.trans e;have b:valueAt (q::qs) k=some q.2:=by simp[valueAt,e']
   rw[qK e,b];exact c
  .have e':¬ q.1=k:=λz=>e (a.trans z);have b:valueAt (q::qs) k=valueAt qs k:=by simp[valueAt,e']
   rw[qL e,b];exact d
def KV.any (r:KV kvs vs)(k:κ):(kvs.any λkv=>decide (kv.1=k))=vs.any λkv=>decide (kv.1=k):=by
 induction r with
 |nil=>rfl
 |cons h t a=>rw[jbI,jbI,a,h.1]
theorem KV.repl (r:KV kvs vs)(k:κ)(d:RelV y u) :
  KV (kvs.map λkv=>if kv.1=k then(kv.1,y) else kv) (vs.map λkv=>if kv.1=k then(kv.1,u) else kv):=by
 induction r with
 |nil=>exact .nil
 | @cons p q f qs h t c=>
  rw[jas,jas];refine .cons ?_ c;obtain⟨a,b⟩:=h;by_cases e:p.1=k
  .rw[jaf e,jaf (a.symm.trans e)];exact⟨a,d⟩
  .rw[jae e,jae (λz=>e (a.trans z))];exact⟨a,b⟩
def KV.put (r:KV kvs vs)(k:κ)(a:RelV y u):KV (putK kvs k y) (stored vs k u):=by
 unfold putK stored;rw[r.any k];by_cases e:(vs.any λb=>decide (b.1=k))=true
 .rw[jaf e,jaf e];exact r.repl k a
 .rw[jae e,jae e];exact Paired.snoc r ⟨M,a⟩
def KV.keys {kvs:List (κ×V)}{vs:List (κ×Value)}(r:KV kvs vs):kvs.map (·.1)=vs.map (·.1):=by
 induction r with
 |nil=>rfl
 |cons h t a=>rw[jas,jas,a,h.1]
def KV.length {kvs:List (κ×V)}{vs:List (κ×Value)}(r:KV kvs vs):kvs.length=vs.length:=jbz r
end
def A0 (r:RelV (kV k) u):(aI P w).is k u=true:=by
 cases k with
 |inl i=>obtain⟨t,e⟩:=(show ∃t,u=Value.int i t from r);subst e;exact EM P w i t
 |inr x=>obtain⟨t,e⟩:=(show ∃t,u=Value.str x t from r);subst e;exact dB P w x t
theorem A3:∀{ks:List Key}{us:jcJ},Vals (ks.map kV) us->ItemsAre (aI P w) ks us
 |[],_,r=>by rw[jaX] at r;cases r;exact .nil
 |k::ks,_,r=>by
  cases r with
  |cons h t=>exact .cons (A0 h) (A3 t)
abbrev KT (H:Hp):List (List Key×V)->List (List Key×Addr×Value)->Prop:=Paired λp q=>p.1=q.1/\H q.2.1=some (.tup (p.1.map kV))/\RelV p.2 q.2.2
def KT.val (r:KT H kvs xs)(k:List Key):lQ (oR kvs k) ((atKey xs k).map (·.2)):=by
 induction r with
 |nil=>exact True.intro
 | @cons p q f qs h t d=>
  obtain⟨a,_,c⟩:=h;by_cases e:p.1=k
  .have e':=a.symm.trans e;have b:atKey (q::qs) k=some q.2:=by simp[atKey,e']
   rw[qK e,b];exact c
  .have e':¬ q.1=k:=λz=>e (a.trans z);have b:atKey (q::qs) k=atKey qs k:=by simp[atKey,e']
   rw[qL e,b];exact d
theorem KT.repl (r:KT H kvs xs)(k:List Key)(f:RelV y u) :
  KT H (kvs.map λkv=>if kv.1=k then(kv.1,y) else kv) (xs.map (putAt k u)):=by
 induction r with
 |nil=>exact .nil
 | @cons p q g qs h t d=>
  rw[jas];refine .cons ?_ d;obtain⟨a,b,c⟩:=h;unfold putAt;by_cases e:p.1=k
  .rw[jaf e,jaf (a.symm.trans e)];exact⟨a,b,f⟩
  .rw[jae e,jae (λz=>e (a.trans z))];exact⟨a,b,c⟩
theorem KT.put (r:KT H kvs xs)(k:List Key)(c:H b=some (.tup (k.map kV)))(a:RelV y u) :
  KT H (putK kvs k y) (storedH xs k b u):=by
 have e:(kvs.any λd=>decide (d.1=k))=(atKey xs k).isSome:=by
  rw[Dw,(r.val k).KN,Option.isSome_map]
 unfold putK storedH;rw[e];by_cases q:(atKey xs k).isSome=true
 .rw[jaf q,jaf q];exact r.repl k a
 .rw[jae q,jae q];exact Paired.snoc r ⟨M,c,a⟩
theorem KT.keeps (r:KT H kvs xs)(c:∀b ys,H b=some (.tup ys)->a b=some (.tup ys)):KT a kvs xs:=
 Paired.X6 r λ_ _ z=>⟨z.1,c _ _ z.2.1,z.2.2⟩
def UW (ok:nY P w H h)(e:Rd H a u):cz P w H h a u:=e.ok ok
theorem Ba (ok:nY P w H h)(e:Rd H a (.dK kvs)):kvs.length<=sizeLine/\(a==sysModules)=false/\∃vs,KV kvs vs/\h.DictOf (aI P w) a vs:=
 show cz P w H h a (.dK kvs) from UW ok e
def VA (ok:nY P w H h)(e:H a=some (.dK kvs)):kvs.length<=sizeLine/\(a==sysModules)=false/\∃vs,KV kvs vs/\h.DictOf (aI P w) a vs:=Ba ok (.inl e)
def CC (ok:nY P w H h)(e:H a=some (.tup (b.map kV))):(tupleKind (aI P w)).is h b a:=by
 obtain⟨_,g,r,o,d,c,n,f⟩:=(show cz P w H h a (.tup (b.map kV)) from ok a _ e)
 exact⟨o,g.toArray,n,d,c,f,by simpa using A3 r⟩
theorem Fb (ok:nY P w H h)(e:Rd H a (.dT kvs)):kvs.length<=sizeLine/\(a==sysModules)=false/\
  ∃xs,KT H kvs xs/\h.DictOfH (tupleKind (aI P w)) a xs:=by
 obtain⟨z,y,xs,r,o,n,f,j,i,k,s,d⟩:=(show cz P w H h a (.dT kvs) from UW ok e)
 refine⟨z,y,xs,r,o,n,f,j,i,k,s,λx b=>?_,d⟩;have all:∀{l:List (List Key×V)} {m:List (List Key×Addr×Value)},KT H l m->∀x∈m,(tupleKind (aI P w)).is h x.1 x.2.1:=by
  intro l m q
  induction q with
  |nil=>intro x b;exact nomatch b
  | @cons p q u qs c t g=>
   intro x b;rcases jah.mp b with e | b
   .subst e;exact CC ok (by rw[<- c.1];exact c.2.1)
   .exact g x b
 exact all r x b
theorem a2G (ok:nY P w H h)(e:H a=some (.dT kvs)):kvs.length<=sizeLine/\(a==sysModules)=false/\
  ∃xs,KT H kvs xs/\h.DictOfH (tupleKind (aI P w)) a xs:=Fb ok (.inl e)
def Dj (H:Hp)(a:Addr)(y:V)(r:Option V):Prop:=
 (∃c k,Rd H a (.dK c)/\y=kV k/\r=oR c k)\/∃c k b,Rd H a (.dT c)/\y=.ref b/\H b=some (.tup (k.map kV))/\r=oR c k
def Qi (H:Hp)(a:Addr)(y v:V)(d:Hp):Prop:=
 (∃c k,H a=some (.dK c)/\y=kV k/\c.length<sizeLine/\d=upd H a (.dK (putK c k v)))\/
 ∃c k b,H a=some (.dT c)/\y=.ref b/\H b=some (.tup (k.map kV))/\c.length<sizeLine/\d=upd H a (.dT (putK c k v))
def Dj.k {H:Hp}{a:Addr}{kvs:List (Key×V)}{k:Key}(e:H a=some (.dK kvs)):Dj H a (kV k) (oR kvs k):=.inl ⟨kvs,k,.inl e,M,M⟩
def Qi.k {H:Hp}{a:Addr}{kvs:List (Key×V)}{k:Key}{v:V}(e:H a=some (.dK kvs))(b:kvs.length<sizeLine):Qi H a (kV k) v (upd H a (.dK (putK kvs k v))):=.inl ⟨kvs,k,e,M,b,M⟩
def Inv.big (I:Inv X vy U H s):sysModules<s.heap.objs.size:=by
 have h:=(I.mod.glob.keeps I.bk).lt;exact Nat.lt_trans (by decide) h
theorem K9 (t:A.units+1<cLine)(I:Inv X vy U H s)(g:Dj H a y (some v))(o:RelV y u)(h:∀w' s',Inv X vy U H s'->RelV v w'->Q w' s') :
  wpAny (model X.prog X.w) A (getItem (.ref a) u) Q E s:=by
 rcases g with⟨m,k,e,i,l⟩ | ⟨m,k,b,e,i,q,l⟩
 .subst i;obtain⟨z,hd,x,c,f⟩:=Ba I.hok e;obtain⟨w',n,d⟩:=lQ.some_of (by rw[l];exact c.val k);exact wpAny_getItem_of (A0 o) f.mapOf n (h w' _ (I.tok _) d)
 .subst i;cases(show u=Value.ref b from o);obtain⟨z,hd,B,c,f⟩:=Fb I.hok e;obtain⟨w',n,d⟩:=lQ.some_of (by rw[l];exact c.val k);obtain⟨p,r,j⟩:=jcd.mp n;refine wpAny_getItem_heap (tupleKind_room_in1 t) (CC I.hok q) f r ?_;rw[j];exact h w' _ (I.tok _) d
theorem CS (I:Inv X vy U H s)(e:Mut (H a))(hs:Heap.SameBut a s.heap h')(c:∃q,h'.get? a=some q)(new:cz X.prog X.w (upd H a ob) h' a ob) :
  Inv X vy U (upd H a ob) {s with heap:=h',toks:=t' }:=
 I.write e (.inl M) (λb q d z=>(hs.2 b d).trans z) c new
theorem Po (z:kvs.length<=sizeLine)(hd:(a==sysModules)=false)(b:KV kvs vs)(dd:h'.DictOf (aI P w) a vs) :
  cz P w c h' a (.dK kvs):=⟨z,hd,vs,b,dd⟩
theorem K8 (N:A.units+1<cLine)(I:Inv X vy U H s)(g:Qi H a y v x)(F:RelV y u)(G:RelV v r)(h:∀s',Inv X vy U x s'->Q () s') :
  wpAny (model X.prog X.w) A (setItem (.ref a) u r) Q E s:=by
 rcases g with⟨f,k,e,o,l,t⟩ | ⟨f,k,b,e,o,B,l,t⟩
 .subst o t;obtain⟨z,hd,T,d,n⟩:=VA I.hok e;have O:T.length<=sizeLine:=by rw[<- d.length];exact z
  have p:(putK f k v).length<=sizeLine:=by have:=nK f k v;lia
  refine wpAny_setItem_pairs (A0 F) n λD j m=>h _ ?_;have S:∃q,D.get? a=some q:=let⟨q,_,_,i,_⟩:=j;⟨q,i⟩;exact CS I (by rw[e];exact True.intro) m S (Po p hd (d.put k G) j)
 .subst o t;cases(show u=Value.ref b from F);obtain⟨z,hd,P,d,n⟩:=a2G I.hok e;have O:P.length<=sizeLine:=by rw[<- jbz d];exact z
  have p:(putK f k v).length<=sizeLine:=by have:=nK f k v;lia
  refine wpAny_setItem_heap (tupleKind_room_in1 N) (CC I.hok B) n λD j m=>h _ ?_;obtain⟨q,V,K,i,L,M,R,_,J⟩:=j;refine CS I (by rw[e];exact True.intro) m ⟨q,i⟩ ⟨p,hd,_,(d.put k B G).keeps λc W C=>?_,q,V,K,i,L,M,R,J⟩;rw[aY (a1C C e (λz=>nomatch z))];exact C
def Qc (i:Expr):Prop:=∀ov iv,subscripted i false ov iv=operate [ov,iv] (getItem ov iv)
theorem HZ {prog:Program}{w:World}{A:Around}{E:jcG}{s:Shared}{env:Env}{b a:Expr}{pos:Pos}{T id:String}{Q:jcG}
  (d:typeLookup (.type T) "__getitem__"=pure (some (.builtin id))) (hs:Qc a)
  (h:wpAny (model prog w) A (eval b env) (λo s₁=>wpAny (model prog w) A (eval a env) (λi s₂=>s₂.TypeIs o T/\wpAny (model prog w) A (getItem o i) Q E s₂) E s₁) E s) :
  wpAny (model prog w) A (eval (.Subscript b a pos) env) Q E s:=by
 refine Subscript_ (jaS h (λo s₁ h₁=>jaS h₁ (λi s₂ h₂=>?_) λ_ _ x=>x) λ_ _ x=>x);obtain⟨c,h₂⟩:=h₂;refine jaa ?_;refine jaa (wpAny_specialOf c d ?_);have fin:wpAny (model prog w) A (subscripted a false o i) (λr s₃=>wpAny (model prog w) A (letTemporaryGo b o r >>=λ_=>pure r) Q E s₃) E s₂:=by
  rw[hs o i];exact wpAny_operating (jaS h₂ (λr s₃ h₃=>jaa (wpAny_letTemporaryGo (jad h₃))) λ_ _ x=>x)
 first
  |exact jad (jaa fin)
  |exact jaa (jad (jaa fin))
  |exact jaa fin
def Ff (I:Inv X d U H s)(g:Dj H a y o):s.TypeIs (.ref a) "dict":=by
 rcases g with⟨c,k,e,_,_⟩ | ⟨c,k,b,e,_,_,_⟩
 .obtain⟨_,_,vs,_,dd⟩:=Ba I.hok e;exact dd.typeIs
 .obtain⟨_,_,xs,_,dd⟩:=Fb I.hok e;exact dd.typeIs
def a0x (c ty:TE):TE:=λU H Q=>c U H λx d=>ty U d λy b=>∃a v,x=.ref a/\Dj b a y (some v)/\Q v b
def a0O (c ty d:TE):TS:=λD U H=>d U H λv e=>c U e λx f=>ty U f λy g=>∃a b,x=.ref a/\Qi g a y v b/\D.nx U b
def Si (p:X.A.units+1<cLine)(n:PE X o td)(t:PE X i ty)(hs:Qc i):PE X (.Subscript o i pos) (a0x td ty):=by
 intro c s U H Q I h;refine HZ PySem.F.slot_dict_getitem.lookup hs (dF (n c s U H _ I h) ?_);rintro u e ⟨x,r,f,m,j⟩;refine dF (t c e U r _ f j) ?_;rintro B D ⟨y,k,d,w,a,v,ex,g,q⟩;subst ex;obtain rfl:u=Value.ref a:=m;exact⟨Ff d g,K9 p d g w λz C l b=>⟨v,k,l,b,q⟩⟩
theorem R6 (d:X.A.units+1<cLine)(w:PE X o td)(k:PE X i ty)(E:PE X value tv)(hs:swapsWith value (some (.Subscript o i pos')) pos.line X.env=pure false) :
  PS X (.Assign [.Subscript o i pos'] value pos) (a0O td ty tv):=by
 intro b s U H D I h;refine wpAny_Assign_Subscript (dF (E b s U H _ I h) ?_) hs;rintro r j ⟨v,C,n,B,p⟩;refine dF (w b j U C _ n p) ?_;rintro u f ⟨x,q,F,z,G⟩;refine dF (k b f U q _ F G) ?_;rintro L M ⟨y,J,t,l,a,e,ex,g,m⟩;subst ex;obtain rfl:u=Value.ref a:=z;exact K8 d t g l B λK c=>⟨U,e,c,m⟩
theorem Fd (h:Heap)(a:sysModules<h.objs.size):cz P w H (h.push {cls:=.type "dict",data:=.dict #[] }) h.objs.size (.dK []):=
 ⟨jaD _,jbN.mpr (jaE (jax a)),[],.nil,Heap.DictOf.new h⟩
def Wn:TE:=λ_ H Q=>∀p,H p=none->Q (.ref p) (upd H p (.dK []))
theorem NO:PE X (.Dict [] [] pos) Wn:=λa s U H Q I h=>
 wpAny_Dict_empty ⟨.ref s.heap.objs.size,_,I.laid (t':=s.toks) (λ_ _ q=>jap _ q) (jam _) (Fd s.heap I.big),M,h _ (I.hok.fresh (jam _))⟩
def Bv:List (TE×TE)->St->Hp->(List (V×V)->Hp->Prop)->Prop
 |[],_,H,Q=>Q [] H
 |(tk,b)::r,U,H,Q=>tk U H λx d=>b U d λy c=>Bv r U c λa e=>Q ((x,y)::a) e
abbrev VV:List (V×V)->List (Value×Value)->Prop:=Paired λp q=>RelV p.1 q.1/\RelV p.2 q.2
def PPs (X:Cx)(pos:Pos)(keys:List (Option Expr))(a:jcL)(d:List (TE×TE)):Prop:=
 ∀(vy:jcF) (s:Shared) (U:St) (H:Hp) (Q:List (V×V)->Hp->Prop),Inv X vy U H s->Bv d U H Q->
  wpAny (model X.prog X.w) X.A (evalPairs (pairTrees keys a X.env pos)) (λf e=>∃b c,Inv X vy U c e/\VV b f/\Q b c) X.xe s
def R8:PPs X pos [] [] []:=λa s U H Q I h=>pairTrees_nil_walk ⟨[],H,I,.nil,h⟩
theorem NF (hk:PE X k tk)(w:PE X v d)(f:PPs X pos c vs e) :
  PPs X pos (some k::c) (v::vs) ((tk,d)::e):=λa s U H Q I h=>
 pairTrees_cons_walk (dF (hk a s U H _ I h) (by rintro u g ⟨x,t,j,p,l⟩;exact dF (w a g U t _ j l) (by rintro D A ⟨y,m,z,B,r⟩;exact   dF (f a A U m _ z r) (by rintro C E ⟨q,n,o,b,i⟩;exact⟨(x,y)::q,n,o,.cons ⟨p,B⟩ b,i⟩))))
noncomputable def qj (kvs a:List (Key×V)):List (Key×V):=a.foldl (λb c=>putK b c.1 c.2) kvs
def KV.merge:∀{more:List (Key×V)} {rs:List (Key×Value)} {kvs:List (Key×V)} {vs:List (Key×Value)},KV more rs->KV kvs vs->KV (qj kvs more) (merged vs rs):=by
 intro more rs kvs vs r
 induction r generalizing kvs vs with
 |nil=>intro q;exact q
 | @cons p q c qs h t b=>
  intro a;have e:KV (putK kvs p.1 p.2) (stored vs q.1 q.2):=by
   have:=a.put p.1 h.2;rw[<- h.1];exact this
  exact b e
theorem pU:∀(more kvs:List (Key×V)),(qj kvs more).length<=kvs.length+more.length
 |[],kvs=>by show kvs.length<=kvs.length+0;lia
 |p::r,kvs=>by
  have b:=pU r (putK kvs p.1 p.2);have a:=nK kvs p.1 p.2;show(qj (putK kvs p.1 p.2) r).length<=_;rw[jak];lia
theorem zb:∀{kvs:List (Key×V)} {ws:List (Value×Value)},VV (kvs.map λkv=>(kV kv.1,kv.2)) ws->∃rs,Carries (aI P w) ws rs/\KV kvs rs
 |[],_,r=>by rw[jaX] at r;cases r;exact⟨[],True.intro,.nil⟩
 |p::kvs,_,r=>by
  cases r with
  | @cons a b e bs h t=>
   obtain⟨rs,c,q⟩:=zb t;obtain⟨f,d⟩:=b;exact⟨(p.1,d)::rs,⟨A0 h.1,M,c⟩,.cons ⟨M,h.2⟩ q⟩
def a0w (e:List (TE×TE)):TE:=λU H Q=>∀p,H p=none->Bv e U (upd H p (.dK [])) λd b=>b p=some (.dK [])/\∃a:List (Key×V),d=a.map (λc=>(kV c.1,c.2))/\a.length<=15/\Q (.ref p) (upd b p (.dK (qj [] a)))
theorem Sh (h:PPs X pos keys a j)(b:keys.all (·.isSome)=true)(C:keys.length=a.length)(t:keys≠[])
  (g:keys.length<=15):PE X (.Dict keys a pos) (a0w j):=by
 intro m s U H Q I q;have n:=I.hok.fresh (jam s.heap.objs.size);have y:=I.laid (h':=s.heap.push {cls:=.type "dict",data:=.dict #[] }) (t':=s.toks) (λ_ _ q=>jap _ q) (jam _) (Fd s.heap I.big);refine wpAny_Dict_walk (knd:=aI X.prog X.w) b C t g (dF (h m _ U _ _ y (q _ n)) ?_);rintro J F ⟨L,G,k,f,e,d,o,K,E⟩;subst o;obtain⟨D,c,A⟩:=zb f;obtain⟨z,hd,v,l,x⟩:=VA k.hok e;cases l;refine⟨D,c,x,λh' i r=>⟨.ref s.heap.objs.size,_,?_,M,E⟩⟩;have u:(qj [] d).length<=sizeLine:=by
  have p:=pU d [];rw[jaI] at p;rw[jbe];lia
 have B:∃q,h'.get? s.heap.objs.size=some q:=let⟨q,_,_,hq,_⟩:=i;⟨q,hq⟩;exact CS k (by rw[e];exact True.intro) r B (Po u hd (A.merge .nil) i)
structure M2 (X:Cx)(o:Expr)(m:Str)(B1:Pos)(e f:Expr)(cpos:Pos):Prop where
 base:attributeBase o m X.env (eval o X.env)=eval o X.env
 few:((backTo cpos (starEach [e,f] X.env)).all (λx=>!x.1)&&(backToKw cpos (keywordEach [] X.env)).all (λx=>x.1.isSome)
 &&decide (([e,f]:List Expr).length+([]:List Keyword).length+(if([]:List Keyword).isEmpty then 0 else 1)<30))=true
 line:(B1.endLine==cpos.line)=true
 trees:backTo cpos (starEach [e,f] X.env)=[(false,eval e X.env),(false,eval f X.env)]
def IsD (H:Hp)(a:Addr):Prop:=(∃b,Rd H a (.dK b))\/∃b,Rd H a (.dT b)
theorem Yy (I:Inv X h U H s)(d:IsD H a) :
  s.TypeIs (.ref a) "dict"/\(∀b,Value.ref a=.ref b->∃ob,s.heap.get? b=some ob/\ob.dict=none)/\(a==sysModules)=false:=by
 rcases d with⟨g,e⟩ | ⟨g,e⟩
 .obtain⟨_,hd,vs,_,dd⟩:=Ba I.hok e;refine⟨dd.typeIs,λb q=>?_,hd⟩;cases q;obtain⟨ob,_,_,f,c,_⟩:=dd;exact⟨ob,f,c.2.1⟩
 .obtain⟨_,hd,xs,_,dd⟩:=Fb I.hok e;refine⟨dd.typeIs,λb q=>?_,hd⟩;cases q;obtain⟨ob,_,_,f,c,_⟩:=dd;exact⟨ob,f,c.2.1⟩
theorem YZ (q:A.units+1<cLine)(I:Inv X vy U H s)(g:Dj H a y o)(n:RelV y u)(m:RelV d r)(h:∀w' s',Inv X vy U H s'->RelV (o.getD d) w'->Q w' s') :
  wpAny (model X.prog X.w) A (call (.builtin "dict.get") [.ref a,u,r]) Q E s:=by
 rcases g with⟨j,k,e,i,l⟩ | ⟨j,k,b,e,i,p,l⟩
 .subst i;obtain⟨z,hd,v,c,f⟩:=Ba I.hok e;refine call_meetsIn PySem.F.slot_dict_get f.typeIs PySem.F.entry_dict_get (PySem.F.args_dict_get_3 _ _ _) (meets_dict_get_default (aI X.prog X.w) a (A0 n) hd r) ⟨_,f.mapOf,h _ _ (I.tok _) ?_⟩;rw[l];exact(c.val k).getD m
 .subst i;cases(show u=Value.ref b from n);obtain⟨z,hd,t,c,f⟩:=Fb I.hok e;refine call_meetsIn PySem.F.slot_dict_get f.typeIs PySem.F.entry_dict_get (PySem.F.args_dict_get_3 _ _ _) (meetsH_dict_get_default (tupleKind (aI X.prog X.w)) a b hd r) ⟨tupleKind_room_in1 q,k,t,CC I.hok p,f,h _ _ (I.tok _) ?_⟩;rw[l];exact(c.val k).getD m
def Wq (e ty d:TE):TE:=λU H Q=>e U H λx b=>∃a,x=.ref a/\IsD b a/\ty U b λy f=>d U f λz c=>∃o,Dj c a y o/\Q (o.getD z) c
def NQ (n:X.A.units+1<cLine)(J:PE X o td)(K:PE X e ty)(v:PE X f tx)(m:M2 X o "get" B1 e f cpos):PE X (.Call (.Attribute o "get" B1) [e,f] [] cpos) (Wq td ty tx):=by
 intro b s U H Q I h;refine wpAny_Call_method m.base m.few m.line PySem.F.plainAttrs_dict PySem.F.slot_dict_get PySem.F.type_dict_get (dF (J b s U H _ I h) ?_);rintro u p ⟨x,L,i,G,a,ex,d,w⟩;subst ex;obtain rfl:u=Value.ref a:=G;obtain⟨E,j,_⟩:=Yy i d;refine⟨E,j,?_⟩;rw[m.trees];refine Calls.callWith_builtin rfl (Calls.evalArgs_plain (Calls.spliced_cons (dF (K b p U L _ i w) ?_)));rintro T q ⟨y,B,M,r,N⟩;refine Calls.spliced_cons (dF (v b q U B _ M N) ?_);rintro O V ⟨z,l,C,D,P,g,t⟩;refine Calls.spliced_nil ?_;exact YZ n C g r D λR S k c=>⟨_,l,k,c,t⟩
section
variable {κ:Type}[DecidableEq κ]
end
end L2
set_option maxHeartbeats 4000000
namespace L2
open PySem PySem.Spec PyProof.Rows
abbrev XI:Value->Shared->Prop:=λ_ _=>False
abbrev rW (X:Cx)(sc:Scope)(N:jcI)(cl:List (Str×Addr))(C:Addr)(s:Shared)(H:Hp)(fp:jcK)(xx:jcG):Cx:=
 {X with N:=N,s₀:=s,H₀:=H,env:=compEnvC sc cl C X.env,outer:=X.stack,ex:=fp,fn:=λ_=>false,pn:=[],xe:=xx }
abbrev z5 (X:Cx)(sc:Scope)(N:jcI)(cl:List (Str×Addr))(C:Addr)(s:Shared)(H:Hp)(fp:jcK):Cx:=rW X sc N cl C s H fp XI
def Ext (U a:St):Prop:=a.length=U.length/\∀(i:Nat) v,U[i]?=some (some v)->a[i]?=some (some v)
noncomputable def HX (a:jcL)(env:Env):Sem Bool:=forIn a true λc r=>if r=true then do let ok <- isTrue c env (eval c env);pure (ForInStep.yield ok) else pure (ForInStep.yield r)
def Qa (X:Cx)(a:jcL)(t:TT):Prop:=
 ∀(vy:jcF) (s:Shared) (U:St) (H:Hp) (Q:Bool->Hp->Prop),Inv X vy U H s->t U H Q->wpAny (model X.prog X.w) X.A (HX a X.env) (TP X vy U Q) X.xe s
def Ri:TT:=λ_ H Q=>Q true H
def RU:Qa X [] Ri:=λa s U H Q I h=>wpAny_tests_nil ⟨H,I,h⟩
def RT (b:PT X c t):Qa X [c] t:=λa s U H Q I h=>wpAny_tests_one (b a s U H Q I h)
theorem Hh (J:Nat->Shared->Prop)
  (d:∀n s,J n s->wpAny (model prog w) A (pyNext l) (λr s1=>match r with
   |none=>R (.ok .next) s1
   |some v=>wpAny (model prog w) A (letOwnedTupleGo a l v) (λ_ s2=>wpAny (model prog w) A (assign a env v) (λ_ s3=>
     wpAny (model prog w) A (HX o env) (λok s4=>if ok=true then wpAny (model prog w) A (eval i env) (λx s5=>
       wpAny (model prog w) A (call (.builtin "list.append") [j,x]) (λ_ s6=>∃m,m<n/\J m s6) (notedBy (model prog w) A env λe s'=>R (.error e) s') s5) (notedBy (model prog w) A env λe s'=>R (.error e) s') s4
      else ∃m,m<n/\J m s4) (notedBy (model prog w) A env λe s'=>R (.error e) s') s3) (notedBy (model prog w) A env λe s'=>R (.error e) s') s2) (notedBy (model prog w) A env λe s'=>R (.error e) s') s1) (notedBy (model prog w) A env λe s'=>R (.error e) s') s) (n:Nat) (h:J n s) :
  codeAny (model prog w) A (.compLoop (.ListComp i [⟨a,g,o,0⟩] b pos) 0 l j env) R s:=by
 refine codeAny_loop rfl J (λk s' hk=>?_) n h;refine wpAny_noted ?_;have c:∀(e:Value)(s2:Shared),notedBy (model prog w) A env (λe s'=>R (.error e) s') e s2->notedBy (model prog w) A env (λe s'=>R (.error e) s') e s2:=λ_ _ f=>f;refine jaa (wpAny_standAt (jaa (jaS (d k s' hk) (λr s1 p=>?_) c)));cases r with
 |none=>exact jad p
 |some v=>
  refine jaa (jaS p (λ_ s2 u=>?_) c);refine jaa (jaS u (λ_ s3 y=>?_) c);refine jaa (jaS y (λok s4 q=>?_) c);cases ok with
  |false=>exact jad ⟨M,q⟩
  |true=>exact jaa (jaa (jaS q (λx s5 t=>jaa (jaS t (λ_ s6 z=>jad (jad ⟨M,z⟩)) c)) c))
def Jx (J:It)(g:TG)(tt:TT)(te:TE)(σ0:St)(W:Nat->Nat->List V->Hp->Prop)(R:List V->Hp->Prop):Prop:=
 ∀i m ys H,W i m ys H->(J.stop i H/\R ys H)\/(J.go i H/\∃F:List V->Hp->Prop,(∀ys' H',F ys' H'->∃c,c < m/\W (i+1) c ys' H')/\∀x H',J.Lx i H x H'->g x σ0 H' λa e=>Ext σ0 a/\tt a e λb d=>
  if b=true then te a d λv f=>ys.length<sizeLine/\F (ys++[v]) f else F ys d)
structure iY (X:Cx)(sc:Scope)(cl:List (Str×Addr))(own:Nat)(N:List Str)(fr:List Nat):Prop where
 kind:sc.kind=.function
 names:∀x∈sc.names,x.2=.local->sc.names.lookup x.1=some .local
 tO:∀x∈sc.names,x.2≠.cell
 clos:closureFor sc X.env=pure cl
 cells:∀x c,cl.lookup x=some c->X.env.cells.lookup x=some c
 has:∀x,((relabel sc X.env).names.lookup x=some .cell\/(relabel sc X.env).names.lookup x=some .free)->∃c,cl.lookup x=some c
 len:N.length=own+fr.length
 ZU:∀(i:Nat) j,fr[i]?=some j->∃x,N[own+i]?=some x/\X.N[j]?=some x/\(X.env.kindOf x=some .cell\/X.env.kindOf x=some .free)/\((relabel sc X.env).names.lookup x=some .cell\/(relabel sc X.env).names.lookup x=some .free)
def Ql (env:Env):List (Str×Addr)->Prop
 |[]=>True
 |p::r=>env.cells.lookup p.1=some p.2/\Ql env r
theorem Ql.mem:∀{cl:List (Str×Addr)},Ql env cl->∀p∈cl,env.cells.lookup p.1=some p.2
 |[],_,_,h=>nomatch h
 |_::_,h,p,a=>by
  rcases jah.mp a with rfl | a
  .exact h.1
  .exact h.2.mem p a
noncomputable def zY (k:Option NameKind):Bool:=match k with
 |some .cell=>true
 |some .free=>true
 |_=>false
def Jc (h:zY k=true):k=some .cell\/k=some .free:=by
 cases k with
 |none=>cases h
 |some k=>cases k<;>first | exact .inl rfl | exact .inr rfl | cases h
noncomputable def E6 (X:Cx)(sc:Scope):jcI->jcO->Bool
 |[],[]=>true
 |x::ns,j::fr=>decide (X.N[j]?=some x)&&zY (X.env.kindOf x)&&zY ((relabel sc X.env).names.lookup x)&&E6 X sc ns fr
 |_,_=>false
theorem E5 {sc:Scope}:∀{ns:jcI}{fr:jcO},E6 X sc ns fr=true->ns.length=fr.length/\∀(i:Nat) j,fr[i]?=some j->∃x,ns[i]?=some x/\X.N[j]?=some x/\zY (X.env.kindOf x)=true/\zY ((relabel sc X.env).names.lookup x)=true
 |[],[],_=>⟨M,λi j h=>by simp at h⟩
 |[],_::_,h=>by cases h
 |_::_,[],h=>by cases h
 |x::ns,j::fr,h=>by
  have h:(decide (X.N[j]?=some x)&&zY (X.env.kindOf x)&&zY ((relabel sc X.env).names.lookup x)&&E6 X sc ns fr)=true:=h;rw[ja3,ja3,ja3] at h;obtain⟨⟨⟨b,a⟩,c⟩,d⟩:=h;obtain⟨l,g⟩:=E5 d;refine⟨by simp[l],λi k e=>?_⟩;cases i with
  |zero=>cases e;exact⟨x,M,of_decide_eq_true b,a,c⟩
  |succ i=>exact g i k e
theorem dS {sc:Scope}(J6 CI:jcI)(fr:jcO)(kind:sc.kind=.function)(names:(sc.names.all λx=>x.2 !=.local||sc.names.lookup x.1==some .local)=true)
  (tO:(sc.names.all λx=>x.2 !=.cell)=true) (clos:closureFor sc X.env=pure cl) (cells:Ql X.env cl) (has:((relabel sc X.env).names.all λy=>!zY (some y.2)||(cl.lookup y.1).isSome)=true)
  (len:CI.length=fr.length) (ZU:E6 X sc CI fr=true):iY X sc cl J6.length (J6++CI) fr where
 kind:=kind
 names:=λx hx hl=>by
  have:=List.all_eq_true.mp names x hx;rw[hl] at this;simpa using this
 tO:=λx hx=>by simpa using List.all_eq_true.mp tO x hx
 clos:=clos
 cells:=λx c h=>cells.mem (x,c) (jbO h)
 has:=λx h=>by
  obtain⟨k,hk,e⟩:∃k,(relabel sc X.env).names.lookup x=some k/\zY (some k)=true:=by
   rcases h with h | h
   .exact⟨_,h,M⟩
   .exact⟨_,h,M⟩
  have:=List.all_eq_true.mp has (x,k) (jbO hk);rw[e] at this;exact Option.isSome_iff_exists.mp (by simpa using this)
 len:=by rw[jab,len]
 ZU:=λi j e=>by
  obtain⟨_,g⟩:=E5 ZU;obtain⟨x,e1,e2,e3,e4⟩:=g i j e;refine⟨x,?_,e2,Jc e3,Jc e4⟩;rw[jbf (Nat.le_add_right _ _),jcv];exact e1
noncomputable def Ay (own:Nat)(fr:jcO)(U:St):St:=List.replicate own none++fr.map λj=>(U[j]?).join
section
variable {sc:Scope}
def Wy (h:(Ay own fr U)[i]?=some (some v)):∃k j,i=own+k/\fr[k]?=some j/\U[j]?=some (some v):=by
 unfold Ay at h;by_cases a:i<own
 .rw[jaU (by simpa using a),jbM,jaf a] at h;cases h
 .rw[jbf (by simpa using a),jbW,jaV] at h;cases e:fr[i - own]? with
  |none=>rw[e] at h;cases h
  |some j=>
   rw[e] at h;have h:(U[j]?).join=some v:=jbc h;refine⟨i - own,j,by lia,e,?_⟩;cases q:U[j]? with
   |none=>rw[q] at h;cases h
   |some o=>rw[q] at h;exact jao some h
theorem Hx {V:jcG}{A:jcK}{m1:Str->jcN}{D:Addr}(S:iY X sc cl own N fr)(I:Inv X P U H s)(d:∀b∈A,qD X P H b)
  (K:∀b∈A,∃o,s.heap.get? b=some o) (r:∀b o,s.heap.get? b=some o->n.get? b=some o) (B:s.heap.objs.size<=C) (w:n.Ns C m1) (F:s.heap.objs.size<=D) (O:D≠C) (ho:n.get? D=some od) (G:∀v,od.data≠.cell v) :
  Inv (rW X sc N cl C s H A V) [(D,od)] (Ay own fr U) H {s with heap:=n,toks:=t }:=by
 have W:=λb f=>let⟨o,e⟩:=K b f;jal e;refine⟨⟨I.ok.mod,S.kind,I.ok.glob,I.ok.blt,B,λx y c a b=>I.ok.inj x y c (S.cells x c a) (S.cells y c b),S.has,(λx c z=>nomatch z),I.ok.hd,I.ok.frames,.inl M,λb f=>?_,I.bs,jai I.ok.Jy I.sz,λb o e f=>?_,λb f L=>?_,I.stack,I.oi⟩,
  M,I.bare,Un.kept r,⟨m1,w,λi x v Q e2 e3=>?_⟩,λx c e=>?_,I.hok.fresh B,λx c e=>I.iO x c (S.cells x c e),λp J=>?_,I.hok.kept r,?_⟩
 .exact⟨jax (jaL (W b f) B),λx c e=>(d b f).2.2.2.2.1 x c (S.cells x c e)⟩
 .rcases(d b f).2.2.2.1 with z | z
  .exact I.ok.EI b o e z
  .exact absurd (jaL (jal e) (jai I.ok.Jy z)) (ja4 _)
 .rcases jah.mp (I.BA b L) with z | z
  .exact(d b f).2.1 z
  .exact(d b f).2.2.1 z
 .obtain⟨k,j,rfl,ej,eσ⟩:=Wy e2;obtain⟨y,n1,Y,h,T⟩:=S.ZU k j ej;rw[n1] at Q;cases Q;obtain⟨m,hn,hl⟩:=I.loc;obtain⟨u,ru,l⟩:=hl j x v Y eσ (by rcases h with z | z;exact .inr (.inl z);exact .inr (.inr z));refine⟨u,ru,.inr ⟨T,?_⟩⟩;obtain⟨c,R⟩:=S.has x T;refine⟨c,R,?_⟩;rcases l with⟨q,_⟩ | ⟨_,c',Z,z⟩
  .rcases h with h | h<;>(rw[h] at q;cases q)
  .have:=S.cells x c R;rw[Z] at this;cases this;obtain⟨o,E,g⟩:=z;exact⟨o,r _ _ E,g⟩
 .obtain⟨v,o,E,g⟩:=I.cell x c (S.cells x c e);exact⟨v,o,r _ _ E,g⟩
 .have J:p=(D,od):=by simpa using J
  subst J;refine⟨ho,I.hok.fresh F,O,λL=>?_,G⟩;have:=I.BA D L;rcases jah.mp this with z | z
  .exact absurd (jaL I.lt F) (by rw[z];exact ja4 _)
  .exact I.a1x F z
 .unfold Ay;rw[jab,jbW,jac];exact S.len.symm
theorem Hy {D:Addr}(I:Inv X g U H s)(i:∀b∈j,qD X g H b)(y:s.heap.objs.size<=C)(p:s.heap.objs.size<=D)
  (B:Inv (rW X sc N cl C s H j l) pl τ d s') (m:d D=none) (t:s'.heap.get? D=some {cls:=.type "list",data:=.seq h.toArray n }) (r:Vals ys h) (w:ys.length<=sizeLine) :
  Inv X g U (upd d D (.lst ys)) s':=by
 have ne:∀b o,s.heap.get? b=some o->b≠D:=λb o e=>jax (jaL (jal e) p);have a:∀b u,d b=some u->b≠D:=λb u e=>bL e m;refine I.VJ B.os ⟨B.base.keep,B.base.slot,λb o e q x=>?_,B.base.there,λb k e=>?_,λb o u e=>?_,λb v e=>?_⟩ (λb u e=>?_) B.bare λb f=>?_
 .rw[aY (ne b o e)];exact B.base.free b o e q x
 .have:=B.base.tups b k e;rw[aY (a _ _ this)];exact this
 .have:=B.base.nO b o u e;rw[aY (a _ _ this)];exact this
 .obtain⟨mo,this⟩:=B.base.oS b v e;exact⟨mo,by rw[aY (a _ _ this)];exact this⟩
 .by_cases f:b=D
  .subst f;rw[dM] at e;cases e;exact⟨w,h,n,r,t⟩
  .rw[aY f] at e;exact(B.hok b u e).stay (λ_ _ _ q=>q) (λc q=>by rw[aY (a _ _ q)];exact q) λc k q=>by rw[aY (a _ _ q)];exact q
 .obtain⟨_,f1,_,f3,f4,f5⟩:=i b f;exact⟨f3,f1,f4,f5⟩
end
section
variable {sc:Scope}
def Inv.NH (I:Inv X a U H s)(h:∀p∈l7,p∈a):Inv X l7 U H s:=I.vZ λp b=>I.pin p (jaP _ (h p b))
theorem yU {X:Cx}{cl:List (Str×Addr)}{own:Nat}{N:jcI}{fr:jcO}{elt tg L:Expr}{cs:jcL}{pos:Pos}{g:TG}{tt:TT}{te:TE}{vy:jcF}{U:St}{H:Hp}{s:Shared}{it:Addr}{d:jcK}{tn:Nat->Heap->Prop}{J:It}{f:Value->Addr->Result->Shared->Prop}
  (S:iY X sc cl own N fr) (hc:X.calm=true) (I:Inv X vy U H s) (T:Turn X.prog X.w X.K tg J d it tn) (st:tn 0 s.heap) (hfp:∀b∈d,qD X vy H b)
  (hg:∀D C,PG (rW X sc N cl C s H d (λe s'=>notedBy (model X.prog X.w) X.A (compEnvC sc cl C X.env) (λe s''=>f (.ref D) C (.error e) s'') e s')) tg g) (ht:∀D C,Qa (rW X sc N cl C s H d (λe s'=>notedBy (model X.prog X.w) X.A (compEnvC sc cl C X.env) (λe s''=>f (.ref D) C (.error e) s'') e s')) cs tt) (he:∀D C,s.heap.objs.size<=C->PE (rW X sc N cl C s H d (λe s'=>notedBy (model X.prog X.w) X.A (compEnvC sc cl C X.env) (λe s''=>f (.ref D) C (.error e) s'') e s')) elt te)
  {W:Nat->Nat->List V->Hp->Prop} {R:List V->Hp->Prop} (w0:∃m,W 0 m [] H) (walk:Jx J g tt te (Ay own fr U) W R)
  (fin:∀D C H' ys s' m,s'.heap.Ns C m->H' D=none->qD X vy (upd H' D (.lst ys)) C->Inv X vy U (upd H' D (.lst ys)) s'->R ys H'->f (.ref D) C (.ok .next) s') :
  wpAny (model X.prog X.w) X.A (newList []) (λacc s3=>wpAny (model X.prog X.w) X.A (newFunctionEnv sc X.env.globals cl [] X.env.qual none .none (some X.env)) (λcenv s4=>
   codeAny (model X.prog X.w) X.A (.compStart (.ListComp elt [⟨tg,L,cs,0⟩] sc pos) 0 (.ref it) acc {cenv with scope:=relabel sc X.env }) (f acc cenv.locals) s4) X.xe s3) X.xe s:=by
 refine ja9 (wpAny_newFunctionEnv S.tO (by intro y hy;simp at hy) (λh1 hns Vl=>?_) S.kind);generalize hH:s.heap.push {cls:=.type "list",dict:=none,data:=.seq ([]:jcJ).toArray }=h at hns Vl ⊢;have sC:h.objs.size=s.heap.objs.size+1:=by rw[<- hH,jbh]
 have j:s.heap.objs.size≠h.objs.size:=by lia
 have kp:∀b o,s.heap.get? b=some o->h1.get? b=some o:=λb o e=>by
  have l:=jal e;exact Vl.extBut b o (jax (by rw[sC];exact jbP l)) (jap _ (hH ▸ jap _ e))
 have hD1:=Vl.extBut _ _ j (jap _ (hH ▸ jaK _ M));have Rj:=λb a=>let⟨o,e,_⟩:=T.obj 0 _ st b a;jal e;generalize hCC:h.objs.size=C at *;generalize hDD:s.heap.objs.size=D at *;have I1:∀t,Inv (rW X sc N cl C s H d (λe s'=>notedBy (model X.prog X.w) X.A (compEnvC sc cl C X.env) (λe s''=>f (.ref D) C (.error e) s'') e s')) [(D,{cls:=.type "list",data:=.seq ([]:jcJ).toArray })] (Ay own fr U) H {s with heap:=h1,toks:=t }:=λt=>
  Hx S I hfp (λb a=>let⟨o,e,_⟩:=T.obj 0 _ st b a;⟨o,e⟩) kp (by lia) hns (by lia) j hD1 (by intro v z;cases z)
 have st1:=T.keep 0 _ _ st λb a o e=>kp b o e;have Y:∀{H':Hp}{s':Shared}{τ:St}{pl:jcF} {od:Obj},Inv (rW X sc N cl C s H d (λe s'=>notedBy (model X.prog X.w) X.A (compEnvC sc cl C X.env) (λe s''=>f (.ref D) C (.error e) s'') e s')) pl τ H' s'->(∀p∈pl,p.1=D)->(∀b∈d,H' b=none)->∀b∈d,qD (rW X sc N cl C s H d (λe s'=>notedBy (model X.prog X.w) X.A (compEnvC sc cl C X.env) (λe s''=>f (.ref D) C (.error e) s'') e s')) pl H' b:=λ{H' s' τ pl od} B hpl hn b a=>by
  have q:=Rj b a;refine⟨hn b a,(B.ok.YU b a).1,B.ok.E7 b a,.inl a,(B.ok.YU b a).2,λp h=>?_⟩;rw[hpl p h];exact(jax q).symm
 have P:∀t,codeAny (model X.prog X.w) X.A (.compLoop (.ListComp elt [⟨tg,L,cs,0⟩] sc pos) 0 (.ref it) (.ref D) (compEnvC sc cl C X.env)) (f (.ref D) C) {s with heap:=h1,toks:=t }:=by
  intro t;obtain⟨m0,w0⟩:=w0;refine Hh (λn s'=>∃i ys E k H',Inv (rW X sc N cl C s H d (λe s'=>notedBy (model X.prog X.w) X.A (compEnvC sc cl C X.env) (λe s''=>f (.ref D) C (.error e) s'') e s')) [(D,{cls:=.type "list",data:=.seq (List.toArray E) k })] (Ay own fr U) H' s'/\tn i s'.heap/\(∀b∈d,H' b=none)/\Vals ys E/\ys.length<=sizeLine/\W i n ys H') ?_ m0
   ⟨0,[],[],_,H,I1 t,st1,λb a=>(hfp b a).1,.nil,jaD _,w0⟩
  rintro n s2 ⟨i,ys,E,k,H2,B2,st2,ZV,rv,hz,w2⟩;rcases walk i n ys H2 w2 with⟨stop,rr⟩ | ⟨go,nx,hnx,tk⟩
  .refine jaS (T.done (rW X sc N cl C s H d (λe s'=>notedBy (model X.prog X.w) X.A (compEnvC sc cl C X.env) (λe s''=>f (.ref D) C (.error e) s'') e s')) rfl rfl rfl hc i _ s2 _ H2 (notedBy (model X.prog X.w) X.A (compEnvC sc cl C X.env) λe s'=>f (.ref D) C (.error e) s') B2 (Y (od:=default) B2 (by simp) ZV) st2 stop) (λr s3 ⟨hr,B3⟩=>?_) λ_ _ z=>z;subst hr;obtain⟨m3,n3,_⟩:=B3.loc;have Z:=B3.pin (D,{cls:=.type "list",data:=.seq (List.toArray E) k }) (jaP _ (jag.mpr M));refine fin D C H2 ys s3 m3 n3 Z.2.1 ?_ (Hy I hfp (by lia) (by lia) B3 Z.2.1 Z.1 rv hz) rr;exact I.YM (by lia) (by rw[aY (jaE j)];exact B3.free)
  .refine jaS (T.item (rW X sc N cl C s H d (λe s'=>notedBy (model X.prog X.w) X.A (compEnvC sc cl C X.env) (λe s''=>f (.ref D) C (.error e) s'') e s')) rfl rfl rfl hc i _ s2 _ H2 (notedBy (model X.prog X.w) X.A (compEnvC sc cl C X.env) λe s'=>f (.ref D) C (.error e) s') B2 (Y (od:=default) B2 (by simp) ZV) st2 go) (λr s3 ⟨u,hr,g3⟩=>?_) λ_ _ z=>z;subst hr;refine jaS g3 (?_) λ_ _ z=>z;rintro _ s4 ⟨x,H4,B4,rx,y4,Q,fr4⟩;have B5:=B4.pinned (Y (od:=default) B4 (by simp) fr4) (T.obj _ _ Q);refine jaS (hg D C _ s4 _ H4 x u _ B5 rx (tk x H4 y4)) (?_) λ_ _ z=>z;rintro _ s5 ⟨σ5,H5,B6,ex,q5⟩;refine jaS (ht D C _ s5 σ5 H5 _ B6 q5) (?_) λ_ _ z=>z;rintro b s6 ⟨H6,B7,q6⟩;have O:∀{H':Hp}{s':Shared},Inv (rW X sc N cl C s H d (λe s'=>notedBy (model X.prog X.w) X.A (compEnvC sc cl C X.env) (λe s''=>f (.ref D) C (.error e) s'') e s')) ([(D,{cls:=.type "list",data:=.seq (List.toArray E) k })]++xK d s4.heap) σ5 H' s'->tn (i+1) s'.heap/\∀b∈d,H' b=none:=λ{H' s'} B=>by
    refine⟨T.keep _ _ _ Q λb a o e=>(B.pin (b,o) (jaP _ (jaP _ (lF a e)))).1,λb a=>?_⟩;obtain⟨o,e,_⟩:=T.obj _ _ Q b a;exact(B.pin (b,o) (jaP _ (jaP _ (lF a e)))).2.1
   cases b with
   |false=>
    obtain⟨m',hm,w'⟩:=hnx _ _ q6;obtain⟨t7,f7⟩:=O B7;exact⟨m',hm,i+1,ys,E,k,H6,(B7.qM).weak ex.1.symm ex.2,t7,f7,rv,hz,w'⟩
   |true=>
    refine jaS (he D C (by lia) _ s6 σ5 H6 _ B7 q6) (λG s7 ⟨v7,H7,B8,r7,hz7,q7⟩=>?_) λ_ _ z=>z;obtain⟨m',hm,w'⟩:=hnx _ _ q7;obtain⟨t8,f8⟩:=O B8;have Xo:=B8.pin (D,{cls:=.type "list",data:=.seq (List.toArray E) k }) (jaP _ (jaA _ (jag.mpr M)));have lz:=rv.length.symm;refine call_meets F.slot_list_append ⟨_,Xo.1,M⟩ F.entry_list_append (F.args_list_append_2 _ _) (PySem.list_append D E.toArray k G (by rw[jaz];lia)) ⟨Xo.1,?_⟩;have q:=PySem.IsL.update Xo.1 (·.push G);have eo:E.toArray.push G=(E++[G]).toArray:=by simp
    have B9:Inv (rW X sc N cl C s H d (λe s'=>notedBy (model X.prog X.w) X.A (compEnvC sc cl C X.env) (λe s''=>f (.ref D) C (.error e) s'') e s')) [] (Ay own fr U) H7 {s7 with heap:=s7.heap.update D (Obj.mapSeq (·.push G)) }:=
     Inv.turned (t':=s7.toks) (((B8.NH (l7:=[]) (by intro p h;simp at h)).weak ex.1.symm ex.2)) (λb o a e=>(jaO _ _ (jaE a)).trans e) Xo.2.1 j (.inr (by show s.heap.objs.size<=D;lia)) (λy c e z=>by
      have:=B8.cell y c e;obtain⟨v,o,ZT,h2'⟩:=this;rw[z,Xo.1] at ZT;cases ZT;cases h2') (by intro p h;simp at h)
    have B10:∀o',(s7.heap.update D (Obj.mapSeq (·.push G))).get? D=some o'->(∀v,o'.data≠.cell v)->Inv (rW X sc N cl C s H d (λe s'=>notedBy (model X.prog X.w) X.A (compEnvC sc cl C X.env) (λe s''=>f (.ref D) C (.error e) s'') e s')) [(D,o')] (Ay own fr U) H7 {s7 with heap:=s7.heap.update D (Obj.mapSeq (·.push G)) }:=λo' e1 e2=>
     Inv.vZ B9 λp h=>by
      have h:p=(D,o'):=by simpa using h
      subst h;exact⟨e1,Xo.2.1,j,Xo.2.2.2.1,e2⟩
    rw[eo] at q;refine⟨m',hm,i+1,ys++[v7],E++[G],_,H7,B10 _ q (by intro v z;cases z),T.keep _ _ _ t8 λb a o e=>(jaO _ _ (jbJ (Rj b a))).trans e,f8,rv.append (.cons r7 .nil),by rw[jab,ja0];lia,w'⟩
 exact codeAny_compStart_list (P _) (T.self _ 0 _ _ _ st1 (P _))
def Inv.zx (I:Inv (rW X sc N cl C s0 H0 fp b) c U H s):Inv (rW X sc N cl C s0 H0 fp a) c U H s:=⟨{I.ok with },I.os,I.bare,I.base,I.loc,I.cell,I.free,I.iO,I.pin,I.hok,I.len⟩
def PG.zx (h:PG (z5 X sc N cl C s0 H0 fp) b g):PG (rW X sc N cl C s0 H0 fp a) b g:=λc s U H v u Q I r q=>jaS (h c s U H v u Q I.zx r q) (λ_ _ z=>let⟨U',H',J,q'⟩:=z;⟨U',H',J.zx,q'⟩) λ_ _ z=>z.elim
def Qa.zx (h:Qa (z5 X sc N cl C s0 H0 fp) b t):Qa (rW X sc N cl C s0 H0 fp a) b t:=λc s U H Q I q=>jaS (h c s U H Q I.zx q) (λ_ _ z=>let⟨H',J,q'⟩:=z;⟨H',J.zx,q'⟩) λ_ _ z=>z.elim
def PE.zx (h:PE (z5 X sc N cl C s0 H0 fp) e t):PE (rW X sc N cl C s0 H0 fp a) e t:=λb s U H Q I q=>jaS (h b s U H Q I.zx q) (λ_ _ z=>let⟨v,H',J,q'⟩:=z;⟨v,H',J.zx,q'⟩) λ_ _ z=>z.elim
theorem Bc {X:Cx}{cl:List (Str×Addr)}{own:Nat}{N:jcI}{fr:jcO}{d h c:Expr}{l:jcL}{pos:Pos}{g:TG}{tt:TT}{te:TE}{e:jcF}{U:St}{H:Hp}{s:Shared}{i:Addr}{a:jcK}{k:Nat->Heap->Prop}{J:It}{j:Value->Addr->Result->Shared->Prop}
  (S:iY X sc cl own N fr) (q:X.calm=true) (I:Inv X e U H s) (T:Turn X.prog X.w X.K h J a i k) (st:k 0 s.heap) (f:∀b∈a,qD X e H b)
  (n:∀C s H,PG (z5 X sc N cl C s H a) h g) (o:∀C s H,Qa (z5 X sc N cl C s H a) l tt) (p:∀C s H,PE (z5 X sc N cl C s H a) d te)
  {W:Nat->Nat->List V->Hp->Prop} {R:List V->Hp->Prop} (w0:∃m,W 0 m [] H) (walk:Jx J g tt te (Ay own fr U) W R)
  (fin:∀D C H' ys s' m,s'.heap.Ns C m->H' D=none->qD X e (upd H' D (.lst ys)) C->Inv X e U (upd H' D (.lst ys)) s'->R ys H'->j (.ref D) C (.ok .next) s') :
  wpAny (model X.prog X.w) X.A (newList []) (λacc s3=>wpAny (model X.prog X.w) X.A (newFunctionEnv sc X.env.globals cl [] X.env.qual none .none (some X.env)) (λcenv s4=>
   codeAny (model X.prog X.w) X.A (.compStart (.ListComp d [⟨h,c,l,0⟩] sc pos) 0 (.ref i) acc {cenv with scope:=relabel sc X.env }) (j acc cenv.locals) s4) X.xe s3) X.xe s:=yU S q I T st f (λ_ C=>(n C s H).zx) (λ_ C=>(o C s H).zx) (λ_ C _=>(p C s H).zx) w0 walk fin
def DF (own:Nat)(fr:jcO)(c:TI)(g:TG)(tt:TT)(te:TE):TE:=λU H Q=>c U H λJ d=>∃W:Nat->Nat->List V->Hp->Prop,(∃m,W 0 m [] d)/\
 Jx J g tt te (Ay own fr U) W λb a=>∀p,a p=none->Q (.ref p) (upd a p (.lst b))
theorem IJ (S:iY X sc cl own N fr)(y:X.calm=true)(z:PI X i a k)(p:∀C s H fp,PG (z5 X sc N cl C s H fp) i g)
  (K:∀C s H fp,Qa (z5 X sc N cl C s H fp) j tt) (L:∀C s H fp,PE (z5 X sc N cl C s H fp) c te) (hs:autoParam (∀x,foldedSetIterable a X.env x=pure x) jp) :
  PE X (.ListComp c [⟨i,a,j,0⟩] sc pos) (DF own fr k g tt te):=by
 intro n s U H Q I h;refine wpAny_comprehension_free rfl hs S.clos S.kind S.names (dF (z n s U H _ I h) λv s1 t=>dF t λV s2 u=>?_);obtain⟨it,fp,tn,J,H2,e,Y,T,f,Z,W,w0,walk⟩:=u;subst e;refine Bc S y Y T f Z (λC s H=>p C s H fp) (λC s H=>K C s H fp) (λC s H=>L C s H fp) w0 walk ?_;intro D C H' ys A m q r fC P w;obtain⟨G,l,E,R,B,F⟩:=fC;exact⟨m,q,λh' d=>⟨.ref D,_,Inv.turned (t':=A.toks) P (λb o O e=>d.extBut b o O e) G l R B F,M,w D r⟩⟩
theorem RY (hN:X.N.Nodup)(Y:X.N[i]?=some y)(M:Loc X.env.scope y)(S:iY X sc cl own N fr)(Z:X.calm=true)(hi:PI X j c B)
  (K:∀C s H fp,PG (z5 X sc N cl C s H fp) j g) (ht:∀C s H fp,Qa (z5 X sc N cl C s H fp) p tt) (he:∀C s H fp,PE (z5 X sc N cl C s H fp) f te)
  (n:autoParam (swapsWith (.ListComp f [⟨j,c,p,0⟩] sc pos) (some (.Name y u)) d.line X.env=pure true) zi) (hs:autoParam (∀x,foldedSetIterable c X.env x=pure x) jp)
  (hf:autoParam (X.fn y=true\/X.env.scope.names.lookup y=some .local) zt) :
  PS X (.Assign [.Name y u] (.ListComp f [⟨j,c,p,0⟩] sc pos) d) (Rh (DF own fr B g tt te) (Jh i)):=by
 intro F s U H D0 I h;rw[exec_Assign_Name_used _ _ _ _ n];refine jaa (wpAny_standAt (jaa ?_));refine jaa (dF (wpAny_comprehension_free rfl hs S.clos S.kind S.names
  (dF (hi F s U H _ I h) λv s1 Q=>dF Q λitv w R=>?_)) λ_ s' E=>jad (jad E))
 obtain⟨it,fp,tn,J,H2,e,r,T,l,f2,W,w0,walk⟩:=R;subst e;refine Bc S Z r T l f2 (λC s H=>K C s H fp) (λC s H=>ht C s H fp) (λC s H=>he C s H fp) w0 walk ?_;intro D C H' ys s' m L P fC I' V;obtain⟨f0,t,f2',f3,A,f5⟩:=fC;refine wpAny_assign_Name (sS I' hN Y M (v:=.ref D) rfl (?_) hf);rintro w r ⟨a,G,ha⟩;have O:C≠a:=by
  rcases ha with z | z
  .rw[z];exact t
  .exact λq=>A y a z q.symm
 exact⟨m,L.sameBut G O,λh' k=>⟨_,_,Inv.turned (t':=w.toks) r (λb o hb e=>k.extBut b o hb e) f0 t f3 A f5,V D P⟩⟩
end
def a5r (K:Frag)(d:TE):TI:=λU H R=>d U H λx b=>∃a,x=.ref a/\(((∃c,kL K b a c)/\R (Itl K a) b)\/((∃c,ki K b a c)/\R (Itt K a) b))
def Xf (r:PE X l k):PI X n l (a5r X.K k):=by
 intro i s U H R I h;refine dF (r i s U H _ I h) ?_;rintro v c ⟨x,g,d,u,m⟩;obtain⟨a,e,q⟩:=m;subst e;cases u;have j:∀b∈[c.heap.objs.size],qD X i g b:=λb t=>by
  have e:b=c.heap.objs.size:=by simpa using t
  subst e;exact d.YM (jam _) (d.hok.fresh (jam _))
 rcases q with⟨⟨w,f⟩,q⟩ | ⟨⟨w,f⟩,q⟩
 .obtain⟨AC,rv,p,hz⟩:=d.list f;exact wpAny_pyIter_list p.isList ⟨c.heap.objs.size,[c.heap.objs.size],_,_,g,M,d.kept (t':=c.toks) λb o e=>jap _ e,JK a _,⟨_,jaK _ M,M,M⟩,j,q⟩
 .obtain⟨AC,rv,p,hz⟩:=d.tuple f;exact wpAny_pyIter_tuple (show c.heap.IsTuple a AC.toArray from p) ⟨c.heap.objs.size,[c.heap.objs.size],_,_,g,M,d.kept (t':=c.toks) λb o e=>jap _ e,Gg a _,⟨_,jaK _ M,M,M⟩,j,q⟩
end L2
namespace L3
open PySem L2
set_option genInjectivity true in
inductive T where
 |v (x:V) | tup (l:List T) | lst (l:List T) | DV (l:List T) | ins (C:Addr) (ns:List Str) (l:List T)
inductive D where
 |t (x:T) | ob (n:Nat)
inductive O where
 |lst (l:List T) | wm (l:List (Key×T)) | Qw (ob:Obj) (kvs:List (Key×V)) (l:List (Key×T)) | gh (Y:List Addr) (G:Hp) | ins (C:Addr) (ns:List Str) (l:List D)
abbrev av:=List O
abbrev Sl:=List (Option D)
abbrev T.int (i:Int):T:=.v (.int i)
abbrev T.str (x:Str):T:=.v (.str x)
abbrev T.bl (b:Bool):T:=.v (.bl b)
abbrev T.cP:T:=.v .cP
abbrev D.int (i:Int):D:=.t (.v (.int i))
abbrev D.str (x:Str):D:=.t (.v (.str x))
abbrev D.bl (b:Bool):D:=.t (.v (.bl b))
abbrev D.cP:D:=.t (.v .cP)
abbrev D.tup (l:List T):D:=.t (.tup l)
abbrev D.lst (l:List T):D:=.t (.lst l)
noncomputable def D.iD:D->Option Int
 |.t (.v (.int i))=>some i
 |_=>none
noncomputable def D.sD:D->Option Str
 |.t (.v (.str i))=>some i
 |_=>none
noncomputable def D.tD:D->Option (List T)
 |.t (.tup i)=>some i
 |_=>none
def D.nL {d:D}(h:d.iD=some i):d=.int i:=by
 cases d with
 |ob n=>cases h
 |t x=>cases x with
  |v x=>cases x with
   |int j=>cases h;rfl
   |_=>cases h
  |_=>cases h
def D.uS {d:D}(h:d.sD=some i):d=.str i:=by
 cases d with
 |ob n=>cases h
 |t x=>cases x with
  |v x=>cases x with
   |str j=>cases h;rfl
   |_=>cases h
  |_=>cases h
def D.Mp {d:D}(h:d.tD=some i):d=.tup i:=by
 cases d with
 |ob n=>cases h
 |t x=>cases x with
  |tup j=>cases h;rfl
  |_=>cases h
def E9 (h:o.elim n f):n\/∃a,o=some a/\f a:=by
 cases o with
 |none=>exact .inl h
 |some a=>exact .inr ⟨a,M,h⟩
noncomputable def D.oD:D->Option Nat
 |.ob n=>some n
 |_=>none
noncomputable def D.xD:D->Option T
 |.t x=>some x
 |_=>none
noncomputable def D.vD (d:D):Option V:=d.xD.elim none λx=>match x with
 |.v y=>some y
 |_=>none
def D.Ob {d:D}(h:d.oD=some n):d=.ob n:=by
 cases d with
 |ob m=>cases h;rfl
 |t x=>cases h
def D.Ur {d:D}(h:d.xD=some x):d=.t x:=by
 cases d with
 |ob m=>cases h
 |t x=>cases h;rfl
def D.Mc {d:D}(h:d.vD=some x):d=.t (.v x):=by
 cases d with
 |ob n=>cases h
 |t x=>cases x with
  |v x=>cases h;rfl
  |_=>cases h
noncomputable def l1:List D->Option D
 |[d]=>some d
 |_=>none
def one (h:(l1 ds).elim False P):∃d,ds=[d]/\P d:=by
 cases ds with
 |nil=>exact h.elim
 |cons d r=>cases r with
  |nil=>exact⟨d,M,h⟩
  |cons e r=>exact h.elim
noncomputable def l2:List D->Option (D×D)
 |d::r=>(l1 r).map λe=>(d,e)
 |[]=>none
def a0f (h:(l2 ds).elim False P):∃d e,ds=[d,e]/\P (d,e):=by
 cases ds with
 |nil=>exact h.elim
 |cons d r=>cases r with
  |nil=>exact h.elim
  |cons e r=>cases r with
   |nil=>exact⟨d,e,M,h⟩
   |cons f r=>exact h.elim
def ii {a b:D}{P:Int->Int->Prop}(h:a.iD.elim False λi=>b.iD.elim False λj=>P i j):∃i j,a=.int i/\b=.int j/\P i j:=by
 rcases E9 h with h | ⟨i,c,h⟩
 .exact h.elim
 rcases E9 h with h | ⟨j,d,h⟩
 .exact h.elim
 exact⟨i,j,D.nL c,D.nL d,h⟩
def G7 (h:o.elim False f):∃a,o=some a/\f a:=(E9 h).elim False.elim id
def Le (G b:Hp):Prop:=∀a o,G a=some o->b a=some o
def Le.refl (G:Hp):Le G G:=λ_ _ h=>h
def Le.trans {A:Hp}(h:Le A B)(k:Le B C):Le A C:=λa o e=>k a o (h a o e)
theorem a0Q (h:Le G b):Rd G a u->Rd b a u
 |.inl e=>.inl (h _ _ e)
 |.inr ⟨o,e⟩=>.inr ⟨o,h _ _ e⟩
theorem Gq (h:Le G b):kL K G a xs->kL K b a xs
 |.inl e=>.inl (a0Q h e)
 |.inr e=>.inr e
structure zC (K:Frag)(C:Addr)(ns:List Str):Prop where
 cls:QH K C
 no:∀f∈ns,ko K C f
 ca:findIn K (.ref C) "__class__"=some (some (.builtin "object.__class__"))
 cg:specialIn K (.builtin "object.__class__") "__get__"=some (some (.builtin "getset_descriptor.__get__"))
 ct:takesIn K (.builtin "object.__class__")=some true
 cm:mroIn K C (.type "object")=some true
mutual
def Rp (K:Frag)(G:Hp):T->V->Prop
 |.v x,w=>w=x
 |.tup l,w=>∃a b,w=.ref a/\G a=some (.tup b)/\bU K G l b
 |.lst l,w=>∃a b,w=.ref a/\G a=some (.lst b)/\bU K G l b
 |.DV l,w=>∃a b,w=.ref a/\kL K G a b/\bU K G l b
 |.ins C c l,w=>∃a d b,w=.ref a/\G a=some (.ins C d (c.zip b))/\c.length=b.length/\zC K C c/\bU K G l b
def bU (K:Frag)(G:Hp):List T->List V->Prop
 |[],a=>a=[]
 |x::r,a=>∃v b,a=v::b/\Rp K G x v/\bU K G r b
end
mutual
theorem Rp.le {K:Frag}{G g:Hp}(h:Le G g):∀{x:T}{w:V},Rp K G x w->Rp K g x w
 |.v x,w,e=>by unfold Rp at *;exact e
 |.tup l,w,e=>by
  unfold Rp at *;obtain⟨a,c,f,b,d⟩:=e;exact⟨a,c,f,h _ _ b,bU.le h d⟩
 |.lst l,w,e=>by
  unfold Rp at *;obtain⟨a,c,f,b,d⟩:=e;exact⟨a,c,f,h _ _ b,bU.le h d⟩
 |.DV l,w,e=>by
  unfold Rp at *;obtain⟨a,c,f,b,d⟩:=e;exact⟨a,c,f,Gq h b,bU.le h d⟩
 |.ins C m l,w,e=>by
  unfold Rp at *;obtain⟨a,i,c,f,b,d,k,j⟩:=e;exact⟨a,i,c,f,h _ _ b,d,k,bU.le h j⟩
theorem bU.le {K:Frag}{G a:Hp}(h:Le G a):∀{l:List T}{vs:List V},bU K G l vs->bU K a l vs
 |[],vs,e=>by unfold bU at *;exact e
 |x::r,vs,e=>by
  unfold bU at *;obtain⟨v,b,f,c,d⟩:=e;exact⟨v,b,f,Rp.le h c,bU.le h d⟩
end
def bU.nil:bU K G [] []:=by rfl
def bU.cons {x:T}{v:V}{l:List T}{vs:List V}(h:Rp K G x v)(r:bU K G l vs):bU K G (x::l) (v::vs):=by
 unfold bU;exact⟨v,vs,M,h,r⟩
theorem bU.len:∀{l:List T}{vs:List V},bU K G l vs->l.length=vs.length
 |[],vs,e=>by rw[e];rfl
 |x::r,vs,e=>by
  obtain⟨v,c,b,_,a⟩:=e;rw[b,jak,jak,a.len]
theorem bU.app:∀{l m:List T}{vs ws:List V},bU K G l vs->bU K G m ws->bU K G (l++m) (vs++ws)
 |[],m,vs,ws,e,k=>by rw[e];exact k
 |x::r,m,vs,ws,e,k=>by
  obtain⟨v,d,c,a,b⟩:=e;rw[c];exact .cons a (b.app k)
theorem bU.get:∀{l:List T}{vs:List V}{i:Nat}{x:T},bU K G l vs->l[i]?=some x->∃v,vs[i]?=some v/\Rp K G x v
 |[],vs,i,x,e,k=>by simp at k
 |y::r,vs,0,x,e,k=>by
  obtain⟨v,g,a,b,c⟩:=e;simp at k;subst k;exact⟨v,by rw[a];rfl,b⟩
 |y::r,vs,i+1,x,e,k=>by
  obtain⟨v,g,a,b,c⟩:=e;obtain⟨u,f,d⟩:=c.get (by simpa using k);exact⟨u,by rw[a];simpa using f,d⟩
theorem bU.tk:∀{l:List T}{vs:List V}(n:Nat),bU K G l vs->bU K G (l.take n) (vs.take n)
 |_,_,0,_=>by simp;exact .nil
 |[],vs,n+1,e=>by rw[e];simp;exact .nil
 |y::r,vs,n+1,e=>by
  obtain⟨v,d,c,a,b⟩:=e;rw[c,List.take_succ_cons];exact .cons a (b.tk n)
theorem bU.dp:∀{l:List T}{vs:List V}(n:Nat),bU K G l vs->bU K G (l.drop n) (vs.drop n)
 |_,_,0,e=>by simpa using e
 |[],vs,n+1,e=>by rw[e];simp;exact .nil
 |y::r,vs,n+1,e=>by
  obtain⟨v,c,b,d,a⟩:=e;rw[b,List.drop_succ_cons];exact a.dp n
theorem bU.tM:∀{ns:jcI}{vs:List V}{f:Str},f∉ns->(ns.zip vs).lookup f=none
 |[],vs,f,_=>by simp
 |n::ns,[],f,_=>by simp
 |n::ns,v::vs,f,h=>by
  rw[jcm,List.lookup_cons];have q:(f==n)=false:=by
   cases q:(f==n) with
   |false=>rfl
   |true=>exact absurd (jah.mpr (.inl (eq_of_beq q))) h
  rw[q];exact bU.tM λz=>h (jav _ z)
theorem oz:∀{l:jcK}{i j:Nat}{a:Addr},l.Nodup->l[i]?=some a->l[j]?=some a->i=j
 |[],_,_,_,_,h,_=>by simp at h
 |x::r,0,0,_,_,_,_=>rfl
 |x::r,0,j+1,a,nd,h,k=>by
  simp at h k;subst h;exact absurd (jbB k) (jbv.mp nd).1
 |x::r,i+1,0,a,nd,h,k=>by
  simp at h k;subst k;exact absurd (jbB h) (jbv.mp nd).1
 |x::r,i+1,j+1,a,nd,h,k=>jao (·+1) (oz (jbv.mp nd).2 (by simpa using h) (by simpa using k))
noncomputable def res (Y:jcK)(H:Hp):Hp:=λa=>if a∈Y then none else H a
def jI (K:Frag)(Y:jcK)(G:Hp):D->V->Prop
 |.t x,w=>Rp K G x w
 |.ob n,w=>∃a,Y[n]?=some a/\w=.ref a
noncomputable def eY (K:Frag)(Y:jcK)(G:Hp):List D->List V->Prop:=Paired (jI K Y G)
def HA (K:Frag)(Y:jcK)(G:Hp)(h:Option HO):O->Prop
 |.lst l=>∃c,h=some (.lst c)/\bU K G l c
 |.wm l=>∃b,h=some (.dK b)/\Paired (λp q=>p.1=q.1/\Rp K G p.2 q.2) l b
 |.Qw ob b l=>h=some (.FZ ob (.dK b))/\Paired (λp q=>p.1=q.1/\Rp K G p.2 q.2) l b
 |.ins C d l=>∃e c,h=some (.ins C e (d.zip c))/\d.length=c.length/\zC K C d/\eY K Y G l c
 |.gh ρ0 f=>(∃u,h=some u)/\(∀(n:Nat)(a:Addr),ρ0[n]?=some a->Y[n]?=some a)/\Le f G
structure R3 (K:Frag)(Y:List Addr)(S:av)(H:Hp):Prop where
 len:Y.length=S.length
 nd:Y.Nodup
 ok:∀(n:Nat)(a:Addr)(o:O),Y[n]?=some a->S[n]?=some o->HA K Y (res Y H) (H a) o
structure Gr (Y:List Addr)(H:Hp)(Y':List Addr)(H':Hp):Prop where
 ext:∃e,Y'=Y++e
 le:Le (res Y H) (res Y' H')
def Gr.refl {Y:jcK}{H:Hp}:Gr Y H Y H:=⟨⟨[],by simp⟩,Le.refl _⟩
def Gr.trans (a:Gr Y H g h)(b:Gr g h c d):Gr Y H c d:=by
 obtain⟨e,rfl⟩:=a.ext;obtain⟨f,rfl⟩:=b.ext;exact⟨⟨e++f,by simp⟩,a.le.trans b.le⟩
theorem Gr.at {Y b:jcK}{H d:Hp}(a:Gr Y H b d){n:Nat}{x:Addr}(h:Y[n]?=some x):b[n]?=some x:=by
 obtain⟨e,rfl⟩:=a.ext;have c:=(jar.mp h).1;rw[jaU c];exact h
theorem jI.le' (b:∀(n:Nat)(a:Addr),Y[n]?=some a->Y'[n]?=some a)(h:Le G G'):∀{d:D}{w:V},jI K Y G d w->jI K Y' G' d w
 |.t x,w,e=>Rp.le h e
 |.ob n,w,⟨a,f,c⟩=>⟨a,b n a f,c⟩
def jI.gr (g:Gr Y H Y' H'){w:V}(e:jI K Y (res Y H) d w):jI K Y' (res Y' H') d w:=jI.le' (λ_ _=>g.at) g.le e
theorem gy {α β:Type}{F c:α->β->Prop}(h:∀a b,F a b->c a b):∀{l:List α}{m:List β},Paired F l m->Paired c l m
 |_,_,.nil=>.nil
 |_,_,.cons r t=>.cons (h _ _ r) (gy h t)
def eY.gr (g:Gr Y H Y' H'){w:List V}(e:eY K Y (res Y H) l w):eY K Y' (res Y' H') l w:=gy (λ_ _=>jI.gr g) e
theorem eY.t:∀{l:List T}{vs:List V},eY K Y G (l.map .t) vs->bU K G l vs
 |[],_,.nil=>.nil
 |_::_,_,.cons r t=>.cons r (eY.t t)
theorem eY.of:∀{l:List T}{vs:List V},bU K G l vs->eY K Y G (l.map .t) vs
 |[],vs,e=>by subst e;exact .nil
 |x::r,vs,e=>by
  obtain⟨v,d,c,a,b⟩:=e;subst c;exact .cons a (eY.of b)
theorem HA.le' (f:∀(n:Nat)(a:Addr),Y[n]?=some a->Y'[n]?=some a)(h:Le G G'):∀{o:O},HA K Y G x o->HA K Y' G' x o
 |.lst l,⟨d,c,b⟩=>⟨d,c,b.le h⟩
 |.wm l,⟨d,c,b⟩=>⟨d,c,gy (λ_ _ z=>⟨z.1,z.2.le h⟩) b⟩
 |.Qw ob d l,⟨c,b⟩=>⟨c,gy (λ_ _ z=>⟨z.1,z.2.le h⟩) b⟩
 |.gh ρ0 k,⟨c,b,e⟩=>⟨c,λn a z=>f n a (b n a z),e.trans h⟩
 |.ins C j l,⟨g,d,c,b,e,i⟩=>⟨g,d,c,b,e,gy (λ_ _=>jI.le' f h) i⟩
theorem HA.some:∀{o:O},HA K Y G x o->∃u,x=some u
 |.lst l,⟨c,a,b⟩=>⟨_,a⟩
 |.wm l,⟨c,a,b⟩=>⟨_,a⟩
 |.Qw ob c l,⟨a,b⟩=>⟨_,a⟩
 |.gh _ _,⟨a,_⟩=>a
 |.ins C g l,⟨d,c,a,b,e,f⟩=>⟨_,a⟩
def res_some (h:res Y H a=some o):a∉Y/\H a=some o:=by
 unfold res at h;split at h
 .cases h
 .exact⟨by assumption,h⟩
def nv (n:a∉Y)(h:H a=some o):res Y H a=some o:=by unfold res;rw[jae n];exact h
def a3m:res [] H=H:=rfl
def R3.tracked (r:R3 K Y S H)(h:a∈Y):∃u,H a=some u:=by
 obtain⟨n,b⟩:=jcg.mp h;have c:n<S.length:=by rw[<- r.len];exact(jar.mp b).1
 exact(r.ok n a S[n] b (jaT c)).some
theorem R3.fresh (r:R3 K Y S H)(h:H p=none):p∉Y:=λz=>by
 obtain⟨u,e⟩:=r.tracked z;rw[h] at e;cases e
def R3.new (r:R3 K Y S H)(h:H p=none):R3 K Y S (upd H p o)/\Gr Y H Y (upd H p o)/\res Y (upd H p o) p=some o:=by
 have d:=r.fresh h;have le:Le (res Y H) (res Y (upd H p o)):=λa u e=>by
  obtain⟨c,b⟩:=res_some e;refine nv c ?_;rw[aY (bL b h)];exact b
 refine⟨⟨r.len,r.nd,λn a u c b=>?_⟩,⟨⟨[],by simp⟩,le⟩,nv d dM⟩;have q:=r.ok n a u c b;obtain⟨x,ex⟩:=q.some;rw[aY (bL ex h)];exact q.le' (λ_ _ z=>z) le
def R3.push (r:R3 K Y S H)(h:H p=none)(j:HA K (Y++[p]) (res Y H) (some o) u):R3 K (Y++[p]) (S++[u]) (upd H p o)/\Gr Y H (Y++[p]) (upd H p o):=by
 have f:=r.fresh h;have le:Le (res Y H) (res (Y++[p]) (upd H p o)):=λa u e=>by
  obtain⟨d,c⟩:=res_some e;have ne:=bL c h;refine nv (λz=>?_) ?_
  .rcases jan.mp z with z | z
   .exact d z
   .exact ne (jag.mp z)
  .rw[aY ne];exact c
 have i:∀(n:Nat)(a:Addr),Y[n]?=some a->(Y++[p])[n]?=some a:=λn a e=>by
  rw[jaU (jar.mp e).1];exact e
 refine⟨⟨by simp[r.len],?_,λn a x d c=>?_⟩,⟨⟨[p],M⟩,le⟩⟩
 .rw[jb0];refine⟨r.nd,by simp,λa l b k=>?_⟩;rw[jag.mp k];exact λz=>f (z ▸ l)
 .by_cases hn:n<Y.length
  .rw[jaU hn] at d;rw[jaU (by rw[<- r.len];exact hn)] at c;have q:=r.ok n a x d c;obtain⟨y,g⟩:=q.some;rw[aY (bL g h)];exact q.le' i le
  .have hn':n=Y.length:=by
    have:=(jar.mp d).1;rw[jab,ja0] at this;lia
   subst hn';rw[jbf (jam _),Nat.sub_self] at d;rw[jbf (by rw[r.len];exact jam _),r.len,Nat.sub_self] at c;cases d;cases c;rw[dM];exact j.le' (λ_ _ z=>z) le
def R3.put (r:R3 K Y S H)(g:Y[n]?=some a)(h:HA K Y (res Y H) (some o) u):R3 K Y (S.set n u) (upd H a o)/\Gr Y H Y (upd H a o):=by
 have j:=jbB g;have le:Le (res Y H) (res Y (upd H a o)):=λb u e=>by
  obtain⟨c,f⟩:=res_some e;refine nv c ?_;rw[aY (λz=>c (by rw[z];exact j))];exact f
 refine⟨⟨by rw[jaF];exact r.len,r.nd,λm b x c f=>?_⟩,⟨⟨[],by simp⟩,le⟩⟩;by_cases d:n=m
 .subst d;rw[g] at c;cases c;have i:n<S.length:=by rw[<- r.len];exact(jar.mp g).1
  rw[jaG i] at f;cases f;rw[dM];exact h.le' (λ_ _ z=>z) le
 .rw[jbl d] at f;have k:b≠a:=λz=>by
   subst z;exact d (oz r.nd g c)
  rw[aY k];exact(r.ok m b x c f).le' (λ_ _ z=>z) le
abbrev KD:=D->av->Prop
abbrev KS:=Sl->av->Prop
abbrev cI:=Sl->av->KD->Prop
abbrev vg:=Sl->av->(Bool->av->Prop)->Prop
abbrev mH:=Sl->av->(List D->av->Prop)->Prop
structure p9 where
 nx:KS
 rt:KD
 bk:KS:=λ_ _=>False
 ct:KS:=λ_ _=>False
abbrev mL:=p9->Sl->av->Prop
section
variable (K:Frag)(Y:jcK)(H:Hp)
inductive up (k:KD) (v:V) (H':Hp):Prop
 |mk (Y' S' d):Gr Y H Y' H'->R3 K Y' S' H'->jI K Y' (res Y' H') d v->k d S'->up k v H'
inductive upT {α:Type} (k:α->av->Prop) (b:α) (H':Hp):Prop
 |mk (Y' S'):Gr Y H Y' H'->R3 K Y' S' H'->k b S'->upT k b H'
inductive upA (k:List D->av->Prop) (v:List V) (H':Hp):Prop
 |mk (Y' S' d):Gr Y H Y' H'->R3 K Y' S' H'->eY K Y' (res Y' H') d v->k d S'->upA k v H'
def ua (G:Hp)(Z:Sl)(U:St):Prop:=Z.length=U.length/\∀(i:Nat) d,Z[i]?=some (some d)->∃v,U[i]?=some (some v)/\jI K Y G d v
inductive Ln (k:KS) (U:St) (H':Hp):Prop
 |mk (Y' S' Z):Gr Y H Y' H'->R3 K Y' S' H'->ua K Y' (res Y' H') Z U->k Z S'->Ln k U H'
structure De (E:p9)(D:Ends):Prop where
 nx:∀U H',Ln K Y H E.nx U H'->D.nx U H'
 rt:∀v H',up K Y H E.rt v H'->D.rt v H'
 bk:∀U H',Ln K Y H E.bk U H'->D.bk U H'
 ct:∀U H',Ln K Y H E.ct U H'->D.ct U H'
end
section
variable (K:Frag)
inductive li (t:cI) (U:St) (H:Hp) (Q:VK):Prop
 |mk (Y S Z k):R3 K Y S H->ua K Y (res Y H) Z U->t Z S k->(∀v H',up K Y H k v H'->Q v H')->li t U H Q
inductive KA {α:Type} (t:Sl->av->(α->av->Prop)->Prop) (U:St) (H:Hp) (Q:α->Hp->Prop):Prop
 |mk (Y S Z k):R3 K Y S H->ua K Y (res Y H) Z U->t Z S k->(∀v H',upT K Y H k v H'->Q v H')->KA t U H Q
inductive liA (t:mH) (U:St) (H:Hp) (Q:List V->Hp->Prop):Prop
 |mk (Y S Z k):R3 K Y S H->ua K Y (res Y H) Z U->t Z S k->(∀v H',upA K Y H k v H'->Q v H')->liA t U H Q
inductive liS (t:mL) (D:Ends) (U:St) (H:Hp):Prop
 |mk (Y S Z E):R3 K Y S H->ua K Y (res Y H) Z U->t E Z S->De K Y H E D->liS t D U H
end
theorem ua.gr (g:Gr Y H Y' H')(r:ua K Y (res Y H) Z U):ua K Y' (res Y' H') Z U:=
 ⟨r.1,λi d e=>let⟨v,e1,e2⟩:=r.2 i d e;⟨v,e1,e2.gr g⟩⟩
def ua.set (r:ua K Y G Z U)(h:jI K Y G d v)(i:Nat):ua K Y G (Z.set i (some d)) (U.set i (some v)):=by
 refine⟨by simp[r.1],λj e q=>?_⟩;by_cases a:i=j
 .subst a;have b:i<Z.length:=by
   have:=(jar.mp q).1;simpa using this
  rw[jaG b] at q;cases q;exact⟨v,by rw[jaG (by rw[<- r.1];exact b)],h⟩
 .rw[jbl a] at q;rw[jbl a];exact r.2 j e q
def up.gr (g:Gr Y H Y' H'):up K Y' H' k v a->up K Y H k v a:=λ⟨r,s,d,b,x,y,z⟩=>⟨r,s,d,g.trans b,x,y,z⟩
def upT.gr (g:Gr Y H Y' H'):upT K Y' H' k v a->upT K Y H k v a:=λ⟨r,s,b,x,y⟩=>⟨r,s,g.trans b,x,y⟩
def Ln.gr (g:Gr Y H Y' H'):Ln K Y' H' k v a->Ln K Y H k v a:=λ⟨r,s,d,b,x,y,z⟩=>⟨r,s,d,g.trans b,x,y,z⟩
theorem De.gr (g:Gr Y H Y' H'){D:Ends}(u:De K Y H E D):De K Y' H' E D:=
 ⟨λU a h=>u.nx U a (h.gr g),λU a h=>u.rt U a (h.gr g),λU a h=>u.bk U a (h.gr g),λU a h=>u.ct U a (h.gr g)⟩
def QE (X:Cx)(e:Expr)(t:cI):Prop:=PE X e (li X.K t)
def QT (X:Cx)(e:Expr)(t:vg):Prop:=PT X e (KA X.K t)
def QW (X:Cx)(e:Expr)(t:vg):Prop:=PW X e (KA X.K t)
def QA (X:Cx)(e:jcL)(t:mH):Prop:=PA X e (liA X.K t)
def QS (X:Cx)(e:Stmt)(t:mL):Prop:=PS X e (liS X.K t)
def JF (X:Cx)(e:List Stmt)(t:mL):Prop:=Bp X e (liS X.K t)
def cy (h:PE X e t)(m:∀U H Q,t' U H Q->t U H Q):PE X e t':=λa s U H Q I q=>h a s U H Q I (m _ _ _ q)
def Nu (h:PT X e t)(m:∀U H Q,t' U H Q->t U H Q):PT X e t':=λa s U H Q I q=>h a s U H Q I (m _ _ _ q)
def U1 (h:PW X e t)(m:∀U H Q,t' U H Q->t U H Q):PW X e t':=λw a s U H Q I q=>h w a s U H Q I (m _ _ _ q)
def U7 (h:PA X a t)(m:∀U H Q,t' U H Q->t U H Q):PA X a t':=λp b s U H Q I q=>h p b s U H Q I (m _ _ _ q)
def kC (h:PS X st t)(m:∀D U H,t' D U H->t D U H):PS X st t':=λa s U H D I q=>h a s U H D I (m _ _ _ q)
def Gz (h:Bp X st t)(m:∀D U H,t' D U H->t D U H):Bp X st t':=λa s U H D I q=>h a s U H D I (m _ _ _ q)
theorem bU.put (h:Rp K G x v):∀{l:List T}{vs:List V}{j:Nat},bU K G l vs->bU K G (l.set j x) (vs.set j v)
 |[],vs,j,e=>by subst e;exact .nil
 |y::r,vs,0,e=>by
  obtain⟨w,d,b,c,a⟩:=e;subst b;exact .cons h a
 |y::r,vs,j+1,e=>by
  obtain⟨w,d,b,c,a⟩:=e;subst b;exact .cons c (bU.put h a)
end L3
namespace Hw
open PySem PySem.Spec
noncomputable def lt (a b:Str):Bool:=ltCps a.cps.toList b.cps.toList
theorem VO:∀a:jcO,ltCps a a=false
 |[]=>rfl
 |x::r=>by simp[ltCps,VO r]
theorem Ju:∀a b c:jcO,ltCps a b=true->ltCps b c=true->ltCps a c=true
 |[],[],_,h,_=>by simp[ltCps] at h
 |[],_::_,[],_,h=>by simp[ltCps] at h
 |[],_::_,_::_,_,_=>rfl
 |_::_,[],_,h,_=>by simp[ltCps] at h
 |_::_,_::_,[],_,h=>by simp[ltCps] at h
 |x::a,y::b,z::c,h,g=>by
  simp only[ltCps,Bool.or_eq_true,ja3,decide_eq_true_eq,ja8] at h g ⊢;rcases h with h | ⟨h,d⟩<;>rcases g with g | ⟨g,e⟩
  .left;lia
  .left;lia
  .left;lia
  .right;exact⟨by lia,Ju a b c d e⟩
theorem VM:∀a b:jcO,ltCps a b=true\/a=b\/ltCps b a=true
 |[],[]=>.inr (.inl M)
 |[],_::_=>.inl rfl
 |_::_,[]=>.inr (.inr M)
 |x::a,y::b=>by
  simp only[ltCps,Bool.or_eq_true,ja3,decide_eq_true_eq,ja8,List.cons.injEq];rcases Nat.lt_trichotomy x y with h | h | h
  .exact .inl (.inl h)
  .rcases VM a b with g | g | g
   .exact .inl (.inr ⟨h,g⟩)
   .exact .inr (.inl ⟨h,g⟩)
   .exact .inr (.inr (.inr ⟨h.symm,g⟩))
  .exact .inr (.inr (.inl h))
def tP (a:Str):lt a a=false:=VO _
def lt_trans:lt a b=true->lt b c=true->lt a c=true:=Ju _ _ _
def CA (a b:Str):lt a b=true\/a=b\/lt b a=true:=by
 rcases VM a.cps.toList b.cps.toList with h | h | h
 .exact .inl h
 .refine .inr (.inl ?_);obtain⟨⟨x⟩⟩:=a;obtain⟨⟨y⟩⟩:=b;have h:x=y:=h;rw[h]
 .exact .inr (.inr h)
def Vd (h:lt a b=true):a≠b:=λe=>by rw[e,tP] at h;cases h
def not_lt_trans (h:lt b a=false)(g:lt c b=false):lt c a=false:=by
 rcases CA c a with e | e | e
 .rcases CA b a with k | k | k
  .rw[h] at k;cases k
  .rw[k] at g;rw[g] at e;cases e
  .rw[lt_trans e k] at g;cases g
 .rw[e];exact tP a
 .cases q:lt c a with
  |false=>rfl
  |true=>have:=lt_trans e q;rw[tP] at this;cases this
end Hw
namespace L2
open PySem PySem.Spec PyProof.Rows
def Ed:∀(ns:List Int),PySem.preSum (λi=>ns.getD i 0) ns.length=ns.sum:=by
 intro ns
 induction ns with
 |nil=>rfl
 |cons n r a=>
  rw[jak,PySem.W.kdu_shift,List.sum_cons,<- a];rfl
def PM (z:X.calm=true):eB X (.builtin "sum") (λxs H Q=>∃(p:Addr)(ns:List Int),xs=[.ref p]/\kL X.K H p (ns.map V.int)/\Q (.int ns.sum) H):=by
 intro D s U H xs us Q I r h;obtain⟨p,ns,rfl,t,q⟩:=h;obtain⟨u,rfl,f⟩:=vals1 r;cases f;obtain⟨d,j,k,E⟩:=I.list t;have n:=let⟨o,_,e,_⟩:=k;jal e;refine call_sum_walkAnyS (wpAny_pyIter_list k.isList ?_);have W:=Walks.list (prog:=X.prog) (w:=X.w) (A:=X.A.in1) (I.ok.hd z) s.heap.objs.size p (jax n) d.toArray;refine⟨s.heap.objs.size,_,_,_,_,_,_,(λi=>ns.getD i 0),M,W.toS,⟨⟨_,jaK _ M,M,M⟩,k.isList.at λo e=>jap _ e⟩,λb g=>?_,λi v a=>?_,λC t' m=>?_⟩
 .show b<(s.heap.push _).objs.size;rw[jbh];rcases jah.mp g with e | g
  .rw[e];exact jb3 _
  .rw[jag.mp g];exact jbP n
 .have a:=a;have a:d[i]?=some v:=by simpa using a
  have c:=j.length;have B:=(jar.mp a).1;rw[jac] at c;obtain⟨u,l,f⟩:=j.get (x:=.int (ns.getD i 0)) (by rw[jaV,List.getD_eq_getElem?_getD,jaT (by lia)];rfl);rw[a] at l;cases l;exact f
 .have kp:=λb o e=>
   m.heap b o (λy=>absurd (jal e) (by rw[jag.mp y];exact ja4 _)) (jap _ e)
  rw[Moved.eq_with m];have c:=j.length;rw[jac] at c;have e:PySem.preSum (λi=>ns.getD i 0) d.toArray.size=ns.sum:=by rw[jaz,<- c];exact Ed ns
  rw[e];exact⟨.int ns.sum,H,I.kept (t':=C.toks) kp,⟨_,M⟩,q⟩
theorem uT:∀(p:Str)(l:jcI),risingS p l=true->(p::l).Pairwise λa b=>Hw.lt b a=false
 |p,[],_=>by simp
 |p,x::r,h=>by
  have h:(!ltCps x.cps.toList p.cps.toList&&risingS x r)=true:=h;rw[ja3,Bool.not_eq_true'] at h;have d:=uT x r h.2;refine jbx.mpr ⟨λy c=>?_,d⟩;rcases jah.mp c with rfl | c
  .exact h.1
  .exact Hw.not_lt_trans h.1 ((jbx.mp d).1 y c)
theorem qT:∀(l:jcI),sortedS l=true->l.Pairwise λa b=>Hw.lt b a=false
 |[],_=>.nil
 |x::r,h=>uT x r h
theorem qd:∀{ss:jcI}{us:jcJ},StrsAre us ss->Vals (ss.map V.str) us
 |_,_,.nil=>.nil
 |_,_,.cons x t h=>.cons ⟨t,M⟩ (qd h)
def jO:∀{ss:jcI}{us:jcJ},Vals (ss.map V.str) us->StrsAre us ss:=by
 intro ss
 induction ss with
 |nil=>intro us r;rw[jaX] at r;cases r;exact .nil
 |cons x ss c=>
  intro us r;cases r with
  |cons a b=>
   obtain⟨t,e⟩:=a;subst e;exact .cons x t (c b)
theorem uq:∀{xs:List V}{us:jcJ},xs.length=us.length->(∀(i:Nat) x,xs[i]?=some x->∃u,us[i]?=some u/\RelV x u)->Vals xs us
 |[],[],_,_=>.nil
 |[],_::_,h,_=>by simp at h
 |_::_,[],h,_=>by simp at h
 |x::xs,u::us,h,g=>by
  obtain⟨v,e,r⟩:=g 0 x rfl;cases e;exact .cons r (uq (by simpa using h) λi y a=>g (i+1) y a)
def cz.here (x:cz P w H h a o):∃u,h.get? a=some u:=by
 cases o with
 |lst c=>obtain⟨_,_,_,_,e⟩:=x;exact⟨_,e⟩
 |tup c=>obtain⟨_,_,_,o,e,_⟩:=x;exact⟨_,e⟩
 |dK b=>obtain⟨_,_,_,_,o,_,_,e,_⟩:=x;exact⟨_,e⟩
 |dT b=>obtain⟨_,_,_,_,o,_,_,e,_⟩:=x;exact⟨_,e⟩
 |set S n=>obtain⟨o,_,_,_,e,_⟩:=x;exact⟨_,e⟩
 |ins C d fs=>obtain⟨_,_,_,e,_⟩:=x;exact⟨_,e⟩
 |own y=>obtain⟨_,e⟩:=x;exact⟨_,e⟩
 |xd fs=>obtain⟨_,⟨_,_,_,e,_⟩,_⟩:=x;exact⟨_,e⟩
 |rng i j=>obtain⟨_,_,_,e⟩:=x;exact⟨_,e⟩
 |FZ ob u=>obtain⟨e,_⟩:=x;exact⟨_,e⟩
 |Ut g=>exact⟨_,(show h.get? a=some _ from x)⟩
 |met f y=>exact⟨_,(show h.get? a=some _ from x)⟩
 |ext φ=>obtain⟨_,⟨_,e⟩,_⟩:=x;exact⟨_,e⟩
theorem Inv.ET (I:Inv X h U H s)(k:∀b u,s.heap.get? b=some u->h'.get? b=some u)(f:∀b u,s.heap.get? b=some u->b≠a)(new:cz X.prog X.w (upd H a o) h' a o) :
  H a=none/\Inv X h U (upd H a o) {s with heap:=h',toks:=t' }:=by
 have d:H a=none:=by
  cases q:H a with
  |none=>rfl
  |some u=>obtain⟨v,e⟩:=(I.hok a u q).here;exact absurd rfl (f a v e)
 refine⟨d,I.un ⟨λb u e _ _ _=>k b u e,λb u e _ _ _=>⟨u.slots,k b u e⟩,λb u e n _=>by rw[aY (f b u e)];exact n,λb u e _=>⟨u,k b u e⟩,λb i e=>by rw[aY (bL e d)];exact e,λb u i e=>by rw[aY (bL e d)];exact e,λb j e=>⟨#[],by rw[aY (bL e d),e];simp⟩⟩ λb u e=>?_⟩;by_cases g:b=a
 .subst g;rw[dM] at e;cases e;exact new
 .rw[aY g] at e;exact(I.hok b u e).stay (λc v _ q=>k c v q) (λc q=>by rw[aY (bL q d)];exact q) λc i q=>by rw[aY (bL q d)];exact q
theorem C0 (hc:X.calm=true):eB X (.builtin "sorted") (λxs H Q=>∃p kvs ss,xs=[.ref p]/\H p=some (.dK kvs)/\kvs.map (·.1)=List.map (Sum.inr:Str->Key) ss/\kvs.length<64/\
  ∀l ys,H l=none->List.Perm ys ss->ys.Pairwise (λa b=>Hw.lt b a=false)->Q (.ref l) (upd H l (.lst (ys.map V.str)))):=by
 intro vy s U H xs us Q I r h;obtain⟨p,kvs,ss,rfl,hp,hk,G,q⟩:=h;obtain⟨u,rfl,ru⟩:=vals1 r;cases ru;obtain⟨R,S,vs,n,T⟩:=Ba I.hok (.inl hp);obtain⟨ep,E⟩:=T.dictAt;have g:=n.length;refine Calls.call_function_entry kind_sorted plain_sorted entry_sorted (args_sorted1 _) ?_;refine jaa (jad (jaa (PySem.W.kdu_collect (PySem.W.kdl_dict S) (I.ok.hd hc) E (by rw[<- g];exact R) λh' tk c C d=>?_)));have w:StrsAre c.toList ss:=by
  refine jO (uq ?_ λi x j=>?_)
  .have:(kvs.map (·.1)).length=(List.map (Sum.inr:Str->Key) ss).length:=by rw[hk]
   rw[jac,jac] at this;have el:c.toList.length=kvs.length:=by rw[jaH,d.1,<- g]
   rw[jac,el,this]
  .rw[jaV] at j;cases e:ss[i]? with
   |none=>rw[e] at j;cases j
   |some y=>
    rw[e] at j;cases j;have hi:i<c.size:=by
     have K:=(jar.mp e).1;have:(kvs.map (·.1)).length=(List.map (Sum.inr:Str->Key) ss).length:=by rw[hk]
     rw[jac,jac] at this;rw[d.1];lia
    obtain⟨k,x,hv,B⟩:=d.2 i c[i] (by simp);have A:(vs.map (·.1))[i]?=some (Sum.inr y):=by rw[<- n.keys,hk,jaV,e];rfl
    rw[jaV,hv] at A;have A:=jbc A;subst A;rcases cL (show yz (Sum.inr y) c[i]=true from B) with⟨_,_,z,_⟩ | ⟨z,t,Y,z2⟩
    .cases z
    .cases Y;exact⟨c[i],by simp,t,z2⟩
 have v:c.toList.length<64:=by rw[jaH,d.1,<- g];exact G
 refine jaa (wpAny_newList ?_ (by
   have:64<=sizeLine:=by rw[jbe];decide
   lia))
 have F:(h'.push (seqObj "list" c.toList.toArray 0)).get? h'.objs.size=some (seqObj "list" c.toList.toArray 0):=jaK _ rfl;refine jaa (jbi (jby slot_list_sort ⟨_,F,M⟩ entry_list_sort (list_sort_treeK strKind_oneLt F w.keysOf (λv1 v2 J e=>keyKind_strs (by rw[<- e];exact w)) v λm Z O=>⟨_,M,?_⟩) (args_list_sort _)));obtain⟨f,b1,N,b3⟩:=sorted_out_str w Z O;obtain⟨e,he⟩:=sortedHeap_at F;have D:(f.map V.str).length<=sizeLine:=by
  have K:64<=sizeLine:=by rw[jbe];decide
  have P:(f.map V.str).length=c.toList.length:=by rw[jac,N.length_eq,<- StrsAre.length w]
  rw[P];exact jai (jbj v) K
 have L:=I.ET (h':=sortedHeap (h'.push (seqObj "list" c.toList.toArray 0)) h'.objs.size c.toList ((arrOf m).map (·.2))) (o:=.lst (f.map V.str)) (t':=tk)
  (λb u q=>by
   have l:=jal (C b u q);rw[sortedHeap_old (jax l) (by rw[jbh];exact jbP l)];exact jap _ (C b u q))
  (λb u q=>jax (jal (C b u q)))
  ⟨D,((arrOf m).map (·.2)).toList,e,qd b1,by rw[Array.toArray_toList];exact he⟩
 exact jad ⟨_,M,.ref h'.objs.size,_,L.2,M,q _ f L.1 N (qT _ b3)⟩
def HE (K:Frag)(H:Hp):Nat->V->V->Prop
 |0,x,y=>gM x=true/\x=y
 |n+1,x,y=>(gM x=true/\x=y)\/∃a b d c,x=.ref a/\y=.ref b/\((kL K H a d/\kL K H b c)\/(ki K H a d/\ki K H b c))/\Paired (HE K H n) d c
def Pg (h:gM x=true):F0 x x=true:=by
 cases x with
 |cP=>rfl
 |bl b=>simp[F0]
 |int i=>simp[F0]
 |str z=>simp[F0]
 |_=>cases h
theorem Ej:∀{xs ys:List V},Paired F xs ys->∀{i:Nat}{x y:V},xs[i]?=some x->ys[i]?=some y->F x y
 |_,_,.nil,_,_,_,e,_=>by simp at e
 |_,_,.cons r t,0,_,_,e,a=>by simp at e a;rw[<- e,<- a];exact r
 |_,_,.cons r t,i+1,_,_,e,a=>Ej t (by simpa using e) (by simpa using a)
theorem ir (p:Paired (HE K H n) xs ys)(r:Vals xs us)(c:Vals ys vs)
  (i:∀x y u v,RelV x u->RelV y v->HE K H n x y->SeqAt.EqAt A s u v true):∀(j:Nat)(h1:j<us.toArray.size)(h2:j<vs.toArray.size),SeqAt.EqAt A s us.toArray[j] vs.toArray[j] true:=by
 intro j h1 h2;have l1:=r.length;have l2:=c.length;simp only[jaz] at h1 h2;have f:xs[j]?=some xs[j]:=jaT (by lia);have d:ys[j]?=some ys[j]:=jaT (by lia);obtain⟨u,e,h⟩:=r.get f;obtain⟨v,g,k⟩:=c.get d;have a:us.toArray[j]=u:=by
  rw[jaT h1] at e;simpa using e
 have b:vs.toArray[j]=v:=by
  rw[jaT h2] at g;simpa using g
 rw[a,b];exact i _ _ u v h k (Ej p f d)
def t9 (n:Nat):((List.range n).all λ_=>true)=true:=by simp
def like_eq (I:Inv X r U H s):∀(n:Nat)(A:Around),A.units+n<cLine->∀x y u v,RelV x u->RelV y v->HE X.K H n x y->SeqAt.EqAt A s u v true:=by
 intro n;have c:∀(A:Around)(x y:V)(u v:Value),RelV x u->RelV y v->gM x=true/\x=y->SeqAt.EqAt A s u v true:=by
  rintro A x y u v d g ⟨f,rfl⟩;have:=CO (A:=A) (s:=s) d g f f;rw[Pg f] at this;exact this
 induction n with
 |zero=>intro A w x y u v d g h;exact c A x y u v d g h
 |succ n t=>
  intro A w x y u v d g h;rcases h with h | ⟨a,b,B,z,rfl,rfl,h,p⟩
  .exact c A x y u v d g h
  .cases d;cases g;have k:=t A.in1 (by show A.units+1+n<cLine;lia);by_cases i:a=b
   .subst i;exact SeqAt.EqAt.same _
   .refine .of_refs i ?_;have C:=jbz p;rcases h with⟨l,o⟩ | ⟨l,o⟩
    .obtain⟨us,r1,p1,_⟩:=I.list l;obtain⟨q,j,m,_⟩:=I.list o;have l1:=r1.length;have l2:=j.length;have:=SeqAt.RcAt.lists p1.isList m.isList (by simp only[jaz];lia) (by lia) (ir p r1 j k);rw[t9] at this;exact this
    .obtain⟨us,r1,p1,_⟩:=I.tuple l;obtain⟨q,j,m,_⟩:=I.tuple o;have l1:=r1.length;have l2:=j.length;have:=SeqAt.RcAt.tuples (show s.heap.IsTuple a us.toArray from p1) (show s.heap.IsTuple b q.toArray from m) (by lia) (ir p r1 j k);have e:(us.toArray.size==q.toArray.size)=true:=by simp only[jaz,ja8];lia
     rw[t9,e] at this;exact this
def UX (K:Frag)(n:Nat)(k:Bool):R2:=λx y H Q=>∃a b d c,x=.ref a/\y=.ref b/\((kL K H a d/\kL K H b c)\/(ki K H a d/\ki K H b c))/\Paired (HE K H n) d c/\Q (.bl k) H
def Xy (n:Nat)(r:X.A.units+1+n<cLine):kP X (compareOp .Eq) (UX X.K n true):=by
 intro k s U H x y v u Q I m l h;obtain⟨a,b,t,o,rfl,rfl,h,p,q⟩:=h;cases m;cases l;have d:=like_eq I n X.A.in1 (by lia);have w:=jbz p;have fin:EP X k U Q (.bool true) s:=⟨.bl true,H,I,M,q⟩
 rcases h with⟨f,i⟩ | ⟨f,i⟩
 .obtain⟨us,r1,p1,_⟩:=I.list f;obtain⟨j,c,g,_⟩:=I.list i;have l1:=r1.length;have l2:=c.length;exact SeqAt.eq_listAt p1.isList g.isList (by simp only[jaz];lia) (by lia) (ir p r1 c d) (by rw[t9];exact fin)
 .obtain⟨us,r1,p1,_⟩:=I.tuple f;obtain⟨j,c,g,_⟩:=I.tuple i;have l1:=r1.length;have l2:=c.length;have e:(us.toArray.size==j.toArray.size)=true:=by simp only[jaz,ja8];lia
  exact SeqAt.eq_tupleAt (show s.heap.IsTuple a us.toArray from p1) (show s.heap.IsTuple b j.toArray from g) (by lia) (ir p r1 c d) (by rw[t9,e];exact fin)
def Xu (n:Nat)(r:X.A.units+1+n<cLine):kP X (compareOp .NotEq) (UX X.K n false):=by
 intro k s U H x y v u Q I m l h;obtain⟨a,b,t,o,rfl,rfl,h,p,q⟩:=h;cases m;cases l;have d:=like_eq I n X.A.in1 (by lia);have w:=jbz p;have fin:EP X k U Q (.bool false) s:=⟨.bl false,H,I,M,q⟩
 rcases h with⟨f,i⟩ | ⟨f,i⟩
 .obtain⟨us,r1,p1,_⟩:=I.list f;obtain⟨j,c,g,_⟩:=I.list i;have l1:=r1.length;have l2:=c.length;exact SeqAt.RcNeAt.lists p1.isList g.isList (by simp only[jaz];lia) (by lia) (ir p r1 c d) _ _ _ _ (by rw[t9];exact fin)
 .obtain⟨us,r1,p1,_⟩:=I.tuple f;obtain⟨j,c,g,_⟩:=I.tuple i;have l1:=r1.length;have l2:=c.length;have e:(us.toArray.size==j.toArray.size)=true:=by simp only[jaz,ja8];lia
  exact SeqAt.RcNeAt.tuples (show s.heap.IsTuple a us.toArray from p1) (show s.heap.IsTuple b j.toArray from g) (by lia) (ir p r1 c d) _ _ _ _ (by rw[t9,e];exact fin)
noncomputable def rJoin:V->List V->Hp->VK->Prop:=λx c H Q=>∃a p b,x=.str a/\c=[.ref p]/\H p=some (.lst (List.map V.str b))/\(b.map (·.length)).sum+b.length*a.length<=16777216/\Q (.str (Txt.join a b)) H
def SK:FH X "str.join" rJoin:=by
 intro i s U H x n v us Q I d f h;obtain⟨c,p,j,rfl,rfl,b,e,q⟩:=h;obtain⟨t,rfl⟩:=d;obtain⟨u,rfl,a⟩:=f.one;cases a;obtain⟨m,r,g,_⟩:=I.list (kL.of b);exact join_list g.isList (by simpa using jO r) e λl k=>⟨.str _,H,I.tok _,⟨_,M⟩,q⟩
noncomputable def a5l (xs:List V)(k:Nat)(y:V):List V:=xs.take k++[y]++xs.drop k
noncomputable def RA:V->List V->Hp->VK->Prop:=λx b H Q=>∃(l:Addr)(a:List V)(i:Int)(k:Nat)(y:V),x=.ref l/\b=[.int i,y]/\i=k/\H l=some (.lst a)/\k<=a.length/\a.length<sizeLine/\Q .cP (upd H l (.lst (a5l a k y)))
def Ks:MtM X "list.insert" RA:=by
 intro w s U H x E v us Q I o p h;obtain⟨l,C,i,k,y,rfl,rfl,g,f,hk,B,q⟩:=h;cases o;obtain⟨u,d,rfl,⟨t,rfl⟩,j⟩:=p.two;obtain⟨z,a,n,r,D,e⟩:=I.ER f;have A:=nJ;have b:¬(!Builtin.List.listFitsIndex i)=true:=by
  rw[fitsIndex_of (by lia) (by lia)];decide
 have c:a.toArray.size<=sizeLine:=by rw[jaz];lia
 refine call_meets F.slot_list_insert ⟨_,e,M⟩ F.entry_list_insert (F.args_list_insert_3 _ _ _) (PySem.AutoSeq1.list_insert_list_int_val_1 l a.toArray n i t d b c) ⟨e,?_⟩;refine⟨.cP,_,I.SR (its':=a.take k++[d]++a.drop k) f e ?_ (((r.take k).append (.cons j .nil)).append (r.drop k)) ?_,M,q⟩
 .have e1:¬ i<0:=by lia
  have m:min i.toNat a.length=k:=by lia
  simp only[jaz,e1,jbo,m];apply Array.ext';simp only[Array.toList_append,Array.toList_extract,List.extract_eq_take_drop];rw[jcx (l:=List.drop k a) (by rw[jbR];simp)];simp
 .simp only[jab,jbF,jbR,ja0];lia
noncomputable def a4O (K:Frag)(c:V):List V->Hp->VK->Prop:=λa H Q=>∃x t u b,a=[x,c]/\sA K H x t/\RelV c u/\kitOne K t u=some b/\Q (.bl b) H
def RelV.a5m (e:match c with | .ref _=>True | .ty _=>True | _=>False)(r:RelV c u)(d:RelV c b):u=b:=by
 cases c with
 |ref a=>cases r;cases d;rfl
 |ty n=>cases r;cases d;rfl
 |_=>exact e.elim
def PN (g:match c with | .ref _=>True | .ty _=>True | _=>False):eB X (.builtin "isinstance") (a4O X.K c):=by
 intro i s U H l us Q I r h;obtain⟨x,t,u,b,rfl,ty,f,e,q⟩:=h;obtain⟨k,j,rfl,d,a⟩:=vals2 r;rw[RelV.a5m g a f];exact KL I d ty e λtk=>⟨.bl b,H,I.tok _,M,q⟩
def a0Y (K:Frag):R2:=λx y H Q=>∃a b c d,x=.ref a/\y=.ref b/\ki K H a c/\ki K H b d/\c.length+d.length<=sizeLine/\
 (c=[]->Q (.ref b) H)/\(c≠[]->d=[]->Q (.ref a) H)/\(c≠[]->d≠[]->∀p,H p=none->Q (.ref p) (upd H p (.tup (c++d))))
def Sx:kP X (binaryOp .Add) (a0Y X.K):=by
 intro z s U H x y v u Q I q p h;obtain⟨a,b,o,w,rfl,rfl,m,t,E,V,S,W⟩:=h;by_cases e:o=[]
 .cases q;cases p;obtain⟨D,G,B,_⟩:=I.tuple m;obtain⟨d,Y,T,_⟩:=I.tuple t;obtain⟨⟨C,P,l,O⟩,r,J,n,hd⟩:=id B;obtain⟨⟨R,k,f,g⟩,c,i,L,j⟩:=id T;subst J hd i j;have N:=G.eK.mpr e;refine concat_meets ⟨_,r,M⟩ ⟨_,c,M⟩ noFill_tuple_add seq_tuple_add PySem.F.slot_tuple_add PySem.F.entry_tuple_add (PySem.F.args_tuple_add_2 _ _)
   (tuple_addW0 a b D.toArray d.toArray n L P k O g (by simp[N])) ⟨r,c,?_⟩
  exact⟨.ref b,H,I,M,V e⟩
 .exact Sy z s U H _ _ v u Q I q p ⟨a,b,o,w,M,M,m,t,e,E,S e,λA=>W e A⟩
def a4N (K:Frag):R2:=λx y H Q=>∃p a k v,x=.ref p/\y=.int (k:Nat)/\kL K H p a/\a[k]?=some v/\Q v H
def O1:a26 X (a4N X.K):=by
 intro l s U H o i j n Q I d g h;obtain⟨p,y,k,v,rfl,rfl,c,b,q⟩:=h;cases d;obtain⟨t,rfl⟩:=g;obtain⟨u,r,f,x⟩:=I.list c;obtain⟨w,e,a⟩:=r.get b;have hk:=(jar.mp b).1;have m:=nJ;exact wpAny_getItem_list f.isList (by lia) (by lia) (by simpa using e) ⟨v,H,I,a,q⟩
end L2
namespace Hw
open PySem L2
def Dn (P:Program)(w:World)(K:Frag)(a:Str->jcN)(base:Heap)(k:Nat)(x:Str)(ps:jcI)(sp:Sp):Prop:=
 ∃(f:Addr)(b:FuncData),dX P w K a base ug k f b ps sp/\a x=some (.ref f)/\keepIn K (.ref f)=true/\Binds K b ps []
def Mt (P:Program)(w:World)(K:Frag)(b:Str->jcN)(base:Heap)(k:Nat)(C:Addr)(m:Str)(ps:jcI)(sp:Sp):Prop:=
 ∃(f:Addr)(a:FuncData),dX P w K b base ug k f a ps sp/\Meth K C m f/\Binds K a ps []
def Mr (P:Program)(w:World)(K:Frag)(b:Str->jcN)(base:Heap)(k:Nat)(C:Addr)(ps:jcI)(sp:Sp):Prop:=
 ∃(f:Addr)(a:FuncData),dX P w K b base ug k f a ps sp/\Mk K C f/\Binds K a ps []
def line (n:Nat)(h:n<=100000):n<sizeLine:=by rw[jbe];lia
def szl (n:Nat)(h:autoParam (n<=100000) zn):n<=sizeLine:=jbj (line n h)
end Hw
namespace L2
open PySem PySem.Spec PyProof.Rows
noncomputable def Tv:Expr->Option Str
 |.Constant (.str x) _ _=>some x
 |_=>none
def CP (h:Tv e=some x):∃j pos,e=.Constant (.str x) j pos:=by
 cases e with
 |Constant c j pos=>cases c with
  |str y=>cases h;exact⟨_,_,M⟩
  |_=>cases h
 |_=>cases h
noncomputable def strsOf:jcL->Option (jcI)
 |[]=>some []
 |e::r=>(Tv e).bind λx=>(strsOf r).map (x::·)
def Uv (xs:jcI):TA:=λ_ H Q=>Q (xs.map V.str) H
theorem IM:∀{es:jcL}{xs:jcI},strsOf es=some xs->PA X es (Uv xs)
 |[],xs,h=>by
  cases h;exact ly
 |e::r,xs,h=>by
  obtain⟨x,d,a⟩:=jcc.mp h;obtain⟨f,q,b⟩:=jcd.mp a;obtain⟨j,c,rfl⟩:=CP d;cases b;exact ou BQ (IM q) rfl
noncomputable def Ve:Expr->Option (jcI)
 |.List a _=>strsOf a
 |_=>none
def Sd:∀{e:Expr},Ve e=some xs->PE X e (a0s (Uv xs)):=by
 intro e h;cases e<;>first|exact BR (IM h)|exact(Option.some_ne_none _ h.symm).elim
noncomputable def a4K:V->Option Int->Option Int->Hp->VK->Prop:=λx a b H Q=>∃z,x=.str z/\z.length<=sizeLine/\Q (.str (Txt.slice z a b)) H
def WC:Uh X a4K:=by
 intro g s U H x v r w e f p Q I m b o c h;obtain⟨z,rfl,n,q⟩:=h;obtain⟨t,rfl⟩:=m;have fin:(Txt.slice z e f).length<=sizeLine/\∀a k,EP X g U Q (.str (Txt.slice z e f) a) {s with toks:=k }:=⟨jai (Txt.slice_le z _ _) n,λa k=>⟨.str _,H,I.tok _,⟨_,M⟩,q⟩⟩
 refine⟨"str",_,PySem.F.slot_str_getitem.lookup,typeIs_str _ _ _,?_⟩;cases o with
 |none=>cases c with
  |none=>exact jcw (l:=none) (u:=none) (st:=none) b rfl (post_val_or_str fin)
  |int j a=>exact jcw (l:=none) (u:=some (j,a)) (st:=none) b rfl (post_val_or_str fin)
 |int i d=>cases c with
  |none=>exact jcw (l:=some (i,d)) (u:=none) (st:=none) b rfl (post_val_or_str fin)
  |int j a=>exact jcw (l:=some (i,d)) (u:=some (j,a)) (st:=none) b rfl (post_val_or_str fin)
def WN (K:Frag):R2:=λx y H Q=>∃a b c,x=.ref a/\y=.ref b/\ki K H a c/\ki K H b []/\Q (.bl (decide (c=[]))) H
def NW (k:X.A.units<cLine):kP X (compareOp .Eq) (WN X.K):=by
 intro w s U H x y v u Q I r n h;obtain⟨a,b,f,rfl,rfl,m,t,q⟩:=h;cases r;cases n;obtain⟨us,d,i,_⟩:=I.tuple m;obtain⟨C,o,p,_⟩:=I.tuple t;cases o;refine SeqAt.eq_tupleAt (e:=λ_=>true) (show s.heap.IsTuple a us.toArray from i) (show s.heap.IsTuple b ([]:jcJ).toArray from p) k (λj B g=>absurd g (by simp)) ?_;have e:((List.range (min us.toArray.size ([]:jcJ).toArray.size)).all (λ_=>true)&&us.toArray.size==([]:jcJ).toArray.size)=decide (f=[]):=by
  have l:=d.length;by_cases c:f=[]
  .subst c;cases d;simp
  .rw[jau c];have:us≠[]:=λz=>c (by rw[z] at l;exact jbp.mp l);cases us with
   |nil=>exact absurd rfl this
   |cons _ _=>simp
 rw[e];exact⟨.bl _,H,I,M,q⟩
abbrev TJ:=St->Hp->Str->(Str->Hp->Prop)->Prop
def PJ (X:Cx)(a:jcL)(t:TJ):Prop:=
 ∀(vy:jcF) (s:Shared) (U:St) (H:Hp) (acc:Str) (Q:Str->Hp->Prop),Inv X vy U H s->t U H acc Q->
  wpAny (model X.prog X.w) X.A (joinParts acc (evalEach a X.env)) (EP X vy U λv b=>∃x,v=.str x/\Q x b) X.xe s
def a5i:TJ:=λ_ H a Q=>a.length<=sizeLine/\Q a H
def a5h (c:Str)(t:TJ):TJ:=λU H a Q=>(a++c).length<=sizeLine/\t U H (a++c) Q
def a5g (te:TE)(t:TJ):TJ:=λU H a Q=>te U H λx b=>(∃i,x=.int i/\i.natAbs.log2<1920/\(a++(toString i:Str)).length<=sizeLine/\t U b (a++(toString i:Str)) Q)\/(∃y,x=.str y/\y.length<=sizeLine/\(a++y).length<=sizeLine/\t U b (a++y) Q)
def Xe:PJ X [] a5i:=by
 intro b s U H a Q I h;exact joinParts_nil ⟨.str a,H,I.tok _,⟨_,M⟩,a,M,h.2⟩ h.1
def Xd (h:PJ X d t):PJ X (.Constant (.str c) j pos::d) (a5h c t):=by
 intro e s U H a Q I b;refine joinParts_cons (Calls.Constant_str ⟨b.1,?_⟩);exact h e _ U H (a++c) Q (I.tok _) b.2
def Xc (n:PE X e te)(h:PJ X g t):PJ X (.FormattedValue e (-1) none pos::g) (a5g te t):=by
 intro a s U H p Q I m;refine joinParts_cons (FormattedValue_plain (dF (n a s U H _ I m) ?_));rintro v r ⟨x,d,c,f,j⟩;rcases j with⟨i,rfl,o,b,q⟩ | ⟨y,rfl,k,b,q⟩
 .obtain⟨t',rfl⟩:=f;exact formatField_int_small o ⟨b,h a _ U d _ Q (c.tok _) q⟩
 .obtain⟨t',rfl⟩:=f;exact formatField_str (λl tk=>⟨b,h a _ U d _ Q (c.tok _) q⟩) k
def tFs (t:TJ):TE:=λU H Q=>t U H Str.empty λx a=>Q (.str x) a
def Sg (h:PJ X (v1::v2::a) t):PE X (.JoinedStr (v1::v2::a) pos) (tFs t):=by
 intro c s U H Q I e;refine JoinedStr_many (dF (h c s U H Str.empty _ I e) ?_);rintro u g ⟨v,b,f,r,x,d,q⟩;subst d;exact⟨.str x,b,f,r,q⟩
end L2
namespace HT
open PySem PySem.Spec PyProof.Rows
end HT
namespace L2
open PySem PySem.Spec PyProof.Rows
theorem G4 (l b:Addr)(xs ys:Array Value)(n m:Nat)(dd:jcM)(f:jcH)(o:¬(!xs.isEmpty&&Builtin.List.listTooLong (xs.size+ys.size))=true)(j:xs.size<=sizeLine)(e:xs.size+ys.size<=sizeLine+1) :
  Meets (Builtin.«list.extend» ⟨[.ref l,.ref b],[]⟩) (λ_ R s=>s.heap.get? l=some ⟨.type "list",none,.seq xs n,#[]⟩/\s.heap.get? b=some ⟨.type "tuple",dd,.seq ys m,f⟩/\
   R (.ok (.ret Value.none)) {s with heap:=s.heap.update l (Obj.mapSeq λx=>x++ys),toks:=s.toks }):=
 .of_wp λc w A R s h=>by
  obtain⟨k,g,d,tk,p⟩:=s;obtain⟨a,i,h⟩:=h;have z:(xs++ys).size<=sizeLine+1:=by
   rw[Array.size_append];exact e
  wp_walk using(wpAny_updateSeq a rfl (_hz':=z)),PySem.AutoSeq1.wpAny_loadPart' a,PySem.AutoSeq1.wpAny_loadPart' i
  exact⟨_,M,h⟩
noncomputable def Nf (K:Frag):V->List V->Hp->VK->Prop:=λx d H Q=>∃l b c a,x=.ref l/\d=[.ref b]/\H l=some (.lst c)/\ki K H b a/\c.length+a.length<=sizeLine/\Q .cP (upd H l (.lst (c++a)))
def GP:MtM X "list.extend" (Nf X.K):=by
 intro m s U H x T v us Q I E J h;obtain⟨l,b,O,S,rfl,rfl,k,D,N,q⟩:=h;cases E;obtain⟨u,rfl,t⟩:=J.one;cases t;obtain⟨z,c,n,r,R,e⟩:=I.ER k;obtain⟨a,j,C,P⟩:=I.tuple D;have p:=j.length;have i:c.toArray.size+a.toArray.size<=sizeLine:=by rw[jaz,jaz];lia
 have L:¬(!c.toArray.isEmpty&&Builtin.List.listTooLong (c.toArray.size+a.toArray.size))=true:=by
  rw[yr i,Bool.and_false];exact jaN
 have B:∀d g f,s.heap.get? b=some {cls:=.type "tuple",dict:=g,data:=.seq a.toArray d,slots:=f }->wpAny (model X.prog X.w) X.A (call (.builtin "list.extend") [.ref l,.ref b]) (EP X m U Q) X.xe s:=λd g f y=>by
  refine call_meets F.slot_list_extend ⟨_,e,M⟩ F.entry_list_extend (F.args_list_extend_2 _ _)
   (G4 l b c.toArray a.toArray n d g f L (by rw[jaz];lia) (by lia)) ⟨e,y,?_⟩
  refine⟨.cP,_,I.SR (its':=c++a) k e (by simp) (r.append j) ?_,M,q⟩;rw[jab];lia
 obtain⟨⟨cls,g,data,f⟩,G,o,d,hd⟩:=id C;subst o hd;exact B d g f G
def WL (K:Frag):R2:=λx y H Q=>∃a b c,x=.ref a/\y=.ref b/\kL K H a c/\kL K H b []/\Q (.bl (!decide (c=[]))) H
def NV (f:X.A.units<cLine):kP X (compareOp .NotEq) (WL X.K):=by
 intro t s U H x y v u Q I p n h;obtain⟨a,b,m,rfl,rfl,l,r,q⟩:=h;cases p;cases n;obtain⟨us,g,d,_⟩:=I.list l;obtain⟨B,o,i,_⟩:=I.list r;cases o;have l1:=g.length;by_cases c:m=[]
 .rw[jaB c] at q;subst c;cases g;exact SeqAt.RcNeAt.lists (e:=λ_=>true) d.isList i.isList rfl f (λj w k=>absurd k (by simp)) _ _ _ _ ⟨.bl false,H,I,M,q⟩
 .rw[jau c] at q;have:us≠[]:=λz=>c (by rw[z] at l1;exact jbp.mp l1);refine SeqAt.RcNeAt.lists_lengths d.isList i.isList ?_ f _ _ _ _ ⟨.bl true,H,I,M,q⟩;cases us with
  |nil=>exact absurd rfl this
  |cons _ _=>simp
end L2
namespace L3
open PySem L2
def j7:Le (res Y H) H:=λa o e=>(res_some e).2
def fin {Y:jcK}{S:av}{H:Hp}{k:KD}{Q:VK}(R:R3 K Y S H)(hk:∀v H',up K Y H k v H'->Q v H')(r:jI K Y (res Y H) d v)(q:k d S):Q v H:=hk _ _ ⟨Y,S,d,.refl,R,r,q⟩
def Tr {Y:jcK}{S:av}{H:Hp}{k:KD}{Q:VK}(R:R3 K Y S H)(hk:∀v H',up K Y H k v H'->Q v H')(r:bU K (res Y H) l vs)(q:k (.tup l) S)(p:Addr)(a:H p=none):Q (.ref p) (upd H p (.tup vs)):=by
 obtain⟨b,g,e⟩:=R.new a;refine hk _ _ ⟨Y,S,.tup l,g,b,?_,q⟩;show Rp _ _ _ _;exact⟨p,vs,M,e,r.le g.le⟩
def yL {Y:jcK}{S:av}{H:Hp}{k:KD}{Q:VK}(R:R3 K Y S H)(hk:∀v H',up K Y H k v H'->Q v H')(r:bU K (res Y H) l vs)(q:k (.lst l) S)(p:Addr)(a:H p=none):Q (.ref p) (upd H p (.lst vs)):=by
 obtain⟨b,g,e⟩:=R.new a;refine hk _ _ ⟨Y,S,.lst l,g,b,?_,q⟩;show Rp _ _ _ _;exact⟨p,vs,M,e,r.le g.le⟩
def YS {Y:jcK}{S:av}{H:Hp}{k:KD}{Q:VK}(R:R3 K Y S H)(hk:∀v H',up K Y H k v H'->Q v H')(p:Addr)(a:H p=none)(r:HA K (Y++[p]) (res Y H) (some h) o)(q:k (.ob S.length) (S++[o])):Q (.ref p) (upd H p h):=by
 obtain⟨b,g⟩:=R.push a r;exact hk _ _ ⟨_,_,.ob S.length,g,b,⟨p,by rw[<- R.len];simp,M⟩,q⟩
theorem Pb {Y:jcK}{S:av}{H:Hp}{k:KD}{Q:VK}(R:R3 K Y S H)(hk:∀v H',up K Y H k v H'->Q v H')(r:bU K (res Y H) l vs)(q:k (.ob S.length) (S++[.lst l]))(p:Addr)(a:H p=none):Q (.ref p) (upd H p (.lst vs)):=
 YS (o:=.lst l) R hk p a ⟨vs,M,r⟩ q
def Pa {Y:jcK}{S:av}{H:Hp}{k:KD}{Q:VK}(R:R3 K Y S H)(hk:∀v H',up K Y H k v H'->Q v H')(c:Y[n]?=some a)(r:HA K Y (res Y H) (some h) o)(e:jI K Y (res Y H) d v)(q:k d (S.set n o)):Q v (upd H a h):=by
 obtain⟨b,g⟩:=R.put c r;exact hk _ _ ⟨_,_,d,g,b,e.gr g,q⟩
noncomputable def lq (S:av):D->Option (List T)
 |.t (.lst l)=>some l
 |.ob n=>match S[n]? with
  |some (.lst l)=>some l
  |_=>none
 |_=>none
noncomputable def sq (S:av):D->Option (List T)
 |.t (.tup l)=>some l
 |.t (.DV l)=>some l
 |d=>lq S d
theorem cR (R:R3 K Y S H):∀{d:D}{v:V}{l:List T},jI K Y (res Y H) d v->lq S d=some l->∃a vs,v=.ref a/\H a=some (.lst vs)/\bU K (res Y H) l vs
 |.t (.lst j),v,l,r,e=>by
  cases e;have r:=r;obtain⟨a,vs,h,b,c⟩:=r;exact⟨a,vs,h,j7 _ _ b,c⟩
 |.t (.DV _),_,_,_,e=>nomatch e
 |.t (.v _),_,_,_,e=>nomatch e
 |.t (.tup _),_,_,_,e=>nomatch e
 |.t (.ins _ _ _),_,_,_,e=>nomatch e
 |.ob n,v,l,⟨a,i,r⟩,e=>by
  have e:(match S[n]? with | some (.lst l)=>some l | _=>none)=some l:=e;cases q:S[n]? with
  |none=>rw[q] at e;cases e
  |some o=>
   rw[q] at e;cases o with
   |lst m=>
    cases e;obtain⟨vs,g,f⟩:=R.ok n a _ i q;exact⟨a,vs,r,g,f⟩
   |wm m=>cases e
   |Qw _ _ m=>cases e
   |gh _ _=>cases e
   |ins C k m=>cases e
def sV (R:R3 K Y S H)(r:jI K Y (res Y H) d v)(e:sq S d=some l):∃a vs,v=.ref a/\(kL K H a vs\/ki K H a vs)/\bU K (res Y H) l vs:=by
 unfold sq at e;split at e
 .cases e;have r:=r;obtain⟨a,vs,c,f,b⟩:=r;exact⟨a,vs,c,.inr (.of (j7 _ _ f)),b⟩
 .cases e;have r:=r;obtain⟨a,vs,c,f,b⟩:=r;exact⟨a,vs,c,.inl (Gq j7 f),b⟩
 .obtain⟨a,vs,h1,h2,h3⟩:=cR R r e;exact⟨a,vs,h1,.inl (.of h2),h3⟩
def dz (r:jI K Y (res Y H) (.tup l) v):∃a vs,v=.ref a/\H a=some (.tup vs)/\bU K (res Y H) l vs:=by
 have r:=r;obtain⟨a,vs,c,d,b⟩:=r;exact⟨a,vs,c,j7 _ _ d,b⟩
def aV {w:V}(r:jI K Y G (.t (.v x)) w):w=x:=by
 have r:=r;exact r
def aZ:jI K Y G (.t (.v x)) x:=rfl
def Lp {α:Type}:Option α->(α->Prop)->Prop
 |some a,f=>f a
 |none,_=>False
def oe (h:o=some a)(hk:f a):Lp o f:=by rw[h];exact hk
def mj (h:Lp o f):∃a,o=some a/\f a:=by
 cases o with
 |none=>exact h.elim
 |some a=>exact⟨a,M,h⟩
def cnd:Bool->Prop->Prop
 |true,p=>p
 |false,_=>False
def yW (h:cnd b p):b=true/\p:=by
 cases b with
 |true=>exact⟨M,h⟩
 |false=>exact h.elim
def cn (e:b=true)(h:p):cnd b p:=by rw[e];exact h
def Ue (Z:Sl)(i:Nat)(S:av)(k:KD):Prop:=Lp Z[i]? λo=>Lp o λd=>k d S
def Ue.of (h:Ue Z i S k):∃d,Z[i]?=some (some d)/\k d S:=by
 obtain⟨o,e,h⟩:=mj h;obtain⟨d,rfl,h⟩:=mj h;exact⟨d,e,h⟩
def ur (i:Nat):cI:=λZ S k=>Ue Z i S k
def Mu (d:D):cI:=λ_ S k=>k d S
theorem q_v (i:Nat)(g:autoParam (X.N[i]?=some x) zi)(f:ZZ X.env.scope x:=by first | exact Or.inl rfl | exact Or.inr (Or.inl M) | exact Or.inr (Or.inr M))(hd:autoParam ((x==("__debug__":Str))=false) zn)
  (a:autoParam ((x==("__classdict__":Str))=false) zn):QE X (.Name x pos) (ur i):=
 cy (NL g f hd a) (by
  rintro U H Q ⟨Y,S,Z,k,R,D,q,hk⟩;obtain⟨d,e,q⟩:=q.of;obtain⟨v,c,b⟩:=D.2 i d e;exact⟨v,c,fin R hk b q⟩)
def fY (h:PE X e (tC v)):QE X e (Mu (.t (.v v))):=cy h (by rintro U H Q ⟨Y,S,Z,k,R,D,q,hk⟩;exact fin R hk aZ q)
def aF {i j pos}:QE X (.Constant (.int i) j pos) (Mu (.int i)):=fY Xk
def a4U {b j pos}:QE X (.Constant (.bool b) j pos) (Mu (.bl b)):=fY a1h
def nA {j pos}:QE X (.Constant .none j pos) (Mu .cP):=fY Xj
def aT {x j pos}:QE X (.Constant (.str x) j pos) (Mu (.str x)):=fY BQ
abbrev zD:=D->D->av->KD->Prop
inductive liR (K:Frag) (r:zD) (x y:V) (H:Hp) (Q:VK):Prop
 |mk (Y S a b k):R3 K Y S H->jI K Y (res Y H) a x->jI K Y (res Y H) b y->r a b S k->(∀v H',up K Y H k v H'->Q v H')->liR K r x y H Q
def C9 (X:Cx)(f:Value->Value->Sem Value)(r:zD):Prop:=kP X f (liR X.K r)
def ie (h:kP X f r)(m:∀x y H Q,a x y H Q->r x y H Q):kP X f a:=λc s U H x y v u Q I b d q=>h c s U H x y v u Q I b d (m _ _ _ _ q)
def vj (r:zD)(c tb:cI):cI:=λZ S k=>c Z S λx a=>tb Z a λy b=>r x y b k
def v5:∀U H Q,li X.K (vj r ta tb) U H Q->tOp (liR X.K r) (li X.K ta) (li X.K tb) U H Q:=(by rintro U H Q ⟨Y,S,Z,k,R,D,q,hk⟩;exact  ⟨Y,S,Z,_,R,D,q,(by rintro v p ⟨f,g,d1,b,d,j,l⟩;exact⟨f,g,Z,_,d,D.gr b,l,(by rintro w o ⟨i,c,n,a,R2,m,h⟩;exact   ⟨i,c,d1,n,k,R2,j.gr a,m,h,λz e u=>hk z e (u.gr (b.trans a))⟩)⟩)⟩)
def aX (c:C9 X (binaryOp op) r)(d:QE X a ta)(e:QE X b tb):QE X (.BinOp a op b pos) (vj r ta tb):=cy (U6 c d e) v5
def xJ (c:C9 X (compareOp op) r)(e:QE X a ta)(f:QE X b tb)(d:behindInMarks op b=false):QE X (.Compare a [op] [b] pos) (vj r ta tb):=cy (Sj c e f d) v5
inductive BlR (d:D) (S:av) (k:Bool->av->Prop):Prop
 |mk (b:Bool) (h:d=.bl b) (hk:k b S)
def qc (t:cI):vg:=λZ S k=>t Z S λd a=>BlR d a k
theorem Aw (m:∀U H Q,li X.K t U H Q->t' U H Q):∀U H Q,KA X.K (qc t) U H Q->Uu t' U H Q:=(by rintro U H Q ⟨Y,S,Z,k,R,D,q,hk⟩;exact  m _ _ _ ⟨Y,S,Z,_,R,D,q,(by
  rintro v i ⟨d,g,d1,f,c,h,b,e,a⟩;subst e;exact⟨b,aV h,hk _ _ ⟨d,g,f,c,a⟩⟩)⟩)
def aD (c:C9 X (compareOp op) r)(e:QE X a ta)(f:QE X b tb)(d:behindInMarks op b=false):QT X (.Compare a [op] [b] pos) (qc (vj r ta tb)):=Nu (RV c e f d) (Aw v5)
end L3
namespace L2
open PySem PySem.Spec PyProof.Rows
end L2
namespace Hw
open PySem L2
def MO (K:Frag):Sp:=λc H Q _=>∃(a:Addr)(b:List Int),c=[.ref a]/\kL K H a (b.map V.int)/\b.length<=63/\∀H',Q (.bl true) H'
noncomputable def abc:Str:="abcdefghijklmnopqrstuvwxyz"
def Ud:abc.cps.toList=(List.range 26).map (97+·):=by symm
def JD:abc.length<=sizeLine:=jbj (line _ (by symm))
def P8 {r:Nat}(h:r<26):p6 abc.cps.toList (r:Int)=some (97+r):=wB (by rw[Ud,jaV,List.getElem?_range h];rfl)
def Uc (i:Int):p6 abc.cps.toList (i % 26)=some (97+(i % 26).toNat):=by
 have a:=Int.emod_nonneg i (show(26:Int)≠0 by decide);have e:=(Int.toNat_of_nonneg a).symm;have:=P8 (r:=(i % 26).toNat) (by lia);rw[<- e] at this;exact this
abbrev Za (c:Nat):Str:=⟨#[c]⟩
def rY (c:Nat):(Za c).length=1:=rfl
def sj (a b:Str):(a++b).cps.toList=a.cps.toList++b.cps.toList:=PySem.W.KT.app_list a b
def jT (a b:Str):(a++b).length=a.length+b.length:=by
 have h:∀x:Str,x.length=x.cps.toList.length:=λx=>by simp[Str.length]
 rw[h,h,h,sj,jab]
def CF (w:Str)(xs:jcI):Ti (.str w) (xs.map V.str)=decide (w∈xs):=by
 unfold Ti;rw[List.any_map];by_cases h:w∈xs
 .rw[jaB h,jbS];exact⟨w,h,by simp[F0]⟩
 .rw[jau h,List.any_eq_false];intro y a;simp only[Function.comp,F0,ja8];intro e;exact h (e ▸ a)
def OM (ss:jcI)(h:∀a∈ss,a.length=1):(Txt.join (Str.ofString "") ss).length=ss.length:=PySem.W.KT.join_ones ss h
theorem DG:∀ss:jcI,(∀a∈ss,a.length=1)->(ss.map (·.length)).sum=ss.length
 |[],_=>rfl
 |a::r,h=>by
  rw[jas,List.sum_cons,DG r λb c=>h b (jav _ c),jak,h a (jay ..)];lia
abbrev cp (x:Str):jcO:=x.cps.toList
def Hg (x:Str):x.length=(cp x).length:=by simp[Str.length]
theorem Jq:∀ss:jcI,cp (Str.join (Str.ofString "") ss)=(ss.map cp).flatten
 |[]=>rfl
 |[x]=>by simp[Str.join]
 |x::y::r=>by
  show cp (x++Str.ofString ""++Str.join (Str.ofString "") (y::r))=_;rw[cp,sj,sj];have a:=Jq (y::r);rw[show(Str.join (Str.ofString "") (y::r)).cps.toList=cp (Str.join (Str.ofString "") (y::r)) from M,a];have z:(Str.ofString "").cps.toList=[]:=by decide
  rw[z,jaw];rfl
def Hf (ss:jcI):cp (Txt.join (Str.ofString "") ss)=(ss.map cp).flatten:=by
 show cp (Builtin.Str.glued (Str.ofString "") ss)=_;rw[StrLaws.glued_eq_join];exact Jq ss
noncomputable def signs:jcI:=["<","<=","=","!=",">=",">"]
noncomputable def J7 (s:Str):Str:=if s="<" then ">=" else if s=">=" then "<" else if s="<=" then ">" else if s=">" then "<=" else if s="=" then "!=" else "="
end Hw
namespace L2
open PySem PySem.Spec PyProof.Rows Hw
end L2
namespace Hw
open PySem L2
end Hw
namespace L2
open PySem PySem.Spec PyProof.Rows Hw
def PR (n:X.calm=true):eB X (.builtin "any") (λxs H Q=>∃(p:Addr)(bs:List Bool),xs=[.ref p]/\kL X.K H p (bs.map V.bl)/\Q (.bl (bs.any id)) H):=by
 intro B s U H xs us Q I r h;obtain⟨p,bs,rfl,l,q⟩:=h;obtain⟨u,rfl,d⟩:=vals1 r;cases d;obtain⟨c,k,f,D⟩:=I.list l;have y:=let⟨o,_,e,_⟩:=f;jal e;have j:=k.length;rw[jac] at j;refine call_any_walk (wpAny_pyIter_list f.isList ?_);have W:=Walks.list (prog:=X.prog) (w:=X.w) (A:=X.A.in1) (I.ok.hd n) s.heap.objs.size p (jax y) c.toArray;refine⟨s.heap.objs.size,_,_,_,_,_,(λi=>(bs[i]?).getD false),M,W,⟨⟨_,jaK _ M,M,M⟩,f.isList.at λo e=>jap _ e⟩,λi v F E G a z=>?_,λC tk hk=>?_⟩
 .have a:=a;have a:c[i]?=some v:=by simpa using a
  have t:=(jar.mp a).1;obtain⟨u,g,d⟩:=k.get (x:=.bl ((bs[i]?).getD false)) (by rw[jaV,jaT (by lia)];rfl);rw[a] at g;cases g;cases d;exact jbZ z
 .have kp:=λb o e=>
   hk b o (λm=>absurd (jal e) (by rw[jag.mp m];exact ja4 _)) (jap _ e)
  have e:((List.range c.toArray.size).any λi=>(bs[i]?).getD false)=bs.any id:=by rw[jaz,<- j];exact LSm.range_any bs
  rw[e];exact⟨.bl (bs.any id),H,I.kept (t':=tk) kp,M,q⟩
end L2
namespace Hw
open PySem L2
end Hw
namespace L2
open PySem PySem.Spec PyProof.Rows Hw
def KDict (P:Program)(w:World)(K:Frag)(D:Addr)(kvs:List (Key×V)):Prop:=∀h:Heap,K.In h->∃a,KV kvs a/\h.DictOf (aI P w) D a
def a0t (kvs:List (Key×V))(ty:TE):TE:=λU H Q=>ty U H λy a=>∃k v,y=kV k/\oR kvs k=some v/\Q v a
section
variable {D:Addr}
def Sf (g:Gl X x)(l:X.mg x=some (.ref D))(kd:KDict X.prog X.w X.K D kvs)(q:PE X i ty)(hs:Qc i)(hd:autoParam ((x==("__debug__":Str))=false) zn):PE X (.Subscript (.Name x p) i pos) (a0t kvs ty):=by
 intro f s U H Q I h;refine HZ PySem.F.slot_dict_getitem.lookup hs (lJ I g l (dF (q f s U H _ I h) ?_) hd);rintro u A ⟨y,j,d,r,k,v,e,o,n⟩;subst e;obtain⟨z,a,c⟩:=kd _ d.mE;obtain⟨t,m,b⟩:=lQ.some_of (by rw[<- o];exact a.val k);exact⟨c.typeIs,wpAny_getItem_of (A0 r) c.mapOf m ⟨v,j,d.tok _,b,n⟩⟩
end
abbrev Ent:=Str×Tok×Str×Tok
noncomputable def ent (P:Params)(e:Ent):DictEntry:=⟨PyData.keyHash P e.1,.str e.1 e.2.1,.str e.2.2.1 e.2.2.2⟩
theorem A7:∀es:List Ent,Pairs (aI P w) (es.map (ent w.params)) (es.map λe=>((Sum.inr e.1:Key),Value.str e.2.2.1 e.2.2.2))
 |[]=>.nil
 |e::r=>.cons (dB P w e.1 e.2.1) rfl (A7 r)
theorem Pj:∀es:List Ent,KV (es.map λe=>((Sum.inr e.1:Key),V.str e.2.2.1)) (es.map λe=>((Sum.inr e.1:Key),Value.str e.2.2.1 e.2.2.2))
 |[]=>.nil
 |e::r=>.cons ⟨M,_,M⟩ (Pj r)
theorem OF {D:Addr}(a:List Ent)(f:K.lookup D=some ⟨.type "dict",none,.dict (a.map (ent w.params)).toArray c,#[]⟩)(d:(a.map λe=>(Sum.inr e.1:Key)).Nodup) :
  KDict P w K D (a.map λe=>(Sum.inr e.1,V.str e.2.2.1)):=by
 intro h hk;refine⟨_,Pj a,_,_,c,hk D _ f,⟨M,M,M⟩,M,?_,?_,?_⟩
 .intro e b;have b:e∈a.map (ent w.params):=by simpa using b
  obtain⟨z,_,rfl⟩:=jaq.mp b;exact⟨Sum.inr z.1,dB P w z.1 z.2.1,M⟩
 .exact A7 a
 .rw[jaM];exact d
end L2
namespace Hw
open PySem L2
noncomputable def a1k:List (Key×V):=[(Sum.inr "<",.str ">="),(Sum.inr ">=",.str "<"),(Sum.inr "<=",.str ">"),(Sum.inr ">",.str "<="),(Sum.inr "=",.str "!="),(Sum.inr "!=",.str "=")]
def Uk (P:Program)(w:World)(K:Frag)(a:Str->jcN):Prop:=∃D,a "OPPOSITE_SIGNS"=some (.ref D)/\KDict P w K D a1k
def Sn {s:Str}(h:s∈signs):oR a1k (Sum.inr s)=some (V.str (J7 s)):=by
 simp only[signs,jah,jaY,or_false] at h;rcases h with h | h | h | h | h | h<;>subst h<;>symm
theorem Sq {D:Addr}(m:l "OPPOSITE_SIGNS"=some (.ref D))
  (p:K.lookup D=some ⟨.type "dict",none,.dict #[⟨PyData.keyHash w.params "<",.str "<" j,.str ">=" d⟩,⟨PyData.keyHash w.params ">=",.str ">=" a,.str "<" g⟩,⟨PyData.keyHash w.params "<=",.str "<=" e,.str ">" n⟩,
   ⟨PyData.keyHash w.params ">",.str ">" f,.str "<=" h⟩,⟨PyData.keyHash w.params "=",.str "=" c,.str "!=" k⟩,⟨PyData.keyHash w.params "!=",.str "!=" b,.str "=" i⟩] o,#[]⟩):Uk P w K l:=
 ⟨D,m,OF [("<",j,">=",d),(">=",a,"<",g),("<=",e,">",n),(">",f,"<=",h),("=",c,"!=",k),("!=",b,"=",i)] p (by show([Sum.inr "<",Sum.inr ">=",Sum.inr "<=",Sum.inr ">",Sum.inr "=",Sum.inr "!="]:List Key).Nodup;symm)⟩
end Hw
namespace L2
open PySem PySem.Spec PyProof.Rows Hw
end L2
namespace Hw
open PySem L2
end Hw
namespace L2
open PySem PySem.Spec PyProof.Rows Hw
def RC (K:Frag):R2:=λx y H Q=>∃a b c,x=.ref a/\y=.ref b/\kL K H a c/\kL K H b []/\Q (.bl (decide (c=[]))) H
def Ka (f:X.A.units<cLine):kP X (compareOp .Eq) (RC X.K):=by
 intro t s U H x y v u Q I p n h;obtain⟨a,b,m,rfl,rfl,l,r,q⟩:=h;cases p;cases n;obtain⟨us,g,d,_⟩:=I.list l;obtain⟨B,o,i,_⟩:=I.list r;cases o;have l1:=g.length;by_cases c:m=[]
 .rw[jaB c] at q;subst c;cases g;exact SeqAt.RcAt.lists (e:=λ_=>true) d.isList i.isList rfl f (λj w k=>absurd k (by simp)) _ _ _ _ ⟨.bl true,H,I,M,q⟩
 .rw[jau c] at q;have:us≠[]:=λz=>c (by rw[z] at l1;exact jbp.mp l1);refine SeqAt.RcAt.lists_lengths d.isList i.isList ?_ f _ _ _ _ ⟨.bl false,H,I,M,q⟩;cases us with
  |nil=>exact absurd rfl this
  |cons _ _=>simp
end L2
namespace Hw
open PySem L2
end Hw
namespace L3
open PySem L2
inductive FG (a b:D) (S:av) (k:KD):Prop
 |mk (l m:List T) (h:lq S a=some l) (h1:lq S b=some m) (h2:l.length+m.length<=sizeLine) (hk:k (.lst (l++m)) S)
def Zu:zD:=λa b S k=>a.iD.elim (a.sD.elim (a.tD.elim (FG a b S k) λx=>b.tD.elim (FG a b S k) λy=>x.length+y.length<=sizeLine/\k (.tup (x++y)) S) λx=>b.sD.elim (FG a b S k) λy=>x.length+y.length<=sizeLine/\k (.str (x++y)) S) λi=>b.iD.elim (FG a b S k) λj=>k (.int (i+j)) S
def Wu:zD:=λa b S k=>a.iD.elim False λi=>b.iD.elim False λj=>k (.int (i - j)) S
def a1E:zD:=λa b S k=>b.iD.elim False λj=>a.iD.elim (∃l,lq S a=some l/\-(2 ^ 63)<=j/\j<2 ^ 63/\l.length*j.toNat<=sizeLine/\k (.lst (List.replicate j.toNat l).flatten) S) λi=>Uo i j/\k (.int (i*j)) S
def Vx:zD:=λa b S k=>a.iD.elim False λi=>b.iD.elim False λj=>a3c i j/\k (.int (i / j)) S
def a1F:zD:=λa b S k=>a.iD.elim False λi=>b.iD.elim False λj=>0<j/\k (.int (i % j)) S
def TH (f:Int->Int->Bool):zD:=λa b S k=>a.iD.elim False λi=>b.iD.elim False λj=>k (.bl (f i j)) S
mutual
def Fl:Nat->T->Prop
 |_,.v x=>gM x=true
 |0,_=>False
 |n+1,.tup l=>QD n l
 |n+1,.lst l=>QD n l
 |_+1,_=>False
def QD:Nat->List T->Prop
 |_,[]=>True
 |n,x::r=>Fl n x/\QD n r
end
def ScR (x y:V)(p:Prop):Prop:=cnd (Rr x y) p
def eq3 (n:Nat)(neg:Bool):zD
 |.t (.v x),.t (.v y),S,k=>ScR x y (k (.bl (xor neg (decide (x=y)))) S)
 |.t (.tup l),.t (.tup m),S,k=>(l=m/\QD n l/\k (.bl (!neg)) S)\/(m=[]/\k (.bl (xor neg (decide (l=[])))) S)
 |a,b,S,k=>∃l m,lq S a=some l/\lq S b=some m/\((l=m/\QD n l/\k (.bl (!neg)) S)\/(m=[]/\k (.bl (xor neg (decide (l=[])))) S))
noncomputable def vN:V->Option Unit
 |.cP=>some ()
 |_=>none
def a18 (neg:Bool):zD:=λa b S k=>b.vD.elim False λy=>(vN y).elim False λ_=>a.vD.elim (k (.bl neg) S) λx=>k (.bl (xor neg (decide (x=.cP)))) S
noncomputable def flT:T->Option V
 |.v x=>if gM x=true then some x else none
 |_=>none
noncomputable def yK:List T->Option (List V)
 |[]=>some []
 |x::r=>match flT x,yK r with
  |some v,some a=>some (v::a)
  |_,_=>none
inductive in3 (neg:Bool) (a b:D) (S:av) (k:KD):Prop
 |mk (x:V) (l:List T) (vs:List V) (h:a=.t (.v x)) (h1:gM x=true) (h2:sq S b=some l) (h3:yK l=some vs) (hk:k (.bl (xor neg (Ti x vs))) S)
theorem bU.rep (r:bU K G l vs):∀n:Nat,bU K G (List.replicate n l).flatten (List.replicate n vs).flatten
 |0=>.nil
 |n+1=>by
  exact r.app (bU.rep r n)
def bU.eK (r:bU K G l vs):vs=[]↔l=[]:=by
 have:=r.len;constructor
 .intro e;subst e;exact jbp.mp this
 .intro e;subst e;exact jbp.mp this.symm
theorem yJ:∀{l:List T}{us vs:List V},yK l=some vs->bU K G l us->us=vs/\vs.all gM=true
 |[],us,vs,e,r=>by
  cases e;exact⟨r,M⟩
 |x::l,us,vs,e,r=>by
  obtain⟨v,j,h,c,d⟩:=r;cases x with
  |v y=>
   by_cases a:gM y=true
   .have q1:flT (.v y)=some y:=jaf a;cases b:yK l with
    |none=>unfold yK at e;rw[q1,b] at e;cases e
    |some i=>
     unfold yK at e;rw[q1,b] at e;cases e;obtain⟨g,f⟩:=yJ b d;subst g;subst c;exact⟨h,by rw[List.all_cons,a,f];rfl⟩
   .have q1:flT (.v y)=none:=jae a;unfold yK at e;rw[q1] at e;cases e
  |_=>unfold yK at e;cases e
mutual
theorem Yd (le:Le G H):∀(n:Nat){x:T}{v w:V},Fl n x->Rp K G x v->Rp K G x w->HE K H n v w
 |n,.v y,v,w,f,d,c=>by
  unfold Rp at d c;unfold Fl at f;subst d;subst c;cases n with
  |zero=>exact⟨f,M⟩
  |succ n=>exact .inl ⟨f,M⟩
 |n+1,.tup l,v,w,f,d,c=>by
  unfold Rp at d c;unfold Fl at f;obtain⟨a,k,m,g,h⟩:=d;obtain⟨b,i,o,e,j⟩:=c;exact .inr ⟨a,b,k,i,m,o,.inr ⟨.of (le _ _ g),.of (le _ _ e)⟩,qk le n f h j⟩
 |n+1,.lst l,v,w,f,d,c=>by
  unfold Rp at d c;unfold Fl at f;obtain⟨a,k,m,g,h⟩:=d;obtain⟨b,i,o,e,j⟩:=c;exact .inr ⟨a,b,k,i,m,o,.inl ⟨.of (le _ _ g),.of (le _ _ e)⟩,qk le n f h j⟩
 |n+1,.DV l,v,w,f,d,c=>by unfold Fl at f;exact f.elim
 |n+1,.ins C p l,v,w,f,d,c=>by unfold Fl at f;exact f.elim
 |0,.tup l,v,w,f,d,c=>by unfold Fl at f;exact f.elim
 |0,.lst l,v,w,f,d,c=>by unfold Fl at f;exact f.elim
 |0,.DV l,v,w,f,d,c=>by unfold Fl at f;exact f.elim
 |0,.ins C p l,v,w,f,d,c=>by unfold Fl at f;exact f.elim
theorem qk (le:Le G H):∀(n:Nat){l:List T}{vs ws:List V},QD n l->bU K G l vs->bU K G l ws->Paired (HE K H n) vs ws
 |n,[],vs,ws,f,b,a=>by
  unfold bU at b a;subst b;subst a;exact .nil
 |n,x::l,vs,ws,f,b,a=>by
  unfold bU at b a;unfold QD at f;obtain⟨v,k,h,d,e⟩:=b;obtain⟨w,j,i,c,g⟩:=a;subst h;subst i;exact .cons (Yd le n f.1 d c) (qk le n f.2 e g)
end
def a0b {A:Prop}(h:A->G)(m:(A->G)->G):G:=m h
def aL:C9 X (binaryOp .Add) Zu:=by
 refine ie ((Xz.or (GD.or (Sx.or NX)))) ?_;rintro x y H Q ⟨Y,S,a,b,k,R,e,f,q,hk⟩;refine a0b (A:=FG a b S k) ?_ λo=>?_
 .rintro⟨l,m,h1,h2,h3,h4⟩;obtain⟨s,B,r,u,c⟩:=cR R e h1;obtain⟨w,v,n,C,d⟩:=cR R f h2;exact .inr (.inr (.inr ⟨s,w,B,v,r,n,u,C,by rw[<- c.len,<- d.len];exact h3,λp t=>yL R hk (c.app d) h4 p t⟩))
 rcases E9 q with q | ⟨i,g,q⟩
 .rcases E9 q with q | ⟨x,g,q⟩
  .rcases E9 q with q | ⟨x,g,q⟩
   .exact o q
   rcases E9 q with q | ⟨y,h,q⟩
   .exact o q
   cases D.Mp g;cases D.Mp h;obtain⟨s,B,r,u,c⟩:=dz e;obtain⟨w,v,n,C,d⟩:=dz f;refine .inr (.inr (.inl ⟨s,w,B,v,r,n,.of u,.of C,by rw[<- c.len,<- d.len];exact q.1,λz=>?_,λ_ z=>?_,λ_ _ p t=>Tr R hk (c.app d) q.2 p t⟩))
   .have z:=c.eK.mp z;subst z;rw[<- n];exact fin R hk f q.2
   .have z:=d.eK.mp z;subst z;rw[<- r];refine fin R hk e ?_;have:=q.2;rwa[jaw] at this
  rcases E9 q with q | ⟨y,h,q⟩
  .exact o q
  cases D.uS g;cases D.uS h;exact .inr (.inl ⟨_,_,aV e,aV f,q.1,fin R hk aZ q.2⟩)
 rcases E9 q with q | ⟨j,h,q⟩
 .exact o q
 cases D.nL g;cases D.nL h;exact .inl ⟨_,_,aV e,aV f,fin R hk aZ q⟩
def N7:C9 X (binaryOp .Sub) Wu:=by
 refine ie Xr ?_;rintro x y H Q ⟨Y,S,a,b,k,R,c,d,q,hk⟩;obtain⟨i,j,rfl,rfl,q⟩:=ii q;exact⟨_,_,aV c,aV d,fin R hk aZ q⟩
def IW:C9 X (binaryOp .Mult) a1E:=by
 refine ie (Xv.or Xs) ?_;rintro x y H Q ⟨Y,S,a,b,k,R,c,d,q,hk⟩;rcases E9 q with q | ⟨j,n,s⟩
 .exact q.elim
 cases D.nL n;rcases E9 s with⟨l,g,f,m,r,e⟩ | ⟨i,o,q⟩
 .obtain⟨p1,vs,e1,e2,e3⟩:=cR R c g;exact .inr ⟨p1,_,vs,e1,aV d,e2,f,m,by rw[<- e3.len];exact r,λp h=>yL R hk (e3.rep _) e p h⟩
 cases D.nL o;exact .inl ⟨_,_,aV c,aV d,q.1,fin R hk aZ q.2⟩
def N9:C9 X (binaryOp .FloorDiv) Vx:=by
 refine ie Sw ?_;rintro x y H Q ⟨Y,S,a,b,k,R,c,d,q,hk⟩;obtain⟨i,j,rfl,rfl,q⟩:=ii q;exact⟨_,_,aV c,aV d,q.1,fin R hk aZ q.2⟩
def U8:C9 X (binaryOp .Mod) a1F:=by
 refine ie Xw ?_;rintro x y H Q ⟨Y,S,a,b,k,R,c,d,q,hk⟩;obtain⟨i,j,rfl,rfl,q⟩:=ii q;exact⟨_,_,aV c,aV d,q.1,fin R hk aZ q.2⟩
def U9 (h:kP X (compareOp op) (WM λi j=>.bl (f i j))):C9 X (compareOp op) (TH f):=by
 refine ie h ?_;rintro x y H Q ⟨Y,S,a,b,k,R,c,d,q,hk⟩;obtain⟨i,j,rfl,rfl,q⟩:=ii q;exact⟨_,_,aV c,aV d,fin R hk aZ q⟩
def XF:C9 X (compareOp .Lt) (TH λi j=>decide (i<j)):=U9 a1m
def EG:C9 X (compareOp .Gt) (TH λi j=>decide (j<i)):=U9 a1n
def Rz (K:Frag):R2:=λx y H Q=>∃a b c,x=.ref a/\y=.ref b/\ki K H a c/\ki K H b []/\Q (.bl (!decide (c=[]))) H
def J8 (k:X.A.units<cLine):kP X (compareOp .NotEq) (Rz X.K):=by
 intro w s U H x y v u Q I r n h;obtain⟨a,b,f,rfl,rfl,m,t,q⟩:=h;cases r;cases n;obtain⟨us,d,i,_⟩:=I.tuple m;obtain⟨C,o,p,_⟩:=I.tuple t;cases o;refine SeqAt.RcNeAt.tuples (e:=λ_=>true) (show s.heap.IsTuple a us.toArray from i) (show s.heap.IsTuple b ([]:jcJ).toArray from p) k (λj B g=>absurd g (by simp)) _ _ _ _ ?_;have e:(!((List.range (min us.toArray.size ([]:jcJ).toArray.size)).all (λ_=>true)&&us.toArray.size==([]:jcJ).toArray.size))=!decide (f=[]):=by
  have l:=d.length;by_cases c:f=[]
  .subst c;cases d;simp
  .rw[jau c];have:us≠[]:=λz=>c (by rw[z] at l;exact jbp.mp l);cases us with
   |nil=>exact absurd rfl this
   |cons _ _=>simp
 rw[e];exact⟨.bl _,H,I,M,q⟩
def a41 (n:Nat)(C:X.A.units+1+n<cLine):C9 X (compareOp .Eq) (eq3 n false):=by
 have e:X.A.units<cLine:=by lia
 refine ie (a1o.or ((Xy n C).or ((NW e).or (Ka e)))) ?_;rintro x y H Q ⟨Y,S,a,b,k,R,t,v,q,hk⟩;unfold eq3 at q;split at q
 .rw[aV t,aV v];refine .inl ⟨(yW q).1,fin R hk aZ ?_⟩;have:=(yW q).2;rwa[jb7] at this
 .obtain⟨f,p,g,h,i⟩:=dz t;obtain⟨j,B,d,r,o⟩:=dz v;rcases q with⟨z,u,c⟩ | ⟨z,c⟩
  .subst z;exact .inr (.inl ⟨f,j,p,B,g,d,.inr ⟨.of h,.of r⟩,qk j7 n u i o,fin R hk aZ c⟩)
  .subst z;have w:=o.eK.mpr rfl;subst w;refine .inr (.inr (.inl ⟨f,j,p,g,d,.of h,.of r,?_⟩));rw[jb7] at c;rw[jbT.mpr i.eK];exact fin R hk aZ c
 .obtain⟨l,m,u,c,q⟩:=q;obtain⟨f,p,g,h,i⟩:=cR R t u;obtain⟨j,B,d,r,o⟩:=cR R v c;rcases q with⟨z,D,s⟩ | ⟨z,s⟩
  .subst z;exact .inr (.inl ⟨f,j,p,B,g,d,.inl ⟨.of h,.of r⟩,qk j7 n D i o,fin R hk aZ s⟩)
  .subst z;have w:=o.eK.mpr rfl;subst w;refine .inr (.inr (.inr ⟨f,j,p,g,d,.of h,.of r,?_⟩));rw[jb7] at s;rw[jbT.mpr i.eK];exact fin R hk aZ s
def N8 (n:Nat)(C:X.A.units+1+n<cLine):C9 X (compareOp .NotEq) (eq3 n true):=by
 have e:X.A.units<cLine:=by lia
 refine ie (a1l.or ((Xu n C).or ((J8 e).or (NV e)))) ?_;rintro x y H Q ⟨Y,S,a,b,k,R,t,v,q,hk⟩;unfold eq3 at q;split at q
 .rw[aV t,aV v];refine .inl ⟨(yW q).1,fin R hk aZ ?_⟩;have:=(yW q).2;rwa[jb8] at this
 .obtain⟨f,p,g,h,i⟩:=dz t;obtain⟨j,B,d,r,o⟩:=dz v;rcases q with⟨z,u,c⟩ | ⟨z,c⟩
  .subst z;exact .inr (.inl ⟨f,j,p,B,g,d,.inr ⟨.of h,.of r⟩,qk j7 n u i o,fin R hk aZ c⟩)
  .subst z;have w:=o.eK.mpr rfl;subst w;refine .inr (.inr (.inl ⟨f,j,p,g,d,.of h,.of r,?_⟩));rw[jb8] at c;rw[jbT.mpr i.eK];exact fin R hk aZ c
 .obtain⟨l,m,u,c,q⟩:=q;obtain⟨f,p,g,h,i⟩:=cR R t u;obtain⟨j,B,d,r,o⟩:=cR R v c;rcases q with⟨z,D,s⟩ | ⟨z,s⟩
  .subst z;exact .inr (.inl ⟨f,j,p,B,g,d,.inl ⟨.of h,.of r⟩,qk j7 n D i o,fin R hk aZ s⟩)
  .subst z;have w:=o.eK.mpr rfl;subst w;refine .inr (.inr (.inr ⟨f,j,p,g,d,.of h,.of r,?_⟩));rw[jb8] at s;rw[jbT.mpr i.eK];exact fin R hk aZ s
def SE {w:V}(h:∀y,x≠.v y)(r:Rp K G x w):w≠.cP:=by
 cases x with
 |v y=>exact absurd rfl (h y)
 |tup l=>unfold Rp at r;obtain⟨a,b,e,_⟩:=r;rw[e];exact λz=>nomatch z
 |lst l=>unfold Rp at r;obtain⟨a,b,e,_⟩:=r;rw[e];exact λz=>nomatch z
 |DV l=>unfold Rp at r;obtain⟨a,b,e,_⟩:=r;rw[e];exact λz=>nomatch z
 |ins C d l=>unfold Rp at r;obtain⟨a,c,b,e,_⟩:=r;rw[e];exact λz=>nomatch z
theorem Tg {K:Frag}{Y:jcK}{S:av}{H:Hp}{k:KD}{Q:VK}{neg:Bool}{a b:D}{x y:V}(R:R3 K Y S H)(hk:∀v H',up K Y H k v H'->Q v H')(d:jI K Y (res Y H) a x)(h:jI K Y (res Y H) b y)
  (q:a18 neg a b S k):y=.cP/\Q (.bl (xor neg (decide (x=.cP)))) H:=by
 obtain⟨f,g,q⟩:=G7 q;obtain⟨_,c,q⟩:=G7 q;have c:f=.cP:=by cases f<;>first | rfl | cases c
 subst c;cases D.Mc g;refine⟨aV h,?_⟩;cases a with
 |ob n=>
  obtain⟨p,_,e⟩:=d;rw[jau (by rw[e];exact λz=>nomatch z),Bool.xor_false];exact fin R hk aZ q
 |t z=>
  cases z with
  |v z=>rw[aV d];exact fin R hk aZ q
  |_=>
   rw[jau (SE (λz e=>by cases e) (show Rp _ _ _ _ from d)),Bool.xor_false];exact fin R hk aZ q
theorem lC:C9 X (compareOp .IsNot) (a18 true):=ie Su (by
 rintro x y H Q ⟨Y,S,a,b,k,R,c,d,q,hk⟩;have:=Tg R hk c d q;rwa[jb8] at this)
def XG:C9 X (compareOp .In) (in3 false):=by
 refine ie J9 ?_;rintro x y H Q ⟨Y,S,a,b,k,R,e,m,⟨z,l,r,h,g,i,n,q⟩,hk⟩;subst h;obtain⟨p,us,j,d,f⟩:=sV R m i;obtain⟨c,o⟩:=yJ n f;subst c;rw[aV e];rw[jb7] at q;exact⟨p,us,j,d,g,o,fin R hk aZ q⟩
def IV:C9 X (compareOp .NotIn) (in3 true):=by
 refine ie BU ?_;rintro x y H Q ⟨Y,S,a,b,k,R,e,m,⟨z,l,r,h,g,i,n,q⟩,hk⟩;subst h;obtain⟨p,us,j,d,f⟩:=sV R m i;obtain⟨c,o⟩:=yJ n f;subst c;rw[aV e];rw[jb8] at q;exact⟨p,us,j,d,g,o,fin R hk aZ q⟩
end L3
namespace Hw
open PySem L2
theorem yt {α:Type} [DecidableEq α]:∀{l m:List α},l.Nodup->(∀x∈l,x∈m)->l.length<=m.length
 |[],m,_,_=>jaD _
 |a::r,m,h,hs=>by
  have f:=hs a (jay ..);have c:=jbv.mp h;have g:=yt c.2 λx d=>by
   have b:x≠a:=λe=>c.1 (e ▸ d);exact(List.mem_erase_of_ne b).mpr (hs x (jav _ d))
  rw[List.length_erase_of_mem f] at g;have:=List.length_pos_of_mem f;show r.length+1<=m.length;lia
end Hw
namespace L2
open PySem PySem.Spec PyProof.Rows
noncomputable def notStar:Expr->Bool
 |.Starred ..=>false
 |_=>true
def gk (h:notStar e=true):starEach (e::a) env=(false,eval e env)::starEach a env:=by
 cases e<;>first | rfl | cases h
theorem fR:∀{es:jcL},es.all notStar=true->(backTo pos (starEach es env)).any (·.1)=false
 |[],_=>rfl
 |e::es,h=>by
  have h:(notStar e&&es.all notStar)=true:=h;rw[ja3] at h;rw[gk h.1];show(false||(backTo pos (starEach es env)).any (·.1))=false;rw[fR h.2];rfl
theorem DI:∀{es:jcL},es.all notStar=true->(backTo pos (starEach es env)).all (λx=>!x.1)=true
 |[],_=>rfl
 |e::es,h=>by
  have h:(notStar e&&es.all notStar)=true:=h;rw[ja3] at h;rw[gk h.1];show(true&&(backTo pos (starEach es env)).all (λx=>!x.1))=true;rw[DI h.2];rfl
def kD (b:PE X e te)(a:PA X es t)(h:autoParam (notStar e=true) zi):PA X (e::es) (UC te t):=ou b a (gk h)
theorem Ei (F:dX X.prog X.w X.K X.mg X.base CX k f fd ps sp)(b:cV k X.A)(h:Gl X x)(i:X.mg x=some (.ref f))(hk:keepIn X.K (.ref f)=true)(g:Binds X.K fd ps ds)(hd:Vals A9 ds)(j:Passes CX X E)
  (l:PA X (e::es) t) (c:autoParam (notStar e=true) zi) (d:autoParam (es.all notStar=true) zi) (a:autoParam ((x==("__debug__":Str))=false) zn):PE X (.Call (.Name x p) (e::es) [] pos) (UD sp A9 E t):=
 Sk F b h i hk g hd j l a (gk c) (fR d)
theorem Eh (jcE:Mk X.K C f)(F:dX X.prog X.w X.K X.mg X.base CX k f fd ps sp)(b:cV (k+1) X.A)(h:Gl X x)(i:X.mg x=some (.ref C))(g:Binds X.K fd ps ds)(hd:Vals A9 ds)(j:Passes CX X E)
  (l:PA X (e::es) t) (c:autoParam (notStar e=true) zi) (d:autoParam (es.all notStar=true) zi) (a:autoParam ((x==("__debug__":Str))=false) zn):PE X (.Call (.Name x p) (e::es) [] pos) (Ux C sp A9 E t):=
 Se jcE F b h i g hd j l a (gk c) (fR d)
theorem tE {X:Cx}{x:Str}{p:Pos}{pos:Pos}{e:Expr}{es:jcL}{t:TA}{id:String}{r:List V->Hp->VK->Prop}(f:eB X (.builtin id) r)(d:Gl X x)(h:X.mg x=none)(g:bootBuiltins x=some (.builtin id))(j:PA X (e::es) t)(c:autoParam (notStar e=true) zi)(b:autoParam (es.all notStar=true) zi)(i:autoParam (x≠"__name__") zn)(a:autoParam ((x==("__debug__":Str))=false) zn) :
  PE X (.Call (.Name x p) (e::es) [] pos) (tCB r t):=NR f d h g j i a (gk c) (fR b)
theorem lu {T:String}(f:eB X (.type T) r)(d:Gl X x)(h:X.mg x=none)(g:bootBuiltins x=some (.type T))(j:PA X (e::es) t)(c:autoParam (notStar e=true) zi)(b:autoParam (es.all notStar=true) zi)(i:autoParam (x≠"__name__") zn)(a:autoParam ((x==("__debug__":Str))=false) zn) :
  PE X (.Call (.Name x p) (e::es) [] pos) (tCB r t):=J5 f d h g j i a (gk c) (fR b)
theorem Xm {X:Cx}{e:Expr}{es:jcL}{t:TA}{T id:String}{a:Str}{r:V->List V->Hp->VK->Prop}{o:Expr}{g:TE}{f b:Pos}(j:PlainAttrs T)(c:Slot T a id)(d:typeOf (.builtin id)=pure (.type "method_descriptor"))(l:FH X id r)(n:PE X o g)(p:PA X (e::es) t)
  (i:autoParam (notStar e=true) zi) (h:autoParam (es.all notStar=true) zi) (q:autoParam (es.length<20) zn) (k:autoParam (attributeBase o a X.env (eval o X.env)=eval o X.env) zi) (m:autoParam ((f.endLine==b.line)=true) zi) :
  PE X (.Call (.Attribute o a f) (e::es) [] b) (tBM X.K T r g t):=
 a1g j c d l n p k (by
  rw[DI (show(e::es).all notStar=true by show(notStar e&&es.all notStar)=true;rw[i,h];rfl)];show(true&&true&&decide (es.length+1+0+0<30))=true;rw[jaB (by lia)];rfl) m (gk i) (fR h)
end L2
namespace L3
open PySem L2 Hw
section
variable {tB:vg}
def a0D (t u:vg):vg:=λZ S k=>t Z S λc a=>if c=true then u Z a k else k false a
def a4n (t u:vg):vg:=λZ S k=>t Z S λc a=>if c=true then k true a else u Z a k
def a0o (t:vg):vg:=λZ S k=>t Z S λc a=>k (!c) a
theorem Gx (l:QT X a tA)(j:QW X (.BoolOp .And (b::rest) pos) tB):QW X (.BoolOp .And (a::b::rest) pos) (a0D tA tB):=
 U1 (W3 l j) (by rintro U H Q ⟨Y,S,Z,k,R,D,q,hk⟩;exact⟨Y,S,Z,_,R,D,q,(by
  rintro c m ⟨g,h,d,f,e⟩;cases c with
  |true=>exact⟨g,h,Z,k,f,D.gr d,e,λz i u=>hk z i (u.gr d)⟩
  |false=>exact hk _ _ ⟨g,h,d,f,e⟩)⟩)
theorem Eb (l:QT X a tA)(j:QW X (.BoolOp .Or (b::rest) pos) tB):QW X (.BoolOp .Or (a::b::rest) pos) (a4n tA tB):=
 U1 (a1b l j) (by rintro U H Q ⟨Y,S,Z,k,R,D,q,hk⟩;exact⟨Y,S,Z,_,R,D,q,(by
  rintro c m ⟨g,h,d,f,e⟩;cases c with
  |false=>exact⟨g,h,Z,k,f,D.gr d,e,λz i u=>hk z i (u.gr d)⟩
  |true=>exact hk _ _ ⟨g,h,d,f,e⟩)⟩)
def BI (b:QT X a tA):QW X (.BoolOp .And [a] pos) tA:=RQ b
def xG (b:QT X a tA):QW X (.BoolOp .Or [a] pos) tA:=W2 b
def qw (h:QW X e tA):QT X e tA:=h.pt
theorem Ng (h:QT X a tA):QT X (.UnaryOp .Not a pos) (a0o tA):=
 Nu (W5 h) (by rintro U H Q ⟨Y,S,Z,k,R,D,q,hk⟩;exact⟨Y,S,Z,_,R,D,q,(by rintro c i ⟨e,g,f,d,b⟩;exact hk _ _ ⟨e,g,f,d,b⟩)⟩)
def Ws (b tb:cI):cI:=λZ S k=>b Z S λx a=>∃c,x=.bl c/\if c=true then tb Z a k else k (.bl false) a
def a0l (b tb:cI):cI:=λZ S k=>b Z S λx a=>∃c,x=.bl c/\if c=true then k (.bl true) a else tb Z a k
def Wh (b:cI):cI:=λZ S k=>b Z S λx a=>∃c,x=.bl c/\k (.bl (!c)) a
def UY {op}(h:QE X a t):QE X (.BoolOp op [a] pos) t:=Xh h
theorem a07 (o:QE X a ta)(m:QE X (.BoolOp .And (b::rest) pos) tb):QE X (.BoolOp .And (a::b::rest) pos) (Ws ta tb):=
 cy (Xn o m) (by rintro U H Q ⟨Y,S,Z,k,R,D,q,hk⟩;exact⟨Y,S,Z,_,R,D,q,(by
  rintro v p ⟨i,j,d,f,h,n,c,e,g⟩;subst e;refine⟨c,aV n,?_⟩;cases c with
  |true=>exact⟨i,j,Z,k,h,D.gr f,g,λz l u=>hk z l (u.gr f)⟩
  |false=>exact hk _ _ ⟨i,j,.bl false,f,h,aZ,g⟩)⟩)
theorem a4T (o:QE X a ta)(m:QE X (.BoolOp .Or (b::rest) pos) tb):QE X (.BoolOp .Or (a::b::rest) pos) (a0l ta tb):=
 cy (a1e o m) (by rintro U H Q ⟨Y,S,Z,k,R,D,q,hk⟩;exact⟨Y,S,Z,_,R,D,q,(by
  rintro v p ⟨i,j,d,f,h,n,c,e,g⟩;subst e;refine⟨c,aV n,?_⟩;cases c with
  |false=>exact⟨i,j,Z,k,h,D.gr f,g,λz l u=>hk z l (u.gr f)⟩
  |true=>exact hk _ _ ⟨i,j,.bl true,f,h,aZ,g⟩)⟩)
theorem a02 (l:QE X a ta):QE X (.UnaryOp .Not a pos) (Wh ta):=
 cy (Xi l) (by rintro U H Q ⟨Y,S,Z,k,R,D,q,hk⟩;exact⟨Y,S,Z,_,R,D,q,(by
  rintro v m ⟨g,i,d,h,f,j,c,e,b⟩;subst e;exact⟨c,aV j,hk _ _ ⟨g,i,.bl (!c),h,f,aZ,b⟩⟩)⟩)
def fq {X:Cx}{e:Expr}{t:cI}(h:QE X e t)(a:autoParam (∀whole,isTrue e X.env whole=(do let v <- whole;standAt e.pos;holding [v] (truthy v))) jp):QT X e (qc t):=Nu (W4 h a) (Aw λ_ _ _ z=>z)
def uv:mH:=λ_ S k=>k [] S
def mR (c:cI)(tr:mH):mH:=λZ S k=>c Z S λx b=>tr Z b λd a=>k (x::d) a
def cG:QA X [] uv:=U7 ly (by rintro U H Q ⟨Y,S,Z,k,R,D,q,hk⟩;exact hk _ _ ⟨Y,S,[],.refl,R,.nil,q⟩)
theorem qa (r:QE X e te)(c:QA X es t)(h:autoParam (notStar e=true) zi):QA X (e::es) (mR te t):=
 U7 (kD r c h) (by rintro U H Q ⟨Y,S,Z,k,R,D,q,hk⟩;exact⟨Y,S,Z,_,R,D,q,(by rintro v x ⟨l,m,d,b,j,o,g⟩;exact   ⟨l,m,Z,_,j,D.gr b,g,(by rintro w u ⟨p,f,n,a,R2,i,s⟩;exact hk _ _ ⟨p,f,d::n,b.trans a,R2,.cons (o.gr a) i,s⟩)⟩)⟩)
noncomputable def ts?:List D->Option (List T)
 |[]=>some []
 |.t x::r=>match ts? r with
  |some l=>some (x::l)
  |none=>none
 |.ob _::_=>none
theorem wG:∀{ds:List D}{l:List T}{vs:List V},ts? ds=some l->eY K Y G ds vs->bU K G l vs
 |[],l,_,e,.nil=>by
  cases e;exact .nil
 |.t x::r,l,_,e,.cons h t=>by
  cases q:ts? r with
  |none=>unfold ts? at e;rw[q] at e;cases e
  |some m=>
   unfold ts? at e;rw[q] at e;cases e;exact .cons h (wG q t)
 |.ob n::r,l,_,e,.cons h t=>by cases(show none=some l from e)
def P9 (ds:List D)(f:List T->Prop):Prop:=Lp (ts? ds) λl=>cnd (Nat.ble l.length 1000) (f l)
def P9.of (h:P9 ds f):∃l,ts? ds=some l/\l.length<=sizeLine/\f l:=by
 obtain⟨l,e,h⟩:=mj h;obtain⟨b,h⟩:=yW h;exact⟨l,e,jai (Nat.le_of_ble_eq_true b) (by decide),h⟩
def HY (t:mH):cI:=λZ S k=>t Z S λb a=>P9 b λl=>k (.tup l) a
def Uz (t:mH):cI:=λZ S k=>t Z S λb a=>P9 b λl=>k (.lst l) a
def Uy (t:mH):cI:=λZ S k=>t Z S λb a=>P9 b λl=>k (.ob a.length) (a++[.lst l])
theorem aR {x1}(h:QA X es t):QE X (.Tuple es x1 pos) (HY t):=
 cy (Xg h) (by rintro U H Q ⟨Y,S,Z,k,R,D,q,hk⟩;exact⟨Y,S,Z,_,R,D,q,(by
  rintro m o ⟨i,j,n,f,d,g,a⟩;obtain⟨l,e,z,a⟩:=a.of;have b:=wG e g;exact⟨by rw[<- b.len];exact z,Tr d (λv c u=>hk v c (u.gr f)) b a⟩)⟩)
theorem bG (h:QA X es t):QE X (.List es pos) (Uz t):=
 cy (BR h) (by rintro U H Q ⟨Y,S,Z,k,R,D,q,hk⟩;exact⟨Y,S,Z,_,R,D,q,(by
  rintro m o ⟨i,j,n,f,d,g,a⟩;obtain⟨l,e,z,a⟩:=a.of;have b:=wG e g;exact⟨by rw[<- b.len];exact z,yL d (λv c u=>hk v c (u.gr f)) b a⟩)⟩)
theorem gI (h:QA X es t):QE X (.List es pos) (Uy t):=
 cy (BR h) (by rintro U H Q ⟨Y,S,Z,k,R,D,q,hk⟩;exact⟨Y,S,Z,_,R,D,q,(by
  rintro m o ⟨i,j,n,f,d,g,a⟩;obtain⟨l,e,z,a⟩:=a.of;have b:=wG e g;exact⟨by rw[<- b.len];exact z,Pb d (λv c u=>hk v c (u.gr f)) b a⟩)⟩)
end
noncomputable def iq (S:av):D->Option (Addr×jcI×List D)
 |.t (.ins C a l)=>some (C,a,l.map .t)
 |.ob n=>match S[n]? with
  |some (.ins C a l)=>some (C,a,l)
  |_=>none
 |_=>none
def eY.len (r:eY K Y G l vs):l.length=vs.length:=jbz r
theorem eY.look:∀{ns:jcI}{l:List D}{vs:List V}{f:Str}{x:D},eY K Y G l vs->(ns.zip l).lookup f=some x->∃v,(ns.zip vs).lookup f=some v/\jI K Y G x v
 |[],l,vs,f,x,_,k=>by simp at k
 |n::ns,[],vs,f,x,_,k=>by simp at k
 |n::ns,y::l,_,f,x,.cons (b:=v) e2 e3,k=>by
  rw[jcm,List.lookup_cons] at k;rw[jcm,List.lookup_cons];cases q:(f==n) with
  |true=>rw[q] at k;cases k;exact⟨v,M,e2⟩
  |false=>rw[q] at k;exact eY.look e3 k
theorem tR (R:R3 K Y S H):∀{d:D}{v:V}{C:Addr}{ns:jcI}{l:List D},jI K Y (res Y H) d v->iq S d=some (C,ns,l)->
  ∃a dx vs,v=.ref a/\H a=some (.ins C dx (ns.zip vs))/\ns.length=vs.length/\zC K C ns/\eY K Y (res Y H) l vs
 |.t (.ins s b x),v,C,ns,l,r,e=>by
  cases e;have r:=r;obtain⟨a,dx,vs,k,f,g,p,c⟩:=r;exact⟨a,dx,vs,k,j7 _ _ f,g,p,eY.of c⟩
 |.t (.v _),_,_,_,_,_,e=>nomatch e
 |.t (.tup _),_,_,_,_,_,e=>nomatch e
 |.t (.lst _),_,_,_,_,_,e=>nomatch e
 |.t (.DV _),_,_,_,_,_,e=>nomatch e
 |.ob n,v,C,ns,l,⟨a,u,r⟩,e=>by
  have e:(match S[n]? with | some (.ins C ns l)=>some (C,ns,l) | _=>none)=some (C,ns,l):=e;cases q:S[n]? with
  |none=>rw[q] at e;cases e
  |some o=>
   rw[q] at e;cases o with
   |ins s b m=>
    cases e;obtain⟨dx,vs,i,h,j,w⟩:=R.ok n a _ u q;exact⟨a,dx,vs,r,i,h,j,w⟩
   |wm m=>cases e
   |Qw _ _ m=>cases e
   |gh _ _=>cases e
   |lst m=>cases e
def ZE (f:Str)(d:D)(S:av)(k:KD):Prop:=Lp (iq S d) λp=>Lp ((p.2.1.zip p.2.2).lookup f) λx=>k x S
def ZE.of (h:ZE f d S k):∃C ns l x,iq S d=some (C,ns,l)/\(ns.zip l).lookup f=some x/\k x S:=by
 obtain⟨⟨C,ns,l⟩,e,h⟩:=mj h;obtain⟨x,a,h⟩:=mj h;exact⟨C,ns,l,x,e,a,h⟩
def UA (b:cI)(f:Str):cI:=λZ S k=>b Z S λd a=>ZE f d a k
theorem EN {α:Type}:∀{ns:jcI}{l:List α}{f:Str}{x:α},(ns.zip l).lookup f=some x->f∈ns
 |[],l,f,x,h=>by simp at h
 |n::ns,[],f,x,h=>by simp at h
 |n::ns,y::l,f,x,h=>by
  rw[jcm,List.lookup_cons] at h;cases q:(f==n) with
  |true=>exact jah.mpr (.inl (eq_of_beq q))
  |false=>rw[q] at h;exact jav _ (EN h)
theorem a06 (z:QE X e ta)(A:attributeBase e f X.env (eval e X.env)=eval e X.env):QE X (.Attribute e f pos) (UA ta f):=
 cy (Xl z A) (by rintro U H Q ⟨Y,S,Z,k,R,D,q,hk⟩;exact⟨Y,S,Z,_,R,D,q,(by
  rintro v G ⟨m,p,d,y,c,s,b⟩;obtain⟨C,B,l,x,n,g,b⟩:=b.of;obtain⟨a,i,F,r,u,E,h,t⟩:=tR c s n;obtain⟨w,o,j⟩:=eY.look t g;exact⟨a,C,i,_,w,r,u,h.cls,h.no f (EN g),o,hk _ _ ⟨m,p,x,y,c,j,b⟩⟩)⟩)
abbrev mK:=List D->av->KD->Prop
inductive cu (K:Frag) (sp:mK) (vs:List V) (H:Hp) (Q:VK) (_:XK):Prop
 |mk (Y S ds k):R3 K Y S H->eY K Y (res Y H) ds vs->sp ds S k->(∀v H',up K Y H k v H'->Q v H')->cu K sp vs H Q _
def sR (sp:mK)(t:mH):cI:=λZ S k=>t Z S λb a=>sp b a k
theorem Ox (e:Gr Y H a b)(g:R3 K a c b)(h:eY K a (res a b) ds vs)(f:sp ds c d)(hk:∀v H',up K Y H d v H'->Q v H'):cu K sp vs b Q E:=
 ⟨a,c,ds,d,g,h,f,λv H' u=>hk v H' (u.gr e)⟩
theorem aa (F:Dn X.prog X.w X.K X.mg X.base k x ps (cu X.K sp))(b:cV k X.A)(c:Gl X x)(s:QA X (e::es) t)(j:autoParam (notStar e=true) zi)(l:autoParam (es.all notStar=true) zi)(a:autoParam ((x==("__debug__":Str))=false) zn) :
  QE X (.Call (.Name x p) (e::es) [] pos) (sR sp t):=by
 obtain⟨f,u,F,i,hk,n⟩:=F;refine cy (Ei F b c i hk n .nil xM s j l a) ?_;rintro U H Q ⟨Y,S,Z,k,R,D,q,hk⟩;refine⟨Y,S,Z,_,R,D,q,?_⟩;rintro v o ⟨y,z,d,m,h,r,g⟩;show cu X.K sp (v++[]) o Q E0;rw[jaw];exact Ox m h r g hk
def Ms (P:Program)(w:World)(K:Frag)(a:Str->jcN)(base:Heap)(k:Nat)(n:Nat)(cl:Nat->Addr)(m:Str)(ps:jcI)(sp:Nat->mK):Prop:=
 ∀j,j<n->Mt P w K a base k (cl j) m ps (cu K (sp j))
inductive a28 (n:Nat) (cl:Nat->Addr) (m:Str) (sp:Nat->mK) (t:mH) (Z:Sl) (d:D) (S:av) (k:KD):Prop
 |mk (j:Nat) (ns:List Str) (l:List D) (h:j<n) (h1:iq S d=some (cl j,ns,l)) (h2:ns.contains m=false) (hk:t Z S λds S2=>sp j (d::ds) S2 k)
def Ml (n:Nat)(cl:Nat->Addr)(m:Str)(sp:Nat->mK)(b:cI)(t:mH):cI:=λZ S k=>b Z S λd a=>a28 n cl m sp t Z d a k
theorem tM {m:Str}{ns:jcI}{vs:List V}(h:ns.contains m=false):(ns.zip vs).lookup m=none:=bU.tM (by
 intro z;rw[List.contains_iff_mem.mpr z] at h;cases h)
theorem j8 {X:Cx}{o:Expr}{e:Expr}{es:jcL}{ta:cI}{t:mH}{m:Str}{pos:Pos}{B1:Pos}{k:Nat}{ps:jcI}{n:Nat}{cl:Nat->Addr}{Qm:Nat->mK}{pl:Sem Bool}(he:QE X o ta)(jcE:Ms X.prog X.w X.K X.mg X.base k n cl m ps Qm)(hr:cV k X.A)(ha:QA X (e::es) t)(L:autoParam (notStar e=true) zi)(M:autoParam (es.all notStar=true) zi)
  (ht:autoParam (eval (.Call (.Attribute o m B1) (e::es) [] pos) X.env=(do
   let ov <- eval o X.env
   standAt B1.atName
   let(f,first) <- holding [ov] (getMethod ov m pl)
   callWith pos f first (backTo pos (starEach (e::es) X.env)) (backToKw pos (keywordEach [] X.env)))) zi) :
  QE X (.Call (.Attribute o m B1) (e::es) [] pos) (Ml n cl m Qm ta t):=by
 rintro g s U H Q I ⟨Y,S,Z,k,R,D,q,hk⟩;refine jch (dF (he g s U H _ I ⟨Y,S,Z,_,R,D,q,λv b z=>z⟩) ?_) ht;rintro u s1 ⟨x,H1,y,rx,J,O,d,C,h,p,j,ns,l,hj,N,c,q1⟩;obtain⟨a,dx,vs,P,e2,e3,T,e5⟩:=tR h p N;subst P;obtain rfl:u=Value.ref a:=rx;obtain⟨f,fd,F,B,hb⟩:=jcE j hj;refine qm y e2 T.cls B (tM c) ?_;refine jbY I.ok.mod.S8 B.kp (dF (ha pos g s1 U H1 _ y ⟨J,O,Z,_,h,D.gr C,q1,λv b z=>z⟩) ?_) (gk L) (fR M);rintro us s2 ⟨ws,H2,E,r,V,G,W,i,R2,r2,q2⟩;refine⟨E.mE,xF (vs:=.ref a::ws) F hr hb .nil xM E (.cons rfl r) ?_⟩;rw[jaw];exact⟨V,G,d::W,k,R2,.cons (p.gr i) r2,q2,λv b u=>hk v b (u.gr (C.trans i))⟩
theorem aH {X:Cx}{o:Expr}{ta:cI}{m:Str}{pos:Pos}{B1:Pos}{k:Nat}{ps:jcI}{n:Nat}{cl:Nat->Addr}{Qm:Nat->mK}{pl:Sem Bool}(P:QE X o ta)(jcE:Ms X.prog X.w X.K X.mg X.base k n cl m ps Qm)(E:cV k X.A)
  (L:autoParam (eval (.Call (.Attribute o m B1) [] [] pos) X.env=(do
   let ov <- eval o X.env
   standAt B1.atName
   let(f,first) <- holding [ov] (getMethod ov m pl)
   callWith pos f first (backTo pos (starEach [] X.env)) (backToKw pos (keywordEach [] X.env)))) zi) :
  QE X (.Call (.Attribute o m B1) [] [] pos) (Ml n cl m Qm ta uv):=by
 rintro p s U H Q I ⟨Y,S,Z,k,R,D,q,hk⟩;refine jch (dF (P p s U H _ I ⟨Y,S,Z,_,R,D,q,λv e z=>z⟩) ?_) L;rintro u s1 ⟨x,H1,c,M,r,y,d,N,g,h,j,ns,l,T,t,b,J⟩;obtain⟨a,V,vs,B,G,e3,C,e5⟩:=tR g h t;subst B;obtain rfl:u=Value.ref a:=M;obtain⟨f,fd,F,i,O⟩:=jcE j T;refine qm c G C.cls i (tM b) ?_;refine PySem.W.callWith_K0 c.mE i.kp (xF (vs:=[.ref a]) F E O .nil xM c (.cons rfl .nil) ?_);exact⟨r,y,[d],k,g,.cons h .nil,J,λv e u=>hk v e (u.gr N)⟩
def Y9 (n:Nat):D->Prop
 |.t _=>True
 |.ob m=>m<n
def Bd (n:Nat):O->Prop
 |.ins _ _ l=>∀d∈l,Y9 n d
 |.gh ρ0 _=>ρ0.length<=n
 |_=>True
theorem jN {α β:Type}{F:α->β->Prop}:∀{l:List α}{m:List β},Paired F l m->∀a∈l,∃b,F a b
 |_,_,.nil,a,h=>nomatch h
 |_,_,.cons r t,a,h=>by
  rcases jah.mp h with rfl | h
  .exact⟨_,r⟩
  .exact jN t a h
def jI.cl {w:V}(r:jI K Y G d w):Y9 Y.length d:=by
 cases d with
 |t x=>trivial
 |ob n=>obtain⟨a,h,_⟩:=r;exact(jar.mp h).1
theorem HA.cl:∀{o:O},HA K Y G h o->Bd Y.length o
 |.lst l,_=>trivial
 |.wm l,_=>trivial
 |.Qw _ _ l,_=>trivial
 |.gh ρ0 _,⟨_,e,_⟩=>Nat.le_of_not_lt λz=>absurd (jar.mp (e Y.length _ (jaT z))).1 (ja4 _)
 |.ins C c l,⟨a,b,_,_,_,r⟩=>λd hd=>let⟨_,q⟩:=jN r d hd;q.cl
theorem R3.cl (r:R3 K Y S H):∀o∈S,Bd S.length o:=λo b=>by
 obtain⟨n,a⟩:=jcg.mp b;have c:n<Y.length:=by rw[r.len];exact(jar.mp a).1
 rw[<- r.len];exact(r.ok n Y[n] o (jaT c) a).cl
def jI.pop (le:Le G G'){w:V}(r:jI K (Y++e) G d w)(c:Y9 Y.length d):jI K Y G' d w:=by
 cases d with
 |t x=>exact Rp.le le r
 |ob n=>
  obtain⟨a,h,q⟩:=r;refine⟨a,?_,q⟩;rw[jaU (show n<Y.length from c)] at h;exact h
theorem uV {α β:Type}{F c:α->β->Prop}:∀{l:List α}{m:List β},(∀a∈l,∀b,F a b->c a b)->Paired F l m->Paired c l m
 |_,_,_,.nil=>.nil
 |_,_,h,.cons r t=>.cons (h _ jay _ r) (uV (λa d b=>h a (jav _ d) b) t)
theorem HA.pop (le:Le G G'):∀{o:O},HA K (Y++e) G h o->Bd Y.length o->HA K Y G' h o
 |.lst l,⟨g,f,d⟩,_=>⟨g,f,d.le le⟩
 |.wm l,⟨g,f,d⟩,_=>⟨g,f,gy (λ_ _ z=>⟨z.1,z.2.le le⟩) d⟩
 |.Qw ob g l,⟨f,d⟩,_=>⟨f,gy (λ_ _ z=>⟨z.1,z.2.le le⟩) d⟩
 |.gh ρ0 q,⟨f,d,i⟩,c=>⟨f,λn a z=>by
   have l:=jaL (jar.mp z).1 c;have:=d n a z;rwa[jaU l] at this,i.trans le⟩
 |.ins C p l,⟨j,g,f,d,i,k⟩,c=>⟨j,g,f,d,i,uV (λa m b z=>z.pop le (c a m)) k⟩
theorem kZ:Le (res (Y++e) H) (res Y H):=λa o h=>by
 obtain⟨c,b⟩:=res_some h;exact nv (λz=>c (jaA _ z)) b
def R3.pop (r:R3 K (Y++e) (S++g) H)(f:Y.length=S.length)(c:∀o∈S,Bd S.length o):R3 K Y S H:=by
 refine⟨f,(jb0.mp r.nd).1,λn a o d b=>?_⟩;have l1:=(jar.mp d).1;have l2:=(jar.mp b).1;have q:=r.ok n a o (by rw[jaU l1];exact d) (by rw[jaU l2];exact b);exact q.pop kZ (by rw[f];exact c o (jbB b))
structure Mkr (P:Program)(w:World)(K:Frag)(mg:Str->Option Value)(base:Heap)(k:Nat)(C:Addr)(x:Str)(ps:List Str)(sp:mK):Prop where
 mr:Mr P w K mg base k C ps (cu K sp)
 ok:zC K C []
 mg:mg x=some (.ref C)
def Vb (C:Addr)(a:av)(k:KD)(d:D)(c:av):Prop:=d=.cP/\∃b l,c=a++[.ins C b (l.map .t)]/\k (.t (.ins C b l)) a
def Mn (C:Addr)(sp:mK)(t:mH):cI:=λZ S k=>t Z S λb a=>sp (.ob a.length::b) (a++[.ins C [] []]) (Vb C a k)
def Mm (C:Addr)(sp:mK)(t:mH):cI:=λZ S k=>t Z S λc a=>sp (.ob a.length::c) (a++[.ins C [] []]) λd b=>d=.cP/\k (.ob a.length) b
theorem yv (R:R3 K Y S H)(ok:zC K C [])(f:H x=none)(hd:H a=none)(ne:a≠x) :
  R3 K (Y++[x]) (S++[.ins C [] []]) (upd (upd H a (.own x)) x (.ins C a []))/\Gr Y H (Y++[x]) (upd (upd H a (.own x)) x (.ins C a [])):=by
 obtain⟨e,d,_⟩:=R.new hd;have b:upd H a (.own x) x=none:=by rw[aY (jaE ne)];exact f
 obtain⟨R2,c⟩:=e.push (u:=.ins C [] []) b ⟨a,[],M,M,ok,.nil⟩;exact⟨R2,d.trans c⟩
theorem WS (F:Mkr X.prog X.w X.K X.mg X.base k C x ps sp)(O:cV (k+1) X.A)(s:Gl X x)(J:QA X (e::es) t)(z:autoParam (notStar e=true) zi)(B:autoParam (es.all notStar=true) zi)(i:autoParam ((x==("__debug__":Str))=false) zn) :
  QE X (.Call (.Name x p) (e::es) [] pos) (Mn C sp t):=by
 obtain⟨f,fd,F',hM,W⟩:=F.mr;refine cy (Eh hM F' O s F.mg W .nil xM J z B i) ?_;rintro U H Q ⟨Y,S,Z,k,R,D,q,hk⟩;refine⟨Y,S,Z,_,R,D,q,λvs H1 ⟨b,c,G,V,a,I,P⟩ y dy j g ne=>?_⟩;obtain⟨R2,m⟩:=yv a F.ok j g ne;refine⟨b++[y],c++[.ins C [] []],.ob c.length::G,_,R2,.cons ⟨y,by rw[<- a.len];simp,M⟩ ?_,P,?_⟩
 .rw[jaw];exact I.gr m
 .rintro v H3 ⟨ρ3,S3,d,g3,zp,r3,rfl,ns,l,rfl,q3⟩;refine⟨aV r3,?_⟩;have hρ:ρ3=b++[y]:=by
   obtain⟨ex,n⟩:=g3.ext;have:=zp.len;rw[n] at this;simp only[jab,ja0] at this;have l0:=a.len;have:ex=[]:=jbp.mp (by lia);rw[n,this,jaw]
  subst hρ;have R4:=zp.pop a.len a.cl;have g4:Gr b H1 b H3:=⟨⟨[],by simp⟩,(m.le.trans g3.le).trans kZ⟩
  refine hk _ _ ⟨b,c,.t (.ins C ns l),V.trans g4,R4,?_,q3⟩;obtain⟨o,T,E,L,u,r⟩:=zp.ok c.length y (.ins C ns (l.map .t)) (by rw[<- a.len];simp) (by simp);show Rp _ _ _ _;have N:=a.fresh j;exact⟨y,o,T,M,nv N E,L,u,(eY.t r).le kZ⟩
theorem RL (F:Mkr X.prog X.w X.K X.mg X.base k C x ps sp)(u:cV (k+1) X.A)(i:Gl X x)(s:QA X (e::es) t)(m:autoParam (notStar e=true) zi)(n:autoParam (es.all notStar=true) zi)(g:autoParam ((x==("__debug__":Str))=false) zn) :
  QE X (.Call (.Name x p) (e::es) [] pos) (Mm C sp t):=by
 obtain⟨f,J,I,G,E⟩:=F.mr;refine cy (Eh G I u i F.mg E .nil xM s m n g) ?_;rintro U H Q ⟨Y,S,Z,k,R,D,q,hk⟩;refine⟨Y,S,Z,_,R,D,q,λN O ⟨l,b,o,B,a,r,z⟩ y L j c ne=>?_⟩;obtain⟨R2,h⟩:=yv a F.ok j c ne;refine⟨l++[y],b++[.ins C [] []],.ob b.length::o,_,R2,.cons ⟨y,by rw[<- a.len];simp,M⟩ ?_,z,?_⟩
 .rw[jaw];exact r.gr h
 .rintro v H3 ⟨ρ3,S3,d,g3,zp,r3,rfl,q3⟩;refine⟨aV r3,hk _ _ ⟨ρ3,S3,.ob b.length,(B.trans h).trans g3,zp,⟨y,?_,M⟩,q3⟩⟩;exact g3.at (by rw[<- a.len];simp)
noncomputable def pN (f:Str):jcI->jcI
 |[]=>[f]
 |g::r=>if g=f then g::r else g::pN f r
noncomputable def pD {α:Type}(f:Str)(y:α):jcI->List α->List α
 |[],_=>[y]
 |_::_,[]=>[]
 |g::r,x::l=>if g=f then y::l else x::pD f y r l
theorem Ec (f:Str)(y:V):∀{ns:jcI}{vs:List V},ns.length=vs.length->mJ f y (ns.zip vs)=(pN f ns).zip (pD f y ns vs)/\(pN f ns).length=(pD f y ns vs).length
 |[],[],_=>⟨M,M⟩
 |[],_::_,h=>by simp at h
 |_::_,[],h=>by simp at h
 |g::ns,v::vs,h=>by
  have a:ns.length=vs.length:=by simpa using h
  obtain⟨c,b⟩:=Ec f y a;rw[jcm];unfold mJ pN pD;by_cases e:g=f
  .rw[jaf e,jaf e,jaf e];exact⟨M,by simpa using a⟩
  .rw[jae e,jae e,jae e,c];exact⟨M,by simpa using b⟩
theorem NT (r:jI K Y G d v):∀{ns:jcI}{l:List D}{vs:List V},eY K Y G l vs->eY K Y G (pD f d ns l) (pD f v ns vs)
 |[],_,_,_=>by exact .cons r .nil
 |_::_,[],_,.nil=>by exact .nil
 |g::ns,_::_,_,.cons h t=>by
  unfold pD;by_cases e:g=f
  .rw[jaf e,jaf e];exact .cons r t
  .rw[jae e,jae e];exact .cons h (NT r t)
theorem NS:∀{ns:jcI},g∈pN f ns->g=f\/g∈ns
 |[],h=>.inl (jag.mp h)
 |n::ns,h=>by
  unfold pN at h;by_cases e:n=f
  .rw[jaf e] at h;exact .inr h
  .rw[jae e] at h;rcases jah.mp h with h | h
   .exact .inr (jah.mpr (.inl h))
   .rcases NS h with h | h
    .exact .inl h
    .exact .inr (jav _ h)
inductive a21 (K:Frag) (f:Str) (x y:D) (Z:Sl) (S:av) (nx:KS):Prop
 |mk (n:Nat) (C:Addr) (ns:List Str) (l:List D) (h:x=.ob n) (h1:S[n]?=some (.ins C ns l)) (h2:ko K C f) (h3:ns.length<1000) (hk:nx Z (S.set n (.ins C (pN f ns) (pD f y ns l))))
def a0N (K:Frag)(d c:cI)(f:Str):mL:=λE Z S=>c Z S λy b=>d Z b λx a=>a21 K f x y Z a E.nx
def aS (h:QE X o ta)(hv:QE X b tv)(hs:swapsWith b (some (.Attribute o f pos')) pos.line X.env=pure false){s:Frag}(hK:X.K=s):QS X (.Assign [.Attribute o f pos'] b pos) (a0N s ta tv f):=by
 subst hK;exact kC (Xa h hv hs) λD U H ⟨Y,S,Z,E,R,k,q,V⟩=>⟨Y,S,Z,_,R,k,q,(by rintro v H1 ⟨A,I,d,m,y,N,Q⟩;exact⟨A,I,Z,_,y,k.gr m,Q,(by
  rintro w H2 ⟨Y2,S2,d2,i,R2,T,n,C,j,l,B,F,r,h4,q2⟩;subst B;obtain⟨a,h,e⟩:=T;obtain⟨p,W,J,P,c,L⟩:=R2.ok n a _ h F;refine⟨a,C,p,j.zip W,e,J,c.cls,r,by rw[List.length_zip];lia,?_⟩;obtain⟨G,O⟩:=Ec f v P;rw[G];obtain⟨R4,t⟩:=R2.put (u:=.ins C (pN f j) (pD f d j l)) h
   ⟨p,_,M,O,⟨c.cls,λg x=>by rcases NS x with z | z;rw[z];exact r;exact c.no g z,c.ca,c.cg,c.ct,c.cm⟩,NT (N.gr i) L⟩
  exact V.nx _ _ ⟨Y2,_,Z,(m.trans i).trans t,R4,(k.gr (m.trans i)).gr t,q2⟩)⟩)⟩
end L3
namespace Hw
open PySem L2
end Hw
namespace PySem
abbrev jr (C t:Addr):Obj:={cls:=.ref C,data:=.fields #[.ref t,.none,.none,.none,.bool false,.none] }
abbrev VE:=F.excBase_ValueError
theorem newX {prog:Program}{h:Heap}{g:Array GenState}{d:Drawn}{t:Nat}{os:OsState}{nm:Str}{q:Str}{C:Addr}{N:Addr}{bs:jcJ}{bm:jcJ}{hdct:Bool}{sn:jcI}{sub:jcJ}{ab:Bool}{col:Option Bool}{dd:jcM}{k0:jcN}{k1:jcN}{k2:jcN}{k3:jcN}{k5:jcN}(j:bm.contains (.type "ValueError")=true)(l:bm.contains (.type "AttributeError")=false)(m:bm.contains (.type "NameError")=false)
  (e:h.get? C=some (excClassObj nm q C N bs bm hdct sn sub ab col dd k0 k1 k2 k3 k5 "ValueError.__new__")) (c:a.length<=sizeLine)
  (i:R (.ok (.ret (.ref (h.objs.size+1)))) ⟨(h.push {cls:=.type "tuple",data:=.seq a.toArray }).push (jr C h.objs.size),g,d,t,os⟩) :
  codeAny (model prog w) A (.builtin "ValueError.__new__" ⟨.ref C::a,[]⟩) R ⟨h,g,d,t,os⟩:=by
 have o:=VE.ends;have n:(Value.ref C::bm).contains (.type "ValueError")=true:=by rw[jcn,j,Bool.or_true]
 have k:(Value.ref C::bm).contains (.type "AttributeError")=false:=by rw[jcn,l];rfl
 have f:(Value.ref C::bm).contains (.type "NameError")=false:=by rw[jcn,m];rfl
 refine codeAny_builtinAt VE.entry ?_;unfold Builtin.«BaseException.__new__»;refine wpAt_bind ?_;show wpAt _ _ _ (stack >>=_) _ _ _;refine wpAt_bind (wpAt_stack λp b=>wpAt_of_wpAny ?_)
 wp_walk;refine wpAt_of_wpAny ?_;rw[VE.owner]
 repeat (first | with_reducible refine wpAny_madeHere_exc VE.canon e ?_ | with_reducible refine jbD e ?_ | (with_reducible refine jci e ?_;first | rw[n] | rw[k] | rw[f]) | wp_step)
 show R _ _;rw[jbh];exact i
theorem JJ {prog:Program}{E:jcG}{h:Heap}{g:Array GenState}{d:Drawn}{t:Nat}{os:OsState}{nm:Str}{q:Str}{C:Addr}{N:Addr}{bs:jcJ}{bm:jcJ}{hdct:Bool}{sn:jcI}{sub:jcJ}{ab:Bool}{col:Option Bool}{dd:jcM}{k0:jcN}{k1:jcN}{k2:jcN}{k3:jcN}{k5:jcN}(u:bm.contains (.type "ValueError")=true)(B:bm.contains (.type "AttributeError")=false)(H:bm.contains (.type "NameError")=false){s:Obj}
  (i:h.get? C=some (excClassObj nm q C N bs bm hdct sn sub ab col dd k0 k1 k2 k3 k5 "ValueError.__new__")) (F:h.Ns N v) (I:v "__init__"=some (.ref k)) (p:h.get? k=some s) (j:s.cls=.type "function") (c:a.length<=sizeLine)
  (z:wpAny (model prog w) A (call (.ref k) (.ref (h.objs.size+1)::a)) (λr s'=>r=.none/\Q (.done (.ret (.ref (h.objs.size+1)))) s') E
   ⟨(h.push {cls:=.type "tuple",data:=.seq a.toArray }).push (jr C h.objs.size),g,d,t,os⟩) :
  wpAny (model prog w) A (Builtin.«type.__call__» ⟨.ref C::a,[]⟩) Q E ⟨h,g,d,t,os⟩:=by
 repeat (first | with_reducible refine jbD i ?_ | with_reducible refine wpAny_madeBy_exc i ?_ | wp_step)
 refine codeAny_call_builtin_code (Code.quiet_builtin _ VE.quiet) (wpAny_check_new_subU VE u (OwnTail.base) i ?_);refine newX u B H i c ?_;show wpAny _ _ _ _ _ _;have l:∀b o,h.get? b=some o->((h.push {cls:=.type "tuple",data:=.seq a.toArray }).push (jr C h.objs.size)).get? b=some o:=λb o e=>jap _ (jap _ e);have f:=l _ _ i;have n:=l _ _ p;have m:=F.keeps l;have D:(Value.ref C::bm).contains (.ref C)=true:=by simp
 repeat (first | with_reducible refine jbD he1 ?_ | (with_reducible refine jci f ?_;rw[D]) | wp_step)
 show wpAny _ _ (typeLookup (.ref C) _) _ _ _;rw[typeLookup_eq];refine jaa (wpAny_mroOf_exc f ?_);rw[lookupAlong_cons];refine jaa (wpAny_classOwn_exc f m ?_);rw[I];refine jad ?_;refine jbi (jaa ?_);unfold bindSpecial;refine jaa (wpAny_typeOf ⟨_,n,j⟩ ?_);rw[jaf (by decide)];refine jad (jaa (jaS z (λr s' y=>?_) λ_ _ x=>x));obtain⟨rfl,G⟩:=y
 wp_walk
 exact G
theorem a2N {prog:Program}{E:jcG}{h:Heap}{g:Array GenState}{d:Drawn}{t:Nat}{os:OsState}{nm:Str}{q:Str}{C:Addr}{N:Addr}{bs:jcJ}{bm:jcJ}{hdct:Bool}{sn:jcI}{sub:jcJ}{ab:Bool}{col:Option Bool}{dd:jcM}{k0:jcN}{k1:jcN}{k2:jcN}{k3:jcN}{k5:jcN}(o:bm.contains (.type "ValueError")=true)(m:bm.contains (.type "AttributeError")=false)(p:bm.contains (.type "NameError")=false)
  (f:h.get? C=some (excClassObj nm q C N bs bm hdct sn sub ab col dd k0 k1 k2 k3 k5 "ValueError.__new__")) (n:h.Ns N k) (s:k "__init__"=some (.ref e)) (i:h.get? e=some j) (c:j.cls=.type "function") (b:a.length<=sizeLine)
  (l:wpAny (model prog w) (A.under (.builtin "type.__call__" ⟨.ref C::a,[]⟩)) (call (.ref e) (.ref (h.objs.size+1)::a)) (λr s'=>r=.none/\Q (.ref (h.objs.size+1)) s') E
   ⟨(h.push {cls:=.type "tuple",data:=.seq a.toArray }).push (jr C h.objs.size),g,d,t,os⟩) :
  wpAny (model prog w) A (call (.ref C) a) Q E ⟨h,g,d,t,os⟩:=by
 have u:=tc_lookup;have v:=tc_bind (.ref C);refine wpAny_call (codeAny_of_tree ?_);show wpAny _ _ (callAny (.ref C) _) _ _ _
 repeat (any_goals (first | assumption | with_reducible refine jbD f ?_ | wp_step))
 exact⟨M,codeAny_call_builtin_at (Code.quiet_builtin _ (by symm)) entry_typeCall (wpAny_check_type_call_sub f (JJ o m p f n s i c b l))⟩
theorem Ho {E:jcG}{h:Heap}{g:Array GenState}{d:Drawn}{t:Nat}{os:OsState}{nm:Str}{q:Str}{C:Addr}{N:Addr}{bs:jcJ}{bm:jcJ}{hdct:Bool}{sn:jcI}{sub:jcJ}{ab:Bool}{col:Option Bool}{dd:jcM}{k0:jcN}{k1:jcN}{k2:jcN}{k3:jcN}{k5:jcN}(l:bm.contains (.type "ValueError")=true){oe:Obj}
  (i:h.get? C=some (excClassObj nm q C N bs bm hdct sn sub ab col dd k0 k1 k2 k3 k5 "ValueError.__new__")) (k:h.get? e=some oe) (f:oe.cls=.ref C) (j:Q () ⟨h,g,d,t,os⟩) :
  wpAny jcE A (checkBuiltinCall "ValueError.__init__" ⟨.ref e::c,[]⟩) Q E ⟨h,g,d,t,os⟩:=by
 have m:(Value.ref C::bm).contains (.type "ValueError")=true:=by rw[jcn,l,Bool.or_true]
 have o:=VE.noStar;simp only[checkBuiltinCall,VE.initKind,VE.initSplit,VE.initRow]
 repeat (first | (with_reducible refine jbD k ?_;rw[f]) | with_reducible refine jbD i ?_ | (with_reducible refine jci i ?_;rw[m]) | wp_step)
 refine wpAny_onRaise ?_;rw[show ∀(a b:String)(n:Nat),Bind.check ⟨.positional,"*","ValueError",.self,[⟨"args",.varPos,false⟩]⟩ a b n (List.map (λx=>x.fst) ({pos:=Value.ref e::c }:Args).kw)=pure () from λa b n=>check_star_args _ _ _ _ _ _];exact jad j
theorem a2d {prog:Program}{E:jcG}{h:Heap}{g:Array GenState}{d:Drawn}{t:Nat}{os:OsState}{nm:Str}{q:Str}{C:Addr}{N:Addr}{bs:jcJ}{bm:jcJ}{hdct:Bool}{sn:jcI}{sub:jcJ}{ab:Bool}{col:Option Bool}{dd:jcM}{k0:jcN}{k1:jcN}{k2:jcN}{k3:jcN}{k5:jcN}(k:bm.contains (.type "ValueError")=true)
  (m:h.get? C=some (excClassObj nm q C N bs bm hdct sn sub ab col dd k0 k1 k2 k3 k5 "ValueError.__new__")) (f:h.get? e=some (jr C n)) (c:a.length<=sizeLine)
  (i:∀h',(∀b o,b≠e->h.get? b=some o->h'.get? b=some o)->(∃t1,h'.get? e=some (jr C t1))->Q .none ⟨h',g,d,t,os⟩) :
  wpAny (model prog w) A (call (.builtin "ValueError.__init__") (.ref e::a)) Q E ⟨h,g,d,t,os⟩:=by
 refine wpAny_call (codeAny_call_builtin VE.init.plain VE.initEntry (Ho k m f rfl ?_))
 wp_walk
 refine i _ (λb o l j=>?_) ⟨h.objs.size,?_⟩
 .rw[jaO _ _ (jaE l)];exact jap _ j
 .rw[ja2 _ (jap _ f) rfl];rfl
end PySem
namespace PySem
def nQ (f:Array Value->Array Value)(o:Obj):(Obj.mapFields f o).dict=o.dict:=by
 unfold Obj.mapFields;split<;>rfl
def Zw (C:Addr)(oe:Obj):Prop:=oe.cls=.ref C/\oe.dict=none/\∀ws,oe.data=.fields ws->ws[2]?=some .none
structure lR (fr:List Addr)(a:Addr)(old:Option Addr)(C:Addr)(h h':Heap):Prop where
 keep:∀b o,h.get? b=some o->b∉fr->b≠a->old≠some b->h'.get? b=some o
 slot:∀b o,h.get? b=some o->b∈fr->∃sl,h'.get? b=some {o with slots:=sl }
 a4Y:∀b o,old=some b->h.get? b=some o->∃o',h'.get? b=some o'
 Qv:∃oe vs T oT ts,h'.get? a=some oe/\Zw C oe/\oe.data=.fields vs/\vs[1]?=some (.ref T)/\h'.get? T=some oT/\oT.data=.fields ts/\ts[3]?=some .none/\T≠a/\h.objs.size<=T
section
variable {oe:Obj}
def fJ (f:s.heap.FunFrames base (env::outer))(g:b∈(env::outer).filterMap (·.frame))(d:s.heap.get? b=some o)(hd:o.data=.fields c):False:=by
 obtain⟨_,i,a,h⟩:=f.mem g;rw[d] at a;injection a with e;subst e
 exact h c hd
theorem G6 {jcE:Model}{A:Around}{E:jcG}{s:Shared}{base:Heap}{env:Env}{outer:List Env}{L:Addr}{a:Addr}{C:Addr}{vs:Array Value}{d:Value}{g:Bool}{Q:Unit->Shared->Prop}(w:A.frames=some (env::outer))(J:s.heap.FunFrames base (env::outer))(O:env.frame=some L)
  (H:s.heap.get? a=some oe) (y:Zw C oe) (hd:oe.data=.fields vs) (j:1<vs.size)
  (k:∀h',lR ((env::outer).filterMap (·.frame)) a none C s.heap h'->Q () {s with heap:=h' }) :
  wpAny jcE A (do let fr <- frameOf env;let pl <- entryPlaceOf L g;let b <- EntryCells.newEntry d fr .none (rawInt L) .none pl;setField (.ref a) 1 b) (λ_ s'=>wpAny jcE A (setFlight (.ref a) none) Q E s') E s:=by
 have u:=λP=>fJ J P H hd;refine jaa (wpAny_frameOf_fun w J O λc K=>?_);obtain⟨sz,h,i⟩:=K;refine jaa (wpAny_entryPlaceOf λpl m=>?_);unfold EntryCells.newEntry newFields;refine jaa (ja9 ?_ (m.sizeOk5 _ _ _ _ _));have n:=(h a u).trans H;generalize r:({cls:=.type "traceback",dict:=none,data:=.fields ([d,.ref L,.none,rawInt L,.none]++(if pl.isEmpty then List.replicate 6 Value.none else pl)).toArray }:Obj)=ob;have p:(c.push ob).get? a=some oe:=jap _ n;refine jbd p hd j ?_;have B:=jbJ (jal n);have v:=ja1 hd (·.setIfInBounds 1 (Value.ref c.objs.size));have t:=ja2 (Obj.mapFields (·.setIfInBounds 1 (Value.ref c.objs.size))) p (jbq v);have F:ob.data=.fields ([d,.ref L,.none,rawInt L,.none]++(if pl.isEmpty then List.replicate 6 Value.none else pl)).toArray:=by rw[<- r]
 have G:(c.push ob).get? c.objs.size=some ob:=jaK c (by rw[<- r];rfl);have l:((c.push ob).update a (Obj.mapFields (·.setIfInBounds 1 (Value.ref c.objs.size)))).get? c.objs.size=some ob:=(jaO _ _ (jaE B)).trans G;refine jaa (ja7 t v (x:=.ref c.objs.size) (by simp[j]) ?_);refine jbd l F (by simp only[jaz,jab,jak]<;>lia) (k _ ?_);have I:∀b o,b≠a->c.get? b=some o->(((c.push ob).update a (Obj.mapFields (·.setIfInBounds 1 (Value.ref c.objs.size)))).update c.objs.size (Obj.mapFields (·.setIfInBounds 3 ((none:jcM).elim Value.none λf=>rawInt f)))).get? b=some o:=λb o R q=>by
  rw[jaO _ _ (jbJ (jal q)),jaO _ _ (jaE R)];exact jap _ q
 refine⟨λb o q N M _=>I b o M ((h b N).trans q),λb o q D=>?_,λb o z=>(nomatch z),?_⟩
 .obtain⟨sl,e⟩:=i b o q;exact⟨sl,I b _ (λz=>u (z ▸ D)) e⟩
 .refine⟨_,_,c.objs.size,_,_,?_,⟨(jcp _ _).trans y.1,(nQ _ _).trans y.2.1,λS e=>(by
   rw[v] at e;cases e;have z:=y.2.2 _ hd;rw[jcD (by decide)];exact z)⟩,v,by simp[j],ja2 _ l (jbq (ja1 F _)),ja1 F _,?_,B,jbs sz.symm⟩
  .rw[jaO _ _ B];exact t
  .first | (simp;done) | (rcases m with rfl | ⟨_,_,_,_,_,_,_,rfl⟩<;>simp)
theorem GX (b:A.frames=some (env::outer))(f:s.heap.FunFrames base (env::outer))(d:env.frame=some L)
  (e:s.heap.get? a=some oe) (g:Zw C oe) (hd:oe.data=.fields vs) (c:vs[1]?=some .none)
  (k:∀h',lR ((env::outer).filterMap (·.frame)) a none C s.heap h'->Q () {s with heap:=h' }):wpAny jcE A (leaving env (.ref a)) Q E s:=by
 unfold leaving noteFrame;simp only[d];refine jaa (jaa (ja7 e hd c ?_));rw[jae (by decide)];exact G6 b f d e g hd (jbu.mp c).1 k
theorem KG {T:Addr}(n:A.frames=some (env::outer))(w:s.heap.FunFrames base (env::outer))(r:env.frame=some L)
  (x:s.heap.get? a=some oe) (G:Zw C oe) (hd:oe.data=.fields vs) (u:vs[1]?=some (.ref T)) (d:s.heap.get? T=some t) (h:t.data=.fields ts) (v:ts[3]?=some .none) (g:T≠a)
  (k:∀h',lR ((env::outer).filterMap (·.frame)) a (some T) C s.heap h'->Q () {s with heap:=h' }):wpAny jcE A (leaving env (.ref a)) Q E s:=by
 unfold leaving noteFrame;simp only[r];refine jaa (jaa (ja7 x hd u ?_));rw[jaf (show(Value.ref T !=Value.none)=true by simp)];refine jaa (ja7 d h v ?_);rw[jae (show ¬((Value.none==rawInt L)=true) by simp[rawInt])];refine jaa (jbd d h (jbu.mp v).1 ?_);have f:=λB=>fJ w B d h;have j:∀b,b≠T->(s.heap.update T (Obj.mapFields (·.setIfInBounds 3 Value.none))).get? b=s.heap.get? b:=λb c=>jaO _ _ (jaE c);have l:=w.of_keeps λb o c p=>⟨o,(j b λz=>by rw[z,d] at c;injection c with c;subst c;exact p ts h).trans c,M⟩
 refine G6 n l r ((j a (jaE g)).trans x) G hd (jbu.mp u).1 λh' m=>k h' ⟨λb o q F D H=>m.keep b o ((j b λz=>H (by rw[z])).trans q) F D (λz=>nomatch z),λb o q i=>m.slot b o ((j b λz=>f (z ▸ i)).trans q) i,?_,?_⟩
 .intro b o e q;cases e;have y:=ja2 (Obj.mapFields (·.setIfInBounds 3 Value.none)) d (jbq (ja1 h _));exact⟨_,m.keep T _ y f g (λz=>nomatch z)⟩
 .obtain⟨N6,vs',T',Qp,ts',x1,x2,x3,x4,x5,x6,x7,x8,x9⟩:=m.Qv;exact⟨N6,vs',T',Qp,ts',x1,x2,x3,x4,x5,x6,x7,x8,jai (jbs (jce ..).symm) x9⟩
end
end PySem
namespace L2
open PySem PySem.Spec PyProof.Rows
structure a6o (h:Heap)(H:Hp)(n:Nat)(C a:Addr):Prop where
 Qv:∃oe vs T oT ts,h.get? a=some oe/\Zw C oe/\oe.data=.fields vs/\vs[1]?=some (.ref T)/\h.get? T=some oT/\oT.data=.fields ts/\ts[3]?=some .none/\T≠a/\n<=T/\H T=none
 new:n<=a
 free:H a=none
def FT (P:Program)(w:World)(C:Addr):Dp:=λb H s E e c=>
 ∃a d,e=.ref a/\E (.ref C) none d/\c.os=s.os/\AllBare c.gens/\Un (frs b) [] H d s.heap c.heap/\nY P w d c.heap/\a6o c.heap d s.heap.objs.size C a
theorem nY.I8 (ok:nY P w H h)(k:∀b u,H b≠none->h.get? b=some u->h'.get? b=some u):nY P w H h':=λb o e=>
 (ok b o e).stay (λc u a q=>k c u (a.elim (λz=>by rw[z,e];exact λz=>nomatch z) (λz=>by rw[z];exact λz=>nomatch z)) q) (λ_ z=>z) λ_ _ z=>z
theorem wg:∀{l l':List Env},(∀b∈frs l,b∈frs l')->(∀b∈frs l',H b=none)->Un (frs l') [] H c h h'->h.FunFrames base l->h'.FunFrames base l
 |[],_,_,_,_,_=>trivial
 |env::r,l',hs,hf,un,⟨hk,⟨L,o,e,hn,ho,hd⟩,hr⟩=>by
  have a:L∈frs l':=hs L (by unfold frs;rw[jba,e];exact jay);obtain⟨f,q⟩:=un.slot L o ho (hf L a) a (by simp);exact⟨hk,⟨L,_,e,hn,q,hd⟩,wg (λb d=>hs b (by unfold frs;rw[jba,e];exact jav _ d)) hf un hr⟩
abbrev jQ (P:Program)(w:World)(C:Addr)(K:Frag)(mg:Str->jcN)(base:Heap)(N:jcI)(qual:Str)(scope:Scope)(f:Addr)(cd:Value)(A:Around)(outer:List Env)(s:Shared)(H:Hp)(E:XK):Cx:=CT (FT P w C) P w K mg base N qual scope f cd A outer s H E
theorem HW (I:Inv (jQ P w C K mg base N qual scope f cd A outer s H E) J U y F)
  (un:Un (frs (envOfC qual scope s.heap.objs.size f cd::outer)) [] y r F.heap v) (m:lR (frs (envOfC qual scope s.heap.objs.size f cd::outer)) a d C v x) (S:s.heap.objs.size<=a) (Q:∀T,d=some T->s.heap.objs.size<=T) :
  Un (frs outer) [] H r s.heap x:=by
 have B:=I.base;have M:∀b o,s.heap.get? b=some o->b≠s.heap.objs.size:=λb o q z=>absurd (jal q) (by rw[z];exact ja4 _);have h:=λb o q n z=>(jah.mp (show b∈s.heap.objs.size::frs outer from z)).elim (M b o q) n;have t:∀b o,s.heap.get? b=some o->b≠a:=λb o q z=>absurd (jal q) (by rw[z];exact jbt.mpr S);have D:∀b o,s.heap.get? b=some o->d≠some b:=λb o q z=>absurd (jal q) (jbt.mpr (Q b z));have i:∀b,b∈frs outer->b∈frs (envOfC qual scope s.heap.objs.size f cd::outer):=λb j=>jav _ j;refine⟨λb o q n p c=>?_,λb o q n e c=>?_,λb o q n c=>?_,λb o q c=>?_,λb G q=>un.tups b G (B.tups b G q),λb o u q=>un.nO b o u (B.nO b o u q),λb R q=>?_⟩
 .exact m.keep b o (un.keep b o (B.keep b o q n p c) (B.free b o q n c) (h b o q p) c) (h b o q p) (t b o q) (D b o q)
 .obtain⟨sl,e1⟩:=B.slot b o q n e c;obtain⟨O,g⟩:=un.slot b _ e1 (B.free b o q n c) (i b e) c;obtain⟨sl3,l⟩:=m.slot b _ g (i b e);exact⟨sl3,l⟩
 .obtain⟨o1,e1⟩:=B.there b o q c;exact un.free b o1 e1 (B.free b o q n c) c
 .obtain⟨o1,e1⟩:=B.there b o q c;obtain⟨k,g⟩:=un.there b o1 e1 c;by_cases j:b∈frs (envOfC qual scope s.heap.objs.size f cd::outer)
  .obtain⟨sl,l⟩:=m.slot b k g j;exact⟨_,l⟩
  .exact⟨k,m.keep b k g j (t b o q) (D b o q)⟩
 .obtain⟨m1,e1⟩:=B.oS b R q;obtain⟨L,g⟩:=un.oS b _ e1;exact⟨m1++L,by rw[g,jck]⟩
def fZ:Passes (FT P w C) (jQ P w C K mg base N qual scope f cd A outer s H E) E:=by
 rintro vy U H1 Q e s' I ⟨a,t,rfl,V,L,d,un,ok,g⟩;obtain⟨oe,vs,T,oT,ts,r,O,hd,G,y,vc,J,ne,nT,D⟩:=g.Qv;have sz:s.heap.objs.size<=Q.heap.objs.size:=I.sz;have p:=I.oi;have v:=I.stack;have j:=wg (λ_ z=>z) p un v;have i:=I.ok.frames;have new:=g.new;refine KG i j rfl r O hd G y vc J ne λh' m=>?_;have lt:=jal r;have F:∀b,b∈frs (envOfC qual scope s.heap.objs.size f cd::outer)->t b=none:=λb c=>by
  obtain⟨_,o,Z,_⟩:=v.mem c;exact un.free b o Z (p b c) (by simp)
 refine⟨a,t,M,V,L.trans I.os,d,HW I un m (by lia) (λl e=>by cases e;lia),ok.I8 λb u c q=>m.keep b u q (λz=>c (F b z)) (λz=>c (z ▸ g.free)) (λz=>c (by cases z;exact D)),?_,by lia,g.free⟩;obtain⟨Y,k,l,Qp,h,S,x2,x3,W,X,R,B,x,n⟩:=m.Qv;exact⟨Y,k,l,Qp,h,S,x2,x3,W,X,R,B,x,jai sz (jai new (jai (jbj lt) n)),ok.fresh n⟩
noncomputable def Pe (C e:Addr):HO:=.ext λh=>∃t,h.get? e=some (jr C t)
theorem Pc:(∃t,h.get? e=some (jr C t))->cz P w H h e (Pe C e):=λ⟨t,q⟩=>
 ⟨⟨t,q⟩,⟨_,q⟩,λ_ _ ⟨t,q⟩ k=>⟨t,k _ q⟩⟩
noncomputable def del (H:Hp)(a:Addr):Hp:=λb=>if b=a then none else H b
def tW (h:b≠a):del H a b=H b:=jae h
theorem Nd (I:Inv (jQ P w C K mg base N qual scope f cd A outer s H E) Q U g h)(i:g a=some (Pe C a))(j:s.heap.objs.size<=a)(X:E (.ref C) none (del g a)) :
  (jQ P w C K mg base N qual scope f cd A outer s H E).xe (.ref a) h:=by
 obtain⟨⟨t,G⟩,_⟩:=show cz P w g h.heap a (Pe C a) from I.hok a _ i;have Z:=I.stack;have S:=I.oi;have k:=I.ok.frames;refine GX k Z rfl G ⟨M,M,λws e=>by cases e;rfl⟩ rfl rfl λD m=>?_;have lt:=jal G;have v:∀b,g b=none->del g a b=none:=λb z=>by
  unfold del;split
  .rfl
  .exact z
 have un:Un (frs (envOfC qual scope s.heap.objs.size f cd::outer)) [] g (del g a) h.heap h.heap:=⟨λ_ _ q _ _ _=>q,λ_ o q _ _ _=>⟨o.slots,q⟩,λb _ _ n _=>v b n,λ_ o q _=>⟨o,q⟩,
  λb T q=>by rw[tW (λz=>by rw[z,i] at q;cases q)];exact q,λb o u q=>by rw[tW (λz=>by rw[z,i] at q;cases q)];exact q,λb ps q=>⟨#[],by rw[tW (λz=>by rw[z,i] at q;cases q)];exact q⟩⟩
 have J:∀b u,g b≠none->b≠a->h.heap.get? b=some u->D.get? b=some u:=λb u hb R q=>m.keep b u q (λz=>hb (S b z)) R (λz=>nomatch z);have p:nY P w (del g a) D:=λb o e=>by
  have B:b≠a:=λz=>by rw[z] at e;unfold del at e;rw[jaf rfl] at e;cases e
  have F:g b=some o:=by rw[tW B] at e;exact e
  have own:∀c,g c=some (.own b)->c≠a:=λc d z=>by rw[z,i] at d;cases d
  refine(I.hok b o F).stay (λc u d q=>?_) (λc d=>by rw[tW (own c d)];exact d) λc T d=>by rw[tW (λz=>by rw[z,i] at d;cases d)];exact d
  rcases d with rfl | d
  .exact J _ u (by rw[F];exact λz=>nomatch z) B q
  .exact J c u (by rw[d];exact λz=>nomatch z) (own c d) q
 refine⟨a,del g a,M,X,I.os,I.bare,HW I un m j (λx e=>nomatch e),p,?_,j,by unfold del;rw[jaf rfl]⟩;obtain⟨N6,r,x,Qp,l,W,x2,x3,Y,x5,V,O,L,y⟩:=m.Qv;exact⟨N6,r,x,Qp,l,W,x2,x3,Y,x5,V,O,L,jai j (jai (jbj lt) y),v _ (I.hok.fresh y)⟩
theorem F3.okX {P:Program}{w:World}{K:Frag}{mg:Str->jcN}{base:Heap}{C:Addr}{x a:Str}{st:Stmt}{f:Addr}{d:FuncData}{N ps:jcI}{k:Nat}{sp:Sp}(F:F3 K x a st f d)(S:iJ N ps (aM st))(len:∀vs H Q E,sp vs H Q E->vs.length=ps.length)
  (b:∀(AT:Value)(A:Around)(outer:List Env)(s:Shared)(H:Hp)(vs:List V)(Q:VK) (E:XK),cV k (A.deeper (envOfC a (aM st) s.heap.objs.size f AT))->sp vs H Q E->
   ∃t,Bp (jQ P w C K mg base N a (aM st) f AT A outer s H E) (bK st) t/\t {nx:=λ_ H'=>Q .cP H',rt:=Q } (start N vs) H):dX P w K mg base (FT P w C) (k+1) f d ps sp:=by
 obtain⟨n,o,kV,g,p,m,AT,l,h,rfl,i,c⟩:=F.ex;exact Vt i c S len λA outer s H vs Q E e j=>b AT A outer s H vs Q E e j
def Me (h:H a=some o):upd H a o=H:=by
 funext b;unfold upd;split
 .rename_i e;rw[e,h]
 .rfl
def a1v (X:K.In h)(G:h.Ns N a)(e:nsIn K N n=some (some v)):a n=some v:=by
 obtain⟨o,f,d,b,hd,_,c⟩:=G;unfold nsIn at e;split at e
 .rename_i q;have z:=X _ _ q;rw[b] at z;cases z;cases hd;split at e
  .rename_i he;cases e;rw[<- c];unfold nsFind findBy;rw[<- Array.find?_toList,he];rfl
  .split at e<;>cases e
 .cases e
structure Ab (K:Frag)(C fI:Addr)(bm:List Value):Prop where
 ob:∃nm q N bs hdct sn sub ab col dd k0 k1 k2 k3 k5,K.lookup C=some (excClassObj nm q C N bs bm hdct sn sub ab col dd k0 k1 k2 k3 k5 "ValueError.__new__")/\nsOkIn K N=true/\nsIn K N "__init__"=some (some (.ref fI))
 fn:isFn K (.ref fI)=true
 kp:keepIn K (.ref C)=true
 v:bm.contains (.type "ValueError")=true
 a:bm.contains (.type "AttributeError")=false
 n:bm.contains (.type "NameError")=false
 b:bm.contains (.type "BaseException")=true
section
variable {D:Addr}
def a0y (sp:Sp)(E:XK)(b:TE)(t:TA):TE:=λU H Q=>b U H λ_ c=>t U c λa d=>sp (a++[]) d Q E
theorem IK {X:Cx}{CX:Dp}{k:Nat}{fd:FuncData}{ps:jcI}{sp:Sp}{E:XK}{x:Str}{m:Str}{p:Pos}{pos:Pos}{B1:Pos}{e:Expr}{es:jcL}{t:TA}{pl:Sem Bool}(n:Gl X x)(o:X.mg x=some (.ref D))(u:specialIn X.K (.ref D) "__getattribute__"=some (some (.builtin "type.__getattribute__")))(q:readsIn X.K D (.type "type")=true)
  (y:findCls X.K (.ref D) (.type "type") m=some (.val (.ref f))) (C:handedIn (.ref f)=true) (hk:keepIn X.K (.ref f)=true) (F:dX X.prog X.w X.K X.mg X.base CX k f fd ps sp) (g:cV k X.A) (z:Binds X.K fd ps [])
  (B:Passes CX X E) (i:PA X (e::es) t) (b:autoParam (starEach (e::es) X.env=(false,eval e X.env)::starEach es X.env) zi) (c:autoParam ((backTo pos (starEach es X.env)).any (·.1)=false) zi) (a:autoParam ((x==("__debug__":Str))=false) zn)
  (v:autoParam (eval (.Call (.Attribute (.Name x p) m B1) (e::es) [] pos) X.env=(do
   let ov <- eval (.Name x p) X.env
   standAt B1.atName
   let(f,first) <- holding [ov] (getMethod ov m pl)
   callWith pos f first (backTo pos (starEach (e::es) X.env)) (backToKw pos (keywordEach [] X.env)))) zi) :
  PE X (.Call (.Attribute (.Name x p) m B1) (e::es) [] pos) (a0y sp E (tC (.ref D)) t):=by
 intro j s U H Q I h;refine jch (lJ I n o ?_ a) v;refine PySem.W.method_cls I.mE u (PySem.W.cls_value I.mE q y C ?_);have l:=I.tok (s.toks+1);refine jbY I.ok.mod.S8 hk (dF (i pos j _ U H _ l h) ?_) b c;rintro us M ⟨L,J,d,r,G⟩;refine⟨d.mE,?_⟩;exact xF F g z .nil B d r G
def Wf (C:Addr)(t:TA):TE:=λU H Q=>t U H λc b=>∃a v,c=[.ref a,v]/\b a=some (Pe C a)/\Q .cP b
theorem NK {X:Cx}{C:Addr}{fI:Addr}{p:Pos}{pos:Pos}{B1:Pos}{e:Expr}{es:jcL}{t:TA}{bm:jcJ}{pl:Sem Bool}(z:Ab X.K C fI bm)(D:Gl X "ValueError")(S:X.mg "ValueError"=none)(E:findCls X.K (.type "ValueError") (.type "type") "__init__"=some (.val (.builtin "ValueError.__init__")))
  (J:PA X (e::es) t) (c:autoParam (starEach (e::es) X.env=(false,eval e X.env)::starEach es X.env) zi) (i:autoParam ((backTo pos (starEach es X.env)).any (·.1)=false) zi)
  (Y:autoParam (eval (.Call (.Attribute (.Name "ValueError" p) "__init__" B1) (e::es) [] pos) X.env=(do
   let ov <- eval (.Name "ValueError" p) X.env
   standAt B1.atName
   let(f,first) <- holding [ov] (getMethod ov "__init__" pl)
   callWith pos f first (backTo pos (starEach (e::es) X.env)) (backToKw pos (keywordEach [] X.env)))) zi) :
  PE X (.Call (.Attribute (.Name "ValueError" p) "__init__" B1) (e::es) [] pos) (Wf C t):=by
 intro B s U H Q I h;refine jch (pl:=pl) (yy I D S PyProof.Rows.Boot.«ValueError» ?_ (by decide) (by decide)) Y;obtain⟨m,F⟩:=I.fr;refine PySem.W.method_type F I.ok.mod.S8 (by kernel_rfl) (by symm) E (by rfl) ?_;have P:=I.tok (s.toks+1);have l:=J pos B _ U H _ P h;rw[c] at l ⊢;refine Calls.callWith_builtin (by show(false||(backTo pos (starEach es X.env)).any (·.1))=false;rw[i]<;>rfl) (Calls.evalArgs_plain (dF l λus n ⟨vs,o,k,r,a,v,O,j,q2⟩=>?_));subst O;obtain⟨u,u',rfl,L,_⟩:=vals2 r;cases L;obtain⟨nm,q,N,bs,A,sn,sub,ab,G,dd,k0,k1,k2,k3,k5,T,_,_⟩:=z.ob;obtain⟨⟨t0,Z⟩,_⟩:=show cz X.prog X.w o n.heap a (Pe C a) from k.hok a _ j;obtain⟨hp,g,d,tk,os⟩:=n;refine a2d z.v (k.mE _ _ T) Z (by exact jbj (Hw.line 1 (by decide))) ?_;rintro h' R ⟨V,b⟩;have y:=k.write (t':=tk) (x:=a) (e:=a) (h':=h') (by rw[j];exact True.intro) (.inl M) R ⟨_,b⟩ (Pc ⟨V,b⟩);rw[Me j] at y;exact⟨.cP,o,y,M,q2⟩
def Wg (C:Addr)(sp:Sp)(E:XK)(t:TA):TS:=λ_ U H=>t U H λd b=>d.length<=sizeLine/\∀a,b a=none->sp (.ref a::(d++[])) (upd b a (Pe C a)) (λv c=>v=.cP/\c a=some (Pe C a)/\E (.ref C) none (del c a)) E0
theorem NB (i:Ab X.K C fI bm)(F:dX X.prog X.w X.K X.mg X.base ug k fI fd ps sp)(hr:cV (k+1) X.A)(hg:Gl X x)(hm:X.mg x=some (.ref C))(hb:Binds X.K fd ps [])
  (Y:∀{Z:jcF} {U:St} {y:Hp} {m:Shared} {a:Addr},Inv X Z U y m->y a=some (Pe C a)->X.s₀.heap.objs.size<=a->E (.ref C) none (del y a)->X.xe (.ref a) m)
  (ha:PA X (e::es) t) (Q:autoParam ((x==("__debug__":Str))=false) zn) (he:autoParam (starEach (e::es) X.env=(false,eval e X.env)::starEach es X.env) zi) (L:autoParam ((backTo pos (starEach es X.env)).any (·.1)=false) zi) :
  PS X (.Raise (some (.Call (.Name x p) (e::es) [] pos)) none B1) (Wg C sp E t):=by
 intro Z s U H D I h;obtain⟨nm,q,N,bs,hdct,sn,sub,ab,col,dd,k0,k1,k2,k3,k5,lk,hok,J⟩:=i.ob;refine jaa (wpAny_standAt (wpAny_raiseStmt_made_sub (C:=C) (nm:=nm) (q:=q) (N:=N) (bs:=bs) (hdct:=hdct) (sn:=sn) (sub:=sub) (ab:=ab) (col:=col) (dd:=dd) (k0:=k0) (k1:=k1) (k2:=k2) (k3:=k3) (k5:=k5) (newId:="ValueError.__new__") i.b hr.hd ?_));refine jaa (dF ?_ λv s3 h3=>jaa (wpAny_standAt (jad h3)));refine jcl (lJ I hg hm ?_ Q);refine jbY I.ok.mod.S8 i.kp (dF (ha pos Z s U H _ I h) ?_) he L;rintro us m ⟨vs,y,l,r,hz,q1⟩;refine⟨l.mE,?_⟩;have hq:=q1 (m.heap.objs.size+1) (l.hok.fresh (jbA _));obtain⟨c,g,d,tk,os⟩:=m;have B:=l.mE;have hty:=ja8.mp i.fn;obtain⟨O,lf,hfc⟩:∃O,X.K.lookup fI=some O/\O.cls=.type "function":=by
  exact jcd.mp hty
 have j:c.Ns N (c.nsMap N):=.of_isNs (PySem.W.isNs_of_in B hok);have T:us.length<=sizeLine:=by rw[<- r.length];exact hz
 refine a2N i.v i.a i.n (B _ _ lk) j (a1v B j J) (B _ _ lf) hfc T ?_;have kp:∀b u,c.get? b=some u->((c.push {cls:=.type "tuple",data:=.seq us.toArray }).push (jr C c.objs.size)).get? b=some u:=λb u z=>jap _ (jap _ z);have P:((c.push {cls:=.type "tuple",data:=.seq us.toArray }).push (jr C c.objs.size)).get? (c.objs.size+1)=some (jr C c.objs.size):=by heap_get
 have S:=l.laid (t':=tk) kp (jbA _) (Pc ⟨_,P⟩);have r2:Vals (V.ref (c.objs.size+1)::(vs++[])) (Value.ref (c.objs.size+1)::(us++[])):=.cons rfl (r.append .nil);have hl:(Value.ref (c.objs.size+1)::us++[]).length=ps.length:=by
  have e:=r2.length;rw[F.len _ _ _ _ hq] at e;exact e.symm
 have o:=hb _ (Value.ref (c.objs.size+1)::us) S.mE hl;rw[jbb] at o;refine wpAny_call (jbK (F.run _ X.stack _ _ ⟨Value.ref (c.objs.size+1)::us,[]⟩ (Value.ref (c.objs.size+1)::(us++[])) _ _ E0 (hr.make C us []) (S.YW.make C us []) o r2 hq) λr' s' f=>?_);cases r' with
 |error e=>exact False.elim f
 |ok fl=>
  cases fl with
  |ret u=>
   obtain⟨v,H',R,rv,ev,ea,hE⟩:=S.after f;subst ev;obtain⟨⟨t1,G⟩,_⟩:=show cz X.prog X.w H' s'.heap (c.objs.size+1) (Pe C (c.objs.size+1)) from R.hok _ _ ea;exact⟨rv,c.objs.size+1,t1,M,R.mE _ _ lk,G,Y R ea (jai l.sz (jbA _)) hE⟩
  |next=>exact False.elim f
  |brk=>exact False.elim f
  |cont=>exact False.elim f
end
end L2
namespace PySem
open L2
def SY (t:SetTable)(b:Array (Int×Value))(h:Int)(x:Value):(layNew t b h x).2.1.led=t.led:=by
 unfold layNew;split
 .dsimp only;rename_i a c _;have e:((t.put a).1).led=t.led:=rfl;have o:∀(u:SetTable)(n:Nat),(u.orStandIn n).led=u.led:=λu n=>by
   unfold SetTable.orStandIn;split<;>rfl
  exact(o _ _).trans e
 .rfl
def JZ (t:SetTable)(b:Array (Int×Value))(k:Nat):(relayAll t b k).2.1.led=t.led/\(t.plain=false->(relayAll t b k).2.1.plain=false):=by
 unfold relayAll;split
 .rename_i t' order hr;dsimp only;have e:t'.led=t.led/\t'.plain=t.plain:=by
   unfold SetTable.relaid SetTable.laid at hr;simp only[Option.bind_eq_bind,jcc,Prod.mk.injEq] at hr;obtain⟨a,_,rfl,_⟩:=hr;exact⟨M,M⟩
  split
  .exact⟨e.1,λz=>e.2.trans z⟩
  .exact⟨M,λ_=>rfl⟩
 .exact⟨M,λ_=>rfl⟩
noncomputable def strOf:Value->Str
 |.str z _=>z
 |_=>Str.empty
def dg (prog:Program)(w:World)(h:Heap)(a:Addr)(c:jcI):Prop:=
 ∃o b d t,h.get? a=some o/\o.ExactSet/\o.data=.set b d t/\ElemsOf (aI prog w) b.toList/\(∀e∈b.toList,∃z k,e.2=Value.str z k)/\b.toList.map (λe=>strOf e.2)=c/\c.Nodup/\
  b.size<scanBound/\t.fits b.size=true/\t.led=!w.params.followText "set-order"/\(t.plain=false\/b.size=0)
theorem dg.store {h:Heap}{o:Obj}(l:h.get? a=some o)(c:o.ExactSet)(hd:o.data=.set q b t){es':Array (Int×Value)}{t':SetTable}
  (g:ElemsOf (aI prog w) es'.toList) (f:∀e∈es'.toList,∃z k,e.2=Value.str z k) (j:(es'.toList.map λe=>strOf e.2).Nodup) (p:es'.size<scanBound) (m:t'.fits es'.size=true) (i:t'.led=!w.params.followText "set-order") (n:t'.plain=false) :
  (h.update a (Obj.putSet es' t')).get? a=some {o with data:=.set es' (b+1) t' }/\dg prog w (h.update a (Obj.putSet es' t')) a (es'.toList.map λe=>strOf e.2):=by
 have d:(h.update a (Obj.putSet es' t')).get? a=some {o with data:=.set es' (b+1) t' }:=by
  have:=ja2 (Obj.putSet es' t') l (by rw[putSet_of es' t' hd];rfl);rw[putSet_of es' t' hd] at this;exact this
 exact⟨d,_,es',b+1,t',d,c,M,g,f,M,j,p,m,i,.inl n⟩
def Yx:(aI prog w).is (Sum.inr x) (.str z k)=decide (z=x):=rfl
theorem Iq (hS:dg prog w s.heap a f)(J:f.length+1<scanBound)
  (h:∀h' zs',Heap.SameBut a s.heap h'->dg prog w h' a zs'->(x∈f->zs'=f)->(x∉f->List.Perm zs' (f++[x]))->Q (!decide (x∈f)) {s with heap:=h' }) :
  wpAny (model prog w) A (setAddHashed a (.str x k) ((aI prog w).hash (Sum.inr x))) Q E s:=by
 obtain⟨o,B,ep,t,Z,P,hd,C,I,G,hnd,hb,hf,jq,hpl⟩:=id hS;have hn:B.size=f.length:=by rw[<- G,jac,jaH]
 have W:(Value.str x k).scannable=true:=rfl;have m:=dB prog w x k;refine jbi (jaa (jaR Z hd hf ?_));dsimp only;rw[byScan_of W hb C];refine jaa ?_;refine jaa (wpAny_rule ?_);refine jaa (wpAny_setScan_of m Z hd hf C ?_);have mem:x∈f↔∃e∈B.toList,(aI prog w).is (Sum.inr x) e.2=true:=by
  rw[<- G,jaq];constructor
  .rintro⟨e,g,q⟩;obtain⟨z,k',e2⟩:=I e g;refine⟨e,g,?_⟩;rw[e2] at q ⊢;exact jaB q
  .rintro⟨e,g,q⟩;obtain⟨z,k',e2⟩:=I e g;refine⟨e,g,?_⟩;rw[e2] at q ⊢;exact of_decide_eq_true q
 cases hr:List.findIdx? (λe=>(aI prog w).is (Sum.inr x) e.2) B.toList with
 |some j=>
  obtain⟨hj,ZR,_⟩:=jcB.mp hr;have N:x∈f:=mem.mpr ⟨B.toList[j],jcq hj,ZR⟩;refine jad (jad ?_);have e:s={s with heap:=s.heap }:=by cases s;rfl
  have:=h s.heap f (jbE a s.heap) hS (λ_=>rfl) (λz=>absurd N z);rw[jaB N] at this;rw[e];exact this
 |none=>
  have N:x∉f:=λz=>by
   obtain⟨e,g,q⟩:=mem.mp z;have:=List.findIdx?_eq_none_iff.mp hr e g;rw[q] at this;exact Bool.noConfusion this
  have X:∀(b:Bool){s₁:Shared}{Q':Unit->Shared->Prop},Q' () s₁->wpAny (model prog w) A (match b with | true=>rule "set.scan.the-table-gave-way" |false=>pure ()) Q' E s₁:=
   λb s₁ Q' hq=>by cases b<;>first | exact jad hq | exact wpAny_rule hq
  have K:=layNew_perm t B ((aI prog w).hash (Sum.inr x)) (.str x k);have OV:=layNew_fits t B ((aI prog w).hash (Sum.inr x)) (.str x k);have hl:=SY t B ((aI prog w).hash (Sum.inr x)) (.str x k);generalize hL:layNew t B ((aI prog w).hash (Sum.inr x)) (.str x k)=L at K OV hl ⊢;obtain⟨c,t1,wasDummy,a9w⟩:=L;rw[Array.toList_push] at K;have y:=(C.push m W).perm K;have S:∀e∈c.toList,∃z k,e.2=Value.str z k:=λe g=>by
   rcases jan.mp (K.mem_iff.mp g) with q | q
   .exact I e q
   .rw[jag.mp q];exact⟨_,_,M⟩
  have D:List.Perm (c.toList.map λe=>strOf e.2) (f++[x]):=by
   have:=K.map λe=>strOf e.2;rw[jaj,G] at this;exact this
  have O:=D.nodup_iff.mpr (by
   rw[jb0];refine⟨hnd,by simp,λu hu v hv e=>?_⟩;rw[jag.mp hv] at e;exact N (e ▸ hu))
  have i:c.size<scanBound:=by
   rw[<- jaH,K.length_eq,jab];simpa[hn] using J
  refine jaa (X _ ?_);have l:∀h' zs',Heap.SameBut a s.heap h'->dg prog w h' a zs'->List.Perm zs' (f++[x])->Q true {s with heap:=h' }:=by
   intro h' zs' Vl hS' n;have:=h h' zs' Vl hS' (λz=>absurd z N) (λ_=>n);rw[jau N] at this;exact this
  have p:∀d:SetTable,d.fits c.size=true->d.led=t.led->d.plain=false->wpAny (model prog w) A (do
    storeSet a c d
    if(!wasDummy&&d.tooFull)=true then do
      (match(relayAll d c (SetTable.grown c.size)).2.2 with | true=>rule "set.scan.the-table-gave-way" |false=>pure ())
      storeSet a (relayAll d c (SetTable.grown c.size)).1 (relayAll d c (SetTable.grown c.size)).2.1
      pure (some true)
     else pure (some true)) (λr s'=>wpAny (model prog w) A (match r with | some H=>pure H | none=>setAddHashedIn a (.str x k) ((aI prog w).hash (Sum.inr x)) 99999) Q E s') E s:=by
   intro d hf2 R T;refine jaa (jb1 Z hd ?_ (fits_of_scanBound i));obtain⟨YD,Lr⟩:=dg.store (w:=w) Z P hd y S O i hf2 (R.trans jq) T;have Y:=jbw s.heap a (Obj.putSet c d);split
   .have n:=relayAll_perm d c (SetTable.grown c.size);have V:=relayAll_fits d c (SetTable.grown c.size);have F:=JZ d c (SetTable.grown c.size);generalize hRl:relayAll d c (SetTable.grown c.size)=Rl at n V F ⊢;obtain⟨es2,t3,a7s⟩:=Rl;have U:es2.size=c.size:=by rw[<- jaH,n.length_eq,jaH]
    refine jaa (X _ ?_);refine jaa (jb1 YD rfl ?_ (fits_of_scanBound (by rw[U];exact i)));obtain⟨_,hS2⟩:=dg.store (w:=w) YD P rfl (y.perm n) (λe g=>S e (n.mem_iff.mp g)) ((n.map _).nodup_iff.mpr O) (by rw[U];exact i) V (F.1.trans (R.trans jq)) (F.2 T);exact jad (jad (l _ _ (Y.trans (jbw _ a _)) hS2 ((n.map _).trans D)))
   .exact jad (jad (l _ _ Y Lr D))
  split
  .refine jaa ?_;refine jad ?_;exact p {t1 with plain:=false } (SetTable.fits_plain_off OV) hl rfl
  .rename_i hpp;refine jaa (jad ?_);exact p t1 OV hl (by simpa using hpp)
end PySem
namespace PySem
open L2 PyProof.Rows
section
variable {St:Nat->Shared->Prop}
theorem dg.at (x:dg prog w h a b)(k:∀o,h.get? a=some o->h'.get? a=some o):dg prog w h' a b:=by
 obtain⟨o,e,c,t,d,r⟩:=x;exact⟨o,e,c,t,k o d,r⟩
theorem DU (W:WalksS prog w A.in1 I fp wr G n P St)(S:Addr)(p:S∉fp)(ss:jcI)(u:ss.length=n)(r:∀i v,i<n->P i v->∃t,v=.str (ss.getD i Str.empty) t)(l:n+1<scanBound) :
  ∀(k i:Nat)(s:Shared)(zs:jcI),n - i=k->i<=n->St i s->dg prog w s.heap S zs->zs.length<=i->(∀x,x∈zs↔x∈ss.take i)->
   (∀s' zs',Moved (S::wr) G s s'->dg prog w s'.heap S zs'->zs'.length<=n->(∀x,x∈zs'↔x∈ss)->R (.ok (.ret .none)) s')->
   codeAny (model prog w) A (.builtin "set.update.loop" ⟨[.ref S,.ref I],[]⟩) R s:=by
 have B:=λh=>p (W.sub _ h);have d:∀b∈wr,b∈S::wr:=λb l=>jav _ l;intro k
 induction k with
 |zero=>
  intro i s zs hk Z g O X y H;have c:i=n:=by lia
  subst c;refine jb6 F.entry_set_update_loop ?_;refine jaa (W.done s _ _ g λs' a=>?_);refine jad (H s' zs (a.mono d) (O.at λo U=>a.heap S _ B U) X λx=>?_);rw[y x,<- u,List.take_length]
 |succ k Y=>
  intro i s zs hk Z g O X y H;have j:i<n:=by lia
  refine jb6 F.entry_set_update_loop ?_;refine jaa (W.item i s _ _ j g λv s' hP K a=>?_);obtain⟨t,rfl⟩:=r i v j hP;have N:=O.at λo U=>a.heap S _ B U;refine jaa (jbi ?_);refine jbi ?_;refine jaa ((aI prog w).pyHash (dB _ _ _ _) ?_);refine Iq N (by lia) λh' zs' V M c f=>?_;have hx:ss[i]?=some (ss.getD i Str.empty):=by
   rw[List.getD_eq_getElem?_getD,jaT (by lia)];rfl
  have m:∀x,x∈zs'↔x∈ss.take (i+1):=λx=>by
   rw[List.take_add_one,hx,jan];by_cases q:ss.getD i Str.empty∈zs
   .rw[c q,y x];constructor
    .exact .inl
    .rintro(z | z)
     .exact z
     .have:x=ss.getD i Str.empty:=by simpa using z
      rw[this];exact(y _).mp q
   .rw[(f q).mem_iff,jan,y x];simp
  have E:zs'.length<=i+1:=by
   by_cases q:ss.getD i Str.empty∈zs
   .rw[c q];lia
   .rw[(f q).length_eq,jab,ja0];lia
  refine jad ⟨plainId_quiet F.plain_set_update_loop _,Y (i+1) _ zs' (by lia) j (W.frame _ s' _ _ K (jbA _) λb l o e=>?_) M E m λC T J Q L D=>?_⟩
  .rw[V.2 b (λh:b=S=>p (by rw[<- h];exact l))];exact e
  .refine H C T (Moved.trans W.gtrans ((a.mono d).then_heap (jbA _) λb o l e=>?_) J) Q L D;rw[V.2 b (λh:b=S=>l (by rw[h];exact jay))];exact e
end
theorem yV (a:Value)
  (h:Q₁ (.ref s.heap.objs.size) {s with heap:=s.heap.push {cls:=.type "set",dict:=none,data:=.set #[] 0 (.fresh 0 0 (!w.params.followText "set-order")) } }) :
  codeAny (model prog w) A (.call (.builtin "set.__new__") ⟨[.type "set",a],[]⟩) (wants Q₁ E) s:=by
 refine codeAny_of_tree ?_;refine jaa (wpAny_of_eq (F.newCall_set_1 a) (jad ⟨plainId_quiet F.plain_set_new _,jb6 F.entry_set_new ?_⟩));unfold Builtin.«set.__new__» Builtin.Frozenset.newClass;have b:=sub_set_self;obtain⟨e,g,d,tk,c⟩:=s
 wp_walk
 refine jbm (jad ?_);refine jaa (wpAny_alloc (jad ?_));exact jad h
def StrsAre.Mw:∀{vs:jcJ}{ss:jcI},StrsAre vs ss->∀(i:Nat)(v:Value),vs[i]?=some v->∃t,v=.str (ss.getD i Str.empty) t:=by
 intro vs ss h
 induction h with
 |nil=>intro i v e;simp at e
 |cons x t d c=>
  intro i v e;cases i with
  |zero=>simp at e;exact⟨t,e.symm⟩
  |succ i=>
   obtain⟨a,b⟩:=c i v e;exact⟨a,by rw[b];rfl⟩
set_option maxHeartbeats 3200000 in
theorem pZ {l:Addr}{a:Array Value}{ss:jcI}{Q:jcG}(hh:A.handled=none)(C:s.heap.IsList l a\/s.heap.IsTuple l a)(S:StrsAre a.toList ss)(D:a.size+1<scanBound)
  (h:∀(h':Heap)(tk:Nat)(d:jcI),dg prog w h' s.heap.objs.size d->(∀x,x∈d↔x∈ss)->d.length<=a.size->
   (∀b o,b<s.heap.objs.size->s.heap.get? b=some o->h'.get? b=some o)->Q (.ref s.heap.objs.size) {s with heap:=h',toks:=tk }) :
  wpAny (model prog w) A (call (.type "set") [.ref l]) Q E s:=by
 have j:ss.length=a.size:=by rw[<- StrsAre.length S,jaH]
 obtain⟨c,tl,a84⟩:=jbL.mro;have H:=jbL.made;have W:=jbL.sub;refine wpAny_call (codeAny_of_tree ?_);show wpAny _ _ (callAny (.type "set") _) _ _ _;refine jad ⟨Code.quiet_builtin _ (by symm),jb6 F.entry_type_call ?_⟩;rw[Around.under_plain (weight_type_call_type "set" [.ref l] []) rfl];have h1:=jbL.notType;have h2:=jbL.canCreate;have hct:=F.typeCall_set_1 (.ref l)
 repeat (any_goals (first | assumption | wp_step))
 refine jbK (yV (.ref l) (E:=E) (Q₁:=λn s₁=>n=.ref s.heap.objs.size/\s₁={s with heap:=s.heap.push {cls:=.type "set",dict:=none,data:=.set #[] 0 (.fresh 0 0 (!w.params.followText "set-order")) } }) ⟨M,M⟩) λr s₁ m=>?_;cases r with
 |error e=>exact m
 |ok K=>
  cases K with
  |ret n=>
   obtain⟨rfl,rfl⟩:=m;have X:(s.heap.push {cls:=.type "set",dict:=none,data:=.set #[] 0 (.fresh 0 0 (!w.params.followText "set-order")) }).get? s.heap.objs.size=some {cls:=.type "set",dict:=none,data:=.set #[] 0 (.fresh 0 0 (!w.params.followText "set-order")) }:=jaK _ rfl;have Y:Shared.TypeIs {s with heap:=s.heap.push {cls:=.type "set",dict:=none,data:=.set #[] 0 (.fresh 0 0 (!w.params.followText "set-order")) } } (.ref s.heap.objs.size) "set":=⟨_,X,M⟩
   have hli:=jbL.init.lookup;have hbi:=jbL.init.bind (.ref s.heap.objs.size)
   repeat (any_goals (first | assumption | wp_step))
   refine jbK (codeAny_call_builtin (R:=wants (λr s₂=>r=.none/\∃h' tk d,s₂={s with heap:=h',toks:=tk }/\dg prog w h' s.heap.objs.size d/\(∀x,x∈d↔x∈ss)/\d.length<=a.size/\
     (∀b o,b<s.heap.objs.size->s.heap.get? b=some o->h'.get? b=some o)) E) jbL.init.plain F.entry_set_init (check_set_init_1 Y ?_)) λr₂ s₂ m₂=>?_
   .rcases C with C | C
    all_goals
     have g:=C.push {cls:=.type "set",dict:=none,data:=.set #[] 0 (.fresh 0 0 (!w.params.followText "set-order")) };obtain⟨ol,u,B,nl,y⟩:=C;obtain⟨a8u,a6G,a6H,a4W⟩:=ol;simp only at B y;subst B;subst y;have a8Z:=jap {cls:=.type "set",dict:=none,data:=.set #[] 0 (.fresh 0 0 (!w.params.followText "set-order")) } u;have:=F.sub_list_set;have:=F.sub_list_frozenset;have:=F.sub_tuple_set;have:=F.sub_tuple_frozenset;have:(Value.type "list" ==Value.type "dict")=false:=by decide
     have:(Value.type "tuple" ==Value.type "dict")=false:=by decide
     unfold Builtin.«set.__init__» noKeywords Builtin.Frozenset.updateFrom;generalize O:pyIter=PI
     wp_walk
     subst O
     first | refine wpAny_pyIter_list g ?_ | refine wpAny_pyIter_tuple g ?_
     refine jaa (wpAny_runValue ?_);have t:l<s.heap.objs.size:=jal u;have z:A.in1.in1.in1.handled=none:=by simp[hh]
     have q:l≠(s.heap.push {cls:=.type "set",dict:=none,data:=.set #[] 0 (.fresh 0 0 (!w.params.followText "set-order")) }).objs.size:=by rw[jbh];exact jax (jbP t)
     have p:s.heap.objs.size∉[(s.heap.push {cls:=.type "set",dict:=none,data:=.set #[] 0 (.fresh 0 0 (!w.params.followText "set-order")) }).objs.size,l]:=by
      rw[jbh];simp only[jah,jag,jaY,or_false,not_or];exact⟨jax (jb3 _),jbJ t⟩
     first | refine DU (Walks.list z _ l q a).toS s.heap.objs.size p ss j (λi v _ V=>StrsAre.Mw S i v (by rw[jbX];exact V)) D (a.size - 0) 0 _ [] (by lia) (jaD _) ⟨⟨_,jaK _ M,M,M⟩,g.push _⟩ ?hS0 (jam _) (λx=>by simp) ?hR | refine DU (Walks.tuple z _ l q a).toS s.heap.objs.size p ss j (λi v _ V=>StrsAre.Mw S i v (by rw[jbX];exact V)) D (a.size - 0) 0 _ [] (by lia) (jaD _) ⟨⟨_,jaK _ M,M,M⟩,g.push _⟩ ?hS0 (jam _) (λx=>by simp) ?hR
     case hS0=>
      exact⟨_,#[],0,_,jap _ X,⟨M,M,M⟩,M,(λe U=>by simp at U),(λe U=>by simp at U),M,.nil,by decide,by rfl,M,.inr M⟩
     case hR=>
      intro s' d G k N f;obtain⟨h',Z,d',T,P⟩:=s';have eg:Z=s.gens:=G.gens;have ed:d'=s.drawn:=G.drawn;have eo:P=s.os:=G.os;subst eg;subst ed;subst eo;show wpAny _ _ _ _ _ _;refine jad ?_;show wpAny _ _ (ret Value.none) _ _ _;refine jad ⟨M,h',T,d,M,k,f,N,λb o D e=>?_⟩;have J:b≠s.heap.objs.size:=jax D;have L:b≠(s.heap.push {cls:=.type "set",dict:=none,data:=.set #[] 0 (.fresh 0 0 (!w.params.followText "set-order")) }).objs.size:=by rw[jbh];exact jax (jbP D)
      exact G.heap b o (by simp only[jah,jag,jaY,or_false,not_or];exact⟨J,L⟩) (jap _ (jap _ e))
   .cases r₂ with
    |error e=>exact m₂
    |ok K₂=>
     cases K₂ with
     |ret r=>
      obtain⟨rfl,h',tk,d,rfl,k,f,N,I⟩:=m₂
      repeat (any_goals (first | assumption | wp_step))
      exact h _ _ d k f N I
     |_=>exact m₂.elim
  |_=>exact m.elim
end PySem
namespace PySem
open L2 PyProof.Rows
namespace F
def vJ:entryFor table "set.__iter__"=some Builtin.«frozenset.__iter__»:=entryFor_alias (id':="frozenset.__iter__") (by kernel_rfl) rfl (by symm) (by kernel_rfl)
def GC:Manifest.owners.lookup (String.ofList ['r','o','t','a','r','e','t','i','_','t','e','s'].reverse)=some Manifest.sig_set_iterator:=by kernel_rfl
theorem aK:Slot "set_iterator" "__next__" "set_iterator.__next__":=
 .of (owner:="set_iterator") (n:="__next__") (by rw[typeLookup_type];kernel_rfl) (by symm) (by symm) (by symm)
  (by first | exact .inl (by symm) | exact .inr (by symm)) (by rw[isSubtype_type];kernel_rfl)
def dQ:entryFor table "set_iterator.__next__"=some Builtin.«set_iterator.__next__»:=entryFor_of_tree (by kernel_rfl)
def dH (a:Value):argsOk "set_iterator.__next__" ⟨[a],[]⟩:=by rfl
theorem gH:Slot "set_iterator" "__iter__" "set_iterator.__iter__":=
 .of (owner:="set_iterator") (n:="__iter__") (by rw[typeLookup_type];kernel_rfl) (by symm) (by symm) (by symm)
  (by first | exact .inl (by symm) | exact .inr (by symm)) (by rw[isSubtype_type];kernel_rfl)
theorem kF:entryFor table "set_iterator.__iter__"=some Builtin.«dict_keyiterator.__iter__»:=
 entryFor_alias (id':="dict_keyiterator.__iter__") (by kernel_rfl) rfl (by symm) (by kernel_rfl)
def kg (a:Value):argsOk "set_iterator.__iter__" ⟨[a],[]⟩:=by kernel_rfl
end F
def sE (h:Heap)(I:Addr)(first:Value)(i:Nat)(a:Addr)(n b:Nat):Prop:=
 ∃o,h.get? I=some o/\o.cls=.type "set_iterator"/\o.data=.fields #[first,.int i 0,.ref a,.int n 0,.int b 0]
def jC (h:Heap)(a:Addr)(b:Array (Int×Value))(c:Nat)(t:SetTable):Prop:=∃o,h.get? a=some o/\o.data=.set b c t/\t.fits b.size=true
def sE.typeIs (x:sE s.heap I first i a n b):s.TypeIs (.ref I) "set_iterator":=let⟨o,ho,hc,_⟩:=x;⟨o,ho,hc⟩
def tu (b:sE s.heap I first i a n ep)(h:Q (.ref I) s):wpAny (model prog w) A (pyIter (.ref I)) Q E s:=by
 refine wpAny_pyIter_slot b.typeIs F.gH (jby F.gH b.typeIs F.kF ?_ (F.kg _));exact jad ⟨_,M,"set_iterator",_,b.typeIs,F.aK.lookup,h⟩
end PySem
namespace PySem
open L2 PyProof.Rows
def sX {a:Array (Int×Value)}(b:a.size=n):(((a.size:Nat):Int) !=((n:Nat):Int))=false:=by rw[b];simp
theorem XX {prog:Program}{w:World}{A:Around}{E:jcG}{s:Shared}{I:Addr}{a:Addr}{tp:Addr}{i:Nat}{n:Nat}{ep:Nat}{es:Array (Int×Value)}{t:SetTable}{Q:jcN->Shared->Prop}{ps:jcJ}{k p:Nat}{tk:Tok}{j:Obj}{e:Int×Value}(c:sE s.heap I (.ref tp) i a n ep)(hs:jC s.heap a es ep t)(m:es.size=n)(r:s.heap.get? tp=some j)(hd:j.data=.seq ps.toArray k)
  (q:ps[i]?=some (.int p tk)) (u:es[p]?=some e) (v:∀h',sE h' I (.ref tp) (i+1) a n ep->Heap.SameBut I s.heap h'->Q (some e.2) {s with heap:=h' }):wpAny (model prog w) A (pyNext (.ref I)) Q E s:=by
 obtain⟨o,g,x,b⟩:=id c;obtain⟨y,f,d,h⟩:=hs;refine jaa (wpAny_attempt (jcu c.typeIs F.aK
  (jby F.aK c.typeIs F.dQ ?_ (F.dH _))))
 show wpAny _ _ (fieldsOf (.ref I) >>=_) _ _ s;refine jaa (wpAny_fieldsOf g b ?_);refine jaa (jcA f d h ?_);rw[sX m];refine jaa (wpAny_seqItems r hd ?_);dsimp only;have l:ps.toArray[(i:Int).toNat]?=some (.int p tk):=by rw[Int.toNat_natCast];simpa using q
 rw[l];refine jaa (jaa (jaR f d h ?_));simp only[Int.toNat_natCast,bne_self_eq_false,u];refine jad ?_;refine jaa (jbd g b (by simp) (jad ⟨_,M,jad (v _ ?_ (jbw ..))⟩));exact⟨_,ja2 _ g (jbq (ja1 b _)),(jcp ..).trans x,by rw[ja1 b];simp[rawInt]⟩
theorem a2F {ps:jcJ}{j:Obj}(p:A.handled=none)(d:sE s.heap I (.ref tp) i a n ep)(hs:jC s.heap a es ep t)(q:es.size=n)(v:s.heap.get? tp=some j)(hd:j.data=.seq ps.toArray k)
  (r:ps[i]?=none) (y:∀h',(∀b o,b≠I->s.heap.get? b=some o->h'.get? b=some o)->Q none {s with heap:=h' }):wpAny (model prog w) A (pyNext (.ref I)) Q E s:=by
 obtain⟨o,h,C,c⟩:=id d;obtain⟨B,g,f,u⟩:=hs;refine jaa (wpAny_attempt (jcu d.typeIs F.aK
  (jby F.aK d.typeIs F.dQ ?_ (F.dH _))))
 show wpAny _ _ (fieldsOf (.ref I) >>=_) _ _ s;refine jaa (wpAny_fieldsOf h c ?_);refine jaa (jcA g f u ?_);rw[sX q];refine jaa (wpAny_seqItems v hd ?_);dsimp only;have m:ps.toArray[(i:Int).toNat]?=none:=by rw[Int.toNat_natCast];simpa using r
 rw[m];refine jaa (jbd h c (by simp) ?_);have x:=ja2 (Obj.mapFields (·.setIfInBounds 0 (rawInt 0))) h (jbq (ja1 c _));refine jaa (jbd x (ja1 c _) (by simp) ?_);refine jaa ?_;refine jaa (ja9 ?_ (by size_fits));refine jaa (wpAny_of_eq (by first | rfl | (simp only[firstArgMember];rfl)) ?_);refine ja9 ?_ (by size_fits);refine jaa (wpAny_handled ?_);rw[show A.in1.handled=none from p];refine jaa (jad (wpAny_throw ?_));refine jaa (jb4 ⟨_,jaK _ M,M⟩ isSubtype_stop ?_);refine jad (y _ λb z l e=>?_);exact jap _ (jap _ ((jaO _ _ (jaE l)).trans ((jaO _ _ (jaE l)).trans e)))
theorem Ct {prog:Program}{w:World}{A:Around}{E:jcG}{s:Shared}{I:Addr}{a:Addr}{i:Nat}{n:Nat}{ep:Nat}{es:Array (Int×Value)}{t:SetTable}{Q:jcN->Shared->Prop}{k:Nat}{r:Option (Value×Nat)}(m:A.handled=none)(d:sE s.heap I (.int k 0) i a n ep)(hs:jC s.heap a es ep t)(p:es.size=n)
  (v:∀(G:Around)(z:jcG)(j:Option (Value×Nat)->Shared->Prop),j r s->wpAny (model prog w) G (setNext a k i ep) j z s)
  (D:∀x nx h',r=some (x,nx)->sE h' I (.int nx 0) (i+1) a n ep->Heap.SameBut I s.heap h'->Q (some x) {s with heap:=h' })
  (B:r=none->∀h',(∀b o,b≠I->s.heap.get? b=some o->h'.get? b=some o)->Q none {s with heap:=h' }):wpAny (model prog w) A (pyNext (.ref I)) Q E s:=by
 obtain⟨o,f,u,c⟩:=id d;obtain⟨J,h,g,y⟩:=hs;refine jaa (wpAny_attempt (jcu d.typeIs F.aK
  (jby F.aK d.typeIs F.dQ ?_ (F.dH _))))
 show wpAny _ _ (fieldsOf (.ref I) >>=_) _ _ s;refine jaa (wpAny_fieldsOf f c ?_);refine jaa (jcA h g y ?_);rw[sX p];refine jaa (v _ _ _ ?_);cases r with
 |some q=>
  obtain⟨x,nx⟩:=q;refine jaa (jbd f c (by simp) ?_);have l:=ja2 (Obj.mapFields (·.setIfInBounds 0 (rawInt nx))) f (jbq (ja1 c _));refine jaa (jbd l (ja1 c _) (by simp) (jad ⟨_,M,jad (D x nx _ rfl ?_ ((jbw ..).trans (jbw ..)))⟩));exact⟨_,ja2 _ l (jbq (ja1 (ja1 c _) _)),((jcp ..).trans (jcp ..)).trans u,by rw[ja1 (ja1 c _)];simp[rawInt]⟩
 |none=>
  refine jaa (jbd f c (by simp) ?_);refine jaa ?_;refine jaa (ja9 ?_ (by size_fits));refine jaa (wpAny_of_eq (by first | rfl | (simp only[firstArgMember];rfl)) ?_);refine ja9 ?_ (by size_fits);refine jaa (wpAny_handled ?_);rw[show A.in1.handled=none from m];refine jaa (jad (wpAny_throw ?_));refine jaa (jb4 ⟨_,jaK _ M,M⟩ isSubtype_stop ?_);refine jad (B rfl _ λb H C e=>?_);exact jap _ (jap _ ((jaO _ _ (jaE C)).trans e))
end PySem
namespace PySem
open L2 PyProof.Rows
theorem qq {α:Type}:∀{l:List α}{i:Nat}(h:i<l.length),List.Perm (l[i]::l.eraseIdx i) l
 |x::r,0,_=>.refl _
 |x::r,i+1,h=>by
  have a:i<r.length:=by simpa using h
  exact(List.Perm.swap ..).trans (.cons _ (qq a))
theorem AS {α:Type}(next:Nat->Nat):∀(n k:Nat)(l:List α)(out:Array α),l.length=n->List.Perm (pickOrder.go next n k l out).toList (out.toList++l)
 |0,k,l,out,h=>by
  have:=jbp.mp h;subst this;unfold pickOrder.go;simp
 |n+1,k,l,out,h=>by
  unfold pickOrder.go;have a:next k % l.length<l.length:=Nat.mod_lt _ (by lia)
  rw[jaT a];refine(AS next n (k+1) (l.eraseIdx (next k % l.length)) (out.push l[next k % l.length]) (by rw[List.length_eraseIdx_of_lt a];lia)).trans ?_;rw[Array.toList_push,jaQ];refine List.Perm.append_left _ ?_;exact qq a
def fz {α:Type}(next:Nat->Nat)(xs:Array α):List.Perm (pickOrder next xs).toList xs.toList:=by
 unfold pickOrder;have:=AS next xs.size 0 xs.toList #[] (by simp)
 simpa using this
def zE (b:n≠0)(h:∀i d,i<n->Q i {s with drawn:=d }):wpAny jcE A (choose a n) Q E s:=by
 intro Γ p hΓ;refine⟨b,?_⟩;exact h _ _ (Nat.mod_lt _ (Nat.pos_of_ne_zero b))
theorem tV {α:Type}:∀(n:Nat)(xs:List α)(s:Shared)(Q:List α->Shared->Prop),xs.length=n->(∀ys d,List.Perm ys xs->Q ys {s with drawn:=d })->wpAny jcE A (drawOrder n xs) Q E s
 |0,xs,s,Q,a,h=>by
  have:=jbp.mp a;subst this;have e:s={s with drawn:=s.drawn }:=by cases s;rfl
  exact jad (h [] _ .nil)
 |n+1,xs,s,Q,a,h=>by
  cases xs with
  |nil=>cases a
  |cons g j=>
   refine jaa (zE (by rw[a];lia) λi d b=>?_);rw[jaT b];refine jaa (tV n _ _ _ (by rw[List.length_eraseIdx_of_lt b];lia) λys f c=>jad ?_);exact h _ f ((List.Perm.cons _ c).trans (qq b))
theorem AE (d:w.params.followText "set-order"=true)(hs:jC s.heap a es ep t)
  (h:Q (((pickOrder (w.params.setOrder a ep) es)[i]?).map λe=>(e.2,c)) s):wpAny (model prog w) A (setNext a c i ep) Q E s:=by
 obtain⟨o,b,hd,f⟩:=hs;unfold setNext;refine jaa (jaR b hd f ?_);dsimp only;unfold setsByText;refine jaa (jaa (jbm (jad ?_)));show wpAny _ _ (if(w.params.followText "set-order")=true then _ else _) _ _ _;rw[d];simp only[if_true,bne_self_eq_false,jbC,jbo];unfold setWalk;refine jaa (jaa (jaR b hd f ?_));dsimp only;unfold setsByText;refine jaa (jaa (jbm (jad ?_)));show wpAny _ _ (if(w.params.followText "set-order")=true then _ else _) _ _ _;rw[d];simp only[if_true];refine jaa (jbm (jad (jad ?_)));exact h
theorem AF (d:w.params.followText "set-order"=false)(hs:jC s.heap a es ep t)(e:t.led=true)(g:es.size<=1)
  (h:Q (match es[SetTable.below t.place b]?,t.place[SetTable.below t.place b]? with | some (_,x),some j=>some (x,j+1) | _,_=>none) s):wpAny (model prog w) A (setNext a b i ep) Q E s:=by
 obtain⟨o,c,hd,f⟩:=hs;refine jaa (jaR c hd f ?_);refine jaa (jaa (jbm (jad ?_)));show wpAny _ _ (if(w.params.followText "set-order")=true then _ else _) _ _ _;rw[d];show wpAny _ _ (if((!t.plain&&decide (es.size > 1))=true) then _ else _) _ _ _;rw[show decide (es.size > 1)=false from jau (by lia),Bool.and_false];refine jaa ?_;show wpAny _ _ (if((!t.led&&!es.isEmpty)=true) then _ else _) _ _ _;rw[e];exact jad (jad h)
end PySem
namespace PySem
open L2 PyProof.Rows
theorem jC.at (x:jC h a es ep t)(k:∀o,h.get? a=some o->h'.get? a=some o):jC h' a es ep t:=let⟨o,ho,r⟩:=x;⟨o,k o ho,r⟩
theorem sE.at (x:sE h I first i a n ep)(k:∀o,h.get? I=some o->h'.get? I=some o):sE h' I first i a n ep:=let⟨o,ho,r⟩:=x;⟨o,k o ho,r⟩
theorem QM (hT:w.params.followText "set-order"=true)(hh:A.handled=none)(hne:a≠I)(hn:es.size=n) :
  Walks prog w A I [I,a] [I] n (λi v=>((pickOrder (w.params.setOrder a ep) es).toList.map (·.2))[i]?=some v) (λi h=>(∃sl:Nat,sE h I (.int sl 0) i a n ep)/\jC h a es ep t) where
 sub:=λb hb=>by simp at hb;simp[hb]
 frame:=λ_ _ _ st hk=>⟨let⟨sl,x⟩:=st.1;⟨sl,x.at λo e=>hk I (by simp) o e⟩,st.2.at λo e=>hk a (by simp) o e⟩
 item:=λi s Q E hi st hQ=>by
  obtain⟨⟨sl,x⟩,tb⟩:=st;have hp:(pickOrder (w.params.setOrder a ep) es).size=n:=by rw[<- jaH,(fz _ es).length_eq,jaH,hn]
  have hg:(pickOrder (w.params.setOrder a ep) es)[i]?=some ((pickOrder (w.params.setOrder a ep) es)[i]'(by lia)):=by simp[hi]
  refine Ct hh x tb hn (λA' E' Q' q=>AE hT tb q) (λv nx h' e x' sb=>?_) (λe=>?_)
  .rw[hg] at e;cases e;refine hQ _ h' s.toks ?_ ⟨⟨_,x'⟩,tb.at λo e=>(sb.2 a hne).trans e⟩ λb o hb e=>(sb.2 b (λh=>hb (by simp[h]))).trans e;rw[jaV,jbX,hg];rfl
  .rw[hg] at e;cases e
 done:=λs Q E st hQ=>by
  obtain⟨⟨sl,x⟩,tb⟩:=st;have hp:(pickOrder (w.params.setOrder a ep) es).size=n:=by rw[<- jaH,(fz _ es).length_eq,jaH,hn]
  have hg:(pickOrder (w.params.setOrder a ep) es)[n]?=none:=by simp[hp]
  refine Ct hh x tb hn (λA' E' Q' q=>AE hT tb q) (λv nx h' e x' sb=>?_) (λe h' kp=>?_)
  .rw[hg] at e;cases e
  .exact hQ h' s.toks λb o hb e=>kp b o (λh=>hb (by simp[h])) e
 self:=λ_ _ _ _ st hQ=>let⟨⟨_,x⟩,_⟩:=st;tu x hQ
def a2X (h:l.size=1):∃j,l=#[j]:=by
 obtain⟨l⟩:=l
 match l,h with
 |[j],_=>exact⟨j,M⟩
def JA (j:Nat):SetTable.below #[j] 0=0:=rfl
def below_1 (j:Nat):SetTable.below #[j] (j+1)=1:=by simp[SetTable.below,SetTable.below.go]
noncomputable def ZJ (t:SetTable):Nat->Nat
 |0=>0
 |_+1=>t.place.getD 0 0+1
theorem QN (hT:w.params.followText "set-order"=false)(hh:A.handled=none)(hne:a≠I)(hn:es.size=n)(h1:n<=1)(hl:t.led=true)(hf:t.fits es.size=true) :
  Walks prog w A I [I,a] [I] n (λi v=>(es.toList.map (·.2))[i]?=some v) (λi h=>sE h I (.int (ZJ t i) 0) i a n ep/\jC h a es ep t) where
 sub:=λb hb=>by simp at hb;simp[hb]
 frame:=λ_ _ _ st hk=>⟨st.1.at λo e=>hk I (by simp) o e,st.2.at λo e=>hk a (by simp) o e⟩
 item:=λi s Q E hi st hQ=>by
  obtain⟨x,tb⟩:=st;have i0:i=0:=by lia
  have n1:n=1:=by lia
  subst i0;subst n1;have hp:t.place.size=1:=by simp only[SetTable.fits,ja3,ja8] at hf;lia
  obtain⟨j,hj⟩:=a2X hp;refine Ct hh x tb hn (λA' E' Q' q=>AF hT tb hl (by lia) q) (λv nx h' e x' sb=>?_) (λe=>?_)
  .have hz:ZJ t 0=0:=rfl;rw[hz,hj,JA] at e;have h0:es[0]?=some (es[0]'(by lia)):=by simp[hn]
   rw[h0] at e;simp at e;obtain⟨e1,e2⟩:=e;refine hQ _ h' s.toks ?_ ⟨?_,tb.at λo e=>(sb.2 a hne).trans e⟩ λb o hb e=>(sb.2 b (λh=>hb (by simp[h]))).trans e
   .rw[jaV,jbX,h0,<- e1];rfl
   .have:ZJ t 1=nx:=by show t.place.getD 0 0+1=nx;rw[hj,<- e2];rfl
    rw[this];exact x'
  .have hz:ZJ t 0=0:=rfl;rw[hz,hj,JA] at e;have h0:es[0]?=some (es[0]'(by lia)):=by simp[hn]
   rw[h0] at e;simp at e
 done:=λs Q E st hQ=>by
  obtain⟨x,tb⟩:=st;have hp:t.place.size=n:=by simp only[SetTable.fits,ja3,ja8] at hf;lia
  refine Ct hh x tb hn (λA' E' Q' q=>AF hT tb hl (by lia) q) (λv nx h' e x' sb=>?_) (λe h' kp=>?_)
  .exfalso;have:n=0\/n=1:=by lia
   rcases this with z | z
   .subst z;have h0:es=#[]:=by simpa using hn
    rw[h0] at e;simp at e
   .subst z;obtain⟨j,hj⟩:=a2X hp;have hz:ZJ t 1=j+1:=by show t.place.getD 0 0+1=j+1;rw[hj];rfl
    rw[hz,hj,below_1] at e;have h0:es[1]?=none:=by simp[hn]
    simp at e
  .exact hQ h' s.toks λb o hb e=>kp b o (λh=>hb (by simp[h])) e
 self:=λ_ _ _ _ st hQ=>tu st.1 hQ
theorem QU (hh:A.handled=none)(hne:a≠I)(htp:tp≠I)(hn:es.size=n)(hps:List.Perm ps (List.range n)) :
  Walks prog w A I [I,tp,a] [I] n (λi v=>((ps.filterMap λp=>es[p]?).map (·.2))[i]?=some v) (λi h=>sE h I (.ref tp) i a n ep/\(∃ot k,h.get? tp=some ot/\ot.data=.seq (ps.map λp:Nat=>rawInt p).toArray k)/\jC h a es ep t) where
 sub:=λb hb=>by simp at hb;simp[hb]
 frame:=λ_ _ _ st hk=>⟨st.1.at λo e=>hk I (by simp) o e,let⟨ot,k,e,d⟩:=st.2.1;⟨ot,k,hk tp (by simp) _ e,d⟩,st.2.2.at λo e=>hk a (by simp) o e⟩
 item:=λi s Q E hi st hQ=>by
  obtain⟨x,⟨ot,k,et,dt⟩,tb⟩:=st;have hpl:ps.length=n:=by rw[hps.length_eq,jbg]
  have hpi:ps[i]?=some (ps[i]'(by lia)):=jaT _;have hlt:ps[i]'(by lia)<n:=jbU.mp (hps.mem_iff.mp (jcq _));have he:es[ps[i]'(by lia)]?=some (es[ps[i]'(by lia)]'(by lia)):=by simp[hn]
  have hall:∀q:jcO,(∀p∈q,p<n)->(q.filterMap λp=>es[p]?)=q.map λp=>es.getD p (0,.none):=by
   intro q
   induction q with
   |nil=>intro _;rfl
   |cons p r ih=>
    intro hq;have h1:=hq p (jay ..);rw[jcb (b:=es.getD p (0,.none)) (by simp[hn,h1]),ih λp hp=>hq p (jav _ hp)];rfl
  refine XX x tb hn et dt (by rw[jaV,hpi];rfl) he λh' x' sb=>?_;refine hQ _ h' s.toks ?_ ⟨x',⟨ot,k,(sb.2 tp htp).trans et,dt⟩,tb.at λo e=>(sb.2 a hne).trans e⟩ λb o hb e=>(sb.2 b (λh=>hb (by simp[h]))).trans e;rw[hall ps (λp hp=>jbU.mp (hps.mem_iff.mp hp)),jaM,jaV,hpi];simp[hn,hlt]
 done:=λs Q E st hQ=>by
  obtain⟨x,⟨ot,k,et,dt⟩,tb⟩:=st;have hpl:ps.length=n:=by rw[hps.length_eq,jbg]
  exact a2F hh x tb hn et dt (by rw[jaV,List.getElem?_eq_none (by lia)];rfl) λh' kp=>hQ h' s.toks λb o hb e=>kp b o (λh=>hb (by simp[h])) e
 self:=λ_ _ _ _ st hQ=>tu st.1 hQ
end PySem
namespace PySem
open L2 PyProof.Rows
theorem strs_map:∀{L:List (Int×Value)},(∀e∈L,∃z k,e.2=Value.str z k)->StrsAre (L.map (·.2)) (L.map λe=>strOf e.2)
 |[],_=>.nil
 |e::r,h=>by
  obtain⟨z,k,q⟩:=h e (jay ..);show StrsAre (e.2::r.map (·.2)) (strOf e.2::r.map λe=>strOf e.2);rw[q];exact .cons z k (strs_map λe a=>h e (jav _ a))
theorem ON (U:dg prog w s.heap a C)
  (J:∀(I:Addr)(K:jcK)(St:Nat->Heap->Prop)(vs:jcJ)(u:jcI)(h':Heap)(d:Drawn),(∀A':Around,A'.handled=none->Walks prog w A' I K [I] C.length (λi v=>vs[i]?=some v) St)->St 0 h'->StrsAre vs u->List.Perm u C->
   (∀b o,s.heap.get? b=some o->h'.get? b=some o)->s.heap.objs.size<=I->(∀b∈K,b=a\/s.heap.objs.size<=b)->Q (.ref I) {s with heap:=h',drawn:=d }):wpAny (model prog w) A (pyIter (.ref a)) Q E s:=by
 obtain⟨o,c,V,t,f,H,hd,R,l,h,S,m,g,N,G⟩:=U;have j:c.size=C.length:=by rw[<- h,jac,jaH]
 have y:s.TypeIs (.ref a) "set":=⟨o,f,H.1⟩
 have n:=jal f;refine wpAny_pyIter_slot y F.slot_set_iter (jby F.slot_set_iter y F.vJ ?_ (F.args_set_iter_1 _));show wpAny _ _ (Builtin.Frozenset.sizeOf a >>=_) _ _ s;refine jaa (jaa (jcA f hd g (jad ?_)));refine jaa ?_;refine jaa (jaR f hd g ?_);refine jaa (jaa (jbm (jad (jad ?_))));show wpAny _ _ (if(!(w.params.followText "set-order")&&(!t.plain&&decide (c.size > 1)))=true then _ else _) _ _ _;cases D:w.params.followText "set-order" with
 |true=>
  refine jaa (jad ?_);refine jaa (jaa (jaR f hd g (jad ?_)));refine jaa (ja9 (jad ⟨_,M,"set_iterator",_,⟨_,jaK _ M,M⟩,F.aK.lookup,?_⟩));have e:∀h':Heap,({s with heap:=h' }:Shared)={s with heap:=h',drawn:=s.drawn }:=λ_=>by cases s;rfl
  refine J _ [s.heap.objs.size,a] _ _ _ _ _ (λA' r=>QM D r (jax n) j) ⟨⟨0,_,jaK _ M,M,by simp[rawInt,j]⟩,o,jap _ f,hd,g⟩ (strs_map λe B=>l e ((fz _ c).mem_iff.mp B)) ?_ (λb o e=>jap _ e) (jam _) (λb m=>?_)
  .rw[<- h];exact(fz _ c).map _
  .rcases jah.mp m with z | z
   .exact .inr (by rw[z];exact jam _)
   .exact .inl (jag.mp z)
 |false=>
  by_cases W:c.size<=1
  .rw[show decide (c.size > 1)=false from jau (by lia),Bool.and_false];refine jaa (jad ?_);refine jaa (jaa (jaR f hd g (jad ?_)));refine jaa (ja9 (jad ⟨_,M,"set_iterator",_,⟨_,jaK _ M,M⟩,F.aK.lookup,?_⟩));have e:∀h':Heap,({s with heap:=h' }:Shared)={s with heap:=h',drawn:=s.drawn }:=λ_=>by cases s;rfl
   rw[D] at N;refine J _ [s.heap.objs.size,a] _ _ _ _ _ (λA' r=>QN D r (jax n) j (by lia) N g) ⟨⟨_,jaK _ M,M,by simp[rawInt,j,ZJ]⟩,o,jap _ f,hd,g⟩ (strs_map l) (by rw[h]) (λb o e=>jap _ e) (jam _) (λb m=>?_);rcases jah.mp m with z | z
   .exact .inr (by rw[z];exact jam _)
   .exact .inl (jag.mp z)
  .have hp:=G.resolve_right (by lia);rw[show decide (c.size > 1)=true from jaB (by lia),hp];refine jaa (tV _ _ _ _ (jbg ..) λO d k=>?_);have P:O.length=c.size:=by rw[k.length_eq,jbg]
   refine jaa (wpAny_newTuple ?_ (by rw[jac,P];exact fits_of_scanBound m));refine jaa (jaa (jaR (jap _ f) hd g (jad ?_)));refine jaa (ja9 (jad ⟨_,M,"set_iterator",_,⟨_,jaK _ M,M⟩,F.aK.lookup,?_⟩));rw[jbh];have L:∀q:jcO,(∀p∈q,p<c.size)->∀e∈(q.filterMap λp=>c[p]?),e∈c.toList:=λq _ e B=>by
    obtain⟨p,_,z⟩:=List.mem_filterMap.mp B;exact Array.mem_toList_iff.mpr (Array.mem_of_getElem? z)
   have x:List.Perm (O.filterMap λp=>c[p]?) c.toList:=by
    refine(k.filterMap _).trans ?_;have:=List.filterMap_getElem?_range_length c.toList;rw[jaH] at this;have T:(λp:Nat=>c[p]?)=λp:Nat=>c.toList[p]?:=by funext p;rw[jbX]
    rw[T,this]
   refine J (s.heap.objs.size+1) [s.heap.objs.size+1,s.heap.objs.size,a] _ _ _ _ d (λA' r=>QU r (jax (jbP n)) (jax (jb3 _)) j (by rw[<- j];exact k)) ⟨⟨_,Heap.get?_push_at (by rw[jbh]) M,M,by simp[rawInt,j]⟩,⟨_,_,jap _ (jaK _ M),M⟩,o,jap _ (jap _ f),hd,g⟩ (strs_map λe B=>l e (x.mem_iff.mp B)) ?_ (λb o e=>jap _ (jap _ e)) (jbA _) (λb m=>?_)
   .rw[<- h];exact x.map _
   .rcases jah.mp m with z | z
    .exact .inr (by rw[z];exact jbA _)
    .rcases jah.mp z with z | z
     .exact .inr (by rw[z];exact jam _)
     .exact .inl (jag.mp z)
end PySem
namespace PySem
open L2 PyProof.Rows
def OS (e:s.TypeIs (.ref a) "set")(h:Q false s):wpAny (model prog w) A (Builtin.List.listLengthHint (.ref a)) Q E s:=by
 refine jaa (wpAny_specialOf e PySem.F.slot_set_len.lookup ?_);generalize d:("set.__len__":String)=id0
 wp_delta
 subst d;refine jaa (jb4 (b:=true) e (by rw[isSubtype_type];kernel_rfl) ?_);refine wpAny_ite_split (λc=>absurd c (by decide)) (λ_=>?_);refine wpAny_ite_split (λ_=>?_) (λc=>absurd (by symm) c);refine jaa (wpAny_typeOf e ?_);exact jad h
def OO (h:ItemsOf (λi v=>vs[i]?=some v) a vs.length):a.toList=vs:=by
 apply List.ext_getElem?;intro i;rw[jbX];by_cases b:i<a.size
 .rw[Array.getElem?_eq_getElem b,h.2 i a[i] (by simp[b])]
 .have h1:=h.1;rw[Array.getElem?_eq_none (by lia),List.getElem?_eq_none (by lia)]
theorem Tt (E:A.handled=none)(g:dg prog w s.heap a zs)(S:Addr)(n:S≠a)(res:Value)(c₀:Nat)(H:s.heap.get? S=some {cls:=.type "list",data:=.seq #[] c₀ })
  (N:∀h' tk d acc' c' zs',(∀b o,b≠S->s.heap.get? b=some o->h'.get? b=some o)->h'.get? S=some {cls:=.type "list",dict:=none,data:=.seq acc' c',slots:=#[] }->StrsAre acc'.toList zs'->List.Perm zs' zs->
   R (.ok (.ret res)) {s with heap:=h',toks:=tk,drawn:=d }) (L:zs.length<=sizeLine) :
  wpAny (model prog w) A.in1 (Builtin.List.listExtendWith (.ref S) (.ref a) res)
   (λfin s'=>match fin with | .done f=>R (.ok f) s' | .again c'=>c'.quiet=true/\codeAny (model prog w) A c' R s') (λe s'=>R (.error e) s') s:=by
 have p:s.TypeIs (.ref a) "set":=let⟨o,_,_,_,ho,hex,_⟩:=g;⟨o,ho,hex.1⟩;have B:=jal H;refine jaa (wpAny_typeOf (T:="set") p ?_);have M:Builtin.List.listSameRef (.ref S) (.ref a)=false:=by simp[Builtin.List.listSameRef,n]
 have O:(Value.type "set" ==Value.type "list")=false:=by decide
 have Q:(Value.type "set" ==Value.type "tuple")=false:=by decide
 simp only[M,O,Q,jbo];refine jaa (ON g λI K St P zs' U d W J r G t C D=>?_);have x:P.length=zs.length:=by rw[StrsAre.length r,G.length_eq]
 have l:S∉K:=λu=>(D S u).elim n λz=>absurd B (jbt.mpr z);have q:∀(h:Heap)(c₁ tk:Nat),St 0 h->(∀b o,b≠S->s.heap.get? b=some o->h.get? b=some o)->
   h.get? S=some {cls:=.type "list",data:=.seq #[] c₁ }->codeAny (model prog w) A (.builtin "list.extend.loop" ⟨[.ref S,.ref I,res],[]⟩) R {s with heap:=h,toks:=tk,drawn:=d }:=by
  intro h c₁ tk v hk g₁;refine codeAny_extend_loopS (W A.in1 E).toS L S l res zs.length 0 _ #[] c₁ rfl (jaD _) v g₁ (ItemsOf.nil _) λs' acc' c' u y k=>?_;rw[Moved.eq_with u];refine N s'.heap s'.toks d acc' c' zs' (λb o j e=>u.heap b o (λi=>?_) (hk b o j e)) y ?_ G
  .rcases jah.mp i with e' | i
   .exact j e'
   .exact absurd (jal e) (by rw[jag.mp i];exact jbt.mpr C)
  .rw[OO (by rw[x];exact k)];exact r
 have g₁:=t S _ H;refine jaa (jbi (OS (let⟨o,ho,hc⟩:=p;⟨o,t _ _ ho,hc⟩) ?_));refine wpAny_ite_split (λ_=>?_) (λ_=>jad ⟨plainId_quiet PySem.F.plain_extend_loop _,q _ c₀ _ J (λb o _ e=>t b o e) g₁⟩);refine jaa (wpAny_rule ?_);refine jaa ?_;refine jaa (wpAny_updateSeq g₁ rfl ?_);have g₂:=ja2 (Obj.mapSeq (·.push Value.none)) g₁ rfl;refine wpAny_updateSeq g₂ rfl ?_;have g₃:=ja2 (Obj.mapSeq (·.pop)) g₂ rfl;refine jad ⟨plainId_quiet PySem.F.plain_extend_loop _,q _ _ _ ?_ (λb o j e=>?_) g₃⟩
 .refine(W A.in1 E).frame 0 _ _ J λb j o e=>?_;have m:b≠S:=λh=>l (h ▸ j);exact(jaO _ _ (jaE m)).trans ((jaO _ _ (jaE m)).trans e)
 .exact(jaO _ _ (jaE j)).trans ((jaO _ _ (jaE j)).trans (t b o e))
theorem PD (v:A.handled=none)(p:dg prog w s.heap a zs)(z:zs.length<=sizeLine)
  (h:∀(h':Heap)(tk:Nat)(d:Drawn)(n:Array Value)(i:jcI),(∀b o,s.heap.get? b=some o->h'.get? b=some o)->StrsAre n.toList i->List.Perm i zs->R n.toList {s with heap:=h',toks:=tk,drawn:=d }) :
  wpAny (model prog w) A (collect (.ref a)) R E s:=by
 have u:=let⟨o,_,_,_,ho,_⟩:=p;jal ho;refine jaa (wpAny_runValue (jb6 entry_proto_collect' ?_));refine jaa (ja9 ?_);refine jad ⟨plainId_quiet PySem.F.plain_list_iadd _,jb6 entry_list_iadd' ?_⟩;have p₁:(s.heap.push {cls:=.type "list",data:=.seq ([]:jcJ).toArray }).get? s.heap.objs.size=some {cls:=.type "list",data:=.seq #[] }:=jaK _ rfl;have t:=Tt (s:={s with heap:=s.heap.push {cls:=.type "list",data:=.seq ([]:jcJ).toArray } })
  (R:=λq (r:Shared)=>∃(h':Heap)(tk:Nat)(d:Drawn)(g:Array Value)(m:Nat)(i:jcI),q=.ok (.ret (.ref s.heap.objs.size))/\r={s with heap:=h',toks:=tk,drawn:=d }/\
   (∀b o,s.heap.get? b=some o->h'.get? b=some o)/\h'.get? s.heap.objs.size=some {cls:=.type "list",dict:=none,data:=.seq g m,slots:=#[] }/\StrsAre g.toList i/\List.Perm i zs)
  v (p.at λo e=>jap _ e) s.heap.objs.size (jbJ u) (.ref s.heap.objs.size) 0 p₁
  (λh' tk d g m i hk k j l=>⟨h',tk,d,g,m,i,M,M,λb o e=>hk b o (jax (jal e)) (jap _ e),k,j,l⟩) z
 refine jaS t (λfin r x=>?_) λe r x=>?_
 .cases fin with
  |done f=>
   obtain⟨h',tk,d,g,m,i,e,rfl,hk,k,j,l⟩:=x;cases e;refine jaa (wpAny_load k ?_);exact jad (h h' tk d g i hk j l)
  |again c₁=>
   refine⟨x.1,jbK x.2 λq s₂ y=>?_⟩;obtain⟨h',tk,d,g,m,i,rfl,rfl,hk,k,j,l⟩:=y;refine jaa (wpAny_load k ?_);exact jad (h h' tk d g i hk j l)
 .obtain⟨_,_,_,_,_,_,e',_⟩:=x;cases e'
end PySem
namespace L2
open PySem PySem.Spec PyProof.Rows Hw
noncomputable def vm (P:Program)(w:World)(a:Addr)(ss:jcI):HO:=.ext λh=>∃b,dg P w h a b/\(∀x,x∈b↔x∈ss)/\b.length<64
def Inv.drew (I:Inv X a U H s)(d:Drawn):Inv X a U H {s with drawn:=d }:=⟨I.ok,I.os,I.bare,I.base,I.loc,I.cell,I.free,I.iO,I.pin,I.hok,I.len⟩
theorem se (J:X.calm=true):eB X (.builtin "sorted") (λxs H Q=>∃(p:Addr)(ss:jcI),xs=[.ref p]/\H p=some (vm X.prog X.w p ss)/\
  ∀(l:Addr)(ys:jcI),H l=none->(∀x,x∈ys↔x∈ss)->ys.Nodup->ys.length<64->ys.Pairwise (λa b=>Hw.lt b a=false)->Q (.ref l) (upd H l (.lst (ys.map V.str)))):=by
 intro W s U H xs us Q I r h;obtain⟨p,ss,rfl,G,q⟩:=h;obtain⟨u,rfl,O⟩:=vals1 r;cases O;obtain⟨⟨Z,B,P,j⟩,_,_⟩:=I.hok p _ G;have t:=let⟨_,_,_,_,_,_,_,_,_,_,n,_⟩:=B;n;have F:64<=sizeLine:=by rw[jbe];decide
 refine Calls.call_function_entry kind_sorted plain_sorted entry_sorted (args_sorted1 _) ?_;refine jaa (jad (jaa (PD (I.ok.hd J) B (by lia) λh' tk d c K v g k=>?_)));have z:c.toList.length<64:=by rw[StrsAre.length g,k.length_eq];exact j
 refine jaa (wpAny_newList ?_ (by lia));have A:(h'.push (seqObj "list" c.toList.toArray 0)).get? h'.objs.size=some (seqObj "list" c.toList.toArray 0):=jaK _ rfl;refine jaa (jbi (jby slot_list_sort ⟨_,A,M⟩ entry_list_sort (list_sort_treeK strKind_oneLt A g.keysOf (λv1 v2 C e=>keyKind_strs (by rw[<- e];exact g)) z λm S E=>⟨_,M,?_⟩) (args_list_sort _)));obtain⟨i,N,D,R⟩:=sorted_out_str g S E;obtain⟨e,T⟩:=sortedHeap_at A;have y:(i.map V.str).length<=sizeLine:=by
  have Y:(i.map V.str).length=c.toList.length:=by rw[jac,D.length_eq,<- StrsAre.length g]
  lia
 have L:=I.ET (h':=sortedHeap (h'.push (seqObj "list" c.toList.toArray 0)) h'.objs.size c.toList ((arrOf m).map (·.2))) (o:=.lst (i.map V.str)) (t':=tk)
  (λb u q=>by
   have l:=jal (v b u q);rw[sortedHeap_old (jax l) (by rw[jbh];exact jbP l)];exact jap _ (v b u q))
  (λb u q=>jax (jal (v b u q)))
  ⟨y,((arrOf m).map (·.2)).toList,e,qd N,by rw[Array.toArray_toList];exact T⟩
 have f:=D.trans k;exact jad ⟨_,M,.ref h'.objs.size,_,L.2.drew d,M,q _ i L.1 (λx=>(f.mem_iff).trans (P x)) (f.nodup_iff.mpr t) (by rw[f.length_eq];exact j) (qT _ R)⟩
end L2
namespace Hw
open PySem L2
def S7 (K:Frag)(C:Addr):kitOne K (.ref C) (.ref C)=some true:=by
 unfold kitOne;rw[jaf (by simp)]
def S6 (K:Frag):kitOne K (.type "tuple") (.type "tuple")=some true:=rfl
def M0 (z:Str)(a b:Option Int):(Txt.slice z a b).length<=z.length:=Txt.slice_le z _ _
end Hw
namespace L2
open PySem PySem.Spec PyProof.Rows Hw
end L2
namespace Hw
open PySem L2
def Ea {ys:jcI}(h:ys.Pairwise (λa b=>lt b a=false))(n:ys.Nodup):ys.Pairwise (λa b=>lt a b=true):=by
 unfold List.Nodup at n;exact(h.and n).imp λ{a b} ⟨c,d⟩=>by
  rcases CA a b with z | z | z
  .exact z
  .exact absurd z d
  .rw[c] at z;cases z
theorem oq:∀{xs ys:jcI},xs.Pairwise (λa b=>lt a b=true)->ys.Pairwise (λa b=>lt a b=true)->(∀x,x∈xs↔x∈ys)->xs=ys
 |[],[],_,_,_=>rfl
 |[],y::_,_,_,h=>absurd ((h y).mpr (jay ..)) (λz=>nomatch z)
 |x::_,[],_,_,h=>absurd ((h x).mp (jay ..)) (λz=>nomatch z)
 |x::xs,y::ys,p,q,h=>by
  obtain⟨d,i⟩:=jbx.mp p;obtain⟨f,g⟩:=jbx.mp q;have e:x=y:=by
   rcases jah.mp ((h x).mp (jay ..)) with z | z
   .exact z
   .rcases jah.mp ((h y).mpr (jay ..)) with u | u
    .exact u.symm
    .have:=lt_trans (d y u) (f x z);rw[tP] at this;cases this
  subst e;have t:=oq i g λz=>by
   constructor
   .intro c;rcases jah.mp ((h z).mp (jav _ c)) with u | u
    .subst u;have:=d z c;rw[tP] at this;cases this
    .exact u
   .intro c;rcases jah.mp ((h z).mpr (jav _ c)) with u | u
    .subst u;have:=f z c;rw[tP] at this;cases this
    .exact u
  rw[t]
end Hw
namespace L2
open PySem PySem.Spec PyProof.Rows Hw
noncomputable def Ax:List (Option Expr)->jcL->Option (List (Str×Str))
 |[],[]=>some []
 |k::ks,v::vs=>(k.bind Tv).bind λa=>(Tv v).bind λb=>(Ax ks vs).map ((a,b)::·)
 |_,_=>none
noncomputable def a0g (kvs:List (Str×Str)):List (TE×TE):=kvs.map λp=>(tC (.str p.1),tC (.str p.2))
def ND:∀{ks:List (Option Expr)} {vs:jcL} {kvs:List (Str×Str)},Ax ks vs=some kvs->PPs X pos ks vs (a0g kvs)/\ks.all (·.isSome)=true/\ks.length=vs.length/\ks.length=kvs.length:=by
 intro ks
 induction ks with
 |nil=>
  intro vs kvs h;cases vs with
  |nil=>unfold Ax at h;cases h;exact⟨R8,M,M,M⟩
  |cons _ _=>unfold Ax at h;cases h
 |cons k ks l=>
  intro vs kvs h;cases vs with
  |nil=>cases h
  |cons v vs=>
   obtain⟨a,n,c⟩:=jcc.mp h;obtain⟨b,g,d⟩:=jcc.mp c;obtain⟨r,q,f⟩:=jcd.mp d;obtain⟨e,i,o⟩:=jcc.mp n;obtain⟨j,p,rfl⟩:=CP o;obtain⟨t,s,rfl⟩:=CP g;subst i f;obtain⟨m,c,d,f⟩:=l q;refine⟨NF BQ BQ m,?_,?_,?_⟩
   .rw[List.all_cons,c];rfl
   .rw[jak,jak,d]
   .rw[jak,jak,f]
theorem uu:∀{kvs:List (Str×Str)} {Q:List (V×V)->Hp->Prop},Q (kvs.map λp=>(V.str p.1,V.str p.2)) H->Bv (a0g kvs) U H Q
 |[],Q,h=>h
 |p::r,Q,h=>uu (kvs:=r) h
noncomputable def dictOf:Expr->Option (List (Str×Str))
 |.Dict b a _=>Ax b a
 |_=>none
noncomputable def kvV (kvs:List (Str×Str)):List (Key×V):=kvs.map λp=>(Sum.inr p.1,.str p.2)
def Wm (kvs:List (Str×Str)):TE:=λ_ H Q=>∀p,H p=none->Q (.ref p) (upd H p (.dK (qj [] (kvV kvs))))
def NP (k:kvs≠[])(b:kvs.length<=15):∀{e:Expr},dictOf e=some kvs->PE X e (Wm kvs):=by
 intro e h;cases e with
 |Dict c l pos=>
  obtain⟨g,f,j,m⟩:=ND (X:=X) (pos:=pos) (show Ax c l=some kvs from h);have a:c≠[]:=λz=>k (jbp.mp (by rw[<- m,z];rfl));intro d s U H Q I q;refine Sh g f j a (by lia) d s U H Q I λp i=>uu ⟨dM,kvV kvs,?_,?_,?_⟩
  .unfold kvV;rw[jaM];rfl
  .unfold kvV;rw[jac];exact b
  .rw[L2.QY];exact q p i
 |_=>cases h
end L2
namespace Hw
open PySem L2
end Hw
namespace PySem.W
open PySem PySem.Spec PySem.Calls PyProof.Rows
section
variable {D:Addr}
end
end PySem.W
namespace L2
open PySem PySem.Spec PyProof.Rows
section
variable {oe:Obj}
end
end L2
namespace PySem
theorem X5 {oe:Obj}
  (m:h.get? C=some (excClassObj nm q C N bs bm hdct sn sub ab col dd k0 k1 k2 k3 k5 newId)) (i:h.get? W=some (excClassObj nm' q' W N' bs' bm' Vn sn' sub' ab' col' Qx j0 j1 j2 j3 j5 newId'))
  (k:h.get? e=some oe) (a:oe.cls=.ref C) (l:bm'.contains (.type "BaseException")=true) (b:(Value.ref C::bm).contains (.ref W)=true)
  (j:Q true ⟨h,g,d,t,c⟩):wpAny jcE A (excMatches (.ref e) (.ref W)) Q E ⟨h,g,d,t,c⟩:=by
 have n:(Value.ref W::bm').contains (.type "BaseException")=true:=by rw[jcn,l,Bool.or_true]
 have f:=tc_notTuple;unfold excMatches
 repeat (first | (with_reducible refine jbD k ?_;rw[a]) | with_reducible refine jbD i ?_ | (with_reducible refine jci i ?_;rw[n]) | (with_reducible refine jci m ?_;rw[b]) | wp_step)
 exact j
section
variable {oe:Obj}
theorem Od {T:Addr}(n:A.frames=some (env::outer))(w:s.heap.FunFrames base (env::outer))(r:env.frame=some L)
  (x:s.heap.get? a=some oe) (G:Zw C oe) (hd:oe.data=.fields vs) (u:vs[1]?=some (.ref T)) (d:s.heap.get? T=some t) (h:t.data=.fields ts) (v:ts[3]?=some .none) (g:T≠a)
  (k:∀h',lR ((env::outer).filterMap (·.frame)) a (some T) C s.heap h'->Q () {s with heap:=h' }):wpAny jcE A (noteFrame (.ref a) env) (λ_ s2=>wpAny jcE A (setFlight (.ref a) none) Q E s2) E s:=by
 unfold noteFrame;simp only[r];refine jaa (ja7 x hd u ?_);rw[jaf (show(Value.ref T !=Value.none)=true by simp)];refine jaa (ja7 d h v ?_);rw[jae (show ¬((Value.none==rawInt L)=true) by simp[rawInt])];refine jaa (jbd d h (jbu.mp v).1 ?_);have f:=λB=>fJ w B d h;have j:∀b,b≠T->(s.heap.update T (Obj.mapFields (·.setIfInBounds 3 Value.none))).get? b=s.heap.get? b:=λb c=>jaO _ _ (jaE c);have l:=w.of_keeps λb o c p=>⟨o,(j b λz=>by rw[z,d] at c;injection c with c;subst c;exact p ts h).trans c,M⟩
 refine G6 n l r ((j a (jaE g)).trans x) G hd (jbu.mp u).1 λh' m=>k h' ⟨λb o q F D H=>m.keep b o ((j b λz=>H (by rw[z])).trans q) F D (λz=>nomatch z),λb o q i=>m.slot b o ((j b λz=>f (z ▸ i)).trans q) i,?_,?_⟩
 .intro b o e q;cases e;have y:=ja2 (Obj.mapFields (·.setIfInBounds 3 Value.none)) d (jbq (ja1 h _));exact⟨_,m.keep T _ y f g (λz=>nomatch z)⟩
 .obtain⟨N6,vs',T',Qp,ts',x1,x2,x3,x4,x5,x6,x7,x8,x9⟩:=m.Qv;exact⟨N6,vs',T',Qp,ts',x1,x2,x3,x4,x5,x6,x7,x8,jai (jbs (jce ..).symm) x9⟩
theorem Tq (m:lR fr a c C d s.heap)(I:∀b∈fr,b<d.objs.size)(x:∀b,c=some b->b<d.objs.size)(K:a<d.objs.size)
  (k:∀h',lR fr a c C d h'->(∀o,s.heap.get? a=some o->h'.get? a=some o)->Q () {s with heap:=h' }):wpAny jcE A (setFlight (.ref a) none) Q E s:=by
 obtain⟨G,j,i,L,B,p,H,v,t,u,h,n,l,r⟩:=m.Qv;refine jaa (ja7 p v t ?_);rw[jaf (show(Value.ref i !=Value.none)=true by simp)];refine jbd u h (jbu.mp n).1 (k _ ?_ ?_)
 .have AU:∀b,b<d.objs.size->(s.heap.update i (Obj.mapFields (·.setIfInBounds 3 ((none:jcM).elim Value.none λf=>rawInt f)))).get? b=s.heap.get? b:=λb w=>jaO _ _ (λz=>by rw[<- z] at w;exact ja4 _ (jaL w r));refine⟨λb o q D y J=>(AU b (jal q)).trans (m.keep b o q D y J),λb o q g=>?_,λb o e q=>?_,?_⟩
  .obtain⟨sl,z⟩:=m.slot b o q g;exact⟨sl,(AU b (I b g)).trans z⟩
  .obtain⟨o',z⟩:=m.a4Y b o e q;exact⟨o',(AU b (x b e)).trans z⟩
  .refine⟨G,j,i,_,_,(AU a K).trans p,H,v,t,ja2 _ u (jbq (ja1 h _)),ja1 h _,?_,l,r⟩;have F:=(jbu.mp n).1;simp[F]
 .intro o z;rw[jaO _ _ l];exact z
end
end PySem
namespace L2
open PySem PySem.Spec PyProof.Rows
noncomputable def Cx.tr (X:Cx)(pn:jcF)(xe:jcG):Cx:={X with pn:=pn,xe:=xe }
noncomputable def Cx.suite (X:Cx)(a:Addr)(pn:jcF):Cx:={X with A:=X.A.mark (some (.ref a)),calm:=false,pn:=pn,xe:=λ_ _=>False }
def a4Z (o:X.Ok):(X.tr pn xe).Ok:=⟨o.mod,o.kind,o.glob,o.blt,o.above,o.inj,o.has,o.VL,o.hd,o.frames,o.stk,o.YU,o.bs,o.Jy,o.EI,o.E7,o.qo,o.Qu⟩
def a1r (o:(X.tr pn xe).Ok):X.Ok:=⟨o.mod,o.kind,o.glob,o.blt,o.above,o.inj,o.has,o.VL,o.hd,o.frames,o.stk,o.YU,o.bs,o.Jy,o.EI,o.E7,o.qo,o.Qu⟩
def a40 (o:X.Ok):(X.suite a pn).Ok:=⟨o.mod,o.kind,o.glob,o.blt,o.above,o.inj,o.has,o.VL,(λz=>nomatch z),o.frames,o.stk,o.YU,o.bs,o.Jy,o.EI,o.E7,o.qo,o.Qu⟩
def a2a (I:Inv X vy U H s)(h:∀p∈pn++l7,p∈X.pn++vy):Inv (X.tr pn xe) l7 U H s:=⟨a4Z I.ok,I.os,I.bare,I.base,I.loc,I.cell,I.free,I.iO,λp a=>I.pin p (h p a),I.hok,I.len⟩
def yD (I:Inv (X.tr pn xe) l7 U H s)(h:∀p∈X.pn++vy,p∈pn++l7):Inv X vy U H s:=⟨a1r I.ok,I.os,I.bare,I.base,I.loc,I.cell,I.free,I.iO,λp a=>I.pin p (h p a),I.hok,I.len⟩
theorem Vk {oe:Obj}(I:Inv X vy U H s)(g:s.heap.get? a=some oe)(d:H a=none)(c:a≠X.env.locals)(f:a∉X.fs)(hd:∀v,oe.data≠.cell v):Inv (X.suite a ((a,oe)::(X.pn++vy))) [] U H s:=
 ⟨a40 I.ok,I.os,I.bare,I.base,I.loc,I.cell,I.free,I.iO,λp b=>by
  rw[jaw] at b;rcases jah.mp (show p∈(a,oe)::(X.pn++vy) from b) with e | e
  .subst e;exact⟨g,d,c,f,hd⟩
  .exact I.pin p e,I.hok,I.len⟩
theorem Inv.forget (o:X.Ok)(I:Inv (X.suite a g) [] U H s)(y:∀p∈X.pn++vy,p∈g)(r:h'.Ns X.env.locals k)(m:Heap.SameBut X.env.locals s.heap h') :
  Inv X vy (List.replicate X.N.length none) H {s with heap:=h',toks:=t' }:=by
 have f:∀b u,b≠X.env.locals->s.heap.get? b=some u->h'.get? b=some u:=λb u t q=>(m.2 b t).trans q;have h:∀b u,X.s₀.heap.get? b=some u->b≠X.env.locals:=λb u q z=>by
  have l1:=jal q;have l2:=o.above;rw[z] at l1;exact ja4 _ (jaL l1 l2)
 have B:=I.base;refine⟨o,I.os,I.bare,⟨λb u q n w d=>f b u (h b u q) (B.keep b u q n w d),λb u q n j d=>?_,λb u q n d=>B.free b u q n d,λb u q d=>?_,B.tups,B.nO,B.oS⟩,⟨k,r,λi x v _ e=>?_⟩,λx c e=>?_,I.free,I.iO,λp l=>?_,I.hok.I8 λb u A q=>f b u (λz=>A (z ▸ I.free)) q,jbW ..⟩
 .obtain⟨sl,e⟩:=B.slot b u q n j d;exact⟨sl,f b _ (h b u q) e⟩
 .obtain⟨o',e⟩:=B.there b u q d;exact⟨o',f b _ (h b u q) e⟩
 .rw[jbM] at e;split at e<;>cases e
 .obtain⟨v,oc,h1,h2⟩:=I.cell x c e;exact⟨v,oc,f c _ (I.VG x c e) h1,h2⟩
 .obtain⟨h1,h2,h3,h4,h5⟩:=I.pin p (by rw[jaw];exact y p l);exact⟨f _ _ h3 h1,h2,h3,h4,h5⟩
end L2
namespace Hw
open PySem L2
end Hw
namespace L2
open PySem PySem.Spec PyProof.Rows Hw
end L2
namespace Hw
open PySem L2
end Hw
namespace L2
open PySem PySem.Spec PyProof.Rows
end L2
namespace Hw
open PySem L2
end Hw
namespace L2
open PySem PySem.Spec PyProof.Rows Hw
end L2
namespace Hw
open PySem L2
def Chr (x:Str):Prop:=∃c,x=Za c/\97<=c
def Chr.len (h:Chr x):x.length=1:=by obtain⟨c,rfl,_⟩:=h;rfl
end Hw
namespace L2
open PySem PySem.Spec PyProof.Rows
end L2
namespace Hw
open PySem L2
end Hw
namespace PySem
open Sem (wp)
open Builtin
end PySem
namespace L2
open PySem PySem.Spec PyProof.Rows
end L2
namespace Hw
open PySem L2
end Hw
namespace PySem
open L2
theorem M3 (B:dg prog w s.heap a g)
  (h:∀r,r.isSome=decide (x∈g)->Q r s):wpAny (model prog w) A (setFind a (.str x k) ((aI prog w).hash (Sum.inr x))) Q E s:=by
 obtain⟨o,p,K,t,y,I,hd,c,f,n,G,H,v,L,F⟩:=id B;have i:(Value.str x k).scannable=true:=rfl;have d:=dB prog w x k;refine jaa (jaR y hd v ?_);dsimp only;rw[byScan_of i H c];refine jaa (wpAny_rule ?_);refine jaa (wpAny_setScan_of d y hd v c ?_);have mem:x∈g↔∃e∈p.toList,(aI prog w).is (Sum.inr x) e.2=true:=by
  rw[<- n,jaq];constructor
  .rintro⟨e,b,q⟩;obtain⟨z,D,l⟩:=f e b;refine⟨e,b,?_⟩;rw[l] at q ⊢;exact jaB q
  .rintro⟨e,b,q⟩;obtain⟨z,D,l⟩:=f e b;refine⟨e,b,?_⟩;rw[l] at q ⊢;exact of_decide_eq_true q
 cases u:List.findIdx? (λe=>(aI prog w).is (Sum.inr x) e.2) p.toList with
 |some j=>
  obtain⟨J,C,_⟩:=jcB.mp u;have m:=mem.mpr ⟨p.toList[j],jcq J,C⟩;exact jad (h _ (by rw[jaB m];rfl))
 |none=>
  have m:x∉g:=λz=>by
   obtain⟨e,b,q⟩:=mem.mp z;have:=List.findIdx?_eq_none_iff.mp u e b;rw[q] at this;exact Bool.noConfusion this
  exact jad (h _ (by rw[jau m];rfl))
def sF (prog:Program)(w:World)(l:List (Int×Value))(a:jcI):Prop:=List.Perm (l.map λe=>strOf e.2) a/\∀e∈l,∃z k,e=((aI prog w).hash (Sum.inr z),Value.str z k)
def qu (p:dg prog w h a g):∃o es ep t,h.get? a=some o/\o.ExactSet/\o.data=.set es ep t/\t.fits es.size=true/\t.led=(!w.params.followText "set-order")/\(t.plain=false\/es.size=0)/\es.size=g.length/\sF prog w es.toList g/\∀e∈es.toList,∃z k,e.2=Value.str z k:=by
 obtain⟨o,es,ep,t,r,i,hd,d,b,c,s,u,n,q,f⟩:=p;refine⟨o,es,ep,t,r,i,hd,n,q,f,by rw[<- c,jac,jaH],⟨by rw[c],λe l=>?_⟩,b⟩;obtain⟨⟨k,hk,m⟩,_⟩:=d e l;obtain⟨z,tk,j⟩:=b e l;refine⟨z,tk,?_⟩;rw[j] at hk;have:=(aI prog w).inj _ _ _ hk (dB prog w z tk);rw[this] at m;rw[<- m,<- j]
def Gw:∀{l:jcK},(∀a∈l,∃zs,dg prog w s.heap a zs)->∀{Q:Bool->Shared->Prop},Q true s->wpAny (model prog w) A (setsQuiet l) Q E s:=by
 intro l u Q h;refine jaa (wpAny_forIn_list _ (λf b c=>c=s/\b=⟨none,()⟩/\∀a∈f,∃zs,dg prog w s.heap a zs) _ ?_ ?_ _ _ ⟨M,M,u⟩)
 .rintro a rest b c ⟨rfl,rfl,ha⟩;obtain⟨zs,n⟩:=ha a (jay ..);obtain⟨o,D,y,t,r,v,hd,m,B,p,_,_,i⟩:=qu n;refine jaa (jaa (jaR r hd m (jad ?_)));refine jaa (wpAny_forIn_array' _ (λf b j=>j=c/\b=⟨none,()⟩/\∀e∈f,∃z k,e.2=Value.str z k) _ ?_ ?_ _ _ ⟨M,M,i⟩)
  .rintro e a6A b j ⟨rfl,rfl,he⟩;obtain⟨z,k,q⟩:=he e (jay ..);obtain⟨C,x⟩:=e;subst q;exact jad ⟨M,M,λe d=>he e (jav _ d)⟩
  .rintro b j ⟨rfl,rfl,_⟩;exact jad ⟨M,M,λa g=>ha a (jav _ g)⟩
 .rintro b c ⟨rfl,rfl,_⟩;exact jad h
def sF.perm (h:sF prog w l b)(p:List.Perm a l):sF prog w a b:=⟨(p.map _).trans h.1,λe c=>h.2 e (p.mem_iff.mp c)⟩
def Dv (j:dg prog w s.heap a e)(h:∀es' d,sF prog w es'.toList e->Q es' {s with drawn:=d }):wpAny (model prog w) A (setWalk a) Q E s:=by
 obtain⟨o,f,x,t,p,r,hd,i,n,l,v,b,k⟩:=qu j;have c:=λes' q=>by
  have:=h es' s.drawn q;exact this
 refine jaa (jaR p hd i ?_);refine jaa (jaa (jbm (jad ?_)));show wpAny _ _ (if(w.params.followText "set-order")=true then _ else _) _ _ _;cases g:w.params.followText "set-order" with
 |true=>
  refine jaa (jbm (jad ?_));exact c _ (b.perm (fz _ _))
 |false=>
  simp only[jbC,jbo];split
  .refine jaa (tV _ _ _ _ (by simp) λu d m=>jad ?_);exact h _ d (by simpa using b.perm m)
  .show wpAny _ _ ((if(!t.led&&decide (f.size > 1))=true then unsupported "set:maker-not-led" else pure ()) >>=λ_=>pure f) _ _ _;rw[n,g];exact jaa (jad (jad (c _ b)))
theorem Du (y:dg prog w s.heap a C)(H:dg prog w s.heap o N)(n:dg prog w s.heap r [])
  (h:∀es' d h',Heap.SameBut r s.heap h'->dg prog w h' r []->sF prog w es'.toList C->Q es' {s with heap:=h',drawn:=d }):wpAny (model prog w) A (setWalkUnseen a [o,r] (some r)) Q E s:=by
 obtain⟨V,F,U,t,S,L,hd,O,P,J,T,e,I⟩:=qu y;have R:wpAny (model prog w) A (setWalk a) Q E s:=Dv y λes' d q=>by
  have:=h es' d s.heap (jbE _ _) n q;exact this
 unfold setWalkUnseen;refine jaa (jaR S hd O ?_);dsimp only;unfold setsByText;refine jaa (jaa (jbm (jad ?_)));split
 .exact R
 .rename_i hno;refine jaa (Gw (λb D=>?_) ?_)
  .simp only[jah,jaY,or_false] at D;rcases D with rfl | rfl | rfl
   .exact⟨_,y⟩
   .exact⟨_,H⟩
   .exact⟨_,n⟩
  .simp only[Bool.not_true,jbC,jbo];refine jaa (wpAny_rule ?_);obtain⟨B,g,l,tr,f,p,c,x,i,m,z,k,j,v,K⟩:=id n;have u:g.size=0:=by
    have:=jao List.length m;rw[jac,jaH] at this;exact this
   refine jaa (jaR f c j ?_);dsimp only;split
   .refine jaa (jb1 f c ?_ (fits_of_scanBound k));have G:(s.heap.update r (Obj.putSet g {tr with led:=tr.led&&t.led,plain:=tr.plain&&t.plain })).get? r=some {B with data:=.set g (l+1) {tr with led:=tr.led&&t.led,plain:=tr.plain&&t.plain } }:=by
     have:=ja2 (Obj.putSet g {tr with led:=tr.led&&t.led,plain:=tr.plain&&t.plain }) f (by rw[putSet_of g _ c];rfl);rw[putSet_of g _ c] at this;exact this
    refine jad (h F s.drawn _ (jbw _ _ _) ⟨_,g,l+1,_,G,p,M,x,i,m,z,k,j,?_,.inr u⟩ e);show(tr.led&&t.led)=_;rw[v,P,Bool.and_self]
   .exact jad (h F s.drawn s.heap (jbE _ _) n e)
def dg.typeIs (e:dg prog w s.heap a d):s.TypeIs (.ref a) "set":=by
 obtain⟨o,g,f,t,c,b,_⟩:=e;exact⟨o,c,b.1⟩
def sr (b:dg prog w s.heap a c)(h:Q true s):wpAny (model prog w) A (Builtin.Frozenset.isAnySet (.ref a)) Q E s:=by
 refine jaa (jb4 b.typeIs sub_set_self ?_);exact jad h
def size_set (i:dg prog w s.heap a c)(h:Q c.length s):wpAny (model prog w) A (Builtin.Frozenset.sizeOf a) Q E s:=by
 obtain⟨o,n,m,t,f,j,hd,g,l,e,k,b,d⟩:=qu i;refine jaa (jaa (jaR f hd g (jad (jad ?_))));rw[k];exact h
theorem K6 {prog:Program}{w:World}{A:Around}{E:jcG}{s:Shared}{id:String}{a o:Addr}{J B:jcI}{Q:jcG}(I:dg prog w s.heap a J)(G:dg prog w s.heap o B)(hz:J.length / 4<=B.length)(h64:J.length<64)
  (h:∀h' d ys,(∀b ob,s.heap.get? b=some ob->h'.get? b=some ob)->dg prog w h' s.heap.objs.size ys->(∀x,x∈ys↔x∈J/\x∉B)->ys.length<64->Q (.ref s.heap.objs.size) {s with heap:=h',drawn:=d }) :
  wpAny (model prog w) A (Builtin.Frozenset.difference id a (.ref o)) Q E s:=by
 refine jaa (sr G ?_);refine jaa (jad ?_);refine jaa (size_set G ?_);refine jaa (size_set I ?_);rw[jae (by lia)];refine jaa (jaa (jb4 I.typeIs sub_set_self (jad ?_)));refine jaa (jaa (jaa (jbm (jad ?_))));dsimp only;refine jaa (wpAny_alloc (jad ?_));refine jaa (jad ?_);show wpAny (model prog w) A _ _ _ {s with heap:=s.heap.push {cls:=.type "set",dict:=none,data:=.set #[] 0 (.fresh 0 0 (!w.params.followText "set-order")) } };generalize D:s.heap.push {cls:=.type "set",dict:=none,data:=.set #[] 0 (.fresh 0 0 (!w.params.followText "set-order")) }=h1;have Y:∀b ob,s.heap.get? b=some ob->h1.get? b=some ob:=λb ob e=>D ▸ jap _ e;have T:=D ▸ jaK _ rfl;have hR1:dg prog w h1 s.heap.objs.size []:=⟨_,_,_,_,T,⟨M,M,M⟩,M,(λe X=>absurd X (by simp)),(λe X=>absurd X (by simp)),M,.nil,by decide,by rfl,M,.inr M⟩
 have Lr:=I.at (Y a);have F:=G.at (Y o);have la:=let⟨_,_,_,_,e,_⟩:=I;jal e;have lo:=let⟨_,_,_,_,e,_⟩:=G;jal e;obtain⟨oa,es,ep,t,ho,hex,hd,hf,jq,hpl,hn,hent,hst⟩:=qu Lr;refine jaa (jaa (jaR ho hd hf (jad ?_)));refine jaa (jbi (jaa ?_));refine Du Lr F hR1 λu d P v W K=>?_;have V:=F.at λob e=>(v.2 o (jax lo)).trans e;have O:=(v.2 a (jax la)).trans ho;refine jaa (wpAny_forIn_array' _ (λl _ U=>∃h' ys i,U={s with heap:=h',drawn:=d }/\Heap.SameBut s.heap.objs.size P h'/\dg prog w h' s.heap.objs.size ys/\u.toList=i++l/\(∀x,x∈ys↔x∈i.map (λe=>strOf e.2)/\x∉B)/\ys.length<=i.length) _ ?_ ?_ _ _
  ⟨P,[],[],M,jbE _ _,W,M,by simp,jam _⟩)
 .rintro e rest b U ⟨h',ys,i,rfl,sb,hR,el,hm,hl⟩;obtain⟨z,k,rfl⟩:=K.2 e (by rw[el];exact jaP _ (jay ..));have S:=V.at λob e=>(sb.2 o (jax lo)).trans e;have a9L:i.length<64:=by
   have:=K.1.length_eq;rw[jac,el,jab] at this;lia
  have nx:u.toList=(i++[((aI prog w).hash (Sum.inr z),Value.str z k)])++rest:=by rw[el,jaQ];rfl
  have p:∀g:Heap,Heap.SameBut s.heap.objs.size h' g->∀c,dg prog w g s.heap.objs.size c->(∀x,x∈c↔x∈(i++[((aI prog w).hash (Sum.inr z),Value.str z k)]).map (λe=>strOf e.2)/\x∉B)->c.length<=i.length+1->
    wpAny (model prog w) A (Builtin.Frozenset.unchanged id a ep) (λ_ N=>∃h' ys i,N={s with heap:=h',drawn:=d }/\Heap.SameBut s.heap.objs.size P h'/\dg prog w h' s.heap.objs.size ys/\u.toList=i++rest/\(∀x,x∈ys↔x∈i.map (λe=>strOf e.2)/\x∉B)/\ys.length<=i.length) E {s with heap:=g,drawn:=d }:=by
   intro g n c y Z L;refine jaa (jaa (jaR (((sb.trans n).2 a (jax la)).trans O) hd hf (jad ?_)));rw[jae (by simp)];exact jad ⟨g,c,_,M,sb.trans n,y,nx,Z,by simpa using L⟩
  refine jaa (jbi (jaa ?_));refine M3 S λr H=>?_;refine jaa (jad ?_);by_cases m:z∈B
  .rw[jaB m] at H;rw[H];refine jad (jaa (jaS (p h' (jbE _ _) ys hR (λx=>?_) (by lia)) (λ_ _ q=>jad q) λ_ _ q=>q));rw[hm x,jaj,jan];constructor
   .rintro⟨f,j⟩;exact⟨.inl f,j⟩
   .rintro⟨f | f,j⟩
    .exact⟨f,j⟩
    .exact absurd (by rw[jag.mp f];exact m) j
  .rw[jau m] at H;rw[H];refine jaa (Iq hR (by unfold scanBound;lia) λg c n y f j=>?_);have R:∀x,x∈c↔x∈ys\/x=z:=λx=>by
    by_cases C:z∈ys
    .rw[f C];exact⟨.inl,λq=>q.elim (λq=>q) λq=>q ▸ C⟩
    .rw[(j C).mem_iff,jan,jag]
   have hlen:c.length<=ys.length+1:=by
    by_cases C:z∈ys
    .rw[f C];lia
    .rw[(j C).length_eq,jab];exact jam _
   refine jad (jaa (jaS (p g n c y (λx=>?_) (by lia)) (λ_ _ q=>jad q) λ_ _ q=>q));rw[R x,hm x,jaj,jan];constructor
   .rintro(⟨f,j⟩ | f)
    .exact⟨.inl f,j⟩
    .subst f;exact⟨.inr (jag.mpr M),m⟩
   .rintro⟨f | f,j⟩
    .exact .inl ⟨f,j⟩
    .exact .inr (jag.mp f)
 .rintro b U ⟨h',ys,i,rfl,sb,hR,el,hm,hl⟩;rw[jaw] at el;refine jad (jad (h h' d ys (λb ob e=>?_) hR (λx=>?_) ?_))
  .have l:=jax (jal e);exact(sb.2 b l).trans ((v.2 b l).trans (Y b ob e))
  .rw[hm x,<- el,(K.1.mem_iff)]
  .have:=K.1.length_eq;rw[jac,el] at this;lia
end PySem
namespace L2
open PySem PySem.Spec PyProof.Rows Hw
def yM:entryFor table "set.__sub__"=some Builtin.«frozenset.__sub__»:=entryFor_alias (id':="frozenset.__sub__") (by kernel_rfl) rfl (by symm) (by kernel_rfl)
def Bf (t:X.calm=true):eB X (.type "set") (λxs H Q=>∃(p:Addr)(ss ds:jcI),xs=[.ref p]/\kL X.K H p (ss.map V.str)/\ss.length<4000/\ds.length<64/\(∀x∈ss,x∈ds)/\∀q,H q=none->Q (.ref q) (upd H q (vm X.prog X.w q ss))):=by
 intro D s U H xs us Q I r h;obtain⟨p,ss,ds,rfl,m,O,hd,f,q⟩:=h;obtain⟨u,rfl,B⟩:=vals1 r;cases B;obtain⟨G,j,C,J⟩:=I.list m;have c:=j.length;rw[jac] at c;refine pZ (I.ok.hd t) (.inl C.isList) (ss:=ss) (by simpa using jO j) (by simp only[jaz];unfold scanBound;lia) λh' tk d i l N A=>?_;have g:d.Nodup:=let⟨_,_,_,_,_,_,_,_,_,_,n,_⟩:=i;n;have z:=yt g λx v=>f x ((l x).mp v);have L:=I.ET (h':=h') (a:=s.heap.objs.size) (o:=vm X.prog X.w s.heap.objs.size ss) (t':=tk) (λb u e=>A b u (jal e) e) (λb u e=>jax (jal e))
  ⟨⟨d,i,l,by lia⟩,let⟨o,_,_,_,ho,_⟩:=i;⟨o,ho⟩,λF E ⟨d,x,y⟩ k=>⟨d,x.at k,y⟩⟩
 exact⟨.ref s.heap.objs.size,_,L.2,M,q _ L.1⟩
end L2
namespace PySem
open L2 PyProof.Rows
end PySem
namespace L2
open PySem PySem.Spec PyProof.Rows Hw
def Ld (j:X.calm=true):eB X (.type "set") (λxs H Q=>∃(p:Addr)(ss:jcI),xs=[.ref p]/\ki X.K H p (ss.map V.str)/\ss.length<64/\∀q,H q=none->Q (.ref q) (upd H q (vm X.prog X.w q ss))):=by
 intro z s U H xs us Q I r h;obtain⟨p,ss,rfl,i,E,q⟩:=h;obtain⟨u,rfl,t⟩:=vals1 r;cases t;obtain⟨C,f,v,D⟩:=I.tuple i;have c:=f.length;rw[jac] at c;refine pZ (I.ok.hd j) (.inr v) (ss:=ss) (by simpa using jO f) (by simp only[jaz];unfold scanBound;lia) λh' tk d g m n l=>?_;simp only[jaz] at n;have L:=I.ET (h':=h') (a:=s.heap.objs.size) (o:=vm X.prog X.w s.heap.objs.size ss) (t':=tk) (λb u e=>l b u (jal e) e) (λb u e=>jax (jal e))
  ⟨⟨d,g,m,by lia⟩,let⟨o,_,_,_,ho,_⟩:=g;⟨o,ho⟩,λB A ⟨d,x,y⟩ k=>⟨d,x.at k,y⟩⟩
 exact⟨.ref s.heap.objs.size,_,L.2,M,q _ L.1⟩
end L2
namespace PySem
structure Mv (fr xs:List Addr)(h h':Heap):Prop where
 keep:∀b o,h.get? b=some o->b∉fr->b∉xs->h'.get? b=some o
 slot:∀b o,h.get? b=some o->b∈fr->b∉xs->∃sl,h'.get? b=some {o with slots:=sl }
 sz:h.objs.size<=h'.objs.size
theorem Mv.trans (m:Mv fr xs h h1)(n:Mv fr ys h1 h2):Mv fr (xs++ys) h h2 where
 keep:=λb o q nf nx=>n.keep b o (m.keep b o q nf λz=>nx (jaA _ z)) nf λz=>nx (jaP _ z)
 slot:=λb o q f nx=>by
  obtain⟨sl,e⟩:=m.slot b o q f λz=>nx (jaA _ z);obtain⟨sl2,e2⟩:=n.slot b _ e f λz=>nx (jaP _ z);exact⟨sl2,e2⟩
 sz:=jai m.sz n.sz
theorem Mv.sub (m:Mv fr xs h h')(s:∀b∈xs,b∈ys):Mv fr ys h h':=
 ⟨λb o q c a=>m.keep b o q c λz=>a (s b z),λb o q f a=>m.slot b o q f λz=>a (s b z),m.sz⟩
theorem Mv.upd {T:Addr}:Mv fr [T] h (h.update T f) where
 keep:=λb o q _ nx=>(jaO _ _ λz=>nx (by rw[z];exact jag.mpr M)).trans q
 slot:=λb o q _ nx=>⟨o.slots,(jaO _ _ λz=>nx (by rw[z];exact jag.mpr M)).trans q⟩
 sz:=jbs (jce ..).symm
def zq (h:Heap)(C a T:Addr)(z:Value):Prop:=∃oe d b c,h.get? a=some oe/\Zw C oe/\oe.data=.fields d/\d[1]?=some (.ref T)/\h.get? T=some b/\b.data=.fields c/\c[3]?=some z/\T≠a
section
variable {T:Addr}
def zq.mv (f:zq h C a T z)(m:Mv fr xs h h')(i:a∉fr)(l:T∉fr)(k:a∉xs)(g:T∉xs):zq h' C a T z:=by
 obtain⟨oe,j,p,q,c,b,e,s,n,d,o,r⟩:=f;exact⟨oe,j,p,q,m.keep _ _ c i k,b,e,s,m.keep _ _ n l g,d,o,r⟩
def O8 (f:zq s.heap C a T z)(k:∀h',Mv fr [T] s.heap h'->zq h' C a T (c.elim .none λf=>rawInt f)->Q () {s with heap:=h' }):wpAny jcE A (setFlight (.ref a) c) Q E s:=by
 obtain⟨oe,l,n,o,i,m,hd,d,g,h,j,ne⟩:=f;refine jaa (ja7 i hd d ?_);have b:=(jbu.mp j).1;have e:=ja1 h (·.setIfInBounds 3 (c.elim Value.none λf=>rawInt f));refine jbd g h b (k _ Mv.upd ?_);exact⟨oe,l,_,_,(jaO _ _ ne).trans i,m,hd,d,ja2 _ g (jbq e),e,by simp[b],ne⟩
theorem Va (x:A.frames=some (env::outer))(V:s.heap.FunFrames base (env::outer))(U:env.frame=some L)(f:zq s.heap C a T z)(Y:(z==rawInt L)=false)
  (k:∀h' T',Mv ((env::outer).filterMap (·.frame)) [a,T] s.heap h'->zq h' C a T' (rawInt L)->s.heap.objs.size<=T'->Q () {s with heap:=h' }):wpAny jcE A (noteFrame (.ref a) env) Q E s:=by
 obtain⟨oe,vs,oT,Z,F,D,hd,O,t,J,P,w⟩:=f;unfold noteFrame;simp only[U];refine jaa (ja7 F hd O ?_);rw[jaf (show(Value.ref T !=Value.none)=true by simp)];refine jaa (ja7 t J P ?_);rw[jae (show ¬((z==rawInt L)=true) by rw[Y];decide)];refine jaa (jbd t J (jbu.mp P).1 ?_);have N:=λhm=>fJ V hm F hd;have R:∀b,b≠T->(s.heap.update T (Obj.mapFields (·.setIfInBounds 3 Value.none))).get? b=s.heap.get? b:=λb c=>jaO _ _ (jaE c);have u:=V.of_keeps λb o c B=>⟨o,(R b λz=>by rw[z,t] at c;injection c with c;subst c;exact B Z J).trans c,M⟩
 have m0:Mv ((env::outer).filterMap (·.frame)) [T] s.heap (s.heap.update T (Obj.mapFields (·.setIfInBounds 3 Value.none))):=Mv.upd;have v:=(R a (jaE w)).trans F;have m:=(jbu.mp O).1;have H:s.heap.objs.size=(s.heap.update T (Obj.mapFields (·.setIfInBounds 3 Value.none))).objs.size:=(jce ..).symm;generalize s.heap.update T (Obj.mapFields (·.setIfInBounds 3 Value.none))=g0 at *;refine jaa (wpAny_frameOf_fun x u U λd W=>?_);obtain⟨sz,g,h⟩:=W;refine jaa (wpAny_entryPlaceOf λn y=>?_);unfold EntryCells.newEntry newFields;refine jaa (ja9 ?_ (y.sizeOk5 _ _ _ _ _));have i:=(g a N).trans v;generalize l:({cls:=.type "traceback",dict:=none,data:=.fields ([Value.ref T,.ref L,.none,rawInt L,.none]++(if n.isEmpty then List.replicate 6 Value.none else n)).toArray }:Obj)=ob;have j:(d.push ob).get? a=some oe:=jap _ i;have S:=jbJ (jal i);have p:=ja1 hd (·.setIfInBounds 1 (Value.ref d.objs.size));have G:=ja2 (Obj.mapFields (·.setIfInBounds 1 (Value.ref d.objs.size))) j (jbq p);have OR:ob.data=.fields ([Value.ref T,.ref L,.none,rawInt L,.none]++(if n.isEmpty then List.replicate 6 Value.none else n)).toArray:=by rw[<- l]
 have K:(d.push ob).get? d.objs.size=some ob:=jaK d (by rw[<- l];rfl);have r:((d.push ob).update a (Obj.mapFields (·.setIfInBounds 1 (Value.ref d.objs.size)))).get? d.objs.size=some ob:=(jaO _ _ (jaE S)).trans K;refine jbd j hd m (k _ d.objs.size ?_ ?_ (by rw[H];exact jbs sz.symm))
 .refine(m0.trans (ys:=[a]) ⟨λb o q X I=>?_,λb o q f I=>?_,?_⟩).sub λb c=>?_
  .have nb:b≠a:=λz=>I (by rw[z];exact jag.mpr M);exact(jaO _ _ (jaE nb)).trans (jap _ ((g b X).trans q))
  .have nb:b≠a:=λz=>I (by rw[z];exact jag.mpr M);obtain⟨sl,e⟩:=h b o q;exact⟨sl,(jaO _ _ (jaE nb)).trans (jap _ e)⟩
  .refine jai ?_ (jbs (jce ..).symm);rw[jbh,<- sz];exact jbA _
  .have c:b∈[T,a]:=c;simp only[jah,jaY,or_false] at c ⊢;exact c.symm
 .exact⟨_,_,ob,_,G,⟨(jcp _ _).trans D.1,(nQ _ _).trans D.2.1,λws e=>(by
   rw[p] at e;cases e;have z:=D.2.2 _ hd;rw[jcD (by decide)];exact z)⟩,p,by simp[m],r,OR,M,S⟩
theorem leaveX (e:A.frames=some (env::outer))(p:s.heap.FunFrames base (env::outer))(g:env.frame=some L)(f:zq s.heap C a T z)
  (k:∀h' T',Mv ((env::outer).filterMap (·.frame)) [a,T,T'] s.heap h'->zq h' C a T' .none->(T'=T\/s.heap.objs.size<=T')->Q () {s with heap:=h' }):wpAny jcE A (leaving env (.ref a)) Q E s:=by
 cases i:(z==rawInt L) with
 |true=>
  refine jaa ?_;obtain⟨oe,v,u,x,t,w,hd,h,l,q,o,n⟩:=id f;unfold noteFrame;simp only[g];refine jaa (ja7 t hd h ?_);rw[jaf (show(Value.ref T !=Value.none)=true by simp)];refine jaa (ja7 l q o ?_);rw[jaf i];refine jad ?_;exact O8 f λh' m d=>k h' T (m.sub (by intro b c;simp only[jah,jaY,or_false] at c ⊢;exact .inr (.inl c))) d (.inl M)
 |false=>
  refine jaa (Va e p g f i λh r m1 j l1=>?_);refine O8 j λh' m d=>k h' r ((m1.trans m).sub (by intro b c;simp only[jan,jah,jaY,or_false] at c ⊢;rcases c with(c | c) | c;exact .inl c;exact .inr (.inl c);exact .inr (.inr c))) d (.inr l1)
end
end PySem
namespace L2
open PySem PySem.Spec PyProof.Rows
theorem Ji:∀{l l':List Env},(∀b∈frs l,b∈frs l')->(∀b∈frs l',b∉xs)->Mv (frs l') xs h h'->h.FunFrames base l->h'.FunFrames base l
 |[],_,_,_,_,_=>trivial
 |env::r,l',hs,hf,un,⟨hk,⟨L,o,e,hn,ho,hd⟩,hr⟩=>by
  have a:=hs L (by unfold frs;rw[jba,e];exact jay);obtain⟨d,q⟩:=un.slot L o ho a (hf L a);exact⟨hk,⟨L,_,e,hn,q,hd⟩,Ji (λb c=>hs b (by unfold frs;rw[jba,e];exact jav _ c)) hf un hr⟩
theorem a1i {sc:Scope}{D:Addr}
  (W:Inv (jQ P w TM K mg base N qual scope f cd A outer s H E) vy U H2 s2) (hfp:∀b∈fp,qD (jQ P w TM K mg base N qual scope f cd A outer s H E) vy H2 b) (hC:s2.heap.objs.size<=C) :
  Passes (FT P w TM) (rW (jQ P w TM K mg base N qual scope f cd A outer s H E) sc N' cl C s2 H2 fp (λe s'=>notedBy (model P w) (jQ P w TM K mg base N qual scope f cd A outer s H E).A (compEnvC sc cl C (jQ P w TM K mg base N qual scope f cd A outer s H E).env)
   (λe s''=>compPost (model P w) (jQ P w TM K mg base N qual scope f cd A outer s H E).A (jQ P w TM K mg base N qual scope f cd A outer s H E).xe S Q (.ref D) C (.error e) s'') e s')) E:=by
 rintro a6E σ3 H3 Z e r t ⟨a,H4,rfl,hE,os,bare,un,ok,V⟩;obtain⟨oe,vs,T,oT,ts,ha,hc,hd,h1,hT,vc,h3,ne,nT,fT⟩:=V.Qv;have i:Un (frs outer) [] H H2 s.heap s2.heap:=W.base;have h:=t.base;have By:s.heap.objs.size<=s2.heap.objs.size:=W.sz;have C3:C<Z.heap.objs.size:=t.lt;have new:=V.new;have sk3:=t.oi;have J:=t.stack;have Y:=wg (λ_ z=>z) sk3 un J;have fl2:=W.stack;have hfr:=W.ok.frames;have nC:C∉frs (envOfC qual scope s.heap.objs.size f cd::outer):=λc=>by
  obtain⟨_,o,ho,_⟩:=fl2.mem c;exact absurd (jaL (jal ho) hC) (ja4 _)
 have fr4:∀b,b∈frs (envOfC qual scope s.heap.objs.size f cd::outer)->H4 b=none:=λb c=>by
  obtain⟨_,o,ho,_⟩:=J.mem c;exact un.free b o ho (sk3 b c) (by simp)
 have lo:∀b,b∈frs (envOfC qual scope s.heap.objs.size f cd::outer)->b<Z.heap.objs.size:=λb c=>by
  obtain⟨_,o,ho,_⟩:=J.mem c;exact jal ho
 have X:H3 C=none:=t.free;obtain⟨mC,v,_⟩:=t.loc;have v:Z.heap.Ns C mC:=v;obtain⟨O,esC,epC,hoC,hdC,rC⟩:=id v;have a5H:r.heap.get? C=some O:=un.keep C O hoC X nC (by simp);have fC4:H4 C=none:=un.free C O hoC X (by simp);have f4:zq r.heap TM a T .none:=⟨oe,vs,oT,ts,ha,hc,hd,h1,hT,vc,h3,ne⟩
 have na:a∉frs (envOfC qual scope s.heap.objs.size f cd::outer):=λz=>absurd (lo a z) (jbt.mpr new);have nTf:T∉frs (envOfC qual scope s.heap.objs.size f cd::outer):=λz=>absurd (lo T z) (jbt.mpr nT);show wpAny (model P w) (A.deeper (envOfC qual scope s.heap.objs.size f cd)) (noteFrame (.ref a) (envOfC qual scope s.heap.objs.size f cd)) _ _ r;refine Va hfr Y rfl f4 (by simp[rawInt]) λh5 l m5 f5 G=>?_;have x:Z.heap.objs.size<=r.heap.objs.size:=jai new (jbj (jal ha));have nca:C≠a:=jax (jaL C3 new);have ncT:C≠T:=jax (jaL C3 nT);have a45:C≠l:=jax (jaL C3 (jai x G));have lt4:=λb c=>jaL (lo b c) x;have a5G:h5.get? C=some O:=m5.keep C O a5H nC (by simp[nca,ncT]);have post:∃m,h5.Ns C m/\∀h',Heap.SameBut C h5 h'->∀g:Env,g.locals=C->wpAny (model P w) (A.deeper (envOfC qual scope s.heap.objs.size f cd)) (PySem.passOn "comprehension.variables-let-go" (.ref a) g:Sem Value) (λ_ _=>False) (jQ P w TM K mg base N qual scope f cd A outer s H E).xe {r with heap:=h' }:=by
  refine⟨mC,⟨O,esC,epC,a5G,hdC,rC⟩,λh6 sb g _=>?_⟩;have m6:Mv (frs (envOfC qual scope s.heap.objs.size f cd::outer)) [C] h5 h6:=⟨λb o q _ d=>(sb.2 b λz=>d (by rw[z];exact jag.mpr M)).trans q,λb o q _ d=>⟨o.slots,(sb.2 b λz=>d (by rw[z];exact jag.mpr M)).trans q⟩,jbs sb.1.symm⟩
  have nT5:l∉frs (envOfC qual scope s.heap.objs.size f cd::outer):=λz=>absurd (lt4 l z) (jbt.mpr G);have f6:zq h6 TM a l _:=f5.mv m6 na nT5 (by simp[jaE nca]) (by simp[jaE a45]);unfold PySem.passOn;obtain⟨oe6,vs6,oT6,ts6,ha6,hc6,hd6,h16,hT6,a9f,h36,ne6⟩:=id f6;refine jaa (ja7 ha6 hd6 h16 ?_);refine jaa (O8 (s:={r with heap:=h6 }) (fr:=frs (envOfC qual scope s.heap.objs.size f cd::outer)) f6 λh7 m7 f7=>?_);refine wpAny_throw ?_;have I:=(m5.trans m6).trans m7;have d:∀b∈frs (envOfC qual scope s.heap.objs.size f cd::outer),b∉([a,T]++[C])++[l]:=λb c z=>by
   simp only[jan,jah,jaY,or_false] at z;rcases z with((z | z) | z) | z
   .exact na (z ▸ c)
   .exact nTf (z ▸ c)
   .exact nC (z ▸ c)
   .exact nT5 (z ▸ c)
  have fl7:=Ji (λ_ z=>z) d I Y;refine leaveX (s:={r with heap:=h7 }) hfr fl7 rfl f7 λh8 R m8 f8 l8=>?_;have jcE:=I.trans m8;have h78:r.heap.objs.size<=R:=by
   rcases l8 with z | z
   .rw[z];exact G
   .exact jai I.sz z
  have p:∀b,b∈(([a,T]++[C])++[l])++[a,l,R]->s.heap.objs.size<=b/\H4 b=none:=λb z=>by
   simp only[jan,jah,jaY,or_false] at z;have q3:s.heap.objs.size<=Z.heap.objs.size:=jai By (jai hC (jbj C3));have q4:=jai q3 x;rcases z with(((z | z) | z) | z) | (z | z | z)
   .rw[z];exact⟨jai q3 new,V.free⟩
   .rw[z];exact⟨jai q3 nT,fT⟩
   .rw[z];exact⟨jai By hC,fC4⟩
   .rw[z];exact⟨jai q4 G,ok.fresh G⟩
   .rw[z];exact⟨jai q3 new,V.free⟩
   .rw[z];exact⟨jai q4 G,ok.fresh G⟩
   .rw[z];exact⟨jai q4 h78,ok.fresh h78⟩
  refine⟨a,H4,M,hE,os.trans (t.os.trans W.os),bare,?_,ok.I8 λb u c q=>jcE.keep b u q (λz=>c (fr4 b z)) (λz=>c (p b z).2),?_,?_,V.free⟩
  .have nl:∀b o,s.heap.get? b=some o->b≠s.heap.objs.size:=λb o q z=>absurd (jal q) (by rw[z];exact ja4 _);have nin:=λb o q n z=>(jah.mp (show b∈s.heap.objs.size::frs outer from z)).elim (nl b o q) n;have hin:∀b,b∈frs outer->b∈frs (envOfC qual scope s.heap.objs.size f cd::outer):=λb c=>jav _ c;have j:∀b o,s.heap.get? b=some o->b∉(([a,T]++[C])++[l])++[a,l,R]:=λb o q z=>absurd (jal q) (jbt.mpr (p b z).1);have B:∀b o,s.heap.get? b=some o->b∉fp:=λb o q z=>by
    rcases(hfp b z).2.2.2.1 with y | y
    .exact absurd y (by show ¬ b∈[];exact jaY)
    .exact absurd (jal q) (jbt.mpr y)
   refine⟨λb o q n nf d=>?_,λb o q n inf d=>?_,λb o q n d=>?_,λb o q d=>?_,λb p q=>un.tups b p (h.tups b p (i.tups b p q)),λb o u q=>un.nO b o u (h.nO b o u (i.nO b o u q)),λb ps q=>?_⟩
   .have nn:=nin b o q nf;have L:=i.keep b o q n nf d;have F:=i.free b o q n d;have k:=h.keep b o L F nn (B b o q);have n3:=h.free b o L F (B b o q);exact jcE.keep b o (un.keep b o k n3 nn (by simp)) nn (j b o q)
   .have hh:=hin b inf;obtain⟨s1,L⟩:=i.slot b o q n inf d;have F:=i.free b o q n d;obtain⟨s3',k⟩:=h.slot b _ L F hh (B b o q);have n3:=h.free b _ L F (B b o q);obtain⟨s4',e4⟩:=un.slot b _ k n3 hh (by simp);obtain⟨s5,e5⟩:=jcE.slot b _ e4 hh (j b o q);exact⟨s5,e5⟩
   .obtain⟨o1,e1⟩:=i.there b o q d;have F:=i.free b o q n d;obtain⟨o3,k⟩:=h.there b o1 e1 (B b o q);exact un.free b o3 k (h.free b o1 e1 F (B b o q)) (by simp)
   .obtain⟨o1,e1⟩:=i.there b o q d;obtain⟨o3,k⟩:=h.there b o1 e1 (B b o q);obtain⟨o4,e4⟩:=un.there b o3 k (by simp);by_cases c:b∈frs (envOfC qual scope s.heap.objs.size f cd::outer)
    .obtain⟨sl,e5⟩:=jcE.slot b o4 e4 c (j b o q);exact⟨_,e5⟩
    .exact⟨o4,jcE.keep b o4 e4 c (j b o q)⟩
   .obtain⟨m1,e1⟩:=i.oS b ps q;obtain⟨m2,L⟩:=h.oS b _ e1;obtain⟨m3,k⟩:=un.oS b _ L;exact⟨m1++m2++m3,by rw[k,jck,jck,jck]⟩
  .obtain⟨N6,vs',Qp,ts',x1,x2,x3,x4,x5,x6,x7,x8⟩:=f8;exact⟨N6,vs',R,Qp,ts',x1,x2,x3,x4,x5,x6,x7,x8,(p R (by simp)).1,(p R (by simp)).2⟩
  .exact(p a (by simp)).1
 cases S<;>exact post
section
variable {sc:Scope}
theorem Nz (hN:(jQ P w TM K mg base N0 qual scope pX cd A outer s0 p7 E).N.Nodup)(YF:(jQ P w TM K mg base N0 qual scope pX cd A outer s0 p7 E).N[i]?=some y)(Z:Loc (jQ P w TM K mg base N0 qual scope pX cd A outer s0 p7 E).env.scope y)(S:iY (jQ P w TM K mg base N0 qual scope pX cd A outer s0 p7 E) sc cl own N fr)(hc:(jQ P w TM K mg base N0 qual scope pX cd A outer s0 p7 E).calm=true)(hi:PI (jQ P w TM K mg base N0 qual scope pX cd A outer s0 p7 E) j c G)
  (X:∀C s H fp xx,PG (rW (jQ P w TM K mg base N0 qual scope pX cd A outer s0 p7 E) sc N cl C s H fp xx) j g) (ht:∀C s H fp xx,Qa (rW (jQ P w TM K mg base N0 qual scope pX cd A outer s0 p7 E) sc N cl C s H fp xx) r tt) (he:∀C s H fp xx,Passes (FT P w TM) (rW (jQ P w TM K mg base N0 qual scope pX cd A outer s0 p7 E) sc N cl C s H fp xx) E->PE (rW (jQ P w TM K mg base N0 qual scope pX cd A outer s0 p7 E) sc N cl C s H fp xx) f te)
  (p:autoParam (swapsWith (.ListComp f [⟨j,c,r,0⟩] sc pos) (some (.Name y u)) d.line (jQ P w TM K mg base N0 qual scope pX cd A outer s0 p7 E).env=pure true) zi) (hs:autoParam (∀x,foldedSetIterable c (jQ P w TM K mg base N0 qual scope pX cd A outer s0 p7 E).env x=pure x) jp)
  (hf:autoParam ((jQ P w TM K mg base N0 qual scope pX cd A outer s0 p7 E).fn y=true\/(jQ P w TM K mg base N0 qual scope pX cd A outer s0 p7 E).env.scope.names.lookup y=some .local) zt) :
  PS (jQ P w TM K mg base N0 qual scope pX cd A outer s0 p7 E) (.Assign [.Name y u] (.ListComp f [⟨j,c,r,0⟩] sc pos) d) (Rh (DF own fr G g tt te) (Jh i)):=by
 intro O s U H D0 I h;rw[exec_Assign_Name_used _ _ _ _ p];refine jaa (wpAny_standAt (jaa ?_));refine jaa (dF (wpAny_comprehension_free rfl hs S.clos S.kind S.names
  (dF (hi O s U H _ I h) λv s1 h1=>dF h1 λitv B h2=>?_)) λ_ s' M=>jad (jad M))
 obtain⟨it,fp,tn,J,H2,e,k,T,n,L,W,w0,walk⟩:=h2;subst e;refine yU S hc k T n L (λD C=>X C _ _ fp _) (λD C=>ht C _ _ fp _) (λD C R=>he C _ _ fp _ (a1i k L R)) w0 walk ?_;intro D C H' ys s' m V hD fC I' rr;obtain⟨f0,t,f2',f3,F,f5⟩:=fC;refine wpAny_assign_Name (sS I' hN YF Z (v:=.ref D) rfl (?_) hf);rintro B k ⟨a,Q,ha⟩;have Y:C≠a:=by
  rcases ha with z | z
  .rw[z];exact t
  .exact λq=>F y a z q.symm
 exact⟨m,V.sameBut Q Y,λh' l=>⟨_,_,Inv.turned (t':=B.toks) k (λb o hb e=>l.extBut b o hb e) f0 t f3 F f5,rr D hD⟩⟩
end
end L2
namespace Hw
open PySem L2
end Hw
namespace L2
open PySem PySem.Spec PyProof.Rows Hw
noncomputable def Ry:V->List V->Hp->VK->Prop:=λx c H Q=>∃a b,x=.str a/\c=[.str b]/\Q (.bl (Txt.startswith a b)) H
def Kq:FH X "str.startswith" Ry:=by
 intro g s U H x i v us Q I d e h;obtain⟨a,b,rfl,rfl,q⟩:=h;obtain⟨t,rfl⟩:=d;obtain⟨u,rfl,c⟩:=e.one;obtain⟨f,rfl⟩:=c;exact PySem.SC.startswith ⟨.bl _,H,I,M,q⟩
noncomputable def a0W (K:Frag):List V->Hp->VK->Prop:=λg H Q=>∃(a C f c e d:Addr)(fs:List (Str×V)) (b:Bool),g=[.ref a,.ref c]/\H a=some (.ins C f fs)/\QH K C/\findIn K (.ref C) "__class__"=some (some (.builtin "object.__class__"))/\
 specialIn K (.builtin "object.__class__") "__get__"=some (some (.builtin "getset_descriptor.__get__"))/\takesIn K (.builtin "object.__class__")=some true/\mroIn K C (.type "object")=some true/\ki K H c [.ref e,.ref d]/\kitAny K (.ref C) [.ref e,.ref d]=some b/\Q (.bl b) H
def Lf:eB X (.builtin "isinstance") (a0W X.K):=by
 intro B s U H N us Q I r h;obtain⟨a,C,y,Y,T,D,fs,b,rfl,w,cl,j,f,c,o,p,e,q⟩:=h;obtain⟨V,F,rfl,u,m⟩:=vals2 r;cases u;cases m;obtain⟨mA,O,_⟩:=rQ I.hok w;obtain⟨S,J,_⟩:=O.look;obtain⟨G,k,v,L⟩:=I.tuple p;obtain⟨A,E,rfl,l,x⟩:=vals2 k;cases l;cases x;obtain⟨⟨g,R,d,P⟩,t,i,n,hd⟩:=v;subst i hd;exact PySem.W.kia_tup (kitx_own (cl.get _) cl.hd j f c o) I.mE J t e (λz=>nomatch z) λtk=>⟨.bl b,H,I.tok _,M,q⟩
end L2
namespace PySem
open L2
theorem yI {α β:Type}{f g:α->Option β}:∀{l:List α},(∀x∈l,f x=g x)->l.filterMap f=l.filterMap g
 |[],_=>rfl
 |a::r,h=>by
  have e:=yI λx b=>h x (jav _ b);have c:=h a (jay ..);simp only[jba,c,e]
def oE {α β:Type}(f:α->Option β){a:α}{b:β}{l:List α}(h:f a=some b):(a::l).filterMap f=b::l.filterMap f:=by simp only[jba,h]
def CJ {α β:Type}(f:α->Option β){a:α}{l:List α}(h:f a=none):(a::l).filterMap f=l.filterMap f:=by simp_all
def TY (h:Int):SetTable.bits h<32 ^ 13:=by
 unfold SetTable.bits;lia
noncomputable def itW (m:Nat):Nat->Nat->Nat
 |0,i=>i
 |n+1,i=>itW m n ((i*5+1) % (m+1))
def p8 (m:Nat):Prop:=∀i,i<m+1->∀j,j<m+1->∃n,n<m+1/\itW m n i=j
def a2w:p8 7:=by unfold p8;symm
def YI:p8 15:=by unfold p8;symm
def YH:p8 31:=by unfold p8;symm
def a2z {ow:Array (Option Nat)}(a:i<ow.size):(ow.getD i (some 0)).isNone=true↔ow.getD i none=none:=by
 simp only[jct];rw[Array.getElem?_eq_getElem a];simp only[Option.getD_some,Option.isNone_iff_eq_none]
def O4 (hs:ow.size=m+1)(f:i<m+1)(h:ow.getD i none=none\/∃j,SetTable.layClean.free m ow a ((i*5+1+p / 32) % (m+1)) (p / 32)=some j/\j<m+1/\ow.getD j none=none):∃j,SetTable.layClean.free m ow (a+1) i p=some j/\j<m+1/\ow.getD j none=none:=by
 have c:i<=SetTable.runEnd m i/\SetTable.runEnd m i<=m:=by unfold SetTable.runEnd;split<;>lia
 unfold SetTable.layClean.free;cases z:(List.range (SetTable.runEnd m i+1 - i)).find? (λk=>(ow.getD (i+k) (some 0)).isNone) with
 |some k=>
  have b:=List.find?_some z;have d:=jbU.mp (List.mem_of_find?_eq_some z);exact⟨i+k,M,by lia,(a2z (by lia)).mp b⟩
 |none=>
  rcases h with h | ⟨j,e,l,n⟩
  .have:=List.find?_eq_none.mp z 0 (jbU.mpr (by lia));rw[Nat.add_zero] at this;exact absurd ((a2z (by lia)).mpr h) this
  .exact⟨j,e,l,n⟩
theorem Vr (hs:ow.size=m+1)(b:ow.getD j none=none):∀(n fuel i:Nat),i<m+1->itW m n i=j->n<fuel->∃j,SetTable.layClean.free m ow fuel i 0=some j/\j<m+1/\ow.getD j none=none
 |0,fuel+1,i,a,h,_=>O4 hs a (.inl (by have h:i=j:=h;rw[h];exact b))
 |n+1,fuel+1,i,a,h,c=>by
  refine O4 hs a (.inr ?_);exact Vr hs b n fuel _ (Nat.mod_lt _ (by lia)) h (by lia)
theorem Vs (g:p8 m)(hs:ow.size=m+1)(d:j<m+1)(c:ow.getD j none=none):∀(k fuel i p:Nat),i<m+1->p<32 ^ k->k+(m+1)<=fuel->∃j,SetTable.layClean.free m ow fuel i p=some j/\j<m+1/\ow.getD j none=none
 |0,fuel,i,p,a,b,f=>by
  have:p=0:=by lia
  rw[this];obtain⟨n,h,e⟩:=g i a j d;exact Vr hs c n fuel i a e (by lia)
 |k+1,fuel+1,i,p,a,b,f=>by
  refine O4 hs a (.inr (Vs g hs d c k fuel _ _ (Nat.mod_lt _ (by lia)) ?_ (by lia)));rw[Nat.div_lt_iff_lt_mul (by decide)];exact b
noncomputable def wH (m:Nat)(ow:Array (Option Nat)):jcO:=(List.range (m+1)).filterMap λj=>ow.getD j none
def Mj (e:(wH m ow).length<m+1):∃j,j<m+1/\ow.getD j none=none:=by
 rcases Classical.em (∃j,j<m+1/\ow.getD j none=none) with h | h
 .exact h
 .exfalso;have c:∀l:jcO,(∀j∈l,j<m+1)->(l.filterMap λj=>ow.getD j none).length=l.length:=by
   intro l
   induction l with
   |nil=>intro _;rfl
   |cons a r f=>
    intro d;cases z:ow.getD a none with
    |none=>exact absurd ⟨a,d a jay,z⟩ h
    |some v=>rw[oE (λj=>ow.getD j none) z,jak,jak,f λj b=>d j (jav _ b)]
  have:=c (List.range (m+1)) λj b=>jbU.mp b;unfold wH at e;rw[this,jbg] at e;lia
def Q8 (hs:ow.size=m+1)(o:j<m+1)(h:ow.getD j none=none):List.Perm (wH m (ow.setIfInBounds j (some k))) (k::wH m ow):=by
 unfold wH;have d:List.range (m+1)=List.range j++(j::List.range' (j+1) (m - j)):=by
  rw[List.range_eq_range',List.range_eq_range'];have b:=List.range'_append_1 (s:=0) (m:=j) (n:=1+(m - j));rw[jbV] at b;have f:List.range' j (1+(m - j))=j::List.range' (j+1) (m - j):=by rw[Nat.add_comm,List.range'_succ]
  rw[<- f,b];congr 1;lia
 have c:∀m,m≠j->(ow.setIfInBounds j (some k)).getD m none=ow.getD m none:=λm a=>by
  simp only[jct];rw[jcD (jaE a)]
 have i:(ow.setIfInBounds j (some k)).getD j none=some k:=by
  simp only[jct];rw[Array.getElem?_setIfInBounds_self_of_lt (by lia)];rfl
 have g:∀l:jcO,j∉l->l.filterMap (λm=>(ow.setIfInBounds j (some k)).getD m none)=l.filterMap (λm=>ow.getD m none):=λl e=>by
  exact yI λm a=>(c m λz=>e (z ▸ a))
 rw[d,List.filterMap_append,List.filterMap_append,oE (λm=>(ow.setIfInBounds j (some k)).getD m none) i,CJ (λm=>ow.getD m none) h,g _ (λz=>by have:=jbU.mp z;lia),g _ (λz=>by have:=(List.mem_range'_1.mp z).1;lia)];exact List.perm_middle
theorem AZ (g:p8 m):∀(hs:List Int)(ow:Array (Option Nat)) (k:Nat),ow.size=m+1->List.Perm (wH m ow) (List.range k)->k+hs.length<=m->∃ow',(hs.foldl (λacc h=>do
  let(owner,k) <- acc
  let j <- SetTable.layClean.free m owner (SetTable.turns m) (SetTable.bits h % (m+1)) (SetTable.bits h)
  pure (owner.setIfInBounds j (some k),k+1)) (some (ow,k)))=some (ow',k+hs.length)/\ow'.size=m+1/\List.Perm (wH m ow') (List.range (k+hs.length))
 |[],ow,k,hs,a,b=>⟨ow,M,hs,a⟩
 |h::r,ow,k,hs,a,b=>by
  rw[jak] at b ⊢;have lt:=a.length_eq;rw[jbg] at lt;obtain⟨q,n,i⟩:=Mj (m:=m) (ow:=ow) (by lia);obtain⟨j,e,p,c⟩:=Vs g hs n i 13 (SetTable.turns m) (SetTable.bits h % (m+1)) (SetTable.bits h) (Nat.mod_lt _ (by lia)) (TY h) (by unfold SetTable.turns;lia);have l:List.Perm (wH m (ow.setIfInBounds j (some k))) (List.range (k+1)):=(Q8 hs p c).trans (by
   rw[List.range_succ];exact(a.cons k).trans (List.perm_append_singleton k (List.range k)).symm)
  obtain⟨ow',o,d,f⟩:=AZ g r (ow.setIfInBounds j (some k)) (k+1) (by rw[Array.size_setIfInBounds];exact hs) l (by lia);refine⟨ow',?_,d,by rw[show k+(r.length+1)=k+1+r.length by lia];exact f⟩;rw[List.foldl_cons];have:(do
    let(owner,k) <- some (ow,k)
    let j <- SetTable.layClean.free m owner (SetTable.turns m) (SetTable.bits h % (m+1)) (SetTable.bits h)
    pure (owner.setIfInBounds j (some k),k+1))=some (ow.setIfInBounds j (some k),k+1):=by
   show(do
    let j <- SetTable.layClean.free m ow (SetTable.turns m) (SetTable.bits h % (m+1)) (SetTable.bits h)
    pure (ow.setIfInBounds j (some k),k+1))=some (ow.setIfInBounds j (some k),k+1)
   rw[e];rfl
  rw[this,o,show k+(r.length+1)=k+1+r.length by lia]
def Q9 (m:Nat):List.Perm (wH m (Array.replicate (m+1) none)) (List.range 0):=by
 have:wH m (Array.replicate (m+1) none)=[]:=by
  unfold wH;rw[List.filterMap_eq_nil_iff];intro j a;simp only[jct,Array.getElem?_replicate];split<;>rfl
 rw[this];exact .refl _
def a1X {m:Nat}(g:p8 m){fi mo:Nat}{led plain:Bool}{hs:Array Int}(h:hs.size<=m):∃t order,SetTable.laid m fi mo led plain hs=some (t,order)/\List.Perm order.toList (List.range hs.size)/\t.place.size=hs.size/\t.mask=m/\t.dummies=#[]/\t.led=led/\t.plain=plain:=by
 obtain⟨b,e,i,c⟩:=AZ g hs.toList (Array.replicate (m+1) none) 0 (by simp) (Q9 m) (by rw[jaH];lia);unfold SetTable.laid SetTable.layClean;rw[<- Array.foldl_toList];rw[e];refine⟨_,_,M,?_,?_,M,M,M,M⟩
 .rw[jbV] at c;refine List.Perm.trans ?_ c;simp only[List.map_filterMap];refine .of_eq (yI λj _=>?_);cases b.getD j none<;>rfl
 .have len:=c.length_eq;rw[jbg,jbV] at len;have d:∀l:jcO,(l.filterMap λj=>(b.getD j none).map (j,·)).length=(l.filterMap λj=>b.getD j none).length:=λl=>by
   induction l with
   |nil=>rfl
   |cons a r f=>
    cases z:b.getD a none with
    |none=>rw[CJ (λj=>(b.getD j none).map (j,·)) (by rw[z];rfl),CJ (λj=>b.getD j none) z];exact f
    |some v=>rw[oE (λj=>(b.getD j none).map (j,·)) (by rw[z];rfl),oE (λj=>b.getD j none) z,jak,jak,f]
  refine Eq.trans ?_ len;rw[jaz,jac];exact d _
end PySem
namespace PySem
open L2
noncomputable def Rw (a:Array (Int×Value))(laid:Option (SetTable×Array Nat)):Sem (Array (Int×Value)×SetTable):=do
 let some (t,order):=laid | unsupported "internal:set-table-without-room"
 let es':=order.filterMap (a[·]?)
 if es'.size !=a.size then unsupported "internal:set-table-lost-an-element"
 pure (es',t)
theorem Nb (e:l=some (t,a))(c:List.Perm a.toList (List.range b.size))
  (h:∀es',List.Perm es'.toList b.toList->Q (es',t) s):wpAny (model prog w) A (Rw b l) Q E s:=by
 subst e;have p:List.Perm (a.filterMap (b[·]?)).toList b.toList:=by
  rw[Array.toList_filterMap];exact(c.filterMap _).trans (by rw[filterMap_getElem?_range])
 have sz:(a.filterMap (b[·]?)).size=b.size:=by have:=p.length_eq;rw[jaH] at this;exact this
 unfold Rw;dsimp only;rw[jae (by simp[sz])];exact jaa (jad (jad (h _ p)))
def Bt {h:Heap}{o:Obj}(b:h.get? r=some o)(hd:o.data=.set c a t):(h.update r (Obj.putSet es' t')).get? r=some {o with data:=.set es' (a+1) t' }:=by
 have:=ja2 (Obj.putSet es' t') b (by rw[putSet_of es' t' hd];rfl);rw[putSet_of es' t' hd] at this;exact this
def Rx (b:10<=n)(a:n<=16):SetTable.sizeAbove n<=32/\(SetTable.fresh 0 0 led).relaid #[] n=some ({mask:=if n=16 then 31 else 15,place:=#[],dummies:=#[],finger:=0,led:=led,moves:=1,plain:=true },#[]):=by
 have:n=10\/n=11\/n=12\/n=13\/n=14\/n=15\/n=16:=by lia
 rcases this with rfl | rfl | rfl | rfl | rfl | rfl | rfl<;>cases led<;>symm
structure CpW (prog:Program)(w:World)(h:Heap)(r:Addr)(zs:List Str):Prop where
 e:∃o es ep t,h.get? r=some o/\o.ExactSet/\o.data=.set es ep t/\sF prog w es.toList zs/\(∀e∈es.toList,∃z k,e.2=Value.str z k)/\t.place.size=es.size/\es.size<=t.mask/\t.dummies=#[]/\t.led=(!w.params.followText "set-order")/\t.plain=false
theorem Ru (j:4<=n)(l:n<=8)(a:b.get? r=some {cls:=.type "set",dict:=none,data:=.set #[] 0 (.fresh 0 0 (!w.params.followText "set-order")) })
  (h:∀m mo ep h2,p8 m->n<=m->Heap.SameBut r b h2->h2.get? r=some {cls:=.type "set",dict:=none,data:=.set #[] ep {mask:=m,place:=#[],dummies:=#[],finger:=0,led:=!w.params.followText "set-order",moves:=mo,plain:=true } }->Q () {s with heap:=h2 }) :
  wpAny (model prog w) A (setRoomFor r n) Q E {s with heap:=b }:=by
 unfold setRoomFor;refine jaa (jaR (s:={s with heap:=b }) a rfl rfl ?_);dsimp only;by_cases k:n=4
 .have c:(SetTable.fresh 0 0 (!w.params.followText "set-order")).roomFor n=none:=by unfold SetTable.roomFor SetTable.fill SetTable.fresh;simp;lia
  rw[c];exact jad (h 7 0 0 b a2w (by lia) (jbE _ _) a)
 have c:(SetTable.fresh 0 0 (!w.params.followText "set-order")).roomFor n=some (n*2):=by unfold SetTable.roomFor SetTable.fill SetTable.fresh;simp;lia
 rw[c];dsimp only;obtain⟨i,e⟩:=Rx (led:=!w.params.followText "set-order") (n:=n*2) (by lia) (by lia);unfold setRelay;refine jaa (jaR (s:={s with heap:=b }) a rfl rfl ?_);dsimp only;rw[jae (by rw[jbe];lia)];refine jaa ?_;show wpAny _ _ (Rw #[] ((SetTable.fresh 0 0 (!w.params.followText "set-order")).relaid (Array.map (λx:Int×Value=>x.1) #[]) (n*2))) _ _ _;have g:(Array.map (λx:Int×Value=>x.1) #[])=#[]:=by simp
 refine Nb (by rw[g];exact e) (by simp) λd f=>?_;obtain rfl:d=#[]:=by have:=f.length_eq;simp at this;exact this
 dsimp only;refine jb1 (s:={s with heap:=b }) a rfl (h _ _ _ _ ?_ ?_ (jbw _ _ _) (Bt (es':=#[]) a M))
 .split
  .exact YH
  .exact YI
 .split<;>lia
theorem a2L (z:dg prog w s.heap a f)(h4:4<=f.length)(h8:f.length<=8)
  (h:∀h',(∀b ob,s.heap.get? b=some ob->h'.get? b=some ob)->CpW prog w h' s.heap.objs.size f->Q (.ref s.heap.objs.size) {s with heap:=h' }):wpAny (model prog w) A (Builtin.Frozenset.copyOf a) Q E s:=by
 unfold Builtin.Frozenset.copyOf Builtin.Frozenset.baseOf;refine jaa (jaa (jb4 z.typeIs sub_set_self (jad ?_)));simp only[if_true];unfold newSet setsByText;refine jaa (jaa (jaa (jbm (jad ?_))));dsimp only;simp only[newObj];refine jaa (wpAny_alloc (jad ?_));refine jaa (jad ?_);show wpAny (model prog w) A _ _ _ {s with heap:=s.heap.push {cls:=.type "set",dict:=none,data:=.set #[] 0 (.fresh 0 0 (!w.params.followText "set-order")) } };generalize i:s.heap.push {cls:=.type "set",dict:=none,data:=.set #[] 0 (.fresh 0 0 (!w.params.followText "set-order")) }=h1;have F:∀b ob,s.heap.get? b=some ob->h1.get? b=some ob:=λb ob e=>i ▸ jap _ e;have v:h1.get? s.heap.objs.size=some {cls:=.type "set",dict:=none,data:=.set #[] 0 (.fresh 0 0 (!w.params.followText "set-order")) }:=i ▸ jaK _ rfl;have I:a<s.heap.objs.size:=let⟨_,_,_,_,e,_⟩:=z;jal e;have x:(s.heap.objs.size==a)=false:=jbN.mpr (jbJ I);have V:dg prog w h1 a f:=z.at (F a);obtain⟨oa,c,ep,t,ho,N,hd,k,jq,q,hn,g,o⟩:=qu V;have hn8:c.size=f.length:=by lia
 have H:t.plain=false:=q.resolve_right (by lia);refine jaa ?_;unfold setMerge;rw[x];simp only[jbC,jbo];refine jaa (jaR (s:={s with heap:=h1 }) ho hd k ?_);dsimp only;rw[jae (by simp only[Array.isEmpty,decide_eq_true_eq];lia)];refine jaa (Ru (by lia) (by lia) v λm mo J r Z R n d=>?_);refine jaa (jaR (s:={s with heap:=r }) d rfl rfl ?_);dsimp only;have y:((!w.params.followText "set-order")&&t.led)=(!w.params.followText "set-order"):=by rw[jq,Bool.and_self]
 have C:(true&&t.plain)=false:=by rw[H];rfl
 rw[y,C];have fin:∀es' t',List.Perm es'.toList c.toList->t'.place.size=es'.size->t'.mask=m->t'.dummies=#[]->t'.led=(!w.params.followText "set-order")->t'.plain=false->wpAny (model prog w) A (storeSet s.heap.objs.size es' t') (λ_ T=>wpAny (model prog w) A (pure (Value.ref s.heap.objs.size)) Q E T) E {s with heap:=r }:=by
  intro es' t' p O e2 U P S;have sz:es'.size=f.length:=by have:=p.length_eq;rw[jaH,jaH] at this;lia
  refine jb1 (s:={s with heap:=r }) d rfl (jad ?_) (by rw[sz,jbe];lia);have W:=Bt (es':=es') (t':=t') d rfl;refine h _ (λb ob e=>?_) ⟨_,es',_,t',W,⟨M,M,M⟩,M,g.perm p,λe he=>o e (p.mem_iff.mp he),O,by lia,U,P,S⟩;have l:=jax (jal e);exact((jbw _ _ _).2 b l).trans ((n.2 b l).trans (F b ob e))
 unfold SetTable.road;rw[jae (by simp[SetTable.fill])];dsimp only;have u:t.place.size=c.size:=by
  unfold SetTable.fits at k;simp only[ja3,ja8] at k;exact k.1
 by_cases j:(m==t.mask&&t.dummies.isEmpty)=true
 .rw[jaf j];dsimp only;simp only[ja3,ja8,Array.isEmpty_iff] at j;exact fin c _ .rfl u j.1.symm j.2 rfl rfl
 .rw[jae j];dsimp only;refine jaa ?_;obtain⟨t',B,L,D,K,X,Y,p4,G⟩:=a1X Z (fi:=0) (mo:=mo) (led:=!w.params.followText "set-order") (plain:=false) (hs:=c.map (·.1)) (by rw[Array.size_map];lia);show wpAny _ _ (Rw c (SetTable.laid m 0 mo (!w.params.followText "set-order") false (c.map (·.1)))) _ _ _;rw[Array.size_map] at D K;refine Nb L D λes' p=>?_;have sz:es'.size=c.size:=by have:=p.length_eq;exact this
  exact fin es' t' p (by lia) X Y p4 G
theorem O9 (i:s.heap.get? a=some o)(hd:o.data=.set b n t)(l:t.fits b.size=true)(c:ElemsOf (aI prog w) b.toList)(m:b.size<scanBound)
  (h:Q (List.findIdx? (λe=>(aI prog w).is (Sum.inr x) e.2) b.toList) s):wpAny (model prog w) A (setFind a (.str x k) ((aI prog w).hash (Sum.inr x))) Q E s:=by
 have f:(Value.str x k).scannable=true:=rfl;have d:=dB prog w x k;unfold setFind setFindIn;refine jaa (jaR i hd l ?_);dsimp only;rw[byScan_of f m c];simp only[↓reduceIte];refine jaa (wpAny_rule ?_);refine jaa (wpAny_setScan_of d i hd l c ?_);cases g:List.findIdx? (λe=>(aI prog w).is (Sum.inr x) e.2) b.toList with
 |some j=>
  dsimp only;rw[g] at h;exact jad (by rw[jbV];exact h)
 |none=>
  dsimp only;rw[g] at h;exact jad h
theorem A8 (h:sF prog w l b):ElemsOf (aI prog w) l:=λe a=>by
 obtain⟨z,k,rfl⟩:=h.2 e a;exact⟨⟨_,dB prog w z k,M⟩,M⟩
structure Z3 (prog:Program)(w:World)(h:Heap)(r:Addr)(zs:List Str):Prop where
 e:∃o es ep t,h.get? r=some o/\o.ExactSet/\o.data=.set es ep t/\sF prog w es.toList zs/\t.fits es.size=true/\t.tooManyDummies=false/\t.led=(!w.params.followText "set-order")/\t.plain=false
def Z3.a0L (H:Z3 prog w h r b)(n:b.Nodup)(p:b.length<64):∃ys,dg prog w h r ys/\List.Perm ys b:=by
 obtain⟨o,f,l,t,i,d,hd,a,j,_,g,c⟩:=H.e;refine⟨f.toList.map (λe=>strOf e.2),⟨o,f,l,t,i,d,hd,A8 a,λe m=>?_,M,(a.1.nodup_iff).mpr n,?_,j,g,.inl c⟩,a.1⟩
 .obtain⟨z,k,rfl⟩:=a.2 e m;exact⟨z,k,M⟩
 .have:=a.1.length_eq;rw[jac,jaH] at this;unfold scanBound;lia
def CpW.enW (H:CpW prog w h r d):Z3 prog w h r d:=by
 obtain⟨o,m,l,t,j,c,hd,k,f,g,n,a,i,b⟩:=H.e;refine⟨o,m,l,t,j,c,hd,k,?_,by unfold SetTable.tooManyDummies;rw[a];simp,i,b⟩;unfold SetTable.fits SetTable.fill;rw[a,g];simp;lia
def mQ {α:Type}(xs:Array α)(p:Nat):(SetTable.eraseAt xs p).toList=xs.toList.take p++xs.toList.drop (p+1):=by
 simp[SetTable.eraseAt,jcx]
def K2 {t:SetTable}(a:t.place.size=n)(d:n<=t.mask)(hd:t.dummies=#[])(f:i<n)(c:4<=n):(t.drop i).fits (n - 1)=true/\(t.drop i).tooManyDummies=false/\(t.drop i).led=t.led/\(t.drop i).plain=t.plain:=by
 obtain⟨j,b⟩:∃j,t.place[i]?=some j:=⟨t.place[i]'(by lia),Array.getElem?_eq_getElem _⟩
 have e:t.drop i={t with place:=SetTable.eraseAt t.place i,dummies:=SetTable.insertAt t.dummies (SetTable.below t.dummies j) j }:=by
  unfold SetTable.drop;rw[b]
 rw[e];have l1:(SetTable.eraseAt t.place i).size=n - 1:=by
  rw[<- jaH,mQ,jab,jbF,jbR,jaH,a];lia
 have l2:(SetTable.insertAt t.dummies (SetTable.below t.dummies j) j).size=1:=by
  rw[<- jaH,(SetTable.insertAt_perm _ _ _).length_eq,hd];rfl
 refine⟨?_,by show decide ((SetTable.insertAt t.dummies (SetTable.below t.dummies j) j).size > t.mask / 4)=false;rw[l2];simp;lia,M,M⟩;show((SetTable.eraseAt t.place i).size==n - 1&&decide ((SetTable.eraseAt t.place i).size+(SetTable.insertAt t.dummies (SetTable.below t.dummies j) j).size<=t.mask))=true;rw[l1,l2];simp;lia
theorem Pq (C:CpW prog w s.heap r g)(j:g.Nodup)(h4:4<=g.length)(U:g.length<=8)
  (h:∀b h' ys,Heap.SameBut r s.heap h'->Z3 prog w h' r ys->ys.Nodup->(∀x,x∈ys↔x∈g/\x≠z)->ys.length<=8->Q b {s with heap:=h' }) :
  wpAny (model prog w) A (setDiscardHashed r (.str z k) ((aI prog w).hash (Sum.inr z))) Q E s:=by
 have S:=C.enW;obtain⟨o,a,Y,t,m,u,hd,f,n,D,R,l,V,p⟩:=C.e;have I:t.fits a.size=true:=by
  unfold SetTable.fits SetTable.fill;rw[l,D];simp;lia
 have X:=f.1.length_eq;rw[jac,jaH] at X;unfold setDiscardHashed;refine jaa (O9 m hd I (A8 f) (by unfold scanBound;lia) ?_);have F:∀e∈a.toList,(aI prog w).is (Sum.inr z) e.2=decide (strOf e.2=z):=λe c=>by
  obtain⟨z',Z,L⟩:=n e c;rw[L,Yx];rfl
 cases H:List.findIdx? (λe=>(aI prog w).is (Sum.inr z) e.2) a.toList with
 |none=>
  dsimp only;refine jad (h false s.heap g (jbE _ _) S j (λx=>⟨λq=>⟨q,λe=>?_⟩,λq=>q.1⟩) U);subst e;obtain⟨e,c,es'⟩:=jaq.mp (f.1.mem_iff.mpr q);have:=List.findIdx?_eq_none_iff.mp H e c;rw[F e c,jaB es'] at this;cases this
 |some i=>
  dsimp only;obtain⟨y,B,_⟩:=jcB.mp H;rw[F _ (jcq y)] at B;have G:=of_decide_eq_true B;refine jaa (jaR m hd I ?_);dsimp only;have v:i<a.size:=by rw[jaH] at y;exact y
  obtain⟨J,N,O,T⟩:=K2 D R l v (by lia);have le:=mQ a i;have sz:(SetTable.eraseAt a i).size=a.size - 1:=by
   rw[<- jaH,le,jab,jbF,jbR,jaH];lia
  refine jaa (jb1 m hd (jaa (wpAny_point (jad ?_))) (by rw[sz,jbe];lia));have P:=Bt (es':=SetTable.eraseAt a i) (t':=t.drop i) m hd;have sub:List.Sublist (SetTable.eraseAt a i).toList a.toList:=by
   rw[le]
   conv=>rhs;rw[<- List.take_append_drop i a.toList]
   exact(List.Sublist.refl _).append (List.drop_sublist_drop_left _ (by lia))
  have cut:a.toList=a.toList.take i++a.toList[i]::a.toList.drop (i+1):=by
   rw[<- jca,List.take_append_drop]
  have d:(a.toList.map λe=>strOf e.2).Nodup:=f.1.nodup_iff.mpr j;refine h true _ ((SetTable.eraseAt a i).toList.map λe=>strOf e.2) (jbw _ _ _) ⟨_,_,_,_,P,u,M,⟨.rfl,λe c=>f.2 e (sub.mem c)⟩,by rw[sz];exact J,N,O.trans V,T.trans p⟩ (d.sublist (sub.map _)) (λx=>?_) (by rw[jac,jaH];lia);rw[<- f.1.mem_iff,le];rw[cut,jaj,jas,G] at d
  conv=>rhs;rw[cut]
  rw[jaj,jaj,jas,G];have W:=List.perm_middle.nodup_iff.mp d;obtain⟨K,_⟩:=jbv.mp W;constructor
  .intro q;refine⟨?_,λe=>K (e ▸ q)⟩;rcases jan.mp q with q | q
   .exact jaA _ q
   .exact jaP _ (jav _ q)
  .rintro⟨q,ne⟩;rcases jan.mp q with q | q
   .exact jaA _ q
   .rcases jah.mp q with q | q
    .exact absurd q ne
    .exact jaP _ q
theorem K7 {prog:Program}{w:World}{A:Around}{E:jcG}{s:Shared}{id:String}{a o:Addr}{j g:jcI}{Q:jcG}(L:dg prog w s.heap a j)(F:dg prog w s.heap o g)(X:g.length<j.length / 4)(O:j.length<=8)
  (h:∀h' d ys,(∀b ob,s.heap.get? b=some ob->h'.get? b=some ob)->dg prog w h' s.heap.objs.size ys->(∀x,x∈ys↔x∈j/\x∉g)->ys.length<64->Q (.ref s.heap.objs.size) {s with heap:=h',drawn:=d }) :
  wpAny (model prog w) A (Builtin.Frozenset.difference id a (.ref o)) Q E s:=by
 have q:j.Nodup:=let⟨_,_,_,_,_,_,_,_,_,_,n,_⟩:=L;n;have T:o<s.heap.objs.size:=let⟨_,_,_,_,e,_⟩:=F;jal e;unfold Builtin.Frozenset.difference;refine jaa (sr F ?_);simp only[Bool.not_true,jbC,jbo,Bool.false_and];refine jaa (jad ?_);refine jaa (size_set F ?_);refine jaa (size_set L ?_);rw[jaf X];refine jaa (wpAny_rule ?_);refine jaa (a2L L (by lia) O λf C R=>?_);refine jaa (jad ?_);refine jaa (jbi ?_);unfold Builtin.Frozenset.differenceUpdate;have i:dg prog w f o g:=F.at (C o);have K:((Value.ref o) ==.ref s.heap.objs.size)=false:=by
  refine jbN.mpr λe=>?_;injection e with e
  exact absurd e (jax T)
 rw[K];simp only[jbC,jbo];refine jaa (sr (s:={s with heap:=f }) i ?_);simp only[if_true];have B:=R.enW;obtain⟨Z,H,p0⟩:=B.a0L q (by lia);refine jaa (jad ?_);refine jaa (size_set (s:={s with heap:=f }) i ?_);refine jaa (size_set (s:={s with heap:=f }) H ?_);rw[jae (by lia)];obtain⟨oo,eo,epo,to,p,a9d,t,m,a67,a8Y,W,a7a,Y⟩:=qu i;unfold setEpoch;refine jaa (jaa (jaR (s:={s with heap:=f }) p t m (jad ?_)));refine jaa (jbi (jaa ?_));unfold setWalkUnseen;refine jaa (jaR (s:={s with heap:=f }) p t m ?_);dsimp only;unfold setsByText;refine jaa (jaa (jbm (jad ?_)));rw[jaf (by simp;lia)];refine Dv (s:={s with heap:=f }) i λv d P=>?_;have l1:v.toList.length=g.length:=by have:=P.1.length_eq;rw[jac] at this;exact this
 refine jaa (wpAny_forIn_array' _ (λl _ y=>(l=v.toList/\y={s with heap:=f,drawn:=d })\/(l=[]/\∃c ys,y={s with heap:=c,drawn:=d }/\Heap.SameBut s.heap.objs.size f c/\Z3 prog w c s.heap.objs.size ys/\ys.Nodup/\(∀x,x∈ys↔x∈j/\x∉g)/\ys.length<=8)) _ ?_ ?_ _ _ (.inl ⟨M,M⟩))
 .rintro e rest b y (⟨u,rfl⟩ | ⟨u,_⟩)
  .rw[<- u,jak] at l1;obtain rfl:rest=[]:=jcs (by lia);obtain⟨U,k,rfl⟩:=P.2 e (by rw[<- u];exact jay ..);obtain⟨z,rfl⟩:∃z,g=[z]:=by
    cases g with
    |nil=>cases l1
    |cons z r=>exact⟨z,by rw[jcs (l:=r) (by simp at l1;exact jbp.mpr (by lia))]⟩
   obtain rfl:U=z:=by
    have:=P.1.mem_iff (a:=U);rw[<- u] at this;exact jag.mp (this.mp (jay ..))
   refine jaa (jbi (Pq (s:={s with heap:=f,drawn:=d }) R q (by lia) O λbb c ys D G J I V=>?_));refine jaa ?_;unfold Builtin.Frozenset.unchanged setEpoch;refine jaa (jaa (jaR (s:={s with heap:=c,drawn:=d }) ((D.2 o (jax T)).trans p) t m (jad ?_)));rw[jae (by simp)];exact jad (jad (.inr ⟨M,c,ys,M,D,G,J,λx=>by rw[I x,jag],V⟩))
  .cases u
 .rintro b y hc;obtain⟨c,ys,rfl,D,G,J,I,V⟩:∃c ys,y={s with heap:=c,drawn:=d }/\Heap.SameBut s.heap.objs.size f c/\Z3 prog w c s.heap.objs.size ys/\ys.Nodup/\(∀x,x∈ys↔x∈j/\x∉g)/\ys.length<=8:=by
   rcases hc with⟨u,rfl⟩ | ⟨_,h⟩
   .obtain rfl:g=[]:=jcs (by rw[<- l1,<- u];rfl);exact⟨f,j,M,jbE _ _,B,q,λx=>by simp,O⟩
   .exact h
  refine jad ?_;unfold setTidy;obtain⟨o4,e4,ep4,t4,g1,g2,g3,g4,g5,g6,g8,g9⟩:=G.e;refine jaa (jaR (s:={s with heap:=c,drawn:=d }) g1 g3 g5 ?_);dsimp only;rw[jae (by rw[g6];decide)];refine jad (jad ?_);obtain⟨N,hY,S⟩:=G.a0L J (by lia);exact h c d N (λb ob e=>(D.2 b (jax (jal e))).trans (C b ob e)) hY (λx=>by rw[S.mem_iff,I x]) (by rw[S.length_eq];lia)
end PySem
namespace L3
open PySem L2 Hw
abbrev JE:=List D->av->KD->Prop
inductive liC (K:Frag) (r:JE) (vs:List V) (H:Hp) (Q:VK):Prop
 |mk (Y S ds k):R3 K Y S H->eY K Y (res Y H) ds vs->r ds S k->(∀v H',up K Y H k v H'->Q v H')->liC K r vs H Q
def Call3 (X:Cx)(f:Value)(r:JE):Prop:=eB X f (liC X.K r)
def gP (h:eB X f r)(m:∀vs H Q,a vs H Q->r vs H Q):eB X f a:=λc s U H d us Q I b q=>h c s U H d us Q I b (m _ _ _ q)
def eY.one (r:eY K Y G [d] vs):∃v,vs=[v]/\jI K Y G d v:=by
 cases r with
 |cons h t=>cases t;exact⟨_,M,h⟩
def eY.two (r:eY K Y G [d,e] vs):∃v w,vs=[v,w]/\jI K Y G d v/\jI K Y G e w:=by
 cases r with
 |cons h t=>
  cases t with
  |cons a b=>cases b;exact⟨_,_,M,h,a⟩
def SqR (S:av)(d:D)(f:List T->Prop):Prop:=Lp (sq S d) f
def a1W:JE:=λa S k=>(l1 a).elim False λd=>d.sD.elim (SqR S d λl=>k (.int l.length) S) λz=>z.length<=sizeLine/\k (.int z.length) S
def We:JE:=λa S k=>(l1 a).elim False λd=>SqR S d λl=>k (.tup l) S
def a1P:JE:=λa S k=>(l1 a).elim False λd=>SqR S d λl=>k (.lst l) S
def a1O:JE:=λa S k=>(l1 a).elim False λd=>SqR S d λl=>k (.ob S.length) (S++[.lst l])
noncomputable def vB:V->Option Bool
 |.bl b=>some b
 |_=>none
def a2b:JE:=λa S k=>(l1 a).elim False λd=>d.iD.elim (d.vD.elim False λv=>(vB v).elim False λb=>k (.int (if b then 1 else 0)) S) λi=>k (.int i) S
def a4A:JE:=λa S k=>(l1 a).elim False λd=>d.iD.elim False λi=>i.natAbs.log2<1920/\k (.str (toString i)) S
def a4y:JE:=λb S k=>(l1 b).elim False λd=>∃a:List Int,lq S d=some (a.map T.int)/\k (.int a.sum) S
def a2Z (f:List Bool->Bool):JE:=λa S k=>(l1 a).elim False λd=>∃bs:List Bool,lq S d=some (bs.map T.bl)/\k (.bl (f bs)) S
theorem bU.ints:∀{ns:List Int}{vs:List V},bU K G (ns.map T.int) vs->vs=ns.map V.int
 |[],vs,r=>by exact r
 |n::ns,vs,r=>by
  obtain⟨v,d,c,a,b⟩:=r;rw[c,a,bU.ints b];rfl
theorem bU.bls:∀{ns:List Bool}{vs:List V},bU K G (ns.map T.bl) vs->vs=ns.map V.bl
 |[],vs,r=>by exact r
 |n::ns,vs,r=>by
  obtain⟨v,d,c,a,b⟩:=r;rw[c,a,bU.bls b];rfl
theorem bU.strs:∀{ns:jcI}{vs:List V},bU K G (ns.map T.str) vs->vs=ns.map V.str
 |[],vs,r=>by exact r
 |n::ns,vs,r=>by
  obtain⟨v,d,c,a,b⟩:=r;rw[c,a,bU.strs b];rfl
theorem bU.ofStrs:∀(ns:jcI),bU K G (ns.map T.str) (ns.map V.str)
 |[]=>.nil
 |n::ns=>.cons (by rfl) (bU.ofStrs ns)
def JN (r:JE)(t:mH):cI:=λZ S k=>t Z S λb a=>r b a k
def Jt:∀U H Q,li X.K (JN r t) U H Q->tCB (liC X.K r) (liA X.K t) U H Q:=(by rintro U H Q ⟨Y,S,Z,k,R,D,q,hk⟩;exact  ⟨Y,S,Z,_,R,D,q,(by rintro v i ⟨e,g,d,f,c,h,a⟩;exact⟨e,g,d,k,c,h,a,λw b u=>hk w b (u.gr f)⟩)⟩)
theorem bZ {x:Str}{p:Pos}{pos:Pos}{e:Expr}{es:jcL}{t:mH}{id:String}{r:JE}(g:Call3 X (.builtin id) r)(d:Gl X x)(h:X.mg x=none)(f:bootBuiltins x=some (.builtin id))(j:QA X (e::es) t)(c:autoParam (notStar e=true) zi)(b:autoParam (es.all notStar=true) zi)(i:autoParam (x≠"__name__") zn)(a:autoParam ((x==("__debug__":Str))=false) zn) :
  QE X (.Call (.Name x p) (e::es) [] pos) (JN r t):=cy (tE g d h f j c b i a) Jt
theorem iL (g:Call3 X (.type ty) r)(d:Gl X x)(h:X.mg x=none)(f:bootBuiltins x=some (.type ty))(j:QA X (e::es) t)(c:autoParam (notStar e=true) zi)(b:autoParam (es.all notStar=true) zi)(i:autoParam (x≠"__name__") zn)(a:autoParam ((x==("__debug__":Str))=false) zn) :
  QE X (.Call (.Name x p) (e::es) [] pos) (JN r t):=cy (lu g d h f j c b i a) Jt
def a2P:Call3 X (.builtin "len") a1W:=by
 refine gP (C1.or C2) ?_;rintro h H Q ⟨Y,S,i,k,R,f,q,hk⟩
 replace q:=one q
 obtain⟨d,rfl,q⟩:=q;obtain⟨v,rfl,b⟩:=f.one;rcases E9 q with q | ⟨z,hd,q⟩
 .obtain⟨l,h1,h2⟩:=mj q;obtain⟨a,us,g,c,e⟩:=sV R b h1;refine .inr ⟨a,us,by rw[g],c,?_⟩;rw[<- e.len];exact fin R hk aZ h2
 .cases D.uS hd;rw[aV b];exact .inl ⟨_,M,q.1,fin R hk aZ q.2⟩
theorem Mh (R:R3 K Y S H):∀{d:D}{v:V}{l:List T},jI K Y (res Y H) d v->sq S d=some l->
  (∃a vs,v=.ref a/\kL K H a vs/\bU K (res Y H) l vs)\/(d=.tup l/\∃a vs,v=.ref a/\ki K H a vs)
 |.t (.tup m),v,l,r,e=>by
  cases e;obtain⟨a,vs,c,b,f⟩:=dz r;exact .inr ⟨M,a,vs,c,.of b⟩
 |.t (.DV m),v,l,r,e=>by
  cases e;have r:=r;obtain⟨a,vs,c,b,f⟩:=r;exact .inl ⟨a,vs,c,Gq j7 b,f⟩
 |.t (.lst m),v,l,r,e=>by
  obtain⟨a,vs,c,b,f⟩:=cR R r (show lq S (.t (.lst m))=some l from e);exact .inl ⟨a,vs,c,.of b,f⟩
 |.t (.v _),_,_,_,e=>nomatch e
 |.t (.ins _ _ _),_,_,_,e=>nomatch e
 |.ob n,v,l,r,e=>by
  obtain⟨a,vs,c,b,f⟩:=cR R r (show lq S (.ob n)=some l from e);exact .inl ⟨a,vs,c,.of b,f⟩
def TU:Call3 X (.type "tuple") We:=by
 refine gP z7 ?_;rintro j H Q ⟨Y,S,m,k,R,h,q,hk⟩
 replace q:=one q
 obtain⟨d,rfl,q⟩:=q;obtain⟨v,rfl,f⟩:=h.one;obtain⟨l,i,e⟩:=mj q;rcases Mh R f i with⟨a,us,b,c,g⟩ | ⟨hd,a,us,b,c⟩
 .exact⟨a,us,by rw[b],.inl ⟨c,Tr R hk g e⟩⟩
 .subst hd;refine⟨a,us,by rw[b],.inr ⟨c,?_⟩⟩;rw[<- b];exact fin R hk f e
def Zf:Call3 X (.type "list") a1P:=by
 refine gP sf ?_;rintro j H Q ⟨Y,S,m,k,R,e,q,hk⟩
 replace q:=one q
 obtain⟨d,rfl,q⟩:=q;obtain⟨v,rfl,i⟩:=e.one;obtain⟨l,g,f⟩:=mj q;obtain⟨a,us,h,b,c⟩:=sV R i g;exact⟨a,us,by rw[h],b,yL R hk c f⟩
def TV:Call3 X (.type "list") a1O:=by
 refine gP sf ?_;rintro j H Q ⟨Y,S,m,k,R,e,q,hk⟩
 replace q:=one q
 obtain⟨d,rfl,q⟩:=q;obtain⟨v,rfl,i⟩:=e.one;obtain⟨l,g,f⟩:=mj q;obtain⟨a,us,h,b,c⟩:=sV R i g;exact⟨a,us,by rw[h],b,Pb R hk c f⟩
def PU:Call3 X (.type "int") a2b:=by
 refine gP Lg ?_;rintro h H Q ⟨Y,S,j,k,R,f,q,hk⟩
 replace q:=one q
 obtain⟨d,rfl,q⟩:=q;obtain⟨v,rfl,c⟩:=f.one;rcases E9 q with q | ⟨i,e,q⟩
 .replace q:=G7 q
  obtain⟨v,g,q⟩:=q
  replace q:=G7 q
  obtain⟨b,a,q⟩:=q;have a:v=.bl b:=by cases v<;>cases a;rfl
  subst a;cases D.Mc g;rw[aV c];exact .inr ⟨_,M,fin R hk aZ q⟩
 .cases D.nL e;rw[aV c];exact .inl ⟨_,M,fin R hk aZ q⟩
def VN:Call3 X (.type "str") a4A:=by
 refine gP CZ ?_;rintro c H Q ⟨Y,S,f,k,R,a,q,hk⟩
 replace q:=one q
 obtain⟨d,rfl,q⟩:=q
 replace q:=G7 q
 obtain⟨i,e,q⟩:=q;cases D.nL e;obtain⟨v,rfl,b⟩:=a.one;rw[aV b];exact⟨_,M,q.1,fin R hk aZ q.2⟩
def a2O (l:X.calm=true):Call3 X (.builtin "sum") a4y:=by
 refine gP (PM l) ?_;rintro m H Q ⟨Y,S,n,k,R,e,q,hk⟩
 replace q:=one q
 obtain⟨d,rfl,q⟩:=q;obtain⟨v,rfl,i⟩:=e.one;obtain⟨j,g,f⟩:=q;obtain⟨a,us,h,b,c⟩:=cR R i g;rw[c.ints] at b;exact⟨a,j,by rw[h],.of b,fin R hk aZ f⟩
def a2Q {id:String}(h:eB X (.builtin id) (λxs H Q=>∃(p:Addr)(bs:List Bool),xs=[.ref p]/\kL X.K H p (bs.map V.bl)/\Q (.bl (f bs)) H)):Call3 X (.builtin id) (a2Z f):=by
 refine gP h ?_;rintro n H Q ⟨Y,S,o,k,R,e,q,hk⟩
 replace q:=one q
 obtain⟨d,rfl,q⟩:=q;obtain⟨v,rfl,l⟩:=e.one;obtain⟨m,i,g⟩:=q;obtain⟨a,us,j,b,c⟩:=cR R l i;rw[c.bls] at b;exact⟨a,m,by rw[j],.of b,fin R hk aZ g⟩
def a2R (a:X.calm=true):Call3 X (.builtin "any") (a2Z λbs=>bs.any _root_.id):=a2Q (PR a)
noncomputable def tyT:T->jcN
 |.v .cP=>some (.type "NoneType")
 |.v (.bl _)=>some (.type "bool")
 |.v (.int _)=>some (.type "int")
 |.v (.str _)=>some (.type "str")
 |.tup _=>some (.type "tuple")
 |.lst _=>some (.type "list")
 |.ins C _ _=>some (.ref C)
 |_=>none
noncomputable def tyD (S:av):D->jcN
 |.t x=>tyT x
 |.ob n=>match S[n]? with
  |some (.lst _)=>some (.type "list")
  |some (.ins C _ _)=>some (.ref C)
  |some (.wm _)=>some (.type "dict")
  |some (.Qw _ _ _)=>none
  |some (.gh _ _)=>none
  |none=>none
def Q2 (R:R3 K Y S H)(r:jI K Y (res Y H) d v)(e:tyD S d=some u):sA K H v u:=by
 cases d with
 |t x=>
  cases x with
  |v y=>
   rw[aV r];cases y with
   |cP=>cases e;exact .cP
   |bl b=>cases e;exact .bl b
   |int i=>cases e;exact .int i
   |str z=>cases e;exact .str z
   |_=>cases e
  |tup l=>obtain⟨a,h,j,c,m⟩:=dz r;cases e;rw[j];exact .tup c
  |lst l=>obtain⟨a,h,j,c,m⟩:=cR R r rfl;cases e;rw[j];exact .lst c
  |DV l=>cases e
  |ins C w l=>obtain⟨a,s,h,j,c,m,k,B⟩:=tR R r rfl;cases e;rw[j];exact .ins c k.cls k.ca k.cg k.ct k.cm
 |ob n=>
  have e:(match S[n]? with | some (.lst _)=>some (Value.type "list") | some (.ins C _ _)=>some (.ref C) | some (.wm _)=>some (.type "dict") | some (.Qw _ _ _)=>none | some (.gh _ _)=>none | none=>none)=some u:=e;obtain⟨a,A,rfl⟩:=r;cases q:S[n]? with
  |none=>rw[q] at e;cases e
  |some o=>
   rw[q] at e;have z:=R.ok n a o A q;cases o with
   |lst l=>obtain⟨h,f,p⟩:=z;cases e;exact .lst f
   |wm l=>obtain⟨h,f,p⟩:=z;cases e;exact .dK f
   |Qw _ _ l=>cases e
   |gh _ _=>cases e
   |ins C w l=>obtain⟨s,h,f,p,g,E⟩:=z;cases e;exact .ins f g.cls g.ca g.cg g.ct g.cm
def a5k (K:Frag)(c:V)(u:Value):JE:=λa S k=>(l2 a).elim False λp=>p.2.vD.elim False λd=>d=c/\∃t b,tyD S p.1=some t/\kitOne K t u=some b/\k (.bl b) S
def jy (o:match c with | .ref _=>True | .ty _=>True | _=>False)(g:RelV c u)(p:autoParam (X.K=f) zi):Call3 X (.builtin "isinstance") (a5k f c u):=by
 subst p;refine gP (PN o) ?_;rintro s H Q ⟨Y,S,x,k,R,h,q,hk⟩
 replace q:=a0f q
 obtain⟨d,e,rfl,q⟩:=q
 replace q:=G7 q
 obtain⟨r,m,q⟩:=q;cases D.Mc m;obtain⟨v,w,rfl,n,a⟩:=h.two;obtain⟨rfl,t,b,j,i,l⟩:=q;rw[aV a];exact⟨v,t,u,b,M,Q2 R n j,g,i,fin R hk aZ l⟩
inductive a17 (K:Frag) (ds:List D) (S:av) (k:KD):Prop
 |mk (d:D) (c1 c2 C:Addr) (ns:List Str) (l:List D) (b:Bool) (h:ds=[d,.t (.tup [.v (.ref c1),.v (.ref c2)])]) (h1:iq S d=some (C,ns,l)) (h2:kitAny K (.ref C) [.ref c1,.ref c2]=some b) (h3:k (.bl b) S)
def Zg (t:autoParam (X.K=h) zi):Call3 X (.builtin "isinstance") (a17 h):=by
 subst t;refine gP Lf ?_;rintro P H Q ⟨Y,S,G,k,R,o,q,hk⟩;obtain⟨d,O,E,C,I,l,b,rfl,s,r,u⟩:=q;obtain⟨v,w,rfl,B,f⟩:=o.two;obtain⟨a,j,us,x,z,M,e,J⟩:=tR R B s;obtain⟨m,N,n,D,c⟩:=dz f;unfold bU at c;obtain⟨T,L,A,g,c⟩:=c;unfold bU at c;obtain⟨F,p,y,i,c⟩:=c;unfold bU at c;unfold Rp at g i;subst c y A g i;exact⟨a,C,j,m,_,_,_,b,by rw[x,n],z,e.cls,e.ca,e.cg,e.ct,e.cm,.of D,r,fin R hk aZ u⟩
abbrev VS:=D->List D->av->KD->Prop
inductive Vf (K:Frag) (r:VS) (v:V) (vs:List V) (H:Hp) (Q:VK):Prop
 |mk (Y S d ds k):R3 K Y S H->jI K Y (res Y H) d v->eY K Y (res Y H) ds vs->r d ds S k->(∀v H',up K Y H k v H'->Q v H')->Vf K r v vs H Q
noncomputable def xq (S:av):D->Option (List T)
 |.t (.tup l)=>some l
 |d=>lq S d
def a2Y:VS:=λo a S k=>o.oD.elim False λn=>(l1 a).elim False λd=>d.xD.elim False λx=>∃l,S[n]?=some (.lst l)/\l.length<sizeLine/\k .cP (S.set n (.lst (l++[x])))
def ext3:VS:=λo a S k=>o.oD.elim False λn=>(l1 a).elim False λd=>∃l m,S[n]?=some (.lst l)/\xq S d=some m/\l.length+m.length<=sizeLine/\k .cP (S.set n (.lst (l++m)))
def a2c:VS:=λo a S k=>o.oD.elim False λn=>(l2 a).elim False λp=>p.1.iD.elim False λi=>p.2.xD.elim False λx=>∃(l:List T)(j:Nat),S[n]?=some (.lst l)/\i=j/\j<=l.length/\l.length<sizeLine/\k .cP (S.set n (.lst (l.take j++[x]++l.drop j)))
def a0F:VS:=λo c S k=>o.sD.elim False λa=>(l1 c).elim False λd=>d.sD.elim False λb=>k (.bl (Txt.startswith a b)) S
def Vh:VS:=λo c S k=>o.sD.elim False λa=>(l1 c).elim False λd=>∃b:jcI,lq S d=some (b.map T.str)/\(b.map (·.length)).sum+b.length*a.length<=16777216/\k (.str (Txt.join a b)) S
def EL {id:String}(h:FH X id r)(m:∀v vs H Q,a v vs H Q->r v vs H Q):FH X id a:=λc s U H x e u us Q I b d q=>h c s U H x e u us Q I b d (m _ _ _ _ q)
def tyM (S:av)(ty:String):D->Prop
 |.t (.v (.str _))=>ty="str"
 |d=>ty="list"/\∃l,lq S d=some l
def Gk (ty:String)(r:VS)(c:cI)(t:mH):cI:=λZ S k=>c Z S λd a=>tyM a ty d/\t Z a λe b=>r d e b k
def Q0 (R:R3 K Y S H)(r:jI K Y (res Y H) d v)(e:tyM S ty d):tyV K ty v H:=by
 unfold tyM at e;split at e
 .rw[aV r];exact e
 .obtain⟨e1,l,e2⟩:=e;obtain⟨a,f,c,b,g⟩:=cR R r e2;rw[c];exact .inl ⟨e1,f,.of b⟩
def SJ:∀U H Q,li X.K (Gk ty r to t) U H Q->tBM X.K ty (Vf X.K r) (li X.K to) (liA X.K t) U H Q:=(by rintro U H Q ⟨Y,S,Z,k,R,D,q,hk⟩;exact  ⟨Y,S,Z,_,R,D,q,(by rintro v y ⟨h,j,d,e,a,c,i,n⟩;exact⟨Q0 a c i,h,j,Z,_,a,D.gr e,n,(by rintro x s ⟨l,f,m,b,R2,o,p⟩;exact   ⟨l,f,d,m,k,R2,c.gr b,o,p,λw g u=>hk w g (u.gr (e.trans b))⟩)⟩)⟩)
theorem Nl {B1:Pos}{cpos:Pos}{e:Expr}{o:Expr}{es:jcL}{t:mH}{to:cI}{id:String}{ty:String}{r:VS}(i:PlainAttrs ty)(b:Slot ty a id)(c:typeOf (.builtin id)=pure (.type "method_descriptor"))(k:FH X id (Vf X.K r))(h:QE X o to)(l:QA X (e::es) t)
  (f:autoParam (notStar e=true) zi) (d:autoParam (es.all notStar=true) zi) (g:autoParam (es.length<20) zn) (j:autoParam (attributeBase o a X.env (eval o X.env)=eval o X.env) zi) (m:autoParam ((B1.endLine==cpos.line)=true) zi) :
  QE X (.Call (.Attribute o a B1) (e::es) [] cpos) (Gk ty r to t):=cy (Xm i b c k h l f d g j m) SJ
def a1L:FH X "list.append" (Vf X.K a2Y):=by
 refine EL Kv ?_;rintro v s H Q ⟨Y,S,d,t,k,R,g,r,q,hk⟩
 replace q:=G7 q
 obtain⟨n,h,q⟩:=q;cases D.Ob h
 replace q:=one q
 obtain⟨d,rfl,q⟩:=q
 replace q:=G7 q
 obtain⟨x,f,q⟩:=q;cases D.Ur f;obtain⟨l,j,i,m⟩:=q;obtain⟨a,e,rfl⟩:=g;obtain⟨w,rfl,b⟩:=r.one;obtain⟨us,p,c⟩:=R.ok _ a _ e j;exact⟨a,us,w,M,M,p,by rw[<- c.len];exact i,Pa R hk e (o:=.lst (l++[_])) ⟨_,M,c.app (.cons b .nil)⟩ aZ m⟩
def a1K:FH X "list.extend" (Vf X.K ext3):=by
 refine EL (FH.or Ku GP) λv G H Q ⟨Y,S,d,F,k,R,z,E,q,hk⟩=>?_
 replace q:=G7 q
 obtain⟨n,A,q⟩:=q;cases D.Ob A
 replace q:=one q
 obtain⟨C,rfl,q⟩:=q;obtain⟨l,m,B,c,s,x⟩:=q;obtain⟨a,r,rfl⟩:=z;obtain⟨w,rfl,g⟩:=E.one;obtain⟨us,u,h⟩:=R.ok _ a _ r B;cases C with
 |ob f=>
  obtain⟨b,j,i,p,e⟩:=cR R g (show lq S (.ob f)=some m from c);exact .inl ⟨a,b,us,j,M,by rw[i],u,p,by rw[<- h.len,<- e.len];exact s,Pa R hk r (o:=.lst (l++m)) ⟨_,M,h.app e⟩ aZ x⟩
 |t y=>
  cases y with
  |lst f=>
   obtain⟨b,j,i,p,e⟩:=cR R g (show lq S (.t (.lst f))=some m from c);exact .inl ⟨a,b,us,j,M,by rw[i],u,p,by rw[<- h.len,<- e.len];exact s,Pa R hk r (o:=.lst (l++m)) ⟨_,M,h.app e⟩ aZ x⟩
  |tup f=>
   have c:some f=some m:=c;injection c with c
   subst c;obtain⟨b,j,i,p,e⟩:=dz g;exact .inr ⟨a,b,us,j,M,by rw[i],u,.of p,by rw[<- h.len,<- e.len];exact s,Pa R hk r (o:=.lst (l++f)) ⟨_,M,h.app e⟩ aZ x⟩
  |DV f=>cases c
  |v _=>cases c
  |ins _ _ _=>cases c
def a1J:FH X "list.insert" (Vf X.K a2c):=by
 refine EL Ks ?_;rintro v F H Q ⟨Y,S,d,C,k,R,g,B,q,hk⟩
 replace q:=G7 q
 obtain⟨n,h,q⟩:=q;cases D.Ob h
 replace q:=a0f q
 obtain⟨d1,E,rfl,q⟩:=q
 replace q:=G7 q
 obtain⟨i,z,q⟩:=q;cases D.nL z
 replace q:=G7 q
 obtain⟨x,u,q⟩:=q;cases D.Ur u;obtain⟨l,j,p,m,r,y,f⟩:=q;obtain⟨a,e,rfl⟩:=g;obtain⟨w,s,rfl,c,A⟩:=B.two;obtain⟨us,t,b⟩:=R.ok _ a _ e p;rw[aV c];exact⟨a,us,_,j,s,M,M,m,t,by rw[<- b.len];exact r,by rw[<- b.len];exact y,Pa R hk e (o:=.lst (l.take j++[_]++l.drop j)) ⟨_,M,((b.tk j).app (.cons A .nil)).app (b.dp j)⟩ aZ f⟩
def a1I:FH X "str.startswith" (Vf X.K a0F):=by
 refine EL Kq ?_;rintro v i H Q ⟨Y,S,d,j,k,R,f,h,q,hk⟩
 replace q:=G7 q
 obtain⟨a,g,q⟩:=q;cases D.uS g
 replace q:=one q
 obtain⟨d,rfl,q⟩:=q
 replace q:=G7 q
 obtain⟨b,e,q⟩:=q;cases D.uS e;obtain⟨w,rfl,c⟩:=h.one;rw[aV f,aV c];exact⟨_,_,M,M,fin R hk aZ q⟩
def X8:FH X "str.join" (Vf X.K Vh):=by
 refine EL SK ?_;rintro v p H Q ⟨Y,S,d,r,k,R,f,o,q,hk⟩
 replace q:=G7 q
 obtain⟨m,h,q⟩:=q;cases D.uS h
 replace q:=one q
 obtain⟨d,rfl,q⟩:=q;obtain⟨g,j,i,l⟩:=q;obtain⟨w,rfl,b⟩:=o.one;obtain⟨a,us,n,c,e⟩:=cR R b j;rw[aV f];rw[e.strs] at c;exact⟨_,a,g,M,by rw[n],c,i,fin R hk aZ l⟩
theorem nD (c:QE X o to)(d:QA X [e] t)(a:autoParam (notStar e=true) zi)(b:autoParam (attributeBase o "append" X.env (eval o X.env)=eval o X.env) zi)(f:autoParam ((B1.endLine==cpos.line)=true) zi) :
  QE X (.Call (.Attribute o "append" B1) [e] [] cpos) (Gk "list" a2Y to t):=Nl PySem.F.plainAttrs_list PySem.F.slot_list_append PySem.F.type_list_append a1L c d a rfl (by decide) b f
theorem uU (c:QE X o to)(d:QA X [e] t)(a:autoParam (notStar e=true) zi)(b:autoParam (attributeBase o "extend" X.env (eval o X.env)=eval o X.env) zi)(f:autoParam ((B1.endLine==cpos.line)=true) zi) :
  QE X (.Call (.Attribute o "extend" B1) [e] [] cpos) (Gk "list" ext3 to t):=Nl PySem.F.plainAttrs_list PySem.F.slot_list_extend PySem.F.type_list_extend a1K c d a rfl (by decide) b f
theorem a04 (f:QE X o to)(g:QA X [e,a] t)(c:autoParam (notStar e=true) zi)(b:autoParam ([a].all notStar=true) zi)(d:autoParam (attributeBase o "insert" X.env (eval o X.env)=eval o X.env) zi)(h:autoParam ((B1.endLine==cpos.line)=true) zi) :
  QE X (.Call (.Attribute o "insert" B1) [e,a] [] cpos) (Gk "list" a2c to t):=Nl PySem.F.plainAttrs_list PySem.F.slot_list_insert PySem.F.type_list_insert a1J f g c b (by show 1<20;decide) d h
theorem a01 (c:QE X o to)(d:QA X [e] t)(a:autoParam (notStar e=true) zi)(b:autoParam (attributeBase o "startswith" X.env (eval o X.env)=eval o X.env) zi)(f:autoParam ((B1.endLine==cpos.line)=true) zi) :
  QE X (.Call (.Attribute o "startswith" B1) [e] [] cpos) (Gk "str" a0F to t):=Nl PySem.F.plainAttrs_str PySem.F.slot_str_startswith PySem.F.type_str_startswith a1I c d a rfl (by decide) b f
theorem WV (c:QE X o to)(d:QA X [e] t)(a:autoParam (notStar e=true) zi)(b:autoParam (attributeBase o "join" X.env (eval o X.env)=eval o X.env) zi)(f:autoParam ((B1.endLine==cpos.line)=true) zi) :
  QE X (.Call (.Attribute o "join" B1) [e] [] cpos) (Gk "str" Vh to t):=Nl PySem.F.plainAttrs_str PySem.F.slot_str_join PySem.F.type_str_join X8 c d a rfl (by decide) b f
def IxL (a:D)(i:Int)(S:av)(k:KD):Prop:=Lp (sq S a) λl=>Lp (L2.p6 l i) λx=>k (.t x) S
def IxL.of (h:IxL a i S k):∃l x,sq S a=some l/\L2.p6 l i=some x/\k (.t x) S:=by
 obtain⟨l,e,h⟩:=mj h;obtain⟨x,b,h⟩:=mj h;exact⟨l,x,e,b,h⟩
def ZN:zD:=λa b S k=>b.iD.elim False λi=>a.sD.elim (IxL a i S k) λz=>z.length<=sizeLine/\∃c,p6 z.cps.toList i=some c/\k (.str ⟨#[c]⟩) S
theorem bU.p6 (r:bU K G l vs)(h:L2.p6 l i=some x):∃v,L2.p6 vs i=some v/\Rp K G x v:=by
 unfold L2.p6 at h ⊢;rw[<- r.len];cases q:Tf l.length i with
 |none=>rw[q] at h;cases h
 |some j=>rw[q] at h;exact r.get h
def a15:QC X (liR X.K ZN):=by
 intro f e C s U H x y v u Q I M G ⟨Y,S,a,b,k,R,r,n,q,hk⟩ E;refine Yv f e C s U H x y v u Q I M G ?_ E;rcases E9 q with q | ⟨i,N,O⟩
 .exact q.elim
 cases D.nL N;rcases E9 O with J | ⟨z,F,m,c,j,h⟩
 .obtain⟨l,x',m,j,h⟩:=J.of;obtain⟨p,us,A,g,L⟩:=sV R r m;obtain⟨w,o,B⟩:=L.p6 j;rcases g with g | g
  .exact .inl ⟨p,us,_,w,A,aV n,g,o,fin R hk (d:=.t x') B h⟩
  .exact .inr (.inl ⟨p,us,_,w,A,aV n,g,o,fin R hk (d:=.t x') B h⟩)
 cases D.uS F;exact .inr (.inr ⟨_,_,c,aV r,aV n,m,j,fin R hk aZ h⟩)
def s8 (c:QE X a ta)(d:QE X b tb)(hs:JG b:=by intro _ _;rfl):QE X (.Subscript a b pos) (vj ZN ta tb):=cy (a1f a15 c d hs) v5
noncomputable def oU (l:List T)(a b:Option Int):List T:=(l.drop (HT.fQ l.length 0 a)).take (HT.fQ l.length l.length b - HT.fQ l.length 0 a)
def bU.cut (r:bU K G l vs)(a b:Option Int):bU K G (oU l a b) (Lb vs a b):=by
 unfold oU Lb;rw[<- r.len];exact(r.dp _).tk _
abbrev Z0:=Sl->av->(Option Int->av->Prop)->Prop
abbrev liO (K:Frag)(t:Z0):TO:=KA K t
def QO (X:Cx)(e:Option Expr)(t:Z0):Prop:=PO X e (liO X.K t)
def a4p:Z0:=λ_ S k=>k none S
def PtR (d:D)(f:Int->Prop):Prop:=Lp d.iD f
def tPt (t:cI):Z0:=λZ S k=>t Z S λd a=>PtR d λi=>k (some i) a
def U3 (h:PO X o t)(m:∀U H Q,t' U H Q->t U H Q):PO X o t':=λa s U H Q I q=>h a s U H Q I (m _ _ _ q)
def lg:QO X none a4p:=U3 Sa (by rintro U H Q ⟨Y,S,Z,k,R,D,q,hk⟩;exact hk _ _ ⟨Y,S,.refl,R,q⟩)
theorem bT (h:QE X e te):QO X (some e) (tPt te):=U3 (R9 h) (by rintro U H Q ⟨Y,S,Z,k,R,D,q,hk⟩;exact⟨Y,S,Z,_,R,D,q,(by
 rintro v l ⟨c,g,d,f,b,j,a⟩;obtain⟨i,e,a⟩:=mj a;cases L3.D.nL e;exact⟨i,aV j,hk _ _ ⟨c,g,f,b,a⟩⟩)⟩)
noncomputable def sl3 (c:Bool):D->Option Int->Option Int->av->KD->Prop:=λd a b S k=>d.sD.elim (d.tD.elim (∃l,lq S d=some l/\(if c then k (.ob S.length) (S++[.lst (oU l a b)]) else k (.lst (oU l a b)) S)) λl=>¬(HT.fQ l.length 0 a=0/\HT.fQ l.length l.length b=l.length)/\k (.tup (oU l a b)) S) λz=>z.length<=sizeLine/\k (.str (Txt.slice z a b)) S
inductive a1R (K:Frag) (r:D->Option Int->Option Int->av->KD->Prop) (v:V) (lo hi:Option Int) (H:Hp) (Q:VK):Prop
 |mk (Y S d k):R3 K Y S H->jI K Y (res Y H) d v->r d lo hi S k->(∀v H',up K Y H k v H'->Q v H')->a1R K r v lo hi H Q
def a0H (m:Bool):Uh X (a1R X.K (sl3 m)):=by
 intro n s U H x v u p c f t Q I w o y r ⟨Y,S,d,k,R,g,q,hk⟩;refine(WC.or (WB.or Ro)) n s U H x v u p c f t Q I w o y r ?_;rcases E9 q with q | ⟨z,e,q⟩
 .rcases E9 q with⟨l,h1,h2⟩ | ⟨l,e,q⟩
  .obtain⟨a,j,h,i,b⟩:=cR R g h1;refine .inr (.inr ⟨a,j,h,.of i,?_⟩);cases m with
   |true=>exact Pb R hk (b.cut c f) h2
   |false=>exact yL R hk (b.cut c f) h2
  .cases D.Mp e;obtain⟨a,j,h,i,b⟩:=dz g;exact .inr (.inl ⟨a,j,h,.of i,by rw[<- b.len];exact q.1,Tr R hk (b.cut c f) q.2⟩)
 .cases D.uS e;exact .inl ⟨_,aV g,q.1,fin R hk aZ q.2⟩
def a4j (e:Bool)(te:cI)(f c:Z0):cI:=λZ S k=>te Z S λx d=>f Z d λl a=>c Z a λu b=>sl3 e x l u b k
theorem qh (i:Bool)(B:QE X e te)(C:QO X f g)(r:QO X h j):QE X (.Subscript e (.Slice f h none p2) pos) (a4j i te g j):=
 cy (NN (a0H i) B C r) (by rintro U H Q ⟨Y,S,Z,k,R,D,q,hk⟩;exact⟨Y,S,Z,_,R,D,q,(by rintro v K ⟨p,s,d,b,n,x,A⟩;exact⟨p,s,Z,_,n,D.gr b,A,(by rintro o J ⟨t,l,a,R2,F⟩;exact   ⟨t,l,Z,_,R2,D.gr (b.trans a),F,(by rintro G I ⟨ρ3,m,c,E,z⟩;exact⟨ρ3,m,d,k,E,x.gr (a.trans c),z,λw y u=>hk w y (u.gr ((b.trans a).trans c))⟩)⟩)⟩)⟩)
abbrev vM:=D->Sl->av->KS->Prop
abbrev Ac:=List T->Sl->av->KS->Prop
inductive liG (K:Frag) (g:vM) (v:V) (U:St) (H:Hp) (Q:St->Hp->Prop):Prop
 |mk (Y S Z d k):R3 K Y S H->ua K Y (res Y H) Z U->jI K Y (res Y H) d v->g d Z S k->(∀U' H',Ln K Y H k U' H'->Q U' H')->liG K g v U H Q
inductive a1T (K:Frag) (g:Ac) (vs:List V) (U:St) (H:Hp) (Q:St->Hp->Prop):Prop
 |mk (Y S Z l k):R3 K Y S H->ua K Y (res Y H) Z U->bU K (res Y H) l vs->g l Z S k->(∀U' H',Ln K Y H k U' H'->Q U' H')->a1T K g vs U H Q
def QG (X:Cx)(a:Expr)(g:vM):Prop:=PG X a (liG X.K g)
def QGs (X:Cx)(a:jcL)(g:Ac):Prop:=VT X a (a1T X.K g)
def A6 (i:Nat):vM:=λd Z S k=>k (Z.set i (some d)) S
def Vq:Ac:=λl Z S k=>l=[]/\k Z S
def O2 (g:vM)(b:Ac):Ac:=λl Z S k=>∃x r,l=x::r/\g (.t x) Z S λδ1 a=>b r δ1 a k
def Vp (n:Nat)(a:Ac):vM:=λd Z S k=>∃l,d=.tup l/\l.length=n/\a l Z S k
def II (h:PG X tg t)(m:∀v U H Q,t' v U H Q->t v U H Q):PG X tg t':=λa s U H v u Q I r q=>h a s U H v u Q I r (m _ _ _ _ q)
def BP (h:VT X es t)(m:∀v U H Q,t' v U H Q->t v U H Q):VT X es t':=λa s U H v u Q I r q=>h a s U H v u Q I r (m _ _ _ _ q)
theorem qg (b:X.N.Nodup)(e:autoParam (X.N[i]?=some x) zi)(g:autoParam (Loc X.env.scope x) ke)(c:autoParam (X.fn x=true\/X.env.scope.names.lookup x=some .local) zt):QG X (.Name x pos) (A6 i):=
 II (IG b e g c) (by rintro v U H Q ⟨Y,S,Z,d,k,R,a,f,q,hk⟩;exact hk _ _ ⟨Y,S,Z.set i (some d),.refl,R,a.set f i,q⟩)
theorem fF:QGs X [] Vq:=BP IF (by
 rintro v U H Q ⟨Y,S,Z,l,k,R,a,b,⟨e,q⟩,hk⟩;subst e;exact⟨b,hk _ _ ⟨Y,S,Z,.refl,R,a,q⟩⟩)
theorem sP (h:QG X e g)(f:QGs X es gs)(hs:autoParam ((assignEach (e::es) X.env).map (·.2)=assign e X.env::(assignEach es X.env).map (·.2)) zi):QGs X (e::es) (O2 g gs):=
 BP (Eg h f hs) (by
  rintro v U H Q ⟨Y,S,Z,l,k,R,o,i,⟨x,r,e,q⟩,hk⟩;subst e;obtain⟨w,p,m,s,y⟩:=i;refine⟨w,p,m,Y,S,Z,.t x,_,R,o,s,q,(by rintro σ1 B ⟨d,j,δ1,b,c,a,z⟩;exact⟨d,j,δ1,r,k,c,a,y.le b.le,z,λn A u=>hk n A (u.gr b)⟩)⟩)
theorem ia (r:X.calm=true)(h:QGs X es gs)(i:autoParam ((assignEach es X.env).length=n) zi)(b:autoParam ((assignEach es X.env).findIdx? (·.1)=none) zi):QG X (.Tuple es k0 pos) (Vp n gs):=
 II (NJ r h i b) (by
  rintro v U H Q ⟨Y,S,Z,d,k,R,f,j,⟨l,e,m,q⟩,hk⟩;subst e;obtain⟨a,o,p,g,c⟩:=dz j;exact⟨a,o,p,.of g,by rw[<- c.len];exact m,Y,S,Z,l,k,R,f,c,q,hk⟩)
def Gj:mL:=λE Z S=>E.nx Z S
def wI (t u:mL):mL:=λE Z S=>t {E with nx:=λδ1 a=>u E δ1 a } Z S
def wJ (te:cI)(g:vM):mL:=λE Z S=>te Z S λd a=>g d Z a E.nx
def Wl (te:cI):mL:=λE Z S=>te Z S λ_ a=>E.nx Z a
def Uw (te:cI):mL:=λE Z S=>te Z S E.rt
def DE (c:vg)(t u:mL):mL:=λE Z S=>c Z S λb a=>if b=true then t E Z a else u E Z a
def a0q:mL:=λ_ _ _=>False
def az:JF X [] Gj:=Gz RW (by rintro D U H ⟨Y,S,Z,E,R,a,q,b⟩;exact b.nx _ _ ⟨Y,S,Z,.refl,R,a,q⟩)
def qs (h:QS X st t)(g:JF X rest u):JF X (st::rest) (wI t u):=Gz (Nv h g) (by rintro D U H ⟨Y,S,Z,E,R,c,q,a⟩;exact  ⟨Y,S,Z,_,R,c,q,⟨(by rintro σ1 k ⟨f,j,δ1,i,e,b,d⟩;exact⟨f,j,δ1,E,e,b,d,a.gr i⟩),a.rt,a.bk,a.ct⟩⟩)
def aG (a:QS X st t):JF X [st] t:=BL a
def BJ:JF X a a0q:=Gz J2 (by rintro D U H ⟨Y,S,Z,E,R,b,q,c⟩;exact q)
def fO (i:QE X e te)(hs:autoParam (swapsWith e none pos.line X.env=pure false) zi):QS X (.Expr e pos) (Wl te):=kC (BO i hs) (by rintro D U H ⟨Y,S,Z,E,R,a,q,h⟩;exact  ⟨Y,S,Z,_,R,a,q,(by rintro v k ⟨g,j,d,b,f,l,c⟩;exact h.nx _ _ ⟨g,j,Z,b,f,a.gr b,c⟩)⟩)
def ai (c:QE X e te):QS X (.Return (some e) pos) (Uw te):=kC (W7 c) (by rintro D U H ⟨Y,S,Z,E,R,a,q,b⟩;exact⟨Y,S,Z,_,R,a,q,b.rt⟩)
theorem aJ (l:QT X c tc)(m:JF X a t)(k:JF X b u):QS X (.If c a b pos) (DE tc t u):=kC (a1c l m k) (by rintro D U H ⟨Y,S,Z,E,R,e,q,i⟩;exact  ⟨Y,S,Z,_,R,e,q,(by
  rintro v n ⟨h,j,d,g,f⟩;cases v with
  |true=>exact⟨h,j,Z,E,g,e.gr d,f,i.gr d⟩
  |false=>exact⟨h,j,Z,E,g,e.gr d,f,i.gr d⟩)⟩)
theorem ak (p:X.N.Nodup)(m:QE X e te)(g:autoParam (X.N[i]?=some x) zi)(r:autoParam (Loc X.env.scope x) ke)(hs:autoParam (swapsWith e (some (.Name x a)) pos.line X.env=pure false) zi)(f:autoParam (X.fn x=true\/X.env.scope.names.lookup x=some .local) zt) :
  QS X (.Assign [.Name x a] e pos) (wJ te (A6 i)):=kC (W6 p g r m hs f) (by rintro D U H ⟨Y,S,Z,E,R,b,q,l⟩;exact  ⟨Y,S,Z,_,R,b,q,(by rintro v s ⟨k,n,d,c,j,o,h⟩;exact l.nx _ _ ⟨k,n,Z.set i (some d),c,j,(b.gr c).set o i,h⟩)⟩)
theorem Gy (l:QE X e te)(c:QG X tg g)(hs:autoParam (swapsWithSole [tg] e pos.line X.env=pure false) zi)(m:autoParam (swappedStores [tg] e X.env=pure none) zi)(j:autoParam ((assignEach [tg] X.env).map (·.2)=[assign tg X.env]) zi) :
  QS X (.Assign [tg] e pos) (wJ te g):=kC (Xb l c hs m j) (by rintro D U H ⟨Y,S,Z,E,R,a,q,k⟩;exact  ⟨Y,S,Z,_,R,a,q,(by rintro v r ⟨i,n,d,b,h,o,f⟩;exact⟨i,n,Z,d,E.nx,h,a.gr b,o,f,λs p u=>k.nx _ _ (u.gr b)⟩)⟩)
def a0B (m h te:cI)(f:Int->Int->Int):mL:=λE Z S=>m Z S λo k=>h Z k λi e=>∃(n j:Nat)(l:List T)(a:Int),o=.ob n/\i=.int (j:Nat)/\e[n]?=some (.lst l)/\l[j]?=some (.int a)/\
 te Z e λd g=>∃b c,d=.int b/\g[n]?=some (.lst c)/\j<c.length/\E.nx Z (g.set n (.lst (c.set j (.int (f a b)))))
theorem RI {X:Cx}{pos:Pos}{e:Expr}{te:cI}{o i:Expr}{x t:cI}{op:Operator}{f:Int->Int->Int}{c:Pos}(ho:QE X o x)(hi:QE X i t)(he:QE X e te)(h:PIp X op (ipI f))
  (W:autoParam (∀ov iv new,augStore i ov iv new=(do holding [new,ov,iv] (setItem ov iv new);release [new,ov,iv] [];pure .next)) zr):QS X (.AugAssign (.Subscript o i c) op e pos) (a0B x t te f):=
 kC (R7 ho hi O1 he h set_list W) (by rintro D U H ⟨Y,S,Z,E,R,k,q,eu⟩;exact⟨Y,S,Z,_,R,k,q,(by rintro v1 H1 ⟨L,P,d1,m,I,T,q1⟩;exact⟨L,P,Z,_,I,k.gr m,q1,(by
  rintro v2 H2 ⟨Y2,S2,d2,g,R2,z,n,j,l,a,h1,N,O,h4,q2⟩;subst h1 N;obtain⟨p,h,v⟩:=T.gr g;obtain⟨vs,e2,e3⟩:=R2.ok n p _ h O;obtain⟨w,Q,e5⟩:=e3.get h4;refine⟨p,vs,j,w,v,aV z,.of e2,Q,Y2,S2,Z,_,R2,k.gr (m.trans g),q2,?_⟩;rintro v3 J ⟨ρ3,S3,d3,r,A,r3,b,s,G,C,h7,q3⟩;subst G;have ew:w=V.int a:=by exact e5
  refine⟨a,b,ew,aV r3,?_⟩;have d:=r.at h;obtain⟨us,F,B⟩:=A.ok n p _ d C;refine⟨p,us,j,j,v,aV z,F,?_,?_⟩
  .unfold Tf;rw[jaf (by lia),jaf (by rw[<- B.len];lia)];simp
  .have key:bU X.K (res ρ3 J) (s.set j (.int (f a b))) (us.set j (.int (f a b))):=bU.put (by rfl) B;obtain⟨R4,y⟩:=A.put (u:=.lst (s.set j (.int (f a b)))) d ⟨_,M,key⟩;exact eu.nx _ _ ⟨ρ3,_,Z,((m.trans g).trans r).trans y,R4,(k.gr ((m.trans g).trans r)).gr y,q3⟩)⟩)⟩)
abbrev QB:=Sl->av->(List D->(av->Prop)->av->Prop)->Prop
structure Z2 (K:Frag)(J:It)(AC:List D)(G:av->Prop)(ρ0:List Addr)(H0:Hp):Prop where
 go:∀i Y S H,Gr ρ0 H0 Y H->R3 K Y S H->G S->i<AC.length->J.go i H
 Lx:∀i x Y S H H' d,Gr ρ0 H0 Y H->R3 K Y S H->G S->AC[i]?=some d->J.Lx i H x H'->∃Y',Gr Y H Y' H'/\R3 K Y' S H'/\jI K Y' (res Y' H') d x
 stop:∀i Y S H,Gr ρ0 H0 Y H->R3 K Y S H->G S->AC.length<=i->i<=AC.length->J.stop i H
inductive upI (K:Frag) (Y:List Addr) (H:Hp) (k:List D->(av->Prop)->av->Prop) (J:It) (H':Hp):Prop
 |mk (Y' S' AC G):Gr Y H Y' H'->R3 K Y' S' H'->Z2 K J AC G Y' H'->k AC G S'->upI K Y H k J H'
inductive liI (K:Frag) (w:QB) (U:St) (H:Hp) (R:It->Hp->Prop):Prop
 |mk (Y S Z k):R3 K Y S H->ua K Y (res Y H) Z U->w Z S k->(∀J H',upI K Y H k J H'->R J H')->liI K w U H R
def QI (X:Cx)(b a:Expr)(w:QB):Prop:=PI X b a (liI X.K w)
def EX (d:D)(a:av)(k:List D->(av->Prop)->av->Prop):Prop:=(∃l,(d=.tup l\/d=.lst l)/\k (l.map .t) (λ_=>True) a)\/(∃n l,d=.ob n/\a[n]?=some (.lst l)/\k (l.map .t) (λS=>S[n]?=some (.lst l)) a)
def iSq (te:cI):QB:=λZ S k=>te Z S λd a=>EX d a k
def a5s (t:mH):QB:=λZ S k=>t Z S λb a=>∃j:Int,b=[.int j]/\-(2 ^ 62)<=j/\j<2 ^ 62/\k ((List.range j.toNat).map λ(i:Nat)=>D.int i) (λ_=>True) a
def U5 (h:PI X tg iter t)(m:∀U H R,t' U H R->t U H R):PI X tg iter t':=λa s U H R I q=>h a s U H R I (m _ _ _ q)
theorem OL (h:res Y H a=some (.lst vs))(r:bU K (res Y H) l vs):Z2 K (Itl K a) (l.map .t) (λ_=>True) Y H where
 go:=λi Y1 S1 H1 g R _ hi=>by
  have e:=(res_some (g.le _ _ h)).2;have hl:i<vs.length:=by rw[<- r.len];simpa using hi
  exact⟨vs,vs[i],.of e,jaT hl⟩
 Lx:=λi x Y1 S1 H1 H' d g R _ hd y=>by
  obtain⟨rfl,y⟩:=y;have e:=(res_some (g.le _ _ h)).2;rw[jaV] at hd;cases q:l[i]? with
  |none=>rw[q] at hd;cases hd
  |some z=>
   rw[q] at hd;cases hd;obtain⟨v,e1,e2⟩:=r.get q;have:=y vs (.of e);rw[e1] at this;cases this;exact⟨Y1,.refl,R,e2.le g.le⟩
 stop:=λi Y1 S1 H1 g R _ hi _=>by
  have e:=(res_some (g.le _ _ h)).2;exact⟨vs,.of e,by rw[<- r.len];simpa using hi⟩
theorem Tc (h:res Y H a=some (.tup vs))(r:bU K (res Y H) l vs):Z2 K (Itt K a) (l.map .t) (λ_=>True) Y H where
 go:=λi Y1 S1 H1 g R _ hi=>by
  have e:=(res_some (g.le _ _ h)).2;have hl:i<vs.length:=by rw[<- r.len];simpa using hi
  exact⟨vs,vs[i],.of e,jaT hl⟩
 Lx:=λi x Y1 S1 H1 H' d g R _ hd y=>by
  obtain⟨rfl,y⟩:=y;have e:=(res_some (g.le _ _ h)).2;rw[jaV] at hd;cases q:l[i]? with
  |none=>rw[q] at hd;cases hd
  |some z=>
   rw[q] at hd;cases hd;obtain⟨v,e1,e2⟩:=r.get q;have:=y vs (.of e);rw[e1] at this;cases this;exact⟨Y1,.refl,R,e2.le g.le⟩
 stop:=λi Y1 S1 H1 g R _ hi _=>by
  have e:=(res_some (g.le _ _ h)).2;exact⟨vs,.of e,by rw[<- r.len];simpa using hi⟩
theorem Ys {K:Frag}{Y:jcK}{H:Hp}{n:Nat}{a:Addr}{l:List T}(ha:Y[n]?=some a):Z2 K (Itl K a) (l.map .t) (λS=>S[n]?=some (.lst l)) Y H where
 go:=λi Y1 S1 H1 g R hS hi=>by
  obtain⟨vs,e,r⟩:=R.ok n a _ (g.at ha) hS;have hl:i<vs.length:=by rw[<- r.len];simpa using hi
  exact⟨vs,vs[i],.of e,jaT hl⟩
 Lx:=λi x Y1 S1 H1 H' d g R hS hd y=>by
  obtain⟨rfl,y⟩:=y;obtain⟨vs,e,r⟩:=R.ok n a _ (g.at ha) hS;rw[jaV] at hd;cases q:l[i]? with
  |none=>rw[q] at hd;cases hd
  |some z=>
   rw[q] at hd;cases hd;obtain⟨v,e1,e2⟩:=r.get q;have:=y vs (.of e);rw[e1] at this;cases this;exact⟨Y1,.refl,R,e2⟩
 stop:=λi Y1 S1 H1 g R hS hi _=>by
  obtain⟨vs,e,r⟩:=R.ok n a _ (g.at ha) hS;exact⟨vs,.of e,by rw[<- r.len];simpa using hi⟩
theorem qi (s:QE X iter te):QI X tg iter (iSq te):=U5 (Xf s) (by rintro U H Q ⟨Y,S,Z,k,R,D,q,hk⟩;exact⟨Y,S,Z,_,R,D,q,(by
 rintro v t ⟨m,p,d,o,j,c,f⟩;rcases f with⟨l,rfl | rfl,f⟩ | ⟨n,l,rfl,h,f⟩
 .have c:=c;obtain⟨a,g,r,b,i⟩:=c;exact⟨a,r,.inr ⟨⟨g,.of (res_some b).2⟩,hk _ _ ⟨m,p,_,_,o,j,Tc b i,f⟩⟩⟩
 .have c:=c;obtain⟨a,g,r,b,i⟩:=c;exact⟨a,r,.inl ⟨⟨g,.of (res_some b).2⟩,hk _ _ ⟨m,p,_,_,o,j,OL b i,f⟩⟩⟩
 .obtain⟨a,ha,e⟩:=c;obtain⟨g,b,i⟩:=j.ok n a _ ha h;exact⟨a,e,.inl ⟨⟨g,.of b⟩,hk _ _ ⟨m,p,_,_,o,j,Ys ha,f⟩⟩⟩)⟩)
theorem Td:Z2 K (Itr 0 n) ((List.range n).map λ(i:Nat)=>D.int i) (λ_=>True) Y H where
 go:=λi Y1 S1 H1 g R _ hi=>by show i<n;simpa using hi
 Lx:=λi x Y1 S1 H1 H' d g R _ hd y=>by
  obtain⟨rfl,y⟩:=y;rw[jaV] at hd;cases q:(List.range n)[i]? with
  |none=>rw[q] at hd;cases hd
  |some z=>
   rw[q] at hd;cases hd;have:=List.getElem?_range (by have:=(jar.mp q).1;simpa using this);rw[this] at q;cases q;subst y;refine⟨Y1,.refl,R,?_⟩;show Rp _ _ _ _;unfold Rp;rw[Int.zero_add]
 stop:=λi Y1 S1 H1 g R _ hi _=>by show n<=i;simpa using hi
theorem sZ (c:Gl X "range")(h:X.mg "range"=none)(s:QA X [a] t)(hs:autoParam (starEach [a] X.env=[(false,eval a X.env)]) zi):QI X tg (.Call (.Name "range" p) [a] [] pos) (a5s t):=
 U5 (J4 c h s hs) (by rintro U H Q ⟨Y,S,Z,k,R,D,q,hk⟩;exact⟨Y,S,Z,_,R,D,q,(by
  rintro v u ⟨i,o,d,n,g,r,j,e,l,m,f⟩;subst e;obtain⟨w,rfl,b⟩:=r.one;rw[aV b];exact⟨j,M,l,m,hk _ _ ⟨i,o,_,_,n,g,Td,f⟩⟩)⟩)
noncomputable def zZ (G:av->Prop)(g:vM)(tb:mL):List D->mL
 |[]=>λE Z S=>G S/\E.nx Z S
 |x::r=>λE Z S=>G S/\g x Z S λδ1 a=>tb {E with nx:=zZ G g tb r E,ct:=zZ G g tb r E,bk:=E.nx } δ1 a
def a0u (w:QB)(g:vM)(tb:mL):mL:=λE Z S=>w Z S λb G a=>zZ G g tb b E Z a
theorem bf {w:QB}(hp:PassesOwn (model X.prog X.w) X.A X.env X.xe)(hc:X.calm=true)(P:QI X tg iter w)(hg:QG X tg g)(hb:JF X body tb)(hs:autoParam (∀x,foldedSetIterable iter X.env x=pure x) jp) :
  QS X (.For tg iter body [] pos) (a0u w g tb):=kC (W9 hp hc P hg hb hs) λD U H ⟨Y,S,Z,E,R,Q,q,C⟩=>⟨Y,S,Z,_,R,Q,q,λJ W ⟨r,S1,a,G,F,R1,B,q1⟩=>by
 refine⟨λi m V j=>m=a.length - i/\i<=a.length/\∃b c h,Gr r W b j/\R3 X.K b c j/\ua X.K b (res b j) h V/\zZ G g tb (a.drop i) E h c,⟨a.length,by simp,jaD _,r,S1,Z,.refl,R1,Q.gr F,q1⟩,?_⟩;rintro i m V j ⟨rfl,P,b,c,h,l,p,o,k⟩;by_cases d:i<a.length
 .rw[jca d] at k;obtain⟨hG,k⟩:=k;refine .inr ⟨B.go i b c j l p hG d,_,λU2 T z=>z,λx T y=>?_⟩;obtain⟨Y2,s,R2,r2⟩:=B.Lx i x b c j T a[i] l p hG (jaT d) y;refine⟨Y2,c,h,a[i],_,R2,o.gr s,r2,k,λσ3 H3 ⟨ρ3,S3,δ3,O,zp,I,q3⟩=>⟨ρ3,S3,δ3,_,zp,I,q3,?_⟩⟩;have N:=((F.trans l).trans s).trans O;have n:∀σ4 f,Ln X.K ρ3 H3 (zZ G g tb (a.drop (i+1)) E) σ4 f->∃L,L < a.length - i/\(L=a.length - (i+1)/\i+1<=a.length/\∃b c h,Gr r W b f/\R3 X.K b c f/\ua X.K b (res b f) h σ4/\zZ G g tb (a.drop (i+1)) E h c):=
   (by rintro σ4 f ⟨ρ4,S4,δ4,g4,R4,t,q4⟩;exact⟨a.length - (i+1),by lia,M,d,ρ4,S4,δ4,((l.trans s).trans O).trans g4,R4,t,q4⟩)
  exact⟨n,λv f u=>C.rt v f (u.gr N),λσ4 f u=>C.nx σ4 f (u.gr N),n⟩
 .have e:a.drop i=[]:=List.drop_eq_nil_of_le (by lia);rw[e] at k;exact .inl ⟨B.stop i b c j l p k.1 (by lia) (by lia),C.nx _ _ ⟨b,c,h,F.trans l,p,o,k.2⟩⟩⟩
def SmS (own:Nat)(U a:St):Prop:=a.length=U.length/\∀i:Nat,own<=i->a[i]?=U[i]?
inductive SV (K:Frag) (own:Nat) (g:vM) (v:V) (U:St) (H:Hp) (Q:St->Hp->Prop):Prop
 |mk (Y S Z d k):R3 K Y S H->ua K Y (res Y H) Z U->jI K Y (res Y H) d v->g d Z S k->(∀U' H',Ln K Y H k U' H'->SmS own U U'->Q U' H')->SV K own g v U H Q
inductive a1Q (K:Frag) (own:Nat) (g:Ac) (vs:List V) (U:St) (H:Hp) (Q:St->Hp->Prop):Prop
 |mk (Y S Z l k):R3 K Y S H->ua K Y (res Y H) Z U->bU K (res Y H) l vs->g l Z S k->(∀U' H',Ln K Y H k U' H'->SmS own U U'->Q U' H')->a1Q K own g vs U H Q
def QX (X:Cx)(own:Nat)(a:Expr)(g:vM):Prop:=PG X a (SV X.K own g)
def QXs (X:Cx)(own:Nat)(a:jcL)(g:Ac):Prop:=VT X a (a1Q X.K own g)
theorem qx (f:X.N.Nodup)(c:autoParam (X.N[i]?=some x) zi)(h:autoParam (i<own) zn)(g:autoParam (Loc X.env.scope x) ke)(b:autoParam (X.fn x=true\/X.env.scope.names.lookup x=some .local) zt):QX X own (.Name x pos) (A6 i):=
 II (IG f c g b) λv U H Q ⟨Y,S,Z,d,k,R,a,e,q,hk⟩=>hk _ _ ⟨Y,S,Z.set i (some d),.refl,R,a.set e i,q⟩ ⟨by simp,λj l=>jbl (by lia)⟩
theorem jb:QXs X own [] Vq:=BP IF (by
 rintro v U H Q ⟨Y,S,Z,l,k,R,a,b,⟨e,q⟩,hk⟩;subst e;exact⟨b,hk _ _ ⟨Y,S,Z,.refl,R,a,q⟩ ⟨M,λ_ _=>rfl⟩⟩)
theorem Dl (n:QX X own e g)(m:QXs X own es gs)(hs:autoParam ((assignEach (e::es) X.env).map (·.2)=assign e X.env::(assignEach es X.env).map (·.2)) zi):QXs X own (e::es) (O2 g gs):=
 BP (Eg n m hs) (by
  rintro v U H Q ⟨Y,S,Z,l,k,R,y,b,⟨x,r,e,q⟩,hk⟩;subst e;unfold bU at b;obtain⟨w,z,p,A,B⟩:=b;refine⟨w,z,p,Y,S,Z,.t x,_,R,y,A,q,λσ1 E ⟨j,o,δ1,f,h,a,C⟩ m1=>⟨j,o,δ1,r,k,h,a,B.le f.le,C,λs D u d=>hk s D (u.gr f) ⟨d.1.trans m1.1,λi c=>(d.2 i c).trans (m1.2 i c)⟩⟩⟩)
theorem k7 (r:X.calm=true)(h:QXs X own es gs)(i:autoParam ((assignEach es X.env).length=n) zi)(b:autoParam ((assignEach es X.env).findIdx? (·.1)=none) zi):QX X own (.Tuple es k0 pos) (Vp n gs):=
 II (NJ r h i b) (by
  rintro v U H Q ⟨Y,S,Z,d,k,R,f,j,⟨l,e,m,q⟩,hk⟩;subst e;obtain⟨a,o,p,g,c⟩:=dz j;exact⟨a,o,p,.of g,by rw[<- c.len];exact m,Y,S,Z,l,k,R,f,c,q,hk⟩)
noncomputable def st3 (own:Nat)(fr:jcO)(Z:Sl):Sl:=List.replicate own none++fr.map λj=>(Z[j]?).join
def gi (G:av->Prop)(g:vM)(tt:vg)(te:cI)(δ0:Sl):List D->av->List T->(List T->av->Prop)->Prop
 |[],S,a,k=>G S/\k a S
 |x::r,S,a,k=>G S/\g x δ0 S λδ1 f=>tt δ1 f λb c=>if b=true then te δ1 c λd e=>∃y,d=.t y/\a.length<sizeLine/\gi G g tt te δ0 r e (a++[y]) k else gi G g tt te δ0 r c a k
def Bw (own:Nat)(fr:jcO)(w:QB)(g:vM)(tt:vg)(te:cI):cI:=λZ S k=>w Z S λc G d=>gi G g tt te (st3 own fr Z) c d [] λb a=>k (.lst b) a
def Mq (own:Nat)(fr:jcO)(w:QB)(g:vM)(tt:vg)(te:cI):cI:=λZ S k=>w Z S λc G d=>gi G g tt te (st3 own fr Z) c d [] λb a=>k (.ob a.length) (a++[.lst b])
def Z1 (X:Cx)(a:jcL)(t:vg):Prop:=Qa X a (KA X.K t)
def a0E:vg:=λ_ S k=>k true S
theorem ua.Ay (r:ua K Y G Z U)(own:Nat)(fr:jcO):ua K Y G (st3 own fr Z) (Ay own fr U):=by
 refine⟨by unfold st3 L2.Ay;simp,λi d h=>?_⟩;unfold st3 at h;unfold L2.Ay;by_cases a:i<own
 .rw[jaU (by simpa using a),jbM,jaf a] at h;cases h
 .rw[jbf (by simpa using a),jbW,jaV] at h ⊢;cases e:fr[i - own]? with
  |none=>rw[e] at h;cases h
  |some j=>
   rw[e] at h;have h:(Z[j]?).join=some d:=jbc h;have b:Z[j]?=some (some d):=by
    cases q:Z[j]? with
    |none=>rw[q] at h;cases h
    |some o=>rw[q] at h;exact jao some h
   obtain⟨v,f,c⟩:=r.2 j d b;exact⟨v,by show some ((U[j]?).join)=some (some v);rw[f];rfl,c⟩
def MD (h:SmS own (Ay own fr U) a):Ext (Ay own fr U) a:=by
 refine⟨h.1,λi v e=>?_⟩;by_cases b:i<own
 .unfold L2.Ay at e;rw[jaU (by simpa using b),jbM,jaf b] at e;cases e
 .rw[h.2 i (by lia)];exact e
section
variable {sc:Scope}
def bJ:Z1 X [] a0E:=(by rintro a s U H Q I ⟨Y,S,Z,k,R,D,q,hk⟩;exact RU a s U H Q I (hk _ _ ⟨Y,S,.refl,R,q⟩))
def vY (a:QT X c t):Z1 X [c] t:=RT a
theorem Us (RS:ua X.K h (res h r) Z U)(S:R3 X.K h C r)(F:Z2 X.K J a G h r)
  (q:gi G g tt te (st3 own fr Z) a C [] k) (hR:∀Y2 S2 H2 ys l,Gr h r Y2 H2->R3 X.K Y2 S2 H2->bU X.K (res Y2 H2) l ys->k l S2->R ys H2) :
  ∃W:Nat->Nat->List V->Hp->Prop,(∃m,W 0 m [] r)/\Jx J (SV X.K own g) (KA X.K tt) (li X.K te) (Ay own fr U) W R:=by
 refine⟨λi m ys f=>m=a.length - i/\i<=a.length/\∃n j l,Gr h r n f/\R3 X.K n j f/\bU X.K (res n f) l ys/\gi G g tt te (st3 own fr Z) (a.drop i) j l k,⟨a.length,by simp,jaD _,h,C,[],.refl,S,.nil,q⟩,?_⟩;rintro i m ys f ⟨rfl,hi,n,j,l,o,A,w,p⟩;by_cases c:i<a.length
 .rw[jca c] at p;obtain⟨O,p⟩:=p;refine .inr ⟨F.go i n j f o A O c,λs H2=>∃Y2 S2 l2,Gr h r Y2 H2/\R3 X.K Y2 S2 H2/\bU X.K (res Y2 H2) l2 s/\gi G g tt te (st3 own fr Z) (a.drop (i+1)) S2 l2 k,λs H2 z=>⟨a.length - (i+1),by lia,M,c,z⟩,λx H2 y=>?_⟩;obtain⟨Y2,u,R2,r2⟩:=F.Lx i x n j f H2 a[i] o A O (jaT c) y;refine⟨Y2,j,st3 own fr Z,a[i],_,R2,(RS.gr (o.trans u)).Ay own fr,r2,p,λσ3 H3 ⟨ρ3,P,δ3,E,zp,t,q3⟩ sm=>⟨MD sm,ρ3,P,δ3,_,zp,t,q3,?_⟩⟩;rintro b H4 ⟨ρ4,I,B,N,L⟩;cases b with
  |false=>exact⟨ρ4,I,l,(((o.trans u).trans E).trans B),N,w.le ((u.trans E).trans B).le,L⟩
  |true=>
   refine⟨ρ4,I,δ3,_,N,t.gr B,L,?_⟩;rintro v H5 ⟨ρ5,Y,d,g5,R5,r5,z,hz,hl,Q⟩;subst hz;have H:=((u.trans E).trans B).trans g5;exact⟨by rw[<- w.len];exact hl,ρ5,Y,l++[z],o.trans H,R5,(w.le H.le).app (.cons r5 .nil),Q⟩
 .have e:a.drop i=[]:=List.drop_eq_nil_of_le (by lia);rw[e] at p;exact .inl ⟨F.stop i n j f o A p.1 (by lia) (by lia),hR n j f ys l o A w p.2⟩
def tX {own:Nat}{fr:jcO}{w:QB}{g:vM}{tt:vg}{te:cI}:∀U H Q,li X.K (Bw own fr w g tt te) U H Q->DF own fr (liI X.K w) (SV X.K own g) (KA X.K tt) (li X.K te) U H Q:=(by rintro U H Q ⟨Y,S,Z,k,R,D,q,hk⟩;exact  ⟨Y,S,Z,_,R,D,q,(by rintro J t ⟨n,p,o,G,a,c,h,f⟩;exact Us (D.gr a) c h f λr j s m l d R2 e i=>yL R2 (λv b u=>hk v b (u.gr (a.trans d))) e i)⟩)
def Hi {own:Nat}{fr:jcO}{w:QB}{g:vM}{tt:vg}{te:cI}:∀U H Q,li X.K (Mq own fr w g tt te) U H Q->DF own fr (liI X.K w) (SV X.K own g) (KA X.K tt) (li X.K te) U H Q:=(by rintro U H Q ⟨Y,S,Z,k,R,D,q,hk⟩;exact  ⟨Y,S,Z,_,R,D,q,(by rintro J t ⟨n,p,o,G,a,c,h,f⟩;exact Us (D.gr a) c h f λr j s m l d R2 e i=>Pb R2 (λv b u=>hk v b (u.gr (a.trans d))) e i)⟩)
theorem ck {cl:List (Str×Addr)}{own:Nat}{N:jcI}{fr:jcO}{elt:Expr}{tg:Expr}{iter:Expr}{cs:jcL}{pos:Pos}{w:QB}{g:vM}{tt:vg}{te:cI}(S:iY X sc cl own N fr)(c:X.calm=true)(e:QI X tg iter w)(a:∀C s H fp,QX (z5 X sc N cl C s H fp) own tg g)
  (b:∀C s H fp,Z1 (z5 X sc N cl C s H fp) cs tt) (d:∀C s H fp,QE (z5 X sc N cl C s H fp) elt te) (hs:autoParam (∀x,foldedSetIterable iter X.env x=pure x) jp) :
  QE X (.ListComp elt [⟨tg,iter,cs,0⟩] sc pos) (Bw own fr w g tt te):=cy (IJ (g:=SV X.K own g) (tt:=KA X.K tt) (te:=li X.K te) S c e a b d hs) tX
theorem RM {cl:List (Str×Addr)}{own:Nat}{N:jcI}{fr:jcO}{elt:Expr}{tg:Expr}{iter:Expr}{cs:jcL}{pos:Pos}{w:QB}{g:vM}{tt:vg}{te:cI}(S:iY X sc cl own N fr)(c:X.calm=true)(e:QI X tg iter w)(a:∀C s H fp,QX (z5 X sc N cl C s H fp) own tg g)
  (b:∀C s H fp,Z1 (z5 X sc N cl C s H fp) cs tt) (d:∀C s H fp,QE (z5 X sc N cl C s H fp) elt te) (hs:autoParam (∀x,foldedSetIterable iter X.env x=pure x) jp) :
  QE X (.ListComp elt [⟨tg,iter,cs,0⟩] sc pos) (Mq own fr w g tt te):=cy (IJ (g:=SV X.K own g) (tt:=KA X.K tt) (te:=li X.K te) S c e a b d hs) Hi
theorem RH {cl:List (Str×Addr)}{own:Nat}{N:jcI}{fr:jcO}{elt:Expr}{tg:Expr}{iter:Expr}{cs:jcL}{pos:Pos}{spos:Pos}{py:Pos}{w:QB}{g:vM}{tt:vg}{te:cI}(A:X.N.Nodup)(S:iY X sc cl own N fr)(z:X.calm=true)(f:QI X tg iter w)(h:∀C s H fp,QX (z5 X sc N cl C s H fp) own tg g)
  (n:∀C s H fp,Z1 (z5 X sc N cl C s H fp) cs tt) (p:∀C s H fp,QE (z5 X sc N cl C s H fp) elt te) (r:autoParam (X.N[i]?=some y) zi) (k:autoParam (Loc X.env.scope y) ke)
  (a:autoParam (swapsWith (.ListComp elt [⟨tg,iter,cs,0⟩] sc pos) (some (.Name y py)) spos.line X.env=pure true) zi) (hs:autoParam (∀x,foldedSetIterable iter X.env x=pure x) jp)
  (e:autoParam (X.fn y=true\/X.env.scope.names.lookup y=some .local) zt) :
  QS X (.Assign [.Name y py] (.ListComp elt [⟨tg,iter,cs,0⟩] sc pos) spos) (wJ (Bw own fr w g tt te) (A6 i)):=
 kC (RY (g:=SV X.K own g) (tt:=KA X.K tt) (te:=li X.K te) A r k S z f h n p a hs e) (by rintro D U H ⟨Y,S,Z,E,R,b,q,o⟩;exact tX _ _ _ ⟨Y,S,Z,_,R,b,q,(by rintro v B ⟨m,t,d,c,l,u,j⟩;exact o.nx _ _ ⟨m,t,Z.set i (some d),c,l,(b.gr c).set u i,j⟩)⟩)
end
def closes (L:Nat)(d:D)(b:av)(k:KD):Prop:=
 (∃a c,b=a++c/\a.length=L/\(∀o∈a,Bd L o)/\Y9 L d/\k d a)\/
 (∃m o a c,d=.ob m/\L<=m/\b=a++c/\a.length=L/\(∀o∈a,Bd L o)/\b[m]?=some o/\Bd L o/\k (.ob L) (a++[o]))\/
 (∃m l a c,d=.ob m/\L<=m/\b=a++c/\a.length=L/\(∀o∈a,Bd L o)/\b[m]?=some (.lst l)/\k (.lst l) a)\/k d b
noncomputable def mT (N:jcI)(ds:List D):Sl:=ds.map some++List.replicate (N.length - ds.length) none
theorem ua.start (r:eY K Y G ds vs)(N:jcI):ua K Y G (mT N ds) (start N vs):=by
 have g:=eY.len r;refine⟨by unfold mT L2.start;simp[g],λi d h=>?_⟩;unfold mT at h;unfold L2.start;by_cases f:i<ds.length
 .rw[jaU (by simpa using f),jaV] at h;rw[jaU (by simpa[<- g] using f),jaV];cases e:ds[i]? with
  |none=>rw[e] at h;cases h
  |some x=>
   rw[e] at h;cases h;have j:∀{l:List D}{m:List V}{i:Nat}{x:D},Paired (jI K Y G) l m->l[i]?=some x->∃v,m[i]?=some v/\jI K Y G x v:=by
    intro l m i x r
    induction r generalizing i with
    |nil=>intro e;simp at e
    |cons a t k=>
     intro e;cases i with
     |zero=>simp at e;subst e;exact⟨_,M,a⟩
     |succ i=>obtain⟨v,b,c⟩:=k (by simpa using e);exact⟨v,by simpa using b,c⟩
   obtain⟨v,b,c⟩:=j r e;exact⟨v,by rw[b];rfl,c⟩
 .rw[jbf (by simpa using f),jbM] at h;split at h<;>cases h
def rX (R:R3 K Y S H)(h:up K Y H (λd S'=>closes S.length d S' k) v C):up K Y H k v C:=by
 obtain⟨X,S',d,g,f,r,c⟩:=h;obtain⟨ex,G⟩:=g.ext;subst G;rcases c with⟨p,N,rfl,j,s,hd,q⟩ | ⟨m,o,p,N,rfl,T,rfl,j,s,J,I,q⟩ | ⟨m,l,p,N,rfl,T,rfl,j,s,J,q⟩ | q
 .refine⟨Y,p,d,⟨⟨[],by simp⟩,g.le.trans kZ⟩,f.pop (by rw[R.len,j]) (by rw[j];exact s),r.pop kZ (by rw[R.len];exact hd),q⟩
 .obtain⟨a,ha,rfl⟩:=r;have hρ:Y.length=p.length:=by rw[R.len,j]
  have P:=f.pop hρ (by rw[j];exact s);have D:a∉Y:=λz=>by
   obtain⟨n,i⟩:=jcg.mp z;have l1:=(jar.mp i).1;have:=oz f.nd (by rw[jaU l1];exact i) ha;lia
  have le:Le (res (Y++ex) C) (res (Y++[a]) C):=λb o h=>by
   obtain⟨E,F⟩:=res_some h;refine nv (λz=>E ?_) F;rcases jan.mp z with z | z
   .exact jaA _ z
   .rw[jag.mp z];exact jbB ha
  have B:∀(n:Nat)(b:Addr),Y[n]?=some b->(Y++[a])[n]?=some b:=λn b e=>by
   rw[jaU (jar.mp e).1];exact e
  refine⟨Y++[a],p++[o],.ob S.length,⟨⟨[a],M⟩,g.le.trans le⟩,⟨by simp[hρ],?_,λn b u t w=>?_⟩,⟨a,by rw[<- R.len];simp,M⟩,q⟩
  .rw[jb0];refine⟨P.nd,by simp,λx Q y O=>?_⟩;rw[jag.mp O];exact λz=>D (z ▸ Q)
  .by_cases i:n<Y.length
   .rw[jaU i] at t;have A:n<p.length:=by lia
    rw[jaU A] at w;have W:=f.ok n b u (by rw[jaU i];exact t) (by rw[jaU A];exact w);exact(W.pop le (by rw[R.len];exact s u (jbB w))).le' B (Le.refl _)
   .have l1:=(jar.mp t).1;rw[jab,ja0] at l1;have L:n=Y.length:=by lia
    subst L;rw[jbf (jam _),Nat.sub_self] at t;rw[jbf (by lia),hρ,Nat.sub_self] at w;cases t;cases w;exact((f.ok m a o ha J).pop le (by rw[R.len];exact I)).le' B (Le.refl _)
 .obtain⟨a,ha,rfl⟩:=r;have hρ:Y.length=p.length:=by rw[R.len,j]
  have D:a∉Y:=λz=>by
   obtain⟨n,i⟩:=jcg.mp z;have l1:=(jar.mp i).1;have:=oz f.nd (by rw[jaU l1];exact i) ha;lia
  obtain⟨U,E,F⟩:=f.ok m a _ ha J;refine⟨Y,p,.lst l,⟨⟨[],by simp⟩,g.le.trans kZ⟩,f.pop hρ (by rw[j];exact s),?_,q⟩;show Rp _ _ _ _;exact⟨a,U,M,nv D E,F.le kZ⟩
 .exact⟨_,S',d,g,f,r,q⟩
noncomputable def endsF (S:av)(k:KD):p9:={nx:=λ_ a=>closes S.length .cP a k,rt:=λd a=>closes S.length d a k }
def yX (c:∀o∈S,Bd S.length o)(h:k (.t x) S):closes S.length (.t x) (S++a) k:=.inl ⟨S,a,M,M,c,trivial,h⟩
def aE (c:∀o∈S,Bd S.length o)(h:k (.t x) S):closes S.length (.t x) S k:=.inr (.inr (.inr h))
theorem Hj (c:∀o∈S,Bd S.length o)(e:a[j]?=some (.lst l))(h:k (.lst l) S):closes S.length (.ob (S.length+j)) (S++a) k:=
 .inr (.inr (.inl ⟨_,l,S,a,M,by lia,M,M,c,by rw[jbf (by lia),jcv];exact e,h⟩))
theorem a6a (c:∀o∈S,Bd S.length o)(e:a[j]?=some o)(b:Bd S.length o)(h:k (.ob S.length) (S++[o])):closes S.length (.ob (S.length+j)) (S++a) k:=
 .inr (.inl ⟨_,o,S,a,M,by lia,M,M,c,by rw[jbf (by lia),jcv];exact e,b,h⟩)
def dD {S:av}:(S++a)[S.length+j]?=a[j]?:=by rw[jbf (by lia),jcv]
def fc {S a:av}:(S++a).set (S.length+j) o=S++a.set j o:=by simp
def Cl (S:av):Prop:=∀o∈S,Bd S.length o
inductive DfR (X:Cx) (b:List Stmt) (N:List Str) (sp:mK):Prop
 |mk (t:mL) (h:JF X b t) (h2:∀ds S kk,Cl S->(∀d∈ds,Y9 S.length d)->sp ds S kk->t (endsF S kk) (mT N ds) S)
theorem a2K (F:F3 K x a st f g)(S:iJ N ps (aM st))(len:∀ds S k,sp ds S k->ds.length=ps.length)
  (r:∀(AT:Value)(A:Around)(outer:List Env)(s:Shared)(H:Hp)(E:XK),cV k (A.deeper (PyProof.Rows.envOfC a (aM st) s.heap.objs.size f AT))->
   DfR (CT ug P w K mg base N a (aM st) f AT A outer s H E).ZK (bK st) N sp):dX P w K mg base ug (k+1) f g ps (cu K sp):=by
 refine F.ok S (λy H Q E ⟨Y,S,ds,b,R,c,q,_⟩=>by rw[<- eY.len c];exact len ds S b q) ?_;rintro AT A outer s H y Q E m ⟨Y,S,ds,b,R,c,q,hk⟩;obtain⟨t,l,j⟩:=r AT A outer s H E m;refine⟨_,l,Y,S,mT N ds,endsF S b,R,ua.start c N,j ds S b R.cl (λd hd=>?_) q,?_⟩
 .obtain⟨v,z⟩:=jN c d hd;rw[<- R.len];exact z.cl
 .refine⟨(by rintro U e ⟨o,n,C,h,p,B,i⟩;exact hk _ _ (rX R ⟨o,n,.cP,h,p,aZ,i⟩)),λv e u=>hk _ _ (rX R u),(by rintro U e ⟨_,_,_,_,_,_,z⟩;exact z),(by rintro U e ⟨_,_,_,_,_,_,z⟩;exact z)⟩
end L3
namespace L2
open PySem PySem.Spec PyProof.Rows Hw
def a0R (P:Program)(w:World):R2:=λx y H Q=>∃(p o:Addr)(a b c:jcI),x=.ref p/\y=.ref o/\H p=some (vm P w p a)/\H o=some (vm P w o b)/\c.length<=8/\(∀x∈a,x∈c)/\
 ∀(q:Addr)(ws:jcI),H q=none->(∀x,x∈ws↔x∈a/\x∉b)->Q (.ref q) (upd H q (vm P w q ws))
def Ss:kP X (binaryOp .Sub) (a0R X.prog X.w):=by
 intro R s U H x y v u Q I Z Y h;obtain⟨p,o,ss,so,ds,rfl,rfl,S,G,hd,B,q⟩:=h;cases Z;cases Y;obtain⟨⟨l,i,O,C⟩,_,_⟩:=I.hok p _ S;obtain⟨⟨K,t,E,P⟩,_,_⟩:=I.hok o _ G;have D:l.Nodup:=let⟨_,_,_,_,_,_,_,_,_,_,n,_⟩:=i;n;have hz8:=yt D λx V=>B x ((O x).mp V);refine wpAny_binaryOp_same (op:=.Sub) (T:="set") i.typeIs t.typeIs F.fills_set_sub F.slot_set_sub (jby F.slot_set_sub i.typeIs yM ?_ (F.args_set_sub_2 _ _));show wpAny _ _ (Builtin.Frozenset.slot1 "__sub__" ⟨[.ref p,.ref o],[]⟩ >>=_) _ _ _;refine jaa (jad ?_);dsimp only;simp only[jbC,jbo];refine jaa (jaa (sr i ?_));refine sr t ?_;simp only[Bool.not_true,jbC,jbo];refine jaa (jad (jaa ?_));have N:∀(h':Heap) d (c:jcI),(∀b ob,s.heap.get? b=some ob->h'.get? b=some ob)->dg X.prog X.w h' s.heap.objs.size c->(∀x,x∈c↔x∈l/\x∉K)->c.length<64->∃r,Inv X R U r {s with heap:=h',drawn:=d }/\Q (.ref s.heap.objs.size) r:=λh' d c j g f m=>by
  have L:=I.ET (h':=h') (a:=s.heap.objs.size) (o:=vm X.prog X.w s.heap.objs.size c) (t':=s.toks) (λb u e=>j b u e) (λb u e=>jax (jal e))
   ⟨⟨c,g,λ_=>Iff.rfl,m⟩,let⟨o,_,_,_,G,_⟩:=g;⟨o,G⟩,λh1 h2 ⟨l,x,y⟩ k=>⟨l,x.at k,y⟩⟩
  exact⟨_,L.2.drew d,q _ c L.1 λx=>by rw[f x,O x,E x]⟩
 by_cases W:l.length / 4<=K.length
 .refine K6 i t W C λh' d c j g f m=>?_;obtain⟨r,J,A⟩:=N h' d c j g f m;exact jad ⟨_,M,(λz=>by cases z),.ref s.heap.objs.size,_,J,M,A⟩
 .refine K7 i t (by lia) (by lia) λh' d c j g f m=>?_;obtain⟨r,J,A⟩:=N h' d c j g f m;exact jad ⟨_,M,(λz=>by cases z),.ref s.heap.objs.size,_,J,M,A⟩
end L2
namespace L3
open PySem L2 Hw
noncomputable def OE:D->Option Key
 |.t (.v (.str x))=>some (Sum.inr x)
 |.t (.v (.int i))=>some (Sum.inl i)
 |_=>none
noncomputable def kG (l:List (Key×T))(k:Key):Option T:=(l.find? λp=>decide (p.1=k)).map (·.2)
noncomputable def dput (l:List (Key×T))(k:Key)(v:T):List (Key×T):=if(l.any λp=>decide (p.1=k))=true then l.map (λp=>if p.1=k then(p.1,v) else p) else l++[(k,v)]
abbrev Ui (K:Frag)(G:Hp):List (Key×T)->List (Key×V)->Prop:=Paired λp q=>p.1=q.1/\Rp K G p.2 q.2
def yC (r:jI K Y G d v)(h:OE d=some k):v=kV k:=by
 unfold OE at h;split at h
 .cases h;exact aV r
 .cases h;exact aV r
 .cases h
def yO (r:Ui K G l kvs)(k:Key):(∀x,kG l k=some x->∃v,oR kvs k=some v/\Rp K G x v)/\(kG l k=none->oR kvs k=none):=by
 induction r with
 |nil=>exact⟨(λx h=>nomatch h),λ_=>rfl⟩
 | @cons p q b qs h t c=>
  by_cases e:p.1=k
  .have e':q.1=k:=h.1 ▸ e;have a:kG (p::b) k=some p.2:=by unfold kG;simp[List.find?_cons,e]
   rw[a,qK e'];exact⟨λx z=>by cases z;exact⟨_,M,h.2⟩,λz=>nomatch z⟩
  .have e':¬ q.1=k:=λz=>e (h.1.trans z);have a:kG (p::b) k=kG b k:=by unfold kG;simp[List.find?_cons,e]
   rw[a,qL e'];exact c
def Ua (r:Ui K G l kvs)(k:Key):(l.any λp=>decide (p.1=k))=(kvs.any λp=>decide (p.1=k)):=by
 induction r with
 |nil=>rfl
 | @cons p q b qs h t a=>rw[jbI,jbI,a,h.1]
def SN (r:Ui K G l kvs)(k:Key)(h:Rp K G x v):Ui K G (l.map λp=>if p.1=k then(p.1,x) else p) (kvs.map λp=>if p.1=k then(p.1,v) else p):=by
 induction r with
 |nil=>exact .nil
 | @cons p q c qs a t b=>
  rw[jas,jas];refine .cons ?_ b;by_cases e:p.1=k
  .rw[jaf e,jaf (a.1 ▸ e)];exact⟨a.1,h⟩
  .rw[jae e,jae (λz=>e (a.1.trans z))];exact a
theorem xN {α β:Type}{F:α->β->Prop}:∀{l l':List α}{m m':List β},Paired F l m->Paired F l' m'->Paired F (l++l') (m++m')
 |_,_,_,_,.nil,h=>h
 |_,_,_,_,.cons r t,h=>.cons r (xN t h)
def Fc (r:Ui K G l kvs)(k:Key)(h:Rp K G x v):Ui K G (dput l k x) (putK kvs k v):=by
 unfold dput putK;rw[Ua r k];by_cases e:(kvs.any λp=>decide (p.1=k))=true
 .rw[jaf e,jaf e];exact SN r k h
 .rw[jae e,jae e];exact xN r (.cons ⟨M,h⟩ .nil)
inductive a2J (a b:D) (S:av) (k:KD):Prop
 |mk (n:Nat) (l:List (Key×T)) (key:Key) (x:T) (h:a=.ob n) (h1:S[n]?=some (.wm l)) (h2:OE b=some key) (h3:kG l key=some x) (hk:k (.t x) S)
theorem s9 (p:X.A.units+1<cLine)(O:QE X o to)(G:QE X i ti)(hs:Qc i:=by intro _ _;rfl):QE X (.Subscript o i pos) (vj a2J to ti):=
 cy (Si p O G hs) (by rintro U H Q ⟨Y,S,Z,k,R,D,q,hk⟩;exact⟨Y,S,Z,_,R,D,q,(by rintro v V ⟨g,r,d1,d,f,C,L⟩;exact⟨g,r,Z,_,f,D.gr d,L,(by
  rintro w P ⟨z,e,T,c,R2,M,n,l,b,x,h,j,m,F,s⟩;subst h;obtain⟨a,E,y⟩:=C.gr c;obtain⟨N,J,K⟩:=R2.ok n a _ E j;obtain⟨u,B,I⟩:=(yO K b).1 x F;exact⟨a,u,y,by rw[yC M m,<- B];exact Dj.k J,hk _ _ ⟨z,e,.t x,d.trans c,R2,I,s⟩⟩)⟩)⟩)
def Wo:cI:=λ_ S k=>k (.ob S.length) (S++[.wm []])
def Nj:QE X (.Dict [] [] pos) Wo:=cy NO λU H Q ⟨Y,S,Z,k,R,D,q,hk⟩ p a=>YS R hk p a (o:=.wm []) ⟨[],M,.nil⟩ q
def WG (f c g:cI):mL:=λE Z S=>g Z S λy e=>f Z e λo d=>c Z d λi b=>∃n l a x,o=.ob n/\b[n]?=some (.wm l)/\OE i=some a/\y=.t x/\l.length<sizeLine/\E.nx Z (b.set n (.wm (dput l a x)))
theorem BK (G:X.A.units+1<cLine)(ho:QE X o to)(P:QE X i ti)(hv:QE X value tv)(hs:autoParam (swapsWith value (some (.Subscript o i pos')) pos.line X.env=pure false) zi):QS X (.Assign [.Subscript o i pos'] value pos) (WG to ti tv):=
 kC (R6 G ho P hv hs) (by rintro D U H ⟨Y,S,Z,E,R,e,q,eu⟩;exact⟨Y,S,Z,_,R,e,q,(by rintro v H1 ⟨y,I,d1,f,t,L,W⟩;exact⟨y,I,Z,_,t,e.gr f,W,(by rintro w H2 ⟨K,r,d2,c,R2,r2,J⟩;exact   ⟨K,r,Z,_,R2,e.gr (f.trans c),J,(by
   rintro z H3 ⟨ρ3,S3,d3,d,p,Q,n,l,b,x,B,C,F,O,s,T⟩;subst B O;obtain⟨a,h,N⟩:=r2.gr d;obtain⟨g,V,j⟩:=p.ok n a _ h C;have hl:g.length<sizeLine:=by rw[<- jbz j];exact s
   obtain⟨R4,m⟩:=p.put (u:=.wm (dput l b x)) h ⟨_,M,Fc j b (L.gr (c.trans d))⟩;refine⟨a,_,N,by rw[yC Q F];exact Qi.k V hl,eu.nx _ _ ⟨ρ3,_,Z,((f.trans c).trans d).trans m,R4,(e.gr ((f.trans c).trans d)).gr m,T⟩⟩)⟩)⟩)⟩)
def Rg (h g f:cI):cI:=λZ S k=>h Z S λo c=>∃n d,o=.ob n/\c[n]?=some (.wm d)/\g Z c λi e=>f Z e λz b=>∃l a,b[n]?=some (.wm l)/\OE i=some a/\k (match kG l a with | some x=>.t x | none=>z) b
theorem ID (P:X.A.units+1<cLine)(ho:QE X o to)(he:QE X e te)(hf:QE X f tx)(m:M2 X o "get" B1 e f cpos:=by exact⟨M,M,M,M⟩):QE X (.Call (.Attribute o "get" B1) [e,f] [] cpos) (Rg to te tx):=
 cy (NQ P ho he hf m) (by rintro U H Q ⟨Y,S,Z,k,R,D,q,hk⟩;exact⟨Y,S,Z,_,R,D,q,(by
  rintro v H1 ⟨I,T,d1,p,y,r1,n,l0,J,K,q1⟩;subst J;obtain⟨a,C,V⟩:=r1;obtain⟨j,e2,e3⟩:=y.ok n a _ C K;refine⟨a,V,.inl ⟨j,.inl e2⟩,I,T,Z,_,y,D.gr p,q1,λw H2 ⟨W,G,d2,h,R2,r2,q2⟩=>⟨W,G,Z,_,R2,D.gr (p.trans h),q2,?_⟩⟩;rintro z H3 ⟨ρ3,s,N,i,r,r3,l,b,L,h4,g⟩;obtain⟨d,F,E⟩:=r.ok n a _ ((h.trans i).at C) L;refine⟨oR d b,by rw[yC (r2.gr i) h4];exact Dj.k F,?_⟩;have B:=(p.trans h).trans i;cases c:kG l b with
  |none=>rw[c] at g;rw[(yO E b).2 c];exact hk _ _ ⟨ρ3,s,N,B,r,r3,g⟩
  |some x=>
   rw[c] at g;obtain⟨u,O,i2⟩:=(yO E b).1 x c;rw[O];exact hk _ _ ⟨ρ3,s,.t x,B,r,i2,g⟩)⟩)
noncomputable def rR (x:Str):jcI->jcI
 |[]=>[x]
 |y::r=>if lt x y=true then x::y::r else if x=y then y::r else y::rR x r
noncomputable def sU:jcI->jcI:=List.foldr rR []
theorem yF:∀{l:jcI},z∈rR x l↔z=x\/z∈l
 |[]=>by simp[rR]
 |y::r=>by
  unfold rR;by_cases h:lt x y=true
  .rw[jaf h,jah]
  .rw[jae h];by_cases e:x=y
   .subst e;rw[jaf M,jah];constructor
    .intro q;exact .inr q
    .rintro(q | q)
     .exact .inl q
     .exact q
   .rw[jae e,jah,yF,jah];constructor
    .rintro(q | q | q)
     .exact .inr (.inl q)
     .exact .inl q
     .exact .inr (.inr q)
    .rintro(q | q | q)
     .exact .inr (.inl q)
     .exact .inl q
     .exact .inr (.inr q)
theorem cW:∀{l:jcI},z∈sU l↔z∈l
 |[]=>Iff.rfl
 |x::r=>by
  show z∈rR x (sU r)↔_;rw[yF,cW,jah]
theorem Jd:∀{l:jcI},l.Pairwise (λa b=>lt a b=true)->(rR x l).Pairwise λa b=>lt a b=true
 |[],_=>by unfold rR;simp
 |y::r,h=>by
  unfold rR;by_cases e:lt x y=true
  .rw[jaf e];refine jbx.mpr ⟨λz c=>?_,h⟩;rcases jah.mp c with rfl | c
   .exact e
   .exact lt_trans e ((jbx.mp h).1 z c)
  .rw[jae e];by_cases q:x=y
   .rw[jaf q];exact h
   .rw[jae q];refine jbx.mpr ⟨λz c=>?_,Jd (jbx.mp h).2⟩;rcases yF.mp c with rfl | c
    .rcases CA z y with a | a | a
     .exact absurd a e
     .exact absurd a q
     .exact a
    .exact(jbx.mp h).1 z c
theorem mU:∀(l:jcI),(sU l).Pairwise λa b=>lt a b=true
 |[]=>.nil
 |x::r=>Jd (mU r)
def Gn (h:ys.Pairwise (λa b=>lt b a=false))(n:ys.Nodup)(m:∀x,x∈ys↔x∈l):ys=sU l:=oq (Ea h n) (mU l) λx=>(m x).trans cW.symm
def Gp (h:∀x,x∈l↔x∈m):sU l=sU m:=oq (mU l) (mU m) λx=>(cW.trans (h x)).trans cW.symm
def MZ:JE
 |[.ob n],S,k=>∃l a,S[n]?=some (.wm l)/\l.map (·.1)=List.map (Sum.inr:Str->Key) a/\a.Nodup/\l.length<64/\k (.lst ((sU a).map T.str)) S
 |_,_,_=>False
def OC (r:Ui K G l kvs):kvs.map (·.1)=l.map (·.1):=by
 induction r with
 |nil=>rfl
 |cons h t a=>rw[jas,jas,a,h.1]
def Jv (j:X.calm=true):Call3 X (.builtin "sorted") MZ:=by
 refine gP (C0 j) ?_;rintro o H Q ⟨Y,S,p,k,R,f,q,hk⟩;unfold MZ at q;split at q
 .obtain⟨l,ss,h1,h2,h3,h4,h5⟩:=q;obtain⟨v,rfl,a,m,rfl⟩:=f.one;obtain⟨b,i,c⟩:=R.ok _ a _ m h1;refine⟨a,b,ss,M,i,by rw[OC c];exact h2,by rw[<- jbz c];exact h4,λe n h d g=>?_⟩;rw[Gn g (d.nodup_iff.mpr h3) (λx=>d.mem_iff)];exact yL R hk (bU.ofStrs _) h5 e h
 .exact q.elim
def tSS (te:cI):cI:=λZ S k=>te Z S λd b=>∃a c:jcI,lq b d=some (a.map T.str)/\a.length<4000/\c.length<64/\(∀x∈a,x∈c)/\k (.lst ((sU a).map T.str)) b
theorem RK (f:Gl X "sorted")(b:X.mg "sorted"=none)(g:Gl X "set")(c:X.mg "set"=none)(m:X.calm=true)(K:QE X e te)(j:autoParam (notStar e=true) zi) :
  QE X (.Call (.Name "sorted" p1) [.Call (.Name "set" p2) [e] [] p3] [] p4) (tSS te):=
 cy (tE (se m) f b PyProof.Rows.boot_sorted (kD (lu (Bf m) g c PyProof.Rows.boot_set (kD K ly j) j M) ly M) rfl M) (by rintro U H Q ⟨Y,S,Z,k,R,D,q,hk⟩;exact   ⟨Y,S,Z,_,R,D,q,(by
   rintro v V ⟨N,P,d,I,h,B,i,A,s,t,x,C,F⟩;obtain⟨a,T,z,n,E⟩:=cR h B s;rw[E.strs] at n;refine⟨a,i,A,by rw[z],.of n,t,x,C,λq o=>⟨q,i,M,dM,λl L J G r O w=>?_⟩⟩;obtain⟨R2,y,_⟩:=h.new o;rw[Gn w r G];exact yL R2 (λv p u=>hk v p (u.gr (I.trans y))) (bU.ofStrs _) F l J)⟩)
def tSD (te g:cI):cI:=λZ S k=>te Z S λd c=>∃a e:jcI,lq c d=some (a.map T.str)/\a.length<4000/\e.length<=8/\(∀x∈a,x∈e)/\g Z c λh f=>∃b:jcI,h=.tup (b.map T.str)/\b.length<64/\k (.lst ((sU (a.filter λx=>!b.contains x)).map T.str)) f
theorem a4S (s:Gl X "sorted")(n:X.mg "sorted"=none)(g:Gl X "set")(c:X.mg "set"=none)(t:X.calm=true)(he:QE X e te)(hf:QE X f tf)(F:autoParam (notStar e=true) zi)(h:autoParam (notStar f=true) zi) :
  QE X (.Call (.Name "sorted" p1) [.BinOp (.Call (.Name "set" p2) [e] [] p3) .Sub (.Call (.Name "set" p4) [f] [] p5) pos] [] pos') (tSD te tf):=
 cy (tE (se t) s n PyProof.Rows.boot_sorted (kD (U6 Ss (lu (Bf t) g c PyProof.Rows.boot_set (kD he ly F) F M) (lu (Ld t) g c PyProof.Rows.boot_set (kD hf ly h) h M)) ly M) rfl M) (by rintro U H Q ⟨Y,S,Z,k,R,D,q,hk⟩;exact   ⟨Y,S,Z,_,R,D,q,(by
   rintro v H1 ⟨O,W,d,K,z,r1,m,B,h1,P,T,I,q1⟩;obtain⟨a,vs,e1,J,e3⟩:=cR z r1 h1;rw[e3.strs] at J;refine⟨a,m,B,by rw[e1],.of J,P,by lia,I,λp hp=>?_⟩;obtain⟨R2,A,L⟩:=z.new (o:=vm X.prog X.w p m) hp;refine⟨O,W,Z,_,R2,D.gr (K.trans A),q1,?_⟩;rintro w H2 ⟨Y2,S2,d2,G,zp,r2,j,V,i2,q2⟩;subst V;obtain⟨b,ws,f2,C,f4⟩:=dz r2;rw[f4.strs] at C;refine⟨b,j,by rw[f2],.of C,i2,λo ho=>?_⟩;obtain⟨R4,E,f5⟩:=zp.new (o:=vm X.prog X.w o j) ho;have f6:=(res_some (E.le _ _ (G.le _ _ L))).2;refine⟨p,o,m,j,B,M,M,f6,(res_some f5).2,T,I,λr i hr y=>⟨r,i,M,dM,λl ys hl hm hn hz hs=>?_⟩⟩;obtain⟨R5,g5,_⟩:=R4.new (o:=vm X.prog X.w r i) hr;rw[Gn (l:=m.filter λx=>!j.contains x) hs hn (λx=>(hm x).trans ((y x).trans (by simp)))];exact yL R5 (λv N u=>hk v N (u.gr ((((K.trans A).trans G).trans E).trans g5))) (bU.ofStrs _) q2 l hl)⟩)
theorem EZ (x:Str):∀l:jcI,(rR x l).length<=l.length+1
 |[]=>by simp[rR]
 |y::r=>by
  unfold rR;split
  .simp
  .split
   .simp
   .have:=EZ x r;simp only[jak];lia
theorem oj:∀l:jcI,(sU l).length<=l.length
 |[]=>jam _
 |x::r=>by
  have b:=EZ x (sU r);have a:=oj r;show(rR x (sU r)).length<=r.length+1;lia
def uE (a:cV k A):A.units+1+40<cLine:=by have:=a.un;lia
def Dn.up (h:Dn P w K mg base j x ps sp)(l:j<=k):Dn P w K mg base k x ps sp:=let⟨f,fd,F,a⟩:=h;⟨f,fd,F.mono l,a⟩
def Mt.up (h:Mt P w K mg base j C m ps sp)(l:j<=k):Mt P w K mg base k C m ps sp:=let⟨f,fd,F,a⟩:=h;⟨f,fd,F.mono l,a⟩
def Ms.up (h:Ms P w K mg base j n cl m ps sp)(l:j<=k):Ms P w K mg base k n cl m ps sp:=λi a=>Mt.up (h i a) l
def qC (P:Program)(w:World)(K:Frag)(a:Str->jcN)(base:Heap)(k:Nat)(C:Addr)(x:Str)(ps:jcI)(sp:mK):Prop:=∃j,j<k/\Mkr P w K a base j C x ps sp
def qC.up (h:qC P w K mg base j C x ps sp)(l:j<=k):qC P w K mg base k C x ps sp:=let⟨i,a,b⟩:=h;⟨i,jaL a l,b⟩
theorem fu (F:qC X.prog X.w X.K X.mg X.base k C x ps sp)(b:cV k X.A)(f:Gl X x)(g:QA X (e::es) t)(c:autoParam (notStar e=true) zi)(d:autoParam (es.all notStar=true) zi)(a:autoParam ((x==("__debug__":Str))=false) zn) :
  QE X (.Call (.Name x p) (e::es) [] pos) (Mn C sp t):=let⟨_,hj,F⟩:=F;WS F (b.mono hj) f g c d a
theorem a03 (F:qC X.prog X.w X.K X.mg X.base k C x ps sp)(b:cV k X.A)(f:Gl X x)(g:QA X (e::es) t)(c:autoParam (notStar e=true) zi)(d:autoParam (es.all notStar=true) zi)(a:autoParam ((x==("__debug__":Str))=false) zn) :
  QE X (.Call (.Name x p) (e::es) [] pos) (Mm C sp t):=let⟨_,hj,F⟩:=F;RL F (b.mono hj) f g c d a
structure Cm (P:Program)(w:World)(K:Frag)(mg:Str->Option Value)(base:Heap)(k:Nat)(x m:Str)(ps:List Str)(sp:mK):Prop where
 ok:∃(C f:Addr)(fd:FuncData),dX P w K mg base ug k f fd ps (cu K sp)/\mg x=some (.ref C)/\specialIn K (.ref C) "__getattribute__"=some (some (.builtin "type.__getattribute__"))/\readsIn K C (.type "type")=true/\
  findCls K (.ref C) (.type "type") m=some (.val (.ref f))/\keepIn K (.ref f)=true/\Binds K fd ps []
theorem nB {X:Cx}{e:Expr}{es:jcL}{t:mH}{m:Str}{x:Str}{pos:Pos}{B1:Pos}{p:Pos}{k:Nat}{ps:jcI}{sp:mK}{pl:Sem Bool}(F:Cm X.prog X.w X.K X.mg X.base k x m ps sp)(b:cV k X.A)(g:Gl X x)(E:QA X (e::es) t)(l:autoParam (notStar e=true) zi)(n:autoParam (es.all notStar=true) zi)(a:autoParam ((x==("__debug__":Str))=false) zn)
  (o:autoParam (eval (.Call (.Attribute (.Name x p) m B1) (e::es) [] pos) X.env=(do
   let ov <- eval (.Name x p) X.env
   standAt B1.atName
   let(f,first) <- holding [ov] (getMethod ov m pl)
   callWith pos f first (backTo pos (starEach (e::es) X.env)) (backToKw pos (keywordEach [] X.env)))) zi) :
  QE X (.Call (.Attribute (.Name x p) m B1) (e::es) [] pos) (sR sp t):=by
 obtain⟨C,f,G,F,j,c,B,u,hk,s⟩:=F.ok;refine cy (IK g j c B u rfl hk F b s xM E (gk l) (fR n) a o) ?_;rintro U H Q ⟨Y,S,Z,k,R,D,q,hk⟩;refine⟨Y,S,Z,_,R,D,q,?_⟩;rintro v y ⟨I,J,d,r,i,z,h⟩;show cu X.K sp (v++[]) y Q E0;rw[jaw];exact Ox r i z h hk
def XY:D->av->KD->Prop
 |.t (.v (.int i)),S,k=>k (.int (-i)) S
 |_,_,_=>False
def a0r (t:cI):cI:=λZ S k=>t Z S λd a=>XY d a k
theorem xH (h:QE X e te):QE X (.UnaryOp .USub e pos) (a0r te):=cy (a1d Wb h) (by rintro U H Q ⟨Y,S,Z,k,R,D,q,hk⟩;exact⟨Y,S,Z,_,R,D,q,(by
 rintro v j ⟨f,b,d,g,c,i,a⟩
 replace a:XY d b k:=a
 unfold XY at a;split at a
 .exact⟨_,aV i,hk _ _ ⟨f,b,_,g,c,aZ,a⟩⟩
 .exact a.elim)⟩)
def WQ (h:Ve e=some xs):QE X e (λ_ S k=>xs.length<=sizeLine/\k (.lst (xs.map T.str)) S):=cy (Sd h) (by rintro U H Q ⟨Y,S,Z,k,R,D,q,hk⟩;exact⟨by rw[jac];exact q.1,yL R hk (bU.ofStrs xs) q.2⟩)
theorem Jj (I:Nat->Sl->av->Prop)(c:I 0 Z S)
  (hs:∀i x Z S (N:KS),a[i]?=some x->I i Z S->(∀Z' S',I (i+1) Z' S'->N Z' S')->G S/\g x Z S λδ1 S1=>tb {E with nx:=N,ct:=N,bk:=E.nx } δ1 S1)
  (hd:∀Z S,I a.length Z S->G S/\E.nx Z S):zZ G g tb a E Z S:=by
 have f:∀(n i:Nat)(Z:Sl)(S:av),a.length - i=n->i<=a.length->I i Z S->zZ G g tb (a.drop i) E Z S:=by
  intro n
  induction n with
  |zero=>
   intro i Z S e k h;have:i=a.length:=by lia
   subst this;rw[List.drop_length];exact hd Z S h
  |succ n j=>
   intro i Z S e k h;have b:i<a.length:=by lia
   rw[jca b];exact hs i a[i] Z S _ (jaT b) h λZ' S' d=>j (i+1) Z' S' (by lia) b d
 have:=f _ 0 Z S rfl (jaD _) c;rwa[List.drop_zero] at this
def elem (g:vM)(tt:vg)(te:cI)(δ0:Sl)(x:D)(S:av)(k:Option T->av->Prop):Prop:=
 g x δ0 S λδ1 c=>tt δ1 c λb a=>if b=true then te δ1 a λd e=>∃y,d=.t y/\k (some y) e else k none a
noncomputable def a20 (ys:List T):Option T->List T
 |some y=>ys++[y]
 |none=>ys
theorem PC (I:Nat->List T->av->Prop)(m:I 0 ys S)
  (hs:∀i x ys S (c:Option T->av->Prop),a[i]?=some x->I i ys S->(∀o S',I (i+1) (a20 ys o) S'->c o S')->G S/\ys.length<sizeLine/\elem g tt te δ0 x S c)
  (hd:∀ys S,I a.length ys S->G S/\k ys S):gi G g tt te δ0 a S ys k:=by
 have j:∀(n i:Nat)(ys:List T)(S:av),a.length - i=n->i<=a.length->I i ys S->gi G g tt te δ0 (a.drop i) S ys k:=by
  intro n
  induction n with
  |zero=>
   intro i ys S e q h;have:i=a.length:=by lia
   subst this;rw[List.drop_length];exact hd ys S h
  |succ n d=>
   intro i ys S e q h;have b:i<a.length:=by lia
   rw[jca b];obtain⟨l,r,p⟩:=hs i a[i] ys S (λo S'=>match o with | some y=>ys.length<sizeLine/\gi G g tt te δ0 (a.drop (i+1)) S' (ys++[y]) k | none=>gi G g tt te δ0 (a.drop (i+1)) S' ys k) (jaT b) h λo S' f=>by
    cases o with
    |none=>exact d (i+1) ys S' (by lia) b f
    |some y=>exact⟨(hs i a[i] ys S (λ_ _=>True) (jaT b) h λ_ _ _=>trivial).2.1,d (i+1) (ys++[y]) S' (by lia) b f⟩
   exact⟨l,p⟩
 have:=j _ 0 ys S rfl (jaD _) m;rwa[List.drop_zero] at this
abbrev Sm:=List (Str×Int)×Int
noncomputable def wt (l:List (Str×Int))(x:Str):Int:=((l.filter λp=>decide (p.1=x)).map (·.2)).sum
noncomputable def norm (l:List (Str×Int)):List (Str×Int):=((sU (l.map (·.1))).map λx=>(x,wt l x)).filter λp=>decide (p.2≠0)
noncomputable def sumOf (l:List (Str×Int))(n:Int):Sm:=(norm l,n)
noncomputable def Sm.plus (a b:Sm):Sm:=sumOf (a.1++b.1) (a.2+b.2)
noncomputable def Sm.times (a:Sm)(k:Int):Sm:=sumOf (a.1.map λp=>(p.1,p.2*k)) (a.2*k)
noncomputable def Sm.less (a b:Sm):Sm:=a.plus (b.times (-1))
noncomputable def pT (p:Str×Int):T:=.tup [.str p.1,.int p.2]
def Ma (x:Str):wt [] x=0:=rfl
def vV (p:Str×Int)(l:List (Str×Int))(x:Str):wt (p::l) x=(if p.1=x then p.2 else 0)+wt l x:=by
 unfold wt;by_cases h:p.1=x
 .rw[List.filter_cons_of_pos (by simpa using h),jas,List.sum_cons,jaf h]
 .rw[List.filter_cons_of_neg (by simpa using h),jae h];lia
def V7 (l m:List (Str×Int))(x:Str):wt (l++m) x=wt l x+wt m x:=by
 induction l with
 |nil=>rw[Ma];simp
 |cons p r a=>rw[jbb,vV,vV];lia
def Gd (h:x∉l.map (·.1)):wt l x=0:=by
 induction l with
 |nil=>rfl
 |cons p r a=>
  rw[jas,jah,not_or] at h;rw[vV,jae (λe=>h.1 e.symm),a h.2];rfl
structure FJ (l:List (Str×Int))(d:List (Key×T)):Prop where
 val:∀x,kG d (.inr x)=if x∈l.map (·.1) then some (.int (wt l x)) else none
 keys:∃ss:List Str,d.map (·.1)=ss.map Sum.inr/\ss.Nodup/\∀x,x∈ss↔x∈l.map (·.1)
 len:d.length<=l.length
def Pn (d:List (Key×T))(a b:Key)(v:T):kG (dput d a v) b=if a=b then some v else kG d b:=by
 unfold dput;by_cases h:(d.any λp=>decide (p.1=a))=true
 .rw[jaf h]
  induction d with
  |nil=>simp at h
  |cons p r f=>
   rw[jas];unfold kG at f ⊢;by_cases e:p.1=a
   .rw[jaf e];by_cases q:a=b
    .subst q;rw[jaf rfl];simp[e]
    .rw[jae q];have ne:=λz=>q (e ▸ z);rw[jcf (by simpa using ne),jcf (by simpa using ne)];by_cases g:(r.any λp=>decide (p.1=a))=true
     .rw[f g,jae q]
     .have:r.map (λp=>if p.1=a then(p.1,v) else p)=r:=by
       have i:=λz c e=>g (jbS.mpr ⟨z,c,by simpa using e⟩);have:∀(r:List (Key×T)),(∀z∈r,¬ z.1=a)->r.map (λp=>if p.1=a then(p.1,v) else p)=r:=by
        intro r
        induction r with
        |nil=>intro _;rfl
        |cons z s f=>intro c;rw[jas,jae (c z jay),f λy j=>c y (jav _ j)]
       exact this r i
      rw[this]
   .rw[jae e];have g:(r.any λp=>decide (p.1=a))=true:=by
     rw[jbI,jau e] at h;exact h
    by_cases q:p.1=b
    .have:¬ a=b:=λz=>e (q.trans z.symm);rw[jae this,List.find?_cons_of_pos (by simpa using q),List.find?_cons_of_pos (by simpa using q)]
    .rw[jcf (by simpa using q),jcf (by simpa using q)];exact f g
 .rw[jae h];unfold kG;have i:=λz c e=>h (jbS.mpr ⟨z,c,by simpa using e⟩);by_cases q:a=b
  .subst q;rw[List.find?_append];have:d.find? (λp=>decide (p.1=a))=none:=List.find?_eq_none.mpr λz c=>by simpa using i z c
   rw[this];simp
  .rw[jae q,List.find?_append];have:([(a,v)]:List (Key×T)).find? (λp=>decide (p.1=b))=none:=by simp[q]
   rw[this];simp
def K3 (d:List (Key×T))(a:Key)(v:T):(a∈d.map (·.1)->(dput d a v).map (·.1)=d.map (·.1))/\(a∉d.map (·.1)->(dput d a v).map (·.1)=d.map (·.1)++[a]):=by
 unfold dput;by_cases h:(d.any λp=>decide (p.1=a))=true
 .obtain⟨z,c,e⟩:=jbS.mp h;have b:=jaq.mpr ⟨z,c,by simpa using e⟩;refine⟨λ_=>?_,λz=>absurd b z⟩;rw[jaf h,jaM];refine List.map_congr_left λp _=>?_;show(if p.1=a then(p.1,v) else p).1=p.1;split<;>rfl
 .have b:a∉d.map (·.1):=λb=>by
   obtain⟨z,c,e⟩:=jaq.mp b;exact h (jbS.mpr ⟨z,c,by simpa using e⟩)
  refine⟨λz=>absurd z b,λ_=>?_⟩;rw[jae h,jaj];rfl
def FJ.nil:FJ [] []:=⟨λx=>by simp[kG],⟨[],M,.nil,λx=>by simp⟩,jam _⟩
def FJ.snoc (h:FJ l d)(x:Str)(w:Int)(p:i=wt l x+w):FJ (l++[(x,w)]) (dput d (.inr x) (.int i)):=by
 obtain⟨c,j,g,f⟩:=h.keys;refine⟨λy=>?_,?_,?_⟩
 .rw[Pn,h.val y,jaj,V7,vV,Ma];by_cases e:x=y
  .subst e;rw[jaf M,jaf (by simp),jaf rfl];congr 3;lia
  .have:¬(Sum.inr x:Key)=Sum.inr y:=λz=>e (Sum.inr.inj z);rw[jae this,jae e];by_cases m:y∈l.map (·.1)
   .rw[jaf m,jaf (jaA _ m)];congr 3;lia
   .rw[jae m,jae];intro z;rcases jan.mp z with z | z
    .exact m z
    .simp at z;exact e z.symm
 .obtain⟨k1,k2⟩:=K3 d (.inr x) (.int i);rw[j] at k1 k2;by_cases m:(Sum.inr x:Key)∈c.map Sum.inr
  .have mx:x∈c:=by
    obtain⟨y,n,e⟩:=jaq.mp m;rw[<- Sum.inr.inj e];exact n
   refine⟨c,k1 m,g,λy=>?_⟩;rw[f y,jaj,jan];constructor
   .exact .inl
   .rintro(z | z)
    .exact z
    .simp at z;subst z;exact(f y).mp mx
  .have mx:=λz=>m (jaq.mpr ⟨x,z,M⟩);refine⟨c++[x],by rw[k2 m];simp,?_,λy=>?_⟩
   .rw[jb0];refine⟨g,by simp,λa o b k=>?_⟩;rw[jag.mp k];exact λz=>mx (z ▸ o)
   .rw[jaj,jan,f y];simp
 .have:(dput d (.inr x) (.int i)).length<=d.length+1:=by
   unfold dput;split
   .simp
   .simp
  have:=h.len;simp;lia
def sz (n:Nat)(h:autoParam (n<=1000) zn):n<=sizeLine:=jai h (by decide)
def eF (h:n<=1000):n<=sizeLine:=sz n h
def By (h:n<=1000):n<sizeLine:=JW h
def ao:(S++[o])[S.length]?=some o:=by simp
def fm:(S++[o]).set S.length a=S++[a]:=by simp
def made (h:k (.t (.ins C ns l)) S):Vb C S k .cP ((S++[o]).set S.length (.ins C ns (l.map .t))):=⟨M,ns,l,fm,h⟩
def IX (l:List (Str×Int)):(sU (l.map (·.1))).filterMap (λx=>if wt l x≠0 then some (pT (x,wt l x)) else none)=(norm l).map pT:=by
 unfold norm;generalize sU (l.map (·.1))=r
 induction r with
 |nil=>rfl
 |cons a r b=>
  rw[jas];by_cases h:wt l a≠0
  .rw[jcb (f:=λx=>if wt l x≠0 then some (pT (x,wt l x)) else none) (jaf h),b,List.filter_cons_of_pos (by simpa using h)];rfl
  .rw[List.filterMap_cons_none (f:=λx=>if wt l x≠0 then some (pT (x,wt l x)) else none) (jae h),b,List.filter_cons_of_neg (by simpa using h)]
def nH (l:List (Str×Int)):(norm l).length<=l.length:=by
 unfold norm;have b:=List.length_filter_le (λp:Str×Int=>decide (p.2≠0)) ((sU (l.map (·.1))).map λx=>(x,wt l x));have a:=oj (l.map (·.1));rw[jac] at b a;lia
def yE:decide (V.int a=V.int b)=decide (a=b):=by simp
def a4z:decide (V.str a=V.str b)=decide (a=b):=by simp
structure Ad where
 (jA bX cZ eX gX iB bQ cH jK ff cE bg bx gF fh cT kJ iS ay dG:Addr)
noncomputable def qI (A:Ad):Nat->Addr
 |0=>A.iB | 1=>A.bQ | 2=>A.cH | 3=>A.jK | 4=>A.ff | 5=>A.cE | 6=>A.gF | 7=>A.bg | _=>A.bx
inductive aN where
 |cmp (a:Sm) (s:Str) (b:Sm) | neg (c:aN) | con (k:Bool) (cs:List aN)
inductive ah where
 |lt (a:Int) (x:Str) (s:Sm) | dv (a:Int) (x wd:Str) (s b:Sm) | ft (a:Int) (x r:Str) (p:Sm) | pt (a:Int) (r:Str) (p s:Sm) | mq (a:Int) (r:Str) (z:Sm) | cm (a:Int) (c:aN)
 |ch (a:Int) (c:aN) (t e:List ah) | rp (a:Int) (c:aN) (hs:List (Int×aN)) (f:Option (Int×Sm)) (b:List ah)
structure oO where
 (at_:Int) (name:Str) (params answers:List Str) (needs gives:List (Int×aN)) (steps:List ah)
inductive bN where
 |any (x:Str) | lt (x:Str) (s:Sm) | hd (c:aN)
structure iX where
 (kind:Str) (at_:Int) (ahead:List bN) (cond:aN)
noncomputable def gU (l:jcI):T:=.tup (l.map T.str)
noncomputable def qG (s:Sm):T:=.tup [.tup (s.1.map pT),.int s.2]
section
variable (A:Ad)
noncomputable def fD (s:Sm):T:=.ins A.jA ["terms","number"] [.tup (s.1.map pT),.int s.2]
mutual
noncomputable def dZ:aN->T
 |.cmp a s b=>.ins A.bX ["one","sign","other"] [fD A a,.str s,fD A b]
 |.neg c=>.ins A.cZ ["condition"] [dZ c]
 |.con k d=>.ins (if k=true then A.eX else A.gX) ["conditions"] [.tup (TN d)]
noncomputable def TN:List aN->List T
 |[]=>[]
 |c::r=>dZ c::TN r
end
noncomputable def atT (p:Int×aN):T:=.tup [.int p.1,dZ A p.2]
noncomputable def faT:Option (Int×Sm)->T
 |none=>.cP
 |some p=>.tup [.int p.1,fD A p.2]
mutual
noncomputable def bA:ah->T
 |.lt a x s=>.ins A.iB ["at","name","total"] [.int a,.str x,fD A s]
 |.dv a x g s b=>.ins A.bQ ["at","name","word","total","by"] [.int a,.str x,.str g,fD A s,fD A b]
 |.ft a x r p=>.ins A.cH ["at","name","row","place"] [.int a,.str x,.str r,fD A p]
 |.pt a r p s=>.ins A.jK ["at","row","place","total"] [.int a,.str r,fD A p,fD A s]
 |.mq a r z=>.ins A.ff ["at","row","size"] [.int a,.str r,fD A z]
 |.cm a c=>.ins A.cE ["at","condition"] [.int a,dZ A c]
 |.ch a c t e=>.ins A.bg ["at","condition","then","other"] [.int a,dZ A c,.tup (BB t),.tup (BB e)]
 |.rp a c d f b=>.ins A.bx ["at","condition","keeps","falls","body"] [.int a,dZ A c,.tup (d.map (atT A)),faT A f,.tup (BB b)]
noncomputable def BB:List ah->List T
 |[]=>[]
 |c::r=>bA c::BB r
end
noncomputable def CG (h:oO):T:=.ins A.fh ["at","name","params","answers","needs","gives","steps"] [.int h.at_,.str h.name,gU h.params,gU h.answers,.tup (h.needs.map (atT A)),.tup (h.gives.map (atT A)),.tup (h.steps.map (bA A))]
noncomputable def Lo (hs:List oO):T:=.ins A.cT ["helpers"] [.tup (hs.map (CG A))]
noncomputable def ja:bN->T
 |.any x=>.tup [.str "any",.str x]
 |.lt x s=>.tup [.str "let",.str x,fD A s]
 |.hd c=>.tup [.str "hold",dZ A c]
noncomputable def CQ (d:iX):T:=.ins A.kJ ["kind","at","ahead","condition"] [.str d.kind,.int d.at_,.tup (d.ahead.map (ja A)),dZ A d.cond]
end
mutual
noncomputable def je:aN->T
 |.cmp a s b=>.tup [.str "compare",qG a,.str s,qG b]
 |.neg c=>.tup [.str "not",je c]
 |.con k d=>.tup (.str (if k=true then "and" else "or")::Hq d)
noncomputable def Hq:List aN->List T
 |[]=>[]
 |c::r=>je c::Hq r
end
noncomputable def Lu (p:Int×aN):T:=.tup [.int p.1,je p.2]
noncomputable def faR:Option (Int×Sm)->T
 |none=>.cP
 |some p=>.tup [.int p.1,qG p.2]
mutual
noncomputable def jM:ah->T
 |.lt a x s=>.tup [.str "let",.int a,.str x,qG s]
 |.dv a x g s b=>.tup [.str "divide",.int a,.str x,.str g,qG s,qG b]
 |.ft a x r p=>.tup [.str "fetch",.int a,.str x,.str r,qG p]
 |.pt a r p s=>.tup [.str "put",.int a,.str r,qG p,qG s]
 |.mq a r z=>.tup [.str "make",.int a,.str r,qG z]
 |.cm a c=>.tup [.str "claim",.int a,je c]
 |.ch a c t e=>.tup [.str "choose",.int a,je c,.tup (JO t),.tup (JO e)]
 |.rp a c d f b=>.tup [.str "repeat",.int a,je c,.tup (d.map Lu),faR f,.tup (JO b)]
noncomputable def JO:List ah->List T
 |[]=>[]
 |c::r=>jM c::JO r
end
noncomputable def Qt (h:oO):T:=.tup [.str "helper",.int h.at_,.str h.name,gU h.params,gU h.answers,.tup (h.needs.map Lu),.tup (h.gives.map Lu),.tup (h.steps.map jM)]
noncomputable def gB:bN->T
 |.any x=>.tup [.str "any",.str x]
 |.lt x s=>.tup [.str "let",.str x,qG s]
 |.hd c=>.tup [.str "hold",je c]
noncomputable def VC (d:iX):T:=.tup [.str d.kind,.int d.at_,.tup (d.ahead.map gB),je d.cond]
theorem dN (A:Ad):∀l:List ah,BB A l=l.map (bA A)
 |[]=>rfl
 |c::r=>by rw[BB,dN A r];rfl
theorem bS:∀l:List ah,JO l=l.map jM
 |[]=>rfl
 |c::r=>by rw[JO,bS r];rfl
theorem iP (A:Ad):∀l:List aN,TN A l=l.map (dZ A)
 |[]=>rfl
 |c::r=>by rw[TN,iP A r];rfl
theorem r9:∀l:List aN,Hq l=l.map je
 |[]=>rfl
 |c::r=>by rw[Hq,r9 r];rfl
mutual
noncomputable def aN.dep:aN->Nat
 |.cmp _ _ _=>0
 |.neg c=>c.dep+1
 |.con _ a=>rV a+1
noncomputable def rV:List aN->Nat
 |[]=>0
 |c::r=>max c.dep (rV r)
end
noncomputable def Sm.aU (s:Sm):jcI:=s.1.map (·.1)
mutual
noncomputable def aN.sums:aN->List Sm
 |.cmp a _ b=>[a,b]
 |.neg c=>c.sums
 |.con _ d=>fj d
noncomputable def fj:List aN->List Sm
 |[]=>[]
 |c::r=>c.sums++fj r
end
noncomputable def aN.aU (c:aN):jcI:=sU (c.sums.map Sm.aU).flatten
theorem jP:∀{l:List aN},c∈l->c.dep<=rV l
 |d::r,h=>by
  rcases jah.mp h with rfl | h
  .exact Nat.le_max_left _ _
  .exact jai (jP h) (Nat.le_max_right _ _)
section
variable (A:Ad)
inductive MG (ds:List D) (S:av) (k:KD):Prop
 |mk (n:Nat) (d:D) (l:List (Str×Int)) (m:Int) (h0:ds=[.ob n,d,.int m]) (h1:S[n]?=some (.ins A.jA [] [])) (h2:xq S d=some (l.map pT)) (h3:l.length<64) (h4:k .cP (S.set n (.ins A.jA ["terms","number"] ([.tup (l.map pT),.int m].map .t))))
inductive Ia (ds:List D) (S:av) (k:KD):Prop
 |mk (d:D) (l:List (Str×Int)) (m:Int) (h0:ds=[d,.int m]) (h1:xq S d=some (l.map pT)) (h2:l.length<64) (h3:k (.t (fD A (sumOf l m))) S)
inductive ML  (ds:List D) (S:av) (k:KD):Prop
 |mk (x:Str) (h0:ds=[.str x]) (h1:k (.t (fD A ([(x,1)],0))) S)
end
def kE (h:lq S d=some l):lq (S++loc) d=some l:=by
 cases d with
 |t x=>cases x<;>exact h
 |ob n=>
  have h:(match S[n]? with | some (.lst l)=>some l | _=>none)=some l:=h;show(match(S++loc)[n]? with | some (.lst l)=>some l | _=>none)=some l;cases q:S[n]? with
  |none=>rw[q] at h;cases h
  |some o=>
   rw[jaU (jar.mp q).1,q];rw[q] at h;exact h
def wF (h:xq S d=some l):d=.tup l\/lq S d=some l:=by
 cases d with
 |ob n=>exact .inr h
 |t x=>
  cases x with
  |tup m=>left;have h:=h;injection h with h;rw[h]
  |_=>exact .inr h
def uh (h:xq S d=some l):sq S d=some l:=by
 rcases wF h with rfl | h
 .rfl
 .cases d with
  |ob n=>exact h
  |t x=>
   cases x with
   |tup m=>cases h
   |DV m=>cases h
   |_=>exact h
def i8 {S:av}{loc:av}{n:Nat}{o:O}(h:S[n]?=some o):(S++loc)[n]?=some o:=by rw[jaU (jar.mp h).1];exact h
def Jb (h:xq S d=some l)(hk:∀G:av->Prop,(∀loc,G (S++loc))->k (l.map .t) G (S++loc)):EX d (S++loc) k:=by
 rcases wF h with rfl | h
 .exact .inl ⟨l,.inl M,hk _ λ_=>trivial⟩
 .cases d with
  |t x=>
   cases x with
   |lst m=>
    have h:some m=some l:=h;injection h with h
    subst h;exact .inl ⟨m,.inr M,hk _ λ_=>trivial⟩
   |_=>cases h
  |ob n=>
   have a:(match S[n]? with | some (.lst l)=>some l | _=>none)=some l:=h;cases q:S[n]? with
   |none=>rw[q] at a;cases a
   |some o=>
    rw[q] at a;cases o with
    |lst m=>
     have a:some m=some l:=a;injection a with a
     subst a;exact .inr ⟨n,m,M,i8 q,hk _ λloc=>i8 q⟩
    |_=>cases a
def Vi (h:xq S d=some l)(hk:∀G:av->Prop,(∀loc,G (S++loc))->k (l.map .t) G S):EX d S k:=by
 have:=Jb (loc:=[]) h (by simpa using hk);simpa using this
def bY (hk:k (l.map .t) (λ_=>True) S):EX (.tup l) S k:=.inl ⟨l,.inl M,hk⟩
def gC (hk:k (l.map .t) (λ_=>True) S):EX (.lst l) S k:=.inl ⟨l,.inr M,hk⟩
theorem yT {α:Type}{l:List α}(c:α->T)(f:α->Option T)(j:G S)(n:l.length<=sizeLine)(hs:∀x∈l,∀k':Option T->av->Prop,k' (f x) S->elem g tt te δ0 (.t (c x)) S k')
  (hk:k (l.filterMap f) S):gi G g tt te δ0 ((l.map c).map .t) S [] k:=by
 have m:∀(r:List α)(b:List T),b.length+r.length<=sizeLine->(∀x∈r,∀k':Option T->av->Prop,k' (f x) S->elem g tt te δ0 (.t (c x)) S k')->k (b++r.filterMap f) S->gi G g tt te δ0 ((r.map c).map .t) S b k:=by
  intro r
  induction r with
  |nil=>intro b _ _ q;rw[jco,jaw] at q;exact⟨j,q⟩
  |cons a r h=>
   intro b p hs q;rw[jak] at p;refine⟨j,hs a jay (λo i=>match o with | some y=>b.length<sizeLine/\gi G g tt te δ0 ((r.map c).map .t) i (b++[y]) k | none=>gi G g tt te δ0 ((r.map c).map .t) i b k) ?_⟩;cases e:f a with
   |none=>exact h b (by lia) (λx d=>hs x (jav _ d)) (by rw[List.filterMap_cons_none e] at q;exact q)
   |some y=>exact⟨by lia,h (b++[y]) (by simp;lia) (λx d=>hs x (jav _ d)) (by rw[jcb e] at q;simpa using q)⟩
 exact m l [] (by simpa using n) hs (by simpa using hk)
def oE {α β:Type}(f:α->β)(l:List α):l.filterMap (λx=>some (f x))=l.map f:=by
 induction l with
 |nil=>rfl
 |cons a r b=>rw[jcb (f:=λx=>some (f x)) M,b];rfl
theorem dR {α:Type}{l:List α}(c f:α->T)(b:G S)(a:l.length<=sizeLine)(hs:∀x∈l,∀k':Option T->av->Prop,k' (some (f x)) S->elem g tt te δ0 (.t (c x)) S k')
  (hk:k (l.map f) S):gi G g tt te δ0 ((l.map c).map .t) S [] k:=yT c (λx=>some (f x)) b a hs (by rw[oE];exact hk)
theorem bV {α:Type}{E:p9}{l:List α}(c:α->T)(I:List α->Sl->av->Prop)(b:I [] Z S)
  (hs:∀pre x post Z S (N:KS),l=pre++x::post->I pre Z S->(∀Z' S',I (pre++[x]) Z' S'->N Z' S')->G S/\g (.t (c x)) Z S λδ1 S1=>tb {E with nx:=N,ct:=N,bk:=E.nx } δ1 S1)
  (hd:∀Z S,I l Z S->G S/\E.nx Z S):zZ G g tb ((l.map c).map .t) E Z S:=by
 have f:∀(r pre:List α)(Z:Sl)(S:av),l=pre++r->I pre Z S->zZ G g tb ((r.map c).map .t) E Z S:=by
  intro r
  induction r with
  |nil=>intro pre Z S e h;rw[jaw] at e;subst e;exact hd Z S h
  |cons a r i=>intro pre Z S e h;exact hs pre a r Z S _ e h λZ' S' d=>i (pre++[a]) Z' S' (by rw[e];simp) d
 exact f l [] Z S rfl b
noncomputable def hsh (x:Str):Str:="#"++x
noncomputable def kd:ah->Nat
 |.lt ..=>0 | .dv ..=>1 | .ft ..=>2 | .pt ..=>3 | .mq ..=>4 | .cm ..=>5 | .ch ..=>7 | .rp ..=>8
noncomputable def ah.at_:ah->Int
 |.lt a ..=>a | .dv a ..=>a | .ft a ..=>a | .pt a ..=>a | .mq a ..=>a | .cm a _=>a | .ch a ..=>a | .rp a ..=>a
noncomputable def ah.us:ah->jcI
 |.lt _ x s=>x::s.aU
 |.dv _ x _ s b=>x::(s.aU++b.aU)
 |.ft _ x r p=>x::hsh r::p.aU
 |.pt _ r p s=>hsh r::(p.aU++s.aU)
 |.mq _ r z=>hsh r::z.aU
 |.cm _ c=>c.aU
 |.ch _ c _ _=>c.aU
 |.rp _ c _ _ _=>c.aU
noncomputable def ah.rows:ah->List (Int×jcI)
 |.rp a c b f _=>(a,c.aU)::b.map (λp=>(p.1,p.2.aU))++(match f with | none=>[] | some p=>[(p.1,p.2.aU)])
 |s=>[(s.at_,s.us)]
noncomputable def ah.all (s:ah):jcI:=(s.rows.map (·.2)).flatten
noncomputable def uo:ah->jcI
 |.lt _ x _=>[x] | .dv _ x _ _ _=>[x] | .ft _ x _ _=>[x] | .mq _ r _=>[hsh r] | _=>[]
mutual
noncomputable def jG:ah->List ah
 |.ch a c t e=>.ch a c t e::(gT t++gT e)
 |.rp a c d f b=>.rp a c d f b::gT b
 |.lt a x s=>[.lt a x s] | .dv a x w s b=>[.dv a x w s b] | .ft a x r p=>[.ft a x r p] | .pt a r p s=>[.pt a r p s] | .mq a r z=>[.mq a r z] | .cm a c=>[.cm a c]
noncomputable def gT:List ah->List ah
 |[]=>[]
 |s::r=>jG s++gT r
end
mutual
noncomputable def ah.dp:ah->Nat
 |.ch _ _ t e=>max (jv t) (jv e)+1
 |.rp _ _ _ _ b=>jv b+1
 |_=>1
noncomputable def jv:List ah->Nat
 |[]=>0
 |c::r=>max c.dp (jv r)
end
noncomputable def dY (l:List ah):jcI:=sU ((gT l).map uo).flatten
noncomputable def on (x:Str):Sm:=([(x,1)],0)
noncomputable def zl (a b:Sm):aN:=.cmp a "<=" b
noncomputable def CI (s:Sm):aN:=zl ([],0) s
noncomputable def aQ (x:Str):List bN:=if Txt.startswith x "#"=true then[.any x,.hd (CI (on x))] else[.any x]
noncomputable def others (h:oO):jcI:=sU ((h.answers++((gT h.steps).map ah.all).flatten).filter λx=>!h.params.contains x)
noncomputable def cN (h:oO):List bN:=(h.params.map aQ).flatten++(others h).map (λx=>.lt x ([],0))++h.needs.map λp=>.hd p.2
noncomputable def within (r:Str)(p:Sm):aN:=.con true [CI p,zl p ((on (hsh r)).less ([],1))]
noncomputable def quot (a:Int):aN:=
 if 0<a then .con true [zl ((on "^^").times a) (on "^"),zl (on "^") (((on "^^").times a).plus ([],a - 1))]
 else .con true [zl (on "^") ((on "^^").times a),zl (((on "^^").times a).plus ([],a+1)) (on "^")]
noncomputable def vn (k:Str)(a:Int)(p:List bN)(c:aN):iX:=⟨k,a,p,c⟩
noncomputable def K5 (x a:Str)(s b:Sm)(p:List bN):List bN:=
 if b.1≠[]\/b.2=0 then p++aQ x else p++[.lt "^" s]++aQ "^^"++[.hd (quot b.2)]++[.lt x (if a="div" then on "^^" else(on "^").less ((on "^^").times b.2))]
mutual
noncomputable def aN.iZ:aN->aN
 |.cmp a s b=>.cmp a (J7 s) b
 |.neg c=>c
 |.con k d=>.con (!k) (Ek d)
noncomputable def Ek:List aN->List aN
 |[]=>[]
 |c::r=>c.iZ::Ek r
end
theorem rJ:∀l:List aN,Ek l=l.map aN.iZ
 |[]=>rfl
 |c::r=>by rw[Ek,rJ r];rfl
noncomputable def aq (k:Str)(p:List bN):List (Int×aN)->List iX×List bN
 |[]=>([],p)
 |q::r=>(vn k q.1 p q.2::(aq k (p++[.hd q.2]) r).1,(aq k (p++[.hd q.2]) r).2)
noncomputable def gW (p:List bN):ah->List iX×List bN
 |.lt _ x s=>([],p++[.lt x s])
 |.dv a x d s b=>([vn "nought" a p (.cmp b "!=" ([],0))],K5 x d s b (p++[.hd (.cmp b "!=" ([],0))]))
 |.ft a x r z=>([vn "beyond" a p (within r z)],p++[.hd (within r z)]++aQ x)
 |.pt a r z s=>([vn "beyond" a p (within r z)],p++[.hd (within r z)])
 |.mq a r z=>([vn "short" a p (CI z)],p++[.hd (CI z)]++[.lt (hsh r) z])
 |.cm a c=>([vn "claim" a p c],p++[.hd c])
 |_=>([],p)
noncomputable def FU (a:Int):Str:="~"++(toString a:String)
noncomputable def jH (p:List bN)(hs:List (Int×aN))(b:List ah):List bN:=(aq "first" p hs).2++((dY b).map aQ).flatten++hs.map λq=>.hd q.2
noncomputable def iI (a:Int)(f:Option (Int×Sm))(p:List bN):List iX×List bN:=
 match f with
 |none=>([],p)
 |some q=>([vn "bound" q.1 p (CI q.2)],p++[.hd (CI q.2)]++[.lt (FU a) q.2])
noncomputable def KZ (a:Int)(f:Option (Int×Sm)):List (Int×aN):=
 match f with
 |none=>[]
 |some q=>[(q.1,zl q.2 ((on (FU a)).less ([],1)))]
noncomputable def fK (a:Int)(hs:List (Int×aN))(f:Option (Int×Sm))(q:List bN):List iX:=(aq "again" q hs).1++(aq "falls" (aq "again" q hs).2 (KZ a f)).1
mutual
noncomputable def jJ:ah->List bN->List iX×List (List bN)
 |.ch _ c t e,p=>((bw t [p++[.hd c]]).1++(bw e [p++[.hd c.iZ]]).1,(bw t [p++[.hd c]]).2++(bw e [p++[.hd c.iZ]]).2)
 |.rp a c d f b,p=>
  ((aq "first" p d).1++((iI a f (jH p d b++[.hd c])).1++((bw b [(iI a f (jH p d b++[.hd c])).2]).1++((bw b [(iI a f (jH p d b++[.hd c])).2]).2.map (fK a d f)).flatten)),[jH p d b++[.hd c.iZ]])
 |.lt a x s,p=>((gW p (.lt a x s)).1,[(gW p (.lt a x s)).2])
 |.dv a x w s b,p=>((gW p (.dv a x w s b)).1,[(gW p (.dv a x w s b)).2])
 |.ft a x r z,p=>((gW p (.ft a x r z)).1,[(gW p (.ft a x r z)).2])
 |.pt a r z s,p=>((gW p (.pt a r z s)).1,[(gW p (.pt a r z s)).2])
 |.mq a r z,p=>((gW p (.mq a r z)).1,[(gW p (.mq a r z)).2])
 |.cm a c,p=>((gW p (.cm a c)).1,[(gW p (.cm a c)).2])
noncomputable def bw:List ah->List (List bN)->List iX×List (List bN)
 |[],a=>([],a)
 |s::r,a=>((a.map λp=>(jJ s p).1).flatten++(bw r (a.map λp=>(jJ s p).2).flatten).1,(bw r (a.map λp=>(jJ s p).2).flatten).2)
end
noncomputable def gn (h:oO):List iX:=(bw h.steps [cN h]).1++((bw h.steps [cN h]).2.map λp=>(aq "gives" p h.gives).1).flatten
mutual
noncomputable def z6:ah->Nat
 |.ch _ _ t e=>iV t+iV e
 |_=>1
noncomputable def iV:List ah->Nat
 |[]=>1
 |s::r=>z6 s*iV r
end
mutual
def AW:ah->Prop
 |.ch _ _ t e=>(iV t<=16/\v8 t)/\(iV e<=16/\v8 e)
 |.rp _ _ _ _ b=>iV b<=16/\v8 b
 |_=>True
def v8:List ah->Prop
 |[]=>True
 |s::r=>AW s/\v8 r
end
def Km (l:List ah):Prop:=iV l<=16/\v8 l
theorem Cr {s:ah}:∀{l:List ah},v8 l->s∈l->AW s
 |c::r,h,m=>by
  rcases jah.mp m with rfl | m
  .exact h.1
  .exact Cr h.2 m
mutual
theorem Jp:∀s:ah,1<=z6 s
 |.ch _ _ t e=>by unfold z6;have:=wo t;lia
 |.rp .. | .lt .. | .dv .. | .ft .. | .pt .. | .mq .. | .cm ..=>by unfold z6;exact jam _
theorem wo:∀l:List ah,1<=iV l
 |[]=>jam _
 |s::r=>by unfold iV;exact Nat.mul_pos (Jp s) (wo r)
end
noncomputable def pW (s:ah)(ps:List (List bN)):List iX×List (List bN):=((ps.map λp=>(jJ s p).1).flatten,(ps.map λp=>(jJ s p).2).flatten)
def dP (s:ah)(r:List ah)(ps:List (List bN)):bw (s::r) ps=((pW s ps).1++(bw r (pW s ps).2).1,(bw r (pW s ps).2).2):=by rfl
theorem oB:∀(l:List ah)(s:ah)(ps:List (List bN)),bw (l++[s]) ps=((bw l ps).1++(pW s (bw l ps).2).1,(pW s (bw l ps).2).2)
 |[],s,ps=>by rw[jbH,dP,bw,bw];simp
 |c::r,s,ps=>by rw[jbb,dP,dP,oB r s];simp
def yG (s:ah)(ps:List (List bN))(p:List bN):pW s (ps++[p])=((pW s ps).1++(jJ s p).1,(pW s ps).2++(jJ s p).2):=by unfold pW;simp
mutual
theorem YJ:∀(s:ah)(p:List bN),(jJ s p).2.length=z6 s
 |.ch a c t e,p=>by
  have g:=lK t [p++[.hd c]];have d:=lK e [p++[.hd c.iZ]];rw[jJ];unfold z6;rw[jab,g,d];simp
 |.rp a c h f b,p=>by rw[jJ];unfold z6;rfl
 |.lt ..,p | .dv ..,p | .ft ..,p | .pt ..,p | .mq ..,p | .cm ..,p=>by rw[jJ];unfold z6;rfl
theorem lK:∀(l:List ah)(ps:List (List bN)),(bw l ps).2.length=ps.length*iV l
 |[],ps=>by rw[bw,iV,Nat.mul_one]
 |s::r,ps=>by
  rw[dP,iV];show(bw r (pW s ps).2).2.length=_;rw[lK r,<- jb9];congr 1;unfold pW;show((ps.map λp=>(jJ s p).2).flatten).length=_
  induction ps with
  |nil=>simp
  |cons p q a=>rw[jas,jaW,jab,a,YJ s p,jak,jbn,Nat.add_comm]
end
def OZ (s:ah)(ps:List (List bN)):(pW s ps).2.length=ps.length*z6 s:=by
 have:=lK [s] ps;rw[iV,iV,Nat.mul_one] at this;exact this
theorem CU:∀l m:List ah,iV (l++m)=iV l*iV m
 |[],m=>by rw[jbH,iV,Nat.one_mul]
 |s::r,m=>by rw[jbb,iV,iV,CU r m,jb9]
noncomputable def jk:ah->Bool
 |.lt ..=>false
 |.ch ..=>false
 |.rp _ _ a f _=>decide (a≠[])||f.isSome
 |_=>true
mutual
theorem Of:∀(s:ah),(∀x∈jG s,jk x=false)->∀p,(jJ s p).1=[]
 |.ch a c t e,h,p=>by
  rw[jG] at h;rw[jJ];show _++_=_;rw[v9 t (λx d=>h x (jav _ (jaA _ d))),v9 e (λx d=>h x (jav _ (jaP _ d)))];rfl
 |.rp a c o f b,h,p=>by
  rw[jG] at h;have g:=h _ jay;have m:=v9 b λx d=>h x (jav _ d);simp only[jk,Bool.or_eq_false_iff,decide_eq_false_iff_not,ne_eq,Decidable.not_not] at g;obtain⟨rfl,j⟩:=g;cases f with
  |some q=>cases j
  |none=>
   rw[jJ];show(aq "first" p []).1++_=_;have n:∀q,fK a [] none q=[]:=λq=>rfl;have i:∀l:List (List bN),(l.map (fK a [] none)).flatten=[]:=λl=>by
    induction l with
    |nil=>rfl
    |cons x r k=>rw[jas,jaW,k,n];rfl
   rw[m,i];rfl
 |.lt ..,h,p=>by rw[jJ];rfl
 |.dv a x w s b,h,p=>by rw[jG] at h;exact absurd (h _ (jag.mpr M)) (by simp[jk])
 |.ft a x r z,h,p=>by rw[jG] at h;exact absurd (h _ (jag.mpr M)) (by simp[jk])
 |.pt a r z s,h,p=>by rw[jG] at h;exact absurd (h _ (jag.mpr M)) (by simp[jk])
 |.mq a r z,h,p=>by rw[jG] at h;exact absurd (h _ (jag.mpr M)) (by simp[jk])
 |.cm a c,h,p=>by rw[jG] at h;exact absurd (h _ (jag.mpr M)) (by simp[jk])
theorem v9:∀(l:List ah),(∀x∈gT l,jk x=false)->∀ps,(bw l ps).1=[]
 |[],_,ps=>by rw[bw]
 |s::r,h,ps=>by
  rw[gT] at h;rw[dP];show(pW s ps).1++_=_;rw[v9 r (λx a=>h x (jaP _ a))];have b:=Of s λx a=>h x (jaA _ a);unfold pW;show(ps.map λp=>(jJ s p).1).flatten++[]=[]
  induction ps with
  |nil=>rfl
  |cons p q c=>rw[jas,jaW,b];exact c
end
noncomputable def AY (f:List bN->List (Option iX)×List (List bN))(ps:List (List bN)):List (Option iX)×List (List bN):=
 if 16<((ps.map λp=>(f p).2).flatten).length then((ps.map λp=>(f p).1).flatten++[none],(ps.map λp=>(f p).2).flatten.take 1)
 else((ps.map λp=>(f p).1).flatten,(ps.map λp=>(f p).2).flatten)
mutual
noncomputable def gz:ah->List bN->List (Option iX)×List (List bN)
 |.ch _ c t e,p=>((bh t [p++[.hd c]]).1++(bh e [p++[.hd c.iZ]]).1,(bh t [p++[.hd c]]).2++(bh e [p++[.hd c.iZ]]).2)
 |.rp a c d f b,p=>
  ((aq "first" p d).1.map some++((iI a f (jH p d b++[.hd c])).1.map some++((bh b [(iI a f (jH p d b++[.hd c])).2]).1++(((bh b [(iI a f (jH p d b++[.hd c])).2]).2.map (fK a d f)).flatten).map some)),[jH p d b++[.hd c.iZ]])
 |.lt a x s,p=>((gW p (.lt a x s)).1.map some,[(gW p (.lt a x s)).2])
 |.dv a x w s b,p=>((gW p (.dv a x w s b)).1.map some,[(gW p (.dv a x w s b)).2])
 |.ft a x r z,p=>((gW p (.ft a x r z)).1.map some,[(gW p (.ft a x r z)).2])
 |.pt a r z s,p=>((gW p (.pt a r z s)).1.map some,[(gW p (.pt a r z s)).2])
 |.mq a r z,p=>((gW p (.mq a r z)).1.map some,[(gW p (.mq a r z)).2])
 |.cm a c,p=>((gW p (.cm a c)).1.map some,[(gW p (.cm a c)).2])
noncomputable def bh:List ah->List (List bN)->List (Option iX)×List (List bN)
 |[],a=>([],a)
 |s::r,a=>((AY (λp=>gz s p) a).1++(bh r (AY (λp=>gz s p) a).2).1,(bh r (AY (λp=>gz s p) a).2).2)
end
def dj (s:ah)(r:List ah)(ps:List (List bN)):bh (s::r) ps=((AY (gz s) ps).1++(bh r (AY (gz s) ps).2).1,(bh r (AY (gz s) ps).2).2):=by rw[bh]
theorem AX:∀(l:List ah)(s:ah)(ps:List (List bN)),bh (l++[s]) ps=((bh l ps).1++(AY (gz s) (bh l ps).2).1,(AY (gz s) (bh l ps).2).2)
 |[],s,ps=>by rw[jbH,dj,bh,bh];simp
 |c::r,s,ps=>by rw[jbb,dj,dj,AX r s];simp
def ZI (ok:Prop)(l:List (Option iX)×List (List bN))(g:List iX×List (List bN)):Prop:=(ok->l=(g.1.map some,g.2))/\(¬ ok->none∈l.1)
mutual
theorem Zo:∀(s:ah)(p:List bN),ZI (AW s) (gz s p) (jJ s p)
 |.ch a c t e,p=>by
  have d:=oM t [p++[.hd c]] (by simp) (by simp);have i:=oM e [p++[.hd c.iZ]] (by simp) (by simp);simp only[ja0,Nat.one_mul] at d i;refine⟨λok=>?_,λg=>?_⟩
  .unfold AW at ok;rw[gz,jJ,d.1 ok.1,i.1 ok.2];simp
  .unfold AW at g;rw[gz];by_cases q:iV t<=16/\v8 t
   .exact jaP _ (i.2 λz=>g ⟨q,z⟩)
   .exact jaA _ (d.2 q)
 |.rp a c j f b,p=>by
  have d:=oM b [(iI a f (jH p j b++[.hd c])).2] (by simp) (by simp);simp only[ja0,Nat.one_mul] at d;refine⟨λok=>?_,λg=>?_⟩
  .unfold AW at ok;rw[gz,jJ,d.1 ok];simp
  .unfold AW at g;rw[gz];exact jaP _ (jaP _ (jaA _ (d.2 g)))
 |.lt ..,p | .dv ..,p | .ft ..,p | .pt ..,p | .mq ..,p | .cm ..,p=>by
  rw[gz,jJ];unfold AW;exact⟨λ_=>rfl,λh=>absurd trivial h⟩
theorem oM:∀(l:List ah)(ps:List (List bN)),0<ps.length->ps.length<=16->ZI (ps.length*iV l<=16/\v8 l) (bh l ps) (bw l ps)
 |[],ps,c,j=>by
  rw[bh,bw];exact⟨λ_=>rfl,λh=>absurd ⟨by rw[iV];lia,by rw[v8];trivial⟩ h⟩
 |s::r,ps,c,j=>by
  have f:∀p,ZI (AW s) (gz s p) (jJ s p):=Zo s;rw[dj,dP];by_cases q:AW s
  .have e:gz s=λp=>((jJ s p).1.map some,(jJ s p).2):=funext λp=>(f p).1 q;have m:(ps.map λp=>(gz s p).1).flatten=(pW s ps).1.map some:=by rw[e];unfold pW;simp[List.map_flatten];rfl
   have g:(ps.map λp=>(gz s p).2).flatten=(pW s ps).2:=by rw[e];rfl
   have a:=OZ s ps;have k:=wo r;have n:=Jp s;unfold AY;rw[m,g,a];by_cases big:16<ps.length*z6 s
   .rw[jaf big];refine⟨λok=>?_,λ_=>jaA _ (jaP _ jay)⟩;have:=ok.1;rw[iV,<- jb9] at this;have:=Nat.mul_le_mul_left (ps.length*z6 s) k;lia
   .rw[jae big];have b:=oM r (pW s ps).2 (by rw[a];exact Nat.mul_pos c n) (by rw[a];lia);rw[a] at b;refine⟨λok=>?_,λi=>?_⟩
    .have:=b.1 ⟨by have:=ok.1;rw[iV,<- jb9] at this;exact this,by have:=ok.2;rw[v8] at this;exact this.2⟩;show(_++(bh r (pW s ps).2).1,(bh r (pW s ps).2).2)=_;rw[this];simp
    .refine jaP _ (b.2 λz=>i ⟨by rw[iV,<- jb9];exact z.1,by rw[v8];exact⟨q,z.2⟩⟩)
  .refine⟨λok=>absurd (by have:=ok.2;rw[v8] at this;exact this.1) q,λ_=>jaA _ ?_⟩;obtain⟨p,t,e⟩:∃p t,ps=p::t:=by
    cases ps with
    |nil=>simp at c
    |cons p t=>exact⟨p,t,M⟩
   have d:none∈(ps.map λp=>(gz s p).1).flatten:=by
    rw[e,jas,jaW];exact jaA _ ((f p).2 q)
   unfold AY;split
   .exact jaA _ d
   .exact d
end
end L3
namespace Hw
open PySem L2
section
variable {Bk:Addr}
end
end Hw
namespace PySem
open Sem (wp)
end PySem
namespace L2
open PySem PySem.Spec PyProof.Rows Hw
end L2
namespace PySem
open Sem (wp)
end PySem
namespace PySem
end PySem
namespace L2
open PySem PySem.Spec PyProof.Rows Hw
end L2
namespace Hw
open PySem L2
end Hw
namespace L2
open PySem PySem.Spec PyProof.Rows Hw
end L2
namespace Hw
open PySem L2
def qB (x:Str):Prop:=(∃c r,x.cps.toList=c::r/\97<=c)/\x.length<=20
def qe (e:x.cps.toList=c::r):Txt.startswith x "#"=decide (c=35):=by
 have d:x.cps=(c::r).toArray:=by rw[<- e]
 have b:("#":Str).length=1:=by symm
 have a:("#":Str).cps=#[35]:=by symm
 unfold PySem.Txt.startswith Builtin.Str.subAt;rw[b,a];unfold Str.length;rw[d];by_cases h:c=35<;>simp[h]
def Ao (x:Str):Prop:=∀c∈cp x,97<=c
theorem zm (h:Ao x)(g:Ao y):Ao (x++y):=λc a=>by
 unfold cp at a;rw[sj] at a;rcases jan.mp a with q | q
 .exact h c q
 .exact g c q
theorem FF (h:97<=c):Ao (Za c):=λd hd=>by
 have:d∈[c]:=hd;rw[jag.mp this];exact h
theorem Li (h:∀x∈ss,Chr x):Ao (Txt.join (Str.ofString "") ss):=λc a=>by
 rw[Hf] at a;obtain⟨l,b,a⟩:=jaZ.mp a;obtain⟨x,e,rfl⟩:=jaq.mp b;obtain⟨d,rfl,hd⟩:=h x e;exact FF hd c a
theorem Ub {x:Str}(h:j<=x.length)(a:Ao x):Ao (Txt.slice x none (some (j:Int))):=λc b=>by
 have:=StrLaws.sliceText_to (x:=x) (j:=(j:Int)) ⟨by lia,by rw[Hg] at h;have h:j<=x.cps.toList.length:=h;lia⟩;have e:Txt.slice x none (some (j:Int))=StrLaws.sliceText x none (some (j:Int)):=rfl;rw[e,this] at b;refine a c ?_;unfold cp at b ⊢;exact List.mem_of_mem_drop (jcy b)
theorem Lj {x:Str}(h:j<=x.length)(a:Ao x):Ao (Txt.slice x (some (j:Int)) none):=λc b=>by
 have:=StrLaws.sliceText_from (x:=x) (i:=(j:Int)) ⟨by lia,by rw[Hg] at h;have h:j<=x.cps.toList.length:=h;lia⟩
 have e:Txt.slice x (some (j:Int)) none=StrLaws.sliceText x (some (j:Int)) none:=rfl;rw[e,this] at b;refine a c ?_;unfold cp at b ⊢;exact List.mem_of_mem_drop (jcy b)
def SW (a:Ao x)(b:1<=x.length)(d:x.length<=20):qB x:=by
 refine⟨?_,d⟩;rw[Hg] at b;cases e:cp x with
 |nil=>rw[e] at b;exact absurd b (by decide)
 |cons c r=>exact⟨c,r,e,a c (by rw[e];exact jay ..)⟩
end Hw
namespace L2
open PySem PySem.Spec PyProof.Rows Hw
def mtM (a:dX P w K h base ug k f g ps sp)(b:findIn K (.ref C) m=some (some (.ref f)))(e:isFn K (.ref f)=true)(c:keepIn K (.ref f)=true)(d:Binds K g ps []):Mt P w K h base k C m ps sp:=⟨f,g,a,⟨b,e,c⟩,d⟩
def mrM (a:dX P w K h base ug k f g ps sp)(m:makesIn K C=true)(b:findIn K (.ref C) "__init__"=some (some (.ref f)))(e:isFn K (.ref f)=true)(c:keepIn K (.ref C)=true)(d:Binds K g ps []):Mr P w K h base k C ps sp:=⟨f,g,a,⟨m,b,e,c⟩,d⟩
end L2
namespace Hw
open PySem L2
end Hw
namespace L3
open PySem L2 Hw
noncomputable def qU:aN->Nat
 |.cmp _ _ _=>0 | .neg _=>1 | .con true _=>2 | .con false _=>3
noncomputable def Be (A:Ad):Nat->Addr
 |0=>A.bX | 1=>A.cZ | 2=>A.eX | _=>A.gX
mutual
noncomputable def aN.sz:aN->Nat
 |.cmp _ _ _=>1
 |.neg c=>c.sz+1
 |.con _ a=>wL a+1
noncomputable def wL:List aN->Nat
 |[]=>0
 |c::r=>c.sz+wL r
end
mutual
theorem jL:∀c:aN,c.sums.length<=2*c.sz
 |.cmp a s b=>by unfold aN.sums aN.sz;exact jam _
 |.neg c=>by unfold aN.sums aN.sz;have:=jL c;lia
 |.con k d=>by unfold aN.sums aN.sz;have:=mS d;lia
theorem mS:∀l:List aN,(fj l).length<=2*wL l
 |[]=>jam _
 |c::r=>by unfold fj wL;rw[jab];have:=jL c;have:=mS r;lia
end
def Wt (c:aN):1<=c.sz:=by cases c<;>(unfold aN.sz;lia)
theorem vW:∀l:List aN,l.length<=wL l
 |[]=>jam _
 |c::r=>by unfold wL;rw[jak];have:=Wt c;have:=vW r;lia
theorem wK:∀{l:List aN},c∈l->c.sz<=wL l
 |d::r,h=>by
  unfold wL;rcases jah.mp h with rfl | h
  .lia
  .have:=wK h;lia
theorem Bx:∀l m:List aN,wL (l++m)=wL l+wL m
 |[],m=>by simp[wL]
 |c::r,m=>by rw[jbb,wL,wL,Bx];lia
def Sm.few (s:Sm):Prop:=s.1.length<=4
def aN.few (c:aN):Prop:=c.sz<=7/\∀s∈c.sums,s.few
mutual
def uf:aN->Prop
 |.cmp _ s _=>s∈signs
 |.neg c=>uf c
 |.con _ a=>Qk a/\a.length<=3
def Qk:List aN->Prop
 |[]=>True
 |c::r=>uf c/\Qk r
end
structure iT (N:List Str)(s:Sm):Prop where
 few:s.1.length<=2
 mem:∀x∈s.aU,x∈N
 num:-(2 ^ 63)<s.2/\s.2<2 ^ 63
structure dJ (N:List Str)(c:aN):Prop where
 dep:c.dep<2
 sz:c.sz<=4
 sg:uf c
 mem:∀s∈c.sums,iT N s
def dJ.few (h:dJ N c):c.few:=⟨by have:=h.sz;lia,λs a=>by have:=(h.mem s a).few;show s.1.length<=4;lia⟩
def iT.four {s:Sm}(h:iT N s):s.few:=by have:=h.few;show s.1.length<=4;lia
abbrev Zy (N:jcI)(r:Str):Prop:=r.length<=20/\hsh r∈N
def Uj (x:Str):Prop:=qB x\/∃r,x=hsh r/\r.length<=20
abbrev ZD (N:jcI)(x:Str):Prop:=qB x/\x∈N
mutual
def bP (N:jcI):ah->Prop
 |.lt _ x s=>ZD N x/\iT N s
 |.dv _ x g s b=>ZD N x/\(g="div"\/g="mod")/\iT N s/\iT N b
 |.ft _ x r p=>ZD N x/\Zy N r/\iT N p
 |.pt _ r p s=>Zy N r/\iT N p/\iT N s
 |.mq _ r z=>Zy N r/\iT N z
 |.cm _ c=>dJ N c
 |.ch _ c t e=>dJ N c/\cU N t/\cU N e/\t.length<=2/\e.length<=1
 |.rp a c d f b=>dJ N c/\d.length<=2/\(∀p∈d,dJ N p.2)/\(∀p,f=some p->iT N p.2)/\cU N b/\b.length<=2/\a.natAbs<=1000000
def cU (N:jcI):List ah->Prop
 |[]=>True
 |c::r=>bP N c/\cU N r
end
theorem bH:∀{l:List ah},cU N l->c∈l->bP N c
 |d::r,h,m=>by
  rcases jah.mp m with rfl | m
  .exact h.1
  .exact bH h.2 m
theorem fk:∀{l:List ah},(∀c∈l,bP N c)->cU N l
 |[],_=>by unfold cU;trivial
 |c::r,h=>by unfold cU;exact⟨h c jay,fk λx a=>h x (jav _ a)⟩
theorem eT:∀{l:List ah},c∈l->c.dp<=jv l
 |d::r,h=>by
  rcases jah.mp h with rfl | h
  .exact Nat.le_max_left _ _
  .exact jai (eT h) (Nat.le_max_right _ _)
def fP (c:ah):1<=c.dp:=by cases c<;>(unfold ah.dp;lia)
noncomputable def ah.Dm:ah->List (List ah)
 |.ch _ _ t e=>[t,e]
 |.rp _ _ _ _ b=>[b]
 |_=>[]
section
variable (K:Frag)(A:Ad)
inductive Dk (C:Addr) (ns:List Str) (ds:List D) (S:av) (k:KD):Prop
 |mk (n:Nat) (l:List T) (h0:ds=.ob n::l.map .t) (h1:l.length=ns.length) (h2:S[n]?=some (.ins C [] [])) (h3:k .cP (S.set n (.ins C ns (l.map .t))))
inductive Gs (C:Addr) (ds:List D) (S:av) (k:KD):Prop
 |mk (n:Nat) (d:D) (l:List T) (h0:ds=[.ob n,d]) (h1:S[n]?=some (.ins C [] [])) (h2:xq S d=some l) (h3:k .cP (S.set n (.ins C ["conditions"] ([.tup l].map .t))))
inductive MH (ds:List D) (S:av) (k:KD):Prop
 |mk (n:Nat) (x:T) (C:Addr) (h0:ds=[.ob n,.t x]) (h1:S[n]?=some (.ins C [] [])) (h2:ko K C "at") (h3:k .cP (S.set n (.ins C ["at"] ([x].map .t))))
inductive MJ (ds:List D) (S:av) (k:KD):Prop
 |mk (a b:Sm) (h0:ds=[.t (fD A a),.t (fD A b)]) (h1:a.1.length+b.1.length<64) (h2:k (.t (fD A (a.plus b))) S)
inductive H9 (ds:List D) (S:av) (k:KD):Prop
 |mk (a:Sm) (m:Int) (h0:ds=[.t (fD A a),.int m]) (h1:a.1.length<64) (h2:(-(2 ^ 64)<m/\m<2 ^ 64)) (h3:k (.t (fD A (a.times m))) S)
inductive MM (ds:List D) (S:av) (k:KD):Prop
 |mk (a b:Sm) (h0:ds=[.t (fD A a),.t (fD A b)]) (h1:a.1.length+b.1.length<64) (h2:k (.t (fD A (a.less b))) S)
inductive UG  (ds:List D) (S:av) (k:KD):Prop
 |mk (a:Sm) (h0:ds=[.t (fD A a)]) (h1:a.1.length<64) (h2:k (.t (gU a.aU)) S)
inductive BC  (ds:List D) (S:av) (k:KD):Prop
 |mk (a:Sm) (h0:ds=[.t (fD A a)]) (h1:k (.t (qG a)) S)
inductive fE (n j:Nat) (ds:List D) (S:av) (k:KD):Prop
 |mk (c:aN) (h0:ds=[.t (dZ A c)]) (h1:qU c=j) (h2:c.dep<n) (h3:c.sz<=40) (h4:k (.t (je c)) S)
inductive mX (n j:Nat) (ds:List D) (S:av) (k:KD):Prop
 |mk (c:aN) (h0:ds=[.t (dZ A c)]) (h1:qU c=j) (h2:c.dep<n) (h3:c.sz<=40) (h4:k (.lst (c.sums.map (fD A))) S)
inductive MF (n:Nat) (j:Nat) (ds:List D) (S:av) (k:KD):Prop
 |mk (c:aN) (h0:ds=[.t (dZ A c)]) (h1:qU c=j) (h2:c.dep<n) (h3:c.few) (h4:k (.t (gU c.aU)) S)
inductive ji (n j:Nat) (ds:List D) (S:av) (k:KD):Prop
 |mk (s:ah) (N:List Str) (h0:ds=[.t (bA A s)]) (h1:kd s=j) (h2:bP N s) (h3:k (.t (gU s.us)) S)
inductive iK (j:Nat) (ds:List D) (S:av) (k:KD):Prop
 |mk (s:ah) (N:List Str) (h0:ds=[.t (bA A s)]) (h1:kd s=j) (h2:bP N s) (h3:k (.t (gU (uo s))) S)
inductive DT (j:Nat) (ds:List D) (S:av) (k:KD):Prop
 |mk (s:ah) (h0:ds=[.t (bA A s)]) (h1:kd s=j) (h2:k (.tup (s.Dm.map λl=>.tup (l.map (bA A)))) S)
inductive qP (n j:Nat) (ds:List D) (S:av) (k:KD):Prop
 |mk (c:aN) (h0:ds=[.t (dZ A c)]) (h1:qU c=j) (h2:c.dep<n) (h3:uf c) (h4:k (.t (dZ A c.iZ)) S)
inductive Ii  (ds:List D) (S:av) (k:KD):Prop
 |mk (x:Str) (h0:ds=[.str x]) (h1:x.length<=1000) (h2:k (.str (hsh x)) S)
inductive Il  (ds:List D) (S:av) (k:KD):Prop
 |mk (x:Str) (h0:ds=[.str x]) (h1:k (.bl (Txt.startswith x "#")) S)
end
def i7 (A:Ad)(S:av)(c:aN):∃ns l,iq S (.t (dZ A c))=some (Be A (qU c),ns,l)/\ns.contains "told"=false/\ns.contains "things"=false/\ns.contains "all_sums"=false:=by
 cases c with
 |cmp a s b=>exact⟨_,_,by rfl,by symm,by symm,by symm⟩
 |neg c=>exact⟨_,_,by rfl,by symm,by symm,by symm⟩
 |con k d=>
  cases k with
  |true=>exact⟨_,_,by rfl,by symm,by symm,by symm⟩
  |false=>exact⟨_,_,by rfl,by symm,by symm,by symm⟩
def EY (A:Ad)(S:av)(s:ah):∃ns l,iq S (.t (bA A s))=some (qI A (kd s),ns,l)/\ns.contains "told"=false/\ns.contains "uses"=false/\ns.contains "blocks"=false/\ns.contains "writes"=false/\(ns.zip l).lookup ("at":Str)=some (D.int s.at_):=by
 cases s<;>exact⟨_,_,by rfl,by symm,by symm,by symm,by symm,M⟩
def dh (c:aN):qU c<4:=by
 cases c with
 |cmp a s b=>show 0<4;decide
 |neg c=>show 1<4;decide
 |con k d=>cases k<;>(first | (show 2<4;decide) | (show 3<4;decide))
def pV (s:ah):kd s<9:=by cases s<;>simp[kd]
def ln1 (h:l.length=1):∃a,l=[a]:=by
 match l,h with
 |[a],_=>exact⟨a,M⟩
def ln2 (h:l.length=2):∃a b,l=[a,b]:=by
 match l,h with
 |[a,b],_=>exact⟨a,b,M⟩
def ln3 (h:l.length=3):∃a b c,l=[a,b,c]:=by
 match l,h with
 |[a,b,c],_=>exact⟨a,b,c,M⟩
def ln4 (h:l.length=4):∃a b c d,l=[a,b,c,d]:=by
 match l,h with
 |[a,b,c,d],_=>exact⟨a,b,c,d,M⟩
def ln5 (h:l.length=5):∃a b c d e,l=[a,b,c,d,e]:=by
 match l,h with
 |[a,b,c,d,e],_=>exact⟨a,b,c,d,e,M⟩
def vI {S:av}(h:i<S.length):(S.set i o)[i]?=some o:=jaG h
def eS (h:loc[j]?=some (.lst l)):lq (S++loc) (.ob (S.length+j))=some l:=by
 show(match(S++loc)[S.length+j]? with | some (.lst l)=>some l | _=>none)=some l;rw[dD,h]
theorem kr:∀l m:List aN,fj (l++m)=fj l++fj m
 |[],m=>rfl
 |c::r,m=>by rw[jbb,fj,fj,kr,jaQ]
def bB (s:Sm):s.aU.length=s.1.length:=by unfold Sm.aU;rw[jac]
theorem jt:∀{l:List Sm}{n:Nat},(∀s∈l,s.1.length<=n)->(l.map Sm.aU).flatten.length<=n*l.length
 |[],_,_=>jaD _
 |a::r,n,h=>by
  have d:=jt λs b=>h s (jav _ b);have c:=h a jay;have e:=bB a;rw[jas,jaW,jab,jak,Nat.mul_succ];lia
def Zb (h:dJ N c):(c.sums.map Sm.aU).flatten.length<=16:=by
 have d:=jt λs a=>(h.mem s a).few;have b:=jL c;have e:=h.sz;lia
def yY (h:dJ N c):c.aU.length<=16:=jai (oj _) (Zb h)
theorem yZ (h:dJ N c):∀y∈c.aU,y∈N:=λy a=>by
 obtain⟨l,d,a⟩:=jaZ.mp (cW.mp a);obtain⟨s,b,rfl⟩:=jaq.mp d;exact(h.mem s b).mem y a
def a0d {s:ah}(h:bP N s):s.us.length<=16/\∀x∈s.us,x∈N:=by
 cases s with
 |lt a x s=>
  have:=h.2.few;have:=bB s;exact⟨by simp[ah.us];lia,λy d=>by
   rcases jah.mp d with rfl | d
   .exact h.1.2
   .exact h.2.mem y d⟩
 |dv a x l s b=>
  obtain⟨j,i,g,k⟩:=h;have:=g.few;have:=k.few;have:=bB s;have:=bB b;exact⟨by simp[ah.us];lia,λy d=>by
   rcases jah.mp d with rfl | d
   .exact j.2
   .rcases jan.mp d with d | d
    .exact g.mem y d
    .exact k.mem y d⟩
 |ft a x r p=>
  obtain⟨j,i,g⟩:=h;have:=g.few;have:=bB p;exact⟨by simp[ah.us];lia,λy d=>by
   rcases jah.mp d with rfl | d
   .exact j.2
   .rcases jah.mp d with rfl | d
    .exact i.2
    .exact g.mem y d⟩
 |pt a r p s=>
  obtain⟨j,i,g⟩:=h;have:=i.few;have:=g.few;have:=bB p;have:=bB s;exact⟨by simp[ah.us];lia,λy d=>by
   rcases jah.mp d with rfl | d
   .exact j.2
   .rcases jan.mp d with d | d
    .exact i.mem y d
    .exact g.mem y d⟩
 |mq a r z=>
  have:=h.2.few;have:=bB z;exact⟨by simp[ah.us];lia,λy d=>by
   rcases jah.mp d with rfl | d
   .exact h.1.2
   .exact h.2.mem y d⟩
 |cm a c=>unfold bP at h;exact⟨yY h,yZ h⟩
 |ch a c t e=>unfold bP at h;exact⟨yY h.1,yZ h.1⟩
 |rp a c m f b=>unfold bP at h;exact⟨yY h.1,yZ h.1⟩
def Zr {s:ah}(h:bP N s):s.rows.length<=4/\(∀p∈s.rows,p.2.length<=16/\∀x∈p.2,x∈N):=by
 have k:=a0d h;cases s with
 |rp a c j f b=>
  unfold bP at h;obtain⟨e,l,g,i,_⟩:=h;refine⟨?_,λp d=>?_⟩
  .cases f<;>simp[ah.rows]<;>lia
  .rcases jan.mp (show p∈((a,c.aU)::j.map λp=>(p.1,p.2.aU))++_ from d) with d | d
   .rcases jah.mp d with rfl | d
    .exact⟨yY e,yZ e⟩
    .obtain⟨q,hq,rfl⟩:=jaq.mp d;exact⟨yY (g q hq),yZ (g q hq)⟩
   .cases f with
    |none=>cases d
    |some q=>
     rw[jag.mp d];have:=(i q M).few;have:=bB q.2;exact⟨by show q.2.aU.length<=16;lia,(i q M).mem⟩
 |_=>exact⟨by show 1<=4;decide,λp d=>by rw[jag.mp d];exact k⟩
theorem iF {α:Type}:∀{l:List (List α)},(∀x∈l,x.length<=n)->l.flatten.length<=n*l.length
 |[],_=>jaD _
 |a::r,h=>by
  have d:=iF λx b=>h x (jav _ b);have c:=h a jay;rw[jaW,jab,jak,Nat.mul_succ];lia
def C7 {s:ah}(h:bP N s):s.all.length<=64/\∀x∈s.all,x∈N:=by
 obtain⟨d,c⟩:=Zr h;unfold ah.all;refine⟨?_,λx a=>?_⟩
 .have:=iF (l:=s.rows.map (·.2)) λx a=>by
   obtain⟨p,b,rfl⟩:=jaq.mp a;exact(c p b).1
  rw[jac] at this;lia
 .obtain⟨l,hl,a⟩:=jaZ.mp a;obtain⟨p,b,rfl⟩:=jaq.mp hl;exact(c p b).2 x a
def Mb {s:ah}(h:bP N s):(uo s).length<=1/\∀x∈uo s,x∈N/\Uj x:=by
 cases s with
 |lt a x s=>unfold bP at h;exact⟨jam _,λy c=>by rw[jag.mp c];exact⟨h.1.2,.inl h.1.1⟩⟩
 |dv a x d s b=>unfold bP at h;exact⟨jam _,λy c=>by rw[jag.mp c];exact⟨h.1.2,.inl h.1.1⟩⟩
 |ft a x r p=>unfold bP at h;exact⟨jam _,λy c=>by rw[jag.mp c];exact⟨h.1.2,.inl h.1.1⟩⟩
 |mq a r z=>unfold bP at h;exact⟨jam _,λy c=>by rw[jag.mp c];exact⟨h.1.2,.inr ⟨r,M,h.1.1⟩⟩⟩
 |_=>exact⟨by simp[uo],λy c=>by cases c⟩
mutual
theorem a0c:∀{s:ah},bP N s->∀x∈jG s,bP N x
 |.ch a c t e,h,x,m=>by
  have d:=h;unfold bP at h;rw[jG] at m;rcases jah.mp m with rfl | m
  .exact d
  .rcases jan.mp m with m | m
   .exact jZ h.2.1 x m
   .exact jZ h.2.2.1 x m
 |.rp a c g f b,h,x,m=>by
  have d:=h;unfold bP at h;rw[jG] at m;rcases jah.mp m with rfl | m
  .exact d
  .exact jZ h.2.2.2.2.1 x m
 |.lt ..,h,x,m | .dv ..,h,x,m | .ft ..,h,x,m | .pt ..,h,x,m | .mq ..,h,x,m | .cm ..,h,x,m=>by rw[jG] at m;rw[jag.mp m];exact h
theorem jZ:∀{l:List ah},cU N l->∀x∈gT l,bP N x
 |[],_,x,m=>by rw[gT] at m;cases m
 |s::r,h,x,m=>by
  unfold cU at h;rw[gT] at m;rcases jan.mp m with m | m
  .exact a0c h.1 x m
  .exact jZ h.2 x m
end
noncomputable def wk:Nat->Nat
 |0=>0
 |d+1=>1+3*wk d
def HV (h:a<=b):wk a<=wk b:=by
 induction h with
 |refl=>exact jam _
 |step _ c=>rename_i m _;show wk a<=1+3*wk m;lia
mutual
theorem V9:∀{s:ah}{d:Nat},bP N s->s.dp<=d->(jG s).length<=wk d
 |.ch a c t e,0,h,hd=>absurd hd (by have:=fP (.ch a c t e);lia)
 |.ch a c t e,d+1,h,hd=>by
  unfold bP at h;unfold ah.dp at hd;have i:=kR (d:=d) h.2.1 (by lia);have k:=kR (d:=d) h.2.2.1 (by lia);have j:=jaC (wk d) h.2.2.2.1;have l:=jaC (wk d) h.2.2.2.2;rw[jG,wk,jak,jab];lia
 |.rp a c g f b,0,h,hd=>absurd hd (by have:=fP (.rp a c g f b);lia)
 |.rp a c g f b,d+1,h,hd=>by
  unfold bP at h;unfold ah.dp at hd;have i:=kR (d:=d) h.2.2.2.2.1 (by lia);have j:=jaC (wk d) h.2.2.2.2.2.1;rw[jG,wk,jak];lia
 |.lt ..,d,h,hd | .dv ..,d,h,hd | .ft ..,d,h,hd | .pt ..,d,h,hd | .mq ..,d,h,hd | .cm ..,d,h,hd=>by
  rw[jG];have:wk 1<=wk d:=HV (jai (fP _) hd);exact this
theorem kR:∀{l:List ah}{d:Nat},cU N l->jv l<=d->(gT l).length<=l.length*wk d
 |[],d,_,_=>by rw[gT];exact jaD _
 |s::r,d,h,hd=>by
  unfold cU at h;unfold jv at hd;have b:=V9 (d:=d) h.1 (by lia);have a:=kR (d:=d) h.2 (by lia);rw[gT,jab,jak,jbn];lia
end
def tN {l:jcI}:∀{m:jcI},l.Nodup->(∀x∈l,x∈m)->l.length<=m.length:=by
 induction l with
 |nil=>intro m _ _;exact jaD _
 |cons a r i=>
  intro m h b;obtain⟨f,g⟩:=jbv.mp h;have d:=b a jay;have:=i g λx c=>(List.mem_erase_of_ne λ(e:x=a)=>f (e ▸ c)).mpr (b x (jav _ c));rw[List.length_erase_of_mem d] at this;have:=List.length_pos_of_mem d;rw[jak];lia
def ME (l:jcI):(sU l).Nodup:=(mU _).imp λ{a b} c=>Vd c
def iC (h:cU N l)(d:N.length<=8):(dY l).length<=8/\∀x∈dY l,x∈N/\Uj x:=by
 have b:∀x∈dY l,x∈N/\Uj x:=λx a=>by
  obtain⟨m,b,a⟩:=jaZ.mp (cW.mp a);obtain⟨s,c,rfl⟩:=jaq.mp b;exact(Mb (jZ h s c)).2 x a
 exact⟨jai (tN (ME _) λx a=>(b x a).1) d,b⟩
def fN (x:Str):(aQ x).length<=2:=by unfold aQ;split<;>simp
theorem fX:∀l:jcI,((l.map aQ).flatten).length<=2*l.length
 |[]=>jam _
 |a::r=>by
  rw[jas,jaW,jab,jak];have:=fX r;have:=fN a;lia
theorem bu (a:Str):∀(p:List bN)(l:List (Int×aN)),(aq a p l).1.length=l.length
 |p,[]=>rfl
 |p,q::r=>by unfold aq;rw[jak,bu a _ r];rfl
theorem dm (a:Str):∀(p:List bN)(l:List (Int×aN)),(aq a p l).2.length=p.length+l.length
 |p,[]=>rfl
 |p,q::r=>by unfold aq;rw[dm a _ r,jab,jak,jak];simp;lia
theorem iz (b:Str):∀(p:List bN)(l:List (Int×aN)) (q:Int×aN),(aq b p (l++[q])).1=(aq b p l).1++[vn b q.1 (aq b p l).2 q.2]
 |p,[],q=>rfl
 |p,a::r,q=>by rw[jbb];unfold aq;rw[iz b _ r q];rfl
theorem iy (b:Str):∀(p:List bN)(l:List (Int×aN)) (q:Int×aN),(aq b p (l++[q])).2=(aq b p l).2++[bN.hd q.2]
 |p,[],q=>rfl
 |p,a::r,q=>by rw[jbb];unfold aq;rw[iy b _ r q]
def wj (a:Int)(f:Option (Int×Sm)):(KZ a f).length<=1:=by cases f<;>simp[KZ]
def zk (a:Int)(f:Option (Int×Sm))(p:List bN):(iI a f p).1.length<=1:=by cases f<;>simp[iI]
def zj (a:Int)(f:Option (Int×Sm))(p:List bN):(iI a f p).2.length<=p.length+2:=by cases f<;>simp[iI]
def rH (h:cU N b)(a:N.length<=8)(e:hs.length<=2):(jH p hs b).length<=p.length+20:=by
 have d:=fX (dY b);have c:=(iC h a).1;unfold jH;rw[jab,jab,dm,jac];lia
def E8 (a:Int)(hs:List (Int×aN))(f:Option (Int×Sm))(q:List bN)(b:hs.length<=2):(fK a hs f q).length<=3:=by
 have:=wj a f;unfold fK;rw[jab,bu,bu];lia
def CH (p:List bN)(s:ah):(gW p s).1.length<=1/\(gW p s).2.length<=p.length+8:=by
 cases s with
 |dv a x c s b=>
  simp only[gW,K5];have:=fN x;have:=fN "^^";refine⟨jam _,?_⟩;split<;>simp only[jab,jak,jaI]<;>lia
 |ft a x r z=>have:=fN x;refine⟨jam _,?_⟩;simp only[gW,jab,jak,jaI];lia
 |_=>refine⟨by simp[gW],?_⟩;simp[gW]
noncomputable def mx:Nat->Nat
 |0=>0
 |d+1=>26+2*mx d
noncomputable def ml:Nat->Nat
 |0=>0
 |d+1=>if d=0 then 6 else 53+18*ml d
def X0 (d:Nat):ml (d+1)=if d=0 then 6 else 53+18*ml d:=by rw[ml]
def SI (h:a<=b):mx a<=mx b:=by
 induction h with
 |refl=>exact jam _
 |step _ c=>rename_i m _;show mx a<=26+2*mx m;lia
def SM (h:a<=b):ml a<=ml b:=by
 induction h with
 |refl=>exact jam _
 |step _ c=>
  rename_i m _;rw[X0];by_cases q:m=0
  .subst q;rw[show ml 0=0 from rfl] at c;rw[jaf rfl];lia
  .rw[jae q];lia
def Oj {s:ah}(h:s.dp<=d):26<=mx d:=jai (show 26<=mx 1 by decide) (SI (jai (fP s) h))
def X3 {s:ah}(h:s.dp<=d):6<=ml d:=jai (show 6<=ml 1 by decide) (SM (jai (fP s) h))
mutual
theorem Jg:∀{s:ah}{d:Nat}(p:List bN),bP N s->N.length<=8->s.dp<=d->∀q∈(jJ s p).2,q.length<=p.length+mx d
 |.ch a c t e,0,p,h,i,hd=>absurd hd (by have:=fP (.ch a c t e);lia)
 |.ch a c t e,d+1,p,h,i,hd=>λq g=>by
  unfold bP at h;unfold ah.dp at hd;have k:=jaC (mx d) h.2.2.2.1;have j:=jaC (mx d) h.2.2.2.2;rw[jJ] at g;unfold mx;rcases jan.mp g with g | g
  .have:=iN (d:=d) (ps:=[p++[.hd c]]) (m:=p.length+1) h.2.1 i (by lia) (by simp) q g;lia
  .have:=iN (d:=d) (ps:=[p++[.hd c.iZ]]) (m:=p.length+1) h.2.2.1 i (by lia) (by simp) q g;lia
 |.rp a c hs f b,0,p,h,i,hd=>absurd hd (by have:=fP (.rp a c hs f b);lia)
 |.rp a c hs f b,d+1,p,h,i,hd=>λq g=>by
  unfold bP at h;have:=rH (p:=p) (hs:=hs) h.2.2.2.2.1 i h.2.1;rw[jJ] at g;rw[jag.mp g,jab];unfold mx;show _+1<=_;lia
 |.lt ..,d,p,h,i,hd | .dv ..,d,p,h,i,hd | .ft ..,d,p,h,i,hd | .pt ..,d,p,h,i,hd | .mq ..,d,p,h,i,hd | .cm ..,d,p,h,i,hd=>λq g=>by
  rw[jJ] at g;rw[jag.mp g];exact jai (CH p _).2 (by have:=Oj hd;lia)
theorem iN:∀{l:List ah}{d m:Nat}{ps:List (List bN)},cU N l->N.length<=8->jv l<=d->(∀p∈ps,p.length<=m)->∀q∈(bw l ps).2,q.length<=m+l.length*mx d
 |[],d,m,ps,_,_,_,b=>λq a=>by rw[bw] at a;have:=b q a;lia
 |s::r,d,m,ps,h,hN,hd,b=>λq a=>by
  unfold cU at h;unfold jv at hd;rw[dP] at a;have f:∀p∈(pW s ps).2,p.length<=m+mx d:=λx c=>by
   obtain⟨l,g,c⟩:=jaZ.mp (show x∈(ps.map λp=>(jJ s p).2).flatten from c);obtain⟨p,e,rfl⟩:=jaq.mp g;have:=Jg p h.1 hN (by lia:s.dp<=d) x c;have:=b p e;lia
  have:=iN (d:=d) h.2 hN (by lia) f q a;rw[jak,jbn];lia
end
structure LgB (d m k:Nat)(g:List (Option iX)×List (List bN)):Prop where
 e:g.1.length<=k
 p:∀q∈g.2,q.length<=m
def I0 (d:∀p∈ps,LgB 0 m k (f p))(g:ps.length<=e):LgB 0 m (e*k+1) (AY f ps)/\(AY f ps).2.length<=16:=by
 have n:((ps.map λp=>(f p).1).flatten).length<=k*ps.length:=by
  have:=iF λx j=>by
   obtain⟨p,b,rfl⟩:=jaq.mp j;exact(d p b).e
  rwa[jac] at this
 have c:∀q∈(ps.map λp=>(f p).2).flatten,q.length<=m:=λq a=>by
  obtain⟨l,i,a⟩:=jaZ.mp a;obtain⟨p,b,rfl⟩:=jaq.mp i;exact(d p b).p q a
 have o:k*ps.length<=e*k:=by rw[Nat.mul_comm];exact jaC _ g
 unfold AY;split
 .refine⟨⟨by rw[jab,ja0];lia,λq a=>c q (jcy a)⟩,?_⟩;rw[jbF];lia
 .exact⟨⟨by show(List.flatten _).length<=_;lia,c⟩,by rename_i h;exact Nat.le_of_not_lt h⟩
mutual
theorem KC:∀{s:ah}{d:Nat}(p:List bN),bP N s->N.length<=8->s.dp<=d->LgB 0 (p.length+mx d) (ml d) (gz s p)/\(gz s p).2.length<=32
 |.ch a c t e,0,p,h,g,hd=>absurd hd (by have:=fP (.ch a c t e);lia)
 |.ch a c t e,d+1,p,h,g,hd=>by
  unfold bP at h;unfold ah.dp at hd;have C:=jaC (mx d) h.2.2.2.1;have D:=jaC (mx d) h.2.2.2.2;obtain⟨v,A⟩:=Oz (d:=d) (p:=p++[.hd c]) h.2.1 g (by lia) h.2.2.2.1;obtain⟨E,L⟩:=Oz (d:=d) (p:=p++[.hd c.iZ]) h.2.2.1 g (by lia) (jai h.2.2.2.2 (by decide));have M:=(uZ (d:=d) (m:=p.length+1) (ps:=[p++[.hd c.iZ]]) h.2.2.1 g (by lia) (by simp) (by simp)).1.e;have G:e.length*(1*ml d+1)<=1*(1*ml d+1):=jaC _ h.2.2.2.2;have F:(bh e [p++[.hd c.iZ]]).1.length<=ml d+1:=by
   match e,h.2.2.2.2,h.2.2.1 with
   |[],_,_=>rw[bh];exact jaD _
   |[x],_,u=>
    unfold cU at u;have y:x.dp<=d:=by unfold jv at hd;unfold jv at hd;lia
    have:=(I0 (f:=gz x) (ps:=[p++[.hd c.iZ]]) (m:=(p.length+1)+mx d) (k:=ml d) (e:=1) (λq i=>by rw[jag.mp i];have:=(KC (d:=d) (p++[.hd c.iZ]) u.1 g y).1;simpa using this) (by simp)).1.e;rw[dj,bh];simpa using this
  rw[gz,X0];unfold mx;refine⟨⟨?_,λq i=>?_⟩,?_⟩
  .show List.length (_++_)<=_;rw[jab];have:=v.e;by_cases j:d=0
   .rw[jaf j];subst j;rw[show ml 0=0 from rfl] at this F;lia
   .rw[jae j];lia
  .have w:(p++[bN.hd c]).length=p.length+1:=by simp
   have z:(p++[bN.hd c.iZ]).length=p.length+1:=by simp
   rcases jan.mp i with i | i
   .have:=v.p q i;lia
   .have:=E.p q i;lia
  .show List.length (_++_)<=_;rw[jab];lia
 |.rp a c hs f b,0,p,h,g,hd=>absurd hd (by have:=fP (.rp a c hs f b);lia)
 |.rp a c hs f b,d+1,p,h,g,hd=>by
  unfold bP at h;unfold ah.dp at hd;obtain⟨B,o,C,D,w,z,O⟩:=h;have I:=rH (p:=p) (hs:=hs) w g o;obtain⟨v,A⟩:=Oz (d:=d) (p:=(iI a f (jH p hs b++[.hd c])).2) w g (by lia) z;have H:=zk a f (jH p hs b++[.hd c]);have J:(((bh b [(iI a f (jH p hs b++[.hd c])).2]).2.map (fK a hs f)).flatten).length<=3*16:=by
   have:=iF (n:=3) (l:=(bh b [(iI a f (jH p hs b++[.hd c])).2]).2.map (fK a hs f)) λx u=>by
    obtain⟨q,_,rfl⟩:=jaq.mp u;exact E8 a hs f q o
   rw[jac] at this;lia
  rw[gz,X0];unfold mx;refine⟨⟨?_,λq i=>?_⟩,by show 1<=32;decide⟩
  .show List.length (_++(_++(_++_)))<=_;rw[jab,jab,jab,jac,jac,jac,bu];have:=v.e;by_cases j:d=0
   .have hb:b=[]:=by
     cases b with
     |nil=>rfl
     |cons x r=>have:=fP x;unfold jv at hd;lia
    subst hb;have K:=E8 a hs f (iI a f (jH p hs []++[.hd c])).2 o;rw[jaf j,bh];simp only[jas,jaX,jaW,jbG,jaw,jaI];lia
   .rw[jae j];lia
  .rw[jag.mp i,jab];show _+1<=_;lia
 |.lt ..,d,p,h,g,hd | .dv ..,d,p,h,g,hd | .ft ..,d,p,h,g,hd | .pt ..,d,p,h,g,hd | .mq ..,d,p,h,g,hd | .cm ..,d,p,h,g,hd=>by
  rw[gz];have B:=Oj hd;have o:=X3 hd;refine⟨⟨?_,λq i=>?_⟩,by show 1<=32;decide⟩
  .rw[jac];exact jai (CH p _).1 (by lia)
  .rw[jag.mp i];exact jai (CH p _).2 (by lia)
theorem Oz:∀{l:List ah}{d:Nat}{p:List bN},cU N l->N.length<=8->jv l<=d->l.length<=2->LgB 0 (p.length+2*mx d) (17*ml d+2) (bh l [p])/\(bh l [p]).2.length<=16
 |[],d,p,_,_,_,_=>by rw[bh];exact⟨⟨jaD _,λq a=>by rw[jag.mp a];lia⟩,by show 1<=16;decide⟩
 |[s],d,p,h,c,hd,_=>by
  unfold cU at h;unfold jv at hd;have b:=I0 (f:=gz s) (ps:=[p]) (m:=p.length+mx d) (k:=ml d) (e:=1) (λq a=>by rw[jag.mp a];exact(KC p h.1 c (by lia)).1) (by simp);rw[dj,bh];refine⟨⟨?_,λq a=>by have:=b.1.p q a;lia⟩,b.2⟩;show List.length (_++[])<=_;rw[jaw];have:=b.1.e;lia
 |[s,u],d,p,h,c,hd,_=>by
  unfold cU at h;unfold jv at hd;have b:=I0 (f:=gz s) (ps:=[p]) (m:=p.length+mx d) (k:=ml d) (e:=1) (λq a=>by rw[jag.mp a];exact(KC p h.1 c (by lia)).1) (by simp);have g:=uZ (d:=d) (m:=p.length+mx d) h.2 c (by lia) b.1.p b.2;rw[dj];refine⟨⟨?_,λq a=>by have:=g.1.p q a;rw[ja0] at this;lia⟩,g.2⟩;show List.length (_++_)<=_;rw[jab];have:=b.1.e;have:=g.1.e;rw[ja0] at this;lia
 |_::_::_::_,d,p,_,_,_,hl=>absurd hl (by simp)
theorem uZ:∀{l:List ah}{d m:Nat}{ps:List (List bN)},cU N l->N.length<=8->jv l<=d->(∀p∈ps,p.length<=m)->ps.length<=16->LgB 0 (m+l.length*mx d) (l.length*(16*ml d+1)) (bh l ps)/\(bh l ps).2.length<=16
 |[],d,m,ps,_,_,_,g,i=>by rw[bh];exact⟨⟨jaD _,λq a=>by have:=g q a;lia⟩,i⟩
 |s::r,d,m,ps,h,hN,hd,g,i=>by
  unfold cU at h;unfold jv at hd;have c:=I0 (f:=gz s) (ps:=ps) (m:=m+mx d) (k:=ml d) (e:=16) (λp a=>by
   have:=(KC p h.1 hN (by lia:s.dp<=d)).1;exact⟨this.e,λq j=>by have:=this.p q j;have:=g p a;lia⟩) i
  have b:=uZ (d:=d) (m:=m+mx d) h.2 hN (by lia) c.1.p c.2;rw[dj,jak,jbn,jbn];refine⟨⟨?_,λq a=>by have:=b.1.p q a;lia⟩,b.2⟩;show List.length (_++_)<=_;rw[jab];have:=c.1.e;have:=b.1.e;lia
end
mutual
noncomputable def eO:ah->jcI
 |.lt _ _ s=>s.aU
 |.dv _ _ _ s b=>s.aU++b.aU
 |.ft _ _ r p=>p.aU++[hsh r]
 |.pt _ r p s=>p.aU++s.aU++[hsh r]
 |.mq _ _ z=>z.aU
 |.cm _ c=>(c.sums.map Sm.aU).flatten
 |.ch _ c t e=>(c.sums.map Sm.aU).flatten++(dY (t++e)++(fH t++fH e))
 |.rp _ c a f b=>(c.sums.map Sm.aU).flatten++(a.map λp=>(p.2.sums.map Sm.aU).flatten).flatten++(match f with | none=>[] | some p=>p.2.aU)++(dY b++fH b)
noncomputable def fH:List ah->jcI
 |[]=>[]
 |s::r=>eO s++fH r
end
noncomputable def kU (l:List ah):jcI:=dY l++fH l
structure Dc (N:List Str)(h:oO):Prop where
 tl:((gT h.steps).map ah.all).flatten.length<=3800
 t2:(kU h.steps).length<=3800
 st:cU N h.steps
 sl:h.steps.length<=6
 dp:jv h.steps<=4
 nl:N.length<=8
 pl:h.params.length<=8/\h.answers.length<=2/\h.needs.length<=8/\h.gives.length<=8
 ps:∀x∈h.params,Uj x
 an:∀x∈h.answers,x∈N
 nd:∀p∈h.needs,dJ h.params p.2
 gv:∀p∈h.gives,dJ (h.params++h.answers) p.2
def Bk (A:Ad)(S:av)(b f:Nat)(c:T)(a:List iX):Prop:=S[b]?=some (.ins A.iS ["program","found"] [.t c,.ob f])/\S[f]?=some (.lst (a.map (CQ A)))
theorem Bk.ne {A:Ad}(h:Bk A S b f d c):b≠f:=λe=>by
 have a:=h.1;rw[e,h.2] at a;cases a
theorem Bk.put {A:Ad}(h:Bk A S b f a c)(ds:List iX):Bk A (S.set f (.lst (ds.map (CQ A)))) b f a ds:=
 ⟨by rw[jbl (jaE h.ne)];exact h.1,jaG (jar.mp h.2).1⟩
def Bk.up {A:Ad}(h:Bk A S b f c a):Bk A (S++loc) b f c a:=⟨i8 h.1,i8 h.2⟩
def set_same {S:av}(h:S[f]?=some o):S.set f o=S:=by
 obtain⟨b,a⟩:=jar.mp h;rw[<- a];exact List.set_getElem_self b
section
variable (K:Frag)(A:Ad)
inductive Ie  (ds:List D) (S:av) (k:KD):Prop
 |mk (d:D) (l:List (Int×aN)) (h0:ds=[d]) (h1:xq S d=some (l.map (atT A))) (h2:l.length<=100) (h3:k (.tup (l.map (atT A))) S)
inductive H8 (n:Nat) (ds:List D) (S:av) (k:KD):Prop
 |mk (l:List (Int×aN)) (h0:ds=[.tup (l.map (atT A))]) (h1:l.length<=100) (h2:(∀p∈l,p.2.dep<n/\p.2.sz<=40)) (h3:k (.tup (l.map Lu)) S)
inductive UO  (ds:List D) (S:av) (k:KD):Prop
 |mk (i:Nat) (a:Int) (x:Str) (d1 d2 d3 d4 d5:D) (h:oO) (h0:ds=[.ob i,.int h.at_,.str h.name,d1,d2,d3,d4,d5]) (h1:S[i]?=some (.ins A.fh [] [])) (h2:xq S d1=some (h.params.map T.str)) (h3:xq S d2=some (h.answers.map T.str)) (h4:xq S d3=some (h.needs.map (atT A))) (h5:xq S d4=some (h.gives.map (atT A))) (h6:xq S d5=some (h.steps.map (bA A))) (h7:h.needs.length<=100) (h8:h.gives.length<=100) (h9:k .cP (S.set i (.ins A.fh ["at","name","params","answers","needs","gives","steps"] ([.int h.at_,.str h.name,gU h.params,gU h.answers,.tup (h.needs.map (atT A)),.tup (h.gives.map (atT A)),.tup (h.steps.map (bA A))].map .t))))
inductive UJ  (ds:List D) (S:av) (k:KD):Prop
 |mk (i:Nat) (d:D) (hs:List oO) (h0:ds=[.ob i,d]) (h1:S[i]?=some (.ins A.cT [] [])) (h2:xq S d=some (hs.map (CG A))) (h3:k .cP (S.set i (.ins A.cT ["helpers"] ([.tup (hs.map (CG A))].map .t))))
inductive Ih  (ds:List D) (S:av) (k:KD):Prop
 |mk (x:Str) (h:oO) (hs:List oO) (h0:ds=[.t (Lo A hs),.str x]) (h1:hs.find? (λy=>decide (y.name=x))=some h) (h2:k (.t (CG A h)) S)
inductive US  (ds:List D) (S:av) (k:KD):Prop
 |mk (a b:Sm) (h0:ds=[.t (fD A a),.t (fD A b)]) (h1:k (.t (dZ A (zl a b))) S)
inductive UP  (ds:List D) (S:av) (k:KD):Prop
 |mk (a:Sm) (h0:ds=[.t (fD A a)]) (h1:k (.t (dZ A (CI a))) S)
inductive UN  (ds:List D) (S:av) (k:KD):Prop
 |mk (x:Str) (s:Sm) (h0:ds=[.str x,.t (fD A s)]) (h1:k (.t (ja A (.lt x s))) S)
inductive MX  (ds:List D) (S:av) (k:KD):Prop
 |mk (c:aN) (h0:ds=[.t (dZ A c)]) (h1:k (.t (ja A (.hd c))) S)
inductive Im  (ds:List D) (S:av) (k:KD):Prop
 |mk (l:List (Int×aN)) (h0:ds=[.tup (l.map (atT A))]) (h1:l.length<=100) (h2:k (.tup ((l.map λp=>bN.hd p.2).map (ja A))) S)
inductive Az  (ds:List D) (S:av) (k:KD):Prop
 |mk (x:Str) (h0:ds=[.str x]) (h1:k (.tup ((aQ x).map (ja A))) S)
inductive UR  (ds:List D) (S:av) (k:KD):Prop
 |mk (i:Nat) (pg:T) (h0:ds=[.ob i,.t pg]) (h1:S[i]?=some (.ins A.iS [] [])) (h2:k .cP (S.set i (.ins A.iS ["program","found"] [.t pg,.ob S.length])++[.lst []]))
inductive a0G  (ds:List D) (S:av) (k:KD):Prop
 |mk (s:ah) (r:Str) (p:Sm) (h0:ds=[.t (bA A s)]) (h1:((∃a x,s=.ft a x r p)\/∃a t,s=.pt a r p t)) (h2:r.length<=100) (h3:k (.t (dZ A (within r p))) S)
inductive MI  (ds:List D) (S:av) (k:KD):Prop
 |mk (i:Int) (h0:ds=[.int i]) (h1:(-(2 ^ 63)<i/\i<2 ^ 63)) (h2:k (.t (dZ A (quot i))) S)
noncomputable def clX:Nat->Addr
 |9=>A.fh
 |10=>A.jA
 |j=>qI A j
inductive Tx (n:Nat):T->T->Nat->Prop
 |s (s:ah) (N:List Str) (h:bP N s) (d:s.dp<n):Tx n (bA A s) (jM s) (kd s)
 |h (x:oO) (N:List Str) (h:Dc N x) (d:5<n):Tx n (CG A x) (Qt x) 9
 |m (s:Sm) (d:0<n):Tx n (fD A s) (qG s) 10
inductive kX (n j:Nat) (ds:List D) (S:av) (k:KD):Prop
 |mk (x y:_) (h0:ds=[.t x]) (h1:Tx A n x y j) (h2:k (.t y) S)
inductive i9 (n j:Nat) (ds:List D) (S:av) (k:KD):Prop
 |mk (s:ah) (N:List Str) (h0:ds=[.t (bA A s)]) (h1:kd s=j) (h2:bP N s) (h3:s.dp<n+1) (h4:k (.t (jM s)) S)
inductive wO (n:Nat) (ds:List D) (S:av) (k:KD):Prop
 |mk (h:oO) (N:List Str) (h0:ds=[.t (CG A h)]) (h1:Dc N h) (h2:5<n+1) (h3:k (.t (Qt h)) S)
inductive qO (n:Nat) (ds:List D) (S:av) (k:KD):Prop
 |mk (l:List (T×T)) (h0:ds=[.tup (l.map (·.1))]) (h1:l.length<=100) (h2:(∀p∈l,∃j,Tx A n p.1 p.2 j)) (h3:k (.tup (l.map (·.2))) S)
inductive DK  (ds:List D) (S:av) (k:KD):Prop
 |mk (hs:List oO) (h0:ds=[.t (Lo A hs)]) (h1:hs.length<=100) (h2:(∀h∈hs,∃N,Dc N h)) (h3:k (.tup (hs.map Qt)) S)
inductive UQ (ds:List D) (S:av) (k:KD):Prop
 |mk (i:Nat) (a:Int) (c:aN) (d1 d2:D) (t e:List ah) (h0:ds=[.ob i,.int a,.t (dZ A c),d1,d2]) (h1:S[i]?=some (.ins A.bg [] [])) (h2:xq S d1=some (t.map (bA A))) (h3:xq S d2=some (e.map (bA A))) (h4:k .cP (S.set i (.ins A.bg ["at","condition","then","other"] ([.int a,dZ A c,.tup (t.map (bA A)),.tup (e.map (bA A))].map .t))))
inductive UH (ds:List D) (S:av) (k:KD):Prop
 |mk (i:Nat) (a:Int) (c:aN) (f:T) (d1 d2:D) (hs:List (Int×aN)) (b:List ah) (h0:ds=[.ob i,.int a,.t (dZ A c),d1,.t f,d2]) (h1:S[i]?=some (.ins A.bx [] [])) (h2:xq S d1=some (hs.map (atT A))) (h3:hs.length<=100) (h4:xq S d2=some (b.map (bA A))) (h5:k .cP (S.set i (.ins A.bx ["at","condition","keeps","falls","body"] ([.int a,dZ A c,.tup (hs.map (atT A)),f,.tup (b.map (bA A))].map .t))))
inductive mV (q:Nat) (ds:List D) (S:av) (k:KD):Prop
 |mk (d:D) (l:List ah) (N:List Str) (h0:ds=[d]) (h1:xq S d=some (l.map (bA A))) (h2:cU N l) (h3:jv l<=q) (hq:q<=5) (h4:l.length<=6) (h5:k (.lst ((gT l).map (bA A))) S)
inductive DJ (ds:List D) (S:av) (k:KD):Prop
 |mk (s:ah) (N:List Str) (h0:ds=[.t (bA A s)]) (h1:bP N s) (h2:k (.lst (s.rows.map λp=>.tup [.int p.1,gU p.2])) S)
inductive Ig (ds:List D) (S:av) (k:KD):Prop
 |mk (h:oO) (N:List Str) (h0:ds=[.t (CG A h)]) (h1:Dc N h) (h2:k (.lst ((others h).map T.str)) S)
inductive UE (ds:List D) (S:av) (k:KD):Prop
 |mk (b:List ah) (N:List Str) (h0:ds=[.tup (b.map (bA A))]) (h1:cU N b) (h2:N.length<=8) (h3:jv b<=4) (h4:b.length<=6) (h5:k (.lst ((dY b).map T.str)) S)
inductive MW (ds:List D) (S:av) (k:KD):Prop
 |mk (p:T) (s:ah) (N:List Str) (h0:ds=[.t p,.t (bA A s)]) (h1:bP N s) (h2:k (.bl (jk s)) S)
inductive Ic (ds:List D) (S:av) (k:KD):Prop
 |mk (h:oO) (N:List Str) (h0:ds=[.t (CG A h)]) (h1:Dc N h) (h2:k (.tup ((cN h).map (ja A))) S)
inductive vX (q:Nat) (ds:List D) (S:av) (k:KD) (x:Prop):Prop
 |mk (l:List ah) (N:List Str) (h0:ds=[.tup (l.map (bA A))]) (h1:cU N l) (h2:jv l<=q) (h3:l.length<=6) (h4:Km l->k (.int (iV l:Nat)) S) (h5:¬ Km l->x)
inductive UK (ds:List D) (S:av) (k:KD) (x:Prop):Prop
 |mk (b f:Nat) (pg:T) (br:List iX) (p:List bN) (kn:Str) (a:Int) (c:aN) (h0:ds=[.ob b,.tup (p.map (ja A)),.str kn,.int a,.t (dZ A c)]) (h1:Bk A S b f pg br) (h2:br.length<=100) (h3:p.length<=6000) (h4:br.length<100->k (.tup ((p++[bN.hd c]).map (ja A))) (S.set f (.lst ((br++[vn kn a p c]).map (CQ A))))) (h5:br.length=100->x)
inductive MK (ds:List D) (S:av) (k:KD) (x:Prop):Prop
 |mk (b f:Nat) (pg:T) (br:List iX) (p:List bN) (kn:Str) (l:List (Int×aN)) (d:D) (h0:ds=[.ob b,.tup (p.map (ja A)),.str kn,d]) (hd:d=.tup (l.map (atT A))\/d=.lst (l.map (atT A))) (h1:Bk A S b f pg br) (h2:br.length<=100) (h3:p.length+l.length<=6000) (h4:br.length+l.length<=100->k (.tup ((aq kn p l).2.map (ja A))) (S.set f (.lst ((br++(aq kn p l).1).map (CQ A))))) (h5:100<br.length+l.length->x)
abbrev Qd (A:Ad)(S:av)(f:Nat)(br new:List iX)(k:av->Prop)(x:Prop):Prop:=(br.length+new.length<=100->k (S.set f (.lst ((br++new).map (CQ A)))))/\(100<br.length+new.length->x)
inductive Io (ok:ah->Prop) (ds:List D) (S:av) (k:KD) (x:Prop):Prop
 |mk (b f:Nat) (pg:T) (br:List iX) (p:List bN) (s:ah) (N:List Str) (h0:ds=[.ob b,.tup (p.map (ja A)),.t (bA A s)]) (h1:Bk A S b f pg br) (h2:br.length<=100) (h3:p.length<=5000) (h4:bP N s) (h5:ok s) (h6:Qd A S f br (gW p s).1 (λS'=>k (.tup ((gW p s).2.map (ja A))) S') x)
inductive JT (q:Nat) (ok:ah->Prop) (ds:List D) (S:av) (k:KD) (x:Prop):Prop
 |mk (b f:Nat) (pg:T) (br:List iX) (p:List bN) (s:ah) (N:List Str) (h0:ds=[.ob b,.tup (p.map (ja A)),.t (bA A s)]) (h1:Bk A S b f pg br) (h2:br.length<=100) (h3:p.length+mx q<=5000) (h4:bP N s) (hN:N.length<=8) (hq:s.dp<=q) (ho:AW s) (h5:ok s) (h6:Qd A S f br (jJ s p).1 (λS'=>k (.lst ((jJ s p).2.map λw=>.tup (w.map (ja A)))) S') x)
inductive wQ (q:Nat) (ds:List D) (S:av) (k:KD) (x:Prop):Prop
 |mk (b f:Nat) (pg:T) (br:List iX) (p:List bN) (l:List ah) (N:List Str) (own:Bool) (h0:ds=[.ob b,.tup (p.map (ja A)),.tup (l.map (bA A))]) (h1:Bk A S b f pg br) (h2:br.length<=100) (h3:p.length+l.length*mx q<=5000) (h4:cU N l) (hN:N.length<=8) (hq:jv l<=q) (ho:Km l) (hl:l.length<=6) (h6:Qd A S f br (bw l [p]).1 (λS'=>match own with | true=>k (.ob S'.length) (S'++[.lst ((bw l [p]).2.map λw=>.tup (w.map (ja A)))]) | false=>k (.lst ((bw l [p]).2.map λw=>.tup (w.map (ja A)))) S') x)
noncomputable def Rv (a:Int)(f:Option (Int×Sm))(hs:List (Int×aN))(b:List ah)(p:List bN):List iX:=(iI a f p).1++((bw b [(iI a f p).2]).1++((bw b [(iI a f p).2]).2.map (fK a hs f)).flatten)
inductive Ib (q:Nat) (ds:List D) (S:av) (k:KD) (x:Prop):Prop
 |mk (b f:Nat) (pg:T) (br:List iX) (p:List bN) (a:Int) (c:aN) (hs:List (Int×aN)) (fa:Option (Int×Sm)) (bd:List ah) (N:List Str) (h0:ds=[.ob b,.tup (p.map (ja A)),.t (bA A (.rp a c hs fa bd))]) (h1:Bk A S b f pg br) (h2:br.length<=100) (h3:p.length+2+2*mx q<=5000) (h4:bP N (.rp a c hs fa bd)) (hN:N.length<=8) (hq:jv bd<=q) (ho:Km bd) (h6:Qd A S f br (Rv a fa hs bd p) (λS'=>k .cP S') x)
inductive UI (q:Nat) (ds:List D) (S:av) (k:KD) (x:Prop):Prop
 |mk (b f:Nat) (pg:T) (br:List iX) (p:List bN) (a:Int) (c:aN) (hs:List (Int×aN)) (fa:Option (Int×Sm)) (bd:List ah) (N:List Str) (h0:ds=[.ob b,.tup (p.map (ja A)),.t (bA A (.rp a c hs fa bd))]) (h1:Bk A S b f pg br) (h2:br.length<=100) (h3:p.length+mx (q+1)<=5000) (h4:bP N (.rp a c hs fa bd)) (hN:N.length<=8) (hq:jv bd<=q) (ho:Km bd) (h6:Qd A S f br (jJ (.rp a c hs fa bd) p).1 (λS'=>k (.tup ((jH p hs bd++[bN.hd c.iZ]).map (ja A))) S') x)
def Qn (h:oO):Prop:=Km h.steps/\(gn h).length<=100
inductive Ip (ds:List D) (S:av) (k:KD) (x:Prop):Prop
 |mk (h:oO) (hs:List oO) (N:List Str) (h0:ds=[.t (Lo A hs),.str h.name]) (h1:hs.find? (λy=>decide (y.name=h.name))=some h) (h2:Dc N h) (h3:Qn h->k (.ob S.length) (S++[.lst ((gn h).map (CQ A))])) (h4:¬ Qn h->x)
end
def a19 (A:Ad)(S:av)(h:Tx A n x y j):∃ns l,iq S (.t x)=some (clX A j,ns,l)/\ns.contains "told"=false/\j<11:=by
 cases h with
 |s s N h d=>
  obtain⟨ns,l,b,a,_⟩:=EY A S s;have hk:=pV s;refine⟨ns,l,?_,a,by lia⟩;rw[b];have:clX A (kd s)=qI A (kd s):=by cases s<;>rfl
  rw[this]
 |m s=>exact⟨_,_,M,by symm,by decide⟩
 |h x N c d=>exact⟨_,_,M,by symm,by decide⟩
theorem a1y {A:Ad}:¬ Tx A 0 x y j:=λh=>by
 cases h with
 |s s N h d=>exact absurd d (Nat.not_lt_zero _)
 |h x N h d=>exact absurd d (Nat.not_lt_zero _)
 |m s d=>exact absurd d (ja4 _)
def Av (A:Ad)(S:av)(s:ah):tyD S (.t (bA A s))=some (.ref (qI A (kd s))):=by cases s<;>(unfold bA;rfl)
def iW {A:Ad}(b:∀j i,j<9->i<9->kitOne K (.ref (qI A j)) (.ref (qI A i))=some (decide (j=i)))(a:j<9)(c:i<9)(ne:j≠i):kitOne K (.ref (qI A j)) (.ref (qI A i))=some false:=by simp_all
def OB {A:Ad}(b:∀j i,j<9->i<9->kitOne K (.ref (qI A j)) (.ref (qI A i))=some (decide (j=i)))(a:j<9):kitOne K (.ref (qI A j)) (.ref (qI A j))=some true:=by simp_all
def tT {α β:Type}(f:α->List β)(g:β->T)(a:List α)(s:α):((a++[s]).map f).flatten.map g=(a.map f).flatten.map g++(f s).map g:=by simp
def jw {S:av}(h:k d a):closes S.length d a k:=.inr (.inr (.inr h))
def i6 (h:S[b]?=some (.ins C ns l)):iq S (.ob b)=some (C,ns,l):=by
 show(match S[b]? with | some (.ins C ns l)=>some (C,ns,l) | _=>none)=_;rw[h]
def jh (h:S[b]?=some (.lst l)):sq S (.ob b)=some l:=by
 show(match S[b]? with | some (.lst l)=>some l | _=>none)=_;rw[h]
def eZ (h:S[b]?=some (.lst l)):lq S (.ob b)=some l:=by
 show(match S[b]? with | some (.lst l)=>some l | _=>none)=_;rw[h]
def kQ (c:S[i]?=some (.ins C ns l))(h:xq S d=some m):xq (S.set i (.ins C a b)) d=some m:=by
 rcases wF h with rfl | h
 .rfl
 .have key:lq (S.set i (.ins C a b)) d=some m:=by
   unfold lq at h ⊢;split at h
   .exact h
   .rename_i n hq;have f:n≠i:=λe=>by subst e;rw[c] at h;cases h
    rw[jbl (jaE f)];exact h
   .cases h
  unfold xq;split
  .unfold lq at key;cases key
  .exact key
def ZO (h:a=b):xor false (decide (V.int a=V.int b))=true:=by rw[yE,jaB h];rfl
def Th (h:a≠b):xor false (decide (V.int a=V.int b))=false:=by simp_all
def seq (h:a=b):xor false (decide (V.str a=V.str b))=true:=by simp_all
def cF (h:a≠b):xor false (decide (V.str a=V.str b))=false:=by simp_all
def U0 (h:autoParam (a≠b) ka):D.bl (xor false (decide (V.str a=V.str b)))=D.bl false:=jao D.bl (cF h)
def UZ (h:autoParam (a=b) zi):D.bl (xor false (decide (V.str a=V.str b)))=D.bl true:=jao D.bl (seq h)
def qH (h:autoParam (a≠b) kb):D.bl (xor false (decide (V.int a=V.int b)))=D.bl false:=jao D.bl (Th h)
def IE (h:autoParam (a=b) kb):D.bl (xor false (decide (V.int a=V.int b)))=D.bl true:=jao D.bl (ZO h)
def a5q (h:a=b):xor true (decide (V.int a=V.int b))=false:=by simp_all
def a5n (h:a≠b):xor true (decide (V.int a=V.int b))=true:=by rw[yE,jau h];rfl
def JR:mK:=λ_ _ _=>False
def Js (A:Ad)(a b:Sm)(s:Str):dZ A (.cmp a s b)=.ins A.bX ["one","sign","other"] [fD A a,.str s,fD A b]:=by rw[dZ]
def Pd (L:Nat)(loc:av)(a:D)(m:List T):Prop:=a=.lst m\/∃q,a=.ob (L+q)/\loc[q]?=some (.lst m)
def bD {S:av}(h:S.length=L):(S++loc)[L+q]?=loc[q]?:=by subst h;exact dD
def Ov {S loc:av}(h:S.length=L):(S++(loc++[o]))[L+loc.length]?=some o:=by rw[bD h];simp
def SS (h:S.length=L):(S++(loc++[o])).set (L+loc.length) a=S++(loc++[a]):=by simp_all
def CB:(loc++[o])[loc.length]?=some o:=by simp
theorem Yw (h:Pd L loc e m)(i:d.length=L)
  (hk:∀G:av->Prop,(∀(b c:av),b.length=L->G (b++(loc++c)))->k (m.map .t) G (d++(loc++a))):EX e (d++(loc++a)) k:=by
 rcases h with rfl | ⟨q,rfl,g⟩
 .exact gC (hk _ λ_ _ _=>trivial)
 .have hz:∀b c:av,b.length=L->(b++(loc++c))[L+q]?=some (.lst m):=λb c f=>by rw[bD f];exact i8 g
  exact .inr ⟨_,m,M,hz _ _ i,hk _ hz⟩
theorem CW (c:Cl S):∀o∈S.set j (.lst l),Bd S.length o:=λo a=>by
 rcases List.mem_or_eq_of_mem_set a with h | rfl
 .exact c o h
 .trivial
def VH (h:Pd L loc d m)(b:a.length=L)(c:∀o∈a,Bd L o)(q:k (.lst m) a):closes L d (a++loc) k:=by
 rcases h with rfl | ⟨i,rfl,e⟩
 .exact .inl ⟨a,loc,M,b,c,trivial,q⟩
 .exact .inr (.inr (.inl ⟨_,m,a,loc,M,by lia,M,b,c,by rw[bD b];exact e,q⟩))
class Pf (t:cI) (f:outParam (Sl->av->Option D)):Prop where
 ok:∀Z S d (k:KD),f Z S=some d->k d S->t Z S k
class Zz (t:mH) (f:outParam (Sl->av->Option (List D))):Prop where
 ok:∀Z S d (k:List D->av->Prop),f Z S=some d->k d S->t Z S k
class Pr (r:zD) (g:outParam (D->D->av->Option D)):Prop where
 ok:∀a b S d (k:KD),g a b S=some d->k d S->r a b S k
noncomputable def a2E (i:Nat):Sl->av->Option D:=λZ _=>match Z[i]? with | some o=>o | none=>none
noncomputable def fC (d:D):Sl->av->Option D:=λ_ _=>some d
noncomputable def fOp (g:D->D->av->Option D)(d c:Sl->av->Option D):Sl->av->Option D:=λZ S=>match d Z S with | none=>none | some a=>match c Z S with | none=>none | some b=>g a b S
noncomputable def a58:Sl->av->Option (List D):=λ_ _=>some []
noncomputable def Vy (f:Sl->av->Option D)(r:Sl->av->Option (List D)):Sl->av->Option (List D):=λZ S=>match f Z S with | none=>none | some a=>match r Z S with | none=>none | some l=>some (a::l)
noncomputable def tlT (q:Bool)(l:List T):T:=match q with | true=>.tup l | false=>.lst l
noncomputable def fTs (q:Bool)(r:Sl->av->Option (List D)):Sl->av->Option D:=λZ S=>match r Z S with | none=>none | some a=>match ts? a with | none=>none | some l=>match Nat.ble l.length 1000 with | true=>some (.t (tlT q l)) | false=>none
instance (i:Nat):Pf (ur i) (a2E i):=⟨λZ S d k h hk=>by
 refine oe (a:=some d) ?_ hk;unfold a2E at h;split at h
 .rename_i o e;rw[e,h]
 .cases h⟩
instance (d:D):Pf (Mu d) (fC d):=⟨λZ S x k h hk=>by cases h;exact hk⟩
instance {r:zD} {g:D->D->av->Option D} {ta tb:cI} {fa fb:Sl->av->Option D} [p:Pr r g] [a:Pf ta fa] [b:Pf tb fb]:Pf (vj r ta tb) (fOp g fa fb):=⟨λZ S d k h hk=>by
 unfold fOp at h;split at h
 .cases h
 rename_i x e1;split at h
 .cases h
 rename_i y e2;exact a.ok Z S x _ e1 (b.ok Z S y _ e2 (p.ok x y S d k h hk))⟩
instance:Zz uv a58:=⟨λZ S d k h hk=>by cases h;exact hk⟩
instance {ta:cI} {tr:mH} {fa:Sl->av->Option D} {fr:Sl->av->Option (List D)} [a:Pf ta fa] [b:Zz tr fr]:Zz (mR ta tr) (Vy fa fr):=⟨λZ S d k h hk=>by
 unfold Vy at h;split at h
 .cases h
 rename_i x e1;split at h
 .cases h
 rename_i y e2;cases h;exact a.ok Z S x _ e1 (b.ok Z S y _ e2 hk)⟩
def O3 (h:fTs q r Z S=some d):∃ds l,r Z S=some ds/\ts? ds=some l/\Nat.ble l.length 1000=true/\d=.t (tlT q l):=by
 unfold fTs at h;split at h
 .cases h
 rename_i ds a;split at h
 .cases h
 rename_i l b;split at h
 .rename_i e3;cases h;exact⟨ds,l,a,b,e3,M⟩
 .cases h
instance {tr:mH} {fr:Sl->av->Option (List D)} [b:Zz tr fr]:Pf (HY tr) (fTs true fr):=⟨λZ S d k h hk=>by
 obtain⟨ds,l,e1,e2,e3,rfl⟩:=O3 h;exact b.ok Z S ds _ e1 (oe e2 (cn e3 hk))⟩
instance {tr:mH} {fr:Sl->av->Option (List D)} [b:Zz tr fr]:Pf (Uz tr) (fTs false fr):=⟨λZ S d k h hk=>by
 obtain⟨ds,l,e1,e2,e3,rfl⟩:=O3 h;exact b.ok Z S ds _ e1 (oe e2 (cn e3 hk))⟩
noncomputable def KY (f:Int->Int->D):D->D->av->Option D
 |.t (.v (.int i)),.t (.v (.int j)),_=>some (f i j)
 |_,_,_=>none
instance {f:Int->Int->Bool}:Pr (TH f) (KY λi j=>.bl (f i j)):=⟨λa b S d k h hk=>by
 unfold KY at h;split at h
 .cases h;exact hk
 .cases h⟩
instance:Pr Zu (KY λi j=>.int (i+j)):=⟨λa b S d k h hk=>by
 unfold KY at h;split at h
 .cases h;exact hk
 .cases h⟩
instance:Pr Wu (KY λi j=>.int (i - j)):=⟨λa b S d k h hk=>by
 unfold KY at h;split at h
 .cases h;exact hk
 .cases h⟩
noncomputable def gEq (neg:Bool):D->D->av->Option D
 |.t (.v x),.t (.v y),_=>match Rr x y with | true=>some (.bl (xor neg (decide (x=y)))) | false=>none
 |_,_,_=>none
instance {n:Nat} {neg:Bool}:Pr (eq3 n neg) (gEq neg):=⟨λa b S d k h hk=>by
 unfold gEq at h;split at h
 .split at h
  .rename_i e;cases h;exact cn e hk
  .cases h
 .cases h⟩
noncomputable def gIx:D->D->av->Option D
 |.t (.tup l),.t (.v (.int i)),_=>(p6 l i).map .t
 |.t (.lst l),.t (.v (.int i)),_=>(p6 l i).map .t
 |_,_,_=>none
instance:Pr ZN gIx:=⟨λa b S d k h hk=>by
 unfold gIx at h;split at h
 .rename_i l i;cases e:p6 l i with
  |none=>rw[e] at h;cases h
  |some x=>rw[e] at h;cases h;exact oe e hk
 .rename_i l i;cases e:p6 l i with
  |none=>rw[e] at h;cases h
  |some x=>rw[e] at h;cases h;exact oe e hk
 .cases h⟩
def oV [p:Pf te f] (e:f Z S=some d) (h:u E (Z.set i (some d)) S):wI (wJ te (A6 i)) u E Z S:=p.ok Z S d _ e h
def zH [p:Pf te f] (e:f Z S=some (.bl c)) (d:c=true) (h:a {E with nx:=λδ1 S1=>u E δ1 S1 } Z S):wI (DE (qc te) a b) u E Z S:=by
 subst d;exact p.ok Z S _ _ e ⟨_,M,h⟩
def di [p:Pf te f] (e:f Z S=some (.bl b)) (c:b=false) (h:u E Z S):wI (DE (qc te) a Gj) u E Z S:=by
 subst c;exact p.ok Z S _ _ e ⟨_,M,h⟩
def s_call [p:Zz tr fr] (e:fr Z S=some ds) (h:sp ds S λd S1=>u E (Z.set i (some d)) S1):wI (wJ (sR sp tr) (A6 i)) u E Z S:=p.ok Z S ds _ e h
def Zh [p:Zz tr fr] (e:fr Z S=some ds) (h:sp ds S k):sR sp tr Z S k:=p.ok Z S ds _ e h
end L3
namespace L3
open PySem L2
noncomputable def rxN:jcI->Str->jcO->Option Nat
 |y::r,x,j::js=>if y=x then some j else rxN r x js
 |_,_,_=>none
noncomputable def rxL:jcO:=[0,1,2,3,4,5,6,7,8,9,10,11,12,13,14,15,16,17,18,19,20,21,22,23,24,25,26,27,28,29]
noncomputable def rxV (sc:Scope)(x:Str):Bool:=match sc.names.lookup x with
 |some .local=>true
 |some .cell=>true
 |some .free=>true
 |_=>false
noncomputable def rxO:Operator->Option zD
 |.Add=>some Zu
 |.Sub=>some Wu
 |.Mult=>some a1E
 |.FloorDiv=>some Vx
 |.Mod=>some a1F
 |_=>none
noncomputable def rxC:Const->Option cI
 |.int i=>some (Mu (.int i))
 |.str x=>some (Mu (.str x))
 |.bool b=>some (Mu (.bl b))
 |.none=>some (Mu .cP)
 |_=>none
noncomputable def rxA (f:Expr->Option cI):jcL->Option mH
 |[]=>some uv
 |e::r=>(f e).bind λt=>(rxA f r).bind λu=>bif notStar e then some (mR t u) else none
noncomputable def Rt (X:Cx):Nat->Expr->Option cI
 |0,_=>none
 |n+1,e=>match e with
  |.Name x _=>(rxN X.N x rxL).bind λi=>bif rxV X.env.scope x&&!(x==("__debug__":Str))&&!(x==("__classdict__":Str)) then some (ur i) else none
  |.Constant c _ _=>rxC c
  |.Attribute e f _=>(Rt X n e).bind λt=>some (UA t f)
  |.Subscript a b _=>(Rt X n a).bind λt=>(Rt X n b).bind λu=>some (vj ZN t u)
  |.Tuple d _ _=>(rxA (Rt X n) d).bind λt=>some (HY t)
  |.BinOp a o b _=>(rxO o).bind λr=>(Rt X n a).bind λt=>(Rt X n b).bind λu=>some (vj r t u)
  |_=>none
def WJ:∀{l:jcI}{js:jcO}{i:Nat},(∀k m,js[k]?=some m->m=i+k)->rxN l x js=some j->∃k,j=i+k/\l[k]?=some x:=by
 intro l
 induction l with
 |nil=>intro js i _ h;cases h
 |cons y r b=>
  intro js i a h;cases js with
  |nil=>cases h
  |cons m js=>
   have h:(if y=x then some m else rxN r x js)=some j:=h;by_cases e:y=x
   .rw[jaf e] at h;cases h;exact⟨0,a 0 _ M,by rw[e];rfl⟩
   .rw[jae e] at h;obtain⟨k,rfl,hk⟩:=b (i:=i+1) (λk n q=>by have:=a (k+1) n q;lia) h;exact⟨k+1,by lia,hk⟩
theorem WK:∀k m,rxL[k]?=some m->m=0+k:=λk m h=>by
 rw[show rxL=List.range 30 from by decide] at h;obtain⟨_,h⟩:=jar.mp h;rw[List.getElem_range] at h;lia
def WH {sc:Scope}(h:rxV sc x=true):ZZ sc x:=by
 unfold rxV at h;unfold ZZ;cases q:sc.names.lookup x with
 |none=>rw[q] at h;cases h
 |some k=>
  rw[q] at h;cases k with
  | «local»=>exact .inl rfl
  |cell=>exact .inr (.inl M)
  |free=>exact .inr (.inr M)
  |_=>cases h
def a2T (h:(bif b then some x else none)=some y):b=true/\x=y:=by
 cases b with
 |true=>cases h;exact⟨M,M⟩
 |false=>cases h
def Qo (h:o.bind f=some y):∃a,o=some a/\f a=some y:=by
 cases o with
 |none=>cases h
 |some a=>exact⟨a,M,h⟩
def M9 (d:∀e t,f e=some t->QE X e t):∀{es:jcL}{t:mH},rxA f es=some t->QA X es t:=by
 intro es
 induction es with
 |nil=>intro t h;cases h;exact cG
 |cons e r g=>
  intro t h;obtain⟨u,b,h⟩:=Qo h;obtain⟨v,a,h⟩:=Qo h;obtain⟨c,rfl⟩:=a2T h;exact qa (d _ _ b) (g a) c
def WI (h:rxO o=some r):C9 X (binaryOp o) r:=by
 cases o with
 |Add=>cases h;exact aL
 |Sub=>cases h;exact N7
 |Mult=>cases h;exact IW
 |FloorDiv=>cases h;exact N9
 |Mod=>cases h;exact U8
 |_=>cases h
def M8:∀(n:Nat){e:Expr}{t:cI},Rt X n e=some t->QE X e t:=by
 intro n
 induction n with
 |zero=>intro e t h;cases h
 |succ n j=>
  intro e t h;cases e with
  |Name x p=>
   obtain⟨i,d,h⟩:=Qo h;obtain⟨g,rfl⟩:=a2T h;obtain⟨k,rfl,hk⟩:=WJ WK d;rw[ja3,ja3,Bool.not_eq_true',Bool.not_eq_true'] at g;rw[jbV];exact q_v k hk (WH g.1.1) g.1.2 g.2
  |Constant c k p=>
   cases c with
   |int i=>cases h;exact aF
   |str i=>cases h;exact aT
   |bool i=>cases h;exact a4U
   |none=>cases h;exact nA
   |_=>cases h
  |Attribute e f p=>
   obtain⟨u,d,h⟩:=Qo h;cases h;refine a06 (j d) ?_;cases e with
   |Call _ _ _ _=>cases n<;>cases d
   |_=>rfl
  |Subscript a b p=>
   obtain⟨u,d,h⟩:=Qo h;obtain⟨v,g,h⟩:=Qo h;cases h;refine s8 (j d) (j g) ?_;cases b with
   |Slice _ _ _ _=>cases n<;>cases g
   |_=>intro _ _;rfl
  |Tuple m k p=>
   obtain⟨u,d,h⟩:=Qo h;cases h;exact aR (M9 (λ_ _=>j) d)
  |BinOp a o b p=>
   obtain⟨r,l,h⟩:=Qo h;obtain⟨u,d,h⟩:=Qo h;obtain⟨v,g,h⟩:=Qo h;cases h;exact aX (WI l) (j d) (j g)
  |_=>cases h
inductive a6g (ds:List D) (f:List T->Prop):Prop
 |mk (l:List T) (h:ts? ds=some l) (h2:l.length<=sizeLine) (hk:f l)
theorem WT (h:QA X b t):QE X (.List b pos) (λZ S k=>t Z S λds S1=>a6g ds λl=>k (.lst l) S1):=
 cy (BR h) (by rintro U H Q ⟨Y,S,Z,k,R,D,q,hk⟩;exact⟨Y,S,Z,_,R,D,q,(by
  rintro m n ⟨j,S1,ds,g,f,i,l,e,z,d⟩;have a:=wG e i;exact⟨by rw[<- a.len];exact z,yL f (λv c u=>hk v c (u.gr g)) a d⟩)⟩)
theorem ixb (h:p6 [a,b] (if(xor false (decide (V.str x=V.str y)))=true then 1 else 0)=some c)(d:Z[i]?=some (some (.str x)))(hk:k (.t c) S) :
  JN a2b (mR (vj (eq3 n false) (ur i) (Mu (.str y))) uv) Z S (λy S2=>ZN (.lst [a,b]) y S2 k):=by
 unfold JN mR vj ur Ue;rw[d];show Lp (p6 [a,b] (if(xor false (decide (V.str x=V.str y)))=true then 1 else 0)) _;exact oe h hk
def WE (h:u E (Z.set i (some (.ob S.length))) (S++[.lst []])):wI (wJ (Uy uv) (A6 i)) u E Z S:=h
def q_r (h:autoParam (Rt X 20 e=some t) zi):QE X e t:=M8 20 h
def aj (h:autoParam (rxA (Rt X 20) a=some t) zi):QA X a t:=M9 (λ_ _=>M8 20) h
end L3
namespace L2
open PySem PySem.Spec PyProof.Rows
def ZA (a:Dp)(X:Cx)(E:XK)(U:St):Prop:=∀(vy:jcF) (H:Hp) (s:Shared) (e:Value) (s':Shared),Inv X vy U H s->a X.stack H s E e s'->X.xe e s'
noncomputable def UB (X:Cx)(ts:Addr->TS)(D:Ends):St->XK:=λb _ _ c=>∀a:Addr,b.length=X.N.length->c a=none->ts a {D with nx:=λ_ _=>False,bk:=λ_ _=>False,ct:=λ_ _=>False } b c
theorem RX {C:Addr}{W:Addr}{fI:Addr}{fW:Addr}{bm:jcJ}{Qy:jcJ}{xc:Str}{np:Pos}{hpos:Pos}{pos:Pos}{body:List Stmt}{b₀:Stmt}{suite:List Stmt}{tb:(St->XK)->TS}{ts:Addr->TS}{hh:List ExceptHandler}(V:X.stack=X.env::X.outer)(hf:X.env.frame=some X.env.locals)(XC:Ab X.K C fI bm)(XW:Ab X.K W fW Qy)(hin:(Value.ref C::bm).contains (.ref W)=true)(hg:Gl X xc)(hm:X.mg xc=some (.ref W))
  (i:∀(pn:jcF) (xe:jcG) (E:St->XK),(∀U,ZA (FT X.prog X.w C) (X.tr pn xe) (E U) U)->Bp (X.tr pn xe) body (tb E))
  (hs:∀(a:Addr)(oe:Obj)(pn:jcF),oe.cls=.ref C->(∃vs,oe.data=.fields vs/\vs[2]?=some .none)->oe.dict=none->Bp (X.suite a ((a,oe)::pn)) (b₀::suite) (ts a)) (hdb:autoParam ((xc==("__debug__":Str))=false) zn) :
  PS X (.Try body (.ExceptHandler (some (.Name xc np)) none (b₀::suite) hpos::hh) [] [] pos) (λD U H=>tb (UB X ts D) D U H):=by
 intro vy s U H D I h;refine wpAny_Try_except (jaS (i (X.pn++vy) _ (UB X ts D) ?pass [] s U H D (a2a I λp j=>by rw[jaw] at j;exact j) h) (λf l q=>?_) λe l z=>z)
 case pass=>
  rintro U' l7 k l e s' c ⟨a,O,rfl,hE,os,r,un,ok,x⟩;have c:Inv X vy U' k l:=yD c λp j=>jaA _ j;obtain⟨oe,vs,T,oT,ts',ha,hc,hd,h1,hT,vc,h3,ne,nT,fT⟩:=x.Qv;have un:Un (frs X.stack) [] k O l.heap s'.heap:=un;have sk:∀b∈frs X.stack,k b=none:=c.oi;have Vw:l.heap.FunFrames X.base X.stack:=c.stack;have fl2:s'.heap.FunFrames X.base (X.env::X.outer):=V ▸ wg (λ_ z=>z) sk un Vw;have P:∀b∈frs X.stack,b<l.heap.objs.size:=λb i=>by
   obtain⟨_,o,ho,_⟩:=Vw.mem i;exact jal ho
  have ZV:∀b,b∈frs X.stack->O b=none:=λb i=>by
   obtain⟨_,o,ho,_⟩:=Vw.mem i;exact un.free b o ho (sk b i) (by simp)
  have new:=x.new;have J:=jal ha;have szs:l.heap.objs.size<=s'.heap.objs.size:=jai new (jbj J);have hfr:X.A.frames=some (X.env::X.outer):=V ▸ c.ok.frames;refine Od hfr fl2 hf ha hc hd h1 hT vc h3 ne λF m=>?_;have m:lR (frs X.stack) a (some T) C s'.heap F:=by rw[V];exact m
  have y:∀(B:Heap)(g:Array GenState)(d:Drawn)(t:Nat),AllBare g->lR (frs X.stack) a (some T) C s'.heap B->Inv X vy U' O ⟨B,g,d,t,l.os⟩:=λB g d t i m=>by
   have S:∀b u,l.heap.get? b=some u->b≠a/\(some T:jcM)≠some b:=λb u q=>⟨λz=>absurd (jal q) (by rw[z];exact jbt.mpr new),λz=>absurd (jal q) (by cases z;exact jbt.mpr nT)⟩
   have un3:Un (frs X.stack) [] k O l.heap B:=⟨λb u q n nf L=>m.keep b u (un.keep b u q n nf L) nf (S b u q).1 (S b u q).2,λb u q n G L=>by
     obtain⟨sl,Q⟩:=un.slot b u q n G L;obtain⟨sl2,e2⟩:=m.slot b _ Q G;exact⟨sl2,e2⟩,un.free,λb u q L=>by
     obtain⟨o1,Q⟩:=un.there b u q L;by_cases i:b∈frs X.stack
     .obtain⟨sl,e2⟩:=m.slot b o1 Q i;exact⟨_,e2⟩
     .exact⟨o1,m.keep b o1 Q i (S b u q).1 (S b u q).2⟩,un.tups,un.nO,un.oS⟩
   exact c.VJ (s':=⟨B,g,d,t,l.os⟩) (ch:=[]) rfl un3 (ok.I8 λb u i q=>m.keep b u q (λz=>i (ZV b z)) (λz=>i (z ▸ x.free)) (λz=>i (by cases z;exact fT))) i (λb z=>absurd z (by simp))
  obtain⟨Jf,g',d',t',os'⟩:=s';obtain rfl:os'=l.os:=os;have I3:=y F g' d' t' r m;obtain⟨oe3,vs3,T3,oT3,ts3,x1,Z,R,x4,x5,x6,x7,x8,x9⟩:=m.Qv;have al:a≠X.env.locals:=λz=>absurd (jaL (z ▸ c.lt) new) (ja4 _);have af:a∉X.fs:=λz=>absurd (jaL (P a (by rw[V];exact jav _ z |> λw=>by unfold frs;rw[jba,hf];exact w)) new) (ja4 _);have IS:=Vk (a:=a) I3 x1 x.free al af (λv z=>by rw[R] at z;cases z);obtain⟨nm,q,N,bs,hdct,sn,sub,ab,col,dd,k0,k1,k2,k3,k5,lkC,_,_⟩:=XC.ob;obtain⟨nm',q',N',bs',Vn,sn',sub',ab',col',Qx,j0,j1,j2,j3,j5,lkW,_,_⟩:=XW.ob;refine wpAny_handleBy_cons (codeAny_handlers_test (lJ (X:=X.suite a _) IS hg hm ?_ hdb)) (by intro q;cases q);refine X5 (I3.mE _ _ lkC) (I3.mE _ _ lkW) x1 Z.1 XW.b hin ?_;refine codeAny_handlers_suite ?_;refine Tq (fr:=frs X.stack) m (λb i=>jaL (P b i) szs) (λb e=>by cases e;exact jal hT) J λh4 m4 a1Z=>?_;have I4:=y h4 g' d' t' r m4;have IS4:=Vk (a:=a) I4 (a1Z _ x1) x.free al af (λv z=>by rw[R] at z;cases z);refine jaS (hs a oe3 (X.pn++vy) Z.1 ⟨vs3,R,Z.2.2 _ R⟩ Z.2.1 [] _ _ O _ IS4 (hE a c.len x.free)) (λf s6 Y=>?_) λ_ _ z=>False.elim z;cases f with
  |next=>obtain⟨_,_,_,z⟩:=Y;exact False.elim z
  |brk=>obtain⟨_,_,_,z⟩:=Y;exact False.elim z
  |cont=>obtain⟨_,_,_,z⟩:=Y;exact False.elim z
  |ret u=>
   obtain⟨v,σ6,H6,I6,rv,z⟩:=Y;obtain⟨m6,hn6,_⟩:=I6.loc;exact⟨v,_,H6,Inv.forget (t':=s6.toks) c.ok I6 (λp j=>jav _ j) hn6 ⟨M,λ_ _=>rfl⟩,rv,z⟩
 cases f with
 |next=>
  obtain⟨σ1,k,c,z⟩:=q;exact jad ⟨σ1,k,yD c λp j=>jaA _ j,z⟩
 |brk=>obtain⟨σ1,k,c,z⟩:=q;exact⟨σ1,k,yD c λp j=>jaA _ j,z⟩
 |cont=>obtain⟨σ1,k,c,z⟩:=q;exact⟨σ1,k,yD c λp j=>jaA _ j,z⟩
 |ret u=>obtain⟨v,σ1,k,c,rv,z⟩:=q;exact⟨v,σ1,k,yD c λp j=>jaA _ j,rv,z⟩
end L2
namespace L3
open PySem L2 Hw PyProof.Rows
structure XH where
 Y:List Addr
 G:Hp
 x:Prop
abbrev XH.m (g:XH):O:=.gh g.Y g.G
def EW (K:Frag)(g:XH):XK:=λ_ _ H=>∃Y S,R3 K Y S H/\S[0]?=some g.m/\g.x
abbrev C8:=List D->av->KD->Prop->Prop
inductive ZL (K:Frag) (sp:C8) (vs:List V) (H:Hp) (Q:VK) (E:XK):Prop
 |mk (Y S ds k g):R3 K Y S H->eY K Y (res Y H) ds vs->S[0]?=some g.m->sp ds S k g.x->(∀v H',up K Y H k v H'->Q v H')->E=EW K g->ZL K sp vs H Q E
def qJ (P:Program)(w:World)(K:Frag)(a:Str->jcN)(base:Heap)(C:Addr)(k:Nat)(x:Str)(ps:jcI)(sp:C8):Prop:=∃f b,dX P w K a base (FT P w C) k f b ps (ZL K sp)/\a x=some (.ref f)/\keepIn K (.ref f)=true/\Binds K b ps []
def HC (P:Program)(w:World)(K:Frag)(b:Str->jcN)(base:Heap)(C:Addr)(k:Nat)(c:Addr)(m:Str)(ps:jcI)(sp:C8):Prop:=∃(f:Addr)(a:FuncData),dX P w K b base (FT P w C) k f a ps (ZL K sp)/\Meth K c m f/\Binds K a ps []
def qJ.up (h:qJ P w K mg base C j x ps sp)(l:j<=k):qJ P w K mg base C k x ps sp:=let⟨f,fd,F,a⟩:=h;⟨f,fd,F.mono l,a⟩
def HC.up (h:HC P w K mg base C j c m ps sp)(l:j<=k):HC P w K mg base C k c m ps sp:=let⟨f,fd,F,a⟩:=h;⟨f,fd,F.mono l,a⟩
def JH (P:Program)(w:World)(K:Frag)(a:Str->jcN)(base:Heap)(C:Addr)(k:Nat)(st:Stmt)(ps:jcI)(sp:C8):Prop:=∀(f:Addr)(fd:FuncData)(x q:Str),F3 K x q st f fd->dX P w K a base (FT P w C) (k+1) f fd ps (ZL K sp)
theorem Pp {P:Program}{w:World}{K:Frag}{mg:Str->jcN}{base:Heap}{C:Addr}{st:Stmt}{N ps:jcI}{k:Nat}{sp:C8}{t:XH->mL}{b:List Stmt}(S:iJ N ps (aM st))
  (e:bK st=b) (I:∀{a:Str}{f:Addr}{AT:Value}{A:Around}{outer:List Env}{s:Shared}{H:Hp} (g:XH),cV k (A.deeper (envOfC a (aM st) s.heap.objs.size f AT))->N.Nodup->JF (jQ P w C K mg base N a (aM st) f AT A outer s H (EW K g)) b (t g))
  (r:∀g ds S kk,Cl S->(∀d∈ds,Y9 S.length d)->S[0]?=some g.m->sp ds S kk g.x->t g (endsF S kk) (mT N ds) S)
  (len:∀ds S k x,sp ds S k x->ds.length=ps.length:=by intro ds S k x h;cases h;subst_vars;rfl):JH P w K mg base C k st ps sp:=λf O x q F=>by
 refine F.okX S (λJ H Q E ⟨Y,S,ds,kk,g,R,c,l,q,_,_⟩=>by rw[<- eY.len c];exact len ds S kk _ q) ?_;rintro AT A outer s H J Q E B ⟨Y,j,ds,kk,g,R,c,l,q,hk,y⟩;subst y;have n:=I (AT:=AT) (A:=A) (outer:=outer) (s:=s) (H:=H) g B S.nd;rw[<- e] at n;refine⟨_,n,Y,j,mT N ds,endsF j kk,R,ua.start c N,r g ds j kk R.cl (λd hd=>?_) l q,?_⟩
 .obtain⟨v,z⟩:=jN c d hd;rw[<- R.len];exact z.cl
 .refine⟨(by rintro U i ⟨D,L,T,o,G,M,p⟩;exact hk _ _ (rX R ⟨D,L,.cP,o,G,aZ,p⟩)),λv i u=>hk _ _ (rX R u),(by rintro U i ⟨_,_,_,_,_,_,z⟩;exact z),(by rintro U i ⟨_,_,_,_,_,_,z⟩;exact z)⟩
def Wr (g:XH)(sp:C8)(t:mH):cI:=λZ S k=>t Z S λb a=>a[0]?=some g.m/\sp b a k g.x
theorem fG (F:qJ X.prog X.w X.K X.mg X.base C k x ps sp)(G:Passes (FT X.prog X.w C) X (EW X.K g))(b:cV k X.A)(h:Gl X x)(I:QA X (e::es) t)(n:autoParam (notStar e=true) zi)(o:autoParam (es.all notStar=true) zi)(a:autoParam ((x==("__debug__":Str))=false) zn) :
  QE X (.Call (.Name x p) (e::es) [] pos) (Wr g sp t):=by
 obtain⟨f,J,F,l,hk,s⟩:=F;refine cy (Ei F b h l hk s .nil G I n o a) ?_;rintro U H Q ⟨Y,S,Z,k,R,D,q,hk⟩;refine⟨Y,S,Z,_,R,D,q,?_⟩;rintro v B ⟨m,y,d,r,j,E,z,i⟩;show ZL X.K sp (v++[]) B Q _;rw[jaw];exact⟨m,y,d,k,g,j,E,z,i,λv c u=>hk v c (u.gr r),M⟩
def Wj (g:XH)(c:Addr)(m:Str)(sp:C8)(h:cI)(t:mH):cI:=λZ S k=>h Z S λd b=>∃e l,iq b d=some (c,e,l)/\e.contains m=false/\t Z b λf a=>a[0]?=some g.m/\sp (d::f) a k g.x
theorem iE {X:Cx}{o:Expr}{e:Expr}{es:jcL}{ta:cI}{t:mH}{m:Str}{pos:Pos}{B1:Pos}{k:Nat}{ps:jcI}{sp:C8}{C:Addr}{c:Addr}{g:XH}{pl:Sem Bool}(he:QE X o ta)(jcE:HC X.prog X.w X.K X.mg X.base C k c m ps sp)(hx:Passes (FT X.prog X.w C) X (EW X.K g))(hr:cV k X.A)(ha:QA X (e::es) t)(N:autoParam (notStar e=true) zi)(O:autoParam (es.all notStar=true) zi)
  (ht:autoParam (eval (.Call (.Attribute o m B1) (e::es) [] pos) X.env=(do
   let ov <- eval o X.env
   standAt B1.atName
   let(f,first) <- holding [ov] (getMethod ov m pl)
   callWith pos f first (backTo pos (starEach (e::es) X.env)) (backToKw pos (keywordEach [] X.env)))) zi) :
  QE X (.Call (.Attribute o m B1) (e::es) [] pos) (Wj g c m sp ta t):=by
 rintro i s U H Q I ⟨Y,S,Z,k,R,D,q,hk⟩;refine jch (dF (he i s U H _ I ⟨Y,S,Z,_,R,D,q,λv b z=>z⟩) ?_) ht;rintro u s1 ⟨x,H1,y,rx,L,T,d,E,j,p,ns,l,P,h,q1⟩;obtain⟨a,dx,vs,V,e2,e3,W,e5⟩:=tR j p P;subst V;obtain rfl:u=Value.ref a:=rx;obtain⟨f,fd,F,B,hb⟩:=jcE;refine qm y e2 W.cls B (tM h) ?_;refine jbY I.ok.mod.S8 B.kp (dF (ha pos i s1 U H1 _ y ⟨L,T,Z,_,j,D.gr E,q1,λv b z=>z⟩) ?_) (gk N) (fR O);rintro us s2 ⟨ws,H2,G,r,Y2,J,ds,n,R2,r2,q0,q2⟩;refine⟨G.mE,xF (vs:=.ref a::ws) F hr hb .nil hx G (.cons rfl r) ?_⟩;rw[jaw];exact⟨Y2,J,d::ds,k,g,R2,.cons (p.gr n) r2,q0,q2,λv b u=>hk v b (u.gr (E.trans n)),M⟩
def JP (C:Addr):Sp:=λb H Q _=>∃a v,b=[.ref a,v]/\H a=some (Pe C a)/\Q .cP H
def Rc (g:XH)(t:mH):mL:=λ_ Z S=>t Z S λb a=>b.length=1/\a[0]?=some g.m/\g.x
def Tz (h:H a=none):del (upd H a u) a=H:=by
 funext b;unfold del upd;by_cases e:b=a
 .subst e;rw[jaf M,h]
 .rw[jae e,jae e]
theorem AR {O:jcJ}(N:Ab X.K C j O)(F:dX X.prog X.w X.K X.mg X.base ug k j h ps (JP C))(I:cV (k+1) X.A)(m:Gl X x)(L:X.mg x=some (.ref C))(Q:Binds X.K h ps [])
  (c:∀{n:jcF} {U:L2.St} {b:Hp} {i:Shared} {a:Addr},Inv X n U b i->b a=some (Pe C a)->X.s₀.heap.objs.size<=a->EW X.K g (.ref C) none (del b a)->X.xe (.ref a) i)
  (d:QA X (e::es) t) (f:autoParam ((x==("__debug__":Str))=false) zn) (y:autoParam (notStar e=true) zi) (u:autoParam (es.all notStar=true) zi) :
  QS X (.Raise (some (.Call (.Name x p) (e::es) [] pos)) none B1) (Rc g t):=by
 refine kC (NB N F I m L Q c d f (gk y) (fR u)) ?_;rintro D U H ⟨Y,S,Z,E,R,G,q,W⟩;refine⟨Y,S,Z,_,R,G,q,?_⟩;rintro l b ⟨r,z,V,g1,o,B,P,T,J⟩;obtain⟨v,rfl⟩:∃v,l=[v]:=by
  have:=eY.len B
  match l,this.symm.trans P with
  |[v],_=>exact⟨v,M⟩
 refine⟨jbj (line 1 (by decide)),λa d=>⟨a,v,M,dM,M,dM,?_⟩⟩;rw[Tz d];exact⟨r,z,o,T,J⟩
section
variable {sc:Scope}
end
section
variable {sc:Scope}
theorem Nh (O:(jQ P w TM K mg base N0 qual scope pX cd A outer s0 p7 E).N.Nodup)(S:iY (jQ P w TM K mg base N0 qual scope pX cd A outer s0 p7 E) sc cl own N fr)(B:(jQ P w TM K mg base N0 qual scope pX cd A outer s0 p7 E).calm=true)(F:QI (jQ P w TM K mg base N0 qual scope pX cd A outer s0 p7 E) e a m)
  (n:∀C s H fp xx,QX (rW (jQ P w TM K mg base N0 qual scope pX cd A outer s0 p7 E) sc N cl C s H fp xx) own e g) (J:∀C s H fp xx,Z1 (rW (jQ P w TM K mg base N0 qual scope pX cd A outer s0 p7 E) sc N cl C s H fp xx) h tt)
  (M:∀C s H fp xx,Passes (FT P w TM) (rW (jQ P w TM K mg base N0 qual scope pX cd A outer s0 p7 E) sc N cl C s H fp xx) E->QE (rW (jQ P w TM K mg base N0 qual scope pX cd A outer s0 p7 E) sc N cl C s H fp xx) c te) (t:autoParam ((jQ P w TM K mg base N0 qual scope pX cd A outer s0 p7 E).N[i]?=some y) zi) (o:autoParam (Loc (jQ P w TM K mg base N0 qual scope pX cd A outer s0 p7 E).env.scope y) ke)
  (f:autoParam (swapsWith (.ListComp c [⟨e,a,h,0⟩] sc pos) (some (.Name y j)) b.line (jQ P w TM K mg base N0 qual scope pX cd A outer s0 p7 E).env=pure true) zi) (hs:autoParam (∀x,foldedSetIterable a (jQ P w TM K mg base N0 qual scope pX cd A outer s0 p7 E).env x=pure x) jp)
  (G:autoParam ((jQ P w TM K mg base N0 qual scope pX cd A outer s0 p7 E).fn y=true\/(jQ P w TM K mg base N0 qual scope pX cd A outer s0 p7 E).env.scope.names.lookup y=some .local) zt) :
  QS (jQ P w TM K mg base N0 qual scope pX cd A outer s0 p7 E) (.Assign [.Name y j] (.ListComp c [⟨e,a,h,0⟩] sc pos) b) (wJ (Bw own fr m g tt te) (A6 i)):=
 kC (Nz (g:=SV K own g) (tt:=KA K tt) (te:=li K te) O t o S B F n J M f hs G) (by rintro D U H ⟨Y,S,Z,E,R,k,q,L⟩;exact tX _ _ _ ⟨Y,S,Z,_,R,k,q,(by rintro v Q ⟨r,u,d,l,p,z,I⟩;exact L.nx _ _ ⟨r,u,Z.set i (some d),l,p,(k.gr l).set z i,I⟩)⟩)
end
noncomputable def dim (S:av):av:=S.map λ_=>.gh [] λ_=>none
theorem FT.mono (m:∀c od H,E c od H->b c od H)(h:FT P w C outer H s E e s'):FT P w C outer H s b e s':=
 let⟨a,H',h1,h2,h3⟩:=h
 ⟨a,H',h1,m _ _ _ h2,h3⟩
def a0j (m:Nat)(tb:XH->mL)(ts:mL):mL:=λE Z S=>∃o r,S=o::r/\∃x:Prop,(∀Y G,Y.length=S.length->tb ⟨Y,G,x⟩ E Z (.gh Y G::r))/\
 (x->ts {E with nx:=λ_ _=>False,bk:=λ_ _=>False,ct:=λ_ _=>False } (List.replicate m none) (dim S))
def R3.a1H (R:R3 K Y (o::r) H):R3 K Y (.gh Y (res Y H)::r) H:=by
 refine⟨R.len,R.nd,λn a u c b=>?_⟩;cases n with
 |succ n=>exact R.ok (n+1) a u c b
 |zero=>
  cases b;exact⟨(R.ok 0 a o c M).some,λ_ _ z=>z,Le.refl _⟩
def R3.YY (R:R3 K Y S H)(h:R3 K e j f)(g:∀(n:Nat)(a:Addr),Y[n]?=some a->e[n]?=some a):R3 K Y (dim S) f:=by
 refine⟨by unfold dim;rw[jac];exact R.len,R.nd,λn a u i c=>?_⟩;unfold dim at c;rw[jaV] at c;obtain⟨o,_,rfl⟩:=jcd.mp c;have l:=(jar.mp (g n a i)).1;obtain⟨d,k⟩:∃d,j[n]?=some d:=⟨_,jaT (by rw[<- h.len];exact l)⟩
 exact⟨(h.ok n a d (g n a i) k).some,λm b z=>by simp at z,λb o z=>by cases z⟩
theorem RG (Q:X.stack=X.env::X.outer)(hf:X.env.frame=some X.env.locals)(XC:Ab X.K C fI bm)(O:Ab X.K W fW Qy)(t:(Value.ref C::bm).contains (.ref W)=true)(P:Gl X xc)(hm:X.mg xc=some (.ref W))
  (F:∀(h:jcF) (l:jcG) (g:XH),Passes (FT X.prog X.w C) (X.tr h l) (EW X.K g)->JF (X.tr h l) body (tb g))
  (hs:∀(a:Addr)(oe:Obj)(h:jcF),JF (X.suite a ((a,oe)::h)) (b₀::suite) ts) (y:autoParam ((xc==("__debug__":Str))=false) zn) :
  QS X (.Try body (.ExceptHandler (some (.Name xc np)) none (b₀::suite) hpos::hh) [] [] pos) (a0j X.N.length tb ts):=by
 refine kC (RX (tb:=λE D U H=>∃g,(∀G c k f,G.length=X.N.length->EW X.K g c k f->E G c k f)/\liS X.K (tb g) D U H) (ts:=λa=>liS X.K ts) Q hf XC O t P hm
  ((by rintro h l E hp p s U H D I ⟨g,hE,q⟩;exact F h l g (λp U H s e s' I c=>hp U p H s e s' I (FT.mono (λc k f z=>hE U c k f I.len z) c)) p s U H D I q)) (λa oe h _ _ _=>hs a oe h) y) ?_
 rintro D U H ⟨Y,S,Z,E,R,RS,⟨o,r,rfl,x,V,T⟩,L⟩;refine⟨⟨Y,res Y H,x⟩,?_,Y,_,Z,E,R.a1H,RS,V _ _ R.len,L⟩;rintro G c k f m ⟨i,S',B,J,hx⟩ a _ _;have l1:=B.len;have l2:=(jar.mp J).1;have q0:=B.ok 0 i[0] _ (jaT (by lia)) J;obtain⟨_,M,q3⟩:(∃u,f i[0]=some u)/\(∀(n:Nat)(a:Addr),Y[n]?=some a->i[n]?=some a)/\Le (res Y H) (res i f):=q0;have v:Le (res i f) (res Y f):=λb o z=>by
  obtain⟨z1,z2⟩:=res_some z;unfold res;rw[jae λF=>?_]
  .exact z2
  .obtain⟨n,hn⟩:=jcg.mp F;exact z1 (jbB (M n b hn))
 have g2:Gr Y H Y f:=⟨⟨[],by simp⟩,q3.trans v⟩
 have A:=L.gr g2;refine⟨Y,_,List.replicate X.N.length none,_,R.YY B M,⟨by rw[jbW,m],λj d z=>?_⟩,T hx,(by rintro U H ⟨_,_,_,_,_,_,z⟩;exact z),A.rt,(by rintro U H ⟨_,_,_,_,_,_,z⟩;exact z),(by rintro U H ⟨_,_,_,_,_,_,z⟩;exact z)⟩;rw[jbM] at z;split at z<;>cases z
abbrev Ug:=Sl->av->Str->(Str->av->Prop)->Prop
def liJ (K:Frag)(t:Ug):TJ:=λU H a Q=>∃Y S Z k,R3 K Y S H/\ua K Y (res Y H) Z U/\t Z S a k/\∀x H',(∃c b,Gr Y H c H'/\R3 K c b H'/\k x b)->Q x H'
def QJ (X:Cx)(a:jcL)(t:Ug):Prop:=PJ X a (liJ X.K t)
def a14:Ug:=λ_ S a k=>a.length<=sizeLine/\k a S
def a13 (c:Str)(t:Ug):Ug:=λZ S a k=>(a++c).length<=sizeLine/\t Z S (a++c) k
def jv3 (d:D)(a:Str)(k:Str->Prop):Prop:=match d with
 |.t (.v (.int i))=>i.natAbs.log2<1920/\(a++(toString i:Str)).length<=sizeLine/\k (a++(toString i:Str))
 |.t (.v (.str y))=>y.length<=sizeLine/\(a++y).length<=sizeLine/\k (a++y)
 |_=>False
def a12 (te:cI)(t:Ug):Ug:=λZ S b k=>te Z S λd c=>jv3 d b λa=>t Z c a k
def a4s (t:Ug):cI:=λZ S k=>t Z S Str.empty λx a=>k (.str x) a
def NG (h:PJ X es t)(m:∀U H a Q,t' U H a Q->t U H a Q):PJ X es t':=λb s U H a Q I q=>h b s U H a Q I (m _ _ _ _ q)
def Ni:QJ X [] a14:=NG Xe (by rintro U H a Q ⟨Y,S,Z,k,R,D,q,hk⟩;exact⟨q.1,hk _ _ ⟨Y,S,.refl,R,q.2⟩⟩)
def RJ (h:QJ X es t):QJ X (.Constant (.str c) j pos::es) (a13 c t):=NG (Xd h) (by rintro U H a Q ⟨Y,S,Z,k,R,D,q,hk⟩;exact⟨q.1,Y,S,Z,k,R,D,q.2,hk⟩)
theorem a00 (p:QE X e te)(h:QJ X es t):QJ X (.FormattedValue e (-1) none pos::es) (a12 te t):=NG (Xc p h) (by rintro U H a Q ⟨Y,S,Z,k,R,D,q,hk⟩;exact  ⟨Y,S,Z,_,R,D,q,(by
  rintro v r ⟨n,j,d,c,m,o,b⟩
  replace b:jv3 d a λa=>t Z j a k:=b
  unfold jv3 at b;split at b
  .exact .inl ⟨_,aV o,b.1,b.2.1,n,j,Z,k,m,D.gr c,b.2.2,(by rintro x i ⟨f,l,g,z⟩;exact hk x i ⟨f,l,c.trans g,z⟩)⟩
  .exact .inr ⟨_,aV o,b.1,b.2.1,n,j,Z,k,m,D.gr c,b.2.2,(by rintro x i ⟨f,l,g,z⟩;exact hk x i ⟨f,l,c.trans g,z⟩)⟩
  .exact b.elim)⟩)
def a05 (h:QJ X (v1::v2::es) t):QE X (.JoinedStr (v1::v2::es) pos) (a4s t):=cy (Sg h) (by rintro U H Q ⟨Y,S,Z,k,R,D,q,hk⟩;exact  ⟨Y,S,Z,_,R,D,q,(by rintro x d ⟨a,c,g,b,z⟩;exact hk _ _ ⟨a,c,_,g,b,aZ,z⟩)⟩)
def WD (P:Sl->av->Prop)(b:∀N:KS,(∀δ1 S1,P δ1 S1->N δ1 S1)->t {E with nx:=N } Z S)(a:∀δ1 S1,P δ1 S1->u E δ1 S1):wI t u E Z S:=b _ a
structure XTw (P:Program)(w:World)(K:Frag)(mg:Str->Option Value)(base:Heap)(C fI:Addr)(Hv:List Value):Prop where
 ct:Ab K C fI Hv
 hin:(Value.ref C::Hv).contains (.ref C)=true
 mg:mg "TooMany"=some (.ref C)
def Wk (te:cI):cI:=λZ S k=>te Z S λd a=>∃s,d=.str s/\s∈Hw.signs/\k (.str (J7 s)) a
def WU (f:Gl X "OPPOSITE_SIGNS")(h:Uk X.prog X.w X.K X.mg)(c:QE X e te)(hs:Qc e:=by exact λ_ _=>rfl)(hd:autoParam ((("OPPOSITE_SIGNS":Str)==("__debug__":Str))=false) zn):QE X (.Subscript (.Name "OPPOSITE_SIGNS" p) e pos) (Wk te):=by
 obtain⟨D,j,kd⟩:=h;refine cy (Sf f j kd c hs hd) ?_;rintro U H Q ⟨Y,S,Z,k,R,b,q,hk⟩;refine⟨Y,S,Z,_,R,b,q,?_⟩;rintro v t ⟨l,n,d,m,i,r,s,o,a,g⟩;subst o;rw[aV r];exact⟨.inr s,.str (J7 s),M,Sn a,hk _ _ ⟨l,n,_,m,i,aZ,g⟩⟩
theorem rZ:∀{l:List aN},Qk l->c∈l->uf c
 |d::r,h,m=>by
  rcases jah.mp m with rfl | m
  .exact h.1
  .exact rZ h.2 m
def oG (A:Ad)(q:Bool)(a:List aN):dZ A (.con q a)=.ins (if q=true then A.eX else A.gX) ["conditions"] [.tup (a.map (dZ A))]:=by rw[dZ,iP]
def CD (A:Ad)(S:av)(c:aN):∃ns l,iq S (.t (dZ A c))=some (Be A (qU c),ns,l)/\ns.contains "opposite"=false:=by
 cases c with
 |cmp a s b=>exact⟨_,_,by rfl,by symm⟩
 |neg c=>exact⟨_,_,by rfl,by symm⟩
 |con k d=>cases k<;>exact⟨_,_,by rfl,by symm⟩
def dO {w:Str}{xs:jcI}(h:decide (w∈xs)=b):xor false (Ti (V.str w) (xs.map V.str))=b:=by rw[CF,h];cases b<;>rfl
def a0J (h:l≠[]):HT.fQ l.length 0 (some 1)=1:=by
 have:=HT.IB l.length 0 1;have e:HT.fQ l.length 0 (some 1)=min 1 l.length:=this;have:=jcj.mpr h;lia
def G8 (h:l≠[]):¬(HT.fQ l.length 0 (some 1)=0/\HT.fQ l.length l.length none=l.length):=by rw[a0J h];rintro⟨h,_⟩;cases h
def yS:oU (x::l) (some 1) none=l:=by
 unfold oU;rw[a0J (by simp),HT.D7];simp
def at0:p6 (x::l) 0=some x:=wB rfl
def SG (h:l=[]):xor true (decide (l.map f=[]))=false:=by subst h;rfl
def Og (h:l≠[]):xor true (decide (l.map f=[]))=true:=by simp_all
def EH (x:Str){w:Int}(h:w≠0):norm [(x,w)]=[(x,w)]:=by
 have:wt [(x,w)] x=w:=by simp[wt]
 simp[norm,sU,rR,this,h]
def Zm {A:T}(h:b=true):p6 [A,B] (if b=true then 1 else 0)=some B:=by subst h;rfl
def Zn {A:T}(h:b=false):p6 [A,B] (if b=true then 1 else 0)=some A:=by subst h;rfl
def Ky (P:Program)(w:World)(K:Frag)(a:Str->jcN)(base:Heap)(k:Nat)(st:Stmt)(ps:jcI)(sp:mK):Prop:=∀(f:Addr)(fd:FuncData)(x q:Str),F3 K x q st f fd->dX P w K a base ug (k+1) f fd ps (cu K sp)
def bO {sc:Scope}(a:autoParam (sc.kind=.function) zi)(b:autoParam (sc.isCoroutine=false) zi)(c:autoParam (sc.isGenerator=false) zi)(d:autoParam (N.Nodup) ka)(e:autoParam (N.take P.length=P) zi)(f:autoParam (∀x∈P,sc.names.lookup x=some .local\/sc.names.lookup x=some .cell) ka)(g:autoParam (∀y∈sc.names,y.2≠.free) ka):iJ N P sc:=⟨a,b,c,d,e,f,g⟩
theorem dk {P:Program}{w:World}{K:Frag}{c:Str->jcN}{base:Heap}{st:Stmt}{N ps:jcI}{k:Nat}{sp:mK}{t:mL}{b:List Stmt}(S:iJ N ps (aM st))(e:bK st=b)
  (j:∀{a:Str}{f:Addr}{AT:Value}{A:Around}{outer:List Env}{s:Shared}{H:Hp} {E:XK},cV k (A.deeper (PyProof.Rows.envOfC a (aM st) s.heap.objs.size f AT))->N.Nodup->JF (CT ug P w K c base N a (aM st) f AT A outer s H E).ZK b t)
  (i:∀ds S kk,Cl S->(∀d∈ds,Y9 S.length d)->sp ds S kk->t (endsF S kk) (mT N ds) S)
  (len:∀ds S k,sp ds S k->ds.length=ps.length:=by intro ds S k h;cases h;subst_vars;rfl):Ky P w K c base k st ps sp:=λf l x q F=>a2K F S len λAT A outer s H E g=>⟨t,by rw[e];exact j g S.nd,i⟩
theorem oh:∀l m:List ah,gT (l++m)=gT l++gT m
 |[],m=>by rw[gT];rfl
 |s::r,m=>by rw[jbb,gT,gT,oh r m,jaQ]
def Wa (s:ah):jG s=s::(s.Dm.map gT).flatten:=by
 cases s with
 |ch a c t e=>rw[jG];simp[ah.Dm]
 |rp a c d f b=>rw[jG];simp[ah.Dm]
 |_=>rw[jG];rfl
def P4 {s:ah}(g:bP N s)(hd:s.dp<=q+1):∀b∈s.Dm,cU N b/\jv b<=q/\b.length<=2:=by
 cases s with
 |ch a c t e=>
  unfold ah.dp at hd;intro b d;rcases jah.mp d with rfl | d
  .exact⟨g.2.1,by lia,g.2.2.2.1⟩
  .rw[jag.mp d];exact⟨g.2.2.1,by lia,jai g.2.2.2.2 (by decide)⟩
 |rp a c h f b=>
  unfold ah.dp at hd;intro i d;rw[jag.mp d];exact⟨g.2.2.2.2.1,by lia,g.2.2.2.2.2.1⟩
 |_=>intro b d;cases d
def lE {S:av}(a:S[0]?=some (.gh Y G))(h:S[j]?=some (.lst l)):(S.set j b)[0]?=some (.gh Y G):=by
 have c:j≠0:=λe=>by subst e;rw[a] at h;cases h
 rw[jbl c];exact a
def GY {A:Ad}(a:∀j i,j<9->i<9->kitOne K (.ref (qI A j)) (.ref (qI A i))=some (decide (j=i)))(b:j<9):kitAny K (.ref (qI A j)) [.ref A.iB,.ref A.bg]=some (decide (j=0)||decide (j=7)):=by
 have c:kitOne K (.ref (qI A j)) (.ref A.iB)=some (decide (j=0)):=a j 0 b (by decide);have d:kitOne K (.ref (qI A j)) (.ref A.bg)=some (decide (j=7)):=a j 7 b (by decide);unfold kitAny;rw[c];by_cases e:j=0
 .rw[jaB e];rfl
 .rw[jau e];unfold kitAny;rw[d];by_cases e:j=7
  .rw[jaB e];rfl
  .rw[jau e];unfold kitAny;rfl
def dI (h:n<=1000000):n<=sizeLine:=jai h (by rw[jbe];decide)
def BS (ok:Dc N h):(others h).length<=8:=by
 refine jai (tN (ME _) λx c=>?_) ok.nl;have:=cW.mp c;rw[jb5] at this;rcases jan.mp this.1 with a | a
 .exact ok.an x a
 .obtain⟨l,hl,hul⟩:=jaZ.mp a;obtain⟨s,b,rfl⟩:=jaq.mp hl;exact(C7 (jZ ok.st s b)).2 x hul
theorem Y8 {α:Type}{l:List α}(P:α->Prop)(c f:α->T)(j:G S)(s:l.length<=sizeLine)(hs:∀x∈l,∀k':Option T->av->Prop,(P x->k' (some (f x)) S)->elem g tt te δ0 (.t (c x)) S k')
  (hk:(∀x∈l,P x)->k (l.map f) S):gi G g tt te δ0 ((l.map c).map .t) S [] k:=by
 have n:∀(r b:List α),l=b++r->(∀x∈b,P x)->gi G g tt te δ0 ((r.map c).map .t) S (b.map f) k:=by
  intro r
  induction r with
  |nil=>intro b e d;rw[jaw] at e;subst e;exact⟨j,hk d⟩
  |cons a r p=>
   intro b e d;refine⟨j,hs a (by rw[e];simp) (λo i=>match o with | some y=>(b.map f).length<sizeLine/\gi G g tt te δ0 ((r.map c).map .t) i (b.map f++[y]) k | none=>gi G g tt te δ0 ((r.map c).map .t) i (b.map f) k) λm=>?_⟩;have u:b.length<l.length:=by rw[e];simp
   refine⟨by rw[jac];lia,?_⟩;have:=p (b++[a]) (by rw[e];simp) λx q=>by
    rcases jan.mp q with h | h
    .exact d x h
    .rw[jag.mp h];exact m
   rw[jaj] at this;exact this
 have:=n l [] rfl λx h=>absurd h jaY;simpa using this
def IT {s:ah}:AW s↔∀b∈s.Dm,Km b:=by
 cases s with
 |ch a c t e=>unfold AW Km ah.Dm;simp
 |rp a c g f b=>unfold AW Km ah.Dm;simp
 |_=>unfold AW;exact⟨λ_ b d=>(by cases d),λ_=>trivial⟩
theorem IU:∀{l m:List ah},v8 (l++m)↔v8 l/\v8 m
 |[],m=>by rw[jbH];exact⟨λh=>⟨by rw[v8];trivial,h⟩,λh=>h.2⟩
 |s::r,m=>by rw[jbb,v8,v8,IU,and_assoc]
def Jz {A:Ad}(h:Bk A S b f c a):f<S.length:=(jar.mp h.2).1
def TX (s:ah):s.Dm.length<=2:=by cases s<;>simp[ah.Dm]
def Pz {s:ah}(h:AW s):z6 s<=32:=by
 cases s with
 |ch a c t e=>unfold AW at h;unfold z6;lia
 |_=>unfold z6;decide
theorem PB:∀{l:List ah},v8 l->iV l<=32 ^ l.length
 |[],_=>by rw[iV];exact jam _
 |s::r,h=>by
  rw[iV,jak,Nat.mul_comm];exact Nat.mul_le_mul (PB h.2) (Pz h.1)
def Fg (l:List ah)(s:ah):iV (l++[s])=iV l*z6 s:=by rw[CU,iV,iV,Nat.mul_one]
def EF {s:ah}(h:v8 l)(hs:AW s):v8 (l++[s]):=IU.mpr ⟨h,by rw[v8,v8];exact⟨hs,trivial⟩⟩
theorem VI (c:∀o∈a,Bd L o)(d:a.length=L)(e:b[j]?=some o)(f:Bd L o)(h:k (.ob L) (a++[o])):closes L (.ob (L+j)) (a++b) k:=
 .inr (.inl ⟨_,o,a,b,M,by lia,M,d,c,by rw[bD d];exact e,f,h⟩)
def KW {s:ah}(h:kd s<6)(p:List bN):jJ s p=((gW p s).1,[(gW p s).2]):=by
 cases s with
 |ch a c t e=>exact absurd h (by show ¬(7<6);decide)
 |rp a c d f b=>exact absurd h (by show ¬(8<6);decide)
 |_=>rw[jJ]
theorem E4:∀(l m:List ah)(ps:List (List bN)),bw (l++m) ps=((bw l ps).1++(bw m (bw l ps).2).1,(bw m (bw l ps).2).2)
 |[],m,ps=>by rw[bw];rfl
 |c::r,m,ps=>by rw[jbb,dP,dP,E4 r m];simp
def KU (a:List ah)(s:ah)(b:List ah)(ps:List (List bN)):(bw a ps).1.length+(pW s (bw a ps).2).1.length<=(bw (a++s::b) ps).1.length:=by
 rw[E4,dP];rw[jab,jab];lia
def OY (s:ah)(a:List (List bN))(q:List bN)(b:List (List bN)):(pW s a).1.length+(jJ s q).1.length<=(pW s (a++q::b)).1.length:=by
 unfold pW;simp only[jaj,jas,ja5,jaW,jab];lia
def Y7 {s:ah}(h:iV (b++s::a)<=16):iV b*z6 s<=16:=by
 rw[CU,iV,<- jb9] at h;have:=Nat.mul_le_mul_left (iV b*z6 s) (wo a);lia
theorem qv:∀{l:List ah},(∀s∈l,s.dp<=q)->jv l<=q
 |[],_=>by unfold jv;exact jaD _
 |s::r,h=>by
  unfold jv;have c:=h s jay;have b:=qv (l:=r) λx a=>h x (jav _ a);lia
def M1 (h:S.length=L):(S++o::r).set L a=S++a::r:=by subst h;simp
def tF (ok:Dc N h):(cN h).length<=32:=by
 obtain⟨a,c,d,b⟩:=ok.pl;have:=fX h.params;have:=BS ok;unfold cN;simp only[jab,jac];lia
def gZ (A:Ad)(a:Int)(c:aN)(hs:List (Int×aN))(f:Option (Int×Sm))(b:List ah):bA A (.rp a c hs f b)=.ins A.bx ["at","condition","keeps","falls","body"] [.int a,dZ A c,.tup (hs.map (atT A)),faT A f,.tup (b.map (bA A))]:=by rw[bA,dN]
def Yz (h:iq S (.t x)=r):iq a (.t x)=r:=by cases x<;>exact h
def D9 (a:Int)(c:aN)(hs:List (Int×aN))(d:Option (Int×Sm))(b:List ah)(p:List bN):jJ (.rp a c hs d b) p=((aq "first" p hs).1++Rv a d hs b (jH p hs b++[.hd c]),[jH p hs b++[.hd c.iZ]]):=by rfl
def Mi {a:Int}(h:a.natAbs<=1000000):a.natAbs.log2<1920/\("~":Str).length+(Str.ofString (toString a)).length<=1000:=by
 have l:a.natAbs.log2<20:=by
  by_cases b:a.natAbs=0
  .rw[b];decide
  .exact(Nat.log2_lt b).mpr (by lia)
 have c:(Str.ofString (toString a)).length<=30:=by rw[PySem.ofString_length];exact jai (int_text_length_le (by decide) l) (by decide)
 have d:("~":Str).length=1:=by symm
 exact⟨by lia,by lia⟩
def K0 (a:Int)(hs:List (Int×aN))(f:Option (Int×Sm))(q:List bN):(fK a hs f q).length=hs.length+(KZ a f).length:=by unfold fK;rw[jab,bu,bu]
noncomputable def aP (h:QE X e te)(n:autoParam (notStar e=true) zi):=qa h cG n
noncomputable def cD {p pos:Pos}(m:X.mg "tuple"=none)(h:QA X (e::es) t)(g:autoParam (Gl X "tuple") zi)(b:autoParam (notStar e=true) zi)(a:autoParam (es.all notStar=true) zi):=iL (p:=p) (pos:=pos) TU g m PyProof.Rows.boot_tuple h b a
noncomputable def ic {p pos:Pos}(m:X.mg "len"=none)(h:QA X (e::es) t)(g:autoParam (Gl X "len") zi)(b:autoParam (notStar e=true) zi)(a:autoParam (es.all notStar=true) zi):=bZ (p:=p) (pos:=pos) a2P g m PySem.boot_len h b a
def Oh:[a].Nodup:=by simp
def zX (h:autoParam (a≠b) ka):[a,b].Nodup:=by simp[h]
noncomputable def dc (a:cV k X.A):=a41 (X:=X) 40 (uE a)
theorem cS {sc:Scope}(f:jcI)(d:autoParam (sc.kind=.function) zi)(a:autoParam ((sc.names.all λx=>x.2 !=.local||sc.names.lookup x.1==some .local)=true) ka)
  (h:autoParam ((sc.names.all λx=>x.2 !=.cell)=true) ka) (c:closureFor sc X.env=pure cl:=by with_unfolding_all rfl) (b:Ql X.env cl:=by exact trivial) (e:autoParam (((relabel sc X.env).names.all λy=>!zY (some y.2)||(cl.lookup y.1).isSome)=true) zi)
  (g:autoParam (E6 X sc [] []=true) zi):iY X sc cl f.length (f++[]) []:=dS f [] [] d a h c b e rfl g
noncomputable def cX (S:av)(d:Nat)(c m:Int):av:=S.set d (.lst [.int c,.int m])
def Dq (S:av)(d:Nat)(m:Int):Prop:=∃c:Int,S[d]?=some (.lst [.int c,.int m])
def Dq.lt (h:Dq S d q):d<S.length:=by obtain⟨_,e⟩:=h;exact(jar.mp e).1
def lM (h:d<S.length):(cX S d c m)[d]?=some (.lst [.int c,.int m]):=jaG h
theorem Dq.cX (h:Dq S d q):Dq (cX S d c m) d m:=⟨c,lM h.lt⟩
def nP:L3.cX (L3.cX S d a b) d c m=L3.cX S d c m:=jat ..
def aO:(cX S d c m).length=S.length:=jaF
def oF (h:d<S.length):cX (S++loc) d c m=cX S d c m++loc:=jcz _ _ h
def Dq.up (h:Dq S d q):Dq (S++loc) d q:=let⟨c,e⟩:=h;⟨c,i8 e⟩
def Dq.self (h:Dq S d q):∃c,S=L3.cX S d c q:=let⟨c,e⟩:=h;⟨c,(set_same e).symm⟩
def j9 {N:jcI}(hd:Dq S d q)(h:lq S x=some (N.map T.str)):lq (cX S d c m) x=some (N.map T.str):=by
 cases x with
 |t x=>cases x<;>exact h
 |ob n=>
  obtain⟨f,a⟩:=hd;have h:(match S[n]? with | some (.lst l)=>some l | _=>none)=some (N.map T.str):=h;have b:n≠d:=λe=>by
   subst e;rw[a] at h;cases N with
   |nil=>cases h
   |cons y r=>have h:=jbc h;cases h
  show(match(L3.cX S d c m)[n]? with | some (.lst l)=>some l | _=>none)=some (N.map T.str);unfold cX;rw[jbl (jaE b)];exact h
def PF (a:Cl S):∀o∈cX S d c m,Bd S.length o:=CW a
def Fi (a:Cl S)(h:k (.t x) (cX S d c m)):closes S.length (.t x) (cX S d c m++loc) k:=.inl ⟨_,_,M,aO,PF a,trivial,h⟩
theorem CV (hd:Dq S d q)(P:T->Prop)(t:n<=1000)
  (hs:∀(i:Nat) c (m:Int) (j:Option T->av->Prop),i<n->m.natAbs<=b.natAbs+i*e->(∀y c' (f:Int),f.natAbs<=m.natAbs+e->P y->j (some y) (cX S d c' f))->elem g tt te δ0 (.int i) (cX S d c m) j)
  (hk:∀ys c (m:Int),ys.length=n->(∀y∈ys,P y)->m.natAbs<=b.natAbs+n*e->k ys (cX S d c m)):gi (λ_=>True) g tt te δ0 ((List.range n).map λ(i:Nat)=>D.int i) (cX S d a b) [] k:=by
 refine PC (λi ys l=>ys.length=i/\(∀y∈ys,P y)/\∃c m,l=L3.cX S d c m/\m.natAbs<=b.natAbs+i*e) ⟨M,λ_ h=>absurd h jaY,a,b,M,by lia⟩ ?_ ?_
 .rintro i x ys l j hx ⟨hl,hp,c,m,rfl,hm⟩ hk';rw[jaV] at hx;have o:i<n:=by
   rcases Nat.lt_or_ge i n with h | h
   .exact h
   .rw[List.getElem?_eq_none (by rw[jbg];exact h)] at hx;cases hx
  rw[List.getElem?_range o] at hx;cases hx;refine⟨trivial,By (by lia),hs i c m j o hm λy c' f r p=>hk' _ _ ⟨by simp[a20,hl],λz s=>?_,c',f,M,by rw[jbn];lia⟩⟩;rcases jan.mp (show z∈ys++[y] from s) with h | h
  .exact hp z h
  .rw[jag.mp h];exact p
 .rintro ys l ⟨hl,hp,c,m,rfl,hm⟩;rw[jac,jbg] at hl hm;exact⟨trivial,hk ys c m hl hp hm⟩
structure HD (ns L N ms us:List Str):Prop where
 n:ns≠[]/\ns.length<=8
 nm:∀x∈ns,qB x/\x∈N
 nN:L.length<=8
 LN:∀x∈L,x∈N
 m:∀r∈ms,r.length<=20/\hsh r∈N
 ml:ms.length<=8
 u:us≠[]/\us.length<=8
 um:∀r∈us,r.length<=20/\hsh r∈N
mutual
noncomputable def ah.dq:ah->Nat
 |.ch _ _ t e=>max (z4 t) (z4 e)+1
 |.rp _ _ _ _ b=>z4 b+1
 |_=>0
noncomputable def z4:List ah->Nat
 |[]=>0
 |c::r=>max c.dq (z4 r)
end
noncomputable def sc:Nat->Nat
 |0=>300
 |q+1=>3*sc q+700
noncomputable def jn (l:jcI):T:=.lst (l.map T.str)
section
variable (K:Frag)(A:Ad)
inductive UM  (ds:List D) (S:av) (k:KD):Prop
 |mk (c j:Int) (h0:ds=[.int c,.int j]) (h1:∀r:Int,0<=r->r<2147483399->k (.int r) S)
inductive MY  (ds:List D) (S:av) (k:KD):Prop
 |mk (l:List Int) (j:Nat) (h0:ds=[.t (.DV (l.map T.int)),.int j]) (h1:∀r:Int,k (.int r) S)
inductive Rm  (ds:List D) (S:av) (k:KD):Prop
 |mk (d:Nat) (n m0:Int) (h0:ds=[.ob d,.int n]) (h1:Dq S d m0) (h2:0<n) (h3:∀(r:Nat) c (m:Int),(r:Int)<n->m.natAbs<=m0.natAbs+1->k (.int r) (cX S d c m))
inductive UL  (ds:List D) (S:av) (k:KD):Prop
 |mk (d:Nat) (m0:Int) (h0:ds=[.ob d,.int 8]) (h1:Dq S d m0) (h2:∀(ns:List Str) c (m:Int),ns.length=8->(∀x∈ns,qB x)->m.natAbs<=m0.natAbs+100->k (.t (jn ns)) (cX S d c m))
inductive Gu  (ds:List D) (S:av) (k:KD):Prop
 |mk (d:Nat) (x:D) (N:List Str) (m0:Int) (h0:ds=[.ob d,x]) (h1:Dq S d m0) (h2:lq S x=some (N.map T.str)) (h3:N.length<=100) (h4:∀s c (m:Int),iT N s->m.natAbs<=m0.natAbs+10->k (.t (fD A s)) (cX S d c m))
inductive qS (n:Nat) (ds:List D) (S:av) (k:KD):Prop
 |mk (d:Nat) (x:D) (N:List Str) (m0:Int) (h0:n<2) (h1:ds=[.ob d,x,.int n]) (h2:Dq S d m0) (h3:lq S x=some (N.map T.str)) (h4:N.length<=100) (h5:∀e c (m:Int),dJ N e->(n=0->e.dep=0/\e.sz=1)->m.natAbs<=m0.natAbs+30*(n+1)->k (.t (dZ A e)) (cX S d c m))
noncomputable def DQ:Nat->mK
 |0=>JR
 |n+1=>qS A n
inductive wM  (ds:List D) (S:av) (k:KD):Prop
 |mk (d:Nat) (x:D) (N:List Str) (m0:Int) (h0:ds=[.ob d,x]) (h1:Dq S d m0) (h2:lq S x=some (N.map T.str)) (h3:N.length<=100) (h4:∀s c (m:Int),iT N s->m.natAbs<=m0.natAbs+12->k (.t (fD A s)) (cX S d c m))
inductive BE  (ds:List D) (S:av) (k:KD):Prop
 |mk (d:Nat) (ns L N ms us:List Str) (m0:Int) (h0:ds=[.ob d,.tup [jn ns,jn L,jn ms,jn us]]) (h1:Dq S d m0) (h2:HD ns L N ms us) (h3:∀s c (m:Int),bP N s->kd s<6->m.natAbs<=m0.natAbs+200->k (.t (bA A s)) (cX S d c m))
inductive BD (q:Nat) (ds:List D) (S:av) (k:KD):Prop
 |mk (d:Nat) (ns L N ms us:List Str) (x:D) (m0:Int) (h0:ds=[.ob d,.tup [jn ns,jn L,jn ms,jn us],.int q,x]) (h1:Dq S d m0) (h2:HD ns L N ms us) (h3:m0.natAbs+sc q<=900000) (h4:∀s c (m:Int),bP N s->s.dq<=q->m.natAbs<=m0.natAbs+sc q->k (.t (bA A s)) (cX S d c m))
inductive ku (q:Nat) (ds:List D) (S:av) (k:KD):Prop
 |mk (d:Nat) (ns L N ms us:List Str) (j:Nat) (x:D) (m0:Int) (h0:ds=[.ob d,.tup [jn ns,jn L,jn ms,jn us],.int j,.int q,x]) (h1:Dq S d m0) (h2:HD ns L N ms us) (h3:j<=10) (h4:m0.natAbs+j*sc q<=900000) (h5:∀(l:List ah) c (m:Int),l.length=j->(∀s∈l,bP N s/\s.dq<=q)->m.natAbs<=m0.natAbs+j*sc q->k (.ob S.length) (cX S d c m++[.lst (l.map (bA A))]))
inductive qR  (ds:List D) (S:av) (k:KD):Prop
 |mk (d:Nat) (x:D) (N:List Str) (j:Nat) (m0:Int) (h0:ds=[.ob d,x,.int j]) (h1:Dq S d m0) (h2:lq S x=some (N.map T.str)) (h3:N.length<=100) (h4:j<=2) (h5:∀(l:List (Int×aN)) c (m:Int),l.length=j->(∀p∈l,dJ N p.2)->m.natAbs<=m0.natAbs+120->k (.lst (l.map (atT A))) (cX S d c m))
inductive AD  (ds:List D) (S:av) (k:KD):Prop
 |mk (d:Nat) (ns:List Str) (j:Nat) (nm:Str) (x:D) (m0:Int) (h0:ds=[.ob d,.str nm,.int j,.int 3,x,.t (jn ns)]) (h1:Dq S d m0) (h2:j<=5) (h3:ns.length=8) (h4:(∀x∈ns,qB x)) (h5:m0.natAbs<=1000) (h6:∀h N c (m:Int),Dc N h->h.name=nm->m.natAbs<=m0.natAbs+200000->k (.t (CG A h)) (cX S d c m))
end
theorem ex_map {α β:Type}{f:α->β}{P:α->Prop}:∀{ys:List β},(∀y∈ys,∃x,y=f x/\P x)->∃xs:List α,ys=xs.map f/\xs.length=ys.length/\∀x∈xs,P x
 |[],_=>⟨[],M,M,λ_ h=>absurd h jaY⟩
 |y::r,h=>by
  obtain⟨x,e,p⟩:=h y jay;obtain⟨xs,d,b,c⟩:=ex_map λz a=>h z (jav _ a);exact⟨x::xs,by rw[e,d];rfl,by rw[jak,jak,b],λz a=>by
   rcases jah.mp a with rfl | a
   .exact p
   .exact c z a⟩
def Tu (h:lq S x=some l)(hk:k (.bl (xor neg (decide (l=[])))) S):eq3 n neg x (.lst []) S k:=by
 cases x with
 |ob i=>exact⟨l,[],h,M,.inr ⟨M,hk⟩⟩
 |t x=>
  cases x with
  |lst m=>exact⟨l,[],h,M,.inr ⟨M,hk⟩⟩
  |_=>cases h
def Yg (h:lq S x=some l)(hk:k (.int l.length) S):a1W [x] S k:=by
 cases x with
 |ob i=>
  exact oe h hk
 |t x=>
  cases x with
  |lst m=>cases h;exact hk
  |_=>cases h
def a16 (h:lq S x=some l)(e:p6 l i=some y)(hk:k (.t y) S):ZN x (.int i) S k:=by
 cases x with
 |ob j=>
  have h:(match S[j]? with | some (.lst l)=>some l | _=>none)=some l:=h;exact oe h (oe e hk)
 |t x=>
  cases x with
  |lst m=>cases h;exact oe e hk
  |_=>cases h
def qA {N:jcI}{r:Nat}(h:(r:Int)<N.length):∃y,y∈N/\p6 (N.map T.str) (r:Int)=some (T.str y):=by
 have h:r<N.length:=by lia
 exact⟨N[r],jcq h,wB (by rw[jaV,jaT h];rfl)⟩
def four {a b c e:Int}{r:Nat}(h:(r:Int)<4){P:Int->Prop}(i:P a)(f:P b)(g:P c)(d:P e):∃v,p6 [T.int a,.int b,.int c,.int e] (r:Int)=some (T.int v)/\P v:=by
 match r,h with
 |0,_=>exact⟨a,M,i⟩
 |1,_=>exact⟨b,M,f⟩
 |2,_=>exact⟨c,M,g⟩
 |3,_=>exact⟨e,M,d⟩
 |n+4,h=>lia
def Oe {N:jcI}{l:List (Str×Int)}(h:∀p∈l,p.1∈N):∀x∈(norm l).map (·.1),x∈N:=by
 intro x d;obtain⟨p,a,rfl⟩:=jaq.mp d;obtain⟨y,c,rfl⟩:=jaq.mp (jb5.mp a).1;obtain⟨q,b,rfl⟩:=jaq.mp (cW.mp c);exact h q b
def TQ (A:Ad)(c:aN):dZ A (.neg c)=.ins A.cZ ["condition"] [dZ A c]:=by rw[dZ]
def mD (h:lq S d=some l):xq S d=some l:=by
 cases d with
 |ob i=>exact h
 |t x=>
  cases x with
  |lst m=>exact h
  |_=>cases h
def two {r:Nat}(h:(r:Int)<2):∃wd:Str,p6 [T.str "div",.str "mod"] (r:Int)=some (T.str wd)/\(wd="div"\/wd="mod"):=by
 match r,h with
 |0,_=>exact⟨_,M,.inl M⟩
 |1,_=>exact⟨_,M,.inr M⟩
 |n+2,h=>lia
def a0K {r:Nat}(h:(r:Int)<7):∃v:Int,p6 [T.int 2,.int 3,.int (-2),.int 1,.int 7,.int 0,.int (-5)] (r:Int)=some (T.int v)/\(-20<v/\v<20):=by
 match r,h with
 |0,_=>exact⟨_,M,by decide,by decide⟩
 |1,_=>exact⟨_,M,by decide,by decide⟩
 |2,_=>exact⟨_,M,by decide,by decide⟩
 |3,_=>exact⟨_,M,by decide,by decide⟩
 |4,_=>exact⟨_,M,by decide,by decide⟩
 |5,_=>exact⟨_,M,by decide,by decide⟩
 |6,_=>exact⟨_,M,by decide,by decide⟩
 |n+7,h=>lia
def WA (h:-20<v/\v<20):iT N (sumOf [] v):=⟨by show 0<=2;decide,λ_ h=>absurd h (by simp[sumOf,norm,Sm.aU,sU]),⟨by show -(2 ^ 63)<v;lia,by show v<2 ^ 63;lia⟩⟩
def XS (h:a=[]):xor true (decide (a.map T.str=[]))=false:=by subst h;rfl
def SH (h:a≠[]):xor true (decide (a.map T.str=[]))=true:=by
 rw[jau (λe=>h (List.map_eq_nil_iff.mp e))];rfl
def a6i (x:Str):Prop:=x.length<=100/\∃c r,x.cps.toList=c::r
def W8 (h:qB x):a6i x:=let⟨⟨c,r,e,_⟩,l⟩:=h;⟨by lia,c,r,e⟩
def Tn (x:Str):(hsh x).cps.toList=35::x.cps.toList:=by
 unfold hsh;rw[sj];have:("#":Str).cps.toList=[35]:=by symm
 rw[this];rfl
def Tj (x:Str):(hsh x).length=x.length+1:=by
 unfold hsh;rw[jT];have:("#":Str).length=1:=by symm
 lia
def Pk (h:ns.length=8):∃a0 a1 a2 a3 a4 a5 a6 a7,ns=[a0,a1,a2,a3,a4,a5,a6,a7]:=by
 match ns,h with
 |[a0,a1,a2,a3,a4,a5,a6,a7],_=>exact⟨_,_,_,_,_,_,_,_,M⟩
def Y3 {a0:Str}{a1:Str}{a2:Str}{a3:Str}{a4:Str}{a5:Str}{a6:Str}{a7:Str}{r:Nat}(h:(r:Int)<3):∃ps:jcI,oU ([a0,a1,a2,a3,a4,a5,a6,a7].map T.str) none (some (r:Int))=ps.map T.str/\ps.length<=2/\∀x∈ps,x∈[a0,a1]:=by
 match r,h with
 |0,_=>exact⟨[],M,by decide,λx h=>by cases h⟩
 |1,_=>exact⟨[a0],M,by simp[h]⟩
 |2,_=>exact⟨[a0,a1],M,by simp,λx h=>h⟩
 |n+3,h=>lia
def Y0 {a0:Str}{a1:Str}{a2:Str}{a3:Str}{a4:Str}{a5:Str}{a6:Str}{a7:Str}{r:Nat}(h:(r:Int)<3):∃ps:jcI,oU ([a0,a1,a2,a3,a4,a5,a6,a7].map T.str) (some 6) (some (6+(r:Int)))=ps.map T.str/\ps.length<=2/\∀x∈ps,x∈[a6,a7]:=by
 match r,h with
 |0,_=>exact⟨[],M,by decide,λx h=>by cases h⟩
 |1,_=>exact⟨[a6],M,by simp[h]⟩
 |2,_=>exact⟨[a6,a7],M,by simp,λx h=>h⟩
 |n+3,h=>lia
def Y5 {a0:Str}{a1:Str}{a2:Str}{a3:Str}{a4:Str}{a5:Str}{a6:Str}{a7:Str}{r:Nat}(h:(r:Int)<3):∃ps:jcI,oU ([a0,a1,a2,a3,a4,a5,a6,a7].map T.str) (some 3) (some (3+(r:Int)))=ps.map T.str/\ps.length<=2/\∀x∈ps,x∈[a3,a4]:=by
 match r,h with
 |0,_=>exact⟨[],M,by decide,λx h=>by cases h⟩
 |1,_=>exact⟨[a3],M,by simp[h]⟩
 |2,_=>exact⟨[a3,a4],M,by simp,λx h=>h⟩
 |n+3,h=>lia
def Y4:oU ([a0,a1,a2,a3,a4,a5,a6,a7].map T.str) none (some 6)=[a0,a1,a2,a3,a4,a5].map T.str:=rfl
def G9:oU ([a0,a1,a2,a3,a4,a5,a6,a7].map T.str) (some 6) (some 8)=[a6,a7].map T.str:=rfl
def Y6:oU ([a0,a1,a2,a3,a4,a5,a6,a7].map T.str) (some 2) (some 6)=[a2,a3,a4,a5].map T.str:=rfl
theorem CK:∀l:jcI,yK (l.map T.str)=some (l.map V.str)
 |[]=>rfl
 |a::r=>by
  show(match flT (T.str a),yK (r.map T.str) with | some v,some b=>some (v::b) | _,_=>none)=_;rw[CK r];rfl
def Ze {N:jcI}{a:Sm}{b:Sm}{s:Str}(d:iT N a)(e:iT N b)(hs:s∈Hw.signs):dJ N (.cmp a s b)/\((aN.cmp a s b).dep=0/\(aN.cmp a s b).sz=1):=by
 refine⟨⟨by unfold aN.dep;decide,by unfold aN.sz;decide,by exact hs,λx c=>?_⟩,by rfl,by rfl⟩;rcases jah.mp c with rfl | c
 .exact d
 .rw[jag.mp c];exact e
def Zc (b:dJ N e)(d:e.dep=0)(c:e.sz=1):dJ N (.neg e):=⟨by unfold aN.dep;lia,by unfold aN.sz;lia,by unfold uf;exact b.sg,λs a=>b.mem s (by unfold aN.sums at a;exact a)⟩
def Zd (f:dJ N c)(d:c.dep=0/\c.sz=1)(b:dJ N e)(g:e.dep=0)(i:e.sz=1):dJ N (.con true [c,e]):=by
 refine⟨?_,?_,?_,λs a=>?_⟩
 .simp[aN.dep,rV,d.1,g]
 .simp[aN.sz,wL,d.2,i]
 .unfold uf;exact⟨by exact⟨f.sg,b.sg,trivial⟩,by simp⟩
 .simp only[aN.sums,fj,jaw] at a;rcases jan.mp a with h | h
  .exact f.mem s h
  .exact b.mem s h
def TL (a:dJ N c)(f:c.dep=0/\c.sz=1)(d:dJ N e)(g:e.dep=0)(i:e.sz=1):dJ N (.con false [c,e,c]):=by
 refine⟨?_,?_,?_,λs b=>?_⟩
 .simp[aN.dep,rV,f.1,g]
 .simp[aN.sz,wL,f.2,i]
 .unfold uf;exact⟨by exact⟨a.sg,d.sg,a.sg,trivial⟩,by simp⟩
 .simp only[aN.sums,fj,jaw] at b;rcases jan.mp b with h | h
  .exact a.mem s h
  .rcases jan.mp h with h | h
   .exact d.mem s h
   .exact a.mem s h
def iT.up (h:iT jcE x)(m:∀y∈jcE,y∈N):iT N x:=⟨h.few,λy a=>m y (h.mem y a),h.num⟩
def dJ.up (h:dJ jcE c)(m:∀y∈jcE,y∈N):dJ N c:=⟨h.dep,h.sz,h.sg,λs a=>(h.mem s a).up m⟩
def BN (h:qB x):Uj x:=.inl h
def RZ (h:qB x):Uj (hsh x):=.inr ⟨x,M,h.2⟩
noncomputable def AA (A:Ad):Nat->mK
 |0=>JR
 |q+1=>ku A q
section
variable (A:Ad)(a:Int)(x r wd:Str)(s b p z:Sm)(c:aN)(t e:List ah)
def My:bA A (.lt a x s)=.ins A.iB ["at","name","total"] [.int a,.str x,fD A s]:=by rw[bA]
def MA:bA A (.dv a x wd s b)=.ins A.bQ ["at","name","word","total","by"] [.int a,.str x,.str wd,fD A s,fD A b]:=by rw[bA]
def Mz:bA A (.ft a x r p)=.ins A.cH ["at","name","row","place"] [.int a,.str x,.str r,fD A p]:=by rw[bA]
def Ww:bA A (.pt a r p s)=.ins A.jK ["at","row","place","total"] [.int a,.str r,fD A p,fD A s]:=by rw[bA]
def Wx:bA A (.mq a r z)=.ins A.ff ["at","row","size"] [.int a,.str r,fD A z]:=by rw[bA]
def MB:bA A (.cm a c)=.ins A.cE ["at","condition"] [.int a,dZ A c]:=by rw[bA]
def MC:bA A (.ch a c t e)=.ins A.bg ["at","condition","then","other"] [.int a,dZ A c,.tup (t.map (bA A)),.tup (e.map (bA A))]:=by rw[bA,dN,dN]
end
theorem lN:∀{l:List ah},(∀s∈l,s.dq<=q)->z4 l<=q
 |[],_=>by unfold z4;exact jaD _
 |s::r,h=>by
  unfold z4;have c:=h s jay;have b:=lN (l:=r) λx a=>h x (jav _ a);lia
section
variable {m0:Int}
def dr2 (h:d<B.length):cX (cX B d a b++R) d c m=cX B d c m++R:=by rw[oF (by rw[aO];exact h),nP]
def dqA (h:d<B.length):Dq (cX B d a b++R) d b:=⟨a,i8 (lM h)⟩
def ZY (h:d<B.length):Dq (cX B d a b) d b:=⟨a,lM h⟩
def Oc (h:d<B.length)(b:0<n)(q:∀(r:Nat) c (m:Int),(r:Int)<n->m.natAbs<=m0.natAbs+1->k (.int r) (cX B d c m++R)):Rm [.ob d,.int n] (cX B d c0 m0++R) k:=⟨d,n,m0,M,dqA h,b,λr c m a e=>by rw[dr2 h];exact q r c m a e⟩
def FY (h:d<B.length)(b:0<n)(q:∀(r:Nat) c (m:Int),(r:Int)<n->m.natAbs<=m0.natAbs+1->k (.int r) (cX B d c m)):Rm [.ob d,.int n] (cX B d c0 m0) k:=⟨d,n,m0,M,ZY h,b,λr c m a e=>by rw[nP];exact q r c m a e⟩
def Rn {B:av}{d:Nat}{c0:Int}{k:KD}{x:D}{N:jcI}{A:Ad}(h:d<B.length)(b:lq (cX B d c0 m0) x=some (N.map T.str))(f:N.length<=100)(q:∀s c (m:Int),iT N s->m.natAbs<=m0.natAbs+10->k (.t (fD A s)) (cX B d c m)):Gu A [.ob d,x] (cX B d c0 m0) k:=⟨d,x,N,m0,M,ZY h,b,f,λs c m a e=>by rw[nP];exact q s c m a e⟩
def plB {B:av}{d:Nat}{c0:Int}{k:KD}{x:D}{N:jcI}{A:Ad}(h:d<B.length)(b:lq (cX B d c0 m0) x=some (N.map T.str))(f:N.length<=100)(q:∀s c (m:Int),iT N s->m.natAbs<=m0.natAbs+12->k (.t (fD A s)) (cX B d c m)):wM A [.ob d,x] (cX B d c0 m0) k:=⟨d,x,N,m0,M,ZY h,b,f,λs c m a e=>by rw[nP];exact q s c m a e⟩
def cdA {B:av}{R:av}{d:Nat}{c0:Int}{k:KD}{x:D}{N:jcI}{A:Ad}{i:Nat}(h:d<B.length)(l:i<2)(j:lq (cX B d c0 m0++R) x=some (N.map T.str))(b:N.length<=100)(q:∀e c (m:Int),dJ N e->(i=0->e.dep=0/\e.sz=1)->m.natAbs<=m0.natAbs+30*(i+1)->k (.t (dZ A e)) (cX B d c m++R)):qS A i [.ob d,x,.int i] (cX B d c0 m0++R) k:=⟨d,x,N,m0,l,M,dqA h,j,b,λs c m a f g=>by rw[dr2 h];exact q s c m a f g⟩
def cdB {B:av}{d:Nat}{c0:Int}{k:KD}{x:D}{N:jcI}{A:Ad}{i:Nat}(h:d<B.length)(l:i<2)(j:lq (cX B d c0 m0) x=some (N.map T.str))(b:N.length<=100)(q:∀e c (m:Int),dJ N e->(i=0->e.dep=0/\e.sz=1)->m.natAbs<=m0.natAbs+30*(i+1)->k (.t (dZ A e)) (cX B d c m)):qS A i [.ob d,x,.int i] (cX B d c0 m0) k:=⟨d,x,N,m0,l,M,ZY h,j,b,λs c m a f g=>by rw[nP];exact q s c m a f g⟩
def prA {B:av}{R:av}{d:Nat}{c0:Int}{k:KD}{x:D}{N:jcI}{A:Ad}{j:Nat}(h:d<B.length)(g:lq (cX B d c0 m0++R) x=some (N.map T.str))(b:N.length<=100)(i:j<=2)(q:∀(l:List (Int×aN)) c (m:Int),l.length=j->(∀p∈l,dJ N p.2)->m.natAbs<=m0.natAbs+120->k (.lst (l.map (atT A))) (cX B d c m++R)):qR A [.ob d,x,.int j] (cX B d c0 m0++R) k:=⟨d,x,N,j,m0,M,dqA h,g,b,i,λs c m a e f=>by rw[dr2 h];exact q s c m a e f⟩
def prB {B:av}{d:Nat}{c0:Int}{k:KD}{x:D}{N:jcI}{A:Ad}{j:Nat}(h:d<B.length)(g:lq (cX B d c0 m0) x=some (N.map T.str))(b:N.length<=100)(i:j<=2)(q:∀(l:List (Int×aN)) c (m:Int),l.length=j->(∀p∈l,dJ N p.2)->m.natAbs<=m0.natAbs+120->k (.lst (l.map (atT A))) (cX B d c m)):qR A [.ob d,x,.int j] (cX B d c0 m0) k:=⟨d,x,N,j,m0,M,ZY h,g,b,i,λs c m a e f=>by rw[nP];exact q s c m a e f⟩
def stA {B:av}{R:av}{d:Nat}{c0:Int}{k:KD}{x:D}{N:jcI}{A:Ad}{ns:jcI}{L:jcI}{ms:jcI}{us:jcI}{ds:List D}{i j:Nat}(e:ds=[.ob d,.tup [jn ns,jn L,jn ms,jn us],.int j,.int i,x])(h:d<B.length)(ok:HD ns L N ms us)(n:j<=10)(g:m0.natAbs+j*sc i<=900000)(w:∀(l:List ah) c (m:Int),l.length=j->(∀s∈l,bP N s/\s.dq<=i)->m.natAbs<=m0.natAbs+j*sc i->k (.ob (B.length+R.length)) (cX B d c m++(R++[.lst (l.map (bA A))]))):ku A i ds (cX B d c0 m0++R) k:=⟨d,ns,L,N,ms,us,j,x,m0,e,dqA h,ok,n,g,λl c m a b f=>by rw[dr2 h,jaQ,jab,aO];exact w l c m a b f⟩
def stB {B:av}{d:Nat}{c0:Int}{k:KD}{x:D}{N:jcI}{A:Ad}{ns:jcI}{L:jcI}{ms:jcI}{us:jcI}{ds:List D}{i j:Nat}(e:ds=[.ob d,.tup [jn ns,jn L,jn ms,jn us],.int j,.int i,x])(h:d<B.length)(ok:HD ns L N ms us)(n:j<=10)(g:m0.natAbs+j*sc i<=900000)(w:∀(l:List ah) c (m:Int),l.length=j->(∀s∈l,bP N s/\s.dq<=i)->m.natAbs<=m0.natAbs+j*sc i->k (.ob B.length) (cX B d c m++[.lst (l.map (bA A))])):ku A i ds (cX B d c0 m0) k:=⟨d,ns,L,N,ms,us,j,x,m0,e,ZY h,ok,n,g,λl c m a b f=>by rw[nP,aO];exact w l c m a b f⟩
end
def a4x {c:aN}(h:c.sz<=4):c.sums.length<=6:=by
 cases c with
 |cmp a s b=>unfold aN.sums;exact(show 2<=6 by decide)
 |neg c=>unfold aN.sz at h;unfold aN.sums;have:=jL c;lia
 |con b d=>unfold aN.sz at h;unfold aN.sums;have:=mS d;lia
def iG (h:dJ N c):(c.sums.map Sm.aU).flatten.length<=12:=by
 have d:=jt λs a=>(h.mem s a).few;have b:=a4x h.sz;lia
def wu (h:dJ N c):c.aU.length<=12:=jai (oj _) (iG h)
noncomputable def bq:Nat->Nat
 |0=>12
 |q+1=>max (20+3*bq q) (46+2*bq q)
def PZ (q:Nat):bq (q+1)=max (20+3*bq q) (46+2*bq q):=rfl
def mG (h:p<=q):bq p<=bq q:=by
 induction h with
 |refl=>exact jam _
 |step _ a=>rw[PZ];lia
noncomputable def Cu (l:List ah):Nat:=((gT l).map ah.all).flatten.length
def Oi:Cu []=0:=by unfold Cu;rw[gT];rfl
def Kp (s:ah)(r:List ah):Cu (s::r)=((jG s).map ah.all).flatten.length+Cu r:=by
 unfold Cu;rw[gT,jaj,ja5,jab]
def GA {hs:List (Int×aN)}(h:∀p∈hs,dJ N p.2):(hs.map λp=>(p.2.sums.map Sm.aU).flatten).flatten.length<=12*hs.length:=by
 have:=iF (n:=12) (l:=hs.map λp=>(p.2.sums.map Sm.aU).flatten) λx b=>by
  obtain⟨p,a,rfl⟩:=jaq.mp b;exact iG (h p a)
 rwa[jac] at this
mutual
theorem Zs:∀{s:ah}{q:Nat},bP N s->s.dq<=q->((jG s).map ah.all).flatten.length<=bq q
 |.ch a c t e,q,h,d=>by
  unfold bP at h;unfold ah.dq at d;obtain⟨q,rfl⟩:∃p,q=p+1:=⟨q - 1,by lia⟩
  obtain⟨i,E,B,lt,le⟩:=h;have j:=oN E (q:=q) (by lia);have u:=oN B (q:=q) (by lia);have A:=wu i;have k:(ah.all (.ch a c t e)).length=c.aU.length:=by simp[ah.all,ah.rows,ah.us]
  have m1:=jaC (bq q) lt;have H:=jaC (bq q) le;rw[jG,jas,jaW,jab,jaj,ja5,jab,k];unfold Cu at j u;rw[PZ];lia
 |.rp a c g f b,q,h,d=>by
  unfold bP at h;unfold ah.dq at d;obtain⟨q,rfl⟩:∃p,q=p+1:=⟨q - 1,by lia⟩
  obtain⟨i,G,gh,o,v,D,_⟩:=h;have j:=oN v (q:=q) (by lia);have A:=wu i;have k:(ah.all (.rp a c g f b)).length<=12+12*g.length+2:=by
   have F:(g.map λp=>p.2.aU).flatten.length<=12*g.length:=by
    have:=iF (n:=12) (l:=g.map λp=>p.2.aU) λx C=>by
     obtain⟨p,y,rfl⟩:=jaq.mp C;exact wu (gh p y)
    rwa[jac] at this
   have m:ah.all (.rp a c g f b)=(c.aU++(g.map λp=>p.2.aU).flatten)++(match f with | none=>[] | some p=>p.2.aU):=by
    cases f with
    |none=>simp[ah.all,ah.rows,jb2]
    |some w=>simp[ah.all,ah.rows,jb2]
   rw[m,jab,jab];cases f with
   |none=>show _+0<=_;lia
   |some w=>have:=(o w M).few;have:=bB w.2;show _+w.2.aU.length<=_;lia
  have m1:=jaC (bq q) D;rw[jG,jas,jaW,jab];unfold Cu at j;rw[PZ];lia
 |.lt a x s,q,h,d=>by
  unfold bP at h;have:=h.2.few;have:=bB s;refine jai ?_ (mG (jaD q));simp[jG,ah.all,ah.rows,ah.us,bq];lia
 |.dv a x w s b,q,h,d=>by
  unfold bP at h;have:=h.2.2.1.few;have:=h.2.2.2.few;have:=bB s;have:=bB b;refine jai ?_ (mG (jaD q));simp[jG,ah.all,ah.rows,ah.us,bq];lia
 |.ft a x r p,q,h,d=>by
  unfold bP at h;have:=h.2.2.few;have:=bB p;refine jai ?_ (mG (jaD q));simp[jG,ah.all,ah.rows,ah.us,bq];lia
 |.pt a r p s,q,h,d=>by
  unfold bP at h;have:=h.2.1.few;have:=h.2.2.few;have:=bB p;have:=bB s;refine jai ?_ (mG (jaD q));simp[jG,ah.all,ah.rows,ah.us,bq];lia
 |.mq a r z,q,h,d=>by
  unfold bP at h;have:=h.2.few;have:=bB z;refine jai ?_ (mG (jaD q));simp[jG,ah.all,ah.rows,ah.us,bq];lia
 |.cm a c,q,h,d=>by
  unfold bP at h;have:=wu h;refine jai ?_ (mG (jaD q));simp[jG,ah.all,ah.rows,ah.us,bq];lia
theorem oN:∀{l:List ah}{q:Nat},cU N l->z4 l<=q->Cu l<=l.length*bq q
 |[],q,_,_=>by rw[Oi];exact jaD _
 |s::r,q,h,hq=>by
  unfold cU at h;unfold z4 at hq;have b:=Zs (q:=q) h.1 (by lia);have a:=oN (q:=q) h.2 (by lia);rw[Kp,jak,jbn];lia
end
mutual
theorem Ou:∀{s:ah}{q:Nat},N.length<=8->bP N s->s.dq<=q->(eO s).length<=bq q
 |.ch a c t e,q,d,h,g=>by
  unfold bP at h;unfold ah.dq at g;obtain⟨q,rfl⟩:∃p,q=p+1:=⟨q - 1,by lia⟩
  obtain⟨j,n,m,lt,le⟩:=h;have v:=lH d n (q:=q) (by lia);have D:=lH d m (q:=q) (by lia);have y:=iG j;have A:=(iC (l:=t++e) (fk λu i=>by rcases jan.mp i with i | i;exact bH n i;exact bH m i) d).1;have m1:=jaC (bq q) lt;have G:=jaC (bq q) le;unfold eO;rw[jab,jab,jab];rw[PZ];lia
 |.rp a c E f b,q,d,h,g=>by
  unfold bP at h;unfold ah.dq at g;obtain⟨q,rfl⟩:∃p,q=p+1:=⟨q - 1,by lia⟩
  obtain⟨j,F,gh,o,k,B,_⟩:=h;have v:=lH d k (q:=q) (by lia);have y:=iG j;have A:=(iC k d).1;have C:=GA gh;have m1:=jaC (bq q) B;unfold eO;rw[jab,jab,jab,jab,PZ];cases f with
  |none=>show _+_+0+(_+_)<=_;lia
  |some w=>have:=(o w M).few;have:=bB w.2;show _+_+w.2.aU.length+(_+_)<=_;lia
 |.lt a x s,q,d,h,g=>by
  unfold bP at h;have:=h.2.few;have:=bB s;refine jai ?_ (mG (jaD q));simp[eO,bq];lia
 |.dv a x w s b,q,d,h,g=>by
  unfold bP at h;have:=h.2.2.1.few;have:=h.2.2.2.few;have:=bB s;have:=bB b;refine jai ?_ (mG (jaD q));simp[eO,bq];lia
 |.ft a x r p,q,d,h,g=>by
  unfold bP at h;have:=h.2.2.few;have:=bB p;refine jai ?_ (mG (jaD q));simp[eO,bq];lia
 |.pt a r p s,q,d,h,g=>by
  unfold bP at h;have:=h.2.1.few;have:=h.2.2.few;have:=bB p;have:=bB s;refine jai ?_ (mG (jaD q));simp[eO,bq];lia
 |.mq a r z,q,d,h,g=>by
  unfold bP at h;have:=h.2.few;have:=bB z;refine jai ?_ (mG (jaD q));simp[eO,bq];lia
 |.cm a c,q,d,h,g=>by
  unfold bP at h;have:=iG h;refine jai ?_ (mG (jaD q));unfold eO bq;exact this
theorem lH:∀{l:List ah}{q:Nat},N.length<=8->cU N l->z4 l<=q->(fH l).length<=l.length*bq q
 |[],q,_,_,_=>by unfold fH;exact jaD _
 |s::r,q,hN,h,hq=>by
  unfold cU at h;unfold z4 at hq;have b:=Ou (q:=q) hN h.1 (by lia);have a:=lH (q:=q) hN h.2 (by lia);unfold fH;rw[jab,jak,jbn];lia
end
mutual
theorem a2H:∀s:ah,s.dp<=s.dq+1
 |.ch a c t e=>by unfold ah.dp ah.dq;have:=yQ t;have:=yQ e;lia
 |.rp a c d f b=>by unfold ah.dp ah.dq;have:=yQ b;lia
 |.lt _ _ _=>by unfold ah.dp ah.dq;exact jam _
 |.dv _ _ _ _ _=>by unfold ah.dp ah.dq;exact jam _
 |.ft _ _ _ _=>by unfold ah.dp ah.dq;exact jam _
 |.pt _ _ _ _=>by unfold ah.dp ah.dq;exact jam _
 |.mq _ _ _=>by unfold ah.dp ah.dq;exact jam _
 |.cm _ _=>by unfold ah.dp ah.dq;exact jam _
theorem yQ:∀l:List ah,jv l<=z4 l+1
 |[]=>by unfold jv;exact jaD _
 |s::r=>by unfold jv z4;have:=a2H s;have:=yQ r;lia
end
theorem we:∀l m:List ah,fH (l++m)=fH l++fH m
 |[],m=>by rw[jbH,fH,jbH]
 |s::r,m=>by rw[jbb,fH,fH,we r m,jaQ]
theorem YE (z:ps.length<=8)(A:e.length<=2)(hs:b.length<=5)(y:i.length<=8)(w:j.length<=8)(g:N.length<=8)(k:∀x∈e,x∈N)(c:∀s∈b,bP N s/\s.dq<=3)
  (B:cl.length<=1) (d:∀s∈cl,bP N s/\s.dq=0) (l:∀p∈i,dJ ps p.2) (m:∀p∈j,dJ (ps++e) p.2) (n:∀x∈ps,Uj x):Dc N ⟨a,nm,ps,e,i,j,b++cl⟩:=by
 have u:cU N b:=fk λs h=>(c s h).1;have t:cU N cl:=fk λs h=>(d s h).1;have v:cU N (b++cl):=fk λs h=>by
  rcases jan.mp h with h | h
  .exact(c s h).1
  .exact(d s h).1
 have d1:z4 b<=3:=lN λs h=>(c s h).2;have r:z4 cl<=0:=lN λs h=>jbs (d s h).2;have D:z4 (b++cl)<=3:=lN λs h=>by
  rcases jan.mp h with h | h
  .exact(c s h).2
  .rw[(d s h).2];decide
 have q:bq 3=710:=by decide
 have o:bq 0=12:=by decide
 refine⟨?_,?_,v,by rw[jab];lia,?_,g,⟨z,A,y,w⟩,n,k,l,m⟩
 .have h1:=oN u d1;have f:=oN t r;rw[q] at h1;rw[o] at f;show((gT (b++cl)).map ah.all).flatten.length<=3800;rw[oh,jaj,ja5,jab];unfold Cu at h1 f;lia
 .have h1:=lH g u d1;have f:=lH g t r;have C:=(iC v g).1;rw[q] at h1;rw[o] at f;show(dY (b++cl)++fH (b++cl)).length<=3800;rw[we,jab,jab];lia
 .show jv (b++cl)<=4;have:=yQ (b++cl);lia
end L3
namespace L3
open PySem L2 Hw PyProof.Rows
noncomputable def Bb:List (Str×Str)->List (Key×T)->List (Key×T)
 |[],a=>a
 |p::r,a=>Bb r (dput a (Sum.inr p.1) (T.str p.2))
theorem Fe:∀{kvs:List (Str×Str)} {a:List (Key×T)} {b:List (Key×V)},Ui K G a b->Ui K G (Bb kvs a) (qj b (kvV kvs))
 |[],a,b,r=>r
 |p::r,a,b,h=>Fe (kvs:=r) (Fc h (Sum.inr p.1) M)
def Gm (kvs:List (Str×Str)):cI:=λ_ S k=>k (.ob S.length) (S++[.wm (Bb kvs [])])
theorem Nk (c:kvs≠[])(a:kvs.length<=15)(h:dictOf e=some kvs):QE X e (Gm kvs):=
 cy (NP c a h) λU H Q ⟨Y,S,Z,k,R,D,q,hk⟩ p b=>YS R hk p b (o:=.wm (Bb kvs [])) ⟨_,M,Fe .nil⟩ q
noncomputable def Xq:List (Str×Str):=[("<",">="),(">=","<"),("<=",">"),(">","<="),("=","!="),("!=","=")]
noncomputable def Wd:List (Str×Str):=[("and","or"),("or","and")]
def So {s:Str}(h:s∈Hw.signs):kG (Bb Xq []) (Sum.inr s)=some (T.str (J7 s)):=by
 simp only[Hw.signs,jah,jaY,or_false] at h;rcases h with h | h | h | h | h | h<;>subst h<;>rfl
def Q4 (q:Bool):kG (Bb Wd []) (Sum.inr (if q=true then "and" else "or":Str))=some (T.str (if(!q)=true then "and" else "or")):=by cases q<;>rfl
def WR (h:dictOf e=some Xq):QE X e (Gm Xq):=Nk (List.cons_ne_nil _ _) (by decide) h
def WO (h:dictOf e=some Wd):QE X e (Gm Wd):=Nk (List.cons_ne_nil _ _) (by decide) h
def F2 (K:Frag)(H:Hp)(b:Str)(v:V):Prop:=∃a,v=.ref a/\ki K H a [.str b]
open Classical in
def a4P (K:Frag):R2:=λx y H Q=>∃p q c b,x=.ref p/\y=.ref q/\ki K H p [.str b]/\kL K H q c/\(∀v∈c,F2 K H b v\/∃a d z,v=.ref a/\ki K H a (.str z::d)/\z≠b)/\Q (.bl (decide (∃v∈c,F2 K H b v))) H
theorem Ar:∀{xs:List V}{us:jcJ},Vals xs us->∀u∈us,∃v∈xs,RelV v u
 |_,_,.nil=>λu a=>by cases a
 |y::xs,u::us,.cons r t=>λb a=>by
  rcases jah.mp a with rfl | a
  .exact⟨y,jay,r⟩
  .obtain⟨v,h1,h2⟩:=Ar t b a;exact⟨v,jav _ h1,h2⟩
theorem Aq:∀{xs:List V}{us:jcJ},Vals xs us->∀v∈xs,∃u∈us,RelV v u
 |_,_,.nil=>λu b=>by cases b
 |y::xs,u::us,.cons r t=>λv a=>by
  rcases jah.mp a with rfl | a
  .exact⟨u,jay,r⟩
  .obtain⟨w,h1,h2⟩:=Aq t v a;exact⟨w,jav _ h1,h2⟩
def Bu (I:Inv X i U H s)(j:ki X.K H a (.str z::B))(l:ki X.K H a (.str b::x)):z=b:=by
 obtain⟨us,r,k,_⟩:=I.tuple j;obtain⟨L,w,y,_⟩:=I.tuple l;cases r with
 |cons h F=>
  cases w with
  |cons q u=>
   rename_i C f E g;have m:=k;have v:=y;obtain⟨o,A,_,n,d1⟩:=m;obtain⟨D,c,_,J,e⟩:=v;rw[A] at c;cases c;rw[d1] at e;cases e;obtain⟨t,p⟩:=h;obtain⟨G,d⟩:=q;rw[p] at d;cases d;rfl
open Classical in
def Xx (J:X.A.units+1<cLine):kP X (compareOp .In) (a4P X.K):=by
 intro vy s U H x y v u Q I rx Z h;obtain⟨p,q,c,b,rfl,rfl,S,Y,hm,k⟩:=h;cases rx;cases Z;obtain⟨T,r,pl,B⟩:=I.list Y;obtain⟨us,W,R,_⟩:=I.tuple S;have D:∀a (w1 w2:Value),(∃us,s.heap.IsTuple a us)->True:=λ_ _ _ _=>trivial;have O:∀w∈T.toArray,SeqAt.EqAt X.A.in1 s w (.ref p) ((λw=>decide (∃v∈c,RelV v w/\F2 X.K H b v)) w):=by
  intro w hw;obtain⟨v,f,t⟩:=Ar r w (by simpa using hw);rcases hm v f with l | ⟨a,zs,z,rfl,n,B⟩
  .have e:decide (∃v∈c,RelV v w/\F2 X.K H b v)=true:=jaB ⟨v,f,t,l⟩;show SeqAt.EqAt X.A.in1 s w (.ref p) (decide (∃v∈c,RelV v w/\F2 X.K H b v));rw[e];obtain⟨a,rfl,n⟩:=l;cases t;by_cases d:a=p
   .subst d;exact SeqAt.EqAt.same _
   refine .of_refs d ?_;obtain⟨vs,M,N,_⟩:=I.tuple n;cases W with
   |cons F G=>
    cases G;cases M with
    |cons L o=>
     cases o;rename_i g i;have:=SeqAt.RcAt.tuples (A:=X.A.in1) (e:=λ_=>true) (show s.heap.IsTuple a [i].toArray from N) (show s.heap.IsTuple p [g].toArray from R) (by show X.A.units+1<cLine;lia) ?_
     .have e:(((List.range (min [i].toArray.size [g].toArray.size)).all λ_=>true)&&[i].toArray.size ==[g].toArray.size)=true:=by simp
      rw[e] at this;exact this
     .intro j h1 h2;have:j=0:=by simp at h2;exact h2
      subst this;have:=CO (A:=X.A.in1.in1) (s:=s) L F rfl rfl;have e:F0 (V.str b) (V.str b)=true:=by show(b==b)=true;simp
      rw[e] at this;exact this
  .cases t;have e:decide (∃v∈c,RelV v (Value.ref a)/\F2 X.K H b v)=false:=by
    refine jau ?_;rintro⟨v',hv',P,a',rfl,E⟩;cases P;exact B (Bu I n E)
   show SeqAt.EqAt X.A.in1 s (.ref a) (.ref p) (decide (∃v∈c,RelV v (Value.ref a)/\F2 X.K H b v));rw[e];have d:a≠p:=λz=>by subst z;exact B (Bu I n S)
   obtain⟨vs,M,N,_⟩:=I.tuple n;cases W with
   |cons F G=>
    cases G;cases M with
    |cons L o=>
     rename_i g i m;refine .of_refs d ?_;have:=SeqAt.RcAt.tuples (A:=X.A.in1) (e:=λ_=>false) (show s.heap.IsTuple a (i::m).toArray from N) (show s.heap.IsTuple p [g].toArray from R) (by show X.A.units+1<cLine;lia) ?_
     .have e:((List.range (min (i::m).toArray.size [g].toArray.size)).all λ_=>false)=false:=by simp
      rw[e] at this;exact this
     .intro j h1 h2;have:j=0:=by simp at h2;exact h2
      subst this;have:=CO (A:=X.A.in1.in1) (s:=s) L F rfl rfl;have e:F0 (V.str z) (V.str b)=false:=by show(z==b)=false;simpa using B
      rw[e] at this;exact this
 refine SeqAt.in_listAt (λw=>decide (∃v∈c,RelV v w/\F2 X.K H b v)) pl.isList O ⟨.bl (decide (∃v∈c,F2 X.K H b v)),H,I,?_,k⟩;have e:T.toArray.any (λw=>decide (∃v∈c,RelV v w/\F2 X.K H b v))=decide (∃v∈c,F2 X.K H b v):=by
  by_cases C:∃v∈c,F2 X.K H b v
  .rw[jaB C];obtain⟨v,f,l⟩:=C;obtain⟨u,J,t⟩:=Aq r v f;simp only[List.any_toArray,jbS];exact⟨u,J,jaB ⟨v,f,t,l⟩⟩
  .rw[jau C];simp only[List.any_toArray,List.any_eq_false];intro u J;rw[decide_eq_true_eq];rintro⟨v,f,_,l⟩;exact C ⟨v,f,l⟩
 rw[e];rfl
def a0X (K:Frag):R2:=λx y H Q=>∃p q d c b,x=.ref p/\y=.ref q/\ki K H p [.str c]/\kL K H q d/\(∀v∈d,F2 K H c v\/∃a e z,v=.ref a/\ki K H a (.str z::e)/\z≠c)/\
 (b=true->∃v∈d,F2 K H c v)/\(b=false->∀v∈d,∃a e z,v=.ref a/\ki K H a (.str z::e)/\z≠c)/\Q (.bl b) H
open Classical in
def Sv (m:X.A.units+1<cLine):kP X (compareOp .In) (a0X X.K):=by
 intro f s U H x y v u Q I E t ⟨p,q,r,h,b,i,j,l,e,C,D,B,k⟩;refine Xx m f s U H x y v u Q I E t ⟨p,q,r,h,i,j,l,e,C,?_⟩;cases b with
 |true=>rw[jaB (D M)];exact k
 |false=>
  rw[jau]
  .exact k
  rintro⟨g,F,G,d,c⟩;obtain⟨a,J,z,w,o,n⟩:=B rfl g F;rw[w] at d;cases d;exact n (Bu I o c)
def a5o:zD:=λa b S k=>∃(x:Str)(l:List T),a=.tup [.str x]/\lq S b=some l/\(∀y∈l,y=.tup [.str x]\/∃z r,y=.tup (.str z::r)/\z≠x)/\(T.tup [.str x]∈l->k (.bl true) S)/\(T.tup [.str x]∉l->k (.bl false) S)
theorem bU.a1G:∀{l:List T}{vs:List V},bU K G l vs->∀y∈l,∃v∈vs,Rp K G y v
 |[],vs,r=>λy d=>by cases d
 |y::l,vs,r=>λz a=>by
  obtain⟨w,e,rfl,b,c⟩:=r;rcases jah.mp a with rfl | a
  .exact⟨w,jay,b⟩
  .obtain⟨v,h1,h2⟩:=bU.a1G c z a;exact⟨v,jav _ h1,h2⟩
theorem bU.X4:∀{l:List T}{vs:List V},bU K G l vs->∀v∈vs,∃y∈l,Rp K G y v
 |[],vs,r=>λv a=>by subst r;cases a
 |y::l,vs,r=>λv a=>by
  obtain⟨w,d,rfl,b,c⟩:=r;rcases jah.mp a with rfl | a
  .exact⟨y,jay,b⟩
  .obtain⟨z,h1,h2⟩:=bU.X4 c v a;exact⟨z,jav _ h1,h2⟩
def a1u (P:X.A.units+1<cLine):C9 X (compareOp .In) a5o:=by
 refine ie (Sv P) ?_;rintro x y H Q ⟨Y,S,a,b,k,R,N,U,⟨z,l,V,hb,J,Z,qf⟩,hk⟩;subst V;obtain⟨p,vs,G,t,u⟩:=dz N;obtain⟨L,e,F,M,E⟩:=cR R U hb;have u:=bU.strs (ns:=[z]) u;rw[u] at t;have one:∀v,Rp X.K (res Y H) (.tup [.str z]) v->F2 X.K H z v:=λv i=>by
  obtain⟨B,s,C,n,g⟩:=dz i;have g:=bU.strs (ns:=[z]) g;rw[g] at n;exact⟨B,C,.of n⟩
 have I:∀v d r,d≠z->Rp X.K (res Y H) (.tup (.str d::r)) v->∃a D w,v=.ref a/\ki X.K H a (.str w::D)/\w≠z:=λv d r c i=>by
  obtain⟨B,s,C,n,g⟩:=dz i;obtain⟨w,W,rfl,O,h2⟩:=g;subst O;exact⟨B,W,d,C,.of n,c⟩
 have f:∀v∈e,F2 X.K H z v\/∃a D w,v=.ref a/\ki X.K H a (.str w::D)/\w≠z:=λv j=>by
  obtain⟨y,m,q⟩:=bU.X4 E v j;rcases J y m with rfl | ⟨d,r,rfl,c⟩
  .exact .inl (one v q)
  .exact .inr (I v d r c q)
 by_cases o:T.tup [.str z]∈l
 .refine⟨p,L,e,z,true,G,F,.of t,.of M,f,λ_=>?_,λh=>(Bool.noConfusion h),fin R hk aZ (Z o)⟩;obtain⟨v,j,i⟩:=bU.a1G E _ o;exact⟨v,j,one v i⟩
 .refine⟨p,L,e,z,false,G,F,.of t,.of M,f,λh=>(Bool.noConfusion h),λ_ v j=>?_,fin R hk aZ (qf o)⟩;obtain⟨y,m,q⟩:=bU.X4 E v j;rcases J y m with rfl | ⟨d,r,rfl,c⟩
  .exact absurd m o
  .exact I v d r c q
noncomputable def vF:ah->jcI
 |.ch _ _ t e=>dY (t++e)
 |.rp _ _ _ _ b=>dY b
 |s=>uo s
def V8 {s:ah}:x∈((jG s).map uo).flatten↔x∈vF s:=by
 cases s with
 |ch a c t e=>
  unfold vF dY;rw[cW,jG,oh];simp[uo]
 |rp a c d f b=>
  unfold vF dY;rw[cW,jG,jas];simp[uo]
 |_=>simp[jG,vF]
def Vc:sU (l.map vF).flatten=dY l:=by
 refine Gp λx=>?_
 induction l with
 |nil=>rw[gT];simp
 |cons s r a=>
  rw[gT,jas,jaW,jaj,ja5,jan,jan,a,V8]
noncomputable def tU (x a:Str)(s b:Sm):List bN:=
 if b.1≠[]\/b.2=0 then[.any x] else[.lt "^" s,.any "^^",.hd (quot b.2),.lt x (if a="div" then on "^^" else(on "^").less ((on "^^").times b.2))]
def JC (h:qB x):aQ x=[.any x]:=by
 obtain⟨⟨c,r,e,a⟩,_⟩:=h;unfold aQ;rw[jae];rw[qe e,jau (by lia)];decide
def Zp:aQ "^^"=[.any "^^"]:=by
 unfold aQ;rw[jae];have e:("^^":Str).cps.toList=[94,94]:=by symm
 decide
def K4 {s:Sm}(h:qB x):K5 x a s b p=p++tU x a s b:=by
 unfold K5 tU;rw[JC h,Zp];split
 .rfl
 .simp
noncomputable def iM (a b:Sm)(t:Int):Sm:=sumOf (a.1++b.1.map λp=>(p.1,t*p.2)) (a.2+t*b.2)
noncomputable def yR:Option iX->T
 |none=>.tup [.str "many"]
 |some d=>VC d
structure ZF (d:iX):Prop where
 c:d.cond.dep<3/\d.cond.sz<=40
 a:∀r∈d.ahead,∀c,r=.hd c->c.dep<3/\c.sz<=40
 al:d.ahead.length<=9000
section
variable (K:Frag)(A:Ad)
inductive Ij  (ds:List D) (S:av) (k:KD):Prop
 |mk (a b:Sm) (t:Int) (h0:ds=[.t (qG a),.t (qG b),.int t]) (h1:a.1.length<=32) (h2:(a.1.map (·.1)).Nodup) (h3:b.1.length<=8) (h4:(-(2 ^ 63)<t/\t<2 ^ 63)) (h5:k (.t (qG (iM a b t))) S)
inductive wN (n:Nat) (ds:List D) (S:av) (k:KD):Prop
 |mk (c:aN) (h0:ds=[.t (je c)]) (h1:c.dep<n) (h2:c.sz<=40) (h3:uf c) (h4:k (.t (je c.iZ)) S)
inductive MS  (ds:List D) (S:av) (k:KD):Prop
 |mk (x:Str) (h0:ds=[.str x]) (h1:k (.t (qG (on x))) S)
inductive MV  (ds:List D) (S:av) (k:KD):Prop
 |mk (a b:Sm) (h0:ds=[.t (qG a),.t (qG b)]) (h1:k (.t (je (zl a b))) S)
inductive DL (q:Nat) (ds:List D) (S:av) (k:KD):Prop
 |mk (l:List ah) (N:List Str) (h0:ds=[.tup (l.map jM)]) (h1:cU N l) (h2:N.length<=8) (h3:l.length<=6) (hq:jv l<=q) (h4:k (.t (jn (dY l))) S)
inductive DM (n:Nat) (ds:List D) (S:av) (k:KD):Prop
 |mk (c:aN) (h0:ds=[.t (je c)]) (h1:c.dep<n) (h2:c.few) (h3:k (.t (jn (c.sums.map Sm.aU).flatten)) S)
inductive MP  (ds:List D) (S:av) (k:KD):Prop
 |mk (x:D) (l:List Sm) (h0:ds=[x]) (h1:(x=.lst (l.map qG)\/x=.tup (l.map qG))) (h2:l.length<=8) (h3:(∀s∈l,s.few)) (h4:k (.t (jn (l.map Sm.aU).flatten)) S)
inductive qQ (q:Nat) (ds:List D) (S:av) (k:KD):Prop
 |mk (l:List ah) (N:List Str) (h0:ds=[.tup (l.map jM)]) (h1:cU N l) (h2:N.length<=8) (h3:l.length<=6) (hq:jv l<=q) (hq5:q<=5) (h4:k (.t (jn (kU l))) S)
inductive MR  (ds:List D) (S:av) (k:KD):Prop
 |mk (f:Nat) (br:List (Option iX)) (p:List bN) (kn:Str) (a:Int) (c:aN) (h0:ds=[.ob f,.tup (p.map gB),.str kn,.int a,.t (je c)]) (h1:S[f]?=some (.lst (br.map yR))) (h2:br.length<=9000000) (h3:p.length<=9000) (h4:k (.tup ((p++[bN.hd c]).map gB)) (S.set f (.lst ((br++[some (vn kn a p c)]).map yR))))
inductive Ik  (ds:List D) (S:av) (k:KD):Prop
 |mk (x:D) (l:List Str) (h0:ds=[x]) (hx:x=.t (jn l)\/x=.tup (l.map T.str)) (h1:l.length<=8) (h2:(∀x∈l,x.length<=100/\∃c r,x.cps.toList=c::r)) (h3:k (.tup (((l.map aQ).flatten).map gB)) S)
inductive MU  (ds:List D) (S:av) (k:KD):Prop
 |mk (a:Int) (x wd:Str) (s b:Sm) (h0:ds=[.t (jM (.dv a x wd s b))]) (h1:(wd="div"\/wd="mod")) (h2:(-(2 ^ 63)<b.2/\b.2<2 ^ 63)) (h3:k (.tup ((tU x wd s b).map gB)) S)
noncomputable def zJ (ps:List (List bN)):List T:=ps.map λw=>.tup (w.map gB)
inductive om (q:Nat) (ds:List D) (S:av) (k:KD):Prop
 |mk (f:Nat) (x:T) (br:List (Option iX)) (p:List bN) (s:ah) (N:List Str) (h0:ds=[.ob f,.t x,.t (jM s),.tup (p.map gB)]) (h1:S[f]?=some (.lst (br.map yR))) (h2:br.length+(gz s p).1.length<=9000000) (h3:p.length+mx q<=8000) (h4:bP N s) (hN:N.length<=8) (hq:s.dp<=q) (h6:k (.lst (zJ (gz s p).2)) (S.set f (.lst ((br++(gz s p).1).map yR))))
inductive DP (q:Nat) (ds:List D) (S:av) (k:KD):Prop
 |mk (f:Nat) (x:T) (br:List (Option iX)) (p:List bN) (l:List ah) (N:List Str) (h0:ds=[.ob f,.t x,.tup (l.map jM),.tup (p.map gB)]) (h1:S[f]?=some (.lst (br.map yR))) (h2:br.length+(bh l [p]).1.length<=9000000) (h3:p.length+l.length*mx q<=8000) (h4:cU N l) (hN:N.length<=8) (hq:jv l<=q) (h6:k (.lst (zJ (bh l [p]).2)) (S.set f (.lst ((br++(bh l [p]).1).map yR))))
inductive DO (q:Nat) (ds:List D) (S:av) (k:KD):Prop
 |mk (f:Nat) (x:T) (br:List (Option iX)) (p:List bN) (a:Int) (c:aN) (hs:List (Int×aN)) (fa:Option (Int×Sm)) (bd:List ah) (N:List Str) (h0:ds=[.ob f,.t x,.t (jM (.rp a c hs fa bd)),.tup (p.map gB)]) (h1:S[f]?=some (.lst (br.map yR))) (h2:br.length+(gz (.rp a c hs fa bd) p).1.length<=9000000) (h3:p.length+mx (q+1)<=8000) (h4:bP N (.rp a c hs fa bd)) (hN:N.length<=8) (hq:jv bd<=q) (h6:k (.tup ((jH p hs bd++[bN.hd c.iZ]).map gB)) (S.set f (.lst ((br++(gz (.rp a c hs fa bd) p).1).map yR))))
inductive MT  (ds:List D) (S:av) (k:KD):Prop
 |mk (x:T) (h:oO) (N:List Str) (h0:ds=[.t x,.t (Qt h)]) (h1:Dc N h) (h2:Qn h->k (.lst ((gn h).map VC)) S) (h3:¬ Qn h->k (.str "many") S)
inductive MQ  (ds:List D) (S:av) (k:KD):Prop
 |mk (r:bN) (h0:ds=[.t (ja A r)]) (h1:(∀c,r=.hd c->c.dep<3/\c.sz<=40)) (h2:k (.t (gB r)) S)
inductive DN  (ds:List D) (S:av) (k:KD):Prop
 |mk (f:Nat) (br:List iX) (h0:ds=[.ob f]) (h1:S[f]?=some (.lst (br.map (CQ A)))) (h2:br.length<=100) (h3:(∀d∈br,ZF d)) (h4:k (.lst (br.map VC)) S)
inductive DR  (ds:List D) (S:av) (k:KD):Prop
 |mk (h:oO) (hs:List oO) (N:List Str) (h0:ds=[.t (Lo A hs),.str h.name]) (h1:hs.find? (λy=>decide (y.name=h.name))=some h) (h2:Dc N h) (hS:0<S.length) (h3:Qn h->∀S':av,S'.length=S.length->k (.lst ((gn h).map VC)) S') (h4:¬ Qn h->∀S':av,S'.length=S.length->k (.str "many") S')
inductive MN  (ds:List D) (S:av) (k:KD):Prop
 |mk (l:List Int) (h0:ds=[.t (.DV (l.map T.int))]) (h1:S=[]) (h2:∀S',k (.bl true) S')
end
def wz (a b:Sm)(s:Str):je (.cmp a s b)=.tup [.str "compare",qG a,.str s,qG b]:=by rw[je]
def CY (c:aN):je (.neg c)=.tup [.str "not",je c]:=by rw[je]
def jR (q:Bool)(a:List aN):je (.con q a)=.tup (.str (if q=true then "and" else "or")::a.map je):=by rw[je,r9]
def Fj:(⟨#[c]⟩:Str)="#"↔c=35:=by
 have e:("#":Str)=⟨#[35]⟩:=by symm
 rw[e];constructor
 .intro h;simpa using h
 .rintro rfl;rfl
def DC (x:Str)(h:i≠0):(on x).times i=([(x,i)],0):=by
 unfold Sm.times on sumOf;simp only[jas,jaX,Int.one_mul,Int.zero_mul];rw[EH x h]
def Ef:m.plus ([],i)=iM m ([],i) 1:=by
 unfold Sm.plus iM;simp only[jaX,Int.one_mul]
def SX (h:i≠0):(on "^").less ((on "^^").times i)=iM (on "^") ([("^^",i)],0) (-1):=by
 rw[DC _ h];unfold Sm.less Sm.plus Sm.times iM sumOf;simp only[jas,jaX];rw[EH _ (by lia:i*-1≠0)];simp
def yx:(on x).less ([],1)=iM (on x) ([],-1) 1:=by
 rfl
def RE (i:Int):(quot i).dep<3/\(quot i).sz<=40:=by
 unfold quot zl;split<;>simp[aN.dep,rV,aN.sz,wL]
def n9 (r:Str)(z:Sm):(within r z).dep<3/\(within r z).sz<=40:=by
 unfold within CI zl;simp[aN.dep,rV,aN.sz,wL]
def lO (a b:Sm)(s:Str):(aN.cmp a s b).dep<3/\(aN.cmp a s b).sz<=40:=by simp[aN.dep,aN.sz]
def An (c:aN):Prop:=c.dep<3/\c.sz<=40
def kj (p:List bN):Prop:=∀r∈p,∀c,r=bN.hd c->An c
def cB (c:kj p)(b:kj q):kj (p++q):=λr a=>(jan.mp a).elim (c r) (b r)
def g7 (h:An c):kj [bN.hd c]:=λr a b e=>by rw[jag.mp a] at e;cases e;exact h
def D8 {s:Sm}:kj [bN.lt x s]:=λr a b e=>by rw[jag.mp a] at e;cases e
theorem BH (x:Str):kj (aQ x):=λr a c e=>by
 unfold aQ at a;split at a
 .rcases jah.mp a with rfl | a
  .cases e
  .rw[jag.mp a] at e;cases e;exact lO ..
 .rw[jag.mp a] at e;cases e
theorem IC (ns:jcI):kj (ns.map aQ).flatten:=λr a=>by
 obtain⟨l,b,a⟩:=jaZ.mp a;obtain⟨x,_,rfl⟩:=jaq.mp b;exact BH x r a
end L3
set_option maxHeartbeats 8000000
namespace L3
open PySem L2 Hw PyProof.Rows
noncomputable def top (i:Nat):Stmt:=PySem.Challenge.pw_holdwright_k30_choices_and_loops.main.body.getD i (.Pass ⟨0,0,0,0⟩)
structure Qj (K:Frag)(C:Addr):Prop where
 pg:plainGet K C Str.empty=true
 hd:hasDictIn K C=true
 po:plainOver K C=true
 sa:findIn K (.ref C) "__setattr__"=some (some (.builtin "object.__setattr__"))
 mi:makesIn K C=true
 kc:keepIn K (.ref C)=true
 ca:findIn K (.ref C) "__class__"=some (some (.builtin "object.__class__"))
 cm:mroIn K C (.type "object")=some true
def Nfs (K:Frag)(C:Addr):jcI->Prop
 |[]=>True
 |x::r=>findIn K (.ref C) x=some none/\Nfs K C r
structure Kc (K:Frag)(mg:Str->Option Value)(x:Str)(C:Addr)(fs:List Str):Prop where
 g:mg x=some (.ref C)
 q:Qj K C
 k:zC K C []
 n:Nfs K C fs

structure Fx (K:Frag)(mg:Str->Option Value)(A:Ad):Prop where
 kK:mg "len"=none
 bE:mg "tuple"=none
 P6:mg "list"=none
 jB:mg "sorted"=none
 FD:mg "set"=none
 a2U:mg "sum"=none
 P7:mg "int"=none
 P5:mg "str"=none
 aW:mg "isinstance"=none
 oK:mg "range"=none
 a2V:mg "any"=none
 PV:Kc K mg "Sum" A.jA ["terms","number"]
 oJ:Kc K mg "Compare" A.bX ["one","sign","other"]
 Fz:Kc K mg "Turned" A.cZ ["condition"]
 Jw:Kc K mg "Every" A.eX ["conditions"]
 PX:Kc K mg "Some" A.gX ["conditions"]
 Bh:Kc K mg "Let" A.iB ["at","name","total"]
 jz:Kc K mg "Divide" A.bQ ["at","name","word","total","by"]
 oH:Kc K mg "Fetch" A.cH ["at","name","row","place"]
 FA:Kc K mg "Put" A.jK ["at","row","place","total"]
 zh:Kc K mg "Make" A.ff ["at","row","size"]
 wA:Kc K mg "Claim" A.cE ["at","condition"]
 iR:Kc K mg "Choose" A.bg ["at","condition","then","other"]
 gR:Kc K mg "Repeat" A.bx ["at","condition","keeps","falls","body"]
 PY:Kc K mg "Call" A.gF []
 iQ:Kc K mg "Helper" A.fh ["at","name","params","answers","needs","gives","steps"]
 Bg:Kc K mg "Program" A.cT ["helpers"]
 tZ:Kc K mg "Debt" A.kJ ["kind","at","ahead","condition"]
 Hu:Kc K mg "Book" A.iS ["program","found"]
 jc:∃t,mg "MOST_PATHS"=some (.int 16 t)
 jd:∃t,mg "MOST_DEBTS"=some (.int 100 t)
 iu:∃t,mg "DIVIDED"=some (.str "^" t)
 fB:∃t,mg "QUOTIENT"=some (.str "^^" t)
 kk:∀j i,j<9->i<9->kitOne K (.ref (qI A j)) (.ref (qI A i))=some (decide (j=i))
 iw:mg "TooMany"=some (.ref A.ay)
 Yq:kitOne K (.type "tuple") (.type "str")=some false
 gl:∀(x:Str)(a:Addr),nsIn K mainGlobals x=some (some (.ref a))->mg x=some (.ref a)
end L3
set_option maxHeartbeats 4000000
namespace L3
open PySem L2 Hw
noncomputable def gIn (neg:Bool):D->D->av->Option D
 |.t (.v x),b,S=>match gM x with
  |false=>none
  |true=>match sq S b with
   |none=>none
   |some l=>match yK l with
    |none=>none
    |some a=>some (.bl (xor neg (Ti x a)))
 |_,_,_=>none
instance {neg:Bool}:Pr (in3 neg) (gIn neg):=⟨λa b S d k h hk=>by
 unfold gIn at h;split at h
 .split at h
  .cases h
  .rename_i e0;split at h
   .cases h
   .rename_i l e1;split at h
    .cases h
    .rename_i vs e2;cases h;exact⟨_,l,vs,M,e0,e1,e2,hk⟩
 .cases h⟩
section
variable {te:cI}{f:Sl->av->Option D}{Z:Sl}{S:av}{E:p9}{a b:mL}
def a0P {c:Bool} [p:Pf te f] (e:f Z S=some (.bl c)) (d:c=true) (h:a E Z S):DE (qc te) a b E Z S:=by
 subst d;exact p.ok Z S _ _ e ⟨_,M,h⟩
def rG {b:Bool} [p:Pf te f] (e:f Z S=some (.bl b)) (c:b=false) (h:E.nx Z S):DE (qc te) a Gj E Z S:=by
 subst c;exact p.ok Z S _ _ e ⟨_,M,h⟩
end
mutual
theorem Vz:∀s:ah,s.dq<=s.dp
 |.ch a c t e=>by unfold ah.dp ah.dq;have:=yP t;have:=yP e;lia
 |.rp a c d f b=>by unfold ah.dp ah.dq;have:=yP b;lia
 |.lt _ _ _ | .dv _ _ _ _ _ | .ft _ _ _ _ | .pt _ _ _ _ | .mq _ _ _ | .cm _ _=>by unfold ah.dp ah.dq;decide
theorem yP:∀l:List ah,z4 l<=jv l
 |[]=>by unfold z4;exact jaD _
 |s::r=>by unfold jv z4;have:=Vz s;have:=yP r;lia
end
def kY {N:jcI}{s:Sm}(h:iT N s):s.few:=jai h.few (by decide)
def y9 {N:jcI}{c:aN}(h:dJ N c):c.few:=⟨jai h.sz (by decide),λs a=>kY (h.mem s a)⟩
def SQ (s:ah):fH [s]=eO s:=by rw[fH,fH,jaw]
def La {α:Type}(g:α->T)(l:List α)(k:Nat):oU (l.map g) none (some (k:Int))=(l.take k).map g:=by
 unfold oU;rw[HT.D7,HT.IB,List.drop_zero,Nat.sub_zero,jac,List.map_take];rcases Nat.le_total k l.length with h | h
 .rw[Nat.min_eq_left h]
 .rw[Nat.min_eq_right h,jcx (by simp),jcx (by rw[jac];exact h)]
theorem ES:∀(l r:List ah)(ps:List (List bN)),bh (l++r) ps=((bh l ps).1++(bh r (bh l ps).2).1,(bh r (bh l ps).2).2)
 |[],r,ps=>by rw[bh];simp
 |s::l,r,ps=>by rw[jbb,dj,dj,ES l r];simp
def NC {x:Str}(h:Uj x):x.length<=100/\∃c r,x.cps.toList=c::r:=by
 rcases h with h | ⟨y,rfl,a⟩
 .exact W8 h
 .exact⟨by rw[Tj];lia,_,_,Tn y⟩
noncomputable def Wz:Nat->mK
 |0=>JR
 |q+1=>DL q
noncomputable def JS:Nat->mK
 |0=>JR
 |q+1=>qQ q
def Cw {N:jcI}{s:ah}(g:bP N s)(h:N.length<=8):(vF s).length<=8:=by
 cases s with
 |ch a c t e=>
  unfold bP at g;exact(iC (l:=t++e) (fk λu d=>by rcases jan.mp d with d | d;exact bH g.2.1 d;exact bH g.2.2.1 d) h).1
 |rp a c i f b=>unfold bP at g;exact(iC g.2.2.2.2.1 h).1
 |_=>simp[vF,uo]
def Yb {N:jcI}{l:List ah}(g:cU N l)(a:N.length<=8):∀x∈(l.map vF).flatten,x∈N:=λx b=>(iC g a).2 x (by rw[<- Vc];exact cW.mpr b) |>.1
def OP {S:av}{x:D}{l:List T}{k:List D->(av->Prop)->av->Prop}(h:x=.lst l\/x=.tup l)(hk:k (l.map .t) (λ_=>True) S):EX x S k:=.inl ⟨l,h.symm,hk⟩
def a6c:zD:=λa b S k=>∃l m,lq S a=some l/\lq S b=some m/\l.length+m.length<=sizeLine/\k (.ob S.length) (S++[.lst (l++m)])
def Oa {X:Cx}:C9 X (binaryOp .Add) a6c:=by
 refine ie NX ?_;rintro x y H Q ⟨Y,S,a,b,k,R,g,u,⟨l,m,j,n,r,v⟩,hk⟩;obtain⟨o,t,s,f,c⟩:=cR R g j;obtain⟨i,h,e,w,d⟩:=cR R u n;exact⟨o,i,t,h,s,e,f,w,by rw[<- c.len,<- d.len];exact r,λp q=>Pb R hk (c.app d) v p q⟩
noncomputable def nW (l:List ah):jcI:=((gT l).map uo).flatten
def yu {l:List ah}{x:Str}:x∈dY l↔x∈nW l:=by exact cW
def qN {c:aN}{x:Str}:x∈c.aU↔x∈(c.sums.map Sm.aU).flatten:=by exact cW
mutual
theorem Zt:∀(s:ah)(x:Str),x∈((jG s).map ah.all).flatten↔(x∈((jG s).map uo).flatten\/x∈eO s)
 |.ch a c t e,x=>by
  have g:=sy t x;have j:=sy e x;unfold nW at g j;unfold eO;rw[jG];simp only[jas,jaW,jaj,ja5,jan,g,j,yu];unfold nW;rw[oh];simp only[jaj,ja5,jan];have h:x∈ah.all (.ch a c t e)↔x∈(c.sums.map Sm.aU).flatten:=by
   have:ah.all (.ch a c t e)=c.aU:=by simp[ah.all,ah.rows,ah.us]
   rw[this,qN]
  have i:x∈uo (.ch a c t e)↔False:=by simp[uo]
  rw[h,i]
  grind
 |.rp a c d f b,x=>by
  have g:=sy b x;unfold nW at g;unfold eO;rw[jG];have i:x∈uo (.rp a c d f b)↔False:=by simp[uo]
  have k:x∈(d.map λp=>p.2.aU).flatten↔x∈(d.map λp=>(p.2.sums.map Sm.aU).flatten).flatten:=by
   simp only[jaZ,jaq];constructor
   .rintro⟨l,⟨p,hp,rfl⟩,hx⟩;exact⟨_,⟨p,hp,M⟩,by have:=qN.mp hx;simpa[jaZ] using this⟩
   .rintro⟨l,⟨p,hp,rfl⟩,hx⟩;exact⟨_,⟨p,hp,M⟩,qN.mpr (by simpa[jaZ] using hx)⟩
  have h:x∈ah.all (.rp a c d f b)↔(x∈(c.sums.map Sm.aU).flatten\/x∈(d.map λp=>p.2.aU).flatten)\/x∈(match f with | none=>[] | some p=>p.2.aU):=by
   have m:ah.all (.rp a c d f b)=(c.aU++(d.map λp=>p.2.aU).flatten)++(match f with | none=>[] | some p=>p.2.aU):=by
    cases f with
    |none=>simp[ah.all,ah.rows,jb2]
    |some w=>simp[ah.all,ah.rows,jb2]
   rw[m,jan,jan,qN]
  simp only[jas,jaW,jan,g,yu,h,i,k];unfold nW;cases f with
  |none=>simp;grind
  |some w=>simp;grind
 |.lt a y s,x=>by simp[jG,ah.all,ah.rows,ah.us,uo,eO]
 |.dv a y w s b,x=>by simp[jG,ah.all,ah.rows,ah.us,uo,eO]
 |.ft a y r p,x=>by simp[jG,ah.all,ah.rows,ah.us,uo,eO];grind
 |.pt a r p s,x=>by simp[jG,ah.all,ah.rows,ah.us,uo,eO];grind
 |.mq a r z,x=>by simp[jG,ah.all,ah.rows,ah.us,uo,eO]
 |.cm a c,x=>by simp only[jG,ah.all,ah.rows,ah.us,uo,eO,jas,jaX,jaW,jbG,jaw,qN];grind
theorem sy:∀(l:List ah)(x:Str),x∈((gT l).map ah.all).flatten↔(x∈nW l\/x∈fH l)
 |[],x=>by unfold nW;rw[gT,fH];simp
 |s::r,x=>by
  have b:=Zt s x;have a:=sy r x;unfold nW at a ⊢;rw[gT,fH,jaj,ja5,jaj,ja5,jan,jan,jan,b,a]
  grind
end
def Mx {l:List ah}{x:Str}:x∈((gT l).map ah.all).flatten↔x∈kU l:=by
 rw[sy];unfold kU;rw[jan,yu]
def Kn (l:List (Option iX)):Prop:=∀d,some d∈l->d.kind≠"many"
def ql {a b:List (Option iX)}(h:Kn a)(k:Kn b):Kn (a++b):=λd hd=>(jan.mp hd).elim (h d) (k d)
theorem rN {l:List iX}(h:∀d∈l,d.kind≠"many"):Kn (l.map some):=λd hd=>by
 obtain⟨e,a,q⟩:=jaq.mp hd;cases q;exact h d a
theorem rT {a:Str}(h:a≠"many"):∀(p:List bN)(l:List (Int×aN)),∀d∈(aq a p l).1,d.kind≠"many"
 |p,[]=>λd hd=>by cases hd
 |p,q::r=>λd hd=>by
  rcases jah.mp hd with rfl | hd
  .exact h
  .exact rT h _ r d hd
theorem YX (a:Int)(hs:List (Int×aN))(f:Option (Int×Sm))(q:List bN):∀d∈fK a hs f q,d.kind≠"many":=λd hd=>by
 rcases jan.mp hd with hd | hd
 .exact rT (by symm) _ _ d hd
 .exact rT (by symm) _ _ d hd
theorem Zl (a:Int)(f:Option (Int×Sm))(p:List bN):∀d∈(iI a f p).1,d.kind≠"many":=λd hd=>by
 cases f with
 |none=>cases hd
 |some w=>
  rw[jag.mp hd];show("bound":Str)≠"many";symm
theorem YK (p:List bN)(s:ah):∀d∈(gW p s).1,d.kind≠"many":=λd hd=>by
 cases s with
 |dv a x e s b=>rw[jag.mp hd];show("nought":Str)≠"many";symm
 |ft a x r z=>rw[jag.mp hd];show("beyond":Str)≠"many";symm
 |pt a r z s=>rw[jag.mp hd];show("beyond":Str)≠"many";symm
 |mq a r z=>rw[jag.mp hd];show("short":Str)≠"many";symm
 |cm a c=>rw[jag.mp hd];show("claim":Str)≠"many";symm
 |_=>cases hd
def Ye {f:List bN->List (Option iX)×List (List bN)}(h:∀p,Kn (f p).1)(ps:List (List bN)):Kn (AY f ps).1:=by
 have a:Kn (ps.map λp=>(f p).1).flatten:=λd hd=>by
  obtain⟨l,b,hd⟩:=jaZ.mp hd;obtain⟨p,_,rfl⟩:=jaq.mp b;exact h p d hd
 unfold AY;split
 .exact ql a λd hd=>by cases jag.mp hd
 .exact a
mutual
theorem a1V:∀(s:ah)(p:List bN),Kn (gz s p).1
 |.ch a c t e,p=>by rw[gz];exact ql (yw t _) (yw e _)
 |.rp a c h f b,p=>by
  rw[gz];refine ql (rN (rT (by symm) _ _)) (ql (rN (Zl _ _ _)) (ql (yw b _) (rN λd hd=>?_)));obtain⟨l,g,hd⟩:=jaZ.mp hd;obtain⟨p,_,rfl⟩:=jaq.mp g;exact YX _ _ _ _ d hd
 |.lt ..,p | .dv ..,p | .ft ..,p | .pt ..,p | .mq ..,p | .cm ..,p=>by rw[gz];exact rN (YK p _)
theorem yw:∀(l:List ah)(ps:List (List bN)),Kn (bh l ps).1
 |[],ps=>by rw[bh];exact λd hd=>by cases hd
 |s::r,ps=>by rw[dj];exact ql (Ye (λp=>a1V s p) ps) (yw r _)
end
def Fp {h:oO}{N:jcI}(g:Dc N h){t:Str}(a:t∈((h.needs++h.gives).map λq=>(q.2.sums.map Sm.aU).flatten).flatten):t∈h.params++h.answers:=by
 obtain⟨l,d,a⟩:=jaZ.mp a;obtain⟨q,b,rfl⟩:=jaq.mp d;obtain⟨m,e,a⟩:=jaZ.mp a;obtain⟨s,c,rfl⟩:=jaq.mp e;rcases jan.mp b with b | b
 .exact jaA _ (((g.nd q b).mem s c).mem t a)
 .exact((g.gv q b).mem s c).mem t a
theorem JU {h:oO}{N:jcI}(g:Dc N h):∀t,t∉h.params->(t∈(kU h.steps++h.answers)++((h.needs++h.gives).map λq=>(q.2.sums.map Sm.aU).flatten).flatten↔t∈h.answers++((gT h.steps).map ah.all).flatten):=λt a=>by
 rw[jan,jan,jan,Mx];constructor
 .rintro((h1 | h1) | h1)
  .exact .inr h1
  .exact .inl h1
  .rcases jan.mp (Fp g h1) with q | q
   .exact absurd q a
   .exact .inl q
 .rintro(h1 | h1)
  .exact .inl (.inr h1)
  .exact .inl (.inl h1)
theorem JV {h:oO}{N:jcI}(g:Dc N h):∀t∈(kU h.steps++h.answers)++((h.needs++h.gives).map λq=>(q.2.sums.map Sm.aU).flatten).flatten,t∈N++(h.params++h.answers):=λt b=>by
 rcases jan.mp b with q | q
 .rcases jan.mp q with q | q
  .obtain⟨l,hl,q⟩:=jaZ.mp (Mx.mpr q);obtain⟨s,a,rfl⟩:=jaq.mp hl;exact jaA _ ((C7 (jZ g.st s a)).2 t q)
  .exact jaA _ (g.an t q)
 .exact jaP _ (Fp g q)
def dJ.upM {jcE N:jcI}{c:aN}(h:dJ jcE c)(m:∀x∈jcE,x∈N):dJ N c:=h.up m
theorem Rk {jcE ds:jcI}(h:∀x∈jcE,x∈ds)(l:ds.length<=64):(sU jcE).length<=64:=
 jai (tN ((mU jcE).imp λa=>Vd a) λx b=>h x (cW.mp b)) l
def Xp {h:oO}{jcE:jcI}{β:Type}{G:Str->β}(b:∀t,t∉h.params->(t∈jcE↔t∈h.answers++((gT h.steps).map ah.all).flatten)):(sU jcE).filterMap (λt=>if h.params.contains t=true then none else some (G t))=(others h).map G:=by
 have d:∀l:jcI,l.filterMap (λt=>if h.params.contains t=true then none else some (G t))=(l.filter λt=>!h.params.contains t).map G:=by
  intro l
  induction l with
  |nil=>rfl
  |cons a r c=>
   by_cases q:h.params.contains a=true
   .rw[List.filterMap_cons_none (by rw[jaf q]),List.filter_cons_of_neg (by rw[q];decide),c]
   .rw[jcb (by rw[jae q]),List.filter_cons_of_pos (by simpa using q),c];rfl
 rw[d];congr 1;unfold others;refine oq ((mU jcE).filter _) (mU _) λt=>?_;rw[jb5,cW,cW,jb5];constructor
 .rintro⟨h1,h2⟩;exact⟨(b t (by simpa using h2)).mp h1,h2⟩
 .rintro⟨h1,h2⟩;exact⟨(b t (by simpa using h2)).mpr h1,h2⟩
noncomputable def found (h:oO):List (Option iX):=(bh h.steps [cN h]).1++(((bh h.steps [cN h]).2.map λw=>(aq "gives" w h.gives).1).flatten).map some
def yH {h:oO}(ok:Km h.steps):found h=(gn h).map some:=by
 have a:=(oM h.steps [cN h] (by simp) (by simp)).1 (by rw[ja0,Nat.one_mul];exact ok);unfold found gn;rw[a,jaj]
def O5 {h:oO}(b:¬ Km h.steps):none∈found h:=by
 have a:=(oM h.steps [cN h] (by simp) (by simp)).2 (by rw[ja0,Nat.one_mul];exact b);exact jaA _ a
def O6 (h:oO):Kn (found h):=by
 refine ql (yw _ _) (rN λd hd=>?_);obtain⟨l,a,hd⟩:=jaZ.mp hd;obtain⟨p,_,rfl⟩:=jaq.mp a;exact rT (by symm) _ _ d hd
def Py {d:Option iX}(h:yR d=T.tup [.str "many"]):d=none:=by
 cases d with
 |none=>rfl
 |some d=>unfold yR VC at h;simp at h
def IZ {l:List (Option iX)}:T.tup [.str "many"]∈l.map yR↔none∈l:=by
 rw[jaq];constructor
 .rintro⟨d,hd,e⟩;rw[Py e] at hd;exact hd
 .exact λh=>⟨none,h,M⟩
theorem TF {l:List (Option iX)}(k:Kn l):∀y∈l.map yR,y=T.tup [.str "many"]\/∃z r,y=T.tup (.str z::r)/\z≠"many":=λy a=>by
 obtain⟨d,hd,rfl⟩:=jaq.mp a;cases d with
 |none=>exact .inl rfl
 |some d=>exact .inr ⟨d.kind,_,M,k d hd⟩
variable {N:jcI}
structure QF (jcE:Nat)(d:iX):Prop where
 c:An d.cond
 a:kj d.ahead
 l:d.ahead.length<=jcE
def QF.up {jcE b:Nat}{d:iX}(h:QF jcE d)(l:jcE<=b):QF b d:=⟨h.c,h.a,jai h.l l⟩
def pY {c:aN}(h:dJ N c):An c:=⟨by have:=h.dep;lia,by have:=h.sz;lia⟩
mutual
theorem NU:∀c:aN,c.iZ.dep<=c.dep/\c.iZ.sz<=c.sz
 |.cmp a s b=>by unfold aN.iZ aN.dep aN.sz;exact⟨jam _,jam _⟩
 |.neg c=>by
  have e:(aN.neg c).dep=c.dep+1:=by rw[aN.dep]
  have d:(aN.neg c).sz=c.sz+1:=by rw[aN.sz]
  have f:(aN.neg c).iZ=c:=by rw[aN.iZ]
  rw[e,d,f];lia
 |.con k g=>by
  have:=IP g;unfold aN.iZ aN.dep aN.sz;lia
theorem IP:∀l:List aN,rV (Ek l)<=rV l/\wL (Ek l)<=wL l
 |[]=>by unfold Ek;exact⟨jam _,jam _⟩
 |c::r=>by
  have b:=NU c;have a:=IP r;unfold Ek rV wL;lia
end
def PL {c:aN}(h:An c):An c.iZ:=by
 have:=NU c;obtain⟨b,a⟩:=h;exact⟨by lia,by lia⟩
theorem yN {k:Str}{jcE:Nat}:∀{l:List (Int×aN)} {p:List bN},(∀q∈l,An q.2)->kj p->p.length+l.length<=jcE->(∀d∈(aq k p l).1,QF jcE d)/\kj (aq k p l).2
 |[],p,_,a,_=>by exact⟨λd hd=>(jaY hd).elim,a⟩
 |q::r,p,ok,a,hl=>by
  rw[jak] at hl;obtain⟨c,b⟩:=yN (jcE:=jcE) (λq e=>ok q (jav _ e)) (cB a (g7 (ok q jay))) (by rw[jab,ja0];lia);refine⟨λd hd=>?_,b⟩;rcases jah.mp hd with rfl | hd
  .exact⟨ok q jay,a,by show p.length<=jcE;lia⟩
  .exact c d hd
def a2y {s:ah}{p:List bN}(ok:bP N s)(g:kj p):(∀d∈(gW p s).1,QF p.length d)/\kj (gW p s).2:=by
 have one:∀{k:Str}{a:Int}{c:aN},An c->∀d∈[vn k a p c],QF p.length d:=λh d hd=>by
  rw[jag.mp hd];exact⟨h,g,jam _⟩
 cases s with
 |lt a x s=>exact⟨λd hd=>(jaY hd).elim,cB g D8⟩
 |dv a x i s b=>
  refine⟨one (lO ..),?_⟩;simp only[gW,K5];split
  .exact cB (cB g (g7 (lO ..))) (BH x)
  .exact cB (cB (cB (cB (cB g (g7 (lO ..))) D8) (BH _)) (g7 (RE _))) D8
 |ft a x r z=>exact⟨one (n9 ..),cB (cB g (g7 (n9 ..))) (BH x)⟩
 |pt a r z s=>exact⟨one (n9 ..),cB g (g7 (n9 ..))⟩
 |mq a r z=>exact⟨one (lO ..),cB (cB g (g7 (lO ..))) D8⟩
 |cm a c=>unfold bP at ok;exact⟨one (pY ok),cB g (g7 (pY ok))⟩
 |ch a c t e=>exact⟨λd hd=>(jaY hd).elim,g⟩
 |rp a c j f b=>exact⟨λd hd=>(jaY hd).elim,g⟩
mutual
theorem a2x:∀{s:ah}{d:Nat}(p:List bN),bP N s->N.length<=8->s.dp<=d->kj p->(∀x∈(jJ s p).1,QF (p.length+mx d) x)/\(∀w∈(jJ s p).2,kj w)
 |.ch a c t e,0,p,h,i,hd,j=>absurd hd (by have:=fP (.ch a c t e);lia)
 |.ch a c t e,d+1,p,h,i,hd,j=>by
  unfold bP at h;unfold ah.dp at hd;have A:mx (d+1)=26+2*mx d:=rfl;have Y:=jaC (mx d) h.2.2.2.1;have h4:=jaC (mx d) h.2.2.2.2;obtain⟨R,E⟩:=E3 (d:=d) (m:=p.length+1) (ps:=[p++[.hd c]]) h.2.1 i (by lia) (λx g=>by rw[jag.mp g];exact⟨cB j (g7 (pY h.1)),by simp⟩);obtain⟨O,Q⟩:=E3 (d:=d) (m:=p.length+1) (ps:=[p++[.hd c.iZ]]) h.2.2.1 i (by lia) (λx g=>by rw[jag.mp g];exact⟨cB j (g7 (PL (pY h.1))),by simp⟩);rw[jJ];refine⟨λx g=>?_,λw n=>?_⟩
  .rcases jan.mp g with g | g
   .exact(R x g).up (by lia)
   .exact(O x g).up (by lia)
  .rcases jan.mp n with n | n
   .exact E w n
   .exact Q w n
 |.rp a c hs f b,0,p,h,i,hd,j=>absurd hd (by have:=fP (.rp a c hs f b);lia)
 |.rp a c hs f b,d+1,p,h,i,hd,j=>by
  unfold bP at h;unfold ah.dp at hd;obtain⟨C,L,gh,X,z,P,ga⟩:=h;have A:mx (d+1)=26+2*mx d:=rfl;have m1:=jaC (mx d) P;have M:=rH (p:=p) (hs:=hs) z i L;obtain⟨F,W⟩:=yN (k:="first") (jcE:=p.length+2) (l:=hs) (p:=p) (λq o=>pY (gh q o)) j (by lia);have y:kj (jH p hs b):=by
   unfold jH;refine cB (cB W (IC _)) λr y Z e=>?_;obtain⟨q,o,rfl⟩:=jaq.mp y;cases e;exact pY (gh q o)
  have u:kj (jH p hs b++[.hd c]):=cB y (g7 (pY C));have D:(∀x∈(iI a f (jH p hs b++[.hd c])).1,QF (p.length+21) x)/\kj (iI a f (jH p hs b++[.hd c])).2:=by
   cases f with
   |none=>exact⟨λx g=>(jaY g).elim,u⟩
   |some w=>exact⟨λx g=>by rw[jag.mp g];exact⟨lO ..,u,by show(jH p hs b++[bN.hd c]).length<=_;rw[jab,ja0];lia⟩,cB (cB u (g7 (lO ..))) D8⟩
  have B:=zj a f (jH p hs b++[.hd c]);rw[jab (as:=jH p hs b),ja0] at B;obtain⟨S,J⟩:=E3 (d:=d) (m:=p.length+23) (ps:=[(iI a f (jH p hs b++[.hd c])).2]) z i (by lia) (λx g=>by rw[jag.mp g];exact⟨D.2,by lia⟩);have K:=iN (d:=d) (m:=p.length+23) (ps:=[(iI a f (jH p hs b++[.hd c])).2]) z i (by lia) (λx g=>by rw[jag.mp g];lia);rw[jJ];refine⟨λx g=>?_,λw n=>?_⟩
  .rcases jan.mp g with g | g
   .exact(F x g).up (by lia)
   rcases jan.mp g with g | g
   .exact(D.1 x g).up (by lia)
   rcases jan.mp g with g | g
   .exact(S x g).up (by lia)
   obtain⟨l,T,g⟩:=jaZ.mp g;obtain⟨w,n,rfl⟩:=jaq.mp T;have U:=K w n;obtain⟨G,V⟩:=yN (k:="again") (jcE:=p.length+mx (d+1)) (l:=hs) (p:=w) (λq o=>pY (gh q o)) (J w n) (by lia);unfold fK at g;rcases jan.mp g with g | g
   .exact G x g
   .have hfl:=wj a f;have e2:=dm "again" w hs;refine(yN (k:="falls") (jcE:=p.length+mx (d+1)) (l:=KZ a f) (p:=(aq "again" w hs).2) (λq o=>?_) V (by lia)).1 x g;cases f with
    |none=>cases o
    |some v=>rw[jag.mp o];exact lO ..
  .rw[jag.mp n];exact cB y (g7 (PL (pY C)))
 |.lt ..,d,p,h,i,hd,j | .dv ..,d,p,h,i,hd,j | .ft ..,d,p,h,i,hd,j | .pt ..,d,p,h,i,hd,j | .mq ..,d,p,h,i,hd,j | .cm ..,d,p,h,i,hd,j=>by
  obtain⟨I,H⟩:=a2y h j;rw[jJ];exact⟨λx g=>(I x g).up (by lia),λw n=>by rw[jag.mp n];exact H⟩
theorem E3:∀{l:List ah}{d m:Nat}{ps:List (List bN)},cU N l->N.length<=8->jv l<=d->(∀p∈ps,kj p/\p.length<=m)->(∀x∈(bw l ps).1,QF (m+l.length*mx d) x)/\(∀w∈(bw l ps).2,kj w)
 |[],d,m,ps,_,_,_,c=>by rw[bw];exact⟨λx a=>(jaY a).elim,λw j=>(c w j).1⟩
 |s::r,d,m,ps,h,hN,hd,c=>by
  unfold cU at h;unfold jv at hd;have i:∀q∈(pW s ps).2,kj q/\q.length<=m+mx d:=λq b=>by
   obtain⟨l,f,b⟩:=jaZ.mp (show q∈(ps.map λp=>(jJ s p).2).flatten from b);obtain⟨p,e,rfl⟩:=jaq.mp f;have o:=Jg p h.1 hN (by lia:s.dp<=d) q b;have g:=c p e;exact⟨(a2x p h.1 hN (by lia:s.dp<=d) g.1).2 q b,by lia⟩
  obtain⟨n,k⟩:=E3 (d:=d) (m:=m+mx d) (ps:=(pW s ps).2) h.2 hN (by lia) i;rw[dP,jak,jbn];refine⟨λx a=>?_,k⟩;rcases jan.mp a with a | a
  .obtain⟨l,f,a⟩:=jaZ.mp (show x∈(ps.map λp=>(jJ s p).1).flatten from a);obtain⟨p,e,rfl⟩:=jaq.mp f;have g:=c p e;exact((a2x p h.1 hN (by lia:s.dp<=d) g.1).1 x a).up (by lia)
  .exact(n x a).up (by lia)
end
theorem Pw {h:oO}(g:Dc N h):∀d∈gn h,ZF d:=λd hd=>by
 obtain⟨z,v,y,A⟩:=g.pl;have s:=tF g;have b:∀{jcE:jcI}{c:aN},dJ jcE c->An c:=λh=>pY h;have k:kj (cN h):=by
  refine cB (cB (IC _) λr f c e=>?_) λr f c e=>?_
  .obtain⟨x,_,rfl⟩:=jaq.mp f;cases e
  .obtain⟨q,i,rfl⟩:=jaq.mp f;cases e;exact b (g.nd q i)
 obtain⟨p,o⟩:=E3 g.st g.nl g.dp (λx u=>by rw[jag.mp u];exact⟨k,jam _⟩);have t:=iN (m:=(cN h).length) (ps:=[cN h]) g.st g.nl g.dp (by simp);have n:mx 4=390:=by decide
 have B:=jaC (mx 4) g.sl;have fin:∀{jcE:Nat},jcE<=9000->QF jcE d->ZF d:=λl h=>⟨h.c,h.a,jai h.l l⟩
 rcases jan.mp hd with hd | hd
 .exact fin (by lia) (p d hd)
 .obtain⟨l,hl,hd⟩:=jaZ.mp hd;obtain⟨w,j,rfl⟩:=jaq.mp hl;have:=t w j;exact fin (jam _) ((yN (λq i=>b (g.gv q i)) (o w j) (by lia)).1 d hd)
theorem CN {n:Nat}:∀{l:List T},(∀x∈l,Fl n x)->QD n l
 |[],_=>by simp[QD]
 |x::r,h=>by
  exact⟨h x jay,CN λy a=>h y (jav _ a)⟩
def a2B {n:Nat}{x:V}(h:gM x=true):Fl n (.v x):=by cases n<;>(unfold Fl;exact h)
def ju {n:Nat}{l:List T}(h:∀x∈l,Fl n x):Fl (n+1) (.tup l):=by exact CN h
def gO {n:Nat}(x:Str):Fl n (.str x):=a2B rfl
def CL {n:Nat}(x:Int):Fl n (.int x):=a2B rfl
theorem a2C {n:Nat}(p:Str×Int):Fl (n+1) (pT p):=ju λx a=>by
 rcases jah.mp a with rfl | a
 .exact gO _
 .rw[jag.mp a];exact CL _
theorem G3 {n:Nat}(s:Sm):Fl (n+3) (qG s):=ju λx a=>by
 rcases jah.mp a with rfl | a
 .exact ju λy b=>by obtain⟨p,_,rfl⟩:=jaq.mp b;exact a2C p
 .rw[jag.mp a];exact CL _
mutual
theorem CM:∀(c:aN){n:Nat},c.dep+4<=n->Fl n (je c)
 |.cmp a s b,n,h=>by
  obtain⟨m,rfl⟩:∃m,n=m+4:=⟨n - 4,by lia⟩
  rw[wz];refine ju λx d=>?_;rcases jah.mp d with rfl | d
  .exact gO _
  rcases jah.mp d with rfl | d
  .exact G3 _
  rcases jah.mp d with rfl | d
  .exact gO _
  .rw[jag.mp d];exact G3 _
 |.neg c,n,h=>by
  unfold aN.dep at h;obtain⟨m,rfl⟩:∃m,n=m+1:=⟨n - 1,by lia⟩
  rw[CY];refine ju λx d=>?_;rcases jah.mp d with rfl | d
  .exact gO _
  .rw[jag.mp d];exact CM c (by lia)
 |.con q e,n,h=>by
  unfold aN.dep at h;obtain⟨m,rfl⟩:∃m,n=m+1:=⟨n - 1,by lia⟩
  rw[je];refine ju λx d=>?_;rcases jah.mp d with rfl | d
  .exact gO _
  .exact Jk e (by lia) x d
theorem Jk:∀(l:List aN){n:Nat},rV l+4<=n->∀x∈Hq l,Fl n x
 |[],n,h=>λx a=>by rw[Hq] at a;exact(jaY a).elim
 |c::r,n,h=>λx a=>by
  unfold rV at h;rw[Hq] at a;rcases jah.mp a with rfl | a
  .exact CM c (by have:=Nat.le_max_left c.dep (rV r);lia)
  .exact Jk r (by have:=Nat.le_max_right c.dep (rV r);lia) x a
end
def YR {n:Nat}{r:bN}(h:∀c,r=.hd c->An c):Fl (n+7) (gB r):=by
 cases r with
 |any x=>
  exact ju λy a=>by
   rcases jah.mp a with rfl | a
   .exact gO _
   .rw[jag.mp a];exact gO _
 |lt x s=>
  exact ju λy a=>by
   rcases jah.mp a with rfl | a
   .exact gO _
   rcases jah.mp a with rfl | a
   .exact gO _
   .rw[jag.mp a];exact G3 _
 |hd c=>
  exact ju λy a=>by
   rcases jah.mp a with rfl | a
   .exact gO _
   .rw[jag.mp a];exact CM c (by have:=(h c M).1;lia)
theorem Px {h:oO}{N:jcI}(g:Dc N h):QD 40 ((gn h).map VC):=CN λx i=>by
 obtain⟨d,hd,rfl⟩:=jaq.mp i;have ok:=Pw g d hd;refine ju (n:=39) λy b=>?_;rcases jah.mp b with rfl | b
 .exact gO _
 rcases jah.mp b with rfl | b
 .exact CL _
 rcases jah.mp b with rfl | b
 .exact ju (n:=38) λz f=>by
   obtain⟨r,e,rfl⟩:=jaq.mp f;exact YR (n:=31) (ok.a r e)
 .rw[jag.mp b];exact CM _ (by have:=ok.c.1;lia)
def AB (A:Ad):mK:=λa S k=>∃q,q<=3/\ku A q a S k
end L3
namespace L3
open PySem L2 Hw PyProof.Rows
structure XTi (K:Frag)(mg:Str->Option Value)(C W fI fW:Addr)(Hv Qy:List Value):Prop where
 ct:Ab K C fI Hv
 cw:Ab K W fW Qy
 hin:(Value.ref C::Hv).contains (.ref C)=true
 mgC:mg "TooMany"=some (.ref C)
 mgW:mg "WritError"=some (.ref W)
 mgV:mg "ValueError"=none
 g1:specialIn K (.ref W) "__getattribute__"=some (some (.builtin "type.__getattribute__"))
 g2:readsIn K W (.type "type")=true
 g3:findCls K (.ref W) (.type "type") "__init__"=some (.val (.ref fW))
 g4:handedIn (.ref fW)=true
 g5:keepIn K (.ref fW)=true
 gv:findCls K (.type "ValueError") (.type "type") "__init__"=some (.val (.builtin "ValueError.__init__"))
end L3
namespace Hw
open PySem L2
end Hw
namespace L2
open PySem PySem.Spec PyProof.Rows Hw
end L2
namespace Hw
open PySem L2
end Hw
namespace Hw
open PySem L2 PyProof.Rows
noncomputable def zv:jcI->(Nat->Value)->jcJ
 |[],_=>[]
 |_::r,g=>g 0::zv r λn=>g (n+1)
def Z4 (ps:jcI):∀us:jcJ,us.length=ps.length->∃g,us=zv ps g:=by
 induction ps with
 |nil=>exact λus h=>⟨λ_=>.none,jcs h⟩
 |cons p ps b=>
  intro us h;cases us with
  |nil=>cases h
  |cons a r=>
   obtain⟨g,e⟩:=b r (Nat.succ.inj h);exact⟨λn=>n.casesOn a λm=>g m,by rw[e];rfl⟩
theorem _root_.L2.F3.bb {K:Frag}{x a:Str}{st:Stmt}{f:Addr}{j:FuncData}{ps:jcI}(F:F3 K x a st f j)(h:autoParam (∀(kV b i:Value)(d:jcM)(AT c:Value)(g:Nat->Value),bindArgs (fnOf x a (cY st) (bK st) (aM st) .none kV b i d AT c) ⟨zv ps g,[]⟩=pure (ps.zip (zv ps g))) zr):Binds K j ps []:=F.binds λkV b i d AT c us e=>by
 obtain⟨g,rfl⟩:=Z4 ps us e;exact h kV b i d AT c g
end Hw
namespace L3
open PySem L2 Hw
theorem Qj.ok {K:Frag}{C:Addr}(q:Qj K C)(b:specialIn K (.builtin "object.__class__") "__get__"=some (some (.builtin "getset_descriptor.__get__")))(a:takesIn K (.builtin "object.__class__")=some true):zC K C []:=⟨⟨q.pg,q.hd,q.po,q.sa⟩,λ_ h=>absurd h jaY,q.ca,b,a,q.cm⟩
def FnAt (K:Frag)(f:Addr)(x a:Str)(st:Stmt):Prop:=∃b,F3 K x a st f b/\keepIn K (.ref f)=true
def Fa (K:Frag)(x:Str)(s:Stmt):Prop:=∃f,nsIn K mainGlobals x=some (some (.ref f))/\FnAt K f x x s
def Fm (K:Frag)(C:Addr)(m q:Str)(s:Stmt):Prop:=∃f,findIn K (.ref C) m=some (some (.ref f))/\isFn K (.ref f)=true/\FnAt K f m q s
def Fas (K:Frag):List (Str×Stmt)->Prop
 |[]=>True
 |(x,s)::r=>Fa K x s/\Fas K r
def Fms (K:Frag):List (Addr×Str×Str×Stmt)->Prop
 |[]=>True
 |(C,m,q,s)::r=>Fm K C m q s/\Fms K r
def Css (K:Frag):List (Str×Addr×jcI)->Prop
 |[]=>True
 |(x,C,fs)::r=>(nsIn K mainGlobals x=some (some (.ref C))/\Qj K C/\Nfs K C fs)/\Css K r
def Nzs (K:Frag):jcI->Prop
 |[]=>True
 |x::r=>nsIn K mainGlobals x=some none/\Nzs K r
def Kr (K:Frag)(a:Addr)(j:Nat):jcK->Nat->Prop
 |[],_=>True
 |b::r,i=>kitOne K (.ref a) (.ref b)=some (decide (j=i))/\Kr K a j r (i+1)
def Kt (K:Frag)(bs:jcK):jcK->Nat->Prop
 |[],_=>True
 |a::r,j=>Kr K a j bs 0/\Kt K bs r (j+1)
theorem Kr.at {K:Frag}{a:Addr}{j:Nat}:∀{l:jcK}{i:Nat},Kr K a j l i->∀{n:Nat}{b:Addr},l[n]?=some b->kitOne K (.ref a) (.ref b)=some (decide (j=i+n))
 |_::_,_,h,0,_,e=>by cases e;exact h.1
 |_::_,i,h,n+1,b,e=>by have:=h.2.at (n:=n) (b:=b) e;rwa[Nat.add_assoc,Nat.add_comm 1 n] at this
theorem Kt.at {K:Frag}{bs:jcK}:∀{l:jcK}{j:Nat},Kt K bs l j->∀{n m:Nat}{a b:Addr},l[n]?=some a->bs[m]?=some b->kitOne K (.ref a) (.ref b)=some (decide (j+n=m))
 |_::_,_,h,0,m,_,b,e,f=>by cases e;have:=h.1.at f;rwa[jbV] at this
 |_::_,j,h,n+1,m,a,b,e,f=>by have:=h.2.at e f;rwa[Nat.add_assoc,Nat.add_comm 1 n] at this
theorem Fas.at {K:Frag}:∀{l:List (Str×Stmt)},Fas K l->∀(n:Nat){x:Str}{s:Stmt},l[n]?=some (x,s)->Fa K x s
 |_::_,h,0,_,_,e=>by cases e;exact h.1
 |_::_,h,n+1,_,_,e=>Fas.at h.2 n e
theorem Fms.at {K:Frag}:∀{l:List (Addr×Str×Str×Stmt)},Fms K l->∀(n:Nat){C:Addr}{m q:Str}{s:Stmt},l[n]?=some (C,m,q,s)->Fm K C m q s
 |_::_,h,0,_,_,_,_,e=>by cases e;exact h.1
 |_::_,h,n+1,_,_,_,_,e=>Fms.at h.2 n e
theorem Css.ok {K:Frag}{b:Str->jcN}(jcE:∀(x:Str)(a:Addr),nsIn K mainGlobals x=some (some (.ref a))->b x=some (.ref a))(d:specialIn K (.builtin "object.__class__") "__get__"=some (some (.builtin "getset_descriptor.__get__")))(c:takesIn K (.builtin "object.__class__")=some true){x:Str}{C:Addr}{fs:jcI}(h:nsIn K mainGlobals x=some (some (.ref C))/\Qj K C/\Nfs K C fs):Kc K b x C fs:=⟨jcE _ _ h.1,h.2.1,h.2.1.ok d c,h.2.2⟩
section
variable {P:Program}{w:World}{K:Frag}{mg:Str->jcN}{base:Heap}{k:Nat}{f:Addr}{fd:FuncData}{ps:jcI}{sp Qm:mK}{A:Ad}
theorem YN {s s':Sp}(h:∀vs H Q E,s' vs H Q E->s vs H Q E)(F:dX P w K mg base ug k f fd ps s):dX P w K mg base ug k f fd ps s':=
 ⟨λvs H Q E q=>F.len vs H Q E (h vs H Q E q),λA a s H b us vs Q E c d e g q=>F.run A a s H b us vs Q E c d e g (h _ _ _ _ q)⟩
def Vv {s':Sp}(h:∀vs H Q E,s' vs H Q E->cu K sp vs H Q E)(F:dX P w K mg base ug k f fd ps (cu K sp)):dX P w K mg base ug k f fd ps s':=YN h F
theorem Vu (h:∀ds S k,¬ sp ds S k):dX P w K mg base ug k f fd ps (cu K sp):=
 ⟨(by rintro d H Q E ⟨_,S,ds,a,_,_,q,_⟩;exact(h ds S a q).elim),(by rintro A b s H c us d Q E e g i j ⟨_,S,ds,a,_,_,q,_⟩;exact(h ds S a q).elim)⟩
def GW (h:∀ds S k,Qm ds S k->sp ds S k):∀vs H Q E,cu K Qm vs H Q E->cu K sp vs H Q E:=(by rintro vs H Q E ⟨Y,S,ds,a,R,r,q,hk⟩;exact⟨Y,S,ds,a,R,r,h ds S a q,hk⟩)
def _root_.Hw.Dn.u {x:Str}{j:Nat}{s:Sp}(h:Dn P w K mg base j x ps s)(l:autoParam (j<=k) zn):Dn P w K mg base k x ps s:=Dn.up h l
def Ms.u {n j:Nat}{m:Str}{cl:Nat->Addr}{s:Nat->mK}(h:Ms P w K mg base j n cl m ps s)(l:autoParam (j<=k) zn):Ms P w K mg base k n cl m ps s:=Ms.up h l
def qC.u {x:Str}{C:Addr}{j:Nat}(h:qC P w K mg base j C x ps sp)(l:autoParam (j<=k) zn):qC P w K mg base k C x ps sp:=qC.up h l
def Ky.le {st:Stmt}(h:∀vs H Q E,cu K Qm vs H Q E->cu K sp vs H Q E)(o:Ky P w K mg base k st ps sp):Ky P w K mg base k st ps Qm:=λf a x q F=>Vv h (o f a x q F)
def dA {x:Str}{st:Stmt}(J:Fx K mg A)(l:Fa K x st)(o:Ky P w K mg base k st ps sp)(b:autoParam (∀(kV c j:Value)(h:jcM)(AT e:Value)(g:Nat->Value),bindArgs (fnOf x x (cY st) (bK st) (aM st) .none kV c j h AT e) ⟨Hw.zv ps g,[]⟩=pure (ps.zip (Hw.zv ps g))) zr):Dn P w K mg base (k+1) x ps (cu K sp):=by
 obtain⟨f,a,d,F,i⟩:=l;exact⟨f,d,o _ _ _ _ F,J.gl _ _ a,i,F.bb b⟩
def mA {C:Addr}{m q:Str}{st:Stmt}(l:Fm K C m q st)(o:Ky P w K mg base k st ps sp)(b:autoParam (∀(kV c j:Value)(e:jcM)(AT d:Value)(g:Nat->Value),bindArgs (fnOf m q (cY st) (bK st) (aM st) .none kV c j e AT d) ⟨Hw.zv ps g,[]⟩=pure (ps.zip (Hw.zv ps g))) zr):Mt P w K mg base (k+1) C m ps (cu K sp):=by
 obtain⟨f,a,i,n,F,h⟩:=l;exact mtM (o _ _ _ _ F) a i h (F.bb b)
def m1 {C:Addr}{m q:Str}{st:Stmt}{s:mK}(l:Fm K C m q st)(o:Ky P w K mg base k st ps s)(b:autoParam (∀(kV a e:Value)(d:jcM)(AT c:Value)(g:Nat->Value),bindArgs (fnOf m q (cY st) (bK st) (aM st) .none kV a e d AT c) ⟨Hw.zv ps g,[]⟩=pure (ps.zip (Hw.zv ps g))) zr):Ms P w K mg base (k+1) 1 (λ_=>C) m ps (λ_=>s):=λj f=>mA l o b
def kA {C:Addr}{x q:Str}{fs:jcI}{st:Stmt}{s:mK}(c:Kc K mg x C fs)(l:Fm K C "__init__" q st)(o:Ky P w K mg base k st ps s)(b:autoParam (∀(kV d j:Value)(h:jcM)(AT e:Value)(g:Nat->Value),bindArgs (fnOf "__init__" q (cY st) (bK st) (aM st) .none kV d j h AT e) ⟨Hw.zv ps g,[]⟩=pure (ps.zip (Hw.zv ps g))) zr):qC P w K mg base (k+2) C x ps s:=by
 obtain⟨f,a,i,m,F,n⟩:=l;exact⟨k+1,jb3 _,mrM (o _ _ _ _ F) c.q.mi a i c.q.kc (F.bb b),c.k,c.g⟩
def Cm.up {x m:Str}{j:Nat}(h:Cm P w K mg base j x m ps sp)(l:j<=k):Cm P w K mg base k x m ps sp:=let⟨C,f,fd,F,a⟩:=h.ok;⟨⟨C,f,fd,F.mono l,a⟩⟩
def Cm.u {x m:Str}{j:Nat}(h:Cm P w K mg base j x m ps sp)(l:autoParam (j<=k) zn):Cm P w K mg base k x m ps sp:=Cm.up h l
def EK:∀ds S k,¬ JR ds S k:=λ_ _ _ h=>h
theorem bU.ofInts {G:Hp}:∀ns:List Int,bU K G (ns.map T.int) (ns.map V.int)
 |[]=>bU.nil
 |a::r=>bU.cons (by rfl) (bU.ofInts r)
theorem Yh:∀vs H Q E,MO K vs H Q E->cu K MN vs H Q E:=(by
 rintro vs H Q E ⟨a,b,e,f,_,h⟩;refine⟨[],[],[.t (.DV (b.map T.int))],λd _=>d=.bl true,⟨M,.nil,λn a o h=>by cases h⟩,?_,⟨b,M,M,λ_=>rfl⟩,λv c u=>?_⟩
 .rw[e];refine .cons ?_ .nil;show Rp _ _ _ _;exact⟨a,_,M,f,bU.ofInts b⟩
 .obtain⟨Y',S',d,_,_,r,rfl⟩:=u;rw[aV r];exact h c)
variable {C:Addr}{CX:Dp}{spw a8h:C8}
theorem YO (h:∀ds S k x,¬ spw ds S k x):dX P w K mg base CX k f fd ps (ZL K spw):=
 ⟨(by rintro d H Q E ⟨_,S,ds,a,_,_,_,_,q,_,_⟩;exact(h ds S a _ q).elim),(by rintro A b s H c us d Q E e g i j ⟨_,S,ds,a,_,_,_,_,q,_,_⟩;exact(h ds S a _ q).elim)⟩
theorem Ky.ex {st:Stmt}{n:Nat}{sq:Nat->mK}(h:∀q,q<=n->Ky P w K mg base k st ps (sq q)):Ky P w K mg base k st ps λds S kk=>∃q,q<=n/\sq q ds S kk:=λf e x y F=>
 ⟨(by rintro d H Q E ⟨Y,S,ds,kk,R,r,⟨q,c,z⟩,hk⟩;exact(h q c f e x y F).len d H Q E ⟨Y,S,ds,kk,R,r,z,hk⟩),(by rintro A a s H b us d Q E g i j l ⟨Y,S,ds,kk,R,r,⟨q,c,z⟩,hk⟩;exact(h q c f e x y F).run A a s H b us d Q E g i j l ⟨Y,S,ds,kk,R,r,z,hk⟩)⟩
def dW {x:Str}{st:Stmt}{s:C8}(J:Fx K mg A)(l:Fa K x st)(o:JH P w K mg base C k st ps s)(b:autoParam (∀(kV c j:Value)(h:jcM)(AT e:Value)(g:Nat->Value),bindArgs (fnOf x x (cY st) (bK st) (aM st) .none kV c j h AT e) ⟨Hw.zv ps g,[]⟩=pure (ps.zip (Hw.zv ps g))) zr):qJ P w K mg base C (k+1) x ps s:=by
 obtain⟨f,a,d,F,i⟩:=l;exact⟨f,d,o _ _ _ _ F,J.gl _ _ a,i,F.bb b⟩
def mW {D:Addr}{m q:Str}{st:Stmt}{s:C8}(l:Fm K D m q st)(o:JH P w K mg base C k st ps s)(b:autoParam (∀(kV c n:Value)(h:jcM)(AT e:Value)(g:Nat->Value),bindArgs (fnOf m q (cY st) (bK st) (aM st) .none kV c n h AT e) ⟨Hw.zv ps g,[]⟩=pure (ps.zip (Hw.zv ps g))) zr):HC P w K mg base C (k+1) D m ps s:=by
 obtain⟨f,a,i,d,F,j⟩:=l;exact⟨f,d,o _ _ _ _ F,⟨a,i,j⟩,F.bb b⟩
def _root_.L3.qJ.u {x:Str}{j:Nat}{s:C8}(h:qJ P w K mg base C j x ps s)(l:autoParam (j<=k) zn):qJ P w K mg base C k x ps s:=qJ.up h l
def _root_.L3.HC.u {c:Addr}{m:Str}{j:Nat}{s:C8}(h:HC P w K mg base C j c m ps s)(l:autoParam (j<=k) zn):HC P w K mg base C k c m ps s:=HC.up h l
def a1z:∀ds S k,¬ DM 0 ds S k:=λ_ _ _ h=>by cases h;lia
def XQ:∀ds S k,¬ wN 0 ds S k:=λ_ _ _ h=>by cases h;lia
theorem a1A (ok:ah->Prop):∀ds S k x,¬ JT A 0 ok ds S k x:=λ_ _ _ _ h=>by
 cases h with
 |mk b f o m p s N i g e j q n a l d c=>have:=fP s;lia
theorem XR:∀ds S k,¬ om 0 ds S k:=λ_ _ _ h=>by
 cases h with
 |mk f x i p s N e d c g l j a b=>have:=fP s;lia
end
noncomputable def JQ (A:Ad):Nat->mK
 |0=>JR
 |q+1=>mV A q
noncomputable def DS (A:Ad):Nat->C8
 |0=>λ_ _ _ _=>False
 |q+1=>vX A q
end L3
set_option maxHeartbeats 8000000
namespace L3
open PySem L2 Hw PyProof.Rows
section
variable {P:Program}{w:World}{K:Frag}{mg:Str->jcN}{base:Heap}{k:Nat}{f:Addr}{fd:FuncData}{A:Ad}{n:Nat}
variable {q:Nat}
seal L2.PE L2.PS L2.Bp L2.PA L2.PT QE QT QA QS JF QW EX
variable (rO:qC P w K mg base k A.jA "Sum" ["self","terms","number"] (MG A))(nR:Dn P w K mg base k "sum_of" ["pairs","number"] (cu K (Ia A)))(GU:Ms P w K mg base k 1 (λ_=>A.jA) "plus" ["self","other"] (λ_=>MJ A))(Cv:Ms P w K mg base k 1 (λ_=>A.jA) "times" ["self","number"] (λ_=>H9 A))(d9:Cm P w K mg base k "Step" "__init__" ["self","at"] (MH K))(f9:Ms P w K mg base k 1 (λ_=>A.jA) "told" ["self"] (λ_=>BC A))(eN:Ms P w K mg base k 1 (λ_=>A.jA) "things" ["self"] (λ_=>UG A))(cQ:Ms P w K mg base k 4 (Be A) "told" ["self"] (fE A 2))(lP:Dn P w K mg base k "told_pairs" ["pairs"] (cu K (H8 A 2)))(gD:Dn P w K mg base k "length_of" ["row"] (cu K Ii))(lG:Ms P w K mg base k 4 (Be A) "things" ["self"] (MF A 2))(oA:qC P w K mg base k A.bX "Compare" ["self","one","sign","other"] (Dk A.bX ["one","sign","other"]))(tS:Uk P w K mg)(OH:qC P w K mg base k A.gX "Some" ["self","conditions"] (Gs A.gX))(rP:qC P w K mg base k A.eX "Every" ["self","conditions"] (Gs A.eX))(qz:Dn P w K mg base k "as_pairs" ["pairs"] (cu K (Ie A)))(d7:Dn P w K mg base k "told_each" ["parts"] (cu K (qO A 10)))(iA:Dn P w K mg base k "at_most" ["one","other"] (cu K (US A)))(nX:Dn P w K mg base k "hold" ["condition"] (cu K (MX A)))(Fy:Dn P w K mg base k "is_length" ["thing"] (cu K Il))(iH:Dn P w K mg base k "from_nought" ["total"] (cu K (UP A)))(nS:Dn P w K mg base k "once" ["thing"] (cu K (ML A)))(GV:Ms P w K mg base k 1 (λ_=>A.jA) "less" ["self","other"] (λ_=>MM A))(EO:Ms P w K mg base k 9 (qI A) "blocks" ["self"] (DT A))(dU:Dn P w K mg base k "steps_within" ["steps"] (cu K (mV A 4)))(zc:Dn P w K mg base k "rows_of_step" ["step"] (cu K (DJ A)))(Om:Ms P w K mg base k 9 (qI A) "writes" ["self"] (iK A))(zg:Dn P w K mg base k "holds_of" ["writings"] (cu K (Im A)))(zd:Dn P w K mg base k "other_things" ["helper"] (cu K (Ig A)))(ze:Dn P w K mg base k "let" ["thing","total"] (cu K (UN A)))(gj:Dn P w K mg base k "rows_of_any" ["thing"] (cu K (Az A)))(Yo:qC P w K mg base k A.kJ "Debt" ["self","kind","at","ahead","condition"] (Dk A.kJ ["kind","at","ahead","condition"]))(Au:HC P w K mg base A.ay k A.iS "owe" ["self","path","kind","at","condition"] (UK A))(Fw:Dn P w K mg base k "is_within" ["step"] (cu K (a0G A)))(Gf:qJ P w K mg base A.ay k "go_plain" ["book","path","step"] (Io A (λs=>kd s≠1/\kd s<6)))(Dz:qJ P w K mg base A.ay k "go_divide" ["book","path","step"] (Io A (λs=>kd s=1)))(ig:Ms P w K mg base k 4 (Be A) "opposite" ["self"] (qP A 2))(Ht:Dn P w K mg base k "is_owing" ["program","step"] (cu K (MW A)))(tY:Dn P w K mg base k "things_written" ["steps"] (cu K (UE A)))(kT:HC P w K mg base A.ay k A.iS "owe_each" ["self","path","kind","writings"] (MK A))(gY:qJ P w K mg base A.ay k "go_steps" ["book","path","steps"] (wQ A 4))(vK:Dn P w K mg base k "path_at_first" ["helper"] (cu K (Ic A)))(Yp:qC P w K mg base k A.iS "Book" ["self","program"] (UR A))(j4:qJ P w K mg base A.ay k "count_paths" ["steps"] (vX A 4))(SO:Ms P w K mg base k 1 (λ_=>A.cT) "named" ["self","name"] (λ_=>Ih A))(ve:Dn P w K mg base k "_law_mixed" ["_law_cell","_law_k"] (cu K UM))(au:Dn P w K mg base k "_law_next" ["_law_draw","_law_size"] (cu K Rm))(OG:qC P w K mg base k A.cZ "Turned" ["self","condition"] (Dk A.cZ ["condition"]))(gE:Dn P w K mg base k "_law_sum" ["_law_draw","_law_things"] (cu K (Gu A)))(a11:qC P w K mg base k A.iB "Let" ["self","at","name","total"] (Dk A.iB ["at","name","total"]))(I9:qC P w K mg base k A.cE "Claim" ["self","at","condition"] (Dk A.cE ["at","condition"]))(bz:Dn P w K mg base k "_law_condition" ["_law_draw","_law_things","_law_deep"] (cu K (qS A 1)))(Yn:qC P w K mg base k A.ff "Make" ["self","at","row","size"] (Dk A.ff ["at","row","size"]))(nU:Dn P w K mg base k "_law_place" ["_law_draw","_law_things"] (cu K (wM A)))(a10:qC P w K mg base k A.jK "Put" ["self","at","row","place","total"] (Dk A.jK ["at","row","place","total"]))(S9:qC P w K mg base k A.cH "Fetch" ["self","at","name","row","place"] (Dk A.cH ["at","name","row","place"]))(OJ:qC P w K mg base k A.bQ "Divide" ["self","at","name","word","total","by"] (Dk A.bQ ["at","name","word","total","by"]))(Hs:Dn P w K mg base k "_law_line" ["_law_draw","_law_own"] (cu K (BE A)))(OI:qC P w K mg base k A.bx "Repeat" ["self","at","condition","keeps","falls","body"] (UH A))(nV:Dn P w K mg base k "_law_pairs" ["_law_draw","_law_things","_law_many"] (cu K (qR A)))(EV:qC P w K mg base k A.bg "Choose" ["self","at","condition","then","other"] (UQ A))(Aa:Dn P w K mg base k "is_quotient" ["by"] (cu K (MI A)))(EU:qC P w K mg base k A.fh "Helper" ["self","at","name","params","answers","needs","gives","steps"] (UO A))(d8:Dn P w K mg base k "_law_steps" ["_law_draw","_law_own","_law_many","_law_deep","_law_helpers"] (cu K (ku A 3)))(jx:Dn P w K mg base k "_law_plus" ["_law_one_here","_law_other","_law_times"] (cu K Ij))(fM:Dn P w K mg base k "_law_one" ["_law_thing"] (cu K MS))(bR:Dn P w K mg base k "_law_at_most" ["_law_one_here","_law_other"] (cu K MV))(vL:Dn P w K mg base k "_law_row_shown" ["_law_row"] (cu K (MQ A)))(cM:Dn P w K mg base k "_law_sum_things" ["_law_sums"] (cu K MP))(eU:Dn P w K mg base k "_law_things_of" ["_law_told"] (cu K (DM 2)))(gQ:Dn P w K mg base k "_law_opposite" ["_law_told"] (cu K (wN 2)))(fL:Dn P w K mg base k "_law_owe" ["_law_found","_law_path","_law_kind","_law_at","_law_told"] (cu K MR))(z8:Dn P w K mg base k "_law_divided" ["_law_step_here"] (cu K MU))(zf:Dn P w K mg base k "_law_anys" ["_law_things"] (cu K Ik))(eV:Dn P w K mg base k "_law_written" ["_law_steps_here"] (cu K (DL 5)))(kH:Dn P w K mg base k "_law_go" ["_law_found","_law_helpers","_law_steps_here","_law_path"] (cu K (DP 4)))(jS:Dn P w K mg base k "_law_stand" ["_law_steps_here"] (cu K (qQ 5)))(Fq:Dn P w K mg base k "_law_shown" ["_law_found"] (cu K (DN A)))(QZ:qJ P w K mg base A.ay k "debts" ["program","name"] (Ip A))(vf:Dn P w K mg base k "_law_asked" ["_law_program","_law_name"] (cu K (DR A)))(Lh:Dn P w K mg base k "_law_due" ["_law_helpers","_law_helper_here"] (cu K MT))(Ot:Ms P w K mg base k 1 (λ_=>A.fh) "told" ["self"] (λ_=>wO A 9))(Oq:Ms P w K mg base k 1 (λ_=>A.cT) "told" ["self"] (λ_=>DK A))(KJ:qC P w K mg base k A.cT "Program" ["self","helpers"] (UJ A))(C4:Dn P w K mg base k "_law_helper" ["_law_draw","_law_name","_law_many","_law_deep","_law_helpers","_law_names_here"] (cu K (AD A)))(Fv:Dn P w K mg base k "_law_names" ["_law_draw","_law_many"] (cu K UL))(z9:Dn P w K mg base k "_law_cell_at" ["_law_script","_law_k"] (cu K MY))
abbrev M5:Stmt:=top 6
def Sz(J:Fx K mg A):Ky P w K mg base k M5 ["thing"] (ML A):=by
 refine dk (N:=["thing"]) bO (rfl:_=[_]) (λa c=>(aG (ai (fu rO a rfl aj)))) λd S e b hd h=>?_;obtain⟨x,rfl,h⟩:=h;refine⟨_,_,[(x,1)],0,M,ao,M,by simp,made (aE b h)⟩
abbrev xr:Stmt:=inClass (top 5) 0
def Ex(J:Fx K mg A):Ky P w K mg base k xr ["self","terms","number"] (MG A):=by
 refine dk (N:=["self","terms","number"]) bO (rfl:_=[_,_]) (λf g=>(qs (aS q_r (cD J.bE (aP (ck (cS ["pair"]) rfl (qi q_r) (λ_ _ _ _=>(qx (i:=0) Oh)) (λ_ _ _ _=>bJ) (λ_ _ _ _=>(cD J.bE aj))))) rfl M) (aG (aS q_r q_r rfl M)))) λq S j r hd h=>?_;obtain⟨i,d,l,m,rfl,a,b,p,c⟩:=h;refine(Vi b λG e=>dR pT pT (by simpa using e []) (eF (by lia)) (λx _ o hk=>⟨_,M,hk⟩) ?_);refine⟨i,A.jA,[],[],M,a,J.PV.n.1,by decide,i,_,_,_,M,jaG (jar.mp a).1,J.PV.n.2.1,by decide,?_⟩;rw[jat];exact .inr (.inr (.inr c))
abbrev DW:Stmt:=top 7
def Ke(J:Fx K mg A):Ky P w K mg base k DW ["pairs","number"] (Ia A):=by
 refine dk (N:=["pairs","number","weights","thing","weight"]) bO (rfl:_=[_,_,_]) (λb o=>(qs (ak (i:=2) o Nj) (qs (bf jaJ rfl (qi q_r) (ia (n:=2) rfl (sP (qg (i:=3) o) (sP (qg (i:=4) o) fF))) (aG (BK (mF b) q_r q_r (aX aL (ID (mF b) q_r q_r aF) q_r)))) (aG (ai (fu rO b rfl (qa (ck (dS ["thing"] ["weights"] [2] rfl (by symm) (by symm) rfl (by exact⟨M,trivial⟩) (by rfl) rfl (by rfl)) rfl (qi (bZ (Jv M) (by rfl) J.jB boot_sorted aj)) (λ_ _ _ _=>(qx (i:=0) zX)) (λ_ _ _ _=>(vY (aD (N8 40 (uE b)) (s9 (mF b) q_r q_r) aF (aA _)))) (λ_ _ _ _=>(aR (qa q_r (aP (s9 (mF b) q_r q_r)))))) aj))))))) λI S F B hd h=>?_;obtain⟨d,l,m,rfl,t,u,C⟩:=h;refine(Jb t λG r=>bV pT (λa Z j=>∃x y c,Z=[some d,some (.int m),some (.ob S.length),x,y]/\j=S++[O.wm c]/\FJ a c) ⟨_,_,_,M,M,.nil⟩ ?_ ?_)
 .rintro a ⟨x,v⟩ post Z j N rfl ⟨x0,y0,c,rfl,rfl,hz⟩ hN;refine⟨r _,_,M,M,_,_,M,_,_,M,M,?_⟩;have p:c.length<sizeLine:=By (by have:=hz.len;simp at u;lia);refine⟨_,_,M,ao,_,_,ao,M,?_⟩;rw[hz.val x];by_cases e:x∈a.map (·.1)
  .rw[jaf e];refine⟨_,_,_,_,M,ao,M,M,p,?_⟩;rw[fm];exact hN _ _ ⟨_,_,_,M,M,hz.snoc x v M⟩
  .rw[jae e];refine⟨_,_,_,_,M,ao,M,M,p,?_⟩;rw[fm];exact hN _ _ ⟨_,_,_,M,M,hz.snoc x v (by rw[Gd e])⟩
 .rintro Z j ⟨x0,y0,c,rfl,rfl,hz⟩;refine⟨r _,?_⟩;obtain⟨H,s,E,z⟩:=hz.keys;refine⟨_,_,ao,s,E,by have:=hz.len;lia,?_⟩;rw[Gp z];have g:=oj (l.map (·.1));rw[jac] at g;refine gC (yT T.str (λx=>if wt l x≠0 then some (pT (x,wt l x)) else none) trivial (eF (by lia)) ?_ ?_)
  .intro x e k' hk;have q:kG c (Sum.inr x)=some (.int (wt l x)):=by rw[hz.val x,jaf (cW.mp e)]
   refine⟨_,_,_,_,M,ao,M,q,_,M,?_⟩;rw[yE,jb8];by_cases f:wt l x=0
   .rw[jaB f];rw[jae (by simpa using f)] at hk;exact hk
   .rw[jau f];rw[jaf f] at hk;exact⟨_,_,_,_,M,ao,M,q,_,M,hk⟩
  .rw[IX];have D:=nH l;exact⟨_,_,norm l,m,M,ao,M,by lia,made (yX B C)⟩
abbrev xm:Stmt:=inClass (top 5) 2
def Eu(J:Fx K mg A):Ky P w K mg base k xm ["self","other"] (MJ A):=by
 refine dk (N:=["self","other"]) bO (rfl:_=[_]) (λd g=>(aG (ai (aa nR d rfl aj)))) λi S j e hd h=>?_;obtain⟨a,b,rfl,f,c⟩:=h;refine(?_);refine⟨eF (by simp;lia),_,a.1++b.1,_,M,?_,by simp;lia,aE e c⟩;show some _=some _;rw[jaj]
abbrev uJ:Stmt:=inClass (top 5) 4
def Cf(J:Fx K mg A):Ky P w K mg base k uJ ["self","number"] (H9 A):=by
 refine dk (N:=["self","number"]) bO (rfl:_=[_]) (λc g=>(aG (ai (aa nR c rfl (qa (ck (dS ["thing","weight"] ["number"] [1] rfl (by symm) (by symm) (by with_unfolding_all rfl) (by exact⟨M,trivial⟩) (by rfl) rfl (by rfl)) rfl (qi q_r) (λ_ _ _ _=>(k7 (n:=2) rfl (Dl (qx (i:=0) (show List.Nodup (["thing","weight","number"]:jcI) by symm)) (Dl (qx (i:=1) (show List.Nodup (["thing","weight","number"]:jcI) by symm)) jb)))) (λ_ _ _ _=>bJ) (λ_ _ _ _=>q_r)) aj))))) λo S j f hd h=>?_;obtain⟨a,m,rfl,d,b,e⟩:=h;refine(bY (dR pT (λp=>pT (p.1,p.2*m)) trivial (eF (by lia)) (λx _ l hk=>?_) ?_))
 .exact⟨_,M,M,_,_,M,_,_,M,M,.inr b,_,M,hk⟩
 .refine⟨.inr b,_,(a.1.map λ(p:Str×Int)=>(p.1,p.2*m)),_,M,?_,by simpa using d,aE f e⟩;rw[jaM];rfl
abbrev xo:Stmt:=inClass (top 5) 3
def Ew(J:Fx K mg A):Ky P w K mg base k xo ["self","other"] (MM A):=by
 refine dk (N:=["self","other"]) bO (rfl:_=[_]) (λc i=>(aG (ai (j8 q_r GU c (aP (j8 q_r Cv c (aP (xH aF)))))))) λj S l f hd h=>?_;obtain⟨a,b,rfl,g,d⟩:=h;have e:=nH (b.1.map λp=>(p.1,p.2*(-1)));rw[jac] at e;refine⟨0,_,_,by decide,M,by symm,0,_,_,by decide,M,by symm,b,-1,M,by lia,⟨by decide,by decide⟩,a,b.times (-1),M,?_,aE f d⟩;show a.1.length+(norm _).length<64;lia
abbrev q8:Stmt:=inClass (top 5) 6
def zO(J:Fx K mg A):Ky P w K mg base k q8 ["self"] (UG A):=by
 refine dk (N:=["self"]) bO (rfl:_=[_]) (λd f=>(aG (ai (cD J.bE (aP (ck (cS ["thing","weight"]) rfl (qi q_r) (λ_ _ _ _=>(k7 (n:=2) rfl (Dl (qx (i:=0) zX) (Dl (qx (i:=1) zX) jb)))) (λ_ _ _ _=>bJ) (λ_ _ _ _=>q_r))))))) λm S g c hd h=>?_;obtain⟨a,rfl,l,b⟩:=h;refine(bY (dR pT (λp=>T.str p.1) trivial (eF (by lia)) (λx _ j hk=>⟨_,M,M,_,_,M,_,_,M,M,_,M,hk⟩) (aE c ?_)));have e:a.1.map (λp=>T.str p.1)=a.aU.map T.str:=by unfold Sm.aU;rw[jaM];rfl
 rw[e];exact b
abbrev xj:Stmt:=inClass (top 5) 7
def uX(J:Fx K mg A):Ky P w K mg base k xj ["self"] (BC A):=by
 refine dk (N:=["self"]) bO (rfl:_=[_]) (λd e=>(aG (ai q_r))) λf S g c hd h=>?_;obtain⟨a,rfl,b⟩:=h;exact(aE c b)
abbrev nu:Stmt:=inClass (top 11) 0
def vE(J:Fx K mg A):Ky P w K mg base k nu ["self","one","sign","other"] (Dk A.bX ["one","sign","other"]):=by
 refine dk (N:=["self","one","sign","other"]) bO (rfl:_=[_,_,_]) (len:=λm S j h=>by obtain⟨i,l,rfl,b,a,f⟩:=h;simpa using b) (λo p=>(qs (aS q_r q_r rfl M) (qs (aS q_r q_r rfl M) (aG (aS q_r q_r rfl M))))) λm S j q hd h=>?_;obtain⟨i,l,rfl,b,a,f⟩:=h;obtain⟨g,c,d,rfl⟩:∃g c d,l=[g,c,d]:=ln3 b;have e:=(jar.mp a).1;refine⟨_,_,_,_,M,a,J.oJ.n.1,by decide,_,_,_,_,M,(jaG (by lia)),J.oJ.n.2.1,by decide,_,_,_,_,M,(jaG (by first | exact e | (simp only[jaF];exact e))),J.oJ.n.2.2.1,by decide,?_⟩;rw[jat];rw[jat];exact .inr (.inr (.inr f))
abbrev pB:Stmt:=inClass (top 12) 0
def xY(J:Fx K mg A):Ky P w K mg base k pB ["self","condition"] (Dk A.cZ ["condition"]):=by
 refine dk (N:=["self","condition"]) bO (rfl:_=[_]) (len:=λe S f h=>by obtain⟨i,l,rfl,a,b,c⟩:=h;simpa using a) (λg j=>(aG (aS q_r q_r rfl M))) λe S f m hd h=>?_;obtain⟨i,l,rfl,a,b,c⟩:=h;obtain⟨d,rfl⟩:∃d,l=[d]:=ln1 a;refine⟨_,_,_,_,M,b,J.Fz.n.1,by decide,?_⟩;exact .inr (.inr (.inr c))
abbrev xE:Stmt:=inClass (top 18) 0
def EE(J:Fx K mg A):Ky P w K mg base k xE ["self","at","name","total"] (Dk A.iB ["at","name","total"]):=by
 refine dk (N:=["self","at","name","total"]) bO (rfl:_=[_,_,_]) (len:=λo S m h=>by obtain⟨i,l,rfl,b,a,f⟩:=h;simpa using b) (λj p=>(qs (fO (nB d9 j rfl aj)) (qs (aS q_r q_r rfl M) (aG (aS q_r q_r rfl M))))) λo S m q hd h=>?_;obtain⟨i,l,rfl,b,a,f⟩:=h;obtain⟨g,c,d,rfl⟩:∃g c d,l=[g,c,d]:=ln3 b;have e:=(jar.mp a).1;refine⟨_,_,_,M,a,J.Bh.n.1,_,_,_,_,M,(jaG (by lia)),J.Bh.n.2.1,by decide,_,_,_,_,M,(jaG (by first | exact e | (simp only[jaF];exact e))),J.Bh.n.2.2.1,by decide,?_⟩;rw[jat];rw[jat];exact .inr (.inr (.inr f))
abbrev pM:Stmt:=inClass (top 19) 0
def yk(J:Fx K mg A):Ky P w K mg base k pM ["self","at","name","word","total","by"] (Dk A.bQ ["at","name","word","total","by"]):=by
 refine dk (N:=["self","at","name","word","total","by"]) bO (rfl:_=[_,_,_,_,_]) (len:=λq S p h=>by obtain⟨i,l,rfl,c,b,j⟩:=h;simpa using c) (λo r=>(qs (fO (nB d9 o rfl aj)) (qs (aS q_r q_r rfl M) (qs (aS q_r q_r rfl M) (qs (aS q_r q_r rfl M) (aG (aS q_r q_r rfl M))))))) λq S p s hd h=>?_;obtain⟨i,l,rfl,c,b,j⟩:=h;obtain⟨m,d,g,f,e,rfl⟩:∃m d g f e,l=[m,d,g,f,e]:=ln5 c;have a:=(jar.mp b).1;refine⟨_,_,_,M,b,J.jz.n.1,_,_,_,_,M,(jaG (by lia)),J.jz.n.2.1,by decide,_,_,_,_,M,(jaG (by first | exact a | (simp only[jaF];exact a))),J.jz.n.2.2.1,by decide,_,_,_,_,M,(jaG (by first | exact a | (simp only[jaF];exact a))),J.jz.n.2.2.2.1,by decide,_,_,_,_,M,(jaG (by first | exact a | (simp only[jaF];exact a))),J.jz.n.2.2.2.2.1,by decide,?_⟩;rw[jat];rw[jat];rw[jat];rw[jat];exact .inr (.inr (.inr j))
abbrev rA:Stmt:=inClass (top 20) 0
def zS(J:Fx K mg A):Ky P w K mg base k rA ["self","at","name","row","place"] (Dk A.cH ["at","name","row","place"]):=by
 refine dk (N:=["self","at","name","row","place"]) bO (rfl:_=[_,_,_,_]) (len:=λp S o h=>by obtain⟨i,l,rfl,c,b,g⟩:=h;simpa using c) (λm q=>(qs (fO (nB d9 m rfl aj)) (qs (aS q_r q_r rfl M) (qs (aS q_r q_r rfl M) (aG (aS q_r q_r rfl M)))))) λp S o r hd h=>?_;obtain⟨i,l,rfl,c,b,g⟩:=h;obtain⟨j,d,f,e,rfl⟩:∃j d f e,l=[j,d,f,e]:=ln4 c;have a:=(jar.mp b).1;refine⟨_,_,_,M,b,J.oH.n.1,_,_,_,_,M,(jaG (by lia)),J.oH.n.2.1,by decide,_,_,_,_,M,(jaG (by first | exact a | (simp only[jaF];exact a))),J.oH.n.2.2.1,by decide,_,_,_,_,M,(jaG (by first | exact a | (simp only[jaF];exact a))),J.oH.n.2.2.2.1,by decide,?_⟩;rw[jat];rw[jat];rw[jat];exact .inr (.inr (.inr g))
abbrev xA:Stmt:=inClass (top 21) 0
def EB(J:Fx K mg A):Ky P w K mg base k xA ["self","at","row","place","total"] (Dk A.jK ["at","row","place","total"]):=by
 refine dk (N:=["self","at","row","place","total"]) bO (rfl:_=[_,_,_,_]) (len:=λp S o h=>by obtain⟨i,l,rfl,c,b,g⟩:=h;simpa using c) (λm q=>(qs (fO (nB d9 m rfl aj)) (qs (aS q_r q_r rfl M) (qs (aS q_r q_r rfl M) (aG (aS q_r q_r rfl M)))))) λp S o r hd h=>?_;obtain⟨i,l,rfl,c,b,g⟩:=h;obtain⟨j,d,f,e,rfl⟩:∃j d f e,l=[j,d,f,e]:=ln4 c;have a:=(jar.mp b).1;refine⟨_,_,_,M,b,J.FA.n.1,_,_,_,_,M,(jaG (by lia)),J.FA.n.2.1,by decide,_,_,_,_,M,(jaG (by first | exact a | (simp only[jaF];exact a))),J.FA.n.2.2.1,by decide,_,_,_,_,M,(jaG (by first | exact a | (simp only[jaF];exact a))),J.FA.n.2.2.2.1,by decide,?_⟩;rw[jat];rw[jat];rw[jat];exact .inr (.inr (.inr g))
abbrev uO:Stmt:=inClass (top 22) 0
def Cn(J:Fx K mg A):Ky P w K mg base k uO ["self","at","row","size"] (Dk A.ff ["at","row","size"]):=by
 refine dk (N:=["self","at","row","size"]) bO (rfl:_=[_,_,_]) (len:=λo S m h=>by obtain⟨i,l,rfl,c,b,f⟩:=h;simpa using c) (λj p=>(qs (fO (nB d9 j rfl aj)) (qs (aS q_r q_r rfl M) (aG (aS q_r q_r rfl M))))) λo S m q hd h=>?_;obtain⟨i,l,rfl,c,b,f⟩:=h;obtain⟨g,d,e,rfl⟩:∃g d e,l=[g,d,e]:=ln3 c;have a:=(jar.mp b).1;refine⟨_,_,_,M,b,J.zh.n.1,_,_,_,_,M,(jaG (by first | exact a | (simp only[jaF];exact a))),J.zh.n.2.1,by decide,_,_,_,_,M,(jaG (by first | exact a | (simp only[jaF];exact a))),J.zh.n.2.2.1,by decide,?_⟩;rw[jat];rw[jat];exact .inr (.inr (.inr f))
abbrev rF:Stmt:=inClass (top 23) 0
def zW(J:Fx K mg A):Ky P w K mg base k rF ["self","at","condition"] (Dk A.cE ["at","condition"]):=by
 refine dk (N:=["self","at","condition"]) bO (rfl:_=[_,_]) (len:=λj S g h=>by obtain⟨i,l,rfl,b,a,d⟩:=h;simpa using b) (λf m=>(qs (fO (nB d9 f rfl aj)) (aG (aS q_r q_r rfl M)))) λj S g p hd h=>?_;obtain⟨i,l,rfl,b,a,d⟩:=h;obtain⟨e,c,rfl⟩:∃e c,l=[e,c]:=ln2 b;have o:=(jar.mp a).1;refine⟨_,_,_,M,a,J.wA.n.1,_,_,_,_,M,(jaG (by lia)),J.wA.n.2.1,by decide,?_⟩;rw[jat];exact .inr (.inr (.inr d))
abbrev uQ:Stmt:=inClass (top 42) 0
def Cp(J:Fx K mg A):Ky P w K mg base k uQ ["self","kind","at","ahead","condition"] (Dk A.kJ ["kind","at","ahead","condition"]):=by
 refine dk (N:=["self","kind","at","ahead","condition"]) bO (rfl:_=[_,_,_,_]) (len:=λo S m h=>by obtain⟨i,l,rfl,c,b,g⟩:=h;simpa using c) (λp q=>(qs (aS q_r q_r rfl M) (qs (aS q_r q_r rfl M) (qs (aS q_r q_r rfl M) (aG (aS q_r q_r rfl M)))))) λo S m r hd h=>?_;obtain⟨i,l,rfl,c,b,g⟩:=h;obtain⟨j,d,f,e,rfl⟩:∃j d f e,l=[j,d,f,e]:=ln4 c;have a:=(jar.mp b).1;refine⟨_,_,_,_,M,b,J.tZ.n.1,by decide,_,_,_,_,M,(jaG (by lia)),J.tZ.n.2.1,by decide,_,_,_,_,M,(jaG (by first | exact a | (simp only[jaF];exact a))),J.tZ.n.2.2.1,by decide,_,_,_,_,M,(jaG (by first | exact a | (simp only[jaF];exact a))),J.tZ.n.2.2.2.1,by decide,?_⟩;rw[jat];rw[jat];rw[jat];exact .inr (.inr (.inr g))
abbrev uK:Stmt:=inClass (top 17) 0
def Cg(J:Fx K mg A):Ky P w K mg base k uK ["self","at"] (MH K):=by
 refine dk (N:=["self","at"]) bO (rfl:_=[_]) (λd e=>(aG (aS q_r q_r rfl M))) λf S g j hd h=>?_;obtain⟨i,x,C,rfl,b,a,c⟩:=h;refine⟨_,_,_,_,M,b,a,by decide,.inr (.inr (.inr c))⟩
abbrev jj:Stmt:=inClass (top 13) 0
def mh(J:Fx K mg A){C:Addr}(e:ko K C "conditions") :Ky P w K mg base k jj ["self","conditions"] (Gs C):=by
 refine dk (N:=["self","conditions"]) bO (rfl:_=[_]) (λf g=>(aG (aS q_r (cD J.bE aj) rfl M))) λj S m n hd h=>?_;obtain⟨i,d,l,rfl,b,a,c⟩:=h;refine(oe (uh a) ⟨_,_,_,_,M,b,e,by decide,.inr (.inr (.inr c))⟩)
abbrev nq:Stmt:=inClass (top 11) 4
def vC(J:Fx K mg A):Ky P w K mg base k nq ["self"] (fE A (n+1) 0):=by
 refine dk (N:=["self"]) bO (rfl:_=[_]) (λd g=>(aG (ai (aR (qa aT (qa (aH q_r f9 d) (qa q_r (aP (aH q_r f9 d))))))))) λm S i f hd h=>?_;obtain⟨c,rfl,e,j,l,h⟩:=h;cases c with
 |cmp a s b=>
  unfold dZ;exact⟨0,_,_,by decide,M,by symm,a,M,0,_,_,by decide,M,by symm,b,M,aE f (by unfold je at h;exact h)⟩
 |neg c=>cases e
 |con q o=>cases q<;>cases e
abbrev pA:Stmt:=inClass (top 12) 4
def xX(J:Fx K mg A)(m:Ms P w K mg base k 4 (Be A) "told" ["self"] (fE A n)):Ky P w K mg base k pA ["self"] (fE A (n+1) 1):=by
 refine dk (N:=["self"]) bO (rfl:_=[_]) (λe r=>(aG (ai (aR (qa aT (aP (aH q_r m e))))))) λu S t p hd h=>?_;obtain⟨c,rfl,d,g,i,h⟩:=h;cases c with
 |cmp a s b=>cases d
 |neg c=>
  unfold aN.dep at g;unfold aN.sz at i;obtain⟨o,l,j,f,_⟩:=i7 A S c;unfold dZ;exact⟨qU c,o,l,dh c,j,f,c,M,M,by lia,by lia,aE p (by unfold je at h;exact h)⟩
 |con q v=>cases q<;>cases d
abbrev rB:Stmt:=inClass (top 14) 2
def zT(J:Fx K mg A)(p:Ms P w K mg base k 4 (Be A) "told" ["self"] (fE A n)):Ky P w K mg base k rB ["self"] (fE A (n+1) 2):=by
 refine dk (N:=["self"]) bO (rfl:_=[_]) (λf v=>(aG (ai (aX aL q_r (cD J.bE (aP (ck (cS ["condition"]) rfl (qi q_r) (λ_ _ _ _=>(qx (i:=0) Oh)) (λ_ _ _ _=>bJ) (λ_ _ _ _=>(aH q_r p f))))))))) λC S x t hd h=>?_;obtain⟨c,rfl,d,j,m,h⟩:=h;cases c with
 |cmp a s b=>cases d
 |neg c=>cases d
 |con q u=>
  cases q with
  |false=>cases d
  |true=>
   unfold aN.dep at j;unfold aN.sz at m;have B:=vW u;unfold dZ;rw[iP];refine(bY (dR (dZ A) je trivial (eF (by lia)) (λc e y hk=>?_) ?_))
   .have h1:=jP e;have z:=wK e;obtain⟨r,l,o,g,_⟩:=i7 A S c;exact⟨qU c,r,l,dh c,o,g,c,M,M,by lia,by lia,_,M,hk⟩
   .refine⟨eF (by simp;lia),aE t ?_⟩;unfold je at h;rw[r9] at h;exact h
abbrev uL:Stmt:=inClass (top 15) 2
def Ci(J:Fx K mg A)(p:Ms P w K mg base k 4 (Be A) "told" ["self"] (fE A n)):Ky P w K mg base k uL ["self"] (fE A (n+1) 3):=by
 refine dk (N:=["self"]) bO (rfl:_=[_]) (λf v=>(aG (ai (aX aL q_r (cD J.bE (aP (ck (cS ["condition"]) rfl (qi q_r) (λ_ _ _ _=>(qx (i:=0) Oh)) (λ_ _ _ _=>bJ) (λ_ _ _ _=>(aH q_r p f))))))))) λC S x t hd h=>?_;obtain⟨c,rfl,d,j,m,h⟩:=h;cases c with
 |cmp a s b=>cases d
 |neg c=>cases d
 |con q u=>
  cases q with
  |true=>cases d
  |false=>
   unfold aN.dep at j;unfold aN.sz at m;have B:=vW u;unfold dZ;rw[iP];refine(bY (dR (dZ A) je trivial (eF (by lia)) (λc e y hk=>?_) ?_))
   .have h1:=jP e;have z:=wK e;obtain⟨r,l,o,g,_⟩:=i7 A S c;exact⟨qU c,r,l,dh c,o,g,c,M,M,by lia,by lia,_,M,hk⟩
   .refine⟨eF (by simp;lia),aE t ?_⟩;unfold je at h;rw[r9] at h;exact h
abbrev pP:Stmt:=inClass (top 11) 1
def ym(J:Fx K mg A):Ky P w K mg base k pP ["self"] (mX A (n+1) 0):=by
 refine dk (N:=["self"]) bO (rfl:_=[_]) (λf g=>(aG (ai (bG aj)))) λm S i e hd h=>?_;obtain⟨c,rfl,d,j,l,h⟩:=h;cases c with
 |cmp a s b=>
  unfold dZ;exact(aE e (by exact h))
 |neg c=>cases d
 |con q o=>cases q<;>cases d
abbrev qZ:Stmt:=inClass (top 12) 1
def zN(J:Fx K mg A)(g:Ms P w K mg base k 4 (Be A) "all_sums" ["self"] (mX A n)):Ky P w K mg base k qZ ["self"] (mX A (n+1) 1):=by
 refine dk (N:=["self"]) bO (rfl:_=[_]) (λe r=>(aG (ai (aH q_r g e)))) λu S t p hd h=>?_;obtain⟨c,rfl,d,i,j,h⟩:=h;cases c with
 |cmp a s b=>cases d
 |neg c=>
  unfold aN.dep at i;unfold aN.sz at j;obtain⟨o,l,m,_,_,f⟩:=i7 A S c;exact⟨qU c,o,l,dh c,m,f,c,M,M,by lia,by lia,aE p h⟩
 |con q v=>cases q<;>cases d
abbrev j6:Stmt:=inClass (top 13) 1
def nF(J:Fx K mg A){j:Nat}(m:j=2\/j=3)(B:Ms P w K mg base k 4 (Be A) "all_sums" ["self"] (mX A n)):Ky P w K mg base k j6 ["self"] (mX A (n+1) j):=by
 refine dk (N:=["self","found","condition"]) bO (rfl:_=[_,_,_]) (λC g=>(qs (ak (i:=1) g (gI cG)) (qs (bf jaJ rfl (qi q_r) (qg (i:=2) g) (aG (fO (uU q_r (aP (aH q_r B C)))))) (aG (ai q_r))))) λI S G y hd h=>?_;obtain⟨c,rfl,o,r,f,h⟩:=h;cases c with
 |cmp a s b=>subst o;rcases m with h | h<;>cases h
 |neg c=>subst o;rcases m with h | h<;>cases h
 |con q z=>
  unfold aN.dep at r;unfold aN.sz at f;unfold aN.sums at h;unfold dZ;rw[iP];refine(bY (bV (dZ A) (λd Z e=>∃x,Z=[some (D.t (.ins (if q=true then A.eX else A.gX) ["conditions"] [.tup (z.map (dZ A))])),some (D.ob (S.length+0)),x]/\e=S++[O.lst ((fj d).map (fD A))]) ⟨_,M,M⟩ ?_ ?_))
  .rintro d c post Z e N rfl ⟨x,rfl,rfl⟩ hN;have H:=jP (c:=c) (l:=d++c::post) (by simp);rw[Bx,wL] at f;have E:=mS d;have p:=jL c;obtain⟨v,l,u,_,_,F⟩:=i7 A (S++[O.lst ((fj d).map (fD A))]) c;refine⟨trivial,⟨M,_,eS M⟩,qU c,v,l,dh c,u,F,c,M,M,by lia,by lia,_,_,dD,M,eF (by simp;lia),?_⟩;rw[fc];refine hN _ _ ⟨_,M,?_⟩;rw[kr,fj,fj,jaw,jaj];rfl
  .rintro Z e ⟨x,rfl,rfl⟩;exact⟨trivial,Hj y rfl h⟩
abbrev fV:Stmt:=inClass (top 10) 0
def gK(J:Fx K mg A){j:Nat}(L:Ms P w K mg base k 4 (Be A) "all_sums" ["self"] (mX A n)):Ky P w K mg base k fV ["self"] (MF A n j):=by
 refine dk (N:=["self","found","total"]) bO (rfl:_=[_,_,_]) (λq u=>(qs (ak (i:=1) u (gI cG)) (qs (bf jaJ rfl (qi (aH q_r L q)) (qg (i:=2) u) (aG (fO (uU q_r (aP (aH q_r eN q)))))) (aG (ai (cD J.bE (aP (RK rfl J.jB rfl J.FD rfl q_r)))))))) λV S U H hd h=>?_;obtain⟨c,rfl,X,y,m,h⟩:=h;obtain⟨R,m⟩:=m;have C:c.sums.length<=14:=by have:=jL c;lia
 obtain⟨G,l,F,_,_,Q⟩:=i7 A (S++[O.lst []]) c;have g:∀b d:List Sm,c.sums=b++d->(b.map Sm.aU).flatten.length<=4*b.length:=by
  intro b d e;have v:∀s∈b,s.few:=λs f=>m s (by rw[e];exact jaA _ f);clear e
  induction b with
  |nil=>exact jam _
  |cons a r z=>
   rw[jas,jaW,jab,jak];have p:=z λs f=>v s (jav _ f);have B:a.1.length<=4:=v a jay;have E:a.aU.length=a.1.length:=by unfold Sm.aU;rw[jac]
   lia
 refine⟨qU c,G,l,dh c,F,Q,c,M,M,y,(by lia),gC (bV (fD A) (λb Z o=>∃x,Z=[some (D.t (dZ A c)),some (D.ob (S.length+0)),x]/\o=S++[O.lst ((b.map Sm.aU).flatten.map T.str)]) ⟨_,M,M⟩ ?_ ?_)⟩
 .rintro b s d Z o N e ⟨x,rfl,rfl⟩ hN;have p:=g b (s::d) e;have B:s.1.length<=4:=m s (by rw[e];simp);have E:s.aU.length=s.1.length:=by unfold Sm.aU;rw[jac]
  have W:b.length<=14:=by rw[e,jab] at C;lia
  refine⟨trivial,⟨M,_,eS M⟩,0,_,_,by decide,M,by symm,s,M,by lia,_,_,dD,M,eF (by rw[jac,jac];lia),?_⟩;rw[fc];refine hN _ _ ⟨_,M,?_⟩;rw[jaj,ja5,jaj];simp
 .rintro Z o ⟨x,rfl,rfl⟩;have p:=g c.sums [] (by simp);refine⟨trivial,_,(c.sums.map Sm.aU).flatten,eS M,by lia,by lia,λx I=>I,yX H h⟩
abbrev ux:Stmt:=top 27
def BV(J:Fx K mg A):Ky P w K mg base k ux ["row"] Ii:=by
 refine dk (N:=["row"]) bO (rfl:_=[_]) (λc d=>(aG (ai q_r))) λe S f b hd h=>?_;obtain⟨x,rfl,a,h⟩:=h;exact⟨jai (Nat.add_le_add (jam _) a) (by symm),aE b h⟩
abbrev uF:Stmt:=top 36
def Ca(J:Fx K mg A):Ky P w K mg base k uF ["thing"] Il:=by
 refine dk (N:=["thing"]) bO (rfl:_=[_]) (λb c=>(aG (ai (a01 q_r aj)))) λd S e a hd h=>?_;obtain⟨x,rfl,h⟩:=h;exact⟨M,aE a h⟩
abbrev xC:Stmt:=inClass (top 18) 1
def ED(J:Fx K mg A):Ky P w K mg base k xC ["self"] (i9 A n 0):=by
 refine dk (N:=["self"]) bO (rfl:_=[_]) (λg l=>(aG (ai (aR (qa aT (qa q_r (qa q_r (aP (aH q_r f9 g))))))))) λv S o j hd h=>?_;obtain⟨s,N,rfl,d,m,i,h⟩:=h;cases s with
 |lt a x s=>
  unfold jM at h;unfold bA;refine⟨0,_,_,by decide,M,by symm,s,M,aE j h⟩
 |dv a x q s b=>cases d
 |ft a x r p=>cases d
 |pt a r p s=>cases d
 |mq a r z=>cases d
 |cm a c=>cases d
 |ch a c t e=>cases d
 |rp a c u f b=>cases d
abbrev pL:Stmt:=inClass (top 19) 1
def yj(J:Fx K mg A):Ky P w K mg base k pL ["self"] (i9 A n 1):=by
 refine dk (N:=["self"]) bO (rfl:_=[_]) (λg l=>(aG (ai (aR (qa aT (qa q_r (qa q_r (qa q_r (qa (aH q_r f9 g) (aP (aH q_r f9 g))))))))))) λv S o j hd h=>?_;obtain⟨s,N,rfl,d,m,i,h⟩:=h;cases s with
 |lt a x s=>cases d
 |dv a x q s b=>
  unfold jM at h;unfold bA;refine⟨0,_,_,by decide,M,by symm,s,M,0,_,_,by decide,M,by symm,b,M,aE j h⟩
 |ft a x r p=>cases d
 |pt a r p s=>cases d
 |mq a r z=>cases d
 |cm a c=>cases d
 |ch a c t e=>cases d
 |rp a c u f b=>cases d
abbrev rm:Stmt:=inClass (top 20) 1
def zR(J:Fx K mg A):Ky P w K mg base k rm ["self"] (i9 A n 2):=by
 refine dk (N:=["self"]) bO (rfl:_=[_]) (λg l=>(aG (ai (aR (qa aT (qa q_r (qa q_r (qa q_r (aP (aH q_r f9 g)))))))))) λv S o j hd h=>?_;obtain⟨s,N,rfl,d,m,i,h⟩:=h;cases s with
 |lt a x s=>cases d
 |dv a x q s b=>cases d
 |ft a x r p=>
  unfold jM at h;unfold bA;refine⟨0,_,_,by decide,M,by symm,p,M,aE j h⟩
 |pt a r p s=>cases d
 |mq a r z=>cases d
 |cm a c=>cases d
 |ch a c t e=>cases d
 |rp a c u f b=>cases d
abbrev xy:Stmt:=inClass (top 21) 1
def EA(J:Fx K mg A):Ky P w K mg base k xy ["self"] (i9 A n 3):=by
 refine dk (N:=["self"]) bO (rfl:_=[_]) (λg l=>(aG (ai (aR (qa aT (qa q_r (qa q_r (qa (aH q_r f9 g) (aP (aH q_r f9 g)))))))))) λv S o j hd h=>?_;obtain⟨s,N,rfl,d,m,i,h⟩:=h;cases s with
 |lt a x s=>cases d
 |dv a x q s b=>cases d
 |ft a x r p=>cases d
 |pt a r p s=>
  unfold jM at h;unfold bA;refine⟨0,_,_,by decide,M,by symm,p,M,0,_,_,by decide,M,by symm,s,M,aE j h⟩
 |mq a r z=>cases d
 |cm a c=>cases d
 |ch a c t e=>cases d
 |rp a c u f b=>cases d
abbrev uN:Stmt:=inClass (top 22) 1
def Ck(J:Fx K mg A):Ky P w K mg base k uN ["self"] (i9 A n 4):=by
 refine dk (N:=["self"]) bO (rfl:_=[_]) (λg l=>(aG (ai (aR (qa aT (qa q_r (qa q_r (aP (aH q_r f9 g))))))))) λv S o j hd h=>?_;obtain⟨s,N,rfl,d,m,i,h⟩:=h;cases s with
 |lt a x s=>cases d
 |dv a x q s b=>cases d
 |ft a x r p=>cases d
 |pt a r p s=>cases d
 |mq a r z=>
  unfold jM at h;unfold bA;refine⟨0,_,_,by decide,M,by symm,z,M,aE j h⟩
 |cm a c=>cases d
 |ch a c t e=>cases d
 |rp a c u f b=>cases d
abbrev rE:Stmt:=inClass (top 23) 1
def zV(J:Fx K mg A):Ky P w K mg base k rE ["self"] (i9 A n 5):=by
 refine dk (N:=["self"]) bO (rfl:_=[_]) (λi v=>(aG (ai (aR (qa aT (qa q_r (aP (aH q_r cQ i)))))))) λD S y u hd h=>?_;obtain⟨s,N,rfl,d,g,m,h⟩:=h;cases s with
 |lt a x s=>cases d
 |dv a x B s b=>cases d
 |ft a x r p=>cases d
 |pt a r p s=>cases d
 |mq a r z=>cases d
 |cm a c=>
  obtain⟨q,l,o,j,_⟩:=i7 A S c;unfold bP at g;unfold jM at h;unfold bA;refine⟨qU c,q,l,dh c,o,j,c,M,M,g.dep,by have:=g.sz;lia,aE u h⟩
 |ch a c t e=>cases d
 |rp a c C f b=>cases d
abbrev pR:Stmt:=inClass (top 24) 1
def yp(J:Fx K mg A)(q:Dn P w K mg base k "told_each" ["parts"] (cu K (qO A n))):Ky P w K mg base k pR ["self"] (i9 A n 7):=by
 refine dk (N:=["self"]) bO (rfl:_=[_]) (λm G=>(aG (ai (aR (qa aT (qa q_r (qa (aH q_r cQ m) (qa (aa q m rfl aj) (aP (aa q m rfl aj)))))))))) λF S E B hd h=>?_;obtain⟨s,N,rfl,d,i,o,h⟩:=h;cases s with
 |lt a x s=>cases d
 |dv a x H s b=>cases d
 |ft a x r p=>cases d
 |pt a r p s=>cases d
 |mq a r z=>cases d
 |cm a c=>cases d
 |ch a c t e=>
  unfold bP at i;obtain⟨i,D,u,l1,l2⟩:=i;unfold ah.dp at o;unfold jM at h;unfold bA;obtain⟨y,l,v,C,_⟩:=i7 A S c;refine⟨qU c,y,l,dh c,v,C,c,M,M,i.dep,by have:=i.sz;lia,t.map (λs=>(bA A s,jM s)),by rw[dN,jaM];rfl,by rw[jac];lia,(λp j=>by obtain⟨s,g,rfl⟩:=jaq.mp j;have:=eT g;exact⟨_,.s s N (bH D g) (by lia)⟩),e.map (λs=>(bA A s,jM s)),by rw[dN,jaM];rfl,by rw[jac];lia,(λp j=>by obtain⟨s,g,rfl⟩:=jaq.mp j;have:=eT g;exact⟨_,.s s N (bH u g) (by lia)⟩),aE B ?_⟩;rw[bS,bS] at h;rw[jaM,jaM];exact h
 |rp a c g f b=>cases d
abbrev pF:Stmt:=inClass (top 25) 1
def ye(J:Fx K mg A)(E:Dn P w K mg base k "told_each" ["parts"] (cu K (qO A n))):Ky P w K mg base k pF ["self"] (i9 A n 8):=by
 refine dk (N:=["self","falls"]) bO (rfl:_=[_,_,_]) (λo B=>(qs (ak (i:=1) B nA) (qs (aJ (aD lC q_r nA (aA _)) (aG (ak (i:=1) B (aR (qa q_r (aP (aH q_r f9 o)))))) az) (aG (ai (aR (qa aT (qa q_r (qa (aH q_r cQ o) (qa (aa lP o rfl aj) (qa q_r (aP (aa E o rfl aj))))))))))))) λH S F y hd h=>?_;obtain⟨s,N,rfl,m,j,q,h⟩:=h;cases s with
 |lt a x s=>cases m
 |dv a x L s b=>cases m
 |ft a x r p=>cases m
 |pt a r p s=>cases m
 |mq a r z=>cases m
 |cm a c=>cases m
 |ch a c t e=>cases m
 |rp a c g f b=>
  unfold bP at j;obtain⟨j,I,gh,G,D,l1,_⟩:=j;unfold ah.dp at q;unfold jM at h;unfold bA;obtain⟨v,l,u,C,_⟩:=i7 A S c;rw[bS] at h;cases f with
  |none=>
   refine⟨false,M,qU c,v,l,dh c,u,C,c,M,M,j.dep,by have:=j.sz;lia,g,M,by lia,(λp d=>⟨(gh p d).dep,by have:=(gh p d).sz;lia⟩),b.map (λs=>(bA A s,jM s)),by rw[dN,jaM];rfl,by rw[jac];lia,(λp d=>by obtain⟨s,g,rfl⟩:=jaq.mp d;have:=eT g;exact⟨_,.s s N (bH D g) (by lia)⟩),aE y ?_⟩;rw[jaM];exact h
  |some p=>
   refine⟨true,M,0,_,_,by decide,M,by symm,p.2,M,qU c,v,l,dh c,u,C,c,M,M,j.dep,by have:=j.sz;lia,g,M,by lia,(λp d=>⟨(gh p d).dep,by have:=(gh p d).sz;lia⟩),b.map (λs=>(bA A s,jM s)),by rw[dN,jaM];rfl,by rw[jac];lia,(λp d=>by obtain⟨s,g,rfl⟩:=jaq.mp d;have:=eT g;exact⟨_,.s s N (bH D g) (by lia)⟩),aE y ?_⟩;rw[jaM];exact h
abbrev xB:Stmt:=inClass (top 18) 2
def EC(J:Fx K mg A):Ky P w K mg base k xB ["self"] (ji A n 0):=by
 refine dk (N:=["self"]) bO (rfl:_=[_]) (λg l=>(aG (ai (aX aL q_r (aH q_r eN g))))) λv S m j hd h=>?_;obtain⟨s,N,rfl,d,i,h⟩:=h;cases s with
 |lt a x s=>
  have q:s.1.length<=4:=i.2.four;refine⟨0,_,_,by decide,M,by symm,s,M,by lia,eF ?_,aE j h⟩;simp[Sm.aU];lia
 |dv a x o s b=>cases d
 |ft a x r p=>cases d
 |pt a r p s=>cases d
 |mq a r z=>cases d
 |cm a c=>cases d
 |ch a c t e=>cases d
 |rp a c u f b=>cases d
abbrev pK:Stmt:=inClass (top 19) 2
def yi(J:Fx K mg A):Ky P w K mg base k pK ["self"] (ji A n 1):=by
 refine dk (N:=["self"]) bO (rfl:_=[_]) (λg m=>(aG (ai (aX aL (aX aL q_r (aH q_r eN g)) (aH q_r eN g))))) λy S o l hd h=>?_;obtain⟨s,N,rfl,d,i,h⟩:=h;cases s with
 |lt a x s=>cases d
 |dv a x j s b=>
  have q:b.1.length<=4:=i.2.2.2.four;have u:s.1.length<=4:=i.2.2.1.four;refine⟨0,_,_,by decide,M,by symm,s,M,by lia,eF ?_,0,_,_,by decide,M,by symm,b,M,by lia,eF ?_,aE l ?_⟩
  .simp[Sm.aU];lia
  .simp[Sm.aU];lia
  .have e:gU (ah.us (.dv a x j s b))=.tup (([T.str x]++s.aU.map T.str)++b.aU.map T.str):=by unfold gU ah.us;simp
   rw[e] at h;exact h
 |ft a x r p=>cases d
 |pt a r p s=>cases d
 |mq a r z=>cases d
 |cm a c=>cases d
 |ch a c t e=>cases d
 |rp a c v f b=>cases d
abbrev rj:Stmt:=inClass (top 20) 2
def zQ(J:Fx K mg A):Ky P w K mg base k rj ["self"] (ji A n 2):=by
 refine dk (N:=["self"]) bO (rfl:_=[_]) (λi l=>(aG (ai (aX aL (aR (qa q_r (aP (aa gD i rfl aj)))) (aH q_r eN i))))) λv S m j hd h=>?_;obtain⟨s,N,rfl,d,g,h⟩:=h;cases s with
 |lt a x s=>cases d
 |dv a x o s b=>cases d
 |ft a x r p=>
  unfold bP at g;unfold bA;have q:p.1.length<=4:=g.2.2.four;refine⟨r,M,by have:=g.2.1.1;lia,0,_,_,by decide,M,by symm,p,M,by lia,eF ?_,aE j h⟩;simp[Sm.aU];lia
 |pt a r p s=>cases d
 |mq a r z=>cases d
 |cm a c=>cases d
 |ch a c t e=>cases d
 |rp a c u f b=>cases d
abbrev xw:Stmt:=inClass (top 21) 2
def Ez(J:Fx K mg A):Ky P w K mg base k xw ["self"] (ji A n 3):=by
 refine dk (N:=["self"]) bO (rfl:_=[_]) (λg l=>(aG (ai (aX aL (aX aL (aR (aP (aa gD g rfl aj))) (aH q_r eN g)) (aH q_r eN g))))) λy S m j hd h=>?_;obtain⟨s,N,rfl,d,i,h⟩:=h;cases s with
 |lt a x s=>cases d
 |dv a x o s b=>cases d
 |ft a x r p=>cases d
 |pt a r p s=>
  unfold bP at i;unfold bA;have q:s.1.length<=4:=i.2.2.four;have u:p.1.length<=4:=i.2.1.four;refine⟨r,M,by lia,0,_,_,by decide,M,by symm,p,M,by lia,eF ?_,0,_,_,by decide,M,by symm,s,M,by lia,eF ?_,aE j ?_⟩
  .simp[Sm.aU];lia
  .simp[Sm.aU];lia
  .have e:gU (ah.us (.pt a r p s))=.tup (([T.str (hsh r)]++p.aU.map T.str)++s.aU.map T.str):=by unfold gU ah.us;simp
   rw[e] at h;exact h
 |mq a r z=>cases d
 |cm a c=>cases d
 |ch a c t e=>cases d
 |rp a c v f b=>cases d
abbrev uM:Stmt:=inClass (top 22) 2
def Cj(J:Fx K mg A):Ky P w K mg base k uM ["self"] (ji A n 4):=by
 refine dk (N:=["self"]) bO (rfl:_=[_]) (λg l=>(aG (ai (aX aL (aR (aP (aa gD g rfl aj))) (aH q_r eN g))))) λv S m j hd h=>?_;obtain⟨s,N,rfl,d,i,h⟩:=h;cases s with
 |lt a x s=>cases d
 |dv a x o s b=>cases d
 |ft a x r p=>cases d
 |pt a r p s=>cases d
 |mq a r z=>
  unfold bP at i;unfold bA;have q:z.1.length<=4:=i.2.four;refine⟨r,M,by lia,0,_,_,by decide,M,by symm,z,M,by lia,eF ?_,aE j h⟩;simp[Sm.aU];lia
 |cm a c=>cases d
 |ch a c t e=>cases d
 |rp a c u f b=>cases d
abbrev rD:Stmt:=inClass (top 23) 2
def zU(J:Fx K mg A):Ky P w K mg base k rD ["self"] (ji A n 5):=by
 refine dk (N:=["self"]) bO (rfl:_=[_]) (λi u=>(aG (ai (aH q_r lG i)))) λC S v q hd h=>?_;obtain⟨s,N,rfl,d,g,h⟩:=h;cases s with
 |lt a x s=>cases d
 |dv a x y s b=>cases d
 |ft a x r p=>cases d
 |pt a r p s=>cases d
 |mq a r z=>cases d
 |cm a c=>
  unfold bP at g;obtain⟨o,l,m,_,j,_⟩:=i7 A S c;unfold bA;exact⟨qU c,o,l,dh c,m,j,c,M,M,g.dep,g.few,aE q h⟩
 |ch a c t e=>cases d
 |rp a c B f b=>cases d
abbrev pQ:Stmt:=inClass (top 24) 2
def yo(J:Fx K mg A):Ky P w K mg base k pQ ["self"] (ji A n 7):=by
 refine dk (N:=["self"]) bO (rfl:_=[_]) (λi u=>(aG (ai (aH q_r lG i)))) λC S v q hd h=>?_;obtain⟨s,N,rfl,d,g,h⟩:=h;cases s with
 |lt a x s=>cases d
 |dv a x y s b=>cases d
 |ft a x r p=>cases d
 |pt a r p s=>cases d
 |mq a r z=>cases d
 |cm a c=>cases d
 |ch a c t e=>
  obtain⟨o,l,m,_,j,_⟩:=i7 A S c;exact⟨qU c,o,l,dh c,m,j,c,M,M,g.1.dep,g.1.few,aE q h⟩
 |rp a c B f b=>cases d
abbrev pC:Stmt:=inClass (top 25) 2
def xZ(J:Fx K mg A):Ky P w K mg base k pC ["self"] (ji A n 8):=by
 refine dk (N:=["self"]) bO (rfl:_=[_]) (λi u=>(aG (ai (aH q_r lG i)))) λC S v q hd h=>?_;obtain⟨s,N,rfl,d,g,h⟩:=h;cases s with
 |lt a x s=>cases d
 |dv a x y s b=>cases d
 |ft a x r p=>cases d
 |pt a r p s=>cases d
 |mq a r z=>cases d
 |cm a c=>cases d
 |ch a c t e=>cases d
 |rp a c B f b=>
  obtain⟨o,l,m,_,j,_⟩:=i7 A S c;exact⟨qU c,o,l,dh c,m,j,c,M,M,g.1.dep,g.1.few,aE q h⟩
abbrev q9:Stmt:=inClass (top 18) 3
def zP(J:Fx K mg A):Ky P w K mg base k q9 ["self"] (iK A 0):=by
 refine dk (N:=["self"]) bO (rfl:_=[_]) (λi j=>(aG (ai q_r))) λq S m g hd h=>?_;obtain⟨s,N,rfl,d,l,h⟩:=h;cases s with
 |lt a x s=>
  exact aE g h
 |dv a x n s b=>cases d
 |ft a x r p=>cases d
 |pt a r p s=>cases d
 |mq a r z=>cases d
 |cm a c=>cases d
 |ch a c t e=>cases d
 |rp a c o f b=>cases d
abbrev lZ:Stmt:=inClass (top 19) 3
def tK(J:Fx K mg A):Ky P w K mg base k lZ ["self"] (iK A 1):=by
 refine dk (N:=["self"]) bO (rfl:_=[_]) (λi j=>(aG (ai q_r))) λq S m g hd h=>?_;obtain⟨s,N,rfl,d,l,h⟩:=h;cases s with
 |lt a x s=>cases d
 |dv a x n s b=>
  exact aE g h
 |ft a x r p=>cases d
 |pt a r p s=>cases d
 |mq a r z=>cases d
 |cm a c=>cases d
 |ch a c t e=>cases d
 |rp a c o f b=>cases d
abbrev nk:Stmt:=inClass (top 20) 3
def vA(J:Fx K mg A):Ky P w K mg base k nk ["self"] (iK A 2):=by
 refine dk (N:=["self"]) bO (rfl:_=[_]) (λi j=>(aG (ai q_r))) λq S m g hd h=>?_;obtain⟨s,N,rfl,d,l,h⟩:=h;cases s with
 |lt a x s=>cases d
 |dv a x n s b=>cases d
 |ft a x r p=>
  exact aE g h
 |pt a r p s=>cases d
 |mq a r z=>cases d
 |cm a c=>cases d
 |ch a c t e=>cases d
 |rp a c o f b=>cases d
abbrev pH:Stmt:=inClass (top 22) 3
def yg(J:Fx K mg A):Ky P w K mg base k pH ["self"] (iK A 4):=by
 refine dk (N:=["self"]) bO (rfl:_=[_]) (λi l=>(aG (ai (aR (aP (aa gD i rfl aj)))))) λq S m j hd h=>?_;obtain⟨s,N,rfl,d,g,h⟩:=h;cases s with
 |lt a x s=>cases d
 |dv a x n s b=>cases d
 |ft a x r p=>cases d
 |pt a r p s=>cases d
 |mq a r z=>
  unfold bP at g;unfold bA;exact⟨r,M,by have:=g.1.1;lia,aE j h⟩
 |cm a c=>cases d
 |ch a c t e=>cases d
 |rp a c o f b=>cases d
abbrev fU:Stmt:=inClass (top 17) 1
def gJ(J:Fx K mg A){j:Nat}(a:j=3\/j=5\/j=7\/j=8) :Ky P w K mg base k fU ["self"] (iK A j):=by
 refine dk (N:=["self"]) bO (rfl:_=[_]) (λd f=>(aG (ai q_r))) λl S i b hd h=>?_;obtain⟨s,N,rfl,c,g,h⟩:=h;have e:uo s=[]:=by rcases a with rfl | rfl | rfl | rfl<;>(cases s<;>first | rfl | cases c)
 rw[e] at h;exact aE b h
abbrev cK:Stmt:=inClass (top 17) 2
def cO(J:Fx K mg A){j:Nat}(d:j<7) :Ky P w K mg base k cK ["self"] (DT A j):=by
 refine dk (N:=["self"]) bO (rfl:_=[_]) (λc f=>(aG (ai q_r))) λg S i a hd h=>?_;obtain⟨s,rfl,b,h⟩:=h;have e:s.Dm=[]:=by cases s<;>first | rfl | (exfalso;simp only[kd] at b;lia)
 rw[e] at h;exact aE a h
abbrev l6:Stmt:=inClass (top 24) 3
def tL(J:Fx K mg A):Ky P w K mg base k l6 ["self"] (DT A 7):=by
 refine dk (N:=["self"]) bO (rfl:_=[_]) (λi j=>(aG (ai q_r))) λq S m g hd h=>?_;obtain⟨s,rfl,d,h⟩:=h;cases s with
 |lt a x s=>cases d
 |dv a x n s b=>cases d
 |ft a x r p=>cases d
 |pt a r p s=>cases d
 |mq a r z=>cases d
 |cm a c=>cases d
 |ch a c t e=>
  have e:((ah.ch a c t e).Dm.map λl=>T.tup (l.map (bA A)))=[.tup (BB A t),.tup (BB A e)]:=by rw[dN,dN];rfl
  rw[e] at h;exact aE g h
 |rp a c o f b=>cases d
abbrev lY:Stmt:=inClass (top 25) 3
def tH(J:Fx K mg A):Ky P w K mg base k lY ["self"] (DT A 8):=by
 refine dk (N:=["self"]) bO (rfl:_=[_]) (λj m=>(aG (ai q_r))) λq S n i hd h=>?_;obtain⟨s,rfl,d,h⟩:=h;cases s with
 |lt a x s=>cases d
 |dv a x o s b=>cases d
 |ft a x r p=>cases d
 |pt a r p s=>cases d
 |mq a r z=>cases d
 |cm a c=>cases d
 |ch a c t e=>cases d
 |rp a c g f b=>
  have e:((ah.rp a c g f b).Dm.map λl=>T.tup (l.map (bA A)))=[.tup (BB A b)]:=by rw[dN];rfl
  rw[e] at h;exact aE i h
abbrev pO:Stmt:=inClass (top 11) 5
def yl(J:Fx K mg A):Ky P w K mg base k pO ["self"] (qP A (n+1) 0):=by
 refine dk (N:=["self"]) bO (rfl:_=[_]) (λe i=>(aG (ai (fu oA e rfl (qa q_r (qa (WU rfl tS q_r) aj)))))) λm S j g hd h=>?_;obtain⟨c,rfl,d,l,f,h⟩:=h;cases c with
 |cmp a s b=>
  exact⟨s,M,f,_,[fD A a,.str (J7 s),fD A b],M,M,ao,made (aE g h)⟩
 |neg c=>cases d
 |con k o=>cases k<;>cases d
abbrev qY:Stmt:=inClass (top 12) 5
def zM(J:Fx K mg A):Ky P w K mg base k qY ["self"] (qP A (n+1) 1):=by
 refine dk (N:=["self"]) bO (rfl:_=[_]) (λf g=>(aG (ai q_r))) λm S i e hd h=>?_;obtain⟨c,rfl,d,j,l,h⟩:=h;cases c with
 |cmp a s b=>cases d
 |neg c=>
  exact aE e h
 |con k o=>cases k<;>cases d
abbrev uP:Stmt:=inClass (top 14) 3
def Co(J:Fx K mg A)(m:Ms P w K mg base k 4 (Be A) "opposite" ["self"] (qP A n)):Ky P w K mg base k uP ["self"] (qP A (n+1) 2):=by
 refine dk (N:=["self"]) bO (rfl:_=[_]) (λf u=>(aG (ai (fu OH f rfl (aP (ck (cS ["condition"]) rfl (qi q_r) (λ_ _ _ _=>(qx (i:=0) Oh)) (λ_ _ _ _=>bJ) (λ_ _ _ _=>(aH q_r m f)))))))) λz S v t hd h=>?_;obtain⟨c,rfl,d,o,e,h⟩:=h;cases c with
 |cmp a s b=>cases d
 |neg c=>cases d
 |con k B=>
  cases k with
  |false=>cases d
  |true=>
   unfold uf at e;unfold aN.dep at o;have p:=e.2;rw[aN.iZ,oG,rJ,jaM] at h;rw[oG];refine bY (dR (dZ A) (λc=>dZ A c.iZ) trivial (eF (by lia)) (λx g y hk=>?_) ⟨_,_,_,M,ao,M,made (aE t h)⟩);obtain⟨r,l,q,j⟩:=CD A S x;have:=jP g;exact⟨qU x,r,l,dh x,q,j,x,M,M,by lia,rZ e.1 g,_,M,hk⟩
abbrev xu:Stmt:=inClass (top 15) 3
def Ey(J:Fx K mg A)(m:Ms P w K mg base k 4 (Be A) "opposite" ["self"] (qP A n)):Ky P w K mg base k xu ["self"] (qP A (n+1) 3):=by
 refine dk (N:=["self"]) bO (rfl:_=[_]) (λf u=>(aG (ai (fu rP f rfl (aP (ck (cS ["condition"]) rfl (qi q_r) (λ_ _ _ _=>(qx (i:=0) Oh)) (λ_ _ _ _=>bJ) (λ_ _ _ _=>(aH q_r m f)))))))) λz S v t hd h=>?_;obtain⟨c,rfl,d,o,e,h⟩:=h;cases c with
 |cmp a s b=>cases d
 |neg c=>cases d
 |con k B=>
  cases k with
  |true=>cases d
  |false=>
   unfold uf at e;unfold aN.dep at o;have p:=e.2;rw[aN.iZ,oG,rJ,jaM] at h;rw[oG];refine bY (dR (dZ A) (λc=>dZ A c.iZ) trivial (eF (by lia)) (λx g y hk=>?_) ⟨_,_,_,M,ao,M,made (aE t h)⟩);obtain⟨r,l,q,j⟩:=CD A S x;have:=jP g;exact⟨qU x,r,l,dh x,q,j,x,M,M,by lia,rZ e.1 g,_,M,hk⟩
abbrev pS:Stmt:=inClass (top 24) 0
def yq(J:Fx K mg A):Ky P w K mg base k pS ["self","at","condition","then","other"] (UQ A):=by
 refine dk (N:=["self","at","condition","then","other"]) bO (rfl:_=[_,_,_,_]) (λf l=>(qs (fO (nB d9 f rfl aj)) (qs (aS q_r q_r rfl M) (qs (aS q_r (cD J.bE aj) rfl M) (aG (aS q_r (cD J.bE aj) rfl M)))))) λp S m q hd h=>?_;obtain⟨i,a,c,d1,o,t,e,rfl,b,j,g,hk⟩:=h;have d:=(jar.mp b).1;refine⟨_,_,_,M,b,J.iR.n.1,_,_,_,_,M,vI d,J.iR.n.2.1,by decide,?_⟩;rw[jat];refine(oe (uh (kQ b j)) ⟨_,_,_,_,M,vI d,J.iR.n.2.2.1,by decide,?_⟩);rw[jat];refine(oe (uh (kQ b g)) ⟨_,_,_,_,M,vI d,J.iR.n.2.2.2.1,by decide,?_⟩);rw[jat];exact .inr (.inr (.inr hk))
abbrev pG:Stmt:=inClass (top 25) 0
def yf(J:Fx K mg A):Ky P w K mg base k pG ["self","at","condition","keeps","falls","body"] (UH A):=by
 refine dk (N:=["self","at","condition","keeps","falls","body"]) bO (rfl:_=[_,_,_,_,_]) (λg o=>(qs (fO (nB d9 g rfl aj)) (qs (aS q_r q_r rfl M) (qs (aS q_r (aa qz g (by rfl) aj) rfl M) (qs (aS q_r q_r rfl M) (aG (aS q_r (cD J.bE aj) rfl M))))))) λr S p s hd h=>?_;obtain⟨i,a,c,f,d1,q,l,b,rfl,d,m,l1,j,hk⟩:=h;have e:=(jar.mp d).1;refine⟨_,_,_,M,d,J.gR.n.1,_,_,_,_,M,vI e,J.gR.n.2.1,by decide,?_⟩;rw[jat];refine⟨_,l,M,kQ d m,l1,_,_,_,_,M,vI e,J.gR.n.2.2.1,by decide,?_⟩;rw[jat];refine⟨_,_,_,_,M,vI e,J.gR.n.2.2.2.1,by decide,?_⟩;rw[jat];refine(oe (uh (kQ d j)) ⟨_,_,_,_,M,vI e,J.gR.n.2.2.2.2.1,by decide,?_⟩);rw[jat];exact .inr (.inr (.inr hk))
abbrev pJ:Stmt:=inClass (top 66) 0
def yh(J:Fx K mg A):Ky P w K mg base k pJ ["self","at","name","params","answers","needs","gives","steps"] (UO A):=by
 refine dk (N:=["self","at","name","params","answers","needs","gives","steps"]) bO (rfl:_=[_,_,_,_,_,_,_]) (λd p=>(qs (aS q_r q_r rfl M) (qs (aS q_r q_r rfl M) (qs (aS q_r (cD J.bE aj) rfl M) (qs (aS q_r (cD J.bE aj) rfl M) (qs (aS q_r (aa qz d (by rfl) aj) rfl M) (qs (aS q_r (aa qz d (by rfl) aj) rfl M) (aG (aS q_r (cD J.bE aj) rfl M))))))))) λu S r v hd h=>?_;obtain⟨i,a,x,d1,s,t,d4,q,h,rfl,b,m,j,l,o,e,g,f,hk⟩:=h;have c:=(jar.mp b).1;refine⟨_,_,_,_,M,b,J.iQ.n.1,by decide,_,_,_,_,M,vI c,J.iQ.n.2.1,by decide,?_⟩;rw[jat];refine(oe (uh (kQ b m)) ⟨_,_,_,_,M,vI c,J.iQ.n.2.2.1,by decide,?_⟩);rw[jat];refine(oe (uh (kQ b j)) ⟨_,_,_,_,M,vI c,J.iQ.n.2.2.2.1,by decide,?_⟩);rw[jat];refine⟨_,_,M,kQ b l,g,_,_,_,_,M,vI c,J.iQ.n.2.2.2.2.1,by decide,?_⟩;rw[jat];refine⟨_,_,M,kQ b o,f,_,_,_,_,M,vI c,J.iQ.n.2.2.2.2.2.1,by decide,?_⟩;rw[jat];refine(oe (uh (kQ b e)) ⟨_,_,_,_,M,vI c,J.iQ.n.2.2.2.2.2.2.1,by decide,?_⟩);rw[jat];exact .inr (.inr (.inr hk))
abbrev ni:Stmt:=inClass (top 67) 0
def vz(J:Fx K mg A):Ky P w K mg base k ni ["self","helpers"] (UJ A):=by
 refine dk (N:=["self","helpers"]) bO (rfl:_=[_]) (λc f=>(aG (aS q_r (cD J.bE aj) rfl M))) λg S j l hd h=>?_;obtain⟨i,d,e,rfl,a,b,hk⟩:=h;exact(oe (uh b) ⟨_,_,_,_,M,a,J.Bg.n.1,by decide,.inr (.inr (.inr hk))⟩)
abbrev Ir:Stmt:=inClass (top 67) 1
def NZ(J:Fx K mg A):Ky P w K mg base k Ir ["self","name"] (Ih A):=by
 refine dk (N:=["self","name","helper"]) bO (rfl:_=[_,_]) (λd f=>(qs (bf jaJ rfl (qi q_r) (qg (i:=2) f) (aG (aJ (aD (dc d) q_r q_r (aA _)) (aG (ai q_r)) az))) (aG (ai nA)))) λn S l j hd h=>?_;obtain⟨x,m,g,rfl,b,h⟩:=h;refine(bY (bV (CG A) (λa Z c=>∃y,Z=[some (D.t (Lo A g)),some (D.str x),y]/\c=S/\a.find? (λy=>decide (y.name=x))=none) ⟨_,M,M,M⟩ ?_ ?_))
 .rintro a z post Z c N e ⟨y,rfl,rfl,hn⟩ hN;refine⟨trivial,?_⟩;by_cases q:z.name=x
  .refine⟨true,jao D.bl (seq q),aE j ?_⟩;rw[e,List.find?_append,hn,Option.none_or,List.find?_cons_of_pos (by simpa using q)] at b;cases b;exact h
  .refine⟨false,jao D.bl (cF q),hN _ _ ⟨_,M,M,?_⟩⟩;rw[List.find?_append,hn,Option.none_or,jcf (by simpa using q)];rfl
 .rintro Z c ⟨y,rfl,rfl,hn⟩;rw[hn] at b;cases b
abbrev xh:Stmt:=top 28
def Et(J:Fx K mg A):Ky P w K mg base k xh ["pairs"] (Ie A):=by
 refine dk (N:=["pairs"]) bO (rfl:_=[_]) (λe f=>(aG (ai (cD J.bE (aP (ck (cS ["pair"]) rfl (qi q_r) (λ_ _ _ _=>(qx (i:=0) Oh)) (λ_ _ _ _=>bJ) (λ_ _ _ _=>(cD J.bE aj)))))))) λn S g b hd h=>?_;obtain⟨d,l,rfl,a,m,h⟩:=h;exact(Vi a λG c=>dR (atT A) (atT A) (by simpa using c []) (eF (by lia)) (λx _ j hk=>⟨_,M,hk⟩) (aE b h))
abbrev qV:Stmt:=top 30
def zK(J:Fx K mg A)(f:Ms P w K mg base k 4 (Be A) "told" ["self"] (fE A n)):Ky P w K mg base k qV ["pairs"] (H8 A n):=by
 refine dk (N:=["pairs"]) bO (rfl:_=[_]) (λc m=>(aG (ai (cD J.bE (aP (ck (cS ["at","condition"]) rfl (qi q_r) (λ_ _ _ _=>(k7 (n:=2) rfl (Dl (qx (i:=0) zX) (Dl (qx (i:=1) zX) jb)))) (λ_ _ _ _=>bJ) (λ_ _ _ _=>(aR (qa q_r (aP (aH q_r f c))))))))))) λr S o j hd h=>?_;obtain⟨l,rfl,q,a,h⟩:=h;refine(bY (dR (atT A) Lu trivial (eF (by lia)) (λx b p hk=>?_) (aE j h)));obtain⟨g,l,e,d,_⟩:=i7 A S x.2;exact⟨_,M,M,_,_,M,_,_,M,M,qU x.2,g,l,dh x.2,e,d,x.2,M,M,(a x b).1,(a x b).2,_,M,hk⟩
abbrev uw:Stmt:=top 29
def lA(J:Fx K mg A)(e:Ms P w K mg base k 11 (clX A) "told" ["self"] (kX A n)):Ky P w K mg base k uw ["parts"] (qO A n):=by
 refine dk (N:=["parts"]) bO (rfl:_=[_]) (λb r=>(aG (ai (cD J.bE (aP (ck (cS ["part"]) rfl (qi q_r) (λ_ _ _ _=>(qx (i:=0) Oh)) (λ_ _ _ _=>bJ) (λ_ _ _ _=>(aH q_r e b)))))))) λv S s o hd h=>?_;obtain⟨l,rfl,u,f,h⟩:=h;refine(bY (dR (λp:T×T=>p.1) (λp=>p.2) trivial (eF (by lia)) (λx q t hk=>?_) (aE o h)));obtain⟨j,a⟩:=f x q;obtain⟨m,l,g,c,d⟩:=a19 A S a;exact⟨j,m,l,d,g,c,x.1,x.2,M,a,_,M,hk⟩
abbrev pI:Stmt:=inClass (top 66) 1
def nG(J:Fx K mg A)(f:Dn P w K mg base k "told_each" ["parts"] (cu K (qO A n))):Ky P w K mg base k pI ["self"] (wO A n):=by
 refine dk (N:=["self"]) bO (rfl:_=[_]) (λc l=>(aG (ai (aR (qa aT (qa q_r (qa q_r (qa q_r (qa q_r (qa (aa lP c rfl aj) (qa (aa lP c rfl aj) (aP (aa f c rfl aj))))))))))))) λu S m j hd h=>?_;obtain⟨x,N,rfl,a,i,h⟩:=h;obtain⟨r,o,q,t⟩:=a.pl;have g:=a.sl;have e:=a.dp;refine⟨x.needs,M,by lia,(λp b=>⟨(a.nd p b).dep,by have:=(a.nd p b).sz;lia⟩),x.gives,M,by lia,(λp b=>⟨(a.gv p b).dep,by have:=(a.gv p b).sz;lia⟩),x.steps.map (λs=>(bA A s,jM s)),by rw[jaM];rfl,by rw[jac];lia,(λp b=>by obtain⟨s,d,rfl⟩:=jaq.mp b;have:=eT d;exact⟨_,.s s N (bH a.st d) (by lia)⟩),aE j ?_⟩;rw[jaM];exact h
abbrev nh:Stmt:=inClass (top 67) 2
def vv(J:Fx K mg A):Ky P w K mg base k nh ["self"] (DK A):=by
 refine dk (N:=["self"]) bO (rfl:_=[_]) (λa i=>(aG (ai (aa d7 a rfl aj)))) λl S j f hd h=>?_;obtain⟨c,rfl,e,b,h⟩:=h;refine⟨c.map (λx=>(CG A x,Qt x)),by rw[jaM];rfl,by rw[jac];exact e,(λp d=>?_),aE f ?_⟩
 .obtain⟨x,hx,rfl⟩:=jaq.mp d;obtain⟨N,g⟩:=b x hx;exact⟨9,.h x N g (by decide)⟩
 .rw[jaM];exact h
abbrev AQ:Stmt:=top 46
def GO(J:Fx K mg A):Ky P w K mg base k AQ ["one","other"] (US A):=by
 refine dk (N:=["one","other"]) bO (rfl:_=[_]) (λc e=>(aG (ai (fu oA c rfl aj)))) λf S g d hd h=>?_;obtain⟨a,b,rfl,h⟩:=h;exact⟨_,[fD A a,.str "<=",fD A b],M,M,ao,made (aE d (by exact h))⟩
abbrev o9:Stmt:=top 47
def xW(J:Fx K mg A):Ky P w K mg base k o9 ["total"] (UP A):=by
 refine dk (N:=["total"]) bO (rfl:_=[_]) (λb d=>(aG (ai (aa iA b rfl (qa (fu rO b rfl aj) aj))))) λe S f c hd h=>?_;obtain⟨a,rfl,h⟩:=h;exact⟨_,_,[],0,M,ao,M,by simp,made ⟨([],0),a,M,aE c h⟩⟩
abbrev UU:Stmt:=top 48
def XD(J:Fx K mg A):Ky P w K mg base k UU ["thing","total"] (UN A):=by
 refine dk (N:=["thing","total"]) bO (rfl:_=[_]) (λb c=>(aG (ai q_r))) λd S e a hd h=>?_;obtain⟨x,s,rfl,h⟩:=h;exact(aE a h)
abbrev M7:Stmt:=top 49
def SA(J:Fx K mg A):Ky P w K mg base k M7 ["condition"] (MX A):=by
 refine dk (N:=["condition"]) bO (rfl:_=[_]) (λb d=>(aG (ai q_r))) λe S f a hd h=>?_;obtain⟨c,rfl,h⟩:=h;exact(aE a h)
abbrev wY:Stmt:=top 50
def Ep(J:Fx K mg A):Ky P w K mg base k wY ["writings"] (Im A):=by
 refine dk (N:=["writings"]) bO (rfl:_=[_]) (λa c=>(aG (ai (cD J.bE (aP (ck (cS ["at","condition"]) rfl (qi q_r) (λ_ _ _ _=>(k7 (n:=2) rfl (Dl (qx (i:=0) zX) (Dl (qx (i:=1) zX) jb)))) (λ_ _ _ _=>bJ) (λ_ _ _ _=>(aa nX a rfl aj)))))))) λg S d b hd h=>?_;obtain⟨l,rfl,f,h⟩:=h;refine(bY (dR (atT A) (λp=>ja A (.hd p.2)) trivial (eF (by lia)) (λx j e hk=>⟨_,M,M,_,_,M,_,_,M,M,x.2,M,_,M,hk⟩) (aE b ?_)));rw[jaM] at h;exact h
abbrev oW:Stmt:=top 51
def xO(J:Fx K mg A):Ky P w K mg base k oW ["thing"] (Az A):=by
 refine dk (N:=["thing"]) bO (rfl:_=[_,_]) (λa c=>(qs (aJ (fq (aa Fy a rfl aj)) (aG (ai (aR (qa q_r (aP (aa nX a rfl (aP (aa iH a rfl (aP (aa nS a rfl aj)))))))))) az) (aG (ai q_r)))) λd S f b hd h=>?_;obtain⟨x,rfl,h⟩:=h;refine⟨x,M,_,M,?_⟩;unfold aQ at h;cases e:Txt.startswith x "#" with
 |true=>
  rw[jaf e] at h;exact⟨x,M,on x,M,_,M,aE b h⟩
 |false=>
  rw[jae (by rw[e];decide)] at h;exact(aE b h)
abbrev o8:Stmt:=top 58
def xV(J:Fx K mg A):Ky P w K mg base k o8 ["by"] (MI A):=by
 obtain⟨g,f⟩:=J.fB;obtain⟨m,e⟩:=J.iu;refine dk (N:=["by","divided","product"]) bO (rfl:_=[_,_,_,_]) (λa c=>(qs (ak (i:=1) c (aa nS a rfl (aP (fY (bC (v:=.str "^") rfl e ⟨_,M⟩))))) (qs (ak (i:=2) c (j8 (aa nS a rfl (aP (fY (bC (v:=.str "^^") rfl f ⟨_,M⟩)))) Cv a aj)) (qs (aJ (aD EG q_r aF (aA _)) (aG (ai (fu rP a rfl (aP (bG (qa (aa iA a rfl aj) (aP (aa iA a rfl (qa q_r (aP (j8 q_r GU a (aP (fu rO a rfl aj))))))))))))) az) (aG (ai (fu rP a rfl (aP (bG (qa (aa iA a rfl aj) (aP (aa iA a rfl (qa (j8 q_r GU a (aP (fu rO a rfl aj))) aj))))))))))))) λn S j d hd h=>?_;obtain⟨i,rfl,o,h⟩:=h;refine⟨"^",M,"^^",M,0,_,_,by decide,M,by symm,on "^^",i,M,by show 1<64;decide,⟨by lia,by lia⟩,?_⟩;have l:((on "^^").times i).1.length<=1:=nH _;unfold quot at h;by_cases b:0<i
 .rw[jaf b] at h;refine⟨true,jao D.bl (jaB b),(on "^^").times i,on "^",M,0,_,_,by decide,M,by symm,_,_,[],i - 1,M,ao,M,by simp,made ⟨(on "^^").times i,([],i - 1),M,by show _+0<64;lia,on "^",((on "^^").times i).plus ([],i - 1),M,_,_,[dZ A _,dZ A _],M,ao,M,made (aE d ?_)⟩⟩;rw[dZ,iP] at h;exact h
 .rw[jae b] at h;refine⟨false,jao D.bl (jau b),on "^",(on "^^").times i,M,0,_,_,by decide,M,by symm,_,_,[],i+1,M,ao,M,by simp,made ⟨(on "^^").times i,([],i+1),M,by show _+0<64;lia,((on "^^").times i).plus ([],i+1),on "^",M,_,_,[dZ A _,dZ A _],M,ao,M,made (aE d ?_)⟩⟩;rw[dZ,iP] at h;exact h
abbrev uD:Stmt:=top 56
def BZ(J:Fx K mg A):Ky P w K mg base k uD ["step"] (a0G A):=by
 refine dk (N:=["step","last"]) bO (rfl:_=[_,_]) (λb f=>(qs (ak (i:=1) f (j8 (aa nS b rfl (aP (aa gD b rfl aj))) GV b (aP (fu rO b rfl aj)))) (aG (ai (fu rP b rfl (aP (bG (qa (aa iH b rfl aj) (aP (aa iA b rfl aj)))))))))) λu S q n hd h=>?_;obtain⟨s,r,p,rfl,m,j,h⟩:=h;have o:∃C c l,iq S (.t (bA A s))=some (C,c,l)/\(c.zip l).lookup ("row":Str)=some (D.str r)/\(c.zip l).lookup ("place":Str)=some (D.t (fD A p)):=by
  rcases m with⟨a,x,rfl⟩ | ⟨a,t,rfl⟩<;>exact⟨_,_,_,by unfold bA;rfl,M,M⟩
 obtain⟨C,c,l,d,g,e⟩:=o;refine(oe d (oe g ⟨r,M,by lia,hsh r,M,0,_,_,by decide,M,by symm,_,_,[],1,M,ao,M,by simp,made ⟨on (hsh r),([],1),M,by show 1+0<64;decide,?_⟩⟩));refine(oe d (oe e ⟨p,M,oe d (oe e ⟨p,(on (hsh r)).less ([],1),M,_,_,[dZ A (CI p),dZ A (zl p ((on (hsh r)).less ([],1)))],M,ao,M,made (aE n ?_)⟩)⟩));unfold within at h;rw[dZ,iP] at h;exact h
abbrev mY:Stmt:=top 32
def l9(J:Fx K mg A)(X:Dn P w K mg base k "steps_within" ["steps"] (cu K (JQ A q))):Ky P w K mg base k mY ["steps"] (mV A q):=by
 refine dk (N:=["steps","found","step","block"]) bO (rfl:_=[_,_,_]) (λr j=>(qs (ak (i:=1) j (gI cG)) (qs (bf jaJ rfl (qi q_r) (qg (i:=2) j) (qs (fO (nD q_r aj)) (aG (bf jaJ rfl (qi (aH q_r EO r)) (qg (i:=3) j) (aG (fO (uU q_r (aP (aa X r rfl aj))))))))) (aG (ai q_r))))) λp S Y F hd h=>?_;obtain⟨d,l,N,rfl,z,g,n,m,V,h⟩:=h;have c:wk q<=121:=jai (HV m) (by decide);have C:=kR g n;have R:=Nat.mul_le_mul V c;refine(Jb z λG u=>bV (bA A) (λa Z b=>∃x y,Z=[some d,some (D.ob (S.length+0)),x,y]/\b=S++[O.lst ((gT a).map (bA A))]) ⟨_,_,M,by rfl⟩ ?_ ?_)
 .rintro a s post Z b Nx rfl ⟨x,y,rfl,rfl⟩ hN;rw[oh,gT,jab,jab] at C;have v:=bH g (show s∈a++s::post by simp);have p:=jai (eT (show s∈a++s::post by simp)) n;have o:=Wa s;obtain⟨q,rfl⟩:∃L,q=L+1:=⟨q - 1,by have:=fP s;lia⟩
  have W:=P4 v p;have ez:(jG s).length=1+((s.Dm.map gT).flatten).length:=by rw[o,jak,Nat.add_comm]
  obtain⟨E,l2,B,_,_,I,_⟩:=EY A (S++[O.lst ((gT a).map (bA A)++[bA A s])]) s;refine⟨u _,⟨M,_,eS M⟩,_,dD,By (by rw[jac];lia),?_⟩;rw[fc];refine⟨kd s,E,l2,pV s,B,I,s,M,M,bY (bV (λl=>T.tup (l.map (bA A))) (λf Z b=>∃y,Z=[some d,some (D.ob (S.length+0)),some (.t (bA A s)),y]/\b=S++[O.lst ((gT a++s::(f.map gT).flatten).map (bA A))]) ⟨_,M,by simp⟩ ?_ ?_)⟩
  .rintro f bl bq Z b Ny e ⟨y,rfl,rfl⟩ GZ;have U:bl∈s.Dm:=by rw[e];simp
   obtain⟨H,Q,b3⟩:=W bl U;have e2:((s.Dm.map gT).flatten).length=((f.map gT).flatten).length+((gT bl).length+((bq.map gT).flatten).length):=by rw[e];simp
   refine⟨trivial,?_⟩
   try dsimp only[A6]
   refine⟨⟨M,_,eS M⟩,_,bl,N,M,M,H,Q,by lia,by lia,?_⟩;refine⟨_,_,dD,M,eF (by simp only[jac,jab,jak];lia),?_⟩;rw[fc];refine GZ _ _ ⟨_,M,?_⟩;simp
  .rintro Z b ⟨y,rfl,rfl⟩;refine⟨trivial,hN _ _ ⟨_,_,M,?_⟩⟩;rw[oh,gT,gT,jaw,o]
 .rintro Z b ⟨x,y,rfl,rfl⟩;exact⟨u _,Hj F rfl h⟩
abbrev mZ:Stmt:=top 33
def vo(J:Fx K mg A)(F:Ms P w K mg base k 9 (qI A) "uses" ["self"] (ji A n)):Ky P w K mg base k mZ ["step"] (DJ A):=by
 refine dk (N:=["step","rows"]) bO (rfl:_=[_,_,_]) (λt D=>(qs (ak (i:=1) D (gI (aP (aR (qa q_r (aP (aH q_r F t))))))) (qs (aJ (fq (bZ (jy (c:=.ref A.bx) trivial M) (by rfl) J.aW ja6 (qa q_r (aP (fY (bC (v:=.ref A.bx) rfl J.gR.g M)))))) (qs (fO (uU q_r (aP (ck (cS ["at","condition"]) rfl (qi q_r) (λ_ _ _ _=>(k7 (n:=2) rfl (Dl (qx (i:=0) zX) (Dl (qx (i:=1) zX) jb)))) (λ_ _ _ _=>bJ) (λ_ _ _ _=>(aR (qa q_r (aP (aH q_r lG t))))))))) (aG (aJ (aD lC q_r nA (aA _)) (aG (fO (nD q_r (aP (aR (qa q_r (aP (aH q_r eN t)))))))) az))) az) (aG (ai q_r))))) λI S G r hd h=>?_;obtain⟨s,N,rfl,g,h⟩:=h;obtain⟨q,l,m,_,u,_,_,B⟩:=EY A S s;refine(oe m (oe B ⟨kd s,q,l,pV s,m,u,s,N,M,M,g,M,_,decide (kd s=8),Av A _ s,J.kk _ 8 (pV s) (by decide),_,M,?_⟩));by_cases o:kd s=8
 .cases s with
  |rp a c d f b=>
   unfold bP at g;obtain⟨Q,C,y,E,_⟩:=g;rw[jaB o];unfold bA;rw[jaf rfl];refine⟨⟨M,_,eS (j:=0) M⟩,bY (dR (atT A) (λp=>T.tup [.int p.1,gU p.2.aU]) trivial (jai C (by decide)) (λx z H hk=>?_) ?_)⟩
   .obtain⟨q,l,m,_,u,_⟩:=i7 A (S++[O.lst [.tup [.int a,gU c.aU]]]) x.2;exact⟨_,M,M,_,_,M,_,_,M,M,qU x.2,q,l,dh _,m,u,x.2,M,M,(y x z).dep,(y x z).few,_,M,hk⟩
   refine⟨_,_,dD (j:=0),M,eF (by simp;lia),?_⟩;rw[fm];cases f with
   |none=>
    refine⟨false,M,Hj (j:=0) r rfl ?_⟩;have e:(ah.rp a c d none b).rows.map (λp=>T.tup [.int p.1,gU p.2])=[T.tup [.int a,gU c.aU]]++d.map (λp=>T.tup [.int p.1,gU p.2.aU]):=by simp[ah.rows,jb2]
    rw[e] at h;exact h
   |some p=>
    have L:=(E p M).few;refine⟨true,M,⟨M,_,eS (j:=0) M⟩,0,_,_,by decide,M,by symm,p.2,M,by lia,_,dD (j:=0),By (by rw[jab,jac];simp;lia),?_⟩;rw[fm];refine Hj (j:=0) r rfl ?_;have e:(ah.rp a c d (some p) b).rows.map (λp=>T.tup [.int p.1,gU p.2])=([T.tup [.int a,gU c.aU]]++d.map (λp=>T.tup [.int p.1,gU p.2.aU]))++[T.tup [.int p.1,gU p.2.aU]]:=by simp[ah.rows,jb2]
    rw[e] at h;exact h
  |_=>cases o
 .rw[jau o];have e:s.rows=[(s.at_,s.us)]:=by cases s<;>first | rfl | exact absurd rfl o
  rw[e] at h;exact Hj (j:=0) r rfl h
abbrev wX:Stmt:=top 64
def Eo(J:Fx K mg A):Ky P w K mg base k wX ["program","step"] (MW A):=by
 refine dk (N:=["program","step"]) bO (rfl:_=[_,_,_]) (λo q=>(qs (aJ (fq (bZ (jy (c:=.ref A.bx) trivial M) (by rfl) J.aW ja6 (qa q_r (aP (fY (bC (v:=.ref A.bx) rfl J.gR.g M)))))) (aG (ai (a4T (xJ EG (ic J.kK aj) aF (aA _)) (UY (xJ lC q_r nA (aA _)))))) az) (qs (aJ (fq (bZ (jy (c:=.ref A.gF) trivial M) (by rfl) J.aW ja6 (qa q_r (aP (fY (bC (v:=.ref A.gF) rfl J.PY.g M)))))) BJ az) (aG (ai (a02 (bZ Zg (by rfl) J.aW ja6 (qa q_r (aP (aR (qa (fY (bC (v:=.ref A.iB) rfl J.Bh.g M)) (aP (fY (bC (v:=.ref A.bg) rfl J.iR.g M)))))))))))))) λB S u d hd h=>?_;obtain⟨p,s,N,rfl,g,h⟩:=h;cases s with
 |rp a c l f b=>
  unfold bA;refine⟨M,_,true,M,OB (j:=8) J.kk (by decide),_,M,?_⟩;rw[jaf rfl];have e:(decide ((0:Int)<((l.map (atT A)).length:Nat)))=decide (l≠[]):=by cases l<;>simp
  refine⟨decide (l≠[]),jao D.bl e,?_⟩;by_cases m:l=[]
  .subst m;cases f with
   |none=>exact aE d h
   |some p=>exact aE d h
  .rw[jaf (jaB m)];have n:jk (.rp a c l f b)=true:=by simp[jk,m]
   rw[n] at h;exact aE d h
 |lt a x s=>
  unfold bA;refine⟨M,_,false,M,iW (j:=0) (i:=8) J.kk (by decide) (by decide) (by decide),_,M,M,_,false,M,iW (j:=0) (i:=6) J.kk (by decide) (by decide) (by decide),_,M,?_⟩;exact⟨_,_,_,_,_,_,true,M,M,GY J.kk (j:=0) (by decide),_,M,aE d h⟩
 |dv a x y s b=>
  unfold bA;refine⟨M,_,false,M,iW (j:=1) (i:=8) J.kk (by decide) (by decide) (by decide),_,M,M,_,false,M,iW (j:=1) (i:=6) J.kk (by decide) (by decide) (by decide),_,M,?_⟩;exact⟨_,_,_,_,_,_,false,M,M,GY J.kk (j:=1) (by decide),_,M,aE d h⟩
 |ft a x r p=>
  unfold bA;refine⟨M,_,false,M,iW (j:=2) (i:=8) J.kk (by decide) (by decide) (by decide),_,M,M,_,false,M,iW (j:=2) (i:=6) J.kk (by decide) (by decide) (by decide),_,M,?_⟩;exact⟨_,_,_,_,_,_,false,M,M,GY J.kk (j:=2) (by decide),_,M,aE d h⟩
 |pt a r p s=>
  unfold bA;refine⟨M,_,false,M,iW (j:=3) (i:=8) J.kk (by decide) (by decide) (by decide),_,M,M,_,false,M,iW (j:=3) (i:=6) J.kk (by decide) (by decide) (by decide),_,M,?_⟩;exact⟨_,_,_,_,_,_,false,M,M,GY J.kk (j:=3) (by decide),_,M,aE d h⟩
 |mq a r z=>
  unfold bA;refine⟨M,_,false,M,iW (j:=4) (i:=8) J.kk (by decide) (by decide) (by decide),_,M,M,_,false,M,iW (j:=4) (i:=6) J.kk (by decide) (by decide) (by decide),_,M,?_⟩;exact⟨_,_,_,_,_,_,false,M,M,GY J.kk (j:=4) (by decide),_,M,aE d h⟩
 |cm a c=>
  unfold bA;refine⟨M,_,false,M,iW (j:=5) (i:=8) J.kk (by decide) (by decide) (by decide),_,M,M,_,false,M,iW (j:=5) (i:=6) J.kk (by decide) (by decide) (by decide),_,M,?_⟩;exact⟨_,_,_,_,_,_,false,M,M,GY J.kk (j:=5) (by decide),_,M,aE d h⟩
 |ch a c t e=>
  unfold bA;refine⟨M,_,false,M,iW (j:=7) (i:=8) J.kk (by decide) (by decide) (by decide),_,M,M,_,false,M,iW (j:=7) (i:=6) J.kk (by decide) (by decide) (by decide),_,M,?_⟩;exact⟨_,_,_,_,_,_,true,M,M,GY J.kk (j:=7) (by decide),_,M,aE d h⟩
abbrev nc:Stmt:=top 34
def vp(J:Fx K mg A):Ky P w K mg base k nc ["helper"] (Ig A):=by
 refine dk (N:=["helper","found","step","at","things"]) bO (rfl:_=[_,_,_]) (λj d=>(qs (ak (i:=1) d (iL TV (by rfl) J.P6 boot_list aj)) (qs (bf jaJ rfl (qi (aa dU j rfl aj)) (qg (i:=2) d) (aG (bf jaJ rfl (qi (aa zc j rfl aj)) (ia (n:=2) rfl (sP (qg (i:=3) d) (sP (qg (i:=4) d) fF))) (aG (fO (uU q_r aj)))))) (aG (ai (a4S rfl J.jB rfl J.FD rfl q_r q_r)))))) λC S v q hd h=>?_;obtain⟨x,N,rfl,ok,h⟩:=h;obtain⟨B,F,_⟩:=ok.pl;have g:=ok.tl;have m:=jZ ok.st;refine⟨_,x.steps,N,M,M,ok.st,ok.dp,by decide,ok.sl,gC ?_⟩;refine bV (bA A) (λb Z a=>∃y z w,Z=[some (D.t (CG A x)),some (D.ob (S.length+0)),y,z,w]/\a=S++[O.lst ((x.answers++(b.map ah.all).flatten).map T.str)]) ⟨_,_,_,M,by simp⟩ ?_ ?_
 .rintro b s post Z a Nx e ⟨y,z,w,rfl,rfl⟩ hN;have f:s∈gT x.steps:=by rw[e];simp
  have o:=m s f;rw[e,jaj,ja5,jas,jaW,jab,jab] at g;refine⟨trivial,s,N,M,o,gC (bV (λp:Int×jcI=>T.tup [.int p.1,gU p.2]) (λrp Z a=>∃z w,Z=[some (D.t (CG A x)),some (D.ob (S.length+0)),some (.t (bA A s)),z,w]/\a=S++[O.lst ((x.answers++(b.map ah.all).flatten++(rp.map (·.2)).flatten).map T.str)]) ⟨_,_,M,by simp⟩ ?_ ?_)⟩
  .rintro rp r rq Z a Ny e2 ⟨z,w,rfl,rfl⟩ GZ;have E:s.all.length=((rp.map (·.2)).flatten).length+(r.2.length+((rq.map (·.2)).flatten).length):=by unfold ah.all;rw[e2];simp
   refine⟨trivial,_,M,M,_,_,M,_,_,M,M,?_⟩;refine⟨⟨M,_,eS M⟩,_,_,dD,M,dI (by simp only[jac,jab];lia),?_⟩;refine GZ _ _ ⟨_,_,M,?_⟩;simp
  .rintro Z a ⟨z,w,rfl,rfl⟩;refine⟨trivial,hN _ _ ⟨_,_,_,M,?_⟩⟩;unfold ah.all;simp
 .rintro Z a ⟨y,z,w,rfl,rfl⟩;refine⟨trivial,_,N,eS M,by rw[jab];lia,ok.nl,?_,x.params,M,by lia,yX q h⟩;intro u c;rcases jan.mp c with c | c
  .exact ok.an u c
  .obtain⟨l,hl,hul⟩:=jaZ.mp c;obtain⟨s,f,rfl⟩:=jaq.mp hl;exact(C7 (m s f)).2 u hul
abbrev kB:Stmt:=top 35
def rK(J:Fx K mg A):Ky P w K mg base k kB ["steps"] (UE A):=by
 refine dk (N:=["steps","found","step"]) bO (rfl:_=[_,_,_]) (λv x=>(qs (ak (i:=1) x (gI cG)) (qs (bf jaJ rfl (qi (aa dU v rfl aj)) (qg (i:=2) x) (aG (fO (uU q_r (aP (aH q_r Om v)))))) (aG (ai (RK rfl J.jB rfl J.FD rfl q_r)))))) λU S Q H hd h=>?_;obtain⟨bl,N,rfl,g,B,f,j,h⟩:=h;have q:=jZ g;have R:=kR g f;have L:=Nat.mul_le_mul j (show wk 4<=40 by decide);have c:∀l:List ah,(∀s∈l,s∈gT bl)->((l.map uo).flatten).length<=l.length:=by
  intro l
  induction l with
  |nil=>intro _;exact jam _
  |cons a r C=>
   intro z;rw[jas,jaW,jab,jak];have:=C λs m=>z s (jav _ m);have:=(Mb (q a (z a jay))).1;lia
 refine⟨_,bl,N,M,M,g,f,by decide,j,gC ?_⟩;refine bV (bA A) (λb Z o=>∃y,Z=[some (.tup (bl.map (bA A))),some (D.ob (S.length+0)),y]/\o=S++[O.lst (((b.map uo).flatten).map T.str)]) ⟨_,M,by simp⟩ ?_ ?_
 .rintro b s post Z o Nx e ⟨y,rfl,rfl⟩ B;have n:s∈gT bl:=by rw[e];simp
  have t:=c (b++[s]) λu d=>by
   rw[e];rcases jan.mp d with d | d
   .exact jaA _ d
   .rw[jag.mp d];simp
  have E:(b++[s]).length<=(gT bl).length:=by rw[e];simp
  simp only[jaj,ja5,jas,jaX,jaW,jbG,jaw,jab,jak,jaI] at t E;obtain⟨G,l2,F,_,_,_,I,_⟩:=EY A (S++[O.lst (((b.map uo).flatten).map T.str)]) s;refine⟨trivial,⟨M,_,eS M⟩,kd s,G,l2,pV s,F,I,s,N,M,M,q s n,_,_,dD,M,eF (by rw[jac,jac];lia),?_⟩;rw[fc];refine B _ _ ⟨_,M,?_⟩;simp
 .rintro Z o ⟨y,rfl,rfl⟩;have t:=c (gT bl) λ_ h=>h;refine⟨trivial,_,N,eS M,by lia,by lia,?_,yX H h⟩;intro u d;obtain⟨l,j,p⟩:=jaZ.mp d;obtain⟨s,n,rfl⟩:=jaq.mp j;exact((Mb (q s n)).2 u p).1
abbrev lX:Stmt:=top 52
def tG(J:Fx K mg A):Ky P w K mg base k lX ["helper"] (Ic A):=by
 refine dk (N:=["helper","path","param","thing"]) bO (rfl:_=[_,_,_,_]) (λc d=>(qs (ak (i:=1) d q_r) (qs (bf jaJ rfl (qi q_r) (qg (i:=2) d) (aG (ak (i:=1) d (aX aL q_r (aa gj c rfl aj))))) (qs (bf jaJ rfl (qi (aa zd c rfl aj)) (qg (i:=3) d) (aG (ak (i:=1) d (aX aL q_r (aR (aP (aa ze c rfl (qa q_r (aP (fu rO c rfl aj)))))))))) (aG (ai (aX aL q_r (aa zg c rfl aj)))))))) λu S p n hd h=>?_;obtain⟨x,N,rfl,ok,h⟩:=h;obtain⟨l,q,r,o⟩:=ok.pl;refine(bY ?_);refine bV T.str (λa Z b=>∃y z,Z=[some (D.t (CG A x)),some (.tup (((a.map aQ).flatten).map (ja A))),y,z]/\b=S) ⟨_,_,M,M⟩ ?_ ?_
 .rintro a s post Z b Nx e ⟨y,z,rfl,rfl⟩ hN;have j:=fX a;have f:=fN s;have m:a.length<=8:=by rw[e,jab] at l;lia
  refine⟨trivial,s,M,eF (by rw[jac,jac];lia),?_⟩;rw[<- tT];exact hN _ _ ⟨_,_,M,M⟩
 .rintro Z S0 ⟨y,z,rfl,rfl⟩;have j:=fX x.params;have f:=BS ok;refine⟨trivial,x,N,M,ok,gC ?_⟩;refine bV T.str (λa Z b=>∃y z,Z=[some (D.t (CG A x)),some (.tup ((((x.params.map aQ).flatten)++a.map λx=>bN.lt x ([],0)).map (ja A))),y,z]/\b=S0) ⟨y,z,by rw[jaX,jaw],M⟩ ?_ ?_
  .rintro a s post Z b Nx e ⟨y,z,rfl,rfl⟩ hN;have m:a.length<=8:=by rw[e,jab] at f;lia
   refine⟨trivial,_,_,[],0,M,ao,M,by simp,made ⟨s,([],0),M,eF (by simp only[jab,jac,jak,jaI];lia),?_⟩⟩;have g:(((x.params.map aQ).flatten)++(a++[s]).map λx=>bN.lt x ([],0)).map (ja A)=(((x.params.map aQ).flatten)++a.map λx=>bN.lt x ([],0)).map (ja A)++[ja A (.lt s ([],0))]:=by simp
   rw[<- g];exact hN _ _ ⟨_,_,M,M⟩
  .rintro Z b ⟨y,z,rfl,rfl⟩;refine⟨trivial,x.needs,M,by lia,eF (by simp only[jab,jac,jak,jaI];lia),aE n ?_⟩;rw[<- jaj];exact h
abbrev uR:Stmt:=inClass (top 43) 0
def Cq(J:Fx K mg A):Ky P w K mg base k uR ["self","program"] (UR A):=by
 refine dk (N:=["self","program"]) bO (rfl:_=[_,_]) (λc d=>(qs (aS q_r q_r rfl M) (aG (aS q_r (gI cG) rfl M)))) λe S f g hd h=>?_;obtain⟨i,j,rfl,a,h⟩:=h;have b:=(jar.mp a).1;refine⟨_,_,_,_,M,a,J.Hu.n.1,by decide,_,_,_,_,M,i8 (vI b),J.Hu.n.2.1,by decide,?_⟩;rw[jcz _ _ (by rw[jaF];exact b),jat,jaF];exact jw h
abbrev UT:Stmt:=inClass (top 43) 1
def XA(J:Fx K mg A){f:Addr}{o:jcJ}{l:FuncData}{j:Nat}(x:XTw P w K mg base A.ay f o)(t:dX P w K mg base ug j f l ["self","words"] (JP A.ay))(q:Binds K l ["self","words"] [])(u:j+1<=k) :JH P w K mg base A.ay k UT ["self","path","kind","at","condition"] (UK A):=by
 obtain⟨B,n⟩:=J.jd;refine Pp (N:=["self","path","kind","at","condition"]) bO (rfl:_=[_,_,_]) (λg d z=>(qs (aJ (aD (dc d) (ic J.kK aj) (fY (bC (v:=.int 100) rfl n ⟨_,M⟩)) (aA _)) (aG (AR x.ct t (d.mono u) rfl J.iw q Nd (aP (a05 (RJ (a00 (fY (bC (v:=.int 100) rfl n ⟨_,M⟩)) (RJ Ni))))))) az) (qs (fO (nD q_r (aP (fu Yo d rfl aj)))) (aG (ai (aX aL q_r (aR (aP (aa nX d rfl aj))))))))) λg G S C H hd r h=>?_;obtain⟨i,j,I,m,p,s,a,c,rfl,b,F,E,h,y⟩:=h;refine(oe (i6 b.1) (oe rfl (oe (jh b.2) ⟨decide (m.length=100),?_,?_⟩)))
 .rw[yE,jb7,jac];exact jao D.bl (jbT.mpr (by lia))
 by_cases e:m.length=100
 .rw[jaf (jaB e)];exact⟨(by symm),by decide,(by rw[jbe];symm),(by symm),(by symm),M,r,y e⟩
 rw[jae (by rw[jau e];decide)];have h:=h (by lia);refine(oe (i6 b.1) ⟨⟨M,_,eZ b.2⟩,_,[.str s,.int a,.tup (p.map (ja A)),dZ A c],M,M,ao,made ⟨_,b.2,By (by rw[jac];lia),?_⟩⟩);refine⟨c,M,dI (by simp;lia),jw ?_⟩;rw[jaj,jaj] at h;exact h
abbrev pe:Stmt:=top 45
def nE(J:Fx K mg A){I:Addr}{U:jcJ}{L:FuncData}{j:Nat}(XT:XTw P w K mg base A.ay I U)(X:dX P w K mg base ug j I L ["self","words"] (JP A.ay))(bI:Binds K L ["self","words"] [])(hj:j+1<=k)(W:qJ P w K mg base A.ay k "count_paths" ["steps"] (DS A q)):JH P w K mg base A.ay k pe ["steps"] (vX A q):=by
 obtain⟨Ra,jc⟩:=J.jc;refine Pp (N:=["steps","count","step","within"]) bO (rfl:_=[_,_,_,_]) (λg B r=>(qs (ak (i:=1) r aF) (qs (bf jbQ rfl (qi q_r) (qg (i:=2) r) (qs (Nh (i:=3) r (cS ["block"]) rfl (qi (aH q_r EO B)) (λ_ _ _ _ _=>(qx (i:=0) Oh)) (λ_ _ _ _ _=>bJ) (λ_ _ _ _ _ f=>(fG W f B rfl aj))) (aG (aJ (fq (bZ (jy (c:=.ref A.bg) trivial M) (by rfl) J.aW ja6 (qa q_r (aP (fY (bC (v:=.ref A.bg) rfl J.iR.g M)))))) (aG (ak (i:=1) r (aX IW q_r (bZ (a2O M) (by rfl) J.a2U boot_sum aj)))) az)))) (qs (aJ (aD EG q_r (fY (bC (v:=.int 16) rfl jc ⟨_,M⟩)) (aA _)) (aG (AR XT.ct X (B.mono hj) rfl J.iw bI Nd (aP (a05 (RJ (a00 (fY (bC (v:=.int 16) rfl jc ⟨_,M⟩)) (RJ Ni))))))) az) (aG (ai q_r)))))) λg G S kk hc hd F h=>?_;obtain⟨l,N,rfl,g,Q,O,h,H⟩:=h;refine bY (bV (bA A) (λd Z p=>∃y z,Z=[some (.tup (l.map (bA A))),some (.int (iV d:Nat)),y,z]/\p=S/\v8 d) ⟨_,_,M,M,by trivial⟩ ?_ ?_)
 .rintro d s post Z p Nx e ⟨y,z,rfl,rfl,f⟩ hN;have E:s∈l:=by rw[e];simp
  have R:=bH g E;have G:=jai (eT E) Q;obtain⟨q,rfl⟩:∃q1,q=q1+1:=⟨q - 1,by have:=fP s;lia⟩
  have hb:=P4 R G;obtain⟨ns,l2,Y,_,_,i2,_⟩:=EY A p s;refine⟨trivial,kd s,ns,l2,pV s,Y,i2,s,M,M,?_⟩;refine bY (Y8 (λb=>Km b) (λl=>T.tup (l.map (bA A))) (λb=>T.int (iV b:Nat)) trivial (eF (by have:=TX s;lia)) (λb n k' hk=>?_) λm=>?_)
  .obtain⟨b1,b2,b3⟩:=hb b n;exact⟨F,b,N,M,b1,b2,by lia,λok=>⟨_,M,hk ok⟩,λV=>H λok=>V (IT.mp (Cr ok.2 E) b n)⟩
  have x:=IT.mpr m;refine⟨M,_,decide (kd s=7),Av A _ s,J.kk _ 7 (pV s) (by decide),_,M,?_⟩;by_cases u:kd s=7
  .rw[jaf (jaB u)];cases s with
   |ch a c t o=>
    have hz:=PB f;have hz2:32 ^ d.length<=32 ^ 6:=Nat.pow_le_pow_right (by decide) (by rw[e] at O;simp at O;lia);have C:=Pz x;unfold z6 at C;have e3:((iV d:Nat):Int)*([((iV t:Nat):Int),((iV o:Nat):Int)]).sum=((iV (d++[.ch a c t o]):Nat):Int):=by rw[Fg];unfold z6;simp
    refine⟨[(iV t:Nat),(iV o:Nat)],M,.inl ⟨by lia,by lia⟩,hN _ _ ⟨some (.t (bA A (.ch a c t o))),some (.lst ((ah.ch a c t o).Dm.map λb=>T.int (iV b:Nat))),?_,M,EF f x⟩⟩;rw[<- e3];rfl
   |_=>cases u
  .rw[jae (by rw[jau u];decide)];refine hN _ _ ⟨some (.t (bA A s)),some (.lst (s.Dm.map λb=>T.int (iV b:Nat))),?_,M,EF f x⟩;have e1:z6 s=1:=by cases s<;>first | rfl | exact absurd rfl u
   rw[Fg,e1,Nat.mul_one];rfl
 .rintro Z p ⟨y,z,rfl,rfl,f⟩;refine⟨trivial,decide (16<iV l),jao D.bl (jbT.mpr (by lia)),?_⟩;by_cases big:16<iV l
  .rw[jaf (jaB big)];exact⟨(by symm),by decide,(by rw[jbe];symm),(by symm),(by symm),M,F,H λok=>absurd ok.1 (by lia)⟩
  .rw[jae (by rw[jau big];decide)];exact aE hc (h ⟨by lia,f⟩)
abbrev xg:Stmt:=top 55
def Es(J:Fx K mg A):JH P w K mg base A.ay k xg ["book","path","step"] (Io A (λs=>kd s≠1/\kd s<6)):=by
 refine Pp (N:=["book","path","step"]) bO (rfl:_=[_,_,_,_,_,_]) (λg d C=>(qs (aJ (fq (bZ (jy (c:=.ref A.iB) trivial M) (by rfl) J.aW ja6 (qa q_r (aP (fY (bC (v:=.ref A.iB) rfl J.Bh.g M)))))) (aG (ai (aX aL q_r (aR (aP (aa ze d rfl aj)))))) az) (qs (aJ (fq (bZ (jy (c:=.ref A.cE) trivial M) (by rfl) J.aW ja6 (qa q_r (aP (fY (bC (v:=.ref A.cE) rfl J.wA.g M)))))) (aG (ai (iE q_r Au fZ d aj))) az) (qs (aJ (fq (bZ (jy (c:=.ref A.ff) trivial M) (by rfl) J.aW ja6 (qa q_r (aP (fY (bC (v:=.ref A.ff) rfl J.zh.g M)))))) (qs (ak (i:=1) C (iE q_r Au fZ d (qa q_r (qa aT (qa q_r (aP (aa iH d rfl aj))))))) (aG (ai (aX aL q_r (aR (aP (aa ze d rfl (qa (aa gD d rfl aj) aj)))))))) az) (qs (ak (i:=1) C (iE q_r Au fZ d (qa q_r (qa aT (qa q_r (aP (aa Fw d rfl aj))))))) (qs (aJ (fq (bZ (jy (c:=.ref A.cH) trivial M) (by rfl) J.aW ja6 (qa q_r (aP (fY (bC (v:=.ref A.cH) rfl J.oH.g M)))))) (aG (ai (aX aL q_r (aa gj d rfl aj)))) az) (aG (ai q_r)))))))) λg G S D H hd n h=>?_;obtain⟨i,j,y,q,p,s,N,rfl,m,o,E,g,hk,h,u⟩:=h;cases s with
 |dv a x I s b=>exact absurd rfl hk.1
 |ch a c t e=>exact absurd hk.2 (by show ¬(7<6);decide)
 |rp a c F f b=>exact absurd hk.2 (by show ¬(8<6);decide)
 |lt a x s=>
  unfold bA;refine⟨M,_,true,M,OB (j:=0) J.kk (by decide),_,M,x,s,M,dI ?_,jw ?_⟩
  .simp;lia
  .have h:=h (by simp[gW];lia);simp only[gW] at h;rw[jaw,set_same m.2,jaj] at h;exact h
 |cm a c=>
  unfold bA;refine⟨M,_,false,M,iW (j:=5) (i:=0) J.kk (by decide) (by decide) (by decide),_,M,M,_,true,M,OB (j:=5) J.kk (by decide),_,M,_,_,i6 m.1,by symm,n,i,j,y,q,p,"claim",a,c,M,m,o,by lia,λB=>?_,λe=>u (by simp[gW];lia)⟩;exact jw (h (by simp[gW];lia))
 |mq a r z=>
  unfold bP at g;unfold bA;refine⟨M,_,false,M,iW (j:=4) (i:=0) J.kk (by decide) (by decide) (by decide),_,M,M,_,false,M,iW (j:=4) (i:=5) J.kk (by decide) (by decide) (by decide),_,M,M,_,true,M,OB (j:=4) J.kk (by decide),_,M,_,_,i6 m.1,by symm,z,M,n,i,j,y,q,p,"short",a,CI z,M,m,o,by lia,λB=>?_,λe=>u (by simp[gW];lia)⟩;have h:=h (by simp[gW];lia);refine⟨r,M,by have:=g.1.1;lia,hsh r,z,M,dI ?_,jw ?_⟩
  .simp;lia
  .simp only[gW] at h;rw[jaj (l₁:=p++_)] at h;exact h
 |ft a x r z=>
  unfold bP at g;unfold bA;refine⟨M,_,false,M,iW (j:=2) (i:=0) J.kk (by decide) (by decide) (by decide),_,M,M,_,false,M,iW (j:=2) (i:=5) J.kk (by decide) (by decide) (by decide),_,M,M,_,false,M,iW (j:=2) (i:=4) J.kk (by decide) (by decide) (by decide),_,M,_,_,i6 m.1,by symm,.ft a x r z,r,z,by unfold bA;rfl,.inl ⟨_,_,M⟩,by have:=g.2.1.1;lia,n,i,j,y,q,p,"beyond",a,within r z,M,m,o,by lia,λB=>?_,λe=>u (by simp[gW];lia)⟩;have h:=h (by simp[gW];lia);refine⟨M,_,true,M,OB (j:=2) J.kk (by decide),_,M,x,M,dI ?_,jw ?_⟩
  .have:=fN x;simp;lia
  .simp only[gW] at h;rw[jaj (l₁:=p++_)] at h;exact h
 |pt a r z t=>
  unfold bP at g;unfold bA;refine⟨M,_,false,M,iW (j:=3) (i:=0) J.kk (by decide) (by decide) (by decide),_,M,M,_,false,M,iW (j:=3) (i:=5) J.kk (by decide) (by decide) (by decide),_,M,M,_,false,M,iW (j:=3) (i:=4) J.kk (by decide) (by decide) (by decide),_,M,_,_,i6 m.1,by symm,.pt a r z t,r,z,by unfold bA;rfl,.inr ⟨_,_,M⟩,by have:=g.1.1;lia,n,i,j,y,q,p,"beyond",a,within r z,M,m,o,by lia,λB=>?_,λe=>u (by simp[gW];lia)⟩;exact⟨M,_,false,M,iW (j:=3) (i:=2) J.kk (by decide) (by decide) (by decide),_,M,jw (h (by simp[gW];lia))⟩
abbrev wZ:Stmt:=top 53
def uW(J:Fx K mg A)(JI:qJ P w K mg base A.ay k "go_step" ["book","path","step"] (JT A q (λ_=>True))):JH P w K mg base A.ay k wZ ["book","path","steps"] (wQ A q):=by
 refine Pp (N:=["book","path","steps","paths","step","found","each"]) bO (rfl:_=[_,_,_]) (λg hr v=>(qs (ak (i:=3) v (gI aj)) (qs (bf jbQ rfl (qi q_r) (qg (i:=4) v) (qs (ak (i:=5) v (gI cG)) (qs (bf jbQ rfl (qi q_r) (qg (i:=6) v) (aG (fO (uU q_r (aP (fG JI fZ hr rfl aj)))))) (aG (ak (i:=3) v (q_v 5)))))) (aG (ai q_r))))) λg X S kk Y hd hg h=>?_;obtain⟨i,j,pg,d,p,l,N,own,rfl,B,h1,h2,g,V,U,ho,hl,h,hx⟩:=h;have H:iV l<=16:=ho.1;refine bY (bV (bA A) (λa Z f=>∃r y z w b,Z=[some (D.ob i),some (.tup (p.map (ja A))),some (.tup (l.map (bA A))),some (.ob (S.length+r)),y,z,w]/\f=S.set j (.lst ((d++(bw a [p]).1).map (CQ A)))++b/\b[r]?=some (.lst ((bw a [p]).2.map λw=>.tup (w.map (ja A))))/\d.length+(bw a [p]).1.length<=100) ⟨0,_,_,_,[O.lst [.tup (p.map (ja A))]],M,?_,?_,?_⟩ ?_ ?_)
 .rw[bw,jaw,set_same B.2]
 .rw[bw];rfl
 .rw[bw];simpa using h1
 .rintro a s post Z f Nx e ⟨r,y,z,w,b,rfl,rfl,A4,Vo⟩ hN;have I:s∈l:=by rw[e];simp
  have gs:=bH g I;have X:=jai (eT I) U;have C:=Cr ho.2 I;have gp:cU N a:=fk λu E=>bH g (by rw[e];exact jaA _ E);have dp:jv a<=q:=qv λu E=>jai (eT (show u∈l by rw[e];exact jaA _ E)) U;have OU:=iN (ps:=[p]) (m:=p.length) gp V dp (by simp);have x:(a.length+1)*mx q<=l.length*mx q:=jaC _ (by rw[e];simp);rw[jbn] at x;have Q:=Y7 (by rw[<- e];exact H);have o:=KU a s post [p];rw[<- e] at o;have W:(S.set j (.lst ((d++(bw a [p]).1).map (CQ A)))).length=S.length:=jaF;have R:j<S.length:=Jz B;refine⟨trivial,?_⟩;dsimp only[A6];refine WE ?_;rw[jaQ,jab,W];refine Yw (.inr ⟨r,M,A4⟩) W λG hG=>bV (λw=>T.tup (w.map (ja A))) (λc Z f=>∃w,Z=[some (D.ob i),some (.tup (p.map (ja A))),some (.tup (l.map (bA A))),some (.ob (S.length+r)),some (.t (bA A s)),some (.ob (S.length+b.length)),w]/\f=S.set j (.lst ((d++(bw a [p]).1++(pW s c).1).map (CQ A)))++(b++[O.lst ((pW s c).2.map λw=>.tup (w.map (ja A)))])/\d.length+(bw a [p]).1.length+(pW s c).1.length<=100) ⟨_,M,?_,?_⟩ ?_ ?_
  .show _=S.set j (.lst ((d++(bw a [p]).1++[]).map (CQ A)))++_;rw[jaw];rfl
  .show _+0<=100;lia
  .rintro c q1 qr Z f Ny e2 ⟨w,rfl,rfl,hc2⟩ GZ;have hq1:=OU q1 (by rw[e2];simp);have L:=OY s c q1 qr;rw[<- e2] at L;have F:=OZ s (c++[q1]);have hz2:(c++[q1]).length*z6 s<=16:=by
    have e3:=lK a [p];rw[e2] at e3;simp at e3;have:(c++[q1]).length<=iV a:=by simp;lia
    exact jai (jaC _ this) Q
   rw[yG,jab] at F;refine⟨hG _ _ jaF,⟨M,_,eZ (Ov jaF)⟩,i8 (lE hg B.2),i,j,pg,d++(bw a [p]).1++(pW s c).1,q1,s,N,M,(B.put _).up,by rw[jab,jab];lia,by lia,gs,V,X,C,trivial,λn=>?_,λn=>hx ?_⟩
   .rw[jcz _ _ (by rw[jaF];exact R),jat];refine⟨_,_,Ov jaF,M,eF (by rw[jac,jac];lia),?_⟩;rw[SS jaF];refine GZ _ _ ⟨_,M,?_,?_⟩
    .rw[yG];simp only[jaj,jaQ]
    .rw[yG,jab];rw[jab,jab] at n;lia
   .rw[jab,jab] at n;lia
  .rintro Z f ⟨w,rfl,rfl,hc2⟩;refine⟨hG _ _ jaF,hN _ _ ⟨b.length,_,_,_,b++[O.lst ((pW s (bw a [p]).2).2.map λw=>.tup (w.map (ja A)))],M,?_,?_,?_⟩⟩
   .rw[oB,jaQ]
   .rw[oB];exact CB
   .rw[oB,jab];lia
 .rintro Z f ⟨r,y,z,w,b,rfl,rfl,A4,Vo⟩;have h:=h Vo;refine⟨trivial,?_⟩;cases own with
  |true=>
   have h:kk (.ob (S.set j (.lst ((d++(bw l [p]).1).map (CQ A)))).length) _:=h;rw[jaF] at h;exact VI (CW Y) jaF A4 trivial h
  |false=>exact VH (.inr ⟨r,M,A4⟩) jaF (CW Y) h
abbrev AO:Stmt:=top 54
def GN(J:Fx K mg A)(L:qJ P w K mg base A.ay k "go_repeat" ["book","path","step"] (UI A q))(G:qJ P w K mg base A.ay k "go_choose" ["book","path","step"] (JT A (q+1) (λs=>kd s=7))):JH P w K mg base A.ay k AO ["book","path","step"] (JT A (q+1) (λ_=>True)):=by
 refine Pp (N:=["book","path","step"]) bO (rfl:_=[_,_,_,_,_]) (λg o T=>(qs (aJ (fq (bZ (jy (c:=.ref A.bg) trivial M) (by rfl) J.aW ja6 (qa q_r (aP (fY (bC (v:=.ref A.bg) rfl J.iR.g M)))))) (aG (ai (fG G fZ o rfl aj))) az) (qs (aJ (fq (bZ (jy (c:=.ref A.bx) trivial M) (by rfl) J.aW ja6 (qa q_r (aP (fY (bC (v:=.ref A.bx) rfl J.gR.g M)))))) (aG (ai (bG (aP (fG L fZ o rfl aj))))) az) (qs (aJ (fq (bZ (jy (c:=.ref A.gF) trivial M) (by rfl) J.aW ja6 (qa q_r (aP (fY (bC (v:=.ref A.gF) rfl J.PY.g M)))))) BJ az) (qs (aJ (fq (bZ (jy (c:=.ref A.bQ) trivial M) (by rfl) J.aW ja6 (qa q_r (aP (fY (bC (v:=.ref A.bQ) rfl J.jz.g M)))))) (aG (ai (bG (aP (fG Dz fZ o rfl aj))))) az) (aG (ai (bG (aP (fG Gf fZ o rfl aj)))))))))) λg Q S O R hd e h=>?_;obtain⟨i,j,n,m,p,s,N,rfl,t,f,C,g,D,z,y,_,h,d⟩:=h;have hk:=pV s;refine⟨M,_,decide (kd s=7),Av A _ s,J.kk _ 7 hk (by decide),_,M,?_⟩;by_cases u:kd s=7
 .rw[jaf (jaB u)];exact⟨e,i,j,n,m,p,s,N,M,t,f,C,g,D,z,y,u,λl=>jw (h l),d⟩
 rw[jae (by rw[jau u];decide)];refine⟨M,_,decide (kd s=8),Av A _ s,J.kk _ 8 hk (by decide),_,M,?_⟩;by_cases r:kd s=8
 .rw[jaf (jaB r)];cases s with
  |rp a c F E H=>
   unfold AW at y;have x:=z;unfold ah.dp at x;exact⟨e,i,j,n,m,p,a,c,F,E,H,N,M,t,f,C,g,D,by lia,y,λl=>jw (h l),d⟩
  |_=>cases r
 rw[jae (by rw[jau r];decide)];have I:kd s≠6:=by cases s<;>simp[kd]
 have B:kd s<6:=by cases s<;>first | (exact absurd rfl u) | (exact absurd rfl r) | (simp[kd])
 rw[KW B] at h d;refine⟨M,_,false,Av A _ s,iW J.kk hk (by decide) I,_,M,?_⟩;rw[jae (by decide)];refine⟨M,_,decide (kd s=1),Av A _ s,J.kk _ 1 hk (by decide),_,M,?_⟩;by_cases b:kd s=1
 .rw[jaf (jaB b)];exact⟨e,i,j,n,m,p,s,N,M,t,f,by lia,g,b,λl=>jw (h l),d⟩
 .rw[jae (by rw[jau b];decide)];exact⟨e,i,j,n,m,p,s,N,M,t,f,by lia,g,⟨b,B⟩,λl=>jw (h l),d⟩
abbrev uI:Stmt:=top 59
def Ce(J:Fx K mg A)(B:qJ P w K mg base A.ay k "go_steps" ["book","path","steps"] (wQ A q)):JH P w K mg base A.ay k uI ["book","path","step"] (JT A (q+1) (λs=>kd s=7)):=by
 refine Pp (N:=["book","path","step","paths"]) bO (rfl:_=[_,_,_]) (λg b O=>(qs (ak (i:=3) O (fG B fZ b rfl (qa q_r (qa (aX aL q_r (aR (aP (aa nX b rfl aj)))) aj)))) (qs (fO (uU q_r (aP (fG B fZ b rfl (qa q_r (qa (aX aL q_r (aR (aP (aa nX b rfl (aP (aH q_r ig b)))))) aj)))))) (aG (ai q_r))))) λg W S U I hd x h=>?_;obtain⟨i,j,z,m,p,s,N,rfl,f,D,V,g,y,C,d,hk,h,n⟩:=h;cases s with
 |ch a c t e=>
  unfold bP at g;obtain⟨v,L,G,lt,le⟩:=g;unfold ah.dp at C;unfold AW at d;rw[jJ] at h n;have E:mx (q+1)=26+2*mx q:=rfl;have X:=jaC (mx q) lt;have Y:=jaC (mx q) le;have u:=Jz f;have r:=lK t [p++[.hd c]];have o:=lK e [p++[.hd c.iZ]];have T:=d.1.1;have R:=d.2.1;simp at r o;unfold bA;obtain⟨H,l2,F,Q⟩:=CD A S c;refine⟨c,M,dI (by simp;lia),x,i,j,z,m,p++[.hd c],t,N,true,by rw[dN,jaj];rfl,f,D,by simp;lia,L,y,by lia,d.1,by lia,λl1=>?_,λl1=>n (by rw[jab];lia)⟩;show A6 3 _ _ _ _;rw[jaF];have l:=f.put (m++(bw t [p++[.hd c]]).1);refine⟨⟨M,_,eZ (bD (q:=0) jaF)⟩,qU c,H,l2,dh c,Yz F,Q,c,M,M,v.dep,v.sg,c.iZ,M,dI (by simp;lia),i8 (lE x f.2),i,j,z,m++(bw t [p++[.hd c]]).1,p++[.hd c.iZ],e,N,false,by rw[dN,jaj];rfl,l.up,by rw[jab];lia,by simp;lia,G,y,by lia,d.2,by lia,λl2=>?_,λl2=>n (by rw[jab] at l2 ⊢;lia)⟩;rw[jcz _ _ (by rw[jaF];exact u),jat];refine⟨_,_,bD (q:=0) jaF,M,eF (by rw[jac,jac];lia),?_⟩;rw[M1 jaF];have h:=h (by rw[jab] at l2 ⊢;lia);rw[jaQ];refine VH (.inr ⟨0,M,M⟩) jaF (CW I) ?_;rw[<- jaj];exact h
 |_=>cases hk
abbrev uG:Stmt:=top 60
def Cb(J:Fx K mg A)(hq5:q<=4)(dU:Dn P w K mg base k "steps_within" ["steps"] (cu K (mV A 5)))(Ge:qJ P w K mg base A.ay k "go_round" ["book","path","step"] (Ib A q)):JH P w K mg base A.ay k uG ["book","path","step"] (UI A q):=by
 refine Pp (N:=["book","path","step","thing"]) bO (rfl:_=[_,_,_,_,_]) (λg d G=>(qs (ak (i:=1) G (iE q_r kT fZ d aj)) (qs (bf jbQ rfl (qi (aa tY d rfl aj)) (qg (i:=3) G) (aG (ak (i:=1) G (aX aL q_r (aa gj d rfl aj))))) (qs (ak (i:=1) G (aX aL q_r (aa zg d rfl aj))) (qs (aJ (fq (bZ (a2R M) (by rfl) J.a2V boot_any (aP (ck (dS ["each"] ["book"] [0] rfl (by symm) (by symm) rfl (by exact⟨M,trivial⟩) (by rfl) rfl (by rfl)) rfl (qi (aa dU d rfl (aP (bG aj)))) (λ_ _ _ _=>(qx (i:=0) zX)) (λ_ _ _ _=>bJ) (λ_ _ _ _=>(aa Ht d rfl aj)))))) (aG (fO (fG Ge fZ d rfl (qa q_r (qa (aX aL q_r (aR (aP (aa nX d rfl aj)))) aj))))) az) (aG (ai (aX aL q_r (aR (aP (aa nX d rfl (aP (aH q_r ig d))))))))))))) λg ds S V hc hd hg h=>?_;obtain⟨i,j,R,B,p,a,c,hs,f,b,N,rfl,C,h1,h2,g,F,hq,ho,h,m⟩:=h;rw[D9] at h m;have gg:=g;unfold bP at g;obtain⟨E,lh,gh,gf,I,lb,ga⟩:=g;have hmx:mx (q+1)=26+2*mx q:=rfl;have hlt:=Jz C;have e1:=bu "first" p hs;have e2:=dm "first" p hs;have hw:=(iC I F).1;have hr1:=fX (dY b);have hrp:=rH (p:=p) (hs:=hs) I F lh;rw[gZ];refine⟨_,_,i6 C.1,by symm,hg,i,j,R,B,p,"first",hs,_,M,.inl M,C,h1,by lia,λl1=>?_,λl1=>m (by rw[jab];lia)⟩;have U:B.length+(aq "first" p hs).1.length<=100:=by lia
 have v:=C.put (B++(aq "first" p hs).1);refine⟨b,N,M,I,F,by lia,by lia,gC (bV T.str (λH Z o=>∃y,Z=[some (D.ob i),some (.tup (((aq "first" p hs).2++(H.map aQ).flatten).map (ja A))),some (.t (bA A (.rp a c hs f b))),y]/\o=S.set j (.lst ((B++(aq "first" p hs).1).map (CQ A)))) ⟨_,by rw[gZ];simp;rfl,M⟩ ?_ ?_)⟩
 .rintro H s post Z o Nx e ⟨y,rfl,rfl⟩ hN;have hl1:=fX H;have hl2:=fN s;have hl3:H.length<=8:=by rw[e] at hw;simp at hw;lia
  refine⟨trivial,s,M,dI (by simp only[jac,jab];lia),hN _ _ ⟨some (.t (.str s)),?_,M⟩⟩;simp
 .rintro Z o ⟨y,rfl,rfl⟩;refine⟨trivial,?_⟩;rw[gZ];have n:cU N [ah.rp a c hs f b]:=fk λu Q=>by rw[jag.mp Q];exact gg
  have r:jv [ah.rp a c hs f b]<=5:=qv λu Q=>by rw[jag.mp Q];unfold ah.dp;lia
  have hwl:=kR n r;have hwk:[ah.rp a c hs f b].length*wk 5<=121:=by show 1*wk 5<=121;decide
  have el:jH p hs b=(aq "first" p hs).2++((dY b).map aQ).flatten++hs.map λq=>.hd q.2:=rfl;obtain⟨X,l2,W,i2⟩:=CD A S c;refine⟨hs,M,by lia,dI (by simp only[jac,jab];lia),?_⟩;refine⟨_,[.rp a c hs f b],N,M,by rw[jas,gZ];rfl,n,r,by decide,(show 1<=6 by decide),gC (dR (bA A) (λs=>T.bl (jk s)) trivial (eF (by lia)) (λx m k' hk=>oe (i6 v.1) ⟨R,x,N,M,jZ n x m,_,M,hk⟩) ⟨(gT [ah.rp a c hs f b]).map jk,by rw[jaM];rfl,_,M,?_⟩)⟩;have l:∀o,(V (.tup ((jH p hs b++[bN.hd c.iZ]).map (ja A))) o)->closes S.length (.tup ((((aq "first" p hs).2++((dY b).map aQ).flatten).map (ja A)++(hs.map λq=>bN.hd q.2).map (ja A))++[ja A (.hd c.iZ)])) o V:=λo h=>jw (by rw[el] at h;simpa using h);by_cases L:((gT [ah.rp a c hs f b]).map jk).any id=true
  .rw[jaf L];refine⟨c,M,dI (by simp only[jac,jab,jak,jaI];lia),lE hg C.2,i,j,R,B++(aq "first" p hs).1,jH p hs b++[.hd c],a,c,hs,f,b,N,by rw[gZ,el];simp,v,by rw[jab];lia,by simp;lia,gg,F,hq,ho,λO=>?_,λO=>m (by rw[jab] at O ⊢;lia)⟩;rw[jat];refine⟨qU c,X,l2,dh c,Yz W,i2,c,M,M,E.dep,E.sg,c.iZ,M,dI (by simp only[jac,jab,jak,jaI];lia),l _ ?_⟩;have h:=h (by rw[jab] at O ⊢;lia);rw[<- jaQ] at h;exact h
  .rw[jae L];have z:(jJ (.rp a c hs f b) p).1=[]:=Of _ (λx m=>by
    cases e:jk x with
    |false=>rfl
    |true=>exact absurd (jbS.mpr ⟨true,jaq.mpr ⟨x,by rw[gT,gT,jaw];exact m,e⟩,M⟩) L) p
   rw[D9] at z;obtain⟨n1,Y⟩:=List.append_eq_nil_iff.mp z;refine⟨qU c,X,l2,dh c,Yz W,i2,c,M,M,E.dep,E.sg,c.iZ,M,dI (by simp only[jac,jab,jak,jaI];lia),l _ ?_⟩;have h:=h (by rw[Y,jaw];exact U);rw[Y,jaw] at h;exact h
abbrev w9:Stmt:=top 61
def Er(J:Fx K mg A)(gY:qJ P w K mg base A.ay k "go_steps" ["book","path","steps"] (wQ A q)):JH P w K mg base A.ay k w9 ["book","path","step"] (Ib A q):=by
 refine Pp (N:=["book","path","step","falls","at","total","begun","each","behind"]) bO (rfl:_=[_,_,_]) (λg r u=>(qs (ak (i:=3) u (bG cG)) (qs (aJ (aD lC q_r nA (aA _)) (qs (Gy q_r (ia (n:=2) rfl (sP (qg (i:=4) u) (sP (qg (i:=5) u) fF)))) (qs (ak (i:=6) u (aX aL aT (iL VN (by rfl) J.P5 boot_str aj))) (qs (ak (i:=1) u (aX aL (iE q_r Au fZ r (qa q_r (qa aT (qa q_r (aP (aa iH r rfl aj)))))) (aR (aP (aa ze r rfl aj))))) (aG (ak (i:=3) u (bG (aP (aR (qa q_r (aP (aa iA r rfl (qa q_r (aP (j8 (aa nS r rfl aj) GV r (aP (fu rO r rfl aj)))))))))))))))) az) (aG (bf jbQ rfl (qi (fG gY fZ r rfl aj)) (qg (i:=7) u) (qs (ak (i:=8) u (iE q_r kT fZ r aj)) (aG (fO (iE q_r kT fZ r aj))))))))) λg ds S kk hc hd F h=>?_;obtain⟨i,j,G,o,p,a,c,d,b,s,N,rfl,l,h1,h2,g,gG,hq,ho,h,x⟩:=h;have gg:=g;unfold bP at g;obtain⟨gc,lh,gh,gf,Y,lb,ga⟩:=g;have hlt:=Jz l;have hb1:=zk a b p;have hb2:=zj a b p;have hfl:=wj a b;rw[gZ];refine oV rfl ?_;refine WD (λδ1 S1=>o.length+(iI a b p).1.length<=100/\∃W Q O I R,δ1=[some (D.ob i),some (.tup ((iI a b p).2.map (ja A))),some (.t (bA A (.rp a c d b s))),some (.lst ((KZ a b).map (atT A))),W,Q,O,I,R]/\S1=S.set j (.lst ((o++(iI a b p).1).map (CQ A)))) (λNn E=>?_) ?_
 .cases b with
  |none=>
   refine⟨false,M,E _ _ ⟨by simpa[iI] using h1,none,none,none,none,none,?_,?_⟩⟩
   .rw[gZ];rfl
   .simp only[iI];rw[jaw,set_same l.2]
  |some w=>
   refine⟨true,M,?_⟩;have hw:=(gf w M).few;obtain⟨g1,g2⟩:=Mi ga;rw[jaf rfl];refine⟨_,M,M,_,_,M,_,_,M,M,g1,eF g2,?_⟩;refine⟨_,_,i6 l.1,by symm,w.2,M,F,i,j,G,o,p,"bound",w.1,CI w.2,M,l,h1,by lia,λl1=>?_,λl1=>x (by unfold Rv iI;rw[jab];simp;lia)⟩;refine⟨FU a,w.2,M,dI (by simp;lia),FU a,M,0,_,_,by decide,M,by symm,_,_,[],1,M,ao,M,by simp,made ⟨on (FU a),([],1),M,by show 1+0<64;decide,w.2,(on (FU a)).less ([],1),M,E _ _ ⟨by simp[iI];lia,some (.int w.1),some (.t (fD A w.2)),some (.str (FU a)),none,none,?_,?_⟩⟩⟩
   .rw[gZ];simp only[iI,KZ,jaj];rfl
   .rfl
 .rintro δ1 S1 ⟨hl1,W,Q,O,I,R,rfl,rfl⟩;have H:=l.put (o++(iI a b p).1);rw[gZ];unfold Rv at h x;have hmul:=jaC (mx q) lb;refine⟨lE F l.2,i,j,G,o++(iI a b p).1,(iI a b p).2,s,N,false,M,H,by rw[jab];lia,by lia,Y,gG,hq,ho,by lia,λl2=>gC ?_,λl2=>x (by rw[jab] at l2 ⊢;rw[jab];lia)⟩;rw[jat];have V:=iN (ps:=[(iI a b p).2]) (m:=(iI a b p).2.length) Y gG hq (by simp);have hB3:=l.put (o++(iI a b p).1++(bw s [(iI a b p).2]).1);rw[jab] at l2;refine bV (λw=>T.tup (w.map (ja A))) (λv Z X=>∃y z,Z=[some (D.ob i),some (.tup ((iI a b p).2.map (ja A))),some (.t (bA A (.rp a c d b s))),some (.lst ((KZ a b).map (atT A))),W,Q,O,y,z]/\X=S.set j (.lst ((o++(iI a b p).1++(bw s [(iI a b p).2]).1++(v.map (fK a d b)).flatten).map (CQ A)))/\o.length+(iI a b p).1.length+(bw s [(iI a b p).2]).1.length+((v.map (fK a d b)).flatten).length<=100) ⟨I,R,by rw[gZ],?_,?_⟩ ?_ ?_
  .simp
  .simpa using l2
  .rintro v w1 er Z X Ny e ⟨y,z,rfl,rfl,hc1⟩ E;have hw1:=V w1 (by rw[e];simp);have el:=K0 a d b w1;have ea:=bu "again" w1 d;have ea2:=dm "again" w1 d;have ef:=bu "falls" (aq "again" w1 d).2 (KZ a b);have YV:(((bw s [(iI a b p).2]).2.map (fK a d b)).flatten).length=((v.map (fK a d b)).flatten).length+((fK a d b w1).length+((er.map (fK a d b)).flatten).length):=by rw[e];simp
   have B:=l.put (o++(iI a b p).1++(bw s [(iI a b p).2]).1++(v.map (fK a d b)).flatten);rw[gZ];refine⟨trivial,?_⟩
   try dsimp only[A6]
   refine⟨_,_,i6 B.1,by symm,lE F l.2,i,j,G,_,w1,"again",d,_,M,.inl M,B,by simp only[jab];lia,by lia,λU=>?_,λU=>x (by simp only[jab] at U ⊢;lia)⟩;rw[jat];have C:=l.put (o++(iI a b p).1++(bw s [(iI a b p).2]).1++(v.map (fK a d b)).flatten++(aq "again" w1 d).1);simp only[jab] at U;refine⟨_,_,i6 C.1,by symm,lE F l.2,i,j,G,_,(aq "again" w1 d).2,"falls",KZ a b,_,M,.inr M,C,by simp only[jab];lia,by lia,λL=>?_,λL=>x (by simp only[jab] at L ⊢;lia)⟩;rw[jat];simp only[jab] at L;refine E _ _ ⟨some (.tup (w1.map (ja A))),some (.tup ((aq "again" w1 d).2.map (ja A))),by rw[gZ];rfl,?_,?_⟩
   .simp only[jaj (f:=fK a d b),ja5,jas (f:=fK a d b),jaX,jaW,jbG,jaw,fK,jaQ]
   .simp only[jaj,ja5,jas,jaX,jaW,jbG,jaw,jab];lia
  .rintro Z X ⟨y,z,rfl,rfl,hc1⟩;refine⟨trivial,jw ?_⟩;have h:=h (by simp only[jab];lia);simp only[jaQ] at h ⊢;exact h
abbrev IA:Stmt:=top 44
def N5(J:Fx K mg A):JH P w K mg base A.ay k IA ["program","name"] (Ip A):=by
 refine Pp (N:=["program","name","helper","book","path"]) bO (rfl:_=[_,_,_,_,_]) (λg b r=>(qs (ak (i:=2) r (j8 q_r SO b aj)) (qs (fO (fG j4 fZ b rfl aj)) (qs (ak (i:=3) r (a03 Yp b rfl aj)) (qs (bf jbQ rfl (qi (fG gY fZ b rfl (qa q_r (qa (aa vK b rfl aj) aj)))) (qg (i:=4) r) (aG (fO (iE q_r kT fZ b aj)))) (aG (ai q_r))))))) λg Q S I B hd f h=>?_;obtain⟨x,a,N,rfl,E,ok,h,p⟩:=h;obtain⟨L,R,W,H⟩:=ok.pl;have F:=tF ok;have G:=ok.sl;have v:mx 4=390:=by decide
 have s:=jaC (mx 4) ok.sl;have z:0<S.length:=(jar.mp f).1;refine⟨0,_,_,by decide,M,by symm,x.name,x,a,M,E,f,x.steps,N,M,ok.st,ok.dp,ok.sl,λd=>?_,λu=>p λh=>u h.1⟩;refine⟨S.length,Lo A a,M,ao,M,?_⟩;rw[fm,jab,jaQ];have l:Bk A (S++[O.ins A.iS ["program","found"] [.t (Lo A a),.ob (S.length+1)],O.lst []]) S.length (S.length+1) (Lo A a) []:=⟨dD (j:=0),dD (j:=1)⟩
 have C:=iN (ps:=[cN x]) (m:=(cN x).length) ok.st ok.nl ok.dp (by simp);refine⟨x,N,M,ok,i8 f,S.length,S.length+1,Lo A a,[],cN x,x.steps,N,false,M,l,by simp,by lia,ok.st,ok.nl,ok.dp,d,ok.sl,λl1=>gC (bV (λw=>T.tup (w.map (ja A))) (λn Z q=>∃y,Z=[some (D.t (Lo A a)),some (D.str x.name),some (D.t (CG A x)),some (D.ob S.length),y]/\q=(S++[O.ins A.iS ["program","found"] [.t (Lo A a),.ob (S.length+1)],O.lst []]).set (S.length+1) (.lst (((bw x.steps [cN x]).1++(n.map λw=>(aq "gives" w x.gives).1).flatten).map (CQ A)))/\(bw x.steps [cN x]).1.length+((n.map λw=>(aq "gives" w x.gives).1).flatten).length<=100) ⟨_,M,?_,?_⟩ ?_ ?_),λl1=>p λh=>?_⟩
 .simp
 .simpa using l1
 .rintro n w1 gr Z q Ny e ⟨y,rfl,rfl,hc1⟩ hN;have U:=C w1 (by rw[e];simp);have c:=l.put ((bw x.steps [cN x]).1++(n.map λw=>(aq "gives" w x.gives).1).flatten);have V:=bu "gives" w1 x.gives;refine⟨trivial,?_⟩
  try dsimp only[A6]
  refine⟨_,_,i6 c.1,by symm,lE (i8 f) l.2,S.length,S.length+1,Lo A a,_,w1,"gives",x.gives,_,M,.inl M,c,by rw[jab];lia,by lia,λl2=>hN _ _ ⟨_,M,?_,?_⟩,λl2=>p λh=>?_⟩
  .rw[jat];simp
  .rw[jab] at l2;simp only[jaj,ja5,jab,jas,jaX,jaW,jbG,jaw];lia
  .have:=h.2;unfold gn at this;rw[e] at this;rw[jab] at l2;simp only[jaj,ja5,jab,jas,jaW] at this;lia
 .rintro Z q ⟨y,rfl,rfl,hc1⟩;refine⟨trivial,?_⟩;have o:=l.put ((bw x.steps [cN x]).1++((bw x.steps [cN x]).2.map λw=>(aq "gives" w x.gives).1).flatten);refine oe (i6 o.1) ?_;rw[fc];exact a6a (j:=1) B rfl trivial (h ⟨d,by unfold gn;rw[jab];exact hc1⟩)
 .have:=h.2;unfold gn at this;rw[jab] at this;simp at l1;lia
abbrev AN:Stmt:=top 70
def GK(J:Fx K mg A):Ky P w K mg base k AN ["_law_cell","_law_k"] UM:=by
 refine dk (N:=["_law_cell","_law_k","_law_mix"]) bO (rfl:_=[_,_]) (λd a=>(qs (ak (i:=2) a q_r) (aG (ai q_r)))) λg S l m hd h=>?_;obtain⟨c,j,rfl,h⟩:=h;refine⟨.inl ⟨by decide,by decide⟩,.inr ⟨by decide,by decide⟩,by decide,?_⟩;have e:=Int.emod_nonneg ((c+7919*j+11)*48271) (b:=2147483647) (by decide);have f:=Int.emod_lt_of_pos ((c+7919*j+11)*48271) (b:=2147483647) (by decide);exact⟨.inl ⟨by lia,by lia⟩,.inl ⟨by decide,by decide⟩,by decide,jw (h _ (Int.emod_nonneg _ (by decide)) (Int.emod_lt_of_pos _ (by decide)))⟩
abbrev uB:Stmt:=top 69
def BX(J:Fx K mg A):Ky P w K mg base k uB ["_law_script","_law_k"] MY:=by
 refine dk (N:=["_law_script","_law_k","_law_cell"]) bO (rfl:_=[_,_,_]) (λb a=>(qs (ak (i:=2) a aF) (qs (aJ (aD XF q_r (ic J.kK aj) (aA _)) (aG (ak (i:=2) a q_r)) az) (aG (ai (aa ve b rfl aj)))))) λd S e f hd h=>?_;obtain⟨l,j,rfl,h⟩:=h;refine(?_);by_cases c:j<l.length
 .exact⟨true,jao D.bl (jaB (by rw[jac];lia)),oe (wB (by rw[jaV,jaT c];rfl)) ⟨_,_,M,λr _ _=>jw (h r)⟩⟩
 .exact⟨false,jao D.bl (jau (by rw[jac];lia)),_,_,M,λr _ _=>jw (h r)⟩
abbrev DZ:Stmt:=top 71
def Kg(J:Fx K mg A):Ky P w K mg base k DZ ["_law_draw","_law_size"] Rm:=by
 refine dk (N:=["_law_draw","_law_size"]) bO (rfl:_=[_,_]) (λg j=>(qs (RI q_r aF aF YA) (aG (ai (aX U8 (aX N9 (aa ve g rfl aj) aF) q_r))))) λo S l p i h=>?_;obtain⟨d,n,m,rfl,hd,b,h⟩:=h;have a:=hd.lt;obtain⟨c,f⟩:=hd;refine⟨d,1,_,_,M,M,f,M,1,_,M,f,by show 1<2;decide,oe (jh (vI a)) (oe rfl (oe (jh (vI a)) ⟨_,_,M,λr _ _=>⟨⟨by decide,by decide⟩,b,?_⟩⟩))⟩;have e:((r / 7 % n).toNat:Int)=r / 7 % n:=Int.toNat_of_nonneg (Int.emod_nonneg _ (by lia));rw[<- e];exact jw (h _ _ _ (by rw[e];exact Int.emod_lt_of_pos _ b) (by show(m+1).natAbs<=m.natAbs+1;lia))
abbrev AM:Stmt:=top 72
def GJ(J:Fx K mg A):Ky P w K mg base k AM ["_law_draw","_law_many"] UL:=by
 refine dk (N:=["_law_draw","_law_many","_law_some","_law_base","_law_at","_law_shift"]) bO (rfl:_=[_,_,_,_,_]) (λj l=>(qs (ak (i:=2) l aT) (qs (ak (i:=3) l (WV aT (aP (ck (dS ["_law_k"] ["_law_some","_law_draw"] [2,0] rfl (by symm) (by symm) (by with_unfolding_all rfl) (by exact⟨M,M,trivial⟩) (by rfl) rfl (by rfl)) rfl (sZ rfl J.oK (aP (aa au j rfl aj))) (λ_ _ _ _=>(qx (i:=0) (show List.Nodup (["_law_k","_law_some","_law_draw"]:jcI) by symm))) (λ_ _ _ _=>bJ) (λ_ _ _ _=>(s8 q_r (aa au j rfl aj))))))) (qs (ak (i:=4) l (aa au j rfl (qa q_r (aP (aX aL (ic J.kK aj) aF))))) (qs (ak (i:=5) l (aa au j rfl aj)) (aG (ai (ck (dS ["_law_k"] ["_law_base","_law_some","_law_at","_law_shift"] [3,2,4,5] rfl (by symm) (by symm) (by with_unfolding_all rfl) (by exact⟨M,M,M,M,trivial⟩) (by rfl) rfl (by rfl)) rfl (sZ rfl J.oK aj) (λ_ _ _ _=>(qx (i:=0) (show List.Nodup (["_law_k","_law_base","_law_some","_law_at","_law_shift"]:jcI) by symm))) (λ_ _ _ _=>bJ) (λ_ _ _ _=>(aX aL (aX aL (aX aL (qh false q_r lg (bT q_r)) q_r) (qh false q_r (bT q_r) lg)) aT)))))))))) λds S kk C Q h=>?_;obtain⟨d,m0,rfl,hd,h⟩:=h;refine⟨M,d,6,_,M,hd,by first | decide | lia,λD VF Z L R=>?_⟩;refine⟨(D:Int),M,by lia,by lia,CV (n:=D) (e:=1) hd (λy=>∃x,y=T.str x/\Chr x) (by lia) (λi c m H U t hk=>?_) λG c m u p t=>?_⟩
 .refine FY hd.lt (by first | decide | lia) λf F XZ s X=>?_;have v:f<26:=by lia
  exact⟨JD,_,P8 v,_,M,hk _ _ _ (by lia) ⟨_,M,_,M,by lia⟩⟩
 obtain⟨g,rfl,b,a⟩:=ex_map p;rw[u] at b;refine⟨g,M,?_,?_⟩
 .rw[DG g (λx q=>(a x q).len)];show _+_*0<=_;lia
 have r:=Li a;have W:=OM g λx q=>(a x q).len;generalize Txt.join (Str.ofString "") g=B at r W;refine⟨eF (by lia),FY hd.lt (by lia) λf c2 m2 s X=>?_⟩;have E:f<=B.length:=by lia
 refine FY hd.lt (by first | decide | lia) λr3 Lc Kw vH Y=>?_;refine⟨8,M,by lia,by lia,CV (n:=8) (e:=0) hd (λy=>∃x,y=T.str x/\qB x) (by lia) (λi c m H U t hk=>?_) λG c m u p t=>?_⟩
 .have l1:=M0 B none (some (f:Int));have l2:=M0 B (some (f:Int)) none;have V:=Ub E r;have I:=Lj E r;have o:("z":Str).length=1:=by symm
  refine⟨eF (by lia),.inl ⟨by decide,by decide⟩,(by show(0:Int)<26;decide),JD,_,Uc _,eF (by rw[rY];lia),eF (by lia),eF (by rw[jT,rY];lia),eF (by rw[jT,jT,rY,o];lia),_,M,hk _ _ _ (by lia) ⟨_,M,?_⟩⟩;refine SW (zm (zm (zm V (FF (by lia))) I) (λc C=>?_)) ?_ ?_
  .have:c∈[122]:=C;rw[jag.mp this];decide
  .rw[jT,o];lia
  .rw[jT,jT,jT,rY,o];lia
 obtain⟨O,rfl,b,a⟩:=ex_map p;exact jw (h O c m (by rw[b,u]) a (by lia))
abbrev Iu:Stmt:=top 73
def N1(J:Fx K mg A):Ky P w K mg base k Iu ["_law_draw","_law_things"] (Gu A):=by
 refine dk (N:=["_law_draw","_law_things","_law_pairs_here","_law_k"]) bO (rfl:_=[_,_,_]) (λn L=>(qs (ak (i:=2) L (gI cG)) (qs (bf jaJ rfl (sZ rfl J.oK (aP (aX IW (aa au n rfl aj) (iL PU (by rfl) J.P7 boot_int (aP (xJ (N8 40 (uE n)) q_r (bG cG) (aA _))))))) (qg (i:=3) L) (aG (fO (nD q_r (aP (aR (qa (s8 q_r (aa au n rfl (qa q_r (aP (ic J.kK aj))))) (aP (aX N7 (aa au n rfl aj) aF))))))))) (aG (ai (aa nR n rfl (qa q_r (aP (s8 (bG (qa aF (qa aF (qa (xH aF) (aP (aX N7 (aa au n rfl aj) aF)))))) (aa au n rfl aj)))))))))) λds S kk hc hd0 h=>?_;obtain⟨d,x,N,m0,rfl,hd,B,hn,h⟩:=h;have H:=hd.lt;refine⟨d,3,_,M,hd.up,by first | decide | lia,λI VF Qq hr1 br1=>?_⟩;rw[oF H];refine(Tu (kE (j9 hd B)) ⟨.inr ?_,?_⟩)
 .split<;>exact⟨by decide,by decide⟩
 have hb:∃j:Nat,(I:Int)*(if(xor true (decide (N.map T.str=[])))=true then 1 else 0)=(j:Int)/\j<=2/\(0<j->N≠[]):=by
  cases N with
  |nil=>exact⟨0,by simp,by decide,λh=>absurd h (by decide)⟩
  |cons a r=>exact⟨I,by simp,by lia,λ_ h=>by cases h⟩
 obtain⟨j,ej,Y,C⟩:=hb;refine⟨_,M,?_⟩;rw[ej];refine⟨by lia,by lia,Jj (λi Z G=>∃y c,∃m:Int,∃l:List (Str×Int),Z=[some (D.ob d),some x,some (D.ob (S.length+0)),y]/\G=cX S d c m++[O.lst (l.map pT)]/\m.natAbs<=m0.natAbs+1+2*i/\l.length=i/\∀p∈l,p.1∈N/\(-4<p.2/\p.2<4)) ⟨_,_,_,[],M,M,by lia,M,λ_ h=>absurd h jaY⟩ ?_ ?_⟩
 .rintro i z Z G Nx hz ⟨y,c,m,l,rfl,rfl,hm,hl,hp⟩ hN;have Q:=(jar.mp hz).1;rw[jac,jbg] at Q;have Q:i<j:=by lia
  have E:=C (by lia);have hNl:0<N.length:=jcj.mpr E;refine⟨trivial,⟨M,_,eZ (bD aO)⟩,?_⟩;dsimp only[mR,HY,vj,ur,sR,JN,uv];refine oe (a:=some x) rfl (oe (a:=x) rfl (oe (a:=some (D.ob d)) rfl (oe (a:=D.ob d) rfl (oe (a:=some x) rfl (oe (a:=x) rfl ?_)))));refine Yg (kE (j9 hd B)) ?_;refine Oc hd.lt (by rw[jac];lia) λU c2 m2 f VP=>?_;rw[jac] at f;obtain⟨t,F,u⟩:=qA f;refine a16 (kE (j9 hd B)) u (Oc hd.lt (by first | decide | lia) λg o s R W=>?_);refine⟨_,bD aO,By (by rw[jac];lia),?_⟩;have e:(cX S d o s++[O.lst (l.map pT)]).set (S.length+0) (O.lst (l.map pT++[pT (t,(g:Int) - 3)]))=cX S d o s++[O.lst ((l++[(t,(g:Int) - 3)]).map pT)]:=by
   rw[<- aO (S:=S) (d:=d) (c:=o) (m:=s),fc,jaj];rfl
  have e':(cX S d o s++[O.lst (l.map pT)]).set (S.length+0) (O.lst (l.map pT++[.tup [.str t,.int ((g:Int) - 3)]]))=cX S d o s++[O.lst ((l++[(t,(g:Int) - 3)]).map pT)]:=e;rw[e'];refine hN _ _ ⟨_,_,_,_,M,M,by lia,by rw[jab,hl];rfl,λp X=>?_⟩;rcases jan.mp X with q | q
  .exact hp p q
  .rw[jag.mp q];exact⟨F,by show -4<(g:Int) - 3;lia,by show(g:Int) - 3<4;lia⟩
 .rintro Z G ⟨y,c,m,l,rfl,rfl,hm,hl,hp⟩;rw[jac,jbg] at hl hm;refine⟨trivial,Oc hd.lt (by first | decide | lia) λU V XZ f VP=>?_⟩;refine Oc hd.lt (by first | decide | lia) λg o s R W=>?_;obtain⟨v,ev,hv⟩:=four (a:=0) (b:=1) (c:=-1) (e:=(U:Int) - 9) (P:=λv=>-20<v/\v<20) R ⟨by decide,by decide⟩ ⟨by decide,by decide⟩ ⟨by decide,by decide⟩ ⟨by lia,by lia⟩;refine(oe ev ⟨_,l,v,M,mD (eZ (bD aO)),by lia,Fi hc (h _ _ _ ⟨?_,Oe λp h=>(hp p h).1,⟨by show -(2 ^ 63)<v;lia,by show v<2 ^ 63;lia⟩,⟩ (by lia))⟩);have:=nH l;show(norm l).length<=2;lia
abbrev oZ:Stmt:=top 74
def xU(J:Fx K mg A)(R:Dn P w K mg base k "_law_condition" ["_law_draw","_law_things","_law_deep"] (cu K (DQ A n))):Ky P w K mg base k oZ ["_law_draw","_law_things","_law_deep"] (qS A n):=by
 refine dk (N:=["_law_draw","_law_things","_law_deep","_law_sign","_law_one_here","_law_kind"]) bO (rfl:_=[_,_,_,_,_,_,_]) (λa G=>(qs (ak (i:=3) G (s8 (WQ (xs:=["<","<=","=","!=",">=",">"]) M) (aa au a rfl aj))) (qs (ak (i:=4) G (fu oA a rfl (qa (aa gE a rfl aj) (qa q_r (aP (aa gE a rfl aj)))))) (qs (ak (i:=5) G (aX aL (aa au a rfl aj) (aX IW aF (iL PU (by rfl) J.P7 boot_int (aP (xJ (dc a) q_r aF (aA _))))))) (qs (aJ (aD (dc a) q_r aF (aA _)) (aG (ai (fu OG a rfl (aP (aa R a rfl aj))))) az) (qs (aJ (aD (dc a) q_r aF (aA _)) (aG (ai (fu rP a rfl (aP (aR (qa q_r (aP (aa R a rfl aj)))))))) az) (qs (aJ (aD (dc a) q_r aF (aA _)) (aG (ai (fu OH a rfl (aP (aR (qa q_r (qa (aa R a rfl aj) aj))))))) az) (aG (ai q_r))))))))) λds S kk hc hd h=>?_;obtain⟨d,x,N,m0,hn2,rfl,dq,t,p,h⟩:=h;refine⟨sz 6,d,6,_,M,dq,by first | decide | lia,λZ VF Qq E br1=>?_⟩;obtain⟨b,Q,z⟩:=qA (N:=["<","<=","=","!=",">=",">"]) (r:=Z) (by simpa using E);refine(oe z (Rn dq.lt (j9 dq t) p λf c m1 B Y=>?_));refine Rn dq.lt (j9 dq t) p λg c m2 F bs2=>?_;refine⟨_,[fD A f,.str b,fD A g],M,M,ao,made (FY dq.lt (by first | decide | lia) λL X H hr2 VP=>?_)⟩;obtain⟨O,I⟩:=Ze B F (show b∈Hw.signs from Q);have y:T.ins A.bX ["one","sign","other"] [fD A f,.str b,fD A g]=dZ A (.cmp f b g):=(Js ..).symm;refine⟨.inl ⟨by decide,by decide⟩,?_⟩;obtain⟨q,U,hq⟩:∃q:Int,(if(xor false (decide (V.int (n:Int)=V.int 0)))=true then(1:Int) else 0)=q/\((n=0/\q=1)\/(n=1/\q=0)):=by
  rw[yE,jb7];by_cases l:n=0
  .exact⟨1,by rw[jaB (by lia)];rfl,.inl ⟨l,M⟩⟩
  .exact⟨0,by rw[jau (by lia)];rfl,.inr ⟨by lia,M⟩⟩
 rw[U];clear U;by_cases l:(L:Int)+8*q=0
 .have hn1:n=1:=by lia
  subst hn1;refine⟨true,jao D.bl (ZO l),cdB dq.lt (by decide) (j9 dq t) p λe c m v s j=>?_⟩;obtain⟨u,o⟩:=s rfl;have j:m.natAbs<=H.natAbs+30:=j;refine⟨_,[dZ A e],M,M,ao,made (jw ?_)⟩;have:T.ins A.cZ ["condition"] [dZ A e]=dZ A (.neg e):=(TQ ..).symm;rw[this];exact h _ _ _ (Zc v u o) (λh=>absurd h (by decide)) (by lia)
 by_cases C:(L:Int)+8*q=1
 .have hn1:n=1:=by lia
  subst hn1;refine⟨false,jao D.bl (Th l),true,jao D.bl (ZO C),cdB dq.lt (by decide) (j9 dq t) p λe c m v s j=>?_⟩;obtain⟨u,o⟩:=s rfl;have j:m.natAbs<=H.natAbs+30:=j;refine⟨_,_,_,M,ao,M,made (jw ?_)⟩;rw[y];have:T.ins A.eX ["conditions"] [.tup [dZ A (.cmp f b g),dZ A e]]=dZ A (.con true [.cmp f b g,e]):=by rw[oG];rfl
  rw[this];exact h _ _ _ (Zd O I v u o) (λh=>absurd h (by decide)) (by lia)
 by_cases W:(L:Int)+8*q=2
 .have hn1:n=1:=by lia
  subst hn1;refine⟨false,jao D.bl (Th l),false,jao D.bl (Th C),true,jao D.bl (ZO W),cdB dq.lt (by decide) (j9 dq t) p λe c m v s j=>?_⟩;obtain⟨u,o⟩:=s rfl;have j:m.natAbs<=H.natAbs+30:=j;refine⟨_,_,_,M,ao,M,made (jw ?_)⟩;rw[y];have:T.ins A.gX ["conditions"] [.tup [dZ A (.cmp f b g),dZ A e,dZ A (.cmp f b g)]]=dZ A (.con false [.cmp f b g,e,.cmp f b g]):=by rw[oG];rfl
  rw[this];exact h _ _ _ (TL O I v u o) (λh=>absurd h (by decide)) (by lia)
 refine⟨false,jao D.bl (Th l),false,jao D.bl (Th C),false,jao D.bl (Th W),jw ?_⟩;rw[y];exact h _ _ _ O (λ_=>I) (by lia)
abbrev AK:Stmt:=top 75
def GH(J:Fx K mg A):Ky P w K mg base k AK ["_law_draw","_law_things"] (wM A):=by
 refine dk (N:=["_law_draw","_law_things"]) bO (rfl:_=[_,_]) (λa z=>(qs (aJ (aD (dc a) (aa au a rfl aj) aF (aA _)) (aG (ai (aa gE a rfl aj))) az) (aG (ai (aa nR a rfl (qa q_r (aP (aa au a rfl aj)))))))) λv S r y j h=>?_;obtain⟨d,x,N,m0,rfl,hd,o,f,h⟩:=h;refine⟨d,2,_,M,hd,by first | decide | lia,λl t q i n=>?_⟩;by_cases u:l=0
 .refine⟨true,IE,d,x,N,_,M,hd.cX,j9 hd o,f,λs c m g bs=>?_⟩;rw[nP];exact jw (h s c m g (by lia))
 .refine⟨false,qH,FY hd.lt (by first | decide | lia) λb e B p C=>?_⟩;refine⟨_,[],(b:Int),M,M,by decide,jw (h _ _ _ ⟨by show 0<=2;decide,λ_ h=>absurd h (by simp[sumOf,norm,Sm.aU,sU]),⟨by show -(2 ^ 63)<(b:Int);lia,by show(b:Int)<2 ^ 63;lia⟩⟩ (by lia))⟩
abbrev D3:Stmt:=top 76
def Kh(J:Fx K mg A):Ky P w K mg base k D3 ["_law_draw","_law_own"] (BE A):=by
 refine dk (N:=["_law_draw","_law_own","_law_names_here","_law_things","_law_makes","_law_uses","_law_at","_law_kind","_law_name","_law_by"]) bO (rfl:_=[_,_,_,_,_,_,_,_,_,_]) (λa o=>(qs (Gy q_r (ia (n:=4) rfl (sP (qg (i:=2) o) (sP (qg (i:=3) o) (sP (qg (i:=4) o) (sP (qg (i:=5) o) fF)))))) (qs (ak (i:=6) o q_r) (qs (ak (i:=7) o (aa au a rfl aj)) (qs (ak (i:=8) o (s8 q_r (aa au a rfl (qa q_r (aP (ic J.kK aj)))))) (qs (aJ (aD XF q_r aF (aA _)) (qs (ak (i:=9) o (aa nR a rfl (qa q_r (aP (s8 (bG (qa aF (qa aF (qa (xH aF) (qa aF (qa aF (qa aF (aP (xH aF))))))))) (aa au a rfl aj)))))) (qs (aJ (aD (dc a) (aa au a rfl aj) aF (aA _)) (aG (ak (i:=9) o (aa gE a rfl aj))) az) (aG (ai (fu OJ a rfl (qa q_r (qa q_r (qa (s8 (bG aj) q_r) (qa (aa gE a rfl aj) aj))))))))) az) (qs (aJ (qw (Eb (aD (dc a) q_r aF (aA _)) (xG (aD (dc a) q_r aF (aA _))))) (aG (ai (fu S9 a rfl (qa q_r (qa q_r (qa (s8 q_r (aa au a rfl (qa q_r (aP (ic J.kK aj))))) (aP (aa nU a rfl aj)))))))) az) (qs (aJ (aD (dc a) q_r aF (aA _)) (aG (ai (fu a10 a rfl (qa q_r (qa (s8 q_r (aa au a rfl (qa q_r (aP (ic J.kK aj))))) (qa (aa nU a rfl aj) (aP (aa gE a rfl aj)))))))) az) (qs (aJ (qw (Gx (aD (dc a) q_r aF (aA _)) (BI (aD (N8 40 (uE a)) q_r (bG cG) (aA _))))) (aG (ai (fu Yn a rfl (qa q_r (qa (s8 q_r (aa au a rfl (qa q_r (aP (ic J.kK aj))))) (aP (aa nU a rfl aj))))))) az) (qs (aJ (aD (dc a) q_r aF (aA _)) (aG (ai (fu I9 a rfl (qa q_r (aP (aa bz a rfl aj)))))) az) (aG (ai (fu a11 a rfl (qa q_r (qa q_r (aP (aa gE a rfl aj))))))))))))))))) λds S Z hc hd h=>?_;obtain⟨d,ns,L,N,y,us,m0,rfl,dq,ok,h⟩:=h;have j:L.length<=100:=by have:=ok.nN;lia
 have hnp:0<ns.length:=jcj.mpr ok.n.1;have hup:0<us.length:=jcj.mpr ok.u.1;obtain⟨c0,e0⟩:=id dq;refine⟨_,M,M,_,_,M,_,_,M,_,_,M,_,_,M,M,oe (jh e0) (?_)⟩;refine⟨d,9,_,M,dq,by first | decide | lia,λB VF Qq hr1 br1=>?_⟩;refine FY dq.lt (by rw[jac];lia) λr2 c2 m2 G VP=>?_;rw[jac] at G;obtain⟨x,X,ex⟩:=qA G;have C:=(ok.nm x X).1;have F:=(ok.nm x X).2;have Y:x.length<=100:=by have:=C.2;lia
 refine(oe ex (?_));have up:∀{s},iT L s->iT N s:=λh=>h.up ok.LN;have fin:∀(s:ah)(c m:Int),kd s<6->bP N s->m.natAbs<=m0.natAbs+200->closes S.length (.t (bA A s)) (cX S d c m) Z:=λs c m hk l I=>jw (h s c m l hk I);by_cases f:(B:Int)<2
 .obtain⟨wd,ewd,hwd⟩:=two (r:=B) f;refine⟨true,jao D.bl (jaB f),FY dq.lt (by first | decide | lia) λH T U g R=>?_⟩;obtain⟨v,ev,hv⟩:=a0K (r:=H) g;refine(oe ev ⟨_,[],v,M,M,by decide,FY dq.lt (by first | decide | lia) λr4 cr4 mr4 hr4 br4=>?_⟩);by_cases h4:r4=0
  .refine⟨true,IE,Rn dq.lt rfl j λb c mb V bsb=>?_⟩;refine(oe ewd (Rn dq.lt rfl j λs c y l q=>?_));exact⟨_,[.int m0,.str x,.str wd,fD A s,fD A b],M,M,ao,made (by rw[<- MA];exact fin (.dv m0 x wd s b) _ _ (by simp[kd]) (by unfold bP;exact⟨⟨C,F⟩,hwd,up l,up V⟩) (by lia))⟩
  .have V:iT N (sumOf [] v):=WA hv;refine⟨false,qH,?_⟩;refine(oe ewd (Rn dq.lt rfl j λs c y l q=>?_));exact⟨_,[.int m0,.str x,.str wd,fD A s,fD A (sumOf [] v)],M,M,ao,made (by rw[<- MA];exact fin (.dv m0 x wd s (sumOf [] v)) _ _ (by simp[kd]) (by unfold bP;exact⟨⟨C,F⟩,hwd,up l,V⟩) (by lia))⟩
 by_cases k2:B=2
 .refine⟨false,jao D.bl (jau f),true,IE,FY dq.lt (by rw[jac];lia) λH T U g R=>?_⟩;rw[jac] at g;obtain⟨r,a,E⟩:=qA g;refine(oe E (plB dq.lt rfl j λp c W Q O=>?_));exact⟨_,[.int m0,.str x,.str r,fD A p],M,M,ao,made (by rw[<- Mz];exact fin (.ft m0 x r p) _ _ (by simp[kd]) (by unfold bP;exact⟨⟨C,F⟩,ok.um r a,up Q⟩) (by lia))⟩
 by_cases k8:B=8
 .refine⟨false,jao D.bl (jau f),false,qH,true,IE,FY dq.lt (by rw[jac];lia) λH T U g R=>?_⟩;rw[jac] at g;obtain⟨r,a,E⟩:=qA g;refine(oe E (plB dq.lt rfl j λp c W Q O=>?_));exact⟨_,[.int m0,.str x,.str r,fD A p],M,M,ao,made (by rw[<- Mz];exact fin (.ft m0 x r p) _ _ (by simp[kd]) (by unfold bP;exact⟨⟨C,F⟩,ok.um r a,up Q⟩) (by lia))⟩
 by_cases k3:B=3
 .refine⟨false,jao D.bl (jau f),false,qH,false,qH,true,IE,FY dq.lt (by rw[jac];lia) λH T U g R=>?_⟩;rw[jac] at g;obtain⟨r,a,E⟩:=qA g;refine(oe E (plB dq.lt rfl j λp c W Q O=>?_));refine Rn dq.lt rfl j λs c y l q=>?_;exact⟨_,[.int m0,.str r,fD A p,fD A s],M,M,ao,made (by rw[<- Ww];exact fin (.pt m0 r p s) _ _ (by simp[kd]) (by unfold bP;exact⟨ok.um r a,up Q,up l⟩) (by lia))⟩
 by_cases k5:B=5
 .refine⟨false,jao D.bl (jau f),false,qH,false,qH,false,qH,false,qH,true,IE,cdB dq.lt (by decide) rfl j λe c me he _ bse=>?_⟩;exact⟨_,[.int m0,dZ A e],M,M,ao,made (by rw[<- MB];exact fin (.cm m0 e) _ _ (by simp[kd]) (by unfold bP;exact he.up ok.LN) (by lia))⟩
 by_cases k4:B=4
 .by_cases I:y=[]
  .refine⟨false,jao D.bl (jau f),false,qH,false,qH,false,qH,true,IE,_,[],M,M,.inr ⟨M,false,jao D.bl (XS I),false,qH,Rn dq.lt rfl j λs c y l q=>?_⟩⟩;exact⟨_,[.int m0,.str x,fD A s],M,M,ao,made (by rw[<- My];exact fin (.lt m0 x s) _ _ (by simp[kd]) (by unfold bP;exact⟨⟨C,F⟩,up l⟩) (by lia))⟩
  .have hmp:0<y.length:=jcj.mpr I;refine⟨false,jao D.bl (jau f),false,qH,false,qH,false,qH,true,IE,_,[],M,M,.inr ⟨M,true,jao D.bl (SH I),FY dq.lt (by rw[jac];lia) λH T U g R=>?_⟩⟩;rw[jac] at g;obtain⟨r,a,E⟩:=qA g;refine(oe E (plB dq.lt rfl j λz c mz hz Jy=>?_));exact⟨_,[.int m0,.str r,fD A z],M,M,ao,made (by rw[<- Wx];exact fin (.mq m0 r z) _ _ (by simp[kd]) (by unfold bP;exact⟨ok.m r a,up hz⟩) (by lia))⟩
 refine⟨false,jao D.bl (jau f),false,qH,false,qH,false,qH,false,qH,false,qH,Rn dq.lt rfl j λs c y l q=>?_⟩;exact⟨_,[.int m0,.str x,fD A s],M,M,ao,made (by rw[<- My];exact fin (.lt m0 x s) _ _ (by simp[kd]) (by unfold bP;exact⟨⟨C,F⟩,up l⟩) (by lia))⟩
abbrev AG:Stmt:=top 77
def xQ(J:Fx K mg A)(E:Dn P w K mg base k "_law_step" ["_law_draw","_law_own","_law_deep","_law_helpers"] (cu K (BD A q))):Ky P w K mg base k AG ["_law_draw","_law_own","_law_many","_law_deep","_law_helpers"] (ku A q):=by
 refine dk (N:=["_law_draw","_law_own","_law_many","_law_deep","_law_helpers"]) bO (rfl:_=[_]) (λD R=>(aG (ai (RM (dS ["_law_k"] ["_law_draw","_law_own","_law_deep","_law_helpers"] [0,1,3,4] rfl (by symm) (by symm) (by with_unfolding_all rfl) (by exact⟨M,M,M,M,trivial⟩) (by rfl) rfl (by rfl)) rfl (sZ rfl J.oK aj) (λ_ _ _ _=>(qx (i:=0) (show List.Nodup (["_law_k","_law_draw","_law_own","_law_deep","_law_helpers"]:jcI) by symm))) (λ_ _ _ _=>bJ) (λ_ _ _ _=>(aa E D rfl aj)))))) λQ S I z hd h=>?_;obtain⟨d,v,L,N,t,us,j,x,m0,rfl,dq,ok,U,B,h⟩:=h;obtain⟨T,g⟩:=dq.self;refine⟨(j:Int),M,by lia,by lia,?_⟩;rw[g];refine CV (n:=j) (e:=sc q) dq (λy=>∃s,y=bA A s/\bP N s/\s.dq<=q) (by lia) (λi c m O C o hk=>?_) λH c m G r o=>?_
 .have hmul:=jaC (sc q) (show i+1<=j from C);rw[jbn] at hmul;refine⟨d,v,L,N,t,us,x,m,M,dq.cX,ok,by lia,λs c m1 p F a=>?_⟩;rw[nP];exact⟨_,M,hk _ _ _ a ⟨s,M,p,F⟩⟩
 obtain⟨l,rfl,b,f⟩:=ex_map r;rw[<- g];have u:(cX S d c m).length=S.length+0:=aO;rw[u];refine VI (PF z) aO rfl trivial (h l c m (by rw[b,G]) f o)
abbrev AL:Stmt:=top 78
def GI(J:Fx K mg A):Ky P w K mg base k AL ["_law_draw","_law_things","_law_many"] (qR A):=by
 refine dk (N:=["_law_draw","_law_things","_law_many"]) bO (rfl:_=[_]) (λr G=>(aG (ai (ck (dS ["_law_k"] ["_law_draw","_law_things"] [0,1] rfl (by symm) (by symm) (by with_unfolding_all rfl) (by exact⟨M,M,trivial⟩) (by rfl) rfl (by rfl)) rfl (sZ rfl J.oK aj) (λ_ _ _ _=>(qx (i:=0) (show List.Nodup (["_law_k","_law_draw","_law_things"]:jcI) by symm))) (λ_ _ _ _=>bJ) (λ_ _ _ _=>(aR (qa q_r (aP (aa bz r rfl aj))))))))) λD S B E hd h=>?_;obtain⟨d,x,N,j,m0,rfl,dq,q,g,O,h⟩:=h;obtain⟨L,f⟩:=dq.self;refine⟨(j:Int),M,by lia,by lia,?_⟩;rw[f];refine CV (n:=j) (e:=60) dq (λy=>∃p,y=atT A p/\dJ N p.2) (by lia) (λi c m C F s hk=>?_) λv c m u o s=>?_
 .refine(oe (jh (lM dq.lt)) (cdB dq.lt (by decide) (j9 dq q) g λe z I t _ H=>?_));exact⟨_,M,hk _ _ _ (by lia) ⟨(m,e),M,t⟩⟩
 obtain⟨l,rfl,a,b⟩:=ex_map o;rw[<- f];exact jw (h l c m (by rw[a,u]) b (by lia))
abbrev DX:Stmt:=top 79
def AV(J:Fx K mg A)(G:Dn P w K mg base k "_law_steps" ["_law_draw","_law_own","_law_many","_law_deep","_law_helpers"] (cu K (AA A q))):Ky P w K mg base k DX ["_law_draw","_law_own","_law_deep","_law_helpers"] (BD A q):=by
 refine dk (N:=["_law_draw","_law_own","_law_deep","_law_helpers","_law_at","_law_kind","_law_then","_law_other","_law_keeps","_law_falls","_law_body"]) bO (rfl:_=[_,_,_,_,_]) (λa l=>(qs (ak (i:=4) l q_r) (qs (ak (i:=5) l (aa au a rfl aj)) (qs (aJ (qw (Gx (aD (dc a) q_r aF (aA _)) (BI (aD EG q_r aF (aA _))))) (qs (ak (i:=6) l (aa G a rfl (qa q_r (qa q_r (qa (aa au a rfl aj) aj))))) (qs (ak (i:=7) l (aa G a rfl (qa q_r (qa q_r (qa (aa au a rfl aj) aj))))) (aG (ai (fu EV a rfl (qa q_r (qa (aa bz a rfl aj) aj))))))) az) (qs (aJ (qw (Gx (aD (dc a) q_r aF (aA _)) (BI (aD EG q_r aF (aA _))))) (qs (ak (i:=8) l (aa nV a rfl (qa q_r (qa q_r (aP (aa au a rfl aj)))))) (qs (ak (i:=9) l (s8 (bG (qa nA (aP (aR (qa q_r (aP (aa gE a rfl aj))))))) (aa au a rfl aj))) (qs (ak (i:=10) l (aa G a rfl (qa q_r (qa q_r (qa (aa au a rfl aj) aj))))) (aG (ai (fu OI a rfl (qa q_r (qa (aa bz a rfl aj) aj)))))))) az) (aG (ai (aa Hs a rfl aj)))))))) λds S kk hc hd h=>?_;obtain⟨d,Z,L,N,Y,us,x,m0,rfl,dq,ok,hm0,h⟩:=h;obtain⟨c0,e0⟩:=id dq;refine(oe (jh e0) ⟨d,7,_,M,dq,by first | decide | lia,λo W u hr1 br1=>?_⟩);have F:Dq (cX S d W u) d u:=dq.cX
 try dsimp only[A6]
 have line:q=0\/1<o->Uw (sR (BE A) (mR (ur 0) (mR (ur 1) uv))) (endsF S kk) [some (D.ob d),some (D.t (.tup [jn Z,jn L,jn Y,jn us])),some (.int q),some x,some (.int m0),some (.int o),none,none,none,none,none] (cX S d W u):=λ_=>by
  refine⟨d,Z,L,N,Y,us,u,M,F,ok,λs c m b hk hm=>?_⟩;rw[nP];have hz:s.dq=0:=by cases s<;>first | rfl | exact absurd hk (by simp[kd])
  have O:300<=sc q:=by cases q with
   |zero=>exact jam _
   |succ q=>show 300<=3*sc q+700;lia
  exact jw (h s c m b (by lia) (by lia))
 have V:=dq.lt;have g:L.length<=100:=by have:=ok.nN;lia
 cases q with
 |zero=>
  by_cases h0:o=0
  .exact⟨true,IE,false,jao D.bl (jau (by lia)),false,qH,line (.inl M)⟩
  .by_cases h1:o=1
   .exact⟨false,qH,true,IE,false,jao D.bl (jau (by lia)),line (.inl M)⟩
   .exact⟨false,qH,false,qH,line (.inl M)⟩
 |succ q=>
  have j:((q+1:Nat):Int) - 1=(q:Int):=by lia
  have O:sc (q+1)=3*sc q+700:=rfl;by_cases h0:o=0
  .refine⟨true,IE,true,jao D.bl (jaB (by lia)),FY dq.lt (by decide) λr2 c2 m2 C VP=>?_⟩;have hz2:=jaC (sc q) (show r2<=2 by lia);refine stB (by rw[j]) dq.lt ok (by lia) (by lia) λl1 c3 H E f z=>?_;refine Oc dq.lt (by decide) λr4 c4 m4 hr4 br4=>?_;have hz4:=jaC (sc q) (show r4<=1 by lia);refine stA (by rw[j]) dq.lt ok (by lia) (by lia) λl2 c5 m5 hl2 r hm5=>?_;refine cdA dq.lt (by decide) rfl g λe c6 m6 R _ hm6=>?_;refine⟨_,m0,e,_,_,l1,l2,M,ao,mD (kE (eZ (bD (q:=0) aO))),mD (kE (eZ (bD (q:=1) aO))),made ?_⟩;rw[<- MC];refine Fi hc (h _ _ _ (by unfold bP;exact⟨R.up ok.LN,fk λs b=>(f s b).1,fk λs b=>(r s b).1,by lia,by lia⟩) ?_ (by lia));have g1:=lN λs b=>(f s b).2;have g2:=lN λs b=>(r s b).2;unfold ah.dq;lia
  by_cases h1:o=1
  .refine⟨false,qH,true,IE,true,jao D.bl (jaB (by lia)),FY dq.lt (by decide) λr2 c2 m2 C VP=>?_⟩;refine prB dq.lt rfl g (by lia) λhh c3 H hhl Q z=>?_;refine oe (jh (lM V)) (Rn dq.lt rfl g λfs c4 m4 B hm4=>?_);refine FY dq.lt (by decide) λX c5 m5 I br5=>?_;obtain⟨v,y,U⟩:∃v:Option (Int×Sm),p6 [T.cP,.tup [.int H,fD A fs]] (X:Int)=some (faT A v)/\∀p,v=some p->iT N p.2:=by
    match X,I with
    |0,_=>exact⟨none,M,λp e=>by cases e⟩
    |1,_=>exact⟨some (H,fs),M,λp e=>by cases e;exact B.up ok.LN⟩
    |n+2,h=>lia
   refine oe y ?_;refine FY dq.lt (by decide) λr6 c6 m6 hr6 br6=>?_;have hz6:=jaC (sc q) (show r6<=2 by lia);refine stB (by rw[j]) dq.lt ok (by lia) (by lia) λl1 c7 m7 E f hm7=>?_;refine cdA dq.lt (by decide) rfl g λe c8 m8 R _ hm8=>?_;refine⟨_,m0,e,faT A v,_,_,hh,l1,M,ao,M,by lia,mD (kE (eZ (bD (q:=0) aO))),made ?_⟩;rw[<- gZ];refine Fi hc (h _ _ _ (by unfold bP;exact⟨R.up ok.LN,by lia,λp hp=>(Q p hp).up ok.LN,U,fk λs b=>(f s b).1,by lia,by lia⟩) ?_ (by lia));have g1:=lN λs b=>(f s b).2;unfold ah.dq;lia
  .exact⟨false,qH,false,qH,line (.inr (by lia))⟩
abbrev wU:Stmt:=inClass (top 43) 2
def El(J:Fx K mg A):JH P w K mg base A.ay k wU ["self","path","kind","writings"] (MK A):=by
 refine Pp (N:=["self","path","kind","writings","at","condition"]) bO (rfl:_=[_,_]) (λg F r=>(qs (bf jbQ rfl (qi q_r) (ia (n:=2) rfl (sP (qg (i:=4) r) (sP (qg (i:=5) r) fF))) (aG (ak (i:=1) r (iE q_r Au fZ F aj)))) (aG (ai q_r)))) λg I S G L hd u h=>?_;obtain⟨i,j,C,c,p,b,l,d,rfl,t,f,v,H,h,B⟩:=h;rcases t with rfl | rfl
 .refine bY (bV (atT A) (λa Z m=>∃o y z,Z=[some (D.ob i),some (.tup ((aq b p a).2.map (ja A))),some (.str b),some o,y,z]/\m=S.set j (.lst ((c++(aq b p a).1).map (CQ A)))/\c.length+a.length<=100) ⟨_,_,_,M,?_,v⟩ ?_ ?_)
  .have e:c++(aq b p []).1=c:=by unfold aq;simp
   rw[e,set_same f.2]
  .rintro a x post Z m N e ⟨o,y,z,rfl,rfl,hc1⟩ hN;have s:=bu b p a;have q:=dm b p a;have E:l.length=a.length+(post.length+1):=by rw[e];simp
   refine⟨trivial,?_⟩;refine⟨_,M,M,_,_,M,_,_,M,M,?_⟩;refine⟨_,_,i6 (f.put _).1,by symm,lE u f.2,i,j,C,_,_,b,x.1,x.2,M,f.put _,by rw[jab];lia,by lia,λl1=>?_,λl1=>B (by rw[jab] at l1;lia)⟩;rw[jat,jaQ,<- iz,<- iy];exact hN _ _ ⟨_,_,_,M,M,by rw[jab] at l1;simp;lia⟩
  .rintro Z m ⟨o,y,z,rfl,rfl,hc1⟩;exact⟨trivial,jw (h hc1)⟩
 .refine gC (bV (atT A) (λa Z m=>∃o y z,Z=[some (D.ob i),some (.tup ((aq b p a).2.map (ja A))),some (.str b),some o,y,z]/\m=S.set j (.lst ((c++(aq b p a).1).map (CQ A)))/\c.length+a.length<=100) ⟨_,_,_,M,?_,v⟩ ?_ ?_)
  .have e:c++(aq b p []).1=c:=by unfold aq;simp
   rw[e,set_same f.2]
  .rintro a x post Z m N e ⟨o,y,z,rfl,rfl,hc1⟩ hN;have s:=bu b p a;have q:=dm b p a;have E:l.length=a.length+(post.length+1):=by rw[e];simp
   refine⟨trivial,?_⟩;refine⟨_,M,M,_,_,M,_,_,M,M,?_⟩;refine⟨_,_,i6 (f.put _).1,by symm,lE u f.2,i,j,C,_,_,b,x.1,x.2,M,f.put _,by rw[jab];lia,by lia,λl1=>?_,λl1=>B (by rw[jab] at l1;lia)⟩;rw[jat,jaQ,<- iz,<- iy];exact hN _ _ ⟨_,_,_,M,M,by rw[jab] at l1;simp;lia⟩
  .rintro Z m ⟨o,y,z,rfl,rfl,hc1⟩;exact⟨trivial,jw (h hc1)⟩
abbrev uH:Stmt:=top 57
def Cc(J:Fx K mg A):JH P w K mg base A.ay k uH ["book","path","step"] (Io A (λs=>kd s=1)):=by
 obtain⟨L,u⟩:=J.iu;obtain⟨G,f⟩:=J.fB;refine Pp (N:=["book","path","step","by"]) bO (rfl:_=[_,_,_,_,_,_]) (λg c m=>(qs (ak (i:=1) m (iE q_r Au fZ c (qa q_r (qa aT (qa q_r (aP (fu oA c rfl (qa q_r (qa aT (aP (fu rO c rfl aj))))))))))) (qs (aJ (qw (Eb (aD EG (ic J.kK aj) aF (aA _)) (xG (aD (dc c) q_r aF (aA _))))) (aG (ai (aX aL q_r (aa gj c rfl aj)))) az) (qs (ak (i:=3) m q_r) (qs (ak (i:=1) m (aX aL (aX aL (aX aL q_r (aR (aP (aa ze c rfl (qa (fY (bC (v:=.str "^") rfl u ⟨_,M⟩)) aj))))) (aa gj c rfl (aP (fY (bC (v:=.str "^^") rfl f ⟨_,M⟩))))) (aR (aP (aa nX c rfl (aP (aa Aa c rfl aj))))))) (qs (aJ (aD (dc c) q_r aT (aA _)) (aG (ai (aX aL q_r (aR (aP (aa ze c rfl (qa q_r (aP (aa nS c rfl (aP (fY (bC (v:=.str "^^") rfl f ⟨_,M⟩)))))))))))) az) (aG (ai (aX aL q_r (aR (aP (aa ze c rfl (qa q_r (aP (j8 (aa nS c rfl (aP (fY (bC (v:=.str "^") rfl u ⟨_,M⟩)))) GV c (aP (j8 (aa nS c rfl (aP (fY (bC (v:=.str "^^") rfl f ⟨_,M⟩)))) Cv c aj))))))))))))))))) λg O S H Q hd z h=>?_;obtain⟨i,j,E,t,p,s,N,rfl,n,B,I,g,hk,h,C⟩:=h;cases s with
 |dv a x F s b=>
  unfold bP at g;have e:=g.2.2.2.num;unfold bA;refine⟨_,_,i6 n.1,by symm,_,_,[],0,M,ao,M,by simp,made ⟨_,[fD A b,.str "!=",fD A ([],0)],M,M,ao,made ⟨z,i,j,E,t,p,"nought",a,.cmp b "!=" ([],0),by rw[Js],n,B,by lia,λl1=>?_,λl1=>C (by simp[gW];lia)⟩⟩⟩;have q:decide ((0:Int)<((b.1.map pT).length:Nat))=decide (b.1≠[]):=by
   rw[jac];cases b.1 with
   |nil=>rfl
   |cons a r=>simp
  have y:=n.put (t++[vn "nought" a p (.cmp b "!=" ([],0))]);have h:=h (by simp only[gW];simp;lia);simp only[gW,K5] at h;by_cases o:b.1=[]
  .refine⟨false,jao D.bl (q.trans (jau (by simpa using o))),?_⟩;by_cases l:b.2=0
   .rw[jaf (.inr l)] at h;refine⟨true,jao D.bl (ZO l),x,M,dI ?_,jw ?_⟩
    .have:=fN x;simp;lia
    .rw[<- jaj];exact h
   .rw[jae (by rintro(h | h)<;>contradiction)] at h;refine⟨false,jao D.bl (Th l),"^",s,M,dI ?_,"^^",M,dI ?_,b.2,M,e,quot b.2,M,dI ?_,?_⟩
    .simp;lia
    .have:=fN "^^";simp;lia
    .have:=fN "^^";simp;lia
    by_cases d:F="div"
    .rw[jaf d] at h;refine⟨true,jao D.bl (seq d),"^^",M,x,on "^^",M,dI ?_,jw ?_⟩
     .have:=fN "^^";simp;lia
     .simp only[jaj] at h ⊢;exact h
    .rw[jae d] at h;have R:((on "^^").times b.2).1.length<=1:=nH _;refine⟨false,jao D.bl (cF d),"^",M,0,_,_,by decide,M,by symm,"^^",M,0,_,_,by decide,M,by symm,on "^^",b.2,M,by show 1<64;decide,⟨by lia,by lia⟩,on "^",(on "^^").times b.2,M,by show 1+_<64;lia,x,(on "^").less ((on "^^").times b.2),M,dI ?_,jw ?_⟩
     .have:=fN "^^";simp;lia
     .simp only[jaj] at h ⊢;exact h
  .rw[jaf (.inl o)] at h;refine⟨true,jao D.bl (q.trans (jaB (by simpa using o))),x,M,dI ?_,jw ?_⟩
   .have:=fN x;simp;lia
   .rw[<- jaj];exact h
 |_=>cases hk
abbrev wV:Stmt:=top 80
def Em(J:Fx K mg A):Ky P w K mg base k wV ["_law_draw","_law_name","_law_many","_law_deep","_law_helpers","_law_names_here"] (AD A):=by
 refine dk (N:=["_law_draw","_law_name","_law_many","_law_deep","_law_helpers","_law_names_here","_law_params","_law_row","_law_answers","_law_needs","_law_gives","_law_makes","_law_own","_law_steps_here"]) bO (rfl:_=[_,_,_,_,_,_,_,_,_,_]) (λf g=>(qs (ak (i:=6) g (qh true q_r lg (bT (aa au f rfl aj)))) (qs (bf jaJ rfl (qi (qh false q_r (bT aF) (bT (aX aL aF (aa au f rfl aj))))) (qg (i:=7) g) (aG (fO (a04 q_r (qa (aa au f rfl (qa q_r (aP (aX aL (ic J.kK aj) aF)))) aj))))) (qs (ak (i:=8) g (qh false q_r (bT aF) (bT (aX aL aF (aa au f rfl aj))))) (qs (ak (i:=9) g (aa nV f rfl (qa q_r (qa q_r (aP (aa au f rfl aj)))))) (qs (ak (i:=10) g (aa nV f rfl (qa q_r (qa q_r (aP (aa au f rfl aj)))))) (qs (RH (i:=11) g (dS ["_law_row"] ["_law_params"] [6] rfl (by symm) (by symm) (by with_unfolding_all rfl) (by exact⟨M,trivial⟩) (by rfl) rfl (by rfl)) rfl (qi (qh false q_r (bT aF) (bT aF))) (λ_ _ _ _=>(qx (i:=0) zX)) (λ_ _ _ _=>(vY (aD IV q_r q_r (by rfl)))) (λ_ _ _ _=>q_r)) (qs (ak (i:=12) g (aR (qa (qh false q_r (bT aF) (bT aF)) (qa (aX aL (qh false q_r lg (bT aF)) (ck (cS ["_law_row"]) rfl (qi (qh false q_r (bT aF) (bT aF))) (λ_ _ _ _=>(qx (i:=0) Oh)) (λ_ _ _ _=>bJ) (λ_ _ _ _=>q_r))) (qa q_r (aP (qh false q_r (bT aF) (bT aF)))))))) (qs (ak (i:=13) g (aa d8 f rfl aj)) (qs (aJ (aD (dc f) (aa au f rfl aj) aF (aA _)) (aG (fO (nD q_r (aP (fu I9 f rfl (qa q_r (aP (aa bz f rfl aj)))))))) az) (aG (ai (fu EU f rfl aj))))))))))))) λds S kk hc hd h=>?_;obtain⟨d,ns,j,nm,x4,m0,rfl,dq,hj,hn8,p,hm0,h⟩:=h;have u:=dq.lt;obtain⟨a0,a1,a2,a3,a4,a5,a6,a7,rfl⟩:=Pk hn8;have w0:=p a0 (by simp);have w1:=p a1 (by simp);have w2:=p a2 (by simp);have w3:=p a3 (by simp);have w4:=p a4 (by simp);have w5:=p a5 (by simp);have F:=p a6 (by simp);have L:=p a7 (by simp);refine⟨d,3,_,M,dq,by decide,λr1 VF Qq hr1 b1=>?_⟩;obtain⟨p0,ep0,hp0,Y⟩:=Y3 (a0:=a0) (a1:=a1) (a2:=a2) (a3:=a3) (a4:=a4) (a5:=a5) (a6:=a6) (a7:=a7) hr1;refine⟨_,M,?_⟩;rw[ep0];refine Oc dq.lt (by decide) λr2 cr2 XZ hr2 b2=>?_;obtain⟨rs,ers,hrs,a5z⟩:=Y0 (a0:=a0) (a1:=a1) (a2:=a2) (a3:=a3) (a4:=a4) (a5:=a5) (a6:=a6) (a7:=a7) hr2;refine⟨_,M,?_⟩;rw[ers,aO,jae jaN];refine gC ?_;refine bV T.str (λn Z S'=>∃y c,∃m:Int,∃b:jcI,Z=[some (D.ob d),some (D.str nm),some (D.int j),some (D.int 3),some x4,some (D.t (jn [a0,a1,a2,a3,a4,a5,a6,a7])),some (D.ob (S.length+0)),y,none,none,none,none,none,none]/\S'=cX S d c m++[O.lst (b.map T.str)]/\b.length<=2+n.length/\m.natAbs<=m0.natAbs+2+n.length/\∀x∈b,Uj x) ⟨_,_,_,p0,M,M,by simpa using hp0,by simp;lia,λx a=>?_⟩ ?_ ?_
 .have:=Y x a;simp at this;rcases this with rfl | rfl
  .exact BN w0
  .exact BN w1
 .rintro n r post Z S' Nx e ⟨y,c,m,b,rfl,rfl,hl,hm,hp⟩ hN;have f:=a5z r (by rw[e];simp);have hpre:n.length<=2:=by rw[e,jab] at hrs;lia
  have H:qB r:=by
   simp at f;rcases f with rfl | rfl
   .exact F
   .exact L
  refine⟨trivial,⟨M,_,eZ (bD aO)⟩,oe (jh (bD aO)) (Oc dq.lt (by lia) λv W m3 vH b3=>?_)⟩;rw[jac] at vH;refine⟨by have:=H.2;exact eF (by show 1+_<=1000;lia),_,v,bD aO,M,by rw[jac];lia,By (by rw[jac];lia),?_⟩;have e2:(cX S d W m3++[O.lst (b.map T.str)]).set (S.length+0) (O.lst ((b.map T.str).take v++[T.str ("#"++r)]++(b.map T.str).drop v))=cX S d W m3++[O.lst ((b.take v++[hsh r]++b.drop v).map T.str)]:=by
   rw[<- aO (S:=S) (d:=d) (c:=W) (m:=m3),fc,jaj,jaj,List.map_take,List.map_drop];rfl
  rw[e2];refine hN _ _ ⟨_,_,_,_,M,M,?_,?_,λx a=>?_⟩
  .simp only[jab,jbF,jbR,jak,jaI];lia
  .simp only[jab,jak,jaI];lia
  .rcases jan.mp a with a | a
   .rcases jan.mp a with a | a
    .exact hp x (jcy a)
    .rw[jag.mp a];exact RZ H
   .exact hp x (List.mem_of_mem_drop a)
 rintro Z S' ⟨y,c,m,b,rfl,rfl,hpl,hm,G⟩;have hps:b.length<=4:=by lia
 refine⟨trivial,Oc dq.lt (by decide) λv Lc Kw vH b3=>?_⟩;obtain⟨Zq,ean,han,C⟩:=Y5 (a0:=a0) (a1:=a1) (a2:=a2) (a3:=a3) (a4:=a4) (a5:=a5) (a6:=a6) (a7:=a7) vH;refine⟨_,M,?_⟩;rw[ean];refine Oc dq.lt (by decide) λr4 cr4 mr4 hr4 b4=>?_;refine prA dq.lt (eZ (bD aO)) (by lia) (by lia) λg c5 m5 a82 z b5=>?_;refine⟨_,_,eZ (bD aO),M,eF (by rw[jac,jac];lia),Oc dq.lt (by decide) λr5 cr5 mr5 hr5 b6=>?_⟩;refine prA dq.lt (by rw[jaj];rfl) (by rw[jab];lia) (by lia) λQ c7 m7 a9c B b7=>?_;refine⟨_,M,?_⟩;rw[G9,jae jaN];refine gC ?_;refine yT T.str (λx=>if b.contains (hsh x)=true then none else some (T.str x)) trivial (sz 2) (λx a k' hk=>?_) ?_
 .have hxw:qB x:=by
   simp at a;rcases a with rfl | rfl
   .exact F
   .exact L
  refine⟨by have:=hxw.2;exact eF (by show 1+_<=1000;lia),_,_,_,M,M,jh (bD aO),CK b,?_⟩;have e3:Ti (V.str ("#"++x)) (b.map V.str)=b.contains (hsh x):=by rw[CF,List.contains_eq_mem];rfl
  rw[e3];cases q:b.contains (hsh x) with
  |true=>rw[jaf q] at hk;exact⟨false,M,hk⟩
  |false=>rw[jae (by rw[q];decide)] at hk;exact⟨true,M,_,M,hk⟩
 obtain⟨I,X,hms⟩:∃I:jcI,[a6,a7].filterMap (λx=>if b.contains (hsh x)=true then none else some (T.str x))=I.map T.str/\I.length<=2/\∀x∈I,x∈[a6,a7]:=by
  by_cases R:b.contains (hsh a6)=true<;>by_cases U:b.contains (hsh a7)=true
  .exact⟨[],by simp only[jba,jco,jaf R,jaf U];rfl,by decide,λx h=>by cases h⟩
  .exact⟨[a7],by simp only[jba,jco,jaf R,jae U];rfl,by simp,λx h=>by simp at h;simp[h]⟩
  .exact⟨[a6],by simp only[jba,jco,jae R,jaf U];rfl,by simp,λx h=>by simp at h;simp[h]⟩
  .exact⟨[a6,a7],by simp only[jba,jco,jae R,jae U];rfl,by simp,λx h=>h⟩
 rw[X];refine⟨_,M,?_⟩;rw[Y6];refine⟨_,M,?_⟩;rw[Y4];refine⟨_,M,?_⟩;rw[G9,jae jaN];refine gC ?_;refine dR T.str (λx=>T.str (hsh x)) trivial (sz 2) (λx a k' hk=>?_) ?_
 .have hxw:qB x:=by
   simp at a;rcases a with rfl | rfl
   .exact F
   .exact L
  exact⟨by have:=hxw.2;exact eF (by show 1+_<=1000;lia),_,M,hk⟩
 refine⟨_,_,M,M,sz 8,_,M,?_⟩;rw[G9];have LN:HD [a2,a3,a4,a5] [a0,a1,a2,a3,a4,a5,hsh a6,hsh a7] [a0,a1,a2,a3,a4,a5,hsh a6,hsh a7] I [a6,a7]:=by
  refine⟨⟨by simp,by simp⟩,λx a=>?_,by simp,λx a=>a,λx a=>?_,by lia,⟨by simp,by simp⟩,λx a=>?_⟩
  .simp at a;rcases a with rfl | rfl | rfl | rfl
   .exact⟨w2,by simp⟩
   .exact⟨w3,by simp⟩
   .exact⟨w4,by simp⟩
   .exact⟨w5,by simp⟩
  .have:=hms.2 x a;simp at this;rcases this with rfl | rfl
   .exact⟨F.2,by simp⟩
   .exact⟨L.2,by simp⟩
  .simp at a;rcases a with rfl | rfl
   .exact⟨F.2,by simp⟩
   .exact⟨L.2,by simp⟩
 have hsc:j*sc 3<=5*sc 3:=jaC _ hj;have hs3:sc 3=17200:=by decide
 refine stA rfl dq.lt LN (by lia) (by lia) λl c8 m8 hsl E b8=>?_;refine Oc dq.lt (by decide) λr6 cr6 o hr6 b9=>?_;by_cases h6:r6=0
 .refine⟨true,IE,⟨M,_,eZ (bD (q:=1) aO)⟩,oe (jh (i8 (lM u))) (cdA dq.lt (N:=[a0,a1,a2,a3,a4,a5,hsh a6,hsh a7]) (by decide) rfl (by simp) λe c9 m9 he _ b10=>?_)⟩;refine⟨_,[.int o,dZ A e],M,M,ao,made ⟨_,bD (q:=1) aO,By (by rw[jac];lia),?_⟩⟩;have e4:(cX S d c9 m9++([O.lst (b.map T.str)]++[O.lst (l.map (bA A))])).set (S.length+[O.lst (b.map T.str)].length) (O.lst (l.map (bA A)++[T.ins A.cE ["at","condition"] [.int o,dZ A e]]))=cX S d c9 m9++([O.lst (b.map T.str)]++[O.lst ((l++[ah.cm o e]).map (bA A))]):=by
   show List.set _ (S.length+1) _=_;rw[<- aO (S:=S) (d:=d) (c:=c9) (m:=m9),fc,jaj,jas,MB];rfl
  rw[e4];refine(oe (jh (i8 (lM u))) ⟨_,0,"",_,_,_,_,_,⟨_,nm,b,Zq,g,Q,l++[.cm o e]⟩,M,ao,mD (kE (eZ (bD (q:=0) aO))),M,M,M,mD (kE (eZ (bD (q:=1) aO))),by show g.length<=100;lia,by show Q.length<=100;lia,made (Fi hc (h _ [a0,a1,a2,a3,a4,a5,hsh a6,hsh a7] _ _ (YE (by lia) (by lia) (by lia) (by lia) (by lia) (by simp) (λx a=>by have:=C x a;simp at this;rcases this with rfl | rfl<;>simp) E (by simp) (λs hs=>by rw[jag.mp hs];exact⟨by unfold bP;exact he,by unfold ah.dq;rfl⟩) z B G) rfl (by lia)))⟩)
 .refine⟨false,qH,?_⟩;refine(oe (jh (i8 (lM u))) ⟨_,0,"",_,_,_,_,_,⟨_,nm,b,Zq,g,Q,l++[]⟩,M,ao,mD (kE (eZ (bD (q:=0) aO))),M,M,M,mD (kE (eZ (by rw[jaw];exact bD (q:=1) aO))),by show g.length<=100;lia,by show Q.length<=100;lia,made (Fi hc (h _ [a0,a1,a2,a3,a4,a5,hsh a6,hsh a7] _ _ (YE (by lia) (by lia) (by lia) (by lia) (by lia) (by simp) (λx a=>by have:=C x a;simp at this;rcases this with rfl | rfl<;>simp) E (by simp) (λs hs=>by cases hs) z B G) rfl (by lia)))⟩)
abbrev DY:Stmt:=top 81
def Kf(J:Fx K mg A):Ky P w K mg base k DY ["_law_one_here","_law_other","_law_times"] Ij:=by
 refine dk (N:=["_law_one_here","_law_other","_law_times","_law_found","_law_thing","_law_many","_law_terms"]) bO (rfl:_=[_,_,_,_,_]) (λl m=>(qs (ak (i:=3) m Nj) (qs (bf jaJ rfl (qi q_r) (ia (n:=2) rfl (sP (qg (i:=4) m) (sP (qg (i:=5) m) fF))) (aG (BK (mF l) q_r q_r q_r))) (qs (bf jaJ rfl (qi q_r) (ia (n:=2) rfl (sP (qg (i:=4) m) (sP (qg (i:=5) m) fF))) (aG (BK (mF l) q_r q_r (aX aL (ID (mF l) q_r q_r aF) q_r)))) (qs (ak (i:=6) m (cD J.bE (aP (ck (dS ["_law_thing"] ["_law_found"] [3] rfl (by symm) (by symm) rfl (by exact⟨M,trivial⟩) (by rfl) rfl (by rfl)) rfl (qi (bZ (Jv M) (by rfl) J.jB boot_sorted aj)) (λ_ _ _ _=>(qx (i:=0) zX)) (λ_ _ _ _=>(vY (aD (N8 40 (uE l)) (s9 (mF l) q_r q_r) aF (aA _)))) (λ_ _ _ _=>(aR (qa q_r (aP (s9 (mF l) q_r q_r))))))))) (aG (ai q_r))))))) λY S V L hd h=>?_;obtain⟨a,b,t,rfl,Q,o,R,ht,h⟩:=h;refine(bY (bV pT (λc Z j=>∃x y f,Z=[some (D.t (qG a)),some (.t (qG b)),some (.int t),some (D.ob S.length),x,y,none]/\j=S++[O.wm f]/\FJ c f) ⟨_,_,_,M,M,.nil⟩ ?_ ?_))
 .rintro c ⟨x,v⟩ q Z j N e ⟨z,B,f,rfl,rfl,d⟩ u;have F:x∉c.map (·.1):=by
   rw[e,jaj,jas] at o;exact λg=>(jb0.mp o).2.2 x g x jay rfl
  have s:f.length<sizeLine:=By (by have E:=d.len;rw[e,jab] at Q;lia);refine⟨trivial,_,M,M,_,_,M,_,_,M,M,_,_,_,_,M,ao,M,M,s,?_⟩;rw[fm];exact u _ _ ⟨_,_,_,M,M,d.snoc x v (by rw[Gd F];lia)⟩
 rintro Z j ⟨z,B,f,rfl,rfl,d⟩;refine⟨trivial,bY (bV pT (λc Z j=>∃x y f,Z=[some (D.t (qG a)),some (.t (qG b)),some (.int t),some (D.ob S.length),x,y,none]/\j=S++[O.wm f]/\FJ (a.1++c.map λp=>(p.1,t*p.2)) f) ⟨_,_,_,M,M,by simpa using d⟩ ?_ ?_)⟩
 .clear d;rintro c ⟨x,v⟩ q Z j N e ⟨z,B,f,rfl,rfl,d⟩ u;have F:c.length<=8:=by rw[e,jab] at R;lia
  have s:f.length<sizeLine:=By (by have E:=d.len;rw[jab,jac] at E;lia);refine⟨trivial,_,M,M,_,_,M,_,_,M,M,?_⟩;refine⟨_,_,M,ao,_,_,ao,M,.inl ⟨by lia,by lia⟩,?_⟩;rw[d.val x];by_cases g:x∈(a.1++c.map λp=>(p.1,t*p.2)).map (·.1)
  .rw[jaf g];refine⟨_,_,_,_,M,ao,M,M,s,?_⟩;rw[fm];refine u _ _ ⟨_,_,_,M,M,?_⟩;have:=d.snoc x (t*v) rfl;rw[jaQ] at this;rw[jaj];exact this
  .rw[jae g];refine⟨_,_,_,_,M,ao,M,M,s,?_⟩;rw[fm];refine u _ _ ⟨_,_,_,M,M,?_⟩;have:=d.snoc x (t*v) (i:=0+t*v) (by rw[Gd g]);rw[jaQ] at this;rw[jaj];exact this
 clear d;rintro Z j ⟨z,B,f,rfl,rfl,d⟩;have X:(a.1++b.1.map λp=>(p.1,t*p.2)).length<=40:=by rw[jab,jac];lia
 obtain⟨W,H,U,I⟩:=d.keys;refine⟨trivial,_,_,ao,H,U,by have:=d.len;lia,?_⟩;rw[Gp I];have C:=oj ((a.1++b.1.map λp=>(p.1,t*p.2)).map (·.1));rw[jac] at C;refine gC ?_;refine yT T.str (λx=>if wt (a.1++b.1.map λp=>(p.1,t*p.2)) x≠0 then some (pT (x,wt (a.1++b.1.map λp=>(p.1,t*p.2)) x)) else none) trivial (eF (by lia)) ?_ ?_
 .intro x g k' hk;have G:kG f (Sum.inr x)=some (.int (wt (a.1++b.1.map λp=>(p.1,t*p.2)) x)):=by rw[d.val x,jaf (cW.mp g)]
  refine⟨_,_,_,_,M,ao,M,G,?_⟩;by_cases r:wt (a.1++b.1.map λp=>(p.1,t*p.2)) x=0
  .rw[jae (by simpa using r)] at hk;exact⟨false,jao D.bl (a5q r),hk⟩
  .rw[jaf r] at hk;exact⟨true,jao D.bl (a5n r),_,_,_,_,M,ao,M,G,_,M,hk⟩
 .rw[IX];exact⟨.inl ⟨by lia,by lia⟩,yX L h⟩
abbrev Iw:Stmt:=top 83
def N3(J:Fx K mg A):Ky P w K mg base k Iw ["_law_thing"] MS:=by
 refine dk (N:=["_law_thing"]) bO (rfl:_=[_]) (λb c=>(aG (ai q_r))) λd S e a hd h=>?_;obtain⟨x,rfl,h⟩:=h;exact(aE a h)
abbrev uC:Stmt:=top 84
def BY(J:Fx K mg A):Ky P w K mg base k uC ["_law_one_here","_law_other"] MV:=by
 refine dk (N:=["_law_one_here","_law_other"]) bO (rfl:_=[_]) (λd e=>(aG (ai q_r))) λf S g c hd h=>?_;obtain⟨a,b,rfl,h⟩:=h;exact(aE c h)
abbrev oX:Stmt:=top 86
def xP(J:Fx K mg A)(L:Dn P w K mg base k "_law_things_of" ["_law_told"] (cu K (DM n))):Ky P w K mg base k oX ["_law_told"] (DM (n+1)):=by
 refine dk (N:=["_law_told","_law_found","_law_one_here"]) bO (rfl:_=[_,_,_,_,_]) (λE C=>(qs (aJ (fq (bZ (jy (c:=.ty "str") trivial M) (by rfl) J.aW ja6 (qa q_r (aP (fY (IL (v:=.ty "str") rfl J.P5 boot_str M)))))) (aG (ai (bG cG))) az) (qs (aJ (aD (dc E) q_r aT (aA _)) (aG (ai (ck (cS ["_law_thing","_law_times"]) rfl (qi q_r) (λ_ _ _ _=>(k7 (n:=2) rfl (Dl (qx (i:=0) zX) (Dl (qx (i:=1) zX) jb)))) (λ_ _ _ _=>bJ) (λ_ _ _ _=>q_r)))) az) (qs (ak (i:=1) C (bG cG)) (qs (bf jaJ rfl (qi (qh false q_r (bT aF) lg)) (qg (i:=2) C) (aG (ak (i:=1) C (aX aL q_r (aa L E rfl aj))))) (aG (ai q_r))))))) λY S W u hd h=>?_;obtain⟨c,rfl,m,R,h⟩:=h;obtain⟨j,f⟩:=R;cases c with
 |cmp a s b=>
  rw[wz];have ha:a.1.length<=4:=f a (by unfold aN.sums;simp);have hb:b.1.length<=4:=f b (by unfold aN.sums;simp);refine⟨M,_,false,M,J.Yq,_,M,true,UZ,eF (by rw[jac,jac];lia),?_⟩;rw[<- jaj];refine bY ?_;refine dR pT (λp=>T.str p.1) trivial (eF (by rw[jab];lia)) (λx _ X hk=>⟨_,M,M,_,_,M,_,_,M,M,_,M,hk⟩) (aE u ?_);have e:(a.1++b.1).map (λp=>T.str p.1)=((aN.cmp a s b).sums.map Sm.aU).flatten.map T.str:=by
   unfold aN.sums;show _=(a.aU++(b.aU++[])).map T.str;unfold Sm.aU;rw[jaw,jaj,jaj,jaM,jaM];rfl
  rw[e];exact h
 |neg c=>
  rw[CY];unfold aN.dep at m;unfold aN.sz at j;unfold aN.sums at f h;refine⟨M,_,false,M,J.Yq,_,M,false,U0,G8 (by simp),?_⟩;rw[yS];refine bY ⟨trivial,c,M,by lia,⟨by lia,f⟩,?_⟩;have G:=jt (n:=4) f;have O:=jL c;refine⟨_,_,M,M,eF (by show([]:List T).length+_<=1000;rw[jaI,jac];lia),trivial,aE u h⟩
 |con q z=>
  rw[jR];unfold aN.dep at m;unfold aN.sz at j;unfold aN.sums at f h;refine⟨M,_,false,M,J.Yq,_,M,oe at0 ⟨false,jao D.bl (cF (by cases q<;>symm)),G8 (by simp),?_⟩⟩;rw[yS];refine bY ?_;have G:∀d g:List aN,z=d++g->((fj d).map Sm.aU).flatten.length<=56:=λd g e=>by
   have I:=jt (n:=4) (l:=fj d) λs o=>f s (by rw[e,kr];exact jaA _ o);have H:=mS d;have r:wL d<=6:=by rw[e,Bx] at j;lia
   lia
  refine bV je (λd Z B=>∃y,Z=[some (.tup (.str (if q=true then "and" else "or")::z.map je)),some (D.t (jn ((fj d).map Sm.aU).flatten)),y]/\B=S) ⟨_,M,M⟩ ?_ ?_
  .rintro d c g Z B N e ⟨y,rfl,rfl⟩ hN;have F:c∈z:=by rw[e];simp
   have I:=jP F;have H:=wK F;have r:∀s∈c.sums,s.few:=λs o=>f s (by rw[e,kr,fj];exact jaP _ (jaA _ o));have h4:=G d (c::g) e;have V:=jt (n:=4) r;have U:=jL c;refine⟨trivial,c,M,by lia,⟨by lia,r⟩,_,_,M,M,eF (by rw[jac,jac];lia),?_⟩;have Q:(((fj d).map Sm.aU).flatten.map T.str)++((c.sums.map Sm.aU).flatten.map T.str)=((fj (d++[c])).map Sm.aU).flatten.map T.str:=by
    rw[kr,fj,fj];simp
   rw[Q];exact hN _ _ ⟨_,M,M⟩
  .rintro Z B ⟨y,rfl,rfl⟩;exact⟨trivial,aE u h⟩
abbrev ng:Stmt:=top 87
def vq(J:Fx K mg A):Ky P w K mg base k ng ["_law_sums"] MP:=by
 refine dk (N:=["_law_sums","_law_found","_law_one_here"]) bO (rfl:_=[_,_,_]) (λr c=>(qs (ak (i:=1) c (bG cG)) (qs (bf jaJ rfl (qi q_r) (qg (i:=2) c) (aG (ak (i:=1) c (aX aL q_r (ck (cS ["_law_thing","_law_times"]) rfl (qi q_r) (λ_ _ _ _=>(k7 (n:=2) rfl (Dl (qx (i:=0) zX) (Dl (qx (i:=1) zX) jb)))) (λ_ _ _ _=>bJ) (λ_ _ _ _=>q_r)))))) (aG (ai q_r))))) λE S u q hd h=>?_;obtain⟨g,l,rfl,d,o,f,h⟩:=h;refine(OP d (bV qG (λa Z b=>∃y,Z=[some g,some (D.t (jn (a.map Sm.aU).flatten)),y]/\b=S) ⟨_,M,M⟩ ?_ ?_))
 .rintro a s post Z b N e ⟨y,rfl,rfl⟩ hN;have B:s.1.length<=4:=f s (by rw[e];simp);have z:=jt (n:=4) (l:=a) λs m=>f s (by rw[e];exact jaA _ m);have C:a.length<=8:=by rw[e,jab] at o;lia
  refine⟨trivial,?_⟩;refine bY ?_;refine dR pT (λp=>T.str p.1) trivial (eF (by lia)) (λx _ v hk=>⟨_,M,M,_,_,M,_,_,M,M,_,M,hk⟩) ?_;refine⟨_,_,M,M,eF (by rw[jac,jac];lia),?_⟩;have j:((a.map Sm.aU).flatten.map T.str)++(s.1.map λp=>T.str p.1)=((a++[s]).map Sm.aU).flatten.map T.str:=by simp[Sm.aU]
  rw[j];exact hN _ _ ⟨_,M,M⟩
 .rintro Z b ⟨y,rfl,rfl⟩;exact⟨trivial,aE q h⟩
abbrev uA:Stmt:=top 93
def BW(J:Fx K mg A):Ky P w K mg base k uA ["_law_step_here"] MU:=by
 refine dk (N:=["_law_step_here","_law_by","_law_times","_law_bounds","_law_left"]) bO (rfl:_=[_,_,_,_,_,_,_,_]) (λc d=>(qs (ak (i:=1) d q_r) (qs (aJ (qw (Eb (aD (N8 40 (uE c)) q_r q_r (aA _)) (xG (aD (dc c) q_r aF (aA _))))) (aG (ai q_r)) az) (qs (ak (i:=2) d q_r) (qs (ak (i:=3) d (aR (qa (aa bR c rfl (qa q_r (aP (aa fM c rfl aj)))) (aP (aa bR c rfl (qa (aa fM c rfl aj) (aP (aa jx c rfl aj)))))))) (qs (aJ (aD XF q_r aF (aA _)) (aG (ak (i:=3) d (aR (qa (aa bR c rfl (qa (aa fM c rfl aj) aj)) (aP (aa bR c rfl (qa (aa jx c rfl aj) (aP (aa fM c rfl aj))))))))) az) (qs (ak (i:=4) d (aa fM c rfl aj)) (qs (aJ (aD (dc c) q_r aT (aA _)) (aG (ak (i:=4) d (aa jx c rfl (qa (aa fM c rfl aj) (qa q_r (aP (xH aF))))))) az) (aG (ai q_r)))))))))) λr S p e hd h=>?_;obtain⟨a,x,q,s,b,rfl,l,o,h⟩:=h;unfold tU at h;refine(.inr ⟨M,?_⟩);by_cases g:b.1=[]
 .refine⟨false,jao D.bl (SG g),?_⟩;by_cases f:b.2=0
  .rw[jaf (.inr f)] at h;exact⟨true,jao D.bl (ZO f),aE e h⟩
  .rw[jae (by rintro(h | h)<;>contradiction)] at h;have n:=DC "^^" f;have m:=SX f;refine⟨false,jao D.bl (Th f),"^",M,([("^^",b.2)],0),on "^",M,"^",M,([("^^",b.2)],0),([],b.2 - 1),1,M,by simp,by simp,by simp,⟨by decide,by decide⟩,on "^",iM ([("^^",b.2)],0) ([],b.2 - 1) 1,M,?_⟩;by_cases j:0<b.2
   .have eq:quot b.2=.con true [zl ([("^^",b.2)],0) (on "^"),zl (on "^") (iM ([("^^",b.2)],0) ([],b.2 - 1) 1)]:=by unfold quot;rw[jaf j,n,Ef]
    rw[m,eq] at h;refine⟨false,jao D.bl (jau (by lia)),?_⟩;rcases l with rfl | rfl
    .rw[jaf rfl] at h;refine⟨"^^",M,false,U0,eF (by simp),aE e ?_⟩;simpa[gB,jR] using h
    .rw[jae (by symm)] at h;refine⟨"^^",M,true,UZ,"^",M,on "^",([("^^",b.2)],0),-1,M,by decide,by simp[on],by simp,⟨by decide,by decide⟩,eF (by simp),aE e ?_⟩;simpa[gB,jR] using h
   .have eq:quot b.2=.con true [zl (on "^") ([("^^",b.2)],0),zl (iM ([("^^",b.2)],0) ([],b.2+1) 1) (on "^")]:=by unfold quot;rw[jae j,n,Ef]
    rw[m,eq] at h;refine⟨true,jao D.bl (jaB (by lia)),"^",M,on "^",([("^^",b.2)],0),M,([("^^",b.2)],0),([],b.2+1),1,M,by simp,by simp,by simp,⟨by decide,by decide⟩,"^",M,iM ([("^^",b.2)],0) ([],b.2+1) 1,on "^",M,?_⟩;rcases l with rfl | rfl
    .rw[jaf rfl] at h;refine⟨"^^",M,false,U0,eF (by simp),aE e ?_⟩;simpa[gB,jR] using h
    .rw[jae (by symm)] at h;refine⟨"^^",M,true,UZ,"^",M,on "^",([("^^",b.2)],0),-1,M,by decide,by simp[on],by simp,⟨by decide,by decide⟩,eF (by simp),aE e ?_⟩;simpa[gB,jR] using h
 .rw[jaf (.inl g)] at h;exact⟨true,jao D.bl (Og g),aE e h⟩
abbrev oY:Stmt:=top 96
def xS(J:Fx K mg A)(g:Ms P w K mg base k 4 (Be A) "told" ["self"] (fE A 3)):Ky P w K mg base k oY ["_law_row"] (MQ A):=by
 refine dk (N:=["_law_row"]) bO (rfl:_=[_,_,_]) (λb j=>(qs (aJ (aD (dc b) q_r aT (aA _)) (aG (ai q_r)) az) (qs (aJ (aD (dc b) q_r aT (aA _)) (aG (ai (aR (qa aT (aP (aH q_r g b)))))) az) (aG (ai q_r))))) λn S m d hd h=>?_;obtain⟨r,rfl,a,h⟩:=h;cases r with
 |any x=>
  exact⟨false,U0,false,U0,aE d h⟩
 |lt x s=>
  exact⟨true,UZ,aE d h⟩
 |hd c=>
  obtain⟨i,l,f,e,_⟩:=i7 A S c;exact⟨false,U0,true,UZ,qU c,i,l,dh c,f,e,c,M,M,(a c M).1,(a c M).2,aE d h⟩
abbrev AI:Stmt:=top 97
def GF(J:Fx K mg A)(E:Ms P w K mg base k 4 (Be A) "told" ["self"] (fE A 3)):Ky P w K mg base k AI ["_law_found"] (DN A):=by
 refine dk (N:=["_law_found","_law_rows","_law_debt","_law_ahead"]) bO (rfl:_=[_,_,_]) (λm o=>(qs (ak (i:=1) o (gI cG)) (qs (bf jaJ rfl (qi q_r) (qg (i:=2) o) (qs (ak (i:=3) o (cD J.bE (aP (ck (cS ["_law_row"]) rfl (qi q_r) (λ_ _ _ _=>(qx (i:=0) Oh)) (λ_ _ _ _=>bJ) (λ_ _ _ _=>(aa vL m rfl aj)))))) (qs (aJ (qw (Eb (Ng (fq (bZ (jy (c:=.ref A.kJ) trivial M) (by rfl) J.aW ja6 (qa q_r (aP (fY (bC (v:=.ref A.kJ) rfl J.tZ.g M))))))) (xG (Ng (fq (bZ (jy (c:=.ty "tuple") trivial M) (by rfl) J.aW ja6 (qa q_r (aP (fY (IL (v:=.ty "tuple") rfl J.bE boot_tuple M)))))))))) BJ az) (aG (fO (nD q_r (aP (aR (qa q_r (qa q_r (qa q_r (aP (aH q_r E m))))))))))))) (aG (ai q_r))))) λL S H x hd h=>?_;obtain⟨f,B,rfl,q,Q,ok,h⟩:=h;refine(Jb (mD (eZ q)) λG p=>?_);refine bV (CQ A) (λj Z n=>∃y z,Z=[some (D.ob f),some (D.ob (S.length+0)),y,z]/\n=S++[O.lst (j.map VC)]) ⟨_,_,M,M⟩ ?_ ?_
 .rintro j d post Z n N e ⟨y,z,rfl,rfl⟩ hN;have b:=ok d (by rw[e];simp);have F:j.length<B.length:=by rw[e];simp
  refine⟨p _,bY ?_⟩;refine dR (ja A) gB trivial (dI (by have:=b.al;lia)) (λr m I hk=>⟨r,M,λc s=>b.a r m c s,_,M,hk⟩) ?_;obtain⟨u,l,t,C,_⟩:=i7 A (S++[O.lst (j.map VC)]) d.cond;refine⟨M,_,true,M,S7 K _,_,M,M,_,true,M,S6 K,_,M,⟨M,_,eS M⟩,qU d.cond,u,l,dh _,t,C,d.cond,M,M,b.c.1,b.c.2,_,dD,By (by rw[jac];lia),?_⟩;rw[fc];refine hN _ _ ⟨_,_,M,?_⟩;rw[jaj];rfl
 .rintro Z n ⟨y,z,rfl,rfl⟩;exact⟨p _,Hj x rfl h⟩
abbrev Iv:Stmt:=top 89
def N2(J:Fx K mg A):Ky P w K mg base k Iv ["_law_found","_law_path","_law_kind","_law_at","_law_told"] MR:=by
 refine dk (N:=["_law_found","_law_path","_law_kind","_law_at","_law_told"]) bO (rfl:_=[_,_]) (λe g=>(qs (fO (nD q_r aj)) (aG (ai q_r)))) λn S j o hd h=>?_;obtain⟨f,m,p,i,a,c,rfl,b,d,l,h⟩:=h;refine⟨⟨M,_,eZ b⟩,_,b,Nat.lt_of_le_of_lt (by rw[jac];exact d) (by rw[jbe];decide),dI (by simp only[jac,jak,jaI];lia),jw ?_⟩;rw[jaj,jaj] at h;exact h
abbrev D4:Stmt:=top 90
def Kl(J:Fx K mg A):Ky P w K mg base k D4 ["_law_things"] Ik:=by
 refine dk (N:=["_law_things","_law_rows","_law_thing"]) bO (rfl:_=[_,_,_]) (λj f=>(qs (ak (i:=1) f q_r) (qs (bf jaJ rfl (qi q_r) (qg (i:=2) f) (qs (ak (i:=1) f q_r) (aG (aJ (aD (dc j) q_r aT (aA _)) (aG (ak (i:=1) f (aX aL q_r (aR (aP (aR (qa aT (aP (aa bR j rfl (qa q_r (aP (aa fM j rfl aj)))))))))))) az)))) (aG (ai q_r))))) λE S v u hd h=>?_;obtain⟨p,l,rfl,n,s,q,h⟩:=h;refine(OP n (bV T.str (λa Z g=>∃y,Z=[some p,some (.tup (((a.map aQ).flatten).map gB)),y]/\g=S) ⟨_,M,M⟩ ?_ ?_))
 .rintro a x post Z g N e ⟨y,rfl,rfl⟩ hN;obtain⟨t,c,r,d⟩:=q x (by rw[e];simp);have C:=fX a;have B:a.length<=8:=by rw[e,jab] at s;lia
  refine⟨trivial,eF (by simp only[jac,jak,jaI];lia),eF (by lia),c,by rw[d];exact at0,?_⟩;by_cases b:c=35
  .have er:aQ x=[.any x,.hd (CI (on x))]:=by unfold aQ;rw[qe d,jaf (jaB b)]
   refine⟨true,jao D.bl (seq (Fj.mpr b)),x,M,([],0),on x,M,eF (by simp only[jac,jab,jak,jaI];lia),?_⟩;have m:((((a++[x]).map aQ).flatten).map gB)=(((a.map aQ).flatten).map gB++[.tup [.str "any",.str x]])++[.tup [.str "hold",je (zl ([],0) (on x))]]:=by
    rw[tT,er,jaQ];rfl
   rw[<- m];exact hN _ _ ⟨_,M,M⟩
  .have er:aQ x=[.any x]:=by unfold aQ;rw[qe d,jau b];rfl
   refine⟨false,jao D.bl (cF λz=>b (Fj.mp z)),?_⟩;have m:((((a++[x]).map aQ).flatten).map gB)=((a.map aQ).flatten).map gB++[.tup [.str "any",.str x]]:=by
    rw[tT,er];rfl
   have o:=hN [some p,some (.tup ((((a++[x]).map aQ).flatten).map gB)),some (.str x)] g ⟨_,M,M⟩;rw[m] at o;exact o
 .rintro Z g ⟨y,rfl,rfl⟩;exact⟨trivial,aE u h⟩
abbrev qX:Stmt:=top 82
def zL(J:Fx K mg A)(gQ:Dn P w K mg base k "_law_opposite" ["_law_told"] (cu K (wN n))):Ky P w K mg base k qX ["_law_told"] (wN (n+1)):=by
 refine dk (N:=["_law_told","_law_sign"]) bO (rfl:_=[_,_,_]) (λd m=>(qs (aJ (aD (dc d) q_r aT (aA _)) (qs (ak (i:=1) m (s9 (mF d) (WR M) q_r)) (aG (ai q_r))) az) (qs (aJ (aD (dc d) q_r aT (aA _)) (aG (ai q_r)) az) (aG (ai (aX aL (aR (aP (s9 (mF d) (WO M) q_r))) (cD J.bE (aP (ck (cS ["_law_one_here"]) rfl (qi (qh false q_r (bT aF) lg)) (λ_ _ _ _=>(qx (i:=0) Oh)) (λ_ _ _ _=>bJ) (λ_ _ _ _=>(aa gQ d rfl aj))))))))))) λu S r j hd h=>?_;obtain⟨c,rfl,g,o,e,h⟩:=h;cases c with
 |cmp a s b=>
  unfold uf at e;unfold aN.iZ at h;rw[wz] at h ⊢;exact⟨true,UZ,_,_,_,_,M,ao,M,So e,yX j h⟩
 |neg c=>
  unfold aN.iZ at h;rw[CY];exact⟨false,U0,true,UZ,aE j h⟩
 |con q p=>
  unfold aN.iZ at h;unfold aN.dep at g;unfold aN.sz at o;unfold uf at e;have l:=vW p;rw[jR] at h ⊢;refine oe at0 ⟨false,jao D.bl (cF (by cases q<;>symm)),oe at0 ⟨false,jao D.bl (cF (by cases q<;>symm)),oe at0 ⟨_,_,_,_,M,ao,M,Q4 q,G8 (by simp),?_⟩⟩⟩;rw[yS];refine bY (dR je (λc=>je c.iZ) trivial (eF (by lia)) (λc f t hk=>?_) ?_)
  .exact⟨c,M,by have:=jP f;lia,by have:=wK f;lia,rZ e.1 f,_,M,hk⟩
  .rw[rJ,jaM] at h;exact⟨eF (by simp;lia),yX j h⟩
abbrev uz:Stmt:=top 85
def rL(J:Fx K mg A){q0:Nat}(eV:Dn P w K mg base k "_law_written" ["_law_steps_here"] (cu K (Wz q0))):Ky P w K mg base k uz ["_law_steps_here"] (DL q0):=by
 refine dk (N:=["_law_steps_here","_law_found","_law_step_here"]) bO (rfl:_=[_,_,_]) (λG L=>(qs (ak (i:=1) L (gI cG)) (qs (bf jaJ rfl (qi q_r) (qg (i:=2) L) (qs (aJ (aD XG q_r q_r (by rfl)) (aG (fO (nD q_r aj))) az) (qs (aJ (aD (dc G) q_r aT (aA _)) (aG (fO (nD q_r aj))) az) (qs (aJ (aD (dc G) q_r aT (aA _)) (aG (ak (i:=1) L (aX Oa q_r (aa eV G rfl aj)))) az) (aG (aJ (aD (dc G) q_r aT (aA _)) (aG (ak (i:=1) L (aX Oa q_r (aa eV G rfl aj)))) az)))))) (aG (ai (RK rfl J.jB rfl J.FD rfl q_r)))))) λF S kk hc hd h=>?_;obtain⟨l,N,rfl,g,C,hl,hq,h⟩:=h;refine(bY (bV jM (λd Z W=>∃y j q,Z=[some (.tup (l.map jM)),some (D.ob (S.length+q)),y]/\W=S++j/\j[q]?=some (O.lst (((d.map vF).flatten).map T.str))) ⟨none,[O.lst []],0,M,M,M⟩ ?_ ?_))
 .rintro d s post Z W Nx e ⟨y,j,q,rfl,rfl,A4⟩ hN;have hm:s∈l:=by rw[e];simp
  have B:=bH g hm;have F:=jai (eT hm) hq;have h2:d.length<=5:=by rw[e,jab,jak] at hl;lia
  have hb0:(((d.map vF).flatten).map T.str).length<=40:=by
   rw[jac];have:=iF (n:=8) (l:=d.map vF) λx V=>by
    obtain⟨u,m,rfl⟩:=jaq.mp V;exact Cw (bH g (show u∈l by rw[e];exact jaA _ m)) C
   rw[jac] at this;lia
  have v:(((d.map vF).flatten).map T.str).length<=1000:=by lia
  have Q:∀o,(j.set q o)[q]?=some o:=λo=>jaG (jar.mp A4).1;have Y:∀(H:vF s=[]),(((d++[s]).map vF).flatten).map T.str=((d.map vF).flatten).map T.str:=λH=>by simp[H]
  have R:∀{x:Str}(H:vF s=[x]),(((d++[s]).map vF).flatten).map T.str=((d.map vF).flatten).map T.str++[T.str x]:=λH=>by simp[H]
  refine⟨trivial,?_⟩;cases s with
  |lt a x s=>
   refine zH rfl (dO (xs:=["let","divide","fetch"]) (by symm)) ?_;refine⟨⟨M,_,eS A4⟩,_,dD.trans A4,By v,?_⟩;rw[fc]
   try dsimp only
   exact di rfl (cF (by symm)) (di rfl (cF (by symm)) (rG rfl (cF (by symm)) (hN _ _ ⟨_,_,q,M,M,(Q _).trans (by rw[R rfl])⟩)))
  |dv a x wd s b=>
   refine zH rfl (dO (xs:=["let","divide","fetch"]) (by symm)) ?_;refine⟨⟨M,_,eS A4⟩,_,dD.trans A4,By v,?_⟩;rw[fc]
   try dsimp only
   exact di rfl (cF (by symm)) (di rfl (cF (by symm)) (rG rfl (cF (by symm)) (hN _ _ ⟨_,_,q,M,M,(Q _).trans (by rw[R rfl])⟩)))
  |ft a x r p=>
   refine zH rfl (dO (xs:=["let","divide","fetch"]) (by symm)) ?_;refine⟨⟨M,_,eS A4⟩,_,dD.trans A4,By v,?_⟩;rw[fc]
   try dsimp only
   exact di rfl (cF (by symm)) (di rfl (cF (by symm)) (rG rfl (cF (by symm)) (hN _ _ ⟨_,_,q,M,M,(Q _).trans (by rw[R rfl])⟩)))
  |pt a r p s=>
   exact di rfl (dO (xs:=["let","divide","fetch"]) (by symm)) (di rfl (cF (by symm)) (di rfl (cF (by symm)) (rG rfl (cF (by symm)) (hN _ _ ⟨_,j,q,M,M,by rw[Y rfl];exact A4⟩))))
  |mq a r z=>
   refine di rfl (dO (xs:=["let","divide","fetch"]) (by symm)) (zH rfl (seq M) ?_);unfold bP at B;refine⟨⟨M,_,eS A4⟩,by exact eF (by show 1+_<=1000;lia),_,dD.trans A4,By v,?_⟩;rw[fc]
   try dsimp only
   exact di rfl (cF (by symm)) (rG rfl (cF (by symm)) (hN _ _ ⟨_,_,q,M,M,(Q _).trans (by rw[R (x:=hsh r) rfl];rfl)⟩))
  |cm a c=>
   exact di rfl (dO (xs:=["let","divide","fetch"]) (by symm)) (di rfl (cF (by symm)) (di rfl (cF (by symm)) (rG rfl (cF (by symm)) (hN _ _ ⟨_,j,q,M,M,by rw[Y rfl];exact A4⟩))))
  |ch a c t E=>
   refine di rfl (dO (xs:=["let","divide","fetch"]) (by symm)) (di rfl (cF (by symm)) (zH rfl (seq M) ?_));have U:=Cw B C;obtain⟨q0,rfl⟩:∃X,q0=X+1:=⟨q0 - 1,by unfold ah.dp at F;lia⟩
   unfold bP at B;unfold ah.dp at F;have ge:cU N (t++E):=fk λu m=>by rcases jan.mp m with m | m;exact bH B.2.1 m;exact bH B.2.2.1 m
   have de:jv (t++E)<=q0:=qv λu m=>by
    rcases jan.mp m with m | m
    .have:=eT m;lia
    .have:=eT m;lia
   refine⟨eF (by rw[bS,bS,jac,jac];lia),t++E,N,by rw[bS,bS,jaj],ge,C,by rw[jab];lia,de,_,_,eS A4,M,eF (by rw[jac (f:=T.str) (as:=dY _)];have:(dY (t++E)).length<=8:=U;lia),?_⟩;rw[jaQ,jab]
   try dsimp only
   refine rG rfl (cF (by symm)) (hN _ _ ⟨_,_,j.length,M,M,?_⟩);have:((d++[ah.ch a c t E]).map vF).flatten=(d.map vF).flatten++dY (t++E):=by simp[vF]
   rw[this,jaj];exact CB
  |rp a c hs fa I=>
   refine di rfl (dO (xs:=["let","divide","fetch"]) (by symm)) (di rfl (cF (by symm)) (di rfl (cF (by symm)) (a0P rfl (seq M) ?_)));have U:=Cw B C;obtain⟨q0,rfl⟩:∃X,q0=X+1:=⟨q0 - 1,by unfold ah.dp at F;lia⟩
   unfold bP at B;unfold ah.dp at F;refine⟨I,N,by rw[bS],B.2.2.2.2.1,C,by lia,by lia,_,_,eS A4,M,eF (by rw[jac (f:=T.str) (as:=dY _)];have:(dY I).length<=8:=U;lia),?_⟩;rw[jaQ,jab];refine hN _ _ ⟨_,_,j.length,M,M,?_⟩;have:((d++[ah.rp a c hs fa I]).map vF).flatten=(d.map vF).flatten++dY I:=by simp[vF]
   rw[this,jaj];exact CB
 .rintro Z W ⟨y,j,q,rfl,rfl,A4⟩;have h1:=iF (n:=8) (l:=l.map vF) λx V=>by
   obtain⟨u,m,rfl⟩:=jaq.mp V;exact Cw (bH g m) C
  rw[jac] at h1;rw[<- Vc] at h;exact⟨trivial,_,N,eS A4,by lia,by lia,Yb g C,yX hc h⟩
abbrev AH:Stmt:=top 88
def xR(J:Fx K mg A){q0:Nat}(jS:Dn P w K mg base k "_law_stand" ["_law_steps_here"] (cu K (JS q0)))(eV:Dn P w K mg base k "_law_written" ["_law_steps_here"] (cu K (DL q0))):Ky P w K mg base k AH ["_law_steps_here"] (qQ q0):=by
 refine dk (N:=["_law_steps_here","_law_found","_law_step_here","_law_at","_law_told"]) bO (rfl:_=[_,_,_]) (λo F=>(qs (ak (i:=1) F (aa eV o rfl aj)) (qs (bf jaJ rfl (qi q_r) (qg (i:=2) F) (qs (aJ (aD (dc o) q_r aT (aA _)) (aG (ak (i:=1) F (aX aL q_r (aa cM o rfl (aP (bG aj)))))) az) (qs (aJ (aD (dc o) q_r aT (aA _)) (aG (ak (i:=1) F (aX aL q_r (aa cM o rfl (aP (bG aj)))))) az) (qs (aJ (aD (dc o) q_r aT (aA _)) (aG (ak (i:=1) F (aX aL (aX aL q_r (aa cM o rfl (aP (bG aj)))) (bG aj)))) az) (qs (aJ (aD (dc o) q_r aT (aA _)) (aG (ak (i:=1) F (aX aL (aX aL q_r (aa cM o rfl (aP (bG aj)))) (bG aj)))) az) (qs (aJ (aD (dc o) q_r aT (aA _)) (aG (ak (i:=1) F (aX aL q_r (aa cM o rfl (aP (bG aj)))))) az) (qs (aJ (aD XG q_r q_r (by rfl)) (aG (ak (i:=1) F (aX aL q_r (aa eU o rfl aj)))) az) (qs (aJ (aD (dc o) q_r aT (aA _)) (aG (ak (i:=1) F (aX aL q_r (aa jS o rfl aj)))) az) (aG (aJ (aD (dc o) q_r aT (aA _)) (qs (bf jaJ rfl (qi q_r) (ia (n:=2) rfl (sP (qg (i:=3) F) (sP (qg (i:=4) F) fF))) (aG (ak (i:=1) F (aX aL q_r (aa eU o rfl aj))))) (qs (aJ (aD lC q_r nA (aA _)) (aG (ak (i:=1) F (aX aL q_r (aa cM o rfl (aP (bG aj)))))) az) (aG (ak (i:=1) F (aX aL q_r (aa jS o rfl aj)))))) az)))))))))) (aG (ai q_r))))) λds S kk hc hd h=>?_;obtain⟨l,N,rfl,g,V,hl,X,hq5,h⟩:=h;refine⟨l,N,M,g,V,hl,X,bY (bV jM (λj Z S'=>∃y z w,Z=[some (.tup (l.map jM)),some (D.t (jn (dY l++fH j))),y,z,w]/\S'=S) ⟨none,none,none,by rw[fH,jaw];rfl,M⟩ ?_ ?_)⟩
 .rintro j s post Z S' Nx e ⟨y,z0,w0,rfl,rfl⟩ hN;have hm:s∈l:=by rw[e];simp
  have d:=bH g hm;have ds:=jai (eT hm) X;have b5:bq 5=6470:=by decide
  have I:(eO s).length<=6470:=by have:=Ou (q:=5) V d (by have:=Vz s;lia);lia
  have hQl:(dY l++fH j).length<=40000:=by
   have h1:=(iC g V).1;have h4:j.length<=6:=by rw[e,jab] at hl;lia
   have gp:cU N j:=fk λu C=>bH g (by rw[e];exact jaA _ C);have dpp:jv j<=q0:=qv λu C=>jai (eT (show u∈l by rw[e];exact jaA _ C)) X;have h3:=lH (q:=5) V gp (by have:=yP j;lia);have h5:=jaC (bq 5) h4;rw[jab];lia
  generalize hQ:dY l++fH j=Q at hQl ⊢;have W:Q++eO s=dY l++fH (j++[s]):=by rw[<- hQ,we,SQ,jaQ]
  have G:Q.map T.str++(eO s).map T.str=(dY l++fH (j++[s])).map T.str:=by rw[<- W,jaj]
  have L:∀{R m:jcI},R.length<=80000->m.length<=40000->(R.map T.str).length+(m.map T.str).length<=sizeLine:=λhR hm=>dI (by rw[jac,jac];lia);have fin:∀y z w,Nx [some (.tup (l.map jM)),some (D.t (jn (dY l++fH (j++[s])))),y,z,w] S':=λy z w=>hN _ _ ⟨y,z,w,M,M⟩;refine⟨trivial,?_⟩;cases s with
  |lt a x s=>
   have I:(eO (.lt a x s)).length<=6470:=I;have G:Q.map T.str++(s.aU).map T.str=_:=G;unfold bP at d;refine zH rfl (seq M) ?_;refine⟨_,[s],M,.inl M,by simp,(λt E=>by rw[jag.mp E];exact kY d.2),_,_,M,M,L (by lia) (by rw[show([s].map Sm.aU).flatten=s.aU from by simp];have:=I;simp only[eO] at this;lia),?_⟩;rw[show([s].map Sm.aU).flatten=s.aU from by simp,G]
   try dsimp only
   exact di rfl (cF (by symm)) (di rfl (cF (by symm)) (di rfl (cF (by symm)) (di rfl (cF (by symm)) (di rfl (dO (xs:=["claim","choose","repeat"]) (by symm)) (di rfl (cF (by symm)) (rG rfl (cF (by symm)) (fin _ _ _)))))))
  |dv a x wd s b=>
   have G:Q.map T.str++(s.aU++b.aU).map T.str=_:=G;unfold bP at d;refine di rfl (cF (by symm)) (zH rfl (seq M) ?_);refine⟨_,[s,b],M,.inl M,by simp,(λt E=>by rcases jah.mp E with rfl | E;exact kY d.2.2.1;rw[jag.mp E];exact kY d.2.2.2),_,_,M,M,L (by lia) (by rw[show([s,b].map Sm.aU).flatten=s.aU++b.aU from by simp];have:=I;simp only[eO] at this;lia),?_⟩;rw[show([s,b].map Sm.aU).flatten=s.aU++b.aU from by simp,G]
   try dsimp only
   exact di rfl (cF (by symm)) (di rfl (cF (by symm)) (di rfl (cF (by symm)) (di rfl (dO (xs:=["claim","choose","repeat"]) (by symm)) (di rfl (cF (by symm)) (rG rfl (cF (by symm)) (fin _ _ _))))))
  |ft a x r p=>
   unfold bP at d;refine di rfl (cF (by symm)) (di rfl (cF (by symm)) (zH rfl (seq M) ?_));have B:p.aU.length<=6470:=by have:=I;simp only[eO,jab] at this;lia
   refine⟨_,[p],M,.inl M,by simp,(λt E=>by rw[jag.mp E];exact kY d.2.2),_,_,M,M,L (by lia) (by rw[show([p].map Sm.aU).flatten=p.aU from by simp];lia),by have:=d.2.1.1;exact eF (by show 1+_<=1000;lia),_,_,M,M,?_,?_⟩
   .rw[show([p].map Sm.aU).flatten=p.aU from by simp];exact dI (by simp only[jab,jac,jak,jaI];lia)
   have O:((Q.map T.str++([p].map Sm.aU).flatten.map T.str)++[T.str ("#"++r)])=(Q++eO (.ft a x r p)).map T.str:=by simp[eO];rfl
   rw[O,W]
   try dsimp only
   exact di rfl (cF (by symm)) (di rfl (cF (by symm)) (di rfl (dO (xs:=["claim","choose","repeat"]) (by symm)) (di rfl (cF (by symm)) (rG rfl (cF (by symm)) (fin _ _ _)))))
  |pt a r p s=>
   unfold bP at d;refine di rfl (cF (by symm)) (di rfl (cF (by symm)) (di rfl (cF (by symm)) (zH rfl (seq M) ?_)));have B:p.aU.length+s.aU.length<=6470:=by have:=I;simp only[eO,jab] at this;lia
   refine⟨_,[p,s],M,.inl M,by simp,(λt E=>by rcases jah.mp E with rfl | E;exact kY d.2.1;rw[jag.mp E];exact kY d.2.2),_,_,M,M,L (by lia) (by rw[show([p,s].map Sm.aU).flatten=p.aU++s.aU from by simp,jab];lia),by have:=d.1.1;exact eF (by show 1+_<=1000;lia),_,_,M,M,?_,?_⟩
   .rw[show([p,s].map Sm.aU).flatten=p.aU++s.aU from by simp];exact dI (by simp only[jab,jac,jak,jaI];lia)
   have O:((Q.map T.str++([p,s].map Sm.aU).flatten.map T.str)++[T.str ("#"++r)])=(Q++eO (.pt a r p s)).map T.str:=by simp[eO];rfl
   rw[O,W]
   try dsimp only
   exact di rfl (cF (by symm)) (di rfl (dO (xs:=["claim","choose","repeat"]) (by symm)) (di rfl (cF (by symm)) (rG rfl (cF (by symm)) (fin _ _ _))))
  |mq a r z=>
   have I:(eO (.mq a r z)).length<=6470:=I;have G:Q.map T.str++(z.aU).map T.str=_:=G;unfold bP at d;refine di rfl (cF (by symm)) (di rfl (cF (by symm)) (di rfl (cF (by symm)) (di rfl (cF (by symm)) (zH rfl (seq M) ?_))));refine⟨_,[z],M,.inl M,by simp,(λt E=>by rw[jag.mp E];exact kY d.2),_,_,M,M,L (by lia) (by rw[show([z].map Sm.aU).flatten=z.aU from by simp];have:=I;simp only[eO] at this;lia),?_⟩;rw[show([z].map Sm.aU).flatten=z.aU from by simp,G]
   try dsimp only
   exact di rfl (dO (xs:=["claim","choose","repeat"]) (by symm)) (di rfl (cF (by symm)) (rG rfl (cF (by symm)) (fin _ _ _)))
  |cm a c=>
   have G:Q.map T.str++(c.sums.map Sm.aU).flatten.map T.str=_:=G;unfold bP at d;have hc1:=iG d;refine di rfl (cF (by symm)) (di rfl (cF (by symm)) (di rfl (cF (by symm)) (di rfl (cF (by symm)) (di rfl (cF (by symm)) (zH rfl (dO (xs:=["claim","choose","repeat"]) (by symm)) ?_)))));refine⟨c,M,d.dep,y9 d,_,_,M,M,L (by lia) (by lia),?_⟩;rw[G]
   try dsimp only
   exact di rfl (cF (by symm)) (rG rfl (cF (by symm)) (fin _ _ _))
  |ch a c t U=>
   unfold bP at d;unfold ah.dp at ds;obtain⟨q0,rfl⟩:∃q1,q0=q1+1:=⟨q0 - 1,by lia⟩
   have hc1:=iG d.1;refine di rfl (cF (by symm)) (di rfl (cF (by symm)) (di rfl (cF (by symm)) (di rfl (cF (by symm)) (di rfl (cF (by symm)) (zH rfl (dO (xs:=["claim","choose","repeat"]) (by symm)) ?_)))));refine⟨c,M,d.1.dep,y9 d.1,_,_,M,M,L (by lia) (by lia),?_⟩
   try dsimp only
   refine zH rfl (seq M) ?_;have ge:cU N (t++U):=fk λu C=>by rcases jan.mp C with C | C;exact bH d.2.1 C;exact bH d.2.2.1 C
   have de:jv (t++U)<=q0:=qv λu C=>by
    rcases jan.mp C with C | C
    .have:=eT C;lia
    .have:=eT C;lia
   have Y:kU (t++U)=dY (t++U)++(fH t++fH U):=by unfold kU;rw[we]
   have hst:(kU (t++U)).length<=6470:=by rw[Y];have:=I;simp only[eO,jab] at this ⊢;lia
   refine⟨eF (by rw[bS,bS,jac,jac];lia),t++U,N,by rw[bS,bS,jaj],ge,V,by rw[jab];lia,de,by lia,_,_,M,M,?_,?_⟩
   .exact dI (by simp only[jab,jac (f:=T.str)];lia)
   have O:Q.map T.str++(c.sums.map Sm.aU).flatten.map T.str++(kU (t++U)).map T.str=(dY l++fH (j++[ah.ch a c t U])).map T.str:=by rw[<- W,Y];simp[eO]
   rw[O]
   try dsimp only
   exact rG rfl (cF (by symm)) (fin _ _ _)
  |rp a c hs fa H=>
   unfold bP at d;unfold ah.dp at ds;obtain⟨q0,rfl⟩:∃q1,q0=q1+1:=⟨q0 - 1,by lia⟩
   have hc1:=iG d.1;refine di rfl (cF (by symm)) (di rfl (cF (by symm)) (di rfl (cF (by symm)) (di rfl (cF (by symm)) (di rfl (cF (by symm)) (zH rfl (dO (xs:=["claim","choose","repeat"]) (by symm)) ?_)))));refine⟨c,M,d.1.dep,y9 d.1,_,_,M,M,dI (by rw[jac,jac];lia),?_⟩
   try dsimp only
   refine di rfl (cF (by symm)) (a0P rfl (seq M) ?_);have Y:kU H=dY H++fH H:=rfl;have hst:(kU H).length<=6470:=by rw[Y];have:=I;simp only[eO,jab] at this ⊢;lia
   have hP:∀B X,hs=B++X->(B.map λp=>(p.2.sums.map Sm.aU).flatten).flatten.length<=24:=λB X e3=>by
    have:=GA (N:=N) (hs:=B) λp h=>d.2.2.1 p (by rw[e3];exact jaA _ h);have h5:B.length<=2:=by have:=d.2.1;rw[e3,jab] at this;lia
    lia
   refine bY (bV Lu (λB Z S2=>∃u v,Z=[some (.tup (l.map jM)),some (D.t (jn (Q++(c.sums.map Sm.aU).flatten++(B.map λp=>(p.2.sums.map Sm.aU).flatten).flatten))),some (.t (jM (.rp a c hs fa H))),u,v]/\S2=S') ⟨z0,w0,by simp only[jaX,jbG,jaw,jn,jaj];rfl,M⟩ ?_ ?_)
   .rintro B p o Z S2 Ny e3 ⟨u,v,rfl,rfl⟩ GZ;have gp:=d.2.2.1 p (by rw[e3];simp);have hl1:=hP B _ e3;have hl2:=iG gp;refine⟨trivial,_,M,M,_,_,M,_,_,M,M,p.2,M,gp.dep,y9 gp,_,_,M,M,L (by rw[jab,jab];lia) (by lia),GZ _ _ ⟨some (.int p.1),some (.t (je p.2)),?_,M⟩⟩;have e7:(Q++(c.sums.map Sm.aU).flatten++(B.map λp=>(p.2.sums.map Sm.aU).flatten).flatten).map T.str++(p.2.sums.map Sm.aU).flatten.map T.str=(Q++(c.sums.map Sm.aU).flatten++((B++[p]).map λp=>(p.2.sums.map Sm.aU).flatten).flatten).map T.str:=by simp
    have e6:jn (Q++(c.sums.map Sm.aU).flatten++((B++[p]).map λp=>(p.2.sums.map Sm.aU).flatten).flatten)=.lst ((Q++(c.sums.map Sm.aU).flatten++(B.map λp=>(p.2.sums.map Sm.aU).flatten).flatten).map T.str++(p.2.sums.map Sm.aU).flatten.map T.str):=by unfold jn;rw[e7]
    rw[e6];rfl
   .rintro Z S2 ⟨u,v,rfl,rfl⟩;have hl1:=hP hs [] (by simp);refine⟨trivial,?_⟩;cases fa with
    |none=>
     refine⟨false,M,H,N,by rw[bS],d.2.2.2.2.1,V,by lia,by lia,by lia,_,_,M,M,L (by rw[jab,jab];lia) (by lia),?_⟩;have O:(Q++(c.sums.map Sm.aU).flatten++(hs.map λp=>(p.2.sums.map Sm.aU).flatten).flatten).map T.str++(kU H).map T.str=(dY l++fH (j++[ah.rp a c hs none H])).map T.str:=by rw[<- W,Y];simp[eO]
     rw[O];exact fin _ _ _
    |some w=>
     have gw:=d.2.2.2.1 w rfl;have:=gw.few;have:=bB w.2;refine⟨true,M,_,[w.2],M,.inl M,by simp,(λt E=>by rw[jag.mp E];exact kY gw),_,_,M,M,L (by rw[jab,jab];lia) (by rw[show([w.2].map Sm.aU).flatten=w.2.aU from by simp];lia),?_⟩;refine⟨H,N,by rw[bS],d.2.2.2.2.1,V,by lia,by lia,by lia,_,_,M,M,dI (by simp only[jab,jac (f:=T.str)];rw[show([w.2].map Sm.aU).flatten=w.2.aU from by simp];lia),?_⟩;have O:(Q++(c.sums.map Sm.aU).flatten++(hs.map λp=>(p.2.sums.map Sm.aU).flatten).flatten).map T.str++(([w.2].map Sm.aU).flatten).map T.str++(kU H).map T.str=(dY l++fH (j++[ah.rp a c hs (some w) H])).map T.str:=by rw[<- W,Y];simp[eO]
     rw[O];exact fin _ _ _
 .rintro Z S' ⟨y,z0,w0,rfl,rfl⟩;exact⟨trivial,aE hc h⟩
abbrev M6:Stmt:=top 91
def IQ(J:Fx K mg A)(C5:Dn P w K mg base k "_law_behind" ["_law_found","_law_helpers","_law_step_here","_law_path"] (cu K (om q))):Ky P w K mg base k M6 ["_law_found","_law_helpers","_law_steps_here","_law_path"] (DP q):=by
 refine dk (N:=["_law_found","_law_helpers","_law_steps_here","_law_path","_law_paths","_law_step_here","_law_behind_here","_law_one_here"]) bO (rfl:_=[_,_,_]) (λW o=>(qs (ak (i:=4) o (bG aj)) (qs (bf jaJ rfl (qi q_r) (qg (i:=5) o) (qs (ak (i:=6) o (bG cG)) (qs (bf jaJ rfl (qi q_r) (qg (i:=7) o) (aG (ak (i:=6) o (aX aL q_r (aa C5 W rfl aj))))) (qs (aJ (aD EG (ic J.kK aj) aF (aA _)) (qs (fO (nD q_r aj)) (aG (ak (i:=6) o (qh false q_r lg (bT aF))))) az) (aG (ak (i:=4) o q_r)))))) (aG (ai q_r))))) λF S kk hc hd h=>?_;obtain⟨f,x,G,p,l,N,rfl,O,v,h2,g,C,L,h⟩:=h;have r:=(jar.mp O).1;refine bY (bV jM (λa Z j=>∃y z w,Z=[some (D.ob f),some (.t x),some (.tup (l.map jM)),some (.tup (p.map gB)),some (.lst (zJ (bh a [p]).2)),y,z,w]/\j=S.set f (.lst ((G++(bh a [p]).1).map yR))) ⟨none,none,none,?_,?_⟩ ?_ ?_)
 .rw[bh];rfl
 .rw[bh,jaw,set_same O]
 .rintro a s post Z j Nx e ⟨y,z,w,rfl,rfl⟩ b;have Q:s∈l:=by rw[e];simp
  have I:=bH g Q;have F:=jai (eT Q) L;have gp:cU N a:=fk λu E=>bH g (by rw[e];exact jaA _ E);have dp:jv a<=q:=qv λu E=>jai (eT (show u∈l by rw[e];exact jaA _ E)) L;obtain⟨lb,lc⟩:=uZ (d:=q) (m:=p.length) (ps:=[p]) gp C dp (by simp) (by simp);have B:(a.length+1)*mx q<=l.length*mx q:=jaC _ (by rw[e];simp);rw[jbn] at B;have V:(bh l [p]).1.length=(bh a [p]).1.length+((AY (gz s) (bh a [p]).2).1.length+(bh post (AY (gz s) (bh a [p]).2).2).1.length):=by rw[e,ES,dj];simp
  have eA:(((bh a [p]).2.map λp=>(gz s p).1).flatten).length<=(AY (gz s) (bh a [p]).2).1.length:=by unfold AY;split<;>simp
  rw[V] at v;refine⟨trivial,?_⟩;dsimp only[A6];refine gC (bV (λw=>T.tup (w.map gB)) (λc Z j=>∃w,Z=[some (D.ob f),some (.t x),some (.tup (l.map jM)),some (.tup (p.map gB)),some (.lst (zJ (bh a [p]).2)),some (.t (jM s)),some (.lst (zJ (c.map λp=>(gz s p).2).flatten)),w]/\j=S.set f (.lst ((G++(bh a [p]).1++(c.map λp=>(gz s p).1).flatten).map yR))) ⟨_,M,?_⟩ ?_ ?_)
  .simp
  .rintro c w1 qr Z j Ny e2 ⟨w,rfl,rfl⟩ GZ;have H:w1∈(bh a [p]).2:=by rw[e2];simp
   have hwl:=lb.p w1 H;have X:c.length<=15:=by have:=jao List.length e2;rw[jab,jak] at this;lia
   have e9:(((bh a [p]).2.map λp=>(gz s p).1).flatten).length=((c.map λp=>(gz s p).1).flatten).length+((gz s w1).1.length+((qr.map λp=>(gz s p).1).flatten).length):=by rw[e2];simp
   have f2:=iF (n:=32) (l:=c.map λp=>(gz s p).2) λy R=>by
    obtain⟨u,E,rfl⟩:=jaq.mp R;exact(KC u I C F).2
   rw[jac] at f2;have f4:=(KC w1 I C F).2;refine⟨trivial,f,x,_,w1,s,N,M,vI r,by rw[jab,jab];lia,by lia,I,C,F,?_⟩;rw[jat];refine⟨_,_,M,M,eF (by unfold zJ;rw[jac,jac];lia),GZ _ _ ⟨some (.tup (w1.map gB)),?_,?_⟩⟩
   .have e3:zJ (c.map λp=>(gz s p).2).flatten++zJ (gz s w1).2=zJ ((c++[w1]).map λp=>(gz s p).2).flatten:=by unfold zJ;simp
    rw[e3];rfl
   .simp
  .rintro Z j ⟨w,rfl,rfl⟩;have b:=λy w=>b [some (D.ob f),some (.t x),some (.tup (l.map jM)),some (.tup (p.map gB)),some (.lst (zJ (bh (a++[s]) [p]).2)),some (.t (jM s)),y,w] _ ⟨_,y,w,M,M⟩;rw[AX] at b;unfold AY at b v;generalize ((bh a [p]).2.map λp=>(gz s p).2).flatten=B2 at b v ⊢;generalize ((bh a [p]).2.map λp=>(gz s p).1).flatten=A2 at b v ⊢;refine⟨trivial,decide (16<B2.length),jao D.bl (jbT.mpr (by unfold zJ;rw[jac];lia)),?_⟩;by_cases big:16<B2.length
   .rw[jaf big] at b;rw[jaf big,jab,ja0] at v;rw[jaf (jaB big)];refine⟨⟨M,_,eZ (vI r)⟩,_,vI r,Nat.lt_of_le_of_lt (m:=9000000) (by rw[jac,jab,jab];lia) (by rw[jbe];decide),?_⟩;rw[jat];have U:oU (zJ B2) none (some (1:Int))=zJ (B2.take 1):=La _ B2 1;refine⟨_,M,?_⟩;rw[U,jae jaN];have Y:(G++((bh a [p]).1++(A2++[none]))).map yR=(G++(bh a [p]).1++A2).map yR++[T.tup [.str "many"]]:=by simp[yR]
    have b:=b (some (.lst (zJ (B2.take 1)))) w;rw[Y] at b;exact b
   .rw[jae big] at b;rw[jae (by rw[jau big];decide)];rw[<- jaQ] at b;exact b _ _
 .rintro Z j ⟨y,z,w,rfl,rfl⟩;exact⟨trivial,jw h⟩
abbrev wW:Stmt:=top 92
def En(J:Fx K mg A)(U:Dn P w K mg base k "_law_round" ["_law_found","_law_helpers","_law_step_here","_law_path"] (cu K (DO q)))(R:Dn P w K mg base k "_law_go" ["_law_found","_law_helpers","_law_steps_here","_law_path"] (cu K (DP q))):Ky P w K mg base k wW ["_law_found","_law_helpers","_law_step_here","_law_path"] (om (q+1)):=by
 refine dk (N:=["_law_found","_law_helpers","_law_step_here","_law_path","_law_kind","_law_row","_law_place_here","_law_last","_law_told","_law_then"]) bO (rfl:_=[_,_,_,_,_,_,_,_]) (λj u=>(qs (ak (i:=4) u q_r) (qs (aJ (aD (dc j) q_r aT (aA _)) (aG (ai (bG aj))) az) (qs (aJ (aD (dc j) q_r aT (aA _)) (aG (ai (bG (aP (aa fL j rfl aj))))) az) (qs (aJ (aD (dc j) q_r aT (aA _)) (qs (ak (i:=3) u (aa fL j rfl aj)) (aG (ai (bG (aP (aX aL q_r (aa z8 j rfl aj))))))) az) (qs (aJ (aD (dc j) q_r aT (aA _)) (qs (ak (i:=3) u (aa fL j rfl (qa q_r (qa q_r (qa aT (qa q_r (aP (aa bR j rfl aj)))))))) (aG (ai (bG aj)))) az) (qs (aJ (aD XG q_r q_r (by rfl)) (qs (Gy (s8 (WT (qa (qh false q_r (bT aF) (bT aF)) (aP (qh false q_r (bT aF) (bT aF))))) (iL PU (by rfl) J.P7 boot_int (aP (xJ (dc j) q_r aT (aA _))))) (ia (n:=2) rfl (sP (qg (i:=5) u) (sP (qg (i:=6) u) fF)))) (qs (ak (i:=7) u (aa jx j rfl (qa (aa fM j rfl aj) (qa (aR (qa q_r (aP (xH aF)))) aj)))) (qs (ak (i:=8) u (aR (qa aT (qa (aa bR j rfl aj) (aP (aa bR j rfl aj)))))) (qs (ak (i:=3) u (aa fL j rfl aj)) (qs (aJ (aD (dc j) q_r aT (aA _)) (aG (ak (i:=3) u q_r)) az) (aG (ai (bG aj)))))))) az) (qs (aJ (aD (dc j) q_r aT (aA _)) (qs (ak (i:=9) u (aa R j rfl aj)) (aG (ai (aX aL q_r (aa R j rfl (qa q_r (qa q_r (qa q_r (aP (aX aL q_r (aR (aP (aR (qa aT (aP (aa gQ j rfl aj)))))))))))))))) az) (aG (ai (bG (aP (aa U j rfl aj))))))))))))) λds S kk hc hd h=>?_;obtain⟨f,G,y,p,s,N,rfl,v,C,W,g,B,O,h⟩:=h;cases s with
 |lt a x s=>
  refine oV rfl (zH rfl (seq M) ?_);refine⟨dI (by simp only[jac,jab,jak,jaI];lia),jw ?_⟩;rw[gz] at h;simp only[gW,jaX,jaw] at h;rw[set_same v] at h;unfold zJ at h;simp only[jas,jaX,jaj] at h;exact h
 |cm a c=>
  rw[gz] at h;exact oV rfl (di rfl (cF (by symm)) (zH rfl (seq M) (Zh rfl ⟨f,y,p,"claim",a,c,M,v,by lia,by lia,jw h⟩)))
 |dv a x T s b=>
  have o:=g;unfold bP at o;obtain⟨Z,I,V,H⟩:=o;refine oV rfl (di rfl (cF (by symm)) (di rfl (cF (by symm)) (zH rfl (seq M) (s_call rfl ⟨f,y,p,"nought",a,.cmp b "!=" ([],0),by rw[wz];rfl,v,by lia,by lia,a,x,T,s,b,M,I,H.num,?_⟩))));rw[gz] at h;simp only[gW] at h;rw[K4 Z.1] at h;have hd6:(tU x T s b).length<=4:=by unfold tU;split<;>simp
  refine⟨dI (by simp only[jac,jab,jak,jaI];lia),jw ?_⟩;unfold zJ at h;simp only[jas,jaX] at h;rw[jaj (l₁:=p++_)] at h;exact h
 |mq a r z=>
  have o:=g;unfold bP at o;have j:=o.1.1;refine oV rfl (di rfl (cF (by symm)) (di rfl (cF (by symm)) (di rfl (cF (by symm)) (zH rfl (seq M) ?_))));refine⟨([],0),z,M,f,y,p,"short",a,CI z,M,v,by lia,by lia,?_⟩;refine⟨eF (by show 1+_<=1000;lia),dI (by simp only[jac,jab,jak,jaI];lia),jw ?_⟩;rw[gz] at h;simp only[gW] at h;unfold zJ at h;simp only[jas,jaX] at h;rw[jaj (l₁:=p++_)] at h;exact h
 |ft a x r z=>
  have o:=g;unfold bP at o;have j:=o.2.1.1;refine oV rfl (di rfl (cF (by symm)) (di rfl (cF (by symm)) (di rfl (cF (by symm)) (di rfl (cF (by symm)) (zH rfl (dO (xs:=["fetch","put"]) (by symm)) ?_)))));refine⟨(by show ¬(HT.fQ 5 0 (some 2)=0/\HT.fQ 5 5 (some 4)=5);decide),(by show ¬(HT.fQ 5 0 (some 3)=0/\HT.fQ 5 5 (some 5)=5);decide),_,M,sz 2,?_⟩;refine ixb (Zm (seq M)) rfl ?_;refine⟨_,M,M,_,_,M,_,_,M,M,by exact eF (by show 1+_<=1000;lia),hsh r,M,on (hsh r),([],-1),1,M,by show 1<=32;decide,by simp[on],by simp,⟨by decide,by decide⟩,?_⟩;have E:je (within r z)=.tup [.str "and",je (zl ([],0) z),je (zl z (iM (on (hsh r)) ([],-1) 1))]:=by unfold within;rw[jR,yx];rfl
  refine⟨([],0),z,M,z,iM (on (hsh r)) ([],-1) 1,M,f,y,p,"beyond",a,within r z,by rw[E],v,by lia,by lia,true,UZ,dI (by simp only[jac,jab,jak,jaI];lia),jw ?_⟩;rw[gz] at h;simp only[gW] at h;rw[JC o.1.1] at h;unfold zJ at h;simp only[jas,jaX] at h;rw[jaj (l₁:=p++_)] at h;exact h
 |pt a r z t=>
  have o:=g;unfold bP at o;have j:=o.1.1;refine oV rfl (di rfl (cF (by symm)) (di rfl (cF (by symm)) (di rfl (cF (by symm)) (di rfl (cF (by symm)) (zH rfl (dO (xs:=["fetch","put"]) (by symm)) ?_)))));refine⟨(by show ¬(HT.fQ 5 0 (some 2)=0/\HT.fQ 5 5 (some 4)=5);decide),(by show ¬(HT.fQ 5 0 (some 3)=0/\HT.fQ 5 5 (some 5)=5);decide),_,M,sz 2,?_⟩;refine ixb (Zn (cF (by symm))) rfl ?_;refine⟨_,M,M,_,_,M,_,_,M,M,by exact eF (by show 1+_<=1000;lia),hsh r,M,on (hsh r),([],-1),1,M,by show 1<=32;decide,by simp[on],by simp,⟨by decide,by decide⟩,?_⟩;have E:je (within r z)=.tup [.str "and",je (zl ([],0) z),je (zl z (iM (on (hsh r)) ([],-1) 1))]:=by unfold within;rw[jR,yx];rfl
  rw[gz] at h;refine⟨([],0),z,M,z,iM (on (hsh r)) ([],-1) 1,M,f,y,p,"beyond",a,within r z,by rw[E],v,by lia,by lia,false,U0,jw h⟩
 |ch a c t e=>
  have o:=g;unfold bP at o;unfold ah.dp at O;refine oV rfl (di rfl (cF (by symm)) (di rfl (cF (by symm)) (di rfl (cF (by symm)) (di rfl (cF (by symm)) (di rfl (dO (xs:=["fetch","put"]) (by symm)) (zH rfl (seq M) ?_))))));have X:mx (q+1)=26+2*mx q:=rfl;have m1:=jaC (mx q) o.2.2.2.1;have m2:=jaC (mx q) o.2.2.2.2;have L:=(jar.mp v).1;rw[gz] at h C;rw[jab] at C;have l1:=(uZ (d:=q) (m:=p.length+1) (ps:=[p++[.hd c]]) o.2.1 B (by lia) (by simp) (by simp)).2;have l2:=(uZ (d:=q) (m:=p.length+1) (ps:=[p++[.hd c.iZ]]) o.2.2.1 B (by lia) (by simp) (by simp)).2;refine⟨dI (by simp only[jac,jab,jak,jaI];lia),f,G,y,p++[.hd c],t,N,by rw[bS,jaj];rfl,v,by lia,by rw[jab,ja0];lia,o.2.1,B,by lia,?_⟩;refine⟨c,M,o.1.dep,by have:=o.1.sz;lia,o.1.sg,dI (by simp only[jac,jab,jak,jaI];lia),f,G,_,p++[.hd c.iZ],e,N,by rw[bS,jaj];rfl,vI L,by rw[jab];lia,by rw[jab,ja0];lia,o.2.2.1,B,by lia,?_⟩;rw[jat,jaQ];refine⟨_,_,M,M,eF (by unfold zJ;rw[jac,jac];lia),jw ?_⟩;unfold zJ at h;rw[jaj (l₁:=(bh t _).2)] at h;exact h
 |rp a c D Q F=>
  unfold ah.dp at O;refine oV rfl (di rfl (cF (by symm)) (di rfl (cF (by symm)) (di rfl (cF (by symm)) (di rfl (cF (by symm)) (di rfl (dO (xs:=["fetch","put"]) (by symm)) (di rfl (cF (by symm)) ?_))))));refine⟨f,G,y,p,a,c,D,Q,F,N,M,v,C,W,g,B,by lia,jw ?_⟩;have Y:(gz (.rp a c D Q F) p).2=[jH p D F++[.hd c.iZ]]:=by rw[gz]
  rw[Y] at h;exact h
abbrev AJ:Stmt:=top 94
def GG(J:Fx K mg A)(hq5:q<=4)(kH:Dn P w K mg base k "_law_go" ["_law_found","_law_helpers","_law_steps_here","_law_path"] (cu K (DP q))):Ky P w K mg base k AJ ["_law_found","_law_helpers","_law_step_here","_law_path"] (DO q):=by
 refine dk (N:=["_law_found","_law_helpers","_law_step_here","_law_path","_law_at","_law_told","_law_begun","_law_mark","_law_end","_law_less"]) bO (rfl:_=[_,_,_,_,_,_,_]) (λB s=>(qs (bf jaJ rfl (qi q_r) (ia (n:=2) rfl (sP (qg (i:=4) s) (sP (qg (i:=5) s) fF))) (aG (ak (i:=3) s (aa fL B rfl aj)))) (qs (ak (i:=3) s (aX aL (aX aL q_r (aa zf B rfl (aP (aa eV B rfl aj)))) (cD J.bE (aP (ck (cS ["_law_at","_law_told"]) rfl (qi q_r) (λ_ _ _ _=>(k7 (n:=2) rfl (Dl (qx (i:=0) zX) (Dl (qx (i:=1) zX) jb)))) (λ_ _ _ _=>bJ) (λ_ _ _ _=>q_r)))))) (qs (ak (i:=6) s q_r) (qs (ak (i:=7) s (aX aL aT (iL VN (by rfl) J.P5 boot_str aj))) (qs (aJ (aD lC q_r nA (aA _)) (qs (ak (i:=6) s (aa fL B rfl (qa q_r (qa q_r (qa aT (qa q_r (aP (aa bR B rfl aj)))))))) (aG (ak (i:=6) s q_r))) az) (qs (bf jaJ rfl (qi (aa kH B rfl aj)) (qg (i:=8) s) (qs (bf jaJ rfl (qi q_r) (ia (n:=2) rfl (sP (qg (i:=4) s) (sP (qg (i:=5) s) fF))) (aG (ak (i:=8) s (aa fL B rfl aj)))) (aG (aJ (aD lC q_r nA (aA _)) (qs (ak (i:=9) s (aa bR B rfl (qa q_r (aP (aa jx B rfl (qa (aa fM B rfl aj) (qa (aR (qa q_r (aP (xH aF)))) aj))))))) (aG (fO (aa fL B rfl aj)))) az)))) (aG (ai (aX aL q_r (aR (aP (aR (qa aT (aP (aa gQ B rfl aj)))))))))))))))) λds S kk hc hd h=>?_;obtain⟨f,x,G,p,a,c,hs,j,b,N,rfl,e0,h1,h2,g,O,hq,h⟩:=h;have gg:=g;unfold bP at gg;obtain⟨V,lh,gh,gf,L,lb,ga⟩:=gg;have E:=(jar.mp e0).1;have hmx:mx (q+1)=26+2*mx q:=rfl;have m1:=jaC (mx q) lb;have hrp:=rH (p:=p) (hs:=hs) L O lh;have hfl:=bu "first" p hs;obtain⟨U,hwP⟩:=iC L O;have W:=zk a j (jH p hs b++[.hd c]);have R:=zj a j (jH p hs b++[.hd c]);rw[gz] at h h1;rw[jab,jab,jab,jac,jac,jac] at h1;rw[jab (as:=jH p hs b),ja0] at R;have hl5:jv b<=5:=by lia
 refine bY (bV Lu (λo Z C=>∃u v,Z=[some (D.ob f),some (.t x),some (.t (jM (.rp a c hs j b))),some (.tup ((aq "first" p o).2.map gB)),u,v,none,none,none,none]/\C=S.set f (.lst ((G++(aq "first" p o).1.map some).map yR))) ⟨none,none,?_,?_⟩ ?_ ?_)
 .rfl
 .have e:G++((aq "first" p []).1).map some=G:=by unfold aq;simp
  rw[e,set_same e0]
 .rintro o r B Z C Nx e ⟨u,v,rfl,rfl⟩ F;have Q:=bu "first" p o;have X:=dm "first" p o;have hl3:o.length<=1:=by rw[e,jab,jak] at lh;lia
  have hl4:o.length+1<=hs.length:=by rw[e];simp
  refine⟨trivial,_,M,M,_,_,M,_,_,M,M,f,_,_,"first",r.1,r.2,M,vI E,by rw[jab,jac];lia,by lia,F _ _ ⟨some (.int r.1),some (.t (je r.2)),?_,?_⟩⟩
  .rw[iy];rfl
  .rw[jat,iz];simp
 .rintro Z C ⟨u,v,rfl,rfl⟩;have X:=dm "first" p hs;have hr1:=fX (dY b);refine⟨trivial,?_⟩;refine⟨b,N,by rw[bS],L,O,by lia,hl5,_,dY b,M,.inl M,U,λy hy=>NC (hwP y hy).2,dI (by simp only[jac,jab,jak,jaI];lia),?_⟩;refine bY (dR Lu (λq=>gB (.hd q.2)) trivial (eF (by lia)) (λq hq k' hk=>⟨_,M,M,_,_,M,_,_,M,M,_,M,hk⟩) ?_);have H:((aq "first" p hs).2.map gB++((dY b).map aQ).flatten.map gB)++hs.map (λq=>gB (.hd q.2))=(jH p hs b).map gB:=by unfold jH;rw[jaj,jaj,jaM];rfl
  refine⟨dI (by simp only[jac,jab,jak,jaI];lia),?_⟩;rw[H];dsimp only[A6];refine⟨dI (by simp only[jac,jab,jak,jaI];lia),?_⟩;have eb:(jH p hs b).map gB++[T.tup [.str "hold",je c]]=(jH p hs b++[bN.hd c]).map gB:=by rw[jaj];rfl
  rw[eb];obtain⟨g1,g2⟩:=Mi ga;dsimp only[A6];refine⟨g1,eF g2,?_⟩;dsimp only[A6];have hz0:iI a j (jH p hs b++[.hd c])=iI a j (jH p hs b++[.hd c]):=rfl;have hP0:(jH p hs b).length<=p.length+20:=hrp;generalize I:iI a j (jH p hs b++[bN.hd c])=B0 at h h1 W R;generalize jH p hs b=P0 at *;generalize hF:(aq "first" p hs).1=F1 at *;have e4:[some (D.ob f),some (.t x),some (.t (jM (.rp a c hs j b))),some (D.tup (P0.map gB)),u,v,some (.tup ((P0++[bN.hd c]).map gB)),some (.str (FU a)),none,none]=((([some (D.ob f),some (.t x),some (.t (jM (.rp a c hs j b))),some (D.tup ((aq "first" p hs).2.map gB)),u,v,none,none,none,none].set 3 (some (.tup (P0.map gB)))).set 6 (some (.tup ((P0++[bN.hd c]).map gB)))).set 7 (some (.str ("~"++Str.ofString (toString a))))):=rfl;rw[<- e4];clear e4;refine WD (λδ1 S1=>δ1=[some (D.ob f),some (.t x),some (.t (jM (.rp a c hs j b))),some (D.tup (P0.map gB)),u,v,some (.tup (B0.2.map gB)),some (.str (FU a)),none,none]/\S1=S.set f (.lst ((G++F1.map some++B0.1.map some).map yR))) (λNn F=>?_) ?_
  .cases j with
   |none=>
    subst I;refine⟨false,M,F _ _ ⟨M,?_⟩⟩;simp only[iI,jaX,jaw]
   |some w=>
    subst I;refine⟨true,M,([],0),w.2,M,f,_,_,"bound",w.1,CI w.2,M,vI E,by rw[jab,jac];lia,by rw[jab,ja0];lia,dI (by simp only[jac,jab,jak,jaI];lia),F _ _ ⟨?_,?_⟩⟩
    .simp only[iI];rw[jaj (l₁:=_++[bN.hd (CI w.2)])];rfl
    .rw[jat];simp only[iI,jas,jaX]
  .rintro δ1 S1 ⟨rfl,rfl⟩;have Y:=uZ (d:=q) (m:=B0.2.length) (ps:=[B0.2]) L O hq (by simp) (by simp);refine⟨f,x,_,B0.2,b,N,by rw[bS],vI E,by rw[jab,jab,jac,jac];lia,by lia,L,O,hq,gC ?_⟩;rw[jat];generalize bh b [B0.2]=L0 at *;refine bV (λw=>T.tup (w.map gB)) (λH Z C=>∃u v y z,Z=[some (D.ob f),some (.t x),some (.t (jM (.rp a c hs j b))),some (D.tup (P0.map gB)),u,v,some (.tup (B0.2.map gB)),some (.str (FU a)),y,z]/\C=S.set f (.lst ((G++F1.map some++B0.1.map some++L0.1++((H.map (fK a hs j)).flatten).map some).map yR))) ⟨u,v,none,none,M,?_⟩ ?_ ?_
   .simp
   .rintro H w1 er Z C Nx e ⟨u,v,y,z,rfl,rfl⟩ F;have hw1:=Y.1.p w1 (by rw[e];simp);have YV:((L0.2.map (fK a hs j)).flatten).length=((H.map (fK a hs j)).flatten).length+((fK a hs j w1).length+((er.map (fK a hs j)).flatten).length):=by rw[e];simp
    have eln:(fK a hs j w1).length=hs.length+(KZ a j).length:=by unfold fK;rw[jab,bu,bu]
    have efl:=wj a j;refine⟨trivial,bY (bV Lu (λo Z C=>∃u v z,Z=[some (D.ob f),some (.t x),some (.t (jM (.rp a c hs j b))),some (D.tup (P0.map gB)),u,v,some (.tup (B0.2.map gB)),some (.str (FU a)),some (.tup ((aq "again" w1 o).2.map gB)),z]/\C=S.set f (.lst ((G++F1.map some++B0.1.map some++L0.1++((H.map (fK a hs j)).flatten).map some++(aq "again" w1 o).1.map some).map yR))) ⟨u,v,z,M,?_⟩ ?_ ?_)⟩
    .unfold aq;simp
    .rintro o r hr2 Z C Ny e3 ⟨u,v,z,rfl,rfl⟩ GZ;have Q:=bu "again" w1 o;have a5M:=dm "again" w1 o;have hl4:o.length+1<=hs.length:=by rw[e3];simp
     refine⟨trivial,_,M,M,_,_,M,_,_,M,M,f,_,_,"again",r.1,r.2,M,vI E,by simp only[jab,jac (f:=some)];lia,by lia,GZ _ _ ⟨some (.int r.1),some (.t (je r.2)),z,?_,?_⟩⟩
     .rw[iy];rfl
     .rw[jat,iz];simp
    .rintro Z C ⟨u,v,z,rfl,rfl⟩;have Q:=bu "again" w1 hs;have a5M:=dm "again" w1 hs;refine⟨trivial,?_⟩;cases j with
     |none=>
      refine⟨false,M,F _ _ ⟨u,v,_,z,M,?_⟩⟩;simp[fK,KZ,aq]
     |some w=>
      refine⟨true,M,FU a,M,on (FU a),([],-1),1,M,by show 1<=32;decide,by simp[on],by simp,⟨by decide,by decide⟩,w.2,iM (on (FU a)) ([],-1) 1,M,f,_,_,"falls",w.1,zl w.2 (iM (on (FU a)) ([],-1) 1),M,vI E,by simp only[jab,jac (f:=some)];lia,by lia,F _ _ ⟨u,v,some (.tup ((aq "again" w1 hs).2.map gB)),some (.t (je (zl w.2 (iM (on (FU a)) ([],-1) 1)))),M,?_⟩⟩;rw[jat];simp[fK,KZ,aq,yx]
   .rintro Z C ⟨u,v,y,z,rfl,rfl⟩;refine⟨trivial,c,M,V.dep,by have:=V.sz;lia,V.sg,dI (by simp only[jac,jab,jak,jaI];lia),jw ?_⟩;have e9:P0.map gB++[T.tup [.str "hold",je c.iZ]]=(P0++[bN.hd c.iZ]).map gB:=by rw[jaj];rfl
    simp only[jaQ] at h ⊢;rw[<- e9] at h;exact h
abbrev Iz:Stmt:=top 95
def N4(J:Fx K mg A):Ky P w K mg base k Iz ["_law_helpers","_law_helper_here"] MT:=by
 refine dk (N:=["_law_helpers","_law_helper_here","_law_params","_law_some","_law_at","_law_told","_law_path","_law_found","_law_end"]) bO (rfl:_=[_,_,_,_,_,_,_,_,_,_]) (λG o=>(qs (ak (i:=2) o q_r) (qs (ak (i:=3) o (aX aL (aa jS G rfl aj) (iL Zf (by rfl) J.P6 boot_list aj))) (qs (bf jaJ rfl (qi q_r) (ia (n:=2) rfl (sP (qg (i:=4) o) (sP (qg (i:=5) o) fF))) (aG (ak (i:=3) o (aX aL q_r (aa eU G rfl aj))))) (qs (ak (i:=6) o (aa zf G rfl aj)) (qs (ak (i:=6) o (aX aL q_r (cD J.bE (aP (ck (dS ["_law_thing"] ["_law_params"] [2] rfl (by symm) (by symm) (by with_unfolding_all rfl) (by exact⟨M,trivial⟩) (by rfl) rfl (by rfl)) rfl (qi (RK rfl J.jB rfl J.FD rfl q_r)) (λ_ _ _ _=>(qx (i:=0) zX)) (λ_ _ _ _=>(vY (aD IV q_r q_r (by rfl)))) (λ_ _ _ _=>q_r)))))) (qs (ak (i:=6) o (aX aL q_r (cD J.bE (aP (ck (cS ["_law_at","_law_told"]) rfl (qi q_r) (λ_ _ _ _=>(k7 (n:=2) rfl (Dl (qx (i:=0) zX) (Dl (qx (i:=1) zX) jb)))) (λ_ _ _ _=>bJ) (λ_ _ _ _=>q_r)))))) (qs (ak (i:=7) o (gI cG)) (qs (bf jaJ rfl (qi (aa kH G rfl aj)) (qg (i:=8) o) (aG (bf jaJ rfl (qi q_r) (ia (n:=2) rfl (sP (qg (i:=4) o) (sP (qg (i:=5) o) fF))) (aG (ak (i:=8) o (aa fL G rfl aj)))))) (qs (aJ (qw (Eb (aD EG (ic J.kK aj) aF (aA _)) (xG (aD (a1u (mF G)) (aR (aP aT)) (q_v 7) (by rfl))))) (aG (ai aT)) az) (aG (ai q_r)))))))))))) λds S kk hc hd h=>?_;obtain⟨x,a,N,rfl,g,h,W⟩:=h;obtain⟨p1,p2,p3,p4⟩:=g.pl;have hso:=g.t2;refine⟨a.steps,N,M,g.st,g.nl,g.sl,by have:=g.dp;lia,by decide,_,_,M,M,dI (by rw[jac,jac];lia),dI (by rw[jac,jac];lia),?_⟩;rw[<- jaj,<- jaj];have v:∀q∈a.needs++a.gives,dJ (a.params++a.answers) q.2:=λq v=>by
  rcases jan.mp v with v | v
  .exact(g.nd q v).upM λx W=>jaA _ W
  .exact g.gv q v
 have U:∀b c,a.needs++a.gives=b++c->((b.map λq=>(q.2.sums.map Sm.aU).flatten).flatten).length<=12*b.length:=λb c e=>GA (N:=a.params++a.answers) λq Y=>v q (by rw[e];exact jaA _ Y);refine bY ?_;refine bV Lu (λb Z s=>∃y z,Z=[some (.t x),some (D.t (Qt a)),some (D.t (gU a.params)),some (D.t (jn ((kU a.steps++a.answers)++(b.map λq=>(q.2.sums.map Sm.aU).flatten).flatten))),y,z,none,none,none]/\s=S) ⟨none,none,by rw[jaX,jbG,jaw];rfl,M⟩ ?_ ?_
 .rintro b q c Z s Nx e ⟨y,z,rfl,rfl⟩ hN;have C:=v q (by rw[e];simp);have hl1:=U b (q::c) e;have hl2:b.length<=16:=by
   have:=jao List.length e;rw[jab,jab] at this;lia
  have hl3:=iG C;refine⟨trivial,_,M,M,_,_,M,_,_,M,M,q.2,M,C.dep,y9 C,_,_,M,M,dI (by rw[jac,jac,jab,jab];lia),?_⟩;rw[<- jaj];have e2:(kU a.steps++a.answers)++(b.map λq=>(q.2.sums.map Sm.aU).flatten).flatten++(q.2.sums.map Sm.aU).flatten=(kU a.steps++a.answers)++((b++[q]).map λq=>(q.2.sums.map Sm.aU).flatten).flatten:=by simp
  rw[e2];exact hN _ _ ⟨_,_,M,M⟩
 rintro Z H ⟨y,z,rfl,rfl⟩;have B:=JU g;have I:((kU a.steps++a.answers)++((a.needs++a.gives).map λq=>(q.2.sums.map Sm.aU).flatten).flatten).length<4000:=by
  have:=U (a.needs++a.gives) [] (by simp);rw[jab] at this ⊢;rw[jab];lia
 have r:=JV g;generalize (kU a.steps++a.answers)++((a.needs++a.gives).map λq=>(q.2.sums.map Sm.aU).flatten).flatten=jcE at B I r;have hp0:=tF g;have h1:=fX a.params;have h2:=BS g;have hsM:(sU jcE).length<=64:=Rk (ds:=N++(a.params++a.answers)) r (by rw[jab,jab];have:=g.nl;lia);refine⟨trivial,_,a.params,M,.inr M,p1,λy X=>NC (g.ps y X),jcE,N++(a.params++a.answers),M,I,by rw[jab,jab];have:=g.nl;lia,r,?_⟩;refine gC ?_;refine yT T.str (λt=>if a.params.contains t=true then none else some (gB (.lt t ([],0)))) trivial (eF (by lia)) (λt ht k' hk=>?_) ?_
 .refine⟨_,_,_,M,M,M,CK a.params,?_⟩;have e3:Ti (V.str t) (a.params.map V.str)=a.params.contains t:=by rw[CF,List.contains_eq_mem]
  rw[e3];cases q:a.params.contains t with
  |true=>rw[jaf q] at hk;exact⟨false,M,hk⟩
  |false=>rw[jae (by rw[q];decide)] at hk;exact⟨true,M,_,M,hk⟩
 rw[Xp B];refine⟨eF (by simp only[jac];lia),bY ?_⟩;refine dR Lu (λq=>gB (.hd q.2)) trivial (eF (by lia)) (λq v k' hk=>⟨_,M,M,_,_,M,_,_,M,M,_,M,hk⟩) ?_;refine⟨eF (by simp only[jac,jab];lia),?_⟩;have F:((((a.params.map aQ).flatten).map gB)++(others a).map λt=>gB (.lt t ([],0)))++a.needs.map (λq=>gB (.hd q.2))=(cN a).map gB:=by
  unfold cN;rw[jaj,jaj,jaM,jaM];rfl
 rw[F];have E:=uZ (d:=4) (m:=(cN a).length) (ps:=[cN a]) g.st g.nl g.dp (by simp) (by simp);have hm4:ml 4=53171:=by decide
 have Q:mx 4=390:=by decide
 have n1:=jaC (16*ml 4+1) g.sl;have n2:=jaC (mx 4) g.sl;have le:=E.1.e;have lp:=E.1.p;rw[hm4] at n1 le;rw[Q] at n2 lp;refine⟨H.length,x,[],cN a,a.steps,N,M,ao,by rw[jaI];lia,by rw[Q];lia,g.st,g.nl,g.dp,gC ?_⟩;rw[fm,jbH];have hfo:found a=found a:=rfl;refine bV (λw=>T.tup (w.map gB)) (λF Z s=>∃y z w,Z=[some (.t x),some (D.t (Qt a)),some (D.t (gU a.params)),some (D.t (jn jcE)),y,z,some (.tup ((cN a).map gB)),some (D.ob H.length),w]/\s=H++[O.lst (((bh a.steps [cN a]).1++((F.map λw=>(aq "gives" w a.gives).1).flatten).map some).map yR)]) ⟨y,z,none,M,?_⟩ ?_ ?_
 .simp
 .rintro F w1 er Z s Nx e ⟨y,z,w,rfl,rfl⟩ hN;have hw1:=lp w1 (by rw[e];simp);have hel:F.length<=16:=by have:=E.2;rw[e,jab] at this;lia
  have f1:=iF (n:=8) (l:=F.map λw=>(aq "gives" w a.gives).1) λy X=>by
   obtain⟨u,hu,rfl⟩:=jaq.mp X;rw[bu];exact p4
  rw[jac] at f1;refine⟨trivial,bY (bV Lu (λb Z s=>∃y z,Z=[some (.t x),some (D.t (Qt a)),some (D.t (gU a.params)),some (D.t (jn jcE)),y,z,some (.tup ((cN a).map gB)),some (D.ob H.length),some (.tup ((aq "gives" w1 b).2.map gB))]/\s=H++[O.lst (((bh a.steps [cN a]).1++((F.map λw=>(aq "gives" w a.gives).1).flatten).map some++(aq "gives" w1 b).1.map some).map yR)]) ⟨y,z,M,?_⟩ ?_ ?_)⟩
  .unfold aq;simp
  .rintro b q c Z s Ny e3 ⟨y,z,rfl,rfl⟩ GZ;have hl1:=bu "gives" w1 b;have hl2:=dm "gives" w1 b;have hpl:b.length<=8:=by rw[e3,jab] at p4;lia
   refine⟨trivial,_,M,M,_,_,M,_,_,M,M,H.length,_,_,"gives",q.1,q.2,M,ao,by simp only[jab,jac (f:=some)];lia,by lia,GZ _ _ ⟨some (.int q.1),some (.t (je q.2)),?_,?_⟩⟩
   .rw[iy];rfl
   .rw[fm,iz];simp
  .rintro Z s ⟨y,z,rfl,rfl⟩;exact⟨trivial,hN _ _ ⟨y,z,_,M,by simp⟩⟩
 rintro Z s ⟨y,z,w,rfl,rfl⟩;refine⟨trivial,?_⟩;have eG:(bh a.steps [cN a]).1++(((bh a.steps [cN a]).2.map λw=>(aq "gives" w a.gives).1).flatten).map some=found a:=rfl;rw[eG];by_cases big:100<(found a).length
 .have R:¬ Qn a:=λok=>by
   rw[yH ok.1,jac] at big;have:=ok.2;lia
  refine oe (jh ao) ⟨true,jao D.bl (jaB (by rw[jac];lia)),?_⟩;exact yX hc (W R)
 .refine oe (jh ao) ⟨false,jao D.bl (jau (by rw[jac];lia)),?_⟩;rw[jae jaN];refine⟨"many",_,M,eZ ao,TF (O6 a),λhin=>⟨true,M,?_⟩,λL=>⟨false,M,?_⟩⟩
  .have R:¬ Qn a:=λok=>by
    have:=IZ.mp hin;rw[yH ok.1] at this;obtain⟨d,_,e⟩:=jaq.mp this;cases e
   exact yX hc (W R)
  .have ok:Km a.steps:=Classical.byContradiction λR=>L (IZ.mpr (O5 R));have e1:=yH ok;have ok2:Qn a:=⟨ok,by rw[e1,jac] at big;lia⟩
   rw[e1,jaM];exact Hj (j:=0) hc rfl (h ok2)
abbrev sY:Stmt:=top 98
def GL(J:Fx K mg A){C:Addr}{m:jcJ}(b:XTw P w K mg base A.ay C m) :Ky P w K mg base k sY ["_law_program","_law_name"] (DR A):=by
 intro f L x y F;refine a2K F (N:=["_law_program","_law_name"]) bO (λt S n h=>by cases h;subst_vars;rfl) λQ B e s H E l=>?_;rw[show bK sY=[_] from rfl];refine⟨_,(aG (RG rfl rfl b.ct b.ct b.hin rfl b.mg (λI R g q=>(aG (ai (aa Fq l rfl (aP (fG QZ q l rfl aj)))))) (λa oe I=>(aG (ai aT))))),λt S n u hd h=>?_⟩;obtain⟨x,p,N,rfl,z,g,D,h,v⟩:=h;cases S with
 |nil=>cases D
 |cons o r=>
  refine⟨o,r,M,¬ Qn x,λY G hρ=>?_,λc=>?_⟩
  .refine⟨M,x,p,N,M,z,g,λok=>?_,λc=>c⟩;have i:∀d∈(O.gh Y G::r),Bd (O.gh Y G::r).length d:=λd j=>by
    rcases jah.mp j with rfl | j
    .exact jbs hρ
    .exact u d (jav _ j)
   refine⟨_,gn x,M,ao,ok.2,Pw g,?_⟩;exact yX (S:=O.gh Y G::r) i (h ok _ M)
  .exact jw (v c _ (by unfold dim;rw[jac]))
abbrev uy:Stmt:=top 99
def XE(J:Fx K mg A)(d8:Dn P w K mg base k "_law_steps" ["_law_draw","_law_own","_law_many","_law_deep","_law_helpers"] (cu K (AB A))):Ky P w K mg base k uy ["_law_script"] MN:=by
 refine dk (N:=["_law_script","_law_draw","_law_helper_here","_law_own","_law_steps_here","_law_k","_law_then","_law_other","_law_program","_law_due_here"]) bO (rfl:_=[_,_,_,_,_,_]) (λa n=>(qs (ak (i:=1) n (gI (qa (aa z9 a rfl aj) aj))) (qs (ak (i:=2) n (aa C4 a rfl (qa q_r (qa aT (qa (aa au a rfl aj) (qa aF (qa (bG cG) (aP (aa Fv a rfl aj))))))))) (qs (aJ (aD (dc a) (aa au a rfl aj) aF (aA _)) (qs (ak (i:=3) n (aR (qa (bG aj) (qa (bG aj) (qa (bG cG) (aP (bG aj))))))) (qs (ak (i:=4) n (gI cG)) (qs (bf jaJ rfl (sZ rfl J.oK (aP (aX aL aF (aa au a rfl aj)))) (qg (i:=5) n) (qs (ak (i:=6) n (aa d8 a rfl (qa q_r (qa q_r (qa (aa au a rfl aj) (qa aF (aP (bG cG)))))))) (qs (ak (i:=7) n (aa d8 a rfl (qa q_r (qa q_r (qa (aa au a rfl aj) (qa aF (aP (bG cG)))))))) (aG (fO (nD q_r (aP (fu EV a rfl (qa q_r (qa (aa bz a rfl aj) aj)))))))))) (aG (ak (i:=2) n (fu EU a rfl aj)))))) az) (qs (ak (i:=8) n (fu KJ a rfl (aP (bG aj)))) (qs (ak (i:=9) n (aa Lh a rfl (qa (aH q_r Oq a) (aP (aH q_r Ot a))))) (aG (ai (a07 (xJ (dc a) (aa vf a rfl aj) q_r (aA _)) (UY (xJ (dc a) (aa vf a rfl aj) q_r (aA _)))))))))))) λds S kk hc hd h=>?_;obtain⟨l,rfl,rfl,h⟩:=h;refine⟨l,0,M,λr=>?_⟩;have dq:Dq ([]++[O.lst [T.int r,T.int 0]]) 0 0:=⟨r,M⟩
 refine⟨0,6,_,M,dq,by decide,λr1 c1 m1 hr1 b1=>?_⟩;refine⟨0,_,M,dq.cX,λns c2 m2 hn8 hnl b2=>?_⟩;rw[nP];refine⟨0,ns,r1,"one",_,_,M,dq.cX,by lia,hn8,hnl,by lia,λx N c3 m3 g d b3=>?_⟩;rw[nP];dsimp only[A6];refine WD (λδ1 f=>∃x N o3 o4 H I Q,δ1=[some (D.t (T.DV (l.map T.int))),some (D.ob 0),some (.t (CG A x)),o3,o4,H,I,Q,none,none]/\Dc N x/\x.name="one"/\0<f.length) (λNn hN=>?_) ?_
 .refine⟨0,2,_,M,dq.cX,by decide,λr4 c4 m4 hr4 b4=>?_⟩;rw[nP];by_cases h4:r4=0
  .refine⟨true,IE,?_⟩;rw[jaf rfl];generalize Lr:cX ([]++[O.lst [T.int r,T.int 0]]) 0 c4 m4=f;have Y:Dq f 0 m4:=by rw[<- Lr];exact dq.cX
   have U:f.length=1:=by rw[<- Lr,aO];rfl
   refine oV rfl ?_;refine⟨0,5,_,M,Y.up,by decide,λr5 c5 m5 hr5 b5=>?_⟩;refine⟨_,M,by lia,by lia,?_⟩;have hj5:(1+(r5:Int)).toNat<=5:=by lia
   refine Jj (λi Z F=>∃(b:List ah)(m:Int)(H I Q:Option D),Z=[some (D.t (T.DV (l.map T.int))),some (D.ob 0),some (.t (CG A x)),some (.tup [jn ["yz"],jn ["xz","yz"],jn [],jn ["rz"]]),some (D.ob (f.length)),H,I,Q,none,none]/\Dq F 0 m/\F[f.length]?=some (.lst (b.map (bA A)))/\b.length=i/\m.natAbs<=m5.natAbs+i*20000/\∀s∈b,bP ["xz","yz","#rz"] s/\s.dq<=3) ⟨[],m5,none,none,none,M,Y.up.cX,?_,M,by lia,λs o=>by cases o⟩ ?_ ?_
   .rw[oF (by rw[U];exact Nat.zero_lt_one),jbf (by rw[aO];exact jam _),aO,Nat.sub_self];rfl
   .rintro i it Z F Nx hit ⟨b,m,H,I,Q,rfl,Tw,hloc,hlen,hm,hst⟩ GZ;have v:=Tw.lt;have hi:i<5:=by
     have:=(jar.mp hit).1;rw[jac,jbg] at this;lia
    have hbig:m.natAbs<=400000:=by lia
    have s1:sc 1=1600:=by decide
    have s0:sc 0=300:=by decide
    have LN:HD ["yz"] ["xz","yz"] ["xz","yz","#rz"] [] ["rz"]:=by
     refine⟨⟨by simp,by decide⟩,λx B=>?_,by decide,λx B=>?_,(λr a=>by cases a),by decide,⟨by simp,by decide⟩,λr a=>?_⟩
     .rw[jag.mp B];exact⟨⟨⟨121,[122],by symm,by decide⟩,by symm⟩,by simp⟩
     .simp at B;rcases B with rfl | rfl<;>simp
     .rw[jag.mp a];exact⟨by symm,by symm⟩
    refine⟨trivial,0,3,m,M,Tw,by decide,λr6 c6 m6 hr6 b6=>?_⟩;have n6:r6*sc 1<=2*sc 1:=jaC _ (by lia);refine⟨1,by decide,0,["yz"],["xz","yz"],["xz","yz","#rz"],[],["rz"],r6,_,m6,M,Tw.cX,LN,by lia,by lia,λz c7 m7 ht R b7=>?_⟩;rw[nP];refine⟨0,2,m7,M,Tw.cX.up,by decide,λr8 c8 m8 hr8 b8=>?_⟩;have n8:r8*sc 0<=1*sc 0:=jaC _ (by lia);rw[oF (by rw[aO];exact v),nP];refine⟨0,by decide,0,["yz"],["xz","yz"],["xz","yz","#rz"],[],["rz"],r8,_,m8,M,Tw.cX.up,LN,by lia,by lia,λE c9 X he hee b9=>?_⟩;rw[oF (by rw[aO];exact v),nP];have hL0:0<f.length:=by rw[U];exact Nat.zero_lt_one
    have hlS:f.length<F.length:=(jar.mp hloc).1;have C:∀(c m:Int)(W:av),(cX F 0 c m++W)[f.length]?=some (.lst (b.map (bA A))):=λc m W=>by
     rw[jaU (by rw[aO];exact hlS)];unfold cX;rw[jbl (by lia)];exact hloc
    dsimp only[A6];rw[jaQ,jab,aO,aO];refine⟨⟨M,_,eZ (C _ _ _)⟩,oe (jh (i8 (lM v))) ⟨0,_,["xz","yz"],_,by decide,M,Tw.cX.up,M,by decide,λcd c10 j hcd _ b10=>?_⟩⟩;rw[oF (by rw[aO];exact v),nP];refine⟨_,X,cd,_,_,z,E,M,ao,mD (kE (eZ (bD (q:=0) aO))),mD (kE (eZ (bD (q:=1) aO))),made ⟨_,C _ _ _,By (by rw[jac];lia),?_⟩⟩;have dqE:Dq ((cX F 0 c10 j++([O.lst (z.map (bA A))]++[O.lst (E.map (bA A))])).set f.length (O.lst ((b++[ah.ch X cd z E]).map (bA A)))) 0 j:=by
     obtain⟨c,e⟩:Dq (cX F 0 c10 j++([O.lst (z.map (bA A))]++[O.lst (E.map (bA A))])) 0 j:=Tw.cX.up;exact⟨c,by rw[jbl (by lia)];exact e⟩
    have e8:b.map (bA A)++[T.ins A.bg ["at","condition","then","other"] [.int X,dZ A cd,.tup (z.map (bA A)),.tup (E.map (bA A))]]=(b++[ah.ch X cd z E]).map (bA A):=by rw[jaj,jas,jaX,MC]
    rw[e8];refine GZ _ _ ⟨b++[ah.ch X cd z E],j,_,_,_,M,dqE,jaG (by rw[jab,aO];lia),by rw[jab,hlen];rfl,by lia,λs o=>?_⟩;rcases jan.mp o with o | o
    .exact hst s o
    .rw[jag.mp o];have d1:z4 z<=1:=lN λu G=>(R u G).2;have d2:z4 E<=0:=lN λu G=>(hee u G).2;exact⟨by unfold bP;exact⟨hcd.up (λy hy=>by simp at hy;rcases hy with rfl | rfl<;>simp),fk λu G=>(R u G).1,fk λu G=>(hee u G).1,by lia,by lia⟩,by unfold ah.dq;lia⟩
   .rintro Z F ⟨b,m,H,I,Q,rfl,Tw,hloc,hlen,hm,hst⟩;rw[jac,jbg] at hlen;refine⟨trivial,_,0,"one",_,_,_,_,_,⟨0,"one",["xz"],[],[],[],b++[]⟩,M,ao,M,M,M,M,mD (kE (eZ (by rw[jaw];exact hloc))),jaD _,jaD _,made (hN _ _ ⟨_,["xz","yz","#rz"],_,_,_,_,_,M,YE (by decide) (by decide) (by lia) (by decide) (by decide) (by decide) (λx B=>by cases B) hst (by decide) (λs o=>by cases o) (λp hp=>by cases hp) (λp hp=>by cases hp) (λx B=>by rw[jag.mp B];exact BN ⟨⟨120,[122],by symm,by decide⟩,by symm⟩),M,Tw.lt⟩)⟩
  .exact⟨false,qH,hN _ _ ⟨x,N,_,_,_,_,_,M,g,d,by rw[aO];exact Nat.zero_lt_one⟩⟩
 .rintro δ1 f ⟨x,N,o3,o4,H,I,Q,rfl,g,d,Lr⟩;have Vm:[x].find? (λy=>decide (y.name=x.name))=some x:=by simp
  refine⟨_,_,[x],M,ao,M,made ?_⟩;refine⟨0,_,_,by decide,M,by symm,[x],M,by simp,(λy hy=>⟨N,by rw[jag.mp hy];exact g⟩),?_⟩;refine⟨0,_,_,by decide,M,by symm,x,N,M,g,by decide,?_⟩;refine⟨.tup [Qt x],x,N,M,g,λok=>?_,λL=>?_⟩
  .have hfl:=Px g;refine⟨x,[x],N,by rw[d];rfl,Vm,g,Lr,λ_ S2 hl2=>⟨_,_,M,M,.inl ⟨M,hfl,true,M,?_⟩⟩,λL=>absurd ok L⟩;rw[jaf rfl];exact⟨x,[x],N,by rw[d];rfl,Vm,g,by lia,λ_ S3 hl3=>⟨_,_,M,M,.inl ⟨M,hfl,jw (h _)⟩⟩,λL=>absurd ok L⟩
  .have e1:(xor false (decide (V.str "many"=V.str "many")))=true:=seq rfl;refine⟨x,[x],N,by rw[d];rfl,Vm,g,Lr,λok=>absurd ok L,λ_ S2 hl2=>⟨true,jao D.bl e1,?_⟩⟩;rw[jaf rfl];refine⟨x,[x],N,by rw[d];rfl,Vm,g,by lia,λok=>absurd ok L,λ_ S3 hl3=>jw ?_⟩;rw[e1];exact h _
variable {fI fW:Addr}{Hv Qy:jcJ}{W:Addr}
abbrev BG:Stmt:=inClass (top 2) 0
def M4:iJ ["self","words"] ["self","words"] (aM BG):=bO
def NY (F:F3 K "__init__" "WritError.__init__" BG fW fd)(b:XTi K mg A.ay W fI fW Hv Qy):dX P w K mg base ug (k+1) fW fd ["self","words"] (JP A.ay):=by
 refine F.ok M4 (λd H Q E ⟨a,v,e,_⟩=>by rw[e];rfl) λh B c s H d Q E g ⟨a,v,e,f,hk⟩=>?_;subst e;exact⟨_,BL (BO (NK b.ct rfl b.mgV b.gv (ou (pv 0) (ou (pv 1) ly)))),_,M,_,M,a,v,M,f,hk⟩
variable {fI fW:Addr}{Hv Qy:jcJ}{W:Addr}
abbrev qW:Stmt:=inClass (top 3) 0
def JY:iJ ["self","words"] ["self","words"] (aM qW):=bO
def Kd {c:FuncData}(F:F3 K "__init__" "TooMany.__init__" qW fI fd)(b:XTi K mg A.ay W fI fW Hv Qy)(h:dX P w K mg base ug k fW c ["self","words"] (JP A.ay))(g:L2.Binds K c ["self","words"] []):dX P w K mg base ug (k+1) fI fd ["self","words"] (JP A.ay):=by
 refine F.ok JY (λi H Q E ⟨a,v,e,_⟩=>by rw[e];rfl) λl B d s H i Q E f ⟨a,v,e,j,hk⟩=>?_;subst e;rw[show bK qW=[_] from rfl];exact⟨_,BL (BO (IK rfl b.mgW b.g1 b.g2 b.g3 b.g4 b.g5 h f g xM (ou (pv 0) (ou (pv 1) ly)))),_,M,_,M,a,v,M,j,hk⟩
end
section
variable {P:Program}{w:World}{K:Frag}{mg:Str->jcN}{base:Heap}{k:Nat}{f:Addr}{fd:FuncData}{ps:jcI}{sp Qm:mK}{A:Ad}
def d0 {x:Str}{st:Stmt}(J:Fx K mg A)(l:Fa K x st)(h:∀ds S k,¬ sp ds S k)(b:autoParam (∀(kV c m:Value)(i:jcM)(AT e:Value)(g:Nat->Value),bindArgs (fnOf x x (cY st) (bK st) (aM st) .none kV c m i AT e) ⟨Hw.zv ps g,[]⟩=pure (ps.zip (Hw.zv ps g))) zr):Dn P w K mg base k x ps (cu K sp):=by
 obtain⟨f,a,d,F,j⟩:=l;exact⟨f,d,Vu h,J.gl _ _ a,j,F.bb b⟩
def m0 {C:Addr}{m q:Str}{st:Stmt}(l:Fm K C m q st)(h:∀ds S k,¬ sp ds S k)(b:autoParam (∀(kV c n:Value)(e:jcM)(AT d:Value)(g:Nat->Value),bindArgs (fnOf m q (cY st) (bK st) (aM st) .none kV c n e AT d) ⟨Hw.zv ps g,[]⟩=pure (ps.zip (Hw.zv ps g))) zr):Mt P w K mg base k C m ps (cu K sp):=by
 obtain⟨f,a,i,o,F,j⟩:=l;exact mtM (Vu h) a i j (F.bb b)
def w0 {x:Str}{C:Addr}{st:Stmt}{s:C8}(J:Fx K mg A)(l:Fa K x st)(h:∀ds S k x,¬ s ds S k x)(b:autoParam (∀(kV c m:Value)(i:jcM)(AT e:Value)(g:Nat->Value),bindArgs (fnOf x x (cY st) (bK st) (aM st) .none kV c m i AT e) ⟨Hw.zv ps g,[]⟩=pure (ps.zip (Hw.zv ps g))) zr):qJ P w K mg base C k x ps s:=by
 obtain⟨f,a,d,F,j⟩:=l;exact⟨f,d,YO h,J.gl _ _ a,j,F.bb b⟩
def _root_.Hw.Dn.v {x:Str}{j:Nat}{s:Sp}(h:Dn P w K mg base j x ps s)(l:autoParam (j<=k) kb):Dn P w K mg base k x ps s:=Dn.up h l
def Ms.v {n j:Nat}{m:Str}{cl:Nat->Addr}{s:Nat->mK}(h:Ms P w K mg base j n cl m ps s)(l:autoParam (j<=k) kb):Ms P w K mg base k n cl m ps s:=Ms.up h l
def qC.v {x:Str}{C:Addr}{j:Nat}(h:qC P w K mg base j C x ps sp)(l:autoParam (j<=k) kb):qC P w K mg base k C x ps sp:=qC.up h l
def _root_.L3.qJ.v {C:Addr}{x:Str}{j:Nat}{s:C8}(h:qJ P w K mg base C j x ps s)(l:autoParam (j<=k) kb):qJ P w K mg base C k x ps s:=qJ.up h l
def _root_.L3.HC.v {C c:Addr}{m:Str}{j:Nat}{s:C8}(h:HC P w K mg base C j c m ps s)(l:autoParam (j<=k) kb):HC P w K mg base C k c m ps s:=HC.up h l
def Ms.z {m:Str}{cl:Nat->Addr}{s:Nat->mK}:Ms P w K mg base k 0 cl m ps s:=λj h=>absurd h (Nat.not_lt_zero j)
theorem Ms.r {n:Nat}{m:Str}{cl:Nat->Addr}{s:Nat->mK}(h:Ms P w K mg base k n cl m ps s)(t:Mt P w K mg base k (cl n) m ps (cu K (s n))):Ms P w K mg base k (n+1) cl m ps s:=λj a=>by
 rcases Nat.lt_succ_iff_lt_or_eq.mp a with a | rfl
 .exact h j a
 .exact t
def rM (j:Nat):∀ds S k,¬ fE A 0 j ds S k:=λ_ _ _ h=>by cases h;lia
def wc (j:Nat):∀ds S k,¬ mX A 0 j ds S k:=λ_ _ _ h=>by cases h;lia
def Cs (j:Nat):∀ds S k,¬ qP A 0 j ds S k:=λ_ _ _ h=>by cases h;lia
def kd6 {s:ah}(h:kd s=6):False:=by cases s<;>cases h
def XN:∀ds S k,¬ ji A 2 6 ds S k:=λ_ _ _ h=>by cases h with | mk s N b a=>exact kd6 a
def XM:∀ds S k,¬ iK A 6 ds S k:=λ_ _ _ h=>by cases h with | mk s N b a=>exact kd6 a
def jl {j:Nat}:∀ds S k,¬ kX A 0 j ds S k:=λ_ _ _ h=>by cases h with | mk x y b a=>exact a1y a
def Mg {n j:Nat}{x y:T}(h:Tx A n x y j)(a:j<9):∃s N,x=bA A s/\y=jM s/\kd s=j/\bP N s/\s.dp<n:=by
 cases h with
 |s s N h d=>exact⟨s,N,M,M,M,h,d⟩
 |h x N h d=>lia
 |m s d=>lia
theorem XO {n:Nat}:∀ds S k,¬ kX A n 6 ds S k:=λ_ _ _ h=>by
 cases h with | mk x y b a=>
 obtain⟨s,N,_,_,h,_⟩:=Mg a (by decide);exact kd6 h
theorem DB {n j:Nat}(f:j<9):∀vs H Q E,cu K (kX A (n+1) j) vs H Q E->cu K (i9 A n j) vs H Q E:=GW λi S k h=>by
 cases h with | mk x y c b a=>
 obtain⟨s,N,rfl,rfl,d,g,e⟩:=Mg b f;exact⟨s,N,c,d,g,e,a⟩
def Q3 {n j:Nat}{x y:T}(h:Tx A n x y j)(b:j=9):∃a N,x=CG A a/\y=Qt a/\Dc N a/\5<n:=by
 cases h with
 |s s N h d=>have:=pV s;lia
 |h x N h d=>exact⟨x,N,M,M,h,d⟩
 |m s d=>lia
theorem a4h {n:Nat}:∀vs H Q E,cu K (kX A (n+1) 9) vs H Q E->cu K (wO A n) vs H Q E:=GW λg S k h=>by
 cases h with | mk x y d c b=>
 obtain⟨a,N,rfl,rfl,e,f⟩:=Q3 c rfl;exact⟨a,N,d,e,f,b⟩
def Mf {n j:Nat}{x y:T}(h:Tx A n x y j)(b:j=10):∃a:Sm,x=fD A a/\y=qG a:=by
 cases h with
 |s s N h d=>have:=pV s;lia
 |h x N h d=>lia
 |m s d=>exact⟨s,M,M⟩
theorem a4g {n:Nat}:∀vs H Q E,cu K (kX A (n+1) 10) vs H Q E->cu K (BC A) vs H Q E:=GW λe S k h=>by
 cases h with | mk x y d c b=>
 obtain⟨a,rfl,rfl⟩:=Mf c rfl;exact⟨a,d,b⟩
end
theorem a5c {K:Frag}{A:Ad}(h:Kt K [A.iB,A.bQ,A.cH,A.jK,A.ff,A.cE,A.gF,A.bg,A.bx] [A.iB,A.bQ,A.cH,A.jK,A.ff,A.cE,A.gF,A.bg,A.bx] 0):∀j i,j<9->i<9->kitOne K (.ref (qI A j)) (.ref (qI A i))=some (decide (j=i)):=λj i b a=>by
 have e:∀i,i<9->[A.iB,A.bQ,A.cH,A.jK,A.ff,A.cE,A.gF,A.bg,A.bx][i]?=some (qI A i):=λi a=>by
  match i,a with
  |0,_ | 1,_ | 2,_ | 3,_ | 4,_ | 5,_ | 6,_ | 7,_ | 8,_=>rfl
 have:=h.at (e j b) (e i a);rwa[jbV] at this
abbrev D6:Stmt:=inClass (top 26) 1
abbrev D5:Stmt:=inClass (top 26) 2
abbrev zI:Stmt:=inClass (top 26) 3
noncomputable def FM (a i b k g e h l d c f j m n q p r o:Addr):List (Addr×Str×Str×Stmt):=(a,"__init__","Sum.__init__",xr)::(a,"plus","Sum.plus",xm)::(a,"times","Sum.times",uJ)::(a,"less","Sum.less",xo)::(a,"things","Sum.things",q8)::(a,"told","Sum.told",xj)::(i,"__init__","Compare.__init__",nu)::(b,"__init__","Turned.__init__",pB)::(e,"__init__","Let.__init__",xE)::(h,"__init__","Divide.__init__",pM)::(l,"__init__","Fetch.__init__",rA)::(d,"__init__","Put.__init__",xA)::(c,"__init__","Make.__init__",uO)::(f,"__init__","Claim.__init__",rF)::(r,"__init__","Debt.__init__",uQ)::(k,"__init__","Several.__init__",jj)::(g,"__init__","Several.__init__",jj)::(i,"told","Compare.told",nq)::(b,"told","Turned.told",pA)::(k,"told","Every.told",rB)::(g,"told","Some.told",uL)::(i,"all_sums","Compare.all_sums",pP)::(b,"all_sums","Turned.all_sums",qZ)::(k,"all_sums","Several.all_sums",j6)::(g,"all_sums","Several.all_sums",j6)::(i,"things","Condition.things",fV)::(b,"things","Condition.things",fV)::(k,"things","Condition.things",fV)::(g,"things","Condition.things",fV)::(e,"told","Let.told",xC)::(h,"told","Divide.told",pL)::(l,"told","Fetch.told",rm)::(d,"told","Put.told",xy)::(c,"told","Make.told",uN)::(f,"told","Claim.told",rE)::(j,"told","Choose.told",pR)::(m,"told","Repeat.told",pF)::(e,"uses","Let.uses",xB)::(h,"uses","Divide.uses",pK)::(l,"uses","Fetch.uses",rj)::(d,"uses","Put.uses",xw)::(c,"uses","Make.uses",uM)::(f,"uses","Claim.uses",rD)::(j,"uses","Choose.uses",pQ)::(m,"uses","Repeat.uses",pC)::(e,"writes","Let.writes",q9)::(h,"writes","Divide.writes",lZ)::(l,"writes","Fetch.writes",nk)::(c,"writes","Make.writes",pH)::(d,"writes","Step.writes",fU)::(f,"writes","Step.writes",fU)::(j,"writes","Step.writes",fU)::(m,"writes","Step.writes",fU)::(e,"blocks","Step.blocks",cK)::(h,"blocks","Step.blocks",cK)::(l,"blocks","Step.blocks",cK)::(d,"blocks","Step.blocks",cK)::(c,"blocks","Step.blocks",cK)::(f,"blocks","Step.blocks",cK)::(n,"blocks","Step.blocks",cK)::(j,"blocks","Choose.blocks",l6)::(m,"blocks","Repeat.blocks",lY)::(i,"opposite","Compare.opposite",pO)::(b,"opposite","Turned.opposite",qY)::(k,"opposite","Every.opposite",uP)::(g,"opposite","Some.opposite",xu)::(j,"__init__","Choose.__init__",pS)::(m,"__init__","Repeat.__init__",pG)::(q,"__init__","Helper.__init__",pJ)::(p,"__init__","Program.__init__",ni)::(p,"named","Program.named",Ir)::(q,"told","Helper.told",pI)::(p,"told","Program.told",nh)::(o,"__init__","Book.__init__",uR)::(o,"owe","Book.owe",UT)::(o,"owe_each","Book.owe_each",wU)::(n,"told","Call.told",D6)::(n,"uses","Call.uses",D5)::(n,"writes","Call.writes",zI)::[]
end L3
namespace Hw
open PySem L2 PyProof.Rows
def Tp {K:Frag}{x a:Str}{st:Stmt}{f:Addr}{o:Value}{od i:jcM}{g:jcH}{kV b j AT h:Value}{A:Arguments}{B:List Stmt}{S:Scope}(l:K.lookup f=some ⟨o,od,.func (fnOf x a A B S .none kV b j i AT h),g⟩)(e:(A,B,S)=(cY st,bK st,aM st))(c:codeIn K AT a=true)(k:keepIn K (.ref f)=true):F3 K x a st f (fnOf x a (cY st) (bK st) (aM st) .none kV b j i AT h):=by
 obtain⟨n,d⟩:=Prod.mk.inj e;obtain⟨d,m⟩:=Prod.mk.inj d;rw[n,d,m] at l;exact YL l c k
end Hw
namespace L3
open PySem L2 Hw PyProof.Rows
open PySem.W (findIn keepIn fnOf codeIn kitOne nsIn mg_of isFn plainGet hasDictIn plainOver makesIn mg_none_of mroIn)
def _root_.Hw.O7 {K:Frag}{x a:Str}{st:Stmt}{f:Addr}{j:Value}{od h:jcM}{d:jcH}{kV b i AT g:Value}{A:Arguments}{B:List Stmt}{S:Scope}(l:K.lookup f=some ⟨j,od,.func (fnOf x a A B S .none kV b i h AT g),d⟩)(e:(A,B,S)=(cY st,bK st,aM st))(c:codeIn K AT a=true)(k:keepIn K (.ref f)=true):FnAt K f x a st:=⟨_,Tp l e c k,k⟩
theorem _root_.Hw.all_mk {l:OpenLaw}{w:World}{K:Frag}{h:Heap}{f:Str->jcN}{fa jA bX cZ eX gX S Q V U ff cE T W gF fh cT kJ iS B y Sp fS O fI OD YT:Addr}{LG Up:Str}{HS:Addr}{LY L HN:jcJ}{Dr L5:Bool}{LB:jcI}{HQ:Option Bool}{LW:jcM}{LU LR LP LM LK:jcN}{LH Uq:Str}{HU:Addr}{LZ C HP:jcJ}{Ds L6:Bool}{LC:jcI}{HR:Option Bool}{LX:jcM}{LV LS LQ LO LL:jcN}{oe:Nat}{tD1 tD2 tD3 tD4 tO1 uO1 tO2 uO2 tO3 uO3 tO4 uO4 tO5 uO5 tO6 uO6:Tok}(X:K.In h)(G:h.Ns mainGlobals f)(hfa:f "law"=some (.ref fa))
  {a1s VQ:jcM} {a0I:jcH} {a1t Vg VB U4 PK VD:Value} {Y:Arguments} {a3d:List Stmt} {N:Scope}
  (hc:Css K (("Sum",jA,["terms","number"])::("Compare",bX,["one","sign","other"])::("Turned",cZ,["condition"])::("Every",eX,["conditions"])::("Some",gX,["conditions"])::("Let",S,["at","name","total"])::("Divide",Q,["at","name","word","total","by"])::("Fetch",V,["at","name","row","place"])::("Put",U,["at","row","place","total"])::("Make",ff,["at","row","size"])::("Claim",cE,["at","condition"])::("Choose",T,["at","condition","then","other"])::("Repeat",W,["at","condition","keeps","falls","body"])::("Call",gF,[])::("Helper",fh,["at","name","params","answers","needs","gives","steps"])::("Program",cT,["helpers"])::("Debt",kJ,["kind","at","ahead","condition"])::("Book",iS,["program","found"])::[]))
  (G2:nsIn K mainGlobals "Step"=some (some (.ref Sp)))
  (V2:findCls K (.ref Sp) (.type "type") "__init__"=some (.val (.ref fS)))
  (V6:specialIn K (.builtin "object.__class__") "__get__"=some (some (.builtin "getset_descriptor.__get__")))
  (V5:takesIn K (.builtin "object.__class__")=some true)
  (V1:specialIn K (.ref Sp) "__getattribute__"=some (some (.builtin "type.__getattribute__")))
  (V0:readsIn K Sp (.type "type")=true)
  (lS:FnAt K fS "__init__" "Step.__init__" uK)
  (c:Fas K (("once",M5)::("sum_of",DW)::("length_of",ux)::("is_length",uF)::("as_pairs",xh)::("told_pairs",qV)::("told_each",uw)::("at_most",AQ)::("from_nought",o9)::("let",UU)::("hold",M7)::("holds_of",wY)::("rows_of_any",oW)::("is_quotient",o8)::("is_within",uD)::("steps_within",mY)::("rows_of_step",mZ)::("is_owing",wX)::("other_things",nc)::("things_written",kB)::("path_at_first",lX)::("count_paths",pe)::("go_plain",xg)::("go_steps",wZ)::("go_step",AO)::("go_choose",uI)::("go_repeat",uG)::("go_round",w9)::("debts",IA)::("_law_mixed",AN)::("_law_cell_at",uB)::("_law_next",DZ)::("_law_names",AM)::("_law_sum",Iu)::("_law_condition",oZ)::("_law_place",AK)::("_law_line",D3)::("_law_steps",AG)::("_law_pairs",AL)::("_law_step",DX)::("go_divide",uH)::("_law_helper",wV)::("_law_plus",DY)::("_law_one",Iw)::("_law_at_most",uC)::("_law_things_of",oX)::("_law_sum_things",ng)::("_law_divided",uA)::("_law_row_shown",oY)::("_law_shown",AI)::("_law_owe",Iv)::("_law_anys",D4)::("_law_opposite",qX)::("_law_written",uz)::("_law_stand",AH)::("_law_go",M6)::("_law_behind",wW)::("_law_round",AJ)::("_law_due",Iz)::("_law_asked",sY)::[]))
  (b:Fms K (FM jA bX cZ eX gX S Q V U ff cE T W gF fh cT kJ iS))
  (Zv:nsIn K mainGlobals "law"=some (some (.ref YT)))
  (Yi:K.lookup YT=some ⟨a1t,a1s,.func (fnOf "law" "law" Y a3d N .none Vg VB U4 VQ PK VD),a0I⟩)
  (Lv:(Y,a3d,N)=(cY uy,bK uy,aM uy))
  (Zi:codeIn K PK "law"=true)
  (Yr:keepIn K (.ref YT)=true)
  (lW:FnAt K O "__init__" "WritError.__init__" BG)
  (lI:FnAt K fI "__init__" "TooMany.__init__" qW)
  (iw:nsIn K mainGlobals "TooMany"=some (some (.ref B)))
  (nM:nsIn K mainGlobals "WritError"=some (some (.ref y)))
  (LD:K.lookup y=some (excClassObj LG Up y HS LY L Dr LB HN L5 HQ LW LU LR LP LM LK "ValueError.__new__"))
  (F4:nsOkIn K HS=true)
  (F6:nsIn K HS "__init__"=some (some (.ref O)))
  (Ga:isFn K (.ref O)=true)
  (F8:keepIn K (.ref y)=true)
  (Lz:L.contains (.type "ValueError")=true)
  (L7:L.contains (.type "AttributeError")=false)
  (LI:L.contains (.type "NameError")=false)
  (L1:L.contains (.type "BaseException")=true)
  (LF:K.lookup B=some (excClassObj LH Uq B HU LZ C Ds LC HP L6 HR LX LV LS LQ LO LL "ValueError.__new__"))
  (F5:nsOkIn K HU=true)
  (F7:nsIn K HU "__init__"=some (some (.ref fI)))
  (Gb:isFn K (.ref fI)=true)
  (F9:keepIn K (.ref B)=true)
  (LA:C.contains (.type "ValueError")=true)
  (L8:C.contains (.type "AttributeError")=false)
  (LJ:C.contains (.type "NameError")=false)
  (L4:C.contains (.type "BaseException")=true)
  (VX:specialIn K (.ref y) "__getattribute__"=some (some (.builtin "type.__getattribute__")))
  (VW:readsIn K y (.type "type")=true)
  (VY:findCls K (.ref y) (.type "type") "__init__"=some (.val (.ref O)))
  (VZ:findCls K (.type "ValueError") (.type "type") "__init__"=some (.val (.builtin "ValueError.__init__")))
  (Ly:(Value.ref B::C).contains (.ref B)=true)
  (hz:Nzs K ("len"::"tuple"::"list"::"sorted"::"set"::"sum"::"int"::"str"::"isinstance"::"range"::"any"::"ValueError"::[]))
  (d1:nsIn K mainGlobals "MOST_PATHS"=some (some (.int 16 tD1)))
  (d2:nsIn K mainGlobals "MOST_DEBTS"=some (some (.int 100 tD2)))
  (d3:nsIn K mainGlobals "DIVIDED"=some (some (.str "^" tD3)))
  (d4:nsIn K mainGlobals "QUOTIENT"=some (some (.str "^^" tD4)))
  (V4:nsIn K mainGlobals "OPPOSITE_SIGNS"=some (some (.ref OD)))
  (V3:K.lookup OD=some ⟨.type "dict",none,.dict #[⟨PyData.keyHash w.params "<",.str "<" tO1,.str ">=" uO1⟩,⟨PyData.keyHash w.params ">=",.str ">=" tO2,.str "<" uO2⟩,⟨PyData.keyHash w.params "<=",.str "<=" tO3,.str ">" uO3⟩,⟨PyData.keyHash w.params ">",.str ">" tO4,.str "<=" uO4⟩,⟨PyData.keyHash w.params "=",.str "=" tO5,.str "!=" uO5⟩,⟨PyData.keyHash w.params "!=",.str "!=" tO6,.str "=" uO6⟩] oe,#[]⟩)
  (hk:Kt K [S,Q,V,U,ff,cE,gF,T,W] [S,Q,V,U,ff,cE,gF,T,W] 0)
  (Yq:kitOne K (.type "tuple") (.type "str")=some false)
 :∃fd:FuncData,(∀(s:Shared)(v:Value),BindsTo s fd ⟨[v],[]⟩ [("_law_script",v)])/\∀base:Heap,K.In base->base.Ns mainGlobals f->dX l.prog w K f base ug 90 fa fd ["_law_script"] (MO K):=by
 have e:=hfa.symm.trans (mg_of X G Zv);cases e
 let A:Ad:=⟨jA,bX,cZ,eX,gX,S,Q,V,U,ff,cE,T,W,gF,fh,cT,kJ,iS,B,y⟩
 have jcE:∀(x:Str)(a:Addr),nsIn K mainGlobals x=some (some (.ref a))->f x=some (.ref a):=λx a h=>mg_of X G h;have u:=@Css.ok K f jcE V6 V5;obtain⟨Z8,QK,VU,Lw,Z7,Z5,Z9,Z6,Br,QL,a0a,Bs,_⟩:=hz;obtain⟨a08,J1,Nm,RO,WW,a1a,Nr,RN,a09,WX,RP,Nt,Np,WZ,Nq,J0,WY,W0,_⟩:=hc;have kk:∀j i,j<9->i<9->kitOne K (.ref (qI A j)) (.ref (qI A i))=some (decide (j=i)):=a5c hk;have J:Fx K f A:=⟨jbk X G Z8,jbk X G QK,jbk X G VU,jbk X G Lw,jbk X G Z7,jbk X G Z5,jbk X G Z9,jbk X G Z6,jbk X G Br,jbk X G QL,jbk X G a0a,u a08,u J1,u Nm,u RO,u WW,u a1a,u Nr,u RN,u a09,u WX,u RP,u Nt,u Np,u WZ,u Nq,u J0,u WY,u W0,⟨_,mg_of X G d1⟩,⟨_,mg_of X G d2⟩,⟨_,mg_of X G d3⟩,⟨_,mg_of X G d4⟩,kk,jcE _ _ iw,Yq,jcE⟩
 obtain⟨fdW,FW,kW⟩:=lW;obtain⟨ZW,FI,kI⟩:=lI;obtain⟨fdS,FS,kS⟩:=lS;have XT:XTi K f B y fI O C L:=⟨⟨⟨LH,Uq,HU,LZ,Ds,LC,HP,L6,HR,LX,LV,LS,LQ,LO,LL,LF,F5,F7⟩,Gb,F9,LA,L8,LJ,L4⟩,⟨⟨LG,Up,HS,LY,Dr,LB,HN,L5,HQ,LW,LU,LR,LP,LM,LK,LD,F4,F6⟩,Ga,F8,Lz,L7,LI,L1⟩,Ly,jcE _ _ iw,jcE _ _ nM,jbk X G Bs,VX,VW,VY,M,kW,VZ⟩
 have ZH:Uk l.prog w K f:=Sq (mg_of X G V4) V3;have a6p:=Tp (st:=uy) Yi Lv Zi Yr;refine⟨fnOf "law" "law" (cY uy) (bK uy) (aM uy) .none Vg VB U4 VQ PK VD,λs v=>.of_eq M,λbase _ _=>?_⟩;have d:=@dA l.prog w K f base;have d0:=@d0 l.prog w K f base;have m:=@mA l.prog w K f base;have m0:=@m0 l.prog w K f base;have e:=@m1 l.prog w K f base;have n:=@kA l.prog w K f base;have g:=@dW l.prog w K f base;have mw:=@mW l.prog w K f base;have D:=n J.PV (b.at 0 M) (Ex (P:=l.prog) (w:=w) (base:=base) (k:=0) J );have R:=d J (c.at 1 M) (Ke (k:=2) D.u J );have Z:=d J (c.at 0 M) (Sz (k:=2) D.u J );have FN:=e (b.at 1 M) (Eu (k:=3) R.u J );have uc:=e (b.at 2 M) (Cf (k:=3) R.u J );have zu:=e (b.at 3 M) (Ew (k:=4) FN.u uc.u J );have o:=e (b.at 4 M) (zO (P:=l.prog) (w:=w) (base:=base) (k:=0) J );have gA:=e (b.at 5 M) (uX (P:=l.prog) (w:=w) (base:=base) (k:=0) J );have E:Cm l.prog w K f base 1 "Step" "__init__" ["self","at"] (MH K):=⟨⟨Sp,fS,_,Cg (P:=l.prog) (w:=w) (base:=base) (k:=0) J  _ _ _ _ FS,mg_of X G G2,V1,V0,V2,kS,FS.bb⟩⟩
 have sO:=d J (c.at 4 M) (Et (P:=l.prog) (w:=w) (base:=base) (k:=0) J );have jW:=n J.oJ (b.at 6 M) (vE (P:=l.prog) (w:=w) (base:=base) (k:=0) J );have HK:=n J.Fz (b.at 7 M) (xY (P:=l.prog) (w:=w) (base:=base) (k:=0) J );have Um:=n J.Bh (b.at 8 M) (EE (k:=1) E.u J );have HL:=n J.jz (b.at 9 M) (yk (k:=1) E.u J );have Lm:=n J.oH (b.at 10 M) (zS (k:=1) E.u J );have Ul:=n J.FA (b.at 11 M) (EB (k:=1) E.u J );have Qf:=n J.zh (b.at 12 M) (Cn (k:=1) E.u J );have Bq:=n J.wA (b.at 13 M) (zW (k:=1) E.u J );have Qg:=n J.tZ (b.at 14 M) (Cp (P:=l.prog) (w:=w) (base:=base) (k:=0) J );have qE:=n J.iR (b.at 66 M) (yq (k:=1) E.u J );have zw:=n J.gR (b.at 67 M) (yf (k:=1) E.u sO.u J );have zy:=n J.iQ (b.at 68 M) (yh (k:=1) sO.u J );have FP:=n J.Bg (b.at 69 M) (vz (P:=l.prog) (w:=w) (base:=base) (k:=0) J );have Qh:=n J.Hu (b.at 73 M) (Cq (P:=l.prog) (w:=w) (base:=base) (k:=0) J );have oQ:=n J.Jw (b.at 15 M) (mh (P:=l.prog) (w:=w) (base:=base) (k:=0) J J.Jw.n.1 );have FO:=n J.PX (b.at 16 M) (mh (P:=l.prog) (w:=w) (base:=base) (k:=0) J J.PX.n.1 );have T1:∀n k,2+1*n<=k->Ms l.prog w K f base k 4 (Be A) "told" ["self"] (fE A n):=by
  intro n
  induction n with
  |zero=>exact λk _=>Ms.z |>.r (m0 (b.at 17 M) (rM _)) |>.r (m0 (b.at 18 M) (rM _)) |>.r (m0 (b.at 19 M) (rM _)) |>.r (m0 (b.at 20 M) (rM _))
  |succ n i=>
   intro k hk;obtain⟨j,rfl⟩:∃j,k=j+1:=⟨k - 1,by lia⟩
   have i:=i j (by lia);exact Ms.z |>.r (m (b.at 17 M) (vC (k:=j) (n:=n) gA.v J )) |>.r (m (b.at 18 M) (xX (k:=j) (n:=n) J i)) |>.r (m (b.at 19 M) (zT (k:=j) (n:=n) J i)) |>.r (m (b.at 20 M) (Ci (k:=j) (n:=n) J i))
 have jU:=T1 2 4 (by decide);have vh:=T1 3 5 (by decide);have T2:∀n k,1+1*n<=k->Ms l.prog w K f base k 4 (Be A) "all_sums" ["self"] (mX A n):=by
  intro n
  induction n with
  |zero=>exact λk _=>Ms.z |>.r (m0 (b.at 21 M) (wc _)) |>.r (m0 (b.at 22 M) (wc _)) |>.r (m0 (b.at 23 M) (wc _)) |>.r (m0 (b.at 24 M) (wc _))
  |succ n i=>
   intro k hk;obtain⟨j,rfl⟩:∃j,k=j+1:=⟨k - 1,by lia⟩
   have i:=i j (by lia);exact Ms.z |>.r (m (b.at 21 M) (ym (P:=l.prog) (w:=w) (base:=base) (k:=j) (n:=n) J )) |>.r (m (b.at 22 M) (zN (k:=j) (n:=n) J i)) |>.r (m (b.at 23 M) (nF (k:=j) (n:=n) J (.inl M) i)) |>.r (m (b.at 24 M) (nF (k:=j) (n:=n) J (.inr M) i))
 have jg:=T2 2 3 (by decide);have jf:Ms l.prog w K f base 4 4 (Be A) "things" ["self"] (MF A 2):=Ms.z |>.r (m (b.at 25 M) (gK (k:=3) (n:=2) o.u J jg.u)) |>.r (m (b.at 26 M) (gK (k:=3) (n:=2) o.u J jg.u)) |>.r (m (b.at 27 M) (gK (k:=3) (n:=2) o.u J jg.u)) |>.r (m (b.at 28 M) (gK (k:=3) (n:=2) o.u J jg.u))
 have F:=d J (c.at 2 M) (BV (P:=l.prog) (w:=w) (base:=base) (k:=0) J );have Am:=d J (c.at 3 M) (Ca (P:=l.prog) (w:=w) (base:=base) (k:=0) J );have jD:=d J (c.at 5 M) (zK (k:=4) (n:=2) J jU.u);have Ll:=e (b.at 70 M) (NZ (P:=l.prog) (w:=w) (base:=base) (k:=0) J );have T3:∀n k,6+2*n<=k->Ms l.prog w K f base k 11 (clX A) "told" ["self"] (kX A n):=by
  intro n
  induction n with
  |zero=>exact λk _=>Ms.z |>.r (m0 (b.at 29 M) jl) |>.r (m0 (b.at 30 M) jl) |>.r (m0 (b.at 31 M) jl) |>.r (m0 (b.at 32 M) jl) |>.r (m0 (b.at 33 M) jl) |>.r (m0 (b.at 34 M) jl) |>.r (m0 (b.at 76 M) jl) |>.r (m0 (b.at 35 M) jl) |>.r (m0 (b.at 36 M) jl) |>.r (m0 (b.at 71 M) jl) |>.r (m0 (b.at 5 M) jl)
  |succ n i=>
   intro k hk;obtain⟨j,rfl⟩:∃j,k=j+2:=⟨k - 2,by lia⟩
   have i:=i j (by lia);have p:=d J (c.at 6 M) (lA (k:=j) (n:=n) J i);exact Ms.z |>.r (m (b.at 29 M) (Ky.le (DB (by decide)) (ED (k:=j+1) (n:=n) gA.v J ))) |>.r (m (b.at 30 M) (Ky.le (DB (by decide)) (yj (k:=j+1) (n:=n) gA.v J ))) |>.r (m (b.at 31 M) (Ky.le (DB (by decide)) (zR (k:=j+1) (n:=n) gA.v J ))) |>.r (m (b.at 32 M) (Ky.le (DB (by decide)) (EA (k:=j+1) (n:=n) gA.v J ))) |>.r (m (b.at 33 M) (Ky.le (DB (by decide)) (Ck (k:=j+1) (n:=n) gA.v J ))) |>.r (m (b.at 34 M) (Ky.le (DB (by decide)) (zV (k:=j+1) (n:=n) jU.v J ))) |>.r (m0 (b.at 76 M) XO) |>.r (m (b.at 35 M) (Ky.le (DB (by decide)) (yp (k:=j+1) (n:=n) jU.v J p))) |>.r (m (b.at 36 M) (Ky.le (DB (by decide)) (ye (k:=j+1) (n:=n) gA.v jU.v jD.v J p))) |>.r (m (b.at 71 M) (Ky.le a4h (nG (k:=j+1) (n:=n) jD.v J p))) |>.r (m (b.at 5 M) (Ky.le a4g (uX (P:=l.prog) (w:=w) (base:=base) (k:=j+1) J )))
 have FL:=T3 9 24 (by decide);have Dh:=T3 10 26 (by decide);have zz:=d J (c.at 6 M) (lA (k:=24) (n:=9) J FL.u);have vP:=d J (c.at 6 M) (lA (k:=26) (n:=10) J Dh.u);have HJ:=e (b.at 71 M) (nG (k:=25) (n:=9) jD.u J zz.u);have HH:=e (b.at 72 M) (vv (k:=27) vP.u J );have Qe:Ms l.prog w K f base 5 9 (qI A) "uses" ["self"] (ji A 2):=Ms.z |>.r (m (b.at 37 M) (EC (k:=4) (n:=2) o.u J )) |>.r (m (b.at 38 M) (yi (k:=4) (n:=2) o.u J )) |>.r (m (b.at 39 M) (zQ (k:=4) (n:=2) o.u F.u J )) |>.r (m (b.at 40 M) (Ez (k:=4) (n:=2) o.u F.u J )) |>.r (m (b.at 41 M) (Cj (k:=4) (n:=2) o.u F.u J )) |>.r (m (b.at 42 M) (zU (k:=4) (n:=2) jf.u J )) |>.r (m0 (b.at 77 M) XN) |>.r (m (b.at 43 M) (yo (k:=4) (n:=2) jf.u J )) |>.r (m (b.at 44 M) (xZ (k:=4) (n:=2) jf.u J ))
 have HG:Ms l.prog w K f base 2 9 (qI A) "writes" ["self"] (iK A):=Ms.z |>.r (m (b.at 45 M) (zP (P:=l.prog) (w:=w) (base:=base) (k:=1) J )) |>.r (m (b.at 46 M) (tK (P:=l.prog) (w:=w) (base:=base) (k:=1) J )) |>.r (m (b.at 47 M) (vA (P:=l.prog) (w:=w) (base:=base) (k:=1) J )) |>.r (m (b.at 49 M) (gJ (P:=l.prog) (w:=w) (base:=base) (k:=1) J (.inl M) )) |>.r (m (b.at 48 M) (yg (k:=1) F.u J )) |>.r (m (b.at 50 M) (gJ (P:=l.prog) (w:=w) (base:=base) (k:=1) J (.inr (.inl M)) )) |>.r (m0 (b.at 78 M) XM) |>.r (m (b.at 51 M) (gJ (P:=l.prog) (w:=w) (base:=base) (k:=1) J (.inr (.inr (.inl M))) )) |>.r (m (b.at 52 M) (gJ (P:=l.prog) (w:=w) (base:=base) (k:=1) J (.inr (.inr (.inr M))) ))
 have lU:Ms l.prog w K f base 1 9 (qI A) "blocks" ["self"] (DT A):=Ms.z |>.r (m (b.at 53 M) (cO (P:=l.prog) (w:=w) (base:=base) (k:=0) J (by decide) )) |>.r (m (b.at 54 M) (cO (P:=l.prog) (w:=w) (base:=base) (k:=0) J (by decide) )) |>.r (m (b.at 55 M) (cO (P:=l.prog) (w:=w) (base:=base) (k:=0) J (by decide) )) |>.r (m (b.at 56 M) (cO (P:=l.prog) (w:=w) (base:=base) (k:=0) J (by decide) )) |>.r (m (b.at 57 M) (cO (P:=l.prog) (w:=w) (base:=base) (k:=0) J (by decide) )) |>.r (m (b.at 58 M) (cO (P:=l.prog) (w:=w) (base:=base) (k:=0) J (by decide) )) |>.r (m (b.at 59 M) (cO (P:=l.prog) (w:=w) (base:=base) (k:=0) J (by decide) )) |>.r (m (b.at 60 M) (tL (P:=l.prog) (w:=w) (base:=base) (k:=0) J )) |>.r (m (b.at 61 M) (tH (P:=l.prog) (w:=w) (base:=base) (k:=0) J ))
 have T4:∀n k,3+1*n<=k->Ms l.prog w K f base k 4 (Be A) "opposite" ["self"] (qP A n):=by
  intro n
  induction n with
  |zero=>exact λk _=>Ms.z |>.r (m0 (b.at 62 M) (Cs _)) |>.r (m0 (b.at 63 M) (Cs _)) |>.r (m0 (b.at 64 M) (Cs _)) |>.r (m0 (b.at 65 M) (Cs _))
  |succ n i=>
   intro k hk;obtain⟨j,rfl⟩:∃j,k=j+1:=⟨k - 1,by lia⟩
   have i:=i j (by lia);exact Ms.z |>.r (m (b.at 62 M) (yl (k:=j) (n:=n) jW.v ZH J )) |>.r (m (b.at 63 M) (zM (P:=l.prog) (w:=w) (base:=base) (k:=j) (n:=n) J )) |>.r (m (b.at 64 M) (Co (k:=j) (n:=n) FO.v J i)) |>.r (m (b.at 65 M) (Ey (k:=j) (n:=n) oQ.v J i))
 have sG:=T4 2 5 (by decide);have jY:=d J (c.at 7 M) (GO (k:=2) jW.u J );have gx:=d J (c.at 8 M) (xW (k:=3) D.u jY.u J );have wD:=d J (c.at 9 M) (XD (P:=l.prog) (w:=w) (base:=base) (k:=0) J );have H:=d J (c.at 10 M) (SA (P:=l.prog) (w:=w) (base:=base) (k:=0) J );have sN:=d J (c.at 11 M) (Ep (k:=1) H.u J );have gq:=d J (c.at 12 M) (xO (k:=4) H.u Am.u gx.u Z.u J );have vU:=d J (c.at 13 M) (xV (k:=4) D.u FN.u uc.u oQ.u jY.u Z.u J );have Al:=d J (c.at 14 M) (BZ (k:=5) D.u F.u oQ.u jY.u gx.u Z.u zu.u J );have T5:∀n k,2+1*n<=k->Dn l.prog w K f base k "steps_within" ["steps"] (cu K (mV A n)):=by
  intro n
  induction n with
  |zero=>
   intro k hk;obtain⟨j,rfl⟩:∃j,k=j+1:=⟨k - 1,by lia⟩
   have i:=d0 (k:=j) (ps:=["steps"]) J (c.at 15 M) EK;exact d J (c.at 15 M) (l9 (k:=j) (q:=0) lU.v J i)
  |succ n i=>
   intro k hk;obtain⟨j,rfl⟩:∃j,k=j+1:=⟨k - 1,by lia⟩
   have i:=i j (by lia);exact d J (c.at 15 M) (l9 (k:=j) (q:=n+1) lU.v J i.v)
 have kM:=T5 4 6 (by decide);have sH:=T5 5 7 (by decide);have ud:=d J (c.at 16 M) (vo (k:=5) (n:=2) o.u jf.u J Qe.u);have Di:=d J (c.at 17 M) (Eo (P:=l.prog) (w:=w) (base:=base) (k:=0) J );have ue:=d J (c.at 18 M) (vp (k:=6) kM.u ud.u J );have qF:=d J (c.at 19 M) (rK (k:=6) kM.u HG.u J );have sI:=d J (c.at 20 M) (tG (k:=7) D.u sN.u ue.u wD.u gq.u J );have D_w:=NY (P:=l.prog) (w:=w) (base:=base) (A:=A) (k:=0) FW XT;have ZG:=Kd (k:=1) FI XT D_w FW.bb;have XW:XTw l.prog w K f base B fI C:=⟨XT.ct,XT.hin,XT.mgC⟩
 have wC:=mw (b.at 74 M) (XA (k:=3) H.u Qg.u J XW ZG FI.bb (by decide) );have lT:=mw (b.at 75 M) (El (k:=4) wC.u J );have T6:∀n k,4+1*n<=k->qJ l.prog w K f base A.ay k "count_paths" ["steps"] (vX A n):=by
  intro n
  induction n with
  |zero=>
   intro k hk;obtain⟨j,rfl⟩:∃j,k=j+1:=⟨k - 1,by lia⟩
   have i:qJ l.prog w K f base A.ay j "count_paths" ["steps"] (DS A 0):=w0 J (c.at 21 M) λ_ _ _ _ h=>h;exact g J (c.at 21 M) (nE (k:=j) (q:=0) lU.v J XW ZG FI.bb (by lia) i)
  |succ n i=>
   intro k hk;obtain⟨j,rfl⟩:∃j,k=j+1:=⟨k - 1,by lia⟩
   have i:=i j (by lia);exact g J (c.at 21 M) (nE (k:=j) (q:=n+1) lU.v J XW ZG FI.bb (by lia) i.v)
 have vO:=T6 4 8 (by decide);have Dg:=g J (c.at 22 M) (Es (k:=6) F.u gx.u wD.u gq.u wC.u Al.u J );have Ae:=g J (c.at 40 M) (Cc (k:=5) D.u uc.u jW.u H.u Z.u zu.u wD.u gq.u wC.u vU.u J );have T7:∀n k,8+4*n<=k->n<=5->qJ l.prog w K f base A.ay k "go_steps" ["book","path","steps"] (wQ A n):=by
  intro n
  induction n with
  |zero=>
   intro k hk _;obtain⟨j,rfl⟩:∃j,k=j+1:=⟨k - 1,by lia⟩
   have i:qJ l.prog w K f base A.ay j "go_step" ["book","path","step"] (JT A 0 λ_=>True):=w0 J (c.at 24 M) (a1A _);exact g J (c.at 23 M) (uW (k:=j) (q:=0) J i)
  |succ n i=>
   intro k hk hp;obtain⟨j,rfl⟩:∃j,k=j+4:=⟨k - 4,by lia⟩
   have i:=i j (by lia) (by lia);have p:=g J (c.at 25 M) (Ce (k:=j) (q:=n) H.v sG.v J i.v);have e1:=g J (c.at 27 M) (Er (k:=j) (q:=n) D.v jY.v gx.v Z.v zu.v wD.v wC.v lT.v J i.v);have e2:=g J (c.at 26 M) (Cb (k:=j+1) (q:=n) H.v sN.v gq.v sG.v Di.v qF.v lT.v J (by lia) sH.v e1.v);have e3:=g J (c.at 24 M) (GN (k:=j+2) (q:=n) Dg.v Ae.v J e2.v p.v);exact g J (c.at 23 M) (uW (k:=j+3) (q:=n+1) J e3.v)
 have Df:=T7 4 24 (by decide) (by decide);have Lk:=g J (c.at 28 M) (N5 (k:=24) lT.u Df.u sI.u Qh.u vO.u Ll.u J );have qb:=d J (c.at 29 M) (GK (P:=l.prog) (w:=w) (base:=base) (k:=0) J );have vS:=d J (c.at 30 M) (BX (k:=1) qb.u J );have t:=d J (c.at 31 M) (Kg (k:=1) qb.u J );have Aj:=d J (c.at 32 M) (GJ (k:=2) t.u J );have iU:=d J (c.at 33 M) (N1 (k:=3) R.u t.u J );have T8:∀n k,5+1*n<=k->Dn l.prog w K f base k "_law_condition" ["_law_draw","_law_things","_law_deep"] (cu K (DQ A n)):=by
  intro n
  induction n with
  |zero=>
   exact λk _=>d0 J (c.at 34 M) EK
  |succ n i=>
   intro k hk;obtain⟨j,rfl⟩:∃j,k=j+1:=⟨k - 1,by lia⟩
   have i:=i j (by lia);exact d J (c.at 34 M) (xU (k:=j) (n:=n) jW.v FO.v oQ.v t.v HK.v iU.v J i.v)
 have I:=T8 2 7 (by decide);have Ai:=d J (c.at 35 M) (GH (k:=4) R.u t.u iU.u J );have sL:=d J (c.at 36 M) (Kh (k:=7) R.u t.u iU.u Um.u Bq.u I.u Qf.u Ai.u Ul.u Lm.u HL.u J );have kq:=d J (c.at 38 M) (GI (k:=7) I.u J );have T9:∀n k,9+2*n<=k->Dn l.prog w K f base k "_law_steps" ["_law_draw","_law_own","_law_many","_law_deep","_law_helpers"] (cu K (AA A n)):=by
  intro n
  induction n with
  |zero=>
   exact λk _=>d0 J (c.at 37 M) EK
  |succ n i=>
   intro k hk;obtain⟨j,rfl⟩:∃j,k=j+2:=⟨k - 2,by lia⟩
   have i:=i j (by lia);have p:=d J (c.at 39 M) (AV (k:=j) (q:=n) t.v iU.v I.v sL.v zw.v kq.v qE.v J i.v);exact d J (c.at 37 M) (xQ (k:=j+1) (q:=n) J p.v)
 have Af:=T9 4 17 (by decide);have zB:=d J (c.at 41 M) (Em (k:=17) t.u Bq.u I.u kq.u zy.u Af.u J );have T9s:∀q,q<=3->Dn l.prog w K f base 16 "_law_step" ["_law_draw","_law_own","_law_deep","_law_helpers"] (cu K (BD A q)):=λq hq=>d J (c.at 39 M) (AV (k:=15) (q:=q) t.u iU.u I.u sL.u zw.u kq.u qE.u J (T9 q 15 (by lia)));have zA:Dn l.prog w K f base 17 "_law_steps" ["_law_draw","_law_own","_law_many","_law_deep","_law_helpers"] (cu K (AB A)):=d J (c.at 37 M) (Ky.ex λq hq=>xQ (k:=16) (q:=q) J (T9s q hq));have lV:=d J (c.at 42 M) (Kf (P:=l.prog) (w:=w) (base:=base) (k:=0) J );have jX:=d J (c.at 43 M) (N3 (P:=l.prog) (w:=w) (base:=base) (k:=0) J );have gu:=d J (c.at 44 M) (BY (P:=l.prog) (w:=w) (base:=base) (k:=0) J );have TA:∀n k,1+1*n<=k->Dn l.prog w K f base k "_law_things_of" ["_law_told"] (cu K (DM n)):=by
  intro n
  induction n with
  |zero=>
   exact λk _=>d0 J (c.at 45 M) a1z
  |succ n i=>
   intro k hk;obtain⟨j,rfl⟩:∃j,k=j+1:=⟨k - 1,by lia⟩
   have i:=i j (by lia);exact d J (c.at 45 M) (xP (k:=j) (n:=n) J i.v)
 have gS:=TA 2 3 (by decide);have TB:∀n k,1+1*n<=k->Dn l.prog w K f base k "_law_opposite" ["_law_told"] (cu K (wN n)):=by
  intro n
  induction n with
  |zero=>
   exact λk _=>d0 J (c.at 52 M) XQ
  |succ n i=>
   intro k hk;obtain⟨j,rfl⟩:∃j,k=j+1:=⟨k - 1,by lia⟩
   have i:=i j (by lia);exact d J (c.at 52 M) (zL (k:=j) (n:=n) J i.v)
 have kN:=TB 2 3 (by decide);have jF:=d J (c.at 46 M) (vq (P:=l.prog) (w:=w) (base:=base) (k:=0) J );have vR:=d J (c.at 47 M) (BW (k:=1) lV.u jX.u gu.u J );have sJ:=d J (c.at 48 M) (xS (k:=5) J vh.u);have Ah:=d J (c.at 49 M) (GF (k:=6) sJ.u J vh.u);have n5:=d J (c.at 50 M) (N2 (P:=l.prog) (w:=w) (base:=base) (k:=0) J );have sM:=d J (c.at 51 M) (Kl (k:=1) jX.u gu.u J );have TC:∀n k,1+1*n<=k->Dn l.prog w K f base k "_law_written" ["_law_steps_here"] (cu K (DL n)):=by
  intro n
  induction n with
  |zero=>
   intro k hk;obtain⟨j,rfl⟩:∃j,k=j+1:=⟨k - 1,by lia⟩
   have i:=d0 (k:=j) (ps:=["_law_steps_here"]) J (c.at 53 M) EK;exact d J (c.at 53 M) (rL (k:=j) (q0:=0) J i)
  |succ n i=>
   intro k hk;obtain⟨j,rfl⟩:∃j,k=j+1:=⟨k - 1,by lia⟩
   have i:=i j (by lia);exact d J (c.at 53 M) (rL (k:=j) (q0:=n+1) J i.v)
 have vQ:=TC 5 6 (by decide);have TD:∀n k,4+n<=k->Dn l.prog w K f base k "_law_stand" ["_law_steps_here"] (cu K (qQ n)):=by
  intro n
  induction n with
  |zero=>
   intro k hk;obtain⟨j,rfl⟩:∃j,k=j+1:=⟨k - 1,by lia⟩
   have i:=d0 (k:=j) (ps:=["_law_steps_here"]) J (c.at 54 M) EK;exact d J (c.at 54 M) (xR (k:=j) (q0:=0) jF.v gS.v J i (TC 0 j (by lia)))
  |succ n i=>
   intro k hk;obtain⟨j,rfl⟩:∃j,k=j+1:=⟨k - 1,by lia⟩
   have i:=i j (by lia);exact d J (c.at 54 M) (xR (k:=j) (q0:=n+1) jF.v gS.v J i (TC (n+1) j (by lia)))
 have Ag:=TD 5 9 (by decide);have TE:∀n k,7+3*n<=k->n<=5->Dn l.prog w K f base k "_law_go" ["_law_found","_law_helpers","_law_steps_here","_law_path"] (cu K (DP n)):=by
  intro n
  induction n with
  |zero=>
   intro k hk _;obtain⟨j,rfl⟩:∃j,k=j+1:=⟨k - 1,by lia⟩
   have i:=d0 (k:=j) (ps:=["_law_found","_law_helpers","_law_step_here","_law_path"]) (sp:=om 0) J (c.at 56 M) XR;exact d J (c.at 55 M) (IQ (k:=j) (q:=0) J i)
  |succ n i=>
   intro k hk hp;obtain⟨j,rfl⟩:∃j,k=j+3:=⟨k - 3,by lia⟩
   have i:=i j (by lia) (by lia);have p:=d J (c.at 57 M) (GG (k:=j) (q:=n) lV.v jX.v gu.v kN.v n5.v sM.v vQ.v J (by lia) i.v);have e1:=d J (c.at 56 M) (En (k:=j+1) (q:=n) lV.v jX.v gu.v kN.v n5.v vR.v J p.v i.v);exact d J (c.at 55 M) (IQ (k:=j+2) (q:=n+1) J e1.v)
 have HM:=TE 4 19 (by decide) (by decide);have FQ:=d J (c.at 58 M) (N4 (k:=19) gS.u n5.u sM.u HM.u Ag.u J );have Ak:=d J (c.at 59 M) (GL (k:=25) Ah.u Lk.u J XW );exact Vv Yh ((XE (k:=28) t.u I.u qE.u zy.u Ak.u FQ.u HJ.u HH.u FP.u zB.u Aj.u vS.u J zA.u _ _ _ _ a6p).mono (by decide:29<=90))
theorem _root_.Hw.walk {l:OpenLaw}{q:Program}{b:jcI}{j:(Str->jcN)->Heap->Prop}{i:World->Heap->Prop}{d:DefRec}{K:Params->Frag}(n:l.most=some 63)(e:d.params.defaults=[])
  (m:∀(w:World)(h:Heap),i w h->(K w.params).In h)
  (F:∀(w:World)(c:Str->jcN)(g:Addr)(h:Heap),(K w.params).In h->h.Ns mainGlobals c->c d.name=some (.ref g)->
   ∃fd:FuncData,(∀(s:Shared)(u:Value),BindsTo s fd ⟨[u],[]⟩ [("_law_script",u)])/\∀base:Heap,(K w.params).In base->base.Ns mainGlobals c->dX l.prog w (K w.params) c base ug 90 g fd ["_law_script"] (MO (K w.params))) :
  WalkO q b j i l.row.toRowW d [] (λf vs=>PySem.call f vs):=
 L2.QV n (by decide) e ⟨M,by decide,by decide⟩ m F (λ_ _ a p o _ k=>⟨a,p,M,k,o,λ_=>rfl⟩) λ_ _ _ _ _ z=>z
end L3
open PySem PySem.W PyProof.Rows
set_option maxRecDepth 100000 in
set_option maxHeartbeats 0 in
theorem PySem.Challenge.cw_holdwright_k30_choices_and_loops_holds : PySem.Challenge.rw_holdwright_k30_choices_and_loops.Holds := by
 refine Hd ?_
 k_fill
 refine Hw.walk (l:=PySem.Challenge.rw_holdwright_k30_choices_and_loops) rfl rfl (fun w h QR=>QR) ?F
 case F=>
  intro w mg fa h KX G hmg;refine' Hw.all_mk KX G hmg ?hc ?G2 ?V2 ?V6 ?V5 ?V1 ?V0 ?lS ?ha ?hm ?Zv ?Yi ?Lv ?Zi ?Yr ?lW ?lI ?iw ?nM ?LD ?F4 ?F6 ?Ga ?F8 ?Lz ?L7 ?LI ?L1 ?LF ?F5 ?F7 ?Gb ?F9 ?LA ?L8 ?LJ ?L4 ?VX ?VW ?VY ?VZ ?Ly ?hz ?d1 ?d2 ?d3 ?d4 ?V4 ?V3 ?hk ?Yq
  (case hc=>((repeat (refine' ⟨⟨?_,⟨?_,?_,?_,?_,?_,?_,?_,?_⟩,?_⟩,?_⟩;(any_goals k_is);(repeat (refine' ⟨?_,?_⟩;(any_goals k_is)));exact trivial));exact trivial))
  (case G2|V2|iw|nM|LD|LF|F6|F7|V4|V6|V5|V1|V0|Zv|Yi|Zi|Yr|Ga|F8|Gb|F9|VX|VW|VY|VZ|d1|d2|d3|d4|V3=>k_is)
  (case lS=>(refine' Hw.O7 ?ya ?yb ?yc ?yd;(case ya=>k_is);(case yb=>kernel_rfl);(case yc|yd=>k_is)))
  (case ha=>((repeat (refine' ⟨?_,?_⟩;apply Exists.intro;refine' ⟨?_,?_⟩;(any_goals k_is);(refine' Hw.O7 ?_ ?_ ?_ ?_;(any_goals k_is);kernel_rfl)));exact trivial))
  (case hm=>((repeat (refine' ⟨?_,?_⟩;apply Exists.intro;refine' ⟨?_,?_,?_⟩;(any_goals k_is);(refine' Hw.O7 ?_ ?_ ?_ ?_;(any_goals k_is);kernel_rfl)));exact trivial))
  (case Lv=>kernel_rfl)
  (case lW|lI=>(refine' Hw.O7 ?ya ?yb ?yc ?yd;(case ya=>k_is);(case yb=>kernel_rfl);(case yc|yd=>k_is)))
  (case F4|Lz|L7|LI|L1|F5|LA|L8|LJ|L4|Ly=>kernel_rfl)
  (case hz=>((repeat (refine' ⟨?_,?_⟩;(any_goals k_is)));exact trivial))
  (case hk=>((repeat (refine' ⟨?_,?_⟩;(repeat (refine' ⟨?_,?_⟩;(any_goals kit_is)));exact trivial));exact trivial))
  (case Yq=>kit_is)
#print axioms PySem.Challenge.cw_holdwright_k30_choices_and_loops_holds
