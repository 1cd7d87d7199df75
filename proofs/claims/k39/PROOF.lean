import PyProof.Rows.All
import Wide.All
import OpenK.AllK
import Wide.FinOn
import Lean
import PyProof.EqAt
import PyProof.EqKinds
import PyProof.TupleCall
import PyProof.AttrMissHeap
import PyProof.DictWalks
import KE.KDictObj
import KE.KEqDict
import KE.KUnpack
import PyProof.Rows.SetFrom
import KE.KRevIter
import KE.KDictSum
import KE.KFmtOwn
import PyProof.FactsAll.set_1
import PyProof.FactsAll.set_2
import PyProof.FactsAll.tuple_1
import PyProof.FactsAll.tuple_2
import KE.KSortTup
import PyProof.SetRoads
import PyProof.DictValues
import PyProof.FactsAll.dict_4
import PyProof.Rows.CallKwBuiltin
import PyProof.DictCopy
import KE.KDictList
import KE.KPairComp
import PyProof.DictItems
import PyProof.MinMaxWalk
import PyProof.WalkInts
import PyProof.RulesTry
import PyProof.ListRange
import PyProof.RangeFor
import KE.KNest
import KE.KLam
import PySem.Challenge.RW_keepsakes_k39_whole_least_ways_fetched
set_option linter.all false
def QB:=@PySem.wpAny_bind
def QC:=@List.getElem?_eq_getElem
def QD:=@PySem.Heap.get?_push_of_some
def QE:=@List.getElem?_eq_some_iff
def QF:=@PySem.Heap.lt_size
def QG:=@List.length_map
def QH:=@Nat.le_refl
def QI:=@PySem.wpAny_pure
def QJ:=@List.mem_of_getElem?
def QK:=@List.getElem?_map
def QL:=@PySem.W.mg_of
def QM:=@List.lookup_cons
def QN:=@Nat.ne_of_lt
def QO:=@List.size_toArray
def QS:=@List.mem_map
def QT:=@Nat.lt_of_lt_of_le
def QU:=@PySem.Heap.get?_push_size
def QV:=@Bool.false_ne_true
def QW:=@List.getElem?_append_left
def QX:=@Option.map_eq_some_iff
def QY:=@decide_eq_false
def QZ:=@List.mem_singleton
def Ra:=@PySem.PassesOwn.leaving
def Rb:=@List.getElem?_append_right
def Rc:=@Option.some.inj
def Rf:=@PySem.wpAny_mono
def Rg:=@List.mem_cons_of_mem
def Rh:=@List.mem_cons
def Ri:=@List.length_take
def Rj:=@List.length_append
def Rk:=@List.map_cons
def Rl:=@List.getD_eq_getElem?_getD
def Rm:=@Nat.zero_le
def Rn:=@List.take_add_one
def Ro:=@List.mem_append
def Rp:=@Nat.le_trans
def Rq:=@decide_eq_true
def Rt:=@PySem.W.mg_none_of
def Ru:=@PySem.boot_len
def Rv:=@PySem.wpAny_Call_Name_kw
def Rw:=@List.mem_append_right
def Rx:=@List.getElem?_eq_none
def Ry:=@Nat.ne_of_gt
def Rz:=@List.nodup_cons
def RA:=@List.take_length
def RB:=@PySem.wpAny_loadPart_at
def RC:=@PySem.Heap.get?_update_other
def RD:=@PyProof.Rows.callWith_type1
def RE:=@PySem.Calls.spliced_cons
def RG:=@PySem.Heap.get?_update_self
def RH:=@PySem.F.plainAttrs_list
def RI:=@PySem.wpAny_field
def RJ:=@Ne.symm
def RK:=@PySem.wpAny_holding
def RL:=@List.map_append
def RM:=@Nat.le_of_lt
def RN:=@PySem.Calls.spliced_nil
def RO:=@PySem.F.slot_list_append
def RP:=@PySem.F.type_list_append
def RQ:=@PySem.W.kia_one
def RT:=@List.append_nil
def RU:=@List.mem_cons_self
def RV:=@List.length_cons
def RW:=@Sum.inl.inj
def RX:=@PySem.Calls.callWith_builtin
def RY:=@List.length_pos_iff
def RZ:=@List.length_replicate
def R0:=@List.mem_iff_getElem?
def R4:=@Option.isSome_iff_exists
def R8:=@List.getElem_mem
def R9:=@PySem.wpAny_newObj_type
def Sa:=@Nat.lt_succ_of_lt
def Sb:=@beq_eq_false_iff_ne
def Sd:=@PySem.mem_of_lookup
def Se:=@PySem.wpAny_isSubtype_exc
def Sf:=@Nat.le_succ
def Sg:=@PySem.F.excBase_ValueError
def Sh:=@Nat.lt_succ_self
def Si:=@Nat.lt_of_le_of_lt
def Sj:=@PySem.F.slot_dict_get
def Sk:=@Int.emod_lt_of_pos
def Sl:=@List.mem_append_left
def Sm:=@List.getElem?_set_ne
def Sn:=@PySem.W.looks_findIn
def So:=@PySem.Calls.evalArgs_plain
def Sq:=@PySem.wpAny_ite_split
def Ss:=@Int.emod_nonneg
def Su:=@Nat.lt_irrefl
def Sv:=@PySem.wpAny_callSpecial?_slot
def Sw:=@PySem.F.plainAttrs_dict
def Sx:=@List.replicate_succ
def Sy:=@PySem.Heap.size_push
def Sz:=@PySem.wpAny_call_entry
def SE:=@List.getElem?_set_self
def SH:=@PySem.tupleKind_room_in1
def SI:=@PySem.Code.quiet_builtin
def SJ:=@PySem.W.callWith_K
def SK:=@PySem.F.slot_enumerate_next
def SN:=@List.mem_filter
def SO:=@PySem.wpAny_passesOwn
def SQ:=@Nat.mod_two_eq_zero_or_one
def SR:=@Array.getElem?_eq_some_iff
def SS:=@List.foldl_append
def SV:=@PySem.codeAny_mono
def SW:=@PyProof.Rows.slot_tuple_getitem
def SX:=@Bool.eq_iff_iff
def SY:=@beq_iff_eq
def S0:=@List.length_set
def S6:=@PySem.wpAny_call
def S7:=@PySem.Obj.data_mapFields
def S8:=@PySem.F.entry_dict_get
def Tc:=@PyProof.Rows.boot_list
def Td:=@List.flatten_cons
def Te:=@PySem.wpAny_Call_method
def Tf:=@List.getElem?_set
def Tg:=@List.ext_getElem?
def Th:=@List.mem_range
def Ti:=@Array.getElem?_toList
def Tj:=@List.length_filter_le
def Tn:=@PySem.call_meetsIn
def To:=@List.nodup_nil
def Tp:=@List.length_dropLast
def Tq:=@List.filter_cons
def Tr:=@Nat.le_add_right
def Tt:=@PySem.Around.under_plainId
def Tu:=@Array.length_toList
def Tv:=@Int.toNat_of_nonneg
def Tw:=@PySem.wpAny_execs_nil
def Tz:=@List.foldl_cons
def TF:=@PySem.wpAny_specialOf
def TJ:=@PySem.F.plain_extend_loop
def TL:=@PySem.AutoSeq1.wpAny_loadPart'
def TM:=@PySem.F.slot_list_getattribute
def TN:=@PySem.wpAny_setField
def TQ:=@PySem.wpAny_truthy_bool
def TR:=@Option.isSome_map
def TU:=@PySem.F.args_tuple_iterator_next_1
def TV:=@of_decide_eq_true
def TX:=@PySem.F.entry_tuple_iterator_next
def TY:=@List.take_of_length_le
def TZ:=@PySem.wpAny_execs_cons
def T4:=@PySem.F.slot_tuple_iterator_next
def T5:=@PyProof.Rows.wpS_bind
def T6:=@PySem.codeAny_call_function
def T7:=@PySem.Obj.isFreed_of_fields
def T8:=@PySem.W.methodCall_KW
def T9:=@PySem.builtinLookup_eq_fast
def Ua:=@PySem.plainObj_wpAny_Assign_Attribute
def Ub:=@PySem.wpAny_typeOf
def Uc:=@PySem.call_meets
def Ud:=@Option.map_some
def Ue:=@List.contains_eq_mem
def Ug:=@PySem.codeAny_call_builtin
def Uh:=@PySem.codeAny_builtin
def Ui:=@PySem.F.args_enumerate_next_1
def Uj:=@List.filterMap_cons
def Uk:=@PySem.W.plainGet_of
def Ul:=@PySem.W.looks_clsIn
def Um:=@PySem.W.looks_mroIn
def Uo:=@PySem.W.callWith_K0
def Up:=@List.length_reverse
def Uq:=@PySem.F.slot_dict_setdefault
def Ur:=@PySem.F.entry_enumerate_next
def Us:=@PySem.wpAny_pyIter_tuple
def Ut:=@of_decide_eq_false
def Uu:=@PySem.wpAny_setField_rec
def Uv:=@PySem.Calls.Name_function_global
def Uw:=@PySem.wpAny_standAt
def Ux:=@PySem.wpAny_newFunctionEnv_cells
def Uy:=@PySem.F.excAttr_ValueError
def Uz:=@Int.toNat_natCast
def UA:=@List.reverse_cons
def UB:=@List.append_assoc
def UC:=@PySem.wpAny_pyIter_enum
def UD:=@List.pairwise_map
def UE:=@PyProof.Rows.intsAre_of
def UG:=@PySem.codeAny_call_builtin_code
def UH:=@PySem.wpAny_check_type_call_sub
def UI:=@PySem.Calls.call_function_entry
def UJ:=@PySem.F.entry_extend_loop
def UK:=@List.mem_or_eq_of_mem_set
def UL:=@Nat.le_of_eq
def UM:=@PySem.F.args_tuple_add_2
def UN:=@List.length_drop
def UO:=@Bool.and_eq_true
def UP:=@PySem.F.store_ValueError
def UQ:=@PySem.wpAny_madeBy_exc
def UR:=@PySem.F.slot_dict_update
def US:=@List.length_erase_of_mem
def UT:=@PySem.F.args_list_init_2
def UU:=@PyProof.Rows.boot_sorted
def UW:=@List.getElem?_replicate
def UX:=@PySem.F.entry_tuple_add
def UY:=@PySem.F.args_dict_get_2
def UZ:=@PySem.F.args_dict_get_3
def U0:=@PySem.codeAny_call_builtin_at
def U1:=@PySem.F.typeCall_list_1
def U3:=@PySem.F.entry_list_init
def U4:=@List.of_mem_zip
def U5:=@PySem.typeLookup_type
def U6:=@PySem.wpAny_updateSeq
def U7:=@PySem.sizeLine_eq
def U8:=@PySem.W.cellsFrom_some
def U9:=@PySem.F.slot_tuple_add
def Vb:=@PySem.Heap.size_after_update
def Vc:=@PySem.wpAny_nextOf_list_item
def Vd:=@PySem.Heap.get?_update_of_ne
def Ve:=@PySem.wpAny_storeName_local
def Vf:=@PySem.wpAny_isTrue_Compare1
def Vg:=@List.length_singleton
def Vh:=@PySem.F.slot_dict_pop
def Vi:=@PySem.F.type_dict_get
def Vj:=@PySem.wpAny_seqItems
def Vk:=@PySem.wpAny_nextOf_list_end
def Vl:=@PySem.callType_codes
def Vm:=@PySem.Heap.IsRevIter.typeIs
def Vn:=@List.Perm.refl
def Vo:=@PyProof.Rows.boot_min
def Vp:=@PySem.wpAny_Name
def Vu:=@List.getElem?_modify
def Vv:=@PySem.Paired.length
def Vw:=@List.any_cons
def Vx:=@PySem.wpAny_attempt
def Vy:=@PySem.wpAny_newList
def Vz:=@PySem.plainId_quiet
def VA:=@PySem.W.findObj_own
def VB:=@List.dropWhile_cons
def VD:=@PySem.wpAt_of_wpAny
def VF:=@PySem.W.kdu_collect
def VH:=@PySem.F.called_list
def VL:=@List.mem_filterMap
def VM:=@PySem.W.codeRec_of
def VN:=@PySem.codeAny_func
def VP:=@List.zip_cons_cons
def VQ:=@List.map_nil
def VR:=@PySem.seqIndex_neg
def VS:=@Nat.xor_lt_two_pow
def VT:=@Nat.xor_zero
def VU:=@PySem.W.check_slot
def VV:=@List.contains_cons
def VW:=@decide_eq_true_iff
def VY:=@List.filter_append
def VZ:=@List.mem_replicate
def V0:=@List.map_map
def V1:=@Int.sub_add_cancel
def V4:=@PySem.W.set_plain
def V6:=@PySem.W.kitx_list
def V7:=@PySem.W.kitx_dict
def Wd:=@Int.le_refl
def Wj:=@List.cons_append
def Wk:=@PySem.W.kdl_dict
def Wl:=@List.all_eq_true
def Wq:=@PySem.W.bind_fn
def Ww:=@List.length_nil
def Wy:=@Nat.div_add_mod
def Wz:=@PySem.wpAt_bind
def WG:=@Nat.not_lt_zero
open PySem.W (instObj methodObj Frag lookIn plainGet hasDictIn findIn handedIn isFn plainOver takerIn Looks makesIn typeIn emptyDict keepIn specialIn takesIn mroIn kitOne fnOf codeIn OpenLaw WalkO kIn_of clsIn osa_eq readsIn findCls envX fnX FnAt tabObj CodeHd fnMade nsIn tabIn tab_of)
set_option Elab.async false
set_option linter.all false
set_option maxRecDepth 100000
namespace L2
open PySem PySem.Spec PyProof.Rows
abbrev Key:=Sum Int Str
def lq:Key->Value->Bool
 | .inl k,v=>Value.isInt k v
 | .inr x,v=>Value.isStrOf x v
def Ox (w:World):Key->Int
 | .inl k=>hashInt k
 | .inr x=>hashStr w x
theorem cj:∀ {k:Key} {v:Value},lq k v=true->(∃ i t,k=Sum.inl i /\ v=Value.int i t) ∨(∃ x t,k=Sum.inr x /\ v=Value.str x t)
 | .inl i,v,h=>by
  obtain⟨t,e⟩:=Value.isInt_shape (k:=i) (v:=v) h
  exact .inl ⟨i,t,rfl,e⟩
 | .inr x,v,h=>by
  obtain⟨t,e⟩:=Value.isStrOf_shape (x:=x) (v:=v) h
  exact .inr ⟨x,t,rfl,e⟩
theorem BV (i:Int) (t:Tok):lq (.inl i) (.int i t)=true:=by simp [lq,Value.isInt]
theorem CK (x:Str) (t:Tok):lq (.inr x) (.str x t)=true:=by simp [lq,Value.isStrOf]
theorem Gi (a b:Int):decide ((Sum.inl a:Key)=Sum.inl b) =(a == b):=by
 by_cases e:a=b
 ·subst e;simp
 ·have h:¬(Sum.inl a:Key)=Sum.inl b:=λ q=>e (RW q)
  rw [QY h]
  exact(Sb.mpr e).symm
theorem Fp (a b:Str):decide ((Sum.inr a:Key)=Sum.inr b)=decide (a=b):=by
 by_cases e:a=b
 ·subst e;simp
 ·have h:¬(Sum.inr a:Key)=Sum.inr b:=λ q=>e (Sum.inr.inj q)
  rw [QY h,QY e]
theorem Gm (a:Int) (b:Str):decide ((Sum.inl a:Key)=Sum.inr b)=false:=QY (λ q=>nomatch q)
theorem Gf (a:Str) (b:Int):decide ((Sum.inr a:Key)=Sum.inl b)=false:=QY (λ q=>nomatch q)
def bG (prog:Program) (w:World):PySem.KeyKind prog w Key where
 is:=lq
 hash:=Ox w
 inj:=λ v a b ha hb=>by
  rcases cj ha with⟨i,t,rfl,rfl⟩ |⟨x,t,rfl,rfl⟩
  ·rcases cj hb with⟨j,u,rfl,e⟩ |⟨y,u,rfl,e⟩
   ·injection e with e1 _;rw [e1]
   ·exact nomatch e
  ·rcases cj hb with⟨j,u,rfl,e⟩ |⟨y,u,rfl,e⟩
   ·exact nomatch e
   ·injection e with e1 _;rw [e1]
 byValue:=λ k v h=>by
  rcases cj h with⟨i,t,rfl,rfl⟩ |⟨x,t,rfl,rfl⟩ <;> rfl
 pyHash:=λ hv h=>by
  rcases cj hv with⟨i,t,rfl,rfl⟩ |⟨x,t,rfl,rfl⟩
  ·exact wpAny_pyHash_int h
  ·exact wpAny_pyHash_str h
 eqBool:=λ hu hv h=>by
  rcases cj hu with⟨i,t,rfl,rfl⟩ |⟨x,t,rfl,rfl⟩
  ·rcases cj hv with⟨j,u,rfl,rfl⟩ |⟨y,u,rfl,rfl⟩
   ·rw [Gi] at h;exact wpAny_eqBool_int h
   ·rw [Gm] at h;exact SeqAt.EqAt.int_str i t y u _ _ _ _ h
  ·rcases cj hv with⟨j,u,rfl,rfl⟩ |⟨y,u,rfl,rfl⟩
   ·rw [Gf] at h;exact SeqAt.EqAt.str_int x t j u _ _ _ _ h
   ·rw [Fp] at h;exact wpAny_eqBool_str h
 «strs»:=λ k x t v h=>by
  rcases cj h with⟨i,u,rfl,e⟩ |⟨y,u,rfl,e⟩
  ·exact nomatch e
  ·injection e with e1 _
   subst e1
   cases v <;> rfl
theorem zU (prog:Program) (w:World) (i:Int) (t:Tok):(bG prog w).is (.inl i) (.int i t)=true:=BV i t
theorem zQ (prog:Program) (w:World) (x:Str) (t:Tok):(bG prog w).is (.inr x) (.str x t)=true:=CK x t
inductive V where
 | non | bl (b:Bool) | int (i:Int) | str (x:Str) | byt (b:Array UInt8) | flt (b:UInt64) | ref (a:Addr) | ty (n:String)
 deriving DecidableEq
def RelV:V->Value->Prop
 | .non,u=>u=Value.none
 | .bl b,u=>u=Value.bool b
 | .int i,u=>∃ t,u=Value.int i t
 | .str x,u=>∃ t,u=Value.str x t
 | .byt b,u=>∃ t,u=Value.bytes b t
 | .flt b,u=>∃ t,u=Value.float b t
 | .ref a,u=>u=Value.ref a
 | .ty n,u=>u=Value.type n
abbrev Vals:List V->List Value->Prop:=Paired RelV
theorem Vals.length {xs:List V} {us:List Value} (r:Vals xs us):xs.length=us.length:=Vv r
theorem Vals.get:∀ {xs:List V} {us:List Value} {i:Nat} {x:V},Vals xs us->xs[i]? = some x->∃ u,us[i]? = some u /\ RelV x u
 | _,_,_,_,.nil,e=>by simp at e
 | _,_,0,_,.cons r _,e=>by simp at e;subst e;exact⟨_,rfl,r⟩
 | _,_,i + 1,x,.cons _ t,e=>by
  obtain⟨u,h1,h2⟩:=Vals.get (i:=i) (x:=x) t (by simpa using e)
  exact⟨u,by simpa using h1,h2⟩
theorem Vals.set {x:V} {u:Value} (r:RelV x u):∀ {xs:List V} {us:List Value} (i:Nat),Vals xs us->Vals (xs.set i x) (us.set i u)
 | _,_,_,.nil=>.nil
 | _,_,0,.cons _ t=>.cons r t
 | _,_,i + 1,.cons q t=>.cons q (Vals.set r i t)
theorem Vals.append:∀ {xs ys:List V} {us ws:List Value},Vals xs us->Vals ys ws->Vals (xs ++ ys) (us ++ ws)
 | _,_,_,_,.nil,s=>s
 | _,_,_,_,.cons r t,s=>.cons r (Vals.append t s)
theorem Vals.take:∀ {xs:List V} {us:List Value} (n:Nat),Vals xs us->Vals (xs.take n) (us.take n)
 | _,_,0,_=>.nil
 | _,_,_ + 1,.nil=>.nil
 | _,_,n + 1,.cons r t=>.cons r (Vals.take n t)
theorem Vals.drop:∀ {xs:List V} {us:List Value} (n:Nat),Vals xs us->Vals (xs.drop n) (us.drop n)
 | _,_,0,r=>r
 | _,_,_ + 1,.nil=>.nil
 | _,_,n + 1,.cons _ t=>Vals.drop n t
def fj:Option V->Option Value->Prop
 | some v,some u=>RelV v u
 | none,none=>True
 | _,_=>False
def KV {κ:Type}:List (κ × V)->List (κ × Value)->Prop:=Paired λ(p:κ × V) (q:κ × Value)=>p.1=q.1 /\ RelV p.2 q.2
def kV:Key->V
 | .inl i=>.int i
 | .inr x=>.str x
inductive HO where
  | lst (xs:List V)
  | tup (xs:List V)
  | dK (kvs:List (Key × V)) | dT (kvs:List (List Key × V))
  | set (S:Int->Bool) (n:Nat)
  | ins (C dx:Addr) (fs:List (Str × V))
  | own (x:Addr)
  | xd (fs:List (Str × V))
  | met (f x:Addr)
  | rng (lo hi:Int)
  | frz (o:Obj) (u:HO)
  | tbl (ps:Array Value)
  | ext (φ:Heap->Prop)
abbrev Hp:=Addr->Option HO
def upd (H:Hp) (a:Addr) (o:HO):Hp:=λ b=>if b=a then some o else H b
theorem ak {H:Hp} {a:Addr} {o:HO}:upd H a o a=some o:=by unfold upd;rw [if_pos rfl]
theorem af {H:Hp} {a b:Addr} {o:HO} (h:b ≠ a):upd H a o b=H b:=by unfold upd;rw [if_neg h]
theorem nZ {H:Hp} {a:Addr} {o u:HO}:upd (upd H a o) a u=upd H a u:=by
 funext b;unfold upd;split <;> rfl
theorem aR {H:Hp} {a b:Addr} {o u:HO} (h:H a=some o) (h':H b=some u) (d:o ≠ u):a ≠ b:=by
 intro e;subst e;rw [h] at h';exact d (Rc h')
theorem aj {H:Hp} {a b:Addr} {o:HO} (h:H a=some o) (h':H b=none):a ≠ b:=by
 intro e;subst e;rw [h] at h';cases h'
section
variable (P:Program) (w:World)
def bB (H:Hp) (h:Heap) (a:Addr):HO->Prop
 | .lst xs=>xs.length ≤ sizeLine /\ ∃(its:List Value) (n:Nat),Vals xs its /\ h.get? a=some { cls:=.type "list",data:=.seq its.toArray n }
 | .tup xs=>xs.length ≤ sizeLine /\ ∃ its:List Value,Vals xs its /\ IsTup h a its.toArray
 | .dK kvs=>kvs.length ≤ sizeLine /\(a == sysModules)=false /\ ∃ vs,KV kvs vs /\ h.DictOf (bG P w) a vs
 | .dT kvs=>kvs.length ≤ sizeLine /\(a == sysModules)=false /\ ∃ xs:List (List Key × Addr × Value),
   Paired (λ(p:List Key × V) (q:List Key × Addr × Value)=>p.1=q.1 /\ H q.2.1=some (.tup (p.1.map kV)) /\ RelV p.2 q.2.2) kvs xs ∧
   ∃ o es ep,h.get? a=some o /\ o.ExactDict /\ o.data = .dict es ep /\ es.toList=xs.map (entryOfKey (tupleKind (bG P w))) /\(xs.map (·.1)).Nodup
 | .set S n=>h.SetOf (intKind P w) a S n
 | .ins C dx fs=>H dx=some (.own a) /\ fs.length ≤ 1000 /\ dx ≠ a /\ h.get? a=some (instObj C dx) ∧
   ∃ mA,h.Ns1 dx mA /\(∀ f,fj (fs.lookup f) (mA f)) /\ PySem.Within mA (fs.map (·.1))
 | .own _=>∃ o,h.get? a=some o
 | .xd fs=>∃ mA,h.Ns1 a mA /\ ∀ f,fj (fs.lookup f) (mA f)
 | .rng lo hi=>∃ t u v,h.get? a=some { cls:=.type "range",data:=.fields #[.int lo t,.int hi u,.int 1 v] }
 | .frz o u=>h.get? a=some o /\ bB H h a u
 | .tbl ps=>h.get? a=some { cls:=.none,data:=.fields ps }
 | .met f x=>h.get? a=some (methodObj (.ref f) (.ref x))
 | .ext φ=>φ h /\(∃ o,h.get? a=some o) /\ ∀ h1 h2:Heap,φ h1->(∀ o,h1.get? a=some o->h2.get? a=some o)->φ h2
def HOk (H:Hp) (h:Heap):Prop:=∀ a o,H a=some o->bB P w H h a o
end
section
variable {P:Program} {w:World} {H H':Hp} {h h':Heap} {a:Addr} {o:HO}
theorem bB.lt (x:bB P w H h a o):a < h.objs.size:=by
 cases o with
 | lst xs=>obtain⟨_,_,_,_,e⟩:=x;exact QF e
 | tup xs=>obtain⟨_,_,_,p⟩:=x;exact p.lt
 | dK kvs=>obtain⟨_,_,_,_,o,_,_,e,_⟩:=x;exact QF e
 | dT kvs=>obtain⟨_,_,_,_,o,_,_,e,_⟩:=x;exact QF e
 | set S n=>obtain⟨o,_,_,_,e,_⟩:=x;exact QF e
 | ins C dx fs=>obtain⟨_,_,_,e,_⟩:=x;exact QF e
 | own y=>obtain⟨_,e⟩:=x;exact QF e
 | xd fs=>obtain⟨_,⟨_,_,_,e,_⟩,_⟩:=x;exact QF e
 | rng lo hi=>obtain⟨_,_,_,e⟩:=x;exact QF e
 | frz ob u=>obtain⟨e,_⟩:=x;exact QF e
 | tbl ps=>exact QF (show h.get? a=some _ from x)
 | met f y=>exact QF (show h.get? a=some _ from x)
 | ext φ=>obtain⟨_,⟨_,e⟩,_⟩:=x;exact QF e
theorem Paired.Dn {α β:Type} {F G:α->β->Prop}:∀ {l₁:List α} {l₂:List β},Paired F l₁ l₂->(∀ a b,F a b->G a b)->Paired G l₁ l₂
 | _,_,.nil,_=>.nil
 | _,_,.cons r t,f=>.cons (f _ _ r) (Paired.Dn t f)
theorem bB.stay (x:bB P w H h a o) (k:∀ b u,(b=a ∨ H b=some (.own a))->h.get? b=some u->h'.get? b=some u)
  (ho:∀ b,H b=some (.own a)->H' b=some (.own a)) (ht:∀ b xs,H b=some (.tup xs)->H' b=some (.tup xs)):bB P w H' h' a o:=by
 induction o with
 | lst xs=>obtain⟨z,its,n,r,e⟩:=x;exact⟨z,its,n,r,k _ _ (.inl rfl) e⟩
 | tup xs=>obtain⟨z,its,r,ob,e,c⟩:=x;exact⟨z,its,r,ob,k _ _ (.inl rfl) e,c⟩
 | dK kvs=>obtain⟨z,y,vs,r,ob,es,ep,e,c⟩:=x;exact⟨z,y,vs,r,ob,es,ep,k _ _ (.inl rfl) e,c⟩
 | dT kvs =>
  obtain⟨z,y,xs,r,ob,es,ep,e,c⟩:=x
  exact⟨z,y,xs,Paired.Dn r λ p q z=>⟨z.1,ht _ _ z.2.1,z.2.2⟩,ob,es,ep,k _ _ (.inl rfl) e,c⟩
 | set S n=>obtain⟨ob,es,ep,t,e,c⟩:=x;exact⟨ob,es,ep,t,k _ _ (.inl rfl) e,c⟩
 | ins C dx fs =>
  obtain⟨d,z,ne,e,mA,⟨od,es,ep,e2,c⟩,r⟩:=x
  exact⟨ho _ d,z,ne,k _ _ (.inl rfl) e,mA,⟨od,es,ep,k _ _ (.inr d) e2,c⟩,r⟩
 | own y=>obtain⟨ob,e⟩:=x;exact⟨ob,k _ _ (.inl rfl) e⟩
 | xd fs=>obtain⟨mA,⟨od,es,ep,e,c⟩,r⟩:=x;exact⟨mA,⟨od,es,ep,k _ _ (.inl rfl) e,c⟩,r⟩
 | rng lo hi=>obtain⟨t,u,v,e⟩:=x;exact⟨t,u,v,k _ _ (.inl rfl) e⟩
 | frz ob u ih=>obtain⟨e,q⟩:=x;exact⟨k _ _ (.inl rfl) e,ih q⟩
 | tbl ps =>
  have e:h.get? a=some { cls:=.none,data:=.fields ps }:=x
  show h'.get? a=some { cls:=.none,data:=.fields ps }
  exact k a _ (.inl rfl) e
 | met f y =>
  have e:h.get? a=some (methodObj (.ref f) (.ref y)):=x
  show h'.get? a=some (methodObj (.ref f) (.ref y))
  exact k a _ (.inl rfl) e
 | ext φ=>obtain⟨p,⟨o,e⟩,st⟩:=x;exact⟨st _ _ p λ o q=>k _ _ (.inl rfl) q,⟨o,k _ _ (.inl rfl) e⟩,st⟩
theorem HOk.lt (x:HOk P w H h) (e:H a=some o):a < h.objs.size:=(x a o e).lt
theorem HOk.fresh (x:HOk P w H h) (e:h.objs.size ≤ a):H a=none:=by
 cases q:H a with
 | none=>rfl
 | some u=>exact absurd (QT (x.lt q) e) (Su _)
theorem HOk.kept (x:HOk P w H h) (k:∀ b u,h.get? b=some u->h'.get? b=some u):HOk P w H h':=λ a o e =>
 (x a o e).stay (λ b u _ q=>k b u q) (λ _ q=>q) λ _ _ q=>q
theorem HOk.laid (x:HOk P w H h) (k:∀ b u,h.get? b=some u->h'.get? b=some u) (hp:h.objs.size ≤ a) (new:bB P w (upd H a o) h' a o):HOk P w (upd H a o) h':=λ b u e=>by
 have hn:=x.fresh hp
 by_cases hb:b=a
 ·subst hb;rw [ak] at e;cases e;exact new
 ·rw [af hb] at e
  exact(x b u e).stay (λ c v _ q=>k c v q) (λ c q=>by rw [af (aj q hn)];exact q) λ c xs q=>by rw [af (aj q hn)];exact q
end
def Rd (H:Hp) (a:Addr) (u:HO):Prop:=H a=some u ∨ ∃ o,H a=some (.frz o u)
theorem Rd.ok {P:Program} {w:World} {H:Hp} {h:Heap} {a:Addr} {u:HO} (r:Rd H a u) (x:HOk P w H h):bB P w H h a u:=by
 rcases r with r |⟨o,r⟩
 ·exact x a u r
 ·obtain⟨_,q⟩:=x a _ r
  exact q
def Mut:Option HO->Prop
 | some (.lst _)=>True
 | some (.dK _)=>True
 | some (.dT _)=>True
 | some (.set _ _)=>True
 | some (.ins _ _ _)=>True
 | some (.ext _)=>True
 | _=>False
section
variable {P:Program} {w:World} {H:Hp} {h h':Heap} {x e:Addr} {o':HO}
theorem HOk.write (ok:HOk P w H h) (mu:Mut (H x)) (he:e=x ∨ H e=some (.own x)) (k:∀ b u,b ≠ e->h.get? b=some u->h'.get? b=some u) (heo:∃ u,h'.get? e=some u)
  (new:bB P w (upd H x o') h' x o'):HOk P w (upd H x o') h':=λ b u q=>by
 have nown:∀ c y,H c=some (.own y)->c ≠ x:=λ c y r z=>by subst z;rw [r] at mu;exact mu
 have ntup:∀ c xs,H c=some (.tup xs)->c ≠ x:=λ c xs r z=>by subst z;rw [r] at mu;exact mu
 by_cases hb:b=x
 ·subst hb;rw [ak] at q;cases q;exact new
 ·rw [af hb] at q
  by_cases hbe:b=e
  ·have q':H b=some (.own x):=by
    rcases he with z | z
    ·exact absurd (hbe.trans z) hb
    ·rw [hbe];exact z
   rw [q] at q';cases q'
   obtain⟨v,hv⟩:=heo
   exact⟨v,by rw [hbe];exact hv⟩
  ·refine(ok b u q).stay (λ c v hc r=>k c v ?_ r) (λ c r=>by rw [af (nown c b r)];exact r) λ c xs r=>by rw [af (ntup c xs r)];exact r
   rcases hc with rfl | hc
   ·exact hbe
   ·rintro rfl
    rcases he with z | z
    ·exact nown c b hc z
    ·rw [hc] at z;cases z;exact hb rfl
end
structure Un (fs ex:List Addr) (H H':Hp) (h h':Heap):Prop where
 keep:∀ b o,h.get? b=some o->H b=none->b ∉ fs->b ∉ ex->h'.get? b=some o
 slot:∀ b o,h.get? b=some o->H b=none->b ∈ fs->b ∉ ex->∃ sl,h'.get? b=some { o with slots:=sl }
 free:∀ b o,h.get? b=some o->H b=none->b ∉ ex->H' b=none
 there:∀ b o,h.get? b=some o->b ∉ ex->∃ o',h'.get? b=some o'
 tups:∀ b xs,H b=some (.tup xs)->H' b=some (.tup xs)
 gb:∀ b o u,H b=some (.frz o u)->H' b=some (.frz o u)
 g9:∀ b ps,H b=some (.tbl ps)->∃ more,H' b=some (.tbl (ps ++ more))
section
variable {fs fs' ex ex':List Addr} {H H1 H2:Hp} {h h1 h2 h':Heap} {a x e:Addr} {o:HO}
theorem Un.any (u:Un fs ex H H1 h h1) {b:Addr} {ob:Obj} (q:h.get? b=some ob) (n:H b=none) (hx:b ∉ ex):∃ sl,h1.get? b=some { ob with slots:=sl }:=by
 by_cases hb:b ∈ fs
 ·exact u.slot b ob q n hb hx
 ·exact⟨ob.slots,u.keep b ob q n hb hx⟩
theorem Un.kept (k:∀ b u,h.get? b=some u->h'.get? b=some u):Un fs ex H H h h' :=
 ⟨λ b ob q _ _ _=>k b ob q,λ b ob q _ _ _=>⟨ob.slots,k b ob q⟩,λ _ _ _ n _=>n,λ b ob q _=>⟨ob,k b ob q⟩,λ _ _ q=>q,λ _ _ _ q=>q,λ _ ps q=>⟨#[],by rw [q];simp⟩⟩
theorem Un.refl:Un fs ex H H h h:=Un.kept λ _ _ q=>q
theorem Un.laid (k:∀ b u,h.get? b=some u->h'.get? b=some u) (hp:h.objs.size ≤ a) (hn:H a=none):Un fs ex H (upd H a o) h h' where
 keep:=λ b u q _ _ _=>k b u q
 slot:=λ b u q _ _ _=>⟨u.slots,k b u q⟩
 free:=λ b u q n _=>by rw [af (QN (QT (QF q) hp))];exact n
 there:=λ b u q _=>⟨u,k b u q⟩
 tups:=λ b xs q=>by rw [af (aj q hn)];exact q
 gb:=λ b u xs q=>by rw [af (aj q hn)];exact q
 g9:=λ b ps q=>⟨#[],by rw [af (aj q hn),q];simp⟩
theorem Un.write (mu:Mut (H x)) (he:e=x ∨ H e=some (.own x)) (k:∀ b u,b ≠ e->h.get? b=some u->h'.get? b=some u) (heo:∃ u,h'.get? e=some u):Un fs ex H (upd H x o) h h':=by
 have hx:∀ b,H b=none->b ≠ x:=λ b n z=>by subst z;rw [n] at mu;exact mu
 have hb:∀ b,H b=none->b ≠ e:=λ b n z=>by
  subst z
  rcases he with r | r
  ·exact hx b n r
  ·rw [n] at r;cases r
 have hm:∀ b u,H b=some u->¬ Mut (some u)->b ≠ x:=λ b u q nm z=>by subst z;rw [q] at mu;exact nm mu
 refine⟨λ b u q n _ _=>k b u (hb b n) q,λ b u q n _ _=>⟨u.slots,k b u (hb b n) q⟩,λ b u q n _=>by rw [af (hx b n)];exact n,λ b u q _=>?_,
  λ b xs q=>by rw [af (hm b _ q λ z=>z)];exact q,λ b u xs q=>by rw [af (hm b _ q λ z=>z)];exact q,λ b ps q=>⟨#[],by rw [af (hm b _ q λ z=>z),q];simp⟩⟩
 by_cases hbe:b=e
 ·subst hbe;exact heo
 ·exact⟨u,k b u hbe q⟩
end
def trk (h:Heap) (H:Hp):List Addr:=(List.range h.objs.size).filter λ a=>(H a).isSome
def jc (h:Heap) (H:Hp):Heap:=PySem.W.hideAll h (trk h H)
theorem wz (h:Heap) (H:Hp):(jc h H).objs.size=h.objs.size:=PySem.W.hideAll_size _ _
theorem yr {h:Heap} {H:Hp} {b:Addr} {o:Obj} (e:h.get? b=some o) (n:H b=none):(jc h H).get? b=some o :=
 PySem.W.hideAll_get _ e λ hm=>by
  have q:(H b).isSome=true:=(SN.mp hm).2
  rw [n] at q;simp at q
theorem AA {h:Heap} {H:Hp} {b:Addr} {o:Obj} (e:(jc h H).get? b=some o):h.get? b=some o /\ H b=none:=by
 have e':h.get? b=some o:=PySem.W.of_hideAll (trk h H) e
 refine⟨e',?_⟩
 cases q:H b with
 | none=>rfl
 | some x =>
  have hm:b ∈ trk h H:=SN.mpr ⟨Th.mpr (QF e'),by simp [q]⟩
  have z:(jc h H).get? b=none:=PySem.W.hideAll_none (trk h H) hm
  rw [z] at e;cases e
def EG (g h:Heap) (L:Addr):List (Addr × Obj):=(List.range h.objs.size).filterMap λ a=>if a=L ∨(g.get? a).isSome=true then none else(h.get? a).map λ o=>(a,o)
def rest (g h:Heap) (L d:Addr):List (Addr × Obj):=(EG g h L).filter λ p=>decide (p.1 ≠ d)
structure Mod (K:Frag) (mg:Str->Option Value) (base:Heap):Prop where
 kin:K.In base
 glob:base.Ns mainGlobals mg
 blt:∃ mb,base.Ns builtinsNs mb /\ ∀ x:Str,x ≠ "__name__"->mb x=bootBuiltins x
 nolimit:base.NoLimit
structure Cx where
 prog:Program
 w:World
 K:Frag
 mg:Str->Option Value
 base:Heap
 A:Around
 N:List Str
 s₀:Shared
 H₀:Hp
 env:Env
 outer:List Env
 stack:List Env
 ex:List Addr
 fn:Str->Bool
 calm:Bool
 pn:List (Addr × Obj)
 xe:Value->Shared->Prop
def frs (l:List Env):List Addr:=l.filterMap (·.frame)
abbrev Cx.fs (X:Cx):List Addr:=frs X.outer
def Vis (sc:Scope) (x:Str):Prop:=sc.names.lookup x = some .local ∨ sc.names.lookup x = some .cell ∨ sc.names.lookup x = some .free
def Loc (sc:Scope) (x:Str):Prop:=sc.names.lookup x = some .local ∨ sc.names.lookup x = some .cell
def Look (env:Env) (h:Heap) (m:Str->Option Value) (x:Str) (u:Value):Prop :=
 (env.kindOf x = some .local /\ m x = some u) ∨ ((env.kindOf x = some .cell ∨ env.kindOf x = some .free) /\ ∃ c,env.cells.lookup x = some c /\ h.IsCell c (some u))
structure Cx.Ok (X:Cx):Prop where
 mod:Mod X.K X.mg X.base
 kind:X.env.scope.kind = .function
 glob:X.env.globals=mainGlobals
 blt:X.env.builtins=builtinsNs
 above:X.s₀.heap.objs.size ≤ X.env.locals
 inj:∀ x y c,X.env.cells.lookup x=some c->X.env.cells.lookup y=some c->x=y
 has:∀ x,(X.env.kindOf x=some .cell ∨ X.env.kindOf x=some .free)->∃ c,X.env.cells.lookup x=some c
 cab:∀ x c,X.fn x=true->X.env.cells.lookup x=some c->X.s₀.heap.objs.size ≤ c
 hd:X.calm=true->X.A.handled=none
 frames:X.A.frames=some X.stack
 stk:X.stack = X.outer ∨ (X.stack = X.env :: X.outer /\ X.env.frame = some X.env.locals)
 exf:∀ b ∈ X.ex,b ≠ X.env.locals /\ ∀ x c,X.env.cells.lookup x = some c->c ≠ b
 bs:∀ b o,X.base.get? b=some o->X.s₀.heap.get? b=some o /\ X.H₀ b=none
 bsz:X.base.objs.size ≤ X.s₀.heap.objs.size
 qb:∀ b o,X.base.get? b=some o->b ∉ X.ex
 qD:∀ b ∈ X.ex,b ∉ X.fs
 iE:X.s₀.heap.FunFrames X.base X.outer
 frf:∀ b ∈ X.fs,X.H₀ b=none
structure Inv (X:Cx) (pins:List (Addr × Obj)) (σ:List (Option V)) (H:Hp) (s:Shared):Prop where
 ok:X.Ok
 os:s.os=X.s₀.os
 bare:AllBare s.gens
 base:Un X.fs X.ex X.H₀ H X.s₀.heap s.heap
 loc:∃ m,s.heap.Ns X.env.locals m /\ ∀ (i:Nat) (x:Str) (v:V),X.N[i]? = some x->σ[i]? = some (some v)->Vis X.env.scope x->∃ u,RelV v u /\ Look X.env s.heap m x u
 cell:∀ x c,X.env.cells.lookup x=some c->∃ v,s.heap.IsCell c v
 free:H X.env.locals = none
 fH:∀ x c,X.env.cells.lookup x=some c->H c=none
 pin:∀ p ∈ X.pn ++ pins,s.heap.get? p.1 = some p.2 /\ H p.1 = none /\ p.1 ≠ X.env.locals /\ p.1 ∉ X.fs /\ ∀ v,p.2.data ≠ .cell v
 hok:HOk X.prog X.w H s.heap
 len:σ.length=X.N.length
section
variable {X:Cx} {pins:List (Addr × Obj)} {σ:List (Option V)} {H H':Hp} {s:Shared} {h':Heap}
theorem Cx.Ok.MF (ok:X.Ok) {b:Addr} {o:Obj} (e:X.base.get? b=some o):b ∉ X.fs:=λ hb=>by
 have:=(ok.iE.mem hb).1
 rw [e] at this;cases this
theorem Inv.bs (I:Inv X pins σ H s):∀ b o,X.base.get? b=some o->s.heap.get? b=some o /\ H b=none:=λ b o e =>
 ⟨I.base.keep b o (I.ok.bs b o e).1 (I.ok.bs b o e).2 (I.ok.MF e) (I.ok.qb b o e),I.base.free b o (I.ok.bs b o e).1 (I.ok.bs b o e).2 (I.ok.qb b o e)⟩
theorem Inv.bk (I:Inv X pins σ H s):∀ b o,X.base.get? b=some o->s.heap.get? b=some o:=λ b o e=>(I.bs b o e).1
theorem Inv.mod (I:Inv X pins σ H s):Mod X.K X.mg X.base:=I.ok.mod
theorem Inv.kIn (I:Inv X pins σ H s):X.K.In s.heap:=I.ok.mod.kin.keeps I.bk
theorem Inv.lt (I:Inv X pins σ H s):X.env.locals < s.heap.objs.size:=let ⟨_,hn,_⟩:=I.loc; hn.lt
theorem Inv.sz (I:Inv X pins σ H s):X.s₀.heap.objs.size ≤ s.heap.objs.size:=Rp I.ok.above (RM I.lt)
theorem Inv.Kw (I:Inv X pins σ H s) {a:Addr} (h:s.heap.objs.size ≤ a):a ∉ X.fs:=λ hb=>by
 obtain⟨_,o,ho,_⟩:=I.ok.iE.mem hb
 exact absurd (QT (QF ho) (Rp I.sz h)) (Su _)
theorem Inv.cne (I:Inv X pins σ H s):∀ x c,X.env.cells.lookup x = some c->c ≠ X.env.locals:=fun x c e z=>by
 obtain⟨v,o,ho,hd⟩:=I.cell x c e
 obtain⟨m,⟨o',es,ep,ho',hd',_⟩,_⟩:=I.loc
 rw [z,ho'] at ho;cases ho;rw [hd'] at hd;cases hd
theorem Inv.iE (I:Inv X pins σ H s):s.heap.FunFrames X.base X.outer:=by
 have all:∀(l:List Env),(∀ b ∈ frs l,b ∈ X.fs)->X.s₀.heap.FunFrames X.base l->s.heap.FunFrames X.base l:=by
  intro l
  induction l with
  | nil=>intro _ _;trivial
  | cons env r ih =>
   intro hs hl
   obtain⟨hk,⟨L,o,hf,hn,ho,hd⟩,hr⟩:=hl
   have hL:L ∈ X.fs:=hs L (by unfold frs;rw [Uj,hf];exact RU)
   obtain⟨sl,e⟩:=I.base.slot L o ho (I.ok.frf L hL) hL λ z=>I.ok.qD L z hL
   exact⟨hk,⟨L,_,hf,hn,e,hd⟩,ih (λ b hb=>hs b (by unfold frs;rw [Uj,hf];exact Rg _ hb)) hr⟩
 exact all X.outer (λ _ hb=>hb) I.ok.iE
theorem Inv.stack (I:Inv X pins σ H s):s.heap.FunFrames X.base X.stack:=by
 rcases I.ok.stk with e |⟨e,hf⟩
 ·rw [e];exact I.iE
 ·rw [e]
  obtain⟨m,hn,_⟩:=I.loc
  refine .cons (by rw [I.ok.kind];decide) hf hn ?_ I.iE
  exact Heap.get?_none_of_le (Rp I.ok.bsz I.ok.above)
theorem Inv.zG (I:Inv X pins σ H s):∀ b ∈ frs X.stack,b ∈ X.env.locals :: X.fs:=fun b hb=>by
 rcases I.ok.stk with e |⟨e,hf⟩
 ·rw [e] at hb;exact Rg _ hb
 ·rw [e] at hb
  unfold frs at hb
  rw [Uj,hf] at hb
  exact hb
theorem Inv.wu (I:Inv X pins σ H s):∀ b ∈ frs X.stack,H b=none:=λ b hb=>by
 rcases Rh.mp (I.zG b hb) with e | hb
 ·rw [e];exact I.free
 ·obtain⟨_,o,ho,_⟩:=I.ok.iE.mem hb
  exact I.base.free b o ho (I.ok.frf b hb) λ z=>I.ok.qD b z hb
theorem Inv.step {g':Array GenState} {t':Nat} {d':Drawn} {ch:List Addr} (I:Inv X pins σ H s)
  (hch:∀ b ∈ ch,(b ∈ X.ex ∨ X.s₀.heap.objs.size ≤ b) /\ b ≠ X.env.locals /\ (∀ x c,X.env.cells.lookup x = some c->c ≠ b) /\ ∀ p ∈ X.pn ++ pins,p.1 ≠ b)
  (keep:∀ b o,b ≠ X.env.locals->b ∉ X.fs->b ∉ ch->s.heap.get? b = some o->H b = none->h'.get? b = some o)
  (slot:∀ b o,b ≠ X.env.locals->b ∈ X.fs->b ∉ ch->s.heap.get? b = some o->H b = none->∃ sl,h'.get? b = some { o with slots:=sl }) (free:∀ b o,b ∉ ch->s.heap.get? b = some o->H b = none->H' b = none)
  (there:∀ b o,b ∉ ch->s.heap.get? b=some o->∃ o',h'.get? b=some o')
  (tups:∀ b xs,H b=some (.tup xs)->H' b=some (.tup xs)) (gb:∀ b o u,H b=some (.frz o u)->H' b=some (.frz o u)) (g9:∀ b ps,H b=some (.tbl ps)->∃ more,H' b=some (.tbl (ps ++ more)))
  (ns:∀ m,s.heap.Ns X.env.locals m->h'.Ns X.env.locals m) (hok:HOk X.prog X.w H' h') (hg:AllBare g') :
  Inv X pins σ H' { s with heap:=h',gens:=g',drawn:=d',toks:=t' }:=by
 have neL:∀ b o,X.s₀.heap.get? b = some o->b ≠ X.env.locals:=fun b o e=>QN (QT (QF e) I.ok.above)
 have neC:∀ b o,X.s₀.heap.get? b=some o->b ∉ X.ex->b ∉ ch:=λ b o e hx hb=>by
  rcases(hch b hb).1 with z | z
  ·exact hx z
  ·exact absurd (QT (QF e) z) (Su _)
 have cellK:∀ x c,X.env.cells.lookup x=some c->∀ v,s.heap.IsCell c v->h'.IsCell c v:=λ x c e v ⟨o,ho,hd⟩=>by
  have nch:c ∉ ch:=λ z=>(hch c z).2.2.1 x c e rfl
  by_cases hc:c ∈ X.fs
  ·obtain⟨sl,q⟩:=slot c o (I.cne x c e) hc nch ho (I.fH x c e)
   exact⟨_,q,hd⟩
  ·exact⟨o,keep c o (I.cne x c e) hc nch ho (I.fH x c e),hd⟩
 refine⟨I.ok,I.os,hg,⟨λ b o e n hb hx=>?_,λ b o e n hb hx=>?_,λ b o e n hx=>?_,λ b o e hx=>?_,λ b xs e=>tups b xs (I.base.tups b xs e),λ b o xs e=>gb b o xs (I.base.gb b o xs e),λ b ps e=>?_⟩,?_,λ x c e=>?_,?_,λ x c e=>?_,λ p hp=>?_,hok,I.len⟩
 ·exact keep b o (neL b o e) hb (neC b o e hx) (I.base.keep b o e n hb hx) (I.base.free b o e n hx)
 ·obtain⟨sl,e1⟩:=I.base.slot b o e n hb hx
  obtain⟨sl',e2⟩:=slot b _ (neL b o e) hb (neC b o e hx) e1 (I.base.free b o e n hx)
  exact⟨sl',e2⟩
 ·obtain⟨o',e1⟩:=I.base.there b o e hx
  exact free b o' (neC b o e hx) e1 (I.base.free b o e n hx)
 ·obtain⟨o',e1⟩:=I.base.there b o e hx
  exact there b o' (neC b o e hx) e1
 ·obtain⟨m1,e1⟩:=I.base.g9 b ps e
  obtain⟨m2,e2⟩:=g9 b _ e1
  exact⟨m1 ++ m2,by rw [e2,Array.append_assoc]⟩
 ·obtain⟨m,hn,hl⟩:=I.loc
  refine⟨m,ns m hn,λ i x v e1 e2 e3=>?_⟩
  obtain⟨u,r,l⟩:=hl i x v e1 e2 e3
  refine⟨u,r,?_⟩
  rcases l with l |⟨k,c,e,z⟩
  ·exact .inl l
  ·exact .inr ⟨k,c,e,cellK x c e _ z⟩
 ·obtain⟨v,z⟩:=I.cell x c e
  exact⟨v,cellK x c e v z⟩
 ·obtain⟨m,⟨o,_,_,ho,_⟩,_⟩:=I.loc
  exact free _ o (λ z=>(hch _ z).2.1 rfl) ho I.free
 ·obtain⟨v,o,ho,hd⟩:=I.cell x c e
  exact free c o (λ z=>(hch c z).2.2.1 x c e rfl) ho (I.fH x c e)
 ·obtain⟨e,n,ne,nf,d⟩:=I.pin p hp
  have nch:p.1 ∉ ch:=λ z=>(hch p.1 z).2.2.2 p hp rfl
  exact⟨keep p.1 p.2 ne nf nch e n,free p.1 p.2 nch e n,ne,nf,d⟩
theorem Inv.un {t':Nat} (I:Inv X pins σ H s) (u:Un X.fs [] H H' s.heap h') (hok:HOk X.prog X.w H' h'):Inv X pins σ H' { s with heap:=h',toks:=t' }:=by
 obtain⟨m,⟨o,es,ep,ho,r⟩,_⟩:=id I.loc
 obtain⟨sl,hL⟩:=u.any ho I.free (by simp)
 exact I.step (g':=s.gens) (d':=s.drawn) (ch:=[]) (λ _ z=>nomatch z) (λ b o _ hb _ e n=>u.keep b o e n hb (by simp)) (λ b o _ hb _ e n=>u.slot b o e n hb (by simp)) (λ b o _ e n=>u.free b o e n (by simp)) (λ b o _ e=>u.there b o e (by simp)) u.tups u.gb u.g9 (λ m' hm=>by
  obtain⟨o',es',ep',ho',r'⟩:=hm
  rw [ho] at ho';cases ho'
  exact⟨_,es',ep',hL,r'⟩) hok I.bare
theorem Inv.call {g':Array GenState} {t':Nat} {d':Drawn} {ch:List Addr} (I:Inv X pins σ H s) (u:Un (frs X.stack) ch H H' s.heap h') (hok:HOk X.prog X.w H' h') (hg:AllBare g')
  (hch:∀ b ∈ ch,(b ∈ X.ex ∨ X.s₀.heap.objs.size ≤ b) /\ b ≠ X.env.locals /\ (∀ x c,X.env.cells.lookup x = some c->c ≠ b) /\ ∀ p ∈ X.pn ++ pins,p.1 ≠ b) :
  Inv X pins σ H' { s with heap:=h',gens:=g',drawn:=d',toks:=t' }:=by
 obtain⟨m,⟨o,es,ep,ho,r⟩,_⟩:=id I.loc
 obtain⟨sl,hL⟩:=u.any ho I.free λ z=>(hch _ z).2.1 rfl
 exact I.step (ch:=ch) hch (λ b o hL hb hc e n=>u.keep b o e n (λ z=>(Rh.mp (I.zG b z)).elim hL hb) hc) (λ b o _ _ hc e n=>u.any e n hc) (λ b o hc e n=>u.free b o e n hc) (λ b o hc e=>u.there b o e hc) u.tups u.gb u.g9 (λ m' hm=>by
  obtain⟨o',es',ep',ho',r'⟩:=hm
  rw [ho] at ho';cases ho'
  exact⟨_,es',ep',hL,r'⟩) hok hg
theorem Inv.turned {t':Nat} {it:Addr} (I:Inv X pins σ H s) (k:∀ b o,b ≠ it->s.heap.get? b = some o->h'.get? b = some o) (hn:H it = none) (hL:it ≠ X.env.locals)
  (h1:it ∈ X.ex ∨ X.s₀.heap.objs.size ≤ it) (h2:∀ x c,X.env.cells.lookup x=some c->c ≠ it) (h3:∀ p ∈ X.pn ++ pins,p.1 ≠ it):Inv X pins σ H { s with heap:=h',toks:=t' }:=by
 have nit:∀ b u,H b=some u->b ≠ it:=λ b u e z=>by rw [z,hn] at e;cases e
 refine I.step (g':=s.gens) (d':=s.drawn) (ch:=[it]) (λ b hb=>?_) (λ b o _ _ hc e _=>k b o (λ z=>hc (by simp [z])) e) (λ b o _ _ hc e _=>⟨o.slots,k b o (λ z=>hc (by simp [z])) e⟩) (λ _ _ _ _ n=>n)
  (λ b o hc e=>⟨o,k b o (λ z=>hc (by simp [z])) e⟩) (λ _ _ e=>e) (λ _ _ _ e=>e) (λ b ps e=>⟨#[],by rw [e];simp⟩) (λ m hm=>?_) (λ b u e=>?_) I.bare
 ·have e:b=it:=by simpa using hb
  subst e
  exact⟨h1,hL,h2,h3⟩
 ·obtain⟨o,es,ep,ho,r⟩:=hm
  exact⟨o,es,ep,k _ o (RJ hL) ho,r⟩
 ·refine(I.hok b u e).stay (λ c v hc q=>k c v ?_ q) (λ _ q=>q) λ _ _ q=>q
  rcases hc with z | z
  ·rw [z];exact nit b u e
  ·exact nit c _ z
theorem Inv.tok (I:Inv X pins σ H s) (t:Nat):Inv X pins σ H { s with toks:=t }:=I.un (h':=s.heap) (t':=t) Un.refl I.hok
theorem Inv.kept {t':Nat} (I:Inv X pins σ H s) (k:∀ b u,s.heap.get? b=some u->h'.get? b=some u):Inv X pins σ H { s with heap:=h',toks:=t' }:=I.un (Un.kept k) (I.hok.kept k)
theorem Inv.laid {a:Addr} {o:HO} {t':Nat} (I:Inv X pins σ H s) (k:∀ b u,s.heap.get? b=some u->h'.get? b=some u) (hp:s.heap.objs.size ≤ a) (new:bB X.prog X.w (upd H a o) h' a o) :
  Inv X pins σ (upd H a o) { s with heap:=h',toks:=t' }:=I.un (Un.laid k hp (I.hok.fresh hp)) (I.hok.laid k hp new)
theorem Inv.write {x e:Addr} {o:HO} {t':Nat} (I:Inv X pins σ H s) (mu:Mut (H x)) (he:e=x ∨ H e=some (.own x)) (k:∀ b u,b ≠ e->s.heap.get? b=some u->h'.get? b=some u) (heo:∃ u,h'.get? e=some u)
  (new:bB X.prog X.w (upd H x o) h' x o):Inv X pins σ (upd H x o) { s with heap:=h',toks:=t' }:=I.un (Un.write mu he k heo) (I.hok.write mu he k heo new)
theorem Inv.z9 {pins':List (Addr × Obj)} (I:Inv X pins σ H s) (h:∀ p ∈ pins',s.heap.get? p.1 = some p.2 /\ H p.1 = none /\ p.1 ≠ X.env.locals /\ p.1 ∉ X.fs /\ ∀ v,p.2.data ≠ .cell v):Inv X pins' σ H s :=
 ⟨I.ok,I.os,I.bare,I.base,I.loc,I.cell,I.free,I.fH,λ p hp=>(Ro.mp hp).elim (λ z=>I.pin p (Sl _ z)) (h p),I.hok,I.len⟩
theorem uh {N:List Str} (hN:N.Nodup) {i j:Nat} {x:Str} (a:N[i]? = some x) (b:N[j]? = some x):i=j:=by
 obtain⟨h1,e1⟩:=QE.mp a
 obtain⟨h2,e2⟩:=QE.mp b
 exact(List.getElem_inj hN).mp (e1.trans e2.symm)
theorem BW {M:Model} {A:Around} {E:Value->Shared->Prop} {i:Nat} {x:Str} {v:V} {u:Value} {Q:Unit->Shared->Prop} (I:Inv X pins σ H s) (hN:X.N.Nodup) (hi:X.N[i]? = some x) (hx:Loc X.env.scope x) (r:RelV v u)
  (h:∀ s',Inv X pins (σ.set i (some v)) H s'->(∃ a,Heap.SameBut a s.heap s'.heap /\ (a = X.env.locals ∨ X.env.cells.lookup x = some a))->Q () s') (hf:X.fn x = true ∨ X.env.scope.names.lookup x = some .local:=by first | exact .inl rfl | exact .inr rfl | assumption):wpAny M A (storeName X.env x u) Q E s:=by
 obtain⟨m,hn,hl⟩:=id I.loc
 have hcls:(X.env.scope.kind == .class || (X.env.scope.kind == .module && X.env.locals != X.env.globals)) = false:=by rw [I.ok.kind]; rfl
 have hiσ:i < σ.length:=by rw [I.len];exact(QE.mp hi).1
 have cne:=I.cne
 have tracked:∀ {a:Addr} {h':Heap},(∃ o,s.heap.get? a=some o /\ H a=none)->Heap.SameBut a s.heap h'->HOk X.prog X.w H h':=λ {a h'} ha hs b ob e=>by
  obtain⟨_,_,hfree⟩:=ha
  refine(I.hok b ob e).stay (λ c w' hc q=>(hs.2 c ?_).trans q) (λ _ q=>q) λ _ _ q=>q
  rintro rfl
  rcases hc with rfl | hc
  ·rw [hfree] at e;cases e
  ·rw [hfree] at hc;cases hc
 rcases hx with hk | hk
 ·refine Ve hk hn (λ h' hn' hs=>?_) hcls
  obtain⟨oL,_,_,hoL,_⟩:=id hn
  refine h _ ⟨I.ok,I.os,I.bare,⟨λ b o e n hb hx=>?_,λ b o e n hb hx=>?_,I.base.free,λ b o e hx=>?_,I.base.tups,I.base.gb,I.base.g9⟩,⟨_,hn',λ j y v' e1 e2 e3=>?_⟩,λ y c e=>?_,I.free,I.fH,λ p hp=>?_,tracked ⟨oL,hoL,I.free⟩ hs,by simpa using I.len⟩ ⟨_,hs,.inl rfl⟩
  ·exact(hs.2 b (QN (QT (QF e) I.ok.above))).trans (I.base.keep b o e n hb hx)
  ·obtain⟨sl,e1⟩:=I.base.slot b o e n hb hx
   exact⟨sl,(hs.2 b (QN (QT (QF e) I.ok.above))).trans e1⟩
  ·obtain⟨o',e1⟩:=I.base.there b o e hx
   exact⟨o',(hs.2 b (QN (QT (QF e) I.ok.above))).trans e1⟩
  ·by_cases hj:j=i
   ·subst hj
    rw [hi] at e1;cases e1
    rw [SE hiσ] at e2
    cases e2
    exact⟨u,r,.inl ⟨hk,by simp⟩⟩
   ·rw [Sm (RJ hj)] at e2
    obtain⟨u',r',q⟩:=hl j y v' e1 e2 e3
    refine⟨u',r',?_⟩
    rcases q with⟨k,e⟩ |⟨k,c,e,z⟩
    ·refine .inl ⟨k,?_⟩
     have:y ≠ x:=λ e=>hj (uh hN e1 (e ▸ hi))
     simp [this,e]
    ·exact .inr ⟨k,c,e,z.sameBut hs (cne y c e)⟩
  ·obtain⟨w',z⟩:=I.cell y c e
   exact⟨w',z.sameBut hs (cne y c e)⟩
  ·obtain⟨e,n,ne,nf,d⟩:=I.pin p hp
   exact⟨(hs.2 p.1 ne).trans e,n,ne,nf,d⟩
 ·have hfn:X.fn x=true:=by
   rcases hf with z | z
   ·exact z
   ·rw [z] at hk;cases hk
  obtain⟨c,hc⟩:=I.ok.has x (.inl hk)
  obtain⟨w',z⟩:=I.cell x c hc
  refine wpAny_storeName_cell I.ok.kind hk hc z (λ h' hc' hs=>?_)
  obtain⟨oc,hoc,hocd⟩:=id z
  refine h { s with heap:=h' } ⟨I.ok,I.os,I.bare,⟨λ b o e n hb hx=>?_,λ b o e n hb hx=>?_,I.base.free,λ b o e hx=>?_,I.base.tups,I.base.gb,I.base.g9⟩,⟨m,hn.sameBut hs (RJ (cne x c hc)),λ j y v' e1 e2 e3=>?_⟩,λ y c' e=>?_,I.free,I.fH,λ p hp=>?_,tracked ⟨oc,hoc,I.fH x c hc⟩ hs,by simpa using I.len⟩ ⟨c,hs,.inr hc⟩
  ·exact(hs.2 b (QN (QT (QF e) (I.ok.cab x c hfn hc)))).trans (I.base.keep b o e n hb hx)
  ·obtain⟨sl,e1⟩:=I.base.slot b o e n hb hx
   exact⟨sl,(hs.2 b (QN (QT (QF e) (I.ok.cab x c hfn hc)))).trans e1⟩
  ·obtain⟨o',e1⟩:=I.base.there b o e hx
   exact⟨o',(hs.2 b (QN (QT (QF e) (I.ok.cab x c hfn hc)))).trans e1⟩
  ·by_cases hj:j=i
   ·subst hj
    rw [hi] at e1;cases e1
    rw [SE hiσ] at e2
    cases e2
    exact⟨u,r,.inr ⟨.inl hk,c,hc,hc'⟩⟩
   ·rw [Sm (RJ hj)] at e2
    obtain⟨u',r',q⟩:=hl j y v' e1 e2 e3
    refine⟨u',r',?_⟩
    rcases q with q |⟨k,c',e,z'⟩
    ·exact .inl q
    ·refine .inr ⟨k,c',e,z'.sameBut hs ?_⟩
     rintro rfl
     exact hj (uh hN e1 (I.ok.inj _ _ _ e hc ▸ hi))
  ·by_cases hcc:c'=c
   ·subst hcc;exact⟨_,hc'⟩
   ·obtain⟨w2,z2⟩:=I.cell y c' e
    exact⟨w2,z2.sameBut hs hcc⟩
  ·obtain⟨e,n,ne,nf,d⟩:=I.pin p hp
   refine⟨(hs.2 p.1 ?_).trans e,n,ne,nf,d⟩
   intro q
   rw [q,hoc] at e
   have q':oc=p.2:=Rc e
   exact d w' (by rw [← q'];exact hocd)
theorem oU {M:Model} {A:Around} {E:Value->Shared->Prop} {i:Nat} {x:Str} {v:V} {u:Value} {Q:Unit->Shared->Prop} (I:Inv X pins σ H s) (hN:X.N.Nodup) (hi:X.N[i]? = some x) (hx:Loc X.env.scope x) (r:RelV v u)
  (h:∀ s',Inv X pins (σ.set i (some v)) H s'->Q () s') (hf:X.fn x = true ∨ X.env.scope.names.lookup x = some .local:=by first | exact .inl rfl | exact .inr rfl | assumption):wpAny M A (storeName X.env x u) Q E s :=
 BW I hN hi hx r (λ s' I' _=>h s' I') hf
theorem Inv.xR {s':Shared} {ch:List Addr} (I:Inv X pins σ H s) (ho:s'.os=s.os) (u:Un (frs X.stack) ch H H' s.heap s'.heap) (hok:HOk X.prog X.w H' s'.heap) (hg:AllBare s'.gens)
  (hch:∀ b ∈ ch,(b ∈ X.ex ∨ X.s₀.heap.objs.size ≤ b) /\ b ≠ X.env.locals /\ (∀ x c,X.env.cells.lookup x = some c->c ≠ b) /\ ∀ p ∈ X.pn ++ pins,p.1 ≠ b):Inv X pins σ H' s':=by
 obtain⟨h',g',d',t',o'⟩:=s'
 have e:o'=s.os:=ho
 subst e
 exact I.call (g':=g') (t':=t') (d':=d') u hok hg hch
end
abbrev XK:=Value->Option Addr->Hp->Prop
abbrev St:=List (Option V)
abbrev VK:=V->Hp->Prop
abbrev TE:=St->Hp->VK->Prop
abbrev TT:=St->Hp->(Bool->Hp->Prop)->Prop
abbrev TA:=St->Hp->(List V->Hp->Prop)->Prop
structure Ends where
 nx:St->Hp->Prop
 rt:VK
 bk:St->Hp->Prop:=λ _ _=>False
 ct:St->Hp->Prop:=λ _ _=>False
abbrev TS:=Ends->St->Hp->Prop
def EP (X:Cx) (pins:List (Addr × Obj)) (σ:St) (Q:VK) (u:Value) (s':Shared):Prop:=∃ v H',Inv X pins σ H' s' /\ RelV v u /\ Q v H'
def TP (X:Cx) (pins:List (Addr × Obj)) (σ:St) (Q:Bool->Hp->Prop) (b:Bool) (s':Shared):Prop:=∃ H',Inv X pins σ H' s' /\ Q b H'
def AP (X:Cx) (pins:List (Addr × Obj)) (σ:St) (Q:List V->Hp->Prop) (us:List Value) (s':Shared):Prop:=∃ vs H',Inv X pins σ H' s' /\ Vals vs us /\ Q vs H'
def SP (X:Cx) (pins:List (Addr × Obj)) (D:Ends) (f:Flow) (s':Shared):Prop :=
 match f with
 | .next=>∃ σ' H',Inv X pins σ' H' s' /\ D.nx σ' H'
 | .brk=>∃ σ' H',Inv X pins σ' H' s' /\ D.bk σ' H'
 | .cont=>∃ σ' H',Inv X pins σ' H' s' /\ D.ct σ' H'
 | .ret u=>∃ v σ' H',Inv X pins σ' H' s' /\ RelV v u /\ D.rt v H'
def PE (X:Cx) (e:Expr) (t:TE):Prop :=
 ∀(pins:List (Addr × Obj)) (s:Shared) (σ:St) (H:Hp) (Q:VK),Inv X pins σ H s->t σ H Q->wpAny (model X.prog X.w) X.A (eval e X.env) (EP X pins σ Q) X.xe s
def PT (X:Cx) (e:Expr) (t:TT):Prop :=
 ∀(pins:List (Addr × Obj)) (s:Shared) (σ:St) (H:Hp) (Q:Bool->Hp->Prop),Inv X pins σ H s->t σ H Q->wpAny (model X.prog X.w) X.A (isTrue e X.env (eval e X.env)) (TP X pins σ Q) X.xe s
def PW (X:Cx) (e:Expr) (t:TT):Prop :=
 ∀(whole:Sem Value) (pins:List (Addr × Obj)) (s:Shared) (σ:St) (H:Hp) (Q:Bool->Hp->Prop),Inv X pins σ H s->t σ H Q->wpAny (model X.prog X.w) X.A (isTrue e X.env whole) (TP X pins σ Q) X.xe s
theorem PW.pt {X:Cx} {e:Expr} {t:TT} (h:PW X e t):PT X e t:=h _
def PA (X:Cx) (es:List Expr) (t:TA):Prop :=
 ∀(pos:Pos) (pins:List (Addr × Obj)) (s:Shared) (σ:St) (H:Hp) (Q:List V->Hp->Prop),Inv X pins σ H s->t σ H Q->wpAny (model X.prog X.w) X.A (spliced (backTo pos (starEach es X.env))) (AP X pins σ Q) X.xe s
def PS (X:Cx) (st:Stmt) (t:TS):Prop :=
 ∀(pins:List (Addr × Obj)) (s:Shared) (σ:St) (H:Hp) (D:Ends),Inv X pins σ H s->t D σ H->wpAny (model X.prog X.w) X.A (exec st X.env) (SP X pins D) X.xe s
def PSs (X:Cx) (st:List Stmt) (t:TS):Prop :=
 ∀(pins:List (Addr × Obj)) (s:Shared) (σ:St) (H:Hp) (D:Ends),Inv X pins σ H s->t D σ H->wpAny (model X.prog X.w) X.A (execs st X.env) (SP X pins D) X.xe s
theorem thn {α:Type} {t:Sem α} {Q Q':α->Shared->Prop} {M:Model} {A:Around} {E:Value->Shared->Prop} {s:Shared} (h:wpAny M A t Q E s) (hQ:∀ a s,Q a s->Q' a s):wpAny M A t Q' E s:=Rf h hQ λ _ _ x=>x
section
variable {X:Cx}
def Ft (i:Nat):TE:=λ σ H Q=>∃ v,σ[i]? = some (some v) /\ Q v H
def tC (v:V):TE:=λ _ H Q=>Q v H
theorem B3 {i:Nat} {x:Str} {pos:Pos} (hN:X.N[i]? = some x) (hv:Vis X.env.scope x) (hd:(x ==("__debug__":Str))=false:=by decide) (hcd:(x ==("__classdict__":Str))=false:=by decide):PE X (.Name x pos) (Ft i):=by
 intro pins s σ H Q I h
 obtain⟨v,e,h⟩:=h
 obtain⟨m,hn,hl⟩:=I.loc
 obtain⟨u,r,l⟩:=hl i x v hN e hv
 have fin:EP X pins σ Q u s:=⟨v,H,I,r,h⟩
 rcases l with⟨hk,hm⟩ |⟨hk,c,hc,hcell⟩
 ·exact Vp (wpAny_loadName_local I.ok.kind hk hn hm fin) hd
 ·rcases hk with hk | hk
  ·exact Vp (wpAny_loadName_cell I.ok.kind hk hc hcell fin) hd
  ·exact Vp (wpAny_loadName_free I.ok.kind hk hc hcell fin hcd) hd
theorem aq {i j pos}:PE X (.Constant (.int i) j pos) (tC (.int i)):=λ _ _ _ H _ I h=>wpAny_Constant_int ⟨.int i,H,I.tok _,⟨_,rfl⟩,h⟩
theorem r9 {b j pos}:PE X (.Constant (.bool b) j pos) (tC (.bl b)):=λ _ _ _ H _ I h=>Constant_bool ⟨.bl b,H,I,rfl,h⟩
theorem kF {j pos}:PE X (.Constant .none j pos) (tC .non):=λ _ _ _ H _ I h=>Constant_none ⟨.non,H,I,rfl,h⟩
def Gl (X:Cx) (x:Str):Prop:=X.env.kindOf x=some .globalImplicit
theorem je {E:Value->Shared->Prop} {pins:List (Addr × Obj)} {s:Shared} {σ:St} {H:Hp} {x:Str} {u:Value} {pos:Pos} {Q:Value->Shared->Prop} (I:Inv X pins σ H s) (hg:Gl X x) (hm:X.mg x=some u) (h:Q u s)
  (hd:(x ==("__debug__":Str))=false:=by decide):wpAny (model X.prog X.w) X.A (eval (.Name x pos) X.env) Q E s :=
 Uv I.ok.kind hg (Calls.loadGlobal_global (by rw [I.ok.glob];exact I.mod.glob.keeps I.bk) hm h) hd
theorem iQ {E:Value->Shared->Prop} {pins:List (Addr × Obj)} {s:Shared} {σ:St} {H:Hp} {x:Str} {u:Value} {pos:Pos} {Q:Value->Shared->Prop} (I:Inv X pins σ H s) (hg:Gl X x) (hm:X.mg x=none) (hv:bootBuiltins x=some u) (h:Q u s)
  (hn:x ≠ "__name__":=by decide) (hd:(x ==("__debug__":Str))=false:=by decide):wpAny (model X.prog X.w) X.A (eval (.Name x pos) X.env) Q E s:=by
 obtain⟨mb,h1,h2⟩:=I.mod.blt
 exact Uv I.ok.kind hg (Calls.loadGlobal_builtin (by rw [I.ok.glob];exact I.mod.glob.keeps I.bk) hm (by rw [I.ok.blt];exact h1.keeps I.bk) ((h2 x hn).trans hv) h) hd
theorem we {x:Str} {v:V} {u:Value} {pos:Pos} (hg:Gl X x) (hm:X.mg x=some u) (r:RelV v u) (hd:(x ==("__debug__":Str))=false:=by decide):PE X (.Name x pos) (tC v) :=
 λ _ _ _ H _ I h=>je I hg hm ⟨v,H,I,r,h⟩ hd
theorem ES {x:Str} {v:V} {u:Value} {pos:Pos} (hg:Gl X x) (hm:X.mg x=none) (hv:bootBuiltins x=some u) (r:RelV v u) (hn:x ≠ "__name__":=by decide) (hd:(x ==("__debug__":Str))=false:=by decide):PE X (.Name x pos) (tC v) :=
 λ _ _ _ H _ I h=>iQ I hg hm hv ⟨v,H,I,r,h⟩ hn hd
variable {a b:Expr} {ta tb:TE} {pos:Pos}
def PC (X:Cx) (op:CmpOp) (a b:Expr) (t:TE):Prop :=
 ∀(pins:List (Addr × Obj)) (s:Shared) (σ:St) (H:Hp) (Q:VK),Inv X pins σ H s->t σ H Q →
  wpAny (model X.prog X.w) X.A (eval a X.env) (λ v s₁=>wpAny (model X.prog X.w) X.A (eval b X.env) (λ u s₂=>wpAny (model X.prog X.w) X.A (compareOp op v u) (EP X pins σ Q) X.xe s₂) X.xe s₁) X.xe s
theorem Dq (b:Expr) {op:CmpOp} (h:op ≠ .In) (h2:op ≠ .NotIn):behindInMarks op b=false:=by
 have e1:(op == CmpOp.In)=false:=by cases op <;> first | rfl | exact absurd rfl h
 have e2:(op == CmpOp.NotIn)=false:=by cases op <;> first | rfl | exact absurd rfl h2
 cases b <;> simp [behindInMarks,e1,e2]
def tB (t:TE):TT:=λ σ H Q=>t σ H λ x H1=>∃ c,x = .bl c /\ Q c H1
theorem mq {op:CmpOp} {t:TE} (h:PC X op a b t) (h1:behindInMarks op b=false:=by first | exact Dq _ (by decide) (by decide) | rfl):PT X (.Compare a [op] [b] pos) (tB t):=by
 intro pins s σ H Q I hw
 refine Vf (thn (h pins s σ H _ I hw) λ v s1 h1=>thn h1 λ u s2 h2=>thn h2 λ c s3 ⟨x,H1,I1,r1,q1⟩=>?_) h1
 obtain⟨d,rfl,q⟩:=q1
 cases r1
 exact TQ ⟨H1,I1,q⟩
theorem uW {e:Expr} {t:TE} (h:PE X e t) (he:∀ whole,isTrue e X.env whole =(do let v ← whole;standAt e.pos;holding [v] (truthy v)):=by intro _;rfl):PT X e (tB t):=by
 intro pins s σ H Q I hw
 refine isTrue_plain (thn (h pins s σ H _ I hw) λ v s1 ⟨x,H1,I1,r1,q1⟩=>?_) (he _)
 obtain⟨d,rfl,q⟩:=q1
 cases r1
 exact TQ ⟨H1,I1,q⟩
variable {tA tB':TT} {rest:List Expr}
def KP (t u:TT):TT:=λ σ H Q=>t σ H λ c H1=>if c=true then u σ H1 Q else Q false H1
def tOr (t u:TT):TT:=λ σ H Q=>t σ H λ c H1=>if c=true then Q true H1 else u σ H1 Q
def KJ (t:TT):TT:=λ σ H Q=>t σ H λ c H1=>Q (!c) H1
theorem pw_and1 (ha:PT X a tA):PW X (.BoolOp .And [a] pos) tA:=by
 intro wh pins s σ H Q I h
 refine isTrue_and (thn (ha pins s σ H Q I h) λ c s1 e=>?_)
 cases c with
 | true=>exact isTrue_and_nil e
 | false=>exact e
theorem pw_or1 (ha:PT X a tA):PW X (.BoolOp .Or [a] pos) tA:=by
 intro wh pins s σ H Q I h
 refine isTrue_or (thn (ha pins s σ H Q I h) λ c s1 e=>?_)
 cases c with
 | false=>exact isTrue_or_nil e
 | true=>exact e
theorem pw_and (ha:PT X a tA) (hb:PW X (.BoolOp .And (b :: rest) pos) tB'):PW X (.BoolOp .And (a :: b :: rest) pos) (KP tA tB'):=by
 intro wh pins s σ H Q I h
 refine isTrue_and (thn (ha pins s σ H _ I h) λ c s1 ⟨H1,I1,q1⟩=>?_)
 cases c with
 | true=>exact hb wh pins s1 σ H1 Q I1 q1
 | false=>exact⟨H1,I1,q1⟩
theorem pw_or (ha:PT X a tA) (hb:PW X (.BoolOp .Or (b :: rest) pos) tB'):PW X (.BoolOp .Or (a :: b :: rest) pos) (tOr tA tB'):=by
 intro wh pins s σ H Q I h
 refine isTrue_or (thn (ha pins s σ H _ I h) λ c s1 ⟨H1,I1,q1⟩=>?_)
 cases c with
 | true=>exact⟨H1,I1,q1⟩
 | false=>exact hb wh pins s1 σ H1 Q I1 q1
theorem yX (ha:PT X a tA):PT X (.UnaryOp .Not a pos) (KJ tA):=by
 intro pins s σ H Q I h
 exact isTrue_not (ha pins s σ H (λ c H1=>Q (!c) H1) I h)
def HG (ta tb:TE):TE:=λ σ H Q=>ta σ H λ x H1=>∃ c,x = .bl c /\ if c=true then tb σ H1 Q else Q (.bl false) H1
theorem Fl {op} {t:TE} (h:PE X a t):PE X (.BoolOp op [a] pos) t:=λ pins s σ H Q I hw=>BoolOp_one (h pins s σ H Q I hw)
theorem Fz (ha:PE X a ta) (hb:PE X (.BoolOp .And (b :: rest) pos) tb):PE X (.BoolOp .And (a :: b :: rest) pos) (HG ta tb):=by
 intro pins s σ H Q I h
 refine BoolOp_and (thn (ha pins s σ H _ I h) λ v s1 ⟨x,H1,I1,r1,q1⟩=>?_)
 obtain⟨c,rfl,q1⟩:=q1
 cases r1
 refine TQ ?_
 cases c with
 | true=>exact hb pins s1 σ H1 Q I1 q1
 | false=>exact⟨.bl false,H1,I1,rfl,q1⟩
def tIf (t:TT) (ta tb:TE):TE:=λ σ H Q=>t σ H λ c H1=>if c=true then ta σ H1 Q else tb σ H1 Q
theorem tZ {c:Expr} (hc:PT X c tA) (ha:PE X a ta) (hb:PE X b tb):PE X (.IfExp c a b pos) (tIf tA ta tb):=by
 intro pins s σ H Q I h
 refine wpAny_IfExp (thn (hc pins s σ H _ I h) λ d s1 ⟨H1,I1,q1⟩=>?_)
 cases d with
 | true=>exact ha pins s1 σ H1 Q I1 q1
 | false=>exact hb pins s1 σ H1 Q I1 q1
end
def SqL (K:Frag) (H:Hp) (a:Addr) (xs:List V):Prop :=
 Rd H a (.lst xs) ∨
  ∃(o:Obj) (its:Array Value) (n:Nat),K.lookup a=some o /\ o.cls = .type "list" /\ o.dict=none /\ o.data = .seq its n /\ its.size ≤ sizeLine /\ Vals xs its.toList
def SqT (K:Frag) (H:Hp) (a:Addr) (xs:List V):Prop :=
 Rd H a (.tup xs) ∨
  ∃(o:Obj) (its:Array Value) (n:Nat),K.lookup a=some o /\ o.cls = .type "tuple" /\ o.data = .seq its n /\ its.size ≤ sizeLine /\ Vals xs its.toList
def Pc:Value->Option V
 | .none=>some .non
 | .bool b=>some (.bl b)
 | .int i _=>some (.int i)
 | .str x _=>some (.str x)
 | .bytes b _=>some (.byt b)
 | .float b _=>some (.flt b)
 | .ref a=>some (.ref a)
 | .type n=>some (.ty n)
 | _=>none
theorem RelV.abs {x:V} {u:Value} (r:RelV x u):Pc u=some x:=by
 cases x with
 | non=>cases r;rfl
 | bl _=>cases r;rfl
 | int _=>obtain⟨t,rfl⟩:=r;rfl
 | str _=>obtain⟨t,rfl⟩:=r;rfl
 | byt _=>obtain⟨t,rfl⟩:=r;rfl
 | flt _=>obtain⟨t,rfl⟩:=r;rfl
 | ref _=>cases r;rfl
 | ty _=>cases r;rfl
theorem RelV.inj {x y:V} {u:Value} (r:RelV x u) (q:RelV y u):x=y:=Rc (r.abs.symm.trans q.abs)
theorem Vals.inj:∀ {xs ys:List V} {us:List Value},Vals xs us->Vals ys us->xs=ys
 | _,_,_,.nil,.nil=>rfl
 | _,_,_,.cons r t,.cons r' t'=>by rw [r.inj r',Vals.inj t t']
section
variable {X:Cx} {pins:List (Addr × Obj)} {σ:St} {H:Hp} {s:Shared} {a:Addr} {xs ys:List V}
theorem SqL.of {K:Frag} (h:H a=some (.lst xs)):SqL K H a xs:=.inl (.inl h)
theorem SqT.of {K:Frag} (h:H a=some (.tup xs)):SqT K H a xs:=.inl (.inl h)
theorem Inv.list (I:Inv X pins σ H s) (h:SqL X.K H a xs):∃ its:List Value,Vals xs its /\ PlainL s.heap a its.toArray /\ xs.length ≤ sizeLine:=by
 rcases h with h |⟨o,its,n,hk,hc,hd,hs,hz,r⟩
 ·obtain⟨z,its,n,r,e⟩:=h.ok I.hok
  exact⟨its,r,⟨_,n,e,rfl,rfl,rfl⟩,z⟩
 ·refine⟨its.toList,r,⟨o,n,I.kIn a o hk,hc,hd,by simpa using hs⟩,?_⟩
  have e:=r.length
  simp only [Array.length_toList] at e
  omega
theorem Inv.tuple (I:Inv X pins σ H s) (h:SqT X.K H a xs):∃ its:List Value,Vals xs its /\ IsTup s.heap a its.toArray /\ xs.length ≤ sizeLine:=by
 rcases h with h |⟨o,its,n,hk,hc,hs,hz,r⟩
 ·obtain⟨z,its,r,p⟩:=h.ok I.hok
  exact⟨its,r,p,z⟩
 ·refine⟨its.toList,r,⟨o,I.kIn a o hk,hc,n,by simpa using hs⟩,?_⟩
  have e:=r.length
  simp only [Array.length_toList] at e
  omega
theorem Inv.zl (I:Inv X pins σ H s) (h:SqL X.K H a xs) (h':SqL X.K H a ys):xs=ys:=by
 obtain⟨its,r,⟨o,n,e,_,_,d⟩,_⟩:=I.list h
 obtain⟨its',r',⟨o',n',e',_,_,d'⟩,_⟩:=I.list h'
 rw [e] at e';cases e'
 rw [d] at d'
 injection d' with d1 _
 have:its=its':=by simpa using congrArg Array.toList d1
 subst this
 exact r.inj r'
theorem Inv.w6 (I:Inv X pins σ H s) (h:SqT X.K H a xs) (h':SqT X.K H a ys):xs=ys:=by
 obtain⟨its,r,⟨o,e,_,n,d⟩,_⟩:=I.tuple h
 obtain⟨its',r',⟨o',e',_,n',d'⟩,_⟩:=I.tuple h'
 rw [e] at e';cases e'
 rw [d] at d'
 injection d' with d1 _
 have:its=its':=by simpa using congrArg Array.toList d1
 subst this
 exact r.inj r'
end
abbrev Cx.oM (X:Cx) (E:Value->Shared->Prop):Cx:={ X with xe:=E }
abbrev Cx.nox (X:Cx):Cx:=X.oM λ _ _=>False
theorem Cx.Ok.oM {X:Cx} (ok:X.Ok) (E:Value->Shared->Prop):(X.oM E).Ok :=
 ⟨ok.mod,ok.kind,ok.glob,ok.blt,ok.above,ok.inj,ok.has,ok.cab,ok.hd,ok.frames,ok.stk,ok.exf,ok.bs,ok.bsz,ok.qb,ok.qD,ok.iE,ok.frf⟩
theorem Cx.Ok.yS {X:Cx} {E:Value->Shared->Prop} (ok:(X.oM E).Ok):X.Ok :=
 ⟨ok.mod,ok.kind,ok.glob,ok.blt,ok.above,ok.inj,ok.has,ok.cab,ok.hd,ok.frames,ok.stk,ok.exf,ok.bs,ok.bsz,ok.qb,ok.qD,ok.iE,ok.frf⟩
section
variable {X:Cx} {pins:List (Addr × Obj)} {σ:St} {H:Hp} {s:Shared} {E:Value->Shared->Prop}
theorem Inv.oM (I:Inv X pins σ H s) (E:Value->Shared->Prop):Inv (X.oM E) pins σ H s:=⟨I.ok.oM E,I.os,I.bare,I.base,I.loc,I.cell,I.free,I.fH,I.pin,I.hok,I.len⟩
theorem Inv.yS (I:Inv (X.oM E) pins σ H s):Inv X pins σ H s:=⟨I.ok.yS,I.os,I.bare,I.base,I.loc,I.cell,I.free,I.fH,I.pin,I.hok,I.len⟩
end
section
variable {X:Cx} {st:Stmt} {rest:List Stmt} {t u:TS} {e:Expr} {te:TE} {pos:Pos}
def ly:TS:=λ D σ H=>D.nx σ H
def A1 (t u:TS):TS:=λ D σ H=>t { D with nx:=u D } σ H
theorem bK:PSs X [] ly:=λ _ _ σ H _ I h=>Tw ⟨σ,H,I,h⟩
theorem au (h1:PS X st t) (h2:PSs X rest u):PSs X (st :: rest) (A1 t u):=by
 intro pins s σ H D I h
 refine TZ (thn (h1 pins s σ H { D with nx:=u D } I h) λ f s1 q=>?_)
 cases f with
 | next =>
  obtain⟨σ',H',I',q⟩:=q
  exact h2 pins s1 σ' H' D I' q
 | ret v=>exact q
 | brk=>exact q
 | cont=>exact q
theorem aF (h1:PS X st t):PSs X [st] t:=by
 intro pins s σ H D I h
 refine TZ (thn (h1 pins s σ H D I h) λ f s1 q=>?_)
 cases f with
 | next=>exact Tw q
 | ret v=>exact q
 | brk=>exact q
 | cont=>exact q
theorem Inv.quiet {pins:List (Addr × Obj)} {σ:St} {H:Hp} {s:Shared} (I:Inv X pins σ H s):interactive X.env=false:=by simp [interactive,I.ok.kind]
def GZ (te:TE):TS:=λ D σ H=>te σ H λ _ H1=>D.nx σ H1
theorem bP (he:PE X e te) (hs:swapsWith e none pos.line X.env=pure false:=by rfl):PS X (.Expr e pos) (GZ te):=by
 intro pins s σ H D I h
 exact wpAny_Expr_any (thn (he pins s σ H _ I h) λ v s1 ⟨x,H1,I1,r1,q1⟩=>⟨σ,H1,I1,q1⟩) I.quiet hs
def L4 (te:TE):TS:=λ D σ H=>te σ H D.rt
theorem bh (he:PE X e te):PS X (.Return (some e) pos) (L4 te):=by
 intro pins s σ H D I h
 exact wpAny_Return_some (thn (he pins s σ H _ I h) λ v s1 ⟨x,H1,I1,r1,q1⟩=>⟨x,σ,H1,I1,r1,q1⟩)
def qi (c:TT) (t u:TS):TS:=λ D σ H=>c σ H λ b H1=>if b=true then t D σ H1 else u D σ H1
theorem ck {c:Expr} {a b:List Stmt} {tc:TT} (hc:PT X c tc) (ha:PSs X a t) (hb:PSs X b u):PS X (.If c a b pos) (qi tc t u):=by
 intro pins s σ H D I h
 refine wpAny_If (thn (hc pins s σ H _ I h) λ d s1 ⟨H1,I1,q1⟩=>?_)
 cases d with
 | true=>exact ha pins s1 σ H1 D I1 q1
 | false=>exact hb pins s1 σ H1 D I1 q1
end
abbrev TG:=V->St->Hp->(St->Hp->Prop)->Prop
abbrev TGs:=List V->St->Hp->(St->Hp->Prop)->Prop
def PG (X:Cx) (target:Expr) (t:TG):Prop :=
 ∀(pins:List (Addr × Obj)) (s:Shared) (σ:St) (H:Hp) (v:V) (u:Value) (Q:St->Hp->Prop),Inv X pins σ H s->RelV v u->t v σ H Q →
  wpAny (model X.prog X.w) X.A (assign target X.env u) (λ _ s'=>∃ σ' H',Inv X pins σ' H' s' /\ Q σ' H') X.xe s
def PGs (X:Cx) (ts:List Expr) (t:TGs):Prop :=
 ∀(pins:List (Addr × Obj)) (s:Shared) (σ:St) (H:Hp) (vs:List V) (us:List Value) (Q:St->Hp->Prop),Inv X pins σ H s->Vals vs us->t vs σ H Q →
  wpAny (model X.prog X.w) X.A (assignInOrder ((assignEach ts X.env).map (·.2)) us) (λ _ s'=>∃ σ' H',Inv X pins σ' H' s' /\ Q σ' H') X.xe s
abbrev DR:=V->V->V->Hp->(Hp->Prop)->Prop
def Fd (X:Cx) (t:DR):Prop :=
 ∀(pins:List (Addr × Obj)) (s:Shared) (σ:St) (H:Hp) (o i v:V) (ov iv u:Value) (Q:Hp->Prop),Inv X pins σ H s->RelV o ov->RelV i iv->RelV v u->t o i v H Q →
  wpAny (model X.prog X.w) X.A (setItem ov iv u) (λ _ s'=>∃ H',Inv X pins σ H' s' /\ Q H') X.xe s
section
variable {X:Cx} {pos:Pos}
def Bo (i:Nat):TG:=λ v σ H Q=>Q (σ.set i (some v)) H
theorem bH {i:Nat} {x:Str} (hN:X.N.Nodup) (hi:X.N[i]? = some x) (hx:Loc X.env.scope x) (hf:X.fn x = true ∨ X.env.scope.names.lookup x = some .local:=by first | exact .inl rfl | exact .inr rfl | assumption):PG X (.Name x pos) (Bo i):=by
 intro pins s σ H v u Q I r h
 exact wpAny_assign_Name (oU I hN hi hx r (λ s' I'=>⟨_,H,I',h⟩) hf)
def Ku:TGs:=λ vs σ H Q=>vs = [] /\ Q σ H
def GD (t:TG) (u:TGs):TGs:=λ vs σ H Q=>∃ v r,vs=v :: r /\ t v σ H λ σ' H'=>u r σ' H' Q
theorem lA:PGs X [] Ku:=by
 intro pins s σ H vs us Q I r h
 obtain⟨e,h⟩:=h
 subst e
 cases r
 exact assignInOrder_nil ⟨σ,H,I,h⟩
theorem cQ {e:Expr} {es:List Expr} {t:TG} {u:TGs} (h1:PG X e t) (h2:PGs X es u)
  (hs:(assignEach (e :: es) X.env).map (·.2)=assign e X.env ::(assignEach es X.env).map (·.2):=by rfl):PGs X (e :: es) (GD t u):=by
 intro pins s σ H vs us Q I r h
 obtain⟨v,vr,e1,h⟩:=h
 subst e1
 cases r with
 | cons r rr =>
  rw [hs]
  refine assignInOrder_cons (thn (h1 pins s σ H _ _ _ I r h) λ _ s1 ⟨σ1,H1,I1,q1⟩=>?_)
  exact h2 pins s1 σ1 H1 _ _ Q I1 rr q1
def Fg (K:Frag) (n:Nat) (t:TGs):TG:=λ v σ H Q=>∃ a xs,v = .ref a /\ SqT K H a xs /\ xs.length=n /\ t xs σ H Q
theorem qA {es:List Expr} {k:Nat} {t:TGs} {n:Nat} (hc:X.calm=true) (h:PGs X es t)
  (hn:(assignEach es X.env).length=n:=by rfl) (hst:(assignEach es X.env).findIdx? (·.1)=none:=by rfl):PG X (.Tuple es k pos) (Fg X.K n t):=by
 intro pins s σ H v u Q I r hw
 obtain⟨a,xs,e1,hq,hl,hw⟩:=hw
 subst e1
 cases r
 obtain⟨its,rv,ht,hz⟩:=I.tuple hq
 refine assign_Tuple_tuple (I.ok.hd hc) ht (by simp [hn,← hl,rv.length]) hst λ h' hx=>?_
 have I1:Inv X pins σ H { s with heap:=h' }:=I.kept (t':=s.toks) λ b o e=>hx b o (QN (QF e)) e
 exact h pins _ σ H xs _ Q I1 (by simpa using rv) hw
def Np (to ti:TE) (t:DR):TG:=λ v σ H Q=>to σ H λ o H1=>ti σ H1 λ i H2=>t o i v H2 λ H3=>Q σ H3
theorem oz {o i:Expr} {to ti:TE} {t:DR} (ho:PE X o to) (hi:PE X i ti) (hs:Fd X t)
  (ha:∀ v,assign (.Subscript o i pos) X.env v =(do
   let ov ← holding [v] (eval o X.env)
   let iv ← holding [v,ov] (eval i X.env)
   standAt pos
   holding [v,ov,iv] (setItem ov iv v)
   release [v,ov,iv] []):=by intro _;rfl):PG X (.Subscript o i pos) (Np to ti t):=by
 intro pins s σ H v u Q I r h
 rw [ha]
 refine QB (RK (thn (ho pins s σ H _ I h) λ ov s1 ⟨x,H1,I1,r1,q1⟩=>?_))
 refine QB (RK (thn (hi pins s1 σ H1 _ I1 q1) λ iv s2 ⟨y,H2,I2,r2,q2⟩=>?_))
 refine QB (Uw (QB (RK (thn (hs pins s2 σ H2 x y v ov iv u _ I2 r1 r2 r q2) λ _ s3 ⟨H3,I3,q3⟩=>?_))))
 exact wpAny_release ⟨σ,H3,I3,q3⟩
def Fx (te:TE) (g:TG):TS:=λ D σ H=>te σ H λ x H1=>g x σ H1 D.nx
theorem lT {tg e:Expr} {te:TE} {g:TG} (he:PE X e te) (hg:PG X tg g) (hs:swapsWithSole [tg] e pos.line X.env=pure false:=by rfl) (hw:swappedStores [tg] e X.env=pure none:=by rfl)
  (h1:(assignEach [tg] X.env).map (·.2) = [assign tg X.env]:=by rfl):PS X (.Assign [tg] e pos) (Fx te g):=by
 intro pins s σ H D I h
 refine wpAny_Assign_stores (thn (he pins s σ H _ I h) λ v s1 ⟨x,H1,I1,r1,q1⟩=>?_) hs hw
 rw [h1]
 exact thn (hg pins s1 σ H1 x v _ I1 r1 q1) λ _ s2 q=>q
theorem aL {i:Nat} {x:Str} {e:Expr} {te:TE} {pos':Pos} (hN:X.N.Nodup) (hi:X.N[i]? = some x) (hx:Loc X.env.scope x) (he:PE X e te) (hs:swapsWith e (some (.Name x pos')) pos.line X.env = pure false:=by rfl) (hf:X.fn x = true ∨ X.env.scope.names.lookup x = some .local:=by first | exact .inl rfl | exact .inr rfl | assumption) :
  PS X (.Assign [.Name x pos'] e pos) (Fx te (Bo i)):=by
 intro pins s σ H D I h
 refine wpAny_Assign_Name (thn (he pins s σ H _ I h) λ v s1 ⟨y,H1,I1,r1,q1⟩=>?_) hs
 exact oU I1 hN hi hx r1 (λ s2 I2=>⟨_,H1,I2,q1⟩) hf
end
section
variable {X:Cx} {pos:Pos}
def Fj (c:TT) (tb:TS):TS:=λ D σ H=>∃ W:Nat->St->Hp->Prop,(∃ m,W m σ H) /\ ∀ m σ H,W m σ H →
 c σ H λ b H1=>if b=true then ∃ N:St->Hp->Prop,(∀ σ' H',N σ' H'->∃ m',m' < m /\ W m' σ' H') /\ tb { D with nx:=N,ct:=N,bk:=D.nx } σ H1 else D.nx σ H1
theorem lE {c:Expr} {body:List Stmt} {tc:TT} {tb:TS} (hp:PassesOwn (model X.prog X.w) X.A X.env X.xe) (hc:PT X c tc) (hb:PSs X body tb):PS X (.While c body [] pos) (Fj tc tb):=by
 intro pins s σ H D I h
 obtain⟨W,⟨m0,w0⟩,turn⟩:=h
 refine wpAny_While (codeAny_whileLoop (λ n s'=>∃ σ' H',Inv X pins σ' H' s' /\ W n σ' H') ?_ m0 ⟨σ,H,I,w0⟩)
 rintro n s1 ⟨σ1,H1,I1,w1⟩
 refine SO hp (thn (hc pins s1 σ1 H1 _ I1 (turn n σ1 H1 w1)) λ b s2 ⟨H2,I2,q2⟩=>?_)
 cases b with
 | true =>
  obtain⟨N,hN,q2⟩:=q2
  rw [if_pos rfl]
  refine SO hp (thn (hb pins s2 σ1 H2 _ I2 q2) λ f s3 q3=>?_)
  cases f with
  | next =>
   obtain⟨σ3,H3,I3,n3⟩:=q3
   obtain⟨m',hm,w3⟩:=hN σ3 H3 n3
   exact⟨m',hm,σ3,H3,I3,w3⟩
  | cont =>
   obtain⟨σ3,H3,I3,n3⟩:=q3
   obtain⟨m',hm,w3⟩:=hN σ3 H3 n3
   exact⟨m',hm,σ3,H3,I3,w3⟩
  | brk=>exact q3
  | ret v=>exact q3
 | false =>
  rw [if_neg QV]
  exact Tw ⟨σ1,H2,I2,q2⟩
end
structure It where
 go:Nat->Hp->Prop
 yld:Nat->Hp->V->Hp->Prop
 stop:Nat->Hp->Prop
def fu (X:Cx) (pins:List (Addr × Obj)) (H:Hp) (b:Addr):Prop :=
 H b = none /\ b ≠ X.env.locals /\ b ∉ X.fs /\ (b ∈ X.ex ∨ X.s₀.heap.objs.size ≤ b) /\ (∀ x c,X.env.cells.lookup x = some c->c ≠ b) /\ ∀ p ∈ X.pn ++ pins,p.1 ≠ b
theorem Inv.ny {X:Cx} {pins:List (Addr × Obj)} {σ:St} {H H':Hp} {s:Shared} {b:Addr} (I:Inv X pins σ H s) (hb:s.heap.objs.size ≤ b) (hn:H' b=none):fu X pins H' b:=by
 refine⟨hn,Ry (QT I.lt hb),I.Kw hb,.inr (Rp I.sz hb),λ x c e z=>?_,λ p hp z=>?_⟩
 ·obtain⟨v,q⟩:=I.cell x c e
  exact absurd (QT q.lt (by rw [z];exact hb)) (Su _)
 ·exact absurd (QT (QF (I.pin p hp).1) (by rw [z];exact hb)) (Su _)
structure Turn (P:Program) (w:World) (K:Frag) (tg:Expr) (J:It) (fp:List Addr) (it:Addr) (tn:Nat->Heap->Prop):Prop where
 mem:it ∈ fp
 obj:∀ i h,tn i h->∀ b ∈ fp,∃ o,h.get? b=some o /\ ∀ v,o.data ≠ .cell v
 keep:∀ i h h',tn i h->(∀ b ∈ fp,∀ o,h.get? b=some o->h'.get? b=some o)->tn i h'
 item:∀(X:Cx),X.prog=P->X.w=w->X.K=K->X.calm=true->∀(i:Nat) (pins:List (Addr × Obj)) (s:Shared) (σ:St) (H:Hp) (E:Value->Shared->Prop),Inv X pins σ H s->(∀ b ∈ fp,fu X pins H b)->tn i s.heap->J.go i H →
  wpAny (model P w) X.A (pyNext (.ref it)) (λ r s1=>∃ u,r=some u ∧
   wpAny (model P w) X.A (letOwnedTupleGo tg (.ref it) u) (λ _ s2=>∃ x H',Inv X pins σ H' s2 /\ RelV x u /\ J.yld i H x H' /\ tn (i + 1) s2.heap /\ ∀ b ∈ fp,H' b=none) E s1) E s
 done:∀(X:Cx),X.prog=P->X.w=w->X.K=K->X.calm=true->∀(i:Nat) (pins:List (Addr × Obj)) (s:Shared) (σ:St) (H:Hp) (E:Value->Shared->Prop),Inv X pins σ H s->(∀ b ∈ fp,fu X pins H b)->tn i s.heap->J.stop i H →
  wpAny (model P w) X.A (pyNext (.ref it)) (λ r s1=>r=none /\ Inv X pins σ H s1) E s
 self:∀(A:Around) (i:Nat) (s:Shared) (Q:Value->Shared->Prop) (E:Value->Shared->Prop),tn i s.heap->Q (.ref it) s->wpAny (model P w) A (pyIter (.ref it)) Q E s
abbrev TI:=St->Hp->(It->Hp->Prop)->Prop
def PIE (X:Cx) (pins:List (Addr × Obj)) (σ:St) (tg:Expr) (R:It->Hp->Prop) (itv:Value) (s2:Shared):Prop :=
 ∃(it:Addr) (fp:List Addr) (tn:Nat->Heap->Prop) (J:It) (H':Hp),itv = .ref it /\ Inv X pins σ H' s2 /\ Turn X.prog X.w X.K tg J fp it tn /\ tn 0 s2.heap /\(∀ b ∈ fp,fu X pins H' b) /\ R J H'
def PI (X:Cx) (tg iter:Expr) (wi:TI):Prop :=
 ∀(pins:List (Addr × Obj)) (s:Shared) (σ:St) (H:Hp) (R:It->Hp->Prop),Inv X pins σ H s->wi σ H R →
  wpAny (model X.prog X.w) X.A (eval iter X.env) (λ v s1=>wpAny (model X.prog X.w) X.A (pyIter v) (PIE X pins σ tg R) X.xe s1) X.xe s
theorem xS {M:Model} {A:Around} {E:Value->Shared->Prop} {s:Shared} {tg:Expr} {it:Addr} {u:Value} {o:Obj} {n:String} {vs:Array Value} {Q:Unit->Shared->Prop} (ho:s.heap.get? it=some o) (hc:o.cls = .type n) (hd:o.data = .fields vs)
  (hn:["enumerate","zip","dict_itemiterator","dict_reverseitemiterator","odict_iterator","itertools.zip_longest","itertools.pairwise"].contains n=false) (hQ:Q () s):wpAny M A (letOwnedTupleGo tg (.ref it) u) Q E s:=by
 unfold letOwnedTupleGo
 cases tg <;> first
  | exact QI hQ
  |(cases u <;> first
    | exact QI hQ
    |(refine QB (wpAny_load ho ?_)
      rw [hc,hd]
      show wpAny M A (if (["enumerate","zip","dict_itemiterator","dict_reverseitemiterator","odict_iterator","itertools.zip_longest","itertools.pairwise"].contains n && vs[0]? == some (rawInt _))=true then _ else _) Q E s
      rw [if_neg (by intro h;rw [hn,Bool.false_and] at h;cases h)]
      exact QI hQ))
def Itl (K:Frag) (a:Addr):It :=
 ⟨λ i H=>∃ xs x,SqL K H a xs /\ xs[i]? = some x,λ i H x H'=>H'=H /\ ∀ xs,SqL K H a xs->xs[i]? = some x,λ i H=>∃ xs,SqL K H a xs /\ xs.length ≤ i⟩
def Itt (K:Frag) (a:Addr):It :=
 ⟨λ i H=>∃ xs x,SqT K H a xs /\ xs[i]? = some x,λ i H x H'=>H'=H /\ ∀ xs,SqT K H a xs->xs[i]? = some x,λ i H=>∃ xs,SqT K H a xs /\ xs.length ≤ i⟩
def Itr (lo:Int) (n:Nat):It:=⟨λ i _=>i < n,λ i H x H'=>H'=H /\ x = .int (lo + i),λ i _=>n ≤ i⟩
theorem Co {P:Program} {w:World} {K:Frag} {tg:Expr} (a it:Addr):Turn P w K tg (Itl K a) [it] it (λ i h=>h.IsListIter it a i) where
 mem:=by simp
 obj:=λ i h st b hb=>by
  have e:b=it:=by simpa using hb
  subst e
  obtain⟨o,e,c,d⟩:=st
  exact⟨o,e,λ v z=>by rw [d] at z;cases z⟩
 keep:=λ i h h' st k=>st.at λ o e=>k it (by simp) o e
 item:=by
  intro X hP hw hK hc i pins s σ H E I hf st hg
  subst hP hw hK
  obtain⟨xs,x,hq,hx⟩:=hg
  obtain⟨its,rv,p,hz⟩:=I.list hq
  obtain⟨u,hu,ru⟩:=rv.get hx
  obtain⟨f0,f1,f2,f3,f4,f5⟩:=hf it (by simp)
  refine wpAny_pyNext_list_item st p.isList (x:=u) (by simpa using hu) λ h' st' sb=>?_
  have I1:Inv X pins σ H { s with heap:=h' }:=I.turned (t':=s.toks) (λ b o hb e=>(sb.2 b hb).trans e) f0 f1 f3 f4 f5
  obtain⟨o,e,c,d⟩:=id st'
  exact⟨u,rfl,xS (s:={ s with heap:=h' }) e c d (by decide) ⟨x,H,I1,ru,⟨rfl,λ ys hy=>by rw [I.zl hy hq];exact hx⟩,st',λ b hb=>(hf b hb).1⟩⟩
 done:=by
  intro X hP hw hK hc i pins s σ H E I hf st hg
  subst hP hw hK
  obtain⟨xs,hq,hx⟩:=hg
  obtain⟨its,rv,p,hz⟩:=I.list hq
  obtain⟨f0,f1,f2,f3,f4,f5⟩:=hf it (by simp)
  have hl:=rv.length
  exact wpAny_pyNext_list_end (I.ok.hd hc) st p.isList (by simp;omega) λ h' eb=>⟨rfl,I.turned (t':=s.toks) (λ b o hb e=>eb b o hb e) f0 f1 f3 f4 f5⟩
 self:=λ _ _ _ _ _ st h=>wpAny_pyIter_listiter st h
theorem BB {P:Program} {w:World} {K:Frag} {tg:Expr} (a it:Addr):Turn P w K tg (Itt K a) [it] it (λ i h=>h.IsTupleIter it a i) where
 mem:=by simp
 obj:=λ i h st b hb=>by
  have e:b=it:=by simpa using hb
  subst e
  obtain⟨o,e,c,d⟩:=st
  exact⟨o,e,λ v z=>by rw [d] at z;cases z⟩
 keep:=λ i h h' st k=>st.at λ o e=>k it (by simp) o e
 item:=by
  intro X hP hw hK hc i pins s σ H E I hf st hg
  subst hP hw hK
  obtain⟨xs,x,hq,hx⟩:=hg
  obtain⟨its,rv,p,hz⟩:=I.tuple hq
  obtain⟨u,hu,ru⟩:=rv.get hx
  obtain⟨f0,f1,f2,f3,f4,f5⟩:=hf it (by simp)
  refine wpAny_pyNext_tuple_item st (show s.heap.IsTuple a its.toArray from p) (x:=u) (by simpa using hu) λ h' st' sb=>?_
  have I1:Inv X pins σ H { s with heap:=h' }:=I.turned (t':=s.toks) (λ b o hb e=>(sb.2 b hb).trans e) f0 f1 f3 f4 f5
  obtain⟨o,e,c,d⟩:=id st'
  exact⟨u,rfl,xS (s:={ s with heap:=h' }) e c d (by decide) ⟨x,H,I1,ru,⟨rfl,λ ys hy=>by rw [I.w6 hy hq];exact hx⟩,st',λ b hb=>(hf b hb).1⟩⟩
 done:=by
  intro X hP hw hK hc i pins s σ H E I hf st hg
  subst hP hw hK
  obtain⟨xs,hq,hx⟩:=hg
  obtain⟨its,rv,p,hz⟩:=I.tuple hq
  obtain⟨f0,f1,f2,f3,f4,f5⟩:=hf it (by simp)
  have hl:=rv.length
  exact wpAny_pyNext_tuple_end (I.ok.hd hc) st (show s.heap.IsTuple a its.toArray from p) (by simp;omega) λ h' eb=>⟨rfl,I.turned (t':=s.toks) (λ b o hb e=>eb b o hb e) f0 f1 f3 f4 f5⟩
 self:=λ _ _ _ _ _ st h=>wpAny_pyIter_tupleiter st h
theorem AV {P:Program} {w:World} {K:Frag} {tg:Expr} (it:Addr) (lo:Int) (n:Nat):Turn P w K tg (Itr lo n) [it] it (λ i h=>IsRangeIter h it (lo +(i:Nat) * 1) ((n:Int) -(i:Nat)) 1) where
 mem:=by simp
 obj:=λ i h st b hb=>by
  have e:b=it:=by simpa using hb
  subst e
  exact⟨_,st,λ v z=>by
   have z':Data.fields _=Data.cell v:=z
   cases z'⟩
 keep:=λ i h h' st k=>k it (by simp) _ st
 item:=by
  intro X hP hw hK hc i pins s σ H E I hf st hg
  subst hP hw hK
  obtain⟨f0,f1,f2,f3,f4,f5⟩:=hf it (by simp)
  have W:=Walks.range (prog:=X.prog) (w:=X.w) (I.ok.hd hc) it lo 1 n
  refine W.item i s _ _ hg st λ v h' tk hv st' kk=>?_
  obtain⟨t,rfl⟩:=hv
  have I1:Inv X pins σ H { s with heap:=h',toks:=tk }:=I.turned (λ b o hb e=>kk b o (by simpa using hb) e) f0 f1 f3 f4 f5
  refine⟨_,rfl,xS (s:={ s with heap:=h',toks:=tk }) (n:="range_iterator") st' rfl rfl (by decide) ⟨.int (lo + i),H,I1,⟨t,?_⟩,⟨rfl,rfl⟩,st',λ b hb=>(hf b hb).1⟩⟩
  rw [Int.mul_one]
 done:=by
  intro X hP hw hK hc i pins s σ H E I hf st hg
  subst hP hw hK
  obtain⟨f0,f1,f2,f3,f4,f5⟩:=hf it (by simp)
  exact wpAny_pyNext_range_end (I.ok.hd hc) st (by have:n ≤ i:=hg;omega) λ h' eb=>⟨rfl,I.turned (t':=s.toks) (λ b o hb e=>eb b o hb e) f0 f1 f3 f4 f5⟩
 self:=λ _ _ _ _ _ st h=>wpAny_pyIter_rangeiter st h
section
variable {X:Cx} {tg:Expr}
def Hi (K:Frag) (tl:TE):TI:=λ σ H R=>tl σ H λ x H1=>∃ a,x = .ref a /\(∃ xs,SqL K H1 a xs) /\ R (Itl K a) H1
def Ic (K:Frag) (tl:TE):TI:=λ σ H R=>tl σ H λ x H1=>∃ a,x = .ref a /\(∃ xs,SqT K H1 a xs) /\ R (Itt K a) H1
theorem fT {l:Expr} {tl:TE} (hl:PE X l tl):PI X tg l (Hi X.K tl):=by
 intro pins s σ H R I h
 refine thn (hl pins s σ H _ I h) λ v s1 ⟨x,H1,I1,r1,q1⟩=>?_
 obtain⟨a,e,⟨xs,hq⟩,q⟩:=q1
 subst e
 cases r1
 obtain⟨its,rv,p,hz⟩:=I1.list hq
 refine wpAny_pyIter_list p.isList ?_
 refine⟨s1.heap.objs.size,[s1.heap.objs.size],_,_,H1,rfl,I1.kept (t':=s1.toks) λ b o e=>QD _ e,Co a _,⟨_,QU _ rfl,rfl,rfl⟩,λ b hb=>?_,q⟩
 have e:b=s1.heap.objs.size:=by simpa using hb
 subst e
 exact I1.ny (QH _) (I1.hok.fresh (QH _))
theorem uM {l:Expr} {tl:TE} (hl:PE X l tl):PI X tg l (Ic X.K tl):=by
 intro pins s σ H R I h
 refine thn (hl pins s σ H _ I h) λ v s1 ⟨x,H1,I1,r1,q1⟩=>?_
 obtain⟨a,e,⟨xs,hq⟩,q⟩:=q1
 subst e
 cases r1
 obtain⟨its,rv,p,hz⟩:=I1.tuple hq
 refine Us (show s1.heap.IsTuple a its.toArray from p) ?_
 refine⟨s1.heap.objs.size,[s1.heap.objs.size],_,_,H1,rfl,I1.kept (t':=s1.toks) λ b o e=>QD _ e,BB a _,⟨_,QU _ rfl,rfl,rfl⟩,λ b hb=>?_,q⟩
 have e:b=s1.heap.objs.size:=by simpa using hb
 subst e
 exact I1.ny (QH _) (I1.hok.fresh (QH _))
theorem yT {pins:List (Addr × Obj)} {σ:St} {H:Hp} {s:Shared} {R:It->Hp->Prop} {E:Value->Shared->Prop} {lo hi:Int} {t u v:Tok} {tk:Nat} (I:Inv X pins σ H s) (h1:-(2 ^ 62) ≤ lo) (h2:lo < 2 ^ 62) (h3:-(2 ^ 62) ≤ hi) (h4:hi < 2 ^ 62)
  (q:R (Itr lo (hi - lo).toNat) H):wpAny (model X.prog X.w) X.A (pyIter (.ref s.heap.objs.size)) (PIE X pins σ tg R) E { s with heap:=s.heap.push { cls:=.type "range",data:=.fields #[.int lo t,.int hi u,.int 1 v] },toks:=tk }:=by
 refine wpAny_pyIter_range (IsRange.new ..) (small_one h1 h2 h3 h4) ?_
 have I1:Inv X pins σ H { s with heap:=s.heap.push { cls:=.type "range",data:=.fields #[.int lo t,.int hi u,.int 1 v] },toks:=tk }:=I.kept λ b o e=>QD _ e
 refine⟨(s.heap.push { cls:=.type "range",data:=.fields #[.int lo t,.int hi u,.int 1 v] }).objs.size,[(s.heap.push { cls:=.type "range",data:=.fields #[.int lo t,.int hi u,.int 1 v] }).objs.size],_,_,H,rfl,
  I1.kept (t':=tk) λ b o e=>QD _ e,AV _ lo (hi - lo).toNat,?_,λ b hb=>?_,q⟩
 ·have e1:lo +((0:Nat):Int) * 1=lo:=by simp
  have e2:(((hi - lo).toNat:Nat):Int) -((0:Nat):Int)=Builtin.Range.rangeSize lo hi 1:=by rw [rangeSize_one];split <;> omega
  show IsRangeIter _ _ (lo +((0:Nat):Int) * 1) ((((hi - lo).toNat:Nat):Int) -((0:Nat):Int)) 1
  rw [e1,e2]
  exact QU _ rfl
 ·have e:b =(s.heap.push { cls:=.type "range",data:=.fields #[.int lo t,.int hi u,.int 1 v] }).objs.size:=by simpa using hb
  subst e
  exact I1.ny (QH _) (I1.hok.fresh (QH _))
def Hg (ta:TA):TI:=λ σ H R=>ta σ H λ vs H1=>∃ j:Int,vs = [.int j] /\ -(2 ^ 62) ≤ j /\ j < 2 ^ 62 /\ R (Itr 0 j.toNat) H1
def HH (ta:TA):TI:=λ σ H R=>ta σ H λ vs H1=>∃ i j:Int,vs = [.int i,.int j] /\(-(2 ^ 62) ≤ i /\ i < 2 ^ 62 /\ -(2 ^ 62) ≤ j /\ j < 2 ^ 62) /\ R (Itr i (j - i).toNat) H1
theorem wM {a:Expr} {ta:TA} {p pos:Pos} (hg:Gl X "range") (hm:X.mg "range" = none) (ha:PA X [a] ta) (hs:starEach [a] X.env = [(false,eval a X.env)]:=by rfl):PI X tg (.Call (.Name "range" p) [a] [] pos) (Hg ta):=by
 intro pins s σ H R I h
 refine Call_ (iQ I hg hm boot_range (RD (thn (ha pos pins s σ H _ I h) λ us s1 ⟨vs,H1,I1,r1,q1⟩=>?_) hs rfl))
 obtain⟨j,e,q1,q2,q⟩:=q1
 subst e
 cases r1 with
 | cons r rr =>
  cases rr
  obtain⟨t,rfl⟩:=r
  exact call_range_1 (yT I1 (by omega) (by omega) q1 q2 (by simpa using q))
theorem BK {a b:Expr} {ta:TA} {p pos:Pos} (hg:Gl X "range") (hm:X.mg "range" = none) (ha:PA X [a,b] ta) (hs:starEach [a,b] X.env = [(false,eval a X.env),(false,eval b X.env)]:=by rfl) (hs2:starEach [b] X.env = [(false,eval b X.env)]:=by rfl) :
  PI X tg (.Call (.Name "range" p) [a,b] [] pos) (HH ta):=by
 intro pins s σ H R I h
 refine Call_ (iQ I hg hm boot_range (RD (thn (ha pos pins s σ H _ I h) λ us s1 ⟨vs,H1,I1,r1,q1⟩=>?_) (by rw [hs,hs2]) (by rw [hs2];rfl)))
 obtain⟨i,j,e,⟨q1,q2,q3,q4⟩,q⟩:=q1
 subst e
 cases r1 with
 | cons r rr =>
  cases rr with
  | cons r' rr =>
   cases rr
   obtain⟨t,rfl⟩:=r
   obtain⟨t',rfl⟩:=r'
   exact call_range_2 (yT I1 q1 q2 q3 q4 q)
def Mw (wi:TI) (g:TG) (tb:TS):TS:=λ D σ H=>wi σ H λ J H1=>∃ W:Nat->Nat->St->Hp->Prop,(∃ m,W 0 m σ H1) /\ ∀ i m σ H,W i m σ H →
 (J.stop i H /\ D.nx σ H) ∨(J.go i H /\ ∃ N:St->Hp->Prop,(∀ σ' H',N σ' H'->∃ m',m' < m /\ W (i + 1) m' σ' H') /\ ∀ x H',J.yld i H x H'->g x σ H' λ σ2 H2=>tb { D with nx:=N,ct:=N,bk:=D.nx } σ2 H2)
def qL (fp:List Addr) (h:Heap):List (Addr × Obj):=fp.filterMap λ b=>(h.get? b).map λ o=>(b,o)
theorem kW {fp:List Addr} {h:Heap} {b:Addr} {o:Obj} (hb:b ∈ fp) (e:h.get? b=some o):(b,o) ∈ qL fp h:=VL.mpr ⟨b,hb,by rw [e];rfl⟩
theorem CT {fp:List Addr} {h:Heap} {p:Addr × Obj} (hp:p ∈ qL fp h):p.1 ∈ fp /\ h.get? p.1=some p.2:=by
 obtain⟨b,hb,e⟩:=VL.mp hp
 cases q:h.get? b with
 | none=>rw [q] at e;cases e
 | some o =>
  rw [q] at e
  have e':(b,o)=p:=Rc e
  subst e'
  exact⟨hb,q⟩
theorem Inv.pinned {pins:List (Addr × Obj)} {σ:St} {H:Hp} {s:Shared} {fp:List Addr} (I:Inv X pins σ H s) (hf:∀ b ∈ fp,fu X pins H b) (ho:∀ b ∈ fp,∃ o,s.heap.get? b=some o /\ ∀ v,o.data ≠ .cell v):Inv X (pins ++ qL fp s.heap) σ H s :=
 I.z9 λ p hp=>(Ro.mp hp).elim (λ z=>I.pin p (Rw _ z)) λ z=>by
  obtain⟨hb,e⟩:=CT z
  obtain⟨f0,f1,f2,_⟩:=hf p.1 hb
  obtain⟨o,e',d⟩:=ho p.1 hb
  rw [e] at e';cases e'
  exact⟨e,f0,f1,f2,d⟩
theorem Inv.pe {pins pl:List (Addr × Obj)} {σ:St} {H:Hp} {s:Shared} (I:Inv X (pins ++ pl) σ H s):Inv X pins σ H s:=I.z9 λ p hp=>I.pin p (Rw _ (Sl _ hp))
theorem eX {iter:Expr} {body:List Stmt} {wi:TI} {g:TG} {tb:TS} {pos:Pos} (hp:PassesOwn (model X.prog X.w) X.A X.env X.xe) (hc:X.calm=true) (hi:PI X tg iter wi) (hg:PG X tg g) (hb:PSs X body tb)
  (hs:∀ x,foldedSetIterable iter X.env x=pure x:=by intro _;rfl):PS X (.For tg iter body [] pos) (Mw wi g tb):=by
 intro pins s σ H D I h
 refine wpAny_For (thn (hi pins s σ H _ I h) λ v s1 h1=>thn h1 λ itv s2 h2=>?_) hs
 obtain⟨it,fp,tn,J,H2,e,I2,T,st2,f2,W,⟨m0,w0⟩,turn⟩:=h2
 subst e
 have stat:∀ {H':Hp},(∀ b ∈ fp,H' b=none)->∀ b ∈ fp,fu X pins H' b:=λ hn b hb=>⟨hn b hb,(f2 b hb).2⟩
 refine codeAny_forLoop_any (λ n s'=>∃ i σ' H',Inv X pins σ' H' s' /\ tn i s'.heap /\(∀ b ∈ fp,H' b=none) /\ W i n σ' H') ?_ m0 ⟨0,σ,H2,I2,st2,λ b hb=>(f2 b hb).1,w0⟩
 rintro n s3 ⟨i,σ3,H3,I3,st3,fr3,w3⟩
 rcases turn i n σ3 H3 w3 with⟨stop,qn⟩ |⟨go,N,hN,step⟩
 ·refine SO hp (thn (T.done X rfl rfl rfl hc i pins s3 σ3 H3 X.xe I3 (stat fr3) st3 stop) λ r s4 ⟨hr,I4⟩=>?_)
  subst hr
  exact Tw ⟨σ3,H3,I4,qn⟩
 ·refine SO hp (thn (T.item X rfl rfl rfl hc i pins s3 σ3 H3 X.xe I3 (stat fr3) st3 go) λ r s4 ⟨u,hr,h4⟩=>?_)
  subst hr
  refine SO hp (thn h4 λ _ s5 ⟨x,H5,I5,r5,y5,st5,fr5⟩=>?_)
  have I5':=I5.pinned (stat fr5) (T.obj _ _ st5)
  refine SO hp (thn (hg _ s5 σ3 H5 x u _ I5' r5 (step x H5 y5)) λ _ s6 ⟨σ6,H6,I6,q6⟩=>?_)
  refine SO hp (thn (hb _ s6 σ6 H6 _ I6 q6) λ f s7 q7=>?_)
  have again:∀ {σ7:St} {H7:Hp},Inv X (pins ++ qL fp s5.heap) σ7 H7 s7->N σ7 H7->∃ m,m < n /\ ∃ i σ' H',Inv X pins σ' H' s7 /\ tn i s7.heap /\(∀ b ∈ fp,H' b=none) /\ W i m σ' H':=λ {σ7 H7} I7 n7=>by
   obtain⟨m',hm,w7⟩:=hN σ7 H7 n7
   refine⟨m',hm,i + 1,σ7,H7,I7.pe,T.keep _ _ _ st5 λ b hb o e=>(I7.pin (b,o) (Rw _ (Rw _ (kW hb e)))).1,λ b hb=>?_,w7⟩
   obtain⟨o,e,d⟩:=T.obj _ _ st5 b hb
   exact(I7.pin (b,o) (Rw _ (Rw _ (kW hb e)))).2.1
  cases f with
  | next=>obtain⟨σ7,H7,I7,n7⟩:=q7;exact again I7 n7
  | cont=>obtain⟨σ7,H7,I7,n7⟩:=q7;exact again I7 n7
  | brk=>obtain⟨σ7,H7,I7,q7⟩:=q7;exact⟨σ7,H7,I7.pe,q7⟩
  | ret v=>obtain⟨x7,σ7,H7,I7,r7,q7⟩:=q7;exact⟨x7,σ7,H7,I7.pe,r7,q7⟩
end
theorem gF {K:Frag} {a:Addr} {xs:List V} {g:TG} {tb:TS} {D:Ends} {σ:St} {H:Hp} (Pv:Nat->St->Hp->Prop) (h0:Pv 0 σ H) (hl:∀ i σ H,i ≤ xs.length->Pv i σ H->SqL K H a xs)
  (hs:∀ i x σ H,xs[i]? = some x->Pv i σ H->g x σ H λ σ2 H2=>tb { D with nx:=Pv (i + 1),ct:=Pv (i + 1),bk:=D.nx } σ2 H2) (hd:∀ σ H,Pv xs.length σ H->D.nx σ H) :
  ∃ W:Nat->Nat->St->Hp->Prop,(∃ m,W 0 m σ H) /\ ∀ i m σ H,W i m σ H →
   ((Itl K a).stop i H /\ D.nx σ H) ∨((Itl K a).go i H /\ ∃ N:St->Hp->Prop,(∀ σ' H',N σ' H'->∃ m',m' < m /\ W (i + 1) m' σ' H') /\ ∀ x H',(Itl K a).yld i H x H'->g x σ H' λ σ2 H2=>tb { D with nx:=N,ct:=N,bk:=D.nx } σ2 H2):=by
 refine⟨λ i m σ H=>m=xs.length - i /\ i ≤ xs.length /\ Pv i σ H,⟨xs.length,by simp,Rm _,h0⟩,?_⟩
 rintro i m σ H ⟨rfl,hi,p⟩
 have q:=hl i σ H hi p
 by_cases hlt:i < xs.length
 ·refine .inr ⟨⟨xs,xs[i],q,by simp [hlt]⟩,Pv (i + 1),λ σ' H' p'=>⟨xs.length -(i + 1),by omega,rfl,hlt,p'⟩,λ x H' y=>?_⟩
  obtain⟨e,y⟩:=y
  subst e
  exact hs i x σ _ (y xs q) p
 ·have e:i=xs.length:=by omega
  subst e
  exact .inl ⟨⟨xs,q,QH _⟩,hd σ H p⟩
theorem Am {K:Frag} {a:Addr} {xs:List V} {g:TG} {tb:TS} {D:Ends} {σ:St} {H:Hp} (Pv:Nat->St->Hp->Prop) (h0:Pv 0 σ H) (hl:∀ i σ H,i ≤ xs.length->Pv i σ H->SqT K H a xs)
  (hs:∀ i x σ H,xs[i]? = some x->Pv i σ H->g x σ H λ σ2 H2=>tb { D with nx:=Pv (i + 1),ct:=Pv (i + 1),bk:=D.nx } σ2 H2) (hd:∀ σ H,Pv xs.length σ H->D.nx σ H) :
  ∃ W:Nat->Nat->St->Hp->Prop,(∃ m,W 0 m σ H) /\ ∀ i m σ H,W i m σ H →
   ((Itt K a).stop i H /\ D.nx σ H) ∨((Itt K a).go i H /\ ∃ N:St->Hp->Prop,(∀ σ' H',N σ' H'->∃ m',m' < m /\ W (i + 1) m' σ' H') /\ ∀ x H',(Itt K a).yld i H x H'->g x σ H' λ σ2 H2=>tb { D with nx:=N,ct:=N,bk:=D.nx } σ2 H2):=by
 refine⟨λ i m σ H=>m=xs.length - i /\ i ≤ xs.length /\ Pv i σ H,⟨xs.length,by simp,Rm _,h0⟩,?_⟩
 rintro i m σ H ⟨rfl,hi,p⟩
 have q:=hl i σ H hi p
 by_cases hlt:i < xs.length
 ·refine .inr ⟨⟨xs,xs[i],q,by simp [hlt]⟩,Pv (i + 1),λ σ' H' p'=>⟨xs.length -(i + 1),by omega,rfl,hlt,p'⟩,λ x H' y=>?_⟩
  obtain⟨e,y⟩:=y
  subst e
  exact hs i x σ _ (y xs q) p
 ·have e:i=xs.length:=by omega
  subst e
  exact .inl ⟨⟨xs,q,QH _⟩,hd σ H p⟩
theorem qo {lo:Int} {n:Nat} {g:TG} {tb:TS} {D:Ends} {σ:St} {H:Hp} (Pv:Nat->St->Hp->Prop) (h0:Pv 0 σ H)
  (hs:∀ i σ H,i < n->Pv i σ H->g (.int (lo + i)) σ H λ σ2 H2=>tb { D with nx:=Pv (i + 1),ct:=Pv (i + 1),bk:=D.nx } σ2 H2) (hd:∀ σ H,Pv n σ H->D.nx σ H) :
  ∃ W:Nat->Nat->St->Hp->Prop,(∃ m,W 0 m σ H) /\ ∀ i m σ H,W i m σ H →
   ((Itr lo n).stop i H /\ D.nx σ H) ∨((Itr lo n).go i H /\ ∃ N:St->Hp->Prop,(∀ σ' H',N σ' H'->∃ m',m' < m /\ W (i + 1) m' σ' H') /\ ∀ x H',(Itr lo n).yld i H x H'->g x σ H' λ σ2 H2=>tb { D with nx:=N,ct:=N,bk:=D.nx } σ2 H2):=by
 refine⟨λ i m σ H=>m=n - i /\ i ≤ n /\ Pv i σ H,⟨n,by simp,Rm _,h0⟩,?_⟩
 rintro i m σ H ⟨rfl,hi,p⟩
 by_cases hlt:i < n
 ·refine .inr ⟨hlt,Pv (i + 1),λ σ' H' p'=>⟨n -(i + 1),by omega,rfl,hlt,p'⟩,λ x H' y=>?_⟩
  obtain⟨e,y⟩:=y
  subst e y
  exact hs i σ _ hlt p
 ·have e:i=n:=by omega
  subst e
  exact .inl ⟨QH _,hd σ H p⟩
abbrev R2:=V->V->Hp->VK->Prop
def OpR (X:Cx) (f:Value->Value->Sem Value) (r:R2):Prop :=
 ∀(pins:List (Addr × Obj)) (s:Shared) (σ:St) (H:Hp) (x y:V) (v u:Value) (Q:VK),Inv X pins σ H s->RelV x v->RelV y u->r x y H Q →
  wpAny (model X.prog X.w) X.A (f v u) (EP X pins σ Q) X.xe s
def UnR (X:Cx) (f:Value->Sem Value) (r:V->Hp->VK->Prop):Prop :=
 ∀(pins:List (Addr × Obj)) (s:Shared) (σ:St) (H:Hp) (x:V) (v:Value) (Q:VK),Inv X pins σ H s->RelV x v->r x H Q →
  wpAny (model X.prog X.w) X.A (f v) (EP X pins σ Q) X.xe s
def iX (X:Cx) (f:Value) (r:List V->Hp->VK->Prop):Prop :=
 ∀(pins:List (Addr × Obj)) (s:Shared) (σ:St) (H:Hp) (xs:List V) (us:List Value) (Q:VK),Inv X pins σ H s->Vals xs us->r xs H Q →
  wpAny (model X.prog X.w) X.A (call f us) (EP X pins σ Q) X.xe s
def tOp (r:R2) (ta tb:TE):TE:=λ σ H Q=>ta σ H λ x H1=>tb σ H1 λ y H2=>r x y H2 Q
def tUn (r:V->Hp->VK->Prop) (ta:TE):TE:=λ σ H Q=>ta σ H λ x H1=>r x H1 Q
def rI (C:Int->Int->Prop) (g:Int->Int->V):R2:=λ x y H Q=>∃ i j,x = .int i /\ y = .int j /\ C i j /\ Q (g i j) H
def rI0 (g:Int->Int->V):R2:=λ x y H Q=>∃ i j,x = .int i /\ y = .int j /\ Q (g i j) H
def rU (g:Int->V):V->Hp->VK->Prop:=λ x H Q=>∃ i,x = .int i /\ Q (g i) H
section
variable {X:Cx} {a b c:Expr} {ta tb tc:TE} {pos:Pos}
theorem DK (ha:PE X a ta) (hb:PE X b tb) {pins:List (Addr × Obj)} {s:Shared} {σ:St} {H:Hp} {R:V->V->Hp->Prop} (I:Inv X pins σ H s)
  (h:ta σ H λ x H1=>tb σ H1 λ y H2=>R x y H2) {Q:Value->Shared->Prop} {f:Value->Value->Sem Value}
  (hf:∀ v u s2 x y H2,Inv X pins σ H2 s2->RelV x v->RelV y u->R x y H2->wpAny (model X.prog X.w) X.A (f v u) Q X.xe s2) :
  wpAny (model X.prog X.w) X.A (eval a X.env) (λ v s₁=>wpAny (model X.prog X.w) X.A (eval b X.env) (λ u s₂=>wpAny (model X.prog X.w) X.A (f v u) Q X.xe s₂) X.xe s₁) X.xe s:=by
 refine thn (ha pins s σ H _ I h) λ v s1 ⟨x,H1,I1,r1,q1⟩=>?_
 refine thn (hb pins s1 σ H1 _ I1 q1) λ u s2 ⟨y,H2,I2,r2,q2⟩=>?_
 exact hf v u s2 x y H2 I2 r1 r2 q2
theorem aO {op:Operator} {r:R2} (ho:OpR X (binaryOp op) r) (ha:PE X a ta) (hb:PE X b tb):PE X (.BinOp a op b pos) (tOp r ta tb):=by
 intro pins s σ H Q I h
 exact wpAny_BinOp (DK ha hb I h λ v u s2 x y H2 I2 rx ry q=>ho pins s2 σ H2 x y v u Q I2 rx ry q)
theorem iY {op:UnaryOp} {r:V->Hp->VK->Prop} (ho:UnR X (unaryOp op) r) (ha:PE X a ta):PE X (.UnaryOp op a pos) (tUn r ta):=by
 intro pins s σ H Q I h
 exact UnaryOp_ (thn (ha pins s σ H _ I h) λ v s1 ⟨x,H1,I1,r1,q1⟩=>ho pins s1 σ H1 x v Q I1 r1 q1)
theorem opI {f:Value->Value->Sem Value} {C:Int->Int->Prop} {g:Int->Int->Int}
  (rule:∀(i j:Int) (t u:Tok) (s:Shared) (Q:Value->Shared->Prop) (E:Value->Shared->Prop),C i j->Q (.int (g i j) s.toks) { s with toks:=s.toks + 1 }->wpAny (model X.prog X.w) X.A (f (.int i t) (.int j u)) Q E s) :
  OpR X f (rI C λ i j=>.int (g i j)):=by
 intro pins s σ H x y v u Q I rx ry h
 obtain⟨i,j,rfl,rfl,hc,q⟩:=h
 obtain⟨t,rfl⟩:=rx
 obtain⟨t',rfl⟩:=ry
 exact rule i j t t' s _ _ hc ⟨.int (g i j),H,I.tok _,⟨_,rfl⟩,q⟩
theorem Dl {f:Value->Value->Sem Value} {g:Int->Int->Int}
  (rule:∀(i j:Int) (t u:Tok) (s:Shared) (Q:Value->Shared->Prop) (E:Value->Shared->Prop),Q (.int (g i j) s.toks) { s with toks:=s.toks + 1 }->wpAny (model X.prog X.w) X.A (f (.int i t) (.int j u)) Q E s) :
  OpR X f (rI0 λ i j=>.int (g i j)):=by
 intro pins s σ H x y v u Q I rx ry h
 obtain⟨i,j,rfl,rfl,q⟩:=h
 obtain⟨t,rfl⟩:=rx
 obtain⟨t',rfl⟩:=ry
 exact rule i j t t' s _ _ ⟨.int (g i j),H,I.tok _,⟨_,rfl⟩,q⟩
theorem Ba {f:Value->Value->Sem Value} {g:Int->Int->Bool}
  (rule:∀(i j:Int) (t u:Tok) (s:Shared) (Q:Value->Shared->Prop) (E:Value->Shared->Prop),Q (.bool (g i j)) s->wpAny (model X.prog X.w) X.A (f (.int i t) (.int j u)) Q E s) :
  OpR X f (rI0 λ i j=>.bl (g i j)):=by
 intro pins s σ H x y v u Q I rx ry h
 obtain⟨i,j,rfl,rfl,q⟩:=h
 obtain⟨t,rfl⟩:=rx
 obtain⟨t',rfl⟩:=ry
 exact rule i j t t' s _ _ ⟨.bl (g i j),H,I,rfl,q⟩
def O9 (i j:Int):Prop:=0 ≤ j /\ j ≤ 1000000 /\ i.natAbs < 2 ^ 64
def Dh (i j:Int):Prop:=(-(2 ^ 64) < i /\ i < 2 ^ 64) ∨(-(2 ^ 64) < j /\ j < 2 ^ 64)
theorem Dh.ok {i j:Int} (h:Dh i j):IntMulOk i j:=by
 rcases h with⟨h1,h2⟩ |⟨h1,h2⟩
 ·exact .of_left (intBits_le_64 h1 h2)
 ·exact .of_right (intBits_le_64 h1 h2)
theorem bN:OpR X (binaryOp .Add) (rI0 λ i j=>.int (i + j)):=Dl λ _ _ _ _ _ _ _ q=>add_int q
theorem iT:OpR X (binaryOp .Sub) (rI0 λ i j=>.int (i - j)):=Dl λ _ _ _ _ _ _ _ q=>sub_int q
theorem iB:OpR X (binaryOp .Mult) (rI Dh λ i j=>.int (i * j)):=opI λ _ _ _ _ _ _ _ hc q=>mul_int q hc.ok
theorem cg:OpR X (binaryOp .Mod) (rI (λ _ j=>0 < j) λ i j=>.int (i % j)):=opI λ i j _ _ _ _ _ hc q=>by
 have h1:(0:Int) < j:=hc
 exact mod_int' (by omega) (by rw [Int.fmod_eq_emod_of_nonneg i (by omega)];exact q)
theorem FT:OpR X (binaryOp .Pow) (rI O9 λ i j=>.int (i ^ j.toNat)):=opI λ _ _ _ _ _ _ _ hc q=>pow_int_small hc.1 hc.2.1 hc.2.2 q
theorem Cg:OpR X (binaryOp .BitXor) (rI0 λ i j=>.int (Builtin.bitXor i j)):=Dl λ _ _ _ _ _ _ _ q=>xor_int q
theorem unI {f:Value->Sem Value} {g:Int->Int}
  (rule:∀(i:Int) (t:Tok) (s:Shared) (Q:Value->Shared->Prop) (E:Value->Shared->Prop),Q (.int (g i) s.toks) { s with toks:=s.toks + 1 }->wpAny (model X.prog X.w) X.A (f (.int i t)) Q E s) :
  UnR X f (rU λ i=>.int (g i)):=by
 intro pins s σ H x v Q I rx h
 obtain⟨i,rfl,q⟩:=h
 obtain⟨t,rfl⟩:=rx
 exact rule i t s _ _ ⟨.int (g i),H,I.tok _,⟨_,rfl⟩,q⟩
theorem gI:UnR X (unaryOp .USub) (rU λ i=>.int (-i)):=unI λ _ _ _ _ _ q=>neg_int q
end
def FZ:V->V->Bool
 | .non,.non=>true | .non,.int _=>true | .int _,.non=>true | .non,.bl _=>true | .bl _,.non=>true | .non,.str _=>true | .str _,.non=>true
 | .int _,.int _=>true | .bl _,.bl _=>true | .str _,.str _=>true | .byt _,.byt _=>true
 | .int _,.str _=>true | .str _,.int _=>true | .bl _,.str _=>true | .str _,.bl _=>true
 | _,_=>false
def rEq:R2:=λ x y H Q=>FZ x y=true /\ Q (.bl (decide (x=y))) H
def rNe:R2:=λ x y H Q=>FZ x y=true /\ Q (.bl (!decide (x=y))) H
theorem AF {i j:Int}:decide (V.int i=V.int j) =(i == j):=by
 rw [SX]
 simp
theorem CV {i j:Bool}:decide (V.bl i=V.bl j) =(i == j):=by
 rw [SX]
 simp
theorem AI {i j:Str}:decide (V.str i=V.str j) =(i == j):=by
 rw [SX]
 simp
theorem Aw {i j:Array UInt8}:decide (V.byt i=V.byt j) =(i.toList == j.toList):=by
 rw [SX]
 cases i
 cases j
 simp
section
variable {X:Cx} {a b c:Expr} {ta tb tc:TE} {pos:Pos}
theorem bJ {pins:List (Addr × Obj)} {σ:St} {H:Hp} {s:Shared} {Q:VK} {k k':Bool} (I:Inv X pins σ H s) (q:Q (.bl k) H) (e:k=k'):EP X pins σ Q (.bool k') s:=by
 subst e
 exact⟨.bl k,H,I,rfl,q⟩
theorem jw:OpR X (compareOp .Eq) rEq:=by
 intro pins s σ H x y v u Q I rx ry h
 obtain⟨hs,q⟩:=h
 cases x with
 | non =>
  cases rx
  cases y with
  | non=>cases ry;exact PySem.EqNone.eq_none_none (bJ I q (by simp))
  | bl j=>cases ry;exact PySem.EqNone.eq_none_bool (bJ I q (by simp))
  | int j=>obtain⟨t',rfl⟩:=ry;exact PySem.EqNone.eq_none_int (bJ I q (by simp))
  | str j=>obtain⟨t',rfl⟩:=ry;exact PySem.EqNone.eq_none_str (bJ I q (by simp))
  | _=>exact absurd (show false=true from hs) QV
 | bl i =>
  cases rx
  cases y with
  | non=>cases ry;exact PySem.EqNone.eq_bool_none (bJ I q (by simp))
  | bl j=>cases ry;exact eq_bool (bJ I q CV)
  | str j=>obtain⟨t',rfl⟩:=ry;exact PySem.EqMixed.eq_bool_str (bJ I q (by simp))
  | _=>exact absurd (show false=true from hs) QV
 | int i =>
  obtain⟨t,rfl⟩:=rx
  cases y with
  | non=>cases ry;exact PySem.EqNone.eq_int_none (bJ I q (by simp))
  | int j=>obtain⟨t',rfl⟩:=ry;exact eq_int (bJ I q AF)
  | str j=>obtain⟨t',rfl⟩:=ry;exact PySem.EqMixed.eq_int_str (bJ I q (by simp))
  | _=>exact absurd (show false=true from hs) QV
 | str i =>
  obtain⟨t,rfl⟩:=rx
  cases y with
  | non=>cases ry;exact PySem.EqNone.eq_str_none (bJ I q (by simp))
  | bl j=>cases ry;exact PySem.EqMixed.eq_str_bool (bJ I q (by simp))
  | int j=>obtain⟨t',rfl⟩:=ry;exact PySem.EqMixed.eq_str_int (bJ I q (by simp))
  | str j=>obtain⟨t',rfl⟩:=ry;exact eq_str (bJ I q AI)
  | _=>exact absurd (show false=true from hs) QV
 | byt i =>
  obtain⟨t,rfl⟩:=rx
  cases y with
  | byt j=>obtain⟨t',rfl⟩:=ry;exact PySem.W.eq_bytes (bJ I q Aw)
  | _=>exact absurd (show false=true from hs) QV
 | _=>cases y <;> exact absurd (show false=true from hs) QV
theorem A5:OpR X (compareOp .NotEq) rNe:=by
 intro pins s σ H x y v u Q I rx ry h
 obtain⟨hs,q⟩:=h
 cases x with
 | non =>
  cases rx
  cases y with
  | non=>cases ry;exact PySem.EqNone.ne_none_none (bJ I q (by simp))
  | bl j=>cases ry;exact PySem.EqNone.ne_none_bool (bJ I q (by simp))
  | int j=>obtain⟨t',rfl⟩:=ry;exact PySem.EqNone.ne_none_int (bJ I q (by simp))
  | str j=>obtain⟨t',rfl⟩:=ry;exact PySem.EqNone.ne_none_str (bJ I q (by simp))
  | _=>exact absurd (show false=true from hs) QV
 | bl i =>
  cases rx
  cases y with
  | non=>cases ry;exact PySem.EqNone.ne_bool_none (bJ I q (by simp))
  | bl j=>cases ry;exact ne_bool (bJ I q (congrArg not CV))
  | str j=>obtain⟨t',rfl⟩:=ry;exact PySem.EqMixed.ne_bool_str (bJ I q (by simp))
  | _=>exact absurd (show false=true from hs) QV
 | int i =>
  obtain⟨t,rfl⟩:=rx
  cases y with
  | non=>cases ry;exact PySem.EqNone.ne_int_none (bJ I q (by simp))
  | int j=>obtain⟨t',rfl⟩:=ry;exact ne_int (bJ I q (congrArg not AF))
  | str j=>obtain⟨t',rfl⟩:=ry;exact PySem.EqMixed.ne_int_str (bJ I q (by simp))
  | _=>exact absurd (show false=true from hs) QV
 | str i =>
  obtain⟨t,rfl⟩:=rx
  cases y with
  | non=>cases ry;exact PySem.EqNone.ne_str_none (bJ I q (by simp))
  | bl j=>cases ry;exact PySem.EqMixed.ne_str_bool (bJ I q (by simp))
  | int j=>obtain⟨t',rfl⟩:=ry;exact PySem.EqMixed.ne_str_int (bJ I q (by simp))
  | str j=>obtain⟨t',rfl⟩:=ry;exact ne_str (bJ I q (congrArg not AI))
  | _=>exact absurd (show false=true from hs) QV
 | byt i =>
  obtain⟨t,rfl⟩:=rx
  cases y with
  | byt j=>obtain⟨t',rfl⟩:=ry;exact PySem.W.ne_bytes (bJ I q (congrArg not Aw))
  | _=>exact absurd (show false=true from hs) QV
 | _=>cases y <;> exact absurd (show false=true from hs) QV
theorem uR:OpR X (compareOp .Lt) (rI0 λ i j=>.bl (decide (i < j))):=Ba λ _ _ _ _ _ _ _ q=>lt_int q
theorem Hj:OpR X (compareOp .LtE) (rI0 λ i j=>.bl (decide (i ≤ j))):=Ba λ _ _ _ _ _ _ _ q=>le_int q
theorem rO:OpR X (compareOp .Gt) (rI0 λ i j=>.bl (decide (j < i))):=Ba λ _ _ _ _ _ _ _ q=>gt_int q
theorem GC:OpR X (compareOp .GtE) (rI0 λ i j=>.bl (decide (j ≤ i))):=Ba λ _ _ _ _ _ _ _ q=>ge_int q
theorem yV:OpR X (compareOp .Is) (λ x y H Q=>y = .non /\ Q (.bl (decide (x = .non))) H):=by
 intro pins s σ H x y v u Q I rx ry h
 obtain⟨rfl,q⟩:=h
 cases ry
 refine is_none_gen (bJ I q ?_)
 cases x <;> first
  |(cases rx;rfl)
  |(obtain⟨t,rfl⟩:=rx;rfl)
theorem Ai:OpR X (compareOp .IsNot) (λ x y H Q=>y = .non /\ Q (.bl (!decide (x = .non))) H):=by
 intro pins s σ H x y v u Q I rx ry h
 obtain⟨rfl,q⟩:=h
 cases ry
 refine isnot_none_gen (bJ I q ?_)
 cases x <;> first
  |(cases rx;rfl)
  |(obtain⟨t,rfl⟩:=rx;rfl)
theorem bz (b:Expr) {op:CmpOp} (h:op ≠ .In:=by decide) (h2:op ≠ .NotIn:=by decide):behindInMarks op b=false:=by
 have e1:(op == CmpOp.In)=false:=by cases op <;> first | rfl | exact absurd rfl h
 have e2:(op == CmpOp.NotIn)=false:=by cases op <;> first | rfl | exact absurd rfl h2
 cases b <;> simp [behindInMarks,e1,e2]
theorem nU {op:CmpOp} {r:R2} (ho:OpR X (compareOp op) r) (ha:PE X a ta) (hb:PE X b tb) (hm:behindInMarks op b=false):PE X (.Compare a [op] [b] pos) (tOp r ta tb):=by
 intro pins s σ H Q I h
 exact wpAny_Compare1 (DK ha hb I h λ v u s2 x y H2 I2 rx ry q=>ho pins s2 σ H2 x y v u Q I2 rx ry q) hm
def GY (t:TE):TT:=λ σ H Q=>t σ H λ x H'=>∃ k,x = .bl k /\ Q k H'
theorem bx {op:CmpOp} {r:R2} (ho:OpR X (compareOp op) r) (ha:PE X a ta) (hb:PE X b tb) (hm:behindInMarks op b=false):PT X (.Compare a [op] [b] pos) (GY (tOp r ta tb)):=by
 intro pins s σ H Q I h
 refine Vf (thn (ha pins s σ H _ I h) λ v s1 ⟨x,H1,I1,r1,q1⟩=>thn (hb pins s1 σ H1 _ I1 q1) λ u s2 ⟨y,H2,I2,r2,q2⟩ =>
  thn (ho pins s2 σ H2 x y v u _ I2 r1 r2 q2) λ c s3 ⟨z,H3,I3,r3,k,e,q3⟩=>?_) hm
 subst e
 cases r3
 exact TQ ⟨H3,I3,q3⟩
theorem vq:(sizeLine:Nat) < 2 ^ 63:=by rw [U7];decide
theorem vals1 {x:V} {us:List Value} (r:Vals [x] us):∃ u,us = [u] /\ RelV x u:=by
 cases r with
 | cons r1 r2=>cases r2;exact⟨_,rfl,r1⟩
theorem vals2 {x y:V} {us:List Value} (r:Vals [x,y] us):∃ u w',us = [u,w'] /\ RelV x u /\ RelV y w':=by
 cases r with
 | cons r1 r2 =>
  cases r2 with
  | cons r3 r4=>cases r4;exact⟨_,_,rfl,r1,r3⟩
theorem Cj (hc:X.calm=true):iX X (.builtin "max") (λ xs H Q=>∃ i j,xs = [.int i,.int j] /\ Q (.int (if j > i then j else i)) H):=by
 intro pins s σ H xs us Q I r h
 obtain⟨i,j,rfl,q⟩:=h
 obtain⟨u,w',rfl,⟨t,rfl⟩,⟨t',rfl⟩⟩:=vals2 r
 refine max_two_ints (I.ok.hd hc) λ h' tk k=>⟨_,H,I.kept k,?_,q⟩
 by_cases hj:j > i
 ·rw [if_pos hj,if_pos hj];exact⟨_,rfl⟩
 ·rw [if_neg hj,if_neg hj];exact⟨_,rfl⟩
theorem wU (hc:X.calm=true):iX X (.builtin "min") (λ xs H Q=>∃ i j,xs = [.int i,.int j] /\ Q (.int (if j < i then j else i)) H):=by
 intro pins s σ H xs us Q I r h
 obtain⟨i,j,rfl,q⟩:=h
 obtain⟨u,w',rfl,⟨t,rfl⟩,⟨t',rfl⟩⟩:=vals2 r
 refine min_two_ints (I.ok.hd hc) λ h' tk k=>⟨_,H,I.kept k,?_,q⟩
 by_cases hj:j < i
 ·rw [if_pos hj,if_pos hj];exact⟨_,rfl⟩
 ·rw [if_neg hj,if_neg hj];exact⟨_,rfl⟩
end
structure uA (h:Heap) (x dx C:Addr) (mA:Str->Option Value):Prop where
 obj:h.get? x=some (instObj C dx)
 ns:h.Ns1 dx mA
 ne:dx ≠ x
theorem wA {h:Heap} {dx:Addr} {mA:Str->Option Value} (n:h.Ns1 dx mA):∃ od,h.get? dx=some od /\ ∀ name,lookIn name od=some (mA name):=by
 obtain⟨o,es,ep,ho,hd,hk,_,hm⟩:=n
 refine⟨o,ho,λ name=>?_⟩
 have e:=hm name
 unfold nsFind findBy at e
 rw [← Array.find?_toList] at e
 unfold lookIn
 rw [hd]
 dsimp only
 split
 ·rename_i y q
  rw [q] at e
  exact congrArg some e
 ·rename_i q
  rw [q] at e
  have a:es.toList.any (·.refKey)=false:=by
   rw [List.any_eq_false]
   intro y hy
   obtain⟨z,t,hkey⟩:=hk y (Array.mem_toList_iff.mp hy)
   simp [DictEntry.refKey,hkey]
  have a':¬ es.toList.any (·.refKey)=true:=by rw [a];exact QV
  rw [if_neg a']
  exact congrArg some e
theorem uA.look {h:Heap} {x dx C:Addr} {mA:Str->Option Value} (I:uA h x dx C mA):∃ od,PySem.W.InstAt h x (instObj C dx) C (some od) /\ ∀ name,lookIn name od=some (mA name) :=
 let ⟨od,ho,hl⟩:=wA I.ns
 ⟨od,⟨I.obj,rfl,rfl,ho⟩,hl⟩
section
variable {prog:Program} {w:World} {A:Around} {E:Value->Shared->Prop} {s:Shared} {K:Frag} {x dx C f:Addr} {mA:Str->Option Value} {name:Str} {v:Value}
theorem get_map {expr:Bool} {Q:Value->Shared->Prop} (X:K.In s.heap) (I:uA s.heap x dx C mA) (hg:plainGet K C name=true) (hh:hasDictIn K C=true)
  (ha:findIn K (.ref C) name=some none) (hv:mA name=some v) (hv':handedIn v=true) (h:Q v { s with toks:=s.toks + 1 }) :
  wpAny (model prog w) A (getAttr (.ref x) name expr) Q E s:=by
 obtain⟨od,J,hl⟩:=I.look
 exact PySem.W.get_value X J (Uk hg).1 (VA hh ha rfl (by rw [hl,hv])) hv' h
theorem D7 {pl:Sem Bool} {Q:Value × List Value->Shared->Prop} (X:K.In s.heap) (I:uA s.heap x dx C mA) (hg:plainGet K C name=true)
  (hf:findIn K (.ref C) name=some (some (.ref f))) (ht:isFn K (.ref f)=true) (hv:mA name=none) (h:Q (.ref f,[.ref x]) s) :
  wpAny (model prog w) A (getMethod (.ref x) name pl) Q E s:=by
 obtain⟨od,J,hl⟩:=I.look
 exact PySem.W.method_fn X J (Uk hg).1 (Uk hg).2 hf (SY.mp ht) (by show(lookIn name od).map (·.isSome)=some false;rw [hl,hv];rfl) h
theorem EK {ns:List Str} {Q:Unit->Shared->Prop} (X:K.In s.heap) (I:uA s.heap x dx C mA)
  (hs:findIn K (.ref C) "__setattr__" = some (some (.builtin "object.__setattr__"))) (hp:plainOver K C=true) (ht:takerIn K C name=some none) (hh:hasDictIn K C=true)
  (hw:PySem.Within mA ns) (hsz:ns.length ≤ sizeLine)
  (h:∀ h',uA h' x dx C (λ y=>if y=name then some v else mA y)->Heap.SameBut dx s.heap h'->Q () { s with heap:=h',toks:=s.toks + 2 }) :
  wpAny (model prog w) A (setAttr (.ref x) name v) Q E s:=by
 obtain⟨od,J,hl⟩:=I.look
 refine V4 X J hs (PySem.W.osa_open (s:={ s with toks:=s.toks + 1 }) (r:=none) X J hp ht λ b=>?_)
 obtain⟨cd,hc,hd'⟩:=PySem.W.any_some hh
 have hx:s.heap.get? x=some ⟨.ref C,some dx,.plain,#[]⟩:=I.obj
 refine QB (QI (QB (QB (wpAny_loadPart hx (QB (Looks.here (s:={ s with toks:=s.toks + 1 }) (Ul X hc) ?_))))))
 rw [hd']
 refine QI (a:=some dx) (QB (QI (QB ?_)))
 refine wpAny_nsSet1 (s:={ s with toks:=s.toks + 1 }) I.ns λ h' hn2 hs2=>?_
 obtain⟨oD,esD,epD,hoD,hdD,hcD⟩:=hn2.count (PySem.Within.cons name v hw)
 refine QB (wpAny_lookBehind hoD (by rw [hdD];exact pastItsLine_dict (Rp hcD (by rw [RV];omega))) ?_)
 exact QI (h _ ⟨(hs2.2 _ (RJ I.ne)).trans I.obj,hn2,I.ne⟩ hs2)
theorem x9 {R:Result->Shared->Prop} {vs:List Value} {kw:List (Str × Value)} (X:K.In s.heap) (hm:makesIn K C=true)
  (hi:findIn K (.ref C) "__init__" = some (some (.ref f))) (hf:typeIn K (.ref f)=some (.type "function"))
  (h:codeAny (model prog w) (A.under (.builtin "type.__call__" ⟨.ref C :: vs,kw⟩)) (.call (.ref f) ⟨.ref (s.heap.objs.size + 1) :: vs,kw⟩) (PySem.W.InitBack (s.heap.objs.size + 1) R)
   {s with heap:=(s.heap.push emptyDict).push (instObj C s.heap.objs.size) }) :
  codeAny (model prog w) A (.call (.ref C) ⟨vs,kw⟩) R s:=by
 obtain⟨hh,g,d,t,os⟩:=s
 exact PySem.W.make_core (PySem.W.makes_of X hm) (Sn X hi) (λ self=>Wq X self hf) (.inl rfl) h
end
def cz (f:Str) (v:V):List (Str × V)->List (Str × V)
 | []=>[(f,v)]
 |(g,x) :: r=>if g=f then(g,v) :: r else(g,x) :: cz f v r
theorem sR (f g:Str) (v:V):∀ fs:List (Str × V),(cz f v fs).lookup g=if g=f then some v else fs.lookup g
 | []=>by
  show List.lookup g [(f,v)]=_
  by_cases h:g=f
  ·have hb:(g == f)=true:=SY.mpr h
   simp only [List.lookup,hb,if_pos h]
  ·have hb:(g == f)=false:=Sb.mpr h
   simp only [List.lookup,hb,if_neg h]
 |(k,x) :: r=>by
  have ih:=sR f g v r
  rw [show cz f v ((k,x) :: r) =(if k=f then(k,v) :: r else(k,x) :: cz f v r) from rfl]
  by_cases hk:k=f
  ·rw [if_pos hk]
   by_cases h:g=k
   ·have hb:(g == k)=true:=SY.mpr h
    simp only [List.lookup,hb,if_pos (h.trans hk)]
   ·have hb:(g == k)=false:=Sb.mpr h
    simp only [List.lookup,hb,if_neg (λ e:g=f=>h (e.trans hk.symm))]
  ·rw [if_neg hk]
   by_cases h:g=k
   ·have hb:(g == k)=true:=SY.mpr h
    simp only [List.lookup,hb,if_neg (λ e:g=f=>hk (h.symm.trans e))]
   ·have hb:(g == k)=false:=Sb.mpr h
    simp only [List.lookup,hb]
    exact ih
theorem qR (f:Str) (v:V):∀ fs:List (Str × V),f ∈(cz f v fs).map (·.1) /\ ∀ g,g ∈ fs.map (·.1)->g ∈(cz f v fs).map (·.1)
 | []=>⟨by simp [cz],λ g h=>by simp at h⟩
 |(k,x) :: r=>by
  obtain⟨i1,i2⟩:=qR f v r
  rw [show cz f v ((k,x) :: r) =(if k=f then(k,v) :: r else(k,x) :: cz f v r) from rfl]
  by_cases hk:k=f
  ·rw [if_pos hk]
   subst hk
   exact⟨by simp,λ g h=>by simpa using h⟩
  ·rw [if_neg hk]
   refine⟨?_,λ g h=>?_⟩
   ·rw [Rk]
    exact Rg _ i1
   ·rw [Rk] at h ⊢
    rcases Rh.mp h with e | e
    ·exact Rh.mpr (.inl e)
    ·exact Rg _ (i2 g e)
theorem sY (f:Str) (v:V):∀ fs:List (Str × V),(cz f v fs).length ≤ fs.length + 1
 | []=>by simp [cz]
 |(k,x) :: r=>by
  have ih:=sY f v r
  rw [show cz f v ((k,x) :: r) =(if k=f then(k,v) :: r else(k,x) :: cz f v r) from rfl]
  by_cases hk:k=f
  ·rw [if_pos hk,RV,RV];omega
  ·rw [if_neg hk,RV,RV];omega
theorem fj.some_of {v:V} {o:Option Value} (r:fj (some v) o):∃ u,o=some u /\ RelV v u:=by
 cases o with
 | none=>exact(show False from r).elim
 | some u=>exact⟨u,rfl,r⟩
theorem fj.none_of {o:Option Value} (r:fj none o):o=none:=by
 cases o with
 | none=>rfl
 | some u=>exact(show False from r).elim
theorem wO {v:V} {u:Value} (r:RelV v u):handedIn u=true:=by
 cases v with
 | non=>cases (show u=Value.none from r);rfl
 | bl b=>cases (show u=Value.bool b from r);rfl
 | int i=>obtain⟨t,e⟩:=(show ∃ t,u=Value.int i t from r);cases e;rfl
 | str x=>obtain⟨t,e⟩:=(show ∃ t,u=Value.str x t from r);cases e;rfl
 | byt b=>obtain⟨t,e⟩:=(show ∃ t,u=Value.bytes b t from r);cases e;rfl
 | flt b=>obtain⟨t,e⟩:=(show ∃ t,u=Value.float b t from r);cases e;rfl
 | ref a=>cases (show u=Value.ref a from r);rfl
 | ty n=>cases (show u=Value.type n from r);rfl
section
variable {P:Program} {w:World} {H H':Hp} {h h':Heap} {a C dx:Addr} {fs fs':List (Str × V)}
theorem rL (hok:HOk P w H h) (e:H a=some (.ins C dx fs)):∃ mA,uA h a dx C mA /\(∀ f,fj (fs.lookup f) (mA f)) /\ PySem.Within mA (fs.map (·.1)) /\ fs.length ≤ 1000 /\ H dx=some (.own a):=by
 obtain⟨d,z,ne,ob,mA,n,r,q⟩:=(show bB P w H h a (.ins C dx fs) from hok a _ e)
 exact⟨mA,⟨ob,n,ne⟩,r,q,z,d⟩
end
structure Cls (K:Frag) (C:Addr):Prop where
 pg:plainGet K C Str.empty=true
 hd:hasDictIn K C=true
 po:plainOver K C=true
 sa:findIn K (.ref C) "__setattr__" = some (some (.builtin "object.__setattr__"))
theorem Cls.get {K:Frag} {C:Addr} (c:Cls K C) (f:Str):plainGet K C f=true:=c.pg
def bD (K:Frag) (C:Addr) (f:Str):Prop:=findIn K (.ref C) f=some none
theorem bD.GH {K:Frag} {C:Addr} {f:Str} (n:bD K C f):takerIn K C f=some none:=by
 unfold takerIn
 rw [show findIn K (.ref C) f=some none from n]
 rfl
structure Meth (K:Frag) (C:Addr) (m:Str) (f:Addr):Prop where
 at_:findIn K (.ref C) m=some (some (.ref f))
 fn:isFn K (.ref f)=true
 kp:keepIn K (.ref f)=true
section
variable {X:Cx} {pins:List (Addr × Obj)} {σ:St} {H:Hp} {s:Shared} {a C dx:Addr} {fs:List (Str × V)} {f:Str} {v:V} {A:Around} {E:Value->Shared->Prop}
theorem AX {b:Bool} {Q:Value->Shared->Prop} (I:Inv X pins σ H s) (e:H a=some (.ins C dx fs)) (c:Cls X.K C) (n:bD X.K C f) (l:fs.lookup f=some v)
  (h:∀ u s',Inv X pins σ H s'->RelV v u->Q u s'):wpAny (model X.prog X.w) A (getAttr (.ref a) f b) Q E s:=by
 obtain⟨mA,O,r,_,_,_⟩:=rL I.hok e
 obtain⟨u,hu,ru⟩:=fj.some_of (v:=v) (o:=mA f) (by rw [← l];exact r f)
 exact get_map I.kIn O (c.get f) c.hd n hu (wO ru) (h u _ (I.tok _) ru)
theorem vj {m:Str} {g:Addr} {pl:Sem Bool} {Q:Value × List Value->Shared->Prop} (I:Inv X pins σ H s) (e:H a=some (.ins C dx fs)) (c:Cls X.K C) (k:Meth X.K C m g) (l:fs.lookup m=none)
  (h:Q (.ref g,[.ref a]) s):wpAny (model X.prog X.w) A (getMethod (.ref a) m pl) Q E s:=by
 obtain⟨mA,O,r,_,_,_⟩:=rL I.hok e
 have hn:mA m=none:=fj.none_of (by rw [← l];exact r m)
 exact D7 I.kIn O (c.get m) k.at_ k.fn hn h
theorem Bw {y:V} {u:Value} {Q:Unit->Shared->Prop} (I:Inv X pins σ H s) (e:H a=some (.ins C dx fs)) (c:Cls X.K C) (n:bD X.K C f) (hl:fs.length < 1000) (ry:RelV y u)
  (h:∀ s',Inv X pins σ (upd H a (.ins C dx (cz f y fs))) s'->Q () s'):wpAny (model X.prog X.w) A (setAttr (.ref a) f u) Q E s:=by
 obtain⟨mA,O,r,wi,_,ho⟩:=rL I.hok e
 have hz:(fs.map (·.1)).length ≤ sizeLine:=by rw [QG,U7];omega
 refine EK I.kIn O c.sa c.po n.GH c.hd wi hz λ h' O' sb=>h _ ?_
 have hd:∃ o,h'.get? dx=some o:=let ⟨o,_,_,e',_⟩:=O'.ns;⟨o,e'⟩
 refine I.write (x:=a) (e:=dx) (by rw [e];exact True.intro) (.inr ho) (λ b q hb z=>(sb.2 b hb).trans z) hd ?_
 refine⟨by rw [af O.ne];exact ho,?_,O.ne,O'.obj,_,O'.ns,λ g=>?_,λ g hg=>?_⟩
 ·have:=sY f y fs;omega
 ·show fj ((cz f y fs).lookup g) (if g=f then some u else mA g)
  rw [sR]
  by_cases q:g=f
  ·rw [if_pos q,if_pos q];exact ry
  ·rw [if_neg q,if_neg q];exact r g
 ·by_cases q:g=f
  ·rw [q];exact(qR f y fs).1
  ·refine(qR f y fs).2 g (wi g λ z=>hg ?_)
   show(if g=f then some u else mA g)=none
   rw [if_neg q];exact z
theorem Inv.made (I:Inv X pins σ H s):Inv X pins σ (upd (upd H s.heap.objs.size (.own (s.heap.objs.size + 1))) (s.heap.objs.size + 1) (.ins C s.heap.objs.size []))
  {s with heap:=(s.heap.push emptyDict).push (instObj C s.heap.objs.size) }:=by
 have e1:(s.heap.push emptyDict).get? s.heap.objs.size=some emptyDict:=QU s.heap rfl
 have e2:((s.heap.push emptyDict).push (instObj C s.heap.objs.size)).get? (s.heap.objs.size + 1)=some (instObj C s.heap.objs.size):=by
  have:=QU (s.heap.push emptyDict) (o:=instObj C s.heap.objs.size) rfl
  rwa [Sy] at this
 have e3:(s.heap.push emptyDict).Ns s.heap.objs.size (λ _=>none):=⟨emptyDict,#[],_,e1,rfl,(λ e he=>absurd he (by simp)),λ _=>rfl⟩
 have I1:=I.laid (a:=s.heap.objs.size) (o:=.own (s.heap.objs.size + 1)) (h':=s.heap.push emptyDict) (t':=s.toks) (λ b u q=>QD _ q) (QH _) ⟨_,e1⟩
 refine I1.laid (a:=s.heap.objs.size + 1) (o:=.ins C s.heap.objs.size []) (t':=s.toks) (λ b u q=>QD _ q) (UL (Sy _ _)) ?_
 have ne:s.heap.objs.size ≠ s.heap.objs.size + 1:=QN (Sh _)
 refine⟨by rw [af ne,ak],Rm _,ne,e2,λ _=>none,(Heap.Ns1.of_empty e3).at λ o q=>QD _ q,λ _=>True.intro,λ y hy=>absurd rfl hy⟩
theorem AD {prog:Program} {w:World} {env:Env} {e:Expr} {f:Str} {pos:Pos} {s:Shared} {Q:Value->Shared->Prop} (hb:attributeBase e f env (eval e env)=eval e env)
  (h:wpAny (model prog w) A (eval e env) (λ o s₁=>wpAny (model prog w) A (getAttr o f true) Q E s₁) E s):wpAny (model prog w) A (eval (.Attribute e f pos) env) Q E s :=
 Attribute_any_ h (by rw [arm_eval_Attribute,hb])
end
def NP (K:Frag) (ta:TE) (f:Str):TE:=λ σ H Q=>ta σ H λ x H1=>∃ a C dx fs v,x = .ref a /\ H1 a=some (.ins C dx fs) /\ Cls K C /\ bD K C f /\ fs.lookup f=some v /\ Q v H1
def Oq (K:Frag) (ta tv:TE) (f:Str):TS:=λ D σ H=>tv σ H λ y H1=>ta σ H1 λ x H2=>∃ a C dx fs,x = .ref a /\ H2 a=some (.ins C dx fs) /\ Cls K C /\ bD K C f /\ fs.length < 1000 ∧
 D.nx σ (upd H2 a (.ins C dx (cz f y fs)))
section
variable {X:Cx} {o e value:Expr} {f:Str} {pos pos' tpos:Pos} {ta tv:TE}
theorem bq (he:PE X e ta) (hb:attributeBase e f X.env (eval e X.env)=eval e X.env):PE X (.Attribute e f pos) (NP X.K ta f):=by
 intro pins s σ H Q I h
 refine AD hb (thn (he pins s σ H _ I h) λ u s1 ⟨x,H1,I1,rx,a,C,dx,fs,v,ex,ea,c,n,l,q⟩=>?_)
 subst ex
 obtain rfl:u=Value.ref a:=rx
 exact AX I1 ea c n l λ u' s2 I2 ru=>⟨v,H1,I2,ru,q⟩
theorem jy (ha:PE X o ta) (hv:PE X value tv) (hs:swapsWith value (some (.Attribute o f pos')) pos.line X.env=pure false):PS X (.Assign [.Attribute o f pos'] value pos) (Oq X.K ta tv f):=by
 intro pins s σ H D I h
 refine Ua (thn (hv pins s σ H _ I h) λ u s1 ⟨y,H1,I1,ry,q⟩=>thn (ha pins s1 σ H1 _ I1 q) λ ov s2 ⟨x,H2,I2,rx,a,C,dx,fs,ex,ea,c,n,l,q2⟩=>?_) hs
 subst ex
 obtain rfl:ov=Value.ref a:=rx
 exact Bw I2 ea c n l ry λ s3 I3=>⟨σ,_,I3,q2⟩
end
section
variable {X:Cx} {pins:List (Addr × Obj)} {σ:St} {H:Hp} {s:Shared} {A:Around} {E:Value->Shared->Prop} {Q:Value->Shared->Prop} {c:Value} {b:Bool}
inductive jR (K:Frag) (H:Hp):V->Value->Prop where
 | non:jR K H .non (.type "NoneType")
 | bl (x:Bool):jR K H (.bl x) (.type "bool")
 | int (i:Int):jR K H (.int i) (.type "int")
 | str (x:Str):jR K H (.str x) (.type "str")
 | flt (x:UInt64):jR K H (.flt x) (.type "float")
 | lst {a:Addr} {xs:List V} (e:H a=some (.lst xs)):jR K H (.ref a) (.type "list")
 | frz {a:Addr} {o:Obj} {xs:List V} (e:H a=some (.frz o (.lst xs))):jR K H (.ref a) (.type "list")
 | tup {a:Addr} {xs:List V} (e:H a=some (.tup xs)):jR K H (.ref a) (.type "tuple")
 | dK {a:Addr} {kvs:List (Key × V)} (e:H a=some (.dK kvs)):jR K H (.ref a) (.type "dict")
 | dT {a:Addr} {kvs:List (List Key × V)} (e:H a=some (.dT kvs)):jR K H (.ref a) (.type "dict")
 | ins {a C dx:Addr} {fs:List (Str × V)} (e:H a=some (.ins C dx fs)) (cl:Cls K C) (ha:findIn K (.ref C) "__class__" = some (some (.builtin "object.__class__")))
   (hn:specialIn K (.builtin "object.__class__") "__get__" = some (some (.builtin "getset_descriptor.__get__"))) (htk:takesIn K (.builtin "object.__class__")=some true)
   (hm:mroIn K C (.type "object")=some true):jR K H (.ref a) (.ref C)
theorem BL {x:V} {u t:Value} (I:Inv X pins σ H s) (rx:RelV x u) (ty:jR X.K H x t) (e:kitOne X.K t c=some b) (h:∀ tk,Q (.bool b) { s with toks:=tk }) :
  wpAny (model X.prog X.w) A (call (.builtin "isinstance") [u,c]) Q E s:=by
 cases ty with
 | non=>cases (show u=Value.none from rx);exact RQ PySem.W.kitx_none I.kIn True.intro e (λ z=>nomatch z) h
 | bl y=>cases (show u=Value.bool y from rx);exact RQ PySem.W.kitx_bool I.kIn True.intro e (λ z=>nomatch z) h
 | int i=>obtain⟨t,q⟩:=(show ∃ t,u=Value.int i t from rx);cases q;exact RQ PySem.W.kitx_int I.kIn True.intro e (λ z=>nomatch z) h
 | str y=>obtain⟨t,q⟩:=(show ∃ t,u=Value.str y t from rx);cases q;exact RQ PySem.W.kitx_str I.kIn True.intro e (λ z=>nomatch z) h
 | flt y=>obtain⟨t,q⟩:=(show ∃ t,u=Value.float y t from rx);cases q;exact RQ PySem.W.kitx_float I.kIn True.intro e (λ z=>nomatch z) h
 | @lst a xs ea =>
  cases (show u=Value.ref a from rx)
  obtain⟨_,_,n,_,h1⟩:=(show bB X.prog X.w H s.heap a (.lst xs) from I.hok a _ ea)
  exact RQ V6 I.kIn ⟨_,h1,rfl⟩ e (λ z=>nomatch z) h
 | @frz a ob xs ea =>
  cases (show u=Value.ref a from rx)
  obtain⟨_,_,_,n,_,h1⟩:=(show bB X.prog X.w H s.heap a (.frz ob (.lst xs)) from I.hok a _ ea)
  exact RQ V6 I.kIn ⟨_,h1,rfl⟩ e (λ z=>nomatch z) h
 | @tup a xs ea =>
  cases (show u=Value.ref a from rx)
  obtain⟨_,_,_,p⟩:=(show bB X.prog X.w H s.heap a (.tup xs) from I.hok a _ ea)
  obtain⟨o,h1,h2,_⟩:=p
  exact RQ PySem.W.kitx_tuple I.kIn ⟨o,h1,h2⟩ e (λ z=>nomatch z) h
 | @dK a kvs ea =>
  cases (show u=Value.ref a from rx)
  obtain⟨_,_,vs,_,p⟩:=(show bB X.prog X.w H s.heap a (.dK kvs) from I.hok a _ ea)
  obtain⟨o,es,ep,h1,h2,_⟩:=p
  exact RQ V7 I.kIn ⟨o,h1,h2.1⟩ e (λ z=>nomatch z) h
 | @dT a kvs ea =>
  cases (show u=Value.ref a from rx)
  obtain⟨_,_,xs,_,o,es,ep,h1,h2,_⟩:=(show bB X.prog X.w H s.heap a (.dT kvs) from I.hok a _ ea)
  exact RQ V7 I.kIn ⟨o,h1,h2.1⟩ e (λ z=>nomatch z) h
 | @ins a C dx fs ea cl ha hn htk hm =>
  cases (show u=Value.ref a from rx)
  obtain⟨mA,O,_⟩:=rL I.hok ea
  obtain⟨od,J,_⟩:=O.look
  exact RQ (PySem.W.kitx_own (cl.get _) cl.hd ha hn htk hm) I.kIn J e (λ z=>nomatch z) h
end
structure bU (k:Nat) (A:Around):Prop where
 hd:A.handled=none
 dp:A.depth + 3 * k + 5 < recursionLimit
 un:A.units + 16 * k + 200 < cLine
theorem bU.mono {j k:Nat} {A:Around} (r:bU k A) (h:j ≤ k):bU j A:=⟨r.hd,by have:=r.dp;omega,by have:=r.un;omega⟩
theorem bU.deeper {k:Nat} {A:Around} (r:bU (k + 1) A) (env:Env):bU k (A.deeper env) :=
 ⟨r.hd,by have:=r.dp;show A.depth + 1 + 3 * k + 5 < _;omega,by have:=r.un;show A.units + 3 + 16 * k + 200 < _;omega⟩
theorem AR {A:Around} {C:Addr} {us:List Value} {kw:List (Str × Value)}:(A.under (.builtin "type.__call__" ⟨.ref C :: us,kw⟩)).depth=A.depth + 1:=by
 first | rfl | simp [Around.under,Code.weight,Code.isCreation,Code.isGuard,Code.isCaller,Code.frames,Code.isFrame,guardIds]
theorem AN {A:Around} {C:Addr} {us:List Value} {kw:List (Str × Value)}:(A.under (.builtin "type.__call__" ⟨.ref C :: us,kw⟩)).units=A.units + 1:=by
 first | rfl | simp [Around.under,Code.cUnits,Code.frames,Code.isFrame]
theorem bU.make {k:Nat} {A:Around} (r:bU (k + 1) A) (C:Addr) (us:List Value) (kw:List (Str × Value)):bU k (A.under (.builtin "type.__call__" ⟨.ref C :: us,kw⟩)) :=
 ⟨r.hd,by have:=r.dp;rw [AR];omega,by have:=r.un;rw [AN];omega⟩
theorem bU.depth {k:Nat} {A:Around} (r:bU k A):A.depth < recursionLimit:=by have:=r.dp;omega
theorem bU.units {k:Nat} {A:Around} (r:bU k A):A.units + 64 < cLine:=by have:=r.un;omega
def DL:TA:=λ _ H Q=>Q [] H
def Ho (ta:TE) (tr:TA):TA:=λ σ H Q=>ta σ H λ x H1=>tr σ H1 λ xs H2=>Q (x :: xs) H2
section
variable {X:Cx} {e:Expr} {es:List Expr} {te:TE} {t:TA} {pos:Pos}
theorem aC:PA X [] DL:=λ _ _ _ _ H Q I h=>RN ⟨[],H,I,.nil,h⟩
theorem aa (ha:PE X e te) (hr:PA X es t) (hs:starEach (e :: es) X.env =(false,eval e X.env) :: starEach es X.env:=by rfl):PA X (e :: es) (Ho te t):=by
 intro pos pins s σ H Q I h
 rw [hs]
 show wpAny _ _ (spliced ((false,eval e X.env) :: backTo pos (starEach es X.env))) _ _ s
 refine RE (thn (ha pins s σ H _ I h) λ u s1 ⟨x,H1,I1,r1,q1⟩=>?_)
 exact thn (hr pos pins s1 σ H1 _ I1 q1) λ us s2 ⟨xs,H2,I2,r2,q2⟩=>⟨x :: xs,H2,I2,.cons r1 r2,q2⟩
def Ib (t:TA):TE:=λ σ H Q=>t σ H λ xs H1=>xs.length ≤ sizeLine /\ ∀ p,H1 p=none->Q (.ref p) (upd H1 p (.tup xs))
def La (t:TA):TE:=λ σ H Q=>t σ H λ xs H1=>xs.length ≤ sizeLine /\ ∀ p,H1 p=none->Q (.ref p) (upd H1 p (.lst xs))
theorem dZ {x1} (h:PA X es t):PE X (.Tuple es x1 pos) (Ib t):=by
 intro pins s σ H Q I hq
 refine wpAny_Tuple_spliced (thn (h pos pins s σ H _ I hq) λ us s1 ⟨xs,H1,I1,r,z,q⟩=>⟨by rw [← r.length];exact z,?_⟩)
 have hf:H1 s1.heap.objs.size=none:=I1.hok.fresh (QH _)
 refine⟨.ref s1.heap.objs.size,upd H1 s1.heap.objs.size (.tup xs),I1.laid (t':=s1.toks) (λ b u e=>QD _ e) (QH _) ?_,rfl,q _ hf⟩
 exact⟨z,us,r,⟨_,QU _ rfl,rfl,_,rfl⟩⟩
theorem dN (h:PA X es t):PE X (.List es pos) (La t):=by
 intro pins s σ H Q I hq
 refine wpAny_List_spliced (thn (h pos pins s σ H _ I hq) λ us s1 ⟨xs,H1,I1,r,z,q⟩=>⟨by rw [← r.length];exact z,?_⟩)
 have hf:H1 s1.heap.objs.size=none:=I1.hok.fresh (QH _)
 refine⟨.ref s1.heap.objs.size,upd H1 s1.heap.objs.size (.lst xs),I1.laid (t':=s1.toks) (λ b u e=>QD _ e) (QH _) ?_,rfl,q _ hf⟩
 exact⟨z,us,0,r,QU _ rfl⟩
end
abbrev Sp:=List V->Hp->VK->XK->Prop
abbrev CXT:=List Env->Hp->Shared->XK->Value->Shared->Prop
structure jL (P:Program) (w:World) (K:Frag) (mg:Str->Option Value) (base:Heap) (A:Around) (outer:List Env) (s:Shared) (H:Hp):Prop where
 frames:A.frames=some outer
 mod:Mod K mg base
 bs:∀ b o,base.get? b=some o->s.heap.get? b=some o /\ H b=none
 bsz:base.objs.size ≤ s.heap.objs.size
 iE:s.heap.FunFrames base outer
 frf:∀ b ∈ frs outer,H b=none
 hok:HOk P w H s.heap
 bare:AllBare s.gens
def CE (outer:List Env) (P:Program) (w:World) (H:Hp) (s:Shared) (Q:VK) (u:Value) (s':Shared):Prop :=
 ∃ v H',s'.os=s.os /\ AllBare s'.gens /\ Un (frs outer) [] H H' s.heap s'.heap /\ HOk P w H' s'.heap /\ RelV v u /\ Q v H'
def CR (CX:CXT) (outer:List Env) (P:Program) (w:World) (H:Hp) (s:Shared) (Q:VK) (E:XK) (r:Result) (s':Shared):Prop :=
 match r with
 | .ok (.ret u)=>CE outer P w H s Q u s'
 | .ok _=>False
 | .error e=>CX outer H s E e s'
structure aX (P:Program) (w:World) (K:Frag) (mg:Str->Option Value) (base:Heap) (CX:CXT) (k:Nat) (f:Addr) (fd:FuncData) (ps:List Str) (sp:Sp):Prop where
 len:∀ vs H Q E,sp vs H Q E->vs.length=ps.length
 run:∀(A:Around) (outer:List Env) (s:Shared) (H:Hp) (args:Args) (us:List Value) (vs:List V) (Q:VK) (E:XK),bU k A->jL P w K mg base A outer s H->BindsTo s fd args (ps.zip us)->Vals vs us->sp vs H Q E →
  codeAny (model P w) A (.call (.ref f) args) (CR CX outer P w H s Q E) s
theorem jL.make {P:Program} {w:World} {K:Frag} {mg:Str->Option Value} {base:Heap} {A:Around} {outer:List Env} {s:Shared} {H:Hp} (e:jL P w K mg base A outer s H) (C:Addr) (us:List Value) (kw:List (Str × Value)) :
  jL P w K mg base (A.under (.builtin "type.__call__" ⟨.ref C :: us,kw⟩)) outer s H:=⟨by first | exact e.frames |(simpa [Around.under,Code.envs,Code.isFrame,pushEnvs] using e.frames),e.mod,e.bs,e.bsz,e.iE,e.frf,e.hok,e.bare⟩
section
variable {X:Cx} {pins:List (Addr × Obj)} {σ:St} {H:Hp} {s s':Shared}
theorem Inv.yi (I:Inv X pins σ H s):jL X.prog X.w X.K X.mg X.base X.A X.stack s H :=
 ⟨I.ok.frames,I.ok.mod,I.bs,Rp I.ok.bsz I.sz,I.stack,I.wu,I.hok,I.bare⟩
theorem Inv.after {Q:VK} {u:Value} (I:Inv X pins σ H s) (h:CE X.stack X.prog X.w H s Q u s'):EP X pins σ Q u s':=by
 obtain⟨v,H',os,bare,un,hok,r,q⟩:=h
 obtain⟨hh,g,d,t,os'⟩:=s'
 obtain rfl:os'=s.os:=os
 exact⟨v,H',I.call (h':=hh) (g':=g) (d':=d) (t':=t) (ch:=[]) un hok bare (λ b z=>absurd z (by simp)),r,q⟩
end
def Binds (K:Frag) (fd:FuncData) (ps:List Str) (ds:List Value):Prop :=
 ∀(s:Shared) (us:List Value),K.In s.heap->(us ++ ds).length=ps.length->BindsTo s fd ⟨us,[]⟩ (ps.zip (us ++ ds))
theorem Binds.all {K:Frag} {fd:FuncData} {ps:List Str} (h:∀ us:List Value,us.length=ps.length->bindArgs fd ⟨us,[]⟩=pure (ps.zip us)):Binds K fd ps []:=λ s us _ hl=>by
 rw [RT] at hl ⊢
 exact .of_eq (h us hl)
section
variable {X:Cx} {CX:CXT} {k:Nat} {f C:Addr} {fd:FuncData} {ps:List Str} {sp:Sp} {dvs:List V} {ds:List Value} {E:XK} {x m:Str} {p pos apos:Pos} {e o:Expr} {es:List Expr} {ta:TE} {t:TA}
structure Mk (K:Frag) (C f:Addr):Prop where
 makes:makesIn K C=true
 init:findIn K (.ref C) "__init__" = some (some (.ref f))
 fn:isFn K (.ref f)=true
 kp:keepIn K (.ref C)=true
end
structure aP (N P:List Str) (sc:Scope):Prop where
 kind:sc.kind = .function
 co:sc.isCoroutine=false
 gen:sc.isGenerator=false
 nd:N.Nodup
 pre:N.take P.length=P
 par:∀ x ∈ P,sc.names.lookup x = some .local ∨ sc.names.lookup x = some .cell
 FJ:∀ y ∈ sc.names,y.2 ≠ .free
theorem xg {kindOf:Str->Option NameKind} {x:Str}:∀ {binds:List (Str × Value)} {m:Str->Option Value},(∀ v,(x,v) ∉ binds)->bindL kindOf binds m x=m x
 | [],_,_=>rfl
 |(n,v) :: r,m,h=>by
  unfold bindL
  rw [xg λ w hw=>h w (Rg _ hw)]
  split
  ·have:x ≠ n:=by rintro rfl;exact h v RU
   simp [this]
  ·rfl
theorem wK {kindOf:Str->Option NameKind} {x:Str}:∀ {binds:List (Str × Value)} {m:Str->Option Value},(∀ v,(x,v) ∉ binds)->bindC kindOf binds m x=m x
 | [],_,_=>rfl
 |(n,v) :: r,m,h=>by
  unfold bindC
  rw [wK λ w hw=>h w (Rg _ hw)]
  split
  ·rfl
  ·have:x ≠ n:=by rintro rfl;exact h v RU
   simp [this]
theorem xm {kindOf:Str->Option NameKind} {x:Str} {v:Value}:∀ {P:List Str} {vs:List Value} {i:Nat} {m:Str->Option Value},P.Nodup->P[i]? = some x->vs[i]? = some v->kindOf x = some .local →
  bindL kindOf (P.zip vs) m x=some v
 | [],_,_,_,_,h,_,_=>by simp at h
 | _ :: _,[],_,_,_,_,h,_=>by simp at h
 | p :: P,w :: vs,0,m,nd,h1,h2,hk=>by
  simp at h1 h2;subst h1;subst h2
  show bindL kindOf ((p,w) :: P.zip vs) m p=_
  unfold bindL
  rw [xg λ v hv=>(Rz.mp nd).1 (U4 hv).1,if_pos hk]
  simp
 | p :: P,w :: vs,i + 1,m,nd,h1,h2,hk=>by
  show bindL kindOf ((p,w) :: P.zip vs) m x=_
  unfold bindL
  exact xm (i:=i) (Rz.mp nd).2 (by simpa using h1) (by simpa using h2) hk
theorem mK {kindOf:Str->Option NameKind} {x:Str} {v:Value}:∀ {P:List Str} {vs:List Value} {i:Nat} {m:Str->Option Value},P.Nodup->P[i]? = some x->vs[i]? = some v->kindOf x ≠ some .local →
  bindC kindOf (P.zip vs) m x=some v
 | [],_,_,_,_,h,_,_=>by simp at h
 | _ :: _,[],_,_,_,_,h,_=>by simp at h
 | p :: P,w :: vs,0,m,nd,h1,h2,hk=>by
  simp at h1 h2;subst h1;subst h2
  show bindC kindOf ((p,w) :: P.zip vs) m p=_
  unfold bindC
  rw [wK λ v hv=>(Rz.mp nd).1 (U4 hv).1,if_neg hk]
  simp
 | p :: P,w :: vs,i + 1,m,nd,h1,h2,hk=>by
  show bindC kindOf ((p,w) :: P.zip vs) m x=_
  unfold bindC
  exact mK (i:=i) (Rz.mp nd).2 (by simpa using h1) (by simpa using h2) hk
def start (N:List Str) (vs:List V):St:=vs.map some ++ List.replicate (N.length - vs.length) none
def nK (CX:CXT) (P:Program) (w:World) (K:Frag) (mg:Str->Option Value) (base:Heap) (N:List Str) (qual:Str) (scope:Scope) (f:Addr) (cd:Value) (A:Around) (outer:List Env) (s:Shared) (H:Hp) (E:XK):Cx where
 prog:=P
 w:=w
 K:=K
 mg:=mg
 base:=base
 A:=A.deeper (envOfC qual scope s.heap.objs.size f cd)
 N:=N
 s₀:=s
 H₀:=H
 env:=envOfC qual scope s.heap.objs.size f cd
 outer:=outer
 stack:=envOfC qual scope s.heap.objs.size f cd :: outer
 ex:=[]
 calm:=true
 fn:=λ _=>true
 pn:=[]
 xe:=λ e s'=>wpAny (model P w) (A.deeper (envOfC qual scope s.heap.objs.size f cd)) (leaving (envOfC qual scope s.heap.objs.size f cd) e) (λ _ s''=>CX outer H s E e s'') (λ e' s''=>CX outer H s E e' s'') s'
theorem zE {sc:Scope} {n:Nat} {x:Str} (h:sc.names.lookup x=some .cell):∃ c,(cellsFrom n sc.names []).lookup x=some c:=by
 have q:=U8 sc.names n [] (.inl h)
 exact R4.mp q
theorem Cf {CX:CXT} {P:Program} {w:World} {K:Frag} {mg:Str->Option Value} {base:Heap} {N ps:List Str} {qual:Str} {scope:Scope} {f:Addr} {cd:Value} {A:Around} {outer:List Env} {s s1:Shared} {H:Hp} {E:XK} {us:List Value} {vs:List V}
  (S:aP N ps scope) (hd:A.handled=none) (e0:jL P w K mg base A outer s H) (hl:vs.length=ps.length) (r:Vals vs us)
  (x:InCallC s s.heap.objs.size (bindL (envOfC qual scope s.heap.objs.size f cd).kindOf (ps.zip us) λ _=>none) (cellsFrom (s.heap.objs.size + 1) scope.names []) (bindC (envOfC qual scope s.heap.objs.size f cd).kindOf (ps.zip us) λ _=>none) s1) :
  Inv (nK CX P w K mg base N qual scope f cd A outer s H E) [] (start N vs) H s1:=by
 have hpl:ps.length ≤ N.length:=by have:=congrArg List.length S.pre;rw [Ri] at this;omega
 obtain⟨h1,tk,rfl,hk⟩:=x.done
 have noA:∀ b:Addr,b ∉(nK CX P w K mg base N qual scope f cd A outer s H E).ex:=λ b z=>absurd (show b ∈([]:List Addr) from z) (by simp)
 refine⟨⟨e0.mod,S.kind,rfl,rfl,QH _,λ y z c h1 h2=>?_,λ y hy=>?_,λ y c _ h=>?_,λ _=>hd,Around.frames_deeper e0.frames,.inr ⟨rfl,rfl⟩,λ b z=>absurd z (noA b),e0.bs,e0.bsz,λ b _ _=>noA b,λ b z=>absurd z (noA b),e0.iE,e0.frf⟩,
  rfl,e0.bare,Un.kept hk,⟨_,x.toInCall.ns,λ i y v h1 h2 h3=>?_⟩,λ y c h=>⟨_,x.cell y c h⟩,e0.hok.fresh (QH _),λ y c h=>?_,λ p hp=>absurd (show p ∈([]:List (Addr × Obj)) from hp) (by simp),e0.hok.kept hk,?_⟩
 ·exact name_of_addr x.apart (Sd h1) (Sd h2)
 ·have hy:scope.names.lookup y=some .cell ∨ scope.names.lookup y=some .free:=hy
  rcases hy with hy | hy
  ·exact zE hy
  ·exact absurd rfl (S.FJ _ (Sd hy))
 ·exact RM (x.above y c (Sd h))
 ·have hi:i < vs.length:=by
   unfold start at h2
   by_cases hi:i < vs.length
   ·exact hi
   ·rw [Rb (by simpa using hi)] at h2
    rw [UW] at h2
    split at h2 <;> cases h2
  have ha:vs[i]? = some v:=by
   unfold start at h2
   rw [QW (by simpa using hi),QK] at h2
   cases e:vs[i]? with
   | none=>rw [e] at h2;cases h2
   | some a=>rw [e] at h2;cases h2;rfl
  obtain⟨u,hu,rv⟩:=r.get ha
  have hp:ps[i]? = some y:=by
   rw [← S.pre,List.getElem?_take_of_lt (by omega)];exact h1
  have ndP:ps.Nodup:=by rw [← S.pre];exact S.nd.sublist (List.take_sublist _ _)
  refine⟨u,rv,?_⟩
  rcases S.par y (QJ hp) with k | k
  ·exact .inl ⟨k,xm ndP hp hu k⟩
  ·obtain⟨c,e⟩:=zE (n:=s.heap.objs.size + 1) k
   refine .inr ⟨.inl k,c,e,?_⟩
   have q:=x.cell y c e
   rw [mK ndP hp hu (by show scope.names.lookup y ≠ _;rw [k];decide)] at q
   exact q
 ·exact e0.hok.fresh (RM (x.above y c (Sd h)))
 ·unfold start
  show _=N.length
  rw [Rj,QG,RZ]
  omega
theorem Ec {CX:CXT} {P:Program} {w:World} {K:Frag} {mg:Str->Option Value} {base:Heap} {k:Nat} {f:Addr} {name qual:Str} {params:Arguments} {body:List Stmt} {scope:Scope} {dV kV doc pm cdv ct oc:Value} {an od:Option Addr}
  {osl:Array (Option Value)} {N ps:List Str} {sp:Sp} (lk:K.lookup f=some ⟨oc,od,.func (fnOf name qual params body scope dV kV doc pm an cdv ct),osl⟩) (hcd:codeIn K cdv qual=true) (S:aP N ps scope)
  (len:∀ vs H Q E,sp vs H Q E->vs.length=ps.length)
  (hbody:∀(A:Around) (outer:List Env) (s:Shared) (H:Hp) (vs:List V) (Q:VK) (E:XK),bU k (A.deeper (envOfC qual scope s.heap.objs.size f cdv))->sp vs H Q E →
   ∃ t,PSs (nK CX P w K mg base N qual scope f cdv A outer s H E) body t /\ t { nx:=λ _ H'=>Q .non H',rt:=Q } (start N vs) H) :
  aX P w K mg base CX (k + 1) f (fnOf name qual params body scope dV kV doc pm an cdv ct) ps sp:=by
 refine⟨len,λ A outer s H args us vs Q E hr e0 hb r hsp=>?_⟩
 have hl:=len _ _ _ _ hsp
 have KX:K.In s.heap:=e0.mod.kin.keeps λ b o e=>(e0.bs b o e).1
 have lim:s.heap.NoLimit:=e0.mod.nolimit.keeps λ b o e=>(e0.bs b o e).1
 have hkind:∀ y ∈ ps.zip us,scope.names.lookup y.1 = some .local ∨ (scope.names.lookup y.1 = some .cell /\ ((cellsFrom (s.heap.objs.size + 1) scope.names []).lookup y.1).isSome = true):=fun ⟨n,v⟩ hy=>by
  rcases S.par n (U4 hy).1 with q | q
  ·exact .inl q
  ·exact .inr ⟨q,U8 _ _ _ (.inl q)⟩
 refine T6 hr.depth (KX _ _ lk) rfl S.co S.gen rfl (VM KX hcd) (hb _ _ _ _ ?_)
 refine Ux S.kind hkind λ env he s1 x=>?_
 subst he
 refine⟨lim.keeps x.toInCall.keep,VN ?_⟩
 obtain⟨t,ht,hq⟩:=hbody A outer s H vs Q E (hr.deeper _) hsp
 have I:Inv (nK CX P w K mg base N qual scope f cdv A outer s H E) [] (start N vs) H s1:=Cf S hr.hd e0 hl r x
 refine Rf (ht [] s1 (start N vs) H _ I hq) (λ fl s' hs=>?_) λ e s' hs=>hs
 have fin:∀ {σ':St} {H':Hp} {v:V} {u:Value},Inv (nK CX P w K mg base N qual scope f cdv A outer s H E) [] σ' H' s'->RelV v u->Q v H'->CE outer P w H s Q u s' :=
  λ {σ' H' v u} J rv q=>⟨v,H',J.os,J.bare,J.base,J.hok,rv,q⟩
 cases fl with
 | ret u =>
  obtain⟨v,σ',H',J,rv,q⟩:=hs
  exact fin J rv q
 | next =>
  obtain⟨σ',H',J,q⟩:=hs
  exact fin (v:=V.non) (u:=Value.none) J rfl q
 | brk =>
  obtain⟨_,_,_,q⟩:=hs
  exact False.elim q
 | cont =>
  obtain⟨_,_,_,q⟩:=hs
  exact False.elim q
section
variable {X:Cx} {x:Str} {p pos:Pos} {e:Expr} {es:List Expr} {t:TA} {id T:String} {r:List V->Hp->VK->Prop}
def tCB (r:List V->Hp->VK->Prop) (t:TA):TE:=λ σ H Q=>t σ H λ vs H1=>r vs H1 Q
theorem bL (hc:iX X (.builtin id) r) (hg:Gl X x) (hm:X.mg x=none) (hv:bootBuiltins x=some (.builtin id)) (ha:PA X (e :: es) t) (hn:x ≠ "__name__":=by decide) (hdb:(x ==("__debug__":Str))=false:=by decide)
  (he:starEach (e :: es) X.env =(false,eval e X.env) :: starEach es X.env:=by rfl) (hpl:(backTo pos (starEach es X.env)).any (·.1)=false:=by rfl):PE X (.Call (.Name x p) (e :: es) [] pos) (tCB r t):=by
 intro pins s σ H Q I h
 refine Rv (iQ I hg hm hv ?_ hn hdb)
 exact PyProof.Rows.callWith_builtin1 (thn (ha pos pins s σ H _ I h) λ us s1 ⟨vs,H1,I1,r1,q1⟩=>hc pins s1 σ H1 vs us Q I1 r1 q1) he hpl
theorem kH (hc:iX X (.type T) r) (hg:Gl X x) (hm:X.mg x=none) (hv:bootBuiltins x=some (.type T)) (ha:PA X (e :: es) t) (hn:x ≠ "__name__":=by decide) (hdb:(x ==("__debug__":Str))=false:=by decide)
  (he:starEach (e :: es) X.env =(false,eval e X.env) :: starEach es X.env:=by rfl) (hpl:(backTo pos (starEach es X.env)).any (·.1)=false:=by rfl):PE X (.Call (.Name x p) (e :: es) [] pos) (tCB r t):=by
 intro pins s σ H Q I h
 refine Rv (iQ I hg hm hv ?_ hn hdb)
 exact RD (thn (ha pos pins s σ H _ I h) λ us s1 ⟨vs,H1,I1,r1,q1⟩=>hc pins s1 σ H1 vs us Q I1 r1 q1) he hpl
end
end L2
namespace HT
open PySem PyProof.Rows
def lexLt:List Int->List Int->Bool
 | [],[]=>false
 | [],_ :: _=>true
 | _ :: _,[]=>false
 | x :: xs,y :: ys=>if x=y then lexLt xs ys else decide (x < y)
theorem cO (x y:Int) (xs ys:List Int):lexLt (x :: xs) (y :: ys)=if x=y then lexLt xs ys else decide (x < y):=rfl
theorem fD:lexLt [] []=false:=rfl
theorem iO (y:Int) (ys:List Int):lexLt [] (y :: ys)=true:=rfl
theorem jY (x:Int) (xs:List Int):lexLt (x :: xs) []=false:=rfl
theorem D5 (A:Around) (s:Shared) (a:Int) (t:Tok) (c:Int) (u:Tok):∃ e,SeqAt.EqAt A s (.int a t) (.int c u) e /\(e=true ↔ a=c) :=
 ⟨(a == c),SeqAt.EqAt.int_int a t c u,by simp⟩
theorem Dm (A:Around) (s:Shared) (a:Int) (t:Tok) (c:Int) (u:Tok) (prog:Program) (w:World) (E:Value->Shared->Prop) (Q:Value->Shared->Prop) (h:Q (.bool (decide (a < c))) s) :
  wpAny (model prog w) A (richCompare .Lt (.int a t) (.int c u)) Q E s :=
 (PyProof.Rows.lt_int h:wpAny (model prog w) A (compareOp .Lt (.int a t) (.int c u)) Q E s)
section
open PySem.SeqAt
open PySem.AutoSeq1 (wpAny_loadPart')
open PySem.MeetsSeq PySem.MeetsSeq2 PySem.MeetsSeq3
theorem xC (l b:Addr) (items items2:Array Value) (n n2:Nat) (dd dd2:Option Addr) (sl sl2:Array (Option Value)) (ns ms:List Int) (hi:IntsAre items.toList ns) (hj:IntsAre items2.toList ms) :
  Meets (Builtin.«tuple.__lt__» ⟨[.ref l,.ref b],[]⟩)
   (λ _ R s=>s.heap.get? l=some { cls:=.type "tuple",dict:=dd,data:=.seq items n,slots:=sl } /\ s.heap.get? b=some { cls:=.type "tuple",dict:=dd2,data:=.seq items2 n2,slots:=sl2 } ∧
    R (.ok (.ret (.bool (lexLt ns ms)))) s) :=
 .of_wp λ prog w A R s h=>by
  obtain⟨hp,g,d,tk,os⟩:=s;obtain⟨hl,hb,h⟩:=h
  have f2:=AutoSeq1.sub_tuple_tuple
  have z1:items.size=ns.length:=by rw [← hi.length];simp
  have z2:items2.size=ms.length:=by rw [← hj.length];simp
  wp_walk using wpAny_loadPart' hl,wpAny_loadPart' hb,wpAny_forIn_list _ (λ rest b s'=>b.1=none /\ s' =⟨hp,g,d,tk,os⟩ /\ ∃(vs ws:List Value) (ns' ms':List Int),rest=vs.zip ws ∧
   IntsAre vs ns' /\ IntsAre ws ms' /\ ns'.length + items2.size=ms'.length + items.size /\ R (.ok (.ret (.bool (lexLt ns' ms')))) ⟨hp,g,d,tk,os⟩) _
  case turn =>
   rintro⟨y,x⟩ rest b s' ⟨hb',rfl,vs,ws,ns',ms',hz,hvi,hwi,hlen,hR⟩
   cases hvi with
   | nil=>rw [List.zip_nil_left] at hz;cases hz
   | cons a t hvi' =>
    cases hwi with
    | nil=>rw [List.zip_nil_right] at hz;cases hz
    | cons c u hwi' =>
     rw [VP] at hz
     injection hz with hyx hrest
     injection hyx with hy hx
     subst hy hx
     rw [cO] at hR
     simp only [List.length_cons] at hlen
     obtain⟨e,he,hiff⟩:=D5 A.in1 ⟨hp,g,d,tk,os⟩ a t c u
     refine QB (he prog w _ _ ?_)
     cases e with
     | true =>
      rw [if_pos (hiff.mp rfl)] at hR
      wp_walk
      exact⟨rfl,rfl,_,_,_,_,hrest,hvi',hwi',by omega,hR⟩
     | false =>
      rw [if_neg (λ q=>absurd (hiff.mpr q) QV)] at hR
      have hri:=Dm A.in1 ⟨hp,g,d,tk,os⟩ a t c u prog w
      wp_walk using hri
      exact⟨_,rfl,by simpa using hR⟩
  case fin =>
   rintro⟨b1,b2⟩ s' ⟨hb',rfl,vs,ws,ns',ms',hz,hvi,hwi,hlen,hR⟩
   simp only at hb'
   subst hb'
   have hv:lexLt ns' ms'=decide (items.size < items2.size):=by
    cases hvi with
    | nil =>
     cases hwi with
     | nil =>
      simp only [List.length_nil] at hlen
      rw [fD]
      exact(QY (by omega)).symm
     | cons c u hw =>
      simp only [List.length_nil,List.length_cons] at hlen
      rw [iO]
      exact(Rq (by omega)).symm
    | cons a t hv =>
     cases hwi with
     | nil =>
      simp only [List.length_nil,List.length_cons] at hlen
      rw [jY]
      exact(QY (by omega)).symm
     | cons c u hw =>
      rw [VP] at hz
      cases hz
   rw [hv] at hR
   wp_walk
   exact⟨_,rfl,by simpa [Builtin.Tuple.tupleCompareSizes] using hR⟩
  case h =>
   exact⟨rfl,rfl,items.toList,items2.toList,ns,ms,rfl,hi,hj,by omega,h⟩
end
section
variable {prog:Program} {w:World} {A:Around} {E:Value->Shared->Prop} {s:Shared}
theorem Bc {l b:Addr} {items items2:Array Value} {ns ms:List Int} {Q:Value->Shared->Prop} (hl:IsTup s.heap l items) (hb:IsTup s.heap b items2) (hi:IntsAre items.toList ns) (hj:IntsAre items2.toList ms)
  (hu:A.units < cLine) (h:Q (.bool (lexLt ns ms)) s):wpAny (model prog w) A (compareOp .Lt (.ref l) (.ref b)) Q E s:=by
 obtain⟨⟨cls,dd,data,sl⟩,ho,hc,n,hd⟩:=id hl
 obtain⟨⟨cls2,dd2,data2,sl2⟩,ho2,hc2,n2,hd2⟩:=id hb
 simp only at hc hd hc2 hd2
 subst hc hd hc2 hd2
 exact richCompare_meets_room (op:=.Lt) ⟨_,ho,rfl⟩ ⟨_,ho2,rfl⟩ PySem.F.slot_tuple_lt PySem.F.entry_tuple_lt (PySem.F.args_tuple_lt_2 _ _) (xC l b items items2 n n2 dd dd2 sl sl2 ns ms hi hj)
  ⟨ho,ho2,show Value.bool (lexLt ns ms) ≠ Value.notImplemented /\ Q (.bool (lexLt ns ms)) s from⟨(λ x=>nomatch x),h⟩⟩ hu
theorem EZ {t b:Addr} {vs ws:List Value} {Q:Value->Shared->Prop} (ht:IsTup s.heap t vs.toArray) (hb:IsTup s.heap b ws.toArray) (hv:vs ≠ [])
  (h1:ws = []->Q (.ref t) s) (h2:ws ≠ []->Q (.ref s.heap.objs.size) { s with heap:=s.heap.push { cls:=.type "tuple",data:=.seq (vs ++ ws).toArray } })
  (hsz:vs.length + ws.length ≤ sizeLine):wpAny (model prog w) A (binaryOp .Add (.ref t) (.ref b)) Q E s:=by
 obtain⟨⟨cls,dd,data,sl⟩,ho,hc,n,hd⟩:=id ht
 obtain⟨⟨cls2,dd2,data2,sl2⟩,ho2,hc2,n2,hd2⟩:=id hb
 simp only at hc hd hc2 hd2
 subst hc hd hc2 hd2
 have e:vs.toArray ++ ws.toArray =(vs ++ ws).toArray:=by simp
 by_cases hw:ws = []
 ·exact concat_meets ⟨_,ho,rfl⟩ ⟨_,ho2,rfl⟩ noFill_tuple_add seq_tuple_add U9 UX (UM _ _)
   (tuple_addW1 t b vs.toArray ws.toArray n n2 dd dd2 sl sl2 (by simpa using hv) (by simp [hw])) ⟨ho,ho2,h1 hw⟩
 ·refine concat_meets ⟨_,ho,rfl⟩ ⟨_,ho2,rfl⟩ noFill_tuple_add seq_tuple_add U9 UX (UM _ _)
   (tuple_addW2 t b vs.toArray ws.toArray n n2 dd dd2 sl sl2 (by simpa using hv) (by simpa using hw) (by rw [QO,QO];exact hsz)) ⟨ho,ho2,?_⟩
  rw [e]
  exact h2 hw
def sIx (n d:Nat):Option Int->Nat
 | none=>d
 | some v=>if v < 0 then(v +(n:Int)).toNat else min v.toNat n
theorem Ab (n d k:Nat):sIx n d (some (k:Int))=min k n:=by
 show(if (k:Int) < 0 then((k:Int) +(n:Int)).toNat else min (k:Int).toNat n)=min k n
 rw [if_neg (by omega),Uz]
theorem Fe (n d:Nat) (hd:d ≤ n) (o:Option Int):sIx n d o ≤ n:=by
 cases o with
 | none=>exact hd
 | some v =>
  show(if v < 0 then(v +(n:Int)).toNat else min v.toNat n) ≤ n
  by_cases hv:v < 0
  ·rw [if_pos hv];omega
  ·rw [if_neg hv];exact Nat.min_le_right _ _
theorem Au (v:Int) (n d:Nat):(if v < 0 then max (v +(n:Int)) 0 else min v (n:Int)) =((sIx n d (some v):Nat):Int):=by
 show(if v < 0 then max (v +(n:Int)) 0 else min v (n:Int)) =(((if v < 0 then(v +(n:Int)).toNat else min v.toNat n):Nat):Int)
 by_cases hv:v < 0
 ·simp only [if_pos hv];omega
 ·simp only [if_neg hv];omega
theorem Bt (lo hi:Option Int) (n:Nat):Builtin.Slice.sliceAdjust lo hi 1 (n:Int) =(((sIx n 0 lo:Nat):Int),((sIx n n hi:Nat):Int)):=by
 have h1:¬((1:Int) < 0):=by omega
 unfold Builtin.Slice.sliceAdjust
 simp only [h1,if_false]
 refine Prod.ext ?_ ?_
 ·cases lo with
  | none=>rfl
  | some v=>exact Au v n 0
 ·cases hi with
  | none=>rfl
  | some v=>exact Au v n n
theorem AO (i j:Nat):Builtin.Slice.slicePlaces (i:Int) (j:Int) 1=j - i:=by
 unfold Builtin.Slice.slicePlaces
 have h1:(1:Int) > 0:=by omega
 simp only [h1,if_true,Int.ediv_one]
 split <;> omega
theorem vd {v:Value} {o:Option Int} {Q:Option Int->Shared->Prop} (p:IsPart v o) (h:Q o s):wpAny (model prog w) A (Builtin.Slice.slicePartIndex v) Q E s:=by
 cases p with
 | none=>exact slicePart_none h
 | int i t=>exact slicePart_int h
theorem ug {sl:Addr} {vl vu:Value} {lo hi:Option Int} {n:Nat} {Q:Int × Int × Nat->Shared->Prop} (hs:s.heap.IsSliceOf sl vl vu .none) (pl:IsPart vl lo) (pu:IsPart vu hi)
  (h:Q (((sIx n 0 lo:Nat):Int),1,sIx n n hi - sIx n 0 lo) s):wpAny (model prog w) A (Builtin.Slice.sliceApplied (.ref sl) (pure (n:Int))) Q E s:=by
 obtain⟨os,hos,hcs,hds⟩:=id hs
 unfold Builtin.Slice.sliceApplied Builtin.Slice.sliceFields
 refine QB (QB (RI hos hds (x:=vl) rfl (QB (RI hos hds (x:=vu) rfl (QB (RI hos hds (x:=.none) rfl (QI ?_)))))))
 refine QB (slicePart_none ?_)
 show wpAny _ _ (if ((1:Int) == 0)=true then _ else _) _ _ s
 rw [if_neg (by decide)]
 refine QB (vd pl (QB (vd pu (QB (QI ?_)))))
 show wpAny _ _ (match Builtin.Slice.sliceAdjust lo hi 1 (n:Int) with |(lo,hi)=>pure (lo,(1:Int),Builtin.Slice.slicePlaces lo hi 1)) _ _ s
 rw [Bt lo hi n]
 show wpAny _ _ (pure (((sIx n 0 lo:Nat):Int),(1:Int),Builtin.Slice.slicePlaces ((sIx n 0 lo:Nat):Int) ((sIx n n hi:Nat):Int) 1)) _ _ s
 rw [AO]
 exact QI h
theorem DA (xs:Array Value) (i k:Nat):((List.range k).filterMap λ(m:Nat)=>xs[((i:Int) +(m:Int) * 1).toNat]?).toArray =((xs.toList.drop i).take k).toArray:=by
 have e:(λ(m:Nat)=>xs[((i:Int) +(m:Int) * 1).toNat]?)=λ m=>xs[i + m]?:=by
  funext m
  have:((i:Int) +(m:Int) * 1).toNat=i + m:=by omega
  rw [this]
 rw [e]
 have:=pick_run xs i k
 rw [List.filterMap_map] at this
 have e2:((λ x=>xs[x]?) ∘ λ x=>i + x)=λ m=>xs[i + m]?:=rfl
 rw [e2] at this
 rw [this]
theorem sG {t sl:Addr} {items:Array Value} {vl vu:Value} {lo hi:Option Int} {Q:Value->Shared->Prop} (ht:IsTup s.heap t items) (hs:s.heap.IsSliceOf sl vl vu .none) (pl:IsPart vl lo) (pu:IsPart vu hi)
  (hw:¬(sIx items.size 0 lo=0 /\ sIx items.size items.size hi=items.size))
  (h:Q (.ref s.heap.objs.size) { s with heap:=s.heap.push { cls:=.type "tuple",data:=.seq ((items.toList.drop (sIx items.size 0 lo)).take (sIx items.size items.size hi - sIx items.size 0 lo)).toArray } })
  (hsz:items.size ≤ sizeLine):wpAny (model prog w) A (getItem (.ref t) (.ref sl)) Q E s:=by
 have htake:sizeOk (.seq ((items.toList.drop (sIx items.size 0 lo)).take (sIx items.size items.size hi - sIx items.size 0 lo)).toArray):=by
  show((items.toList.drop (sIx items.size 0 lo)).take (sIx items.size items.size hi - sIx items.size 0 lo)).toArray.size ≤ sizeLine
  rw [QO,Ri,UN,Tu]
  omega
 have hj:sIx items.size items.size hi ≤ items.size:=Fe _ _ (QH _) hi
 obtain⟨os,hos,hcs,hds⟩:=id hs
 have hTs:s.TypeIs (.ref sl) "slice":=⟨os,hos,hcs⟩
 unfold getItem
 try with_reducible refine RK ?_
 first | refine QB (QI ?_) | skip
 refine QB (wpAny_sequenceKey ht.typeIs (by decide) ?_)
 refine QB (Sv (name:=Str.ofString "__getitem__") ht.typeIs SW
  (Sz SW ht.typeIs entry_tuple_getitem ?_ (args_tuple_getitem _ _)))
 show wpAny _ _ (Builtin.Tuple.tupleItemsOf (.ref t) >>= _) _ _ s
 refine QB (tupleItemsOf_ ht ?_)
 refine QB (Ub hTs ?_)
 rw [if_pos (by decide)]
 refine QB (ug hs pl pu ?_)
 have hno:¬((((sIx items.size 0 lo:Nat):Int) == 0 &&(1:Int) == 1 &&(sIx items.size items.size hi - sIx items.size 0 lo) == items.size)=true):=by
  intro q
  rw [UO,UO] at q
  have q1:((sIx items.size 0 lo:Nat):Int)=0:=eq_of_beq q.1.1
  have q2:sIx items.size items.size hi - sIx items.size 0 lo=items.size:=eq_of_beq q.2
  exact hw ⟨by omega,by omega⟩
 show wpAny _ _ (if (((sIx items.size 0 lo:Nat):Int) == 0 &&(1:Int) == 1 &&(sIx items.size items.size hi - sIx items.size 0 lo) == items.size)=true then _ else _) _ _ s
 rw [if_neg hno,DA]
 first
  | exact QB (m:=Builtin.Tuple.tupleExact _) (R9 (QI ⟨_,rfl,QI h⟩) htake)
  | exact QB (m:=Builtin.Tuple.tupleExact _) (R9 (QB (QI (QI ⟨_,rfl,QI h⟩))) htake)
  | exact QB (QB (m:=Builtin.Tuple.tupleExact _) (R9 (QI (QI ⟨_,rfl,QI h⟩)) htake))
  | exact QB (QB (m:=Builtin.Tuple.tupleExact _) (R9 (QI ⟨_,rfl,QI h⟩) htake))
end
end HT
namespace L2
open PySem PySem.Spec PyProof.Rows
abbrev TO:=St->Hp->(Option Int->Hp->Prop)->Prop
def PO (X:Cx) (e:Option Expr) (t:TO):Prop :=
 ∀(pins:List (Addr × Obj)) (s:Shared) (σ:St) (H:Hp) (Q:Option Int->Hp->Prop),Inv X pins σ H s->t σ H Q →
  wpAny (model X.prog X.w) X.A (evalPart e X.env) (λ u s'=>∃ o H',Inv X pins σ H' s' /\ IsPart u o /\ Q o H') X.xe s
def Ey:TO:=λ _ H Q=>Q none H
def G3 (t:TE):TO:=λ σ H Q=>t σ H λ x H1=>∃ i,x = .int i /\ Q (some i) H1
theorem UE {ns:List Int}:∀ {us:List Value},Vals (ns.map V.int) us->IntsAre us ns:=by
 induction ns with
 | nil=>intro us r;rw [VQ] at r;cases r;exact .nil
 | cons n ns ih =>
  intro us r
  rw [Rk] at r
  cases r with
  | cons r1 r2 =>
   obtain⟨t,e⟩:=r1
   subst e
   exact .cons n t (ih r2)
section
variable {X:Cx} {e:Expr} {te:TE} {lo hi:Option Expr} {tl th:TO} {pos p2:Pos}
theorem An:PO X none Ey:=by
 intro pins s σ H Q I h
 rw [evalPart_none]
 exact QI ⟨none,H,I,.none,h⟩
theorem r8 (h:PE X e te):PO X (some e) (G3 te):=by
 intro pins s σ H Q I hw
 rw [evalPart_some]
 refine thn (h pins s σ H _ I hw) λ u s1 ⟨x,H1,I1,r1,q1⟩=>?_
 obtain⟨i,rfl,q⟩:=q1
 obtain⟨t,rfl⟩:=r1
 exact⟨some i,H1,I1,.int i t,q⟩
def SlR (X:Cx) (r:V->Option Int->Option Int->Hp->VK->Prop):Prop :=
 ∀(pins:List (Addr × Obj)) (s:Shared) (σ:St) (H:Hp) (x:V) (v vl vu:Value) (lo hi:Option Int) (sl:Addr) (Q:VK),Inv X pins σ H s->RelV x v->s.heap.IsSliceOf sl vl vu .none->IsPart vl lo->IsPart vu hi->r x lo hi H Q →
  ∃ T id,typeLookup (.type T) "__getitem__" = pure (some (.builtin id)) /\ s.TypeIs v T /\ wpAny (model X.prog X.w) X.A (getItem v (.ref sl)) (EP X pins σ Q) X.xe s
def tSl (r:V->Option Int->Option Int->Hp->VK->Prop) (te:TE) (tl th:TO):TE:=λ σ H Q=>te σ H λ x H1=>tl σ H1 λ l H2=>th σ H2 λ u H3=>r x l u H3 Q
theorem uu {r:V->Option Int->Option Int->Hp->VK->Prop} (hr:SlR X r) (he:PE X e te) (hl:PO X lo tl) (hu:PO X hi th):PE X (.Subscript e (.Slice lo hi none p2) pos) (tSl r te tl th):=by
 intro pins s σ H Q I h
 refine Subscript_ (thn (he pins s σ H _ I h) λ v s1 ⟨x,H1,I1,r1,q1⟩=>?_)
 refine wpAny_Slice (thn (hl pins s1 σ H1 _ I1 q1) λ vl s2 ⟨l,H2,I2,pl,q2⟩=>thn (hu pins s2 σ H2 _ I2 q2) λ vu s3 ⟨u,H3,I3,pu,q3⟩=>?_)
 rw [evalPart_none]
 refine QI ?_
 have I4:Inv X pins σ H3 { s3 with heap:=s3.heap.push { cls:=.type "slice",data:=.fields #[vl,vu,.none] } }:=I3.kept (t':=s3.toks) λ b ob q=>QD _ q
 obtain⟨T,id,hT,ht,hg⟩:=hr pins { s3 with heap:=s3.heap.push { cls:=.type "slice",data:=.fields #[vl,vu,.none] } } σ H3 x v vl vu l u s3.heap.objs.size Q I4 r1 (Heap.IsSliceOf.new ..) pl pu q3
 show wpAny (model X.prog X.w) X.A (subscriptTail e (.Slice lo hi none p2) v (.ref s3.heap.objs.size)) (EP X pins σ Q) X.xe { s3 with heap:=s3.heap.push { cls:=.type "slice",data:=.fields #[vl,vu,.none] } }
 exact tail_any (ops:=[.ref s3.heap.objs.size,v]) ht hT hg (by with_unfolding_all rfl)
def pR (xs:List V) (lo hi:Option Int):List V:=(xs.drop (HT.sIx xs.length 0 lo)).take (HT.sIx xs.length xs.length hi - HT.sIx xs.length 0 lo)
theorem sV (xs:List V) (lo hi:Option Int):(pR xs lo hi).length ≤ xs.length:=by
 unfold pR
 rw [Ri,UN]
 omega
def Jq (K:Frag):V->Option Int->Option Int->Hp->VK->Prop:=λ x lo hi H Q=>∃ a xs,x = .ref a /\ SqT K H a xs ∧
 ¬(HT.sIx xs.length 0 lo=0 /\ HT.sIx xs.length xs.length hi=xs.length) /\ ∀ p,H p=none->Q (.ref p) (upd H p (.tup (pR xs lo hi)))
theorem C8:SlR X (Jq X.K):=by
 intro pins s σ H x v vl vu lo hi sl Q I rx hs pl pu h
 obtain⟨a,xs,rfl,hx,hw,q⟩:=h
 cases rx
 obtain⟨its,r,ht,hz⟩:=I.tuple hx
 have hlen:its.toArray.size=xs.length:=by rw [QO];exact r.length.symm
 refine⟨"tuple",_,SW.lookup,ht.typeIs,?_⟩
 refine HT.sG ht hs pl pu (by rw [hlen];exact hw) ?_ (by rw [hlen];exact hz)
 rw [hlen]
 refine⟨.ref s.heap.objs.size,_,I.laid (t':=s.toks) (o:=.tup (pR xs lo hi)) (λ b ob q=>QD _ q) (QH _) ?_,rfl,q _ (I.hok.fresh (QH _))⟩
 exact⟨Rp (sV xs lo hi) hz,_,(r.drop (HT.sIx xs.length 0 lo)).take (HT.sIx xs.length xs.length hi - HT.sIx xs.length 0 lo),IsTup.new _ _⟩
def FU (K:Frag):R2:=λ x y H Q=>∃ a b ns ms,x = .ref a /\ y = .ref b /\ SqT K H a (ns.map V.int) /\ SqT K H b (ms.map V.int) /\ Q (.bl (HT.lexLt ns ms)) H
theorem Ck (hu:X.A.units < cLine):OpR X (compareOp .Lt) (FU X.K):=by
 intro pins s σ H x y v u Q I rx ry h
 obtain⟨a,b,ns,ms,rfl,rfl,ha,hb,q⟩:=h
 cases rx
 cases ry
 obtain⟨its,r1,p1,_⟩:=I.tuple ha
 obtain⟨its2,r2,p2,_⟩:=I.tuple hb
 have i1:IntsAre its.toArray.toList ns:=UE r1
 have i2:IntsAre its2.toArray.toList ms:=UE r2
 exact HT.Bc p1 p2 i1 i2 hu ⟨.bl (HT.lexLt ns ms),H,I,rfl,q⟩
def Hl (K:Frag):R2:=λ x y H Q=>∃ a b xs ys,x = .ref a /\ y = .ref b /\ SqT K H a xs /\ SqT K H b ys /\ xs ≠ [] /\ xs.length + ys.length ≤ sizeLine ∧
 (ys = []->Q (.ref a) H) /\(ys ≠ []->∀ p,H p=none->Q (.ref p) (upd H p (.tup (xs ++ ys))))
theorem Vals.vK {xs:List V} {us:List Value} (r:Vals xs us):us = [] ↔ xs = []:=by
 cases r with
 | nil=>simp
 | cons _ _=>simp
theorem EN:OpR X (binaryOp .Add) (Hl X.K):=by
 intro pins s σ H x y v u Q I rx ry h
 obtain⟨a,b,xs,ys,rfl,rfl,ha,hb,hx,hz,q1,q2⟩:=h
 cases rx
 cases ry
 obtain⟨its,r1,p1,_⟩:=I.tuple ha
 obtain⟨its2,r2,p2,_⟩:=I.tuple hb
 refine HT.EZ p1 p2 (λ z=>hx (r1.vK.mp z)) (λ z=>⟨.ref a,H,I,rfl,q1 (r2.vK.mp z)⟩) (λ z=>?_) (by rw [← r1.length,← r2.length];exact hz)
 refine⟨.ref s.heap.objs.size,_,I.laid (t':=s.toks) (o:=.tup (xs ++ ys)) (λ b ob q=>QD _ q) (QH _) ?_,rfl,q2 (λ w=>z (r2.vK.mpr w)) _ (I.hok.fresh (QH _))⟩
 exact⟨by rw [Rj];exact hz,_,r1.append r2,IsTup.new _ _⟩
end
def ixN (n:Nat) (i:Int):Option Nat:=if 0 ≤ i then(if i < n then some i.toNat else none) else if -(n:Int) ≤ i then some (i + n).toNat else none
def atI {α:Type} (xs:List α) (i:Int):Option α:=(ixN xs.length i).bind λ j=>xs[j]?
theorem z7 {n:Nat} {i:Int} {j:Nat} (h:ixN n i=some j):seqIndex? i n=some j /\ j < n /\ -(n:Int) ≤ i /\ i < n:=by
 unfold ixN at h
 by_cases h0:0 ≤ i
 ·rw [if_pos h0] at h
  by_cases h1:i < n
  ·rw [if_pos h1] at h
   have e:i.toNat=j:=Rc h
   exact⟨by rw [seqIndex_of h0 h1,e],by omega,by omega,h1⟩
  ·rw [if_neg h1] at h;cases h
 ·rw [if_neg h0] at h
  by_cases h1:-(n:Int) ≤ i
  ·rw [if_pos h1] at h
   have e:(i + n).toNat=j:=Rc h
   exact⟨by rw [VR (by omega) h1,e],by omega,h1,by omega⟩
  ·rw [if_neg h1] at h;cases h
theorem Ac {α:Type} {xs:List α} {i:Int} {v:α} (h:atI xs i=some v):∃ j,seqIndex? i xs.length=some j /\ xs[j]? = some v /\ j < xs.length /\ -(xs.length:Int) ≤ i /\ i < xs.length:=by
 unfold atI at h
 cases e:ixN xs.length i with
 | none=>rw [e] at h;cases h
 | some j =>
  rw [e] at h
  obtain⟨h1,h2,h3,h4⟩:=z7 e
  exact⟨j,h1,h,h2,h3,h4⟩
theorem bw {α:Type} {xs:List α} {j:Nat} {v:α} (h:xs[j]? = some v):atI xs (j:Int)=some v:=by
 have hj:j < xs.length:=(QE.mp h).1
 have e:ixN xs.length (j:Int)=some j:=by
  unfold ixN
  rw [if_pos (by omega),if_pos (by omega)];simp
 unfold atI;rw [e];exact h
def EF (b:Expr):Prop:=∀ o i,subscripted b false o i=operate [o,i] (getItem o i)
def IxR (X:Cx) (r:R2):Prop :=
 ∀(value slice:Expr) (pins:List (Addr × Obj)) (s:Shared) (σ:St) (H:Hp) (x y:V) (v u:Value) (Q:VK),Inv X pins σ H s->RelV x v->RelV y u->r x y H Q →
  subscripted slice false v u=operate [v,u] (getItem v u)->wpAny (model X.prog X.w) X.A (subscriptTail value slice v u) (EP X pins σ Q) X.xe s
def MtR (X:Cx) (id:String) (r:V->List V->Hp->VK->Prop):Prop :=
 ∀(pins:List (Addr × Obj)) (s:Shared) (σ:St) (H:Hp) (x:V) (xs:List V) (v:Value) (us:List Value) (Q:VK),Inv X pins σ H s->RelV x v->Vals xs us->r x xs H Q →
  wpAny (model X.prog X.w) X.A (call (.builtin id) (v :: us)) (EP X pins σ Q) X.xe s
section
variable {X:Cx} {a b:Expr} {ta tb:TE} {pos:Pos}
theorem aQ {r:R2} (hr:IxR X r) (ha:PE X a ta) (hb:PE X b tb) (hs:EF b):PE X (.Subscript a b pos) (tOp r ta tb):=by
 intro pins s σ H Q I h
 exact Subscript_ (DK ha hb I h λ v u s2 x y H2 I2 rx ry q=>hr a b pins s2 σ H2 x y v u Q I2 rx ry q (hs _ _))
def FQ (K:Frag):R2:=λ x y H Q=>∃ p xs i v,x = .ref p /\ y = .int i /\ SqL K H p xs /\ atI xs i=some v /\ Q v H
def Ff (K:Frag):R2:=λ x y H Q=>∃ p xs i v,x = .ref p /\ y = .int i /\ SqT K H p xs /\ atI xs i=some v /\ Q v H
theorem aW:IxR X (FQ X.K):=by
 intro value slice pins s σ H x y v u Q I rx ry h hs
 obtain⟨p,xs,i,z,rfl,rfl,hq,he,q⟩:=h
 cases rx
 obtain⟨t,rfl⟩:=ry
 obtain⟨its,r,pl,hz⟩:=I.list hq
 obtain⟨j,h1,h2,h3,h4,h5⟩:=Ac he
 obtain⟨w,ew,rw'⟩:=r.get h2
 have hl:=r.length
 have hn:=vq
 have fin:EP X pins σ Q w s:=⟨z,H,I,rw',q⟩
 by_cases h0:0 ≤ i
 ·have hj:i.toNat=j:=by
   rw [seqIndex_of h0 h5] at h1
   exact Rc h1
  exact item_listR pl.isList h0 (by omega) (by rw [hj];simpa using ew) fin hs
 ·have hj:(i +(its.toArray.size:Int)).toNat=j:=by
   rw [VR (by omega) h4] at h1
   rw [QO,← hl]
   exact Rc h1
  exact subscriptTail_builtinR (x:=w) pl.isList.typeIs slot_list_getitem.lookup
   (wpAny_getItem_list_neg (Q:=λ r s'=>r=w /\ EP X pins σ Q r s') pl.isList (by omega) (by rw [QO] <;> omega) (by omega) (by rw [hj];simpa using ew) ⟨rfl,fin⟩) hs
theorem bE:IxR X (Ff X.K):=by
 intro value slice pins s σ H x y v u Q I rx ry h hs
 obtain⟨p,xs,i,z,rfl,rfl,hq,he,q⟩:=h
 cases rx
 obtain⟨t,rfl⟩:=ry
 obtain⟨its,r,pl,hz⟩:=I.tuple hq
 obtain⟨j,h1,h2,h3,h4,h5⟩:=Ac he
 obtain⟨w,ew,rw'⟩:=r.get h2
 have hl:=r.length
 have hn:=vq
 have fin:EP X pins σ Q w s:=⟨z,H,I,rw',q⟩
 exact subscriptTail_builtinR (x:=w) pl.typeIs slot_tuple_getitem.lookup
  (getItem_tuple (j:=j) (Q:=λ r s'=>r=w /\ EP X pins σ Q r s') pl (by omega) (by omega) (by rw [QO,← hl];exact h1) (by simpa using ew) ⟨rfl,fin⟩) hs
theorem AU (its:List Value) (n j:Nat) (u:Value):Obj.mapSeq (·.setIfInBounds j u) { cls:=.type "list",data:=.seq its.toArray n } = { cls:=.type "list",data:=.seq (its.set j u).toArray n }:=by
 simp [Obj.mapSeq]
theorem Inv.lst {pins:List (Addr × Obj)} {σ:St} {H:Hp} {s:Shared} {p:Addr} {xs:List V} (I:Inv X pins σ H s) (h:H p=some (.lst xs)) :
  ∃(its:List Value) (n:Nat),Vals xs its /\ s.heap.get? p=some { cls:=.type "list",data:=.seq its.toArray n } /\ xs.length ≤ sizeLine:=by
 obtain⟨z,its,n,r,e⟩:=I.hok p _ h
 exact⟨its,n,r,e,z⟩
theorem Inv.Gq {pins:List (Addr × Obj)} {σ:St} {H:Hp} {s:Shared} {p:Addr} {xs ys:List V} {its its':List Value} {n n':Nat} {f:Obj->Obj} (I:Inv X pins σ H s) (h:H p=some (.lst xs))
  (ho:s.heap.get? p=some { cls:=.type "list",data:=.seq its.toArray n }) (hf:f { cls:=.type "list",data:=.seq its.toArray n } = { cls:=.type "list",data:=.seq its'.toArray n' }) (r:Vals ys its') (hz:ys.length ≤ sizeLine) (t:Nat) :
  Inv X pins σ (upd H p (.lst ys)) { s with heap:=s.heap.update p f,toks:=t }:=by
 have e:(s.heap.update p f).get? p=some { cls:=.type "list",data:=.seq its'.toArray n' }:=by
  rw [RG f ho (by rw [hf] <;> rfl),hf]
 refine I.write (x:=p) (e:=p) (by rw [h];trivial) (.inl rfl) (λ b u hb q=>(RC _ _ (RJ hb)).trans q) ⟨_,e⟩ ?_
 exact⟨hz,its',n',r,e⟩
def GN:V->V->V->Hp->(Hp->Prop)->Prop:=λ o i v H Q=>∃ p xs k j,o = .ref p /\ i = .int k /\ H p=some (.lst xs) /\ ixN xs.length k=some j /\ Q (upd H p (.lst (xs.set j v)))
theorem set_list:Fd X GN:=by
 intro pins s σ H o i v ov iv u Q I ro ri rv h
 obtain⟨p,xs,k,j,rfl,rfl,hp,hj,q⟩:=h
 cases ro
 obtain⟨t,rfl⟩:=ri
 obtain⟨its,n,r,ho,hz⟩:=I.lst hp
 obtain⟨h1,h2,h3,h4⟩:=z7 hj
 have hl:=r.length
 have hn:=vq
 have I':Inv X pins σ (upd H p (.lst (xs.set j v))) { s with heap:=s.heap.update p (Obj.mapSeq (·.setIfInBounds j u)) } :=
  I.Gq hp ho (AU its n j u) (r.set rv j) (by rw [S0];exact hz) s.toks
 by_cases h0:0 ≤ k
 ·have hk:k.toNat=j:=by
   rw [seqIndex_of h0 h4] at h1
   exact Rc h1
  exact PySem.W.ki_setAt ho h0 (by omega) (by rw [QO,← hl];exact h4) (by rw [hk];exact⟨_,I',q⟩)
 ·have hk:(k +(its.toArray.size:Int)).toNat=j:=by
   rw [VR (by omega) h3] at h1
   rw [QO,← hl]
   exact Rc h1
  exact PySem.W.ki_setBack ho (by omega) (by rw [QO,← hl];exact h3) (by omega) (by rw [hk];exact⟨_,I',q⟩)
theorem yq (lo hi:Option Int) (n:Nat):(sliceBounds lo hi none n).1 =((HT.sIx n 0 lo:Nat):Int) /\(sliceBounds lo hi none n).2.1 =((HT.sIx n n hi:Nat):Int) /\(sliceBounds lo hi none n).2.2=1:=by
 refine⟨?_,?_,rfl⟩
 ·cases lo with
  | none=>simp [sliceBounds,HT.sIx]
  | some i =>
   simp only [sliceBounds,HT.sIx,Option.getD_none,show(1:Int) > 0 by decide,if_true]
   by_cases h:i < 0
   ·simp only [h,if_true] <;> omega
   ·simp only [h,if_false] <;> omega
 ·cases hi with
  | none=>simp [sliceBounds,HT.sIx]
  | some i =>
   simp only [sliceBounds,HT.sIx,Option.getD_none,show(1:Int) > 0 by decide,if_true]
   by_cases h:i < 0
   ·simp only [h,if_true] <;> omega
   ·simp only [h,if_false] <;> omega
theorem xB (its:List Value) (lo hi:Option Int):slicePick its.toArray lo hi none =((its.drop (HT.sIx its.length 0 lo)).take (HT.sIx its.length its.length hi - HT.sIx its.length 0 lo)).toArray:=by
 obtain⟨h1,h2,h3⟩:=yq lo hi its.toArray.size
 unfold slicePick
 rw [h1,h2,h3]
 simp only [sliceRange_one,pick_run,List.size_toArray] <;> rfl
def Jg (K:Frag):V->Option Int->Option Int->Hp->VK->Prop:=λ x lo hi H Q=>∃ a xs,x = .ref a /\ SqL K H a xs /\ ∀ p,H p=none->Q (.ref p) (upd H p (.lst (pR xs lo hi)))
theorem Fb:SlR X (Jg X.K):=by
 intro pins s σ H x v vl vu lo hi sl Q I rx hs pl pu h
 obtain⟨a,xs,rfl,hx,q⟩:=h
 cases rx
 obtain⟨its,r,ht,hz⟩:=I.list hx
 have hlen:=r.length
 refine⟨"list",_,slot_list_getitem.lookup,ht.isList.typeIs,?_⟩
 refine wpAny_getItem_list_slice ht.isList hs pl pu .none (by simp) ?_ (by rw [QO] <;> omega)
 rw [xB,← hlen]
 refine⟨.ref s.heap.objs.size,_,I.laid (t':=s.toks) (o:=.lst (pR xs lo hi)) (λ b ob q=>QD _ q) (QH _) ?_,rfl,q _ (I.hok.fresh (QH _))⟩
 exact⟨Rp (sV xs lo hi) hz,_,0,(r.drop (HT.sIx xs.length 0 lo)).take (HT.sIx xs.length xs.length hi - HT.sIx xs.length 0 lo),QU _ rfl⟩
def xU:V->Bool
 | .non=>true
 | .bl _=>true
 | .int _=>true
 | .str _=>true
 | _=>false
def eqV:V->V->Bool
 | .non,.non=>true
 | .bl a,.bl b=>a == b
 | .bl a,.int b=>(if a then 1 else 0) == b
 | .int a,.bl b=>a ==(if b then 1 else 0)
 | .int a,.int b=>a == b
 | .str a,.str b=>a == b
 | _,_=>false
theorem FI {A:Around} {s:Shared} {y x:V} {u v:Value} (ry:RelV y u) (rx:RelV x v) (fy:xU y=true) (fx:xU x=true):SeqAt.EqAt A s u v (eqV y x):=by
 cases y with
 | non =>
  cases ry
  cases x with
  | non=>cases rx;exact SeqAt.EqAt.same _
  | bl b=>cases rx;exact SeqAt.EqAt.none_bool b
  | int b=>obtain⟨t,rfl⟩:=rx;exact SeqAt.EqAt.none_int b t
  | str b=>obtain⟨t,rfl⟩:=rx;exact SeqAt.EqAt.none_str b t
  | _=>exact absurd (show false=true from fx) QV
 | bl a =>
  cases ry
  cases x with
  | non=>cases rx;exact SeqAt.EqAt.bool_none a
  | bl b=>cases rx;exact SeqAt.EqAt.bool_bool a b
  | int b=>obtain⟨t,rfl⟩:=rx;exact SeqAt.EqAt.bool_int a b t
  | str b=>obtain⟨t,rfl⟩:=rx;exact SeqAt.EqAt.bool_str a b t
  | _=>exact absurd (show false=true from fx) QV
 | int a =>
  obtain⟨t',rfl⟩:=ry
  cases x with
  | non=>cases rx;exact SeqAt.EqAt.int_none a t'
  | bl b=>cases rx;exact SeqAt.EqAt.int_bool a t' b
  | int b=>obtain⟨t,rfl⟩:=rx;exact SeqAt.EqAt.int_int a t' b t
  | str b=>obtain⟨t,rfl⟩:=rx;exact SeqAt.EqAt.int_str a t' b t
  | _=>exact absurd (show false=true from fx) QV
 | str a =>
  obtain⟨t',rfl⟩:=ry
  cases x with
  | non=>cases rx;exact SeqAt.EqAt.str_none a t'
  | bl b=>cases rx;exact SeqAt.EqAt.str_bool a t' b
  | int b=>obtain⟨t,rfl⟩:=rx;exact SeqAt.EqAt.str_int a t' b t
  | str b=>obtain⟨t,rfl⟩:=rx;exact SeqAt.EqAt.str_str a t' b t
  | _=>exact absurd (show false=true from fx) QV
 | _=>exact absurd (show false=true from fy) QV
theorem bF:iX X (.builtin "len") (λ xs H Q=>∃ p ys,xs = [.ref p] /\(SqL X.K H p ys ∨ SqT X.K H p ys) /\ Q (.int ys.length) H):=by
 intro pins s σ H xs us Q I r h
 obtain⟨p,ys,rfl,hq,q⟩:=h
 obtain⟨u,rfl,rx⟩:=vals1 r
 cases rx
 have hn:=vq
 rcases hq with hq | hq
 ·obtain⟨its,r',pl,hz⟩:=I.list hq
  have hlen:=r'.length
  exact Calls.call_len_list pl.isList (by simp only [List.size_toArray] <;> omega) ⟨.int ys.length,H,I.tok _,⟨s.toks + 1,by rw [QO,hlen]⟩,q⟩
 ·obtain⟨its,r',pl,hz⟩:=I.tuple hq
  have hlen:=r'.length
  exact len_tuple pl (by simp only [List.size_toArray] <;> omega) ⟨.int ys.length,H,I.tok _,⟨s.toks + 1,by rw [QO,hlen]⟩,q⟩
theorem lK:iX X (.type "list") (λ xs H Q=>∃ p ys,xs = [.ref p] /\(SqL X.K H p ys ∨ SqT X.K H p ys) /\ ∀ l,H l=none->Q (.ref l) (upd H l (.lst ys))):=by
 intro pins s σ H xs us Q I r h
 obtain⟨p,ys,rfl,hq,q⟩:=h
 obtain⟨u,rfl,rx⟩:=vals1 r
 cases rx
 have fin:∀(its:List Value),Vals ys its->ys.length ≤ sizeLine->∀(h':Heap) (c':Nat),(∀ b o',s.heap.get? b=some o'->h'.get? b=some o') →
   h'.get? s.heap.objs.size=some { cls:=.type "list",dict:=none,data:=.seq its.toArray c',slots:=#[] }->EP X pins σ Q (.ref s.heap.objs.size) { s with heap:=h' }:=λ its r' hz h' c' kp e =>
  ⟨.ref s.heap.objs.size,_,I.laid (t':=s.toks) kp (QH _) (show bB X.prog X.w _ h' _ (.lst ys) from⟨hz,its,c',r',e⟩),rfl,q _ (I.hok.fresh (QH _))⟩
 rcases hq with hq | hq
 ·obtain⟨its,r',pl,hz⟩:=I.list hq
  have hlen:=r'.length
  obtain⟨o,ho,hc,n,hd⟩:=pl.isList
  exact call_list_seq p (.inl rfl) ho hc hd (λ h' c' kp e=>fin its r' hz h' c' kp e) (by simp only [List.size_toArray] <;> omega)
 ·obtain⟨its,r',pl,hz⟩:=I.tuple hq
  have hlen:=r'.length
  obtain⟨o,ho,hc,n,hd⟩:=pl
  exact call_list_seq p (.inr rfl) ho hc hd (λ h' c' kp e=>fin its r' hz h' c' kp e) (by simp only [List.size_toArray] <;> omega)
theorem xr:iX X (.type "tuple") (λ xs H Q=>∃ p ys,xs = [.ref p] /\((SqL X.K H p ys /\ ∀ l,H l=none->Q (.ref l) (upd H l (.tup ys))) ∨(SqT X.K H p ys /\ Q (.ref p) H))):=by
 intro pins s σ H xs us Q I r h
 obtain⟨p,ys,rfl,h⟩:=h
 obtain⟨u,rfl,rx⟩:=vals1 r
 cases rx
 rcases h with⟨hq,q⟩ |⟨hq,q⟩
 ·obtain⟨its,r',pl,hz⟩:=I.list hq
  have hlen:=r'.length
  refine call_tuple_list pl.isList (λ h' kp=>?_) (by simp only [List.size_toArray] <;> omega)
  have I1:Inv X pins σ H { s with heap:=h' }:=I.kept (t':=s.toks) kp
  have I2:Inv X pins σ (upd H h'.objs.size (.tup ys)) { s with heap:=h'.push { cls:=.type "tuple",data:=.seq its.toArray } } :=
   I1.laid (t':=s.toks) (λ b o e=>QD _ e) (QH _) (show bB X.prog X.w _ _ _ (.tup ys) from⟨hz,its,r',IsTup.new _ _⟩)
  exact⟨.ref h'.objs.size,_,I2,rfl,q _ (I1.hok.fresh (QH _))⟩
 ·obtain⟨its,r',pl,hz⟩:=I.tuple hq
  exact call_tuple_same pl ⟨.ref p,H,I,rfl,q⟩
def tyV (K:Frag) (T:String) (x:V) (H:Hp):Prop:=match x with
 | .str _=>T = "str"
 | .int _=>T = "int"
 | .ref p=>(T = "list" /\ ∃ xs,SqL K H p xs) ∨(T = "tuple" /\ ∃ o,K.lookup p=some o /\ o.cls = .type "tuple" /\ o.dict=none) ∨
   (T = "dict" /\((∃ kvs,H p=some (.dK kvs)) ∨ ∃ kvs,H p=some (.dT kvs))) ∨(T = "set" /\ ∃ S n,H p=some (.set S n))
 | _=>False
theorem BZ {pins:List (Addr × Obj)} {σ:St} {H:Hp} {s:Shared} {T:String} {x:V} {v:Value} (I:Inv X pins σ H s) (r:RelV x v) (ty:tyV X.K T x H) :
  s.TypeIs v T /\ ∀ a,v = .ref a->∃ ob,s.heap.get? a=some ob /\ ob.dict=none:=by
 cases x with
 | str z =>
  obtain⟨t,rfl⟩:=r
  cases (show T = "str" from ty)
  exact⟨typeIs_str s z t,λ _ e=>nomatch e⟩
 | int i =>
  obtain⟨t,rfl⟩:=r
  cases (show T = "int" from ty)
  exact⟨typeIs_int s i t,λ _ e=>nomatch e⟩
 | ref p =>
  cases r
  rcases ty with⟨rfl,xs,hq⟩ |⟨rfl,o,hk,hc,hd⟩ |⟨rfl,hk⟩ |⟨rfl,S,n,hk⟩
  ·obtain⟨its,_,pl,_⟩:=I.list hq
   refine⟨pl.isList.typeIs,λ a e=>?_⟩
   cases e
   obtain⟨o,n,e,c,hd,_⟩:=pl
   exact⟨o,e,hd⟩
  ·refine⟨⟨o,I.kIn p o hk,hc⟩,λ a e=>?_⟩
   cases e
   exact⟨o,I.kIn _ o hk,hd⟩
  ·have z:∃ o,s.heap.get? p=some o /\ o.ExactDict:=by
    rcases hk with⟨kvs,hk⟩ |⟨kvs,hk⟩
    ·obtain⟨_,_,_,_,o,_,_,e,ex,_⟩:=I.hok p _ hk
     exact⟨o,e,ex⟩
    ·obtain⟨_,_,_,_,o,_,_,e,ex,_⟩:=I.hok p _ hk
     exact⟨o,e,ex⟩
   obtain⟨o,e,ex⟩:=z
   refine⟨⟨o,e,ex.1⟩,λ a e2=>?_⟩
   cases e2
   exact⟨o,e,ex.2.1⟩
  ·obtain⟨o,_,_,_,e,ex,_⟩:=I.hok p _ hk
   refine⟨⟨o,e,ex.1⟩,λ a e2=>?_⟩
   cases e2
   exact⟨o,e,ex.2.1⟩
 | _=>exact False.elim ty
def HP (K:Frag) (T:String) (r:V->List V->Hp->VK->Prop) (to:TE):TE:=λ σ H Q=>to σ H λ x H1=>tyV K T x H1 /\ r x [] H1 Q
def tBM (K:Frag) (T:String) (r:V->List V->Hp->VK->Prop) (to:TE) (t:TA):TE:=λ σ H Q=>to σ H λ x H1=>tyV K T x H1 /\ t σ H1 λ xs H2=>r x xs H2 Q
variable {o e:Expr} {es:List Expr} {to:TE} {t:TA} {name:Str} {apos cpos:Pos} {T id:String} {r:V->List V->Hp->VK->Prop}
theorem Fy (pa:PlainAttrs T) (slot:Slot T name id) (hty:typeOf (.builtin id)=pure (.type "method_descriptor")) (hm:MtR X id r) (ho:PE X o to)
  (hbase:attributeBase o name X.env (eval o X.env)=eval o X.env:=by rfl) (hline:(apos.endLine == cpos.line)=true:=by rfl):PE X (.Call (.Attribute o name apos) [] [] cpos) (HP X.K T r to):=by
 intro pins s σ H Q I h
 refine wpAny_Call_method0_late hbase hline (thn (ho pins s σ H _ I h) λ v s1 ⟨x,H1,I1,r1,ty,q1⟩=>?_)
 obtain⟨h1,h2⟩:=BZ I1 r1 ty
 exact⟨T,id,pa,slot,hty,h1,h2,RX rfl (PySem.evalArgs_none (hm pins s1 σ H1 x [] v [] Q I1 r1 .nil q1))⟩
theorem m7 (pa:PlainAttrs T) (slot:Slot T name id) (hty:typeOf (.builtin id)=pure (.type "method_descriptor")) (hm:MtR X id r) (ho:PE X o to) (ha:PA X (e :: es) t)
  (hbase:attributeBase o name X.env (eval o X.env)=eval o X.env:=by rfl)
  (hfew:((backTo cpos (starEach (e :: es) X.env)).all (λ x=>!x.1) &&(backToKw cpos (keywordEach [] X.env)).all (λ x=>x.1.isSome)
   && decide ((e :: es).length +([]:List Keyword).length +(if ([]:List Keyword).isEmpty then 0 else 1) < 30))=true:=by rfl)
  (hline:(apos.endLine == cpos.line)=true:=by rfl) (hs:starEach (e :: es) X.env =(false,eval e X.env) :: starEach es X.env:=by rfl) (hplain:(backTo cpos (starEach es X.env)).any (·.1)=false:=by rfl) :
  PE X (.Call (.Attribute o name apos) (e :: es) [] cpos) (tBM X.K T r to t):=by
 intro pins s σ H Q I h
 refine wpAny_Call_method_late hbase hfew hline rfl (thn (ho pins s σ H _ I h) λ v s1 ⟨x,H1,I1,r1,ty,q1⟩=>?_)
 obtain⟨h1,h2⟩:=BZ I1 r1 ty
 refine⟨T,id,pa,slot,hty,h1,h2,?_⟩
 have hA:=ha cpos pins s1 σ H1 _ I1 q1
 rw [hs] at hA ⊢
 refine RX (by show(false ||(backTo cpos (starEach es X.env)).any (·.1))=false;rw [hplain] <;> rfl) (So ?_)
 exact thn hA λ us s2 ⟨vs,H2,I2,r2,q2⟩=>hm pins s2 σ H2 x vs v us Q I2 r1 r2 q2
/- xs.append(e),list.index on a module's tuple .. are MtR facts of 06m -/
end
def MtM (X:Cx) (id:String) (r:V->List V->Hp->VK->Prop):Prop :=
 ∀(pins:List (Addr × Obj)) (s:Shared) (σ:St) (H:Hp) (x:V) (xs:List V) (v:Value) (us:List Value) (Q:VK),Inv X pins σ H s->RelV x v->Vals xs us->r x xs H Q →
  wpAny (model X.prog X.w) X.A (call (.builtin id) (v :: us)) (EP X pins σ Q) X.xe s
theorem Vals.one:∀ {x:V} {us:List Value},Vals [x] us->∃ u,us = [u] /\ RelV x u
 | _,_,.cons r .nil=>⟨_,rfl,r⟩
theorem Vals.zero:∀ {us:List Value},Vals [] us->us = []
 | _,.nil=>rfl
theorem Vals.dropLast {xs:List V} {us:List Value} (h:Vals xs us):Vals xs.dropLast us.dropLast:=by
 induction h with
 | nil=>exact .nil
 | cons r t ih =>
  cases t with
  | nil=>exact .nil
  | cons q t'=>exact .cons r ih
theorem Vals.reverse {xs:List V} {us:List Value} (h:Vals xs us):Vals xs.reverse us.reverse:=by
 induction h with
 | nil=>exact .nil
 | cons r t ih=>rw [UA,UA];exact Vals.append ih (.cons r .nil)
theorem Vals.rep {xs:List V} {us:List Value} (h:Vals xs us):∀ k:Nat,Vals (List.replicate k xs).flatten (List.replicate k us).flatten
 | 0=>.nil
 | k + 1=>by
  rw [Sx,Sx,Td,Td]
  exact Vals.append h (Vals.rep h k)
theorem BE {α:Type} (l:List α):l.eraseIdx (l.length - 1)=l.dropLast:=by
 induction l with
 | nil=>rfl
 | cons a r ih =>
  cases r with
  | nil=>rfl
  | cons b r =>
   have e:(a :: b :: r).length - 1 =((b :: r).length - 1) + 1:=by
    have h1:(a :: b :: r).length=r.length + 2:=rfl
    have h2:(b :: r).length=r.length + 1:=rfl
    omega
   rw [e,List.eraseIdx_cons_succ,ih]
   all_goals rfl
theorem foldl_rep (its:List Value):∀(k:Nat) (acc:List Value),
  List.foldl (λ x1 x2=>x1 ++ x2) acc.toArray (List.replicate k its.toArray) =(acc ++(List.replicate k its).flatten).toArray
 | 0,acc=>by simp
 | k + 1,acc=>by
  have e:acc.toArray ++ its.toArray =(acc ++ its).toArray:=by simp
  have e2:(acc ++ its) ++(List.replicate k its).flatten=acc ++(List.replicate (k + 1) its).flatten:=by
   rw [Sx,Td,UB]
  rw [← e2,← foldl_rep its k (acc ++ its),← e,Sx,Tz]
section
variable {X:Cx} {pins:List (Addr × Obj)} {σ:St} {H:Hp} {s:Shared} {l b:Addr} {xs ys zs:List V}
theorem Inv.Bj {its its':List Value} {n:Nat} {f:Array Value->Array Value} {t':Nat} (I:Inv X pins σ H s) (hH:H l=some (.lst xs))
  (e:s.heap.get? l=some { cls:=.type "list",data:=.seq its.toArray n }) (hf:f its.toArray=its'.toArray) (hv:Vals ys its') (hz:ys.length ≤ sizeLine) :
  Inv X pins σ (upd H l (.lst ys)) { s with heap:=s.heap.update l (Obj.mapSeq f),toks:=t' }:=by
 have q:=PySem.IsL.update e f
 rw [hf] at q
 refine I.write (x:=l) (e:=l) (by rw [hH];exact trivial) (.inl rfl) (λ b' u hb hu=>(RC s.heap (Obj.mapSeq f) (RJ hb)).trans hu) ⟨_,q⟩ ?_
 exact⟨hz,its',_,hv,q⟩
theorem Inv.FP {its:List Value} {t':Nat} (I:Inv X pins σ H s) (hv:Vals ys its) (hz:ys.length ≤ sizeLine) :
  Inv X pins σ (upd H s.heap.objs.size (.lst ys)) { s with heap:=s.heap.push { cls:=.type "list",data:=.seq its.toArray },toks:=t' } :=
 I.laid (λ _ _ q=>QD _ q) (QH _) ⟨hz,its,0,hv,QU _ rfl⟩
theorem Inv.fresh (I:Inv X pins σ H s):H s.heap.objs.size=none:=I.hok.fresh (QH _)
theorem Inv.qG (I:Inv X pins σ H s) (hH:H l=some (.lst xs)):xs.length ≤ sizeLine /\ ∃(its:List Value) (n:Nat),Vals xs its /\ xs.length=its.length /\ s.heap.get? l=some { cls:=.type "list",data:=.seq its.toArray n }:=by
 obtain⟨z,its,n,r,e⟩:=I.hok l _ hH
 exact⟨z,its,n,r,r.length,e⟩
theorem zq {n:Nat} (h:n ≤ sizeLine):Builtin.List.listTooLong n=false:=by
 unfold Builtin.List.listTooLong
 exact QY (by omega)
end
section
variable {X:Cx}
def Ex:V->List V->Hp->VK->Prop:=λ x vs H Q=>∃ l xs y,x = .ref l /\ vs = [y] /\ H l=some (.lst xs) /\ xs.length < sizeLine /\ Q .non (upd H l (.lst (xs ++ [y])))
theorem gv:MtM X "list.append" Ex:=by
 intro pins s σ H x vs v us Q I rx rv h
 obtain⟨l,xs,y,rfl,rfl,hH,hz,q⟩:=h
 cases rx
 obtain⟨u,rfl,ru⟩:=rv.one
 obtain⟨z,its,n,r,hl,e⟩:=I.qG hH
 refine Uc F.slot_list_append ⟨_,e,rfl⟩ F.entry_list_append (F.args_list_append_2 _ _) (PySem.list_append l its.toArray n u (by rw [QO];omega)) ⟨e,?_⟩
 refine⟨.non,_,I.Bj (its':=its ++ [u]) hH e (by simp) (r.append (.cons ru .nil)) ?_,rfl,q⟩
 rw [Rj,Vg]
 omega
def Es:V->List V->Hp->VK->Prop:=λ x vs H Q=>∃ l b xs zs,x = .ref l /\ vs = [.ref b] /\ H l=some (.lst xs) /\ H b=some (.lst zs) /\ xs.length + zs.length ≤ sizeLine /\ Q .non (upd H l (.lst (xs ++ zs)))
theorem Cb:MtM X "list.extend" Es:=by
 intro pins s σ H x vs v us Q I rx rv h
 obtain⟨l,b,xs,zs,rfl,rfl,hH,hB,hz,q⟩:=h
 cases rx
 obtain⟨u,rfl,ru⟩:=rv.one
 cases ru
 obtain⟨z,its,n,r,hl,e⟩:=I.qG hH
 obtain⟨z2,its2,n2,r2,hl2,e2⟩:=I.qG hB
 have hsz:its.toArray.size + its2.toArray.size ≤ sizeLine:=by rw [QO,QO];omega
 have hlong:¬(!its.toArray.isEmpty && Builtin.List.listTooLong (its.toArray.size + its2.toArray.size))=true:=by
  rw [zq hsz,Bool.and_false]
  exact QV
 refine Uc F.slot_list_extend ⟨_,e,rfl⟩ F.entry_list_extend (F.args_list_extend_2 _ _)
  (AutoSeq1.list_extend_list_list_0 l its.toArray n b its2.toArray n2 hlong (by rw [QO];omega) (by omega)) ⟨e,e2,?_⟩
 refine⟨.non,_,I.Bj (its':=its ++ its2) hH e (by simp) (r.append r2) ?_,rfl,q⟩
 rw [Rj]
 omega
def Lq:V->List V->Hp->VK->Prop:=λ x vs H Q=>∃ l xs y,x = .ref l /\ vs = [] /\ H l=some (.lst xs) /\ xs[xs.length - 1]? = some y /\ Q y (upd H l (.lst xs.dropLast))
theorem Gk:MtM X "list.pop" Lq:=by
 intro pins s σ H x vs v us Q I rx rv h
 obtain⟨l,xs,y,rfl,rfl,hH,hy,q⟩:=h
 cases rx
 have hus:=rv.zero
 subst hus
 obtain⟨z,its,n,r,hl,e⟩:=I.qG hH
 obtain⟨u,hu,ru⟩:=r.get hy
 have hy':its.toArray[its.toArray.size - 1]? = some u:=by
  show its.toArray[its.length - 1]? = some u
  rw [← Ti,← hl]
  exact hu
 refine Uc F.slot_list_pop ⟨_,e,rfl⟩ F.entry_list_pop (F.args_list_pop_1 _) (MeetsSeq.list_pop_last l its.toArray n u hy' (by rw [QO];omega)) ⟨e,?_⟩
 refine⟨y,_,I.Bj (its':=its.dropLast) hH e ?_ r.dropLast ?_,ru,q⟩
 ·show its.toArray.eraseIdxIfInBounds (its.toArray.size - 1)=its.dropLast.toArray
  rw [QO,List.eraseIdxIfInBounds_toArray,BE]
 ·rw [Tp]
  omega
def Oz:R2:=λ x y H Q=>∃ l b xs zs,x = .ref l /\ y = .ref b /\ H l=some (.lst xs) /\ H b=some (.lst zs) /\ xs.length + zs.length ≤ sizeLine /\ ∀ p,H p=none->Q (.ref p) (upd H p (.lst (xs ++ zs)))
theorem Gz:OpR X (binaryOp .Add) Oz:=by
 intro pins s σ H x y v u Q I rx ry h
 obtain⟨l,b,xs,zs,rfl,rfl,hH,hB,hz,q⟩:=h
 cases rx
 cases ry
 obtain⟨z,its,n,r,hl,e⟩:=I.qG hH
 obtain⟨z2,its2,n2,r2,hl2,e2⟩:=I.qG hB
 refine PySem.P.add_list e e2 ?_ (by rw [QO,QO];omega)
 have ea:its.toArray ++ its2.toArray =(its ++ its2).toArray:=by simp
 rw [ea]
 exact⟨.ref _,_,I.FP (t':=s.toks) (r.append r2) (by rw [Rj];omega),rfl,q _ I.fresh⟩
def Ky:R2:=λ x y H Q=>∃ l k xs,x = .ref l /\ y = .int k /\ H l=some (.lst xs) /\ -(2 ^ 63) ≤ k /\ k < 2 ^ 63 /\ xs.length * k.toNat ≤ sizeLine ∧
 ∀ p,H p=none->Q (.ref p) (upd H p (.lst (List.replicate k.toNat xs).flatten))
theorem len_rep {α:Type} (xs:List α) (k:Nat):(List.replicate k xs).flatten.length=k * xs.length:=by
 induction k with
 | zero=>simp
 | succ k ih=>rw [Sx,Td,Rj,ih,Nat.succ_mul,Nat.add_comm]
theorem Ge:OpR X (binaryOp .Mult) Ky:=by
 intro pins s σ H x y v u Q I rx ry h
 obtain⟨l,k,xs,rfl,rfl,hH,h1,h2,hz,q⟩:=h
 cases rx
 obtain⟨t,rfl⟩:=ry
 obtain⟨z,its,n,r,hl,e⟩:=I.qG hH
 have hlen:its.toArray.size * k.toNat ≤ sizeLine:=by rw [QO,← hl];exact hz
 have hcap:¬ its.toArray.size * k.toNat >(2 ^ 63 - 1) / 8:=by
  have:(sizeLine:Nat) ≤(2 ^ 63 - 1) / 8:=by decide
  omega
 have hfit:¬(!Builtin.List.listFitsIndex k)=true:=by
  rw [fitsIndex_both h1 h2]
  exact QV
 have hlong:¬ Builtin.List.listTooLong (its.toArray.size * k.toNat)=true:=by
  rw [zq hlen]
  exact QV
 have hnew:List.foldl (λ x1 x2=>x1 ++ x2) #[] (List.replicate (if its.toArray.isEmpty=true then 0 else k.toNat) its.toArray) =(List.replicate k.toNat its).flatten.toArray:=by
  have f0:∀ m:Nat,List.foldl (λ x1 x2=>x1 ++ x2) #[] (List.replicate m its.toArray) =(List.replicate m its).flatten.toArray:=λ m=>by
   have:=foldl_rep its m []
   rw [List.nil_append] at this
   exact this
  rw [f0]
  cases its with
  | nil=>simp
  | cons a r'=>rw [if_neg (by simp)]
 refine wpAny_binaryOp_repeat_ref (T:="list") (U:="int") (by decide) ⟨_,e,rfl⟩ (λ s'=>typeIs_int s' k t) noFill_list_mul F.fills_int_mul F.slot_int_rmul repeat_list F.slot_int_index.lookup
  (Uc F.slot_int_rmul (typeIs_int s k t) F.entry_int_rmul (F.args_int_rmul_2 _ _) (int___rmul___int_list k t l its.toArray n)
   ⟨e,rfl,⟨_,e,rfl⟩,Uc F.slot_list_mul ⟨_,e,rfl⟩ F.entry_list_mul (F.args_list_mul_2 _ _) (AutoListH.list___mul___list_int_3 l its.toArray n k t hfit hcap hlong) ⟨e,?_⟩⟩)
 rw [hnew]
 exact⟨.ref _,_,I.FP (t':=s.toks) (r.rep k.toNat) (by rw [len_rep,Nat.mul_comm];exact hz),rfl,q _ I.fresh⟩
end
section
variable {prog:Program} {w:World} {A:Around} {E:Value->Shared->Prop} {s:Shared}
set_option maxRecDepth 100000 in
end
end L2
namespace Att
open PySem PySem.W PySem.Calls PyProof.Rows
theorem vn {P:Params} {h:Heap}:∀(ns:List Int) (vs:List Value),WellAll P h vs (ns.map WData.int)->IntsAre vs ns:=by
 intro ns
 induction ns with
 | nil =>
  intro vs w
  rw [VQ] at w
  cases w
  exact .nil
 | cons n ns ih =>
  intro vs w
  rw [Rk] at w
  cases w with
  | cons a b =>
   cases a
   exact .cons _ _ (ih _ b)
theorem Dc {l:OpenLaw} {n:Nat} (hn:l.most=some n) {P:Params} {h:Heap} {args:List WData} {vals:List Value}
  (hpre:l.row.toRowW.claim.pre args=true) (hwl:WellAll P h vals args) :
  ∃ a vs ns,vals = [Value.ref a] /\ args = [WData.list (ns.map WData.int)] /\ h.get? a=some { cls:=.type "list",data:=.seq vs.toArray } /\ IntsAre vs ns /\ ns.length ≤ n:=by
 have hsh:WShape.hasAll [] args [.list .int]=true:=(pre_splitW hpre).1
 have hc:l.pre.holds [] { args:=args } = true:=(pre_splitW hpre).2
 obtain⟨d,r,rfl,h1,h2⟩:=hasAllW_cons hsh
 obtain rfl:=hasAllW_nil h2
 obtain⟨xs,rfl,h3⟩:=hasW_list h1
 obtain⟨ns,rfl⟩:=items_int h3
 have hlen:ns.length ≤ n:=by
  unfold OpenLaw.pre at hc
  have h4:(WTm.not (.lt (.lit (.int (n:Int))) (.len (.arg 0)))).holds [] { args:=[.list (ns.map .int)] } = true:=by
   have h4:=(holds_andW hc).1
   rw [hn] at h4
   exact h4
  have h5:=condW_of h4 (w_not (w_lt w_lit (w_len_list (w_arg rfl))))
  rw [QG] at h5
  refine Nat.le_of_not_lt λ q=>?_
  have q':(n:Int) <((ns.length:Nat):Int):=by omega
  first
   |(rw [Rq q'] at h5;exact absurd h5 (by decide))
   |(simp at h5;omega)
 cases hwl with
 | cons w1 w2 =>
  cases w2
  cases w1 with
  | list ho hall=>exact⟨_,_,ns,rfl,rfl,ho,vn ns _ hall,hlen⟩
theorem Cr (l:OpenLaw) (args:List WData):l.row.toRowW.claim.post args (.bool true) args=true :=
 postW_of (r:=l.row.toRowW) (X:=(true == true))
  (show WShape.has [] (.bool true) .bool=true by first | rfl | decide | simp [WShape.has,WShape.arms,WShape.armsAll])
  (show(WTm.eq .res (.lit (.bool true))).value [] { args:=args,res:=some (.bool true),after:=args } = some (.bool (true == true)) from w_eq_bool (w_res rfl) w_lit) rfl
theorem sQ {l:OpenLaw} {n:Nat} {q:Program} {loose:List Str} {XP:(Str->Option Value)->Heap->Prop} {YP:World->Heap->Prop} {d:DefRec}
  (hn:l.most=some n) (hdf:d.params.defaults = [])
  (call:∀(w:World) (s₀ s₁:Shared) (mg mb:Str->Option Value) (fa:Addr) (o:Obj) (pm cd doc:Value) (a:Addr) (vs:List Value) (ns:List Int),
   Ground q loose [] XP w s₀ mg mb s₁.heap->YP w s₁.heap →
   s₁.heap.get? fa=some o->o.data = .func (docDef d.name d.params d.body d.scope pm cd doc)->s₁.heap.CodeRec cd d.name->mg d.name=some (.ref fa) →
   s₁.heap.get? a=some { cls:=.type "list",data:=.seq vs.toArray }->IntsAre vs ns->ns.length ≤ n->s₁.gens = #[] →
   codeAny (model l.prog w) callerA (.call (.ref fa) ⟨[.ref a],[]⟩) (λ r s'=>r = .ok (.ret (.bool true)) /\ OldK s₁.heap s'.heap /\ s'.os=s₁.os /\ AllBare s'.gens) s₁) :
  WalkO q loose XP YP l.row.toRowW d [] (λ f vs=>PySem.call f vs):=by
 intro w s₀ s₁ mg mb G Y fa o pm cd doc dV kV ho hd hcd hD hmg hg args vals as hpre hlay hrd hwl hlo
 obtain rfl:dV = .none:=Dflts.none hD hdf
 obtain rfl:kV = .none:=Dflts.noKw hD
 obtain⟨a,vs,ns,rfl,rfl,hobj,hints,hlen⟩:=Dc hn hpre hwl
 refine enter_call (SV (call w s₀ s₁ mg mb fa o pm cd doc a vs ns G Y ho (fd_plain hd) hcd hmg hobj hints hlen hg) λ r s' hq=>?_)
 obtain⟨rfl,h2,h3,h4⟩:=hq
 exact⟨.inl ⟨.bool true,.bool true,[],rfl,λ _=>rfl,.bool true,Cr l _,λ _=>⟨List.Pairwise.nil,λ _ hm=>(nomatch hm)⟩⟩,h2,h3,h4⟩
section
variable {prog:Program} {w:World} {A:Around} {E:Value->Shared->Prop} {s:Shared} {K:Frag}
def ledger (h:Heap) (L d:Addr):List (Addr × Obj):=(List.range h.objs.size).filterMap λ a=>if a=L ∨ a=d then none else(h.get? a).map λ o=>(a,o)
end
end Att
namespace L2
open PySem PySem.Spec PyProof.Rows
theorem qM:∀ {vs:List Value} {ns:List Int},IntsAre vs ns->Vals (ns.map V.int) vs
 | _,_,.nil=>.nil
 | _,_,.cons n t h=>.cons ⟨t,rfl⟩ (qM h)
def Dt (H:Hp):Prop:=∀ b,H b=none ∨ ∃ o xs,H b=some (.frz o (.lst xs))
theorem Dr {P:Program} {w:World} {K:Frag} {mg mb:Str->Option Value} {CX:CXT} {k:Nat} {fa a:Addr} {fd:FuncData} {x:Str} {sp:Sp} {s₁:Shared} {vs:List Value} {ns:List Int}
  (KX:K.In s₁.heap) (hns:s₁.heap.Ns mainGlobals mg) (hb:s₁.heap.Ns builtinsNs mb) (hbb:∀ x:Str,x ≠ "__name__"->mb x=bootBuiltins x) (hlim:s₁.heap.NoLimit) (hg:s₁.gens = #[])
  (ha:s₁.heap.get? a=some { cls:=.type "list",data:=.seq vs.toArray }) (hi:IntsAre vs ns) (hl:ns.length ≤ sizeLine) (hr:bU k callerA)
  (F:∀ base:Heap,K.In base->base.Ns mainGlobals mg->aX P w K mg base CX k fa fd [x] sp) (hbind:∀(s:Shared) (u:Value),BindsTo s fd ⟨[u],[]⟩ [(x,u)])
  (hsp:∀ H:Hp,Dt H->SqL K H a (ns.map V.int)->sp [.ref a] H (λ v _=>v = .bl true) λ _ _ _=>False)
  (hCX:∀ H e s',CX [] H s₁ (λ _ _ _=>False) e s'->False) :
  codeAny (model P w) callerA (.call (.ref fa) ⟨[.ref a],[]⟩) (λ r s'=>r = .ok (.ret (.bool true)) /\ OldK s₁.heap s'.heap /\ s'.os=s₁.os /\ AllBare s'.gens) s₁:=by
 have rv:=qM hi
 have lenV:=hi.length
 have core:∀ H:Hp,Dt H->SqL K H a (ns.map V.int)->HOk P w H s₁.heap->(∀ b,H b ≠ none->b=a)->(H a ≠ none->K.lookup a=none) →
   codeAny (model P w) callerA (.call (.ref fa) ⟨[.ref a],[]⟩) (λ r s'=>r = .ok (.ret (.bool true)) /\ OldK s₁.heap s'.heap /\ s'.os=s₁.os /\ AllBare s'.gens) s₁:=by
  intro H hO hS hok hA hK
  have base_of:∀ {b:Addr} {o:Obj},s₁.heap.get? b=some o->H b=none->(jc s₁.heap H).get? b=some o:=λ e n=>yr e n
  have noA:∀ {b:Addr} {o:Obj} {es:Array DictEntry} {ep:Nat},s₁.heap.get? b=some o->o.data = .dict es ep->H b=none:=λ {b o es ep} e d=>by
   cases q:H b with
   | none=>rfl
   | some u =>
    have e':b=a:=hA b (by rw [q];simp)
    subst e'
    rw [ha] at e;cases e
    have d':Data.seq vs.toArray _=Data.dict es ep:=d
    cases d'
  have nsK:∀ {b:Addr} {m:Str->Option Value},s₁.heap.Ns b m->(jc s₁.heap H).Ns b m:=λ {b m} ⟨o,es,ep,e,d,r⟩=>⟨o,es,ep,base_of e (noA e d),d,r⟩
  have hKb:K.In (jc s₁.heap H):=λ b o e=>base_of (KX b o e) (by
   cases q:H b with
   | none=>rfl
   | some u =>
    have e':b=a:=hA b (by rw [q];simp)
    subst e'
    rw [hK (by rw [q];simp)] at e;cases e)
  have hM:Mod K mg (jc s₁.heap H):=⟨hKb,nsK hns,⟨mb,nsK hb,hbb⟩,let ⟨mc,h1,h2⟩:=hlim;⟨mc,nsK h1,h2⟩⟩
  have e0:jL P w K mg (jc s₁.heap H) callerA [] s₁ H:=⟨rfl,hM,λ b o e=>AA e,UL (wz _ _),trivial,λ b hb=>absurd (show b ∈([]:List Addr) from hb) (by simp),hok,.of_eq hg⟩
  refine SV ((F _ hKb (nsK hns)).run callerA [] s₁ H ⟨[.ref a],[]⟩ [.ref a] [.ref a] _ _ hr e0 (hbind s₁ (.ref a)) (.cons rfl .nil) (hsp H hO hS)) λ r s' h=>?_
  cases r with
  | error e=>exact(hCX H e s' h).elim
  | ok fl =>
   cases fl with
   | next=>exact False.elim h
   | brk=>exact False.elim h
   | cont=>exact False.elim h
   | ret u =>
    obtain⟨v,H',os,bare,un,hok',r',q⟩:=h
    have q':v = .bl true:=q
    subst q'
    obtain rfl:u=Value.bool true:=r'
    refine⟨rfl,OldK.of_keep λ b o e=>?_,os,bare⟩
    cases q:H b with
    | none=>exact un.keep b o e q (by intro z;exact absurd (show b ∈([]:List Addr) from z) (by simp)) (by simp)
    | some u =>
     rcases hO b with z |⟨ob,xs,z⟩
     ·rw [q] at z;cases z
     ·have z2:=un.gb b ob _ z
      obtain⟨e1,_⟩:=hok b _ z
      obtain⟨e2,_⟩:=hok' b _ z2
      rw [e] at e1;cases e1
      exact e2
 cases hk:K.lookup a with
 | some o =>
  have e:=KX a o hk
  rw [ha] at e
  cases e
  refine core (λ _=>none) (λ _=>.inl rfl) (.inr ⟨_,vs.toArray,_,hk,rfl,rfl,rfl,by rw [QO,lenV];exact hl,by simpa using rv⟩) (λ b u z=>by have z':(none:Option HO)=some u:=z;cases z') (λ b z=>absurd rfl z) λ z=>absurd rfl z
 | none =>
  refine core (λ b=>if b=a then some (.frz { cls:=.type "list",data:=.seq vs.toArray } (.lst (ns.map V.int))) else none) (λ b=>?_) (.inl (.inr ⟨{ cls:=.type "list",data:=.seq vs.toArray },if_pos rfl⟩)) (λ b u z=>?_) (λ b z=>?_) λ _=>hk
  ·by_cases hb:b=a
   ·exact .inr ⟨_,_,if_pos hb⟩
   ·exact .inl (if_neg hb)
  ·by_cases hb:b=a
   ·have z':=(if_pos hb).symm.trans z
    cases z'
    subst hb
    exact⟨ha,by rw [QG];exact hl,vs,_,rv,ha⟩
   ·have z':=(if_neg hb).symm.trans z
    cases z'
  ·by_cases hb:b=a
   ·exact hb
   ·exact absurd (if_neg hb) z
abbrev KOf {K:Frag} {h:Heap} (_:K.In h):Frag:=K
theorem EW {l:OpenLaw} {n k:Nat} {q:Program} {loose:List Str} {XP:(Str->Option Value)->Heap->Prop} {YP:World->Heap->Prop} {d:DefRec} {K:Params->Frag} {CX:World->CXT} {sp:World->Sp} {x:Str}
  (hn:l.most=some n) (hn2:n ≤ sizeLine) (hdf:d.params.defaults = []) (hr:bU k callerA)
  (hY:∀(w:World) (h:Heap),YP w h->(K w.params).In h)
  (F:∀(w:World) (mg:Str->Option Value) (fa:Addr) (h:Heap),(K w.params).In h->h.Ns mainGlobals mg->mg d.name=some (.ref fa) →
   ∃ fd:FuncData,(∀(s:Shared) (u:Value),BindsTo s fd ⟨[u],[]⟩ [(x,u)]) ∧
    ∀ base:Heap,(K w.params).In base->base.Ns mainGlobals mg->aX l.prog w (K w.params) mg base (CX w) k fa fd [x] (sp w))
  (hsp:∀(w:World) (H:Hp) (a:Addr) (ns:List Int),ns.length ≤ n->Dt H->SqL (K w.params) H a (ns.map V.int)->sp w [.ref a] H (λ v _=>v = .bl true) λ _ _ _=>False)
  (hCX:∀(w:World) (H:Hp) (s:Shared) (e:Value) (s':Shared),CX w [] H s (λ _ _ _=>False) e s'->False) :
  WalkO q loose XP YP l.row.toRowW d [] (λ f vs=>PySem.call f vs):=by
 refine Att.sQ hn hdf λ w s₀ s₁ mg mb fa o pm cd doc a vs ns G Y ho hd hcd hmg hobj hints hlen hg=>?_
 have KX:=hY w _ Y
 obtain⟨fd,hb,hF⟩:=F w mg fa _ KX G.T.g hmg
 exact Dr KX G.T.g G.T.b G.T.builtins G.T.nolimit hg hobj hints (Rp hlen hn2) hr hF hb (λ H hO hS=>hsp w H a ns hlen hO hS) λ H e s'=>hCX w H s₁ e s'
end L2
/- THE LAST THEOREM (shape;LID,My.* are yours):
  My.Adr: a structure of the addresses that your layer names (classes,functions);My.Txt K t: a structure (Prop) of the equations over K;
  My.txt_mk:{K} {implicit addresses ..} (e1:nsIn K mainGlobals "law" = some (some (.ref f))) (e2:K.lookup f=some ⟨oc,od,.func (fnOf "law" "law" params body scope dV kV doc pm an cdv ct),sl⟩) (e3:codeIn K cdv "law" = true) ..:∃ t,My.Txt K t
set_option maxRecDepth 100000 in
set_option maxHeartbeats 0 in
theorem PySem.Challenge.cw_LID_holds : PySem.Challenge.rw_LID.Holds := by
 w_on;o_law;k_head;(case hw=>w_witness2)
 k_fill
 refine L2.EW (l:=PySem.Challenge.rw_LID) (n:=63) (k:=40) (x:="script") (CX:=λ w=>..) (sp:=λ _=>My.qv) rfl (by decide) rfl ⟨rfl,by decide,by decide⟩ (λ w h Y=>kIn_of Y) ?F ?S ?C
 case F =>
  intro w mg fa h KX G hmg
  have T:∃ t,My.Txt (L2.KOf KX) t:=by
   dsimp only [L2.KOf]                          -- K must stand as «<heap const> w.params» for k_is
   refine' My.txt_mk ?e1 ?e2 ?e3 ..
   (case e1=>PySem.W.k_is)                    -- in the order: a name -> its address -> its object -> its parts
   (case e2=>PySem.W.k_is)
   ..
  obtain⟨t,T⟩:=T
  have e0:=hmg.symm.trans (QL KX G T.law)
  cases e0                                       -- fa is the law's own address
  exact⟨_,λ s u=>.of_eq rfl,λ base kb nb=>My.law_fn T kb nb⟩     -- if «.of_eq rfl» comes too early: refine' ⟨_,?b,λ base kb nb=>My.law_fn T kb nb⟩;exact λ s u=>.of_eq rfl
 case S=>exact λ w H a ns hl hO hS=>..
 case C=>exact ..
(the tactic k_is has no namespace: write k_is) -/
namespace L2
open PySem PySem.Spec PyProof.Rows
def inClass (s:Stmt) (j:Nat):Stmt:=match s with
 | .ClassDef _ _ _ body _ _ _ _ _ _ _=>body.getD j (.Pass ⟨0,0,0,0⟩)
 | _=>.Pass ⟨0,0,0,0⟩
def aN (s:Stmt):Arguments:=match s with
 | .FunctionDef _ a _ _ _ _ _ _ _ _=>a
 | _=>{ posonlyargs:=[],args:=[],vararg:=none,kwonlyargs:=[],kw_defaults:=[],kwarg:=none,defaults:=[] }
def aJ (s:Stmt):List Stmt:=match s with
 | .FunctionDef _ _ b _ _ _ _ _ _ _=>b
 | _=>[]
def av (s:Stmt):Scope:=match s with
 | .FunctionDef _ _ _ _ _ _ sc _ _ _=>sc
 | _=>{ kind:=.function,names:=[],isGenerator:=false,isCoroutine:=false }
abbrev E0:XK:=λ _ _ _=>False
structure Fun (K:Frag) (x qual:Str) (st:Stmt) (f:Addr) (fd:FuncData):Prop where
 ex:∃(oc:Value) (od:Option Addr) (kV doc pm:Value) (an:Option Addr) (cdv ct:Value) (osl:Array (Option Value)),
  fd=fnOf x qual (aN st) (aJ st) (av st) .none kV doc pm an cdv ct /\ K.lookup f=some ⟨oc,od,.func fd,osl⟩ /\ codeIn K cdv qual=true
 kp:keepIn K (.ref f)=true
section
variable {P:Program} {w:World} {K:Frag} {mg:Str->Option Value} {base:Heap}
theorem Fun.binds {x qual:Str} {st:Stmt} {f:Addr} {fd:FuncData} {ps:List Str} (F:Fun K x qual st f fd)
  (h:∀(kV doc pm:Value) (an:Option Addr) (cdv ct:Value) (us:List Value),us.length=ps.length->bindArgs (fnOf x qual (aN st) (aJ st) (av st) .none kV doc pm an cdv ct) ⟨us,[]⟩=pure (ps.zip us)):Binds K fd ps []:=by
 obtain⟨oc,od,kV,doc,pm,an,cdv,ct,osl,rfl,lk,hcd⟩:=F.ex
 exact .all (h kV doc pm an cdv ct)
theorem aU {x qual:Str} {st:Stmt} {f:Addr} {oc:Value} {od an:Option Addr} {osl:Array (Option Value)} {kV doc pm cdv ct:Value} (l:K.lookup f=some ⟨oc,od,.func (fnOf x qual (aN st) (aJ st) (av st) .none kV doc pm an cdv ct),osl⟩)
  (c:codeIn K cdv qual=true) (k:keepIn K (.ref f)=true):Fun K x qual st f (fnOf x qual (aN st) (aJ st) (av st) .none kV doc pm an cdv ct):=⟨⟨oc,od,kV,doc,pm,an,cdv,ct,osl,rfl,l,c⟩,k⟩
end
theorem bS {A:Around} {k:Nat} (hr:bU k A):A.units + 1 < cLine:=Si (Nat.add_le_add_left (by decide:1 ≤ 64) _) hr.units
theorem aY {n:Nat} (h:n ≤ 1000):n < sizeLine:=Si h (by decide)
section
variable {X:Cx}
theorem pv (i:Nat) {x:Str} {pos:Pos} (hN:X.N[i]? = some x:=by rfl) (hv:Vis X.env.scope x:=by first | exact Or.inl rfl | exact Or.inr (Or.inl rfl) | exact Or.inr (Or.inr rfl)) (hd:(x ==("__debug__":Str))=false:=by decide)
  (hcd:(x ==("__classdict__":Str))=false:=by decide):PE X (.Name x pos) (Ft i):=B3 hN hv hd hcd
end
theorem dM {A B:Prop} (h:B):if false=true then A else B:=by
 rw [if_neg QV]
 exact h
theorem dX {A B:Prop} (h:A):if true=true then A else B:=by
 rw [if_pos rfl]
 exact h
theorem Nl {c A B:Prop} [Decidable c] (h1:c->A) (h2:¬ c->B):if c then A else B:=by
 by_cases h:c
 ·rw [if_pos h]
  exact h1 h
 ·rw [if_neg h]
  exact h2 h
def az (H H':Hp):Prop:=∀ b o,H b=some o->H' b=some o
theorem az.refl (H:Hp):az H H:=λ _ _ h=>h
theorem az.trans {H H1 H2:Hp} (a:az H H1) (b:az H1 H2):az H H2:=λ c o h=>b c o (a c o h)
theorem az.free {H H':Hp} (e:az H H') {l:Addr} (h:H' l=Option.none):H l=Option.none:=by
 cases q:H l with
 | none=>rfl
 | some o =>
  rw [e l o q] at h
  cases h
theorem az.seq {K:Frag} {H H':Hp} {a:Addr} {xs:List V} (e:az H H') (h:SqL K H a xs):SqL K H' a xs:=by
 rcases h with(h |⟨o,h⟩) | h
 ·exact .inl (.inl (e _ _ h))
 ·exact .inl (.inr ⟨o,e _ _ h⟩)
 ·exact .inr h
end L2
set_option maxHeartbeats 4000000
namespace L2
open PySem PySem.Spec PyProof.Rows
section
variable {κ:Type} [DecidableEq κ]
def bg (kvs:List (κ × V)) (k:κ):Option V:=(kvs.find? λ kv=>decide (kv.1=k)).map (·.2)
def putK (kvs:List (κ × V)) (k:κ) (v:V):List (κ × V) :=
 if (kvs.any λ kv=>decide (kv.1=k))=true then kvs.map (λ kv=>if kv.1=k then(kv.1,v) else kv) else kvs ++ [(k,v)]
def dI (kvs:List (κ × V)) (k:κ):List (κ × V):=kvs.filter λ kv=>decide (kv.1 ≠ k)
theorem Du {k:κ}:bg ([]:List (κ × V)) k=none:=rfl
theorem cT {p:κ × V} {r:List (κ × V)} {k:κ} (e:p.1=k):bg (p :: r) k=some p.2:=by simp [bg,List.find?_cons,e]
theorem cF {p:κ × V} {r:List (κ × V)} {k:κ} (e:¬ p.1=k):bg (p :: r) k=bg r k:=by simp [bg,List.find?_cons,e]
theorem jb (k:κ):∀ kvs:List (κ × V),(kvs.any λ kv=>decide (kv.1=k)) =(bg kvs k).isSome
 | []=>rfl
 | p :: r=>by
  rw [Vw]
  by_cases e:p.1=k
  ·simp only [cT e,decide_eq_true e,Bool.true_or,Option.isSome_some]
  ·rw [cF e,QY e,Bool.false_or];exact jb k r
theorem yI (k j:κ) (y:V):∀ kvs:List (κ × V),bg (kvs.map λ kv=>if kv.1=k then(kv.1,y) else kv) j =(bg kvs j).map λ x=>if j=k then y else x
 | []=>rfl
 | p :: r=>by
  have ih:=yI k j y r
  rw [Rk]
  by_cases h:p.1=k
  ·rw [if_pos h]
   by_cases e:p.1=j
   ·rw [cT (p:=(p.1,y)) e,cT e,Ud,if_pos (e.symm.trans h)]
   ·rw [cF (p:=(p.1,y)) e,cF e,ih]
  ·rw [if_neg h]
   by_cases e:p.1=j
   ·rw [cT (p:=p) e,cT e,Ud,if_neg (λ z=>h (e.trans z))]
   ·rw [cF (p:=p) e,cF e,ih]
theorem xj (k j:κ) (y:V):∀ kvs:List (κ × V),bg kvs k=none->bg (kvs ++ [(k,y)]) j=if j=k then some y else bg kvs j
 | [],_=>by
  by_cases e:k=j
  ·rw [if_pos e.symm];exact cT (p:=(k,y)) e
  ·rw [if_neg (λ z=>e z.symm)];exact cF (p:=(k,y)) e
 | p :: r,hn=>by
  rw [Wj]
  have hk:¬ p.1=k:=λ z=>by rw [cT z] at hn;cases hn
  rw [cF hk] at hn
  have ih:=xj k j y r hn
  by_cases e:p.1=j
  ·rw [cT e,cT e,if_neg (λ z=>hk (e.trans z))]
  ·rw [cF e,cF e,ih]
theorem eN (kvs:List (κ × V)) (k j:κ) (y:V):bg (putK kvs k y) j=if j=k then some y else bg kvs j:=by
 unfold putK
 by_cases a:(kvs.any λ kv=>decide (kv.1=k))=true
 ·rw [if_pos a,yI]
  rw [jb] at a
  by_cases e:j=k
  ·obtain⟨x,hx⟩:=R4.mp a
   rw [if_pos e,e,hx,Ud,if_pos rfl]
  ·rw [if_neg e]
   cases bg kvs j with
   | none=>rfl
   | some x=>rw [Ud,if_neg e]
 ·rw [if_neg a]
  refine xj k j y kvs ?_
  rw [jb] at a
  cases q:bg kvs k with
  | none=>rfl
  | some x=>rw [q] at a;exact(a rfl).elim
theorem fP (kvs:List (κ × V)) (k:κ) (v:V):(putK kvs k v).length ≤ kvs.length + 1:=by
 unfold putK
 split
 ·rw [QG];omega
 ·rw [Rj,RV,Ww];omega
theorem yF {kvs:List (κ × V)} {k:κ} (v:V) (h:bg kvs k=none):putK kvs k v=kvs ++ [(k,v)]:=by
 unfold putK
 rw [jb,h]
 exact if_neg (by decide)
theorem fj.ki {o:Option V} {u:Option Value} (r:fj o u):o.isSome=u.isSome:=by
 cases o with
 | none=>cases u with
  | none=>rfl
  | some _=>exact(show False from r).elim
 | some _=>cases u with
  | none=>exact(show False from r).elim
  | some _=>rfl
theorem fj.getD {o:Option V} {u:Option Value} {d:V} {d':Value} (r:fj o u) (rd:RelV d d'):RelV (o.getD d) (u.getD d'):=by
 cases o with
 | none=>cases u with
  | none=>exact rd
  | some _=>exact(show False from r).elim
 | some _=>cases u with
  | none=>exact(show False from r).elim
  | some _=>exact r
theorem KV.val {kvs:List (κ × V)} {vs:List (κ × Value)} (r:KV kvs vs) (k:κ):fj (bg kvs k) (valueAt vs k):=by
 unfold KV at r
 induction r with
 | nil=>exact True.intro
 | @cons p q ps qs h t ih =>
  obtain⟨h1,h2⟩:=h
  by_cases e:p.1=k
  ·have e':q.1=k:=h1.symm.trans e
   have b:valueAt (q :: qs) k=some q.2:=by simp [valueAt,List.find?_cons,e']
   rw [cT e,b];exact h2
  ·have e':¬ q.1=k:=λ z=>e (h1.trans z)
   have b:valueAt (q :: qs) k=valueAt qs k:=by simp [valueAt,List.find?_cons,e']
   rw [cF e,b];exact ih
theorem KV.any {kvs:List (κ × V)} {vs:List (κ × Value)} (r:KV kvs vs) (k:κ):(kvs.any λ kv=>decide (kv.1=k))=vs.any λ kv=>decide (kv.1=k):=by
 unfold KV at r
 induction r with
 | nil=>rfl
 | cons h t ih=>rw [Vw,Vw,ih,h.1]
theorem KV.repl {kvs:List (κ × V)} {vs:List (κ × Value)} (r:KV kvs vs) (k:κ) {y:V} {u:Value} (ry:RelV y u) :
  KV (kvs.map λ kv=>if kv.1=k then(kv.1,y) else kv) (vs.map λ kv=>if kv.1=k then(kv.1,u) else kv):=by
 unfold KV at r ⊢
 induction r with
 | nil=>exact .nil
 | @cons p q ps qs h t ih =>
  rw [Rk,Rk]
  refine .cons ?_ ih
  obtain⟨h1,h2⟩:=h
  by_cases e:p.1=k
  ·rw [if_pos e,if_pos (h1.symm.trans e)];exact⟨h1,ry⟩
  ·rw [if_neg e,if_neg (λ z=>e (h1.trans z))];exact⟨h1,h2⟩
theorem KV.put {kvs:List (κ × V)} {vs:List (κ × Value)} (r:KV kvs vs) (k:κ) {y:V} {u:Value} (ry:RelV y u):KV (putK kvs k y) (stored vs k u):=by
 unfold putK stored
 rw [r.any k]
 by_cases e:(vs.any λ kv=>decide (kv.1=k))=true
 ·rw [if_pos e,if_pos e];exact r.repl k ry
 ·rw [if_neg e,if_neg e];exact Paired.snoc r ⟨rfl,ry⟩
theorem KV.drop {kvs:List (κ × V)} {vs:List (κ × Value)} (r:KV kvs vs) (k:κ):KV (dI kvs k) (without vs k):=by
 unfold KV at r ⊢
 unfold dI without
 induction r with
 | nil=>exact .nil
 | @cons p q ps qs h t ih =>
  obtain⟨h1,h2⟩:=h
  rw [Tq,Tq]
  by_cases e:p.1=k
  ·have a:¬ decide (p.1 ≠ k)=true:=by simp [e]
   have b:¬ decide (q.1 ≠ k)=true:=by simp [h1.symm.trans e]
   rw [if_neg a,if_neg b];exact ih
  ·have e':¬ q.1=k:=λ z=>e (h1.trans z)
   have a:decide (p.1 ≠ k)=true:=by simp [e]
   have b:decide (q.1 ≠ k)=true:=by simp [e']
   rw [if_pos a,if_pos b];exact .cons ⟨h1,h2⟩ ih
theorem KV.keys {kvs:List (κ × V)} {vs:List (κ × Value)} (r:KV kvs vs):kvs.map (·.1)=vs.map (·.1):=by
 unfold KV at r
 induction r with
 | nil=>rfl
 | cons h t ih=>rw [Rk,Rk,ih,h.1]
theorem KV.length {kvs:List (κ × V)} {vs:List (κ × Value)} (r:KV kvs vs):kvs.length=vs.length:=Vv r
theorem yv (kvs:List (κ × V)) (k:κ):(dI kvs k).length ≤ kvs.length:=Tj _ _
end
theorem j9 {P:Program} {w:World} {k:Key} {u:Value} (r:RelV (kV k) u):(bG P w).is k u=true:=by
 cases k with
 | inl i=>obtain⟨t,e⟩:=(show ∃ t,u=Value.int i t from r);subst e;exact zU P w i t
 | inr x=>obtain⟨t,e⟩:=(show ∃ t,u=Value.str x t from r);subst e;exact zQ P w x t
theorem wQ {P:Program} {w:World}:∀ {ks:List Key} {us:List Value},Vals (ks.map kV) us->ItemsAre (bG P w) ks us
 | [],_,r=>by rw [VQ] at r;cases r;exact .nil
 | k :: ks,_,r=>by
  rw [Rk] at r
  cases r with
  | cons h t=>exact .cons (j9 h) (wQ t)
abbrev KT (H:Hp):List (List Key × V)->List (List Key × Addr × Value)->Prop:=Paired λ p q=>p.1=q.1 /\ H q.2.1=some (.tup (p.1.map kV)) /\ RelV p.2 q.2.2
theorem KT.val {H:Hp} {kvs:List (List Key × V)} {xs:List (List Key × Addr × Value)} (r:KT H kvs xs) (k:List Key):fj (bg kvs k) ((atKey xs k).map (·.2)):=by
 induction r with
 | nil=>exact True.intro
 | @cons p q ps qs h t ih =>
  obtain⟨h1,_,h2⟩:=h
  by_cases e:p.1=k
  ·have e':q.1=k:=h1.symm.trans e
   have b:atKey (q :: qs) k=some q.2:=by simp [atKey,List.find?_cons,e']
   rw [cT e,b];exact h2
  ·have e':¬ q.1=k:=λ z=>e (h1.trans z)
   have b:atKey (q :: qs) k=atKey qs k:=by simp [atKey,List.find?_cons,e']
   rw [cF e,b];exact ih
theorem KT.repl {H:Hp} {kvs:List (List Key × V)} {xs:List (List Key × Addr × Value)} (r:KT H kvs xs) (k:List Key) {y:V} {u:Value} (ry:RelV y u) :
  KT H (kvs.map λ kv=>if kv.1=k then(kv.1,y) else kv) (xs.map (putAt k u)):=by
 induction r with
 | nil=>exact .nil
 | @cons p q ps qs h t ih =>
  rw [Rk,Rk]
  refine .cons ?_ ih
  obtain⟨h1,h2,h3⟩:=h
  unfold putAt
  by_cases e:p.1=k
  ·rw [if_pos e,if_pos (h1.symm.trans e)];exact⟨h1,h2,ry⟩
  ·rw [if_neg e,if_neg (λ z=>e (h1.trans z))];exact⟨h1,h2,h3⟩
theorem KT.put {H:Hp} {kvs:List (List Key × V)} {xs:List (List Key × Addr × Value)} (r:KT H kvs xs) (k:List Key) {b:Addr} {y:V} {u:Value} (hb:H b=some (.tup (k.map kV))) (ry:RelV y u) :
  KT H (putK kvs k y) (storedH xs k b u):=by
 have e:(kvs.any λ kv=>decide (kv.1=k)) =(atKey xs k).isSome:=by
  rw [jb,(r.val k).ki,TR]
 unfold putK storedH
 rw [e]
 by_cases q:(atKey xs k).isSome=true
 ·rw [if_pos q,if_pos q];exact r.repl k ry
 ·rw [if_neg q,if_neg q];exact Paired.snoc r ⟨rfl,hb,ry⟩
theorem KT.keeps {H H':Hp} {kvs:List (List Key × V)} {xs:List (List Key × Addr × Value)} (r:KT H kvs xs) (ht:∀ b ys,H b=some (.tup ys)->H' b=some (.tup ys)):KT H' kvs xs :=
 Paired.Dn r λ _ _ z=>⟨z.1,ht _ _ z.2.1,z.2.2⟩
section
variable {P:Program} {w:World} {H:Hp} {h:Heap} {a:Addr}
theorem Eg {u:HO} (ok:HOk P w H h) (e:Rd H a u):bB P w H h a u:=e.ok ok
theorem kQ {kvs:List (Key × V)} (ok:HOk P w H h) (e:Rd H a (.dK kvs)):kvs.length ≤ sizeLine /\(a == sysModules)=false /\ ∃ vs,KV kvs vs /\ h.DictOf (bG P w) a vs :=
 show bB P w H h a (.dK kvs) from Eg ok e
theorem oR {kvs:List (Key × V)} (ok:HOk P w H h) (e:H a=some (.dK kvs)):kvs.length ≤ sizeLine /\(a == sysModules)=false /\ ∃ vs,KV kvs vs /\ h.DictOf (bG P w) a vs:=kQ ok (.inl e)
theorem lF {ks:List Key} (ok:HOk P w H h) (e:H a=some (.tup (ks.map kV))):(tupleKind (bG P w)).is h ks a:=by
 obtain⟨_,its,r,o,h1,h2,n,h3⟩:=(show bB P w H h a (.tup (ks.map kV)) from ok a _ e)
 exact⟨o,its.toArray,n,h1,h2,h3,by simpa using wQ r⟩
theorem mS {kvs:List (List Key × V)} (ok:HOk P w H h) (e:Rd H a (.dT kvs)):kvs.length ≤ sizeLine /\(a == sysModules)=false ∧
  ∃ xs,KT H kvs xs /\ h.DictOfH (tupleKind (bG P w)) a xs:=by
 obtain⟨z,y,xs,r,o,es,ep,h1,h2,h3,h4,h5⟩:=(show bB P w H h a (.dT kvs) from Eg ok e)
 refine⟨z,y,xs,r,o,es,ep,h1,h2,h3,h4,λ x hx=>?_,h5⟩
 have all:∀ {l:List (List Key × V)} {m:List (List Key × Addr × Value)},KT H l m->∀ x ∈ m,(tupleKind (bG P w)).is h x.1 x.2.1:=by
  intro l m q
  induction q with
  | nil=>intro x hx;exact nomatch hx
  | @cons p q ps qs hq t ih =>
   intro x hx
   rcases Rh.mp hx with e | hx
   ·subst e
    exact lF ok (by rw [← hq.1];exact hq.2.1)
   ·exact ih x hx
 exact all r x hx
theorem GS {kvs:List (List Key × V)} (ok:HOk P w H h) (e:H a=some (.dT kvs)):kvs.length ≤ sizeLine /\(a == sysModules)=false ∧
  ∃ xs,KT H kvs xs /\ h.DictOfH (tupleKind (bG P w)) a xs:=mS ok (.inl e)
end
def dJ (H:Hp) (a:Addr) (y:V) (r:Option V):Prop :=
 (∃ kvs k,Rd H a (.dK kvs) /\ y=kV k /\ r=bg kvs k) ∨ ∃ kvs k b,Rd H a (.dT kvs) /\ y = .ref b /\ H b=some (.tup (k.map kV)) /\ r=bg kvs k
def oG (H:Hp) (a:Addr) (y v:V) (H':Hp):Prop :=
 (∃ kvs k,H a=some (.dK kvs) /\ y=kV k /\ kvs.length < sizeLine /\ H'=upd H a (.dK (putK kvs k v))) ∨
 ∃ kvs k b,H a=some (.dT kvs) /\ y = .ref b /\ H b=some (.tup (k.map kV)) /\ kvs.length < sizeLine /\ H'=upd H a (.dT (putK kvs k v))
theorem dJ.k {H:Hp} {a:Addr} {kvs:List (Key × V)} {k:Key} (e:H a=some (.dK kvs)):dJ H a (kV k) (bg kvs k):=.inl ⟨kvs,k,.inl e,rfl,rfl⟩
theorem oG.k {H:Hp} {a:Addr} {kvs:List (Key × V)} {k:Key} {v:V} (e:H a=some (.dK kvs)) (hl:kvs.length < sizeLine):oG H a (kV k) v (upd H a (.dK (putK kvs k v))):=.inl ⟨kvs,k,e,rfl,hl,rfl⟩
section
variable {X:Cx} {pins:List (Addr × Obj)} {σ:St} {H:Hp} {s:Shared} {a:Addr} {y v:V} {u r:Value} {o:Option V} {A:Around} {E:Value->Shared->Prop}
theorem Inv.big (I:Inv X pins σ H s):sysModules < s.heap.objs.size:=by
 have h:mainGlobals < s.heap.objs.size:=(I.mod.glob.keeps I.bk).lt
 exact Nat.lt_trans (by decide) h
theorem CF {Q:Value->Shared->Prop} (hu:A.units + 1 < cLine) (I:Inv X pins σ H s) (g:dJ H a y (some v)) (ry:RelV y u) (h:∀ w' s',Inv X pins σ H s'->RelV v w'->Q w' s') :
  wpAny (model X.prog X.w) A (getItem (.ref a) u) Q E s:=by
 rcases g with⟨kvs,k,e,ey,l⟩ |⟨kvs,k,b,e,ey,eb,l⟩
 ·subst ey
  obtain⟨z,hd,vs,rel,dd⟩:=kQ I.hok e
  obtain⟨w',hw,rw'⟩:=fj.some_of (v:=v) (o:=valueAt vs k) (by rw [l];exact rel.val k)
  exact wpAny_getItem_of (j9 ry) dd.mapOf hw (h w' _ (I.tok _) rw')
 ·subst ey
  cases (show u=Value.ref b from ry)
  obtain⟨z,hd,xs,rel,dd⟩:=mS I.hok e
  obtain⟨w',hw,rw'⟩:=fj.some_of (v:=v) (o:=(atKey xs k).map (·.2)) (by rw [l];exact rel.val k)
  obtain⟨p,hp,hp2⟩:=QX.mp hw
  refine wpAny_getItem_heap (SH hu) (lF I.hok eb) dd hp ?_
  rw [hp2]
  exact h w' _ (I.tok _) rw'
theorem OC {Q:Value->Shared->Prop} (hu:A.units + 1 < cLine) (I:Inv X pins σ H s) (g:dJ H a y o) (ry:RelV y u) (h:∀ s',Inv X pins σ H s'->Q (.bool o.isSome) s') :
  wpAny (model X.prog X.w) A (compareOp .In u (.ref a)) Q E s:=by
 rcases g with⟨kvs,k,e,ey,l⟩ |⟨kvs,k,b,e,ey,eb,l⟩
 ·subst ey
  obtain⟨z,hd,vs,rel,dd⟩:=kQ I.hok e
  refine wpAny_in_of (j9 ry) hd dd.mapOf ?_
  rw [← (rel.val k).ki,← l]
  exact h _ (I.tok _)
 ·subst ey
  cases (show u=Value.ref b from ry)
  obtain⟨z,hd,xs,rel,dd⟩:=mS I.hok e
  refine wpAny_in_heap (SH hu) (lF I.hok eb) hd dd ?_
  have q:=(rel.val k).ki
  rw [TR] at q
  rw [← q,← l]
  exact h _ (I.tok _)
theorem EY {Q:Value->Shared->Prop} (hu:A.units + 1 < cLine) (I:Inv X pins σ H s) (g:dJ H a y o) (ry:RelV y u) (h:∀ s',Inv X pins σ H s'->Q (.bool (!o.isSome)) s') :
  wpAny (model X.prog X.w) A (compareOp .NotIn u (.ref a)) Q E s:=by
 rcases g with⟨kvs,k,e,ey,l⟩ |⟨kvs,k,b,e,ey,eb,l⟩
 ·subst ey
  obtain⟨z,hd,vs,rel,dd⟩:=kQ I.hok e
  refine wpAny_notIn_of (j9 ry) hd dd.mapOf ?_
  rw [← (rel.val k).ki,← l]
  exact h _ (I.tok _)
 ·subst ey
  cases (show u=Value.ref b from ry)
  obtain⟨z,hd,xs,rel,dd⟩:=mS I.hok e
  refine wpAny_notIn_heap (SH hu) (lF I.hok eb) hd dd ?_
  have q:=(rel.val k).ki
  rw [TR] at q
  rw [← q,← l]
  exact h _ (I.tok _)
theorem ou {h':Heap} {t':Nat} {ob:HO} (I:Inv X pins σ H s) (mu:Mut (H a)) (hs:Heap.SameBut a s.heap h') (he:∃ q,h'.get? a=some q) (new:bB X.prog X.w (upd H a ob) h' a ob) :
  Inv X pins σ (upd H a ob) { s with heap:=h',toks:=t' } :=
 I.write (x:=a) (e:=a) mu (.inl rfl) (λ b q hb z=>(hs.2 b hb).trans z) he new
theorem rm {P:Program} {w:World} {H':Hp} {h':Heap} {kvs:List (Key × V)} {vs:List (Key × Value)} (z:kvs.length ≤ sizeLine) (hd:(a == sysModules)=false) (rel:KV kvs vs) (dd:h'.DictOf (bG P w) a vs) :
  bB P w H' h' a (.dK kvs):=⟨z,hd,vs,rel,dd⟩
theorem Ce {H':Hp} {Q:Unit->Shared->Prop} (hu:A.units + 1 < cLine) (I:Inv X pins σ H s) (g:oG H a y v H') (ry:RelV y u) (rv:RelV v r) (h:∀ s',Inv X pins σ H' s'->Q () s') :
  wpAny (model X.prog X.w) A (setItem (.ref a) u r) Q E s:=by
 rcases g with⟨kvs,k,e,ey,l,eH⟩ |⟨kvs,k,b,e,ey,eb,l,eH⟩
 ·subst ey eH
  obtain⟨z,hd,vs,rel,dd⟩:=oR I.hok e
  have hz:vs.length ≤ sizeLine:=by rw [← rel.length];exact z
  have hl:(putK kvs k v).length ≤ sizeLine:=by have:=fP kvs k v;omega
  refine wpAny_setItem_pairs (hsz:=hz) (j9 ry) dd λ h' dd' hs=>h _ ?_
  have he:∃ q,h'.get? a=some q:=let ⟨q,_,_,hq,_⟩:=dd';⟨q,hq⟩
  exact ou I (by rw [e];exact True.intro) hs he (rm hl hd (rel.put k rv) dd')
 ·subst ey eH
  cases (show u=Value.ref b from ry)
  obtain⟨z,hd,xs,rel,dd⟩:=GS I.hok e
  have hz:xs.length ≤ sizeLine:=by rw [← Vv rel];exact z
  have hl:(putK kvs k v).length ≤ sizeLine:=by have:=fP kvs k v;omega
  refine wpAny_setItem_heap (hsz:=hz) (SH hu) (lF I.hok eb) dd λ h' dd' hs=>h _ ?_
  obtain⟨q,es,ep,hq,h2,h3,h4,_,h5⟩:=dd'
  refine ou I (by rw [e];exact True.intro) hs ⟨q,hq⟩ ⟨hl,hd,_,(rel.put k eb rv).keeps λ c ys ec=>?_,q,es,ep,hq,h2,h3,h4,h5⟩
  rw [af (aR ec e (λ z=>nomatch z))]
  exact ec
end
section
variable {X:Cx} {pins:List (Addr × Obj)} {σ:St} {H:Hp} {s:Shared} {a:Addr} {kvs:List (Key × V)} {k:Key} {u:Value} {A:Around} {E:Value->Shared->Prop}
theorem GU {v:V} {more:List Value} {Q:Value->Shared->Prop} (I:Inv X pins σ H s) (e:H a=some (.dK kvs)) (ry:RelV (kV k) u) (l:bg kvs k=some v) (hm:more = [] ∨ ∃ x,more = [x])
  (h:∀ w' s',Inv X pins σ (upd H a (.dK (dI kvs k))) s'->RelV v w'->Q w' s'):wpAny (model X.prog X.w) A (call (.builtin "dict.pop") (.ref a :: u :: more)) Q E s:=by
 obtain⟨z,hd,vs,rel,dd⟩:=oR I.hok e
 obtain⟨w',hw,rw'⟩:=fj.some_of (v:=v) (o:=valueAt vs k) (by rw [← l];exact rel.val k)
 have hp:(keyPart u).isSome=true:=by
  cases k with
  | inl i=>obtain⟨t,q⟩:=(show ∃ t,u=Value.int i t from ry);subst q;rfl
  | inr x=>obtain⟨t,q⟩:=(show ∃ t,u=Value.str x t from ry);subst q;rfl
 have ha:argsOk "dict.pop" ⟨.ref a :: u :: more,[]⟩:=by
  rcases hm with q |⟨x,q⟩
  ·subst q;exact PySem.F.args_dict_pop_2 _ _
  ·subst q;exact PySem.F.args_dict_pop_3 _ _ _
 refine Tn Vh dd.typeIs PySem.F.entry_dict_pop ha (meets_dict_pop_there (bG X.prog X.w) a (j9 ry) more hm hp)
  ⟨vs,w',dd,by rw [← rel.length];exact z,hw,λ h' dd' hs=>h w' _ ?_ rw'⟩
 have he:∃ q,h'.get? a=some q:=let ⟨q,_,_,hq,_⟩:=dd';⟨q,hq⟩
 exact ou I (by rw [e];exact True.intro) hs he (rm (Rp (yv kvs k) z) hd (rel.drop k) dd')
theorem G0 {Q:Value->Shared->Prop} (I:Inv X pins σ H s) (e:Rd H a (.dK kvs)) (h:∀ t s',Inv X pins σ H s'->Q (.int kvs.length t) s'):wpAny (model X.prog X.w) A (call (.builtin "len") [.ref a]) Q E s:=by
 obtain⟨z,hd,vs,rel,dd⟩:=kQ I.hok e
 refine call_len_dict hd dd (by rw [← rel.length];rw [U7] at z;omega) ?_
 rw [← rel.length]
 exact h _ _ (I.tok _)
end
def Gg (i:Expr):Prop:=∀ ov iv,subscripted i false ov iv=operate [ov,iv] (getItem ov iv)
theorem Ew {prog:Program} {w:World} {A:Around} {E:Value->Shared->Prop} {s:Shared} {env:Env} {value slice:Expr} {pos:Pos} {T id:String} {Q:Value->Shared->Prop}
  (hl:typeLookup (.type T) "__getitem__" = pure (some (.builtin id))) (hs:Gg slice)
  (h:wpAny (model prog w) A (eval value env) (λ o s₁=>wpAny (model prog w) A (eval slice env) (λ i s₂=>s₂.TypeIs o T /\ wpAny (model prog w) A (getItem o i) Q E s₂) E s₁) E s) :
  wpAny (model prog w) A (eval (.Subscript value slice pos) env) Q E s:=by
 refine Subscript_ (Rf h (λ o s₁ h₁=>Rf h₁ (λ i s₂ h₂=>?_) λ _ _ x=>x) λ _ _ x=>x)
 obtain⟨hT,h₂⟩:=h₂
 unfold subscriptTail
 refine QB ?_
 rw [getitemInPython_of_ne hT.not_modules]
 refine QB (TF hT hl ?_)
 have fin:wpAny (model prog w) A (subscripted slice false o i) (λ r s₃=>wpAny (model prog w) A (letTemporaryGo value o r >>= λ _=>pure r) Q E s₃) E s₂:=by
  rw [hs o i]
  exact wpAny_operating (Rf h₂ (λ r s₃ h₃=>QB (wpAny_letTemporaryGo (QI h₃))) λ _ _ x=>x)
 first
  | exact QI (QB fin)
  | exact QB (QI (QB fin))
  | exact QB fin
theorem zL {X:Cx} {pins:List (Addr × Obj)} {σ:St} {H:Hp} {s:Shared} {a:Addr} {y:V} {o:Option V} (I:Inv X pins σ H s) (g:dJ H a y o):s.TypeIs (.ref a) "dict":=by
 rcases g with⟨kvs,k,e,_,_⟩ |⟨kvs,k,b,e,_,_,_⟩
 ·obtain⟨_,_,vs,_,dd⟩:=kQ I.hok e
  exact dd.typeIs
 ·obtain⟨_,_,xs,_,dd⟩:=mS I.hok e
  exact dd.typeIs
def Hv (td ty:TE):TE:=λ σ H Q=>td σ H λ x H1=>ty σ H1 λ y H2=>∃ a v,x = .ref a /\ dJ H2 a y (some v) /\ Q v H2
def Kq (ty td:TE):TE:=λ σ H Q=>ty σ H λ y H1=>td σ H1 λ x H2=>∃ a o,x = .ref a /\ dJ H2 a y o /\ Q (.bl o.isSome) H2
def Er (ty td:TE):TE:=λ σ H Q=>ty σ H λ y H1=>td σ H1 λ x H2=>∃ a o,x = .ref a /\ dJ H2 a y o /\ Q (.bl (!o.isSome)) H2
def Hz (td ty tv:TE):TS:=λ D σ H=>tv σ H λ v H1=>td σ H1 λ x H2=>ty σ H2 λ y H3=>∃ a H4,x = .ref a /\ oG H3 a y v H4 /\ D.nx σ H4
section
variable {X:Cx} {o i e value:Expr} {pos pos' tpos:Pos} {td ty tv:TE}
theorem cX (hu:X.A.units + 1 < cLine) (ho:PE X o td) (hi:PE X i ty) (hs:Gg i):PE X (.Subscript o i pos) (Hv td ty):=by
 intro pins s σ H Q I h
 refine Ew PySem.F.slot_dict_getitem.lookup hs (thn (ho pins s σ H _ I h) λ u s1 ⟨x,H1,I1,rx,q1⟩=>thn (hi pins s1 σ H1 _ I1 q1) λ iv s2 ⟨y,H2,I2,ry,a,v,ex,g,q2⟩=>?_)
 subst ex
 obtain rfl:u=Value.ref a:=rx
 exact⟨zL I2 g,CF hu I2 g ry λ w' s3 I3 rw'=>⟨v,H2,I3,rw',q2⟩⟩
theorem Cz (hu:X.A.units + 1 < cLine) (hi:PE X i ty) (ho:PE X o td):PC X .In i o (Kq ty td):=by
 intro pins s σ H Q I h
 refine thn (hi pins s σ H _ I h) λ iv s1 ⟨y,H1,I1,ry,q1⟩=>thn (ho pins s1 σ H1 _ I1 q1) λ u s2 ⟨x,H2,I2,rx,a,ov,ex,g,q2⟩=>?_
 subst ex
 obtain rfl:u=Value.ref a:=rx
 exact OC hu I2 g ry λ s3 I3=>⟨.bl ov.isSome,H2,I3,rfl,q2⟩
theorem ko (hu:X.A.units + 1 < cLine) (hi:PE X i ty) (ho:PE X o td):PC X .NotIn i o (Er ty td):=by
 intro pins s σ H Q I h
 refine thn (hi pins s σ H _ I h) λ iv s1 ⟨y,H1,I1,ry,q1⟩=>thn (ho pins s1 σ H1 _ I1 q1) λ u s2 ⟨x,H2,I2,rx,a,ov,ex,g,q2⟩=>?_
 subst ex
 obtain rfl:u=Value.ref a:=rx
 exact EY hu I2 g ry λ s3 I3=>⟨.bl (!ov.isSome),H2,I3,rfl,q2⟩
theorem nY (hu:X.A.units + 1 < cLine) (ho:PE X o td) (hi:PE X i ty) (hv:PE X value tv) (hs:swapsWith value (some (.Subscript o i pos')) pos.line X.env=pure false) :
  PS X (.Assign [.Subscript o i pos'] value pos) (Hz td ty tv):=by
 intro pins s σ H D I h
 refine wpAny_Assign_Subscript (thn (hv pins s σ H _ I h) λ r s1 ⟨v,H1,I1,rv,q1⟩=>thn (ho pins s1 σ H1 _ I1 q1) λ u s2 ⟨x,H2,I2,rx,q2⟩=>thn (hi pins s2 σ H2 _ I2 q2) λ iv s3 ⟨y,H3,I3,ry,a,H4,ex,g,q3⟩=>?_) hs
 subst ex
 obtain rfl:u=Value.ref a:=rx
 exact Ce hu I3 g ry rv λ s4 I4=>⟨σ,H4,I4,q3⟩
end
theorem D0 {P:Program} {w:World} {H:Hp} (h:Heap) (hb:sysModules < h.objs.size):bB P w H (h.push { cls:=.type "dict",data:=.dict #[] }) h.objs.size (.dK []) :=
 ⟨Rm _,Sb.mpr (RJ (QN hb)),[],.nil,Heap.DictOf.new h⟩
def FY:TE:=λ _ H Q=>∀ p,H p=none->Q (.ref p) (upd H p (.dK []))
section
variable {X:Cx} {pos:Pos}
theorem iC:PE X (.Dict [] [] pos) FY:=λ pins s σ H Q I h =>
 wpAny_Dict_empty ⟨.ref s.heap.objs.size,_,I.laid (a:=s.heap.objs.size) (o:=.dK []) (t':=s.toks) (λ _ _ q=>QD _ q) (QH _) (D0 s.heap I.big),rfl,h _ (I.hok.fresh (QH _))⟩
end
def cG (kvs more:List (Key × V)):List (Key × V):=more.foldl (λ acc kv=>putK acc kv.1 kv.2) kvs
theorem KV.merge:∀ {more:List (Key × V)} {rs:List (Key × Value)} {kvs:List (Key × V)} {vs:List (Key × Value)},KV more rs->KV kvs vs->KV (cG kvs more) (merged vs rs):=by
 intro more rs kvs vs r
 unfold KV at r
 induction r generalizing kvs vs with
 | nil=>intro q;exact q
 | @cons p q ps qs h t ih =>
  intro r0
  have e:KV (putK kvs p.1 p.2) (stored vs q.1 q.2):=by
   have:=r0.put p.1 h.2
   rw [← h.1];exact this
  exact ih e
theorem kJ:∀(more kvs:List (Key × V)),(cG kvs more).length ≤ kvs.length + more.length
 | [],kvs=>by show kvs.length ≤ kvs.length + 0;omega
 | p :: r,kvs=>by
  have h1:=kJ r (putK kvs p.1 p.2)
  have h2:=fP kvs p.1 p.2
  show(cG (putK kvs p.1 p.2) r).length ≤ _
  rw [RV];omega
structure M1 (X:Cx) (o:Expr) (m:Str) (apos:Pos) (e:Expr) (cpos:Pos):Prop where
 base:attributeBase o m X.env (eval o X.env)=eval o X.env
 few:((backTo cpos (starEach [e] X.env)).all (λ x=>!x.1) &&(backToKw cpos (keywordEach [] X.env)).all (λ x=>x.1.isSome)
  && decide (([e]:List Expr).length +([]:List Keyword).length +(if ([]:List Keyword).isEmpty then 0 else 1) < 30))=true
 line:(apos.endLine == cpos.line)=true
 trees:backTo cpos (starEach [e] X.env) = [(false,eval e X.env)]
structure M2 (X:Cx) (o:Expr) (m:Str) (apos:Pos) (e f:Expr) (cpos:Pos):Prop where
 base:attributeBase o m X.env (eval o X.env)=eval o X.env
 few:((backTo cpos (starEach [e,f] X.env)).all (λ x=>!x.1) &&(backToKw cpos (keywordEach [] X.env)).all (λ x=>x.1.isSome)
  && decide (([e,f]:List Expr).length +([]:List Keyword).length +(if ([]:List Keyword).isEmpty then 0 else 1) < 30))=true
 line:(apos.endLine == cpos.line)=true
 trees:backTo cpos (starEach [e,f] X.env) = [(false,eval e X.env),(false,eval f X.env)]
def IsD (H:Hp) (a:Addr):Prop:=(∃ kvs,Rd H a (.dK kvs)) ∨ ∃ kvs,Rd H a (.dT kvs)
theorem qy {X:Cx} {pins:List (Addr × Obj)} {σ:St} {H:Hp} {s:Shared} {a:Addr} (I:Inv X pins σ H s) (d:IsD H a) :
  s.TypeIs (.ref a) "dict" /\(∀ b,Value.ref a = .ref b->∃ ob,s.heap.get? b=some ob /\ ob.dict=none) /\(a == sysModules)=false:=by
 rcases d with⟨kvs,e⟩ |⟨kvs,e⟩
 ·obtain⟨_,hd,vs,_,dd⟩:=kQ I.hok e
  refine⟨dd.typeIs,λ b q=>?_,hd⟩
  cases q
  obtain⟨ob,_,_,h1,h2,_⟩:=dd
  exact⟨ob,h1,h2.2.1⟩
 ·obtain⟨_,hd,xs,_,dd⟩:=mS I.hok e
  refine⟨dd.typeIs,λ b q=>?_,hd⟩
  cases q
  obtain⟨ob,_,_,h1,h2,_⟩:=dd
  exact⟨ob,h1,h2.2.1⟩
section
variable {X:Cx} {pins:List (Addr × Obj)} {σ:St} {H:Hp} {s:Shared} {a:Addr} {y d:V} {u r:Value} {o:Option V} {A:Around} {E:Value->Shared->Prop}
theorem Gr {Q:Value->Shared->Prop} (hu:A.units + 1 < cLine) (I:Inv X pins σ H s) (g:dJ H a y o) (ry:RelV y u) (h:∀ w' s',Inv X pins σ H s'->RelV (o.getD .non) w'->Q w' s') :
  wpAny (model X.prog X.w) A (call (.builtin "dict.get") [.ref a,u]) Q E s:=by
 rcases g with⟨kvs,k,e,ey,l⟩ |⟨kvs,k,b,e,ey,eb,l⟩
 ·subst ey
  obtain⟨z,hd,vs,rel,dd⟩:=kQ I.hok e
  refine Tn Sj dd.typeIs S8 (UY _ _) (meets_dict_get (bG X.prog X.w) a (j9 ry) hd) ⟨_,dd.mapOf,h _ _ (I.tok _) ?_⟩
  rw [l]
  exact(rel.val k).getD rfl
 ·subst ey
  cases (show u=Value.ref b from ry)
  obtain⟨z,hd,xs,rel,dd⟩:=mS I.hok e
  refine Tn Sj dd.typeIs S8 (UY _ _) (meetsH_dict_get (tupleKind (bG X.prog X.w)) a b hd) ⟨SH hu,k,xs,lF I.hok eb,dd,h _ _ (I.tok _) ?_⟩
  rw [l]
  exact(rel.val k).getD rfl
theorem Gw {Q:Value->Shared->Prop} (hu:A.units + 1 < cLine) (I:Inv X pins σ H s) (g:dJ H a y o) (ry:RelV y u) (rd:RelV d r) (h:∀ w' s',Inv X pins σ H s'->RelV (o.getD d) w'->Q w' s') :
  wpAny (model X.prog X.w) A (call (.builtin "dict.get") [.ref a,u,r]) Q E s:=by
 rcases g with⟨kvs,k,e,ey,l⟩ |⟨kvs,k,b,e,ey,eb,l⟩
 ·subst ey
  obtain⟨z,hd,vs,rel,dd⟩:=kQ I.hok e
  refine Tn Sj dd.typeIs S8 (UZ _ _ _) (meets_dict_get_default (bG X.prog X.w) a (j9 ry) hd r) ⟨_,dd.mapOf,h _ _ (I.tok _) ?_⟩
  rw [l]
  exact(rel.val k).getD rd
 ·subst ey
  cases (show u=Value.ref b from ry)
  obtain⟨z,hd,xs,rel,dd⟩:=mS I.hok e
  refine Tn Sj dd.typeIs S8 (UZ _ _ _) (meetsH_dict_get_default (tupleKind (bG X.prog X.w)) a b hd r) ⟨SH hu,k,xs,lF I.hok eb,dd,h _ _ (I.tok _) ?_⟩
  rw [l]
  exact(rel.val k).getD rd
end
def FE (td ty:TE):TE:=λ σ H Q=>td σ H λ x H1=>∃ a,x = .ref a /\ IsD H1 a /\ ty σ H1 λ y H2=>∃ o,dJ H2 a y o /\ Q (o.getD .non) H2
def Fi (td ty tx:TE):TE:=λ σ H Q=>td σ H λ x H1=>∃ a,x = .ref a /\ IsD H1 a /\ ty σ H1 λ y H2=>tx σ H2 λ z H3=>∃ o,dJ H3 a y o /\ Q (o.getD z) H3
def Fv (td ty:TE):TE:=λ σ H Q=>td σ H λ x H1=>∃ a,x = .ref a /\ IsD H1 a /\ ty σ H1 λ y H2=>∃ kvs k v,H2 a=some (.dK kvs) /\ y=kV k /\ bg kvs k=some v /\ Q v (upd H2 a (.dK (dI kvs k)))
section
variable {X:Cx} {o e f:Expr} {apos cpos:Pos} {td ty tx:TE}
theorem DV (hu:X.A.units + 1 < cLine) (ho:PE X o td) (he:PE X e ty) (m:M1 X o "get" apos e cpos):PE X (.Call (.Attribute o "get" apos) [e] [] cpos) (FE td ty):=by
 intro pins s σ H Q I h
 refine Te m.base m.few m.line Sw Sj Vi (thn (ho pins s σ H _ I h) λ u s1 ⟨x,H1,I1,rx,a,ex,d,q1⟩=>?_)
 subst ex
 obtain rfl:u=Value.ref a:=rx
 obtain⟨t1,t2,_⟩:=qy I1 d
 refine⟨t1,t2,?_⟩
 rw [m.trees]
 refine RX rfl (So (RE (thn (he pins s1 σ H1 _ I1 q1) λ iv s2 ⟨y,H2,I2,ry,ov,g,q2⟩=>RN ?_)))
 exact Gr hu I2 g ry λ w' s3 I3 rw'=>⟨_,H2,I3,rw',q2⟩
theorem yz (hu:X.A.units + 1 < cLine) (ho:PE X o td) (he:PE X e ty) (hf:PE X f tx) (m:M2 X o "get" apos e f cpos):PE X (.Call (.Attribute o "get" apos) [e,f] [] cpos) (Fi td ty tx):=by
 intro pins s σ H Q I h
 refine Te m.base m.few m.line Sw Sj Vi (thn (ho pins s σ H _ I h) λ u s1 ⟨x,H1,I1,rx,a,ex,d,q1⟩=>?_)
 subst ex
 obtain rfl:u=Value.ref a:=rx
 obtain⟨t1,t2,_⟩:=qy I1 d
 refine⟨t1,t2,?_⟩
 rw [m.trees]
 refine RX rfl (So (RE (thn (he pins s1 σ H1 _ I1 q1) λ iv s2 ⟨y,H2,I2,ry,q2⟩ =>
  RE (thn (hf pins s2 σ H2 _ I2 q2) λ fv s3 ⟨z,H3,I3,rz,ov,g,q3⟩=>RN ?_))))
 exact Gw hu I3 g ry rz λ w' s4 I4 rw'=>⟨_,H3,I4,rw',q3⟩
theorem DU (ho:PE X o td) (he:PE X e ty) (m:M1 X o "pop" apos e cpos):PE X (.Call (.Attribute o "pop" apos) [e] [] cpos) (Fv td ty):=by
 intro pins s σ H Q I h
 refine Te m.base m.few m.line Sw Vh PySem.F.type_dict_pop (thn (ho pins s σ H _ I h) λ u s1 ⟨x,H1,I1,rx,a,ex,d,q1⟩=>?_)
 subst ex
 obtain rfl:u=Value.ref a:=rx
 obtain⟨t1,t2,_⟩:=qy I1 d
 refine⟨t1,t2,?_⟩
 rw [m.trees]
 refine RX rfl (So (RE (thn (he pins s1 σ H1 _ I1 q1) λ iv s2 ⟨y,H2,I2,ry,kvs,k,v,ea,ey,l,q2⟩=>RN ?_)))
 subst ey
 exact GU I2 ea ry l (.inl rfl) λ w' s3 I3 rw'=>⟨v,_,I3,rw',q2⟩
end
section
variable {X:Cx}
theorem B5:iX X (.builtin "len") (λ xs H Q=>∃ a kvs,xs = [V.ref a] /\ H a=some (.dK kvs) /\ Q (.int kvs.length) H):=by
 intro pins s σ H xs us Q I r h
 obtain⟨a,kvs,rfl,ha,q⟩:=h
 obtain⟨u,rfl,ru⟩:=vals1 r
 cases ru
 exact G0 I (.inl ha) λ t s' I'=>⟨.int kvs.length,H,I',⟨t,rfl⟩,q⟩
end
section
variable {κ:Type} [DecidableEq κ]
theorem DH {kvs:List (κ × V)} {k:κ} (h:bg kvs k=none):¬ k ∈ kvs.map (·.1):=by
 intro m
 obtain⟨p,hp,e⟩:=QS.mp m
 have q:(kvs.any λ kv=>decide (kv.1=k))=true:=List.any_eq_true.mpr ⟨p,hp,Rq e⟩
 rw [jb,h] at q
 exact absurd q (by simp)
theorem Af:∀ {l:List κ} {k:κ},l.Nodup->¬ k ∈ l->(l ++ [k]).Nodup
 | [],k,_,_=>by simp
 | a :: r,k,h,hk=>by
  obtain⟨h1,h2⟩:=Rz.mp h
  show(a ::(r ++ [k])).Nodup
  refine Rz.mpr ⟨λ m=>?_,Af h2 λ m=>hk (Rh.mpr (Or.inr m))⟩
  rcases Ro.mp m with q | q
  ·exact h1 q
  ·exact hk (Rh.mpr (Or.inl (QZ.mp q).symm))
theorem Ah {kvs:List (κ × V)} {k:κ} (v:V) (hn:(kvs.map (·.1)).Nodup) (h:bg kvs k=none):((putK kvs k v).map (·.1)).Nodup:=by
 rw [yF v h,RL]
 exact Af hn (DH h)
theorem BX {p:κ × V} {r:List (κ × V)} {k:κ} (e:p.1=k):dI (p :: r) k=dI r k:=by
 unfold dI
 rw [Tq,if_neg (by simp [e])]
theorem BU {p:κ × V} {r:List (κ × V)} {k:κ} (e:¬ p.1=k):dI (p :: r) k=p :: dI r k:=by
 unfold dI
 rw [Tq,if_pos (by simp [e])]
theorem Cm {kvs:List (κ × V)} {k:κ} {p:κ × V} (h:p ∈ dI kvs k):p ∈ kvs:=(SN.mp h).1
theorem tR:∀ {kvs:List (κ × V)} {k:κ},(kvs.map (·.1)).Nodup->((dI kvs k).map (·.1)).Nodup
 | [],_,_=>To
 | p :: r,k,h=>by
  have h:(p.1 :: r.map (·.1)).Nodup:=h
  obtain⟨h1,h2⟩:=Rz.mp h
  by_cases e:p.1=k
  ·rw [BX e]
   exact tR h2
  ·rw [BU e]
   show(p.1 ::(dI r k).map (·.1)).Nodup
   refine Rz.mpr ⟨λ m=>h1 ?_,tR h2⟩
   obtain⟨q,hq,eq⟩:=QS.mp m
   exact QS.mpr ⟨q,Cm hq,eq⟩
end
end L2
namespace Chk
def T (n:Nat):Nat:=n * 128 % 2 ^ 64 + n / 2 ^ 57
theorem FL {n:Nat}:T n=2 ^ 7 * (n % 2 ^ 57) + n / 2 ^ 57:=by
 unfold T;omega
theorem NC {n:Nat} (h:n < 2 ^ 64):T n < 2 ^ 64:=by
 unfold T;omega
theorem G4 {a b:Nat} (ha:a < 2 ^ 64) (hb:b < 2 ^ 64) (h:T a=T b):a=b:=by
 rw [FL,FL] at h
 have ea:=Wy a (2 ^ 57)
 have eb:=Wy b (2 ^ 57)
 have la:a / 2 ^ 57 < 2 ^ 7:=by omega
 have lb:b / 2 ^ 57 < 2 ^ 7:=by omega
 generalize a % 2 ^ 57=x at *
 generalize b % 2 ^ 57=y at *
 generalize a / 2 ^ 57=u at *
 generalize b / 2 ^ 57=v at *
 have e1:x=y:=by omega
 have e2:u=v:=by omega
 rw [← ea,← eb,e1,e2]
def D (n:Nat):Nat:=if n * 2 ≥ 2 ^ 64 then n * 2 - 2 ^ 64 + 1 else n * 2
theorem Et:∀ a b:Nat,(a ^^^ b) + 2 * (a &&& b)=a + b:=by
 intro a
 induction a using Nat.strongRecOn with
 | ind a ih =>
  intro b
  by_cases ha:a=0
  ·subst ha;simp
  ·have h:=ih (a / 2) (by omega) (b / 2)
   have e1:(a ^^^ b) / 2=a / 2 ^^^ b / 2:=Nat.xor_div_two
   have e2:(a &&& b) / 2=a / 2 &&& b / 2:=Nat.and_div_two
   have m0:(a ^^^ b) % 2 =(a % 2) ^^^ (b % 2):=by
    have:=Nat.xor_mod_two_pow (a:=a) (b:=b) (n:=1)
    simpa using this
   have m1:(a ^^^ b) % 2 =(a + b) % 2:=by
    rw [m0]
    rcases SQ a with h1 | h1 <;> rcases SQ b with h2 | h2 <;> rw [h1,h2,Nat.add_mod,h1,h2] <;> rfl
   have m2:(a &&& b) % 2 =(a % 2) &&&(b % 2):=by
    have:=Nat.and_mod_two_pow (a:=a) (b:=b) (n:=1)
    simpa using this
   have m3:(a % 2) &&&(b % 2)=if a % 2=1 /\ b % 2=1 then 1 else 0:=by
    rcases SQ a with h1 | h1 <;> rcases SQ b with h2 | h2 <;> rw [h1,h2] <;> rfl
   rw [m3] at m2
   rw [← e1,← e2] at h
   split at m2 <;> omega
def stp (c n:Nat):Nat:=T c ^^^ n
def chk (l:List Nat):Nat:=l.foldl stp 0
theorem qJ {c n:Nat} (hc:c < 2 ^ 64) (hn:n < 2 ^ 64):stp c n < 2 ^ 64:=VS (NC hc) hn
theorem fold_lt:∀ {l:List Nat} {c:Nat},c < 2 ^ 64->(∀ n ∈ l,n < 2 ^ 64)->l.foldl stp c < 2 ^ 64
 | [],_,hc,_=>hc
 | n :: r,c,hc,h=>fold_lt (l:=r) (qJ hc (h n RU)) λ m hm=>h m (Rg _ hm)
theorem vf {a b n:Nat} (h:a ^^^ n=b ^^^ n):a=b:=by
 have:(a ^^^ n) ^^^ n =(b ^^^ n) ^^^ n:=by rw [h]
 rwa [Nat.xor_assoc,Nat.xor_assoc,Nat.xor_self,VT,VT] at this
theorem sW {a b n:Nat} (h:n ^^^ a=n ^^^ b):a=b:=vf (n:=n) (by rw [Nat.xor_comm a,Nat.xor_comm b];exact h)
theorem zm:∀ {l:List Nat} {c d:Nat},c < 2 ^ 64->d < 2 ^ 64->(∀ n ∈ l,n < 2 ^ 64)->l.foldl stp c=l.foldl stp d->c=d
 | [],_,_,_,_,_,h=>h
 | n :: r,c,d,hc,hd,hl,h=>by
  have hn:=hl n RU
  have e:=zm (l:=r) (qJ hc hn) (qJ hd hn) (λ m hm=>hl m (Rg _ hm)) h
  exact G4 hc hd (vf e)
theorem A3 {pre post:List Nat} {x y:Nat} (hx:x < 2 ^ 64) (hy:y < 2 ^ 64) (h1:∀ n ∈ pre,n < 2 ^ 64) (h2:∀ n ∈ post,n < 2 ^ 64) (h:chk (pre ++ x :: post)=chk (pre ++ y :: post)):x=y:=by
 unfold chk at h
 rw [SS,SS,Tz,Tz] at h
 have hc:=fold_lt (c:=0) (by decide) h1
 have e:=zm (qJ hc hx) (qJ hc hy) h2 h
 exact sW e
end Chk
namespace L2
open PySem PySem.Spec PyProof.Rows
section
variable {X:Cx}
theorem fO:OpR X (binaryOp .FloorDiv) (rI (λ _ j=>0 < j /\ j.natAbs.log2 < 9000) λ i j=>.int (i / j)):=opI λ i j _ _ _ _ _ hc q=>by
 have h1:(0:Int) < j:=hc.1
 exact floordiv_int (by omega) (by rw [Int.fdiv_eq_ediv_of_nonneg i (by omega)];exact q) (.inl (PyProof.noPylong_of_log2 hc.2))
theorem oB {a b n:Int} {j1 j2 p1 p2 pos} (h:0 ≤ b /\ b ≤ 1000000 /\ a.natAbs < 2 ^ 64:=by decide) (e:a ^ b.toNat=n:=by first | rfl | decide +kernel) :
  PE X (.BinOp (.Constant (.int a) j1 p1) .Pow (.Constant (.int b) j2 p2) pos) (tC (.int n)):=λ pins s σ H Q I hw =>
 aO FT aq aq pins s σ H Q I ⟨_,_,rfl,rfl,h,by subst e;exact hw⟩
def Gh:V->Option Value
 | .ty n=>some (.type n)
 | .ref a=>some (.ref a)
 | _=>none
theorem zR:iX X (.builtin "isinstance") (λ xs H Q=>∃ x c cv t b,xs = [x,c] /\ Gh c=some cv /\ jR X.K H x t /\ kitOne X.K t cv=some b /\ Q (.bl b) H):=by
 rintro pins s σ H xs us Q I r ⟨x,c,cv,t,b,rfl,hc,ty,e,q⟩
 obtain⟨u,v,rfl,ru,rv⟩:=vals2 r
 have hv:v=cv:=by
  cases c <;> simp [Gh] at hc <;> subst hc <;> exact rv
 subst hv
 exact BL I ru ty e λ tk=>⟨.bl b,H,I.tok tk,rfl,q⟩
end
theorem jM {c A B:Prop} [Decidable c] (hc:c) (h:A):if decide c=true then A else B:=by
 rw [if_pos (Rq hc)];exact h
theorem jN {c A B:Prop} [Decidable c] (hc:¬ c) (h:B):if decide c=true then A else B:=by
 rw [if_neg (by rw [QY hc];decide)];exact h
def clos (cells:List (Str × Addr)):List (Str × NameKind)->List (Str × Addr)->List (Str × Addr)
 | [],acc=>acc
 |(n,k) :: r,acc=>clos cells r (if k == .free then(n,(cells.lookup n).getD 0) :: acc else acc)
theorem qY {env:Env}:∀(l:List (Str × NameKind)) (acc:List (Str × Addr)),(∀ y ∈ l,y.2 = .free->∃ c,env.cells.lookup y.1=some c) →
  (forIn l acc λ(x:Str × NameKind) (cs:List (Str × Addr))=>if (x.2 == NameKind.free)=true then do let a ← cellOf env x.1;pure (ForInStep.yield ((x.1,a) :: cs)) else pure (ForInStep.yield cs):Sem (List (Str × Addr)))=pure (clos env.cells l acc)
 | [],acc,_=>by simp only [List.forIn_nil];rfl
 |(n,k) :: r,acc,h=>by
  simp only [List.forIn_cons]
  cases hk:(k == NameKind.free) with
  | false =>
   simp only [Bool.false_eq_true,if_false]
   have ih:=qY (env:=env) r acc λ y hy=>h y (Rg _ hy)
   simp only [pure_bind,ih,clos,hk,Bool.false_eq_true,if_false]
  | true =>
   obtain⟨c,hc⟩:=h (n,k) RU (by simpa using hk)
   have e:cellOf env n=pure c:=by
    unfold cellOf;rw [show env.cells.lookup n=some c from hc]
   simp only [if_true,e,pure_bind]
   have ih:=qY (env:=env) r ((n,c) :: acc) λ y hy=>h y (Rg _ hy)
   rw [ih]
   simp only [clos,hk,if_true]
   rw [show env.cells.lookup n=some c from hc];rfl
theorem xA {scope:Scope} {env:Env} (h:∀ y ∈ scope.names,y.2 = .free->∃ c,env.cells.lookup y.1=some c):closureFor scope env=pure (clos env.cells scope.names []):=by
 have:=qY (env:=env) scope.names [] h
 unfold closureFor
 simp only [bind_pure]
 exact this
theorem zg {cells:List (Str × Addr)}:∀ {names:List (Str × NameKind)} {acc:List (Str × Addr)},(∀ y ∈ names,y.2 = .free->∃ c,cells.lookup y.1=some c)->(∀ x c,acc.lookup x=some c->cells.lookup x=some c) →
  ∀ x c,(clos cells names acc).lookup x=some c->cells.lookup x=some c
 | [],_,_,ha,x,c,h=>ha x c h
 |(n,k) :: r,acc,hn,ha,x,c,h=>by
  refine zg (names:=r) (λ y hy=>hn y (Rg _ hy)) ?_ x c h
  intro x c h
  split at h
  ·rename_i hk
   obtain⟨d,hd⟩:=hn (n,k) RU (by simpa using hk)
   rw [show cells.lookup n=some d from hd,QM] at h
   split at h
   ·rename_i e
    rw [eq_of_beq e,show cells.lookup n=some d from hd];exact h
   ·exact ha x c h
  ·exact ha x c h
theorem tH {cells:List (Str × Addr)}:∀ {names:List (Str × NameKind)} {acc:List (Str × Addr)} {x:Str},((x,NameKind.free) ∈ names ∨ ∃ c,acc.lookup x=some c)->∃ c,(clos cells names acc).lookup x=some c
 | [],acc,x,h=>by
  rcases h with h | h
  ·cases h
  ·exact h
 |(n,k) :: r,acc,x,h=>by
  refine tH (names:=r) ?_
  rcases h with h |⟨c,h⟩
  ·rcases Rh.mp h with h | h
   ·injection h with h1 h2
    subst h1;subst h2
    exact .inr ⟨(cells.lookup x).getD 0,by simp [List.lookup_cons]⟩
   ·exact .inl h
  ·right
   split
   ·rw [QM]
    split
    ·exact⟨_,rfl⟩
    ·exact⟨c,h⟩
   ·exact⟨c,h⟩
theorem mem_of_lookup {α:Type} {x:Str} {a:α}:∀ {l:List (Str × α)},l.lookup x=some a->(x,a) ∈ l
 | [],h=>by simp at h
 |(n,k) :: r,h=>by
  rw [QM] at h
  split at h
  ·rename_i e
   injection h with h
   rw [eq_of_beq e,h];exact RU
  ·exact Rg _ (mem_of_lookup h)
theorem ow {env:Env} {x:Str}:∀(names:List (Str × NameKind)),
  (names.map λ(n,k)=>if (k == NameKind.free && env.scope.kind == .function && env.kindOf n == some .cell) then(n,NameKind.cell) else(n,k)).lookup x =
   (names.lookup x).map λ k=>if (k == NameKind.free && env.scope.kind == .function && env.kindOf x == some .cell) then NameKind.cell else k
 | []=>rfl
 |(n,k) :: r=>by
  have ih:=ow (env:=env) (x:=x) r
  simp only [List.map_cons]
  by_cases e:x=n
  ·subst e
   split <;> rename_i hc
   ·simp only [List.lookup_cons,beq_self_eq_true,Option.map_some,hc,if_true]
   ·simp only [List.lookup_cons,beq_self_eq_true,Option.map_some]
    rw [if_neg hc]
  ·have e':(x == n)=false:=by simpa using e
   split <;> simp only [List.lookup_cons,e'] <;> exact ih
theorem oX {a b n:Nat} (h1:a < n) (h2:n ≤ b):a ≠ b:=by omega
def Cx.comp (X:Cx) (scope:Scope) (N:List Str) (C:Addr) (s₀:Shared) (H₀:Hp) (ex:List Addr):Cx :=
 {X with N:=N,s₀:=s₀,H₀:=H₀,env:=compEnvC scope (clos X.env.cells scope.names []) C X.env,outer:=X.stack,stack:=X.stack,ex:=ex,fn:=λ _=>false,pn:=[] }
def st0 (k:Nat) (cap:List Nat) (σ:St):St:=List.replicate k none ++ cap.map λ j=>(σ[j]?).getD none
def yp (XN:List Str) (fs sc:Scope) (N:List Str) (k:Nat) (cap:List Nat):Bool :=
 decide (sc.kind = .function) && sc.names.all (fun y=>decide (y.2 ≠ .cell)) && sc.names.all (fun y=>decide (y.2 ≠ .local) || decide (sc.names.lookup y.1 = some .local)) &&
 sc.names.all (λ y=>decide (y.2 ≠ .free) || decide (fs.names.lookup y.1=some .cell)) && decide (N.length=k + cap.length) &&
 (cap.zip (N.drop k)).all (λ p=>decide (XN[p.1]? = some p.2) && decide (sc.names.lookup p.2=some .free))
structure nX (XN:List Str) (fs sc:Scope) (N:List Str) (k:Nat) (cap:List Nat):Prop where
 kind:sc.kind = .function
 qZ:∀ y ∈ sc.names,y.2 ≠ .cell
 locs:∀ y ∈ sc.names,y.2 = .local->sc.names.lookup y.1 = some .local
 frees:∀ y ∈ sc.names,y.2 = .free->fs.names.lookup y.1=some .cell
 len:N.length=k + cap.length
 caps:∀ p ∈ cap.zip (N.drop k),XN[p.1]? = some p.2 /\ sc.names.lookup p.2=some .free
theorem nX.of {XN:List Str} {fs sc:Scope} {N:List Str} {k:Nat} {cap:List Nat} (h:yp XN fs sc N k cap=true):nX XN fs sc N k cap:=by
 unfold yp at h
 simp only [Bool.and_eq_true,List.all_eq_true,decide_eq_true_eq,Bool.or_eq_true] at h
 obtain⟨⟨⟨⟨⟨h1,h2⟩,h3⟩,h4⟩,h5⟩,h6⟩:=h
 exact⟨h1,h2,λ y hy e=>(h3 y hy).resolve_left λ z=>z e,λ y hy e=>(h4 y hy).resolve_left λ z=>z e,h5,h6⟩
section
variable {X:Cx} {pins:List (Addr × Obj)} {σ:St} {H:Hp} {s:Shared} {scope:Scope} {N:List Str} {k:Nat} {cap:List Nat} {fp:List Addr}
theorem Cx.wJ {x:Str} {C:Addr} {s₀:Shared} {H₀:Hp} {ex:List Addr} (hk:X.env.scope.kind = .function) :
  (X.comp scope N C s₀ H₀ ex).env.kindOf x =(scope.names.lookup x).map λ k=>if (k == NameKind.free && X.env.kindOf x == some .cell) then NameKind.cell else k:=by
 show(relabel scope X.env).names.lookup x=_
 unfold relabel
 rw [ow]
 congr 1
 funext k
 rw [hk];simp
theorem Inv.wL (I:Inv X pins σ H s) (c:nX X.N X.env.scope scope N k cap):∀ y ∈ scope.names,y.2 = .free->∃ d,X.env.cells.lookup y.1=some d :=
 λ y hy e=>I.ok.has y.1 (.inl (c.frees y hy e))
theorem Inv.block (I:Inv X pins σ H s) (c:nX X.N X.env.scope scope N k cap) (hf:∀ b ∈ fp,fu X pins H b) (ho:∀ b ∈ fp,∃ o,s.heap.get? b=some o) {D C:Addr} {s1:Shared}
  (hD:s.heap.objs.size ≤ D) (hC:s.heap.objs.size ≤ C) (hDC:D ≠ C) (hos:s1.os=s.os) (hg:s1.gens=s.gens) (keep:∀ b o,s.heap.get? b=some o->s1.heap.get? b=some o)
  (hl:s1.heap.get? D=some { cls:=.type "list",data:=.seq #[] }) (hn:s1.heap.Ns C λ _=>none) :
  Inv (X.comp scope N C s H fp) [] (st0 k cap σ) (upd H D (.lst [])) s1:=by
 have hfc:=I.wL c
 have lt:∀ b ∈ fp,b < s.heap.objs.size:=λ b hb=>let ⟨o,e⟩:=ho b hb;QF e
 have clt:∀ x d,X.env.cells.lookup x=some d->d < s.heap.objs.size:=λ x d e=>let ⟨v,o,q,_⟩:=I.cell x d e;QF q
 have sub:=zg (cells:=X.env.cells) (names:=scope.names) (acc:=[]) hfc (λ x c h=>by simp at h)
 have fresh:∀ a,s.heap.objs.size ≤ a->H a=none:=λ a h=>I.hok.fresh h
 have kindf:∀ x,((X.comp scope N C s H fp).env.kindOf x=some .cell ∨(X.comp scope N C s H fp).env.kindOf x=some .free)->(x,NameKind.free) ∈ scope.names:=λ x h=>by
  rw [Cx.wJ I.ok.kind] at h
  cases e:scope.names.lookup x with
  | none=>rw [e] at h;simp at h
  | some kd =>
   have m:=mem_of_lookup e
   rw [e] at h
   cases kd with
   | free=>exact m
   | cell=>exact absurd rfl (c.qZ _ m)
   | «local»=>simp at h
   | globalExplicit=>simp at h
   | globalImplicit=>simp at h
 have ok:(X.comp scope N C s H fp).Ok :=
  {mod:=I.ok.mod
   kind:=c.kind
   glob:=I.ok.glob
   blt:=I.ok.blt
   above:=hC
   inj:=λ x y d hx hy=>I.ok.inj x y d (sub x d hx) (sub y d hy)
   has:=λ x h=>tH (.inl (kindf x h))
   cab:=λ x d h=>by cases h
   hd:=I.ok.hd
   frames:=I.ok.frames
   stk:=.inl rfl
   exf:=λ b hb=>⟨λ z=>oX (lt b hb) hC z,λ x d hx=>(hf b hb).2.2.2.2.1 x d (sub x d hx)⟩
   bs:=I.bs
   bsz:=Rp I.ok.bsz I.sz
   qb:=λ b o e hb=>by
    rcases(hf b hb).2.2.2.1 with h | h
    ·exact I.ok.qb b o e h
    ·exact absurd (QF (I.ok.bs b o e).1) (Nat.not_lt.mpr h)
   qD:=λ b hb hm=>by
    rcases Rh.mp (I.zG b hm) with h | h
    ·exact(hf b hb).2.1 h
    ·exact(hf b hb).2.2.1 h
   iE:=I.stack
   frf:=I.wu }
 have nD:H D=none:=fresh D hD
 refine
  {ok:=ok
   os:=hos
   bare:=by rw [hg];exact I.bare
   base:=Un.laid keep hD nD
   loc:=⟨_,hn,?_⟩
   cell:=λ x d h=>let ⟨v,q⟩:=I.cell x d (sub x d h);⟨v,q.keeps keep⟩
   free:=by
    show upd H D _ C=none
    rw [af (RJ hDC)];exact fresh C hC
   fH:=λ x d h=>by
    have h':=sub x d h
    rw [af (oX (clt x d h') hD)];exact I.fH x d h'
   pin:=λ p hp=>by cases hp
   hok:=I.hok.laid keep hD ⟨Rm _,[],0,.nil,hl⟩
   len:=by
    show(st0 k cap σ).length=N.length
    unfold st0;rw [Rj,RZ,QG,c.len] }
 intro i x v hi hv _
 have hi:N[i]? = some x:=hi
 unfold st0 at hv
 by_cases hik:i < k
 ·rw [QW (by rw [RZ];exact hik),UW,if_pos hik] at hv
  cases hv
 ·rw [Rb (by rw [RZ];omega),RZ,QK] at hv
  cases ej:cap[i - k]? with
  | none=>rw [ej] at hv;cases hv
  | some j =>
   rw [ej] at hv
   have hv:(σ[j]?).getD none=some v:=Rc hv
   have hσ:σ[j]? = some (some v):=by
    cases e:σ[j]? with
    | none=>rw [e] at hv;cases hv
    | some z=>rw [e] at hv;exact congrArg some hv
   have hm:(j,x) ∈ cap.zip (N.drop k):=by
    refine R0.mpr ⟨i - k,?_⟩
    rw [List.getElem?_zip_eq_some]
    refine⟨ej,?_⟩
    rw [List.getElem?_drop,show k +(i - k)=i by omega];exact hi
   obtain⟨hX,hfree⟩:=c.caps _ hm
   have mf:=mem_of_lookup hfree
   have hcell:=c.frees _ mf rfl
   obtain⟨m,_,q⟩:=I.loc
   obtain⟨u,ru,lk⟩:=q j x v hX hσ (.inr (.inl hcell))
   refine⟨u,ru,.inr ⟨.inl ?_,?_⟩⟩
   ·rw [Cx.wJ I.ok.kind,hfree]
    have:(X.env.kindOf x == some NameKind.cell)=true:=by
     show(X.env.scope.names.lookup x == some NameKind.cell)=true
     rw [hcell];rfl
    simp [this]
   ·rcases lk with⟨hloc,_⟩ |⟨_,d,hd,hcv⟩
    ·have hloc:X.env.scope.names.lookup x = some .local:=hloc
     rw [hcell] at hloc;cases hloc
    ·obtain⟨d',hd'⟩:=tH (cells:=X.env.cells) (acc:=[]) (.inl mf:(x,NameKind.free) ∈ scope.names ∨ _)
     have:=sub x d' hd'
     rw [hd] at this;cases this
     exact⟨d,hd',hcv.keeps keep⟩
theorem Inv.El {H':Hp} {σ':St} {s1:Shared} {C:Addr} {ps:List (Addr × Obj)} (I:Inv X pins σ H s) (hf:∀ b ∈ fp,fu X pins H b) (J:Inv (X.comp scope N C s H fp) ps σ' H' s1):Inv X pins σ H' s1 :=
 I.xR (ch:=fp) J.os J.base J.hok J.bare λ b hb=>⟨(hf b hb).2.2.2.1,(hf b hb).2.1,(hf b hb).2.2.2.2.1,(hf b hb).2.2.2.2.2⟩
end
def GX (k:Nat) (cap:List Nat) (wi:TI) (g:TG) (tt:TT) (te:TE):TE:=λ σ H Q=>wi σ H λ J H1=>∀ D,H1 D=none->∃ W:Nat->Nat->St->Hp->List V->Prop,
 (∃ m,W 0 m (st0 k cap σ) (upd H1 D (.lst [])) []) /\ ∀ i m σ' H' ys,W i m σ' H' ys->(J.stop i H' /\ Q (.ref D) H') ∨
  (J.go i H' /\ ∃ N:St->Hp->List V->Prop,(∀ σ' H' ys',N σ' H' ys'->∃ m',m' < m /\ W (i + 1) m' σ' H' ys') /\ ∀ x H2,J.yld i H' x H2->g x σ' H2 λ σ3 H3=>tt σ3 H3 λ b H4=>if b=true then
   te σ3 H4 λ y H5=>H5 D=some (.lst ys) /\ ys.length < sizeLine /\ N σ3 (upd H5 D (.lst (ys ++ [y]))) (ys ++ [y])
   else N σ3 H4 ys)
def O6:TT:=λ _ H Q=>Q true H
def PTs (X:Cx) (ifs:List Expr) (t:TT):Prop :=
 ∀(pins:List (Addr × Obj)) (s:Shared) (σ:St) (H:Hp) (Q:Bool->Hp->Prop),Inv X pins σ H s->t σ H Q →
  wpAny (model X.prog X.w) X.A (forIn ifs true λ c r=>if r=true then do let ok ← isTrue c X.env (eval c X.env);pure (ForInStep.yield ok) else pure (ForInStep.yield r)) (TP X pins σ Q) X.xe s
theorem sq {X:Cx}:PTs X [] O6:=λ _ _ _ H _ I h=>wpAny_tests_nil ⟨H,I,h⟩
section
variable {prog:Program} {w:World} {A:Around} {R:Result->Shared->Prop} {s:Shared}
theorem p5 {elt target iter:Expr} {ifs:List Expr} {scope:Scope} {pos:Pos} {it acc:Value} {env:Env} (I:Nat->Shared->Prop)
  (turn:∀ n s,I n s->wpAny (model prog w) A (pyNext it) (λ r s₁=>match r with
   | none=>R (.ok .next) s₁
   | some v=>wpAny (model prog w) A (letOwnedTupleGo target it v) (λ _ s₀=>wpAny (model prog w) A (assign target env v) (λ _ s₂ =>
     wpAny (model prog w) A (forIn ifs true λ c r=>if r=true then do let ok ← isTrue c env (eval c env);pure (ForInStep.yield ok) else pure (ForInStep.yield r)) (λ ok s₃ =>
      if ok=true then wpAny (model prog w) A (eval elt env) (λ x s₄ =>
       wpAny (model prog w) A (call (.builtin "list.append") [acc,x]) (λ _ s₅=>∃ m,m < n /\ I m s₅) (notedBy (model prog w) A env λ e s'=>R (.error e) s') s₄) (notedBy (model prog w) A env λ e s'=>R (.error e) s') s₃
      else ∃ m,m < n /\ I m s₃) (notedBy (model prog w) A env λ e s'=>R (.error e) s') s₂) (notedBy (model prog w) A env λ e s'=>R (.error e) s') s₀) (notedBy (model prog w) A env λ e s'=>R (.error e) s') s₁) (notedBy (model prog w) A env λ e s'=>R (.error e) s') s)
  (n:Nat) (h:I n s) :
  codeAny (model prog w) A (.compLoop (.ListComp elt [⟨target,iter,ifs,0⟩] scope pos) 0 it acc env) R s:=by
 refine codeAny_loop rfl I (λ n s hI=>?_) n h
 show wpAny _ A ((compTurn (.ListComp elt [⟨target,iter,ifs,0⟩] scope pos) 0 it acc env).onRaise (λ x=>do noteFrame x env;theTreesLotGoes x)) _ _ s
 refine wpAny_noted ?_
 rw [compTurn_list]
 refine QB (Uw (QB (Rf (turn n s hI) (λ r s₁ h₁=>?_) λ _ _ h'=>h')))
 cases r with
 | none=>exact QI h₁
 | some v =>
  refine QB (Rf h₁ (λ _ s₀ h₀=>?_) λ _ _ h'=>h')
  refine QB (Rf h₀ (λ _ s₂ h₂=>QB (Rf h₂ (λ ok s₃ h₃=>?_) λ _ _ h'=>h')) λ _ _ h'=>h')
  cases ok with
  | false=>exact QI ⟨rfl,h₃⟩
  | true =>
   exact QB (QB (Rf h₃ (λ x s₄ h₄=>QB (Rf h₄ (λ _ s₅ h₅=>QI (QI ⟨rfl,h₅⟩)) λ _ _ h'=>h')) λ _ _ h'=>h'))
end
section
variable {X:Cx} {scope:Scope} {N:List Str} {k:Nat} {cap:List Nat} {tg iter elt:Expr} {ifs:List Expr} {wi:TI} {g:TG} {tt:TT} {te:TE} {pos:Pos}
theorem BJ {E:Value->Shared->Prop} {use:Option (Value->Sem Unit)} {QQ:Value->Shared->Prop} {pins:List (Addr × Obj)} {s:Shared} {σ:St} {H:Hp} {it:Addr} {fp:List Addr} {tn:Nat->Heap->Prop} {J:It} {Q:VK}
  (hc:X.calm=true) (c:nX X.N X.env.scope scope N k cap)
  (hg:∀ C s₀ H₀ ex,PG (X.comp scope N C s₀ H₀ ex).nox tg g) (ht:∀ C s₀ H₀ ex,PTs (X.comp scope N C s₀ H₀ ex).nox ifs tt) (he:∀ C s₀ H₀ ex,PE (X.comp scope N C s₀ H₀ ex).nox elt te)
  (I:Inv X pins σ H s) (T:Turn X.prog X.w X.K tg J fp it tn) (st:tn 0 s.heap) (hf:∀ b ∈ fp,fu X pins H b)
  (h:∀ D,H D=none->∃ W:Nat->Nat->St->Hp->List V->Prop,(∃ m,W 0 m (st0 k cap σ) (upd H D (.lst [])) []) /\ ∀ i m σ' H' ys,W i m σ' H' ys->(J.stop i H' /\ Q (.ref D) H') ∨
   (J.go i H' /\ ∃ N:St->Hp->List V->Prop,(∀ σ' H' ys',N σ' H' ys'->∃ m',m' < m /\ W (i + 1) m' σ' H' ys') /\ ∀ x H2,J.yld i H' x H2->g x σ' H2 λ σ3 H3=>tt σ3 H3 λ b H4=>if b=true then
    te σ3 H4 λ y H5=>H5 D=some (.lst ys) /\ ys.length < sizeLine /\ N σ3 (upd H5 D (.lst (ys ++ [y]))) (ys ++ [y])
    else N σ3 H4 ys))
  (hQ:∀ D C s1 H',Inv X pins σ H' s1->Q (.ref D) H'->(∃ m,s1.heap.Ns C m)->H' C = none->X.s₀.heap.objs.size ≤ C->C ≠ X.env.locals->(∀ x c,X.env.cells.lookup x = some c->c ≠ C)->(∀ p ∈ X.pn ++ pins,p.1 ≠ C) →
   compPost (model X.prog X.w) X.A E use QQ (.ref D) C (.ok .next) s1) :
  wpAny (model X.prog X.w) X.A (newList []) (λ acc s₃=>wpAny (model X.prog X.w) X.A (newFunctionEnv scope X.env.globals (clos X.env.cells scope.names []) [] X.env.qual none .none (some X.env)) (λ cenv s₄ =>
   codeAny (model X.prog X.w) X.A (.compStart (.ListComp elt [⟨tg,iter,ifs,0⟩] scope pos) 0 (.ref it) acc { cenv with scope:=relabel scope X.env }) (compPost (model X.prog X.w) X.A E use QQ acc cenv.locals) s₄) E s₃) E s:=by
 refine R9 (wpAny_newFunctionEnv c.qZ (by intro y hy;simp at hy) (λ h₁ hns₁ hsb₁=>?_) c.kind)
 dsimp only at hns₁ hsb₁ ⊢
 generalize hH2:s.heap.push { cls:=.type "list",dict:=none,data:=.seq ([]:List Value).toArray } = H2 at hns₁ hsb₁ ⊢
 have hC:H2.objs.size=s.heap.objs.size + 1:=by rw [← hH2,Sy]
 have hDC:s.heap.objs.size ≠ H2.objs.size:=by rw [hC];exact QN (Sh _)
 have hle:s.heap.objs.size ≤ H2.objs.size:=by rw [hC];exact Sf _
 have keep:∀ b o,s.heap.get? b=some o->h₁.get? b=some o:=λ b o e=>by
  exact hsb₁.extBut b o (oX (QF e) hle) (QD _ (hH2 ▸ QD _ e))
 have hl:h₁.get? s.heap.objs.size=some { cls:=.type "list",data:=.seq #[] }:=hsb₁.extBut _ _ hDC (QD _ (hH2 ▸ QU _ rfl))
 have nD:H s.heap.objs.size=none:=I.hok.fresh (QH _)
 obtain⟨W,⟨m0,w0⟩,turn⟩:=h _ nD
 have ho:∀ b ∈ fp,∃ o,s.heap.get? b=some o:=λ b hb=>let ⟨o,e,_⟩:=T.obj _ _ st b hb;⟨o,e⟩
 have hCs:X.s₀.heap.objs.size ≤ H2.objs.size:=Rp I.sz hle
 have hCl:H2.objs.size ≠ X.env.locals:=(oX I.lt hle).symm
 have hCc:∀ x d,X.env.cells.lookup x=some d->d ≠ H2.objs.size:=λ x d e=>by
  obtain⟨v,o,q,_⟩:=I.cell x d e
  exact oX (QF q) hle
 have hCp:∀ p ∈ X.pn ++ pins,p.1 ≠ H2.objs.size:=λ p hp=>by
  exact oX (QF (I.pin p hp).1) hle
 have loop:∀ s₃:Shared,s₃ = { s with heap:=h₁,toks:=s.toks +([]:List (Str × Value)).length } →
   codeAny (model X.prog X.w) X.A (.compLoop (.ListComp elt [⟨tg,iter,ifs,0⟩] scope pos) 0 (.ref it) (.ref s.heap.objs.size) (compEnvC scope (clos X.env.cells scope.names []) H2.objs.size X.env))
    (compPost (model X.prog X.w) X.A E use QQ (.ref s.heap.objs.size) H2.objs.size) s₃:=by
  rintro s₃ rfl
  have I0:Inv (X.comp scope N H2.objs.size s H fp) [] (st0 k cap σ) (upd H s.heap.objs.size (.lst [])) { s with heap:=h₁,toks:=s.toks +([]:List (Str × Value)).length } :=
   I.block c hf ho (QH _) hle hDC rfl rfl keep hl (by simpa using hns₁)
  have stat:∀ {H':Hp} {ps:List (Addr × Obj)},(∀ b ∈ fp,H' b=none)->ps = []->∀ b ∈ fp,fu (X.comp scope N H2.objs.size s H fp).nox ps H' b:=λ hn hp b hb=>by
   subst hp
   exact⟨hn b hb,(I0.ok.exf b hb).1,I0.ok.qD b hb,.inl hb,(I0.ok.exf b hb).2,λ p hp=>by cases hp⟩
  have nok:∀ b ∈ fp,upd H s.heap.objs.size (.lst []) b=none:=λ b hb=>by
   obtain⟨o,e⟩:=ho b hb
   rw [af (oX (QF e) (QH _))];exact(hf b hb).1
  refine p5 (λ n s'=>∃ i σ' H' ys,Inv (X.comp scope N H2.objs.size s H fp).nox [] σ' H' s' /\ tn i s'.heap /\(∀ b ∈ fp,H' b=none) /\ W i n σ' H' ys) ?_ m0
   ⟨0,_,_,[],I0.oM _,T.keep _ _ _ st λ b _ o e=>keep b o e,nok,w0⟩
  rintro n s' ⟨i,σ',H',ys,I',st',fr',w'⟩
  rcases turn i n σ' H' ys w' with⟨stop,q⟩ |⟨go,NN,hNN,step⟩
  ·refine Rf (T.done (X.comp scope N H2.objs.size s H fp).nox rfl rfl rfl hc i [] s' σ' H' (λ _ _=>False) I' (stat fr' rfl) st' stop) (λ r s4 ⟨hr,I4⟩=>?_) (λ _ _ x=>x.elim)
   subst hr
   exact hQ _ _ s4 H' (I.El hf I4.yS) q (let ⟨m,hn,_⟩:=I4.loc;⟨m,hn⟩) I4.free hCs hCl hCc hCp
  ·refine Rf (T.item (X.comp scope N H2.objs.size s H fp).nox rfl rfl rfl hc i [] s' σ' H' (λ _ _=>False) I' (stat fr' rfl) st' go) (λ r s4 ⟨u,hr,h4⟩=>?_) (λ _ _ x=>x.elim)
   subst hr
   refine Rf h4 (λ _ s5 ⟨x,H5,I5,r5,y5,st5,fr5⟩=>?_) (λ _ _ x=>x.elim)
   have I5':=I5.pinned (stat fr5 rfl) (T.obj _ _ st5)
   refine Rf (hg _ _ _ _ _ s5 σ' H5 x u _ I5' r5 (step x H5 y5)) (λ _ s6 ⟨σ6,H6,I6,q6⟩=>?_) (λ _ _ x=>x.elim)
   refine Rf (ht _ _ _ _ _ s6 σ6 H6 _ I6 q6) (λ ok s7 ⟨H7,I7,q7⟩=>?_) (λ _ _ x=>x.elim)
   have again:∀ {H8:Hp} {s8:Shared} {ys8:List V},Inv (X.comp scope N H2.objs.size s H fp).nox ([] ++ qL fp s5.heap) σ6 H8 s8->NN σ6 H8 ys8 →
     ∃ m,m < n /\ ∃ i σ' H' ys,Inv (X.comp scope N H2.objs.size s H fp).nox [] σ' H' s8 /\ tn i s8.heap /\(∀ b ∈ fp,H' b=none) /\ W i m σ' H' ys:=λ {H8 s8 ys8} I8 n8=>by
    obtain⟨m',hm,w8⟩:=hNN _ _ _ n8
    refine⟨m',hm,i + 1,σ6,H8,ys8,I8.pe,T.keep _ _ _ st5 λ b hb o e=>(I8.pin (b,o) (Rw _ (Rw _ (kW hb e)))).1,λ b hb=>?_,w8⟩
    obtain⟨o,e,d⟩:=T.obj _ _ st5 b hb
    exact(I8.pin (b,o) (Rw _ (Rw _ (kW hb e)))).2.1
   cases ok with
   | false=>exact again I7 q7
   | true =>
    refine Rf (he _ _ _ _ _ s7 σ6 H7 _ I7 q7) (λ y s8 ⟨v,H8,I8,rv,hD,hlen,w8⟩=>?_) (λ _ _ x=>x.elim)
    refine Rf (gv (X:=(X.comp scope N H2.objs.size s H fp).nox) _ s8 σ6 H8 (.ref s.heap.objs.size) [v] (.ref s.heap.objs.size) [y] (λ _ H9=>H9=upd H8 s.heap.objs.size (.lst (ys ++ [v]))) I8 rfl (.cons rv .nil) ⟨_,ys,v,rfl,rfl,hD,hlen,rfl⟩) (λ _ s9 ⟨_,H9,I9,_,e9⟩=>?_) (λ _ _ x=>x.elim)
    subst e9
    exact again I9 w8
 exact codeAny_compStart_list (loop _ rfl) (T.self _ 0 _ _ _ (T.keep _ _ _ st λ b _ o e=>keep b o e) (loop _ rfl))
theorem rT (hc:X.calm=true) (hco:yp X.N X.env.scope scope N k cap=true) (hi:PI X tg iter wi)
  (hg:∀ C s₀ H₀ ex,PG (X.comp scope N C s₀ H₀ ex).nox tg g) (ht:∀ C s₀ H₀ ex,PTs (X.comp scope N C s₀ H₀ ex).nox ifs tt) (he:∀ C s₀ H₀ ex,PE (X.comp scope N C s₀ H₀ ex).nox elt te)
  (hs:∀ x,foldedSetIterable iter X.env x=pure x:=by intro _;rfl):PE X (.ListComp elt [⟨tg,iter,ifs,0⟩] scope pos) (GX k cap wi g tt te):=by
 intro pins s σ H Q I h
 have c:=nX.of hco
 rw [eval_ListComp]
 refine wpAny_comprehension_free (use:=none) (cl:=clos X.env.cells scope.names []) rfl hs (xA (I.wL c)) c.kind c.locs (thn (hi pins s σ H _ I h) λ xv s₁ h₁=>thn h₁ λ itv s₂ h₂=>?_)
 obtain⟨it,fp,tn,J,H2,e,I2,T,st,hf,q⟩:=h₂
 subst e
 exact BJ (use:=none) hc c hg ht he I2 T st hf q λ D C s1 H' I1 q1 ⟨m,hn⟩ hCn hCs hCl hCc hCp =>
  ⟨m,hn,λ h' hs'=>⟨.ref D,H',I1.turned (t':=s1.toks) (λ b o hb e=>hs'.extBut b o hb e) hCn hCl (.inr hCs) hCc hCp,rfl,q1⟩⟩
end
theorem qV {K:Frag} {a:Addr} (D:Addr) {xs:List V} {g:TG} {tt:TT} {te:TE} {σ:St} {H:Hp} {R:Hp->Prop} (Pv:Nat->St->Hp->List V->Prop) (h0:Pv 0 σ H []) (hl:∀ i σ H ys,i ≤ xs.length->Pv i σ H ys->SqL K H a xs)
  (hs:∀ i x σ H ys,xs[i]? = some x->Pv i σ H ys->g x σ H λ σ3 H3=>tt σ3 H3 λ b H4=>if b=true then
   te σ3 H4 λ y H5=>H5 D=some (.lst ys) /\ ys.length < sizeLine /\ Pv (i + 1) σ3 (upd H5 D (.lst (ys ++ [y]))) (ys ++ [y]) else Pv (i + 1) σ3 H4 ys) (hd:∀ σ H ys,Pv xs.length σ H ys->R H) :
  ∃ W:Nat->Nat->St->Hp->List V->Prop,(∃ m,W 0 m σ H []) /\ ∀ i m σ' H' ys,W i m σ' H' ys->((Itl K a).stop i H' /\ R H') ∨
   ((Itl K a).go i H' /\ ∃ N:St->Hp->List V->Prop,(∀ σ' H' ys',N σ' H' ys'->∃ m',m' < m /\ W (i + 1) m' σ' H' ys') /\ ∀ x H2,(Itl K a).yld i H' x H2->g x σ' H2 λ σ3 H3=>tt σ3 H3 λ b H4=>if b=true then
    te σ3 H4 λ y H5=>H5 D=some (.lst ys) /\ ys.length < sizeLine /\ N σ3 (upd H5 D (.lst (ys ++ [y]))) (ys ++ [y])
    else N σ3 H4 ys):=by
 refine⟨λ i m σ H ys=>m=xs.length - i /\ i ≤ xs.length /\ Pv i σ H ys,⟨xs.length,by simp,Rm _,h0⟩,?_⟩
 rintro i m σ H ys ⟨rfl,hi,p⟩
 have q:=hl i σ H ys hi p
 by_cases hlt:i < xs.length
 ·refine .inr ⟨⟨xs,xs[i],q,by simp [hlt]⟩,Pv (i + 1),λ σ' H' ys' p'=>⟨xs.length -(i + 1),by omega,rfl,hlt,p'⟩,λ x H' y=>?_⟩
  obtain⟨e,y⟩:=y
  subst e
  exact hs i x σ _ ys (y xs q) p
 ·have e:i=xs.length:=by omega
  subst e
  exact .inl ⟨⟨xs,q,QH _⟩,hd σ H ys p⟩
section
variable {X:Cx} {K:Frag}
theorem Az {es:List Expr} {k:Nat} {t:TGs} {n:Nat} {pos:Pos} (hK:X.K=K) (hc:X.calm=true) (h:PGs X es t) (hn:(assignEach es X.env).length=n:=by rfl) (hst:(assignEach es X.env).findIdx? (·.1)=none:=by rfl) :
  PG X (.Tuple es k pos) (Fg K n t):=by subst hK;exact qA hc h hn hst
theorem xY (hK:X.K=K):IxR X (FQ K):=by subst hK;exact aW
theorem Ag (hK:X.K=K):IxR X (Ff K):=by subst hK;exact bE
end
theorem az.new {H:Hp} {p:Addr} {o:HO} (h:H p=none):az H (upd H p o):=λ b u e=>by rw [af (aj e h)];exact e
open PySem PySem.Spec PyProof.Rows PySem.SeqAt
def dG (K:Frag) (H:Hp) (R:V->V->Bool->Prop) (x y:V) (b:Bool):Prop :=
 ∃(a c:Addr) (xs ys:List V) (e:Nat->Bool),x = .ref a /\ y = .ref c ∧
  ((SqL K H a xs /\ SqL K H c ys /\ xs.length=ys.length /\(∀(j:Nat) x' y',xs[j]? = some x'->ys[j]? = some y'->R x' y' (e j)) /\ b =(List.range xs.length).all e) ∨
   (SqL K H a xs /\ SqL K H c ys /\ xs.length ≠ ys.length /\ b=false) ∨
   (SqT K H a xs /\ SqT K H c ys /\(∀(j:Nat) x' y',xs[j]? = some x'->ys[j]? = some y'->R x' y' (e j)) /\ b =((List.range (min xs.length ys.length)).all e && xs.length == ys.length)))
def EqI (K:Frag) (H:Hp):Nat->V->V->Bool->Prop
 | 0=>λ x y b=>(xU x=true /\ xU y=true /\ b=eqV x y) ∨ ∃ a,x = .ref a /\ y = .ref a /\ b=true
 | n + 1=>λ x y b=>EqI K H n x y b ∨(x ≠ y /\ dG K H (EqI K H n) x y b)
section
variable {X:Cx} {pins:List (Addr × Obj)} {σ:St} {H:Hp} {s:Shared} {A:Around}
theorem oK {xs ys:List V} {us vs:List Value} {R:V->V->Bool->Prop} {e:Nat->Bool} (r:Vals xs us) (q:Vals ys vs) (he:∀(j:Nat) x' y',xs[j]? = some x'->ys[j]? = some y'->R x' y' (e j))
  (hR:∀ x y b u v,R x y b->RelV x u->RelV y v->EqAt A s u v b):∀ j (h1:j < us.toArray.size) (h2:j < vs.toArray.size),EqAt A s us.toArray[j] vs.toArray[j] (e j):=λ j h1 h2=>by
 have h1':j < us.length:=by simpa using h1
 have h2':j < vs.length:=by simpa using h2
 have l1:=r.length
 have l2:=q.length
 have ex:xs[j]? = some (xs[j]'(by omega)):=QC (by omega)
 have ey:ys[j]? = some (ys[j]'(by omega)):=QC (by omega)
 obtain⟨u,eu,ru⟩:=Vals.get r ex
 obtain⟨v,ev,rv⟩:=Vals.get q ey
 have e1:us.toArray[j]=u:=by
  have:=(QE.mp eu).2
  simpa using this
 have e2:vs.toArray[j]=v:=by
  have:=(QE.mp ev).2
  simpa using this
 rw [e1,e2]
 exact hR _ _ _ _ _ (he j _ _ ex ey) ru rv
theorem dG.rc {R:V->V->Bool->Prop} {x y:V} {b:Bool} {u v:Value} (I:Inv X pins σ H s) (hR:∀ x y b u v,R x y b->RelV x u->RelV y v->EqAt A.in1 s u v b) (hu:A.units < cLine)
  (h:dG X.K H R x y b) (rx:RelV x u) (ry:RelV y v):RcAt A s u v b:=by
 obtain⟨a,c,xs,ys,e,rfl,rfl,h⟩:=h
 cases rx
 cases ry
 rcases h with⟨h1,h2,hl,he,rfl⟩ |⟨h1,h2,hl,rfl⟩ |⟨h1,h2,he,rfl⟩
 ·obtain⟨us,r,p,_⟩:=I.list h1
  obtain⟨vs,q,p2,_⟩:=I.list h2
  have l1:=r.length
  have l2:=q.length
  have z:=RcAt.lists (A:=A) (e:=e) p.isList p2.isList (by simp;omega) hu (oK r q he hR)
  rw [show us.toArray.size=xs.length by simp;omega] at z
  exact z
 ·obtain⟨us,r,p,_⟩:=I.list h1
  obtain⟨vs,q,p2,_⟩:=I.list h2
  have l1:=r.length
  have l2:=q.length
  exact RcAt.lists_lengths p.isList p2.isList (by simp;omega) hu
 ·obtain⟨us,r,p,_⟩:=I.tuple h1
  obtain⟨vs,q,p2,_⟩:=I.tuple h2
  have l1:=r.length
  have l2:=q.length
  have z:=RcAt.tuples (A:=A) (e:=e) (show s.heap.IsTuple a us.toArray from p) (show s.heap.IsTuple c vs.toArray from p2) hu (oK r q he hR)
  rw [show us.toArray.size=xs.length by simp;omega,show vs.toArray.size=ys.length by simp;omega] at z
  exact z
theorem dG.HY {R:V->V->Bool->Prop} {x y:V} {b:Bool} {u v:Value} (I:Inv X pins σ H s) (hR:∀ x y b u v,R x y b->RelV x u->RelV y v->EqAt A.in1 s u v b) (hu:A.units < cLine)
  (h:dG X.K H R x y b) (rx:RelV x u) (ry:RelV y v):RcNeAt A s u v (!b):=by
 obtain⟨a,c,xs,ys,e,rfl,rfl,h⟩:=h
 cases rx
 cases ry
 rcases h with⟨h1,h2,hl,he,rfl⟩ |⟨h1,h2,hl,rfl⟩ |⟨h1,h2,he,rfl⟩
 ·obtain⟨us,r,p,_⟩:=I.list h1
  obtain⟨vs,q,p2,_⟩:=I.list h2
  have l1:=r.length
  have l2:=q.length
  have z:=RcNeAt.lists (A:=A) (e:=e) p.isList p2.isList (by simp;omega) hu (oK r q he hR)
  rw [show us.toArray.size=xs.length by simp;omega] at z
  exact z
 ·obtain⟨us,r,p,_⟩:=I.list h1
  obtain⟨vs,q,p2,_⟩:=I.list h2
  have l1:=r.length
  have l2:=q.length
  exact RcNeAt.lists_lengths p.isList p2.isList (by simp;omega) hu
 ·obtain⟨us,r,p,_⟩:=I.tuple h1
  obtain⟨vs,q,p2,_⟩:=I.tuple h2
  have l1:=r.length
  have l2:=q.length
  have z:=RcNeAt.tuples (A:=A) (e:=e) (show s.heap.IsTuple a us.toArray from p) (show s.heap.IsTuple c vs.toArray from p2) hu (oK r q he hR)
  rw [show us.toArray.size=xs.length by simp;omega,show vs.toArray.size=ys.length by simp;omega] at z
  exact z
theorem EqI.at (I:Inv X pins σ H s):∀(n:Nat) {A:Around} {x y:V} {b:Bool} {u v:Value},A.units + n < cLine->EqI X.K H n x y b->RelV x u->RelV y v->EqAt A s u v b
 | 0,A,x,y,b,u,v,hu,h,rx,ry=>by
  rcases h with⟨fx,fy,rfl⟩ |⟨a,rfl,rfl,rfl⟩
  ·exact FI rx ry fx fy
  ·cases rx
   cases ry
   exact EqAt.same _
 | n + 1,A,x,y,b,u,v,hu,h,rx,ry=>by
  rcases h with h |⟨hne,h⟩
  ·exact EqI.at I n (by omega) h rx ry
  ·have z:=dG.rc (A:=A) I (λ x y b u v h rx ry=>EqI.at I n (A:=A.in1) (by show A.units + 1 + n < cLine;omega) h rx ry) (by omega) h rx ry
   obtain⟨a,c,xs,ys,e,rfl,rfl,_⟩:=h
   cases rx
   cases ry
   exact EqAt.of_refs (λ e=>hne (by rw [e])) z
def Ow (K:Frag):R2:=λ x y H Q=>∃(n:Nat) (b:Bool),n ≤ 8 /\ dG K H (EqI K H n) x y b /\ Q (.bl b) H
def PB (K:Frag):R2:=λ x y H Q=>∃(n:Nat) (b:Bool),n ≤ 8 /\ dG K H (EqI K H n) x y b /\ Q (.bl (!b)) H
theorem qS (hu:X.A.units + 64 < cLine):OpR X (compareOp .Eq) (Ow X.K):=by
 rintro pins s σ H x y v u Q I rx ry ⟨n,b,hn,h,q⟩
 exact dG.rc (A:=X.A) I (λ x y b u v h rx ry=>EqI.at I n (A:=X.A.in1) (by show X.A.units + 1 + n < cLine;omega) h rx ry) (by omega) h rx ry X.prog X.w X.xe _ ⟨.bl b,H,I,rfl,q⟩
theorem CL (hu:X.A.units + 64 < cLine):OpR X (compareOp .NotEq) (PB X.K):=by
 rintro pins s σ H x y v u Q I rx ry ⟨n,b,hn,h,q⟩
 exact dG.HY (A:=X.A) I (λ x y b u v h rx ry=>EqI.at I n (A:=X.A.in1) (by show X.A.units + 1 + n < cLine;omega) h rx ry) (by omega) h rx ry X.prog X.w X.xe _ ⟨.bl (!b),H,I,rfl,q⟩
end
theorem dG.Ht {K:Frag} {H:Hp} {a c:Addr} {xs:List V} (h1:SqL K H a xs) (h2:SqL K H c xs) (hx:∀ x ∈ xs,EqI K H n x x true):dG K H (EqI K H n) (.ref a) (.ref c) true :=
 ⟨a,c,xs,xs,λ _=>true,rfl,rfl,.inl ⟨h1,h2,rfl,λ j x y e1 e2=>by
  rw [e1] at e2;cases e2
  exact hx x (QJ e1),by simp⟩⟩
theorem dG.Hs {K:Frag} {H:Hp} {a c:Addr} {xs:List V} (h1:SqT K H a xs) (h2:SqT K H c xs) (hx:∀ x ∈ xs,EqI K H n x x true):dG K H (EqI K H n) (.ref a) (.ref c) true :=
 ⟨a,c,xs,xs,λ _=>true,rfl,rfl,.inr (.inr ⟨h1,h2,λ j x y e1 e2=>by
  rw [e1] at e2;cases e2
  exact hx x (QJ e1),by simp⟩)⟩
theorem AH {K:Frag} {H:Hp} (i:Int):EqI K H 0 (.int i) (.int i) true:=.inl ⟨rfl,rfl,by simp [eqV]⟩
theorem Ef {X:Cx} {tg it:Expr} {w1 w2:TI} (h1:PI X tg it w1) (h2:PI X tg it w2):PI X tg it (λ σ H R=>w1 σ H R ∨ w2 σ H R):=λ pins s σ H R I h=>h.elim (h1 pins s σ H R I) (h2 pins s σ H R I)
theorem qN {a b n:Nat} (h1:a < n) (h2:n ≤ b):a ≠ b:=by omega
theorem Inv.uS {X:Cx} {pins:List (Addr × Obj)} {σ:St} {H:Hp} {s:Shared} {h':Heap} {t':Nat} {ch:List Addr} (I:Inv X pins σ H s) (k:∀ b o,b ∉ ch->s.heap.get? b=some o->h'.get? b=some o) (hf:∀ b ∈ ch,fu X pins H b) :
  Inv X pins σ H { s with heap:=h',toks:=t' }:=by
 have nit:∀ b u,H b=some u->b ∉ ch:=λ b u e z=>by rw [(hf b z).1] at e;cases e
 refine I.step (g':=s.gens) (d':=s.drawn) (ch:=ch) (λ b hb=>⟨(hf b hb).2.2.2.1,(hf b hb).2.1,(hf b hb).2.2.2.2.1,(hf b hb).2.2.2.2.2⟩) (λ b o _ _ hc e _=>k b o hc e) (λ b o _ _ hc e _=>⟨o.slots,k b o hc e⟩) (λ _ _ _ _ n=>n)
  (λ b o hc e=>⟨o,k b o hc e⟩) (λ _ _ e=>e) (λ _ _ _ e=>e) (λ b ps e=>⟨#[],by rw [e];simp⟩) (λ m hm=>?_) (λ b u e=>?_) I.bare
 ·obtain⟨o,es,ep,ho,r⟩:=hm
  exact⟨o,es,ep,k _ o (λ z=>(hf _ z).2.1 rfl) ho,r⟩
 ·refine(I.hok b u e).stay (λ c v hc q=>k c v ?_ q) (λ _ q=>q) λ _ _ q=>q
  rcases hc with z | z
  ·rw [z];exact nit b u e
  ·exact nit c _ z
theorem Inv.uY {X:Cx} {pins:List (Addr × Obj)} {σ:St} {H:Hp} {s:Shared} {h':Heap} {t':Nat} {ch:List Addr} {T:Addr} {u:HO} (I:Inv X pins σ H s) (k:∀ b o,b ∉ ch->s.heap.get? b=some o->h'.get? b=some o) (hf:∀ b ∈ ch,fu X pins H b)
  (hT:s.heap.objs.size ≤ T) (new:bB X.prog X.w (upd H T u) h' T u):Inv X pins σ (upd H T u) { s with heap:=h',toks:=t' }:=by
 have hn:H T=none:=I.hok.fresh hT
 have nit:∀ b u,H b=some u->b ∉ ch:=λ b u e z=>by rw [(hf b z).1] at e;cases e
 have nT:∀ b o,s.heap.get? b=some o->b ≠ T:=λ b o e=>qN (QF e) hT
 refine I.step (g':=s.gens) (d':=s.drawn) (ch:=ch) (λ b hb=>⟨(hf b hb).2.2.2.1,(hf b hb).2.1,(hf b hb).2.2.2.2.1,(hf b hb).2.2.2.2.2⟩) (λ b o _ _ hc e _=>k b o hc e) (λ b o _ _ hc e _=>⟨o.slots,k b o hc e⟩) (λ b o _ e n=>by rw [af (nT b o e)];exact n)
  (λ b o hc e=>⟨o,k b o hc e⟩) (λ b xs e=>by rw [af (aj e hn)];exact e) (λ b o xs e=>by rw [af (aj e hn)];exact e) (λ b ps e=>⟨#[],by rw [af (aj e hn),e];simp⟩) (λ m hm=>?_) (λ b v e=>?_) I.bare
 ·obtain⟨o,es,ep,ho,r⟩:=hm
  exact⟨o,es,ep,k _ o (λ z=>(hf _ z).2.1 rfl) ho,r⟩
 ·by_cases hb:b=T
  ·subst hb;rw [ak] at e;cases e;exact new
  ·rw [af hb] at e
   refine(I.hok b v e).stay (λ c v hc q=>k c v ?_ q) (λ c q=>by rw [af (aj q hn)];exact q) λ c xs q=>by rw [af (aj q hn)];exact q
   rcases hc with z | z
   ·rw [z];exact nit b _ e
   ·exact nit c _ z
def kj:List Value:=[.type "ValueError",.type "Exception",.type "BaseException",.type "object"]
def B7:Value->Bool
 | .ref _=>true
 | _=>false
def cU (l:List Value):Bool:=l.dropWhile B7 == kj
theorem qh {l:List Value} (h:cU l=true):∃ rs:List Addr,l=rs.map Value.ref ++ kj:=by
 induction l with
 | nil=>exact absurd h (by decide)
 | cons x r ih =>
  unfold cU at h
  by_cases hx:B7 x=true
  ·rw [VB,if_pos hx] at h
   obtain⟨rs,e⟩:=ih h
   cases x <;> first | cases hx | skip
   rename_i a
   exact⟨a :: rs,by rw [e];rfl⟩
  ·rw [VB,if_neg hx] at h
   exact⟨[],by rw [SY.mp h];rfl⟩
theorem uN {T:String} (hT:kj.contains (.type T)=true) {l:List Value} (h:cU l=true):l.contains (.type T)=true:=by
 obtain⟨rs,rfl⟩:=qh h
 rw [Ue]
 simp only [List.contains_eq_mem,decide_eq_true_eq] at hT ⊢
 exact Rw _ hT
theorem BF {l:List Value} (h:cU l=true):l.isEmpty=false:=by
 cases l with
 | nil=>exact absurd h (by decide)
 | cons _ _=>rfl
theorem AW (self:Value) {l:List Value} (h:cU l=true):refuseLoop self "__setattr__" l=pure ():=by
 obtain⟨rs,rfl⟩:=qh h
 induction rs with
 | nil=>exact UP.passes self
 | cons a r ih =>
  show refuseLoop self "__setattr__" (.ref a ::(r.map Value.ref ++ kj))=_
  rw [refuseLoop_ref]
  refine ih ?_
  have:∀ r:List Addr,cU (r.map Value.ref ++ kj)=true:=λ r=>by
   induction r with
   | nil=>decide
   | cons b r ih=>exact ih
  exact this r
def jz (K:Frag) (C:Addr):Bool:=match K.lookup C with
 | some ⟨.type "type",_,.cls cd,sl⟩=>(match cd.mro,sl.toList with
  | .ref D :: bm,[_,_,_,_,some (.builtin n),_]=>D == C && !cd.hasDel && cU bm && n == "ValueError.__new__" && cd.hasDict
  | _,_=>false)
 | _=>false
structure Dy (h:Heap) (C:Addr):Prop where
 ex:∃ nm q N bs bm sn sub ab col dd k0 k1 k2 k3 k5,h.get? C=some (excClassObj nm q C N bs bm true sn sub ab col dd k0 k1 k2 k3 k5 "ValueError.__new__") /\ cU bm=true
theorem Aq {K:Frag} {C:Addr} (q:jz K C=true):∃ nm qn N bs bm sn sub ab col dd k0 k1 k2 k3 k5,K.lookup C=some (excClassObj nm qn C N bs bm true sn sub ab col dd k0 k1 k2 k3 k5 "ValueError.__new__") /\ cU bm=true:=by
 unfold jz at q
 split at q
 ·rename_i dd cd sl ho
  split at q
  ·rename_i D bm k0 k1 k2 k3 n k5 hm hs
   simp only [Bool.and_eq_true,beq_iff_eq,Bool.not_eq_true'] at q
   obtain⟨⟨⟨⟨rfl,hdel⟩,hb⟩,rfl⟩,hd⟩:=q
   obtain⟨nm,bs,mro,ns,qn,hd',sn,sub,ab,col,del⟩:=cd
   dsimp only at hm hdel hd
   subst hm hdel hd
   have hsl:sl = #[k0,k1,k2,k3,some (.builtin "ValueError.__new__"),k5]:=by
    obtain⟨l⟩:=sl
    simp only at hs
    rw [hs]
   subst hsl
   exact⟨nm,qn,ns,bs,bm,sn,sub,ab,col,dd,k0,k1,k2,k3,k5,ho,hb⟩
  ·cases q
 ·cases q
structure cZ (K:Frag) (C:Addr):Prop where
 obj:jz K C=true
 sa:findIn K (.ref C) "__setattr__" = some (some (.builtin "object.__setattr__"))
 ga:findIn K (.ref C) "__getattribute__" = some (some (.builtin "BaseException.__getattribute__"))
 gh:findIn K (.ref C) "__getattr__" = some none
 cl:findIn K (.ref C) "__class__" = some (some (.builtin "object.__class__"))
 clg:specialIn K (.builtin "object.__class__") "__get__" = some (some (.builtin "getset_descriptor.__get__"))
 clt:takesIn K (.builtin "object.__class__")=some true
theorem zK {C:Addr} {bm:List Value} (h:cU bm=true):cU (.ref C :: bm)=true:=h
theorem cZ.mro {K:Frag} {C:Addr} (c:cZ K C):∃ cd,clsIn K C=some cd /\ cU cd.mro=true /\ cd.hasDict=true:=by
 obtain⟨nm,qn,N,bs,bm,sn,sub,ab,col,dd,k0,k1,k2,k3,k5,ho,hb⟩:=Aq c.obj
 refine⟨{ name:=nm,bases:=bs,mro:=.ref C :: bm,ns:=N,qualname:=qn,hasDict:=true,slotNames:=sn,subclasses:=sub,abstract:=ab,collection:=col,hasDel:=false },?_,zK (C:=C) hb,rfl⟩
 unfold clsIn
 rw [ho]
theorem cZ.at {K:Frag} {C:Addr} {h:Heap} (c:cZ K C) (X:K.In h):Dy h C:=by
 obtain⟨nm,qn,N,bs,bm,sn,sub,ab,col,dd,k0,k1,k2,k3,k5,ho,hb⟩:=Aq c.obj
 exact⟨nm,qn,N,bs,bm,sn,sub,ab,col,dd,k0,k1,k2,k3,k5,X _ _ ho,hb⟩
theorem cZ.has {K:Frag} {C:Addr} (c:cZ K C) {T:String} (hT:kj.contains (.type T)=true):mroIn K C (.type T)=some true:=by
 obtain⟨cd,h1,h2,_⟩:=c.mro
 unfold mroIn
 rw [h1,Option.bind_some,if_neg (by rw [BF h2];decide),uN hT h2]
section
variable {prog:Program} {w:World} {A:Around} {E:Value->Shared->Prop} {s:Shared} {K:Frag} {x C:Addr} {ox:Obj} {od:Option Obj} {name:Str} {v:Value}
theorem A2 {expr:Bool} {Q:Value->Shared->Prop} (X:K.In s.heap) (I:PySem.W.InstAt s.heap x ox C od) (c:cZ K C)
  (hf:PySem.W.findObj K C od name=some (.value v)) (hh:handedIn v=true) (h:Q v { s with toks:=s.toks + 1 }):wpAny (model prog w) A (getAttr (.ref x) name expr) Q E s:=by
 obtain⟨hp,g,d,t,os⟩:=s
 have L0:=I.type (M:=model prog w)
 have L1:=Sn (M:=model prog w) X c.ga
 have L2:=Sn (M:=model prog w) X c.gh
 have L3:=PySem.W.looks_find (M:=model prog w) X I hf
 have LB:Looks (model prog w) hp (isInstance (.ref x) (.type "BaseException")) true:=L0.andThen (Um X (c.has (by decide)))
 have hx1:(onTheHeap (Value.ref C) && Value.builtin "BaseException.__getattribute__" == Value.builtin "object.__getattribute__")=false:=by
  have:(Value.builtin "BaseException.__getattribute__" == Value.builtin "object.__getattribute__")=false:=by decide +kernel
  rw [this,Bool.and_false]
 have hb:=Uy.ga.bind (.ref x)
 unfold getAttr getAttrBy
 refine QB (wpAny_mkText (RK (QB (L0.at (QB (L1.at ?_))))))
 dsimp only
 rw [hx1,if_neg (by decide)]
 unfold getAttrByItsOwn
 refine QB (m:=hookBefore (.ref C)) ?_
 show wpAny _ _ (typeLookup (.ref C) "__getattr__") _ _ _
 refine L2.at ?_
 refine QB (Vx (RK ?_))
 have e0:(expr && onTheHeap (Value.builtin "BaseException.__getattribute__"))=false:=by cases expr <;> rfl
 unfold callGetattribute
 rw [e0,if_neg (by decide)]
 unfold boundAndCalled
 rw [hb]
 refine QB (QI ?_)
 refine S6 (Ug Uy.ga.plain PySem.F.entry_bexc_ga (@VU (model prog w) _ _ _ "BaseException.__getattribute__" "BaseException" "__getattribute__" (.ref x) _ [] _ (by decide +kernel) (by decide +kernel) LB (PySem.F.args_bexc_ga _ _) ?_))
 unfold Builtin.«object.__getattribute__»
 refine QB (QI (QB (QI (QB (L0.at (QB (L3.at ?_)))))))
 refine QI ?_
 show wpAny _ _ (handedOut v) _ _ _
 rw [PySem.W.handedOut_of hh];exact QI h
end
section
variable {prog:Program} {w:World} {A:Around} {E:Value->Shared->Prop} {s:Shared} {K:Frag} {x C:Addr} {ox:Obj} {od:Option Obj} {name:Str} {v:Value}
theorem BY {Q:Unit->Shared->Prop} (X:K.In s.heap) (I:PySem.W.InstAt s.heap x ox C od) (c:cZ K C) (n:bD K C name)
  (h:∀ b,wpAny (model prog w) A.in1 (Builtin.ObjectAttr.storeInOwnDict (.ref x) (.ref C) (.str name s.toks) name v b)
   (λ fin s'=>match fin with | .done (.ret _)=>Q () s' | _=>False) (λ e s'=>E e s') { s with toks:=s.toks + 1 }) :
  wpAny (model prog w) A (setAttr (.ref x) name v) Q E s:=by
 obtain⟨hp,g,d,t,os⟩:=s
 have SF:=UP
 obtain⟨cd,hc,ho,_⟩:=c.mro
 refine V4 X I c.sa ?_
 have sub:Looks (model prog w) hp (isInstance (.ref x) (.type "object")) true:=I.type.andThen (Um X (c.has (by decide)))
 refine Ug SF.slot.plain SF.entry (@VU (model prog w) _ _ _ "object.__setattr__" "object" "__setattr__" (.ref x) [.str name t,v] [] _ SF.kind SF.split sub (SF.args (.ref x) (.str name t) v) ?_)
 have hm:Looks (model prog w) hp (mroOf (.ref C)) cd.mro:=(Ul X hc).andThen .now
 have LN:=Sn (M:=model prog w) X (show findIn K (.ref C) name=some none from n)
 rw [osa_eq,refuse_eq]
 refine QB (QB (I.type.at (QB (hm.at ?_))))
 rw [AW _ ho]
 refine QI (QB (I.type.at (QB (LN.at (QB (QI ?_))))))
 refine Rf (h false) (λ fin s' z=>?_) λ _ _ z=>z
 rcases fin with(_ | _ | _ | _) | _ <;> first | exact z | exact z.elim
theorem Bf {vs:Array Value} {sl:Array (Option Value)} {Q:Unit->Shared->Prop} (X:K.In s.heap) (hx:s.heap.get? x=some ⟨.ref C,none,.fields vs,sl⟩) (c:cZ K C) (n:bD K C name)
  (h:∀ h' tk',h'.get? x=some ⟨.ref C,some s.heap.objs.size,.fields vs,sl⟩->h'.Ns1 s.heap.objs.size (λ y=>if y=name then some v else none)->(∀ b o,b ≠ x->s.heap.get? b=some o->h'.get? b=some o) →
   Q () { s with heap:=h',toks:=tk' }) :
  wpAny (model prog w) A (setAttr (.ref x) name v) Q E s:=by
 have I:PySem.W.InstAt s.heap x ⟨.ref C,none,.fields vs,sl⟩ C none:=⟨hx,rfl,rfl,trivial⟩
 refine BY X I c n λ b=>?_
 obtain⟨hp,g,d,t,os⟩:=s
 obtain⟨cd,hc,ho,hd⟩:=c.mro
 have LC:=Ul (M:=model prog w) X hc
 unfold Builtin.ObjectAttr.storeInOwnDict
 refine QB (QI ?_)
 refine QB (m:=Builtin.ObjectAttr.ownDictForStores _) ?_
 show wpAny _ _ (instanceDict x true) _ _ _
 unfold instanceDict
 refine QB (wpAny_loadPart hx ?_)
 dsimp only
 refine QB (LC.at ?_)
 rw [hd]
 have hx1:(hp.push { cls:=.type "dict",data:=.dict #[] }).get? x=some ⟨.ref C,none,.fields vs,sl⟩:=QD _ hx
 have hxs:x ≠ hp.objs.size:=QN (QF hx)
 show wpAny _ _ (do let dd ← alloc { cls:=.type "dict",data:=.dict #[] };update x (λ o=>{ o with dict:=some dd });dictMade (.ref C) x dd) _ _ _
 refine QB (wpAny_alloc' ?_)
 refine QB (wpAny_update' hx1 ?_)
 refine QI ?_
 have hgd:((hp.push { cls:=.type "dict",data:=.dict #[] }).update x λ o=>{ o with dict:=some hp.objs.size }).get? hp.objs.size=some { cls:=.type "dict",data:=.dict #[] } :=
  (Heap.get?_update_ne _ _ _ _ hxs.symm).trans (Heap.get?_push_at rfl rfl)
 have hnd:((hp.push { cls:=.type "dict",data:=.dict #[] }).update x λ o=>{ o with dict:=some hp.objs.size }).Ns hp.objs.size (λ _=>none):=⟨_,#[],_,hgd,rfl,λ e he=>absurd he (by simp),λ _=>rfl⟩
 show wpAny _ _ (Builtin.ObjectAttr.storeInDict hp.objs.size (.str name t) name v) _ _ _
 unfold Builtin.ObjectAttr.storeInDict Builtin.ObjectAttr.newKeyGuard
 refine QB (QI (QB (wpAny_nsSet1 (Heap.Ns1.of_empty hnd) λ h' hn' hs=>?_)))
 obtain⟨oD,esD,epD,hoD,hdD,hcD⟩:=hn'.count (Within.cons name v Within.nil)
 refine QB (wpAny_lookBehind hoD (by rw [hdD];exact pastItsLine_dict (Rp hcD (by rw [RV,Ww,U7];omega))) ?_)
 refine QI (h h' _ ?_ hn' λ b o hb e=>?_)
 ·exact(hs.2 x hxs).trans (RG _ hx1 rfl)
 ·exact(hs.2 b (QN (QF e))).trans ((Heap.get?_update_ne _ _ _ _ hb).trans (QD _ e))
end
abbrev gJ (C t:Addr):Obj:={ cls:=.ref C,data:=.fields #[.ref t,.none,.none,.none,.bool false,.none] }
abbrev jv (rest:List Value):Obj:={ cls:=.type "tuple",data:=.seq rest.toArray }
theorem nW {C:Addr} {bm:List Value} (hb:cU bm=true) {T:String} (hT:kj.contains (.type T)=true):(Value.ref C :: bm).contains (.type T)=true:=by
 rw [VV,uN hT hb,Bool.or_true]
theorem Ak {C:Addr} {bm:List Value} (hb:cU bm=true) {T:String} (hT:kj.contains (.type T)=false):(Value.ref C :: bm).contains (.type T)=false:=by
 obtain⟨rs,rfl⟩:=qh hb
 rw [VV,Ue,QY,Bool.or_false]
 ·rfl
 ·intro hm
  rcases Ro.mp hm with h | h
  ·obtain⟨a,_,e⟩:=QS.mp h
   cases e
  ·rw [Ue] at hT
   exact(Ut hT) h
section
variable {prog:Program} {w:World} {A:Around} {E:Value->Shared->Prop} {h:Heap} {g:Array GenState} {d:Drawn} {t:Nat} {os:OsState} {K:Frag} {C f:Addr}
variable {nm q:Str} {N:Addr} {bs bm:List Value} {sn:List Str} {sub:List Value} {ab:Bool} {col:Option Bool} {dd:Option Addr} {k0 k1 k2 k3 k5:Option Value}
theorem vo {M:Model} {rest:List Value} {Q:Unit->Shared->Prop} (hb:cU bm=true) (hC:h.get? C=some (excClassObj nm q C N bs bm true sn sub ab col dd k0 k1 k2 k3 k5 "ValueError.__new__")) (hq:Q () ⟨h,g,d,t,os⟩) :
  wpAny M A (checkBuiltinCall "ValueError.__new__" ⟨.ref C :: rest,[]⟩) Q E ⟨h,g,d,t,os⟩:=by
 have F:=Sg
 have hcont:=nW (C:=C) hb (T:="ValueError") (by decide)
 have hstar:=F.noStar
 simp only [checkBuiltinCall,F.newKind,F.newSplit,F.newRow]
 repeat (first
  | refine RB hC ?_
  |(refine Se hC ?_;rw [hcont])
  | refine wpAny_staticBase_exc hC ?_
  | refine UQ hC ?_
  | simp only [bne_self_eq_false,Bool.false_eq_true,if_false]
  | wp_step)
 exact hq
theorem wI {R:Result->Shared->Prop} {rest:List Value} (hb:cU bm=true) (hC:h.get? C=some (excClassObj nm q C N bs bm true sn sub ab col dd k0 k1 k2 k3 k5 "ValueError.__new__")) (hrest:rest.length ≤ sizeLine)
  (hq:R (.ok (.ret (.ref (h.objs.size + 1)))) ⟨(h.push (jv rest)).push (gJ C h.objs.size),g,d,t,os⟩) :
  codeAny (model prog w) A (.builtin "ValueError.__new__" ⟨.ref C :: rest,[]⟩) R ⟨h,g,d,t,os⟩:=by
 have F:=Sg
 have hends:=F.ends
 have hcB:=nW (C:=C) hb (T:="ValueError") (by decide)
 have hcA:=Ak (C:=C) hb (T:="AttributeError") (by decide)
 have hcN:=Ak (C:=C) hb (T:="NameError") (by decide)
 refine codeAny_builtinAt F.entry ?_
 unfold Builtin.«BaseException.__new__»
 refine Wz ?_
 show PySem.wpAt _ _ _ (stack >>= _) _ _ _
 refine Wz (PySem.wpAt_stack λ p below=>VD ?_)
 wp_walk
 refine VD ?_
 rw [F.owner]
 repeat (first
  | with_reducible refine wpAny_madeHere_exc F.canon hC ?_
  | with_reducible refine RB hC ?_
  |(with_reducible refine Se hC ?_;first | rw [hcB] | rw [hcA] | rw [hcN])
  | wp_step)
 show R _ _
 rw [Sy]
 exact hq
theorem qk {rest:List Value}:∀ b o,h.get? b=some o->((h.push (jv rest)).push (gJ C h.objs.size)).get? b=some o:=λ b o e=>QD _ (QD _ e)
theorem n6 {rest:List Value}:((h.push (jv rest)).push (gJ C h.objs.size)).get? (h.objs.size + 1)=some (gJ C h.objs.size):=by
 have:=QU (h.push (jv rest)) (o:=gJ C h.objs.size) rfl
 rwa [Sy] at this
theorem BC {rest:List Value} {Q:Fin->Shared->Prop} (hb:cU bm=true) (hC:h.get? C=some (excClassObj nm q C N bs bm true sn sub ab col dd k0 k1 k2 k3 k5 "ValueError.__new__")) (hrest:rest.length ≤ sizeLine) (X:K.In h)
  (hi:findIn K (.ref C) "__init__" = some (some (.ref f))) (hf:typeIn K (.ref f)=some (.type "function"))
  (hq:wpAny (model prog w) A (call (.ref f) (.ref (h.objs.size + 1) :: rest)) (λ r s'=>r = .none /\ Q (.done (.ret (.ref (h.objs.size + 1)))) s') E ⟨(h.push (jv rest)).push (gJ C h.objs.size),g,d,t,os⟩) :
  wpAny (model prog w) A (Builtin.«type.__call__» ⟨.ref C :: rest,[]⟩) Q E ⟨h,g,d,t,os⟩:=by
 have F:=Sg
 repeat (first | with_reducible refine RB hC ?_ | with_reducible refine UQ hC ?_ | wp_step)
 refine UG (SI _ F.quiet) (vo hb hC ?_)
 refine wI hb hC hrest ?_
 show wpAny _ _ _ _ _ _
 have X1:K.In ((h.push (jv rest)).push (gJ C h.objs.size)):=X.keeps qk
 have hC1:=qk (C:=C) (rest:=rest) _ _ hC
 have hcC:(Value.ref C :: bm).contains (.ref C)=true:=by simp
 have L1:=Sn (M:=model prog w) X1 hi
 have L2:=Wq (M:=model prog w) X1 (.ref (h.objs.size + 1)) hf
 unfold isInstance
 repeat (first | with_reducible refine RB n6 ?_ |(with_reducible refine Se hC1 ?_;rw [hcC]) | wp_step)
 show wpAny _ _ (typeLookup (.ref C) _) _ _ _
 refine L1.at ?_
 refine RK (QB (L2.at ?_))
 refine QB (Rf hq (λ r s' hr=>?_) λ _ _ x=>x)
 obtain⟨rfl,hQ⟩:=hr
 wp_walk
 exact hQ
theorem Bm {rest:List Value} {Q:Value->Shared->Prop} (X:K.In h) (c:cZ K C) (hrest:rest.length ≤ sizeLine)
  (hi:findIn K (.ref C) "__init__" = some (some (.ref f))) (hf:typeIn K (.ref f)=some (.type "function"))
  (hq:wpAny (model prog w) (A.under (.builtin "type.__call__" ⟨.ref C :: rest,[]⟩)) (call (.ref f) (.ref (h.objs.size + 1) :: rest)) (λ r s'=>r = .none /\ Q (.ref (h.objs.size + 1)) s') E ⟨(h.push (jv rest)).push (gJ C h.objs.size),g,d,t,os⟩) :
  wpAny (model prog w) A (call (.ref C) rest) Q E ⟨h,g,d,t,os⟩:=by
 obtain⟨nm,qn,N,bs,bm,sn,sub,ab,col,dd,k0,k1,k2,k3,k5,hC,hb⟩:=(c.at X).ex
 have f1:=tc_lookup
 have f2:=tc_bind (.ref C)
 have hT:(⟨h,g,d,t,os⟩:Shared).TypeIs (.ref C) "type":=⟨_,hC,rfl⟩
 refine S6 (codeAny_of_tree ?_)
 show wpAny _ _ (callAny (.ref C) _) _ _ _
 repeat (any_goals (first | assumption | with_reducible refine RB hC ?_ | wp_step))
 refine⟨rfl,?_⟩
 exact U0 (SI _ (by decide +kernel)) entry_typeCall (UH hC (BC hb hC hrest X hi hf hq))
end
def uL (raw:Bool) (e C:Addr) (od:Option Addr) (h:Heap):Prop:=∃ vs sl,h.get? e=some ⟨.ref C,od,.fields vs,sl⟩ /\ vs.size=6 /\(raw=true->vs[1]? = some .none)
def Bd (dx:Addr) (fs:List (Str × V)) (h:Heap):Prop:=∃ mA,h.Ns1 dx mA /\(∀ f,fj (fs.lookup f) (mA f)) /\ PySem.Within mA (fs.map (·.1))
abbrev exO (raw:Bool) (e C:Addr) (od:Option Addr):HO:=.ext (uL raw e C od)
abbrev xdO (dx:Addr) (fs:List (Str × V)):HO:=.ext (Bd dx fs)
def ExcAt (H:Hp) (e C:Addr) (fs:List (Str × V)):Prop:=∃ raw od,H e=some (exO raw e C od) /\ match od with
 | none=>fs = []
 | some dx=>H dx=some (xdO dx fs) /\ dx ≠ e
section
variable {P:Program} {w:World} {H:Hp} {h:Heap} {e C dx:Addr} {od:Option Addr} {raw:Bool} {fs:List (Str × V)}
theorem mW (x:uL raw e C od h):bB P w H h e (exO raw e C od):=by
 refine⟨x,?_,?_⟩
 ·obtain⟨vs,sl,q,_⟩:=x
  exact⟨_,q⟩
 ·rintro h1 h2 ⟨vs,sl,q,r⟩ k
  exact⟨vs,sl,k _ q,r⟩
theorem D6 (x:Bd dx fs h):bB P w H h dx (xdO dx fs):=by
 refine⟨x,?_,?_⟩
 ·obtain⟨mA,⟨o,es,ep,q,_⟩,_⟩:=x
  exact⟨o,q⟩
 ·rintro h1 h2 ⟨mA,⟨o,es,ep,q,r⟩,z⟩ k
  exact⟨mA,⟨o,es,ep,k _ q,r⟩,z⟩
theorem oq (x:HOk P w H h) (q:H e=some (exO raw e C od)):uL raw e C od h:=(x e _ q).1
theorem GK (x:HOk P w H h) (q:H dx=some (xdO dx fs)):Bd dx fs h:=(x dx _ q).1
end
section
variable {X:Cx} {pins:List (Addr × Obj)} {σ:St} {H:Hp} {s:Shared} {a C dx:Addr} {od:Option Addr} {raw:Bool} {fs:List (Str × V)} {f:Str} {v:V} {A:Around} {E:Value->Shared->Prop}
theorem ExcAt.inst (I:Inv X pins σ H s) (e:ExcAt H a C fs):∃ ox od,PySem.W.InstAt s.heap a ox C od /\ ∀ f v,fs.lookup f=some v->∃ o u,od=some o /\ lookIn f o=some (some u) /\ RelV v u:=by
 obtain⟨raw,od,h1,h2⟩:=e
 obtain⟨vs,sl,q,_⟩:=oq I.hok h1
 cases od with
 | none =>
  subst h2
  exact⟨_,none,⟨q,rfl,rfl,trivial⟩,λ f v h=>by simp at h⟩
 | some dx =>
  obtain⟨mA,n,r,_⟩:=GK I.hok h2.1
  obtain⟨o,ho,hl⟩:=wA n
  refine⟨_,some o,⟨q,rfl,rfl,ho⟩,λ f v h=>?_⟩
  obtain⟨u,hu,ru⟩:=fj.some_of (v:=v) (o:=mA f) (by rw [← h];exact r f)
  exact⟨o,u,rfl,by rw [hl,hu],ru⟩
theorem zT {b:Bool} {Q:Value->Shared->Prop} (I:Inv X pins σ H s) (e:ExcAt H a C fs) (c:cZ X.K C) (n:bD X.K C f) (l:fs.lookup f=some v)
  (h:∀ u s',Inv X pins σ H s'->RelV v u->Q u s'):wpAny (model X.prog X.w) A (getAttr (.ref a) f b) Q E s:=by
 obtain⟨ox,od,J,hl⟩:=e.inst I
 obtain⟨o,u,rfl,lk,ru⟩:=hl f v l
 obtain⟨cd,hc,_,hd⟩:=c.mro
 exact A2 I.kIn J c (VA (by unfold hasDictIn;rw [hc];exact hd) n rfl lk) (wO ru) (h u _ (I.tok _) ru)
theorem vz {y:V} {u:Value} {Q:Unit->Shared->Prop} (I:Inv X pins σ H s) (e:H a=some (exO raw a C none)) (c:cZ X.K C) (n:bD X.K C f) (ry:RelV y u)
  (h:∀ dx s',H dx=none->Inv X pins σ (upd (upd H dx (xdO dx [(f,y)])) a (exO raw a C (some dx))) s'->Q () s'):wpAny (model X.prog X.w) A (setAttr (.ref a) f u) Q E s:=by
 obtain⟨vs,sl,q,hv⟩:=oq I.hok e
 refine Bf I.kIn q c n λ h' tk' h1 h2 h3=>?_
 have hn:H s.heap.objs.size=none:=I.hok.fresh (QH _)
 have hna:a ≠ s.heap.objs.size:=QN (QF q)
 refine h s.heap.objs.size _ hn ?_
 have hd2:Bd s.heap.objs.size [(f,y)] h':=by
  refine⟨_,h2,λ g=>?_,λ g hg=>?_⟩
  ·show fj (List.lookup g [(f,y)]) (if g=f then some u else none)
   rw [QM]
   by_cases z:g=f
   ·subst z;rw [if_pos rfl];simp;exact ry
   ·rw [if_neg z,show(g == f)=false by simpa using z];exact True.intro
  ·by_cases z:g=f
   ·subst z;simp
   ·exact absurd (if_neg z) hg
 have hE:uL raw a C (some s.heap.objs.size) h':=⟨vs,sl,h1,hv⟩
 have hu:Un X.fs [] H (upd (upd H s.heap.objs.size (xdO s.heap.objs.size [(f,y)])) a (exO raw a C (some s.heap.objs.size))) s.heap h':=by
  have nn:∀ b o,s.heap.get? b=some o->b ≠ s.heap.objs.size:=λ b o e=>QN (QF e)
  refine⟨λ b o e' n' _ _=>h3 b o (λ z=>by rw [z,e] at n';cases n') e',λ b o e' n' _ _=>⟨o.slots,h3 b o (λ z=>by rw [z,e] at n';cases n') e'⟩,λ b o e' n' _=>?_,λ b o e' _=>?_,λ b xs e'=>?_,λ b o u' e'=>?_,λ b ps e'=>⟨#[],?_⟩⟩
  ·rw [af (λ z=>by rw [z,e] at n';cases n'),af (nn b o e')];exact n'
  ·by_cases z:b=a
   ·subst z;exact⟨_,h1⟩
   ·exact⟨o,h3 b o z e'⟩
  ·rw [af (λ z=>by rw [z,e] at e';cases e'),af (aj e' hn)];exact e'
  ·rw [af (λ z=>by rw [z,e] at e';cases e'),af (aj e' hn)];exact e'
  ·rw [af (λ z=>by rw [z,e] at e';cases e'),af (aj e' hn),e'];simp
 refine I.un hu λ b o e'=>?_
 by_cases z:b=a
 ·subst z;rw [ak] at e';cases e';exact mW hE
 ·rw [af z] at e'
  by_cases z2:b=s.heap.objs.size
  ·subst z2;rw [ak] at e';cases e';exact D6 hd2
  ·rw [af z2] at e'
   refine(I.hok b o e').stay (λ c' v' hc q'=>h3 c' v' ?_ q') (λ c' q'=>?_) λ c' xs q'=>?_
   ·rcases hc with hc | hc
    ·rw [hc];exact z
    ·intro z3;rw [z3,e] at hc;cases hc
   ·rw [af (λ z3=>by rw [z3,e] at q';cases q'),af (aj q' hn)];exact q'
   ·rw [af (λ z3=>by rw [z3,e] at q';cases q'),af (aj q' hn)];exact q'
end
def G5 (K:Frag) (ta:TE) (f:Str):TE:=λ σ H Q=>ta σ H λ x H1=>∃ a C fs v,x = .ref a /\ ExcAt H1 a C fs /\ cZ K C /\ bD K C f /\ fs.lookup f=some v /\ Q v H1
def FG (K:Frag) (ta tv:TE) (f:Str):TS:=λ D σ H=>tv σ H λ y H1=>ta σ H1 λ x H2=>∃ a C raw,x = .ref a /\ H2 a=some (exO raw a C none) /\ cZ K C /\ bD K C f ∧
 ∀ dx,H2 dx=none->D.nx σ (upd (upd H2 dx (xdO dx [(f,y)])) a (exO raw a C (some dx)))
section
variable {X:Cx} {o e value:Expr} {f:Str} {pos pos':Pos} {ta tv:TE}
theorem EE (he:PE X e ta) (hb:attributeBase e f X.env (eval e X.env)=eval e X.env):PE X (.Attribute e f pos) (G5 X.K ta f):=by
 intro pins s σ H Q I h
 refine AD hb (thn (he pins s σ H _ I h) λ u s1 ⟨x,H1,I1,rx,a,C,fs,v,ex,ea,c,n,l,q⟩=>?_)
 subst ex
 obtain rfl:u=Value.ref a:=rx
 exact zT I1 ea c n l λ u' s2 I2 ru=>⟨v,H1,I2,ru,q⟩
theorem pB (ha:PE X o ta) (hv:PE X value tv) (hs:swapsWith value (some (.Attribute o f pos')) pos.line X.env=pure false):PS X (.Assign [.Attribute o f pos'] value pos) (FG X.K ta tv f):=by
 intro pins s σ H D I h
 refine Ua (thn (hv pins s σ H _ I h) λ u s1 ⟨y,H1,I1,ry,q⟩=>thn (ha pins s1 σ H1 _ I1 q) λ ov s2 ⟨x,H2,I2,rx,a,C,raw,ex,ea,c,n,q2⟩=>?_) hs
 subst ex
 obtain rfl:ov=Value.ref a:=rx
 exact vz I2 ea c n ry λ dx s3 hdx I3=>⟨σ,_,I3,q2 dx hdx⟩
end
def Fly (h:Heap) (e T:Addr) (fl:Value):Prop:=∃ oe vs oT ts,h.get? e=some oe /\ oe.data = .fields vs /\ vs[1]? = some (.ref T) /\ h.get? T=some oT /\ oT.data = .fields ts /\ ts[3]? = some fl /\ T ≠ e
structure kU (fs ch:List Addr) (e T:Addr) (fl:Value) (h h':Heap):Prop where
 keep:∀ b o,b ∉ fs->b ∉ ch->b ≠ e->h.get? b=some o->h'.get? b=some o
 slot:∀ b o,b ∈ fs->b ∉ ch->b ≠ e->h.get? b=some o->∃ sl,h'.get? b=some { o with slots:=sl }
 new:h.objs.size ≤ T
 exc:∀ oe vs,h.get? e=some oe->oe.data = .fields vs->h'.get? e=some (oe.mapFields (·.setIfInBounds 1 (.ref T)))
 fly:Fly h' e T fl
section
variable {M:Model} {A:Around} {E:Value->Shared->Prop} {s:Shared} {base:Heap} {env:Env} {outer:List Env} {L e:Addr} {oe:Obj} {vs:Array Value} {Q:Unit->Shared->Prop}
theorem yu {head:Value} {b:Bool} (hfr:A.frames=some (env :: outer)) (hl:s.heap.FunFrames base (env :: outer)) (hf:env.frame=some L) (he:s.heap.get? e=some oe) (hd:oe.data = .fields vs) (hsz:1 < vs.size)
  (h:∀ h' T,kU (frs (env :: outer)) [] e T (rawInt L) s.heap h'->Q () { s with heap:=h' }) :
  wpAny M A (do let a ← frameOf env;let pl ← entryPlaceOf L b;let x ← EntryCells.newEntry head a .none (rawInt L) .none pl;setField (.ref e) 1 x) Q E s:=by
 have hene:e ∉ frs (env :: outer):=λ hm=>by
  obtain⟨_,o,ho,hnf⟩:=hl.mem hm
  rw [he] at ho
  cases ho
  exact hnf vs hd
 refine QB (wpAny_frameOf_fun hfr hl hf λ h1 hs=>?_)
 refine QB (wpAny_entryPlaceOf λ pl hpl=>?_)
 unfold EntryCells.newEntry newFields
 refine QB (R9 ?_ (hpl.sizeOk5 _ _ _ _ _))
 have he1:h1.get? e=some oe:=(hs.2.1 e hene).trans he
 generalize hT:({ cls:=.type "traceback",dict:=none,data:=.fields ([head,.ref L,.none,rawInt L,.none] ++(if pl.isEmpty then List.replicate 6 Value.none else pl)).toArray }:Obj)=oT
 have he2:=QD (h:=h1) oT he1
 refine TN he2 hd hsz (h _ h1.objs.size ?_)
 have hTe:h1.objs.size ≠ e:=Ry (QF he1)
 have hd3:=S7 hd (·.setIfInBounds 1 (Value.ref h1.objs.size))
 have he3:=RG (Obj.mapFields (·.setIfInBounds 1 (Value.ref h1.objs.size))) he2 (T7 hd3)
 have hT3:((h1.push oT).update e (Obj.mapFields (·.setIfInBounds 1 (Value.ref h1.objs.size)))).get? h1.objs.size=some oT :=
  (RC _ _ (RJ hTe)).trans (QU h1 (by rw [← hT];rfl))
 have keep:∀ b o,b ≠ e->h1.get? b=some o->((h1.push oT).update e (Obj.mapFields (·.setIfInBounds 1 (Value.ref h1.objs.size)))).get? b=some o:=λ b o hb q=>by
  rw [RC _ _ (RJ hb)]
  exact QD _ q
 refine⟨λ b o hb _ hbe q=>keep b o hbe ((hs.2.1 b hb).trans q),λ b o hb _ hbe q=>?_,?_,λ oe' vs' q' d'=>?_,?_⟩
 ·obtain⟨sl,z⟩:=hs.2.2 b o q
  exact⟨sl,keep b _ hbe z⟩
 ·rw [hs.1];exact QH _
 ·rw [he] at q';cases q';exact he3
 ·refine⟨_,_,oT,_,he3,hd3,by simp [hsz],hT3,by rw [← hT],?_,hTe⟩
  simp
theorem Dg (hfr:A.frames=some (env :: outer)) (hl:s.heap.FunFrames base (env :: outer)) (hf:env.frame=some L) (he:s.heap.get? e=some oe) (hd:oe.data = .fields vs) (h1:vs[1]? = some .none)
  (h:∀ h' T,kU (frs (env :: outer)) [] e T (rawInt L) s.heap h'->Q () { s with heap:=h' }):wpAny M A (noteFrame (.ref e) env) Q E s:=by
 unfold noteFrame
 simp only [hf]
 refine QB (RI he hd h1 ?_)
 rw [if_neg (by decide)]
 exact yu hfr hl hf he hd (SR.mp h1).1 h
theorem wG {T:Addr} (hfr:A.frames=some (env :: outer)) (hl:s.heap.FunFrames base (env :: outer)) (hf:env.frame=some L) (hF:Fly s.heap e T .none)
  (h:∀ h' T',kU (frs (env :: outer)) [T] e T' (rawInt L) s.heap h'->Q () { s with heap:=h' }):wpAny M A (noteFrame (.ref e) env) Q E s:=by
 obtain⟨oe,vs,oT,ts,he,hd,h1,hT,hdT,h3,hTe⟩:=hF
 unfold noteFrame
 simp only [hf]
 refine QB (RI he hd h1 ?_)
 rw [if_pos (show(Value.ref T != Value.none)=true from by simp)]
 refine QB (RI hT hdT h3 ?_)
 rw [if_neg (show ¬((Value.none == rawInt L)=true) from by simp [rawInt])]
 refine QB (TN hT hdT (SR.mp h3).1 ?_)
 have other:∀ b,b ≠ T->(s.heap.update T (Obj.mapFields (·.setIfInBounds 3 Value.none))).get? b=s.heap.get? b:=λ b hb=>RC _ _ (RJ hb)
 have nrec:∀ b o,s.heap.get? b=some o->(∀ vs,o.data ≠ .fields vs)->b ≠ T:=λ b o hb hnf q=>by
  rw [q,hT] at hb
  cases hb
  exact hnf ts hdT
 have sz:(s.heap.update T (Obj.mapFields (·.setIfInBounds 3 Value.none))).objs.size=s.heap.objs.size:=Vb _ _ _
 refine yu hfr (hl.of_keeps λ b o hb hnf=>⟨o,(other b (nrec b o hb hnf)).trans hb,rfl⟩) hf ((other e (RJ hTe)).trans he) hd (SR.mp h1).1 λ h' T' N=>h h' T' ?_
 dsimp only at N
 refine⟨λ b o hb hc hbe q=>N.keep b o hb (by simp) hbe ((other b (by simpa using hc)).trans q),λ b o hb hc hbe q=>N.slot b o hb (by simp) hbe ((other b (by simpa using hc)).trans q),?_,λ oe' vs' q d=>N.exc oe' vs' ((other e (RJ hTe)).trans q) d,N.fly⟩
 rw [← sz];exact N.new
theorem kc {T:Addr} {fl:Value} (hF:Fly s.heap e T fl) (h:∀ h',(∀ b o,b ≠ T->s.heap.get? b=some o->h'.get? b=some o)->h'.objs.size=s.heap.objs.size->Fly h' e T .none->Q () { s with heap:=h' }):wpAny M A (setFlight (.ref e) none) Q E s:=by
 obtain⟨oe,vs,oT,ts,he,hd,h1,hT,hdT,h3,hTe⟩:=hF
 have hsz:3 < ts.size:=(SR.mp h3).1
 have other:∀ b,b ≠ T->(s.heap.update T (Obj.mapFields (·.setIfInBounds 3 ((none:Option Addr).elim Value.none λ f=>rawInt f)))).get? b=s.heap.get? b:=λ b hb=>RC _ _ (RJ hb)
 unfold setFlight
 refine QB (RI he hd h1 ?_)
 rw [if_pos (show(Value.ref T != Value.none)=true from by simp)]
 refine TN hT hdT hsz (h _ (λ b o hb q=>(other b hb).trans q) (Vb _ _ _) ?_)
 exact⟨oe,vs,_,_,(other e (RJ hTe)).trans he,hd,h1,RG _ hT (T7 (S7 hdT _)),S7 hdT _,by simp [hsz],hTe⟩
theorem kU.landed {fs ch:List Addr} {T:Addr} {fl:Value} {h h1 h2:Heap} (N:kU fs ch e T fl h h1) (k:∀ b o,b ≠ T->h1.get? b=some o->h2.get? b=some o) (F:Fly h2 e T .none):kU fs ch e T .none h h2:=by
 have nT:∀ b o,h.get? b=some o->b ≠ T:=λ b o q=>QN (QT (QF q) N.new)
 refine⟨λ b o hb hc hbe q=>k b o (nT b o q) (N.keep b o hb hc hbe q),λ b o hb hc hbe q=>?_,N.new,λ oe vs q d=>k e _ (nT e oe q) (N.exc oe vs q d),F⟩
 obtain⟨sl,z⟩:=N.slot b o hb hc hbe q
 exact⟨sl,k b _ (nT b o q) z⟩
theorem leave_new (hfr:A.frames=some (env :: outer)) (hl:s.heap.FunFrames base (env :: outer)) (hf:env.frame=some L) (he:s.heap.get? e=some oe) (hd:oe.data = .fields vs) (h1:vs[1]? = some .none)
  (h:∀ h' T,kU (frs (env :: outer)) [] e T .none s.heap h'->Q () { s with heap:=h' }):wpAny M A (leaving env (.ref e)) Q E s:=by
 unfold leaving
 exact QB (Dg hfr hl hf he hd h1 λ h' T N=>kc (s:={ s with heap:=h' }) N.fly λ h2 k _ F=>h h2 T (N.landed k F))
theorem By {T:Addr} (hfr:A.frames=some (env :: outer)) (hl:s.heap.FunFrames base (env :: outer)) (hf:env.frame=some L) (hF:Fly s.heap e T .none)
  (h:∀ h' T',kU (frs (env :: outer)) [T] e T' .none s.heap h'->Q () { s with heap:=h' }):wpAny M A (leaving env (.ref e)) Q E s:=by
 unfold leaving
 exact QB (wG hfr hl hf hF λ h' T' N=>kc (s:={ s with heap:=h' }) N.fly λ h2 k _ F=>h h2 T' (N.landed k F))
end
section
variable {X:Cx} {pins:List (Addr × Obj)} {σ:St} {H:Hp} {s:Shared} {e C T:Addr} {od:Option Addr} {raw:Bool} {fl:Value} {h':Heap} {ch:List Addr}
theorem C9 {o:HO} (q:H e=some o):upd H e o=H:=by
 funext b
 unfold upd
 split
 ·rename_i z;rw [z];exact q.symm
 ·rfl
theorem Inv.noted (I:Inv X pins σ H s) (q:H e=some (exO raw e C od)) (N:kU (frs X.stack) ch e T fl s.heap h') (hc:∀ b ∈ ch,fu X pins H b) :
  Inv X pins σ (upd H e (exO false e C od)) { s with heap:=h' }:=by
 obtain⟨vs,sl,g,hz,_⟩:=oq I.hok q
 have ne:∀ b,H b=none->b ≠ e:=λ b n z=>by rw [z,q] at n;cases n
 have tfs:∀ b o,H b=some o->b ∉ frs X.stack:=λ b o z hm=>by rw [I.wu b hm] at z;cases z
 have tch:∀ b o,H b=some o->b ∉ ch:=λ b o z hm=>by rw [(hc b hm).1] at z;cases z
 have hE:uL false e C od h':=by
  have:=N.exc _ vs g rfl
  refine⟨vs.setIfInBounds 1 (.ref T),sl,this,by simpa using hz,λ z=>by cases z⟩
 refine I.xR (s':={ s with heap:=h' }) (ch:=ch) rfl ⟨λ b o e' n hf hx=>N.keep b o hf hx (ne b n) e',λ b o e' n hf hx=>N.slot b o hf hx (ne b n) e',λ b o e' n hx=>?_,λ b o e' hx=>?_,λ b xs e'=>?_,λ b o u e'=>?_,λ b ps e'=>⟨#[],?_⟩⟩ (λ b o e'=>?_) I.bare λ b hb=>⟨(hc b hb).2.2.2.1,(hc b hb).2.1,(hc b hb).2.2.2.2.1,(hc b hb).2.2.2.2.2⟩
 ·rw [af (ne b n)];exact n
 ·by_cases z:b=e
  ·subst z;obtain⟨vs',sl',g',_⟩:=hE;exact⟨_,g'⟩
  ·by_cases hf:b ∈ frs X.stack
   ·obtain⟨sl',g'⟩:=N.slot b o hf hx z e';exact⟨_,g'⟩
   ·exact⟨o,N.keep b o hf hx z e'⟩
 ·rw [af (λ z=>by rw [z,q] at e';cases e')];exact e'
 ·rw [af (λ z=>by rw [z,q] at e';cases e')];exact e'
 ·rw [af (λ z=>by rw [z,q] at e';cases e'),e'];simp
 ·by_cases z:b=e
  ·subst z;rw [ak] at e';cases e';exact mW hE
  ·rw [af z] at e'
   refine(I.hok b o e').stay (λ c v hcv g'=>?_) (λ c g'=>?_) λ c xs g'=>?_
   ·have hcH:∃ u,H c=some u:=by
     rcases hcv with z | z
     ·exact⟨o,by rw [z];exact e'⟩
     ·exact⟨_,z⟩
    obtain⟨u,hu⟩:=hcH
    have hce:c ≠ e:=by
     rcases hcv with z' | z'
     ·rw [z'];exact z
     ·intro z2;rw [z2,q] at z';cases z'
    exact N.keep c v (tfs c u hu) (tch c u hu) hce g'
   ·rw [af (λ z2=>by rw [z2,q] at g';cases g')];exact g'
   ·rw [af (λ z2=>by rw [z2,q] at g';cases g')];exact g'
theorem Inv.landed {T:Addr} (I:Inv X pins σ H s) (f:fu X pins H T) (k:∀ b o,b ≠ T->s.heap.get? b=some o->h'.get? b=some o):Inv X pins σ H { s with heap:=h' } :=
 I.turned (it:=T) (t':=s.toks) k f.1 f.2.1 f.2.2.2.1 f.2.2.2.2.1 f.2.2.2.2.2
end
def CXx (P:Program) (w:World):CXT:=λ outer H s E v s'=>∃ e C od T H',v = .ref e /\ s'.os=s.os /\ AllBare s'.gens /\ Un (frs outer) [] H H' s.heap s'.heap /\ HOk P w H' s'.heap ∧
 H' e=some (exO false e C od) /\ s.heap.objs.size ≤ T /\ H' T=none /\ Fly s'.heap e T .none /\ E (.ref C) (some e) H'
abbrev XS:=St->XK
def eB (X:Cx) (E:XS):Prop:=∀(pins:List (Addr × Obj)) (σ:St) (H:Hp) (s:Shared) (v:Value) (s':Shared),Inv X pins σ H s->CXx X.prog X.w X.stack H s (E σ) v s'->X.xe v s'
def Ad (X:Cx) (E:XS):Prop:=∀(pins:List (Addr × Obj)) (σ:St) (H:Hp) (s:Shared) (e C:Addr) (od:Option Addr),Inv X pins σ H s->H e=some (exO true e C od)->E σ (.ref C) (some e) (upd H e (exO false e C od))->X.xe (.ref e) s
theorem aM {X:Cx}:eB X (λ _=>E0):=λ _ _ _ _ _ _ _ ⟨_,_,_,_,_,_,_,_,_,_,_,_,_,_,h⟩=>h.elim
section
variable {P:Program} {w:World} {K:Frag} {mg:Str->Option Value} {base:Heap} {N:List Str} {qual:Str} {scope:Scope} {f:Addr} {cd:Value} {A:Around} {outer:List Env} {s₀:Shared} {H₀:Hp} {E:XK}
theorem jJ:eB (nK (CXx P w) P w K mg base N qual scope f cd A outer s₀ H₀ E) (λ _=>E):=by
 rintro pins σ H s v s' I ⟨e,C,od,T,H',rfl,os,bare,un,hok,he,hT,nT,fly,hE⟩
 have I':=I.xR (ch:=[]) os un hok bare (λ b z=>absurd z (by simp))
 have hTn:fu (nK (CXx P w) P w K mg base N qual scope f cd A outer s₀ H₀ E) pins H' T:=I.ny hT nT
 show wpAny _ _ (leaving _ (.ref e)) _ _ _
 refine By I.ok.frames I'.stack rfl fly λ h2 T2 Nd=>?_
 have J:=I'.noted (ch:=[T]) he Nd (λ b hb=>by have:=QZ.mp hb;subst this;exact hTn)
 rw [C9 he] at J
 exact⟨e,C,od,T2,H',rfl,J.os,J.bare,J.base,J.hok,he,Rp I'.sz Nd.new,I'.hok.fresh Nd.new,Nd.fly,hE⟩
theorem lC:Ad (nK (CXx P w) P w K mg base N qual scope f cd A outer s₀ H₀ E) (λ _=>E):=by
 rintro pins σ H s e C od I he hE
 obtain⟨vs,sl,g,hz,hr⟩:=oq I.hok he
 show wpAny _ _ (leaving _ (.ref e)) _ _ _
 refine leave_new I.ok.frames I.stack rfl g rfl (hr rfl) λ h2 T2 Nd=>?_
 have J:=I.noted (ch:=[]) he Nd (λ b hb=>by cases hb)
 exact⟨e,C,od,T2,_,rfl,J.os,J.bare,J.base,J.hok,ak,Rp I.sz Nd.new,by rw [af (λ z=>by rw [← z] at g;exact absurd (QF g) (Nat.not_lt.mpr Nd.new))];exact I.hok.fresh Nd.new,Nd.fly,hE⟩
theorem Fun.okX {x qual:Str} {st:Stmt} {f:Addr} {fd:FuncData} {N ps:List Str} {k:Nat} {sp:Sp} (F:Fun K x qual st f fd) (S:aP N ps (av st)) (len:∀ vs H Q E,sp vs H Q E->vs.length=ps.length)
  (hbody:∀(cdv:Value) (A:Around) (outer:List Env) (s:Shared) (H:Hp) (vs:List V) (Q:VK) (E:XK),bU k (A.deeper (envOfC qual (av st) s.heap.objs.size f cdv))->sp vs H Q E →
   ∃ t,PSs (nK (CXx P w) P w K mg base N qual (av st) f cdv A outer s H E) (aJ st) t /\ t { nx:=λ _ H'=>Q .non H',rt:=Q } (start N vs) H):aX P w K mg base (CXx P w) (k + 1) f fd ps sp:=by
 obtain⟨oc,od,kV,doc,pm,an,cdv,ct,osl,rfl,lk,hcd⟩:=F.ex
 exact Ec lk hcd S len λ A outer s H vs Q E hr hsp=>hbody cdv A outer s H vs Q E hr hsp
end
section
variable (P:Program) (w:World) (K:Frag) (mg:Str->Option Value) (base:Heap)
structure DefX (x:Str) (k:Nat) (ps:List Str) (sp:Sp):Prop where
 ex:∃(f:Addr) (fd:FuncData),mg x=some (.ref f) /\ aX P w K mg base (CXx P w) k f fd ps sp /\ keepIn K (.ref f)=true /\ Binds K fd ps []
structure bf (C:Addr) (m:Str) (k:Nat) (ps:List Str) (sp:Sp):Prop where
 ex:∃(f:Addr) (fd:FuncData),Meth K C m f /\ aX P w K mg base (CXx P w) k f fd ps sp /\ Binds K fd ps []
structure kg (x:Str) (C:Addr) (k:Nat) (ps:List Str) (sp:Sp):Prop where
 ex:∃(f:Addr) (fd:FuncData),mg x=some (.ref C) /\ Mk K C f /\ aX P w K mg base (CXx P w) k f fd ps sp /\ Binds K fd ps []
structure XMk (K:Frag) (C f:Addr):Prop where
 cls:cZ K C
 init:findIn K (.ref C) "__init__" = some (some (.ref f))
 fn:isFn K (.ref f)=true
 kp:keepIn K (.ref C)=true
structure pT (x:Str) (C:Addr) (k:Nat) (ps:List Str) (sp:Sp):Prop where
 ex:∃(f:Addr) (fd:FuncData),mg x=some (.ref C) /\ XMk K C f /\ aX P w K mg base (CXx P w) k f fd ps sp /\ Binds K fd ps []
end
def BP (sp:Sp) (E:XS) (t:TA):TE:=λ σ H Q=>t σ H λ vs H1=>sp vs H1 Q (E σ)
def BQ (C:Addr) (m:Str) (sp:Sp) (E:XS) (ta:TE) (t:TA):TE:=λ σ H Q=>ta σ H λ x H1=>∃ a dx fs,x = .ref a /\ H1 a=some (.ins C dx fs) /\ fs.lookup m=none /\ t σ H1 λ vs H2=>sp (x :: vs) H2 Q (E σ)
def BI (C:Addr) (sp:Sp) (E:XS) (t:TA):TE:=λ σ H Q=>t σ H λ vs H1=>∀ x dx,H1 x=none->H1 dx=none->dx ≠ x →
 sp (.ref x :: vs) (upd (upd H1 dx (.own x)) x (.ins C dx [])) (λ v H2=>v = .non /\ Q (.ref x) H2) (E σ)
def Kn (C:Addr) (sp:Sp) (t:TA):TE:=λ σ H Q=>t σ H λ vs H1=>vs.length ≤ sizeLine /\ ∀ x,H1 x=none->sp (.ref x :: vs) (upd H1 x (exO true x C none)) (λ v H2=>v = .non /\ Q (.ref x) H2) E0
section
variable {X:Cx} {k:Nat} {f C:Addr} {fd:FuncData} {ps:List Str} {sp:Sp} {E:XS} {x m:Str} {p pos apos:Pos} {e o:Expr} {es:List Expr} {ta:TE} {t:TA}
theorem su {pins:List (Addr × Obj)} {σ:St} {H:Hp} {s:Shared} {Q:VK} {us:List Value} {vs:List V} (F:aX X.prog X.w X.K X.mg X.base (CXx X.prog X.w) k f fd ps sp) (hr:bU k X.A) (hb:Binds X.K fd ps []) (hx:eB X E)
  (I:Inv X pins σ H s) (r:Vals vs us) (h:sp vs H Q (E σ)):wpAny (model X.prog X.w) X.A (call (.ref f) us) (EP X pins σ Q) X.xe s:=by
 have hl:us.length=ps.length:=by rw [← r.length];exact F.len _ _ _ _ h
 have hb':=hb s us I.kIn (by rw [RT];exact hl)
 rw [RT] at hb'
 refine S6 (SV (F.run X.A X.stack s H ⟨us,[]⟩ us vs Q (E σ) hr I.yi hb' r h) λ r s' hq=>?_)
 cases r with
 | error e=>exact hx pins σ H s e s' I hq
 | ok fl =>
  cases fl with
  | ret u=>exact I.after hq
  | next=>exact False.elim hq
  | brk=>exact False.elim hq
  | cont=>exact False.elim hq
theorem aZ (D:DefX X.prog X.w X.K X.mg X.base x k ps sp) (hx:eB X E) (hr:bU k X.A) (hg:Gl X x) (ha:PA X (e :: es) t)
  (hdb:(x ==("__debug__":Str))=false:=by decide) (he:starEach (e :: es) X.env =(false,eval e X.env) :: starEach es X.env:=by rfl) (hpl:(backTo pos (starEach es X.env)).any (·.1)=false:=by rfl) :
  PE X (.Call (.Name x p) (e :: es) [] pos) (BP sp E t):=by
 obtain⟨f,fd,m,F,kp,b⟩:=D.ex
 intro pins s σ H Q I h
 refine Rv (je I hg m ?_ hdb)
 refine SJ (h₀:=X.base) I.ok.mod.kin kp (thn (ha pos pins s σ H _ I h) λ us s1 ⟨vs,H1,I1,r,q⟩=>⟨I1.kIn,?_⟩) he hpl
 exact su F hr b hx I1 r q
theorem bV {pl:Sem Bool} (he:PE X o ta) (c:Cls X.K C) (D:bf X.prog X.w X.K X.mg X.base C m k ps sp) (hx:eB X E) (hr:bU k X.A) (ha:PA X (e :: es) t)
  (hst:starEach (e :: es) X.env =(false,eval e X.env) :: starEach es X.env:=by rfl) (hpl:(backTo pos (starEach es X.env)).any (·.1)=false:=by rfl)
  (ht:eval (.Call (.Attribute o m apos) (e :: es) [] pos) X.env =(do
   let ov ← eval o X.env
   standAt apos.atName
   let (f,first) ← holding [ov] (getMethod ov m pl)
   callWith pos f first (backTo pos (starEach (e :: es) X.env)) (backToKw pos (keywordEach [] X.env))):=by rfl) :
  PE X (.Call (.Attribute o m apos) (e :: es) [] pos) (BQ C m sp E ta t):=by
 obtain⟨f,fd,hm,F,b⟩:=D.ex
 intro pins s σ H Q I h
 refine T8 (pl:=pl) (thn (he pins s σ H _ I h) λ u s1 ⟨x,H1,I1,rx,a,dx,fs,ex,ea,l,q⟩=>?_) ht
 subst ex
 obtain rfl:u=Value.ref a:=rx
 refine vj I1 ea c hm l ?_
 refine SJ (first:=[.ref a]) (h₀:=X.base) I.ok.mod.kin hm.kp (thn (ha pos pins s1 σ H1 _ I1 q) λ us s2 ⟨vs,H2,I2,r,q2⟩=>⟨I2.kIn,?_⟩) hst hpl
 exact su (us:=.ref a :: us) (vs:=.ref a :: vs) F hr b hx I2 (.cons rfl r) q2
theorem cA {pl:Sem Bool} (he:PE X o ta) (c:Cls X.K C) (D:bf X.prog X.w X.K X.mg X.base C m k ps sp) (hx:eB X E) (hr:bU k X.A)
  (ht:eval (.Call (.Attribute o m apos) [] [] pos) X.env =(do
   let ov ← eval o X.env
   standAt apos.atName
   let (f,first) ← holding [ov] (getMethod ov m pl)
   callWith pos f first (backTo pos (starEach [] X.env)) (backToKw pos (keywordEach [] X.env))):=by rfl) :
  PE X (.Call (.Attribute o m apos) [] [] pos) (BQ C m sp E ta DL):=by
 obtain⟨f,fd,hm,F,b⟩:=D.ex
 intro pins s σ H Q I h
 refine T8 (pl:=pl) (thn (he pins s σ H _ I h) λ u s1 ⟨x,H1,I1,rx,a,dx,fs,ex,ea,l,q⟩=>?_) ht
 subst ex
 obtain rfl:u=Value.ref a:=rx
 refine vj I1 ea c hm l ?_
 exact Uo (first:=[.ref a]) I1.kIn hm.kp (su (us:=[.ref a]) (vs:=[.ref a]) F hr b hx I1 (.cons rfl .nil) q)
theorem wB {pins:List (Addr × Obj)} {σ:St} {H:Hp} {s:Shared} {Q:VK} {us:List Value} {vs:List V} (M:Mk X.K C f) (F:aX X.prog X.w X.K X.mg X.base (CXx X.prog X.w) k f fd ps sp) (hr:bU (k + 1) X.A) (hb:Binds X.K fd ps [])
  (hx:eB X E) (I:Inv X pins σ H s) (r:Vals vs us)
  (h:∀ x dx,H x=none->H dx=none->dx ≠ x->sp (.ref x :: vs) (upd (upd H dx (.own x)) x (.ins C dx [])) (λ v H2=>v = .non /\ Q (.ref x) H2) (E σ)) :
  wpAny (model X.prog X.w) X.A (call (.ref C) us) (EP X pins σ Q) X.xe s:=by
 have hq:=h (s.heap.objs.size + 1) s.heap.objs.size (I.hok.fresh (Sf _)) (I.hok.fresh (QH _)) (QN (Sh _))
 have I2:=Inv.made (C:=C) I
 have r2:Vals (V.ref (s.heap.objs.size + 1) :: vs) (Value.ref (s.heap.objs.size + 1) :: us):=.cons rfl r
 have hl:(Value.ref (s.heap.objs.size + 1) :: us).length=ps.length:=by
  have e:=r2.length
  rw [F.len _ _ _ _ hq] at e
  exact e.symm
 have hb':=hb _ (Value.ref (s.heap.objs.size + 1) :: us) I2.kIn (by rw [RT];exact hl)
 rw [RT] at hb'
 refine S6 (x9 (f:=f) I.kIn M.makes M.init (SY.mp M.fn) (SV (F.run _ X.stack _ _ ⟨Value.ref (s.heap.objs.size + 1) :: us,[]⟩ (Value.ref (s.heap.objs.size + 1) :: us) _ _ (E σ) (hr.make C us [])
  (I2.yi.make C us []) hb' r2 hq) λ r s' hq'=>?_))
 cases r with
 | error e=>exact hx pins σ _ _ e s' I2 hq'
 | ok fl =>
  cases fl with
  | ret u =>
   obtain⟨v,H',I3,rv,ev,q3⟩:=I2.after hq'
   subst ev
   exact⟨rv,⟨V.ref (s.heap.objs.size + 1),H',I3,rfl,q3⟩⟩
  | next=>exact False.elim hq'
  | brk=>exact False.elim hq'
  | cont=>exact False.elim hq'
theorem yw (D:kg X.prog X.w X.K X.mg X.base x C k ps sp) (hx:eB X E) (hr:bU (k + 1) X.A) (hg:Gl X x) (ha:PA X (e :: es) t)
  (hdb:(x ==("__debug__":Str))=false:=by decide) (he:starEach (e :: es) X.env =(false,eval e X.env) :: starEach es X.env:=by rfl) (hpl:(backTo pos (starEach es X.env)).any (·.1)=false:=by rfl) :
  PE X (.Call (.Name x p) (e :: es) [] pos) (BI C sp E t):=by
 obtain⟨f,fd,m,M,F,b⟩:=D.ex
 intro pins s σ H Q I h
 refine Rv (je I hg m ?_ hdb)
 refine SJ (h₀:=X.base) I.ok.mod.kin M.kp (thn (ha pos pins s σ H _ I h) λ us s1 ⟨vs,H1,I1,r,q⟩=>⟨I1.kIn,?_⟩) he hpl
 exact wB M F hr b hx I1 r q
theorem wR (D:kg X.prog X.w X.K X.mg X.base x C k ps sp) (hx:eB X E) (hr:bU (k + 1) X.A) (hg:Gl X x) (hdb:(x ==("__debug__":Str))=false:=by decide):PE X (.Call (.Name x p) [] [] pos) (BI C sp E DL):=by
 obtain⟨f,fd,m,M,F,b⟩:=D.ex
 intro pins s σ H Q I h
 refine Rv (je I hg m ?_ hdb)
 exact Uo I.kIn M.kp (wB (us:=[]) M F hr b hx I .nil h)
theorem Inv.GI {pins:List (Addr × Obj)} {σ:St} {H:Hp} {s:Shared} {rest:List Value} (I:Inv X pins σ H s) :
  Inv X pins σ (upd H (s.heap.objs.size + 1) (exO true (s.heap.objs.size + 1) C none)) { s with heap:=(s.heap.push (jv rest)).push (gJ C s.heap.objs.size) }:=by
 refine I.laid (a:=s.heap.objs.size + 1) (t':=s.toks) (λ b u q=>qk b u q) (Sf _) (mW ⟨_,_,n6,rfl,λ _=>rfl⟩)
theorem Em {pins:List (Addr × Obj)} {σ:St} {H:Hp} {s:Shared} {Q:VK} {us:List Value} {vs:List V} (M:XMk X.K C f) (F:aX X.prog X.w X.K X.mg X.base (CXx X.prog X.w) k f fd ps sp) (hr:bU (k + 1) X.A) (hb:Binds X.K fd ps [])
  (I:Inv X pins σ H s) (r:Vals vs us) (hlen:vs.length ≤ sizeLine) (h:∀ x,H x=none->sp (.ref x :: vs) (upd H x (exO true x C none)) (λ v H2=>v = .non /\ Q (.ref x) H2) E0) :
  wpAny (model X.prog X.w) X.A (call (.ref C) us) (EP X pins σ Q) X.xe s:=by
 have hq:=h (s.heap.objs.size + 1) (I.hok.fresh (Sf _))
 have I2:=Inv.GI (C:=C) (rest:=us) I
 have r2:Vals (V.ref (s.heap.objs.size + 1) :: vs) (Value.ref (s.heap.objs.size + 1) :: us):=.cons rfl r
 have hl:(Value.ref (s.heap.objs.size + 1) :: us).length=ps.length:=by
  have e:=r2.length
  rw [F.len _ _ _ _ hq] at e
  exact e.symm
 have hb':=hb _ (Value.ref (s.heap.objs.size + 1) :: us) I2.kIn (by rw [RT];exact hl)
 rw [RT] at hb'
 have run:=F.run _ X.stack _ _ ⟨Value.ref (s.heap.objs.size + 1) :: us,[]⟩ (Value.ref (s.heap.objs.size + 1) :: us) _ _ E0 (hr.make C us []) (I2.yi.make C us []) hb' r2 hq
 obtain⟨hp,g,d,t,os⟩:=s
 refine Bm I.kIn M.cls (by rw [← r.length];exact hlen) M.init (SY.mp M.fn) (S6 (SV run λ r s' hq'=>?_))
 cases r with
 | error e =>
  obtain⟨_,_,_,_,_,_,_,_,_,_,_,_,_,_,z⟩:=hq'
  exact z.elim
 | ok fl =>
  cases fl with
  | ret u =>
   obtain⟨v,H',I3,rv,ev,q3⟩:=I2.after hq'
   subst ev
   exact⟨rv,⟨V.ref (hp.objs.size + 1),H',I3,rfl,q3⟩⟩
  | next=>exact False.elim hq'
  | brk=>exact False.elim hq'
  | cont=>exact False.elim hq'
theorem qW (D:pT X.prog X.w X.K X.mg X.base x C k ps sp) (hr:bU (k + 1) X.A) (hg:Gl X x) (ha:PA X (e :: es) t)
  (hdb:(x ==("__debug__":Str))=false:=by decide) (he:starEach (e :: es) X.env =(false,eval e X.env) :: starEach es X.env:=by rfl) (hpl:(backTo pos (starEach es X.env)).any (·.1)=false:=by rfl) :
  PE X (.Call (.Name x p) (e :: es) [] pos) (Kn C sp t):=by
 obtain⟨f,fd,m,M,F,b⟩:=D.ex
 intro pins s σ H Q I h
 refine Rv (je I hg m ?_ hdb)
 refine SJ (h₀:=X.base) I.ok.mod.kin M.kp (thn (ha pos pins s σ H _ I h) λ us s1 ⟨vs,H1,I1,r,hlen,q⟩=>⟨I1.kIn,?_⟩) he hpl
 exact Em M F hr b I1 r hlen q
end
def Gs (K:Frag) (te:TE) (E:XS):TS:=λ _ σ H=>te σ H λ v H1=>∃ e C od,v = .ref e /\ H1 e=some (exO true e C od) /\ cZ K C /\ E σ (.ref C) (some e) (upd H1 e (exO false e C od))
section
variable {X:Cx} {x:Expr} {te:TE} {E:XS} {pos:Pos}
theorem DZ {M:Model} {A:Around} {E:Value->Shared->Prop} {env:Env} {s:Shared} {x:Sem Value} {Q:Flow->Shared->Prop} (hh:A.handled=none)
  (h:wpAny M A x (λ v s₁=>∃ e vs sl C od,v = .ref e /\ s₁.heap.get? e=some ⟨.ref C,od,.fields vs,sl⟩ /\ vs[1]? = some .none /\ Dy s₁.heap C /\ E (.ref e) s₁) E s) :
  wpAny M A (raiseStmt env (some x) none) Q E s:=by
 unfold raiseStmt
 refine QB (Rf h (λ v s₁ h₁=>?_) λ _ _ x=>x)
 obtain⟨e,vs,sl,C,od,rfl,he,h1,hC,hE⟩:=h₁
 obtain⟨nm,qn,N,bs,bm,sn,sub,ab,col,dd,k0,k1,k2,k3,k5,hC,hb⟩:=hC.ex
 have hcB:=nW (C:=C) hb (T:="BaseException") (by decide)
 obtain⟨hp,g,d,tk,os⟩:=s₁
 repeat (first
  | with_reducible refine RB he ?_
  | with_reducible refine RB hC ?_
  |(with_reducible refine Se hC ?_;rw [hcB])
  | with_reducible refine RI he rfl h1 ?_
  | wp_step)
 exact wpAny_raiseNew_none hh hE
theorem jU (hc:X.calm=true) (hx:Ad X E) (he:PE X x te):PS X (.Raise (some x) none pos) (Gs X.K te E):=by
 intro pins s σ H D I h
 rw [arm_exec_Raise]
 have hh:=I.ok.hd hc
 have key:wpAny (model X.prog X.w) X.A (eval x X.env) (λ v s₁=>∃ e vs sl C od,v = .ref e /\ s₁.heap.get? e=some ⟨.ref C,od,.fields vs,sl⟩ /\ vs[1]? = some .none /\ Dy s₁.heap C /\ X.xe (.ref e) s₁) X.xe s:=by
  refine thn (he pins s σ H _ I h) λ u s1 ⟨v,H1,I1,rv,e,C,od,ev,eo,hcl,hE⟩=>?_
  subst ev
  cases (show u=Value.ref e from rv)
  obtain⟨vs,sl,g,hz,hr⟩:=oq I1.hok eo
  exact⟨e,vs,sl,C,od,rfl,g,hr rfl,hcl.at I1.kIn,hx pins σ H1 s1 e C od I1 eo hE⟩
 exact QB (Uw (DZ hh (QB (Rf key (λ v s₁ h₁=>QB (Uw (QI h₁))) λ _ _ x=>x))))
end
section
variable {M:Model} {A:Around} {E:Value->Shared->Prop} {s:Shared} {K:Frag} {e C DC:Addr} {b:Bool}
theorem Fo {ox:Obj} {Q:Bool->Shared->Prop} (X:K.In s.heap) (hx:s.heap.get? e=some ox) (hcl:ox.cls = .ref C) (cd:cZ K DC) (hm:mroIn K C (.ref DC)=some b) (h:Q b s) :
  wpAny M A (excMatches (.ref e) (.ref DC)) Q E s:=by
 obtain⟨hp,g,d,t,os⟩:=s
 obtain⟨nm,qn,N,bs,bm,sn,sub,ab,col,dd,k0,k1,k2,k3,k5,hC,hb⟩:=(cd.at X).ex
 have hcB:=nW (C:=DC) hb (T:="BaseException") (by decide)
 have f:=tc_notTuple
 have L0:Looks M hp (typeOf (.ref e)) (.ref C):=hcl ▸ (Looks.ld hx).andThen .now
 have L1:=Um (M:=M) X hm
 unfold excMatches
 repeat (first
  | with_reducible refine RB hC ?_
  |(with_reducible refine Se hC ?_;rw [hcB])
  | with_reducible refine L0.at ?_
  | with_reducible refine L1.at ?_
  | wp_step)
 cases b
 ·wp_walk;exact h
 ·wp_walk;exact h
end
abbrev Cx.held (X:Cx) (e:Addr) (pn:List (Addr × Obj)):Cx:={ X with A:=X.A.mark (some (.ref e)),calm:=false,pn:=pn,xe:=λ _ _=>False }
abbrev Cx.tried (X:Cx) (pn:List (Addr × Obj)) (xe:Value->Shared->Prop):Cx:={ X with pn:=pn,xe:=xe }
section
variable {X:Cx} {pins:List (Addr × Obj)} {σ:St} {H:Hp} {s:Shared} {e:Addr} {xe:Value->Shared->Prop}
theorem Inv.held (I:Inv X pins σ H s) (e:Addr):Inv (X.held e (X.pn ++ pins)) [] σ H s :=
 ⟨⟨I.ok.mod,I.ok.kind,I.ok.glob,I.ok.blt,I.ok.above,I.ok.inj,I.ok.has,I.ok.cab,(λ z=>by cases z),I.ok.frames,I.ok.stk,I.ok.exf,I.ok.bs,I.ok.bsz,I.ok.qb,I.ok.qD,I.ok.iE,I.ok.frf⟩,
  I.os,I.bare,I.base,I.loc,I.cell,I.free,I.fH,λ p hp=>I.pin p (by simpa using hp),I.hok,I.len⟩
theorem Inv.vh (ok:X.Ok) (I:Inv (X.held e (X.pn ++ pins)) [] σ H s):Inv X pins σ H s :=
 ⟨ok,I.os,I.bare,I.base,I.loc,I.cell,I.free,I.fH,λ p hp=>I.pin p (by simpa using hp),I.hok,I.len⟩
theorem Inv.tried (I:Inv X pins σ H s):Inv (X.tried (X.pn ++ pins) xe) [] σ H s :=
 ⟨⟨I.ok.mod,I.ok.kind,I.ok.glob,I.ok.blt,I.ok.above,I.ok.inj,I.ok.has,I.ok.cab,I.ok.hd,I.ok.frames,I.ok.stk,I.ok.exf,I.ok.bs,I.ok.bsz,I.ok.qb,I.ok.qD,I.ok.iE,I.ok.frf⟩,
  I.os,I.bare,I.base,I.loc,I.cell,I.free,I.fH,λ p hp=>I.pin p (by simpa using hp),I.hok,I.len⟩
theorem Inv.gn {ps:List (Addr × Obj)} (ok:X.Ok) (I:Inv (X.tried (X.pn ++ pins) xe) ps σ H s):Inv X pins σ H s :=
 ⟨ok,I.os,I.bare,I.base,I.loc,I.cell,I.free,I.fH,λ p hp=>I.pin p (Sl _ hp),I.hok,I.len⟩
theorem mZ {M:Model} {A:Around} {E:Value->Shared->Prop} {i:Nat} {n:Str} {pos:Pos} {Q:Unit->Shared->Prop} (I:Inv X pins σ H s) (hN:X.N.Nodup) (hi:X.N[i]? = some n) (hl:X.env.scope.names.lookup n = some .local)
  (h:∀ s',Inv X pins (σ.set i none) H s'->Q () s'):wpAny M A (do bindName X.env n .none;unbindBehindTheSuite X.env n pos) Q E s:=by
 refine QB (wpAny_bindName (oU (v:=.non) I hN hi (.inl hl) rfl (λ s' I'=>?_) (.inr hl)))
 unfold unbindBehindTheSuite
 obtain⟨m,hn,hm⟩:=id I'.loc
 have hcls:(X.env.scope.kind == .class || (X.env.scope.kind == .module && X.env.locals != X.env.globals)) = false:=by rw [I.ok.kind]; rfl
 have hiσ:i < σ.length:=by rw [I.len];exact(QE.mp hi).1
 obtain⟨u,ru,lk⟩:=hm i n .non hi (by rw [SE hiσ]) (.inl hl)
 have hv:m n=some u:=by
  rcases lk with⟨_,z⟩ |⟨k,_⟩
  ·exact z
  ·rcases k with k | k
   ·have k:X.env.scope.names.lookup n=some .cell:=k
    rw [hl] at k;cases k
   ·have k:X.env.scope.names.lookup n=some .free:=k
    rw [hl] at k;cases k
 refine wpAny_onRaise (wpAny_unbindName_local (env:=X.env) hl hn hv hcls λ h' u' hn' hs=>h _ ?_)
 obtain⟨oL,_,_,hoL,_⟩:=id hn
 have cne:=I'.cne
 refine⟨I'.ok,I'.os,I'.bare,⟨λ b o e n' hb hx=>?_,λ b o e n' hb hx=>?_,I'.base.free,λ b o e hx=>?_,I'.base.tups,I'.base.gb,I'.base.g9⟩,⟨_,hn',λ j y v' e1 e2 e3=>?_⟩,λ y c q=>?_,I'.free,I'.fH,λ p hp=>?_,λ b ob q=>?_,by simpa using I.len⟩
 ·exact(hs.2 b (QN (QT (QF e) I'.ok.above))).trans (I'.base.keep b o e n' hb hx)
 ·obtain⟨sl,e1⟩:=I'.base.slot b o e n' hb hx
  exact⟨sl,(hs.2 b (QN (QT (QF e) I'.ok.above))).trans e1⟩
 ·obtain⟨o',e1⟩:=I'.base.there b o e hx
  exact⟨o',(hs.2 b (QN (QT (QF e) I'.ok.above))).trans e1⟩
 ·by_cases hj:j=i
  ·subst hj
   rw [SE hiσ] at e2
   cases e2
  ·rw [Sm (RJ hj)] at e2
   obtain⟨u2,r2,q⟩:=hm j y v' e1 (by rw [Sm (RJ hj)];exact e2) e3
   refine⟨u2,r2,?_⟩
   rcases q with⟨k,e⟩ |⟨k,c,e,z⟩
   ·refine .inl ⟨k,?_⟩
    have:y ≠ n:=λ e=>hj (uh hN e1 (e ▸ hi))
    simp [this,e]
   ·exact .inr ⟨k,c,e,z.sameBut hs (cne y c e)⟩
 ·obtain⟨w',z⟩:=I'.cell y c q
  exact⟨w',z.sameBut hs (cne y c q)⟩
 ·obtain⟨e,n',ne,nf,d⟩:=I'.pin p hp
  exact⟨(hs.2 p.1 ne).trans e,n',ne,nf,d⟩
 ·refine(I'.hok b ob q).stay (λ c w' hc q'=>(hs.2 c ?_).trans q') (λ _ q'=>q') λ _ _ q'=>q'
  rintro rfl
  rcases hc with z | z
  ·rw [← z,I'.free] at q;cases q
  ·rw [I'.free] at z;cases z
end
abbrev TH:=Addr->Addr->TS
def PH (X:Cx) (hs:List ExceptHandler) (th:TH):Prop :=
 ∀(pins:List (Addr × Obj)) (s:Shared) (σ:St) (H:Hp) (D:Ends) (e C:Addr) (od:Option Addr) (T:Addr),Inv X pins σ H s->H e=some (exO false e C od)->Fly s.heap e T .none->fu X pins H T->th e C D σ H →
  wpAny (model X.prog X.w) X.A (handleBy (.ref e) X.env hs) (SP X pins D) X.xe s
def Mp:TH:=λ _ _ _ _ _=>False
theorem FO {X:Cx}:PH X [] Mp:=λ _ _ _ _ _ _ _ _ _ _ _ _ _ h=>h.elim
def hAs (K:Frag) (DC:Addr) (i:Nat) (ts:Addr->List (Addr × Obj)->TS) (tr:TH):TH:=λ e C D σ H=>∃ b,mroIn K C (.ref DC)=some b /\ if b=true then
 ∀ pn,ts e pn { nx:=λ σ' H'=>D.nx (σ'.set i none) H',rt:=D.rt,bk:=λ σ' H'=>D.bk (σ'.set i none) H',ct:=λ σ' H'=>D.ct (σ'.set i none) H' } (σ.set i (some (.ref e))) H else tr e C D σ H
section
variable {X:Cx} {x n:Str} {i:Nat} {DC:Addr} {np pos:Pos} {b0:Stmt} {suite:List Stmt} {rest:List ExceptHandler} {ts:Addr->List (Addr × Obj)->TS} {tr:TH}
theorem SP.gn {pins:List (Addr × Obj)} {D:Ends} {xe:Value->Shared->Prop} {fl:Flow} {s':Shared} (ok:X.Ok) (h:SP (X.tried (X.pn ++ pins) xe) [] D fl s'):SP X pins D fl s':=by
 cases fl with
 | next=>obtain⟨σ',H',J,q⟩:=h;exact⟨σ',H',J.gn ok,q⟩
 | brk=>obtain⟨σ',H',J,q⟩:=h;exact⟨σ',H',J.gn ok,q⟩
 | cont=>obtain⟨σ',H',J,q⟩:=h;exact⟨σ',H',J.gn ok,q⟩
 | ret u=>obtain⟨v,σ',H',J,r,q⟩:=h;exact⟨v,σ',H',J.gn ok,r,q⟩
theorem GF (hg:Gl X x) (hm:X.mg x = some (.ref DC)) (c:cZ X.K DC) (hN:X.N.Nodup) (hi:X.N[i]? = some n) (hl:X.env.scope.names.lookup n = some .local)
  (hs:∀ e pn,PSs (X.held e pn) (b0 :: suite) (ts e pn)) (hr:PH X rest tr) (hd:(x ==("__debug__":Str))=false:=by decide) :
  PH X (.ExceptHandler (some (.Name x np)) (some n) (b0 :: suite) pos :: rest) (hAs X.K DC i ts tr):=by
 rintro pins s σ H D e C od T I q fly fp ⟨b,hb,h⟩
 obtain⟨vs,sl,g,_⟩:=oq I.hok q
 have IH:=I.held e
 refine wpAny_handleBy_cons (codeAny_handlers_test (je (X:=X.held e (X.pn ++ pins)) IH hg hm ?_ hd)) (by intro z;cases z)
 refine Fo I.kIn g rfl c hb ?_
 cases b with
 | false =>
  rw [if_neg (by decide)] at h
  exact hr pins s σ H D e C od T I q fly fp h
 | true =>
  rw [if_pos rfl] at h
  refine codeAny_handlers_suite_as (kc fly λ h2 k _ fly2=>?_)
  have I2:=I.landed fp k
  refine oU (X:=X.held e (X.pn ++ pins)) (I2.held e) hN hi (.inl hl) (v:=.ref e) rfl (λ s3 I3=>?_) (.inr hl)
  refine Rf (hs e _ [] s3 _ _ _ I3 (h _)) (λ fl s4 h4=>?_) λ _ _ z=>z.elim
  cases fl with
  | next=>obtain⟨σ',H',J,q'⟩:=h4;exact mZ (J.vh I.ok) hN hi hl λ s5 I5=>⟨_,_,I5,q'⟩
  | brk=>obtain⟨σ',H',J,q'⟩:=h4;exact mZ (J.vh I.ok) hN hi hl λ s5 I5=>⟨_,_,I5,q'⟩
  | cont=>obtain⟨σ',H',J,q'⟩:=h4;exact mZ (J.vh I.ok) hN hi hl λ s5 I5=>⟨_,_,I5,q'⟩
  | ret u=>obtain⟨v,σ',H',J,r,q'⟩:=h4;exact mZ (J.vh I.ok) hN hi hl λ s5 I5=>⟨v,_,_,I5,r,q'⟩
def Mi (tb:List (Addr × Obj)->(Value->Shared->Prop)->XS->TS) (th:TH):TS:=λ D σ H=>∀ pn xe,tb pn xe (λ σ' cls oe H'=>∃ e C,cls = .ref C /\ oe=some e /\ th e C D σ' H') D σ H
theorem Ga {body:List Stmt} {h0:ExceptHandler} {hs:List ExceptHandler} {tb:List (Addr × Obj)->(Value->Shared->Prop)->XS->TS} {th:TH} (hb:∀ pn xe E,eB (X.tried pn xe) E->PSs (X.tried pn xe) body (tb pn xe E)) (hh:PH X (h0 :: hs) th) (hst:X.stack = X.env :: X.outer) (hfr:X.env.frame = some X.env.locals) :
  PS X (.Try body (h0 :: hs) [] [] pos) (Mi tb th):=by
 intro pins s σ H D I h
 refine wpAny_Try_except ?_
 refine Rf (hb (X.pn ++ pins) (λ v s₁=>wpAny (model X.prog X.w) X.A (noteFrame v X.env) (λ _ s₂=>wpAny (model X.prog X.w) X.A (setFlight v none) (λ _ s₃=>wpAny (model X.prog X.w) X.A (handleBy v X.env (h0 :: hs)) (SP X pins D) X.xe s₃) X.xe s₂) X.xe s₁)
  (λ σ' cls oe H'=>∃ e C,cls = .ref C /\ oe=some e /\ th e C D σ' H') ?_ [] s σ H D I.tried (h _ _)) (λ fl s1 h1=>?_) λ v s1 h1=>h1
 ·rintro ps σ' H1 s1 v s2 J ⟨e,C,od,T,H2,rfl,os,bare,un,hok,he,hT,nT,fly,e',C',ec,ee,hth⟩
  cases ec
  cases ee
  have J2:=J.xR (ch:=[]) os un hok bare (λ b z=>absurd z (by simp))
  have K2:Inv X pins σ' H2 s2:=J2.gn I.ok
  have fp:fu X pins H2 T:=(J.gn I.ok).ny hT nT
  have fr:X.A.frames=some (X.env :: X.outer):=by rw [← hst];exact I.ok.frames
  show wpAny _ _ (noteFrame (.ref e) X.env) _ _ _
  refine wG fr (by rw [← hst];exact K2.stack) hfr fly λ h3 T3 Nd=>?_
  rw [← hst] at Nd
  have K3:=K2.noted (ch:=[T]) he Nd (λ b hb=>by have:=QZ.mp hb;subst this;exact fp)
  rw [C9 he] at K3
  have fp3:fu X pins H2 T3:=K2.ny Nd.new (K2.hok.fresh Nd.new)
  refine kc (s:={ s2 with heap:=h3 }) Nd.fly λ h4 k4 _ fly4=>?_
  have K4:=K3.landed fp3 k4
  exact hh pins _ σ' H2 D e C od T3 K4 he fly4 fp3 hth
 ·cases fl with
  | next=>exact Tw (SP.gn I.ok h1)
  | brk=>exact SP.gn I.ok h1
  | cont=>exact SP.gn I.ok h1
  | ret u=>exact SP.gn I.ok h1
end
theorem Gv {P:Program} {w:World} {o:List Env} {H:Hp} {s s':Shared} {e:Value} (h:CXx P w o H s (λ _ _ _=>False) e s'):False:=by
 obtain⟨_,_,_,_,_,_,_,_,_,_,_,_,_,_,z⟩:=h
 exact z
def iG (C:Addr) (f:Str):Sp:=λ vs H Q _=>∃ p y,vs = [.ref p,y] /\ H p=some (exO true p C none) /\ ∀ dx,H dx=none->Q .non (upd (upd H dx (xdO dx [(f,y)])) p (exO true p C (some dx)))
section
variable {K:Frag} {C:Addr} {f g:Str} {y z:V} {H1:Hp} {E:XK}
theorem AQ {H1:Hp} {x dx C:Addr} {fs:List (Str × V)} (hx:H1 x=none) (hdx:upd H1 x (exO true x C none) dx=none) :
  ExcAt (upd (upd (upd (upd H1 x (exO true x C none)) dx (xdO dx fs)) x (exO true x C (some dx))) x (exO false x C (some dx))) x C fs /\ az H1 (upd (upd (upd (upd H1 x (exO true x C none)) dx (xdO dx fs)) x (exO true x C (some dx))) x (exO false x C (some dx))):=by
 have hne:dx ≠ x:=λ e=>by rw [e,ak] at hdx;cases hdx
 have hn:H1 dx=none:=by rw [af hne] at hdx;exact hdx
 refine⟨⟨false,some dx,ak,?_,hne⟩,λ b o q=>?_⟩
 ·rw [af hne,af hne,ak]
 ·have h1:=aj q hx
  have h2:=aj q hn
  rw [af h1,af h1,af h2,af h1];exact q
theorem kq (c:cZ K C) (h:∀ e H',ExcAt H' e C [(f,y)]->az H1 H'->E (.ref C) (some e) H') :
  [y].length ≤ sizeLine /\ ∀ x,H1 x=none->iG C f (.ref x :: [y]) (upd H1 x (exO true x C none)) (λ v H2=>v = .non /\ ∃ e C' od,V.ref x = .ref e /\ H2 e=some (exO true e C' od) /\ cZ K C' /\ E (.ref C') (some e) (upd H2 e (exO false e C' od))) E0 :=
 ⟨by show 1 ≤ sizeLine;decide,λ x hx=>⟨x,y,rfl,ak,λ dx hdx=>⟨rfl,x,C,some dx,rfl,ak,c,let ⟨a,b⟩:=AQ hx hdx;h x _ a b⟩⟩⟩
end
theorem yf {H:Hp} {a b:Addr} {o:HO} (h:upd H a o b=none):H b=none /\ b ≠ a:=by
 unfold upd at h
 split at h
 ·cases h
 ·exact⟨h,by assumption⟩
theorem yd (n:Nat):(List.replicate n [V.int 0]).flatten =(List.replicate n (0:Int)).map V.int:=by
 induction n with
 | zero=>rfl
 | succ n ih=>rw [Sx,Td,ih];rfl
theorem fG {f g:Str} {v x:V} {r:List (Str × V)} (h:¬ g=f):cz f v ((g,x) :: r) =(g,x) :: cz f v r:=by
 show(if g=f then _ else _)=_
 rw [if_neg h]
theorem ED {f:Str} {v x:V} {r:List (Str × V)}:cz f v ((f,x) :: r) =(f,v) :: r:=by
 show(if f=f then _ else _)=_
 rw [if_pos rfl]
theorem ER {f g:Str} {x:V} {r:List (Str × V)} (h:¬ f=g):List.lookup f ((g,x) :: r)=List.lookup f r:=by
 rw [QM]
 have:(f == g)=false:=by simpa using h
 rw [this]
theorem bR {f:Str} {x:V} {r:List (Str × V)}:List.lookup f ((f,x) :: r)=some x:=by
 rw [QM];simp
def aV (F:List Addr) (H H':Hp):Prop:=∀ b o,H b=some o->b ∉ F->H' b=some o
theorem aV.of_same {F:List Addr} {H H':Hp} (h:az H H'):aV F H H':=λ b o e _=>h b o e
theorem dF {F:List Addr} {H H':Hp} {p:Addr} {o:HO} (s:aV F H H') (h:p ∈ F ∨ H p=none):aV F H (upd H' p o):=λ b u e hb=>by
 rw [af]
 ·exact s b u e hb
 ·rintro rfl
  rcases h with h | h
  ·exact hb h
  ·rw [h] at e;cases e
theorem aV.refl {F:List Addr} {H:Hp}:aV F H H:=λ _ _ e _=>e
structure Rows (H:Hp) (L:List Addr) (xss:List (List Int)):Prop where
 len:L.length=xss.length
 get:∀(i:Nat) a xs,L[i]? = some a->xss[i]? = some xs->H a=some (.lst (xs.map V.int))
theorem Rows.mono {H H':Hp} {L:List Addr} {xss:List (List Int)} (R:Rows H L xss) (h:∀ a ∈ L,∀ o,H a=some o->H' a=some o):Rows H' L xss :=
 ⟨R.len,λ i a xs e1 e2=>h a (QJ e1) _ (R.get i a xs e1 e2)⟩
theorem Rows.snoc {H:Hp} {L:List Addr} {xss:List (List Int)} (R:Rows H L xss) {a:Addr} {xs:List Int} (h:H a=some (.lst (xs.map V.int))):Rows H (L ++ [a]) (xss ++ [xs]) :=
 ⟨by simp [R.len],λ i b ys e1 e2=>by
  have l:=R.len
  by_cases hi:i < L.length
  ·rw [QW hi] at e1
   rw [QW (by omega)] at e2
   exact R.get i b ys e1 e2
  ·rw [Rb (by omega)] at e1
   rw [Rb (by omega)] at e2
   have hi2:i - L.length=0:=by
    have:=(QE.mp e1).1
    simp at this;omega
   rw [hi2] at e1
   rw [show i - xss.length=0 by omega] at e2
   have e1:a=b:=by simpa using e1
   have e2:xs=ys:=by simpa using e2
   rw [← e1,← e2];exact h⟩
theorem Rows.at_ {H:Hp} {L:List Addr} {xss:List (List Int)} (R:Rows H L xss) {i:Nat} {xs:List Int} (h:xss[i]? = some xs):∃ a,L[i]? = some a /\ a ∈ L /\ H a=some (.lst (xs.map V.int)):=by
 have hi:i < L.length:=by rw [R.len];exact(QE.mp h).1
 exact⟨L[i],QC hi,R8 hi,R.get i _ xs (QC hi) h⟩
def fl (wd ls:Int) (ta sa:Addr):List (Str × V):=[("wide",.int wd),("last",.int ls),("tables",.ref ta),("set_places",.ref sa)]
theorem s1:¬(("wide":Str) = "last"):=by decide +kernel
theorem s2:¬(("wide":Str) = "tables"):=by decide +kernel
theorem s3:¬(("wide":Str) = "set_places"):=by decide +kernel
theorem s4:¬(("last":Str) = "tables"):=by decide +kernel
theorem s5:¬(("last":Str) = "set_places"):=by decide +kernel
theorem s6:¬(("tables":Str) = "set_places"):=by decide +kernel
def nextT (tab:List Int) (chs:List (Int × Int)):List Int:=chs.foldl (λ t c=>t.set c.1.toNat c.2) tab
section
variable {prog:Program} {w:World} {A:Around} {E:Value->Shared->Prop} {h:Heap} {g:Array GenState} {d:Drawn} {t:Nat} {os:OsState} {K:Frag} {C f:Addr}
variable {nm q:Str} {N:Addr} {bs bm:List Value} {sn:List Str} {sub:List Value} {ab:Bool} {col:Option Bool} {dd:Option Addr} {k0 k1 k2 k3 k5:Option Value}
theorem zH {M:Model} {e:Addr} {oe:Obj} {rest:List Value} {Q:Unit->Shared->Prop} (hb:cU bm=true) (hC:h.get? C=some (excClassObj nm q C N bs bm true sn sub ab col dd k0 k1 k2 k3 k5 "ValueError.__new__"))
  (he:h.get? e=some oe) (hcls:oe.cls = .ref C) (hq:Q () ⟨h,g,d,t,os⟩):wpAny M A (checkBuiltinCall "ValueError.__init__" ⟨.ref e :: rest,[]⟩) Q E ⟨h,g,d,t,os⟩:=by
 have F:=Sg
 have hcB:=nW (C:=C) hb (T:="ValueError") (by decide)
 have hshort:=F.noStar
 simp only [checkBuiltinCall,F.initKind,F.initSplit,F.initRow]
 repeat (first |(with_reducible refine RB he ?_;rw [hcls]) | with_reducible refine RB hC ?_ |(with_reducible refine Se hC ?_;rw [hcB]) | wp_step)
 refine wpAny_onRaise ?_
 rw [show ∀(a b:String) (n:Nat),Bind.check ⟨.positional,"*","ValueError",.self,[⟨"args",.varPos,false⟩]⟩ a b n (List.map (λ x=>x.fst) ({ pos:=Value.ref e :: rest }:Args).kw)=pure () from
  λ a b n=>check_star_args _ _ _ _ _ _]
 exact QI hq
theorem zX {Q:Fin->Shared->Prop} (hb:cU bm=true) (hC:h.get? C=some (excClassObj nm q C N bs bm true sn sub ab col dd k0 k1 k2 k3 k5 "ValueError.__new__")) (X:K.In h)
  (hi:findIn K (.ref C) "__init__" = some (some (.builtin "ValueError.__init__")))
  (hq:∀ h',(∀ b o,h.get? b=some o->h'.get? b=some o)->h'.get? (h.objs.size + 1)=some (gJ C (h.objs.size + 2))->Q (.done (.ret (.ref (h.objs.size + 1)))) ⟨h',g,d,t,os⟩) :
  wpAny (model prog w) A (Builtin.«type.__call__» ⟨.ref C :: [],[]⟩) Q E ⟨h,g,d,t,os⟩:=by
 have F:=Sg
 repeat (first | with_reducible refine RB hC ?_ | with_reducible refine UQ hC ?_ | wp_step)
 refine UG (SI _ F.quiet) (vo hb hC ?_)
 refine wI hb hC (Rm _) ?_
 show wpAny _ _ _ _ _ _
 have X1:K.In ((h.push (jv [])).push (gJ C h.objs.size)):=X.keeps qk
 have hC1:=qk (C:=C) (rest:=[]) _ _ hC
 have hcC:(Value.ref C :: bm).contains (.ref C)=true:=by simp
 have L1:=Sn (M:=model prog w) X1 hi
 unfold isInstance
 repeat (first | with_reducible refine RB n6 ?_ |(with_reducible refine Se hC1 ?_;rw [hcC]) | wp_step)
 show wpAny _ _ (typeLookup (.ref C) _) _ _ _
 refine L1.at ?_
 refine RK (QB (wpAny_of_eq (F.init.bind _) ?_))
 refine QB (S6 (Ug F.init.plain F.initEntry (zH hb hC1 n6 rfl ?_)))
 wp_walk
 refine hq _ (λ b o hb=>?_) ?_
 ·rw [RC _ _ (Ry (Sa (QF hb)))]
  exact QD _ (QD _ (QD _ hb))
 ·rw [RG _ (QD _ n6) rfl]
  simp only [Heap.size_push]
  rfl
theorem zS {Q:Value->Shared->Prop} (X:K.In h) (c:cZ K C) (hi:findIn K (.ref C) "__init__" = some (some (.builtin "ValueError.__init__")))
  (hq:∀ h',(∀ b o,h.get? b=some o->h'.get? b=some o)->h'.get? (h.objs.size + 1)=some (gJ C (h.objs.size + 2))->Q (.ref (h.objs.size + 1)) ⟨h',g,d,t,os⟩) :
  wpAny (model prog w) A (call (.ref C) []) Q E ⟨h,g,d,t,os⟩:=by
 obtain⟨nm,qn,N,bs,bm,sn,sub,ab,col,dd,k0,k1,k2,k3,k5,hC,hb⟩:=(c.at X).ex
 have f1:=tc_lookup
 have f2:=tc_bind (.ref C)
 have hT:(⟨h,g,d,t,os⟩:Shared).TypeIs (.ref C) "type":=⟨_,hC,rfl⟩
 refine S6 (codeAny_of_tree ?_)
 show wpAny _ _ (callAny (.ref C) _) _ _ _
 repeat (any_goals (first | assumption | with_reducible refine RB hC ?_ | wp_step))
 refine⟨rfl,?_⟩
 exact U0 (SI _ (by decide +kernel)) entry_typeCall (UH hC (zX hb hC X hi hq))
end
def GO (C:Addr):TE:=λ σ H Q=>∀ x,H x=none->Q (.ref x) (upd H x (exO true x C none))
theorem Ez {X:Cx} {x:Str} {C:Addr} {p pos:Pos} (m:X.mg x=some (.ref C)) (c:cZ X.K C) (hi:findIn X.K (.ref C) "__init__" = some (some (.builtin "ValueError.__init__"))) (kp:keepIn X.K (.ref C)=true) (hg:Gl X x)
  (hdb:(x ==("__debug__":Str))=false:=by decide):PE X (.Call (.Name x p) [] [] pos) (GO C):=by
 intro pins s σ H Q I h
 refine Rv (je I hg m ?_ hdb)
 refine Uo I.kIn kp ?_
 have hq:=h (s.heap.objs.size + 1) (I.hok.fresh (Sf _))
 obtain⟨hp,g,d,t,os⟩:=s
 refine zS I.kIn c hi λ h' hk hx=>?_
 exact⟨.ref (hp.objs.size + 1),_,I.laid (a:=hp.objs.size + 1) (t':=t) (λ b u q=>hk b u q) (Sf _) (mW ⟨_,_,hx,rfl,λ _=>rfl⟩),rfl,hq⟩
structure uo (K:Frag) (x qual:Str) (st:Stmt) (f:Addr) (fd:FuncData) (dV:Value):Prop where
 ex:∃(oc:Value) (od:Option Addr) (kV doc pm:Value) (an:Option Addr) (cdv ct:Value) (osl:Array (Option Value)),
  fd=fnOf x qual (aN st) (aJ st) (av st) dV kV doc pm an cdv ct /\ K.lookup f=some ⟨oc,od,.func fd,osl⟩ /\ codeIn K cdv qual=true
 kp:keepIn K (.ref f)=true
section
variable {P:Program} {w:World} {K:Frag} {mg:Str->Option Value} {base:Heap}
theorem uo.okX {x qual:Str} {st:Stmt} {f:Addr} {fd:FuncData} {dV:Value} {N ps:List Str} {k:Nat} {sp:Sp} (F:uo K x qual st f fd dV) (S:aP N ps (av st)) (len:∀ vs H Q E,sp vs H Q E->vs.length=ps.length)
  (hbody:∀(cdv:Value) (A:Around) (outer:List Env) (s:Shared) (H:Hp) (vs:List V) (Q:VK) (E:XK),bU k (A.deeper (envOfC qual (av st) s.heap.objs.size f cdv))->sp vs H Q E →
   ∃ t,PSs (nK (CXx P w) P w K mg base N qual (av st) f cdv A outer s H E) (aJ st) t /\ t { nx:=λ _ H'=>Q .non H',rt:=Q } (start N vs) H):aX P w K mg base (CXx P w) (k + 1) f fd ps sp:=by
 obtain⟨oc,od,kV,doc,pm,an,cdv,ct,osl,rfl,lk,hcd⟩:=F.ex
 exact Ec lk hcd S len λ A outer s H vs Q E hr hsp=>hbody cdv A outer s H vs Q E hr hsp
theorem Al {x qual:Str} {st:Stmt} {f:Addr} {oc dV:Value} {od an:Option Addr} {osl:Array (Option Value)} {kV doc pm cdv ct:Value} (l:K.lookup f=some ⟨oc,od,.func (fnOf x qual (aN st) (aJ st) (av st) dV kV doc pm an cdv ct),osl⟩)
  (c:codeIn K cdv qual=true) (k:keepIn K (.ref f)=true):uo K x qual st f (fnOf x qual (aN st) (aJ st) (av st) dV kV doc pm an cdv ct) dV:=⟨⟨oc,od,kV,doc,pm,an,cdv,ct,osl,rfl,l,c⟩,k⟩
theorem uo.binds {x qual:Str} {st:Stmt} {f T:Addr} {fd:FuncData} {ps:List Str} {o:Obj} {its:Array Value} {n:Nat} {ds:List Value} (F:uo K x qual st f fd (.ref T)) (ho:K.lookup T=some o) (hs:o.data = .seq its n)
  (h:∀(kV doc pm:Value) (an:Option Addr) (cdv ct:Value) (us:List Value),us.length + ds.length=ps.length->∃ k:Option (Array Value)->Sem (List (Str × Value)),
   bindArgs (fnOf x qual (aN st) (aJ st) (av st) (.ref T) kV doc pm an cdv ct) ⟨us,[]⟩=seqItems? (.ref T) >>= k /\ k (some its)=pure (ps.zip (us ++ ds))):Binds K fd ps ds:=by
 obtain⟨oc,od,kV,doc,pm,an,cdv,ct,osl,rfl,lk,hcd⟩:=F.ex
 intro s us X hl
 obtain⟨k,h1,h2⟩:=h kV doc pm an cdv ct us (by rw [← Rj];exact hl)
 exact PySem.W.binds_K X rfl ho hs h1 h2
end
section
variable (P:Program) (w:World) (K:Frag) (mg:Str->Option Value) (base:Heap)
structure oj (x:Str) (C:Addr) (k:Nat) (ps:List Str) (ds:List Value) (sp:Sp):Prop where
 ex:∃(f:Addr) (fd:FuncData),mg x=some (.ref C) /\ Mk K C f /\ aX P w K mg base (CXx P w) k f fd ps sp /\ Binds K fd ps ds
structure Hh (C:Addr) (m:Str) (f:Addr):Prop where
 ga:specialIn K (.ref C) "__getattribute__" = some (some (.builtin "type.__getattribute__"))
 rd:readsIn K C (.type "type")=true
 fc:findCls K (.ref C) (.type "type") m=some (.val (.ref f))
 kp:keepIn K (.ref f)=true
structure Bk (x:Str) (C:Addr) (m:Str) (k:Nat) (ps:List Str) (sp:Sp):Prop where
 ex:∃(f:Addr) (fd:FuncData),mg x=some (.ref C) /\ Hh K C m f /\ aX P w K mg base (CXx P w) k f fd ps sp /\ Binds K fd ps []
end
def EL (C:Addr) (sp:Sp) (E:XS) (dvs:List V) (t:TA):TE:=λ σ H Q=>t σ H λ vs H1=>∀ x dx,H1 x=none->H1 dx=none->dx ≠ x →
 sp (.ref x ::(vs ++ dvs)) (upd (upd H1 dx (.own x)) x (.ins C dx [])) (λ v H2=>v = .non /\ Q (.ref x) H2) (E σ)
def Ek (t1 t2:TE):TE:=λ σ H Q=>t1 σ H Q ∨ t2 σ H Q
section
variable {X:Cx} {k:Nat} {f C:Addr} {fd:FuncData} {ps:List Str} {sp:Sp} {E:XS} {x m:Str} {p pos apos:Pos} {e o:Expr} {es:List Expr} {ta:TE} {t:TA} {ds:List Value} {dvs:List V}
theorem kr {t1 t2:TE} (h1:PE X e t1) (h2:PE X e t2):PE X e (Ek t1 t2):=λ pins s σ H Q I h=>h.elim (h1 pins s σ H Q I) (h2 pins s σ H Q I)
theorem AL {pins:List (Addr × Obj)} {σ:St} {H:Hp} {s:Shared} {Q:VK} {us:List Value} {vs:List V} (M:Mk X.K C f) (F:aX X.prog X.w X.K X.mg X.base (CXx X.prog X.w) k f fd ps sp) (hr:bU (k + 1) X.A) (hb:Binds X.K fd ps ds) (rd:Vals dvs ds)
  (hx:eB X E) (I:Inv X pins σ H s) (r:Vals vs us)
  (h:∀ x dx,H x=none->H dx=none->dx ≠ x->sp (.ref x ::(vs ++ dvs)) (upd (upd H dx (.own x)) x (.ins C dx [])) (λ v H2=>v = .non /\ Q (.ref x) H2) (E σ)) :
  wpAny (model X.prog X.w) X.A (call (.ref C) us) (EP X pins σ Q) X.xe s:=by
 have hq:=h (s.heap.objs.size + 1) s.heap.objs.size (I.hok.fresh (Sf _)) (I.hok.fresh (QH _)) (QN (Sh _))
 have I2:=Inv.made (C:=C) I
 have r2:Vals (V.ref (s.heap.objs.size + 1) ::(vs ++ dvs)) (Value.ref (s.heap.objs.size + 1) :: us ++ ds):=.cons rfl (Vals.append r rd)
 have hl:(Value.ref (s.heap.objs.size + 1) :: us ++ ds).length=ps.length:=by
  have e:=r2.length
  rw [F.len _ _ _ _ hq] at e
  exact e.symm
 have hb':=hb _ (Value.ref (s.heap.objs.size + 1) :: us) I2.kIn hl
 refine S6 (x9 (f:=f) I.kIn M.makes M.init (SY.mp M.fn) (SV (F.run _ X.stack _ _ ⟨Value.ref (s.heap.objs.size + 1) :: us,[]⟩ (Value.ref (s.heap.objs.size + 1) :: us ++ ds) _ _ (E σ) (hr.make C us [])
  (I2.yi.make C us []) hb' r2 hq) λ r s' hq'=>?_))
 cases r with
 | error e=>exact hx pins σ _ _ e s' I2 hq'
 | ok fl =>
  cases fl with
  | ret u =>
   obtain⟨v,H',I3,rv,ev,q3⟩:=I2.after hq'
   subst ev
   exact⟨rv,⟨V.ref (s.heap.objs.size + 1),H',I3,rfl,q3⟩⟩
  | next=>exact False.elim hq'
  | brk=>exact False.elim hq'
  | cont=>exact False.elim hq'
theorem qu (D:oj X.prog X.w X.K X.mg X.base x C k ps ds sp) (rd:Vals dvs ds) (hx:eB X E) (hr:bU (k + 1) X.A) (hg:Gl X x) (ha:PA X (e :: es) t)
  (hdb:(x ==("__debug__":Str))=false:=by decide) (he:starEach (e :: es) X.env =(false,eval e X.env) :: starEach es X.env:=by rfl) (hpl:(backTo pos (starEach es X.env)).any (·.1)=false:=by rfl) :
  PE X (.Call (.Name x p) (e :: es) [] pos) (EL C sp E dvs t):=by
 obtain⟨f,fd,m,M,F,b⟩:=D.ex
 intro pins s σ H Q I h
 refine Rv (je I hg m ?_ hdb)
 refine SJ (h₀:=X.base) I.ok.mod.kin M.kp (thn (ha pos pins s σ H _ I h) λ us s1 ⟨vs,H1,I1,r,q⟩=>⟨I1.kIn,?_⟩) he hpl
 exact AL M F hr b rd hx I1 r q
theorem Ar {pl:Sem Bool} (he:PE X o (tC (.ref C))) (D:Bk X.prog X.w X.K X.mg X.base x C m k ps sp) (hx:eB X E) (hr:bU k X.A) (ha:PA X (e :: es) t)
  (hst:starEach (e :: es) X.env =(false,eval e X.env) :: starEach es X.env:=by rfl) (hpl:(backTo pos (starEach es X.env)).any (·.1)=false:=by rfl)
  (ht:eval (.Call (.Attribute o m apos) (e :: es) [] pos) X.env =(do
   let ov ← eval o X.env
   standAt apos.atName
   let (f,first) ← holding [ov] (getMethod ov m pl)
   callWith pos f first (backTo pos (starEach (e :: es) X.env)) (backToKw pos (keywordEach [] X.env))):=by rfl) :
  PE X (.Call (.Attribute o m apos) (e :: es) [] pos) (BP sp E t):=by
 obtain⟨f,fd,_,c,F,b⟩:=D.ex
 intro pins s σ H Q I h
 refine T8 (pl:=pl) (thn (he pins s σ H (λ v H'=>v = .ref C /\ H'=H) I ⟨rfl,rfl⟩) λ u s1 ⟨x,H1,I1,rx,ex,eH⟩=>?_) ht
 subst ex eH
 obtain rfl:u=Value.ref C:=rx
 refine PySem.W.method_cls I1.kIn c.ga (PySem.W.cls_value I1.kIn c.rd c.fc rfl ?_)
 refine SJ (first:=[]) (h₀:=X.base) I.ok.mod.kin c.kp (thn (ha pos pins _ σ H1 _ (I1.tok _) h) λ us s2 ⟨vs,H2,I2,r,q2⟩=>⟨I2.kIn,?_⟩) hst hpl
 exact su F hr b hx I2 r q2
end
def Src (i l:Addr) (its:Array Value) (k:Nat) (h:Heap):Prop:=(h.IsListIter i l k /\ h.IsList l its) ∨(h.IsTupleIter i l k /\ h.IsTuple l its)
theorem Src.mv {i l:Addr} {its:Array Value} {k:Nat} {h h':Heap} (x:Src i l its k h) (e1:∀ o,h.get? i=some o->h'.get? i=some o) (e2:∀ o,h.get? l=some o->h'.get? l=some o):Src i l its k h':=by
 rcases x with⟨⟨o,a,b⟩,⟨p,c,d⟩⟩ |⟨⟨o,a,b⟩,⟨p,c,d⟩⟩
 ·exact .inl ⟨⟨o,e1 o a,b⟩,⟨p,e2 p c,d⟩⟩
 ·exact .inr ⟨⟨o,e1 o a,b⟩,⟨p,e2 p c,d⟩⟩
theorem Src.rec {i l:Addr} {its:Array Value} {k:Nat} {h:Heap} (x:Src i l its k h):∃ o,h.get? i=some o /\ ∀ v,o.data ≠ .cell v:=by
 rcases x with⟨⟨o,a,_,d⟩,_⟩ |⟨⟨o,a,_,d⟩,_⟩ <;> exact⟨o,a,λ v q=>by rw [d] at q;cases q⟩
section
variable {prog:Program} {w:World} {A:Around} {E:Value->Shared->Prop} {s:Shared} {i l:Addr} {its:Array Value} {k:Nat}
theorem D4 {x:Value} {Q:Value->Shared->Prop} (h1:s.heap.IsTupleIter i l k) (h2:s.heap.IsTuple l its) (hx:its[k]? = some x) (hQ:∀ h',h'.IsTupleIter i l (k + 1)->Heap.SameBut i s.heap h'->Q x { s with heap:=h' }) :
  wpAny (model prog w) A (Builtin.SmallTypes.nextOf (.ref i)) Q E s:=by
 obtain⟨o,ho,hc,hd⟩:=id h1
 obtain⟨ot,hot,_,nt,hdt⟩:=h2
 have S:=T4
 unfold Builtin.SmallTypes.nextOf
 refine QB (Sv (name:=Str.ofString "__next__") h1.typeIs S (Sz S h1.typeIs TX ?_ (TU _)))
 show wpAny _ _ (field (Value.ref i) 0 >>= _) _ _ s
 refine QB (RI ho hd (x:=Value.ref l) rfl ?_)
 show wpAny _ _ (if (Value.ref l == .none)=true then _ else _) _ _ s
 rw [if_neg (by simp)]
 show wpAny _ _ (field (Value.ref i) 1 >>= _) _ _ s
 refine QB (RI ho hd (x:=Value.int k 0) rfl ?_)
 show wpAny _ _ (seqItems? (Value.ref l) >>= _) _ _ s
 refine QB (Vj hot hdt ?_)
 simp only [Int.toNat_natCast,hx]
 refine QB (TN ho hd (by simp) (QI ⟨x,rfl,QI (hQ _ ⟨_,RG _ ho (T7 (S7 hd _)),(Obj.cls_mapFields ..).trans hc,?_⟩ (Heap.SameBut.update ..))⟩))
 rw [S7 hd]
 simp [rawInt]
theorem EU {Q:Value->Shared->Prop} (hh:A.handled=none) (h1:s.heap.IsTupleIter i l k) (h2:s.heap.IsTuple l its) (hx:its[k]? = none) (hE:∀ h' e,Heap.ExtBut i s.heap h'->(∃ o,h'.get? e=some o /\ o.cls = .type "StopIteration")->E (.ref e) { s with heap:=h' }) :
  wpAny (model prog w) A (Builtin.SmallTypes.nextOf (.ref i)) Q E s:=by
 obtain⟨o,ho,hc,hd⟩:=id h1
 obtain⟨ot,hot,_,nt,hdt⟩:=h2
 have S:=T4
 unfold Builtin.SmallTypes.nextOf
 refine QB (Sv (name:=Str.ofString "__next__") h1.typeIs S (Sz S h1.typeIs TX ?_ (TU _)))
 show wpAny _ _ (field (Value.ref i) 0 >>= _) _ _ s
 refine QB (RI ho hd (x:=Value.ref l) rfl ?_)
 show wpAny _ _ (if (Value.ref l == .none)=true then _ else _) _ _ s
 rw [if_neg (by simp)]
 show wpAny _ _ (field (Value.ref i) 1 >>= _) _ _ s
 refine QB (RI ho hd (x:=Value.int k 0) rfl ?_)
 show wpAny _ _ (seqItems? (Value.ref l) >>= _) _ _ s
 refine QB (Vj hot hdt ?_)
 simp only [Int.toNat_natCast,hx]
 refine QB (wpAny_rule (QB (TN ho hd (by simp) ?_)))
 show wpAny _ _ (newExc (Value.type "StopIteration") [] >>= _) _ _ _
 refine QB ?_
 simp only [newExc,newTuple]
 refine QB (R9 ?_ (by size_fits))
 refine QB (m:=firstArgMember _ _) (wpAny_of_eq (a:=Value.none) (by simp only [firstArgMember];rfl) (R9 ?_ (by size_fits)))
 simp only [raiseNew]
 refine QB (wpAny_handled ?_)
 rw [show A.in1.handled=none from hh]
 exact QB (QI (wpAny_throw (hE _ _ (((Heap.SameBut.update ..).extBut.push _).push _) ⟨_,QU _ rfl,rfl⟩)))
theorem Src.item {x:Value} {Q:Value->Shared->Prop} (S:Src i l its k s.heap) (ne:l ≠ i) (hx:its[k]? = some x) (hQ:∀ h',Src i l its (k + 1) h'->Heap.SameBut i s.heap h'->Q x { s with heap:=h' }) :
  wpAny (model prog w) A (Builtin.SmallTypes.nextOf (.ref i)) Q E s:=by
 rcases S with⟨a,b⟩ |⟨a,b⟩
 ·exact Vc a b hx λ h' a' sb=>hQ h' (.inl ⟨a',let ⟨p,c,d⟩:=b;⟨p,sb.extBut _ _ ne c,d⟩⟩) sb
 ·exact D4 a b hx λ h' a' sb=>hQ h' (.inr ⟨a',let ⟨p,c,d⟩:=b;⟨p,sb.extBut _ _ ne c,d⟩⟩) sb
theorem Src.fin {Q:Value->Shared->Prop} (hh:A.handled=none) (S:Src i l its k s.heap) (hx:its[k]? = none) (hE:∀ h' e,Heap.ExtBut i s.heap h'->(∃ o,h'.get? e=some o /\ o.cls = .type "StopIteration")->E (.ref e) { s with heap:=h' }) :
  wpAny (model prog w) A (Builtin.SmallTypes.nextOf (.ref i)) Q E s:=by
 rcases S with⟨a,b⟩ |⟨a,b⟩
 ·exact Vk hh a b hx hE
 ·exact EU hh a b hx hE
end
abbrev zS1 (h:Heap) (t:Addr):Heap:=h.push { cls:=.type "tuple_iterator",data:=.fields #[.ref t,.int 0 0] }
theorem Src.tup {i l:Addr} {its us:Array Value} {k:Nat} {h:Heap} (x:Src i l its k h) (t:h.IsTuple l us):h.IsTupleIter i l k:=by
 rcases x with⟨_,⟨p,c,d,_⟩⟩ |⟨a,_⟩
 ·obtain⟨q,e,f,_⟩:=t
  rw [c] at e;cases e;rw [d] at f;simp at f
 ·exact a
theorem Src.lst {i l:Addr} {its us:Array Value} {k:Nat} {h:Heap} (x:Src i l its k h) (t:h.IsList l us):h.IsListIter i l k:=by
 rcases x with⟨a,_⟩ |⟨_,⟨p,c,d,_⟩⟩
 ·exact a
 ·obtain⟨q,e,f,_⟩:=t
  rw [c] at e;cases e;rw [d] at f;simp at f
theorem zx {K:Frag} {a:Addr} (D:Addr) {xs:List V} {g:TG} {tt:TT} {te:TE} {σ:St} {H:Hp} {R:Hp->Prop} (Pv:Nat->St->Hp->List V->Prop) (h0:Pv 0 σ H []) (hl:∀ i σ H ys,i ≤ xs.length->Pv i σ H ys->SqT K H a xs)
  (hs:∀ i x σ H ys,xs[i]? = some x->Pv i σ H ys->g x σ H λ σ3 H3=>tt σ3 H3 λ b H4=>if b=true then
   te σ3 H4 λ y H5=>H5 D=some (.lst ys) /\ ys.length < sizeLine /\ Pv (i + 1) σ3 (upd H5 D (.lst (ys ++ [y]))) (ys ++ [y]) else Pv (i + 1) σ3 H4 ys) (hd:∀ σ H ys,Pv xs.length σ H ys->R H) :
  ∃ W:Nat->Nat->St->Hp->List V->Prop,(∃ m,W 0 m σ H []) /\ ∀ i m σ' H' ys,W i m σ' H' ys->((Itt K a).stop i H' /\ R H') ∨
   ((Itt K a).go i H' /\ ∃ N:St->Hp->List V->Prop,(∀ σ' H' ys',N σ' H' ys'->∃ m',m' < m /\ W (i + 1) m' σ' H' ys') /\ ∀ x H2,(Itt K a).yld i H' x H2->g x σ' H2 λ σ3 H3=>tt σ3 H3 λ b H4=>if b=true then
    te σ3 H4 λ y H5=>H5 D=some (.lst ys) /\ ys.length < sizeLine /\ N σ3 (upd H5 D (.lst (ys ++ [y]))) (ys ++ [y])
    else N σ3 H4 ys):=by
 refine⟨λ i m σ H ys=>m=xs.length - i /\ i ≤ xs.length /\ Pv i σ H ys,⟨xs.length,by simp,Rm _,h0⟩,?_⟩
 rintro i m σ H ys ⟨rfl,hi,p⟩
 have q:=hl i σ H ys hi p
 by_cases hlt:i < xs.length
 ·refine .inr ⟨⟨xs,xs[i],q,by simp [hlt]⟩,Pv (i + 1),λ σ' H' ys' p'=>⟨xs.length -(i + 1),by omega,rfl,hlt,p'⟩,λ x H' y=>?_⟩
  obtain⟨e,y⟩:=y
  subst e
  exact hs i x σ _ ys (y xs q) p
 ·have e:i=xs.length:=by omega
  subst e
  exact .inl ⟨⟨xs,q,QH _⟩,hd σ H ys p⟩
def tI (n:Int):Int:=n * 128 % 18446744073709551616 + n / 144115188075855872
theorem Cp (n:Nat):tI (n:Int) =(Chk.T n:Nat):=by
 unfold tI Chk.T;omega
theorem rY (a b:Nat):Builtin.bitXor (a:Int) (b:Int) =((a ^^^ b:Nat):Int):=by
 rw [PyProof.Rows.bitXor_and]
 have e:Builtin.bitAnd (a:Int) (b:Int) =((a &&& b:Nat):Int):=by
  unfold Builtin.bitAnd
  simp
 rw [e]
 have:=Chk.Et a b
 omega
def flat (rows:List (Nat × Nat)):List Nat:=rows.flatMap λ r=>[r.1,r.2]
theorem xh (rows:List (Nat × Nat)) (r:Nat × Nat):flat (rows ++ [r])=flat rows ++ [r.1,r.2]:=by simp [flat]
structure bX (H:Hp) (L:List V) (rows:List (Nat × Nat)):Prop where
 len:L.length=rows.length
 get:∀(i:Nat) v,L[i]? = some v->∃ t r,v=V.ref t /\ rows[i]? = some r /\ H t=some (.tup [.int (r.1:Int),.int (r.2:Int)])
theorem bX.mono {H H':Hp} {L:List V} {rows:List (Nat × Nat)} (R:bX H L rows) (h:∀ t xs,H t=some (.tup xs)->H' t=some (.tup xs)):bX H' L rows :=
 ⟨R.len,λ i v e=>let ⟨t,r,a,b,c⟩:=R.get i v e;⟨t,r,a,b,h t _ c⟩⟩
theorem bX.snoc {H:Hp} {L:List V} {rows:List (Nat × Nat)} (R:bX H L rows) {t:Addr} {r:Nat × Nat} (h:H t=some (.tup [.int (r.1:Int),.int (r.2:Int)])):bX H (L ++ [.ref t]) (rows ++ [r]) :=
 ⟨by simp [R.len],λ i v e=>by
  by_cases hi:i < L.length
  ·rw [QW hi] at e
   obtain⟨t,r,a,b,c⟩:=R.get i v e
   exact⟨t,r,a,by rw [QW (by rw [← R.len];exact hi)];exact b,c⟩
  ·rw [Rb (by omega)] at e
   have hi2:i - L.length=0:=by
    have:=(QE.mp e).1
    simp at this;omega
   rw [hi2] at e
   have e:V.ref t=v:=by simpa using e
   refine⟨t,r,e.symm,?_,h⟩
   rw [Rb (by rw [← R.len];omega),← R.len,hi2];rfl⟩
theorem yQ (l:List (Nat × Nat)):(flat l).length=2 * l.length:=by
 induction l with
 | nil=>rfl
 | cons r l ih =>
  have:flat (r :: l)=r.1 :: r.2 :: flat l:=rfl
  rw [this];simp only [List.length_cons,ih];omega
theorem zu {x v:V}:cz "rows" v [("day",x)] =([("day",x),("rows",v)]:List (Str × V)):=by
 rw [fG (by decide +kernel)];rfl
theorem m5 {x y v:V}:cz "check" v [("day",x),("rows",y)] =([("day",x),("rows",y),("check",v)]:List (Str × V)):=by
 rw [fG (by decide +kernel),fG (by decide +kernel)];rfl
theorem yO {x y z v:V}:cz "fits" v [("day",x),("rows",y),("check",z)] =([("day",x),("rows",y),("check",z),("fits",v)]:List (Str × V)):=by
 rw [fG (by decide +kernel),fG (by decide +kernel),fG (by decide +kernel)];rfl
theorem Dz {x y z f v:V}:cz "base" v [("day",x),("rows",y),("check",z),("fits",f)] =([("day",x),("rows",y),("check",z),("fits",f),("base",v)]:List (Str × V)):=by
 rw [fG (by decide +kernel),fG (by decide +kernel),fG (by decide +kernel),fG (by decide +kernel)];rfl
theorem lU {x:V} {r:List (Str × V)}:List.lookup ("day":Str) (("day",x) :: r)=some x:=by rw [QM];simp
theorem fY {x y:V} {r:List (Str × V)}:List.lookup ("rows":Str) (("day",x) ::("rows",y) :: r)=some y:=by
 rw [QM,show(("rows":Str) == "day")=false by decide +kernel,QM];simp
theorem jW {x y z:V} {r:List (Str × V)}:List.lookup ("check":Str) (("day",x) ::("rows",y) ::("check",z) :: r)=some z:=by
 rw [QM,show(("check":Str) == "day")=false by decide +kernel,QM,show(("check":Str) == "rows")=false by decide +kernel,QM];simp
theorem AJ {x y z f:V} {r:List (Str × V)}:List.lookup ("fits":Str) (("day",x) ::("rows",y) ::("check",z) ::("fits",f) :: r)=some f:=by
 rw [QM,show(("fits":Str) == "day")=false by decide +kernel,QM,show(("fits":Str) == "rows")=false by decide +kernel,QM,show(("fits":Str) == "check")=false by decide +kernel,QM];simp
theorem AE {x y z f v:V} {r:List (Str × V)}:List.lookup ("base":Str) (("day",x) ::("rows",y) ::("check",z) ::("fits",f) ::("base",v) :: r)=some v:=by
 rw [QM,show(("base":Str) == "day")=false by decide +kernel,QM,show(("base":Str) == "rows")=false by decide +kernel,QM,show(("base":Str) == "check")=false by decide +kernel,QM,show(("base":Str) == "fits")=false by decide +kernel,QM];simp
def pfs (wh:Bool) (b d:Nat) (r:Addr) (c:Int) (f:Bool):List (Str × V):=match wh with
 | true=>[("day",V.int (d:Int)),("rows",V.ref r),("check",V.int c),("fits",V.bl f)]
 | false=>[("day",V.int (d:Int)),("rows",V.ref r),("check",V.int c),("fits",V.bl f),("base",V.int (b:Int))]
theorem fh {m:Str} {wh:Bool} {b d:Nat} {r:Addr} {c:Int} {f:Bool} (h1:(m == "day")=false) (h2:(m == "rows")=false) (h3:(m == "check")=false) (h4:(m == "base")=false) (h5:(m == "fits")=false:=by decide +kernel):List.lookup m (pfs wh b d r c f)=none:=by
 cases wh
 ·show List.lookup m [_,_,_,_,_]=none
  rw [QM,h1,QM,h2,QM,h3,QM,h5,QM,h4];rfl
 ·show List.lookup m [_,_,_,_]=none
  rw [QM,h1,QM,h2,QM,h3,QM,h5];rfl
def stN (wh:Bool) (b:Nat):Nat:=cond wh 0 (b + 1)
def d8 (wh:Bool) (b d:Nat) (rows:List (Nat × Nat)):Nat:=Chk.chk (stN wh b :: d :: flat rows)
def PAt (CW CG:Addr) (H:Hp) (p:Addr) (wh:Bool) (b d:Nat) (rows:List (Nat × Nat)) (c:Int):Prop :=
 ∃ dx r R,H p=some (.ins (cond wh CW CG) dx (pfs wh b d r c (decide (c =(d8 wh b d rows:Nat))))) /\ H r=some (.tup R) /\ bX H R rows
theorem PAt.keep {CW CG:Addr} {H H':Hp} {p:Addr} {wh:Bool} {b d:Nat} {rows:List (Nat × Nat)} {c:Int} (h:PAt CW CG H p wh b d rows c) (s:az H H'):PAt CW CG H' p wh b d rows c:=by
 obtain⟨dx,r,R,h1,h2,h3⟩:=h
 exact⟨dx,r,R,s _ _ h1,s _ _ h2,h3.mono λ t xs e=>s _ _ e⟩
theorem jh {H H':Hp} {x dx:Addr} {o:HO} (hx:H x=none) (hd:H dx=none) (k:aV [x] (upd (upd H dx (.own x)) x o) H'):az H H':=λ b u e=>by
 have n1:=aj e hx
 have n2:=aj e hd
 exact k b u (by rw [af n1,af n2];exact e) (by simpa using n1)
theorem Gu {i j:Int}:decide (V.int i=V.int j)=decide (i=j):=decide_eq_decide.mpr ⟨V.int.inj,λ e=>by rw [e]⟩
def qQ:Sp:=λ vs H Q _=>∃ n:Int,vs = [.int n] /\ Q (.int (tI n)) H
def ux:Sp:=λ vs H Q _=>∃(s d:Nat) (a:Addr) (L:List V) (rows:List (Nat × Nat)),vs = [.int ((s:Int) - 1),.int (d:Int),.ref a] /\(H a=some (.lst L) ∨ H a=some (.tup L)) /\ bX H L rows /\ rows.length ≤ 100 /\ ∀ H',az H H'->Q (.int (Chk.chk (s :: d :: flat rows):Nat)) H'
def pO (K:Frag):Sp:=λ vs H Q _=>∃(p C dx a:Addr) (s d:Nat) (L:List V) (rows:List (Nat × Nat)) (cv:V) (c:Int),vs = [.ref p,.int ((s:Int) - 1),.int (d:Int),.ref a,cv] /\ H p=some (.ins C dx []) /\ Cls K C /\ bD K C "day" /\ bD K C "rows" /\ bD K C "check" /\ bD K C "fits" ∧
 (H a=some (.lst L) ∨ H a=some (.tup L)) /\ bX H L rows /\ rows.length ≤ 100 /\((cv = .non /\ c =(Chk.chk (s :: d :: flat rows):Nat)) ∨ cv = .int c) ∧
 ∀ r R H',H' p=some (.ins C dx [("day",V.int (d:Int)),("rows",V.ref r),("check",V.int c),("fits",V.bl (decide (c =(Chk.chk (s :: d :: flat rows):Nat))))])->H' r=some (.tup R)->bX H' R rows->aV [p] H H'->Q .non H'
def j5 (CW CG:Addr):Sp:=λ vs H Q _=>∃(p dx a:Addr) (d:Nat) (L:List V) (rows:List (Nat × Nat)) (cv:V) (c:Int),vs = [.ref p,.int (d:Int),.ref a,cv] /\ H p=some (.ins CW dx []) ∧
 (H a=some (.lst L) ∨ H a=some (.tup L)) /\ bX H L rows /\ rows.length ≤ 100 /\((cv = .non /\ c =(d8 true 0 d rows:Nat)) ∨ cv = .int c) /\ ∀ H',PAt CW CG H' p true 0 d rows c->aV [p] H H'->Q .non H'
def mC (CW CG:Addr):Sp:=λ vs H Q _=>∃(p dx a:Addr) (b d:Nat) (L:List V) (rows:List (Nat × Nat)) (cv:V) (c:Int),vs = [.ref p,.int (b:Int),.int (d:Int),.ref a,cv] /\ H p=some (.ins CG dx []) ∧
 (H a=some (.lst L) ∨ H a=some (.tup L)) /\ bX H L rows /\ rows.length ≤ 100 /\((cv = .non /\ c =(d8 false b d rows:Nat)) ∨ cv = .int c) /\ ∀ H',PAt CW CG H' p false b d rows c->aV [p] H H'->Q .non H'
def n5 (CW CG:Addr):Sp:=λ vs H Q _=>∃(p:Addr) (wh:Bool) (b d:Nat) (rows:List (Nat × Nat)) (c:Int),vs = [.ref p] /\ PAt CW CG H p wh b d rows c /\ Q (.int (rows.length:Int)) H
def jK (CW CG:Addr):Sp:=λ vs H Q _=>∃(p:Addr) (wh:Bool) (b d:Nat) (rows:List (Nat × Nat)) (c:Int),vs = [.ref p] /\ PAt CW CG H p wh b d rows c /\ rows.length ≤ 100 /\ ∀ H',az H H'->Q (.bl (decide (c =(d8 wh b d rows:Nat)))) H'
def mV:Sp:=λ vs H Q _=>∃ p:Addr,vs = [.ref p] /\ Q (.int (-1)) H
def mO (CW CG:Addr):Sp:=λ vs H Q _=>∃(p:Addr) (b d:Nat) (rows:List (Nat × Nat)) (c:Int),vs = [.ref p] /\ PAt CW CG H p false b d rows c /\ Q (.int (b:Int)) H
theorem rZ:∀ {us:List Value} {ns:List Int},IntsAre us ns->Vals (ns.map V.int) us
 | _,_,.nil=>.nil
 | _,_,.cons _ t r=>.cons ⟨t,rfl⟩ (rZ r)
theorem uE {us:List Value} {ns:List Int} (h:IntsAre us ns):us.length=ns.length:=by
 have:=(rZ h).length
 rw [QG] at this
 exact this.symm
theorem zN {P:Program} {w:World} {H:Hp} {h:Heap} {a:Addr} {o:HO} (x:bB P w H h a o):∃ ob,h.get? a=some ob:=by
 cases o with
 | lst xs=>obtain⟨_,_,_,_,e⟩:=x;exact⟨_,e⟩
 | tup xs=>obtain⟨_,_,_,ob,e,_⟩:=x;exact⟨_,e⟩
 | dK kvs=>obtain⟨_,_,_,_,o,_,_,e,_⟩:=x;exact⟨_,e⟩
 | dT kvs=>obtain⟨_,_,_,_,o,_,_,e,_⟩:=x;exact⟨_,e⟩
 | set S n=>obtain⟨o,_,_,_,e,_⟩:=x;exact⟨_,e⟩
 | ins C dx fs=>obtain⟨_,_,_,e,_⟩:=x;exact⟨_,e⟩
 | own y=>exact x
 | xd fs=>obtain⟨_,⟨_,_,_,e,_⟩,_⟩:=x;exact⟨_,e⟩
 | rng lo hi=>obtain⟨_,_,_,e⟩:=x;exact⟨_,e⟩
 | frz ob u=>exact⟨_,x.1⟩
 | tbl ps=>exact⟨_,x⟩
 | met f y=>exact⟨_,x⟩
 | ext φ=>exact x.2.1
section
variable {X:Cx} {pins:List (Addr × Obj)} {σ:St} {H:Hp} {s:Shared}
theorem Inv.B8 {a:Addr} {h':Heap} {t':Nat} {vs:List V} (I:Inv X pins σ H s) (hn:s.heap.get? a=none) (k:∀ b o,s.heap.get? b=some o->h'.get? b=some o) (new:bB X.prog X.w (upd H a (.lst vs)) h' a (.lst vs)) :
  ∃ _:H a=none,Inv X pins σ (upd H a (.lst vs)) { s with heap:=h',toks:=t' } /\ True:=by
 have hHn:H a=none:=by
  cases z:H a with
  | none=>rfl
  | some o =>
   obtain⟨ob,hob⟩:=zN (I.hok a o z)
   rw [hn] at hob;cases hob
 refine⟨hHn,?_,trivial⟩
 have na:∀ b o,s.heap.get? b=some o->b ≠ a:=λ b o e z=>by rw [z,hn] at e;cases e
 have hu:Un X.fs [] H (upd H a (.lst vs)) s.heap h':=by
  refine⟨λ b o e _ _ _=>k b o e,λ b o e _ _ _=>⟨o.slots,k b o e⟩,λ b o e n _=>?_,λ b o e _=>⟨o,k b o e⟩,λ b xs e=>?_,λ b o u e=>?_,λ b ps e=>⟨#[],?_⟩⟩
  ·rw [af (na b o e)];exact n
  ·rw [af (aj e hHn)];exact e
  ·rw [af (aj e hHn)];exact e
  ·rw [af (aj e hHn),e];simp
 refine I.un hu λ b o e=>?_
 by_cases z:b=a
 ·subst z;rw [ak] at e;cases e;exact new
 ·rw [af z] at e
  exact(I.hok b o e).stay (λ c v _ q=>k c v q) (λ c q=>by rw [af (aj q hHn)];exact q) λ c xs q=>by rw [af (aj q hHn)];exact q
end
section
variable {X:Cx}
theorem yU (hc:X.calm=true):iX X (.builtin "sorted") (λ xs H Q=>∃(a:Addr) (kvs:List (Key × V)) (ns:List Int),xs = [.ref a] /\ H a=some (.dK kvs) /\ kvs.map (·.1)=ns.map Sum.inl /\ ns.length < 64 ∧
  ∀(l:Addr) (ns':List Int),H l=none->ns'.Perm ns->ns'.Pairwise (· ≤ ·)->Q (.ref l) (upd H l (.lst (ns'.map V.int)))):=by
 rintro pins s σ H xs us Q I r ⟨a,kvs,ns,rfl,hD,hk,h64,q⟩
 obtain⟨u,rfl,ru⟩:=vals1 r
 cases (show u=Value.ref a from ru)
 obtain⟨hsz,lo,vs,kv,hd⟩:=oR I.hok hD
 obtain⟨ep,hat⟩:=hd.dictAt
 have hkeys:=kv.keys
 have hvl:vs.length=ns.length:=by
  have:=congrArg List.length (hkeys.symm.trans hk)
  simpa using this
 refine UI kind_sorted plain_sorted entry_sorted (args_sorted1 _) ?_
 unfold Builtin.«sorted»
 refine QB (m:=checkCount "sorted" 1 1 _) (QI ?_)
 refine QB (VF (A:=X.A.in1) (Wk (knd:=bG X.prog X.w) (kvs:=vs) (ep:=ep) lo) (I.ok.hd hc) hat (by rw [hvl];exact RM (aY (by omega))) λ h' tk acc keep hacc=>?_)
 have hI:IntsAre acc.toList ns:=by
  refine UE ?_
  have hal:acc.toList.length=ns.length:=by rw [Tu,hacc.1,hvl]
  have key:∀(j:Nat) v,acc.toList[j]? = some v->∃ n t,ns[j]? = some n /\ v=Value.int n t:=λ j v e=>by
   obtain⟨k,x,h1,h2⟩:=hacc.2 j v (by rw [← Ti];exact e)
   have e1:(vs.map (·.1))[j]? = some k:=by rw [QK,h1];rfl
   rw [← hkeys,hk,QK] at e1
   obtain⟨n,e2,e3⟩:=QX.mp e1
   subst e3
   have h2:lq (Sum.inl n) v=true:=h2
   rcases cj h2 with⟨i,t,e5,e4⟩ |⟨y,t,e5,e4⟩
   ·first |(cases e4;subst e5;exact⟨n,t,e2,rfl⟩) |(cases e5;subst e4;exact⟨n,t,e2,rfl⟩)
   ·first |(cases e4;done) |(cases e5;done)
  clear hacc
  generalize acc.toList=us at hal key
  clear hk hvl h64 q
  induction us generalizing ns with
  | nil=>cases ns with
   | nil=>exact .nil
   | cons n ns=>simp at hal
  | cons u us ih=>cases ns with
   | nil=>simp at hal
   | cons n ns =>
    obtain⟨m,t,e1,e2⟩:=key 0 u rfl
    have e1:n=m:=by simpa using e1
    subst e1
    exact .cons ⟨t,e2⟩ (ih (ns:=ns) (by simpa using hal) λ j v e=>by
     obtain⟨m,t,a1,a2⟩:=key (j + 1) v (by simpa using e)
     exact⟨m,t,by simpa using a1,a2⟩)
 have hal:acc.toList.length < 64:=by rw [uE hI];exact h64
 refine QB (Vy ?_ (RM (aY (by omega))))
 have hoL:(h'.push (seqObj "list" acc.toList.toArray 0)).get? h'.objs.size=some (seqObj "list" acc.toList.toArray 0):=QU _ rfl
 refine QB (RK (Sz slot_list_sort ⟨_,hoL,rfl⟩ entry_list_sort (list_sort_tree hoL hI hal λ out ns' b1 b2 b3=>⟨_,rfl,?_⟩) (args_list_sort _)))
 refine QI ⟨_,rfl,?_⟩
 obtain⟨e,hat2⟩:=sortedHeap_at (out:=out) hoL
 have hno:s.heap.get? h'.objs.size=none:=by
  cases z:s.heap.get? h'.objs.size with
  | none=>rfl
  | some o=>exact absurd (QF (keep _ _ z)) (Su _)
 have hlen:ns'.length ≤ sizeLine:=by rw [b2.length_eq];exact RM (aY (by omega))
 have keep2:∀ b o,s.heap.get? b=some o->(sortedHeap (h'.push (seqObj "list" acc.toList.toArray 0)) h'.objs.size acc.toList out).get? b=some o:=λ b o z=>by
  have hb:=keep b o z
  have hlt:=QF hb
  rw [sortedHeap_old (QN hlt) (by rw [size_push'];exact Sa hlt)]
  exact QD _ hb
 obtain⟨H',I',_⟩:=I.B8 (t':=tk) (vs:=ns'.map V.int) hno keep2 ⟨by rw [QG];exact hlen,out.toList,e,rZ b1,by simpa using hat2⟩
 exact⟨.ref h'.objs.size,_,I',rfl,q _ ns' H' b2 b3⟩
end
def sfs (d:Addr) (fl:Int):List (Str × V):=[("pieces",V.ref d),("follows",V.int fl)]
theorem z4 {x v:V}:cz "follows" v [("pieces",x)] =([("pieces",x),("follows",v)]:List (Str × V)):=by
 rw [fG (by decide +kernel)];rfl
theorem yH {d:Addr} {fl m:Int}:cz "follows" (.int m) (sfs d fl)=sfs d m:=by
 unfold sfs;rw [fG (by decide +kernel),ED]
theorem mT {d:Addr} {fl:Int}:List.lookup ("pieces":Str) (sfs d fl)=some (V.ref d):=by
 unfold sfs;rw [QM];simp
theorem uZ {d:Addr} {fl:Int}:List.lookup ("follows":Str) (sfs d fl)=some (V.int fl):=by
 unfold sfs;rw [QM,show(("follows":Str) == "pieces")=false by decide +kernel,QM];simp
theorem rD {m:Str} {d:Addr} {fl:Int} (h1:(m == "pieces")=false) (h2:(m == "follows")=false):List.lookup m (sfs d fl)=none:=by
 unfold sfs;rw [QM,h1,QM,h2];rfl
def gw (C:Addr) (H:Hp) (p d:Addr) (fl:Int) (kvs:List (Key × V)):Prop:=∃ dx,H p=some (.ins C dx (sfs d fl)) /\ H d=some (.dK kvs)
theorem gw.keep {C:Addr} {H H':Hp} {p d:Addr} {fl:Int} {kvs:List (Key × V)} (h:gw C H p d fl kvs) (s:az H H'):gw C H' p d fl kvs:=by
 obtain⟨dx,h1,h2⟩:=h
 exact⟨dx,s _ _ h1,s _ _ h2⟩
def um (C:Addr):Sp:=λ vs H Q _=>∃(p dx:Addr),vs = [.ref p] /\ H p=some (.ins C dx []) /\ ∀ d H',gw C H' p d 0 []->H d=none->aV [p] H H'->Q .non H'
def yy (C:Addr):Sp:=λ vs H Q _=>∃(p d:Addr) (fl:Int) (kvs:List (Key × V)) (n:Int) (a:Addr),vs = [.ref p,.int n,.ref a] /\ gw C H p d fl kvs /\ kvs.length < 1000 ∧
 ∀ H',gw C H' p d (if n + 1 > fl then n + 1 else fl) (putK kvs (.inl n) (.ref a))->aV [p,d] H H'->Q .non H'
def zo (C:Addr):Sp:=λ vs H Q _=>∃(p d:Addr) (fl:Int) (kvs:List (Key × V)) (a:Addr),vs = [.ref p,.ref a] /\ gw C H p d fl kvs /\ kvs.length < 1000 ∧
 ∀ H',gw C H' p d (fl + 1) (putK kvs (.inl fl) (.ref a))->aV [p,d] H H'->Q (.int fl) H'
def pQ (C CN:Addr):Sp:=λ vs H Q E=>∃(p d:Addr) (fl:Int) (kvs:List (Key × V)) (n:Int),vs = [.ref p,.int n] /\ gw C H p d fl kvs /\(∀ v,bg kvs (.inl n)=some v->Q v H) ∧
 (bg kvs (.inl n)=none->∀ e H',ExcAt H' e CN [("number",.int n)]->az H H'->E (.ref CN) (some e) H')
def iW (M:Int->Option (Int × Int)):Int->List Int->Option Int
 | at',[]=>some at'
 | at',n :: r=>match M n with
  | none=>none
  | some (s,d)=>if s=at' then iW M d r else none
theorem kR (M:Int->Option (Int × Int)) (a n:Int) (r:List Int):iW M a (n :: r)=match M n with
  | none=>none
  | some (s,d)=>if s=a then iW M d r else none:=rfl
theorem w5 (M:Int->Option (Int × Int)):∀(l:List Int) (a:Int) (r:List Int),iW M a (l ++ r) =(iW M a l).bind λ b=>iW M b r
 | [],a,r=>rfl
 | n :: l,a,r=>by
  rw [Wj,kR,kR]
  cases M n with
  | none=>rfl
  | some sd =>
   obtain⟨s,d⟩:=sd
   dsimp only
   by_cases h:s=a
   ·rw [if_pos h,if_pos h];exact w5 M l d r
   ·rw [if_neg h,if_neg h];rfl
theorem Cv (kvs:List (Key × V)) (k j:Key):bg (dI kvs k) j=if j=k then none else bg kvs j:=by
 induction kvs with
 | nil=>show none=_;split <;> rfl
 | cons p r ih =>
  have e:dI (p :: r) k=if p.1=k then dI r k else p :: dI r k:=by
   unfold dI;rw [Tq];by_cases h:p.1=k <;> simp [h]
  rw [e]
  by_cases h:p.1=k
  ·rw [if_pos h,ih]
   by_cases hj:j=k
   ·rw [if_pos hj,if_pos hj]
   ·rw [if_neg hj,if_neg hj,cF (λ z=>hj (z.symm.trans h))]
  ·rw [if_neg h]
   by_cases hp:p.1=j
   ·rw [cT hp,cT hp,if_neg (λ z=>h (hp.trans z))]
   ·rw [cF hp,cF hp,ih]
def g8 (lkv:List (Key × V)):Prop:=∀ kv ∈ lkv,∃ n:Int,kv.1=Sum.inl n
theorem g8.nil:g8 []:=λ _ h=>by cases h
theorem g8.put {kvs:List (Key × V)} (h:g8 kvs) (n:Int) (v:V):g8 (putK kvs (Sum.inl n) v):=λ kv hm=>by
 unfold putK at hm
 split at hm
 ·obtain⟨kv',h1,rfl⟩:=QS.mp hm
  obtain⟨m,e⟩:=h kv' h1
  split
  ·exact⟨m,e⟩
  ·exact⟨m,e⟩
 ·rcases Ro.mp hm with h1 | h1
  ·exact h kv h1
  ·have:kv =(Sum.inl n,v):=by simpa using h1
   exact⟨n,by rw [this]⟩
theorem g8.drop {kvs:List (Key × V)} (h:g8 kvs) (k:Key):g8 (dI kvs k):=λ kv hm=>h kv (SN.mp hm).1
def d7 (H:Hp) (F:List Addr):Prop:=∀ x ∈ F,(∃ kv,H x=some (.dK kv)) ∨(∃ C dx d fl,H x=some (.ins C dx (sfs d fl)))
theorem d7.tup {H:Hp} {F:List Addr} (h:d7 H F) {t:Addr} {xs:List V} (e:H t=some (.tup xs)):t ∉ F:=λ hm=>by
 rcases h t hm with⟨kv,e'⟩ |⟨C,dx,d,fl,e'⟩ <;>(rw [e] at e';cases e')
theorem d7.lst {H:Hp} {F:List Addr} (h:d7 H F) {t:Addr} {xs:List V} (e:H t=some (.lst xs)):t ∉ F:=λ hm=>by
 rcases h t hm with⟨kv,e'⟩ |⟨C,dx,d,fl,e'⟩ <;>(rw [e] at e';cases e')
theorem d7.seq {K:Frag} {H H':Hp} {F:List Addr} (hF:d7 H F) (k:aV F H H') {a:Addr} {xs:List V} (h:SqL K H a xs):SqL K H' a xs:=by
 rcases h with(h |⟨o,h⟩) | h
 ·exact .inl (.inl (k _ _ h (hF.lst h)))
 ·refine .inl (.inr ⟨o,k _ _ h (λ hm=>?_)⟩)
  rcases hF _ hm with⟨kv,e⟩ |⟨C,dx,d,fl,e⟩ <;>(rw [h] at e;cases e)
 ·exact .inr h
theorem PAt.ig {CW CG:Addr} {H H':Hp} {F:List Addr} {a:Addr} {wh:Bool} {b d:Nat} {rows:List (Nat × Nat)} {c:Int} (h:PAt CW CG H a wh b d rows c) (k:aV F H H') (hF:d7 H F):PAt CW CG H' a wh b d rows c:=by
 obtain⟨dx,r,R,h1,h2,h3⟩:=h
 refine⟨dx,r,R,k _ _ h1 (λ hm=>?_),k _ _ h2 (hF.tup h2),h3.mono λ t xs e=>k _ _ e (hF.tup e)⟩
 rcases hF _ hm with⟨kv,e⟩ |⟨C,dx',d',fl,e⟩
 ·rw [h1] at e;cases e
 ·rw [h1] at e
  have e:=congrArg List.length (HO.ins.inj (Rc e)).2.2
  cases wh <;> simp [pfs,sfs] at e
theorem d7.one {H:Hp} {a:Addr} {kv:List (Key × V)} (h:H a=some (.dK kv)):d7 H [a]:=λ x hx=>by
 have:x=a:=by simpa using hx
 subst this;exact .inl ⟨_,h⟩
def SqB (K:Frag) (tu:Bool) (H:Hp) (l:Addr) (xs:List V):Prop:=cond tu (SqT K H l xs) (SqL K H l xs)
def j6 (tu:Bool) (h:Heap) (it l:Addr) (i:Nat):Prop:=cond tu (h.IsTupleIter it l i) (h.IsListIter it l i)
def nJ (tu:Bool) (h:Heap) (l:Addr) (us:Array Value):Prop:=cond tu (h.IsTuple l us) (h.IsList l us)
theorem j6.src {tu:Bool} {h:Heap} {it l:Addr} {i:Nat} {us:Array Value} (a:j6 tu h it l i) (b:nJ tu h l us):Src it l us i h:=by
 cases tu
 ·exact .inl ⟨a,b⟩
 ·exact .inr ⟨a,b⟩
theorem j6.mv {tu:Bool} {h h':Heap} {it l:Addr} {i:Nat} (a:j6 tu h it l i) (k:∀ o,h.get? it=some o->h'.get? it=some o):j6 tu h' it l i:=by
 cases tu <;>(obtain⟨o,e,r⟩:=a;exact⟨o,k o e,r⟩)
theorem j6.obj {tu:Bool} {h:Heap} {it l:Addr} {i:Nat} (a:j6 tu h it l i):∃ o,h.get? it=some o /\ ∀ v,o.data ≠ .cell v:=by
 cases tu <;>(obtain⟨o,e,_,d⟩:=a;exact⟨o,e,λ v q=>by rw [d] at q;cases q⟩)
theorem nJ.mv {tu:Bool} {h h':Heap} {l:Addr} {us:Array Value} (a:nJ tu h l us) (k:∀ o,h.get? l=some o->h'.get? l=some o):nJ tu h' l us:=by
 cases tu <;>(obtain⟨o,e,r⟩:=a;exact⟨o,k o e,r⟩)
theorem nJ.lt {tu:Bool} {h:Heap} {l:Addr} {us:Array Value} (a:nJ tu h l us):l < h.objs.size:=by
 cases tu <;>(obtain⟨o,e,r⟩:=a;exact QF e)
theorem Src.GR {tu:Bool} {h:Heap} {it l:Addr} {i:Nat} {us us':Array Value} (S:Src it l us i h) (b:nJ tu h l us'):j6 tu h it l i:=by
 cases tu
 ·exact S.lst b
 ·exact S.tup b
theorem SqB.items {X:Cx} {pins:List (Addr × Obj)} {σ:St} {H:Hp} {s:Shared} {tu:Bool} {l:Addr} {xs:List V} (I:Inv X pins σ H s) (h:SqB X.K tu H l xs):∃ us:List Value,Vals xs us /\ nJ tu s.heap l us.toArray:=by
 cases tu
 ·obtain⟨us,r,p,_⟩:=I.list h
  exact⟨us,r,p.isList⟩
 ·obtain⟨us,r,p,_⟩:=I.tuple h
  exact⟨us,r,p⟩
theorem SqB.inj {X:Cx} {pins:List (Addr × Obj)} {σ:St} {H:Hp} {s:Shared} {tu:Bool} {l:Addr} {xs ys:List V} (I:Inv X pins σ H s) (h:SqB X.K tu H l xs) (h':SqB X.K tu H l ys):xs=ys:=by
 cases tu
 ·exact I.zl h h'
 ·exact I.w6 h h'
theorem vp {prog:Program} {w:World} {A:Around} {it l:Addr} {us:Array Value} (hh:A.handled=none) (ne:l ≠ it):Draws prog w A it [it,l] us.size (λ i x=>us[i]? = some x) (λ i h=>Src it l us i h) where
 live:=λ i h st=>let ⟨o,e,_⟩:=st.rec;⟨o,e⟩
 frame:=λ i h h' st k=>st.mv (λ o e=>k it (by simp) o e) (λ o e=>k l (by simp) o e)
 item:=λ i s Q E hi st hQ=>Src.item st ne (x:=us[i]) (by simp [hi]) λ h' st' sb=>hQ _ h' s.toks (by simp [hi]) st' sb
 done:=λ s Q E st hE=>Src.fin hh st (by simp) hE
def Ite (K:Frag) (tu:Bool) (l:Addr):It :=
 ⟨λ i H=>∃ xs x,SqB K tu H l xs /\ xs[i]? = some x,
  λ i H v H'=>∃ T x,H T=none /\ v = .ref T /\ H'=upd H T (.tup [.int (i:Int),x]) /\ ∀ xs,SqB K tu H l xs->xs[i]? = some x,
  λ i H=>∃ xs,SqB K tu H l xs /\ xs.length=i⟩
def L6 (tu:Bool) (e it l:Addr) (i:Nat) (h:Heap):Prop:=(∃ old,IsEnum h e it (i:Int) old) /\ j6 tu h it l i
theorem Cn {P:Program} {w:World} {K:Frag} {es:List Expr} {x1} {tp:Pos} (tu:Bool) (e it l:Addr) (hei:e ≠ it) (hle:l ≠ e) (hli:l ≠ it):Turn P w K (.Tuple es x1 tp) (Ite K tu l) [e,it] e (L6 tu e it l) where
 mem:=by simp
 obj:=λ i h st b hb=>by
  obtain⟨⟨old,h1⟩,h2⟩:=st
  simp only [List.mem_cons,List.not_mem_nil,or_false] at hb
  rcases hb with rfl | rfl
  ·exact⟨_,h1,λ v q=>nomatch q⟩
  ·exact h2.obj
 keep:=λ i h h' st k=>by
  obtain⟨⟨old,h1⟩,h2⟩:=st
  exact⟨⟨old,k e (by simp) _ h1⟩,h2.mv λ o x=>k it (by simp) o x⟩
 item:=by
  intro X hP hw hK hc i pins s σ H E I hf st hg
  subst hP hw hK
  obtain⟨⟨old,h1⟩,h2⟩:=st
  obtain⟨xs,x,hx,ex⟩:=hg
  obtain⟨us,rx,px⟩:=SqB.items I hx
  obtain⟨u,eu,ru⟩:=Vals.get rx ex
  have hlt:i < us.toArray.size:=by have:=(QE.mp eu).1;simpa using this
  refine wpAny_pyNext_enum_itemD (vp (I.ok.hd hc) hli) h1 (h2.src px) hlt hei (by simp [hei,hle.symm]) λ x' h' tk hP' ho hs' hT hsz kk=>?_
  have e1:x'=u:=by
   have:us[i]? = some x':=by simpa using hP'
   rw [eu] at this;exact(Rc this).symm
  subst e1
  refine⟨_,rfl,wpAny_letOwnedTupleGo_enum ho λ h'' y1 sb=>?_⟩
  have lt1:e < s.heap.objs.size:=QF h1
  have lt2:it < s.heap.objs.size:=by obtain⟨o,q,_⟩:=h2.obj;exact QF q
  have lt:∀ b ∈ [e,it],b < s.heap.objs.size:=λ b hb=>by
   simp only [List.mem_cons,List.not_mem_nil,or_false] at hb
   rcases hb with rfl | rfl
   ·exact lt1
   ·exact lt2
  have keep:∀ c o,c ∉ [e,it]->s.heap.get? c=some o->h''.get? c=some o:=λ c o hc q=>by
   simp only [List.mem_cons,List.not_mem_nil,or_false,not_or] at hc
   exact sb.extBut c o hc.1 (kk c o hc.1 hc.2 q)
  have nT:H s.heap.objs.size=none:=I.hok.fresh (QH _)
  have hT2:h''.get? s.heap.objs.size=some { cls:=.type "tuple",data:=.seq #[.int (i:Int) tk,x'] }:=sb.extBut _ _ (qN lt1 (QH _)).symm hT
  have I2:Inv X pins σ (upd H s.heap.objs.size (.tup [.int (i:Int),x])) { s with heap:=h'',toks:=tk + 1 } :=
   I.uY (ch:=[e,it]) keep hf (QH _) ⟨by show 2 ≤ sizeLine;decide,[Value.int (i:Int) tk,x'],.cons ⟨tk,rfl⟩ (.cons ru .nil),⟨_,hT2,rfl,0,rfl⟩⟩
  refine⟨.ref s.heap.objs.size,_,I2,rfl,⟨_,x,nT,rfl,rfl,λ xs' h=>?_⟩,⟨⟨x',?_⟩,?_⟩,λ b hb=>?_⟩
  ·rw [SqB.inj I h hx];exact ex
  ·simpa using y1
  ·have px2:nJ tu h'' l us.toArray:=px.mv λ o q=>keep l o (by simp [hle,hli]) q
   exact(hs'.mv (λ o q=>sb.extBut _ o hei.symm q) λ o q=>sb.extBut _ o hle q).GR px2
  ·rw [af (qN (lt b hb) (QH _))];exact(hf b hb).1
 done:=by
  intro X hP hw hK hc i pins s σ H E I hf st hg
  subst hP hw hK
  obtain⟨⟨old,h1⟩,h2⟩:=st
  obtain⟨xs,hx,hl⟩:=hg
  obtain⟨us,rx,px⟩:=SqB.items I hx
  have le1:=rx.length
  have hn:i=us.toArray.size:=by simp;omega
  subst hn
  refine wpAny_pyNext_enum_endD (vp (I.ok.hd hc) hli) h1 (h2.src px) λ h' kk=>⟨rfl,?_⟩
  exact I.uS (t':=s.toks) (ch:=[e,it]) (λ c o hc q=>by
   simp only [List.mem_cons,List.not_mem_nil,or_false,not_or] at hc
   exact kk c o hc.2 q) hf
 self:=λ _ _ _ _ _ st h=>by
  obtain⟨⟨old,h1⟩,_⟩:=st
  exact UC h1 h
theorem CH (t:Addr) (us:Array Value) (n:Nat) (dct:Option Addr) (sl:Array (Option Value)):Meets (Builtin.«enumerate.__new__» ⟨[.type "enumerate",.ref t],[]⟩) (λ _ R s=>s.heap.get? t=some { cls:=.type "tuple",dict:=dct,data:=.seq us n,slots:=sl } /\ R (.ok (.ret (.ref (zS1 s.heap t).objs.size))) { s with heap:=(zS1 s.heap t).push { cls:=.type "enumerate",data:=.fields #[.none,.bool false,.ref s.heap.objs.size,rawInt 0,.none,.none] } }) :=
 .of_wp λ prog w A R s hyp=>by
  obtain⟨hp,g,d,tk,os⟩:=s
  obtain⟨ht,q⟩:=hyp
  have hsub:=sub_enumerate
  have hT:Heap.IsTuple (Shared.heap ⟨hp,g,d,tk,os⟩) t us:=⟨_,ht,rfl,n,rfl⟩
  wp_walk using TL ht
  refine wpAny_stack_any λ st=>QI ?_
  split
  ·rename_i c _ _ _ _ _
   cases (c == Value.type "enumerate") <;>(wp_walk using TL ht,Us hT;exact⟨_,rfl,q⟩)
  ·wp_walk using TL ht,Us hT
   exact⟨_,rfl,q⟩
theorem A9 {prog:Program} {w:World} {A:Around} {E:Value->Shared->Prop} {s:Shared} {tu:Bool} {l:Addr} {us:Array Value} {Q:Value->Shared->Prop} (hl:nJ tu s.heap l us)
  (h:∀ h',IsEnum h' (s.heap.objs.size + 1) s.heap.objs.size 0 .none->j6 tu h' s.heap.objs.size l 0->(∀ b o,s.heap.get? b=some o->h'.get? b=some o)->Q (.ref (s.heap.objs.size + 1)) { s with heap:=h' }):wpAny (model prog w) A (call (.type "enumerate") [.ref l]) Q E s:=by
 cases tu
 ·exact call_enumerate_list hl λ h' a b _ k=>h h' a b k
 ·obtain⟨⟨c,dct,dt,sl⟩,e,hc,n,hd⟩:=hl
  replace hc:c = .type "tuple":=hc
  replace hd:dt = .seq us n:=hd
  subst hc hd
  refine callType_new PySem.F.called_enumerate (by decide) (PySem.F.typeCall_enumerate_1 _) (PySem.F.newCall_enumerate_1 _) (λ obj=>PySem.F.args_object_init_2 obj _) PySem.F.entry_enumerate_new (CH l us n dct sl) ⟨e,?_⟩
  have n1:(zS1 s.heap l).objs.size=s.heap.objs.size + 1:=Sy ..
  have up:∀ c o,s.heap.get? c=some o->((zS1 s.heap l).push { cls:=.type "enumerate",data:=.fields #[.none,.bool false,.ref s.heap.objs.size,rawInt 0,.none,.none] }).get? c=some o:=λ c o q=>QD _ (QD _ q)
  have g2:((zS1 s.heap l).push { cls:=.type "enumerate",data:=.fields #[.none,.bool false,.ref s.heap.objs.size,rawInt 0,.none,.none] }).get? (zS1 s.heap l).objs.size=some _:=QU _ rfl
  have g1:((zS1 s.heap l).push { cls:=.type "enumerate",data:=.fields #[.none,.bool false,.ref s.heap.objs.size,rawInt 0,.none,.none] }).get? s.heap.objs.size=some _:=QD _ (QU _ rfl)
  rw [n1] at g2
  show _ /\ _
  rw [n1]
  exact⟨⟨_,g2,rfl⟩,h _ g2 ⟨_,g1,rfl,rfl⟩ up⟩
def GG (K:Frag) (tu:Bool) (ta:TA):TI:=λ σ H R=>ta σ H λ vs H1=>∃ l,vs = [.ref l] /\(∃ xs,SqB K tu H1 l xs) /\ R (Ite K tu l) H1
theorem ET {X:Cx} (tu:Bool) {a:Expr} {ta:TA} {p pos:Pos} {es:List Expr} {x1} {tp:Pos} (hg:Gl X "enumerate") (hm:X.mg "enumerate" = none) (ha:PA X [a] ta) (hs:starEach [a] X.env = [(false,eval a X.env)]:=by rfl) :
  PI X (.Tuple es x1 tp) (.Call (.Name "enumerate" p) [a] [] pos) (GG X.K tu ta):=by
 intro pins s σ H R I h
 refine Call_ (iQ I hg hm boot_enumerate (RD (thn (ha pos pins s σ H _ I h) λ us s1 ⟨vs,H1,I1,r1,q1⟩=>?_) hs rfl))
 obtain⟨l,e,⟨xs,hx⟩,q⟩:=q1
 subst e
 obtain⟨u,rfl,ru⟩:=vals1 r1
 cases (show u=Value.ref l from ru)
 obtain⟨us1,rx,px⟩:=SqB.items I1 hx
 have ll:l < s1.heap.objs.size:=px.lt
 refine A9 px λ h' z1 z2 kk=>?_
 refine UC z1 ?_
 have I2:Inv X pins σ H1 { s1 with heap:=h',toks:=s1.toks }:=I1.kept kk
 refine⟨s1.heap.objs.size + 1,_,_,_,H1,rfl,I2,Cn tu (s1.heap.objs.size + 1) s1.heap.objs.size l (Nat.succ_ne_self _) (qN ll (Sf _)) (qN ll (QH _)),⟨⟨_,z1⟩,z2⟩,λ b hb=>?_,q⟩
 have hbs:s1.heap.objs.size ≤ b:=by
  simp only [List.mem_cons,List.not_mem_nil,or_false] at hb
  rcases hb with h | h <;> rw [h] <;> first | exact QH _ | exact Tr _ _
 exact I1.ny hbs (I1.hok.fresh hbs)
theorem DF {K:Frag} {tu:Bool} {l:Addr} {xs:List V} {g:TG} {tb:TS} {D:Ends} {σ:St} {H:Hp} (Pv:Nat->St->Hp->Prop) (h0:Pv 0 σ H) (hl:∀ i σ H,Pv i σ H->SqB K tu H l xs)
  (hs:∀ i x σ H T,xs[i]? = some x->Pv i σ H->H T=none->g (.ref T) σ (upd H T (.tup [.int (i:Int),x])) λ σ2 H2=>tb { D with nx:=Pv (i + 1),ct:=Pv (i + 1),bk:=D.nx } σ2 H2) (hd:∀ σ H,Pv xs.length σ H->D.nx σ H) :
  ∃ W:Nat->Nat->St->Hp->Prop,(∃ m,W 0 m σ H) /\ ∀ i m σ H,W i m σ H →
   ((Ite K tu l).stop i H /\ D.nx σ H) ∨((Ite K tu l).go i H /\ ∃ N:St->Hp->Prop,(∀ σ' H',N σ' H'->∃ m',m' < m /\ W (i + 1) m' σ' H') /\ ∀ x H',(Ite K tu l).yld i H x H'->g x σ H' λ σ2 H2=>tb { D with nx:=N,ct:=N,bk:=D.nx } σ2 H2):=by
 refine⟨λ i m σ H=>m=xs.length - i /\ i ≤ xs.length /\ Pv i σ H,⟨xs.length,by simp,Rm _,h0⟩,?_⟩
 rintro i m σ H ⟨rfl,hi,p⟩
 have q1:=hl i σ H p
 by_cases hlt:i < xs.length
 ·have ex:xs[i]? = some xs[i]:=QC hlt
  refine .inr ⟨⟨xs,_,q1,ex⟩,Pv (i + 1),λ σ' H' p'=>⟨xs.length -(i + 1),by omega,rfl,hlt,p'⟩,?_⟩
  rintro v H' ⟨T,x,nT,rfl,rfl,hx⟩
  exact hs i x σ H T (hx xs q1) p nT
 ·have e:i=xs.length:=by omega
  subst e
  exact .inl ⟨⟨xs,q1,rfl⟩,hd σ H p⟩
theorem BD:typeLookup (.type "list") "keys" = pure none:=by rw [U5,T9];kernel_rfl
section
variable {prog:Program} {w:World} {A:Around} {E:Value->Shared->Prop} {s:Shared} {a:Addr} {its:Array Value} {n:Nat} {sl:Array (Option Value)}
theorem Bp {Q:Option Value->Shared->Prop} (hx:s.heap.get? a=some { cls:=.type "list",dict:=none,data:=.seq its n,slots:=sl }) (hA:A.handled=none)
  (h:∀ h' tk,(∀ b ob,s.heap.get? b=some ob->h'.get? b=some ob)->Q none { s with heap:=h',toks:=tk }):wpAny (model prog w) A (getAttr? (.ref a) "keys") Q E s:=by
 obtain⟨hp,g,dr,tk,os⟩:=s
 have hT:∀ tk',(⟨hp,g,dr,tk',os⟩:Shared).TypeIs (.ref a) "list":=λ _=>⟨_,hx,rfl⟩
 have u1:=sub_AttributeError
 have u2:=TM.lookup
 have u3:=TM.bind (.ref a)
 have u4:=am_list_getattr_none
 unfold getAttr? getAttrBy? getAttrBy
 repeat (any_goals first |((with_reducible show wpAny _ _ (call (Value.builtin "list.__getattribute__") _ _) _ _ _);refine Uc TM (hT _) am_entry_list_getattribute (F.args_list_getattribute_2 _ _) (meets_getattribute_miss_list a its n sl "keys" _ BD (by decide +kernel)) ⟨hx,hA,λ h' tk' e hx'=>?_⟩) | exact hT _ | wp_step | assumption)
 obtain⟨t',u',he⟩:=hx'.there
 show wpAny _ _ (getattributeRaised _ _ _ _ _ _ _) _ _ _
 unfold getattributeRaised
 repeat (any_goals first | wp_step | assumption)
 exact h _ _ hx'.keeps
end
theorem wH:entryFor table "dict.update.loop" = some Builtin.«dict.update.loop»:=entryFor_of_tree (by kernel_rfl)
theorem mP:plainId "dict.update.loop" = true:=by decide +kernel
section
variable {prog:Program} {w:World} {κ:Type} [DecidableEq κ] {knd:KeyKind prog w κ} {A:Around} {R:Result->Shared->Prop} {I l d:Addr} {its:Array Value} {St:Nat->Heap->Prop}
def vP (knd:KeyKind prog w κ) (its:Array Value) (ps:List (κ × Value)) (h:Heap):Prop:=∀(i:Nat) (v:Value),its[i]? = some v->∃ t key x n ob k,v = .ref t /\ h.get? t=some ob /\ ob.cls = .type "tuple" /\ ob.data = .seq #[key,x] n /\ ps[i]? = some (k,x) /\ knd.is k key=true
theorem Ds (W:Walks prog w A.in1 I [I,l] [I] its.size (λ i v=>its[i]? = some v) St) (hI:∀ i h,St i h->∃ o,h.get? I=some o /\ o.cls ≠ .type "tuple") (hdI:d ≠ I) (hdl:d ≠ l) {ps:List (κ × Value)} (hps:ps.length=its.size) :
  ∀(k i:Nat) (s:Shared) (kvs:List (κ × Value)),its.size - i=k->i ≤ its.size->St i s.heap->s.heap.DictOf knd d kvs->vP knd its ps s.heap->kvs.length + its.size ≤ sizeLine + i →
  (∀ h' tk,(∀ b o,b ≠ I->b ≠ d->s.heap.get? b=some o->h'.get? b=some o)->h'.DictOf knd d (merged kvs (ps.drop i))->R (.ok (.ret .none)) { s with heap:=h',toks:=tk }) →
  codeAny (model prog w) A (.builtin "dict.update.loop" ⟨[.ref d,.ref I,rawInt i,.none],[]⟩) R s:=by
 intro k
 induction k with
 | zero =>
  intro i s kvs hk hi hst hD hP hsz hR
  have e:i=its.size:=by omega
  subst e
  refine Uh wH ?_
  rw [Tt mP _]
  show wpAny _ A.in1 (pyNext (.ref I) >>= _) _ _ s
  refine QB (W.done s _ _ hst λ h' tk hk'=>?_)
  refine QB (QI ?_)
  refine QI (hR h' tk (λ b o n1 _ e=>hk' b o (by simpa using n1) e) ?_)
  rw [List.drop_of_length_le (by omega)]
  obtain⟨o,es,ep,ho,r⟩:=hD
  exact⟨o,es,ep,hk' _ _ (by simpa using hdI) ho,r⟩
 | succ k ih =>
  intro i s kvs hk hi hst hD hP hsz hR
  have hlt:i < its.size:=by omega
  refine Uh wH ?_
  rw [Tt mP _]
  show wpAny _ A.in1 (pyNext (.ref I) >>= _) _ _ s
  refine QB (W.item i s _ _ hlt hst λ v h' tk hv hst' hk'=>?_)
  obtain⟨t,key,x,n,ob,kk,rfl,ht,hc,hdt,hpi,hkey⟩:=hP i v hv
  obtain⟨oI,hoI,hcI⟩:=hI i _ hst
  have ntI:t ≠ I:=λ z=>by subst z;rw [ht] at hoI;cases hoI;exact hcI hc
  obtain⟨od,es,ep,hod,hcd,hdd,r⟩:=id hD
  have hD':h'.DictOf knd d kvs:=⟨od,es,ep,hk' _ _ (by simpa using hdI) hod,hcd,hdd,r⟩
  have ht':=hk' t _ (by simpa using ntI) ht
  refine QB (RK ?_)
  refine QB (wpAny_tryCatch ?_)
  unfold Builtin.Dict.pairItems
  have hTt:({ s with heap:=h',toks:=tk }:Shared).TypeIs (.ref t) "tuple":=⟨ob,ht',hc⟩
  refine QB (Ub hTt ?_)
  rw [if_pos (by decide)]
  refine QB (Vj ht' hdt (QI ?_))
  show wpAny _ A.in1 (holding [key,x] (dictSet d key x)) _ _ _
  refine RK (wpAny_dictSet_pairs hkey hD' (λ h2 hD2 sb=>?_) (by omega))
  refine QI ⟨Vz mP _,?_⟩
  have ndt:t ≠ d:=λ z=>by
   subst z
   rw [ht] at hod;cases hod
   rw [hdt] at hdd;cases hdd
  have up:∀ b o,b ≠ I->b ≠ d->s.heap.get? b=some o->h2.get? b=some o:=λ b o n1 n2 e=>sb.extBut b o n2 (hk' b o (by simpa using n1) e)
  refine ih (i + 1) _ (stored kvs kk x) (by omega) (by omega) ?_ hD2 ?_ ?_ ?_
  ·refine W.frame (i + 1) h' h2 hst' λ b hb o e=>sb.extBut b o (λ z=>?_) e
   subst z
   simp only [List.mem_cons,List.not_mem_nil,or_false] at hb
   rcases hb with h | h
   ·exact hdI h
   ·exact hdl h
  ·intro j v hj
   obtain⟨t2,key2,x2,n2,ob2,k2,rfl,a1,a2,a3,a4,a5⟩:=hP j v hj
   refine⟨t2,key2,x2,n2,ob2,k2,rfl,up t2 ob2 (λ z=>?_) (λ z=>?_) a1,a2,a3,a4,a5⟩
   ·subst z;rw [a1] at hoI;cases hoI;exact hcI a2
   ·subst z;rw [a1] at hod;cases hod;rw [a3] at hdd;cases hdd
  ·have:(stored kvs kk x).length ≤ kvs.length + 1:=by unfold stored;split <;> simp
   omega
  ·intro h3 tk3 hk3 hD3
   refine hR h3 tk3 (λ b o n1 n2 e=>hk3 b o n1 n2 (up b o n1 n2 e)) ?_
   have e:ps.drop i =(kk,x) :: ps.drop (i + 1):=by
    have hil:i < ps.length:=by omega
    rw [List.drop_eq_getElem_cons hil]
    rw [QC hil] at hpi
    rw [Rc hpi]
   rw [e]
   exact hD3
end
theorem vg {P:Program} {w:World} {H:Hp} {h:Heap} (ok:HOk P w H h):∀ {L:List V} {its:List Value} {ps:List (Key × V)},Vals L its->L.length=ps.length->(∀(i:Nat) v,L[i]? = some v->∃ t k x,v=V.ref t /\ H t=some (.tup [kV k,x]) /\ ps[i]? = some (k,x))->∃ pv,KV ps pv /\ vP (bG P w) its.toArray pv h
 | [],_,[],.nil,_,_=>⟨[],.nil,λ i v e=>by simp at e⟩
 | [],_,_ :: _,_,hl,_=>by simp at hl
 | _ :: _,_,[],_,hl,_=>by simp at hl
 | v :: L,u :: its,p :: ps,.cons r rr,hl,hp=>by
  obtain⟨t,k,x,rfl,ht,e0⟩:=hp 0 v rfl
  have e0:p =(k,x):=by simpa using e0
  subst e0
  have r:u=Value.ref t:=r
  subst r
  obtain⟨pv,kv,pin⟩:=vg ok rr (by simpa using hl) (λ i v e=>by
   obtain⟨t,k,x,a,b,c⟩:=hp (i + 1) v (by simpa using e)
   exact⟨t,k,x,a,b,by simpa using c⟩)
  obtain⟨_,its2,r2,ob,h1,h2,n,h3⟩:=(show bB P w H h t (.tup [kV k,x]) from ok t _ ht)
  cases r2 with
  | @cons _ ku _ _ ra rb =>
   cases rb with
   | @cons _ xu _ _ rx rn =>
    cases rn
    refine⟨(k,xu) :: pv,.cons ⟨rfl,rx⟩ kv,λ i v e=>?_⟩
    cases i with
    | zero =>
     have e:Value.ref t=v:=by simpa using e
     exact⟨t,ku,xu,n,ob,k,e.symm,h1,h2,h3,rfl,j9 ra⟩
    | succ i =>
     obtain⟨t2,k2,x2,n2,o2,kk,a1,a2,a3,a4,a5,a6⟩:=pin i v (by simpa using e)
     exact⟨t2,k2,x2,n2,o2,kk,a1,a2,a3,a4,by simpa using a5,a6⟩
theorem AZ {prog:Program} {w:World} {κ:Type} [DecidableEq κ] {knd:KeyKind prog w κ} {A:Around} {E:Value->Shared->Prop} {s:Shared} {a:Addr} {its:Array Value} {n:Nat} {sl:Array (Option Value)} {ps:List (κ × Value)} {Q:Value->Shared->Prop}
  (hx:s.heap.get? a=some { cls:=.type "list",dict:=none,data:=.seq its n,slots:=sl }) (hA:A.handled=none) (hP:vP knd its ps s.heap) (hps:ps.length=its.size) (hsz:its.size ≤ sizeLine)
  (h:∀ h' tk,(∀ b o,s.heap.get? b=some o->h'.get? b=some o)->h'.DictOf knd s.heap.objs.size (merged [] ps)->Q (.ref s.heap.objs.size) { s with heap:=h',toks:=tk }) :
  wpAny (model prog w) A (call (.type "dict") [.ref a]) Q E s:=by
 refine Vl (Q₁:=λ obj s₁=>obj = .ref s.heap.objs.size /\ s₁ = { s with heap:=s.heap.push { cls:=.type "dict",data:=.dict #[] } }) F.kt_called_dict (F.kt_typeCall_dict_1 _) F.entry_dict_init (kt_code_dict_new _ ⟨rfl,rfl⟩) ?_
 rintro obj s₁ ⟨rfl,rfl⟩
 have hnew:(s.heap.push { cls:=.type "dict",data:=.dict #[] }).DictOf knd s.heap.objs.size []:=Heap.DictOf.new s.heap
 have hx1:=QD { cls:=.type "dict",data:=.dict #[] } hx
 have hlt:a < s.heap.objs.size:=QF hx
 refine⟨hnew.typeIs,F.args_dict_init_2 _ _,?_⟩
 unfold Builtin.«dict.__init__»
 refine QB ?_
 unfold Builtin.Dict.selfAndRest
 refine QB (wpAny_notOrdered_dict hnew.typeIs (QI ?_))
 show wpAny _ _ (Builtin.Dict.updateFrom "dict.__init__" s.heap.objs.size (.ref a) [] .none) _ _ _
 unfold Builtin.Dict.updateFrom
 have hTl:({ s with heap:=s.heap.push { cls:=.type "dict",data:=.dict #[] } }:Shared).TypeIs (.ref a) "list":=⟨_,hx1,rfl⟩
 refine QB (Ub hTl ?_)
 rw [if_pos (by decide)]
 refine QB (Bp hx1 hA λ h2 tk2 hk2=>?_)
 rw [if_pos (show(none:Option Value).isNone=true from rfl)]
 refine QB (wpAny_rule ?_)
 have hx2:=hk2 _ _ hx1
 refine QB (wpAny_pyIter_list (items:=its) ⟨_,hx2,rfl,_,rfl⟩ ?_)
 have hnew2:h2.DictOf knd s.heap.objs.size []:=by
  obtain⟨o,es,ep,ho,r⟩:=hnew
  exact⟨o,es,ep,hk2 _ _ ho,r⟩
 obtain⟨od,es,ep,hod,hcd,hdd,r⟩:=id hnew2
 have hltd:s.heap.objs.size < h2.objs.size:=QF hod
 have hlta:a < h2.objs.size:=QF hx2
 refine QI ⟨Vz mP _,?_⟩
 refine Ds (A:=A.in1) (its:=its) (knd:=knd) (I:=h2.objs.size) (l:=a) (Walks.list (prog:=prog) (w:=w) (A:=A.in1.in1) (show A.in1.in1.handled=none from hA) h2.objs.size a (QN hlta) its) ?_ (QN hltd) (λ z=>by subst z;exact absurd hlt (Su _)) hps its.size 0 _ [] (by omega) (by omega) ⟨?_,?_⟩ ?_ ?_ (by simp;omega) ?_
 ·rintro i h ⟨⟨o,ho,hc,_⟩,_⟩
  exact⟨o,ho,by rw [hc];decide⟩
 ·exact⟨_,QU _ rfl,rfl,rfl⟩
 ·exact⟨_,QD _ hx2,rfl,_,rfl⟩
 ·exact⟨od,es,ep,QD _ hod,hcd,hdd,r⟩
 ·intro i v hv
  obtain⟨t,key,x,n,ob,k,e1,e2,r⟩:=hP i v hv
  exact⟨t,key,x,n,ob,k,e1,QD _ (hk2 _ _ (QD _ e2)),r⟩
 ·intro h' tk hk hD
  refine⟨rfl,h h' tk (λ b o e=>hk b o (λ z=>?_) (λ z=>?_) (QD _ (hk2 _ _ (QD _ e)))) (by simpa using hD)⟩
  ·subst z
   exact Nat.lt_asymm hltd (QF e)
  ·subst z
   exact Su _ (QF e)
theorem w9:∀ {L:List V} {its:List Value},Vals L its->its.length=L.length
 | _,_,.nil=>rfl
 | _,_,.cons _ r=>by simp [w9 r]
theorem KV.len':∀ {ps:List (Key × V)} {pv:List (Key × Value)},KV ps pv->pv.length=ps.length
 | _,_,.nil=>rfl
 | _,_,.cons _ r=>by simp [KV.len' r]
theorem Bb {X:Cx} (hc:X.calm=true):iX X (.type "dict") (λ xs H Q=>∃(a:Addr) (L:List V) (ps:List (Key × V)),xs = [.ref a] /\ H a=some (.lst L) /\ L.length=ps.length /\(∀(i:Nat) v,L[i]? = some v->∃ t k x,v=V.ref t /\ H t=some (.tup [kV k,x]) /\ ps[i]? = some (k,x)) ∧
  ∀ d,H d=none->Q (.ref d) (upd H d (.dK (cG [] ps)))):=by
 rintro pins s σ H xs us Q I r ⟨a,L,ps,rfl,hL,hl,hp,q⟩
 obtain⟨u,rfl,ru⟩:=vals1 r
 cases (show u=Value.ref a from ru)
 obtain⟨hsz,its,n,rv,hx⟩:=(show bB X.prog X.w H s.heap a (.lst L) from I.hok a _ hL)
 obtain⟨pv,kv,pin⟩:=vg I.hok rv hl hp
 have e1:=w9 rv
 have e2:=KV.len' kv
 refine AZ (knd:=bG X.prog X.w) (ps:=pv) hx (I.ok.hd hc) pin (by simp;omega) (by simp;omega) λ h' tk keep hD=>?_
 have hno:=I.hok.fresh (QH s.heap.objs.size)
 refine⟨.ref s.heap.objs.size,_,I.laid (a:=s.heap.objs.size) (o:=.dK (cG [] ps)) (t':=tk) keep (QH _) (rm ?_ (Sb.mpr (RJ (QN I.big))) (KV.merge kv .nil) hD),rfl,q _ hno⟩
 have:=kJ ps []
 simp at this
 omega
section
variable {X:Cx} {o e:Expr} {apos cpos:Pos} {td ty:TE}
def GQ (td ty:TE):TE:=λ σ H Q=>td σ H λ x H1=>∃ a,x = .ref a /\ IsD H1 a /\ ty σ H1 λ y H2=>∃ b kvs more,y = .ref b /\ a ≠ b /\ H2 a=some (.dK kvs) /\ H2 b=some (.dK more) /\ kvs.length + more.length ≤ sizeLine /\ Q .non (upd H2 a (.dK (cG kvs more)))
theorem Hq {pins:List (Addr × Obj)} {σ:St} {H:Hp} {s:Shared} {a b:Addr} {kvs more:List (Key × V)} {A:Around} {E:Value->Shared->Prop} {Q:Value->Shared->Prop} (I:Inv X pins σ H s) (n:a ≠ b) (ea:H a=some (.dK kvs)) (eb:H b=some (.dK more)) (hz:kvs.length + more.length ≤ sizeLine)
  (h:∀ s',Inv X pins σ (upd H a (.dK (cG kvs more))) s'->Q .none s'):wpAny (model X.prog X.w) A (call (.builtin "dict.update") [.ref a,.ref b]) Q E s:=by
 obtain⟨za,hda,vs,rel,dd⟩:=oR I.hok ea
 obtain⟨zb,hdb,ws,rel2,dd2⟩:=oR I.hok eb
 refine Tn UR dd.typeIs PySem.F.entry_dict_update (PySem.F.args_dict_update_2 _ _) (meets_dict_update (bG X.prog X.w) a b n hdb) ⟨vs,ws,dd,dd2,by rw [← rel.length,← rel2.length];exact hz,λ h' d1 d2 hs=>h _ ?_⟩
 have he:∃ q,h'.get? a=some q:=let ⟨q,_,_,hq,_⟩:=d1;⟨q,hq⟩
 exact ou I (by rw [ea];exact True.intro) hs he (rm (by have:=kJ more kvs;omega) hda (KV.merge rel2 rel) d1)
theorem EC (ho:PE X o td) (he:PE X e ty) (m:M1 X o "update" apos e cpos):PE X (.Call (.Attribute o "update" apos) [e] [] cpos) (GQ td ty):=by
 intro pins s σ H Q I h
 refine Te m.base m.few m.line Sw UR PySem.F.type_dict_update (thn (ho pins s σ H _ I h) λ u s1 ⟨x,H1,I1,rx,a,ex,d,q1⟩=>?_)
 subst ex
 obtain rfl:u=Value.ref a:=rx
 obtain⟨t1,t2,_⟩:=qy I1 d
 refine⟨t1,t2,?_⟩
 rw [m.trees]
 refine RX rfl (So (RE (thn (he pins s1 σ H1 _ I1 q1) λ iv s2 ⟨y,H2,I2,ry,b,kvs,more,ey,n,ea,eb,hz,q2⟩=>RN ?_)))
 subst ey
 obtain rfl:iv=Value.ref b:=ry
 exact Hq I2 n ea eb hz λ s3 I3=>⟨.non,_,I3,rfl,q2⟩
end
section
variable {X:Cx} {pins:List (Addr × Obj)} {σ:List (Option V)} {H:Hp} {s:Shared} {d:Addr} {u u':HO}
theorem Inv.swap (I:Inv X pins σ H s) (e:H d=some u) (nt:∀ xs,u ≠ .tup xs) (no:∀ y,u ≠ .own y) (nb:∀ ps,u ≠ .tbl ps) (nf:∀ o v,u = .frz o v->X.H₀ d ≠ some (.frz o v)) (new:bB X.prog X.w (upd H d u') s.heap d u'):Inv X pins σ (upd H d u') s:=by
 have hn:∀ b,H b=none->upd H d u' b=none:=λ b h=>by rw [af (λ z=>by subst z;rw [h] at e;cases e)];exact h
 have hs:∀ b v,H b=some v->v ≠ u->upd H d u' b=some v:=λ b v h n=>by rw [af (λ z=>by subst z;rw [h] at e;cases e;exact n rfl)];exact h
 refine⟨I.ok,I.os,I.bare,⟨I.base.keep,I.base.slot,λ b o q n hx=>hn b (I.base.free b o q n hx),I.base.there,λ b xs q=>hs b _ (I.base.tups b xs q) (λ z=>nt xs z.symm),λ b o v q=>?_,λ b ps q=>?_⟩,I.loc,I.cell,hn _ I.free,λ x c q=>hn _ (I.fH x c q),λ p hp=>?_,λ a o q=>?_,I.len⟩
 ·have h1:=I.base.gb b o v q
  by_cases hb:b=d
  ·subst hb
   rw [e] at h1
   exact absurd q (nf o v (Rc h1))
  ·rw [af hb];exact h1
 ·obtain⟨more,h1⟩:=I.base.g9 b ps q
  exact⟨more,hs b _ h1 (λ z=>nb _ z.symm)⟩
 ·obtain⟨a1,a2,a3⟩:=I.pin p hp
  exact⟨a1,hn _ a2,a3⟩
 ·by_cases hb:a=d
  ·subst hb;rw [ak] at q;cases q;exact new
  ·rw [af hb] at q
   exact(I.hok a o q).stay (λ _ _ _ r=>r) (λ b r=>hs b _ r (λ z=>no a z.symm)) λ b xs r=>hs b _ r (λ z=>nt xs z.symm)
def NF (H₀:Hp) (d:Addr):Prop:=∀ o v,H₀ d ≠ some (.frz o v)
theorem Inv.freeze {kvs:List (Key × V)} (I:Inv X pins σ H s) (e:H d=some (.dK kvs)):NF X.H₀ d /\ ∃ o,s.heap.get? d=some o /\ Inv X pins σ (upd H d (.frz o (.dK kvs))) s:=by
 have nf:NF X.H₀ d:=λ o v q=>by have:=I.base.gb d o v q;rw [e] at this;cases this
 have ok:=I.hok d _ e
 obtain⟨z,y,vs,r,ob,es,ep,e2,c⟩:=(show bB X.prog X.w H s.heap d (.dK kvs) from ok)
 exact⟨nf,ob,e2,I.swap e (λ _=>nofun) (λ _=>nofun) (λ _=>nofun) (λ _ _=>nofun) ⟨e2,z,y,vs,r,ob,es,ep,e2,c⟩⟩
theorem Inv.FF {kvs:List (Key × V)} {o:Obj} (I:Inv X pins σ H s) (e:H d=some (.frz o (.dK kvs))) (nf:NF X.H₀ d):Inv X pins σ (upd H d (.dK kvs)) s:=by
 obtain⟨e2,z,y,vs,r,ob,es,ep,e3,c⟩:=(show bB X.prog X.w H s.heap d (.frz o (.dK kvs)) from I.hok d _ e)
 exact I.swap e (λ _=>nofun) (λ _=>nofun) (λ _=>nofun) (λ o v _=>nf o v) ⟨z,y,vs,r,ob,es,ep,e3,c⟩
end
def Itd (d:Addr) (o:Obj) (kvs:List (Key × V)):It :=
 ⟨λ i H=>i < kvs.length /\ H d=some (.frz o (.dK kvs)),λ i H x H'=>H'=H /\ ∃ k v,kvs[i]? = some (k,v) /\ x=kV k,λ i H=>kvs.length ≤ i /\ H d=some (.frz o (.dK kvs))⟩
def Hx (H₀:Hp) (td:TE):TI:=λ σ H R=>td σ H λ x H1=>∃ d kvs,x = .ref d /\ H1 d=some (.dK kvs) /\ ∀ o,NF H₀ d->R (Itd d o kvs) (upd H1 d (.frz o (.dK kvs)))
theorem KV.get {kvs:List (Key × V)} {vs:List (Key × Value)} (r:KV kvs vs):∀ {i:Nat} {k:Key} {v:V},kvs[i]? = some (k,v)->∃ u,vs[i]? = some (k,u):=by
 induction r with
 | nil=>intro i k v h;simp at h
 | cons a b ih =>
  intro i k v h
  cases i with
  | zero=>simp at h;subst h;exact⟨_,by simp;exact Prod.ext a.1.symm rfl⟩
  | succ i=>obtain⟨u,hu⟩:=ih (by simpa using h);exact⟨u,by simpa using hu⟩
theorem Qd {k:Key} {u:Value} (h:lq k u=true):RelV (kV k) u:=by
 rcases cj h with⟨i,t,e5,e4⟩ |⟨y,t,e5,e4⟩
 ·first |(subst e5;subst e4;exact⟨t,rfl⟩) |(subst e4;subst e5;exact⟨t,rfl⟩)
 ·first |(subst e5;subst e4;exact⟨t,rfl⟩) |(subst e4;subst e5;exact⟨t,rfl⟩)
theorem AB {P:Program} {w:World} {H:Hp} {h:Heap} {d:Addr} {o:Obj} {kvs:List (Key × V)} {es:Array DictEntry} {ep:Nat} (ok:bB P w H h d (.frz o (.dK kvs))) (hdat:o.data = .dict es ep):∃ vs,KV kvs vs /\ h.DictAt (bG P w) d vs ep:=by
 obtain⟨e2,z,y,vs,r,ob,es2,ep2,e3,c,hd,q⟩:=ok
 rw [e2] at e3;cases e3
 rw [hdat] at hd;cases hd
 exact⟨vs,r,_,_,e2,c,hdat,q⟩
theorem Cy {P:Program} {w:World} {K:Frag} {tg:Expr} {d it:Addr} {o:Obj} {kvs:List (Key × V)} {es:Array DictEntry} {ep:Nat} (hdat:o.data = .dict es ep) :
  Turn P w K tg (Itd d o kvs) [it] it (λ i h=>h.IsKeyIter it d i kvs.length ep) where
 mem:=by simp
 obj:=λ i h st b hb=>by
  have e:b=it:=by simpa using hb
  subst e
  obtain⟨o,e,c,d⟩:=st
  exact⟨o,e,λ v z=>by rw [d] at z;cases z⟩
 keep:=λ i h h' st k=>by
  obtain⟨o,e,r⟩:=st
  exact⟨o,k it (by simp) o e,r⟩
 item:=by
  intro X hP hw hK hc i pins s σ H E I hf st hg
  subst hP hw hK
  obtain⟨hlt,hfz⟩:=hg
  obtain⟨vs,rv,hat⟩:=AB (I.hok d _ hfz) hdat
  obtain⟨k,v,hkv⟩:∃ k v,kvs[i]? = some (k,v):=⟨_,_,QC hlt⟩
  obtain⟨u,hu⟩:=rv.get hkv
  obtain⟨f0,f1,f2,f3,f4,f5⟩:=hf it (by simp)
  have hlen:=KV.len' rv
  refine wpAny_pyNext_dict_item (knd:=bG X.prog X.w) (by rw [hlen];exact st) hat hu λ key h' hk st' sb=>?_
  rw [hlen] at st'
  have I1:Inv X pins σ H { s with heap:=h' }:=I.turned (t':=s.toks) (λ b o hb e=>(sb.2 b hb).trans e) f0 f1 f3 f4 f5
  obtain⟨o2,e,c,d2⟩:=id st'
  exact⟨key,rfl,xS (s:={ s with heap:=h' }) e c d2 (by decide) ⟨kV k,H,I1,Qd hk,⟨rfl,k,v,hkv,rfl⟩,st',λ b hb=>(hf b hb).1⟩⟩
 done:=by
  intro X hP hw hK hc i pins s σ H E I hf st hg
  subst hP hw hK
  obtain⟨hle,hfz⟩:=hg
  obtain⟨vs,rv,hat⟩:=AB (I.hok d _ hfz) hdat
  obtain⟨f0,f1,f2,f3,f4,f5⟩:=hf it (by simp)
  have hlen:=KV.len' rv
  exact wpAny_pyNext_dict_end (knd:=bG X.prog X.w) (I.ok.hd hc) (by rw [hlen];exact st) hat (Rx (by omega)) λ h' eb=>⟨rfl,I.turned (t':=s.toks) (λ b o hb e=>eb b o hb e) f0 f1 f3 f4 f5⟩
 self:=λ _ _ _ _ _ st h=>wpAny_pyIter_keyiter st h
section
variable {X:Cx} {tg:Expr}
theorem Ae {l:Expr} {tl:TE} (hl:PE X l tl):PI X tg l (Hx X.H₀ tl):=by
 intro pins s σ H R I h
 refine thn (hl pins s σ H _ I h) λ v s1 ⟨x,H1,I1,r1,q1⟩=>?_
 obtain⟨d,kvs,e,hd,q⟩:=q1
 subst e
 cases (show v=Value.ref d from r1)
 obtain⟨nf,o,ho,I2⟩:=I1.freeze hd
 obtain⟨z,y,vs,r,ob,es,ep,e2,c,hdat,rest⟩:=(show bB X.prog X.w H1 s1.heap d (.dK kvs) from I1.hok d _ hd)
 rw [ho] at e2;cases e2
 have hlen:=KV.len' r
 refine wpAny_pyIter_dict (knd:=bG X.prog X.w) (kvs:=vs) (ep:=ep) y ⟨o,es,ho,c,hdat,rest⟩ ?_
 refine⟨s1.heap.objs.size,[s1.heap.objs.size],_,_,_,rfl,I2.kept (t':=s1.toks) λ b o e=>QD _ e,Cy hdat,⟨_,QU _ rfl,rfl,by rw [hlen];rfl⟩,λ b hb=>?_,q o nf⟩
 have e:b=s1.heap.objs.size:=by simpa using hb
 subst e
 exact I2.ny (QH _) (I2.hok.fresh (QH _))
def Hr (H₀:Hp) (t:TS):TS:=λ D σ H=>t { D with nx:=λ σ' H'=>∃ d o kvs,H' d=some (.frz o (.dK kvs)) /\ NF H₀ d /\ D.nx σ' (upd H' d (.dK kvs)),rt:=λ v H'=>∃ d o kvs,H' d=some (.frz o (.dK kvs)) /\ NF H₀ d /\ D.rt v (upd H' d (.dK kvs)) } σ H
theorem Aa {st:Stmt} {t:TS} (h:PS X st t):PS X st (Hr X.H₀ t):=by
 intro pins s σ H D I q
 refine thn (h pins s σ H _ I q) λ f s' hq=>?_
 cases f with
 | next=>obtain⟨σ',H',I',d,o,kvs,e,nf,q'⟩:=hq;exact⟨σ',_,I'.FF e nf,q'⟩
 | brk=>exact hq
 | cont=>exact hq
 | ret u=>obtain⟨v,σ',H',I',r,d,o,kvs,e,nf,q'⟩:=hq;exact⟨v,σ',_,I'.FF e nf,r,q'⟩
end
theorem zA {d:Addr} {o:Obj} {kvs:List (Key × V)} {g:TG} {tb:TS} {D:Ends} {σ:St} {H:Hp} (Pv:Nat->St->Hp->Prop) (h0:Pv 0 σ H) (hl:∀ i σ H,i ≤ kvs.length->Pv i σ H->H d=some (.frz o (.dK kvs)))
  (hs:∀ i k v σ H,kvs[i]? = some (k,v)->Pv i σ H->g (kV k) σ H λ σ2 H2=>tb { D with nx:=Pv (i + 1),ct:=Pv (i + 1),bk:=D.nx } σ2 H2) (hd:∀ σ H,Pv kvs.length σ H->D.nx σ H) :
  ∃ W:Nat->Nat->St->Hp->Prop,(∃ m,W 0 m σ H) /\ ∀ i m σ H,W i m σ H →
   ((Itd d o kvs).stop i H /\ D.nx σ H) ∨((Itd d o kvs).go i H /\ ∃ N:St->Hp->Prop,(∀ σ' H',N σ' H'->∃ m',m' < m /\ W (i + 1) m' σ' H') /\ ∀ x H',(Itd d o kvs).yld i H x H'->g x σ H' λ σ2 H2=>tb { D with nx:=N,ct:=N,bk:=D.nx } σ2 H2):=by
 refine⟨λ i m σ H=>m=kvs.length - i /\ i ≤ kvs.length /\ Pv i σ H,⟨kvs.length,by simp,Rm _,h0⟩,?_⟩
 rintro i m σ H ⟨rfl,hi,p⟩
 have q:=hl i σ H hi p
 by_cases hlt:i < kvs.length
 ·refine .inr ⟨⟨hlt,q⟩,Pv (i + 1),λ σ' H' p'=>⟨kvs.length -(i + 1),by omega,rfl,hlt,p'⟩,λ x H' y=>?_⟩
  obtain⟨e,k,v,hkv,rfl⟩:=y
  subst e
  exact hs i k v σ _ hkv p
 ·have e:i=kvs.length:=by omega
  subst e
  exact .inl ⟨⟨QH _,q⟩,hd σ H p⟩
section
variable {X:Cx} {pins:List (Addr × Obj)} {σ:St} {H:Hp} {s:Shared} {a:Addr} {kvs:List (Key × V)} {k:Key} {u r:Value} {z:V} {A:Around} {E:Value->Shared->Prop}
theorem Df {Q:Value->Shared->Prop} (I:Inv X pins σ H s) (e:H a=some (.dK kvs)) (ry:RelV (kV k) u) (rz:RelV z r) (hl:kvs.length < sizeLine)
  (h1:∀ v w' s',bg kvs k=some v->Inv X pins σ H s'->RelV v w'->Q w' s') (h2:bg kvs k=none->∀ s',Inv X pins σ (upd H a (.dK (putK kvs k z))) s'->Q r s') :
  wpAny (model X.prog X.w) A (call (.builtin "dict.setdefault") [.ref a,u,r]) Q E s:=by
 obtain⟨z0,hd,vs,rel,dd⟩:=oR I.hok e
 have hz:vs.length ≤ sizeLine:=by rw [← rel.length];exact z0
 have hl2:(putK kvs k z).length ≤ sizeLine:=by have:=fP kvs k z;omega
 refine Tn Uq dd.typeIs PySem.F.entry_dict_setdefault (PySem.F.args_dict_setdefault_3 _ _ _) (PySem.kt_meets_setdefault (bG X.prog X.w) a (j9 ry) hd r) ⟨vs,dd,hz,λ v hv=>?_,λ hv h' dd' hs=>?_⟩
 ·have:=rel.val k
  rw [hv] at this
  cases hvv:bg kvs k with
  | none=>rw [hvv] at this;exact this.elim
  | some v'=>rw [hvv] at this;exact h1 v' v _ hvv (I.tok _) this
 ·have hn:bg kvs k=none:=by
   have:=rel.val k
   rw [hv] at this
   cases hvv:bg kvs k with
   | none=>rfl
   | some v'=>rw [hvv] at this;exact this.elim
  have he:∃ q,h'.get? a=some q:=let ⟨q,_,_,hq,_⟩:=dd';⟨q,hq⟩
  exact h2 hn _ (ou I (by rw [e];exact True.intro) hs he (rm hl2 hd (rel.put k rz) dd'))
end
def Gb (td ty tx:TE):TE:=λ σ H Q=>td σ H λ x H1=>∃ a,x = .ref a /\ IsD H1 a /\ ty σ H1 λ y H2=>tx σ H2 λ z H3=>∃ kvs k,H3 a=some (.dK kvs) /\ y=kV k /\ kvs.length < sizeLine ∧
 (∀ v,bg kvs k=some v->Q v H3) /\(bg kvs k=none->Q z (upd H3 a (.dK (putK kvs k z))))
theorem DI {X:Cx} {o e f:Expr} {apos cpos:Pos} {td ty tx:TE} (ho:PE X o td) (he:PE X e ty) (hf:PE X f tx) (m:M2 X o "setdefault" apos e f cpos):PE X (.Call (.Attribute o "setdefault" apos) [e,f] [] cpos) (Gb td ty tx):=by
 intro pins s σ H Q I h
 refine Te m.base m.few m.line Sw Uq PySem.F.type_dict_setdefault (thn (ho pins s σ H _ I h) λ u s1 ⟨x,H1,I1,rx,a,ex,d,q1⟩=>?_)
 subst ex
 obtain rfl:u=Value.ref a:=rx
 obtain⟨t1,t2,_⟩:=qy I1 d
 refine⟨t1,t2,?_⟩
 rw [m.trees]
 refine RX rfl (So (RE (thn (he pins s1 σ H1 _ I1 q1) λ iv s2 ⟨y,H2,I2,ry,q2⟩ =>
  RE (thn (hf pins s2 σ H2 _ I2 q2) λ fv s3 ⟨z,H3,I3,rz,kvs,k,ea,ey,hl,q3,q4⟩=>RN ?_))))
 subst ey
 exact Df I3 ea ry rz hl (λ v w' s' hv I' rv=>⟨v,H3,I',rv,q3 v hv⟩) λ hv s' I'=>⟨z,_,I',rz,q4 hv⟩
open PySem HT
theorem vM:∀ a:List Int,HT.lexLt a a=false
 | []=>rfl
 | x :: a=>by rw [HT.cO,if_pos rfl];exact vM a
theorem zc:∀ {a b c:List Int},HT.lexLt a b=true->HT.lexLt b c=true->HT.lexLt a c=true
 | _,[],[],_,h2=>by simp [HT.fD] at h2
 | [],[],_ :: _,h1,_=>by simp [HT.fD] at h1
 | _ :: _,[],_ :: _,h1,_=>by simp [HT.jY] at h1
 | _,_ :: _,[],_,h2=>by simp [HT.jY] at h2
 | [],_ :: _,_ :: _,_,_=>HT.iO _ _
 | x :: a,y :: b,z :: c,h1,h2=>by
  rw [HT.cO] at h1 h2 ⊢
  by_cases e1:x=y
  ·subst e1
   rw [if_pos rfl] at h1
   by_cases e2:x=z
   ·subst e2
    rw [if_pos rfl] at h2 ⊢
    exact zc h1 h2
   ·rw [if_neg e2] at h2 ⊢
    exact h2
  ·rw [if_neg e1] at h1
   have h1:=TV h1
   by_cases e2:y=z
   ·subst e2
    rw [if_neg e1];exact Rq h1
   ·rw [if_neg e2] at h2
    have h2:=TV h2
    rw [if_neg (by omega)];exact Rq (by omega)
theorem vQ:∀ {a b:List Int},HT.lexLt a b=false->HT.lexLt b a=false->a=b
 | [],[],_,_=>rfl
 | [],_ :: _,h,_=>by simp [HT.iO] at h
 | _ :: _,[],_,h=>by simp [HT.iO] at h
 | x :: a,y :: b,h1,h2=>by
  rw [HT.cO] at h1 h2
  by_cases e:x=y
  ·subst e
   rw [if_pos rfl] at h1 h2
   rw [vQ h1 h2]
  ·rw [if_neg e] at h1
   rw [if_neg (RJ e)] at h2
   have h1:=Ut h1
   have h2:=Ut h2
   omega
def Le (a b:List Int):Prop:=HT.lexLt b a=false
theorem Le.refl (a:List Int):Le a a:=vM a
theorem Le.of_lt {a b:List Int} (h:HT.lexLt a b=true):Le a b:=by
 unfold Le
 cases e:HT.lexLt b a with
 | false=>rfl
 | true=>have:=zc h e;rw [vM] at this;cases this
theorem Le.trans {a b c:List Int} (h1:Le a b) (h2:Le b c):Le a c:=by
 unfold Le
 cases e:HT.lexLt c a with
 | false=>rfl
 | true =>
  unfold Le at h1 h2
  cases e1:HT.lexLt a b with
  | true=>have:=zc e e1;rw [h2] at this;cases this
  | false=>have z:=vQ e1 h1;subst z;rw [h2] at e;cases e
theorem Le.antisymm {a b:List Int} (h1:Le a b) (h2:Le b a):a=b:=vQ h2 h1
abbrev gK (l:List (List Int)) (i:Nat):List Int:=l.getD i []
def swp (l:List (List Int)) (i j:Nat):List (List Int):=(l.set i (gK l j)).set j (gK l i)
theorem j3 (l:List (List Int)) (i j:Nat):(swp l i j).length=l.length:=by simp [swp]
theorem jk {l:List (List Int)} {i j:Nat} (hi:i < l.length) (hj:j < l.length) (k:Nat):gK (swp l i j) k=if k=j then gK l i else if k=i then gK l j else gK l k:=by
 unfold swp gK
 simp only [List.getD_eq_getElem?_getD,List.getElem?_set,List.length_set]
 by_cases h1:j=k
 ·subst h1;simp [hj]
 ·rw [if_neg h1,if_neg (RJ h1)]
  by_cases h2:i=k
  ·subst h2;simp [hi]
  ·rw [if_neg h2,if_neg (RJ h2)]
theorem zv {l:List (List Int)} {i j:Nat} (hi:i < l.length) (hj:j < l.length):(swp l i j).Perm l:=by
 have h:=Array.swap_perm (xs:=l.toArray) (i:=i) (j:=j) (by simpa using hi) (by simpa using hj)
 have h:=h.toList
 refine List.Perm.trans (List.Perm.of_eq ?_) h
 unfold swp gK Array.swap
 simp [List.getD_eq_getElem?_getD,hi,hj]
def jX (l:List (List Int)):Prop:=∀ i,0 < i->i < l.length->Le (gK l ((i - 1) / 2)) (gK l i)
def uX (l:List (List Int)) (k:Nat):Prop:=(∀ i,0 < i->i < l.length->i ≠ k->Le (gK l ((i - 1) / 2)) (gK l i)) /\(0 < k->∀ i,0 < i->i < l.length->(i - 1) / 2=k->Le (gK l ((k - 1) / 2)) (gK l i))
def uK (l:List (List Int)) (h:Nat):Prop:=(∀ i,0 < i->i < l.length->(i - 1) / 2 ≠ h->Le (gK l ((i - 1) / 2)) (gK l i)) /\(0 < h->∀ i,0 < i->i < l.length->(i - 1) / 2=h->Le (gK l ((h - 1) / 2)) (gK l i))
theorem CA {l:List (List Int)} {k:Nat} (I:uX l k) (hk:0 < k) (hl:k < l.length) (lt:HT.lexLt (gK l k) (gK l ((k - 1) / 2))=true):uX (swp l k ((k - 1) / 2)) ((k - 1) / 2):=by
 have hp:(k - 1) / 2 < l.length:=by omega
 refine⟨λ i h0 hi hne=>?_,λ h0' i h0 hi hpar=>?_⟩
 ·rw [j3] at hi
  rw [jk hl hp,jk hl hp,if_neg hne]
  by_cases e1:i=k
  ·subst e1
   rw [if_pos rfl,if_pos rfl];exact Le.of_lt lt
  rw [if_neg e1]
  by_cases e2:(i - 1) / 2 =(k - 1) / 2
  ·rw [if_pos e2]
   have:=I.1 i h0 hi e1
   rw [e2] at this
   exact(Le.of_lt lt).trans this
  rw [if_neg e2]
  by_cases e3:(i - 1) / 2=k
  ·rw [if_pos e3];exact I.2 hk i h0 hi e3
  ·rw [if_neg e3];exact I.1 i h0 hi e1
 ·rw [j3] at hi
  have hpk:(k - 1) / 2 ≠ k:=by omega
  have hq:=I.1 ((k - 1) / 2) h0' hp hpk
  rw [jk hl hp,jk hl hp,if_neg (by omega),if_neg (by omega),if_neg (by omega)]
  by_cases e1:i=k
  ·rw [if_pos e1];exact hq
  ·rw [if_neg e1]
   have:=I.1 i h0 hi e1
   rw [hpar] at this
   exact hq.trans this
theorem yZ {l:List (List Int)} {k:Nat} (I:uX l k) (h:k=0 ∨ HT.lexLt (gK l k) (gK l ((k - 1) / 2))=false):jX l:=λ i h0 hi=>by
 by_cases e:i=k
 ·subst e
  rcases h with h | h
  ·omega
  ·exact h
 ·exact I.1 i h0 hi e
def lsr (l:List (List Int)) (p:Nat):Nat:=if 2 * p + 2 < l.length /\ HT.lexLt (gK l (2 * p + 2)) (gK l (2 * p + 1))=true then 2 * p + 2 else 2 * p + 1
theorem Aj (l:List (List Int)) (p:Nat):(lsr l p - 1) / 2=p /\ 0 < lsr l p:=by unfold lsr;split <;> omega
theorem CD {l:List (List Int)} {p:Nat} {i:Nat} (h0:0 < i) (hi:i < l.length) (hp:(i - 1) / 2=p):lsr l p < l.length /\ Le (gK l (lsr l p)) (gK l i):=by
 have hi2:i=2 * p + 1 ∨ i=2 * p + 2:=by omega
 unfold lsr
 split
 ·rename_i h
  refine⟨h.1,?_⟩
  rcases hi2 with e | e
  ·rw [e];exact Le.of_lt h.2
  ·rw [e];exact Le.refl _
 ·rename_i h
  refine⟨by omega,?_⟩
  rcases hi2 with e | e
  ·rw [e];exact Le.refl _
  ·rw [e]
   unfold Le
   cases z:HT.lexLt (gK l (2 * p + 2)) (gK l (2 * p + 1)) with
   | false=>rfl
   | true=>exact absurd ⟨by omega,z⟩ h
theorem CC {l:List (List Int)} {h:Nat} (I:uK l h) (hl:lsr l h < l.length) (lt:HT.lexLt (gK l (lsr l h)) (gK l h)=true):uK (swp l (lsr l h) h) (lsr l h):=by
 obtain⟨hpar,hpos⟩:=Aj l h
 have hle:=λ i h0 hi hp=>(CD (l:=l) (p:=h) (i:=i) h0 hi hp).2
 generalize lsr l h=w at *
 have hh:h < l.length:=by omega
 refine⟨λ i h0 hi hne=>?_,λ _ i h0 hi hp=>?_⟩
 ·rw [j3] at hi
  rw [jk hl hh,jk hl hh,if_neg (show ¬(i - 1) / 2=w from hne)]
  by_cases e1:i=h
  ·subst e1
   rw [if_pos rfl,if_neg (by omega)]
   exact I.2 h0 w hpos hl hpar
  rw [if_neg e1]
  by_cases e2:i=w
  ·subst e2
   rw [if_pos rfl,if_pos hpar];exact Le.of_lt lt
  rw [if_neg e2]
  by_cases e3:(i - 1) / 2=h
  ·rw [if_pos e3];exact hle i h0 hi e3
  ·rw [if_neg e3];exact I.1 i h0 hi e3
 ·rw [j3] at hi
  rw [jk hl hh,jk hl hh,hpar,if_pos rfl,if_neg (by omega),if_neg (by omega)]
  have:=I.1 i h0 hi (by omega)
  rw [hp] at this
  exact this
theorem yl {l:List (List Int)} {h:Nat} (I:uK l h) (he:l.length ≤ lsr l h ∨ HT.lexLt (gK l (lsr l h)) (gK l h)=false):jX l:=λ i h0 hi=>by
 by_cases e:(i - 1) / 2=h
 ·have:=CD h0 hi e
  rcases he with z | z
  ·omega
  ·rw [e];exact Le.trans (show Le (gK l h) (gK l (lsr l h)) from z) this.2
 ·exact I.1 i h0 hi e
theorem DX {l:List (List Int)} (h:jX l):∀ i,i < l.length->Le (gK l 0) (gK l i):=by
 intro i
 induction i using Nat.strongRecOn with
 | _ i ih =>
  intro hi
  by_cases e:i=0
  ·subst e;exact Le.refl _
  ·exact(ih ((i - 1) / 2) (by omega) (by omega)).trans (h i (by omega) hi)
open PySem PyProof.Rows
def ie (tu:Bool) (H:Hp) (v:V) (ks:List Int):Prop:=match tu with
 | true=>∃ a,v = .ref a /\ H a=some (.tup (ks.map V.int))
 | false=>∃ i,v = .int i /\ ks = [i]
theorem ie.mono {tu:Bool} {H H':Hp} {v:V} {ks:List Int} (h:ie tu H v ks) (m:∀ t xs,H t=some (.tup xs)->H' t=some (.tup xs)):ie tu H' v ks:=by
 cases tu with
 | true=>obtain⟨a,e,h⟩:=h;exact⟨a,e,m a _ h⟩
 | false=>exact h
structure bI (tu:Bool) (H:Hp) (vs:List V) (its:List (List Int)):Prop where
 len:vs.length=its.length
 get:∀(i:Nat) v ks,vs[i]? = some v->its[i]? = some ks->ie tu H v ks
section
variable {tu:Bool} {H H':Hp} {vs:List V} {its:List (List Int)}
theorem bI.mono (R:bI tu H vs its) (m:∀ t xs,H t=some (.tup xs)->H' t=some (.tup xs)):bI tu H' vs its:=⟨R.len,λ i v ks e1 e2=>(R.get i v ks e1 e2).mono m⟩
theorem bI.nil:bI tu H [] []:=⟨rfl,λ i v ks e=>by simp at e⟩
theorem bI.at_ (R:bI tu H vs its) {i:Nat} (hi:i < its.length):∃ v,vs[i]? = some v /\ ie tu H v (gK its i):=by
 have h1:i < vs.length:=by rw [R.len];exact hi
 refine⟨vs[i],QC h1,R.get i _ _ (QC h1) ?_⟩
 rw [QC hi]
 simp [gK,List.getD_eq_getElem?_getD,hi]
theorem bI.snoc (R:bI tu H vs its) {v:V} {ks:List Int} (h:ie tu H v ks):bI tu H (vs ++ [v]) (its ++ [ks]) :=
 ⟨by simp [R.len],λ i w ls e1 e2=>by
  by_cases hi:i < vs.length
  ·rw [QW hi] at e1
   rw [QW (by rw [← R.len];exact hi)] at e2
   exact R.get i w ls e1 e2
  ·have hlt:=(QE.mp e1).1
   have:i=vs.length:=by simp at hlt;omega
   subst this
   rw [Rb (QH _)] at e1
   rw [R.len,Rb (QH _)] at e2
   simp at e1 e2
   subst e1 e2
   exact h⟩
theorem bI.set (R:bI tu H vs its) {i:Nat} {v:V} {ks:List Int} (h:ie tu H v ks):bI tu H (vs.set i v) (its.set i ks) :=
 ⟨by simp [R.len],λ j w ls e1 e2=>by
  rw [Tf] at e1 e2
  by_cases hj:i=j
  ·subst hj
   rw [if_pos rfl] at e1 e2
   split at e1
   ·rw [if_pos (by rw [← R.len];assumption)] at e2
    cases e1;cases e2;exact h
   ·cases e1
  ·rw [if_neg hj] at e1 e2
   exact R.get j w ls e1 e2⟩
theorem bI.swap (R:bI tu H vs its) {i j:Nat} {v w:V} (hi:i < its.length) (hj:j < its.length) (ei:vs[i]? = some v) (ej:vs[j]? = some w):bI tu H ((vs.set i w).set j v) (swp its i j):=by
 have kv:=R.get i v (gK its i) ei (by rw [QC hi];simp [gK,List.getD_eq_getElem?_getD,hi])
 have kw:=R.get j w (gK its j) ej (by rw [QC hj];simp [gK,List.getD_eq_getElem?_getD,hj])
 exact(R.set kw).set kv
end
theorem bI.dropLast {tu:Bool} {H:Hp} {vs:List V} {its:List (List Int)} (R:bI tu H vs its):bI tu H vs.dropLast its.dropLast :=
 ⟨by rw [Tp,Tp,R.len],λ i v ks e1 e2=>by
  rw [List.getElem?_dropLast] at e1 e2
  split at e1
  ·split at e2
   ·exact R.get i v ks e1 e2
   ·cases e2
  ·cases e1⟩
def Gx (K:Frag):R2:=λ x y H Q=>FU K x y H Q ∨ ∃ i j,x = .int i /\ y = .int j /\ Q (.bl (decide (i < j))) H
theorem zF {X:Cx} (hu:X.A.units < cLine):OpR X (compareOp .Lt) (Gx X.K):=by
 intro pins s σ H x y v u Q I rx ry h
 rcases h with h |⟨i,j,e1,e2,q⟩
 ·exact Ck hu pins s σ H x y v u Q I rx ry h
 ·exact uR pins s σ H x y v u Q I rx ry ⟨i,j,e1,e2,q⟩
theorem Fc (i j:Int):HT.lexLt [i] [j]=decide (i < j):=by
 rw [HT.cO]
 by_cases h:i=j
 ·subst h;rw [if_pos rfl,HT.fD];simp
 ·rw [if_neg h]
theorem yW {K:Frag} {tu:Bool} {H:Hp} {x y:V} {ks ls:List Int} {Q:VK} (h1:ie tu H x ks) (h2:ie tu H y ls) (q:Q (.bl (HT.lexLt ks ls)) H):Gx K x y H Q:=by
 cases tu with
 | true =>
  obtain⟨a,e1,h1⟩:=h1
  obtain⟨b,e2,h2⟩:=h2
  exact .inl ⟨a,b,ks,ls,e1,e2,SqT.of h1,SqT.of h2,q⟩
 | false =>
  obtain⟨i,e1,rfl⟩:=h1
  obtain⟨j,e2,rfl⟩:=h2
  rw [Fc] at q
  exact .inr ⟨i,j,e1,e2,q⟩
structure dc (C:Addr) (tu:Bool) (H:Hp) (p r:Addr) (vs:List V) (its:List (List Int)):Prop where
 ob:∃ dx,H p=some (.ins C dx [("row",.ref r)])
 row:H r=some (.lst vs)
 ks:bI tu H vs its
section
variable {C:Addr} {tu:Bool} {H H':Hp} {p r:Addr} {vs:List V} {its:List (List Int)}
theorem dc.ne (h:dc C tu H p r vs its):p ≠ r:=by
 obtain⟨dx,ob⟩:=h.ob
 exact aR ob h.row (by intro z;cases z)
theorem dc.put (h:dc C tu H p r vs its) {vs':List V} {its':List (List Int)} (k:bI tu H vs' its'):dc C tu (upd H r (.lst vs')) p r vs' its':=by
 obtain⟨dx,ob⟩:=h.ob
 refine⟨⟨dx,by rw [af h.ne];exact ob⟩,ak,k.mono λ t xs e=>?_⟩
 rw [af (aR e h.row (by intro z;cases z))];exact e
theorem dc.same (h:dc C tu H p r vs its) (s:az H H'):dc C tu H' p r vs its:=by
 obtain⟨dx,ob⟩:=h.ob
 exact⟨⟨dx,s _ _ ob⟩,s _ _ h.row,h.ks.mono λ t xs e=>s _ _ e⟩
end
structure Leg where
 num:Int
 start:Int
 to:Int
 bad:Int
 cost:Int
def ja (g:Leg):List Int:=[g.num,g.start,g.to,g.bad,g.cost]
def bO (p:List Int) (g:Leg):List Int:=[p.getD 0 0 + g.bad,p.getD 1 0 + g.cost,p.getD 2 0 + 1]
def mR (g:Leg):Prop:=0 ≤ g.to /\ 0 ≤ g.bad /\ 0 ≤ g.cost
theorem K5 (a b c a' b' c':Int):HT.lexLt [a,b,c] [a',b',c']=decide (a < a' ∨(a=a' /\(b < b' ∨(b=b' /\ c < c')))):=by
 rw [HT.cO,HT.cO,HT.cO,HT.fD]
 by_cases h1:a=a'
 ·subst h1
  rw [if_pos rfl]
  by_cases h2:b=b'
  ·subst h2
   rw [if_pos rfl]
   by_cases h3:c=c'
   ·subst h3;simp
   ·rw [if_neg h3];simp
  ·rw [if_neg h2];simp [h2]
 ·rw [if_neg h1];simp [h1]
theorem le3 {a b c a' b' c':Int}:Le [a,b,c] [a',b',c'] ↔ a < a' ∨(a=a' /\(b < b' ∨(b=b' /\ c ≤ c'))):=by
 unfold Le
 rw [K5,decide_eq_false_iff_not]
 omega
theorem le4 {a b c d a' b' c' d':Int} (h:Le [a,b,c,d] [a',b',c',d']):Le [a,b,c] [a',b',c']:=by
 unfold Le at h ⊢
 rw [HT.cO] at h ⊢
 by_cases h1:a'=a
 ·subst h1
  rw [if_pos rfl] at h ⊢
  rw [HT.cO] at h ⊢
  by_cases h2:b'=b
  ·subst h2
   rw [if_pos rfl] at h ⊢
   rw [HT.cO] at h ⊢
   by_cases h3:c'=c
   ·subst h3
    rw [if_pos rfl,HT.fD]
   ·rw [if_neg h3] at h ⊢;exact h
  ·rw [if_neg h2] at h ⊢;exact h
 ·rw [if_neg h1] at h ⊢;exact h
def fN (q:List Int):Prop:=∃(b c:Int) (n:Nat),q = [b,c,(n:Int)]
theorem fN.over {p:List Int} (h:fN p) (g:Leg):fN (bO p g):=by
 obtain⟨b,c,n,rfl⟩:=h
 exact⟨b + g.bad,c + g.cost,n + 1,by simp [bO]⟩
theorem Ep {p:List Int} (h:fN p) {g:Leg} (hg:mR g):Le p (bO p g):=by
 obtain⟨b,c,n,rfl⟩:=h
 obtain⟨_,h1,h2⟩:=hg
 show Le [b,c,(n:Int)] [b + g.bad,c + g.cost,(n:Int) + 1]
 rw [le3];omega
theorem CZ {p p':List Int} (h:fN p) (h':fN p') (hl:Le p p') (g:Leg):Le (bO p g) (bO p' g):=by
 obtain⟨b,c,n,rfl⟩:=h
 obtain⟨b',c',n',rfl⟩:=h'
 show Le [b + g.bad,c + g.cost,(n:Int) + 1] [b' + g.bad,c' + g.cost,(n':Int) + 1]
 rw [le3] at hl ⊢;omega
structure gD (legs:List Leg) (P:Int->Option (List Int)):Prop where
 zero:P (-1)=some [0,0,0]
 pr:∀ d q,P d=some q->fN q
 closed:∀ g ∈ legs,∀ p,P g.start=some p->∃ q,P g.to=some q /\ Le q (bO p g)
 att:∀ d q,P d=some q->d ≠ -1->∃ g ∈ legs,g.to=d /\ ∃ p,P g.start=some p /\ q=bO p g
theorem least_le {legs:List Leg} {P P':Int->Option (List Int)} (h:gD legs P) (h':gD legs P'):∀(n:Nat) (d b c:Int),P d=some [b,c,(n:Int)]->∃ q',P' d=some q' /\ Le q' [b,c,(n:Int)]:=by
 intro n
 induction n with
 | zero =>
  intro d b c hd
  by_cases e:d = -1
  ·subst e
   rw [h.zero] at hd
   cases hd
   exact⟨_,h'.zero,Le.refl _⟩
  ·obtain⟨g,hg,rfl,p,hp,hq⟩:=h.att d _ hd e
   obtain⟨b',c',m,rfl⟩:=h.pr _ _ hp
   have h3:((0:Nat):Int) =(m:Int) + 1:=congrArg (λ l:List Int=>l.getD 2 0) hq
   exact absurd h3 (by omega)
 | succ n ih =>
  intro d b c hd
  by_cases e:d = -1
  ·subst e
   rw [h.zero] at hd
   cases hd
  ·obtain⟨g,hg,rfl,p,hp,hq⟩:=h.att d _ hd e
   obtain⟨b',c',m,rfl⟩:=h.pr _ _ hp
   have h3:((n + 1:Nat):Int) =(m:Int) + 1:=congrArg (λ l:List Int=>l.getD 2 0) hq
   have hm:m=n:=by omega
   subst hm
   obtain⟨p',hp',hl⟩:=ih _ _ _ hp
   obtain⟨q',hq',hl'⟩:=h'.closed g hg p' hp'
   refine⟨q',hq',hl'.trans ?_⟩
   rw [hq]
   exact CZ (h'.pr _ _ hp') ⟨_,_,_,rfl⟩ hl g
theorem qt {legs:List Leg} {P P':Int->Option (List Int)} (h:gD legs P) (h':gD legs P') (d:Int):P d=P' d:=by
 cases e:P d with
 | none =>
  cases e':P' d with
  | none=>rfl
  | some q' =>
   obtain⟨b,c,n,rfl⟩:=h'.pr _ _ e'
   obtain⟨q,hq,_⟩:=least_le h' h n d b c e'
   rw [e] at hq;cases hq
 | some q =>
  obtain⟨b,c,n,rfl⟩:=h.pr _ _ e
  obtain⟨q',hq',hl⟩:=least_le h h' n d b c e
  obtain⟨b',c',n',rfl⟩:=h'.pr _ _ hq'
  obtain⟨q2,hq2,hl2⟩:=least_le h' h n' d b' c' hq'
  rw [e] at hq2
  cases hq2
  rw [hq',Le.antisymm hl hl2]
def itemOf (p:List Int) (g:Leg):List Int:=bO p g ++ [g.to]
def pF (P:Int->Option (List Int)) (d:Int) (q:List Int):Int->Option (List Int):=λ k=>if k=d then some q else P k
theorem jl {P:Int->Option (List Int)} {d:Int} {q:List Int}:pF P d q d=some q:=if_pos rfl
theorem rR {P:Int->Option (List Int)} {d k:Int} {q:List Int} (h:k ≠ d):pF P d q k=P k:=if_neg h
structure Walk (legs:List Leg) (P:Int->Option (List Int)) (its:List (List Int)):Prop where
 zero:P (-1)=some [0,0,0] ∨((∀ d,P d=none) /\ its = [[0,0,0,-1]])
 pr:∀ d q,P d=some q->fN q
 att:∀ d q,P d=some q->d ≠ -1->∃ g ∈ legs,g.to=d /\ ∃ p,P g.start=some p /\ q=bO p g
 AY:∀ x ∈ its,x = [0,0,0,-1] ∨ ∃ g ∈ legs,∃ p,P g.start=some p /\ x=itemOf p g
 open_:∀ g ∈ legs,∀ p,P g.start=some p->(∃ q,P g.to=some q /\ Le q (bO p g)) ∨ itemOf p g ∈ its
 low:∀ d q,P d=some q->∀ x ∈ its,Le q (x.take 3)
theorem Walk.shape {legs:List Leg} {P:Int->Option (List Int)} {its:List (List Int)} (W:Walk legs P its):∀ x ∈ its,∃ q d,fN q /\ x=q ++ [d]:=λ x hx=>by
 rcases W.AY x hx with rfl |⟨g,_,p,hp,rfl⟩
 ·exact⟨[0,0,0],-1,⟨0,0,0,rfl⟩,rfl⟩
 ·exact⟨_,_,(W.pr _ _ hp).over g,rfl⟩
theorem take3 {q:List Int} (h:fN q) (d:Int):(q ++ [d]).take 3=q:=by
 obtain⟨b,c,n,rfl⟩:=h;rfl
theorem Gd {q q':List Int} {d d':Int} (h:fN q) (h':fN q') (hl:Le (q ++ [d]) (q' ++ [d'])):Le q q':=by
 obtain⟨b,c,n,rfl⟩:=h
 obtain⟨b',c',n',rfl⟩:=h'
 exact le4 hl
theorem lY {q q':List Int} {d d':Int} (h:fN q) (h':fN q') (e:q ++ [d]=q' ++ [d']):q=q' /\ d=d':=by
 obtain⟨b,c,n,rfl⟩:=h
 obtain⟨b',c',n',rfl⟩:=h'
 simp at e
 obtain⟨e1,e2,e3,e4⟩:=e
 subst e1 e2 e4
 have:n=n':=by omega
 subst this
 exact⟨rfl,rfl⟩
theorem Walk.skip {legs:List Leg} {P:Int->Option (List Int)} {its its':List (List Int)} {q q0:List Int} {d:Int} (W:Walk legs P its) (hq:fN q) (hp:its.Perm ((q ++ [d]) :: its')) (hd:P d=some q0):Walk legs P its':=by
 have hin:∀ x ∈ its',x ∈ its:=λ x h=>hp.mem_iff.mpr (by simp [h])
 have hz:P (-1)=some [0,0,0]:=by
  rcases W.zero with h |⟨h,_⟩
  ·exact h
  ·rw [h d] at hd;cases hd
 refine⟨.inl hz,W.pr,W.att,λ x h=>W.AY x (hin x h),λ g hg p hpg=>?_,λ k r hk x hx=>W.low k r hk x (hin x hx)⟩
 rcases W.open_ g hg p hpg with h | h
 ·exact .inl h
 ·rcases Rh.mp (hp.mem_iff.mp h) with e | h
  ·obtain⟨e1,e2⟩:=lY ((W.pr _ _ hpg).over g) hq e
   have:=W.low d q0 hd (q ++ [d]) (hp.mem_iff.mpr (by simp))
   rw [take3 hq] at this
   exact .inl ⟨q0,by rw [e2];exact hd,by rw [e1];exact this⟩
  ·exact .inr h
theorem Walk.step {legs:List Leg} {P:Int->Option (List Int)} {its its' its2:List (List Int)} {q:List Int} {d:Int} (W:Walk legs P its) (hok:∀ g ∈ legs,mR g) (hq:fN q) (hp:its.Perm ((q ++ [d]) :: its')) (hmin:∀ x ∈ its,Le (q ++ [d]) x) (hd:P d=none)
  (hp2:its2.Perm (its' ++(legs.filter λ g=>decide (g.start=d)).map (itemOf q))):Walk legs (pF P d q) its2:=by
 have hin:∀ x ∈ its',x ∈ its:=λ x h=>hp.mem_iff.mpr (by simp [h])
 have hm:q ++ [d] ∈ its:=hp.mem_iff.mpr (by simp)
 have hold:∀ k r,P k=some r->pF P d q k=some r:=λ k r h=>by
  rw [rR (λ e=>by rw [e,hd] at h;cases h)];exact h
 have hnew:∀ k r,pF P d q k=some r->(k=d /\ r=q) ∨(k ≠ d /\ P k=some r):=λ k r h=>by
  by_cases e:k=d
  ·subst e;rw [jl] at h;cases h;exact .inl ⟨rfl,rfl⟩
  ·rw [rR e] at h;exact .inr ⟨e,h⟩
 have hmem2:∀ x,x ∈ its2 ↔ x ∈ its' ∨ ∃ g ∈ legs,g.start=d /\ x=itemOf q g:=λ x=>by
  rw [hp2.mem_iff,Ro,QS]
  constructor
  ·rintro(h |⟨g,hg,rfl⟩)
   ·exact .inl h
   ·have:=SN.mp hg
    exact .inr ⟨g,this.1,TV this.2,rfl⟩
  ·rintro(h |⟨g,hg,h1,rfl⟩)
   ·exact .inl h
   ·exact .inr ⟨g,SN.mpr ⟨hg,Rq h1⟩,rfl⟩
 have hfrom:=W.AY _ hm
 refine⟨?_,λ k r h=>?_,λ k r h hk=>?_,λ x hx=>?_,λ g hg p hpg=>?_,λ k r h x hx=>?_⟩
 ·left
  rcases W.zero with h |⟨h,hi⟩
  ·exact hold _ _ h
  ·rw [hi] at hm
   have e:=QZ.mp hm
   obtain⟨e1,e2⟩:=lY hq ⟨0,0,0,rfl⟩ (show q ++ [d] =([0,0,((0:Nat):Int)]:List Int) ++ [-1] from e)
   subst e1 e2
   exact jl
 ·rcases hnew k r h with⟨_,rfl⟩ |⟨_,h⟩
  ·exact hq
  ·exact W.pr k r h
 ·rcases hnew k r h with⟨rfl,rfl⟩ |⟨_,h⟩
  ·rcases hfrom with e |⟨g,hg,p,hpg,e⟩
   ·obtain⟨_,e2⟩:=lY hq ⟨0,0,0,rfl⟩ (show r ++ [k] =([0,0,((0:Nat):Int)]:List Int) ++ [-1] from e)
    exact absurd e2 hk
   ·obtain⟨e1,e2⟩:=lY hq ((W.pr _ _ hpg).over g) e
    exact⟨g,hg,e2.symm,p,hold _ _ hpg,e1⟩
  ·obtain⟨g,hg,h1,p,hpg,h2⟩:=W.att k r h hk
   exact⟨g,hg,h1,p,hold _ _ hpg,h2⟩
 ·rcases(hmem2 x).mp hx with hx |⟨g,hg,h1,rfl⟩
  ·rcases W.AY x (hin x hx) with h |⟨g,hg,p,hpg,h⟩
   ·exact .inl h
   ·exact .inr ⟨g,hg,p,hold _ _ hpg,h⟩
  ·exact .inr ⟨g,hg,q,by rw [h1];exact jl,rfl⟩
 ·rcases hnew _ _ hpg with⟨h1,rfl⟩ |⟨h1,hpg⟩
  ·exact .inr ((hmem2 _).mpr (.inr ⟨g,hg,h1,rfl⟩))
  ·rcases W.open_ g hg p hpg with⟨r,h2,h3⟩ | h2
   ·exact .inl ⟨r,hold _ _ h2,h3⟩
   ·rcases Rh.mp (hp.mem_iff.mp h2) with e | h2
    ·obtain⟨e1,e2⟩:=lY ((W.pr _ _ hpg).over g) hq e
     exact .inl ⟨q,by rw [e2];exact jl,by rw [e1];exact Le.refl _⟩
    ·exact .inr ((hmem2 _).mpr (.inl h2))
 ·have hqx:Le q (x.take 3):=by
   rcases(hmem2 x).mp hx with hx |⟨g,hg,h1,rfl⟩
   ·obtain⟨q',d',hq',rfl⟩:=W.shape x (hin x hx)
    rw [take3 hq']
    exact Gd hq hq' (hmin _ (hin _ hx))
   ·unfold itemOf
    rw [take3 (hq.over g)]
    exact Ep hq (hok g hg)
  rcases hnew k r h with⟨_,rfl⟩ |⟨_,h⟩
  ·exact hqx
  ·have:=W.low k r h _ hm
   rw [take3 hq] at this
   exact this.trans hqx
theorem Walk.done {legs:List Leg} {P:Int->Option (List Int)} (W:Walk legs P []):gD legs P:=by
 refine⟨?_,W.pr,λ g hg p hp=>?_,W.att⟩
 ·rcases W.zero with h |⟨_,h⟩
  ·exact h
  ·cases h
 ·rcases W.open_ g hg p hp with h | h
  ·exact h
  ·cases h
theorem Walk.start (legs:List Leg):Walk legs (λ _=>none) [[0,0,0,-1]]:=by
 refine⟨.inr ⟨λ _=>rfl,rfl⟩,λ _ _ h=>?_,λ _ _ h=>?_,λ x h=>.inl (QZ.mp h),λ _ _ _ h=>?_,λ _ _ h=>?_⟩ <;> cases h
def ahead (legs:List Leg) (P:Int->Option (List Int)):Nat:=(legs.filter λ g=>(P g.start).isNone).length
theorem Ci {legs:List Leg} {P:Int->Option (List Int)} {d:Int} {q:List Int} (hd:P d=none):ahead legs (pF P d q) +(legs.filter λ g=>decide (g.start=d)).length=ahead legs P:=by
 unfold ahead
 induction legs with
 | nil=>rfl
 | cons g r ih =>
  simp only [List.filter_cons]
  by_cases e:g.start=d
  ·rw [e,jl,hd];simp;omega
  ·rw [rR e]
   simp only [e,decide_false]
   cases h:P g.start with
   | none=>simp;omega
   | some _=>simp;omega
theorem Cw {α:Type} [DecidableEq α]:∀ {l m:List α},l.Nodup->(∀ x ∈ l,x ∈ m)->l.length ≤ m.length
 | [],_,_,_=>Rm _
 | x :: l,m,hn,h=>by
  have hx:x ∈ m:=h x (by simp)
  have hn':=Rz.mp hn
  have ih:=Cw (l:=l) (m:=m.erase x) hn'.2 λ y hy=>(List.mem_erase_of_ne (show y ≠ x from λ e=>hn'.1 (by rw [← e];exact hy))).mpr (h y (by simp [hy]))
  rw [US hx] at ih
  have:=List.length_pos_of_mem hx
  simp;omega
theorem Bh {kvs:List (Key × V)} {k:Key}:(bg kvs k).isSome=true ↔ k ∈ kvs.map (·.1):=by
 unfold bg
 rw [TR,List.find?_isSome,QS]
 constructor
 ·rintro⟨x,hx,e⟩;exact⟨x,hx,by simpa using e⟩
 ·rintro⟨x,hx,e⟩;exact⟨x,hx,by simpa using e⟩
theorem rF:∀ {kvs:List (Key × V)} {k:Key} {v:V},(kvs.map (·.1)).Nodup->(k,v) ∈ kvs->bg kvs k=some v
 | [],_,_,_,h=>by cases h
 |(k',v') :: r,k,v,hn,h=>by
  rw [Rk,Rz] at hn
  unfold bg
  rw [List.find?_cons]
  rcases Rh.mp h with e | h
  ·cases e;simp
  ·have hne:k' ≠ k:=λ e=>hn.1 (by rw [e];exact QS.mpr ⟨_,h,rfl⟩)
   simp only [hne,decide_false]
   exact rF hn.2 h
def nB (H:Hp):Option V->Option (List Int)->Prop
 | none,none=>True
 | some v,some q=>∃ a,v = .ref a /\ H a=some (.tup (q.map V.int))
 | _,_=>False
theorem nB.mono {H H':Hp} (m:∀ t xs,H t=some (.tup xs)->H' t=some (.tup xs)):∀ {o:Option V} {p:Option (List Int)},nB H o p->nB H' o p
 | none,none,_=>trivial
 | some _,some _,⟨a,e,h⟩=>⟨a,e,m _ _ h⟩
 | none,some _,h=>h.elim
 | some _,none,h=>h.elim
theorem nB.some_of {H:Hp} {o:Option V} {q:List Int} (h:nB H o (some q)):∃ a,o=some (.ref a) /\ H a=some (.tup (q.map V.int)):=by
 cases o with
 | none=>exact h.elim
 | some v=>obtain⟨a,rfl,h⟩:=h;exact⟨a,rfl,h⟩
theorem nB.none_of {H:Hp} {o:Option V} (h:nB H o none):o=none:=by
 cases o with
 | none=>rfl
 | some v=>exact h.elim
theorem nB.is {H:Hp} {o:Option V} {p:Option (List Int)} (h:nB H o p):o.isSome=p.isSome:=by
 cases o <;> cases p <;> first | rfl | exact h.elim
structure gE (H:Hp) (kvs:List (Key × V)) (P:Int->Option (List Int)):Prop where
 nd:(kvs.map (·.1)).Nodup
 iz:g8 kvs
 val:∀ i,nB H (bg kvs (Sum.inl i)) (P i)
section
variable {H H':Hp} {kvs ka kb:List (Key × V)} {P P':Int->Option (List Int)}
theorem gE.mono (R:gE H kvs P) (m:∀ t xs,H t=some (.tup xs)->H' t=some (.tup xs)):gE H' kvs P:=⟨R.nd,R.iz,λ i=>(R.val i).mono m⟩
theorem gE.nil:gE H [] (λ _=>none):=⟨To,g8.nil,λ i=>trivial⟩
theorem gE.put (R:gE H kvs P) {d:Int} {q:List Int} {a:Addr} (hd:P d=none) (ha:H a=some (.tup (q.map V.int))):gE H (putK kvs (Sum.inl d) (.ref a)) (pF P d q):=by
 have hn:bg kvs (Sum.inl d)=none:=by have:=R.val d;rw [hd] at this;exact this.none_of
 refine⟨Ah _ R.nd hn,R.iz.put d _,λ i=>?_⟩
 rw [eN]
 by_cases e:i=d
 ·subst e;rw [if_pos rfl,jl];exact⟨a,rfl,ha⟩
 ·rw [if_neg (λ h=>e (RW h)),rR e];exact R.val i
def iL (P:Int->Option (List Int)) (d:Int):Int->Option (List Int):=λ k=>if k=d then none else P k
theorem gE.drop (R:gE H kvs P) (d:Int):gE H (dI kvs (Sum.inl d)) (iL P d):=by
 refine⟨tR R.nd,R.iz.drop _,λ i=>?_⟩
 rw [Cv]
 by_cases e:i=d
 ·subst e;rw [if_pos rfl];unfold iL;rw [if_pos rfl];trivial
 ·rw [if_neg (λ h=>e (RW h))];unfold iL;rw [if_neg e];exact R.val i
end
theorem dG.GW {K:Frag} {H:Hp} {a c:Addr} {xs ys:List Int} (h1:SqT K H a (xs.map V.int)) (h2:SqT K H c (ys.map V.int)):dG K H (EqI K H 0) (.ref a) (.ref c) (decide (xs=ys)):=by
 refine⟨a,c,_,_,λ j=>decide (xs[j]? = ys[j]?),rfl,rfl,.inr (.inr ⟨h1,h2,λ j x' y' e1 e2=>?_,?_⟩)⟩
 ·rw [QK] at e1 e2
  obtain⟨x,ex,rfl⟩:=QX.mp e1
  obtain⟨y,ey,rfl⟩:=QX.mp e2
  refine .inl ⟨rfl,rfl,?_⟩
  show decide (xs[j]? = ys[j]?)=eqV (.int x) (.int y)
  rw [ex,ey]
  show decide (some x=some y) =(x == y)
  rw [SX,VW,SY]
  exact⟨λ h=>Rc h,λ h=>by rw [h]⟩
 ·rw [QG,QG,SX,VW,UO,Wl]
  constructor
  ·rintro rfl;exact⟨λ j _=>by simp,by simp⟩
  ·rintro⟨h,hl⟩
   have hl:xs.length=ys.length:=by simpa using hl
   refine Tg λ j=>?_
   by_cases hj:j < xs.length
   ·exact TV (h j (Th.mpr (by omega)))
   ·rw [Rx (by omega),Rx (by omega)]
theorem zf {kvs:List (Key × V)} {k:Key} (v:V) (hn:(kvs.map (·.1)).Nodup):((putK kvs k v).map (·.1)).Nodup:=by
 cases h:bg kvs k with
 | none=>exact Ah v hn h
 | some y =>
  unfold putK
  rw [jb,h]
  simp only [Option.isSome_some,if_true,List.map_map]
  rw [show((λ x:Key × V=>x.1) ∘ λ kv:Key × V=>if kv.1=k then(kv.1,v) else kv)=λ x=>x.1 from funext λ kv=>by simp only [Function.comp];split <;> rfl]
  exact hn
structure bM (kvs:List (Key × V)) (S:Int->Prop):Prop where
 nd:(kvs.map (·.1)).Nodup
 iz:g8 kvs
 val:∀ i,(bg kvs (Sum.inl i)).isSome=true ↔ S i
theorem bM.nil:bM [] (λ _=>False):=⟨To,g8.nil,λ i=>⟨λ h=>(by cases h),λ h=>h.elim⟩⟩
theorem bM.put {kvs:List (Key × V)} {S:Int->Prop} (h:bM kvs S) (d:Int) (v:V):bM (putK kvs (Sum.inl d) v) (λ i=>S i ∨ i=d):=by
 refine⟨zf _ h.nd,h.iz.put d _,λ i=>?_⟩
 rw [eN]
 by_cases e:i=d
 ·subst e;simp
 ·rw [if_neg (λ z=>e (RW z)),h.val i];simp [e]
section
variable {prog:Program} {w:World} {A:Around} {E:Value->Shared->Prop} {s:Shared}
theorem Di {r:Addr} {Q:Bool->Shared->Prop} (hT:s.TypeIs (.ref r) "list_reverseiterator") (h:Q false s):wpAny (model prog w) A (Builtin.List.listLengthHint (.ref r)) Q E s:=by
 unfold Builtin.List.listLengthHint
 refine QB (TF hT (r:=none) (by kernel_rfl) ?_)
 dsimp only
 refine Sq (λ hab=>absurd hab (by decide)) (λ _=>?_)
 refine Sq (λ hab=>absurd hab (by decide)) (λ _=>?_)
 refine QB (TF hT (r:=some (.builtin "list_reverseiterator.__length_hint__")) (by kernel_rfl) ?_)
 dsimp only
 generalize hid:("list_reverseiterator.__length_hint__":String)=id0
 rw [show splitId id0=some ("list_reverseiterator","__length_hint__") from by subst hid;decide +kernel]
 subst hid
 dsimp only
 refine QB (wpAny_isInstance (T:="list_reverseiterator") (b:=true) hT (by rw [isSubtype_type];kernel_rfl) ?_)
 refine Sq (λ hab=>absurd hab (by decide)) (λ _=>?_)
 refine Sq (λ _=>?_) (λ hab=>absurd (by decide +kernel) hab)
 refine Sq (λ hab=>absurd hab (by decide +kernel)) (λ _=>?_)
 exact QI h
theorem xM {l I:Addr} {items:Array Value} {Q:Value->Shared->Prop} (hh:A.handled=none) (hit:s.heap.IsRevIter I l ((items.size:Int) - 1)) (hl:s.heap.IsList l items) (hne:l ≠ I) (hsz:items.size ≤ sizeLine)
  (h:∀(h':Heap) (tk:Nat) (acc:Array Value) (c':Nat),s.toks ≤ tk->(∀ b o,b ≠ I->s.heap.get? b=some o->h'.get? b=some o)->h'.get? s.heap.objs.size=some { cls:=.type "list",dict:=none,data:=.seq acc c',slots:=#[] }->ItemsOf (λ i v=>items[items.size - 1 - i]? = some v) acc items.size->Q (.ref s.heap.objs.size) { s with heap:=h',toks:=tk }) :
  wpAny (model prog w) A (call (.type "list") [.ref I]) Q E s:=by
 refine Vl VH (U1 _) U3 (code_list_new (.ref I) (Q₁:=λ obj s₁=>obj = .ref s.heap.objs.size /\ s₁ = { s with heap:=s.heap.push { cls:=.type "list",dict:=none,data:=.seq #[] 0,slots:=#[] } }) ⟨rfl,rfl⟩) λ obj s₁ hq=>?_
 obtain⟨h1,h2⟩:=hq
 subst h1 h2
 have hS:(s.heap.push { cls:=.type "list",dict:=none,data:=.seq #[] 0,slots:=#[] }).get? s.heap.objs.size=some { cls:=.type "list",dict:=none,data:=.seq #[] 0,slots:=#[] }:=QU _ rfl
 refine⟨⟨_,hS,rfl⟩,UT _ _,?_⟩
 have hitp:(s.heap.push { cls:=.type "list",dict:=none,data:=.seq #[] 0,slots:=#[] }).IsRevIter I l ((items.size:Int) - 1):=hit.at λ o e=>QD _ e
 have hlp:=hl.push { cls:=.type "list",dict:=none,data:=.seq #[] 0,slots:=#[] }
 have hIlt:I < s.heap.objs.size:=by obtain⟨o,ho,_⟩:=hit;exact QF ho
 have hllt:l < s.heap.objs.size:=by obtain⟨o,ho,_⟩:=hl;exact QF ho
 unfold Builtin.«list.__init__»
 generalize hX:Builtin.List.listExtendWith=X
 wp_walk
 subst hX
 have hS2:((s.heap.push { cls:=.type "list",dict:=none,data:=.seq #[] 0,slots:=#[] }).update s.heap.objs.size (Obj.mapSeq λ x=>#[])).get? s.heap.objs.size=some { cls:=.type "list",dict:=none,data:=.seq #[] 0,slots:=#[] }:=RG _ hS rfl
 have kp:∀ b o,b ≠ s.heap.objs.size->s.heap.get? b=some o->((s.heap.push { cls:=.type "list",dict:=none,data:=.seq #[] 0,slots:=#[] }).update s.heap.objs.size (Obj.mapSeq λ x=>#[])).get? b=some o:=λ b o hb e=>Vd _ (RJ hb) (QD _ e)
 generalize (s.heap.push { cls:=.type "list",dict:=none,data:=.seq #[] 0,slots:=#[] }).update s.heap.objs.size (Obj.mapSeq λ x=>#[])=h2 at hS2 kp ⊢
 have hit2:h2.IsRevIter I l ((items.size:Int) - 1):=hit.at λ o e=>kp I o (QN hIlt) e
 have hl2:h2.IsList l items:=by
  obtain⟨o,ho,r⟩:=hl
  exact⟨o,kp l o (QN hllt) ho,r⟩
 unfold Builtin.List.listExtendWith
 refine QB (Ub (Vm (s:={ s with heap:=h2 }) hit2) ?_)
 have hsr:Builtin.List.listSameRef (Value.ref s.heap.objs.size) (Value.ref I)=false:=by
  unfold Builtin.List.listSameRef
  simp
  exact Ry hIlt
 refine Sq (λ hab=>absurd hab (by rw [hsr];decide)) (λ _=>?_)
 refine QB (wpAny_pyIter_revIter hit2 ?_)
 refine QB (RK (Di (Vm (s:={ s with heap:=h2 }) hit2) ?_))
 dsimp only
 refine Sq (λ hab=>absurd hab (by decide +kernel)) (λ _=>?_)
 have hh3:A.in1.in1.handled=none:=by simp [hh]
 refine QI ⟨SI _ (by decide +kernel),codeAny_extend_loopS ((Walks.listRev hh3 I l hne items).toS) hsz s.heap.objs.size ?_ .none items.size 0 _ #[] 0 (by omega) (Rm _) ⟨Rm _,by simpa using hit2,hl2⟩ hS2 ⟨rfl,λ j v e=>by simp at e⟩ λ s' acc' c' hm hS' hi=>?_⟩
 ·simp only [List.mem_cons,List.not_mem_nil,or_false,not_or]
  exact⟨Ry hIlt,Ry hllt⟩
 ·obtain⟨h',g',d',tk',os'⟩:=s'
  have e1:=hm.gens
  have e2:=hm.drawn
  have e3:=hm.os
  have e4:=hm.toks
  simp only at e1 e2 e3 e4
  subst e1 e2 e3
  refine⟨rfl,h h' tk' acc' c' e4 (λ b o hb e=>?_) hS' hi⟩
  have hbS:b ≠ s.heap.objs.size:=QN (QF e)
  exact hm.heap b o (by simp [hb,hbS]) (kp b o hbS e)
end
section
variable {X:Cx}
def GV (K:Frag) (te:TE):TE:=λ σ H Q=>te σ H λ v H1=>∃(l:Addr) (xs:List V),v = .ref l /\ SqL K H1 l xs /\ ∀ r,H1 r=none->Q (.ref r) (upd H1 r (.lst xs.reverse))
theorem DM:∀ {xs:List V} {us:List Value} {ys:List Value},Vals xs us->ys.length=us.length->(∀(j:Nat) v,ys[j]? = some v->us[us.length - 1 - j]? = some v)->Vals xs.reverse ys:=by
 intro xs us ys r hl h
 have e:ys=us.reverse:=by
  refine Tg λ j=>?_
  by_cases hj:j < ys.length
  ·rw [QC hj,List.getElem?_reverse (by omega)]
   exact(h j _ (QC hj)).symm
  ·rw [Rx (by omega),Rx (by simp;omega)]
 subst e
 exact r.reverse
theorem BA {e:Expr} {te:TE} {p1 p2 pos1 pos2:Pos} (hc:X.calm=true) (hg1:Gl X "list") (hm1:X.mg "list" = none) (hg2:Gl X "reversed") (hm2:X.mg "reversed" = none) (he:PE X e te)
  (hs1:starEach [Expr.Call (.Name "reversed" p2) [e] [] pos2] X.env = [(false,eval (Expr.Call (.Name "reversed" p2) [e] [] pos2) X.env)]:=by rfl) (hs2:starEach [e] X.env = [(false,eval e X.env)]:=by rfl) :
  PE X (.Call (.Name "list" p1) [.Call (.Name "reversed" p2) [e] [] pos2] [] pos1) (GV X.K te):=by
 intro pins s σ H Q I h
 refine Rv (iQ I hg1 hm1 boot_list ?_)
 refine RD ?_ hs1 rfl
 rw [hs1]
 show wpAny _ _ (spliced ((false,eval (Expr.Call (.Name "reversed" p2) [e] [] pos2) X.env) :: backTo pos1 [])) _ _ s
 refine RE ?_
 refine Rv (iQ I hg2 hm2 boot_reversed ?_)
 refine RD ?_ hs2 rfl
 rw [hs2]
 show wpAny _ _ (spliced ((false,eval e X.env) :: backTo pos2 [])) _ _ s
 refine RE (thn (he pins s σ H _ I h) λ u s1 ⟨x,H1,I1,r1,q1⟩=>?_)
 obtain⟨l,xs,rfl,hl,q⟩:=q1
 cases r1
 refine RN ?_
 obtain⟨its,rv,pl,hz⟩:=I1.list hl
 have hlen:=rv.length
 have hlt:l < s1.heap.objs.size:=by obtain⟨o,ho,_⟩:=pl.isList;exact QF ho
 refine call_reversed_list pl.isList ?_
 refine RN ?_
 refine xM (s:={ s1 with heap:=s1.heap.push (revObj l ((its.toArray.size:Int) - 1)) }) (items:=its.toArray) (I1.ok.hd hc) ⟨_,QU _ rfl,rfl,rfl⟩ (pl.isList.push _) (QN hlt) (by rw [QO];omega) λ h' tk acc c' htk keep hS hi=>?_
 have hsz:(s1.heap.push (revObj l ((its.toArray.size:Int) - 1))).objs.size=s1.heap.objs.size + 1:=Sy ..
 simp only [hsz] at hS ⊢
 refine⟨.ref (s1.heap.objs.size + 1),_,I1.laid (t':=tk) (o:=.lst xs.reverse) (λ b ob z=>keep b ob (QN (QF z)) (QD _ z)) (Sf _) ⟨by rw [Up];exact hz,acc.toList,c',?_,by simpa using hS⟩,rfl,q _ (I1.hok.fresh (Sf _))⟩
 refine DM rv (by rw [Tu,hi.1,QO]) λ j v ev=>?_
 have:=hi.2 j v (by rw [← Ti];exact ev)
 simpa using this
end
def tfs (a b c:Addr):List (Str × V):=[("sizes",V.ref a),("weights",V.ref b),("rates",V.ref c)]
theorem upK {H4:Hp} {x dx:Addr} {o:HO} (hx:H4 x=none) (hd:H4 dx=none) (t:Addr) (o':HO) (e:H4 t=some o'):upd (upd H4 dx (.own x)) x o t=some o':=by
 rw [af (aj e hx),af (aj e hd)];exact e
theorem zz {K:Frag} {H:Hp} {a c:Addr} {xs:List Int} (h1:H a=some (.lst (xs.map V.int))) (h2:H c=some (.lst (xs.map V.int))):dG K H (EqI K H 0) (.ref a) (.ref c) true :=
 dG.Ht (SqL.of h1) (SqL.of h2) λ x hx=>by obtain⟨z,_,rfl⟩:=QS.mp hx;exact AH z
theorem B9 {K:Frag} {H:Hp} {a c:Addr} {xs:List Int} (h1:H a=some (.tup (xs.map V.int))) (h2:H c=some (.tup (xs.map V.int))):dG K H (EqI K H 0) (.ref a) (.ref c) true :=
 dG.Hs (SqT.of h1) (SqT.of h2) λ x hx=>by obtain⟨z,_,rfl⟩:=QS.mp hx;exact AH z
def wyF (f b:Nat->Int):Nat->Nat->Int
 | 0,_=>0
 | k + 1,d=>f d +(if b d < 0 then 0 else wyF f b k (b d).toNat)
def wy (f b:Nat->Int) (d:Nat):Int:=wyF f b (d + 1) d
open PySem PySem.Spec PyProof.Rows Builtin Builtin.Str
abbrev sB:PySem.Str:=PySem.Str.ofString " "
abbrev sD:PySem.Str:=PySem.Str.ofString "-"
section
variable {prog:Program} {w:World} {A:Around} {E:Value->Shared->Prop} {s:Shared}
set_option maxHeartbeats 6400000 in
end
section
variable {X:Cx}
def dd (ns:List Int):List Int:=firstMet (λ i=>ns.getD i 0) ns.length
end
abbrev Qy:=Int->Option (Int × Int × Bool)
def okG (gd g:Bool):Prop:=g=true ∨ gd=false
instance (gd g:Bool):Decidable (okG gd g):=inferInstanceAs (Decidable (_ ∨ _))
section
variable {α:Type}
def xW (M:Int->Option α) (n:Int) (x:Option α):Int->Option α:=λ m=>if m=n then x else M m
theorem om {M:Int->Option α} {n:Int} {x:Option α}:xW M n x n=x:=if_pos rfl
theorem oh {M:Int->Option α} {n m:Int} {x:Option α} (h:m ≠ n):xW M n x m=M m:=if_neg h
structure eU (Pr:V->α->Prop) (kvs:List (Key × V)) (M:Int->Option α):Prop where
 nd:(kvs.map (·.1)).Nodup
 iz:g8 kvs
 none_:∀ n,M n=none->bg kvs (Sum.inl n)=none
 ff:∀ n u,M n=some u->∃ v,bg kvs (Sum.inl n)=some v /\ Pr v u
variable {Pr Pr':V->α->Prop} {kvs:List (Key × V)} {M:Int->Option α}
theorem eU.nil:eU Pr [] (λ _=>none):=⟨To,g8.nil,λ n _=>rfl,λ n u e=>by cases e⟩
theorem eU.mono (h:eU Pr kvs M) (k:∀ v u,Pr v u->Pr' v u):eU Pr' kvs M:=⟨h.nd,h.iz,h.none_,λ n u e=>let ⟨v,h1,h2⟩:=h.ff n u e;⟨v,h1,k v u h2⟩⟩
theorem eU.has (h:eU Pr kvs M) {n:Int} {v:V} (e:bg kvs (Sum.inl n)=some v):∃ u,M n=some u /\ Pr v u:=by
 cases eM:M n with
 | none=>rw [h.none_ n eM] at e;cases e
 | some u=>obtain⟨v',h1,h2⟩:=h.ff n u eM;rw [h1] at e;cases e;exact⟨u,rfl,h2⟩
theorem eU.put (h:eU Pr kvs M) {n:Int} {v:V} {u:α} (hv:Pr v u):eU Pr (putK kvs (Sum.inl n) v) (xW M n (some u)):=by
 refine⟨zf _ h.nd,h.iz.put n _,λ m e=>?_,λ m u' e=>?_⟩
 ·by_cases em:m=n
  ·subst em;rw [om] at e;cases e
  ·rw [oh em] at e;rw [eN,if_neg (λ z=>em (RW z))];exact h.none_ m e
 ·by_cases em:m=n
  ·subst em;rw [om] at e;cases e;exact⟨v,by rw [eN,if_pos rfl],hv⟩
  ·rw [oh em] at e;rw [eN,if_neg (λ z=>em (RW z))];exact h.ff m u' e
theorem eU.at_ (h:eU Pr kvs M) {i:Nat} {k:Key} {v:V} (e:kvs[i]? = some (k,v)):∃ n u,k=Sum.inl n /\ M n=some u /\ Pr v u /\ bg kvs (Sum.inl n)=some v:=by
 have hm:=QJ e
 obtain⟨n,hn⟩:=h.iz _ hm
 have hv:=rF h.nd (k:=k) (v:=v) hm
 rw [show k=Sum.inl n from hn] at hv
 obtain⟨u,h1,h2⟩:=h.has hv
 exact⟨n,u,hn,h1,h2,hv⟩
theorem eU.keys (h:eU Pr kvs M) {ns:List Int} (e:kvs.map (·.1)=ns.map Sum.inl) (n:Int):n ∈ ns ↔ (M n).isSome=true:=by
 have:n ∈ ns ↔ (bg kvs (Sum.inl n)).isSome=true:=by
  rw [Bh,e,QS]
  exact⟨λ h=>⟨n,h,rfl⟩,λ⟨y,h,z⟩=>by cases z;exact h⟩
 rw [this]
 cases eM:M n with
 | none=>rw [h.none_ n eM];simp
 | some u=>obtain⟨v,h1,_⟩:=h.ff n u eM;rw [h1];rfl
end
structure QA where
 wh:Bool
 b:Nat
 d:Nat
 rows:List (Nat × Nat)
 bits:Nat
structure PcU where
 wh:Bool
 b:Nat
 d:Nat
 rows:List (Nat × Nat)
 c:Int
def PcU.st (u:PcU):Int:=(stN u.wh u.b:Int) - 1
def PcU.good (u:PcU):Bool:=decide (u.c =(d8 u.wh u.b u.d u.rows:Nat))
def eW (CW CG:Addr) (H:Hp) (v:V) (u:PcU):Prop:=∃ a,v = .ref a /\ PAt CW CG H a u.wh u.b u.d u.rows u.c /\ u.rows.length ≤ 100
section
variable {CW CG:Addr} {H H':Hp} {F:List Addr} {v:V} {u:PcU}
theorem eW.ig (h:eW CW CG H v u) (k:aV F H H') (hF:d7 H F):eW CW CG H' v u:=let ⟨a,h1,h2,h3⟩:=h;⟨a,h1,h2.ig k hF,h3⟩
theorem eW.keep (h:eW CW CG H v u) (k:az H H'):eW CW CG H' v u:=let ⟨a,h1,h2,h3⟩:=h;⟨a,h1,h2.keep k,h3⟩
end
theorem zh:∀(rows:List (Nat × Nat)) (i p x:Nat),i < rows.length->∃ pre post:List Nat,(∀ y,flat (rows.set i (p,y))=pre ++ p :: y :: post) /\(∀ m ∈ pre,m ∈ flat rows) /\ ∀ m ∈ post,m ∈ flat rows
 | [],i,p,x,h=>by simp at h
 | r :: rs,0,p,x,_=>⟨[],flat rs,λ y=>rfl,λ m h=>(by cases h),λ m h=>by show m ∈ r.1 :: r.2 :: flat rs;simp [h]⟩
 | r :: rs,i + 1,p,x,h=>by
  obtain⟨pre,post,h1,h2,h3⟩:=zh rs i p x (by simpa using h)
  refine⟨r.1 :: r.2 :: pre,post,λ y=>?_,λ m hm=>?_,λ m hm=>?_⟩
  ·show r.1 :: r.2 :: flat (rs.set i (p,y))=_
   rw [h1];rfl
  ·show m ∈ r.1 :: r.2 :: flat rs
   rcases Rh.mp hm with h | hm
   ·simp [h]
   ·rcases Rh.mp hm with h | hm
    ·simp [h]
    ·simp [h2 m hm]
  ·show m ∈ r.1 :: r.2 :: flat rs
   simp [h3 m hm]
theorem Eb {wh:Bool} {b d:Nat} {rows:List (Nat × Nat)} {i p x y:Nat} (hi:rows[i]? = some (p,x)) (hb:stN wh b < 2 ^ 64) (hd:d < 2 ^ 64) (hr:∀ m ∈ flat rows,m < 2 ^ 64) (hy:y < 2 ^ 64) (hne:x ≠ y):d8 wh b d (rows.set i (p,y)) ≠ d8 wh b d rows:=by
 obtain⟨hil,hget⟩:=QE.mp hi
 obtain⟨pre,post,h1,h2,h3⟩:=zh rows i p x hil
 have e0:rows.set i (p,x)=rows:=by rw [← hget];exact List.set_getElem_self hil
 have hx:=h1 x
 rw [e0] at hx
 have hp:p < 2 ^ 64:=hr p (by rw [hx];simp)
 have hx64:x < 2 ^ 64:=hr x (by rw [hx];simp)
 intro h
 unfold d8 at h
 rw [h1 y,hx] at h
 have:=Chk.A3 (pre:=stN wh b :: d ::(pre ++ [p])) (post:=post) (x:=y) (y:=x) hy hx64 (λ m hm=>?_) (λ m hm=>hr m (h3 m hm)) (by simpa using h)
 ·exact hne this.symm
 ·rcases Rh.mp hm with rfl | hm
  ·exact hb
  ·rcases Rh.mp hm with rfl | hm
   ·exact hd
   ·rcases Ro.mp hm with hm | hm
    ·exact hr m (h2 m hm)
    ·rw [QZ.mp hm];exact hp
open PySem PySem.Spec PySem.Calls PyProof.Rows
abbrev jr (h:Heap) (e it:Addr) (i:Int) (item:Value) (a:Addr) (f:Bool):Prop :=
 h.get? e=some { cls:=.type "enumerate",dict:=none,data:=.fields #[rawInt a,.bool f,.ref it,rawInt i,.none,item],slots:=#[] }
section
variable {prog:Program} {w:World} {A:Around} {E:Value->Shared->Prop} {s:Shared}
theorem Cc {a:Addr} {o:Obj} {Q:Option Obj->Shared->Prop} (ho:s.heap.get? a=some o) (h:Q (some o) s):wpAny (model prog w) A (loadIfAlive a) Q E s:=by
 have h':Q (s.heap.get? a) s:=by rw [ho];exact h
 exact λ _ _ _=>h'
theorem zj {e it l a:Addr} {f:Bool} {oa:Obj} {i:Nat} {items:Array Value} {x item:Value} {Q:Option Value->Shared->Prop}
  (he:jr s.heap e it i item a f) (ha:s.heap.get? a=some oa) (hae:a ≠ e) (hai:a ≠ it) (hit:s.heap.IsListIter it l i) (hl:s.heap.IsList l items) (hx:items[i]? = some x) (hne:e ≠ it)
  (hQ:∀ h',jr h' e it ((i:Int) + 1) item a true->h'.IsListIter it l (i + 1)->h'.get? s.heap.objs.size=some { cls:=.type "tuple",data:=.seq #[.int i s.toks,x] }->h'.objs.size=s.heap.objs.size + 1 →
   (∀ b o,b ≠ e->b ≠ it->s.heap.get? b=some o->h'.get? b=some o)->Q (some (.ref s.heap.objs.size)) { s with heap:=h',toks:=s.toks + 1 }) :
  wpAny (model prog w) A (pyNext (.ref e)) Q E s:=by
 have hT:s.TypeIs (.ref e) "enumerate":=⟨_,he,rfl⟩
 unfold pyNext
 refine QB (Vx (Sv (name:=Str.ofString "__next__") hT SK
  (Sz SK hT Ur ?_ (Ui _))))
 obtain⟨hp,g,d,tk,os⟩:=s
 show wpAny _ _ (field (.ref e) 2 >>= _) _ _ _
 refine QB (RI he rfl (x:=.ref it) rfl ?_)
 refine QB (Vc hit hl hx λ h₁ hit₁ hs₁=>?_)
 replace hs₁:Heap.SameBut it hp h₁:=hs₁
 have he₁:jr h₁ e it i item a f:=(hs₁.2 e hne).trans he
 show wpAny _ _ (field (.ref e) 3 >>= _) _ _ ⟨h₁,g,d,tk,os⟩
 refine QB (RI he₁ rfl (x:=rawInt i) rfl ?_)
 show wpAny _ _ (field (.ref e) 4 >>= _) _ _ ⟨h₁,g,d,tk,os⟩
 refine QB (RI he₁ rfl (x:=.none) rfl ?_)
 show wpAny _ _ (mkInt i >>= _) _ _ ⟨h₁,g,d,tk,os⟩
 refine QB (wpAny_mkInt ?_)
 show wpAny _ _ (setField (.ref e) 3 (rawInt ((i:Int) + 1)) >>= _) _ _ ⟨h₁,g,d,tk + 1,os⟩
 refine QB (Uu he₁ (by simp) λ h₂ he₂ hs₂=>?_)
 replace hs₂:Heap.SameBut e h₁ h₂:=hs₂
 replace he₂:jr h₂ e it ((i:Int) + 1) item a f:=he₂
 show wpAny _ _ (setField (.ref e) 4 .none >>= _) _ _ ⟨h₂,g,d,tk + 1,os⟩
 refine QB (Uu he₂ (by simp) λ h₃ he₃ hs₃=>?_)
 replace hs₃:Heap.SameBut e h₂ h₃:=hs₃
 replace he₃:jr h₃ e it ((i:Int) + 1) item a f:=he₃
 show wpAny _ _ (newTuple [.int i tk,x] >>= _) _ _ ⟨h₃,g,d,tk + 1,os⟩
 refine QB (wpAny_newTuple ?_)
 have he₄:jr (h₃.push { cls:=.type "tuple",data:=.seq #[.int i tk,x] }) e it ((i:Int) + 1) item a f:=QD _ he₃
 generalize hh₄:h₃.push { cls:=.type "tuple",data:=.seq #[.int i tk,x] } = h₄ at he₄
 have hsz:h₃.objs.size=hp.objs.size:=by rw [hs₃.1,hs₂.1,hs₁.1]
 have hel:e < hp.objs.size:=QF he
 have ht₄:h₄.get? hp.objs.size=some { cls:=.type "tuple",data:=.seq #[.int i tk,x] }:=by rw [← hh₄,← hsz];exact QU _ rfl
 have hz₄:h₄.objs.size=hp.objs.size + 1:=by rw [← hh₄,Sy,hsz]
 have hk₄:∀ b o,b ≠ e->b ≠ it->hp.get? b=some o->h₄.get? b=some o:=λ b o hbe hbi hb=>by
  rw [← hh₄];exact QD _ (hs₃.extBut b o hbe (hs₂.extBut b o hbe (hs₁.extBut b o hbi hb)))
 have hit₄:h₄.IsListIter it l (i + 1):=by
  rw [← hh₄];obtain⟨o,ho,r⟩:=(hit₁.extBut hs₂.extBut (RJ hne)).extBut hs₃.extBut (RJ hne);exact⟨o,QD _ ho,r⟩
 show wpAny _ _ (Builtin.SmallTypes.ownedTupleIsFree (.ref e) >>= _) _ _ ⟨h₄,g,d,tk + 1,os⟩
 rw [hsz]
 clear hh₄ he₃ hs₃ he₂ hs₂ he₁ hs₁ hit₁ hsz h₃ h₂ h₁
 have ha₄:h₄.get? a=some oa:=hk₄ a oa hae hai ha
 refine QB ?_
 unfold Builtin.SmallTypes.ownedTupleIsFree
 refine QB (RI he₄ rfl (x:=rawInt a) rfl ?_)
 show wpAny _ _ (loadIfAlive ((a:Int).toNat) >>= _) _ _ _
 rw [Uz]
 refine QB (Cc ha₄ ?_)
 simp only [Option.isNone_some,Bool.false_eq_true,if_false]
 refine QB (RI he₄ rfl (x:=.bool f) rfl ?_)
 have fin:∀ h₅:Heap,jr h₅ e it ((i:Int) + 1) item a true->Heap.SameBut e h₄ h₅->Q (some (.ref hp.objs.size)) ⟨h₅,g,d,tk + 1,os⟩:=λ h₅ he₅ hs₅ =>
  hQ h₅ he₅ (hit₄.extBut hs₅.extBut (RJ hne)) (hs₅.extBut _ _ (Ry hel) ht₄) (by show h₅.objs.size=hp.objs.size + 1;rw [hs₅.1,hz₄]) λ b o hb hi e=>hs₅.extBut b o hb (hk₄ b o hb hi e)
 cases f with
 | true =>
  rw [if_neg (show ¬((Value.bool true != Value.bool true)=true) from QV)]
  refine QI ?_
  simp only [Bool.false_eq_true,if_false]
  exact QI ⟨_,rfl,QI (fin h₄ he₄ (Heap.SameBut.refl _ _))⟩
 | false =>
  rw [if_pos (show(Value.bool false != Value.bool true)=true from rfl)]
  refine QB (Uu he₄ (by simp) λ h₅ he₅ hs₅=>?_)
  replace hs₅:Heap.SameBut e h₄ h₅:=hs₅
  replace he₅:jr h₅ e it ((i:Int) + 1) item a true:=he₅
  refine QI ?_
  simp only [Bool.false_eq_true,if_false]
  exact QI ⟨_,rfl,QI (fin h₅ he₅ hs₅)⟩
theorem zV {e it l a:Addr} {f:Bool} {i:Nat} {items:Array Value} {item:Value} {Q:Option Value->Shared->Prop} (hh:A.handled=none)
  (he:jr s.heap e it i item a f) (hit:s.heap.IsListIter it l i) (hl:s.heap.IsList l items) (hx:items[i]? = none)
  (hQ:∀ h',Heap.ExtBut it s.heap h'->Q none { s with heap:=h' }):wpAny (model prog w) A (pyNext (.ref e)) Q E s:=by
 have hT:s.TypeIs (.ref e) "enumerate":=⟨_,he,rfl⟩
 unfold pyNext
 refine QB (Vx (Sv (name:=Str.ofString "__next__") hT SK
  (Sz SK hT Ur ?_ (Ui _))))
 show wpAny _ _ (field (.ref e) 2 >>= _) _ _ _
 refine QB (RI he rfl (x:=.ref it) rfl ?_)
 refine QB (Vk hh hit hl hx λ h' x he' hx'=>?_)
 obtain⟨o,ho,hc⟩:=hx'
 refine QB (wpAny_isInstance (T:="StopIteration") (b:=true) ⟨o,ho,hc⟩ isSubtype_stop ?_)
 exact QI (hQ _ he')
theorem BO:typeLookup (.type "enumerate") "__len__" = pure none:=by rw [U5,T9];kernel_rfl
theorem Be:typeLookup (.type "enumerate") "__length_hint__" = pure none:=by rw [U5,T9];kernel_rfl
def AM (h:Heap) (e it:Addr) (i:Nat) (Pa:Addr->Prop):Prop:=(i=0 /\ IsEnum h e it 0 .none) ∨ ∃ item a f oa,jr h e it i item a f /\ h.get? a=some oa /\ a ≠ e /\ a ≠ it /\ Pa a
theorem DQ {e it l:Addr} {i:Nat} {items:Array Value} {x:Value} {Pa:Addr->Prop} {Q:Option Value->Shared->Prop}
  (st:AM s.heap e it i Pa) (hit:s.heap.IsListIter it l i) (hl:s.heap.IsList l items) (hx:items[i]? = some x) (hne:e ≠ it)
  (hQ:∀ h' item a f,jr h' e it ((i:Int) + 1) item a f->((i=0 /\ a=s.heap.objs.size) ∨ Pa a)->h'.IsListIter it l (i + 1)->h'.get? s.heap.objs.size=some { cls:=.type "tuple",data:=.seq #[.int i s.toks,x] }->h'.objs.size=s.heap.objs.size + 1 →
   (∀ b o,b ≠ e->b ≠ it->s.heap.get? b=some o->h'.get? b=some o)->Q (some (.ref s.heap.objs.size)) { s with heap:=h',toks:=s.toks + 1 }) :
  wpAny (model prog w) A (pyNext (.ref e)) Q E s:=by
 rcases st with⟨rfl,he⟩ |⟨item,a,f,oa,he,ha,hae,hai,pa⟩
 ·exact wpAny_pyNext_enum_item (i:=0) he hit hl hx hne λ h' a b c d k=>hQ h' x _ false a (.inl ⟨rfl,rfl⟩) b c d k
 ·exact zj he ha hae hai hit hl hx hne λ h' a b c d k=>hQ h' item _ true a (.inr pa) b c d k
theorem Dj {e it l:Addr} {i:Nat} {items:Array Value} {Pa:Addr->Prop} {Q:Option Value->Shared->Prop} (hh:A.handled=none)
  (st:AM s.heap e it i Pa) (hit:s.heap.IsListIter it l i) (hl:s.heap.IsList l items) (hx:items[i]? = none)
  (hQ:∀ h',Heap.ExtBut it s.heap h'->Q none { s with heap:=h' }):wpAny (model prog w) A (pyNext (.ref e)) Q E s:=by
 rcases st with⟨rfl,he⟩ |⟨item,a,f,oa,he,ha,hae,hai,pa⟩
 ·exact wpAny_pyNext_enum_end (i:=0) hh he hit hl hx hQ
 ·exact zV hh he hit hl hx hQ
end
theorem nC {a b:Nat} (h:a < b ∨ b < a):a ≠ b:=by omega
def EnL (H0 H:Hp) (xs:List V) (ts:List Addr):Prop:=∀(j:Nat) (t:Addr),ts[j]? = some t->H0 t=none /\ ∃ x,xs[j]? = some x /\ H t=some (.tup [.int (j:Int),x])
theorem DJ {X:Cx} {pins:List (Addr × Obj)} {σ:St} {A:Around} (hh:A.handled=none) {S e it l:Addr} {xs:List V} {us:List Value} (rv:Vals xs us) (hei:e ≠ it) (hle:l ≠ e) (hli:l ≠ it) (hSe:S ≠ e) (hSi:S ≠ it) (hSl:l ≠ S) (hz:xs.length ≤ sizeLine) (res:Value) {R:Result->Shared->Prop} {H0:Hp}
  (hR:∀ H' s' ts,Inv X pins σ H' s'->(∀ b o,b ≠ S->H0 b=some o->H' b=some o)->ts.length=xs.length->H' S=some (.lst (ts.map V.ref))->EnL H0 H' xs ts->R (.ok (.ret res)) s') :
  ∀(k i:Nat) (H:Hp) (s:Shared) (ts:List Addr),xs.length - i=k->i ≤ xs.length->Inv X pins σ H s->fu X pins H e->fu X pins H it->AM s.heap e it i (λ a=>ts[0]? = some a)->s.heap.IsListIter it l i->s.heap.IsList l us.toArray->(∀ b o,b ≠ S->H0 b=some o->H b=some o)->H S=some (.lst (ts.map V.ref))->ts.length=i->EnL H0 H xs ts →
   codeAny (model X.prog X.w) A (.builtin "list.extend.loop" ⟨[.ref S,.ref e,res],[]⟩) R s:=by
 intro k
 induction k with
 | zero =>
  intro i H s ts hk hi I fe fi st hit hl hkp hS hal hE
  have hnone:us.toArray[i]? = none:=by have:=rv.length;simp;omega
  refine Uh UJ ?_
  rw [Tt TJ _]
  show wpAny _ A.in1 (pyNext (.ref e) >>= _) _ _ s
  refine QB (Dj (A:=A.in1) hh st hit hl hnone λ h' ex=>?_)
  refine QI (hR H _ ts (I.uS (t':=s.toks) (ch:=[it]) (λ b o hb q=>ex b o (by simpa using hb) q) λ b hb=>?_) hkp (by omega) hS hE)
  have e1:b=it:=by simpa using hb
  rw [e1];exact fi
 | succ k ih =>
  intro i H s ts hk hi I fe fi st hit hl hkp hS hal hE
  have hlt:i < xs.length:=by omega
  obtain⟨x,hx⟩:∃ x,xs[i]? = some x:=⟨_,QC hlt⟩
  obtain⟨u,eu,ru⟩:=Vals.get rv hx
  have eu':us.toArray[i]? = some u:=by simpa using eu
  refine Uh UJ ?_
  rw [Tt TJ _]
  show wpAny _ A.in1 (pyNext (.ref e) >>= _) _ _ s
  refine QB (DQ (A:=A.in1) st hit hl eu' hei λ h' item a f hk' hpa hit' ht hsz kk=>?_)
  have nT:H s.heap.objs.size=none:=I.hok.fresh (QH _)
  have I2:Inv X pins σ (upd H s.heap.objs.size (.tup [.int (i:Int),x])) { s with heap:=h',toks:=s.toks + 1 } :=
   I.uY (ch:=[e,it]) (λ b o hb q=>by
    simp only [List.mem_cons,List.not_mem_nil,or_false,not_or] at hb
    exact kk b o hb.1 hb.2 q) (λ b hb=>by
    simp only [List.mem_cons,List.not_mem_nil,or_false] at hb
    rcases hb with rfl | rfl
    ·exact fe
    ·exact fi) (QH _) ⟨by show 2 ≤ sizeLine;decide,[Value.int (i:Int) s.toks,u],.cons ⟨s.toks,rfl⟩ (.cons ru .nil),⟨_,ht,rfl,0,rfl⟩⟩
  have nST:S ≠ s.heap.objs.size:=aj hS nT
  have hS2:upd H s.heap.objs.size (.tup [.int (i:Int),x]) S=some (.lst (ts.map V.ref)):=by rw [af nST];exact hS
  obtain⟨_,its,n,rS,lS,eS⟩:=I2.qG hS2
  have hil:its.length=i:=by rw [← lS,QG,hal]
  have I3:=I2.Bj (t':=s.toks + 1) hS2 eS (f:=(·.push (Value.ref s.heap.objs.size))) (its':=its ++ [Value.ref s.heap.objs.size]) (ys:=(ts ++ [s.heap.objs.size]).map V.ref) (by simp) (by rw [RL];exact Vals.append rS (.cons rfl .nil)) (by rw [QG,Rj,hal];show i + 1 ≤ sizeLine;omega)
  have up:∀ b o,b ≠ S->h'.get? b=some o->(h'.update S (Obj.mapSeq (·.push (Value.ref s.heap.objs.size)))).get? b=some o:=λ b o hb e=>(RC _ _ (RJ hb)).trans e
  have elt:e < s.heap.objs.size:=by
   rcases st with⟨_,he⟩ |⟨_,_,_,_,he,_⟩
   ·exact QF he
   ·exact QF he
  have ilt:it < s.heap.objs.size:=by obtain⟨o,ho,_⟩:=hit;exact QF ho
  have old:∀ b,b < s.heap.objs.size->b ≠ S->upd (upd H s.heap.objs.size (.tup [.int (i:Int),x])) S (.lst ((ts ++ [s.heap.objs.size]).map V.ref)) b=H b:=λ b hb hs=>by
   rw [af hs,af (QN hb)]
  have hT3:upd (upd H s.heap.objs.size (.tup [.int (i:Int),x])) S (.lst ((ts ++ [s.heap.objs.size]).map V.ref)) s.heap.objs.size=some (.tup [.int (i:Int),x]):=by rw [af nST.symm,ak]
  have old':∀ b o,b ≠ S->H b=some o->upd (upd H s.heap.objs.size (.tup [.int (i:Int),x])) S (.lst ((ts ++ [s.heap.objs.size]).map V.ref)) b=some o:=λ b o hb eb=>by rw [af hb,af (aj eb nT)];exact eb
  have h0T:H0 s.heap.objs.size=none:=by
   cases z:H0 s.heap.objs.size with
   | none=>rfl
   | some o=>have:=hkp _ _ nST.symm z;rw [nT] at this;cases this
  show wpAny _ A.in1 (updateSeq S (·.push (Value.ref s.heap.objs.size)) >>= _) _ _ _
  refine QB (U6 eS rfl (QI ⟨Vz TJ _,ih (i + 1) _ _ (ts ++ [s.heap.objs.size]) (by omega) hlt I3 ⟨(old e elt hSe.symm).trans fe.1,fe.2⟩ ⟨(old it ilt hSi.symm).trans fi.1,fi.2⟩ (.inr ?_) (by
   obtain⟨o,ho,r⟩:=hit'
   exact⟨o,up it o hSi.symm ho,r⟩) (by
   obtain⟨o,ho,r⟩:=hl
   exact⟨o,up l o hSl (kk l o hle hli ho),r⟩) (λ b o hb eb=>old' b o hb (hkp b o hb eb)) ak (by rw [Rj,hal];rfl) λ j t ej=>?_⟩) (by rw [QO,hil];omega) (by show(its.toArray.push _).size ≤ sizeLine + 1;rw [Array.size_push,QO,hil];omega))
  ·have first:(ts ++ [s.heap.objs.size])[0]? = some a:=by
    rcases hpa with⟨rfl,rfl⟩ | ha
    ·have:ts = []:=List.eq_nil_of_length_eq_zero hal
     rw [this];rfl
    ·have:0 < ts.length:=(QE.mp ha).1
     rw [QW this];exact ha
   have live:∃ oa,(h'.update S (Obj.mapSeq (·.push (Value.ref s.heap.objs.size)))).get? a=some oa /\ a ≠ e /\ a ≠ it:=by
    rcases hpa with⟨_,rfl⟩ | ha
    ·exact⟨_,up _ _ nST.symm ht,Ry elt,Ry ilt⟩
    ·obtain⟨_,y,_,hy⟩:=hE 0 a ha
     have aS:a ≠ S:=λ z=>by rw [z,hS] at hy;cases hy
     obtain⟨_,its',_,o,ho,_⟩:=I3.hok a _ (old' a _ aS hy)
     exact⟨o,ho,aj hy fe.1,aj hy fi.1⟩
   obtain⟨oa,l1,l2,l3⟩:=live
   refine⟨item,a,f,oa,?_,l1,l2,l3,first⟩
   have e2:((i + 1:Nat):Int) =(i:Int) + 1:=by omega
   rw [e2]
   exact up e _ hSe.symm hk'
  ·rcases Nat.lt_trichotomy j ts.length with h1 | h1 | h1
   ·rw [QW h1] at ej
    obtain⟨a1,y,a2,a3⟩:=hE j t ej
    have tS:t ≠ S:=λ z=>by rw [z,hS] at a3;cases a3
    exact⟨a1,y,a2,old' t _ tS a3⟩
   ·subst h1
    have ej:s.heap.objs.size=t:=by simpa using ej
    subst ej
    refine⟨h0T,x,by rw [hal];exact hx,?_⟩
    rw [hal];exact hT3
   ·have hnone:(ts ++ [s.heap.objs.size])[j]? = none:=Rx (by rw [Rj,Vg];omega)
    rw [hnone] at ej;cases ej
section
variable {X:Cx}
def NL (K:Frag) (te:TE):TE:=λ σ H Q=>te σ H λ v H1=>∃(l:Addr) (xs:List V),v = .ref l /\ SqL K H1 l xs /\ ∀(r:Addr) (ts:List Addr) (H2:Hp),H1 r=none->az H1 H2->ts.length=xs.length->H2 r=some (.lst (ts.map V.ref))->EnL H1 H2 xs ts->Q (.ref r) H2
theorem sU {e:Expr} {te:TE} {p1 p2 pos1 pos2:Pos} (hc:X.calm=true) (hg1:Gl X "list") (hm1:X.mg "list" = none) (hg2:Gl X "enumerate") (hm2:X.mg "enumerate" = none) (he:PE X e te)
  (hs1:starEach [Expr.Call (.Name "enumerate" p2) [e] [] pos2] X.env = [(false,eval (Expr.Call (.Name "enumerate" p2) [e] [] pos2) X.env)]:=by rfl) (hs2:starEach [e] X.env = [(false,eval e X.env)]:=by rfl) :
  PE X (.Call (.Name "list" p1) [.Call (.Name "enumerate" p2) [e] [] pos2] [] pos1) (NL X.K te):=by
 intro pins s σ H Q I h
 refine Rv (iQ I hg1 hm1 boot_list ?_)
 refine RD ?_ hs1 rfl
 rw [hs1]
 show wpAny _ _ (spliced ((false,eval (Expr.Call (.Name "enumerate" p2) [e] [] pos2) X.env) :: backTo pos1 [])) _ _ s
 refine RE ?_
 refine Rv (iQ I hg2 hm2 boot_enumerate ?_)
 refine RD ?_ hs2 rfl
 rw [hs2]
 show wpAny _ _ (spliced ((false,eval e X.env) :: backTo pos2 [])) _ _ s
 refine RE (thn (he pins s σ H _ I h) λ u s1 ⟨x,H1,I1,r1,q1⟩=>?_)
 obtain⟨l,xs,rfl,hl,q⟩:=q1
 cases r1
 refine RN ?_
 obtain⟨us,rv,pl,hz⟩:=I1.list hl
 have ll:l < s1.heap.objs.size:=by obtain⟨o,ho,_⟩:=pl.isList;exact QF ho
 refine call_enumerate_list pl.isList λ h' z1 z2 zs kk=>?_
 refine RN ?_
 have I2:Inv X pins σ H1 { s1 with heap:=h',toks:=s1.toks }:=I1.kept kk
 have fe:fu X pins H1 (s1.heap.objs.size + 1):=I1.ny (Sf _) (I1.hok.fresh (Sf _))
 have fi:fu X pins H1 s1.heap.objs.size:=I1.ny (QH _) (I1.hok.fresh (QH _))
 have hl':h'.IsList l us.toArray:=by obtain⟨o,ho,r⟩:=pl.isList;exact⟨o,kk l o ho,r⟩
 obtain⟨e0,he0⟩:∃ e0,s1.heap.objs.size + 1=e0:=⟨_,rfl⟩
 rw [he0] at z1 fe ⊢
 obtain⟨i0,hi0⟩:∃ i0,s1.heap.objs.size=i0:=⟨_,rfl⟩
 rw [hi0] at z1 z2 fi he0 zs ll
 have hS0:h'.objs.size=i0 + 2:=zs
 refine Vl VH (U1 _) U3 (code_list_new (.ref e0) (Q₁:=λ obj s₁=>obj = .ref h'.objs.size /\ s₁ = { s1 with heap:=h'.push { cls:=.type "list",dict:=none,data:=.seq #[] 0,slots:=#[] } }) ⟨rfl,rfl⟩) λ obj s₁ hq=>?_
 obtain⟨h1,h2⟩:=hq
 subst h1 h2
 have hS:(h'.push { cls:=.type "list",dict:=none,data:=.seq #[] 0,slots:=#[] }).get? h'.objs.size=some { cls:=.type "list",dict:=none,data:=.seq #[] 0,slots:=#[] }:=QU _ rfl
 refine⟨⟨_,hS,rfl⟩,UT _ _,?_⟩
 unfold Builtin.«list.__init__»
 generalize hX:Builtin.List.listExtendWith=XX
 wp_walk
 subst hX
 have hS2:((h'.push { cls:=.type "list",dict:=none,data:=.seq #[] 0,slots:=#[] }).update h'.objs.size (Obj.mapSeq λ x=>#[])).get? h'.objs.size=some { cls:=.type "list",dict:=none,data:=.seq #[] 0,slots:=#[] }:=RG _ hS rfl
 have kp:∀ b o,h'.get? b=some o->((h'.push { cls:=.type "list",dict:=none,data:=.seq #[] 0,slots:=#[] }).update h'.objs.size (Obj.mapSeq λ x=>#[])).get? b=some o:=λ b o e=>Vd _ (Ry (QF e)) (QD _ e)
 generalize (h'.push { cls:=.type "list",dict:=none,data:=.seq #[] 0,slots:=#[] }).update h'.objs.size (Obj.mapSeq λ x=>#[])=h2 at hS2 kp ⊢
 obtain⟨S,hSn⟩:∃ S,h'.objs.size=S:=⟨_,rfl⟩
 rw [hSn] at hS2 hS0 ⊢
 have e2:IsEnum h2 e0 i0 0 .none:=kp _ _ z1
 have hT:Shared.TypeIs { s1 with heap:=h2 } (.ref e0) "enumerate":=⟨_,e2,rfl⟩
 unfold Builtin.List.listExtendWith
 refine QB (Ub hT ?_)
 have hsr:Builtin.List.listSameRef (Value.ref S) (Value.ref e0)=false:=by
  unfold Builtin.List.listSameRef
  simp
  exact nC (by omega)
 refine Sq (λ hab=>absurd hab (by rw [hsr];decide)) (λ _=>?_)
 refine QB (UC (s:={ s1 with heap:=h2 }) e2 ?_)
 refine QB (RK ?_)
 unfold Builtin.List.listLengthHint
 refine QB (TF hT BO ?_)
 show wpAny _ _ (specialOf (Value.ref e0) (Str.ofString "__length_hint__") >>= _) _ _ _
 refine QB (TF hT Be ?_)
 refine QI ?_
 show wpAny _ _ (rule "list.extend.makes-room" >>= λ _=>Builtin.List.listTouch (.ref S) >>= λ _ =>
  again (.builtin "list.extend.loop" ⟨[.ref S,.ref e0,_],[]⟩)) _ _ _
 refine QB (wpAny_rule ?_)
 refine QB ?_
 show wpAny _ _ (updateSeq S (·.push .none) >>= λ _=>updateSeq S (·.pop)) _ _ _
 refine QB (U6 hS2 rfl ?_)
 have hS3:=RG (Obj.mapSeq (·.push Value.none)) hS2 rfl
 refine U6 hS3 rfl ?_
 have hS4:=RG (Obj.mapSeq (·.pop)) hS3 rfl
 have kp4:∀ b o,h'.get? b=some o->((h2.update S (Obj.mapSeq (·.push Value.none))).update S (Obj.mapSeq (·.pop))).get? b=some o:=λ b o e=>by
  have hb:S ≠ b:=nC (by have hb:@LT.lt Nat _ b h'.objs.size:=QF e;have hs:h'.objs.size=S:=hSn;omega)
  exact(RC _ _ hb).trans ((RC _ _ hb).trans (kp b o e))
 generalize (h2.update S (Obj.mapSeq (·.push Value.none))).update S (Obj.mapSeq (·.pop))=h4 at hS4 kp4 ⊢
 have hlen:=rv.length
 have nS:H1 S=none:=I2.hok.fresh (by show h'.objs.size ≤ S;omega)
 have I4:Inv X pins σ (upd H1 S (.lst [])) { s1 with heap:=h4,toks:=s1.toks }:=I2.laid (t':=s1.toks) (h':=h4) kp4 (by show h'.objs.size ≤ S;omega) ⟨Rm _,[],_,.nil,hS4⟩
 have hh:X.A.handled=none:=I1.ok.hd hc
 have ll':@LT.lt Nat _ l i0:=ll
 refine QI ⟨SI _ (by decide +kernel),DJ (X:=X) (pins:=pins) (σ:=σ) (H0:=upd H1 S (.lst [])) (by simp [hh]) rv (S:=S) (e:=e0) (it:=i0) (l:=l) (nC (by omega)) (nC (by omega)) (nC (by omega)) (nC (by omega)) (nC (by omega)) (nC (by omega)) hz _ (λ H' s' ts I' k' tl hS' hE=>?_) xs.length 0 (upd H1 S (.lst [])) _ [] (by omega) (Rm _) I4 ⟨by rw [af (nC (by omega))];exact fe.1,fe.2⟩ ⟨by rw [af (nC (by omega))];exact fi.1,fi.2⟩ (.inl ⟨rfl,kp4 _ _ z1⟩) (by
  obtain⟨o,ho,r⟩:=z2
  exact⟨o,kp4 _ _ ho,r⟩) (by
  obtain⟨o,ho,r⟩:=hl'
  exact⟨o,kp4 _ _ ho,r⟩) (λ b o _ e=>e) ak rfl (λ j t e=>by simp at e)⟩
 refine⟨rfl,.ref S,H',I',rfl,q S ts H' nS (λ b o eb=>k' b o (aj eb nS) (by rw [af (aj eb nS)];exact eb)) tl hS' λ j t ej=>?_⟩
 obtain⟨a1,a2⟩:=hE j t ej
 refine⟨?_,a2⟩
 by_cases ht:t=S
 ·rw [ht,ak] at a1;cases a1
 ·rw [af ht] at a1;exact a1
end
open PySem PySem.Spec PyProof.Rows Builtin Builtin.Str
section
variable {c:Int} (h0:0 ≤ c) (h1:c < 10 ^ 20)
include h0 h1
end
def jV (cs:List Addr) (H:Hp):Hp:=λ b=>if b ∈ cs then none else H b
def glue (cs:List Addr) (H H':Hp):Hp:=λ b=>if b ∈ cs then H b else H' b
section
variable {cs:List Addr} {H H':Hp} {b:Addr} {P:Program} {w:World} {h h':Heap} {fs ex:List Addr}
theorem uO (hb:b ∈ cs):jV cs H b=none:=if_pos hb
theorem dB (hb:b ∉ cs):jV cs H b=H b:=if_neg hb
theorem AK (hb:b ∈ cs):glue cs H H' b=H b:=if_pos hb
theorem iA (hb:b ∉ cs):glue cs H H' b=H' b:=if_neg hb
theorem Dw:glue cs H (jV cs H)=H:=by
 funext b
 by_cases hb:b ∈ cs
 ·rw [AK hb]
 ·rw [iA hb,dB hb]
def iV (cs:List Addr) (H:Hp):Prop:=∀ c ∈ cs,∃ φ,H c=some (.ext φ)
theorem iV.out (hc:iV cs H) {u:HO} (e:H b=some u) (hu:∀ φ,u ≠ .ext φ):b ∉ cs:=λ hb=>by
 obtain⟨φ,q⟩:=hc b hb
 rw [q] at e
 exact hu φ (Rc e).symm
theorem iV.none (hc:iV cs H) (e:H b=none):b ∉ cs:=λ hb=>by
 obtain⟨φ,q⟩:=hc b hb
 rw [q] at e;cases e
theorem HOk.cut (x:HOk P w H h) (hc:iV cs H):HOk P w (jV cs H) h:=λ a o e=>by
 have ha:a ∉ cs:=λ z=>by rw [uO z] at e;cases e
 rw [dB ha] at e
 exact(x a o e).stay (λ _ _ _ q=>q) (λ b q=>by rw [dB (hc.out q (by intro φ z;cases z))];exact q) (λ b xs q=>by rw [dB (hc.out q (by intro φ z;cases z))];exact q)
theorem HOk.glue (x:HOk P w H' h') (x0:HOk P w H h) (hc:iV cs H) (hf:∀ c ∈ cs,H' c=none) (k:∀ c ∈ cs,∀ o,h.get? c=some o->h'.get? c=some o):HOk P w (glue cs H H') h':=λ a o e=>by
 by_cases ha:a ∈ cs
 ·rw [AK ha] at e
  obtain⟨φ,q⟩:=hc a ha
  rw [q] at e;cases e
  obtain⟨p,⟨o,e⟩,st⟩:=x0 a _ q
  exact⟨st _ _ p (λ o q=>k a ha o q),⟨o,k a ha o e⟩,st⟩
 ·rw [iA ha] at e
  have out:∀ {b u},H' b=some u->b ∉ cs:=λ q hb=>by rw [hf _ hb] at q;cases q
  exact(x a o e).stay (λ _ _ _ q=>q) (λ b q=>by rw [iA (out q)];exact q) (λ b xs q=>by rw [iA (out q)];exact q)
theorem Un.glue (u:Un fs ex (jV cs H) H' h h') (hc:iV cs H):Un fs ex H (glue cs H H') h h' where
 keep:=λ b o e n hb hx=>u.keep b o e (by rw [dB (hc.none n)];exact n) hb hx
 slot:=λ b o e n hb hx=>u.slot b o e (by rw [dB (hc.none n)];exact n) hb hx
 free:=λ b o e n hx=>by rw [iA (hc.none n)];exact u.free b o e (by rw [dB (hc.none n)];exact n) hx
 there:=u.there
 tups:=λ b xs q=>by
  have ho:=hc.out q (by intro φ z;cases z)
  rw [iA ho];exact u.tups b xs (by rw [dB ho];exact q)
 gb:=λ b o v q=>by
  have ho:=hc.out q (by intro φ z;cases z)
  rw [iA ho];exact u.gb b o v (by rw [dB ho];exact q)
 g9:=λ b ps q=>by
  have ho:=hc.out q (by intro φ z;cases z)
  rw [iA ho];exact u.g9 b ps (by rw [dB ho];exact q)
end
def lu (c:Addr) (v:V):HO:=.ext λ h=>∃ u,RelV v u /\ h.IsCell c (some u)
def FnO (f:Addr) (fd:FuncData):HO:=.ext λ h=>∃ oc od sl,h.get? f=some ⟨oc,od,.func fd,sl⟩
def m6 (c:Addr) (qual:Str):HO:=.ext λ h=>h.CodeRec (.ref c) qual
section
variable {P:Program} {w:World} {H:Hp} {h:Heap} {c f:Addr} {v:V} {fd:FuncData} {qual:Str}
theorem lu.mk {u:Value} (r:RelV v u) (e:h.IsCell c (some u)):bB P w H h c (lu c v):=by
 obtain⟨o,e1,e2⟩:=e
 exact⟨⟨u,r,o,e1,e2⟩,⟨o,e1⟩,λ h1 h2 ⟨u,r,o,q1,q2⟩ k=>⟨u,r,o,k o q1,q2⟩⟩
theorem FnO.mk {oc:Value} {od:Option Addr} {sl:Array (Option Value)} (e:h.get? f=some ⟨oc,od,.func fd,sl⟩):bB P w H h f (FnO f fd) :=
 ⟨⟨oc,od,sl,e⟩,⟨_,e⟩,λ h1 h2 ⟨oc,od,sl,q⟩ k=>⟨oc,od,sl,k _ q⟩⟩
theorem m6.mk (e:h.CodeRec (.ref c) qual):bB P w H h c (m6 c qual):=by
 obtain⟨c',o,vs,t,e0,e1,e2⟩:=e
 cases e0
 exact⟨⟨c,o,vs,t,rfl,e1,e2⟩,⟨o,e1⟩,λ h1 h2 ⟨c',o,vs,t,e0,q1,q2⟩ k=>by cases e0;exact⟨c,o,vs,t,rfl,k _ q1,q2⟩⟩
end
def n9 (H:Hp) (cl:List (Str × Addr)) (fvs:List V):Prop:=cl.length=fvs.length /\ ∀(i:Nat) x c v,cl[i]? = some (x,c)->fvs[i]? = some v->H c=some (lu c v)
def cellsOf (cl:List (Str × Addr)):List Addr:=cl.map (·.2)
theorem n9.ext {H:Hp} {cl:List (Str × Addr)} {fvs:List V} (h:n9 H cl fvs):iV (cellsOf cl) H:=λ c hc=>by
 obtain⟨q,hq,rfl⟩:=QS.mp hc
 obtain⟨i,hi⟩:=R0.mp hq
 have hl:=(QE.mp hi).1
 rw [h.1] at hl
 exact⟨_,h.2 i q.1 q.2 _ hi (QC hl)⟩
theorem lQ {α:Type}:∀ {l:List (Str × α)} {i:Nat} {x:Str} {c:α},(l.map (·.1)).Nodup->l[i]? = some (x,c)->l.lookup x=some c
 | [],i,x,c,_,h=>by simp at h
 |(y,d) :: r,0,x,c,_,h=>by
  cases h
  rw [QM,beq_self_eq_true]
 |(y,d) :: r,i + 1,x,c,nd,h=>by
  rw [Rk,Rz] at nd
  have h:r[i]? = some (x,c):=h
  have hx:(x == y)=false:=by
   rw [Sb]
   rintro rfl
   exact nd.1 (QS.mpr ⟨(x,c),QJ h,rfl⟩)
  rw [QM,hx]
  exact lQ nd.2 h
theorem lookup_at {α:Type}:∀ {l:List (Str × α)} {x:Str} {c:α},l.lookup x=some c->∃ i:Nat,l[i]? = some (x,c)
 | [],x,c,h=>by cases h
 |(y,d) :: r,x,c,h=>by
  rw [QM] at h
  cases hb:x == y with
  | true=>rw [hb] at h;cases h;rw [eq_of_beq hb];exact⟨0,rfl⟩
  | false=>rw [hb] at h;obtain⟨i,hi⟩:=lookup_at h;exact⟨i + 1,hi⟩
structure vN (x0:Str) (fr:List Str) (sc:Scope):Prop where
 kind:sc.kind = .function
 co:sc.isCoroutine=false
 gen:sc.isGenerator=false
 nd:fr.Nodup
 par:sc.names.lookup x0 = some .local
 qZ:∀ y ∈ sc.names,y.2 ≠ .cell
 Jw:∀ x ∈ fr,sc.names.lookup x=some .free
 fre:∀ y ∈ sc.names,y.2 = .free->y.1 ∈ fr
def yY (P:Program) (w:World) (K:Frag) (mg:Str->Option Value) (base:Heap) (N:List Str) (qual:Str) (scope:Scope) (f:Addr) (cd:Value) (cl:List (Str × Addr)) (A:Around) (outer:List Env) (s:Shared) (H:Hp):Cx where
 prog:=P
 w:=w
 K:=K
 mg:=mg
 base:=base
 A:=A.deeper (envX qual scope s.heap.objs.size f cd cl)
 N:=N
 s₀:=s
 H₀:=H
 env:=envX qual scope s.heap.objs.size f cd cl
 outer:=outer
 stack:=envX qual scope s.heap.objs.size f cd cl :: outer
 ex:=[]
 calm:=true
 fn:=λ _=>false
 pn:=[]
 xe:=λ _ _=>False
section
variable {CX:CXT} {P:Program} {w:World} {K:Frag} {mg:Str->Option Value} {base:Heap} {x0:Str} {fr:List Str} {name qual:Str} {params:Arguments} {body:List Stmt} {scope:Scope} {f:Addr} {dV kV doc pm cdv ct:Value} {an:Option Addr} {cl:List (Str × Addr)} {A:Around} {outer:List Env} {s:Shared} {H:Hp} {E:XK} {u:Value} {v:V} {fvs:List V}
theorem jL.cut {cs:List Addr} (e0:jL P w K mg base A outer s H) (hc:iV cs H):jL P w K mg base A outer s (jV cs H) :=
 ⟨e0.frames,e0.mod,λ b o e=>⟨(e0.bs b o e).1,by rw [dB (hc.none (e0.bs b o e).2)];exact(e0.bs b o e).2⟩,e0.bsz,e0.iE,λ b hb=>by rw [dB (hc.none (e0.frf b hb))];exact e0.frf b hb,e0.hok.cut hc,e0.bare⟩
theorem D3 (S:vN x0 fr scope) (hcl:cl.map (·.1)=fr) (hnc:(cl.map (·.2)).Nodup) (hd:A.handled=none) (e0:jL P w K mg base A outer s H) (hC:n9 H cl fvs) (r:RelV v u) {h':Heap}
  (ns:h'.Ns s.heap.objs.size (λ x=>[(x0,u)].reverse.lookup x)) (sb:Heap.SameBut s.heap.objs.size (s.heap.push { cls:=.type "frame",data:=.dict #[] }) h') {tk:Nat} :
  Inv (yY P w K mg base (x0 :: fr) qual scope f cdv cl A outer s (jV (cellsOf cl) H)) [] (some v :: fvs.map some) (jV (cellsOf cl) H) { s with heap:=h',toks:=tk }:=by
 have hx:=hC.ext
 have e1:=e0.cut hx
 have keep:∀ b o,s.heap.get? b=some o->h'.get? b=some o:=λ b o e=>by
  rw [sb.2 b (QN (QF e))]
  exact QD _ e
 have ndn:(cl.map (·.1)).Nodup:=by rw [hcl];exact S.nd
 have inCl:∀ {x:Str} {c:Addr},cl.lookup x=some c->c ∈ cellsOf cl:=λ e=>by
  obtain⟨i,hi⟩:=lookup_at e
  exact QS.mpr ⟨_,QJ hi,rfl⟩
 have noA:∀ b:Addr,b ∉([]:List Addr):=λ b z=>by cases z
 refine⟨⟨e1.mod,S.kind,rfl,rfl,QH _,λ y z c h1 h2=>?_,λ y hy=>?_,λ y c h _=>absurd h (by intro z;cases z),λ _=>hd,Around.frames_deeper e1.frames,.inr ⟨rfl,rfl⟩,λ b z=>absurd z (noA b),e1.bs,e1.bsz,λ b _ _=>noA b,λ b z=>absurd z (noA b),e1.iE,e1.frf⟩,
  rfl,e1.bare,Un.kept keep,⟨_,ns,λ i y v' h1 h2 h3=>?_⟩,λ y c h=>?_,e1.hok.fresh (QH _),λ y c h=>uO (inCl h),λ p hp=>absurd (show p ∈([]:List (Addr × Obj)) from hp) (by simp),e1.hok.kept keep,?_⟩
 ·have h1:cl.lookup y=some c:=h1
  have h2:cl.lookup z=some c:=h2
  obtain⟨i,hi⟩:=lookup_at h1
  obtain⟨j,hj⟩:=lookup_at h2
  have e1:(cl.map (·.2))[i]? = some c:=by rw [QK,hi];rfl
  have e2:(cl.map (·.2))[j]? = some c:=by rw [QK,hj];rfl
  have:i=j:=(List.getElem?_inj (QE.mp e1).1 hnc).mp (e1.trans e2.symm)
  subst this
  rw [hi] at hj
  cases hj;rfl
 ·have hy:scope.names.lookup y=some .cell ∨ scope.names.lookup y=some .free:=hy
  have hm:y ∈ fr:=by
   rcases hy with hy | hy
   ·exact absurd rfl (S.qZ _ (Sd hy))
   ·exact S.fre _ (Sd hy) rfl
  rw [← hcl] at hm
  obtain⟨q,hq,rfl⟩:=QS.mp hm
  obtain⟨i,hi⟩:=R0.mp hq
  exact⟨q.2,lQ (i:=i) ndn hi⟩
 ·cases i with
  | zero =>
   have h1:some x0=some y:=h1
   have h2:some (some v)=some (some v'):=h2
   cases h1;cases h2
   exact⟨u,r,.inl ⟨S.par,by simp [List.lookup]⟩⟩
  | succ j =>
   have h1:fr[j]? = some y:=h1
   have h2:(fvs.map some)[j]? = some (some v'):=h2
   rw [QK] at h2
   obtain⟨v2,h4,h5⟩:=QX.mp h2
   cases h5
   rw [← hcl,QK] at h1
   obtain⟨q,h6,rfl⟩:=QX.mp h1
   have hc:=hC.2 j q.1 q.2 v' h6 h4
   obtain⟨⟨u',r',o,q1,q2⟩,_⟩:=e0.hok _ _ hc
   refine⟨u',r',.inr ⟨.inr (S.Jw _ (by rw [← hcl];exact QS.mpr ⟨q,QJ h6,rfl⟩)),q.2,lQ ndn h6,o,keep _ _ q1,q2⟩⟩
 ·obtain⟨i,hi⟩:=lookup_at (show cl.lookup y=some c from h)
  have hl:=(QE.mp hi).1
  rw [hC.1] at hl
  have hc:=hC.2 i y c _ hi (QC hl)
  obtain⟨⟨u',r',o,q1,q2⟩,_⟩:=e0.hok _ _ hc
  exact⟨_,o,keep _ _ q1,q2⟩
 ·show(some v :: fvs.map some).length =(x0 :: fr).length
  rw [RV,RV,QG,← hC.1,← hcl,QG]
structure se (P:Program) (w:World) (K:Frag) (mg:Str->Option Value) (base:Heap) (CX:CXT) (k:Nat) (f:Addr) (sp:Sp):Prop where
 one:∀ vs H Q E,sp vs H Q E->(∃ v,vs = [v]) /\ ∃ fd,H f=some (FnO f fd)
 run:∀(A:Around) (outer:List Env) (s:Shared) (H:Hp) (us:List Value) (vs:List V) (Q:VK) (E:XK),bU k A->jL P w K mg base A outer s H->Vals vs us->sp vs H Q E →
  codeAny (model P w) A (.call (.ref f) ⟨us,[]⟩) (CR CX outer P w H s Q E) s
theorem Eo {k:Nat} {sp:Sp} (S:vN x0 fr scope) (hb:∀(cl:List (Str × Addr)) (doc pm cdv ct:Value) (s:Shared) (u:Value),BindsTo s (fnX name qual params body scope cl .none .none doc pm none cdv ct) ⟨[u],[]⟩ [(x0,u)])
  (hsp:∀ vs H Q E,sp vs H Q E->∃(v:V) (cl:List (Str × Addr)) (doc pm:Value) (c':Addr) (ctv:Value) (fvs:List V),vs = [v] /\ H f=some (FnO f (fnX name qual params body scope cl .none .none doc pm none (.ref c') ctv)) /\ cl.map (·.1)=fr /\(cl.map (·.2)).Nodup /\ n9 H cl fvs /\ H c'=some (m6 c' qual) ∧
   ∀(A:Around) (outer:List Env) (s:Shared),bU k (A.deeper (envX qual scope s.heap.objs.size f (.ref c') cl))->∃ t,PSs (yY P w K mg base (x0 :: fr) qual scope f (.ref c') cl A outer s (jV (cellsOf cl) H)) body t ∧
    t { nx:=λ _ H'=>Q .non (glue (cellsOf cl) H H'),rt:=λ v H'=>Q v (glue (cellsOf cl) H H') } (some v :: fvs.map some) (jV (cellsOf cl) H)) :
  se P w K mg base CX (k + 1) f sp:=by
 refine⟨λ vs H Q E h=>?_,λ A outer s H us vs Q E hr e0 r h=>?_⟩
 ·obtain⟨v,cl,doc,pm,c',ctv,fvs,rfl,hf,_⟩:=hsp _ _ _ _ h
  exact⟨⟨v,rfl⟩,_,hf⟩
 ·obtain⟨v,cl,doc,pm,c',ctv,fvs,rfl,hf,hcl,hnc,hC,hc',hbody⟩:=hsp _ _ _ _ h
  obtain⟨u,rfl,ru⟩:=vals1 r
  obtain⟨⟨oc,od,sl,ho⟩,_⟩:=e0.hok _ _ hf
  obtain⟨hcd,_⟩:=e0.hok _ _ hc'
  have lim:s.heap.NoLimit:=e0.mod.nolimit.keeps λ b o e=>(e0.bs b o e).1
  have hloc:∀ x ∈ [(x0,u)],scope.names.lookup x.1 = some .local:=fun x hx=>by rw [QZ.mp hx]; exact S.par
  refine T6 hr.depth ho rfl S.co S.gen rfl hcd (hb cl doc pm (.ref c') ctv s u _ _ _ _ ?_)
  refine wpAny_newFunctionEnv S.qZ hloc (λ h' ns sb=>?_) S.kind
  have keep:∀ b o,s.heap.get? b=some o->h'.get? b=some o:=λ b o e=>by
   rw [sb.2 b (QN (QF e))]
   exact QD _ e
  refine⟨lim.keeps keep,VN ?_⟩
  obtain⟨t,ht,hq⟩:=hbody A outer s (hr.deeper _)
  have I:=D3 (P:=P) (w:=w) (K:=K) (mg:=mg) (base:=base) (qual:=qual) (f:=f) (cdv:=.ref c') (tk:=s.toks + [(x0,u)].length) S hcl hnc hr.hd e0 hC ru ns sb
  refine Rf (ht [] _ _ _ _ I hq) (λ fl s' hs=>?_) λ e s' hs=>hs.elim
  have hx:=hC.ext
  have fin:∀ {σ':St} {H':Hp} {v:V} {u:Value},Inv (yY P w K mg base (x0 :: fr) qual scope f (.ref c') cl A outer s (jV (cellsOf cl) H)) [] σ' H' s'->RelV v u->Q v (glue (cellsOf cl) H H')->CE outer P w H s Q u s' :=
   λ {σ' H' v u} J rv q=>by
    refine⟨v,_,J.os,J.bare,J.base.glue hx,J.hok.glue e0.hok hx (λ c hc=>?_) (λ c hc o e=>?_),rv,q⟩
    ·obtain⟨φ,hφ⟩:=hx c hc
     obtain⟨_,⟨o,e⟩,_⟩:=e0.hok _ _ hφ
     exact J.base.free c o e (uO hc) (by intro z;cases z)
    ·obtain⟨φ,hφ⟩:=hx c hc
     exact J.base.keep c o e (uO hc) (λ hb=>by have:=e0.frf c hb;rw [hφ] at this;cases this) (by intro z;cases z)
  cases fl with
  | ret u =>
   obtain⟨v,σ',H',J,rv,q⟩:=hs
   exact fin J rv q
  | next =>
   obtain⟨σ',H',J,q⟩:=hs
   exact fin (v:=V.non) (u:=Value.none) J rfl q
  | brk =>
   obtain⟨_,_,_,q⟩:=hs
   exact False.elim q
  | cont =>
   obtain⟨_,_,_,q⟩:=hs
   exact False.elim q
end
def Fq (i:Nat) (sp:Addr->Sp) (t:TA):TE:=λ σ H Q=>∃ f fd,σ[i]? = some (some (.ref f)) /\ H f=some (FnO f fd) /\ t σ H λ vs H1=>sp f vs H1 Q E0
section
variable {X:Cx} {k i:Nat} {x:Str} {p pos:Pos} {e:Expr} {t:TA} {sp:Addr->Sp}
theorem Ea (C:∀ f,se X.prog X.w X.K X.mg X.base (CXx X.prog X.w) k f (sp f)) (hr:bU k X.A) (hN:X.N[i]? = some x) (hv:Vis X.env.scope x) (ha:PA X [e] t)
  (hd:(x ==("__debug__":Str))=false:=by decide) (hcd:(x ==("__classdict__":Str))=false:=by decide)
  (he:starEach [e] X.env =(false,eval e X.env) :: starEach [] X.env:=by rfl):PE X (.Call (.Name x p) [e] [] pos) (Fq i sp t):=by
 intro pins s σ H Q I h
 obtain⟨f,fd,hf,hF,h⟩:=h
 refine Rv (thn ((B3 hN hv hd hcd:PE X (.Name x p) _) pins s σ H (λ v H1=>v = .ref f /\ H1=H) I ⟨_,hf,rfl,rfl⟩) λ u s1 ⟨v,H1,I1,r,e1,e2⟩=>?_)
 subst e1;subst e2
 cases (show u=Value.ref f from r)
 have fnat:∀ {H:Hp} {s:Shared} {fd:FuncData},Inv X pins σ H s->H f=some (FnO f fd)->FnAt f s.heap:=λ I e=>by
  obtain⟨⟨oc,od,sl,q⟩,_⟩:=I.hok _ _ e
  exact⟨oc,od,_,sl,q⟩
 refine PySem.W.callWith_F (fnat I1 hF) (thn (ha pos pins s1 σ _ _ I1 h) λ us s2 ⟨vs,H2,I2,r2,q2⟩=>?_) he
 obtain⟨_,fd2,hF2⟩:=(C f).one _ _ _ _ q2
 refine⟨fnat I2 hF2,?_⟩
 refine S6 (SV ((C f).run X.A X.stack s2 H2 us vs Q E0 hr I2.yi r2 q2) λ r s' hq=>?_)
 cases r with
 | error e =>
  obtain⟨_,_,_,_,_,_,_,_,_,_,_,_,_,_,h⟩:=hq
  exact h.elim
 | ok fl =>
  cases fl with
  | ret u=>exact I2.after hq
  | next=>exact False.elim hq
  | brk=>exact False.elim hq
  | cont=>exact False.elim hq
end
section
variable {P:Program} {w:World} {H H':Hp} {h h':Heap} {a T:Addr} {fs ex:List Addr} {φ:Heap->Prop} {ps qs:Array Value}
theorem HOk.ext (x:HOk P w H h) (hn:H a=none) (ob:bB P w (upd H a (.ext φ)) h a (.ext φ)):HOk P w (upd H a (.ext φ)) h:=λ b u e=>by
 by_cases hb:b=a
 ·subst hb
  rw [ak] at e;cases e
  exact ob
 ·rw [af hb] at e
  exact(x b u e).stay (λ _ _ _ q=>q) (λ c q=>by rw [af (aj q hn)];exact q) (λ c xs q=>by rw [af (aj q hn)];exact q)
theorem Un.ext (u:Un fs ex H H' h h') (ok:HOk P w H h) (hn:h.objs.size ≤ a) {o:HO}:Un fs ex H (upd H' a o) h h' where
 keep:=u.keep
 slot:=u.slot
 free:=λ b ob e n hx=>by rw [af (show b ≠ a from QN (QT (QF e) hn))];exact u.free b ob e n hx
 there:=u.there
 tups:=λ b xs q=>by rw [af (show b ≠ a from QN (QT (ok.lt q) hn))];exact u.tups b xs q
 gb:=λ b o v q=>by rw [af (show b ≠ a from QN (QT (ok.lt q) hn))];exact u.gb b o v q
 g9:=λ b ps q=>by rw [af (show b ≠ a from QN (QT (ok.lt q) hn))];exact u.g9 b ps q
theorem HOk.tab (x:HOk P w H h) (hT:H T=some (.tbl ps)) (k:∀ b u,b ≠ T->h.get? b=some u->h'.get? b=some u) (hq:h'.get? T=some (tabObj (ps ++ qs))):HOk P w (upd H T (.tbl (ps ++ qs))) h':=λ b u e=>by
 by_cases hb:b=T
 ·subst hb
  rw [ak] at e;cases e
  exact hq
 ·rw [af hb] at e
  exact(x b u e).stay (λ c o hc q=>k c o (by
   rcases hc with rfl | hc
   ·exact hb
   ·exact aR hc hT (by intro z;cases z)) q) (λ c q=>by rw [af (aR q hT (by intro z;cases z))];exact q) (λ c xs q=>by rw [af (aR q hT (by intro z;cases z))];exact q)
theorem Un.tab (hT:H T=some (.tbl ps)) (k:∀ b u,b ≠ T->h.get? b=some u->h'.get? b=some u) (hq:h'.get? T=some (tabObj (ps ++ qs))):Un fs ex H (upd H T (.tbl (ps ++ qs))) h h' where
 keep:=λ b o e n _ _=>k b o (λ z=>by rw [z,hT] at n;cases n) e
 slot:=λ b o e n _ _=>⟨o.slots,k b o (λ z=>by rw [z,hT] at n;cases n) e⟩
 free:=λ b o e n _=>by rw [af (λ z=>by rw [z,hT] at n;cases n)];exact n
 there:=λ b o e _=>by
  by_cases hb:b=T
  ·exact⟨_,by rw [hb];exact hq⟩
  ·exact⟨o,k b o hb e⟩
 tups:=λ b xs q=>by rw [af (aR q hT (by intro z;cases z))];exact q
 gb:=λ b o v q=>by rw [af (aR q hT (by intro z;cases z))];exact q
 g9:=λ b rs q=>by
  by_cases hb:b=T
  ·subst hb
   rw [hT] at q;cases q
   exact⟨qs,ak⟩
  ·exact⟨#[],by rw [af hb,q];simp⟩
end
def A6 (T:Addr) (pos:Pos) (qual:Str) (H:Hp):Prop:=H T=some (.tbl #[]) ∨ ∃ c',H T=some (.tbl #[rawInt pos.line,rawInt pos.col,.ref c']) /\ H c'=some (m6 c' qual)
def lW (name qual:Str) (params:Arguments) (body:List Stmt) (scope:Scope) (fr:List Str) (H:Hp) (f:Addr) (fvs:List V):Prop:=∃(cl:List (Str × Addr)) (doc pm:Value) (c':Addr) (ctv:Value),H f=some (FnO f (fnX name qual params body scope cl .none .none doc pm none (.ref c') ctv)) /\ cl.map (·.1)=fr /\(cl.map (·.2)).Nodup /\ n9 H cl fvs /\ H c'=some (m6 c' qual)
theorem lW.same {name qual:Str} {params:Arguments} {body:List Stmt} {scope:Scope} {fr:List Str} {H H':Hp} {f:Addr} {fvs:List V} (h:lW name qual params body scope fr H f fvs) (k:∀ b φ,H b=some (.ext φ)->H' b=some (.ext φ)):lW name qual params body scope fr H' f fvs :=
 let ⟨cl,doc,pm,c',ctv,h1,h2,h3,h4,h5⟩:=h
 ⟨cl,doc,pm,c',ctv,k _ _ h1,h2,h3,⟨h4.1,λ i x c v e1 e2=>k _ _ (h4.2 i x c v e1 e2)⟩,k _ _ h5⟩
def tT (T:Addr) (pos:Pos) (name qual:Str) (params:Arguments) (body:List Stmt) (scope:Scope) (fr:List Str):Sp:=λ vs H Q _=>∃ v1 v2:V,vs = [v1,v2] /\ A6 T pos qual H /\ ∀ f H',lW name qual params body scope fr H' f [v1,v2]->H f=none->A6 T pos qual H'->aV [T] H H'->Q (.ref f) H'
theorem HOk.EV {P:Program} {w:World} {H:Hp} {h h':Heap} {L:Addr} (x:HOk P w H h) (hL:H L=none) (k:∀ b u,b ≠ L->h.get? b=some u->h'.get? b=some u):HOk P w H h':=λ a o e =>
 (x a o e).stay (λ b u hb q=>k b u (by
  rcases hb with rfl | hb
  ·exact aj e hL
  ·exact aj hb hL) q) (λ _ q=>q) λ _ _ q=>q
theorem Un.then {fs ex:List Addr} {H H':Hp} {h hA hB:Heap} (u:Un fs ex H H' h hA) (k:∀ b o,b < h.objs.size->hA.get? b=some o->hB.get? b=some o):Un fs ex H H' h hB where
 keep:=λ b o e n hb hx=>k b o (QF e) (u.keep b o e n hb hx)
 slot:=λ b o e n hb hx=>let ⟨sl,q⟩:=u.slot b o e n hb hx;⟨sl,k b _ (QF e) q⟩
 free:=u.free
 there:=λ b o e hx=>let ⟨o',q⟩:=u.there b o e hx;⟨o',k b o' (QF e) q⟩
 tups:=u.tups
 gb:=u.gb
 g9:=u.g9
abbrev e8:Str:=Str.ofString "seek"
abbrev e7:Str:=Str.ofString "each"
abbrev Eh:Str:=Str.ofString "cost"
section
variable {CX:CXT} {P:Program} {w:World} {K:Frag} {mg:Str->Option Value} {base:Heap} {k:Nat} {f c T:Addr} {mparams cparams:Arguments} {cbody:List Stmt} {mscope cscope:Scope} {dV kV doc pm ct oc:Value} {an od:Option Addr} {osl:Array (Option Value)} {cpos np rp:Pos} {cqual:Str}
theorem DE (lk:K.lookup f=some ⟨oc,od,.func (fnOf "rate" "rate" mparams [.FunctionDef "cost" cparams cbody [] none [] cscope none "cost" cpos,.Return (some (.Name "cost" np)) rp] mscope dV kV doc pm an (.ref c) ct),osl⟩) (hcd:codeIn K (.ref c) "rate" = true)
  (mk:mscope.kind = .function) (mco:mscope.isCoroutine = false) (mge:mscope.isGenerator = false) (mn:mscope.names = [(e8,NameKind.cell),(e7,NameKind.cell),(Eh,NameKind.local)])
  (cn:cscope.names = [(Str.ofString "piece",NameKind.local),(e7,NameKind.free),(e8,NameKind.free)]) (hd0:cparams.defaults = []) (hk0:cparams.kw_defaults = []) (ha:∀ env,annTrees cparams none env = [])
  (hqn:∀ L,qualnameIn (envOfC "rate" mscope L f (.ref c)) "cost" "cost" = cqual) (Cd:CodeHd base c T) (hB:base.BuiltinsAt mg T) (hTG:mainGlobals ≠ T) :
  aX P w K mg base CX (k + 1) f (fnOf "rate" "rate" mparams [.FunctionDef "cost" cparams cbody [] none [] cscope none "cost" cpos,.Return (some (.Name "cost" np)) rp] mscope dV kV doc pm an (.ref c) ct) ["seek","each"] (tT T cpos "cost" cqual cparams cbody cscope ["seek","each"]):=by
 refine⟨λ vs H Q E ⟨v1,v2,e,_⟩=>by rw [e];rfl,λ A outer s H args us vs Q E hr e0 hb r hsp=>?_⟩
 obtain⟨v1,v2,rfl,hT,q⟩:=hsp
 obtain⟨u1,u2,rfl,r1,r2⟩:=vals2 r
 have KX:K.In s.heap:=e0.mod.kin.keeps λ b o e=>(e0.bs b o e).1
 have lim:s.heap.NoLimit:=e0.mod.nolimit.keeps λ b o e=>(e0.bs b o e).1
 have cf:∀ n,cellsFrom n mscope.names [] = [(e7,n + 1),(e8,n)]:=λ n=>by rw [mn];rfl
 have hkind:∀ y ∈ (["seek","each"]:List Str).zip [u1,u2],mscope.names.lookup y.1 = some .local ∨ (mscope.names.lookup y.1 = some .cell /\ ((cellsFrom (s.heap.objs.size + 1) mscope.names []).lookup y.1).isSome = true):=fun y hy=>by
  rw [cf,mn]
  simp only [List.zip_cons_cons,List.zip_nil_right,List.mem_cons,List.not_mem_nil,or_false] at hy
  rcases hy with rfl | rfl
  ·exact .inr ⟨rfl,rfl⟩
  ·exact .inr ⟨rfl,rfl⟩
 refine T6 hr.depth (KX _ _ lk) rfl mco mge rfl (VM KX hcd) (hb _ _ _ _ ?_)
 refine Ux mk hkind λ env he s1 x=>?_
 subst he
 refine⟨lim.keeps x.toInCall.keep,VN ?_⟩
 obtain⟨h1,tk,rfl,hk⟩:=x.done
 refine TZ (PySem.W.nestDef_K hd0 hk0 (ha _) ?_)
 rw [show qualnameIn (newEnv mscope s.heap.objs.size mainGlobals (cellsFrom (s.heap.objs.size + 1) mscope.names []) (Str.ofString "rate" ++ ".<locals>.") (some f) (.ref c) none builtinsNs) "cost" "cost" = cqual from hqn s.heap.objs.size]
 have kS:mscope.names.lookup e8=some .cell:=by rw [mn];rfl
 have kE:mscope.names.lookup e7=some .cell:=by rw [mn];rfl
 have kC:mscope.names.lookup Eh = some .local:=by rw [mn]; rfl
 have cSeek:h1.IsCell (s.heap.objs.size + 1) (some u1):=by
  have:=x.cell e8 (s.heap.objs.size + 1) (by show(cellsFrom (s.heap.objs.size + 1) mscope.names []).lookup _=_;rw [cf];rfl)
  rw [mK (P:=[e8,e7]) (vs:=[u1,u2]) (i:=0) (by decide +kernel) rfl rfl (by show mscope.names.lookup e8 ≠ _;rw [kS];decide)] at this
  exact this
 have cEach:h1.IsCell (s.heap.objs.size + 2) (some u2):=by
  have:=x.cell e7 (s.heap.objs.size + 2) (by show(cellsFrom (s.heap.objs.size + 1) mscope.names []).lookup _=_;rw [cf];rfl)
  rw [mK (P:=[e8,e7]) (vs:=[u1,u2]) (i:=1) (by decide +kernel) rfl rfl (by show mscope.names.lookup e7 ≠ _;rw [kE];decide)] at this
  exact this
 have ns1:=x.toInCall.ns
 have bk:∀ b o,base.get? b=some o->h1.get? b=some o:=λ b o e=>hk b o (e0.bs b o e).1
 have hTs:T < s.heap.objs.size:=by rcases hT with h |⟨_,h,_⟩ <;> exact e0.hok.lt h
 have hcell2:s.heap.objs.size + 2 < h1.objs.size:=by obtain⟨o,e,_⟩:=cEach;exact QF e
 have hcl:closureFor cscope (newEnv mscope s.heap.objs.size mainGlobals (cellsFrom (s.heap.objs.size + 1) mscope.names []) (Str.ofString "rate" ++ ".<locals>.") (some f) (.ref c) none builtinsNs)=pure [(e8,s.heap.objs.size + 1),(e7,s.heap.objs.size + 2)]:=by
  rw [cf]
  unfold closureFor
  rw [cn]
  rfl
 have tail:∀(H2:Hp) (c':Addr) (ctv doc':Value) (h2:Heap) (tk2:Nat),(∀ b o,b ≠ T->h1.get? b=some o->h2.get? b=some o)->h1.objs.size ≤ h2.objs.size->c' < h2.objs.size->HOk P w H2 h2->Un (frs outer) [] H H2 s.heap h2->H2 c'=some (m6 c' cqual)->A6 T cpos cqual H2->(∀ b o,H b=some o->b ≠ T->H2 b=some o)->(∀ b,s.heap.objs.size ≤ b->b < s.heap.objs.size + 3->H2 b=none) →
   wpAny (model P w) (A.deeper (newEnv mscope s.heap.objs.size mainGlobals (cellsFrom (s.heap.objs.size + 1) mscope.names []) (Str.ofString "rate" ++ ".<locals>.") (some f) (.ref c) none builtinsNs)) (storeName (newEnv mscope s.heap.objs.size mainGlobals (cellsFrom (s.heap.objs.size + 1) mscope.names []) (Str.ofString "rate" ++ ".<locals>.") (some f) (.ref c) none builtinsNs) "cost" (.ref h2.objs.size))
    (λ _ s'=>wpAny (model P w) (A.deeper (newEnv mscope s.heap.objs.size mainGlobals (cellsFrom (s.heap.objs.size + 1) mscope.names []) (Str.ofString "rate" ++ ".<locals>.") (some f) (.ref c) none builtinsNs)) (execs [.Return (some (.Name "cost" np)) rp] (newEnv mscope s.heap.objs.size mainGlobals (cellsFrom (s.heap.objs.size + 1) mscope.names []) (Str.ofString "rate" ++ ".<locals>.") (some f) (.ref c) none builtinsNs)) (λ fl s'=>∃ u,fl = .ret u /\ CE outer P w H s Q u s') (λ e s'=>False) s') (λ e s'=>False)
    {s with heap:=h2.push (fnMade "cost" cqual cparams cbody cscope [(e8,s.heap.objs.size + 1),(e7,s.heap.objs.size + 2)] doc' ((mg "__name__").getD .none) c' ctv),toks:=tk2 }:=by
  intro H2 c' ctv doc' h2 tk2 kk hsz hc2 ok2 un2 hco tst kT fr3
  have hLT:s.heap.objs.size ≠ T:=(QN hTs).symm
  have ns2:(h2.push (fnMade "cost" cqual cparams cbody cscope [(e8,s.heap.objs.size + 1),(e7,s.heap.objs.size + 2)] doc' ((mg "__name__").getD .none) c' ctv)).Ns s.heap.objs.size (bindL (newEnv mscope s.heap.objs.size mainGlobals (cellsFrom (s.heap.objs.size + 1) mscope.names []) (Str.ofString "rate" ++ ".<locals>.") (some f) (.ref c) none builtinsNs).kindOf ((["seek","each"]:List Str).zip [u1,u2]) λ _=>none):=by
   obtain⟨o,es,ep,e,d,rest⟩:=ns1
   exact⟨o,es,ep,QD _ (kk _ o hLT e),d,rest⟩
  refine Ve kC ns2 (λ h3 ns3 sb3=>?_) (by show(mscope.kind == .class ||(mscope.kind == .module && _))=false;rw [mk];rfl)
  refine TZ (wpAny_Return_some (Vp (wpAny_loadName_local mk kC ns3 (if_pos rfl) ?_) (by decide)))
  have keep3:∀ b o,b ≠ s.heap.objs.size->h2.get? b=some o->h3.get? b=some o:=λ b o hb e=>by
   rw [sb3.2 b hb];exact QD _ e
  have hfa:s.heap.objs.size ≤ h2.objs.size:=by omega
  have obf:h3.get? h2.objs.size=some (fnMade "cost" cqual cparams cbody cscope [(e8,s.heap.objs.size + 1),(e7,s.heap.objs.size + 2)] doc' ((mg "__name__").getD .none) c' ctv):=by
   rw [sb3.2 _ (by show h2.objs.size ≠ s.heap.objs.size;omega)]
   exact QU _ rfl
  have o3:HOk P w H2 h3:=ok2.EV (fr3 _ (QH _) (by omega)) keep3
  have un3:Un (frs outer) [] H H2 s.heap h3:=un2.then λ b o hb e=>keep3 b o (QN hb) e
  have cell3:∀ {a:Addr} {u:Value},h1.IsCell a (some u)->a ≠ T->a ≠ s.heap.objs.size->h3.IsCell a (some u):=λ⟨o,e,d⟩ h1 h2=>⟨o,keep3 _ _ h2 (kk _ _ h1 e),d⟩
  have o4:=o3.ext (a:=s.heap.objs.size + 1) (φ:=λ h=>∃ u,RelV v1 u /\ h.IsCell (s.heap.objs.size + 1) (some u)) (fr3 _ (by omega) (by omega)) (lu.mk r1 (cell3 cSeek (Ry (Sa hTs)) (Ry (Sh _))))
  have un4:=un3.ext (a:=s.heap.objs.size + 1) (o:=lu (s.heap.objs.size + 1) v1) e0.hok (by omega)
  have o5:=o4.ext (a:=s.heap.objs.size + 2) (φ:=λ h=>∃ u,RelV v2 u /\ h.IsCell (s.heap.objs.size + 2) (some u)) (by rw [af (Ry (Sh _))];exact fr3 _ (by omega) (by omega)) (lu.mk r2 (cell3 cEach (Ry (Sa (Sa hTs))) (Ry (Sa (Sh _)))))
  have un5:=un4.ext (a:=s.heap.objs.size + 2) (o:=lu (s.heap.objs.size + 2) v2) e0.hok (by omega)
  have hn2:H2 h2.objs.size=none:=ok2.fresh (QH _)
  have o6:=o5.ext (a:=h2.objs.size) (φ:=λ h=>∃ oc od sl,h.get? h2.objs.size=some ⟨oc,od,.func (fnX "cost" cqual cparams cbody cscope [(e8,s.heap.objs.size + 1),(e7,s.heap.objs.size + 2)] .none .none doc' ((mg "__name__").getD .none) none (.ref c') ctv),sl⟩) (by rw [af (Ry (show s.heap.objs.size + 2 < h2.objs.size by omega)),af (Ry (show s.heap.objs.size + 1 < h2.objs.size by omega))];exact hn2) (FnO.mk obf)
  have un6:=un5.ext (a:=h2.objs.size) (o:=FnO h2.objs.size (fnX "cost" cqual cparams cbody cscope [(e8,s.heap.objs.size + 1),(e7,s.heap.objs.size + 2)] .none .none doc' ((mg "__name__").getD .none) none (.ref c') ctv)) e0.hok hfa
  have up:∀ b o,H2 b=some o->upd (upd (upd H2 (s.heap.objs.size + 1) (lu (s.heap.objs.size + 1) v1)) (s.heap.objs.size + 2) (lu (s.heap.objs.size + 2) v2)) h2.objs.size (FnO h2.objs.size (fnX "cost" cqual cparams cbody cscope [(e8,s.heap.objs.size + 1),(e7,s.heap.objs.size + 2)] .none .none doc' ((mg "__name__").getD .none) none (.ref c') ctv)) b=some o:=λ b o e=>by
   have n1:=aj e (fr3 (s.heap.objs.size + 1) (by omega) (by omega))
   have n2:=aj e (fr3 (s.heap.objs.size + 2) (by omega) (by omega))
   rw [af (aj e hn2),af n2,af n1];exact e
  refine⟨_,rfl,.ref h2.objs.size,_,rfl,e0.bare,un6,o6,rfl,q _ _ ⟨[(e8,s.heap.objs.size + 1),(e7,s.heap.objs.size + 2)],doc',_,c',ctv,ak,rfl,by simp,⟨rfl,λ i y a v h1 h2'=>?_⟩,up _ _ hco⟩ (e0.hok.fresh hfa) ?_ (λ b o e hb=>up b o (kT b o e (by simpa using hb)))⟩
  ·cases i with
   | zero=>cases h1;cases h2';rw [af (QN (show s.heap.objs.size + 1 < h2.objs.size by omega)),af (QN (Sh _))];exact ak
   | succ i =>
    cases i with
    | zero=>cases h1;cases h2';rw [af (QN (show s.heap.objs.size + 2 < h2.objs.size by omega))];exact ak
    | succ i=>cases h1
  ·rcases tst with h |⟨d,h1,h2⟩
   ·exact .inl (up _ _ h)
   ·exact .inr ⟨d,up _ _ h1,up _ _ h2⟩
 have hb1:h1.BuiltinsAt mg T:=by
  obtain⟨bm,o,e1,e2,e3,e4,e5,rest⟩:=hB
  exact⟨bm,o,e1,e2,e3,e4,bk _ _ e5,rest⟩
 have hg1:h1.Ns mainGlobals mg:=e0.mod.glob.keeps bk
 have C1:CodeHd h1 c T:=Cd.keeps bk
 have jG:∀ {h2:Heap},Heap.ExtBut T h1 h2->∀ b o,b ≠ T->h1.get? b=some o->h2.get? b=some o:=λ hx b o hb e=>hx b o hb e
 have fresh3:∀ b,s.heap.objs.size ≤ b->H b=none:=λ b hb=>e0.hok.fresh hb
 rcases hT with hT |⟨d,hT,hd⟩
 ·refine Rf (PySem.W.makeFunction_K (c:=c) (P:=T) (ps:=#[]) (clos:=[(e8,s.heap.objs.size + 1),(e7,s.heap.objs.size + 2)]) (mg:=mg) hcl rfl hg1 rfl C1 (hk _ _ (e0.hok _ _ hT)) trivial rfl hTG hb1 λ c' ctv doc' h2 tk2 hx hge hlt hrec htab=>?_) (λ v s' h=>h) (λ e s' h=>h)
  have hge:h1.objs.size ≤ c':=hge
  have hc'T:c' ≠ T:=Ry (QT (Nat.lt_trans hTs (by omega)) hge)
  have hc'n:H c'=none:=fresh3 c' (Rp (by omega) hge)
  have ok2:=((e0.hok.tab (h':=h2) (qs:=#[rawInt cpos.line,rawInt cpos.col,.ref c']) hT (λ b o hb e=>hx b o hb (hk b o e)) htab).ext (a:=c') (φ:=λ h=>h.CodeRec (.ref c') cqual) (by rw [af hc'T];exact hc'n) (m6.mk hrec))
  have un2:=(Un.tab (fs:=frs outer) (ex:=[]) (h':=h2) (qs:=#[rawInt cpos.line,rawInt cpos.col,.ref c']) hT (λ b o hb e=>hx b o hb (hk b o e)) htab).ext (a:=c') (o:=m6 c' cqual) e0.hok (Rp (by omega) hge)
  refine Rf (tail _ c' ctv doc' h2 tk2 (λ b o hb e=>hx b o hb e) (by omega) hlt ok2 un2 ak (.inr ⟨c',by rw [af hc'T.symm];exact ak,ak⟩) (λ b o e hb=>by rw [af (aj e hc'n),af hb];exact e) (λ b hb1 hb2=>?_)) (λ _ s'' h=>Rf h (λ fl s3 ⟨u,e,h⟩=>by subst e;exact h) (λ _ _ h=>h.elim)) (λ _ _ h=>h.elim)
  rw [af (QN (QT (show b < h1.objs.size by omega) hge)),af (Ry (QT hTs hb1))]
  exact fresh3 b hb1
 ·refine Rf (PySem.W.makeFunction_hit (c:=c) (P:=T) (ps:=#[rawInt cpos.line,rawInt cpos.col,.ref d]) (cv:=.ref d) (clos:=[(e8,s.heap.objs.size + 1),(e7,s.heap.objs.size + 2)]) (mg:=mg) hcl rfl hg1 rfl C1 (hk _ _ (e0.hok _ _ hT)) trivial (by simp [codeAmong,rawInt]) hb1 λ ctv doc' h2 tk2 kk hsz=>?_) (λ v s' h=>h) (λ e s' h=>h)
  have hsz:h1.objs.size ≤ h2.objs.size:=hsz
  have hdl:=e0.hok.lt hd
  exact Rf (tail H d ctv doc' h2 tk2 (λ b o _ e=>kk b o e) hsz (QT hdl (by omega)) (e0.hok.kept λ b o e=>kk b o (hk b o e)) (Un.kept λ b o e=>kk b o (hk b o e)) hd (.inr ⟨d,hT,hd⟩) (λ b o e _=>e) (λ b hb1 _=>fresh3 b hb1)) (λ _ s'' h=>Rf h (λ fl s3 ⟨u,e,h⟩=>by subst e;exact h) (λ _ _ h=>h.elim)) (λ _ _ h=>h.elim)
end
def TabsOk (K:Frag) (h:Heap) (tabs:List (Addr × Addr)):Prop:=∀ q ∈ tabs,CodeHd h q.1 q.2 /\ h.get? q.2=some (tabObj #[]) /\ K.lookup q.2=none
def qw (mg:Str->Option Value) (base:Heap) (tabs:List (Addr × Addr)):Prop:=∀ q ∈ tabs,CodeHd base q.1 q.2 /\ base.BuiltinsAt mg q.2 /\ mainGlobals ≠ q.2
def Bl (H:Hp) (tabs:List (Addr × Addr)):Prop:=∀ q ∈ tabs,H q.2=some (.tbl #[])
theorem BR {P:Program} {w:World} {K:Frag} {mg mb:Str->Option Value} {CX:CXT} {k:Nat} {fa a:Addr} {tabs:List (Addr × Addr)} {fd:FuncData} {x:Str} {sp:Sp} {s₁:Shared} {vs:List Value} {ns:List Int}
  (KX:K.In s₁.heap) (hns:s₁.heap.Ns mainGlobals mg) (hb:s₁.heap.Ns builtinsNs mb) (hbb:∀ x:Str,x ≠ "__name__"->mb x=bootBuiltins x) (hlim:s₁.heap.NoLimit) (hg:s₁.gens = #[])
  (hbm:∃ bm ob,mg "__builtins__" = some (.ref bm) /\ bm ≠ builtinsNs /\ s₁.heap.get? bm=some ob /\ ob.cls = .type "module" /\ ob.dict=some builtinsNs /\ ob.data = .plain)
  (hTs:TabsOk K s₁.heap tabs)
  (ha:s₁.heap.get? a=some { cls:=.type "list",data:=.seq vs.toArray }) (hi:IntsAre vs ns) (hl:ns.length ≤ sizeLine) (hr:bU k callerA)
  (F:∀ base:Heap,K.In base->base.Ns mainGlobals mg->qw mg base tabs->aX P w K mg base CX k fa fd [x] sp) (hbind:∀(s:Shared) (u:Value),BindsTo s fd ⟨[u],[]⟩ [(x,u)])
  (hsp:∀ H:Hp,Bl H tabs->SqL K H a (ns.map V.int)->sp [.ref a] H (λ v _=>v = .bl true) λ _ _ _=>False)
  (hCX:∀ H e s',CX [] H s₁ (λ _ _ _=>False) e s'->False) :
  codeAny (model P w) callerA (.call (.ref fa) ⟨[.ref a],[]⟩) (λ r s'=>r = .ok (.ret (.bool true)) /\ OldK s₁.heap s'.heap /\ s'.os=s₁.os /\ AllBare s'.gens) s₁:=by
 have rv:=qM hi
 have lenV:=hi.length
 have tb:∀ {b:Addr},b ∈ tabs.map (·.2)->s₁.heap.get? b=some (tabObj #[]) /\ K.lookup b=none /\ ∃ c,CodeHd s₁.heap c b:=λ hb=>by
  obtain⟨q,hq,rfl⟩:=QS.mp hb
  exact⟨(hTs q hq).2.1,(hTs q hq).2.2,q.1,(hTs q hq).1⟩
 have haT:a ∉ tabs.map (·.2):=λ z=>by
  have:=(tb z).1
  rw [ha] at this;cases this
 have core:∀ H:Hp,(∀ b ∈ tabs.map (·.2),H b=some (.tbl #[]))->(∀ b,b ∉ tabs.map (·.2)->H b=none ∨ ∃ o xs,H b=some (.frz o (.lst xs)))->SqL K H a (ns.map V.int)->HOk P w H s₁.heap->(∀ b,H b ≠ none->b=a ∨ b ∈ tabs.map (·.2))->(H a ≠ none->K.lookup a=none) →
   codeAny (model P w) callerA (.call (.ref fa) ⟨[.ref a],[]⟩) (λ r s'=>r = .ok (.ret (.bool true)) /\ OldK s₁.heap s'.heap /\ s'.os=s₁.os /\ AllBare s'.gens) s₁:=by
  intro H hTH hO hS hok hA hK
  have base_of:∀ {b:Addr} {o:Obj},s₁.heap.get? b=some o->H b=none->(jc s₁.heap H).get? b=some o:=λ e n=>yr e n
  have noA:∀ {b:Addr} {o:Obj},s₁.heap.get? b=some o->(∀ vs n,o.data ≠ .seq vs n)->(o.cls ≠ .none)->H b=none:=λ {b o} e d1 d2=>by
   cases q:H b with
   | none=>rfl
   | some u =>
    rcases hA b (by rw [q];simp) with e' | e'
    ·subst e'
     rw [ha] at e;cases e
     exact absurd rfl (d1 _ _)
    ·rw [(tb e').1] at e;cases e
     exact absurd rfl d2
  have noD:∀ {b:Addr} {o:Obj} {es:Array DictEntry} {ep:Nat},s₁.heap.get? b=some o->o.data = .dict es ep->H b=none:=λ {b o es ep} e d=>by
   cases q:H b with
   | none=>rfl
   | some u =>
    rcases hA b (by rw [q];simp) with e' | e'
    ·subst e'
     rw [ha] at e;cases e
     have d':Data.seq vs.toArray _=Data.dict es ep:=d
     cases d'
    ·rw [(tb e').1] at e;cases e
     have d':Data.fields #[]=Data.dict es ep:=d
     cases d'
  have nsK:∀ {b:Addr} {m:Str->Option Value},s₁.heap.Ns b m->(jc s₁.heap H).Ns b m:=λ {b m} ⟨o,es,ep,e,d,r⟩=>⟨o,es,ep,base_of e (noD e d),d,r⟩
  have hKb:K.In (jc s₁.heap H):=λ b o e=>base_of (KX b o e) (by
   cases q:H b with
   | none=>rfl
   | some u =>
    rcases hA b (by rw [q];simp) with e' | e'
    ·subst e'
     rw [hK (by rw [q];simp)] at e;cases e
    ·rw [(tb e').2.1] at e;cases e)
  have hM:Mod K mg (jc s₁.heap H):=⟨hKb,nsK hns,⟨mb,nsK hb,hbb⟩,let ⟨mc,h1,h2⟩:=hlim;⟨mc,nsK h1,h2⟩⟩
  have e0:jL P w K mg (jc s₁.heap H) callerA [] s₁ H:=⟨rfl,hM,λ b o e=>AA e,UL (wz _ _),trivial,λ b hb=>absurd (show b ∈([]:List Addr) from hb) (by simp),hok,.of_eq hg⟩
  have tin:qw mg (jc s₁.heap H) tabs:=λ q hq=>by
   have hT:=(hTs q hq).2.1
   refine⟨?_,?_,λ z=>?_⟩
   ·obtain⟨o,vs',file,tf,flags,tg,inF,text,tt,e,e2,e3,rest⟩:=(hTs q hq).1
    exact⟨o,vs',file,tf,flags,tg,inF,text,tt,base_of e (noA e (λ _ _ z=>by rw [e3] at z;cases z) (λ z=>by rw [e2] at z;cases z)),e2,e3,rest⟩
   ·obtain⟨bm,ob,e1,e2,e3,e4,e5,e6⟩:=hbm
    refine⟨bm,ob,e1,e2,λ z=>?_,λ z=>?_,base_of e3 (noA e3 (λ _ _ z=>by rw [e6] at z;cases z) (λ z=>by rw [e4] at z;cases z)),e4,e5,e6⟩
    ·obtain⟨o,es,ep,e,d,_⟩:=hns
     rw [← z,e3] at e;cases e
     rw [e6] at d;cases d
    ·rw [z,hT] at e3;cases e3
     cases e4
   ·obtain⟨o,es,ep,e,d,_⟩:=hns
    rw [z,hT] at e;cases e
    have d':Data.fields #[]=Data.dict es ep:=d
    cases d'
  refine SV ((F _ hKb (nsK hns) tin).run callerA [] s₁ H ⟨[.ref a],[]⟩ [.ref a] [.ref a] _ _ hr e0 (hbind s₁ (.ref a)) (.cons rfl .nil) (hsp H (λ q hq=>hTH _ (QS.mpr ⟨q,hq,rfl⟩)) hS)) λ r s' h=>?_
  cases r with
  | error e=>exact(hCX H e s' h).elim
  | ok fl =>
   cases fl with
   | next=>exact False.elim h
   | brk=>exact False.elim h
   | cont=>exact False.elim h
   | ret u =>
    obtain⟨v,H',os,bare,un,hok',r',q⟩:=h
    have q':v = .bl true:=q
    subst q'
    obtain rfl:u=Value.bool true:=r'
    have kept:∀ b o,b ∉ tabs.map (·.2)->s₁.heap.get? b=some o->s'.heap.get? b=some o:=λ b o hb e=>by
     cases q:H b with
     | none=>exact un.keep b o e q (by intro z;exact absurd (show b ∈([]:List Addr) from z) (by simp)) (by simp)
     | some u =>
      rcases hO b hb with z |⟨ob,xs,z⟩
      ·rw [q] at z;cases z
      ·have z2:=un.gb b ob _ z
       obtain⟨e1,_⟩:=hok b _ z
       obtain⟨e2,_⟩:=hok' b _ z2
       rw [e] at e1;cases e1
       exact e2
    have grown:∀ b ∈ tabs.map (·.2),∃ more,s'.heap.get? b=some (tabObj (#[] ++ more)):=λ b hb=>by
     obtain⟨more,z⟩:=un.g9 b #[] (hTH b hb)
     exact⟨more,hok' b _ z⟩
    refine⟨rfl,⟨λ b o e=>?_,λ b o e=>?_⟩,os,bare⟩
    ·by_cases hbT:b ∈ tabs.map (·.2)
     ·obtain⟨more,gr⟩:=grown b hbT
      obtain⟨hT,_,c,hC⟩:=tb hbT
      rw [hT] at e;cases e
      exact .inr (.inl ⟨(hC.tab hT).isCodeTable,rfl,#[],more,rfl,gr⟩)
     ·exact .inl (kept b o hbT e)
    ·by_cases hbT:b ∈ tabs.map (·.2)
     ·obtain⟨more,gr⟩:=grown b hbT
      exact⟨_,gr⟩
     ·exact⟨o,kept b o hbT e⟩
 cases hk:K.lookup a with
 | some o =>
  have e:=KX a o hk
  rw [ha] at e
  cases e
  refine core (λ b=>if b ∈ tabs.map (·.2) then some (.tbl #[]) else none) (λ b hb=>if_pos hb) (λ b hb=>.inl (if_neg hb)) (.inr ⟨_,vs.toArray,_,hk,rfl,rfl,rfl,by rw [QO,lenV];exact hl,by simpa using rv⟩) (λ b u z=>?_) (λ b z=>?_) λ z=>absurd (if_neg haT) z
  ·by_cases hb:b ∈ tabs.map (·.2)
   ·have z':=(if_pos hb).symm.trans z
    cases z'
    exact(tb hb).1
   ·have z':=(if_neg hb).symm.trans z
    cases z'
  ·by_cases hb:b ∈ tabs.map (·.2)
   ·exact .inr hb
   ·exact absurd (if_neg hb) z
 | none =>
  let H0:Hp:=λ b=>if b ∈ tabs.map (·.2) then some (.tbl #[]) else if b=a then some (.frz { cls:=.type "list",data:=.seq vs.toArray } (.lst (ns.map V.int))) else none
  have hHT:∀ b ∈ tabs.map (·.2),H0 b=some (.tbl #[]):=λ b hb=>if_pos hb
  have hHa:H0 a=some (.frz { cls:=.type "list",data:=.seq vs.toArray } (.lst (ns.map V.int))):=by show(if a ∈ tabs.map (·.2) then _ else if a=a then _ else _)=_;rw [if_neg haT,if_pos rfl]
  have hHo:∀ b,b ∉ tabs.map (·.2)->b ≠ a->H0 b=none:=λ b h1 h2=>by show(if b ∈ tabs.map (·.2) then _ else if b=a then _ else _)=_;rw [if_neg h1,if_neg h2]
  refine core H0 hHT (λ b hbT=>?_) (.inl (.inr ⟨_,hHa⟩)) (λ b u z=>?_) (λ b z=>?_) λ _=>hk
  ·by_cases hb:b=a
   ·subst hb;exact .inr ⟨_,_,hHa⟩
   ·exact .inl (hHo b hbT hb)
  ·by_cases hbT:b ∈ tabs.map (·.2)
   ·rw [hHT b hbT] at z;cases z
    exact(tb hbT).1
   ·by_cases hb:b=a
    ·subst hb
     rw [hHa] at z;cases z
     exact⟨ha,by rw [QG];exact hl,vs,_,rv,ha⟩
    ·rw [hHo b hbT hb] at z;cases z
  ·by_cases hbT:b ∈ tabs.map (·.2)
   ·exact .inr hbT
   ·by_cases hb:b=a
    ·exact .inl hb
    ·exact absurd (hHo b hbT hb) z
theorem Dv {K:Frag} {x:Str} {f c T:Addr} {oc oc':Value} {od od':Option Addr} {fd:FuncData} {sl sl':Array (Option Value)} {vs:Array Value} (a:nsIn K mainGlobals x=some (some (.ref f))) (l:K.lookup f=some ⟨oc,od,.func fd,sl⟩) (hc:fd.code = .ref c) (lc:K.lookup c=some ⟨oc',od',.fields vs,sl'⟩) (hv:vs[11]? = some (.ref T)):tabIn K x=some (c,T):=by
 unfold tabIn
 rw [a]
 dsimp only
 rw [l]
 dsimp only
 rw [hc]
 dsimp only
 rw [lc]
 dsimp only
 rw [hv]
theorem DP {l:OpenLaw} {n k:Nat} {q:Program} {loose:List Str} {XP:(Str->Option Value)->Heap->Prop} {YP:World->Heap->Prop} {d:DefRec} {K:Params->Frag} {CX:World->CXT} {sp:World->List (Addr × Addr)->Sp} {x:Str} (ms:List Str)
  (hn:l.most=some n) (hn2:n ≤ sizeLine) (hdf:d.params.defaults = []) (hr:bU k callerA) (hm:ms.all (λ m=>((recsOf q).find? (λ e=>e.name == m)).isSome)=true)
  (hY:∀(w:World) (h:Heap),YP w h->(K w.params).In h)
  (F:∀(w:World) (mg:Str->Option Value) (fa:Addr) (h:Heap),(K w.params).In h->h.Ns mainGlobals mg->mg d.name=some (.ref fa) →
   ∃(tabs:List (Addr × Addr)) (fd:FuncData),(∀ t ∈ tabs,∃ m ∈ ms,tabIn (K w.params) m=some t /\(K w.params).lookup t.2=none) /\(∀(s:Shared) (u:Value),BindsTo s fd ⟨[u],[]⟩ [(x,u)]) ∧
    ∀ base:Heap,(K w.params).In base->base.Ns mainGlobals mg->qw mg base tabs->aX l.prog w (K w.params) mg base (CX w) k fa fd [x] (sp w tabs))
  (hsp:∀(w:World) (tabs:List (Addr × Addr)) (H:Hp) (a:Addr) (ns:List Int),ns.length ≤ n->Bl H tabs->SqL (K w.params) H a (ns.map V.int)->sp w tabs [.ref a] H (λ v _=>v = .bl true) λ _ _ _=>False)
  (hCX:∀(w:World) (H:Hp) (s:Shared) (e:Value) (s':Shared),CX w [] H s (λ _ _ _=>False) e s'->False) :
  WalkO q loose XP YP l.row.toRowW d [] (λ f vs=>PySem.call f vs):=by
 refine Att.sQ hn hdf λ w s₀ s₁ mg mb fa o pm cd doc a vs ns G Y ho hd hcd hmg hobj hints hlen hg=>?_
 have KX:=hY w _ Y
 obtain⟨tabs,fd,ht,hb,hF⟩:=F w mg fa _ KX G.T.g hmg
 have tok:TabsOk (K w.params) s₁.heap tabs:=λ t hq=>by
  obtain⟨m,hm1,h1,h2⟩:=ht t hq
  have:=Wl.mp hm m hm1
  obtain⟨dm,hdm⟩:=R4.mp this
  obtain⟨hC,hT⟩:=tab_of (c:=t.1) (P:=t.2) G.T KX hdm h1
  exact⟨hC,hT,h2⟩
 exact BR KX G.T.g G.T.b G.T.builtins G.T.nolimit hg G.T.bmain tok hobj hints (Rp hlen hn2) hr hF hb (λ H hO hS=>hsp w tabs H a ns hlen hO hS) λ H e s'=>hCX w H s₁ e s'
def vt (vs:Array Value) (n:Nat):Addr:=match vs[n]? with
 | some (.ref a)=>a
 | _=>0
theorem wW:∀(f n r:Nat),minRun' f n r ≤ n + r
 | 0,n,r=>QH _
 | f + 1,n,r=>by
  rw [minRun'_succ]
  split
  ·exact QH _
  ·have:=wW f (n / 2) (max r (n % 2))
   omega
section
variable {prog:Program} {w:World} {A:Around} {E:Value->Shared->Prop} {s:Shared} {a₀:Array Keyed}
theorem EJ {st:SortSt} {Q:Option Nat->SortSt->Prop} (h0:IntKeys a₀) (h1:1 ≤ a₀.size) (hB:SBase a₀ st) (hs:SortedTo (arrOf st) a₀.size) (h:Q (some a₀.size) st):wpS (model prog w) A E s (countRun' 0 a₀.size) Q st:=by
 rw [countRun0_eq]
 refine T5 (wpS_ascLoop h0 (QH _) (QH 1) h1 hB (λ i j hij hj=>by rw [show i=j by omega];exact Wd _) λ n k1 k2 _ hor=>?_)
 have e:n=a₀.size:=by
  rcases hor with e | hlt
  ·exact e
  ·apply Classical.byContradiction
   intro ne
   have:=hs (n - 1) n (by omega) (by omega)
   omega
 subst e
 dsimp only
 rw [if_pos (by simp)]
 exact wpS_pure h
theorem EA {st:SortSt} {Q:Unit->SortSt->Prop} (h0:IntKeys a₀) (hB:SBase a₀ st) (h2:2 ≤ a₀.size) (hs:SortedTo (arrOf st) a₀.size)
  (h:∀ st',(arrOf st').Perm a₀->failedOf st'=none->SortedTo (arrOf st') a₀.size->Q () st'):wpS (model prog w) A E s sortRuns' Q st:=by
 rw [sortRuns'_eq]
 refine T5 (wpS_get ?_)
 have hmr:=wW a₀.size a₀.size 0
 dsimp only
 simp only [hB.size]
 refine T5 (wpS_mono (wpS_forRange
  (I:=λ x c z=>(x=0 /\ c =(none,0) /\ z=st) ∨(1 ≤ x /\ c =(none,a₀.size) /\ SDone a₀ z))
  (Q:=λ c z=>c =(none,a₀.size) /\ SDone a₀ z) ?_ ?_ (.inl ⟨rfl,rfl,rfl⟩)) ?_)
 ·rintro x c z _ hx (⟨rfl,rfl,rfl⟩ |⟨hx1,rfl,hD⟩)
  ·dsimp only
   rw [if_neg (by omega)]
   simp only [Nat.sub_zero,Nat.zero_add]
   refine T5 (EJ h0 (by omega) hB hs ?_)
   dsimp only
   rw [if_neg (by omega)]
   refine T5 (wpS_get ?_)
   rw [show(pendingOf z).back? = none by rw [hB.pend];rfl]
   dsimp only
   exact T5 (wpS_modify (wpS_pure (.inr ⟨by omega,rfl,hB.done hs⟩)))
  ·dsimp only
   rw [if_pos (QH _)]
   exact wpS_pure ⟨rfl,hD⟩
 ·rintro c z (⟨hx,_,_⟩ |⟨_,hc,hD⟩)
  ·omega
  ·exact⟨hc,hD⟩
 ·rintro c z ⟨rfl,hD⟩
  dsimp only
  refine T5 (wpS_mono (wpS_forRange (I:=λ _ c y=>y=z /\ c =(none,())) (Q:=λ c y=>y=z /\ c =(none,())) ?_ (λ _ _ hh=>hh) ⟨rfl,rfl⟩) ?_)
  ·rintro x c y _ _ ⟨rfl,rfl⟩
   refine T5 (wpS_get ?_)
   rw [if_pos (by rw [hD.2.2.1];exact QH 1)]
   exact wpS_pure ⟨rfl,rfl⟩
  ·rintro c y ⟨rfl,rfl⟩
   exact wpS_pure (h _ hD.1 hD.2.1 hD.2.2.2)
end
theorem DN:∀ {vs:List Value} {ns:List Int},IntsAre vs ns->ns.Pairwise (· ≤ ·)->SortedTo (pairsOf vs) (pairsOf vs).size:=λ {vs ns} hI hp i j hij hj=>by
 rw [pairsOf_size] at hj
 have key:∀ k,k < vs.length->K (pairsOf vs) k=ns.getD k 0:=λ k hk=>by
  have hz:(pairsOf vs)[k]? = some (vs[k],vs[k]):=by
   show(vs.toArray.zip vs.toArray)[k]? = _
   rw [Array.getElem?_eq_getElem (by simp;exact hk)]
   simp
  unfold K
  rw [hz]
  dsimp only
  clear hz hij hj hp
  induction hI generalizing k with
  | nil=>exact absurd hk (WG _)
  | cons n t r ih=>cases k with
   | zero=>rfl
   | succ k=>simpa using ih k (by simpa using hk)
 have hl:ns.length=vs.length:=(uE hI).symm
 rw [key i (by omega),key j hj]
 rcases Nat.lt_or_eq_of_le hij with h | rfl
 ·have:=(List.pairwise_iff_getElem.mp hp) i j (by omega) (by omega) h
  simpa [List.getD_eq_getElem?_getD,hl,hj,show i < vs.length by omega] using this
 ·exact Wd _
section
variable {prog:Program} {w:World} {A:Around} {E:Value->Shared->Prop} {s:Shared}
theorem zD {a:Addr} {vs:List Value} {ns:List Int} {n:Nat} {P:PySem.Fin->Shared->Prop} (ho:s.heap.get? a=some (seqObj "list" vs.toArray n)) (hI:IntsAre vs ns) (hup:ns.Pairwise (· ≤ ·)) (hb:vs.length ≤ 900) (h2:2 ≤ vs.length)
  (h:∀(out:Array Value) (ns':List Int),IntsAre out.toList ns'->ns'.Perm ns->ns'.Pairwise (· ≤ ·)->P (.done (.ret .none)) { s with heap:=sortedHeap s.heap a vs out }):wpAny (model prog w) A (Builtin.«list.sort» ⟨[.ref a],[]⟩) P E s:=by
 rw [list_sort_plain]
 have ha:a < s.heap.objs.size:=QF ho
 have hb1:vs.toArray.size ≤ sizeLine:=by
  rw [QO];exact RM (aY (by omega))
 refine QB (listItems_at ho rfl ?_)
 refine QB (listUpdate_at ho rfl ?_ (hsz:=hb1) (hsz2:=Rm _))
 obtain⟨e1,ho1⟩:∃ e1,(s.heap.update a (Obj.mapSeq λ _=>#[])).get? a=some (seqObj "list" #[] e1):=⟨_,get?_update_seq ho (λ _=>#[])⟩
 refine QB (seqEpoch_at ho1 rfl ?_)
 refine QB (wpAny_newTuple ?_ (by simpa using hb1))
 refine QB (Vy ?_)
 refine RK ?_
 have ho6:(((s.heap.update a (Obj.mapSeq λ _=>#[])).push (seqObj "tuple" vs.toArray 0)).push (seqObj "list" #[] 0)).get? a=some (seqObj "list" #[] e1):=by
  rw [Heap.get?_push_ne _ _ _ (by rw [size_push',Heap.size_update];exact QN (Sa ha)),Heap.get?_push_ne _ _ _ (by rw [Heap.size_update];exact QN ha)]
  exact ho1
 show wpAny (model prog w) A _ P E { s with heap:=((s.heap.update a (Obj.mapSeq λ _=>#[])).push (seqObj "tuple" vs.toArray 0)).push (seqObj "list" #[] 0) }
 dsimp only
 have hn2:¬ vs.toArray.size < 2:=by simp;omega
 rw [if_neg hn2,if_neg hn2]
 obtain⟨v₁,v₂,rest,rfl⟩:∃ v₁ v₂ rest,vs=v₁ :: v₂ :: rest:=by
  match vs,h2 with
  | [],h2=>simp at h2
  | [_],h2=>simp at h2
  | v₁ :: v₂ :: rest,_=>exact⟨v₁,v₂,rest,rfl⟩
 rw [keyKind_ints hI]
 refine QB (QI ?_)
 refine QB (Rf (EA (a₀:=pairsOf (v₁ :: v₂ :: rest)) (st:=SortSt.mk' oneType' ((v₁ :: v₂ :: rest).toArray.zip (v₁ :: v₂ :: rest).toArray) #[] 7 none)
  (Q:=λ _ z=>(arrOf z).Perm (pairsOf (v₁ :: v₂ :: rest)) /\ failedOf z=none /\ SortedTo (arrOf z) (pairsOf (v₁ :: v₂ :: rest)).size)
  hI.intKeys ⟨Array.Perm.refl _,rfl,rfl,rfl⟩ (by rw [pairsOf_size];exact h2) (DN hI hup) λ z a1 a2 a3=>⟨a1,a2,a3⟩) ?_ λ _ _ e=>e)
 rintro⟨⟨⟩,z⟩ s' ⟨rfl,hp,hf,hs⟩
 dsimp only
 refine QB (seqEpoch_at ho6 rfl ?_)
 refine QB (listUpdate_at ho6 rfl ?_ (hsz:=Rm _) (hsz2:=by refine Rp (UL ((Array.size_map ..).trans (hp.size_eq.trans (pairsOf_size _)))) (Nat.le_succ_of_le (by simpa using hb1))))
 rw [hf]
 simp only [bne_self_eq_false,Bool.false_eq_true,if_false]
 obtain⟨ns',h1,h2,h3⟩:=sorted_out hI hp hs
 exact QI (h _ ns' h1 h2 h3)
theorem xG {a:Addr} {vs:List Value} {ns:List Int} {n:Nat} {P:PySem.Fin->Shared->Prop} (ho:s.heap.get? a=some (seqObj "list" vs.toArray n)) (hI:IntsAre vs ns) (hb:vs.length < 64 ∨(ns.Pairwise (· ≤ ·) /\ vs.length ≤ 900))
  (h:∀(out:Array Value) (ns':List Int),IntsAre out.toList ns'->ns'.Perm ns->ns'.Pairwise (· ≤ ·)->P (.done (.ret .none)) { s with heap:=sortedHeap s.heap a vs out }):wpAny (model prog w) A (Builtin.«list.sort» ⟨[.ref a],[]⟩) P E s:=by
 by_cases hl:vs.length < 64
 ·exact list_sort_tree ho hI hl h
 ·obtain⟨h1,h2⟩:=hb.resolve_left hl
  exact zD ho hI h1 h2 (by omega) h
end
section
variable {X:Cx}
theorem xE (hc:X.calm=true):iX X (.builtin "sorted") (λ xs H Q=>∃(a:Addr) (kvs:List (Key × V)) (ns:List Int),xs = [.ref a] /\ H a=some (.dK kvs) /\ kvs.map (·.1)=ns.map Sum.inl /\(ns.length < 64 ∨(ns.Pairwise (· ≤ ·) /\ ns.length ≤ 900)) ∧
  ∀(l:Addr) (ns':List Int),H l=none->ns'.Perm ns->ns'.Pairwise (· ≤ ·)->Q (.ref l) (upd H l (.lst (ns'.map V.int)))):=by
 rintro pins s σ H xs us Q I r ⟨a,kvs,ns,rfl,hD,hk,hbn,q⟩
 have hn1000:ns.length ≤ 1000:=by omega
 obtain⟨u,rfl,ru⟩:=vals1 r
 cases (show u=Value.ref a from ru)
 obtain⟨hsz,lo,vs,kv,hd⟩:=oR I.hok hD
 obtain⟨ep,hat⟩:=hd.dictAt
 have hkeys:=kv.keys
 have hvl:vs.length=ns.length:=by
  have:=congrArg List.length (hkeys.symm.trans hk)
  simpa using this
 refine UI kind_sorted plain_sorted entry_sorted (args_sorted1 _) ?_
 unfold Builtin.«sorted»
 refine QB (m:=checkCount "sorted" 1 1 _) (QI ?_)
 refine QB (VF (A:=X.A.in1) (Wk (knd:=bG X.prog X.w) (kvs:=vs) (ep:=ep) lo) (I.ok.hd hc) hat (by rw [hvl];exact RM (aY hn1000)) λ h' tk acc keep hacc=>?_)
 have hI:IntsAre acc.toList ns:=by
  refine UE ?_
  have hal:acc.toList.length=ns.length:=by rw [Tu,hacc.1,hvl]
  have key:∀(j:Nat) v,acc.toList[j]? = some v->∃ n t,ns[j]? = some n /\ v=Value.int n t:=λ j v e=>by
   obtain⟨k,x,h1,h2⟩:=hacc.2 j v (by rw [← Ti];exact e)
   have e1:(vs.map (·.1))[j]? = some k:=by rw [QK,h1];rfl
   rw [← hkeys,hk,QK] at e1
   obtain⟨n,e2,e3⟩:=QX.mp e1
   subst e3
   have h2:lq (Sum.inl n) v=true:=h2
   rcases cj h2 with⟨i,t,e5,e4⟩ |⟨y,t,e5,e4⟩
   ·first |(cases e4;subst e5;exact⟨n,t,e2,rfl⟩) |(cases e5;subst e4;exact⟨n,t,e2,rfl⟩)
   ·first |(cases e4;done) |(cases e5;done)
  clear hacc
  generalize acc.toList=us at hal key
  clear hk hvl hbn hn1000 q
  induction us generalizing ns with
  | nil=>cases ns with
   | nil=>exact .nil
   | cons n ns=>simp at hal
  | cons u us ih=>cases ns with
   | nil=>simp at hal
   | cons n ns =>
    obtain⟨m,t,e1,e2⟩:=key 0 u rfl
    have e1:n=m:=by simpa using e1
    subst e1
    exact .cons ⟨t,e2⟩ (ih (ns:=ns) (by simpa using hal) λ j v e=>by
     obtain⟨m,t,a1,a2⟩:=key (j + 1) v (by simpa using e)
     exact⟨m,t,by simpa using a1,a2⟩)
 have hal:acc.toList.length=ns.length:=uE hI
 refine QB (Vy ?_ (RM (aY (by omega))))
 have hoL:(h'.push (seqObj "list" acc.toList.toArray 0)).get? h'.objs.size=some (seqObj "list" acc.toList.toArray 0):=QU _ rfl
 refine QB (RK (Sz slot_list_sort ⟨_,hoL,rfl⟩ entry_list_sort (xG hoL hI (by rw [hal];exact hbn) λ out ns' b1 b2 b3=>⟨_,rfl,?_⟩) (args_list_sort _)))
 refine QI ⟨_,rfl,?_⟩
 obtain⟨e,hat2⟩:=sortedHeap_at (out:=out) hoL
 have hno:s.heap.get? h'.objs.size=none:=by
  cases z:s.heap.get? h'.objs.size with
  | none=>rfl
  | some o=>exact absurd (QF (keep _ _ z)) (Su _)
 have hlen:ns'.length ≤ sizeLine:=by rw [b2.length_eq];exact RM (aY hn1000)
 have keep2:∀ b o,s.heap.get? b=some o->(sortedHeap (h'.push (seqObj "list" acc.toList.toArray 0)) h'.objs.size acc.toList out).get? b=some o:=λ b o z=>by
  have hb:=keep b o z
  have hlt:=QF hb
  rw [sortedHeap_old (QN hlt) (by rw [size_push'];exact Sa hlt)]
  exact QD _ hb
 obtain⟨H',I',_⟩:=I.B8 (t':=tk) (vs:=ns'.map V.int) hno keep2 ⟨by rw [QG];exact hlen,out.toList,e,rZ b1,by simpa using hat2⟩
 exact⟨.ref h'.objs.size,_,I',rfl,q _ ns' H' b2 b3⟩
end
end L2
namespace Mine
open PySem L2
def top (i:Nat):Stmt:=PySem.Challenge.pw_keepsakes_k39_whole_least_ways_fetched.main.body.getD i (.Pass ⟨0,0,0,0⟩)
abbrev cH:Stmt:=inClass (top 3) 0
abbrev cI:Stmt:=inClass (top 4) 0
abbrev di:Stmt:=inClass (top 5) 0
abbrev cD:Stmt:=inClass (top 6) 0
abbrev dO:Stmt:=inClass (top 9) 0
abbrev iH:Stmt:=inClass (top 9) 1
abbrev gk:Stmt:=inClass (top 9) 2
abbrev gP:Stmt:=inClass (top 9) 3
abbrev gS:Stmt:=inClass (top 9) 4
abbrev g5:Stmt:=inClass (top 9) 6
abbrev gV:Stmt:=inClass (top 9) 7
abbrev cC:Stmt:=inClass (top 9) 8
abbrev gU:Stmt:=inClass (top 9) 9
abbrev qd:Stmt:=top 11
abbrev jg:Stmt:=top 12
abbrev jS:Stmt:=top 13
abbrev gZ:Stmt:=top 14
abbrev jT:Stmt:=top 15
abbrev dS:Stmt:=top 16
abbrev iK:Stmt:=top 17
abbrev gu:Stmt:=top 18
abbrev jP:Stmt:=top 21
abbrev iN:Stmt:=top 22
abbrev dD:Stmt:=inClass (top 24) 0
abbrev gf:Stmt:=inClass (top 24) 1
abbrev dR:Stmt:=inClass (top 24) 2
abbrev eE:Stmt:=inClass (top 24) 3
abbrev dz:Stmt:=inClass (top 25) 0
abbrev fB:Stmt:=inClass (top 25) 1
abbrev gq:Stmt:=inClass (top 25) 3
abbrev cW:Stmt:=inClass (top 25) 4
abbrev dP:Stmt:=inClass (top 26) 0
abbrev gj:Stmt:=inClass (top 26) 1
abbrev gQ:Stmt:=inClass (top 26) 3
abbrev dj:Stmt:=inClass (top 26) 4
abbrev dw:Stmt:=inClass (top 28) 0
abbrev gY:Stmt:=inClass (top 28) 1
abbrev gR:Stmt:=inClass (top 28) 2
abbrev fC:Stmt:=inClass (top 28) 3
abbrev dQ:Stmt:=inClass (top 28) 5
abbrev jj:Stmt:=top 30
abbrev eG:Stmt:=top 32
abbrev fZ:Stmt:=top 34
abbrev iM:Stmt:=top 35
abbrev g7:Stmt:=top 36
abbrev iJ:Stmt:=top 37
abbrev gW:Stmt:=top 38
abbrev fU:Stmt:=top 39
abbrev fV:Stmt:=top 40
abbrev g4:Stmt:=top 41
abbrev er:Stmt:=top 42
abbrev gX:Stmt:=top 43
abbrev lz:Stmt:=top 44
abbrev dh:Stmt:=(aJ qd).getD 0 (.Pass ⟨0,0,0,0⟩)
theorem EI:vN "piece" ["seek","each"] (av dh):=⟨rfl,rfl,rfl,by decide +kernel,rfl,by decide +kernel,by decide +kernel,by decide +kernel⟩
theorem pZ:aP ["self","place"] ["self","place"] (av cH):=⟨rfl,rfl,rfl,by decide +kernel,rfl,by decide +kernel,by decide +kernel⟩
theorem p9:aP ["self","number"] ["self","number"] (av cI):=⟨rfl,rfl,rfl,by decide +kernel,rfl,by decide +kernel,by decide +kernel⟩
theorem sI:aP ["self","at"] ["self","at"] (av di):=⟨rfl,rfl,rfl,by decide +kernel,rfl,by decide +kernel,by decide +kernel⟩
theorem pL:aP ["self","day"] ["self","day"] (av cD):=⟨rfl,rfl,rfl,by decide +kernel,rfl,by decide +kernel,by decide +kernel⟩
theorem tL:aP ["self"] ["self"] (av dO):=⟨rfl,rfl,rfl,by decide +kernel,rfl,by decide +kernel,by decide +kernel⟩
theorem zI:aP ["self","item"] ["self","item"] (av iH):=⟨rfl,rfl,rfl,by decide +kernel,rfl,by decide +kernel,by decide +kernel⟩
theorem xP:aP ["self"] ["self"] (av gk):=⟨rfl,rfl,rfl,by decide +kernel,rfl,by decide +kernel,by decide +kernel⟩
theorem mz:aP ["self","item","last"] ["self"] (av gP):=⟨rfl,rfl,rfl,by decide +kernel,rfl,by decide +kernel,by decide +kernel⟩
theorem yc:aP ["self"] ["self"] (av gS):=⟨rfl,rfl,rfl,by decide +kernel,rfl,by decide +kernel,by decide +kernel⟩
theorem lP:aP ["self","place","low"] ["self","place"] (av g5):=⟨rfl,rfl,rfl,by decide +kernel,rfl,by decide +kernel,by decide +kernel⟩
theorem ir:aP ["self","place","high","low"] ["self","place"] (av gV):=⟨rfl,rfl,rfl,by decide +kernel,rfl,by decide +kernel,by decide +kernel⟩
theorem jt:aP ["self","place","low"] ["self","place"] (av cC):=⟨rfl,rfl,rfl,by decide +kernel,rfl,by decide +kernel,by decide +kernel⟩
theorem qq:aP ["self","one","other","item"] ["self","one","other"] (av gU):=⟨rfl,rfl,rfl,by decide +kernel,rfl,by decide +kernel,by decide +kernel⟩
theorem kZ:aP ["shelf","cost","legs","number","piece"] ["shelf","cost"] (av jg):=⟨rfl,rfl,rfl,by decide +kernel,rfl,by decide +kernel,by decide +kernel⟩
theorem ji:aP ["legs","starting","priced","heap","item","leg"] ["legs"] (av jS):=⟨rfl,rfl,rfl,by decide +kernel,rfl,by decide +kernel,by decide +kernel⟩
theorem iw:aP ["legs","priced","last","leg","start"] ["legs"] (av gZ):=⟨rfl,rfl,rfl,by decide +kernel,rfl,by decide +kernel,by decide +kernel⟩
theorem jf:aP ["legs","day","last","starts","way","at"] ["legs","day"] (av jT):=⟨rfl,rfl,rfl,by decide +kernel,rfl,by decide +kernel,by decide +kernel⟩
theorem iZ:aP ["legs","starting","leg"] ["legs"] (av dS):=⟨rfl,rfl,rfl,by decide +kernel,rfl,by decide +kernel,by decide +kernel⟩
theorem zM:aP ["priced","start"] ["priced","start"] (av iK):=⟨rfl,rfl,rfl,by decide +kernel,rfl,by decide +kernel,by decide +kernel⟩
theorem xK:aP ["price","leg"] ["price","leg"] (av gu):=⟨rfl,rfl,rfl,by decide +kernel,rfl,by decide +kernel,by decide +kernel⟩
theorem B0:aP ["number"] ["number"] (av jP):=⟨rfl,rfl,rfl,by decide +kernel,rfl,by decide +kernel,by decide +kernel⟩
theorem fR:aP ["start","day","rows","numbers","place","block","check","number"] ["start","day","rows"] (av iN):=⟨rfl,rfl,rfl,by decide +kernel,rfl,by decide +kernel,by decide +kernel⟩
theorem kO:aP ["self","start","day","rows","check","fitting"] ["self","start","day","rows","check"] (av dD):=⟨rfl,rfl,rfl,by decide +kernel,rfl,by decide +kernel,by decide +kernel⟩
theorem xF:aP ["self"] ["self"] (av gf):=⟨rfl,rfl,rfl,by decide +kernel,rfl,by decide +kernel,by decide +kernel⟩
theorem tP:aP ["self"] ["self"] (av dR):=⟨rfl,rfl,rfl,by decide +kernel,rfl,by decide +kernel,by decide +kernel⟩
theorem jx:aP ["self","at","bits","rows","row"] ["self","at","bits"] (av eE):=⟨rfl,rfl,rfl,by decide +kernel,rfl,by decide +kernel,by decide +kernel⟩
theorem sN:aP ["self","day","rows","check"] ["self","day","rows","check"] (av dz):=⟨rfl,rfl,rfl,by decide +kernel,rfl,by decide +kernel,by decide +kernel⟩
theorem vH:aP ["self"] ["self"] (av fB):=⟨rfl,rfl,rfl,by decide +kernel,rfl,by decide +kernel,by decide +kernel⟩
theorem xx:aP ["self","table"] ["self","table"] (av gq):=⟨rfl,rfl,rfl,by decide +kernel,rfl,by decide +kernel,by decide +kernel⟩
theorem qI:aP ["self","rows"] ["self","rows"] (av cW):=⟨rfl,rfl,rfl,by decide +kernel,rfl,by decide +kernel,by decide +kernel⟩
theorem tO:aP ["self","base","day","rows","check"] ["self","base","day","rows","check"] (av dP):=⟨rfl,rfl,rfl,by decide +kernel,rfl,by decide +kernel,by decide +kernel⟩
theorem xq:aP ["self"] ["self"] (av gj):=⟨rfl,rfl,rfl,by decide +kernel,rfl,by decide +kernel,by decide +kernel⟩
theorem jB:aP ["self","table","blocks","place","block"] ["self","table"] (av gQ):=⟨rfl,rfl,rfl,by decide +kernel,rfl,by decide +kernel,by decide +kernel⟩
theorem sP:aP ["self","rows"] ["self","rows"] (av dj):=⟨rfl,rfl,rfl,by decide +kernel,rfl,by decide +kernel,by decide +kernel⟩
theorem sM:aP ["self"] ["self"] (av dw):=⟨rfl,rfl,rfl,by decide +kernel,rfl,by decide +kernel,by decide +kernel⟩
theorem qe:aP ["self","piece","number"] ["self","piece"] (av gY):=⟨rfl,rfl,rfl,by decide +kernel,rfl,by decide +kernel,by decide +kernel⟩
theorem ya:aP ["self","number","piece"] ["self","number","piece"] (av gR):=⟨rfl,rfl,rfl,by decide +kernel,rfl,by decide +kernel,by decide +kernel⟩
theorem vG:aP ["self","number"] ["self","number"] (av fC):=⟨rfl,rfl,rfl,by decide +kernel,rfl,by decide +kernel,by decide +kernel⟩
theorem tG:aP ["self"] ["self"] (av dQ):=⟨rfl,rfl,rfl,by decide +kernel,rfl,by decide +kernel,by decide +kernel⟩
theorem fK:aP ["shelf","way","table","day","at","number","piece"] ["shelf","way"] (av jj):=⟨rfl,rfl,rfl,by decide +kernel,rfl,by decide +kernel,by decide +kernel⟩
theorem uT:aP ["_law_script","_law_k"] ["_law_script","_law_k"] (av eG):=⟨rfl,rfl,rfl,by decide +kernel,rfl,by decide +kernel,by decide +kernel⟩
theorem gH:aP ["_law_cell","_law_many","_law_found","_law_number","_law_k"] ["_law_cell","_law_many"] (av fZ):=⟨rfl,rfl,rfl,by decide +kernel,rfl,by decide +kernel,by decide +kernel⟩
theorem g6:aP ["_law_cell","_law_tables","_law_places","_law_xs","_law_table","_law_here","_law_k","_law_place"] ["_law_cell","_law_tables","_law_places"] (av iM):=⟨rfl,rfl,rfl,by decide +kernel,rfl,by decide +kernel,by decide +kernel⟩
theorem mw:aP ["_law_tables","_law_places","_law_base","_law_day_here","_law_here","_law_k"] ["_law_tables","_law_places","_law_base","_law_day_here"] (av g7):=⟨rfl,rfl,rfl,by decide +kernel,rfl,by decide +kernel,by decide +kernel⟩
theorem iR:aP ["_law_shelf","_law_facts","_law_piece","_law_fact","_law_cell","_law_xs","_law_bad"] ["_law_shelf","_law_facts","_law_piece","_law_fact","_law_cell"] (av iJ):=⟨rfl,rfl,rfl,by decide +kernel,rfl,by decide +kernel,by decide +kernel⟩
theorem eV:aP ["_law_cell","_law_tables","_law_places","_law_shelf","_law_facts","_law_xs","_law_day_here","_law_wide","_law_base","_law_piece"] ["_law_cell","_law_tables","_law_places","_law_shelf","_law_facts"] (av gW):=⟨rfl,rfl,rfl,by decide +kernel,rfl,by decide +kernel,by decide +kernel⟩
theorem xH:aP ["_law_price","_law_fact","_law_rates"] ["_law_price","_law_fact","_law_rates"] (av fU):=⟨rfl,rfl,rfl,by decide +kernel,rfl,by decide +kernel,by decide +kernel⟩
theorem cY:aP ["_law_facts","_law_known","_law_rates","_law_number","_law_start","_law_day_here","_law_bad","_law_many","_law_here"] ["_law_facts","_law_known","_law_rates"] (av fV):=⟨rfl,rfl,rfl,by decide +kernel,rfl,by decide +kernel,by decide +kernel⟩
theorem jA:aP ["_law_facts","_law_lasts","_law_day_here","_law_way"] ["_law_facts","_law_lasts","_law_day_here"] (av g4):=⟨rfl,rfl,rfl,by decide +kernel,rfl,by decide +kernel,by decide +kernel⟩
theorem ic:aP ["_law_shelf","_law_way","_law_day_here","_law_caught","e"] ["_law_shelf","_law_way","_law_day_here"] (av er):=⟨rfl,rfl,rfl,by decide +kernel,rfl,by decide +kernel,by decide +kernel⟩
theorem eY:aP ["_law_shelf","_law_facts","_law_way","_law_price","_law_table","_law_rates","_law_due","_law_first","_law_number","_law_found"] ["_law_shelf","_law_facts","_law_way","_law_price","_law_table","_law_rates"] (av gX):=⟨rfl,rfl,rfl,by decide +kernel,rfl,by decide +kernel,by decide +kernel⟩
theorem dY:aP ["_law_script","_law_head","_law_wide","_law_most","_law_rates","_law_tables","_law_places","_law_shelf","_law_facts","_law_cell","_law_legs","_law_known","_law_lasts","_law_day_here","_law_last"] ["_law_script"] (av lz):=⟨rfl,rfl,rfl,by decide +kernel,rfl,by decide +kernel,by decide +kernel⟩
def Ed:Stmt->Pos
 | .FunctionDef _ _ _ _ _ _ _ _ _ p=>p
 | _=>⟨0,0,0,0⟩
theorem aT {k:Nat} {x:V} {σ:St} (σ':St) {H:Hp} {N:St->Hp->Prop} (h:N σ' H) (e:σ.set k (some x)=σ':=by rfl):Bo k x σ H N:=by subst e;exact h
theorem bY {S1 R:TS} {D:Ends} {σ:St} {H:Hp} (Post:St->Hp->Prop) (h:∀ N:St->Hp->Prop,(∀ σ' H',Post σ' H'->N σ' H')->S1 { D with nx:=N } σ H) (hr:∀ σ' H',Post σ' H'->R D σ' H'):A1 S1 R D σ H:=h (R D) hr
theorem rC {c:TT} {t u:TS} {D:Ends} {σ:St} {H:Hp} (hc:∀ Q:Bool->Hp->Prop,Q true H->c σ H Q) (h:t D σ H):qi c t u D σ H:=hc _ (dX h)
theorem pN {c:TT} {t u:TS} {D:Ends} {σ:St} {H:Hp} (hc:∀ Q:Bool->Hp->Prop,Q false H->c σ H Q) (h:u D σ H):qi c t u D σ H:=hc _ (dM h)
theorem vD {c:TT} {t u:TS} {D:Ends} {σ:St} {H:Hp} (b:Bool) (P:Hp->Prop) (hc:∀ Q:Bool->Hp->Prop,(∀ H',P H'->Q b H')->c σ H Q) (ht:b=true->∀ H',P H'->t D σ H') (hu:b=false->∀ H',P H'->u D σ H'):qi c t u D σ H:=hc _ λ H' p=>by
 cases b with
 | true=>exact dX (ht rfl H' p)
 | false=>exact dM (hu rfl H' p)
theorem wN {H H5:Hp} {a:Addr} {u w:HO} (h:H a=some w) (s:az (upd H a u) H5):az H (upd H5 a w):=λ b o e=>by
 by_cases hb:b=a
 ·subst hb;rw [ak,← h];exact e
 ·rw [af hb];exact s b o (by rw [af hb];exact e)
theorem Ao:∀ {fk:List (Key × V)},g8 fk->∃ ns:List Int,fk.map (·.1)=ns.map Sum.inl
 | [],_=>⟨[],rfl⟩
 | kv :: r,h=>by
  obtain⟨n,hn⟩:=h kv (by simp)
  obtain⟨ns,e⟩:=Ao (fk:=r) λ x hx=>h x (by simp [hx])
  exact⟨n :: ns,by rw [Rk,Rk,e,hn]⟩
theorem Cu {x y k:Int} (h0:0 ≤ k) (h1:k < 2):∃ z,atI [V.int x,V.int y] k=some (V.int z) /\(z=x ∨ z=y):=by
 have:k=0 ∨ k=1:=by omega
 rcases this with rfl | rfl
 ·exact⟨x,rfl,.inl rfl⟩
 ·exact⟨y,rfl,.inr rfl⟩
theorem Ay {ds:List Int} {k:Int} (h0:0 ≤ k) (h1:k <(ds.length:Int)):∃ z,atI (ds.map V.int) k=some (V.int z) /\ z ∈ ds:=by
 obtain⟨j,rfl⟩:∃ j:Nat,k =(j:Int):=⟨k.toNat,by omega⟩
 have hj:j < ds.length:=by omega
 exact⟨ds[j],bw (by rw [QK,QC hj];rfl),R8 hj⟩
theorem qc {c:TT} {t u:TS} {D:Ends} {σ:St} {H:Hp} (hc:∀ Q:Bool->Hp->Prop,Q true H->Q false H->c σ H Q) (ht:t D σ H) (hu:u D σ H):qi c t u D σ H:=hc _ (dX ht) (dM hu)
theorem xT {H H':Hp} {d:Addr} {u:HO} (s:az (upd H d u) H'):aV [d] H H':=λ b o e hb=>s b o (by rw [af (by simpa using hb)];exact e)
theorem Hy {c:TT} {t u:TS} {D:Ends} {σ:St} {H:Hp} (PT PF:Hp->Prop) (hc:∀ Q:Bool->Hp->Prop,(∀ H',PT H'->Q true H')->(∀ H',PF H'->Q false H')->c σ H Q) (ht:∀ H',PT H'->t D σ H') (hu:∀ H',PF H'->u D σ H'):qi c t u D σ H:=hc _ (λ H' p=>dX (ht H' p)) λ H' p=>dM (hu H' p)
theorem En {c:TT} {t u R:TS} {D:Ends} {σ:St} {H:Hp} (hc:∀ Q:Bool->Hp->Prop,Q true H->c σ H Q) (h:t { D with nx:=R D } σ H):A1 (qi c t u) R D σ H:=hc _ (dX h)
theorem EM {c:TT} {t R:TS} {D:Ends} {σ:St} {H:Hp} (hc:∀ Q:Bool->Hp->Prop,Q false H->c σ H Q) (h:R D σ H):A1 (qi c t ly) R D σ H:=hc _ (dM h)
theorem nZ {H:Hp} {a:Addr} {o o':HO}:upd (upd H a o) a o'=upd H a o':=by
 funext b
 by_cases h:b=a
 ·subst h;rw [ak,ak]
 ·rw [af h,af h,af h]
def uG (C:Addr):Sp:=λ vs H Q _=>∃(p dx:Addr),vs = [.ref p] /\ H p=some (.ins C dx []) /\ ∀ r H',H r=none->dc C true H' p r [] []->dc C false H' p r [] []->aV [p] H H'->Q .non H'
def rV (C:Addr):Sp:=λ vs H Q _=>∃(tu:Bool) (p r:Addr) (xs:List V) (its:List (List Int)) (i j:Nat),vs = [.ref p,.int (i:Int),.int (j:Int)] /\ dc C tu H p r xs its /\ i < its.length /\ j < its.length ∧
 ∀ xs' H',dc C tu H' p r xs' (swp its i j)->aV [r] H H'->Q .non H'
def qC (C:Addr):Sp:=λ vs H Q _=>∃(tu:Bool) (p r:Addr) (xs:List V) (its:List (List Int)) (i:Nat),vs = [.ref p,.int (i:Int)] /\ dc C tu H p r xs its /\ Q (.int (lsr its i:Int)) H
def vY (C:Addr):Sp:=λ vs H Q _=>∃(tu:Bool) (p r:Addr) (xs:List V) (its:List (List Int)) (k:Nat),vs = [.ref p,.int (k:Int)] /\ dc C tu H p r xs its /\ k < its.length /\ uX its k ∧
 ∀ xs' its' H',dc C tu H' p r xs' its'->jX its'->its'.Perm its->aV [r] H H'->Q .non H'
def vB (C:Addr):Sp:=λ vs H Q _=>∃(tu:Bool) (p r:Addr) (xs:List V) (its:List (List Int)) (k:Nat),vs = [.ref p,.int (k:Int)] /\ dc C tu H p r xs its /\ k < its.length /\ uK its k ∧
 ∀ xs' its' H',dc C tu H' p r xs' its'->jX its'->its'.Perm its->aV [r] H H'->Q .non H'
def zC (C:Addr):Sp:=λ vs H Q _=>∃(tu:Bool) (p r:Addr) (xs:List V) (its:List (List Int)) (v:V) (ks:List Int),vs = [.ref p,v] /\ dc C tu H p r xs its /\ jX its /\ ie tu H v ks /\ its.length < 100000 ∧
 ∀ xs' its' H',dc C tu H' p r xs' its'->jX its'->its'.Perm (its ++ [ks])->aV [r] H H'->Q .non H'
def uf (C CN:Addr):Sp:=λ vs H Q E=>∃(tu:Bool) (p r:Addr) (xs:List V) (its:List (List Int)),vs = [.ref p] /\ dc C tu H p r xs its /\ jX its ∧
 (∀ v,its ≠ []->xs[0]? = some v->ie tu H v (gK its 0)->(∀ ks ∈ its,Le (gK its 0) ks)->Q v H) /\(its = []->∀ e H',ExcAt H' e CN []->az H H'->E (.ref CN) (some e) H')
def wm (C CN:Addr):Sp:=λ vs H Q E=>∃(tu:Bool) (p r:Addr) (xs:List V) (its:List (List Int)),vs = [.ref p] /\ dc C tu H p r xs its /\ jX its ∧
 (its ≠ []->∀ v m xs' its' H',ie tu H' v m->dc C tu H' p r xs' its'->jX its'->its.Perm (m :: its')->(∀ ks ∈ its,Le m ks)->v ∈ xs->aV [r] H H'->Q v H') /\(its = []->∀ e H',ExcAt H' e CN []->az H H'->E (.ref CN) (some e) H')
def tN (C:Addr):Sp:=λ vs H Q _=>∃(tu:Bool) (p r:Addr) (xs:List V) (its:List (List Int)),vs = [.ref p] /\ dc C tu H p r xs its /\ Q (.int (its.length:Int)) H
theorem Gp {l:List (List Int)} (h:jX l):∀ ks ∈ l,Le (gK l 0) ks:=λ ks hk=>by
 obtain⟨i,hi,e⟩:=List.getElem_of_mem hk
 have:=DX h i hi
 rw [show gK l i=ks by simp [gK,List.getD_eq_getElem?_getD,hi,e]] at this
 exact this
theorem iF {m:Str} {r:Addr} (h:¬ m = "row"):([("row",V.ref r)]:List (Str × V)).lookup m=none:=by rw [ER h];rfl
def rJ:Sp:=λ vs H Q _=>∃(a b:Addr) (p:List Int) (g:Leg),vs = [.ref a,.ref b] /\ fN p /\ H a=some (.tup (p.map V.int)) /\ H b=some (.tup ((ja g).map V.int)) /\ ∀ t,H t=none->Q (.ref t) (upd H t (.tup ((bO p g).map V.int)))
def jC (LV:List V) (legs:List Leg) (d:Int):List V:=((LV.zip legs).filter λ x=>decide (x.2.start=d)).map (·.1)
structure Fw (H:Hp) (kvs:List (Key × V)) (LV:List V) (legs:List Leg):Prop where
 val:∀ d,(∃ l,bg kvs (Sum.inl d)=some (.ref l) /\ H l=some (.lst (jC LV legs d))) ∨(bg kvs (Sum.inl d)=none /\ jC LV legs d = [])
def xV:Sp:=λ vs H Q _=>∃(a:Addr) (LV:List V) (legs:List Leg),vs = [.ref a] /\ H a=some (.lst LV) /\ bI true H LV (legs.map ja) /\ legs.length ≤ 1000 ∧
 ∀ s kvs H',H' s=some (.dK kvs)->Fw H' kvs LV legs->H s=none->az H H'->Q (.ref s) H'
def mX:Sp:=λ vs H Q _=>∃(a:Addr) (LV:List V) (legs:List Leg),vs = [.ref a] /\ H a=some (.lst LV) /\ bI true H LV (legs.map ja) /\(∀ g ∈ legs,mR g) /\ legs.length ≤ 500 ∧
 ∀ d kvs P H',H' d=some (.dK kvs)->gE H' kvs (iL P (-1))->gD legs P->H d=none->kvs.length ≤ 501->az H H'->Q (.ref d) H'
theorem yD {LV:List V} {legs:List Leg} {i:Nat} {v:V} {g:Leg} (h1:LV[i]? = some v) (h2:legs[i]? = some g) (d:Int):jC (LV.take (i + 1)) (legs.take (i + 1)) d=jC (LV.take i) (legs.take i) d ++(if g.start=d then [v] else []):=by
 have l1:=(QE.mp h1).1
 have l2:=(QE.mp h2).1
 unfold jC
 rw [Rn,Rn,h1,h2]
 rw [List.zip_append (by rw [Ri,Ri];omega),VY,RL]
 congr 1
 show((([v].zip [g]).filter λ x=>decide (x.2.start=d)).map (·.1))=_
 by_cases e:g.start=d <;> simp [e]
theorem Dk {H:Hp} {LV:List V} {legs:List Leg} (R:bI true H LV (legs.map ja)) (d:Int):bI true H (jC LV legs d) ((legs.filter λ g=>decide (g.start=d)).map ja):=by
 have key:∀(n:Nat),n ≤ legs.length->bI true H (jC (LV.take n) (legs.take n) d) (((legs.take n).filter λ g=>decide (g.start=d)).map ja):=by
  intro n
  induction n with
  | zero=>intro _;simp [jC];exact bI.nil
  | succ n ih =>
   intro hn
   have hg:legs[n]? = some legs[n]:=QC (by omega)
   have hl:n < LV.length:=by rw [R.len,QG];omega
   have hv:LV[n]? = some LV[n]:=QC hl
   generalize legs[n]=g at hg
   generalize LV[n]=v at hv
   rw [yD hv hg d,Rn,hg,VY,RL]
   by_cases e:g.start=d
   ·rw [if_pos e]
    have k:=R.get n v (ja g) hv (by rw [QK,hg];rfl)
    have:=(ih (by omega)).snoc k
    simpa [e] using this
   ·rw [if_neg e]
    have:=ih (by omega)
    simpa [e] using this
 have:=key legs.length (QH _)
 rw [RA,TY (by rw [R.len,QG];exact QH _)] at this
 exact this
theorem oi {H:Hp} {v:V} {ks:List Int} (h:ie true H v ks):∃ a,v = .ref a /\ H a=some (.tup (ks.map V.int)):=h
def pM:Sp:=λ vs H Q _=>∃(pd:Addr) (kvs:List (Key × V)) (P:Int->Option (List Int)) (st:Int),vs = [.ref pd,.int st] /\ H pd=some (.dK kvs) /\ gE H kvs (iL P (-1)) /\ P (-1)=some [0,0,0] /\(P st=none->Q .non H) /\(∀ p,P st=some p->∀ t H',H' t=some (.tup (p.map V.int))->az H H'->Q (.ref t) H')
theorem CI {α β:Type} {f:α->β} (hf:∀ a b,f a=f b->a=b):∀ {l:List α},l.Nodup->(l.map f).Nodup
 | [],_=>To
 | x :: l,h=>by
  rw [Rz] at h
  rw [Rk,Rz]
  refine⟨λ hm=>?_,CI hf h.2⟩
  obtain⟨y,hy,e⟩:=QS.mp hm
  exact h.1 (by rw [← hf _ _ e];exact hy)
theorem Cq {legs:List Leg} {P:Int->Option (List Int)} (h:gD legs P):∀(n:Nat) (d b c:Int),P d=some [b,c,(n:Int)]->∀ j:Nat,1 ≤ j->j ≤ n->∃ g ∈ legs,∃ b' c',P g.to=some [b',c',(j:Int)]:=by
 intro n
 induction n with
 | zero=>intro d b c _ j h1 h2;omega
 | succ n ih =>
  intro d b c hd j h1 h2
  have e:d ≠ -1:=λ e=>by rw [e,h.zero] at hd;cases hd
  obtain⟨g,hg,rfl,p,hp,hq⟩:=h.att d _ hd e
  obtain⟨b',c',m,rfl⟩:=h.pr _ _ hp
  have h3:((n + 1:Nat):Int) =(m:Int) + 1:=congrArg (λ l:List Int=>l.getD 2 0) hq
  have hm:m=n:=by omega
  subst hm
  by_cases ej:j=m + 1
  ·subst ej;exact⟨g,hg,b,c,hd⟩
  ·exact ih _ _ _ hp j h1 (by omega)
theorem wX {legs:List Leg} {P:Int->Option (List Int)} (h:gD legs P) {n:Nat} {d b c:Int} (hd:P d=some [b,c,(n:Int)]):n ≤ legs.length:=by
 have:=Cw (l:=(List.range n).map λ j:Nat=>((j + 1:Nat):Int)) (m:=legs.map λ g=>((P g.to).getD []).getD 2 0) ?_ ?_
 ·simpa using this
 ·exact CI (λ a b hab=>by omega) List.nodup_range
 ·intro x hx
  obtain⟨j,hj,rfl⟩:=QS.mp hx
  have hj:=Th.mp hj
  obtain⟨g,hg,b',c',e⟩:=Cq h n d b c hd (j + 1) (by omega) (by omega)
  exact QS.mpr ⟨g,hg,by rw [e];rfl⟩
def Att (P:Int->Option (List Int)) (g:Leg):Prop:=∃ p,P g.start=some p /\ P g.to=some (bO p g)
structure cR (legs:List Leg) (P:Int->Option (List Int)) (L:Int->Option Int):Prop where
 none_:∀ d,L d=none->∀ g ∈ legs,g.to=d->¬ Att P g
 ff:∀ d x,L d=some x->(∃ g ∈ legs,g.to=d /\ Att P g /\ g.num=x) /\ ∀ g ∈ legs,g.to=d->Att P g->x ≤ g.num
theorem cR.one {legs legs':List Leg} {P:Int->Option (List Int)} {L L':Int->Option Int} (h:cR legs P L) (h':cR legs' P L') (e:∀ g,g ∈ legs ↔ g ∈ legs'):L=L':=by
 funext d
 cases hL:L d with
 | none =>
  cases hL':L' d with
  | none=>rfl
  | some x=>obtain⟨⟨g,hg,h1,h2,_⟩,_⟩:=h'.ff d x hL';exact absurd h2 (h.none_ d hL g ((e g).mpr hg) h1)
 | some x =>
  obtain⟨⟨g,hg,h1,h2,h3⟩,h4⟩:=h.ff d x hL
  cases hL':L' d with
  | none=>exact absurd h2 (h'.none_ d hL' g ((e g).mp hg) h1)
  | some y =>
   obtain⟨⟨g',hg',h1',h2',h3'⟩,h4'⟩:=h'.ff d y hL'
   have a:=h4 g' ((e g').mpr hg') h1' h2'
   have b:=h4' g ((e g).mp hg) h1 h2
   congr 1;omega
def yh (C:Int->Option Int) (d c:Int):Int->Option Int:=λ i=>if i=d then some c else C i
theorem cR.nil {P:Int->Option (List Int)}:cR [] P (λ _=>none):=⟨λ d _ g hg=>(by cases hg),λ d x h=>(by cases h)⟩
theorem cR.skip {ls:List Leg} {P:Int->Option (List Int)} {L:Int->Option Int} (h:cR ls P L) {g:Leg} (hg:¬ Att P g):cR (ls ++ [g]) P L:=by
 refine⟨λ d hd g' hg' e ha=>?_,λ d x hx=>?_⟩
 ·rcases Ro.mp hg' with h1 | h1
  ·exact h.none_ d hd g' h1 e ha
  ·rw [QZ.mp h1] at ha;exact hg ha
 ·obtain⟨⟨g',h1,h2⟩,h3⟩:=h.ff d x hx
  refine⟨⟨g',Sl _ h1,h2⟩,λ g'' h4 e ha=>?_⟩
  rcases Ro.mp h4 with h4 | h4
  ·exact h3 g'' h4 e ha
  ·rw [QZ.mp h4] at ha;exact absurd ha hg
theorem cR.put {ls:List Leg} {P:Int->Option (List Int)} {L:Int->Option Int} (h:cR ls P L) {g:Leg} (hg:Att P g):cR (ls ++ [g]) P (yh L g.to (min g.num ((L g.to).getD g.num))):=by
 refine⟨λ d hd g' hg' e ha=>?_,λ d x hx=>?_⟩
 ·unfold yh at hd
  split at hd
  ·cases hd
  ·rename_i hne
   rcases Ro.mp hg' with h1 | h1
   ·exact h.none_ d hd g' h1 e ha
   ·rw [QZ.mp h1] at e;exact hne e.symm
 ·unfold yh at hx
  split at hx
  ·rename_i hde
   subst hde
   cases hx
   cases hL:L g.to with
   | none =>
    show(∃ g' ∈ ls ++ [g],g'.to=g.to /\ Att P g' /\ g'.num=min g.num g.num) /\ ∀ g' ∈ ls ++ [g],g'.to=g.to->Att P g'->min g.num g.num ≤ g'.num
    refine⟨⟨g,by simp,rfl,hg,by omega⟩,λ g' h1 e ha=>?_⟩
    rcases Ro.mp h1 with h1 | h1
    ·exact absurd ha (h.none_ _ hL g' h1 e)
    ·rw [QZ.mp h1];omega
   | some y =>
    obtain⟨⟨g2,a1,a2,a3,a4⟩,a5⟩:=h.ff _ y hL
    show(∃ g' ∈ ls ++ [g],g'.to=g.to /\ Att P g' /\ g'.num=min g.num y) /\ ∀ g' ∈ ls ++ [g],g'.to=g.to->Att P g'->min g.num y ≤ g'.num
    refine⟨?_,λ g' h1 e ha=>?_⟩
    ·by_cases hlt:g.num ≤ y
     ·exact⟨g,by simp,rfl,hg,by omega⟩
     ·exact⟨g2,Sl _ a1,a2,a3,by omega⟩
    ·rcases Ro.mp h1 with h1 | h1
     ·have:=a5 g' h1 e ha;omega
     ·rw [QZ.mp h1];omega
  ·rename_i hne
   obtain⟨⟨g',h1,h2⟩,h3⟩:=h.ff d x hx
   refine⟨⟨g',Sl _ h1,h2⟩,λ g'' h4 e ha=>?_⟩
   rcases Ro.mp h4 with h4 | h4
   ·exact h3 g'' h4 e ha
   ·rw [QZ.mp h4] at e;exact absurd e.symm hne
structure kh (kvs:List (Key × V)) (L:Int->Option Int):Prop where
 nd:(kvs.map (·.1)).Nodup
 iz:g8 kvs
 val:∀ i,bg kvs (Sum.inl i) =(L i).map V.int
theorem kh.nil:kh [] (λ _=>none):=⟨To,g8.nil,λ i=>rfl⟩
theorem kh.put {kvs:List (Key × V)} {L:Int->Option Int} (h:kh kvs L) (d c:Int):kh (putK kvs (Sum.inl d) (.int c)) (yh L d c):=by
 refine⟨zf _ h.nd,h.iz.put d _,λ i=>?_⟩
 rw [eN]
 unfold yh
 by_cases e:i=d
 ·subst e;rw [if_pos rfl,if_pos rfl];rfl
 ·rw [if_neg (λ z=>e (RW z)),if_neg e];exact h.val i
def Oa (legs:List Leg) (x s:Int):Prop:=∃ g ∈ legs,g.num=x /\ g.start=s
inductive Chain (L:Int->Option Int) (legs:List Leg):Int->List Int->Prop
 | nil:Chain L legs (-1) []
 | cons {d x s:Int} {ws:List Int}:d ≠ -1->L d=some x->Oa legs x s->Chain L legs s ws->Chain L legs d (x :: ws)
def sj:Sp:=λ vs H Q _=>∃(a:Addr) (LV:List V) (legs:List Leg),vs = [.ref a] /\ H a=some (.lst LV) /\ bI true H LV (legs.map ja) /\(∀ g ∈ legs,mR g) /\ legs.length ≤ 500 ∧
 ∀ d kvs P L H',H' d=some (.dK kvs)->kh kvs L->gD legs P->cR legs P L->H d=none->kvs.length ≤ 500->az H H'->Q (.ref d) H'
def Io (H0 H:Hp) (v:V) (legs:List Leg) (L:Int->Option Int) (day:Int):Prop:=(v = .non /\ L day=none) ∨ ∃(r:Addr) (ws:List Int),v = .ref r /\ Chain L legs day ws /\ day ≠ -1 /\ H r=some (.lst (ws.reverse.map V.int)) /\ H0 r=none
def ye:Sp:=λ vs H Q _=>∃(a:Addr) (LV:List V) (legs:List Leg) (day:Int),vs = [.ref a,.int day] /\ H a=some (.lst LV) /\ bI true H LV (legs.map ja) /\(∀ g ∈ legs,mR g) /\ legs.length ≤ 500 /\(legs.map Leg.num).Nodup ∧
 ∀ P L v H',gD legs P->cR legs P L->Io H H' v legs L day->az H H'->Q v H'
theorem Cs {l:List Leg} (h:(l.map Leg.num).Nodup) {g g':Leg} (hg:g ∈ l) (hg':g' ∈ l) (e:g.num=g'.num):g=g':=by
 induction l with
 | nil=>cases hg
 | cons x l ih =>
  rw [Rk,Rz] at h
  rcases Rh.mp hg with e1 | h1 <;> rcases Rh.mp hg' with e2 | h2
  ·rw [e1,e2]
  ·exact absurd (QS.mpr ⟨g',h2,by rw [← e,e1]⟩) h.1
  ·exact absurd (QS.mpr ⟨g,h1,by rw [e,e2]⟩) h.1
  ·exact ih h.2 h1 h2
theorem sZ:∀(ls:List Leg) (acc:List (Key × V)) (k:Int),k ∉ ls.map Leg.num->bg (cG acc (ls.map λ g=>((Sum.inl g.num:Key),V.int g.start))) (Sum.inl k)=bg acc (Sum.inl k)
 | [],_,_,_=>rfl
 | g :: r,acc,k,h=>by
  simp only [List.map_cons,List.mem_cons,not_or] at h
  show bg (cG (putK acc (Sum.inl g.num) (V.int g.start)) (r.map λ g=>((Sum.inl g.num:Key),V.int g.start))) (Sum.inl k)=_
  rw [sZ r _ k h.2,eN,if_neg (λ z=>h.1 (RW z))]
theorem wD:∀(ls:List Leg) (acc:List (Key × V)),(ls.map Leg.num).Nodup->∀ g ∈ ls,bg (cG acc (ls.map λ g=>((Sum.inl g.num:Key),V.int g.start))) (Sum.inl g.num)=some (.int g.start)
 | g0 :: r,acc,hn,g,hg=>by
  rw [Rk,Rz] at hn
  show bg (cG (putK acc (Sum.inl g0.num) (V.int g0.start)) (r.map λ g=>((Sum.inl g.num:Key),V.int g.start))) (Sum.inl g.num)=_
  rcases Rh.mp hg with e | hg
  ·subst e
   rw [sZ r _ _ hn.1,eN,if_pos rfl]
  ·exact wD r _ hn.2 g hg
theorem Chain.one {L:Int->Option Int} {legs:List Leg} (hn:(legs.map Leg.num).Nodup):∀ {d:Int} {ws ws':List Int},Chain L legs d ws->Chain L legs d ws'->ws=ws'
 | _,_,_,.nil,.nil=>rfl
 | _,_,_,.nil,.cons h _ _ _=>absurd rfl h
 | _,_,_,.cons h _ _ _,.nil=>absurd rfl h
 | _,_,_,.cons _ h2 ⟨g,hg,h3,h3'⟩ h4,.cons _ k2 ⟨g',hg',k3,k3'⟩ k4=>by
  rw [h2] at k2
  cases k2
  have:=Cs hn hg hg' (by rw [h3,k3])
  subst this
  rw [h3'] at k3'
  subst k3'
  rw [Chain.one hn h4 k4]
theorem zd {legs:List Leg} {P:Int->Option (List Int)} {L:Int->Option Int} (LP:gD legs P) (IL:cR legs P L):∀(n:Nat) (d b c:Int),P d=some [b,c,(n:Int)]->∃ ws,Chain L legs d ws /\ ws.length=n:=by
 intro n
 induction n with
 | zero =>
  intro d b c hd
  by_cases e:d = -1
  ·subst e;exact⟨[],.nil,rfl⟩
  ·obtain⟨g,hg,rfl,p,hp,hq⟩:=LP.att d _ hd e
   obtain⟨b',c',m,rfl⟩:=LP.pr _ _ hp
   have h3:((0:Nat):Int) =(m:Int) + 1:=congrArg (λ l:List Int=>l.getD 2 0) hq
   exact absurd h3 (by omega)
 | succ n ih =>
  intro d b c hd
  have e:d ≠ -1:=λ e=>by rw [e,LP.zero] at hd;cases hd
  obtain⟨g0,hg0,h0,p0,hp0,hq0⟩:=LP.att d _ hd e
  cases hL:L d with
  | none=>exact absurd ⟨p0,hp0,by rw [h0,hd,hq0]⟩ (IL.none_ d hL g0 hg0 h0)
  | some x =>
   obtain⟨⟨g,hg,h1,⟨p,hp,hpt⟩,h2⟩,_⟩:=IL.ff d x hL
   rw [h1,hd] at hpt
   obtain⟨b',c',m,rfl⟩:=LP.pr _ _ hp
   have h3:((n + 1:Nat):Int) =(m:Int) + 1:=congrArg (λ l:List Int=>l.getD 2 0) (Rc hpt)
   have hm:m=n:=by omega
   subst hm
   obtain⟨ws,hws,hwl⟩:=ih _ _ _ hp
   exact⟨x :: ws,.cons e hL ⟨g,hg,h2,rfl⟩ hws,by simp [hwl]⟩
theorem oJ {legs:List Leg} {P:Int->Option (List Int)} {L:Int->Option Int} (IL:cR legs P L) (hok:∀ g ∈ legs,mR g) {d x:Int} (h:L d=some x):d ≠ -1 /\ ∃ q,P d=some q:=by
 obtain⟨⟨g,hg,h1,⟨p,hp,hpt⟩,h2⟩,_⟩:=IL.ff d x h
 have:=(hok g hg).1
 exact⟨by omega,_,by rw [← h1];exact hpt⟩
def dg (rows:List (Nat × Nat)) (i bt:Nat):List (Nat × Nat):=rows.modify i λ r=>(r.1,r.2 ^^^ bt)
theorem kD (rows:List (Nat × Nat)) (i bt:Nat):(dg rows i bt).length=rows.length:=by simp [dg]
theorem qx {rows:List (Nat × Nat)} {i bt:Nat} {r:Nat × Nat} (h:rows[i]? = some r):dg rows i bt=rows.set i (r.1,r.2 ^^^ bt):=by
 unfold dg
 apply Tg
 intro j
 rw [Vu,Tf]
 by_cases e:i=j
 ·subst e
  obtain⟨hl,he⟩:=QE.mp h
  simp [hl,he]
 ·simp [e]
theorem zw {H:Hp} {L:List V} {rows:List (Nat × Nat)} (R:bX H L rows) {t:Addr} {r:Nat × Nat} {i:Nat} (h:H t=some (.tup [.int (r.1:Int),.int (r.2:Int)])):bX H (L.set i (.ref t)) (rows.set i r) :=
 ⟨by simp [R.len],λ j v e=>by
  rw [Tf] at e
  by_cases ej:i=j
  ·subst ej
   rw [if_pos rfl] at e
   split at e
   ·rename_i hl
    have e:V.ref t=v:=by simpa using e
    exact⟨t,r,e.symm,by rw [Tf,if_pos rfl,if_pos (by rw [← R.len];exact hl)],h⟩
   ·cases e
  ·rw [if_neg ej] at e
   obtain⟨u,r',a,b,c⟩:=R.get j v e
   exact⟨u,r',a,by rw [Tf,if_neg ej];exact b,c⟩⟩
def rW (CW CG:Addr) (wh:Bool):Sp:=λ vs H Q _=>∃(p:Addr) (b d:Nat) (rows:List (Nat × Nat)) (c:Int) (l:Addr) (L:List V) (rows2:List (Nat × Nat)),vs = [.ref p,.ref l] /\ PAt CW CG H p wh b d rows c /\ H l=some (.lst L) /\ bX H L rows2 /\ rows2.length ≤ 100 /\ ∀ p2 H',PAt CW CG H' p2 wh b d rows2 c->H p2=none->az H H'->Q (.ref p2) H'
def oA (CW CG CN:Addr):Sp:=λ vs H Q E=>∃(p:Addr) (wh:Bool) (b d:Nat) (rows:List (Nat × Nat)) (c ai:Int) (bt:Nat),vs = [.ref p,.int ai,.int (bt:Int)] /\ PAt CW CG H p wh b d rows c /\ rows.length ≤ 100 ∧
 (∀ i:Nat,ai =(i:Int)->i < rows.length->∀ p2 H',PAt CW CG H' p2 wh b d (dg rows i bt) c->H p2=none->az H H'->Q (.ref p2) H') ∧
 (¬(0 ≤ ai /\ ai <(rows.length:Int))->∀ e H',ExcAt H' e CN [("place",.int ai)]->az H H'->E (.ref CN) (some e) H')
theorem PAt.of0 {CW CG:Addr} {H:Hp} {p:Addr} {b d:Nat} {rows:List (Nat × Nat)} {c:Int} (h:PAt CW CG H p true 0 d rows c):PAt CW CG H p true b d rows c:=h
def kM (t:List Int) (rows:List (Nat × Nat)):List Int:=rows.foldl (λ t r=>t.set r.1 (r.2:Int)) t
theorem CU (t:List Int) (rows:List (Nat × Nat)) (r:Nat × Nat):kM t (rows ++ [r]) =(kM t rows).set r.1 (r.2:Int):=by unfold kM;rw [SS];rfl
theorem lJ:∀(rows:List (Nat × Nat)) (t:List Int),(kM t rows).length=t.length
 | [],t=>rfl
 | r :: rs,t=>by
  show(kM (t.set r.1 (r.2:Int)) rs).length=_
  rw [lJ rs,S0]
def m9 (u:PcU) (t:List Int):List Int:=if u.wh=true then u.rows.map (λ r=>(r.2:Int)) else kM t u.rows
def uz (CW CG:Addr):Sp:=λ vs H Q _=>∃(p tb:Addr) (b d:Nat) (rows:List (Nat × Nat)) (c:Int),vs = [.ref p,.ref tb] /\ PAt CW CG H p true b d rows c /\ rows.length ≤ 100 /\ ∀ r H',H' r=some (.lst ((rows.map λ r=>(r.2:Int)).map V.int))->H r=none->az H H'->Q (.ref r) H'
def tV (CW CG:Addr):Sp:=λ vs H Q _=>∃(p tb:Addr) (b d:Nat) (rows:List (Nat × Nat)) (c:Int) (t:List Int),vs = [.ref p,.ref tb] /\ PAt CW CG H p false b d rows c /\ H tb=some (.lst (t.map V.int)) /\(∀ r ∈ rows,r.1 < t.length) /\ ∀ r H',H' r=some (.lst ((kM t rows).map V.int))->H r=none->az H H'->Q (.ref r) H'
abbrev bC:=Int->Option PcU
inductive FR where
 | tab (t:List Int)
 | noPiece (n:Int)
 | noWay (k:Nat)
 | bad (d:Nat)
def cV (M:bC):Nat->Int->List Int->List Int->FR
 | _,_,t,[]=>.tab t
 | k,day,t,n :: r=>match M n with
  | none=>.noPiece n
  | some u=>if u.st=day then(if u.good=true then cV M (k + 1) (u.d:Int) (m9 u t) r else .bad u.d) else .noWay k
def iu (M:bC) (way:List Int):FR:=if way = [] then .noWay 0 else cV M 0 (-1) [] way
structure qH (wd:Nat) (u:PcU):Prop where
 len:u.wh=true->u.rows.length=wd
 lt:u.wh=false->∀ r ∈ u.rows,r.1 < wd
theorem xQ {u:PcU} (h:u.wh=true):u.st = -1:=by unfold PcU.st stN;rw [h];rfl
theorem rE {u:PcU} (h:u.wh=false):u.st =(u.b:Int):=by unfold PcU.st stN;rw [h];show(((u.b + 1:Nat):Int) - 1)=_;omega
theorem EH {wd:Nat} {u:PcU} {t:List Int} (h:qH wd u) (ht:u.st = -1 ∨ t.length=wd):(m9 u t).length=wd:=by
 unfold m9
 cases hw:u.wh with
 | true=>rw [if_pos rfl,QG];exact h.len hw
 | false =>
  rw [if_neg (by decide),lJ]
  rcases ht with h1 | h1
  ·rw [rE hw] at h1;omega
  ·exact h1
def kY (C CW CG CP CY CB:Addr):Sp:=λ vs H Q E=>∃(p d w:Addr) (fl:Int) (kvs:List (Key × V)) (M:bC) (way:List Int) (wd:Nat),vs = [.ref p,.ref w] /\ gw C H p d fl kvs /\ eU (eW CW CG H) kvs M /\(∀ n u,M n=some u->qH wd u) /\ H w=some (.lst (way.map V.int)) /\ way.length ≤ 100000 ∧
 (∀ t,iu M way = .tab t->∀ l H',H' l=some (.lst (t.map V.int))->H l=none->az H H'->Q (.ref l) H') ∧
 (∀ n,iu M way = .noPiece n->∀ e H',ExcAt H' e CP [("number",.int n)]->az H H'->E (.ref CP) (some e) H') ∧
 (∀ k:Nat,iu M way = .noWay k->∀ e H',ExcAt H' e CY [("at",.int (k:Int))]->az H H'->E (.ref CY) (some e) H') ∧
 (∀ dd:Nat,iu M way = .bad dd->∀ e H',ExcAt H' e CB [("day",.int (dd:Int))]->az H H'->E (.ref CB) (some e) H')
theorem BN {Pr:V->PcU->Prop} {kvs:List (Key × V)} {M:bC} (h:eU Pr kvs M) {ns ms:List Int} (e:kvs.map (·.1)=ns.map Sum.inl) (p:ms.Perm ns) (s:ms.Pairwise (· ≤ ·)):ms.Pairwise (· < ·):=by
 have hn:=h.nd
 rw [e] at hn
 have:ns.Nodup:=(UD.mp hn).imp λ a b=>a (congrArg Sum.inl b)
 exact(s.and (p.nodup_iff.mpr this)).imp λ⟨a,b⟩=>by omega
def mG:Sp:=λ vs H Q _=>∃(c:Int) (m:Nat),vs = [.int c,.int (m:Int)] /\ m ≤ 60 /\ ∀(l:Addr) (xs:List Int) H',H' l=some (.lst (xs.map V.int))->H l=none->xs.length=m->(∀ x ∈ xs,(0:Int) ≤ x /\ x < 2147483647)->az H H'->Q (.ref l) H'
def wk (CW CG f:Addr):Sp:=λ vs H Q _=>∃(p:Addr) (wh:Bool) (b d:Nat) (rows:List (Nat × Nat)) (c seek each:Int),vs = [.ref p] /\(0 ≤ each /\ each < 10 ^ 30 /\ rows.length ≤ 100) /\ lW "cost" "rate.<locals>.cost" (aN dh) (aJ dh) (av dh) ["seek","each"] H f [.int seek,.int each] /\ PAt CW CG H p wh b d rows c /\ Q (.int (seek + each * (rows.length:Int))) H
def A8 (CW CG f:Addr):Sp:=λ vs H Q E=>wk CW CG f vs H Q E
def cy (H:Hp) (g:Addr) (pr:PcU->Int):Prop:=∃ seek each:Int,(0 ≤ each /\ each < 10 ^ 30) /\ lW "cost" "rate.<locals>.cost" (aN dh) (aJ dh) (av dh) ["seek","each"] H g [.int seek,.int each] /\ ∀ u,pr u=seek + each * (u.rows.length:Int)
theorem cy.Hw {H H':Hp} {g:Addr} {pr:PcU->Int} (h:cy H g pr) (k:∀ b φ,H b=some (.ext φ)->H' b=some (.ext φ)):cy H' g pr:=by
 obtain⟨sk,ea,h0,h1,h2⟩:=h
 exact⟨sk,ea,h0,lW.same h1 k,h2⟩
theorem cy.same {H H':Hp} {g:Addr} {pr:PcU->Int} (h:cy H g pr) (s:az H H'):cy H' g pr:=cy.Hw h λ b φ e=>s b _ e
theorem cy.ask {CW CG:Addr} {H:Hp} {g p:Addr} {pr:PcU->Int} {u:PcU} {Q:VK} {E:XK} (h:cy H g pr) (hP:PAt CW CG H p u.wh u.b u.d u.rows u.c) (hl:u.rows.length ≤ 100) (q:Q (.int (pr u)) H):A8 CW CG g [.ref p] H Q E:=by
 obtain⟨sk,ea,h0,h1,h2⟩:=h
 exact⟨p,_,_,_,_,_,sk,ea,rfl,⟨h0.1,h0.2,hl⟩,h1,hP,by rw [← h2 u];exact q⟩
theorem cy.fn {H:Hp} {g:Addr} {pr:PcU->Int} (h:cy H g pr):∃ fd,H g=some (FnO g fd):=by
 obtain⟨_,_,_,⟨_,_,_,_,_,h1,_⟩,_⟩:=h
 exact⟨_,h1⟩
def mU (ns:List Int) (k:Int):Int:=if k <(ns.length:Int) then ns.getD k.toNat 0 else 0
def vU (K:Frag):Sp:=λ vs H Q _=>∃(a:Addr) (ns:List Int) (k:Nat),vs = [.ref a,.int (k:Int)] /\ SqL K H a (ns.map V.int) /\ Q (.int (mU ns k)) H
def cJ (u:PcU):Int:=if u.good=true then 0 else 1
def jD (n:Int) (u:PcU) (pr:PcU->Int):List Int:=[n,u.st,(u.d:Int),cJ u,pr u]
structure cM (H:Hp) (LV:List V) (M:bC) (ns:List Int) (pr:PcU->Int):Prop where
 len:LV.length=ns.length
 get:∀(i:Nat) v n,LV[i]? = some v->ns[i]? = some n->∃ t u,v = .ref t /\ M n=some u /\ H t=some (.tup ((jD n u pr).map V.int))
theorem cM.mono {H H':Hp} {LV:List V} {M:bC} {ns:List Int} {pr:PcU->Int} (h:cM H LV M ns pr) (k:∀ t xs,H t=some (.tup xs)->H' t=some (.tup xs)):cM H' LV M ns pr:=⟨h.len,λ i v n e1 e2=>let ⟨t,u,h1,h2,h3⟩:=h.get i v n e1 e2;⟨t,u,h1,h2,k _ _ h3⟩⟩
theorem cM.snoc {H:Hp} {LV:List V} {M:bC} {ns:List Int} {pr:PcU->Int} (h:cM H LV M ns pr) {t:Addr} {n:Int} {u:PcU} (hM:M n=some u) (ht:H t=some (.tup ((jD n u pr).map V.int))):cM H (LV ++ [.ref t]) M (ns ++ [n]) pr :=
 ⟨by simp [h.len],λ i v m e1 e2=>by
  by_cases hi:i < LV.length
  ·rw [QW hi] at e1
   rw [QW (by rw [← h.len];exact hi)] at e2
   exact h.get i v m e1 e2
  ·have hlt:=(QE.mp e1).1
   have:i=LV.length:=by simp at hlt;omega
   subst this
   rw [Rb (QH _)] at e1
   rw [h.len,Rb (QH _)] at e2
   simp at e1 e2
   subst e1 e2
   exact⟨t,u,rfl,hM,ht⟩⟩
def iU (M:bC) (ns:List Int):Prop:=ns.Pairwise (· < ·) /\ ∀ n,n ∈ ns ↔ (M n).isSome=true
def FH (kvs:List (Key × V)):Prop:=∃ ks:List Int,kvs.map (·.1)=ks.map Sum.inl /\(ks.length < 64 ∨(ks.Pairwise (· ≤ ·) /\ ks.length ≤ 900))
def nO (C:Addr):Sp:=λ vs H Q _=>∃(p d:Addr) (fl:Int) (kvs:List (Key × V)) (ns:List Int),vs = [.ref p] /\ gw C H p d fl kvs /\ kvs.map (·.1)=ns.map Sum.inl /\(ns.length < 64 ∨(ns.Pairwise (· ≤ ·) /\ ns.length ≤ 900)) ∧
 ∀(l:Addr) (ns':List Int),H l=none->ns'.Perm ns->ns'.Pairwise (· ≤ ·)->Q (.ref l) (upd H l (.lst (ns'.map V.int)))
def qf (C CW CG:Addr):Sp:=λ vs H Q _=>∃(p d g:Addr) (fl:Int) (kvs:List (Key × V)) (M:bC) (pr:PcU->Int),vs = [.ref p,.ref g] /\ gw C H p d fl kvs /\ eU (eW CW CG H) kvs M /\ FH kvs /\ cy H g pr /\(∀ n u,M n=some u->u.rows.length ≤ 100) ∧
 ∀ l LV ns H',H' l=some (.lst LV)->H l=none->iU M ns->cM H' LV M ns pr->az H H'->Q (.ref l) H'
def gG (H:Hp) (v:V) (u:PcU):Prop:=∃ t:Addr,v = .ref t /\ H t=some (.tup [.int u.st,.int (u.d:Int),.int (cJ u),.int (u.rows.length:Int)]) /\ u.rows.length ≤ 100
theorem gG.keep {H H':Hp} {v:V} {u:PcU} (h:gG H v u) (s:az H H'):gG H' v u:=let ⟨t,h1,h2,h3⟩:=h;⟨t,h1,s _ _ h2,h3⟩
theorem PAt.cut {CW CG:Addr} {H:Hp} {p:Addr} {wh:Bool} {b d:Nat} {rows:List (Nat × Nat)} {c:Int} {cs:List Addr} (h:PAt CW CG H p wh b d rows c) (hc:iV cs H):PAt CW CG (jV cs H) p wh b d rows c:=by
 obtain⟨dx,r,R,h1,h2,h3⟩:=h
 exact⟨dx,r,R,by rw [dB (hc.out h1 (by intro φ z;cases z))];exact h1,by rw [dB (hc.out h2 (by intro φ z;cases z))];exact h2,h3.mono λ t xs e=>by rw [dB (hc.out e (by intro φ z;cases z))];exact e⟩
theorem PAt.jG {CW CG:Addr} {H H':Hp} {p T:Addr} {wh:Bool} {b d:Nat} {rows:List (Nat × Nat)} {c:Int} {ps:Array Value} (h:PAt CW CG H p wh b d rows c) (hT:H T=some (.tbl ps)) (k:aV [T] H H'):PAt CW CG H' p wh b d rows c:=by
 obtain⟨dx,r,R,h1,h2,h3⟩:=h
 exact⟨dx,r,R,k _ _ h1 (by simpa using aR h1 hT (by intro z;cases z)),k _ _ h2 (by simpa using aR h2 hT (by intro z;cases z)),h3.mono λ t xs e=>k _ _ e (by simpa using aR e hT (by intro z;cases z))⟩
theorem eW.jG {CW CG:Addr} {H H':Hp} {v:V} {u:PcU} {T:Addr} {ps:Array Value} (h:eW CW CG H v u) (hT:H T=some (.tbl ps)) (k:aV [T] H H'):eW CW CG H' v u:=let ⟨a,h1,h2,h3⟩:=h;⟨a,h1,PAt.jG h2 hT k,h3⟩
theorem gG.jG {H H':Hp} {v:V} {u:PcU} {T:Addr} {ps:Array Value} (h:gG H v u) (hT:H T=some (.tbl ps)) (k:aV [T] H H'):gG H' v u:=let ⟨t,h1,h2,h3⟩:=h;⟨t,h1,k _ _ h2 (by simpa using aR h2 hT (by intro z;cases z)),h3⟩
theorem gw.jG {C:Addr} {H H':Hp} {p d T:Addr} {fl:Int} {kvs:List (Key × V)} {ps:Array Value} (h:gw C H p d fl kvs) (hT:H T=some (.tbl ps)) (k:aV [T] H H'):gw C H' p d fl kvs:=let ⟨dx,h1,h2⟩:=h;⟨dx,k _ _ h1 (by simpa using aR h1 hT (by intro z;cases z)),k _ _ h2 (by simpa using aR h2 hT (by intro z;cases z))⟩
theorem As:∀ {rows:List (Nat × Nat)},(∀ r ∈ rows,r.1 < 2 ^ 64 /\ r.2 < 2 ^ 64)->∀ n ∈ flat rows,n < 2 ^ 64
 | [],_,n,hn=>by simp [flat] at hn
 | r :: rs,h,n,hn=>by
  have h1:=h r (by simp)
  have h2:=As (rows:=rs) λ x hx=>h x (Rg _ hx)
  have:n=r.1 ∨ n=r.2 ∨ n ∈ flat rs:=by simpa [flat] using hn
  rcases this with rfl | rfl | h3
  ·exact h1.1
  ·exact h1.2
  ·exact h2 n h3
theorem DT {u:PcU} {i bt:Nat} (hg:u.c =(d8 u.wh u.b u.d u.rows:Nat)) (hi:i < u.rows.length) (hb:u.b < 2 ^ 63) (hd:u.d < 2 ^ 63) (hr:∀ r ∈ u.rows,r.1 < 2 ^ 64 /\ r.2 < 2 ^ 64) (h0:bt ≠ 0) (h1:bt < 2 ^ 64):({ u with rows:=dg u.rows i bt }:PcU).good=false:=by
 obtain⟨⟨pl,x⟩,hx⟩:∃ r,u.rows[i]? = some r:=⟨_,QC hi⟩
 have hx64:=(hr _ (QJ hx)).2
 unfold PcU.good
 apply QY
 show ¬(u.c =(d8 u.wh u.b u.d (dg u.rows i bt):Nat))
 rw [hg,qx hx]
 intro e
 refine Eb hx (by cases u.wh <;>(unfold stN;dsimp only [cond];omega)) (by omega) (As hr) (VS hx64 h1) (λ e=>h0 ?_) (Int.ofNat_inj.mp e.symm)
 exact Chk.sW (n:=x) (by rw [← e,VT])
def iS (sets:List (List Int)) (lo hi:Int) (k:Int):Prop:=∃(d:Nat) (xs:List Int),lo <(d:Int) /\(d:Int) ≤ hi /\ sets[d]? = some xs /\ k ∈ xs
structure Ct (wd:Nat) (sets:List (List Int)):Prop where
 most:wd ≤ 40
 day:∀ xs ∈ sets,xs.length ≤ 300 /\ ∀ x ∈ xs,0 ≤ x /\ x <(wd:Int)
theorem kG:∀(m:Nat) (l:List Int),l.Nodup->(∀ x ∈ l,0 ≤ x /\ x <(m:Int))->l.length ≤ m
 | 0,l,_,h=>by
  cases l with
  | nil=>exact QH _
  | cons x r=>have:=h x (by simp);omega
 | m + 1,l,hn,h=>by
  have ih:=kG m (l.erase (m:Int)) (hn.erase _) λ x hx=>by
   have h1:=h x (List.mem_of_mem_erase hx)
   have h2:x ≠(m:Int):=λ z=>by rw [z] at hx;exact(List.Nodup.not_mem_erase hn) hx
   omega
  by_cases hm:(m:Int) ∈ l
  ·rw [US hm] at ih;omega
  ·rw [List.erase_of_not_mem hm] at ih;omega
theorem FW {α:Type} {xs:List α} {v:α} (h:xs[xs.length - 1]? = some v):atI xs (-1)=some v:=by
 have hl:=(QE.mp h).1
 unfold atI ixN
 rw [if_neg (by omega),if_pos (by omega),show((-1:Int) +(xs.length:Int)).toNat=xs.length - 1 by omega]
 exact h
def iD (wd:Nat) (chs:List (Int × Int)):Prop:=chs.length ≤ 4 /\ ∀ x ∈ chs,0 ≤ x.1 /\ x.1 <(wd:Int) /\ 0 ≤ x.2 /\ x.2 < 2 ^ 64
def ek (ts:List (List Int)):List Int:=(ts[ts.length - 1]?).getD []
def eT (ts:List (List Int)) (chss:List (List (Int × Int))):List (List Int):=chss.foldl (λ ts c=>ts ++ [nextT (ek ts) c]) ts
def bu (wd:Nat) (chss:List (List (Int × Int))):List (List Int):=eT [List.replicate wd 0] chss
def cS (chss:List (List (Int × Int))):List (List Int):=[] :: chss.map (List.map Prod.fst)
theorem wZ (wd:Nat) (chss:List (List (Int × Int))) (c:List (Int × Int)):bu wd (chss ++ [c])=bu wd chss ++ [nextT (ek (bu wd chss)) c]:=by
 unfold bu eT;rw [SS];rfl
theorem w4 (chss:List (List (Int × Int))) (c:List (Int × Int)):cS (chss ++ [c])=cS chss ++ [c.map Prod.fst]:=by unfold cS;simp
theorem uQ:∀(chss:List (List (Int × Int))) (ts:List (List Int)),(eT ts chss).length=ts.length + chss.length
 | [],ts=>rfl
 | c :: r,ts=>by
  show(eT (ts ++ [nextT (ek ts) c]) r).length=_
  rw [uQ r];simp;omega
theorem jO (wd:Nat) (chss:List (List (Int × Int))):(bu wd chss).length=chss.length + 1:=by unfold bu;rw [uQ];simp;omega
theorem yb (chss:List (List (Int × Int))):(cS chss).length=chss.length + 1:=by unfold cS;simp
theorem rK {ts:List (List Int)} {t:List Int} (h:ts[ts.length - 1]? = some t):ek ts=t:=by unfold ek;rw [h];rfl
def TabOk (wd:Nat) (t:List Int):Prop:=t.length=wd /\ ∀ v ∈ t,0 ≤ v
theorem AG {wd:Nat}:∀ {chs:List (Int × Int)} {t:List Int},TabOk wd t->(∀ c ∈ chs,0 ≤ c.2)->TabOk wd (nextT t chs)
 | [],t,h,_=>h
 | c :: r,t,h,hc=>by
  show TabOk wd (nextT (t.set c.1.toNat c.2) r)
  refine AG ⟨by rw [S0];exact h.1,λ v hv=>?_⟩ λ x hx=>hc x (by simp [hx])
  rcases UK hv with z | z
  ·exact h.2 v z
  ·rw [z];exact hc c (by simp)
theorem Ej {wd:Nat} {ts:List (List Int)} (h:∀ t ∈ ts,TabOk wd t) (h0:ts ≠ []):TabOk wd (ek ts):=by
 have hl:ts.length - 1 < ts.length:=by have:=RY.mpr h0;omega
 rw [rK (QC hl)]
 exact h _ (R8 hl)
theorem wY {wd:Nat}:∀ {chss:List (List (Int × Int))} {ts:List (List Int)},(∀ cs ∈ chss,iD wd cs)->(∀ t ∈ ts,TabOk wd t)->ts ≠ []->∀ t ∈ eT ts chss,TabOk wd t
 | [],ts,_,h,_=>h
 | c :: r,ts,hc,h,h0=>by
  show ∀ t ∈ eT (ts ++ [nextT (ek ts) c]) r,TabOk wd t
  refine wY (λ cs hcs=>hc cs (by simp [hcs])) (λ t ht=>?_) (by simp)
  rcases Ro.mp ht with z | z
  ·exact h t z
  ·rw [QZ.mp z]
   exact AG (Ej h h0) λ x hx=>((hc c (by simp)).2 x hx).2.2.1
theorem tabs_ok {wd:Nat} {chss:List (List (Int × Int))} (h:∀ cs ∈ chss,iD wd cs):∀ t ∈ bu wd chss,TabOk wd t:=wY h (λ t ht=>by
 rw [QZ.mp ht]
 exact⟨RZ,λ v hv=>by rw [(VZ.mp hv).2];exact Wd _⟩) (by simp)
theorem rP {wd:Nat} {chss:List (List (Int × Int))} (hw:wd ≤ 40) (h:∀ cs ∈ chss,iD wd cs):Ct wd (cS chss):=⟨hw,λ xs hx=>by
 unfold cS at hx
 rcases Rh.mp hx with rfl | hx
 ·exact⟨by simp,λ x h=>by cases h⟩
 ·obtain⟨cs,hcs,rfl⟩:=QS.mp hx
  refine⟨by rw [QG];have:=(h cs hcs).1;omega,λ x hx=>?_⟩
  obtain⟨c,hc,rfl⟩:=QS.mp hx
  have:=(h cs hcs).2 c hc
  omega⟩
def dW (tab:List Int):List (Nat × Nat):=tab.zipIdx.map λ q=>(q.2,q.1.toNat)
theorem fL (tab:List Int):(dW tab).length=tab.length:=by unfold dW;simp
theorem tK {tab:List Int} {i:Nat} {v:Int} (h:tab[i]? = some v):(dW tab)[i]? = some (i,v.toNat):=by
 unfold dW
 rw [QK,List.getElem?_zipIdx,h]
 simp
theorem enum_rows {H0 H:Hp} {tab:List Int} {ts:List Addr} (h:EnL H0 H (tab.map V.int) ts) (hl:ts.length =(tab.map V.int).length) (h0:∀ v ∈ tab,0 ≤ v):bX H (ts.map V.ref) (dW tab) :=
 ⟨by rw [QG,hl,QG,fL],λ i v e=>by
  rw [QK] at e
  obtain⟨t,ht,rfl⟩:=QX.mp e
  obtain⟨_,x,hx,hH⟩:=h i t ht
  rw [QK] at hx
  obtain⟨z,hz,rfl⟩:=QX.mp hx
  have:=h0 z (QJ hz)
  refine⟨t,_,rfl,tK hz,?_⟩
  rw [hH]
  show some (HO.tup [V.int (i:Int),V.int z])=some (HO.tup [V.int (i:Int),V.int (z.toNat:Int)])
  rw [Tv this]⟩
def bW (ns tab:List Int):List (Nat × Nat):=ns.map λ k=>(k.toNat,(tab.getD k.toNat 0).toNat)
theorem AS {ns tab:List Int} {k:Int}:bW (ns ++ [k]) tab=bW ns tab ++ [(k.toNat,(tab.getD k.toNat 0).toNat)]:=by unfold bW;rw [RL];rfl
theorem rj {ns tab:List Int}:(bW ns tab).length=ns.length:=by unfold bW;rw [QG]
theorem Dd {wd:Nat} {ns:List Int} (h:ns.Pairwise (· < ·)) (hx:∀ x ∈ ns,0 ≤ x /\ x <(wd:Int)):ns.length ≤ wd:=kG wd ns (h.imp λ a=>by omega) hx
theorem lB {wd:Nat} {sets:List (List Int)} (h:Ct wd sets) {lo hi k:Int} (hk:iS sets lo hi k):0 ≤ k /\ k <(wd:Int):=by
 obtain⟨d,xs,_,_,e,hx⟩:=hk
 exact(h.day xs (QJ e)).2 k hx
structure wj (wd:Nat) (tabs:List (List Int)) (u:PcU):Prop where
 ok:qH wd u
 gd:u.good=true
 lt:u.wh=false->u.b < u.d
 lay:∃ tab,tabs[u.d]? = some tab /\ ∀ t,(u.wh=false->tabs[u.b]? = some t)->m9 u t=tab
theorem wj.more {wd:Nat} {tabs:List (List Int)} {u:PcU} (h:wj wd tabs u) (x:List Int):wj wd (tabs ++ [x]) u:=by
 obtain⟨tab,h1,h2⟩:=h.lay
 have hl:=(QE.mp h1).1
 refine⟨h.ok,h.gd,h.lt,tab,by rw [QW hl];exact h1,λ t ht=>h2 t λ hw=>?_⟩
 have:=ht hw
 rw [QW (by have:=h.lt hw;omega)] at this
 exact this
theorem yj (tab:List Int) {k:Nat}:∀(rows:List (Nat × Nat)) (t:List Int),(∀ r ∈ rows,(r.2:Int)=tab.getD r.1 0)->(∀ r ∈ rows,r.1 < t.length)->(kM t rows).getD k 0=if k ∈ rows.map Prod.fst then tab.getD k 0 else t.getD k 0
 | [],t,_,_=>by simp [kM]
 | r :: rs,t,h1,h2=>by
  show(kM (t.set r.1 (r.2:Int)) rs).getD k 0=_
  rw [yj tab rs _ (λ x hx=>h1 x (by simp [hx])) (λ x hx=>by rw [S0];exact h2 x (by simp [hx]))]
  by_cases hk:k ∈ rs.map Prod.fst
  ·rw [if_pos hk,if_pos (by rw [Rk];exact Rg _ hk)]
  ·rw [if_neg hk]
   by_cases e:k=r.1
   ·rw [if_pos (by rw [Rk,e];exact RU),Rl,e,SE (h2 r (by simp)),← h1 r (by simp)];rfl
   ·rw [if_neg (by rw [Rk];intro z;rcases Rh.mp z with z | z;exact e z;exact hk z),Rl,Sm (RJ e),Rl]
theorem Dp {a b:List Int} (hl:a.length=b.length) (h:∀ k,k < a.length->a.getD k 0=b.getD k 0):a=b:=by
 apply Tg
 intro i
 by_cases hi:i < a.length
 ·have:=h i hi
  rw [Rl,Rl,QC hi,QC (by omega)] at this
  rw [QC hi,QC (by omega)]
  exact congrArg some this
 ·rw [Rx (by omega),Rx (by omega)]
theorem pC:∀(chss:List (List (Int × Int))) (ts:List (List Int)) (i:Nat),i < ts.length->(eT ts chss)[i]? = ts[i]?
 | [],ts,i,_=>rfl
 | c :: r,ts,i,h=>by
  show(eT (ts ++ [nextT (ek ts) c]) r)[i]? = _
  rw [pC r _ i (by simp;omega),QW h]
theorem sX:∀(chss:List (List (Int × Int))) (ts:List (List Int)) (i:Nat) {c:List (Int × Int)} {t:List Int},ts ≠ []->chss[i]? = some c->(eT ts chss)[ts.length - 1 + i]? = some t->(eT ts chss)[ts.length + i]? = some (nextT t c)
 | [],ts,i,c,t,_,h,_=>by simp at h
 | c0 :: r,ts,0,c,t,h0,h,ht=>by
  have hp:=RY.mpr h0
  have hc:c0=c:=by simpa using h
  subst hc
  rw [pC _ ts _ (by omega)] at ht
  have hl:ek ts=t:=rK (by simpa using ht)
  show(eT (ts ++ [nextT (ek ts) c0]) r)[ts.length + 0]? = _
  rw [pC r _ _ (by simp),hl]
  simp
 | c0 :: r,ts,i + 1,c,t,h0,h,ht=>by
  have hp:=RY.mpr h0
  have ht:(eT (ts ++ [nextT (ek ts) c0]) r)[ts.length - 1 +(i + 1)]? = some t:=ht
  show(eT (ts ++ [nextT (ek ts) c0]) r)[ts.length +(i + 1)]? = _
  have:=sX r (ts ++ [nextT (ek ts) c0]) i (c:=c) (t:=t) (by simp) (by simpa using h) (by rw [show(ts ++ [nextT (ek ts) c0]).length - 1 + i=ts.length - 1 +(i + 1) by simp;omega];exact ht)
  rw [show(ts ++ [nextT (ek ts) c0]).length + i=ts.length +(i + 1) by simp;omega] at this
  exact this
theorem CS {wd:Nat} {chss:List (List (Int × Int))} {i:Nat} {c:List (Int × Int)} {t:List Int} (h:chss[i]? = some c) (ht:(bu wd chss)[i]? = some t):(bu wd chss)[i + 1]? = some (nextT t c):=by
 have:=sX chss [List.replicate wd 0] i (c:=c) (t:=t) (by simp) h (by rw [show [List.replicate wd (0:Int)].length - 1 + i=i by simp];exact ht)
 rw [show [List.replicate wd (0:Int)].length + i=i + 1 by simp;omega] at this
 exact this
theorem uP {k:Nat}:∀ {cs:List (Int × Int)} {t:List Int},(∀ c ∈ cs,c.1.toNat ≠ k)->(nextT t cs).getD k 0=t.getD k 0
 | [],t,_=>rfl
 | c :: r,t,h=>by
  show(nextT (t.set c.1.toNat c.2) r).getD k 0=_
  rw [uP λ x hx=>h x (by simp [hx])]
  rw [Rl,Rl,Sm (h c (by simp))]
theorem wV {wd:Nat} {chss:List (List (Int × Int))} (hok:∀ cs ∈ chss,iD wd cs) {d1:Nat} {k:Nat}:∀ {n:Nat} {t1 t2:List Int},(bu wd chss)[d1]? = some t1->(bu wd chss)[d1 + n]? = some t2->¬ iS (cS chss) d1 (d1 + n:Nat) k->t2.getD k 0=t1.getD k 0
 | 0,t1,t2,h1,h2,_=>by rw [Nat.add_zero,h1] at h2;cases h2;rfl
 | n + 1,t1,t2,h1,h2,hno=>by
  have hl:=(QE.mp h2).1
  rw [jO] at hl
  obtain⟨t,ht⟩:∃ t,(bu wd chss)[d1 + n]? = some t:=⟨_,QC (by rw [jO];omega)⟩
  obtain⟨c,hc⟩:∃ c,chss[d1 + n]? = some c:=⟨_,QC (by omega)⟩
  have h3:=CS hc ht
  rw [show d1 + n + 1=d1 +(n + 1) by omega,h2] at h3
  cases h3
  have hset:(cS chss)[d1 +(n + 1)]? = some (c.map Prod.fst):=by unfold cS;rw [show d1 +(n + 1)=d1 + n + 1 by omega,List.getElem?_cons_succ,QK,hc];rfl
  rw [uP λ x hx e=>?_]
  ·exact wV hok h1 ht λ⟨d,xs,a,b,e,h⟩=>hno ⟨d,xs,a,by omega,e,h⟩
  ·have hb:=(hok c (QJ hc)).2 x hx
   exact hno ⟨d1 +(n + 1),_,by omega,by omega,hset,QS.mpr ⟨x,hx,by omega⟩⟩
theorem CQ {wd:Nat} {chss:List (List (Int × Int))} (hok:∀ cs ∈ chss,iD wd cs) {d:Nat} {tab:List Int} (h:(bu wd chss)[d]? = some tab):wj wd (bu wd chss) ⟨true,0,d,dW tab,(d8 true 0 d (dW tab):Nat)⟩:=by
 have hT:=tabs_ok hok tab (QJ h)
 refine⟨⟨λ _=>by rw [← hT.1];exact fL tab,(λ h=>by cases h)⟩,by unfold PcU.good;simp,(λ h=>by cases h),tab,h,λ t _=>?_⟩
 show(dW tab).map (λ r=>(r.2:Int))=tab
 apply Tg
 intro i
 by_cases hi:i < tab.length
 ·rw [QK,tK (QC hi),QC hi]
  show some ((tab[i].toNat:Nat):Int)=_
  rw [Tv (hT.2 _ (R8 hi))]
 ·rw [Rx (by rw [QG,fL];omega),Rx (by omega)]
theorem DS {wd:Nat} {chss:List (List (Int × Int))} (hw:wd ≤ 40) (hok:∀ cs ∈ chss,iD wd cs) {b d:Nat} {tab ns:List Int} (hbd:b < d) (h:(bu wd chss)[d]? = some tab) (hp:ns.Pairwise (· < ·)) (hm:∀ k,k ∈ ns ↔ iS (cS chss) b d k):wj wd (bu wd chss) ⟨false,b,d,bW ns tab,(d8 false b d (bW ns tab):Nat)⟩:=by
 have hT:=tabs_ok hok tab (QJ h)
 have hS:=rP hw hok
 have hin:∀ k ∈ ns,0 ≤ k /\ k <(wd:Int):=λ k hk=>lB hS ((hm k).mp hk)
 have hr1:∀ r ∈ bW ns tab,r.1 < wd:=λ r hr=>by
  unfold bW at hr
  obtain⟨k,hk,rfl⟩:=QS.mp hr
  have:=hin k hk
  show k.toNat < wd
  omega
 have hr2:∀ r ∈ bW ns tab,(r.2:Int)=tab.getD r.1 0:=λ r hr=>by
  unfold bW at hr
  obtain⟨k,hk,rfl⟩:=QS.mp hr
  have:=hin k hk
  have hkt:k.toNat < tab.length:=by rw [hT.1];omega
  show((tab.getD k.toNat 0).toNat:Int)=tab.getD k.toNat 0
  rw [Tv]
  rw [Rl,QC hkt]
  exact hT.2 _ (R8 hkt)
 refine⟨⟨(λ h=>by cases h),λ _=>hr1⟩,by unfold PcU.good;simp,λ _=>hbd,tab,h,λ t ht=>?_⟩
 have ht:=ht rfl
 have hT2:=tabs_ok hok t (QJ ht)
 show kM t (bW ns tab)=tab
 refine Dp (by rw [lJ,hT2.1,hT.1]) λ k hk=>?_
 rw [lJ,hT2.1] at hk
 rw [yj tab _ t hr2 (λ r hr=>by rw [hT2.1];exact hr1 r hr)]
 by_cases hk2:k ∈(bW ns tab).map Prod.fst
 ·rw [if_pos hk2]
 ·rw [if_neg hk2]
  have h2:(bu wd chss)[b +(d - b)]? = some tab:=by rw [show b +(d - b)=d by omega];exact h
  refine(wV hok ht h2 λ hno=>hk2 ?_).symm
  rw [show((b +(d - b):Nat):Int) =(d:Int) by omega] at hno
  have:=(hm k).mpr hno
  unfold bW
  rw [V0,QS]
  exact⟨(k:Int),this,by simp⟩
def stM (M:bC):Int->Option (Int × Int):=λ n=>(M n).map λ u=>(u.st,(u.d:Int))
structure fm (H:Hp) (tl pl:Addr) (wd:Nat) (chss:List (List (Int × Int))) (LT PL:List Addr):Prop where
 tl_:H tl=some (.lst (LT.map V.ref))
 pl_:H pl=some (.lst (PL.map V.ref))
 lt:Rows H LT (bu wd chss)
 pn:PL.length =(cS chss).length
 ps:∀(i:Nat) a xs,PL[i]? = some a->(cS chss)[i]? = some xs->∃ kvs,H a=some (.dK kvs) /\ bM kvs (· ∈ xs)
 tp:tl ≠ pl
 n1:tl ∉ LT
 n2:pl ∉ LT
section
variable {H H':Hp} {tl pl:Addr} {wd:Nat} {chss:List (List (Int × Int))} {LT PL F:List Addr}
theorem fm.part (h:fm H tl pl wd chss LT PL):∀ b ∈ PL,∃ kvs,H b=some (.dK kvs):=λ b hb=>by
 obtain⟨i,hi⟩:=R0.mp hb
 have hl:=(QE.mp hi).1
 rw [h.pn] at hl
 obtain⟨kvs,h1,_⟩:=h.ps i b _ hi (QC hl)
 exact⟨kvs,h1⟩
theorem fm.tab (h:fm H tl pl wd chss LT PL):∀ b ∈ LT,∃ xs,H b=some (.lst xs):=λ b hb=>by
 obtain⟨i,hi⟩:=R0.mp hb
 have hl:=(QE.mp hi).1
 rw [h.lt.len] at hl
 exact⟨_,h.lt.get i b _ hi (QC hl)⟩
theorem fm.ig (h:fm H tl pl wd chss LT PL) (k:aV F H H') (h1:∀ f xs,H f=some (.lst xs)->f ∉ F) (h2:∀ b ∈ PL,b ∉ F):fm H' tl pl wd chss LT PL :=
 ⟨k _ _ h.tl_ (h1 _ _ h.tl_),k _ _ h.pl_ (h1 _ _ h.pl_),h.lt.mono λ a ha o e=>by
  obtain⟨xs,hx⟩:=h.tab a ha
  exact k a o e (h1 _ _ hx),h.pn,λ i a xs e1 e2=>by
  obtain⟨kvs,z1,z2⟩:=h.ps i a xs e1 e2
  exact⟨kvs,k _ _ z1 (h2 a (QJ e1)),z2⟩,h.tp,h.n1,h.n2⟩
theorem fm.keep (h:fm H tl pl wd chss LT PL) (s:az H H'):fm H' tl pl wd chss LT PL:=h.ig (F:=[]) (aV.of_same s) (λ _ _ _=>by simp) (λ _ _=>by simp)
theorem fm.snoc {H2:Hp} {t b:Addr} {cs:List (Int × Int)} {kvs:List (Key × V)} (h:fm H tl pl wd chss LT PL) (s:az H H2) (ht:H t=none) (hb:H b=none) (ht2:H2 t=some (.lst ((nextT (ek (bu wd chss)) cs).map V.int))) (hb2:H2 b=some (.dK kvs)) (hk:bM kvs (· ∈ cs.map Prod.fst)) :
  fm (upd (upd H2 tl (.lst ((LT ++ [t]).map V.ref))) pl (.lst ((PL ++ [b]).map V.ref))) tl pl wd (chss ++ [cs]) (LT ++ [t]) (PL ++ [b]):=by
 have nt1:t ≠ tl:=(aj h.tl_ ht).symm
 have nt2:t ≠ pl:=(aj h.pl_ ht).symm
 have ap:∀ {c:Addr} {o:HO},c ≠ tl->c ≠ pl->H2 c=some o->upd (upd H2 tl (.lst ((LT ++ [t]).map V.ref))) pl (.lst ((PL ++ [b]).map V.ref)) c=some o:=λ e1 e2 e=>by rw [af e2,af e1];exact e
 refine⟨by rw [af h.tp,ak],ak,?_,?_,λ i a xs e1 e2=>?_,h.tp,?_,?_⟩
 ·rw [wZ]
  exact(h.lt.mono λ a ha o e=>ap (λ z=>h.n1 (by rw [← z];exact ha)) (λ z=>h.n2 (by rw [← z];exact ha)) (s a o e)).snoc (ap nt1 nt2 ht2)
 ·rw [w4];simp [h.pn]
 ·rw [w4] at e2
  by_cases hi:i < PL.length
  ·rw [QW hi] at e1
   rw [QW (by rw [← h.pn];exact hi)] at e2
   obtain⟨kv,z1,z2⟩:=h.ps i a xs e1 e2
   exact⟨kv,ap (aR z1 h.tl_ (by intro z;cases z)) (aR z1 h.pl_ (by intro z;cases z)) (s _ _ z1),z2⟩
  ·have hlt:=(QE.mp e1).1
   have:i=PL.length:=by simp at hlt;omega
   subst this
   rw [Rb (QH _)] at e1
   rw [h.pn,Rb (QH _)] at e2
   simp at e1 e2
   subst e1 e2
   exact⟨kvs,ap (aR hb2 (s _ _ h.tl_) (by intro z;cases z)) (aR hb2 (s _ _ h.pl_) (by intro z;cases z)) hb2,by simpa using hk⟩
 ·simp only [List.mem_append,List.mem_singleton]
  rintro(z | z)
  ·exact h.n1 z
  ·exact nt1 z.symm
 ·simp only [List.mem_append,List.mem_singleton]
  rintro(z | z)
  ·exact h.n2 z
  ·exact nt2 z.symm
end
theorem uD:∀ {kvs:List (Key × V)} {k:Key} {v:V},bg kvs k=some v->(k,v) ∈ kvs
 | [],k,v,h=>by rw [Du] at h;cases h
 | kv :: r,k,v,h=>by
  by_cases e:kv.1=k
  ·rw [cT e] at h
   cases h;subst e;simp
  ·rw [cF e] at h
   exact Rg _ (uD h)
theorem bM.merge {S:Int->Prop}:∀(more:List (Key × V)) {kvs:List (Key × V)} {S T:Int->Prop},bM kvs S->g8 more->(∀ i,(∃ v,((Sum.inl i:Key),v) ∈ more) ↔ T i)->bM (cG kvs more) (λ i=>S i ∨ T i)
 | [],kvs,S,T,h,_,ht=>⟨h.nd,h.iz,λ i=>by rw [show cG kvs []=kvs from rfl,h.val i,← ht i];simp⟩
 |(k,v) :: r,kvs,S,T,h,ha,ht=>by
  obtain⟨n,hn⟩:=ha (k,v) (by simp)
  have hn:k=Sum.inl n:=hn
  subst hn
  have:=bM.merge (S:=S) r (h.put n v) (λ x hx=>ha x (by simp [hx])) (T:=λ i=>∃ v,((Sum.inl i:Key),v) ∈ r) (λ i=>Iff.rfl)
  refine⟨this.nd,this.iz,λ i=>?_⟩
  rw [show cG kvs ((Sum.inl n,v) :: r)=cG (putK kvs (Sum.inl n) v) r from rfl,this.val i,← ht i]
  constructor
  ·rintro((h1 | h1) |⟨w,h1⟩)
   ·exact .inl h1
   ·exact .inr ⟨v,by rw [h1];simp⟩
   ·exact .inr ⟨w,by simp [h1]⟩
  ·rintro(h1 |⟨w,h1⟩)
   ·exact .inl (.inl h1)
   ·rcases Rh.mp h1 with e | e
    ·have e:=RW (congrArg Prod.fst e)
     exact .inl (.inr e)
    ·exact .inr ⟨w,e⟩
theorem bM.has {kvs:List (Key × V)} {S:Int->Prop} (h:bM kvs S) (i:Int):(∃ v,((Sum.inl i:Key),v) ∈ kvs) ↔ S i:=by
 rw [← h.val i]
 constructor
 ·rintro⟨v,hv⟩;rw [rF h.nd hv];rfl
 ·intro hs
  obtain⟨v,hv⟩:=R4.mp hs
  exact⟨v,uD hv⟩
theorem bM.ns {kvs:List (Key × V)} {S:Int->Prop} (h:bM kvs S):∃ ns:List Int,kvs.map (·.1)=ns.map Sum.inl /\ ns.Nodup /\ ∀ i,i ∈ ns ↔ S i:=by
 obtain⟨ns,e⟩:=Ao h.iz
 have hn:=h.nd
 rw [e] at hn
 refine⟨ns,e,(UD.mp hn).imp λ a b=>a (congrArg Sum.inl b),λ i=>?_⟩
 rw [← bM.has h i]
 constructor
 ·intro hi
  have:(Sum.inl i:Key) ∈ kvs.map (·.1):=by rw [e];exact QS.mpr ⟨i,hi,rfl⟩
  obtain⟨⟨k,v⟩,hkv,e2⟩:=QS.mp this
  have e2:k=Sum.inl i:=e2
  subst e2
  exact⟨v,hkv⟩
 ·rintro⟨v,hv⟩
  have:(Sum.inl i:Key) ∈ ns.map Sum.inl:=by rw [← e];exact QS.mpr ⟨_,hv,rfl⟩
  obtain⟨j,hj,e2⟩:=QS.mp this
  rw [← RW e2];exact hj
structure S39 (C CW CG:Addr) (H:Hp) (p d ld:Addr) (n:Nat) (M:bC) (kvs lkv:List (Key × V)):Prop where
 sh:gw C H p d (n:Int) kvs
 sr:eU (eW CW CG H) kvs M
 ld_:H ld=some (.dK lkv)
 lr:eU (gG H) lkv M
 dld:d ≠ ld
 ks:kvs.map (·.1) =((List.range n).map λ i:Nat=>(i:Int)).map Sum.inl
 kl:lkv.map (·.1) =((List.range n).map λ i:Nat=>(i:Int)).map Sum.inl
theorem PAt.A4 {CW CG:Addr} {H H':Hp} {q:Addr} {F:List Addr} {wh:Bool} {b d:Nat} {rows:List (Nat × Nat)} {c:Int} (h:PAt CW CG H q wh b d rows c) (k:aV F H H') (hF:∀ f ∈ F,∃ xs,H f=some (.lst xs)):PAt CW CG H' q wh b d rows c:=by
 have no:∀ {x:Addr} {o:HO},H x=some o->(∀ xs,o ≠ .lst xs)->x ∉ F:=λ e h z=>by
  obtain⟨xs,hx⟩:=hF _ z
  rw [hx] at e;cases e;exact h xs rfl
 obtain⟨dx,r,R,h1,h2,h3⟩:=h
 exact⟨dx,r,R,k _ _ h1 (no h1 λ _ z=>by cases z),k _ _ h2 (no h2 λ _ z=>by cases z),h3.mono λ t xs e=>k _ _ e (no e λ _ z=>by cases z)⟩
section
variable {C CW CG:Addr} {H H' H1:Hp} {p d ld:Addr} {n:Nat} {M:bC} {kvs lkv:List (Key × V)} {F:List Addr}
theorem S39.keep (h:S39 C CW CG H p d ld n M kvs lkv) (s:az H H'):S39 C CW CG H' p d ld n M kvs lkv:=⟨h.sh.keep s,h.sr.mono λ _ _ z=>z.keep s,s _ _ h.ld_,h.lr.mono λ _ _ z=>z.keep s,h.dld,h.ks,h.kl⟩
theorem S39.A4 (h:S39 C CW CG H p d ld n M kvs lkv) (k:aV F H H') (hF:∀ f ∈ F,∃ xs,H f=some (.lst xs)):S39 C CW CG H' p d ld n M kvs lkv:=by
 have no:∀ {x:Addr} {o:HO},H x=some o->(∀ xs,o ≠ .lst xs)->x ∉ F:=λ e h z=>by
  obtain⟨xs,hx⟩:=hF _ z
  rw [hx] at e;cases e;exact h xs rfl
 obtain⟨dx,h1,h2⟩:=h.sh
 refine⟨⟨dx,k _ _ h1 (no h1 λ _ z=>by cases z),k _ _ h2 (no h2 λ _ z=>by cases z)⟩,h.sr.mono λ v u ⟨a,z1,z2,z3⟩=>⟨a,z1,PAt.A4 z2 k hF,z3⟩,k _ _ h.ld_ (no h.ld_ λ _ z=>by cases z),h.lr.mono λ v u ⟨t,z1,z2,z3⟩=>⟨t,z1,k _ _ z2 (no z2 λ _ z=>by cases z),z3⟩,h.dld,h.ks,h.kl⟩
theorem S39.jG {T:Addr} {ps:Array Value} (h:S39 C CW CG H p d ld n M kvs lkv) (hT:H T=some (.tbl ps)) (k:aV [T] H H'):S39 C CW CG H' p d ld n M kvs lkv :=
 ⟨gw.jG h.sh hT k,h.sr.mono λ _ _ z=>eW.jG z hT k,k _ _ h.ld_ (by simpa using aR h.ld_ hT (by intro z;cases z)),h.lr.mono λ _ _ z=>gG.jG z hT k,h.dld,h.ks,h.kl⟩
theorem S39.part (h:S39 C CW CG H p d ld n M kvs lkv):d7 H [p,d]:=λ x hx=>by
 obtain⟨dx,h1,h2⟩:=h.sh
 simp only [List.mem_cons,List.not_mem_nil,or_false] at hx
 rcases hx with rfl | rfl
 ·exact .inr ⟨C,dx,_,_,h1⟩
 ·exact .inl ⟨_,h2⟩
theorem S39.dom (h:S39 C CW CG H p d ld n M kvs lkv) (m:Int):(M m).isSome=true ↔ ∃ i < n,m =((i:Nat):Int):=by
 rw [← h.sr.keys h.ks m]
 constructor
 ·intro hm
  obtain⟨i,hi,e⟩:=QS.mp hm
  exact⟨i,Th.mp hi,e.symm⟩
 ·rintro⟨i,hi,rfl⟩
  exact QS.mpr ⟨i,Th.mpr hi,rfl⟩
theorem S39.few (h:S39 C CW CG H p d ld n M kvs lkv) (hn:n ≤ 900):FH kvs:=by
 refine⟨_,h.ks,.inr ⟨?_,by simpa using hn⟩⟩
 rw [UD]
 exact(List.pairwise_lt_range (n:=n)).imp λ z=>by omega
theorem S39.len (h:S39 C CW CG H p d ld n M kvs lkv):kvs.length=n /\ lkv.length=n:=by
 have h1:=congrArg List.length h.ks
 have h2:=congrArg List.length h.kl
 simp at h1 h2
 exact⟨h1,h2⟩
theorem vm {kvs:List (Key × V)} {v:V} (h:kvs.map (·.1) =((List.range n).map λ i:Nat=>(i:Int)).map Sum.inl):(putK kvs (Sum.inl (n:Int)) v).map (·.1) =((List.range (n + 1)).map λ i:Nat=>(i:Int)).map Sum.inl:=by
 have hv:bg kvs (Sum.inl (n:Int))=none:=by
  cases e:bg kvs (Sum.inl (n:Int)) with
  | none=>rfl
  | some x =>
   have:(Sum.inl (n:Int):Key) ∈ kvs.map (·.1):=QS.mpr ⟨_,uD e,rfl⟩
   rw [h] at this
   obtain⟨j,hj,e2⟩:=QS.mp this
   obtain⟨i,hi,rfl⟩:=QS.mp hj
   have:=Th.mp hi
   have:=RW e2
   omega
 rw [yF v hv,RL,h,List.range_succ,RL,RL]
 rfl
theorem S39.put (h:S39 C CW CG H p d ld n M kvs lkv) {a t:Addr} {u:PcU} (hp:eW CW CG H (.ref a) u) (ht:gG H (.ref t) u) (k:aV [p,d] H H1) (hS:gw C H1 p d ((n:Int) + 1) (putK kvs (Sum.inl (n:Int)) (.ref a))) :
  H1 ld=some (.dK lkv) /\ S39 C CW CG (upd H1 ld (.dK (putK lkv (Sum.inl (n:Int)) (.ref t)))) p d ld (n + 1) (xW M (n:Int) (some u)) (putK kvs (Sum.inl (n:Int)) (.ref a)) (putK lkv (Sum.inl (n:Int)) (.ref t)):=by
 have hF:=h.part
 obtain⟨dx,h1,h2⟩:=h.sh
 have ldn:ld ∉ [p,d]:=by
  simp only [List.mem_cons,List.not_mem_nil,or_false,not_or]
  exact⟨aR h.ld_ h1 (by intro z;cases z),h.dld.symm⟩
 have hld:=k _ _ h.ld_ ldn
 have kL:aV [ld] H1 (upd H1 ld (.dK (putK lkv (Sum.inl (n:Int)) (.ref t)))):=dF aV.refl (.inl (by simp))
 have hF1:d7 H1 [ld]:=d7.one hld
 obtain⟨dx1,g1,g2⟩:=hS
 refine⟨hld,⟨dx1,kL _ _ g1 (by simpa using aR g1 hld (by intro z;cases z)),kL _ _ g2 (by simpa using h.dld)⟩,?_,ak,?_,h.dld,vm h.ks,vm h.kl⟩
 ·exact(h.sr.mono λ v u z=>(z.ig k hF).ig kL hF1).put ((hp.ig k hF).ig kL hF1)
 ·have step:∀ v u,gG H v u->gG (upd H1 ld (.dK (putK lkv (Sum.inl (n:Int)) (.ref t)))) v u:=λ v u ⟨t,z1,z2,z3⟩=>⟨t,z1,kL _ _ (k _ _ z2 (hF.tup z2)) (hF1.tup (k _ _ z2 (hF.tup z2))),z3⟩
  refine(h.lr.mono step).put ?_
  ·obtain⟨t',z1,z2,z3⟩:=ht
   exact⟨t',z1,kL _ _ (k _ _ z2 (hF.tup z2)) (hF1.tup (k _ _ z2 (hF.tup z2))),z3⟩
end
structure gC (wd:Nat) (tabs:List (List Int)) (u:PcU):Prop where
 ok:qH wd u
 car:u.good=true->wj wd tabs u
 dl:u.d < tabs.length
 rl:u.rows.length ≤ 40
theorem gC.more {wd:Nat} {tabs:List (List Int)} {u:PcU} (h:gC wd tabs u) (x:List Int):gC wd (tabs ++ [x]) u:=⟨h.ok,λ g=>(h.car g).more x,by simp;have:=h.dl;omega,h.rl⟩
def gx (M:bC):List Int->Option Nat
 | []=>none
 | n :: r=>match M n with
  | some u=>if u.good=true then gx M r else some u.d
  | none=>none
theorem z6 {wd:Nat} {tabs:List (List Int)} {M:bC} (hM:∀ m u,M m=some u->gC wd tabs u) {day:Int}:∀(way:List Int) (k:Nat) (cur:Int) (t:List Int),iW (stM M) cur way=some day->(0 ≤ cur->tabs[cur.toNat]? = some t) →
  (∀ dd,gx M way=some dd->cV M k cur t way = .bad dd) /\(gx M way=none->∃ tab,cV M k cur t way = .tab tab /\((way = [] /\ tab=t) ∨(0 ≤ day /\ tabs[day.toNat]? = some tab)))
 | [],k,cur,t,h,_=>⟨λ dd e=>(by cases e),λ _=>⟨t,rfl,.inl ⟨rfl,rfl⟩⟩⟩
 | n :: r,k,cur,t,h,hc=>by
  rw [kR] at h
  cases eM:M n with
  | none=>rw [show stM M n=none by unfold stM;rw [eM];rfl] at h;cases h
  | some u =>
   rw [show stM M n=some (u.st,(u.d:Int)) by unfold stM;rw [eM];rfl] at h
   dsimp only at h
   by_cases hs:u.st=cur
   ·rw [if_pos hs] at h
    have e1:gx M (n :: r)=if u.good=true then gx M r else some u.d:=by rw [gx,eM]
    rw [e1]
    cases hg:u.good with
    | false =>
     rw [if_neg (by decide)]
     refine⟨λ dd e=>?_,λ e=>by cases e⟩
     cases e
     rw [cV,eM];dsimp only;rw [if_pos hs,if_neg (by rw [hg];decide)]
    | true =>
     rw [if_pos rfl]
     have e2:cV M k cur t (n :: r)=cV M (k + 1) (u.d:Int) (m9 u t) r:=by rw [cV,eM];dsimp only;rw [if_pos hs,if_pos hg]
     rw [e2]
     obtain⟨tab,h1,h2⟩:=((hM n u eM).car hg).lay
     have hl:m9 u t=tab:=h2 t λ hw=>by
      rw [rE hw] at hs
      have:=hc (by omega)
      rw [← hs] at this
      exact this
     obtain⟨i1,i2⟩:=z6 hM r (k + 1) (u.d:Int) (m9 u t) h (λ _=>by rw [hl];exact h1)
     refine⟨i1,λ e=>?_⟩
     obtain⟨tab',h3,h4⟩:=i2 e
     refine⟨tab',h3,.inr ?_⟩
     rcases h4 with⟨rfl,h4⟩ | h4
     ·have:(u.d:Int)=day:=by simpa [iW] using h
      rw [← this,h4,hl]
      exact⟨by omega,h1⟩
     ·exact h4
   ·rw [if_neg hs] at h;cases h
theorem DO {wd:Nat} {tabs:List (List Int)} {M:bC} (hM:∀ m u,M m=some u->gC wd tabs u) {day:Int} {way:List Int} (h:iW (stM M) (-1) way=some day) (hne:way ≠ []):(∀ dd,gx M way=some dd->iu M way = .bad dd) /\(gx M way=none->∃ tab,iu M way = .tab tab /\ tabs[day.toNat]? = some tab):=by
 obtain⟨h1,h2⟩:=z6 hM way 0 (-1) [] h (λ h=>absurd h (by decide))
 have e:iu M way=cV M 0 (-1) [] way:=by unfold iu;rw [if_neg hne]
 rw [e]
 refine⟨h1,λ z=>?_⟩
 obtain⟨tab,a1,a2⟩:=h2 z
 refine⟨tab,a1,?_⟩
 rcases a2 with⟨a2,_⟩ | a2
 ·exact absurd a2 hne
 ·exact a2.2
def gA (pr:PcU->Int) (n:Int) (u:PcU):Leg:=⟨n,u.st,(u.d:Int),cJ u,pr u⟩
def fq (M:bC) (pr:PcU->Int) (ns:List Int):List Leg:=ns.map λ n=>match M n with
 | some u=>gA pr n u
 | none=>⟨n,0,0,0,0⟩
theorem B6 (M:bC) (pr:PcU->Int) (ns:List Int):(fq M pr ns).map Leg.num=ns:=by
 unfold fq
 rw [V0]
 refine(List.map_congr_left λ n _=>?_).trans (List.map_id ns)
 show Leg.num (match M n with | some u=>gA pr n u | none=>⟨n,0,0,0,0⟩)=n
 cases M n <;> rfl
theorem cM.keys {H:Hp} {LV:List V} {M:bC} {ns:List Int} {pr:PcU->Int} (h:cM H LV M ns pr):bI true H LV ((fq M pr ns).map ja) :=
 ⟨by unfold fq;rw [QG,QG];exact h.len,λ i v k e1 e2=>by
  unfold fq at e2
  rw [V0,QK] at e2
  obtain⟨n,hn,rfl⟩:=QX.mp e2
  obtain⟨t,u,h1,h2,h3⟩:=h.get i v n e1 hn
  refine⟨t,h1,?_⟩
  show H t=some (.tup ((ja (match M n with | some u=>gA pr n u | none=>⟨n,0,0,0,0⟩)).map V.int))
  rw [h2]
  exact h3⟩
theorem mF {M:bC} {pr:PcU->Int} {ns:List Int} (hs:iU M ns) {g:Leg}:g ∈ fq M pr ns ↔ ∃ u,M g.num=some u /\ g=gA pr g.num u:=by
 unfold fq
 rw [QS]
 constructor
 ·rintro⟨n,hn,rfl⟩
  obtain⟨u,hu⟩:=R4.mp ((hs.2 n).mp hn)
  rw [hu]
  exact⟨u,hu,rfl⟩
 ·rintro⟨u,hu,e⟩
  refine⟨g.num,(hs.2 _).mpr (by rw [hu];rfl),?_⟩
  rw [hu];exact e.symm
theorem Eu {M:bC} {pr:PcU->Int} {ns:List Int} (hs:iU M ns) (hp:∀ u,0 ≤ pr u):∀ g ∈ fq M pr ns,mR g:=λ g hg=>by
 obtain⟨u,hu,e⟩:=(mF hs).mp hg
 rw [e]
 refine⟨?_,?_,hp u⟩
 ·show(0:Int) ≤(u.d:Int);omega
 ·show(0:Int) ≤ cJ u
  unfold cJ;split <;> decide
theorem Av {M:bC} {pr:PcU->Int} {ns:List Int} (hs:iU M ns):((fq M pr ns).map Leg.num).Nodup:=by
 rw [B6]
 exact hs.1.imp λ h=>by omega
def gB (M:bC) (pr:PcU->Int) (way:List Int):List Int:=way.foldl (λ q n=>match M n with
 | some u=>bO q (gA pr n u)
 | none=>q) [0,0,0]
theorem De (M:bC) (pr:PcU->Int) (way:List Int):fN (gB M pr way):=by
 unfold gB
 have key:∀(way:List Int) (q:List Int),fN q->fN (way.foldl (λ q n=>match M n with | some u=>bO q (gA pr n u) | none=>q) q):=by
  intro way
  induction way with
  | nil=>intro q h;exact h
  | cons n r ih =>
   intro q h
   rw [Tz]
   apply ih
   cases M n with
   | none=>exact h
   | some u=>exact h.over _
 exact key way _ ⟨0,0,0,rfl⟩
theorem uU {M:bC} {pr:PcU->Int} {way:List Int} {n:Int} {u:PcU} (h:M n=some u):gB M pr (way ++ [n])=bO (gB M pr way) (gA pr n u):=by
 unfold gB
 rw [SS,Tz,List.foldl_nil,h]
theorem z8 {M:bC} {pr:PcU->Int} {ns:List Int} {P:Int->Option (List Int)} {L:Int->Option Int} (hs:iU M ns) (LP:gD (fq M pr ns) P) (IL:cR (fq M pr ns) P L):∀ {d:Int} {ws:List Int},Chain L (fq M pr ns) d ws->iW (stM M) (-1) ws.reverse=some d /\ P d=some (gB M pr ws.reverse) /\ ∀ n ∈ ws,∃ u,M n=some u
 | _,_,.nil=>⟨rfl,LP.zero,λ n h=>by cases h⟩
 | d,x :: ws,.cons (s:=s) h1 h2 ⟨g',hg',e1,e2⟩ h4=>by
  obtain⟨i1,i2,i3⟩:=z8 hs LP IL h4
  obtain⟨⟨g,hg,a1,⟨q,hq,hqt⟩,a3⟩,_⟩:=IL.ff d x h2
  have eg:=Cs (Av hs) hg hg' (by rw [a3,e1])
  subst eg
  obtain⟨u,hu,eu⟩:=(mF hs).mp hg
  have hux:M x=some u:=by rw [← a3];exact hu
  have est:u.st=s:=by rw [← e2,eu];rfl
  have ed:(u.d:Int)=d:=by rw [← a1,eu];rfl
  rw [UA]
  refine⟨?_,?_,λ n hn=>?_⟩
  ·rw [w5,i1]
   show iW (stM M) s [x]=some d
   rw [kR,show stM M x=some (u.st,(u.d:Int)) by unfold stM;rw [hux];rfl]
   dsimp only
   rw [if_pos est]
   show some (u.d:Int)=some d
   rw [ed]
  ·rw [uU hux]
   rw [e2,i2] at hq
   cases hq
   rw [a1] at hqt
   rw [hqt,eu,a3]
  ·rcases Rh.mp hn with rfl | hn
   ·exact⟨u,hux⟩
   ·exact i3 n hn
def uH:Sp:=λ vs H Q _=>∃(c:Int) (tl pl:Addr) (wd:Nat) (chss:List (List (Int × Int))) (LT PL:List Addr),vs = [.int c,.ref tl,.ref pl] /\ fm H tl pl wd chss LT PL /\ 0 < wd /\ wd ≤ 40 /\(∀ cs ∈ chss,iD wd cs) /\ chss.length ≤ 63 ∧
 ∀ cs t b H',iD wd cs->fm H' tl pl wd (chss ++ [cs]) (LT ++ [t]) (PL ++ [b])->aV [tl,pl] H H'->H t=none->H b=none->Q .non H'
def qK (CW CG:Addr):Sp:=λ vs H Q _=>∃(tl pl:Addr) (b d wd:Nat) (chss:List (List (Int × Int))) (LT PL:List Addr),vs = [.ref tl,.ref pl,.int (b:Int),.int (d:Int)] /\ fm H tl pl wd chss LT PL /\ wd ≤ 40 /\(∀ cs ∈ chss,iD wd cs) /\ chss.length ≤ 64 /\ b < d /\ d ≤ chss.length ∧
 ∀ p2 ns tab H',(bu wd chss)[d]? = some tab->ns.Pairwise (· < ·)->(∀ k,k ∈ ns ↔ iS (cS chss) (b:Int) (d:Int) k)->PAt CW CG H' p2 false b d (bW ns tab) (d8 false b d (bW ns tab):Nat)->az H H'->Q (.ref p2) H'
def pH (C CW CG:Addr):Sp:=λ vs H Q _=>∃(p d ld a t:Addr) (c:Int) (n wd:Nat) (M:bC) (kvs lkv:List (Key × V)) (u:PcU) (tabs:List (List Int)),vs = [.ref p,.ref ld,.ref a,.ref t,.int c] /\ S39 C CW CG H p d ld n M kvs lkv /\ n ≤ 200 /\ H t=some (.tup [.int u.st,.int (u.d:Int),.int (u.rows.length:Int)]) /\ PAt CW CG H a u.wh u.b u.d u.rows u.c ∧
 u.c =(d8 u.wh u.b u.d u.rows:Nat) /\ gC wd tabs u /\(u.b < 2 ^ 63 /\ u.d < 2 ^ 63) /\(∀ r ∈ u.rows,r.1 < 2 ^ 64 /\ r.2 < 2 ^ 64) ∧
 ∀ u' kvs' lkv' H',gC wd tabs u'->S39 C CW CG H' p d ld (n + 1) (xW M (n:Int) (some u')) kvs' lkv'->aV [p,d,ld] H H'->Q .non H'
def qT (C CW CG:Addr):Sp:=λ vs H Q _=>∃(c:Int) (tl pl p d ld:Addr) (wd n:Nat) (chss:List (List (Int × Int))) (LT PL:List Addr) (M:bC) (kvs lkv:List (Key × V)),vs = [.int c,.ref tl,.ref pl,.ref p,.ref ld] /\ fm H tl pl wd chss LT PL /\ d ∉ PL /\ ld ∉ PL /\ 0 < wd /\ wd ≤ 40 /\(∀ cs ∈ chss,iD wd cs) /\ chss ≠ [] /\ chss.length ≤ 64 /\ S39 C CW CG H p d ld n M kvs lkv /\ n ≤ 190 /\(∀ m u,M m=some u->gC wd (bu wd chss) u) ∧
 ∀ n' M' kvs' lkv' H',n ≤ n'->n' ≤ n + 2->(∀ m u,M' m=some u->gC wd (bu wd chss) u)->S39 C CW CG H' p d ld n' M' kvs' lkv'->aV [p,d,ld] H H'->Q .non H'
def cE (sk ea:Int):PcU->Int:=λ u=>sk + ea * (u.rows.length:Int)
def kP:Sp:=λ vs H Q _=>∃(pa t rl:Addr) (q:List Int) (sk ea n:Int) (u:PcU),vs = [.ref pa,.ref t,.ref rl] /\ fN q /\ H pa=some (.tup (q.map V.int)) /\ gG H (.ref t) u /\ H rl=some (.lst [.int sk,.int ea]) /\ ∀ r,H r=none->Q (.ref r) (upd H r (.tup ((bO q (gA (cE sk ea) n u)).map V.int)))
def pJ:Sp:=λ vs H Q _=>∃(ld kn rl:Addr) (sk ea:Int) (lkv kvs:List (Key × V)) (M:bC) (ns:List Int) (P:Int->Option (List Int)),vs = [.ref ld,.ref kn,.ref rl] /\ H ld=some (.dK lkv) /\ eU (gG H) lkv M /\ H kn=some (.dK kvs) /\ ld ≠ kn /\ gE H kvs (iL P (-1)) /\ H rl=some (.lst [.int sk,.int ea]) /\ iU M ns /\ gD (fq M (cE sk ea) ns) P /\ ∀ H',az H H'->Q (.bl true) H'
def qP:Sp:=λ vs H Q _=>∃(ld ls:Addr) (lkv kvs:List (Key × V)) (M:bC) (L:Int->Option Int) (pr:PcU->Int) (ns:List Int) (day:Int) (ws:List Int),vs = [.ref ld,.ref ls,.int day] /\ H ld=some (.dK lkv) /\ eU (gG H) lkv M /\ H ls=some (.dK kvs) /\ kh kvs L /\ L (-1)=none /\ iU M ns /\ Chain L (fq M pr ns) day ws /\ ws.length ≤ lkv.length /\ lkv.length ≤ 900 ∧
 ∀ r H',H' r=some (.lst (ws.reverse.map V.int))->H r=none->az H H'->Q (.ref r) H'
def lZ (C CW CG:Addr):Sp:=λ vs H Q _=>∃(p d ld wl:Addr) (n wd dd:Nat) (M:bC) (kvs lkv:List (Key × V)) (way:List Int),vs = [.ref p,.ref wl,.int (dd:Int)] /\ S39 C CW CG H p d ld n M kvs lkv /\(∀ m u,M m=some u->qH wd u) /\ H wl=some (.lst (way.map V.int)) /\ way.length ≤ 900 /\ iu M way = .bad dd /\ ∀ H',az H H'->Q (.bl true) H'
def qO (C CW CG:Addr):Sp:=λ vs H Q _=>∃(p d ld wl pa tb rl:Addr) (n wd:Nat) (sk ea day:Int) (M:bC) (kvs lkv:List (Key × V)) (way tab:List Int) (tabs:List (List Int)),vs = [.ref p,.ref ld,.ref wl,.ref pa,.ref tb,.ref rl] /\ S39 C CW CG H p d ld n M kvs lkv /\(∀ m u,M m=some u->gC wd tabs u) /\ H wl=some (.lst (way.map V.int)) /\ way.length ≤ 900 /\ way ≠ [] /\ iW (stM M) (-1) way=some day /\(∀ m ∈ way,∃ u,M m=some u) ∧
 H pa=some (.tup ((gB M (cE sk ea) way).map V.int)) /\ H tb=some (.lst (tab.map V.int)) /\ tabs[day.toNat]? = some tab /\ H rl=some (.lst [.int sk,.int ea]) /\ ∀ H',az H H'->Q (.bl true) H'
def qv (K:Frag) (tabs:List (Addr × Addr)):Sp:=λ vs H Q _=>∃(a:Addr) (ns:List Int),vs = [.ref a] /\ SqL K H a (ns.map V.int) /\ ns.length ≤ 63 /\ Bl H tabs /\ ∀ H',Q (.bl true) H'
theorem BG (t:List Int) (cs:List (Int × Int)) (c:Int × Int):nextT t (cs ++ [c]) =(nextT t cs).set c.1.toNat c.2:=by unfold nextT;rw [SS];rfl
theorem yk:∀(cs:List (Int × Int)) (t:List Int),(nextT t cs).length=t.length
 | [],t=>rfl
 | c :: r,t=>by
  show(nextT (t.set c.1.toNat c.2) r).length=_
  rw [yk r,S0]
theorem bM.iff {kvs:List (Key × V)} {S T:Int->Prop} (h:bM kvs S) (e:∀ i,S i ↔ T i):bM kvs T:=⟨h.nd,h.iz,λ i=>(h.val i).trans (e i)⟩
theorem vC {kvs:List (Key × V)} {S:Int->Prop} {wd:Nat} (h:bM kvs S) (hS:∀ i,S i->0 ≤ i /\ i <(wd:Int)):kvs.length ≤ wd:=by
 obtain⟨ns,e,hn,hm⟩:=bM.ns h
 have:=kG wd ns hn λ x hx=>hS x ((hm x).mp hx)
 have:=congrArg List.length e
 simp at this
 omega
theorem DW {sets:List (List Int)} {b i:Nat} {xs:List Int} (h:sets[b + 1 + i]? = some xs) (k:Int):iS sets (b:Int) ((b +(i + 1):Nat):Int) k ↔ iS sets (b:Int) ((b + i:Nat):Int) k ∨ k ∈ xs:=by
 constructor
 ·rintro⟨d,ys,h1,h2,h3,h4⟩
  by_cases e:d=b + 1 + i
  ·subst e;rw [h] at h3;cases h3;exact .inr h4
  ·exact .inl ⟨d,ys,h1,by omega,h3,h4⟩
 ·rintro(⟨d,ys,h1,h2,h3,h4⟩ | h4)
  ·exact⟨d,ys,h1,by omega,h3,h4⟩
  ·exact⟨b + 1 + i,xs,by omega,by omega,h,h4⟩
theorem BH {rows:List (Nat × Nat)} {i bt:Nat} {r:Nat × Nat} (h:r ∈ dg rows i bt):∃ r' ∈ rows,r.1=r'.1:=by
 obtain⟨j,hj⟩:=R0.mp h
 unfold dg at hj
 rw [Vu] at hj
 obtain⟨r',hr',e⟩:=QX.mp hj
 refine⟨r',QJ hr',?_⟩
 rw [← e]
 split <;> rfl
theorem gC.Kz {wd:Nat} {tabs:List (List Int)} {u:PcU} {i bt:Nat} (h:gC wd tabs u) (hg:({ u with rows:=dg u.rows i bt }:PcU).good=false):gC wd tabs { u with rows:=dg u.rows i bt } :=
 ⟨⟨λ hw=>by show(dg u.rows i bt).length=wd;rw [kD];exact h.ok.len hw,λ hw r hr=>by
  obtain⟨r',h1,h2⟩:=BH hr
  rw [h2];exact h.ok.lt hw r' h1⟩,(λ z=>by rw [hg] at z;cases z),h.dl,by show(dg u.rows i bt).length ≤ 40;rw [kD];exact h.rl⟩
theorem sS {wd:Nat} {chss:List (List (Int × Int))} (hw:wd ≤ 40) (hok:∀ cs ∈ chss,iD wd cs) {d:Nat} {tab:List Int} (h:(bu wd chss)[d]? = some tab):gC wd (bu wd chss) ⟨true,0,d,dW tab,(d8 true 0 d (dW tab):Nat)⟩:=by
 have c:=CQ hok h
 refine⟨c.ok,λ _=>c,(QE.mp h).1,?_⟩
 show(dW tab).length ≤ 40
 rw [fL,(tabs_ok hok tab (QJ h)).1];exact hw
theorem Bu {wd:Nat} {chss:List (List (Int × Int))} (hw:wd ≤ 40) (hok:∀ cs ∈ chss,iD wd cs) {b d:Nat} {tab ns:List Int} (hbd:b < d) (h:(bu wd chss)[d]? = some tab) (hp:ns.Pairwise (· < ·)) (hm:∀ k,k ∈ ns ↔ iS (cS chss) b d k):gC wd (bu wd chss) ⟨false,b,d,bW ns tab,(d8 false b d (bW ns tab):Nat)⟩:=by
 have c:=DS hw hok hbd h hp hm
 refine⟨c.ok,λ _=>c,(QE.mp h).1,?_⟩
 show(bW ns tab).length ≤ 40
 rw [rj]
 have:=Dd hp λ x hx=>lB (rP hw hok) ((hm x).mp hx)
 omega
def j7 (t:List Int):Prop:=∀ v ∈ t,v < 2 ^ 64
theorem Ca:∀ {chs:List (Int × Int)} {t:List Int},j7 t->(∀ c ∈ chs,c.2 < 2 ^ 64)->j7 (nextT t chs)
 | [],t,h,_=>h
 | c :: r,t,h,hc=>by
  show j7 (nextT (t.set c.1.toNat c.2) r)
  refine Ca (λ v hv=>?_) λ x hx=>hc x (by simp [hx])
  rcases UK hv with z | z
  ·exact h v z
  ·rw [z];exact hc c (by simp)
theorem yG {wd:Nat}:∀ {chss:List (List (Int × Int))} {ts:List (List Int)},(∀ cs ∈ chss,iD wd cs)->(∀ t ∈ ts,j7 t)->ts ≠ []->∀ t ∈ eT ts chss,j7 t
 | [],ts,_,h,_=>h
 | c :: r,ts,hc,h,h0=>by
  show ∀ t ∈ eT (ts ++ [nextT (ek ts) c]) r,j7 t
  refine yG (λ cs hcs=>hc cs (by simp [hcs])) (λ t ht=>?_) (by simp)
  rcases Ro.mp ht with z | z
  ·exact h t z
  ·rw [QZ.mp z]
   have hl:ts.length - 1 < ts.length:=by have:=RY.mpr h0;omega
   have:j7 (ek ts):=by rw [rK (QC hl)];exact h _ (R8 hl)
   exact Ca this λ x hx=>((hc c (by simp)).2 x hx).2.2.2
theorem CO {wd:Nat} {chss:List (List (Int × Int))} (h:∀ cs ∈ chss,iD wd cs):∀ t ∈ bu wd chss,j7 t:=yG h (λ t ht=>by
 rw [QZ.mp ht]
 intro v hv
 rw [(VZ.mp hv).2];decide) (by simp)
theorem Ax {tab:List Int} (hl:tab.length ≤ 40) (h:j7 tab):∀ r ∈ dW tab,r.1 < 2 ^ 64 /\ r.2 < 2 ^ 64:=λ r hr=>by
 obtain⟨i,hi⟩:=R0.mp hr
 have hil:=(QE.mp hi).1
 rw [fL] at hil
 rw [tK (QC hil)] at hi
 cases hi
 have:=h _ (R8 hil)
 exact⟨by show i < 2 ^ 64;omega,by show(tab[i]).toNat < 2 ^ 64;omega⟩
theorem EO {tab ns:List Int} {wd:Nat} (hw:wd ≤ 40) (hn:∀ k ∈ ns,0 ≤ k /\ k <(wd:Int)) (h:j7 tab):∀ r ∈ bW ns tab,r.1 < 2 ^ 64 /\ r.2 < 2 ^ 64:=λ r hr=>by
 unfold bW at hr
 obtain⟨k,hk,rfl⟩:=QS.mp hr
 have:=hn k hk
 refine⟨by show k.toNat < 2 ^ 64;omega,?_⟩
 show(tab.getD k.toNat 0).toNat < 2 ^ 64
 by_cases hl:k.toNat < tab.length
 ·rw [Rl,QC hl]
  have:=h _ (R8 hl)
  show(tab[k.toNat]).toNat < 2 ^ 64
  omega
 ·rw [Rl,Rx (by omega)];decide
def fbV:Option Nat->V
 | none=>.non
 | some d=>.int (d:Int)
theorem wF {M:bC} {n:Int} {u:PcU} (hu:M n=some u):∀ {way:List Int},(∀ m ∈ way,∃ u,M m=some u)->gx M (way ++ [n])=match gx M way with
  | some d=>some d
  | none=>if u.good=true then none else some u.d
 | [],_=>by
  show(match M n with | some u=>if u.good=true then gx M [] else some u.d | none=>none)=_
  rw [hu];rfl
 | m :: r,h=>by
  obtain⟨w,hw⟩:=h m (by simp)
  have ih:=wF hu (way:=r) λ x hx=>h x (by simp [hx])
  show(match M m with | some u=>if u.good=true then gx M (r ++ [n]) else some u.d | none=>none)=match (match M m with | some u=>if u.good=true then gx M r else some u.d | none=>none) with
   | some d=>some d
   | none=>if u.good=true then none else some u.d
  rw [hw]
  dsimp only
  cases hg:w.good with
  | true=>rw [if_pos rfl,if_pos rfl];exact ih
  | false=>rw [if_neg (by decide),if_neg (by decide)]
theorem Bx {Qb:Bool->Hp->Prop} {H:Hp} (b:Bool) (h1:Qb true H) (h2:Qb false H):Qb b H:=by cases b <;> assumption
theorem gG.ig {H H':Hp} {v:V} {u:PcU} {F:List Addr} (h:gG H v u) (k:aV F H H') (hF:d7 H F):gG H' v u:=let ⟨t,h1,h2,h3⟩:=h;⟨t,h1,k _ _ h2 (hF.tup h2),h3⟩
theorem S39.xT {C CW CG:Addr} {H H':Hp} {p d ld x:Addr} {n:Nat} {M:bC} {kvs lkv kv:List (Key × V)} (h:S39 C CW CG H p d ld n M kvs lkv) (k:aV [x] H H') (hx:H x=some (.dK kv)) (n1:d ≠ x) (n2:ld ≠ x):S39 C CW CG H' p d ld n M kvs lkv:=by
 have hF:=d7.one hx
 obtain⟨dx,h1,h2⟩:=h.sh
 exact⟨⟨dx,k _ _ h1 (by simpa using aR h1 hx (by intro z;cases z)),k _ _ h2 (by simpa using n1)⟩,h.sr.mono λ _ _ z=>z.ig k hF,k _ _ h.ld_ (by simpa using n2),h.lr.mono λ _ _ z=>gG.ig z k hF,h.dld,h.ks,h.kl⟩
structure G39 (C CW CG T:Addr) (H:Hp) (rl tl pl p d ld:Addr) (sk ea:Int) (wd n:Nat) (chss:List (List (Int × Int))) (LT PL:List Addr) (M:bC) (kvs lkv:List (Key × V)):Prop where
 dy:fm H tl pl wd chss LT PL
 s:S39 C CW CG H p d ld n M kvs lkv
 rl_:H rl=some (.lst [.int sk,.int ea])
 tb:H T=some (.tbl #[])
 r1:rl ≠ tl
 r2:rl ≠ pl
 n1:d ∉ PL
 n2:ld ∉ PL
 ok:∀ cs ∈ chss,iD wd cs
 car:∀ m u,M m=some u->gC wd (bu wd chss) u
section
variable {C CW CG T:Addr} {H H':Hp} {rl tl pl p d ld:Addr} {sk ea:Int} {wd n:Nat} {chss:List (List (Int × Int))} {LT PL:List Addr} {M:bC} {kvs lkv:List (Key × V)}
theorem G39.keep (h:G39 C CW CG T H rl tl pl p d ld sk ea wd n chss LT PL M kvs lkv) (s:az H H'):G39 C CW CG T H' rl tl pl p d ld sk ea wd n chss LT PL M kvs lkv :=
 ⟨h.dy.keep s,h.s.keep s,s _ _ h.rl_,s _ _ h.tb,h.r1,h.r2,h.n1,h.n2,h.ok,h.car⟩
theorem G39.day {cs:List (Int × Int)} {t b:Addr} (h:G39 C CW CG T H rl tl pl p d ld sk ea wd n chss LT PL M kvs lkv) (k:aV [tl,pl] H H') (dy:fm H' tl pl wd (chss ++ [cs]) (LT ++ [t]) (PL ++ [b])) (hb:H b=none) (hcs:iD wd cs):G39 C CW CG T H' rl tl pl p d ld sk ea wd n (chss ++ [cs]) (LT ++ [t]) (PL ++ [b]) M kvs lkv:=by
 have hF:∀ f ∈ [tl,pl],∃ xs,H f=some (.lst xs):=λ f hf=>by
  simp only [List.mem_cons,List.not_mem_nil,or_false] at hf
  rcases hf with rfl | rfl
  ·exact⟨_,h.dy.tl_⟩
  ·exact⟨_,h.dy.pl_⟩
 obtain⟨dx,h1,h2⟩:=h.s.sh
 refine⟨dy,h.s.A4 k hF,k _ _ h.rl_ (by simp [h.r1,h.r2]),k _ _ h.tb ?_,h.r1,h.r2,?_,?_,λ c hc=>?_,λ m u e=>?_⟩
 ·simp only [List.mem_cons,List.not_mem_nil,or_false,not_or]
  exact⟨aR h.tb h.dy.tl_ (by intro z;cases z),aR h.tb h.dy.pl_ (by intro z;cases z)⟩
 ·simp only [List.mem_append,List.mem_singleton,not_or]
  exact⟨h.n1,aj h2 hb⟩
 ·simp only [List.mem_append,List.mem_singleton,not_or]
  exact⟨h.n2,aj h.s.ld_ hb⟩
 ·rcases Ro.mp hc with hc | hc
  ·exact h.ok c hc
  ·rw [QZ.mp hc];exact hcs
 ·rw [wZ];exact(h.car m u e).more _
theorem G39.put {n':Nat} {M':bC} {kvs' lkv':List (Key × V)} (h:G39 C CW CG T H rl tl pl p d ld sk ea wd n chss LT PL M kvs lkv) (k:aV [p,d,ld] H H') (s':S39 C CW CG H' p d ld n' M' kvs' lkv') (c':∀ m u,M' m=some u->gC wd (bu wd chss) u):G39 C CW CG T H' rl tl pl p d ld sk ea wd n' chss LT PL M' kvs' lkv':=by
 obtain⟨dx,h1,h2⟩:=h.s.sh
 have ls:∀ f xs,H f=some (.lst xs)->f ∉ [p,d,ld]:=λ f xs e=>by
  simp only [List.mem_cons,List.not_mem_nil,or_false,not_or]
  exact⟨aR e h1 (by intro z;cases z),aR e h2 (by intro z;cases z),aR e h.s.ld_ (by intro z;cases z)⟩
 refine⟨h.dy.ig k ls λ b hb=>?_,s',k _ _ h.rl_ (ls _ _ h.rl_),k _ _ h.tb ?_,h.r1,h.r2,h.n1,h.n2,h.ok,c'⟩
 ·obtain⟨kv',hb'⟩:=h.dy.part b hb
  simp only [List.mem_cons,List.not_mem_nil,or_false,not_or]
  exact⟨aR hb' h1 (by intro z;cases z),λ z=>h.n1 (by rw [← z];exact hb),λ z=>h.n2 (by rw [← z];exact hb)⟩
 ·simp only [List.mem_cons,List.not_mem_nil,or_false,not_or]
  exact⟨aR h.tb h1 (by intro z;cases z),aR h.tb h2 (by intro z;cases z),aR h.tb h.s.ld_ (by intro z;cases z)⟩
theorem G39.PZ (h:G39 C CW CG T H rl tl pl p d ld sk ea wd n chss LT PL M kvs lkv) {f:Addr} {xs:List V} (e:H f=some (.lst xs)):f ∉ [p,d,ld]:=by
 obtain⟨dx,h1,h2⟩:=h.s.sh
 simp only [List.mem_cons,List.not_mem_nil,or_false,not_or]
 exact⟨aR e h1 (by intro z;cases z),aR e h2 (by intro z;cases z),aR e h.s.ld_ (by intro z;cases z)⟩
end
theorem D8 {C CW CG:Addr} {H:Hp} {p d ld:Addr} {n:Nat} {M:bC} {kvs lkv:List (Key × V)} (h:S39 C CW CG H p d ld n M kvs lkv) {ns:List Int} (hs:iU M ns):ns.length ≤ n:=by
 have hnd:ns.Nodup:=hs.1.imp λ h=>by omega
 have:=kG n ns hnd λ x hx=>by
  obtain⟨i,hi,rfl⟩:=(h.dom x).mp ((hs.2 x).mp hx)
  omega
 exact this
theorem Hu (ns:List Int):∃ cs:List Int,pR (ns.map V.int) (some 3) (some 43)=cs.map V.int /\ cs.length ≤ 40:=by
 refine⟨(ns.drop (HT.sIx (ns.map V.int).length 0 (some ((3:Nat):Int)))).take (HT.sIx (ns.map V.int).length (ns.map V.int).length (some ((43:Nat):Int)) - HT.sIx (ns.map V.int).length 0 (some ((3:Nat):Int))),?_,?_⟩
 ·unfold pR
  rw [List.map_take,List.map_drop]
  rfl
 ·rw [Ri,UN,HT.Ab,HT.Ab,QG]
  omega
structure Txt (K:Frag) (mg:Str->Option Value) (t_W:Tok) (aE:Addr) (aG:Addr) (aD:Addr) (aI:Addr) (aB:Addr) (aH:Addr) (aA:Addr) (aK:Addr) (ah:Addr) (ao:Addr) (ay:Addr):Prop where
 m_W:mg "W" = some (.int 18446744073709551615 t_W)
 Gy:mg "KeepError" = some (.ref aE)
 GB:cZ K aE
 GL:mg "NoPlace" = some (.ref aG)
 jd:cZ K aG
 fJ:bD K aG "place"
 GP:mg "NoPiece" = some (.ref aD)
 rq:cZ K aD
 eO:bD K aD "number"
 Pq:mg "NoWay" = some (.ref aI)
 rX:cZ K aI
 jq:bD K aI "at"
 zP:mg "BadPiece" = some (.ref aB)
 jE:cZ K aB
 eF:bD K aB "day"
 CM:mg "NoItem" = some (.ref aH)
 x8:cZ K aH
 Qv:mg "Heap" = some (.ref aA)
 bA:Cls K aA
 br:bD K aA "row"
 yN:mg "Piece" = some (.ref aK)
 HL:mg "Whole" = some (.ref ah)
 bT:Cls K ah
 dH:bD K ah "day"
 cN:bD K ah "rows"
 fz:bD K ah "check"
 fW:bD K ah "fits"
 Qw:mg "Gain" = some (.ref ao)
 bQ:Cls K ao
 ef:bD K ao "day"
 cK:bD K ao "rows"
 gc:bD K ao "check"
 gT:bD K ao "fits"
 fQ:bD K ao "base"
 LI:mg "Shelf" = some (.ref ay)
 cL:Cls K ay
 cu:bD K ay "pieces"
 cB:bD K ay "follows"
 fM:mg "len" = none
 xX:mg "isinstance" = none
 Qz:mg "int" = none
 Qx:mg "bool" = none
 mj:mg "list" = none
 EB:mg "tuple" = none
 FD:mg "dict" = none
 vZ:mg "range" = none
 Ei:mg "min" = none
 GJ:mg "max" = none
 zp:mg "sorted" = none
 nc:mg "enumerate" = none
 Bv:mg "reversed" = none
 Gj:mg "ValueError" = none
 jF:findIn K (.ref aH) "__init__" = some (some (.builtin "ValueError.__init__"))
 jH:keepIn K (.ref aH)=true
 kt1:mroIn K aB (.ref aB)=some true
section
variable {cc_rate iy:Addr} {P:Program} {w:World} {K:Frag} {mg:Str->Option Value} {base:Heap} {t_W:Tok} {aE:Addr} {aG:Addr} {aD:Addr} {aI:Addr} {aB:Addr} {aH:Addr} {aA:Addr} {aK:Addr} {ah:Addr} {ao:Addr} {ay:Addr}
theorem p7 {f:Addr} {fd:FuncData} (F:Fun K "__init__" "NoPlace.__init__" cH f fd) (T:Txt K mg t_W aE aG aD aI aB aH aA aK ah ao ay):aX P w K mg base (CXx P w) 1 f fd ["self","place"] (iG aG "place"):=by
 refine F.okX pZ (λ vs H Q E h=>?_) (λ cdv A outer s H vs Q E hr h=>?_)
 ·obtain⟨p,y0,rfl,hp,q⟩:=h;rfl
 ·obtain⟨p,y0,rfl,hp,q⟩:=h
  refine⟨_,(aF (pB (pv 0) (pv 1) rfl)),?_⟩
  exact⟨_,rfl,_,rfl,p,aG,true,rfl,hp,T.jd,T.fJ,λ dx hdx=>q dx hdx⟩
theorem p8 {f:Addr} {fd:FuncData} (F:Fun K "__init__" "NoPiece.__init__" cI f fd) (T:Txt K mg t_W aE aG aD aI aB aH aA aK ah ao ay):aX P w K mg base (CXx P w) 1 f fd ["self","number"] (iG aD "number"):=by
 refine F.okX p9 (λ vs H Q E h=>?_) (λ cdv A outer s H vs Q E hr h=>?_)
 ·obtain⟨p,y0,rfl,hp,q⟩:=h;rfl
 ·obtain⟨p,y0,rfl,hp,q⟩:=h
  refine⟨_,(aF (pB (pv 0) (pv 1) rfl)),?_⟩
  exact⟨_,rfl,_,rfl,p,aD,true,rfl,hp,T.rq,T.eO,λ dx hdx=>q dx hdx⟩
theorem sO {f:Addr} {fd:FuncData} (F:Fun K "__init__" "NoWay.__init__" di f fd) (T:Txt K mg t_W aE aG aD aI aB aH aA aK ah ao ay):aX P w K mg base (CXx P w) 1 f fd ["self","at"] (iG aI "at"):=by
 refine F.okX sI (λ vs H Q E h=>?_) (λ cdv A outer s H vs Q E hr h=>?_)
 ·obtain⟨p,y0,rfl,hp,q⟩:=h;rfl
 ·obtain⟨p,y0,rfl,hp,q⟩:=h
  refine⟨_,(aF (pB (pv 0) (pv 1) rfl)),?_⟩
  exact⟨_,rfl,_,rfl,p,aI,true,rfl,hp,T.rX,T.jq,λ dx hdx=>q dx hdx⟩
theorem oV {f:Addr} {fd:FuncData} (F:Fun K "__init__" "BadPiece.__init__" cD f fd) (T:Txt K mg t_W aE aG aD aI aB aH aA aK ah ao ay):aX P w K mg base (CXx P w) 1 f fd ["self","day"] (iG aB "day"):=by
 refine F.okX pL (λ vs H Q E h=>?_) (λ cdv A outer s H vs Q E hr h=>?_)
 ·obtain⟨p,y0,rfl,hp,q⟩:=h;rfl
 ·obtain⟨p,y0,rfl,hp,q⟩:=h
  refine⟨_,(aF (pB (pv 0) (pv 1) rfl)),?_⟩
  exact⟨_,rfl,_,rfl,p,aB,true,rfl,hp,T.jE,T.eF,λ dx hdx=>q dx hdx⟩
theorem tY {f:Addr} {fd:FuncData} (F:Fun K "__init__" "Heap.__init__" dO f fd) (T:Txt K mg t_W aE aG aD aI aB aH aA aK ah ao ay) :aX P w K mg base (CXx P w) 1 f fd ["self"] (uG aA):=by
 refine F.okX tL (λ vs H Q E h=>?_) (λ cdv A outer s H vs Q E hr h=>?_)
 ·obtain⟨p,dx,rfl,hp,q⟩:=h;rfl
 obtain⟨p,dx,rfl,hp,q⟩:=h
 refine⟨_,(aF (jy (pv 0) (dN aC) rfl)),?_⟩
 repeat (first | refine⟨_,rfl,?_⟩ | refine⟨_,_,rfl,rfl,?_⟩ | refine⟨(by first | decide |(dsimp only;decide) |(show 2 ≤ sizeLine;decide) |(show 1 ≤ sizeLine;decide) |(show 3 ≤ sizeLine;decide) |(show 4 ≤ sizeLine;decide)),?_⟩ | refine⟨.inl ⟨by first | decide |(dsimp only;decide),by first | decide |(dsimp only;decide)⟩,?_⟩ | refine⟨.inr ⟨by first | decide |(dsimp only;decide),by first | decide |(dsimp only;decide)⟩,?_⟩ | refine⟨⟨by first | decide |(dsimp only;decide),by first | decide |(dsimp only;decide)⟩,?_⟩ | refine⟨rfl,?_⟩ | refine⟨_,_,rfl,?_⟩)
 intro r hr
 refine⟨_,rfl,p,aA,dx,_,rfl,az.new hr _ _ hp,T.bA,T.br,by decide,?_⟩
 have npr:p ≠ r:=aj hp hr
 have ob:upd (upd H r (.lst [])) p (.ins aA dx (cz "row" (V.ref r) [])) p=some (.ins aA dx [("row",V.ref r)]):=ak
 have rw':upd (upd H r (.lst [])) p (.ins aA dx (cz "row" (V.ref r) [])) r=some (.lst []):=by rw [af npr.symm,ak]
 exact q r _ hr ⟨⟨dx,ob⟩,rw',bI.nil⟩ ⟨⟨dx,ob⟩,rw',bI.nil⟩ (dF (aV.of_same (az.new hr)) (.inl (by simp)))
theorem ym {f:Addr} {fd:FuncData} (F:Fun K "swap" "Heap.swap" gU f fd) (T:Txt K mg t_W aE aG aD aI aB aH aA aK ah ao ay) :aX P w K mg base (CXx P w) 1 f fd ["self","one","other"] (rV aA):=by
 refine F.okX qq (λ vs H Q E h=>?_) (λ cdv A outer s H vs Q E hr h=>?_)
 ·obtain⟨tu,p,r,xs,its,i,j,rfl,W,hi,hj,q⟩:=h;rfl
 obtain⟨tu,p,r,xs,its,i,j,rfl,W,hi,hj,q⟩:=h
 refine⟨_,(au (aL (i:=3) qq.nd rfl (Or.inl rfl) (aQ aW (bq (pv 0) rfl) (pv 1) (λ _ _=>rfl)))
   (au (lT (aQ aW (bq (pv 0) rfl) (pv 2) (λ _ _=>rfl)) (oz (bq (pv 0) rfl) (pv 1) set_list))
   (aF (lT (pv 3) (oz (bq (pv 0) rfl) (pv 2) set_list))))),?_⟩
 obtain⟨dx,ob⟩:=W.ob
 obtain⟨v,ev,kv⟩:=W.ks.at_ hi
 obtain⟨w',ew,kw⟩:=W.ks.at_ hj
 have npr:=W.ne
 have hxl:xs.length=its.length:=W.ks.len
 refine⟨_,rfl,p,aA,dx,_,_,rfl,ob,T.bA,T.br,bR,_,rfl,r,_,_,v,rfl,rfl,SqL.of W.row,bw ev,?_⟩
 refine aT [some (.ref p),some (.int (i:Int)),some (.int (j:Int)),some v] ?_
 refine⟨_,rfl,p,aA,dx,_,_,rfl,ob,T.bA,T.br,bR,_,rfl,r,_,_,w',rfl,rfl,SqL.of W.row,bw ew,?_⟩
 refine⟨_,rfl,p,aA,dx,_,_,rfl,ob,T.bA,T.br,bR,_,rfl,r,_,_,i,rfl,rfl,W.row,by unfold ixN;rw [if_pos (by omega),if_pos (by omega)];rfl,?_⟩
 refine⟨_,rfl,_,rfl,p,aA,dx,_,_,rfl,by rw [af npr];exact ob,T.bA,T.br,bR,_,rfl,r,_,_,j,rfl,rfl,ak,by rw [S0];unfold ixN;rw [if_pos (by omega),if_pos (by omega)];rfl,?_⟩
 have e2:upd (upd H r (.lst (xs.set i w'))) r (.lst ((xs.set i w').set j v))=upd H r (.lst ((xs.set i w').set j v)):=nZ
 rw [e2]
 exact q _ _ (W.put (W.ks.swap hi hj ev ew)) (dF aV.refl (.inl (by simp)))
theorem pS {f:Addr} {fd:FuncData} (F:Fun K "lesser_below" "Heap.lesser_below" cC f fd) (T:Txt K mg t_W aE aG aD aI aB aH aA aK ah ao ay) :aX P w K mg base (CXx P w) 1 f fd ["self","place"] (qC aA):=by
 refine F.okX jt (λ vs H Q E h=>?_) (λ cdv A outer s H vs Q E hr h=>?_)
 ·obtain⟨tu,p,r,xs,its,i,rfl,W,q⟩:=h;rfl
 obtain⟨tu,p,r,xs,its,i,rfl,W,q⟩:=h
 refine⟨_,(au (aL (i:=2) jt.nd rfl (Or.inl rfl) (aO bN (aO iB aq (pv 1)) aq))
   (au (ck (PW.pt (pw_and (bx uR (aO bN (pv 2) aq) (bL bF (by rfl) T.fM Ru (aa (bq (pv 0) rfl) aC)) (bz _)) (pw_and1 (bx (zF (Si (Tr _ 64) hr.units)) (aQ aW (bq (pv 0) rfl) (aO bN (pv 2) aq) (λ _ _=>rfl)) (aQ aW (bq (pv 0) rfl) (pv 2) (λ _ _=>rfl)) (bz _))))) (aF (bh (aO bN (pv 2) aq))) bK)
   (aF (bh (pv 2))))),?_⟩
 obtain⟨dx,ob⟩:=W.ob
 have hxl:xs.length=its.length:=W.ks.len
 refine⟨_,rfl,_,_,rfl,rfl,.inl ⟨by decide,by decide⟩,_,_,rfl,rfl,?_⟩
 refine aT [some (.ref p),some (.int (i:Int)),some (.int ((2 * i + 1:Nat):Int))] ?_ (by show [_,_,some (V.int (2 * (i:Int) + 1))]=_;rw [show(2 * (i:Int) + 1) =((2 * i + 1:Nat):Int) by omega])
 refine⟨_,rfl,_,_,rfl,rfl,_,rfl,p,aA,dx,_,_,rfl,ob,T.bA,T.br,bR,r,_,rfl,.inl (SqL.of W.row),_,_,rfl,rfl,_,rfl,?_⟩
 have r1:2 * i + 2 < its.length->HT.lexLt (gK its (2 * i + 2)) (gK its (2 * i + 1))=true->lsr its i=2 * i + 2:=λ a b=>if_pos ⟨a,b⟩
 have r2:¬(2 * i + 2 < its.length /\ HT.lexLt (gK its (2 * i + 2)) (gK its (2 * i + 1))=true)->lsr its i=2 * i + 1:=λ a=>if_neg a
 by_cases hlt:2 * i + 2 < its.length
 ·refine jM (by omega) ?_
  obtain⟨v,ev,kv⟩:=W.ks.at_ hlt
  obtain⟨w',ew,kw⟩:=W.ks.at_ (show 2 * i + 1 < its.length by omega)
  refine⟨_,rfl,p,aA,dx,_,_,rfl,ob,T.bA,T.br,bR,_,rfl,_,_,rfl,rfl,r,_,_,v,rfl,rfl,SqL.of W.row,?_,?_⟩
  ·rw [show((2 * i + 1:Nat):Int) + 1 =((2 * i + 2:Nat):Int) by omega];exact bw ev
  refine⟨_,rfl,p,aA,dx,_,_,rfl,ob,T.bA,T.br,bR,_,rfl,r,_,_,w',rfl,rfl,SqL.of W.row,bw ew,?_⟩
  refine yW kv kw ⟨_,rfl,?_⟩
  cases hc:HT.lexLt (gK its (2 * i + 2)) (gK its (2 * i + 1)) with
  | true =>
   rw [r1 hlt hc] at q
   refine dX ⟨_,rfl,_,_,rfl,rfl,?_⟩
   show Q (V.int (((2 * i + 1:Nat):Int) + 1)) H
   rw [show((2 * i + 1:Nat):Int) + 1 =((2 * i + 2:Nat):Int) by omega]
   exact q
  | false =>
   rw [r2 (λ h=>by rw [hc] at h;cases h.2)] at q
   exact dM ⟨_,rfl,q⟩
 ·refine jN (by omega) (dM ⟨_,rfl,?_⟩)
  rw [r2 (λ h=>hlt h.1)] at q
  exact q
theorem yt {f:Addr} {fd:FuncData} (F:Fun K "lift" "Heap.lift" g5 f fd) (T:Txt K mg t_W aE aG aD aI aB aH aA aK ah ao ay) (gO:bf P w K mg base aA "swap" 1 ["self","one","other"] (rV aA)):aX P w K mg base (CXx P w) 2 f fd ["self","place"] (vY aA):=by
 refine F.okX lP (λ vs H Q E h=>?_) (λ cdv A outer s H vs Q E hr h=>?_)
 ·obtain⟨tu,p,r,xs,its,k,rfl,W,hk,I,q⟩:=h;rfl
 obtain⟨tu,p,r,xs,its,k,rfl,W,hk,I,q⟩:=h
 refine⟨_,(au (aL (i:=2) lP.nd rfl (Or.inl rfl) (pv 1))
   (aF (lE Ra (PW.pt (pw_and (bx rO (pv 2) aq (bz _)) (pw_and1 (bx (zF (Si (Tr _ 64) hr.units)) (aQ aW (bq (pv 0) rfl) (pv 2) (λ _ _=>rfl)) (aQ aW (bq (pv 0) rfl) (aO fO (aO iT (pv 2) aq) aq) (λ _ _=>rfl)) (bz _))))) (au (bP (bV (pv 0) T.bA gO aM (hr.mono (by decide)) (aa (pv 2) (aa (aO fO (aO iT (pv 2) aq) aq) aC))))
   (aF (aL (i:=2) lP.nd rfl (Or.inl rfl) (aO fO (aO iT (pv 2) aq) aq))))))),?_⟩
 refine⟨_,rfl,?_⟩
 refine aT [some (.ref p),some (.int (k:Int)),some (.int (k:Int))] ?_
 refine⟨λ m σ H'=>∃ xs' its',σ = [some (.ref p),some (.int (k:Int)),some (.int (m:Int))] /\ dc aA tu H' p r xs' its' /\ m < its'.length /\ uX its' m /\ its'.Perm its /\ aV [r] H H',⟨k,xs,its,rfl,W,hk,I,Vn _,aV.refl⟩,?_⟩
 rintro m σ H1 ⟨xs1,its1,rfl,W1,hm,I1,P1,k1⟩
 obtain⟨dx,ob⟩:=W1.ob
 refine⟨_,rfl,_,_,rfl,rfl,_,rfl,?_⟩
 by_cases h0:m=0
 ·subst h0
  refine jN (by omega) (dM ?_)
  exact q _ _ _ W1 (yZ I1 (.inl rfl)) P1 k1
 refine jM (by omega) ?_
 have hpm:(m - 1) / 2 < its1.length:=by omega
 obtain⟨v,ev,kv⟩:=W1.ks.at_ hm
 obtain⟨w',ew,kw⟩:=W1.ks.at_ hpm
 have e2:((m:Int) - 1) / 2 =(((m - 1) / 2:Nat):Int):=by omega
 refine⟨_,rfl,p,aA,dx,_,_,rfl,ob,T.bA,T.br,bR,_,rfl,r,_,_,v,rfl,rfl,SqL.of W1.row,bw ev,?_⟩
 refine⟨_,rfl,p,aA,dx,_,_,rfl,ob,T.bA,T.br,bR,_,rfl,_,_,rfl,rfl,_,_,rfl,rfl,⟨by decide,by decide⟩,r,_,_,w',rfl,rfl,SqL.of W1.row,by show atI xs1 (((m:Int) - 1) / 2)=_;rw [e2];exact bw ew,?_⟩
 refine yW kv kw ⟨_,rfl,?_⟩
 cases hlt:HT.lexLt (gK its1 m) (gK its1 ((m - 1) / 2)) with
 | false=>exact dM (q _ _ _ W1 (yZ I1 (.inr hlt)) P1 k1)
 | true =>
  refine dX ⟨_,λ σ' H' h=>h,?_⟩
  refine⟨_,rfl,p,dx,_,rfl,ob,iF (by decide +kernel),_,rfl,_,rfl,_,_,rfl,rfl,_,_,rfl,rfl,⟨by decide,by decide⟩,?_⟩
  refine⟨tu,p,r,xs1,its1,m,(m - 1) / 2,by show [_,_,V.int (((m:Int) - 1) / 2)]=_;rw [e2],W1,hm,hpm,λ xs2 H2 W2 k2=>?_⟩
  refine⟨_,rfl,_,_,rfl,rfl,_,_,rfl,rfl,⟨by decide,by decide⟩,?_⟩
  refine⟨(m - 1) / 2,by omega,xs2,_,by show [_,_,some (V.int (((m:Int) - 1) / 2))]=_;rw [e2],W2,by rw [j3];exact hpm,CA I1 (by omega) hm hlt,(zv hm hpm).trans P1,λ b o e hb=>k2 b o (k1 b o e hb) hb⟩
theorem ze {f:Addr} {fd:FuncData} (F:Fun K "sink" "Heap.sink" gV f fd) (T:Txt K mg t_W aE aG aD aI aB aH aA aK ah ao ay) (eZ:bf P w K mg base aA "lesser_below" 1 ["self","place"] (qC aA)) (gO:bf P w K mg base aA "swap" 1 ["self","one","other"] (rV aA)):aX P w K mg base (CXx P w) 2 f fd ["self","place"] (vB aA):=by
 refine F.okX ir (λ vs H Q E h=>?_) (λ cdv A outer s H vs Q E hr h=>?_)
 ·obtain⟨tu,p,r,xs,its,k,rfl,W,hk,I,q⟩:=h;rfl
 obtain⟨tu,p,r,xs,its,k,rfl,W,hk,I,q⟩:=h
 refine⟨_,(au (aL (i:=2) ir.nd rfl (Or.inl rfl) (pv 1))
   (au (aL (i:=3) ir.nd rfl (Or.inl rfl) (bV (pv 0) T.bA eZ aM (hr.mono (by decide)) (aa (pv 2) aC)))
   (aF (lE Ra (PW.pt (pw_and (bx uR (pv 3) (bL bF (by rfl) T.fM Ru (aa (bq (pv 0) rfl) aC)) (bz _)) (pw_and1 (bx (zF (Si (Tr _ 64) hr.units)) (aQ aW (bq (pv 0) rfl) (pv 3) (λ _ _=>rfl)) (aQ aW (bq (pv 0) rfl) (pv 2) (λ _ _=>rfl)) (bz _))))) (au (bP (bV (pv 0) T.bA gO aM (hr.mono (by decide)) (aa (pv 3) (aa (pv 2) aC))))
   (au (aL (i:=2) ir.nd rfl (Or.inl rfl) (pv 3))
   (aF (aL (i:=3) ir.nd rfl (Or.inl rfl) (bV (pv 0) T.bA eZ aM (hr.mono (by decide)) (aa (pv 2) aC)))))))))),?_⟩
 obtain⟨dx,ob⟩:=W.ob
 refine⟨_,rfl,?_⟩
 refine aT [some (.ref p),some (.int (k:Int)),some (.int (k:Int)),none] ?_
 refine⟨_,rfl,p,dx,_,rfl,ob,iF (by decide +kernel),_,rfl,tu,p,r,xs,its,k,rfl,W,?_⟩
 refine aT [some (.ref p),some (.int (k:Int)),some (.int (k:Int)),some (.int (lsr its k:Int))] ?_
 refine⟨λ m σ H'=>∃(xs':List V) (its':List (List Int)) (h:Nat),σ = [some (.ref p),some (.int (k:Int)),some (.int (h:Int)),some (.int (lsr its' h:Int))] /\ dc aA tu H' p r xs' its' /\ h < its'.length /\ uK its' h /\ its'.Perm its /\ aV [r] H H' /\ m=its'.length - h,⟨_,xs,its,k,rfl,W,hk,I,Vn _,aV.refl,rfl⟩,?_⟩
 rintro m σ H1 ⟨xs1,its1,h,rfl,W1,hm,I1,P1,k1,rfl⟩
 clear ob
 obtain⟨dx,ob⟩:=W1.ob
 have hxl:xs1.length=its1.length:=W1.ks.len
 refine⟨_,rfl,_,rfl,p,aA,dx,_,_,rfl,ob,T.bA,T.br,bR,r,_,rfl,.inl (SqL.of W1.row),_,_,rfl,rfl,_,rfl,?_⟩
 by_cases h0:its1.length ≤ lsr its1 h
 ·refine jN (by omega) (dM ?_)
  exact q _ _ _ W1 (yl I1 (.inl h0)) P1 k1
 refine jM (by omega) ?_
 have hw:lsr its1 h < its1.length:=by omega
 obtain⟨v,ev,kv⟩:=W1.ks.at_ hw
 obtain⟨w',ew,kw⟩:=W1.ks.at_ hm
 refine⟨_,rfl,p,aA,dx,_,_,rfl,ob,T.bA,T.br,bR,_,rfl,r,_,_,v,rfl,rfl,SqL.of W1.row,bw ev,?_⟩
 refine⟨_,rfl,p,aA,dx,_,_,rfl,ob,T.bA,T.br,bR,_,rfl,r,_,_,w',rfl,rfl,SqL.of W1.row,bw ew,?_⟩
 refine yW kv kw ⟨_,rfl,?_⟩
 cases hlt:HT.lexLt (gK its1 (lsr its1 h)) (gK its1 h) with
 | false=>exact dM (q _ _ _ W1 (yl I1 (.inr hlt)) P1 k1)
 | true =>
  refine dX ⟨_,λ σ' H' h=>h,?_⟩
  refine⟨_,rfl,p,dx,_,rfl,ob,iF (by decide +kernel),_,rfl,_,rfl,tu,p,r,xs1,its1,lsr its1 h,h,rfl,W1,hw,hm,λ xs2 H2 W2 k2=>?_⟩
  obtain⟨dx2,ob2⟩:=W2.ob
  refine⟨_,rfl,?_⟩
  refine aT [some (.ref p),some (.int (k:Int)),some (.int (lsr its1 h:Int)),some (.int (lsr its1 h:Int))] ?_
  refine⟨_,rfl,p,dx2,_,rfl,ob2,iF (by decide +kernel),_,rfl,tu,p,r,xs2,_,lsr its1 h,rfl,W2,?_⟩
  have hgt:=Aj its1 h
  refine⟨_,?_,xs2,_,lsr its1 h,rfl,W2,by rw [j3];exact hw,CC I1 hw hlt,(zv hw hm).trans P1,λ b o e hb=>k2 b o (k1 b o e hb) hb,rfl⟩
  rw [j3];omega
theorem zJ {f:Addr} {fd:FuncData} (F:Fun K "add" "Heap.add" iH f fd) (T:Txt K mg t_W aE aG aD aI aB aH aA aK ah ao ay) (nN:bf P w K mg base aA "lift" 2 ["self","place"] (vY aA)):aX P w K mg base (CXx P w) 3 f fd ["self","item"] (zC aA):=by
 refine F.okX zI (λ vs H Q E h=>?_) (λ cdv A outer s H vs Q E hr h=>?_)
 ·obtain⟨tu,p,r,xs,its,v,ks,rfl,W,hO,hv,hl,q⟩:=h;rfl
 obtain⟨tu,p,r,xs,its,v,ks,rfl,W,hO,hv,hl,q⟩:=h
 refine⟨_,(au (bP (m7 RH RO RP gv (bq (pv 0) rfl) (aa (pv 1) aC)))
   (aF (bP (bV (pv 0) T.bA nN aM (hr.mono (by decide)) (aa (aO iT (bL bF (by rfl) T.fM Ru (aa (bq (pv 0) rfl) aC)) aq) aC))))),?_⟩
 obtain⟨dx,ob⟩:=W.ob
 have hxl:xs.length=its.length:=W.ks.len
 refine⟨_,rfl,p,aA,dx,_,_,rfl,ob,T.bA,T.br,bR,.inl ⟨rfl,_,SqL.of W.row⟩,_,rfl,r,_,_,rfl,rfl,W.row,by rw [hxl];exact QT hl (by decide),?_⟩
 have W2:=W.put (W.ks.snoc hv)
 have k2:aV [r] H (upd H r (.lst (xs ++ [v]))):=dF aV.refl (.inl (by simp))
 generalize upd H r (.lst (xs ++ [v]))=H2 at W2 k2
 obtain⟨dx2,ob2⟩:=W2.ob
 have e2:(((xs ++ [v]).length:Nat):Int) - 1 =(its.length:Int):=by simp [hxl]
 refine⟨_,rfl,p,dx2,_,rfl,ob2,iF (by decide +kernel),_,rfl,p,aA,dx2,_,_,rfl,ob2,T.bA,T.br,bR,r,_,rfl,.inl (SqL.of W2.row),_,_,rfl,rfl,?_⟩
 refine⟨tu,p,r,xs ++ [v],its ++ [ks],its.length,by show [_,V.int ((((xs ++ [v]).length:Nat):Int) - 1)]=_;rw [e2],W2,by simp,⟨λ i h0 hi hne=>?_,λ h0 i h1 hi hp=>?_⟩,λ xs' its' H' W' hO' P' k'=>q _ _ _ W' hO' P' λ b o e hb=>k' b o (k2 b o e hb) hb⟩
 ·rw [Rj] at hi
  have hi':i < its.length:=by simp at hi;omega
  have hg:∀ j,j < its.length->gK (its ++ [ks]) j=gK its j:=λ j hj=>by simp [gK,List.getD_eq_getElem?_getD,List.getElem?_append_left hj]
  rw [hg _ hi',hg _ (by omega)]
  exact hO i h0 hi'
 ·rw [Rj] at hi
  simp at hi;omega
theorem xy {f:Addr} {fd:FuncData} (F:Fun K "least" "Heap.least" gk f fd) (T:Txt K mg t_W aE aG aD aI aB aH aA aK ah ao ay) :aX P w K mg base (CXx P w) 2 f fd ["self"] (uf aA aH):=by
 refine F.okX xP (λ vs H Q E h=>?_) (λ cdv A outer s H vs Q E hr h=>?_)
 ·obtain⟨tu,p,r,xs,its,rfl,W,hO,q0,q1⟩:=h;rfl
 obtain⟨tu,p,r,xs,its,rfl,W,hO,q0,q1⟩:=h
 refine⟨_,(au (ck (bx jw (bL bF (by rfl) T.fM Ru (aa (bq (pv 0) rfl) aC)) aq (bz _)) (aF (jU rfl lC (Ez T.CM T.x8 T.jF T.jH rfl))) bK)
   (aF (bh (aQ aW (bq (pv 0) rfl) aq (λ _ _=>rfl))))),?_⟩
 obtain⟨dx,ob⟩:=W.ob
 have hxl:xs.length=its.length:=W.ks.len
 refine⟨_,rfl,p,aA,dx,_,_,rfl,ob,T.bA,T.br,bR,r,_,rfl,.inl (SqL.of W.row),rfl,_,rfl,?_⟩
 by_cases h0:its = []
 ·have hx0:(xs.length:Int)=0:=by rw [hxl,h0];rfl
  rw [hx0,Rq rfl]
  refine dX λ e he=>⟨e,aH,none,rfl,ak,T.x8,?_⟩
  refine q1 h0 e _ ⟨false,none,ak,rfl⟩ λ b o eb=>?_
  have:=aj eb he
  rw [af this,af this];exact eb
 ·have hpos:0 < its.length:=RY.mpr h0
  rw [QY (show ¬ V.int (xs.length:Int)=V.int 0 from λ e=>by have:=V.int.inj e;omega)]
  obtain⟨v,ev,kv⟩:=W.ks.at_ hpos
  refine dM ⟨_,rfl,p,aA,dx,_,_,rfl,ob,T.bA,T.br,bR,r,_,_,v,rfl,rfl,SqL.of W.row,bw (j:=0) ev,?_⟩
  exact q0 v h0 ev kv (Gp hO)
theorem yJ {f:Addr} {fd:FuncData} (F:Fun K "take" "Heap.take" gP f fd) (T:Txt K mg t_W aE aG aD aI aB aH aA aK ah ao ay) (lI:bf P w K mg base aA "least" 2 ["self"] (uf aA aH)) (nq:bf P w K mg base aA "sink" 2 ["self","place"] (vB aA)):aX P w K mg base (CXx P w) 3 f fd ["self"] (wm aA aH):=by
 refine F.okX mz (λ vs H Q E h=>?_) (λ cdv A outer s H vs Q E hr h=>?_)
 ·obtain⟨tu,p,r,xs,its,rfl,W,hO,q0,q1⟩:=h;rfl
 obtain⟨tu,p,r,xs,its,rfl,W,hO,q0,q1⟩:=h
 refine⟨_,(au (aL (i:=1) mz.nd rfl (Or.inl rfl) (cA (pv 0) T.bA lI jJ (hr.mono (by decide))))
   (au (aL (i:=2) mz.nd rfl (Or.inl rfl) (Fy RH PySem.F.slot_list_pop PySem.F.type_list_pop Gk (bq (pv 0) rfl)))
   (au (ck (bx rO (bL bF (by rfl) T.fM Ru (aa (bq (pv 0) rfl) aC)) aq (bz _)) (au (lT (pv 2) (oz (bq (pv 0) rfl) aq set_list))
   (aF (bP (bV (pv 0) T.bA nq aM (hr.mono (by decide)) (aa aq aC))))) bK)
   (aF (bh (pv 1)))))),?_⟩
 obtain⟨dx,ob⟩:=W.ob
 have hxl:xs.length=its.length:=W.ks.len
 refine⟨_,rfl,p,dx,_,rfl,ob,iF (by decide +kernel),tu,p,r,xs,its,rfl,W,hO,λ v hne ev kv hmin=>?_,q1⟩
 refine aT [some (.ref p),some v,none] ?_
 have hpos:0 < its.length:=RY.mpr hne
 obtain⟨lv,elv,klv⟩:=W.ks.at_ (show its.length - 1 < its.length by omega)
 have elv':xs[xs.length - 1]? = some lv:=by rw [hxl];exact elv
 have hvx:v ∈ xs:=QJ ev
 refine⟨_,rfl,p,aA,dx,_,_,rfl,ob,T.bA,T.br,bR,.inl ⟨rfl,_,SqL.of W.row⟩,r,_,lv,rfl,rfl,W.row,elv',?_⟩
 refine aT [some (.ref p),some v,some lv] ?_
 have W2:=W.put W.ks.dropLast
 have k2:aV [r] H (upd H r (.lst xs.dropLast)):=dF aV.refl (.inl (by simp))
 have kt2:∀ t ys,H t=some (.tup ys)->upd H r (.lst xs.dropLast) t=some (.tup ys):=λ t ys e=>by rw [af (aR e W.row (by intro z;cases z))];exact e
 generalize upd H r (.lst xs.dropLast)=H2 at W2 k2 kt2 ⊢
 clear ob
 obtain⟨dx,ob⟩:=W2.ob
 have hdl:xs.dropLast.length=its.length - 1:=by rw [Tp,hxl]
 by_cases h1:its.length=1
 ·obtain⟨a,rfl⟩:=List.length_eq_one_iff.mp h1
  refine⟨_,rfl,p,aA,dx,_,_,rfl,ob,T.bA,T.br,bR,r,_,rfl,.inl (SqL.of W2.row),_,_,rfl,rfl,_,rfl,jN (by rw [hdl,h1];decide) ⟨_,rfl,?_⟩⟩
  exact q0 hne v a _ _ H2 (kv.mono kt2) W2 (λ i h0 hi=>by simp at hi) (Vn _) hmin hvx k2
 ·obtain⟨a,tl,b,rfl⟩:∃ a tl b,its=a ::(tl ++ [b]):=by
   match its,h1,hpos with
   | a :: r',h1,_ =>
    have hr:r' ≠ []:=λ e=>h1 (by rw [e];rfl)
    exact⟨a,r'.dropLast,r'.getLast hr,by rw [List.dropLast_concat_getLast hr]⟩
  refine⟨_,rfl,p,aA,dx,_,_,rfl,ob,T.bA,T.br,bR,r,_,rfl,.inl (SqL.of W2.row),_,_,rfl,rfl,_,rfl,jM (by rw [hdl];simp) ?_⟩
  have hd2:(a ::(tl ++ [b])).dropLast=a :: tl:=by rw [show a ::(tl ++ [b]) =(a :: tl) ++ [b] from rfl,List.dropLast_concat]
  rw [hd2] at W2
  have hb:gK (a ::(tl ++ [b])) ((a ::(tl ++ [b])).length - 1)=b:=by
   simp [gK,List.getD_eq_getElem?_getD]
  rw [hb] at klv
  refine⟨_,rfl,_,rfl,p,aA,dx,_,_,rfl,ob,T.bA,T.br,bR,r,_,_,0,rfl,rfl,W2.row,by unfold ixN;rw [if_pos (by omega),if_pos (by rw [hdl];simp)];rfl,?_⟩
  have W3:=W2.put (W2.ks.set (i:=0) (klv.mono kt2))
  have k3:aV [r] H2 (upd H2 r (.lst (xs.dropLast.set 0 lv))):=dF aV.refl (.inl (by simp))
  have kt3:∀ t ys,H2 t=some (.tup ys)->upd H2 r (.lst (xs.dropLast.set 0 lv)) t=some (.tup ys):=λ t ys e=>by rw [af (aR e W2.row (by intro z;cases z))];exact e
  generalize upd H2 r (.lst (xs.dropLast.set 0 lv))=H3 at W3 k3 kt3 ⊢
  obtain⟨dx3,ob3⟩:=W3.ob
  refine⟨_,rfl,p,dx3,_,rfl,ob3,iF (by decide +kernel),tu,p,r,_,_,0,rfl,W3,by simp,⟨λ i h0 hi hp=>?_,λ h=>absurd h (by decide)⟩,λ xs' its' H' W' hO' P' k'=>?_⟩
  ·have hi':i <(a :: tl).length:=by simpa using hi
   have hg:∀ j,0 < j->j <(a :: tl).length->gK ((a :: tl).set 0 b) j=gK (a ::(tl ++ [b])) j:=λ j h0 hj=>by
    cases j with
    | zero=>omega
    | succ j=>simp at hj;simp [gK,List.getD_eq_getElem?_getD,List.getElem?_append_left hj]
   rw [hg i h0 hi',hg _ (by omega) (by omega)]
   exact hO i h0 (by simp at hi' ⊢;omega)
  ·refine⟨_,rfl,q0 hne v a _ _ H' (ie.mono (H:=H3) ((kv.mono kt2).mono kt3) λ t ys e=>k' t _ e ?_) W' hO' ?_ hmin hvx λ b' o e hb=>k' b' o (k3 b' o (k2 b' o e hb) hb) hb⟩
   ·have:=aR e W3.row (by intro z;cases z)
    simpa using this
   ·refine List.Perm.cons a ?_
    refine List.Perm.trans ?_ P'.symm
    show(tl ++ [b]).Perm (b :: tl)
    exact List.perm_append_comm
theorem yL {f:Addr} {fd:FuncData} (F:Fun K "size" "Heap.size" gS f fd) (T:Txt K mg t_W aE aG aD aI aB aH aA aK ah ao ay) :aX P w K mg base (CXx P w) 1 f fd ["self"] (tN aA):=by
 refine F.okX yc (λ vs H Q E h=>?_) (λ cdv A outer s H vs Q E hr h=>?_)
 ·obtain⟨tu,p,r,xs,its,rfl,W,q⟩:=h;rfl
 obtain⟨tu,p,r,xs,its,rfl,W,q⟩:=h
 refine⟨_,(aF (bh (bL bF (by rfl) T.fM Ru (aa (bq (pv 0) rfl) aC)))),?_⟩
 obtain⟨dx,ob⟩:=W.ob
 refine⟨_,rfl,p,aA,dx,_,_,rfl,ob,T.bA,T.br,bR,r,_,rfl,.inl (SqL.of W.row),?_⟩
 rw [W.ks.len]
 exact q
theorem xO {f:Addr} {fd:FuncData} (F:Fun K "price_over" "price_over" gu f fd) (T:Txt K mg t_W aE aG aD aI aB aH aA aK ah ao ay) :aX P w K mg base (CXx P w) 1 f fd ["price","leg"] (rJ):=by
 refine F.okX xK (λ vs H Q E h=>?_) (λ cdv A outer s H vs Q E hr h=>?_)
 ·obtain⟨a,b,p,g,rfl,hp,ha,hb,q⟩:=h;rfl
 obtain⟨a,b,p,g,rfl,hp,ha,hb,q⟩:=h
 refine⟨_,(aF (bh (dZ (aa (aO bN (aQ bE (pv 0) aq (λ _ _=>rfl)) (aQ bE (pv 1) aq (λ _ _=>rfl))) (aa (aO bN (aQ bE (pv 0) aq (λ _ _=>rfl)) (aQ bE (pv 1) aq (λ _ _=>rfl))) (aa (aO bN (aQ bE (pv 0) aq (λ _ _=>rfl)) aq) aC)))))),?_⟩
 obtain⟨x,y,n,rfl⟩:=hp
 refine⟨_,rfl,a,_,_,V.int x,rfl,rfl,SqT.of ha,rfl,_,rfl,b,_,_,V.int g.bad,rfl,rfl,SqT.of hb,rfl,_,_,rfl,rfl,?_⟩
 refine⟨_,rfl,a,_,_,V.int y,rfl,rfl,SqT.of ha,rfl,_,rfl,b,_,_,V.int g.cost,rfl,rfl,SqT.of hb,rfl,_,_,rfl,rfl,?_⟩
 refine⟨_,rfl,a,_,_,V.int (n:Int),rfl,rfl,SqT.of ha,rfl,_,_,rfl,rfl,?_⟩
 refine⟨(by show 3 ≤ sizeLine;decide),λ t ht=>?_⟩
 exact q t ht
theorem uC {f:Addr} {fd:FuncData} (F:Fun K "legs_by_start" "legs_by_start" dS f fd) (T:Txt K mg t_W aE aG aD aI aB aH aA aK ah ao ay) :aX P w K mg base (CXx P w) 1 f fd ["legs"] (xV):=by
 refine F.okX iZ (λ vs H Q E h=>?_) (λ cdv A outer s H vs Q E hr h=>?_)
 ·obtain⟨a,LV,legs,rfl,ha,R,hlen,q⟩:=h;rfl
 obtain⟨a,LV,legs,rfl,ha,R,hlen,q⟩:=h
 refine⟨_,(au (aL (i:=1) iZ.nd rfl (Or.inl rfl) iC)
   (au (eX Ra rfl (fT (pv 0)) (bH (i:=2) iZ.nd rfl (Or.inl rfl))
   (aF (bP (m7 RH RO RP gv (DI (pv 1) (aQ bE (pv 2) aq (λ _ _=>rfl)) (dN aC) ⟨rfl,rfl,rfl,rfl⟩) (aa (pv 2) aC)))))
   (aF (bh (pv 1))))),?_⟩
 refine λ s hs=>?_
 refine aT [some (.ref a),some (.ref s),none] ?_
 have hLl:LV.length=legs.length:=by rw [R.len,QG]
 refine⟨_,rfl,a,rfl,⟨_,SqL.of (az.new hs _ _ ha)⟩,gF (K:=K) (a:=a) (xs:=LV) (λ i σ H2=>∃(v2:Option V) (kvs:List (Key × V)),σ = [some (.ref a),some (.ref s),v2] /\ az H H2 /\ H2 s=some (.dK kvs) /\ kvs.length ≤ i /\ Fw H2 kvs (LV.take i) (legs.take i) /\(∀ d l,bg kvs (Sum.inl d)=some (.ref l)->H l=none) /\(∀ d d' l,bg kvs (Sum.inl d)=some (.ref l)->bg kvs (Sum.inl d')=some (.ref l)->d=d')) ⟨none,[],rfl,az.new hs,ak,QH _,⟨λ d=>.inr ⟨rfl,rfl⟩⟩,λ d l h=>(by cases h),λ d d' l h=>(by cases h)⟩ (λ i σ H2 _ z0=>by obtain⟨_,_,_,s2,_⟩:=z0;exact SqL.of (s2 _ _ ha)) ?_ ?_⟩
 ·rintro i v σ H2 hi ⟨v2,kvs,rfl,s2,hs2,hkl,S,hfr,hinj⟩
  have hil:i < legs.length:=by have:=(QE.mp hi).1;omega
  have eg:legs[i]? = some legs[i]:=QC hil
  generalize legs[i]=g at eg
  obtain⟨b,rfl,hb⟩:=oi (R.get i v (ja g) hi (by rw [QK,eg];rfl))
  have hb2:=s2 _ _ hb
  have hst:=λ d=>yD hi eg d
  have hsl:∀ d,(jC (LV.take i) (legs.take i) d).length ≤ 1000:=λ d=>by
   unfold jC
   rw [QG]
   refine Rp (Tj _ _) ?_
   rw [List.length_zip,Ri];omega
  refine⟨_,rfl,s,rfl,.inl ⟨kvs,.inl hs2⟩,_,rfl,b,_,_,V.int g.start,rfl,rfl,SqT.of hb2,rfl,Rm _,λ e he=>?_⟩
  have s3:az H2 (upd H2 e (.lst [])):=az.new he
  have he3:upd H2 e (.lst []) e=some (.lst []):=ak
  generalize upd H2 e (.lst [])=H3 at s3 he3 ⊢
  have hs3:=s3 _ _ hs2
  have nes:s ≠ e:=aj hs2 he
  refine⟨kvs,Sum.inl g.start,hs3,rfl,aY (by omega),λ w' hw=>?_,λ hn=>?_⟩
  ·rcases S.val g.start with⟨l,hl,hl2⟩ |⟨hl,_⟩
   case inr=>rw [hl] at hw;cases hw
   rw [hl] at hw
   cases hw
   have hl3:=s3 _ _ hl2
   have nls:l ≠ s:=aR hl3 hs3 (by intro z;cases z)
   refine⟨.inl ⟨rfl,_,SqL.of hl3⟩,_,rfl,l,_,_,rfl,rfl,hl3,Si (hsl _) (by decide),?_⟩
   refine⟨_,kvs,rfl,λ b' o eb=>?_,by rw [af nls.symm];exact hs3,by omega,⟨λ d=>?_⟩,hfr,hinj⟩
   ·rw [af (aj eb (hfr _ _ hl))];exact s3 b' o (s2 b' o eb)
   ·rw [hst d]
    by_cases ed:g.start=d
    ·subst ed
     rw [if_pos rfl]
     exact .inl ⟨l,hl,ak⟩
    ·rw [if_neg ed,RT]
     rcases S.val d with⟨l',hl',hl2'⟩ | h
     ·refine .inl ⟨l',hl',?_⟩
      rw [af (show l' ≠ l from λ z=>ed (hinj _ _ _ hl (by rw [← z];exact hl')))]
      exact s3 _ _ hl2'
     ·exact .inr h
  ·have he4:upd H3 s (.dK (putK kvs (Sum.inl g.start) (.ref e))) e=some (.lst []):=by rw [af nes.symm];exact he3
   refine⟨.inl ⟨rfl,_,SqL.of he4⟩,_,rfl,e,_,_,rfl,rfl,he4,by decide,?_⟩
   have heH:H e=none:=s2.free he
   have hno:∀ d l,bg kvs (Sum.inl d)=some (.ref l)->l ≠ e:=λ d l h z=>by
    rcases S.val d with⟨l',hl',hl2'⟩ |⟨h',_⟩
    ·rw [hl'] at h;cases h
     rw [z,he] at hl2';cases hl2'
    ·rw [h'] at h;cases h
   refine⟨_,_,rfl,λ b' o eb=>?_,by rw [af nes,ak],by have:=fP kvs (Sum.inl g.start) (V.ref e);omega,⟨λ d=>?_⟩,λ d l h=>?_,λ d d' l h h'=>?_⟩
   ·rw [af (aj eb heH),af (aj eb hs)];exact s3 b' o (s2 b' o eb)
   ·rw [hst d,eN]
    by_cases ed:g.start=d
    ·subst ed
     rw [if_pos rfl,if_pos rfl]
     have:jC (LV.take i) (legs.take i) g.start = []:=by
      rcases S.val g.start with⟨l,hl,_⟩ |⟨_,h⟩
      ·rw [hl] at hn;cases hn
      ·exact h
     rw [this]
     exact .inl ⟨e,rfl,ak⟩
    ·rw [if_neg (λ z=>ed (RW z).symm),if_neg ed,RT]
     rcases S.val d with⟨l',hl',hl2'⟩ | h
     ·refine .inl ⟨l',hl',?_⟩
      rw [af (hno _ _ hl'),af (aR (s3 _ _ hl2') hs3 (by intro z;cases z))]
      exact s3 _ _ hl2'
     ·exact .inr h
   ·rw [eN] at h
    split at h
    ·cases h;exact heH
    ·exact hfr _ _ h
   ·rw [eN] at h h'
    split at h
    ·rename_i e1
     split at h'
     ·rename_i e2
      exact(RW e1).trans (RW e2).symm
     ·cases h;exact absurd rfl (hno _ _ h')
    ·split at h'
     ·cases h';exact absurd rfl (hno _ _ h)
     ·exact hinj _ _ _ h h'
 ·rintro σ H2 ⟨v2,kvs,rfl,s2,hs2,hkl,S,hfr,hinj⟩
  rw [RA,TY (by omega)] at S
  exact⟨_,rfl,q s kvs H2 hs2 S hs s2⟩
theorem B4 {f:Addr} {fd:FuncData} (F:Fun K "prices" "prices" jS f fd) (T:Txt K mg t_W aE aG aD aI aB aH aA aK ah ao ay) (jo:DefX P w K mg base "legs_by_start" 1 ["legs"] xV) (yo:kg P w K mg base "Heap" aA 1 ["self"] (uG aA)) (lg:bf P w K mg base aA "add" 3 ["self","item"] (zC aA)) (nv:bf P w K mg base aA "size" 1 ["self"] (tN aA)) (nL:bf P w K mg base aA "take" 3 ["self"] (wm aA aH)) (fX:DefX P w K mg base "price_over" 1 ["price","leg"] rJ):aX P w K mg base (CXx P w) 4 f fd ["legs"] (mX):=by
 refine F.okX ji (λ vs H Q E h=>?_) (λ cdv A outer s H vs Q E hr h=>?_)
 ·obtain⟨a,LV,legs,rfl,ha,R,hok,hlen,q⟩:=h;rfl
 obtain⟨a,LV,legs,rfl,ha,R,hok,hlen,q⟩:=h
 refine⟨_,(au (aL (i:=1) ji.nd rfl (Or.inl rfl) (aZ jo aM (hr.mono (by decide)) rfl (aa (pv 0) aC)))
   (au (aL (i:=2) ji.nd rfl (Or.inl rfl) iC)
   (au (aL (i:=3) ji.nd rfl (Or.inl rfl) (wR yo aM (hr.mono (by decide)) rfl))
   (au (bP (bV (pv 3) T.bA lg aM (hr.mono (by decide)) (aa (dZ (aa aq (aa aq (aa aq (aa (iY gI aq) aC))))) aC)))
   (au (lE Ra (bx rO (cA (pv 3) T.bA nv aM (hr.mono (by decide))) aq (bz _)) (au (aL (i:=4) ji.nd rfl (Or.inl rfl) (cA (pv 3) T.bA nL jJ (hr.mono (by decide))))
   (aF (ck (mq (ko (bS hr) (aQ bE (pv 4) aq (λ _ _=>rfl)) (pv 2))) (au (nY (bS hr) (pv 2) (aQ bE (pv 4) aq (λ _ _=>rfl)) (uu C8 (pv 4) An (r8 aq)) rfl)
   (aF (eX Ra rfl (fT (yz (bS hr) (pv 1) (aQ bE (pv 4) aq (λ _ _=>rfl)) (dN aC) ⟨rfl,rfl,rfl,rfl⟩)) (bH (i:=5) ji.nd rfl (Or.inl rfl))
   (aF (bP (bV (pv 3) T.bA lg aM (hr.mono (by decide)) (aa (aO EN (aZ fX aM (hr.mono (by decide)) rfl (aa (uu C8 (pv 4) An (r8 aq)) (aa (pv 5) aC))) (dZ (aa (aQ bE (pv 5) aq (λ _ _=>rfl)) aC))) aC))))))) bK))))
   (au (bP (DU (pv 2) (iY gI aq) ⟨rfl,rfl,rfl,rfl⟩))
   (aF (bh (pv 2))))))))),?_⟩
 refine⟨_,rfl,a,LV,legs,rfl,ha,R,by omega,λ s skvs H1 hs1 S ns s1=>?_⟩
 refine aT [some (.ref a),some (.ref s),none,none,none,none] ?_
 intro d hd
 refine aT [some (.ref a),some (.ref s),some (.ref d),none,none,none] ?_
 have R1:=R.mono λ t xs e=>s1 t _ e
 have s2:az H1 (upd H1 d (.dK [])):=az.new hd
 have hd2:upd H1 d (.dK []) d=some (.dK []):=ak
 generalize upd H1 d (.dK [])=H2 at s2 hd2 ⊢
 refine λ p dx hp hdx hne=>?_
 have sp':az H2 (upd (upd H2 dx (HO.own p)) p (HO.ins aA dx [])):=λ b o e=>by rw [af (aj e hp),af (aj e hdx)];exact e
 have hp':upd (upd H2 dx (HO.own p)) p (HO.ins aA dx []) p=some (HO.ins aA dx []):=ak
 generalize upd (upd H2 dx (HO.own p)) p (HO.ins aA dx [])=H2' at sp' hp' ⊢
 refine⟨p,dx,rfl,hp',λ r H3 hr W3 _ k3=>⟨rfl,?_⟩⟩
 refine aT [some (.ref a),some (.ref s),some (.ref d),some (.ref p),none,none] ?_
 have s3:az H2 H3:=λ b o e=>k3 b o (sp' b o e) (by have:=aj e hp;simpa using this)
 have hr2:H2 r=none:=sp'.free hr
 have hr1:H1 r=none:=s2.free hr2
 have hp1:H1 p=none:=s2.free hp
 have s13:=s2.trans s3
 have hd3:=s3 _ _ hd2
 have ndr:d ≠ r:=aj hd2 hr2
 obtain⟨dx3,ob3⟩:=W3.ob
 refine⟨_,rfl,p,dx3,_,rfl,ob3,iF (by decide +kernel),?_⟩
 repeat (first | refine⟨_,rfl,?_⟩ | refine⟨_,_,rfl,rfl,?_⟩ | refine⟨(by first | decide |(dsimp only;decide) |(show 2 ≤ sizeLine;decide) |(show 1 ≤ sizeLine;decide) |(show 3 ≤ sizeLine;decide) |(show 4 ≤ sizeLine;decide)),?_⟩ | refine⟨.inl ⟨by first | decide |(dsimp only;decide),by first | decide |(dsimp only;decide)⟩,?_⟩ | refine⟨.inr ⟨by first | decide |(dsimp only;decide),by first | decide |(dsimp only;decide)⟩,?_⟩ | refine⟨⟨by first | decide |(dsimp only;decide),by first | decide |(dsimp only;decide)⟩,?_⟩ | refine⟨rfl,?_⟩ | refine⟨_,_,rfl,?_⟩)
 intro t0 ht0
 have st:az H3 (upd H3 t0 (HO.tup [V.int 0,V.int 0,V.int 0,V.int (-1)])):=az.new ht0
 have ht0':upd H3 t0 (HO.tup [V.int 0,V.int 0,V.int 0,V.int (-1)]) t0=some (.tup ([(0:Int),0,0,-1].map V.int)):=ak
 generalize upd H3 t0 (HO.tup [V.int 0,V.int 0,V.int 0,V.int (-1)])=H3' at st ht0' ⊢
 refine⟨true,p,r,[],[],.ref t0,[0,0,0,-1],rfl,W3.same st,λ i h0 hi=>absurd hi (WG _),⟨t0,rfl,ht0'⟩,by decide,λ xs its H4 W4 hO4 P4 k4=>?_⟩
 have hits:its = [[0,0,0,-1]]:=List.perm_singleton.mp P4
 subst hits
 have s14:az H1 H4:=λ b o e=>k4 b o (st b o (s13 b o e)) (by have:=aj e hr1;simpa using this)
 have hd4:H4 d=some (.dK []):=k4 _ _ (st _ _ hd3) (by simpa using ndr)
 dsimp only
 refine bY (λ σ' H'=>∃(v4 v5:Option V) (kvs:List (Key × V)) (P:Int->Option (List Int)),σ' = [some (.ref a),some (.ref s),some (.ref d),some (.ref p),v4,v5] /\ az H1 H' /\ H' d=some (.dK kvs) /\ gE H' kvs P /\ gD legs P /\ kvs.length ≤ 501) (λ N hN=>?_) ?_
 ·refine⟨λ m σ H'=>∃(v4 v5:Option V) (kvs:List (Key × V)) (P:Int->Option (List Int)) (xs:List V) (its:List (List Int)),σ = [some (.ref a),some (.ref s),some (.ref d),some (.ref p),v4,v5] /\ az H1 H' /\ H' d=some (.dK kvs) /\ gE H' kvs P /\ dc aA true H' p r xs its /\ jX its /\ Walk legs P its /\ m=its.length + ahead legs P /\ kvs.length + m ≤ legs.length + 1,⟨_,none,none,[],_,xs,_,rfl,s14,hd4,gE.nil,W4,hO4,Walk.start legs,rfl,?_⟩,?_⟩
  ·have:ahead legs (λ _=>none) ≤ legs.length:=Tj _ _
   simp;omega
  rintro m σ H5 ⟨v4,v5,kvs,P,xs5,its5,rfl,s5,hd5,PR,W5,hO5,WK,rfl,hkm⟩
  obtain⟨dx5,ob5⟩:=W5.ob
  refine⟨_,rfl,p,dx5,_,rfl,ob5,iF (by decide +kernel),true,p,r,xs5,its5,rfl,W5,_,_,rfl,rfl,_,rfl,?_⟩
  by_cases he:its5 = []
  ·subst he
   refine jN (by simp) ?_
   exact hN _ _ ⟨v4,v5,kvs,P,rfl,s5,hd5,PR,WK.done,by omega⟩
  refine jM (by have:=RY.mpr he;omega) ?_
  refine⟨_,λ σ' H' h=>h,?_⟩
  refine⟨_,rfl,p,dx5,_,rfl,ob5,iF (by decide +kernel),true,p,r,xs5,its5,rfl,W5,hO5,λ _ v m xs6 its6 H6 kv W6 hO6 hperm hmin hvx k6=>?_,λ h=>absurd h he⟩
  obtain⟨ia,rfl,hia⟩:=oi kv
  have hmi:m ∈ its5:=hperm.mem_iff.mpr (by simp)
  obtain⟨qp,day,hqp,rfl⟩:=WK.shape m hmi
  have hln:its5.length=its6.length + 1:=by rw [hperm.length_eq];simp
  have s6:az H1 H6:=λ b o e=>k6 b o (s5 b o e) (by have:=aj e hr1;simpa using this)
  have hd6:H6 d=some (.dK kvs):=k6 _ _ hd5 (by simpa using ndr)
  have kt6:∀ t ys,H5 t=some (.tup ys)->H6 t=some (.tup ys):=λ t ys e=>k6 t _ e (by have:=aR e W5.row (by intro z;cases z);simpa using this)
  have PR6:=PR.mono kt6
  have h3:atI ((qp ++ [day]).map V.int) 3=some (V.int day):=by obtain⟨x,y,n,rfl⟩:=hqp;rfl
  refine aT [some (.ref a),some (.ref s),some (.ref d),some (.ref p),some (.ref ia),v5] ?_
  refine⟨_,rfl,ia,_,_,V.int day,rfl,rfl,SqT.of hia,h3,_,rfl,d,_,rfl,.inl ⟨kvs,Sum.inl day,.inl hd6,rfl,rfl⟩,_,rfl,?_⟩
  cases hP:P day with
  | some q0 =>
   have:=PR6.val day
   rw [(this).is,hP]
   refine dM ⟨its6.length + ahead legs P,by omega,_,v5,kvs,P,xs6,its6,rfl,s6,hd6,PR6,W6,hO6,WK.skip hqp hperm hP,rfl,by omega⟩
  | none =>
   have hv0:=PR6.val day
   rw [(hv0).is,hP]
   refine dX ?_
   have hsl:pR ((qp ++ [day]).map V.int) none (some 3)=qp.map V.int:=by obtain⟨x,y,n,rfl⟩:=hqp;rfl
   have hnw:¬(HT.sIx ((qp ++ [day]).map V.int).length 0 none=0 /\ HT.sIx ((qp ++ [day]).map V.int).length ((qp ++ [day]).map V.int).length (some 3) =((qp ++ [day]).map V.int).length):=by
    obtain⟨x,y,n,rfl⟩:=hqp
    exact λ h=>absurd (show HT.sIx 4 4 (some 3)=4 from h.2) (by simp [HT.sIx])
   refine⟨_,rfl,_,rfl,ia,_,rfl,SqT.of hia,hnw,λ pt hpt=>?_⟩
   rw [hsl]
   have s7:az H6 (upd H6 pt (.tup (qp.map V.int))):=az.new hpt
   have hpt7:upd H6 pt (.tup (qp.map V.int)) pt=some (.tup (qp.map V.int)):=ak
   generalize upd H6 pt (.tup (qp.map V.int))=H7 at s7 hpt7 ⊢
   have hd7:=s7 _ _ hd6
   refine⟨_,rfl,_,rfl,ia,_,_,V.int day,rfl,rfl,SqT.of (s7 _ _ hia),h3,d,_,rfl,oG.k (k:=Sum.inl day) hd7 (aY (by omega)),?_⟩
   have kt8:∀ t ys,H7 t=some (.tup ys)->upd H7 d (.dK (putK kvs (Sum.inl day) (.ref pt))) t=some (.tup ys):=λ t ys e=>by rw [af (aR e hd7 (by intro z;cases z))];exact e
   have PR8:=((PR6.mono λ t ys e=>s7 t _ e).put hP hpt7).mono kt8
   have s8:az H1 (upd H7 d (.dK (putK kvs (Sum.inl day) (.ref pt)))):=λ b o e=>by rw [af (aj e hd)];exact s7 b o (s6 b o e)
   have hd8:upd H7 d (.dK (putK kvs (Sum.inl day) (.ref pt))) d=some (.dK (putK kvs (Sum.inl day) (.ref pt))):=ak
   have W8:dc aA true (upd H7 d (.dK (putK kvs (Sum.inl day) (.ref pt)))) p r xs6 its6:=by
    have W7:=W6.same s7
    obtain⟨dx7,ob7⟩:=W7.ob
    exact⟨⟨dx7,by rw [af (aR ob7 hd7 (by intro z;cases z))];exact ob7⟩,by rw [af ndr.symm];exact W7.row,W7.ks.mono kt8⟩
   have hia8:=kt8 _ _ (s7 _ _ hia)
   have hkl8:=fP kvs (Sum.inl day) (V.ref pt)
   generalize upd H7 d (.dK (putK kvs (Sum.inl day) (.ref pt)))=H8 at s8 hd8 PR8 W8 hia8 ⊢
   generalize putK kvs (Sum.inl day) (.ref pt)=kvs8 at hd8 PR8 hkl8
   clear kt8 hpt7 s7 hd7 hpt
   refine⟨_,rfl,s,rfl,.inl ⟨skvs,.inl (s8 _ _ hs1)⟩,_,rfl,ia,_,_,V.int day,rfl,rfl,SqT.of hia8,h3,Rm _,λ e he=>?_⟩
   have s9:az H8 (upd H8 e (.lst [])):=az.new he
   have he9:upd H8 e (.lst []) e=some (.lst []):=ak
   have ner:r ≠ e:=aj W8.row he
   generalize upd H8 e (.lst [])=H9 at s9 he9 ⊢
   have s19:=s8.trans s9
   refine⟨_,.inl ⟨skvs,Sum.inl day,.inl (s19 _ _ hs1),rfl,rfl⟩,?_⟩
   obtain⟨l,hl,hl9,hlr⟩:∃ l,(bg skvs (Sum.inl day)).getD (V.ref e)=V.ref l /\ H9 l=some (.lst (jC LV legs day)) /\ l ≠ r:=by
    rcases S.val day with⟨l,h1,h2⟩ |⟨h1,h2⟩
    ·exact⟨l,by rw [h1];rfl,s19 _ _ h2,aj h2 hr1⟩
    ·exact⟨e,by rw [h1];rfl,by rw [h2];exact he9,ner.symm⟩
   have RS:=Dk R1 day
   have hsn:(legs.filter λ g=>decide (g.start=day)).length ≤ legs.length:=Tj _ _
   have hah:=Ci (legs:=legs) (q:=qp) hP
   have hWS:=λ its2 h=>WK.step (its2:=its2) hok hqp hperm hmin hP h
   generalize hsel:(legs.filter λ g=>decide (g.start=day))=sel at RS hsn hah hWS
   have hselok:∀ g ∈ sel,mR g:=λ g hg=>hok g (by rw [← hsel] at hg;exact(SN.mp hg).1)
   refine⟨l,hl,⟨_,SqL.of hl9⟩,gF (K:=K) (a:=l) (xs:=jC LV legs day) (λ j σ H'=>∃(v5:Option V) (xs':List V) (its':List (List Int)),σ = [some (.ref a),some (.ref s),some (.ref d),some (.ref p),some (.ref ia),v5] /\ az H1 H' /\ H' d=some (.dK kvs8) /\ gE H' kvs8 (pF P day qp) /\ dc aA true H' p r xs' its' /\ jX its' /\ its'.Perm (its6 ++(sel.take j).map (itemOf qp)) /\ H' l=some (.lst (jC LV legs day)) /\ H' ia=some (.tup ((qp ++ [day]).map V.int)))
    ⟨v5,xs6,its6,rfl,s19,s9 _ _ hd8,PR8.mono λ t ys e=>s9 t _ e,W8.same s9,hO6,by simp,hl9,s9 _ _ hia8⟩ (λ j σ H' _ z0=>by obtain⟨_,_,_,_,_,_,_,_,_,_,h,_⟩:=z0;exact SqL.of h) ?_ ?_⟩
   ·rintro j v σ Ha hj ⟨v5',xsa,itsa,rfl,sa,hda,PRa,Wa,hOa,Pa,hla,hiaa⟩
    have hjl:j < sel.length:=by have:=(QE.mp hj).1;have h2:=RS.len;rw [QG] at h2;omega
    have eg:sel[j]? = some sel[j]:=QC hjl
    generalize sel[j]=g at eg
    obtain⟨lb,rfl,hlb⟩:=oi (RS.get j v (ja g) hj (by rw [QK,eg];rfl))
    obtain⟨dxa,oba⟩:=Wa.ob
    refine⟨_,rfl,p,dxa,_,rfl,oba,iF (by decide +kernel),?_⟩
    refine⟨_,rfl,_,rfl,ia,_,rfl,SqT.of hiaa,hnw,λ pt2 hpt2=>?_⟩
    rw [hsl]
    have sb:az Ha (upd Ha pt2 (.tup (qp.map V.int))):=az.new hpt2
    have hpt2':upd Ha pt2 (.tup (qp.map V.int)) pt2=some (.tup (qp.map V.int)):=ak
    generalize upd Ha pt2 (.tup (qp.map V.int))=Hb at sb hpt2' ⊢
    refine⟨_,rfl,pt2,lb,qp,g,rfl,hqp,hpt2',sb _ _ (sa _ _ hlb),λ t ht=>?_⟩
    have sc:az Hb (upd Hb t (.tup ((bO qp g).map V.int))):=az.new ht
    have ht':upd Hb t (.tup ((bO qp g).map V.int)) t=some (.tup ((bO qp g).map V.int)):=ak
    generalize upd Hb t (.tup ((bO qp g).map V.int))=Hc at sc ht' ⊢
    have hlbc:=sc _ _ (sb _ _ (sa _ _ hlb))
    refine⟨_,rfl,lb,_,_,V.int g.to,rfl,rfl,SqT.of hlbc,rfl,(by show 1 ≤ sizeLine;decide),λ u hu=>?_⟩
    have sd:az Hc (upd Hc u (.tup [V.int g.to])):=az.new hu
    have hu':upd Hc u (.tup [V.int g.to]) u=some (.tup [V.int g.to]):=ak
    generalize upd Hc u (.tup [V.int g.to])=Hd at sd hu' ⊢
    refine⟨t,u,_,_,rfl,rfl,SqT.of (sd _ _ ht'),SqT.of hu',by simp [bO],by show 3 + 1 ≤ sizeLine;decide,λ h=>(by cases h),λ _ w' hw'=>?_⟩
    have sE:az Hd (upd Hd w' (.tup ((bO qp g).map V.int ++ [V.int g.to]))):=az.new hw'
    have hwE:upd Hd w' (.tup ((bO qp g).map V.int ++ [V.int g.to])) w'=some (.tup ((itemOf qp g).map V.int)):=by rw [ak];unfold itemOf;rw [RL];rfl
    generalize upd Hd w' (.tup ((bO qp g).map V.int ++ [V.int g.to]))=He at sE hwE ⊢
    have sae:=((sb.trans sc).trans sd).trans sE
    have hpl:itsa.length=its6.length + j:=by rw [Pa.length_eq,Rj,QG,Ri];omega
    refine⟨true,p,r,xsa,itsa,.ref w',itemOf qp g,rfl,Wa.same sae,hOa,⟨w',rfl,hwE⟩,by omega,λ xsf itsf Hf Wf hOf Pf kf=>?_⟩
    have sf:az H1 Hf:=λ b o eb=>kf b o (sae b o (sa b o eb)) (by have:=aj eb hr1;simpa using this)
    have ktf:∀ t ys,He t=some (.tup ys)->Hf t=some (.tup ys):=λ t ys eb=>kf t _ eb (by have:=aR eb (Wa.same sae).row (by intro z;cases z);simpa using this)
    refine⟨_,xsf,itsf,rfl,sf,kf _ _ (sae _ _ hda) (by simpa using ndr),PRa.mono (λ t ys eb=>ktf t ys (sae _ _ eb)),Wf,hOf,?_,kf _ _ (sae _ _ hla) (by simpa using hlr),ktf _ _ (sae _ _ hiaa)⟩
    rw [Rn,eg,RL,← UB]
    exact Pf.trans (Pa.append_right _)
   ·rintro σ Ha ⟨v5',xsa,itsa,rfl,sa,hda,PRa,Wa,hOa,Pa,hla,hiaa⟩
    rw [TY (by have h2:=RS.len;rw [QG] at h2;omega)] at Pa
    have hpl:itsa.length=its6.length + sel.length:=by rw [Pa.length_eq,Rj,QG]
    exact⟨itsa.length + ahead legs (pF P day qp),by omega,_,_,kvs8,_,xsa,itsa,rfl,sa,hda,PRa,Wa,hOa,hWS itsa Pa,rfl,by omega⟩
 rintro σ' H' ⟨v4,v5,kvs,P,rfl,s5,hd5,PR,LP,hk5⟩
 have hv:=PR.val (-1)
 rw [LP.zero] at hv
 obtain⟨za,hza,_⟩:=hv.some_of
 refine⟨_,rfl,d,rfl,.inl ⟨kvs,.inl hd5⟩,_,rfl,kvs,Sum.inl (-1),_,hd5,rfl,hza,?_⟩
 refine⟨_,rfl,q d _ P _ ak ((PR.drop (-1)).mono λ t ys e=>by rw [af (aR e hd5 (by intro z;cases z))];exact e) LP (s1.free hd) (Rp (yv _ _) hk5) λ b o e=>?_⟩
 rw [af (aj e (s1.free hd))];exact s5 b o (s1 b o e)
theorem zO {f:Addr} {fd:FuncData} (F:Fun K "price_at" "price_at" iK f fd) (T:Txt K mg t_W aE aG aD aI aB aH aA aK ah ao ay) :aX P w K mg base (CXx P w) 1 f fd ["priced","start"] (pM):=by
 refine F.okX zM (λ vs H Q E h=>?_) (λ cdv A outer s H vs Q E hr h=>?_)
 ·obtain⟨pd,kvs,P,st,rfl,hpd,PR,hz,q0,q1⟩:=h;rfl
 obtain⟨pd,kvs,P,st,rfl,hpd,PR,hz,q0,q1⟩:=h
 refine⟨_,(aF (bh (tZ (bx jw (pv 1) (iY gI aq) (bz _)) (dZ (aa aq (aa aq (aa aq aC)))) (DV (bS hr) (pv 0) (pv 1) ⟨rfl,rfl,rfl,rfl⟩)))),?_⟩
 refine⟨_,rfl,_,rfl,rfl,_,rfl,?_⟩
 by_cases hs:st = -1
 ·rw [Rq (show V.int st=V.int (-1) by rw [hs])]
  refine dX ⟨(by show 3 ≤ sizeLine;decide),λ t ht=>?_⟩
  exact q1 [0,0,0] (by rw [hs];exact hz) t _ ak (az.new ht)
 ·rw [QY (show ¬ V.int st=V.int (-1) from λ e=>hs (V.int.inj e))]
  have hv:=PR.val st
  rw [show iL P (-1) st=P st from if_neg hs] at hv
  refine dM ⟨_,rfl,pd,rfl,.inl ⟨kvs,.inl hpd⟩,_,rfl,_,.inl ⟨kvs,Sum.inl st,.inl hpd,rfl,rfl⟩,?_⟩
  cases hp:P st with
  | none=>rw [hp] at hv;rw [hv.none_of];exact q0 hp
  | some p =>
   rw [hp] at hv
   obtain⟨a,ha,ha'⟩:=hv.some_of
   rw [ha]
   exact q1 p hp a H ha' (az.refl _)
theorem yx {f:Addr} {fd:FuncData} (F:Fun K "last_legs" "last_legs" gZ f fd) (T:Txt K mg t_W aE aG aD aI aB aH aA aK ah ao ay) (jQ:DefX P w K mg base "prices" 4 ["legs"] mX) (pK:DefX P w K mg base "price_at" 1 ["priced","start"] pM) (fX:DefX P w K mg base "price_over" 1 ["price","leg"] rJ):aX P w K mg base (CXx P w) 5 f fd ["legs"] (sj):=by
 refine F.okX iw (λ vs H Q E h=>?_) (λ cdv A outer s H vs Q E hr h=>?_)
 ·obtain⟨a,LV,legs,rfl,ha,R,hok,h500,q⟩:=h;rfl
 obtain⟨a,LV,legs,rfl,ha,R,hok,h500,q⟩:=h
 refine⟨_,(au (aL (i:=1) iw.nd rfl (Or.inl rfl) (aZ jQ aM (hr.mono (by decide)) rfl (aa (pv 0) aC)))
   (au (aL (i:=2) iw.nd rfl (Or.inl rfl) iC)
   (au (eX Ra rfl (fT (pv 0)) (bH (i:=3) iw.nd rfl (Or.inl rfl))
   (au (aL (i:=4) iw.nd rfl (Or.inl rfl) (aZ pK aM (hr.mono (by decide)) rfl (aa (pv 1) (aa (aQ bE (pv 3) aq (λ _ _=>rfl)) aC))))
   (aF (ck (PW.pt (pw_and (bx Ai (pv 4) kF (bz _)) (pw_and1 (bx (qS hr.units) (aZ fX aM (hr.mono (by decide)) rfl (aa (pv 4) (aa (pv 3) aC))) (cX (bS hr) (pv 1) (aQ bE (pv 3) aq (λ _ _=>rfl)) (λ _ _=>rfl)) (bz _))))) (aF (nY (bS hr) (pv 2) (aQ bE (pv 3) aq (λ _ _=>rfl)) (bL (wU rfl) (by rfl) T.Ei Vo (aa (aQ bE (pv 3) aq (λ _ _=>rfl)) (aa (yz (bS hr) (pv 2) (aQ bE (pv 3) aq (λ _ _=>rfl)) (aQ bE (pv 3) aq (λ _ _=>rfl)) ⟨rfl,rfl,rfl,rfl⟩) aC))) rfl)) bK))))
   (aF (bh (pv 2)))))),?_⟩
 refine⟨_,rfl,a,LV,legs,rfl,ha,R,hok,h500,λ pd kvs P H1 hpd PR LP npd _ s1=>?_⟩
 refine aT [some (.ref a),some (.ref pd),none,none,none] ?_
 intro ld hld
 refine aT [some (.ref a),some (.ref pd),some (.ref ld),none,none] ?_
 have nld:H ld=none:=s1.free hld
 have hLl:LV.length=legs.length:=by rw [R.len,QG]
 have hdp:∀ d,d ≠ -1->iL P (-1) d=P d:=λ d h=>if_neg h
 refine⟨_,rfl,a,rfl,⟨_,SqL.of (az.new hld _ _ (s1 _ _ ha))⟩,gF (K:=K) (a:=a) (xs:=LV) (λ i σ H2=>∃(v3 v4:Option V) (lk:List (Key × V)) (L:Int->Option Int),σ = [some (.ref a),some (.ref pd),some (.ref ld),v3,v4] /\ az H1 H2 /\ H2 ld=some (.dK lk) /\ lk.length ≤ i /\ kh lk L /\ cR (legs.take i) P L) ⟨none,none,[],_,rfl,az.new hld,ak,QH _,kh.nil,cR.nil⟩ (λ i σ H2 _ z0=>by obtain⟨_,_,_,_,_,s',_⟩:=z0;exact SqL.of (s' _ _ (s1 _ _ ha))) ?_ ?_⟩
 ·rintro i v σ H2 hi ⟨v3,v4,lk,L,rfl,s12,hlk,hll,NA,IL⟩
  have s2:=s1.trans s12
  have hil:i < legs.length:=by have:=(QE.mp hi).1;omega
  have eg:legs[i]? = some legs[i]:=QC hil
  generalize legs[i]=g at eg
  have hgm:g ∈ legs:=QJ eg
  obtain⟨b,rfl,hb⟩:=oi (R.get i v (ja g) hi (by rw [QK,eg];rfl))
  have hb2:=s2 _ _ hb
  have tk:legs.take (i + 1)=legs.take i ++ [g]:=by rw [Rn,eg];rfl
  refine aT [some (.ref a),some (.ref pd),some (.ref ld),some (.ref b),v4] ?_
  have hto:g.to ≠ -1:=by have:=(hok g hgm).1;omega
  refine⟨_,rfl,_,rfl,b,_,_,V.int g.start,rfl,rfl,SqT.of hb2,rfl,pd,kvs,P,g.start,rfl,s12 _ _ hpd,PR.mono (λ t ys e=>s12 t _ e),LP.zero,λ hn=>?_,λ p hp t H3 ht s3=>?_⟩
  ·refine aT [some (.ref a),some (.ref pd),some (.ref ld),some (.ref b),some .non] ?_
   refine⟨_,rfl,rfl,_,rfl,dM (dM ⟨_,_,lk,L,rfl,s12,hlk,by omega,NA,?_⟩)⟩
   rw [tk]
   exact IL.skip λ⟨p,hp,_⟩=>by rw [hn] at hp;cases hp
  refine aT [some (.ref a),some (.ref pd),some (.ref ld),some (.ref b),some (.ref t)] ?_
  obtain⟨q',hq',hle⟩:=LP.closed g hgm p hp
  have hb3:=s3 _ _ hb2
  refine⟨_,rfl,rfl,_,rfl,dX ⟨_,rfl,_,rfl,t,b,p,g,rfl,LP.pr _ _ hp,ht,hb3,λ u hu=>?_⟩⟩
  have s4:az H3 (upd H3 u (.tup ((bO p g).map V.int))):=az.new hu
  have hu4:upd H3 u (.tup ((bO p g).map V.int)) u=some (.tup ((bO p g).map V.int)):=ak
  generalize upd H3 u (.tup ((bO p g).map V.int))=H4 at s4 hu4 ⊢
  have s14:=(s12.trans s3).trans s4
  have hb4:=s4 _ _ hb3
  have hlk4:=s4 _ _ (s3 _ _ hlk)
  have hv:=(PR.mono λ t ys e=>s14 t _ e).val g.to
  rw [hdp _ hto,hq'] at hv
  obtain⟨qa,hqa,hqa'⟩:=hv.some_of
  refine⟨_,rfl,_,rfl,b,_,_,V.int g.to,rfl,rfl,SqT.of hb4,rfl,pd,V.ref qa,rfl,.inl ⟨kvs,Sum.inl g.to,.inl (s14 _ _ hpd),rfl,hqa.symm⟩,0,decide (bO p g=q'),by decide,dG.GW (SqT.of hu4) (SqT.of hqa'),_,rfl,?_⟩
  by_cases he:bO p g=q'
  ·rw [Rq he]
   have hA:Att P g:=⟨p,hp,by rw [hq',he]⟩
   have hval:(bg lk (Sum.inl g.to)).getD (V.int g.num)=V.int ((L g.to).getD g.num):=by rw [NA.val g.to];cases L g.to <;> rfl
   refine dX ⟨_,rfl,b,_,_,V.int g.num,rfl,rfl,SqT.of hb4,rfl,_,rfl,ld,rfl,.inl ⟨lk,.inl hlk4⟩,_,rfl,b,_,_,V.int g.to,rfl,rfl,SqT.of hb4,rfl,_,rfl,b,_,_,V.int g.num,rfl,rfl,SqT.of hb4,rfl,_,.inl ⟨lk,Sum.inl g.to,.inl hlk4,rfl,rfl⟩,g.num,(L g.to).getD g.num,by rw [hval],?_⟩
   have hmn:(if (L g.to).getD g.num < g.num then(L g.to).getD g.num else g.num)=min g.num ((L g.to).getD g.num):=by split <;> omega
   rw [hmn]
   refine⟨_,rfl,_,rfl,b,_,_,V.int g.to,rfl,rfl,SqT.of hb4,rfl,ld,_,rfl,oG.k (k:=Sum.inl g.to) hlk4 (aY (by omega)),?_⟩
   refine⟨_,_,_,_,rfl,λ b' o e=>by rw [af (aj e hld)];exact s14 b' o e,ak,by have:=fP lk (Sum.inl g.to) (V.int (min g.num ((L g.to).getD g.num)));omega,NA.put g.to _,?_⟩
   rw [tk];exact IL.put hA
  ·rw [QY he]
   refine dM ⟨_,_,lk,L,rfl,s14,hlk4,by omega,NA,?_⟩
   rw [tk]
   exact IL.skip λ⟨p',hp',h2⟩=>by rw [hp] at hp';cases hp';rw [hq'] at h2;exact he (Rc h2).symm
 ·rintro σ H2 ⟨v3,v4,lk,L,rfl,s12,hlk,hll,NA,IL⟩
  rw [hLl,RA] at IL
  exact⟨_,rfl,q ld lk P L H2 hlk NA LP IL nld (by omega) (s1.trans s12)⟩
theorem CJ {f:Addr} {fd:FuncData} (F:Fun K "way_of" "way_of" jT f fd) (T:Txt K mg t_W aE aG aD aI aB aH aA aK ah ao ay) (gM:DefX P w K mg base "last_legs" 5 ["legs"] sj):aX P w K mg base (CXx P w) 6 f fd ["legs","day"] (ye):=by
 refine F.okX jf (λ vs H Q E h=>?_) (λ cdv A outer s H vs Q E hr h=>?_)
 ·obtain⟨a,LV,legs,day,rfl,ha,R,hok,h500,hnod,q⟩:=h;rfl
 obtain⟨a,LV,legs,day,rfl,ha,R,hok,h500,hnod,q⟩:=h
 refine⟨_,(au (aL (i:=2) jf.nd rfl (Or.inl rfl) (aZ gM aM (hr.mono (by decide)) rfl (aa (pv 0) aC)))
   (au (ck (mq (ko (bS hr) (pv 1) (pv 2))) (aF (bh kF)) bK)
   (au (aL (i:=3) jf.nd rfl (Or.inl rfl) (kH (Bb rfl) (by rfl) T.FD PyProof.Rows.boot_dict (aa (rT (N:=["leg"]) (k:=1) (cap:=[]) rfl rfl (fT (pv 0)) (λ _ _ _ _=>(bH (i:=0) (show(["leg"]:List Str).Nodup from by decide +kernel) rfl (Or.inl rfl) (.inr rfl))) (λ _ _ _ _=>sq) (λ _ _ _ _=>(dZ (aa (aQ (Ag (K:=K) rfl) (pv 0) aq (λ _ _=>rfl)) (aa (aQ (Ag (K:=K) rfl) (pv 0) aq (λ _ _=>rfl)) aC))))) aC)))
   (au (aL (i:=4) jf.nd rfl (Or.inl rfl) (dN aC))
   (au (aL (i:=5) jf.nd rfl (Or.inl rfl) (pv 1))
   (au (lE Ra (bx A5 (pv 5) (iY gI aq) (bz _)) (au (bP (m7 RH RO RP gv (pv 4) (aa (cX (bS hr) (pv 2) (pv 5) (λ _ _=>rfl)) aC)))
   (aF (aL (i:=5) jf.nd rfl (Or.inl rfl) (cX (bS hr) (pv 3) (cX (bS hr) (pv 2) (pv 5) (λ _ _=>rfl)) (λ _ _=>rfl))))))
   (aF (bh (BA rfl rfl T.mj rfl T.Bv (pv 4)))))))))),?_⟩
 refine⟨_,rfl,a,LV,legs,rfl,ha,R,hok,h500,λ ld lk P L H1 hlk NA LP IL nld _ s1=>?_⟩
 refine aT [some (.ref a),some (.int day),some (.ref ld),none,none,none] ?_
 have hLl:LV.length=legs.length:=by rw [R.len,QG]
 have hvd:=NA.val day
 dsimp only
 cases hL:L day with
 | none =>
  rw [hL] at hvd
  refine En (λ Qb hq=>?_) (q P L .non H1 LP IL (.inl ⟨rfl,hL⟩) s1)
  refine⟨_,rfl,_,rfl,ld,_,rfl,.inl ⟨lk,Sum.inl day,.inl hlk,rfl,rfl⟩,_,rfl,?_⟩
  rw [hvd];exact hq
 | some x0 =>
  rw [hL] at hvd
  obtain⟨hd1,q0,hq0⟩:=oJ IL hok hL
  obtain⟨b0,c0,n0,rfl⟩:=LP.pr _ _ hq0
  obtain⟨ws,hch,hwl⟩:=zd LP IL n0 day b0 c0 hq0
  have hcnt:=wX LP hq0
  refine EM (λ Qb hq=>?_) ?_
  ·refine⟨_,rfl,_,rfl,ld,_,rfl,.inl ⟨lk,Sum.inl day,.inl hlk,rfl,rfl⟩,_,rfl,?_⟩
   rw [hvd];exact hq
  have ha1:=s1 _ _ ha
  have R1:=R.mono λ t ys e=>s1 t _ e
  refine⟨_,rfl,a,rfl,⟨_,SqL.of ha1⟩,λ D' hD'=>?_⟩
  refine qV D' (K:=K) (a:=a) (xs:=LV) (λ i σ H5 ys=>∃(v:Option V),σ = [v] /\ az H1 H5 /\ H5 D'=some (.lst ys) /\ ys.length=i /\ ∀(j:Nat) v,ys[j]? = some v->∃ t g,v=V.ref t /\ legs[j]? = some g /\ H5 t=some (.tup [V.int g.num,V.int g.start])) ⟨none,rfl,az.new hD',ak,rfl,λ j v e=>(by cases e)⟩ (λ i σ H5 ys _ z0=>by obtain⟨_,_,s5,_⟩:=z0;exact SqL.of (s5 _ _ ha1)) ?_ ?_
  ·rintro i v σ H2 ys hi ⟨v0,rfl,s2,hD2,hyl,hys⟩
   have hil:i < legs.length:=by have:=(QE.mp hi).1;omega
   have eg:legs[i]? = some legs[i]:=QC hil
   generalize legs[i]=g at eg
   obtain⟨b,rfl,hb⟩:=oi (R1.get i v (ja g) hi (by rw [QK,eg];rfl))
   have hb2:=s2 _ _ hb
   refine⟨_,rfl,b,_,_,V.int g.num,rfl,rfl,SqT.of hb2,rfl,_,rfl,b,_,_,V.int g.start,rfl,rfl,SqT.of hb2,rfl,(by show 2 ≤ sizeLine;decide),λ t ht=>?_⟩
   have ndt:D' ≠ t:=aj hD2 ht
   refine⟨az.new ht _ _ hD2,by rw [hyl];exact aY (by omega),some (.ref b),rfl,λ b' o e=>by rw [af (aj e hD')];exact az.new ht b' o (s2 b' o e),ak,by simp [hyl],λ j w' ew=>?_⟩
   by_cases hj:j < ys.length
   ·rw [QW hj] at ew
    obtain⟨t',g',h1,h2,h3⟩:=hys j w' ew
    refine⟨t',g',h1,h2,?_⟩
    rw [af (aR h3 hD2 (by intro z;cases z))];exact az.new ht _ _ h3
   ·have hjl:=(QE.mp ew).1
    have:j=ys.length:=by simp at hjl;omega
    subst this
    rw [Rb (QH _)] at ew
    simp at ew
    subst ew
    exact⟨t,g,rfl,by rw [hyl];exact eg,by rw [af ndt.symm];exact ak⟩
  rintro σ H2 ys ⟨v0,rfl,s2,hD2,hyl,hys⟩
  refine⟨D',ys,legs.map (λ g=>((Sum.inl g.num:Key),V.int g.start)),rfl,hD2,by rw [QG];omega,λ j v e=>?_,λ sd hsd=>?_⟩
  ·obtain⟨t,g,h1,h2,h3⟩:=hys j v e
   exact⟨t,Sum.inl g.num,V.int g.start,h1,h3,by rw [QK,h2];rfl⟩
  have hmv:=wD legs [] hnod
  have s3:az H2 (upd H2 sd (.dK (cG [] (legs.map λ g=>((Sum.inl g.num:Key),V.int g.start))))):=az.new hsd
  have hsd3:upd H2 sd (.dK (cG [] (legs.map λ g=>((Sum.inl g.num:Key),V.int g.start)))) sd=some (.dK (cG [] (legs.map λ g=>((Sum.inl g.num:Key),V.int g.start)))):=ak
  generalize upd H2 sd (.dK (cG [] (legs.map λ g=>((Sum.inl g.num:Key),V.int g.start))))=H3 at s3 hsd3 ⊢
  generalize cG [] (legs.map λ g=>((Sum.inl g.num:Key),V.int g.start))=sk at hsd3 hmv
  refine aT [some (.ref a),some (.int day),some (.ref ld),some (.ref sd),none,none] ?_
  refine⟨Rm _,λ wl hwl'=>?_⟩
  have s4:az H3 (upd H3 wl (.lst [])):=az.new hwl'
  have hwl4:upd H3 wl (.lst []) wl=some (.lst (([]:List Int).map V.int)):=ak
  generalize upd H3 wl (.lst [])=H4 at s4 hwl4 ⊢
  refine aT [some (.ref a),some (.int day),some (.ref ld),some (.ref sd),some (.ref wl),none] ?_
  refine⟨_,rfl,?_⟩
  refine aT [some (.ref a),some (.int day),some (.ref ld),some (.ref sd),some (.ref wl),some (.int day)] ?_
  have s13:=s2.trans s3
  have s14:=s13.trans s4
  have nwl1:H1 wl=none:=s13.free hwl'
  dsimp only
  refine bY (λ σ' H'=>∃(v5:Option V),σ' = [some (.ref a),some (.int day),some (.ref ld),some (.ref sd),some (.ref wl),v5] /\ az H1 H' /\ H' wl=some (.lst (ws.map V.int))) (λ N hN=>?_) ?_
  ·refine⟨λ m σ H'=>∃(d:Int) (wy rest:List Int),σ = [some (.ref a),some (.int day),some (.ref ld),some (.ref sd),some (.ref wl),some (.int d)] /\ az H3 H' /\ H' wl=some (.lst (wy.map V.int)) /\ Chain L legs d rest /\ wy ++ rest=ws /\ m=rest.length,⟨_,day,[],ws,rfl,s4,hwl4,hch,rfl,rfl⟩,?_⟩
   rintro m σ H5 ⟨d,wy,rest,rfl,s5,hw5,hc,hw,rfl⟩
   refine⟨_,rfl,_,rfl,rfl,_,rfl,?_⟩
   cases hc with
   | nil =>
    rw [Rq rfl]
    rw [RT] at hw
    subst hw
    exact dM (hN _ _ ⟨_,rfl,s13.trans s5,hw5⟩)
   | cons hdn hLd hSt hrest =>
    rename_i x s' ws'
    rw [QY (show ¬ V.int d=V.int (-1) from λ e=>hdn (V.int.inj e))]
    have hvx:bg lk (Sum.inl d)=some (V.int x):=by rw [NA.val d,hLd];rfl
    have hlk5:=s5 _ _ (s13 _ _ hlk)
    have hlen:=congrArg List.length hw
    simp only [List.length_append,List.length_cons] at hlen
    refine dX ⟨_,λ σ' H' h=>h,?_⟩
    refine⟨_,rfl,.inl ⟨rfl,_,SqL.of hw5⟩,_,rfl,_,rfl,ld,V.int x,rfl,.inl ⟨lk,Sum.inl d,.inl hlk5,rfl,hvx.symm⟩,wl,_,_,rfl,rfl,hw5,by rw [QG];exact aY (by omega),?_⟩
    have hne1:ld ≠ wl:=aR hlk5 hw5 (by intro z;cases z)
    have hsd5:=s5 _ _ hsd3
    have hne2:sd ≠ wl:=aR hsd5 hw5 (by intro z;cases z)
    obtain⟨g,hg,hg1,hg2⟩:=hSt
    refine⟨_,rfl,_,rfl,_,rfl,ld,V.int x,rfl,.inl ⟨lk,Sum.inl d,.inl (by rw [af hne1];exact hlk5),rfl,hvx.symm⟩,sd,V.int s',rfl,.inl ⟨sk,Sum.inl x,.inl (by rw [af hne2];exact hsd5),rfl,by rw [← hg1,← hg2];exact(hmv g hg).symm⟩,?_⟩
    exact⟨ws'.length,by simp,s',wy ++ [x],ws',rfl,λ b' o e=>by rw [af (aj e hwl')];exact s5 b' o e,by rw [ak,RL];rfl,hrest,by rw [← hw];simp,rfl⟩
  rintro σ H5 ⟨v5,rfl,s5,hw5⟩
  refine⟨_,rfl,wl,_,rfl,SqL.of hw5,λ r hr'=>q P L (.ref r) _ LP IL (.inr ⟨r,ws,rfl,hch,hd1,by rw [ak,List.map_reverse],(s1.trans s5).free hr'⟩) ((s1.trans s5).trans (az.new hr'))⟩
theorem BS {f:Addr} {fd:FuncData} (F:Fun K "turned" "turned" jP f fd) (T:Txt K mg t_W aE aG aD aI aB aH aA aK ah ao ay) :aX P w K mg base (CXx P w) 1 f fd ["number"] (qQ):=by
 refine F.okX B0 (λ vs H Q E h=>?_) (λ cdv A outer s H vs Q E hr h=>?_)
 ·obtain⟨n,rfl,q⟩:=h;rfl
 obtain⟨n,rfl,q⟩:=h
 refine⟨_,(aF (bh (aO bN (aO cg (aO iB (pv 0) aq) (aO bN (we (v:=.int 18446744073709551615) rfl T.m_W ⟨_,rfl⟩) aq)) (aO fO (pv 0) (oB (n:=144115188075855872)))))),?_⟩
 refine⟨_,rfl,_,_,rfl,rfl,.inr ⟨by first | decide |(dsimp only;decide),by first | decide |(dsimp only;decide)⟩,_,_,rfl,rfl,_,_,rfl,rfl,(by first | decide |(dsimp only;decide)),_,rfl,_,_,rfl,rfl,⟨by first | decide |(dsimp only;decide),by first | decide |(dsimp only;decide)⟩,_,_,rfl,rfl,?_⟩
 exact q
theorem zY {f:Addr} {fd:FuncData} (F:Fun K "check_of" "check_of" iN f fd) (T:Txt K mg t_W aE aG aD aI aB aH aA aK ah ao ay) (uc:DefX P w K mg base "turned" 1 ["number"] qQ):aX P w K mg base (CXx P w) 2 f fd ["start","day","rows"] (ux):=by
 refine F.okX fR (λ vs H Q E h=>?_) (λ cdv A outer s H vs Q E hr h=>?_)
 ·obtain⟨s1,d,a,L,rows,rfl,hA,R,hlen,q⟩:=h;rfl
 obtain⟨s1,d,a,L,rows,rfl,hA,R,hlen,q⟩:=h
 refine⟨_,(au (aL (i:=3) fR.nd rfl (Or.inl rfl) (dN (aa (aO bN (pv 0) aq) (aa (pv 1) aC))))
   (au (eX Ra rfl (Ef (fT (pv 2)) (uM (pv 2))) (qA rfl (cQ (bH (i:=4) fR.nd rfl (Or.inl rfl)) (cQ (bH (i:=5) fR.nd rfl (Or.inl rfl)) lA)))
   (aF (bP (m7 RH PySem.F.slot_list_extend PySem.F.type_list_extend Cb (pv 3) (aa (dN (aa (pv 4) (aa (pv 5) aC))) aC)))))
   (au (aL (i:=6) fR.nd rfl (Or.inl rfl) aq)
   (au (eX Ra rfl (fT (pv 3)) (bH (i:=7) fR.nd rfl (Or.inl rfl))
   (aF (aL (i:=6) fR.nd rfl (Or.inl rfl) (aO Cg (aZ uc aM (hr.mono (by decide)) rfl (aa (pv 6) aC)) (pv 7)))))
   (aF (bh (pv 6))))))),?_⟩
 refine⟨_,rfl,_,_,rfl,rfl,_,rfl,(by show 2 ≤ sizeLine;decide),λ m hm=>?_⟩
 have nam:a ≠ m:=hA.elim (λ h=>aj h hm) (λ h=>aj h hm)
 rcases hA with hA | hA
 ·refine .inl ⟨_,rfl,a,rfl,⟨_,SqL.of (by rw [af nam];exact hA)⟩,gF (K:=K) (a:=a) (xs:=L) (λ i σ H2=>∃ v4 v5:Option V,σ = [some (.int ((s1:Int) - 1)),some (.int (d:Int)),some (.ref a),some (.ref m),v4,v5,none,none] /\ az H H2 ∧
   H2 m=some (.lst ((s1 :: d :: flat (rows.take i)).map λ z:Nat=>V.int (z:Int))))
  ⟨none,none,rfl,az.new hm,by rw [ak];show some (HO.lst [V.int ((s1:Int) - 1 + 1),V.int (d:Int)])=_;rw [V1];rfl⟩ (λ i σ H2 _ z0=>by obtain⟨_,_,_,s2,_⟩:=z0;exact SqL.of (s2 a _ hA)) ?_ ?_⟩
  ·rintro i v σ H2 hi ⟨v4,v5,rfl,s2,h2⟩
   obtain⟨t,r,rfl,hr2,ht⟩:=R.get i v hi
   have hil:i < rows.length:=(QE.mp hr2).1
   refine⟨t,_,rfl,SqT.of (s2 t _ ht),rfl,_,_,rfl,_,_,rfl,rfl,?_⟩
   refine⟨_,rfl,.inl ⟨rfl,_,SqL.of h2⟩,_,rfl,_,rfl,(by show 2 ≤ sizeLine;decide),λ l hl=>?_⟩
   have nml:m ≠ l:=aj h2 hl
   have hml:H l=none:=s2.free hl
   refine⟨m,l,_,_,rfl,rfl,(by rw [af nml];exact h2),ak,?_,?_⟩
   ·have e1:(flat (rows.take i)).length=2 * i:=by rw [yQ,Ri];omega
    show _ ≤ sizeLine
    simp only [List.length_map,List.length_cons,e1,List.length_nil]
    exact RM (aY (by omega))
   ·refine⟨_,_,rfl,λ b o e=>?_,?_⟩
    ·rw [af (aj e hm),af (aj e hml)];exact s2 b o e
    ·rw [ak]
     have e:rows.take (i + 1)=rows.take i ++ [r]:=by rw [Rn,hr2];rfl
     rw [e,xh];simp
  ·rintro σ H2 ⟨v4,v5,rfl,s2,h2⟩
   have h2:H2 m=some (.lst ((s1 :: d :: flat rows).map λ z:Nat=>V.int (z:Int))):=by
    rw [h2,R.len,RA]
   refine⟨_,rfl,m,rfl,⟨_,SqL.of h2⟩,gF (K:=K) (a:=m) (xs:=(s1 :: d :: flat rows).map λ z:Nat=>V.int (z:Int)) (λ i σ H3=>∃ v7:Option V,σ = [some (.int ((s1:Int) - 1)),some (.int (d:Int)),some (.ref a),some (.ref m),v4,v5,some (.int ((((s1 :: d :: flat rows).take i).foldl Chk.stp 0:Nat):Int)),v7] /\ H3=H2)
    ⟨none,rfl,rfl⟩ (λ i σ H3 _ z0=>by obtain⟨_,_,e⟩:=z0;exact by rw [e];exact SqL.of h2) ?_ ?_⟩
   ·rintro i v σ H3 hi ⟨v7,rfl,rfl⟩
    rw [QK] at hi
    cases ez:(s1 :: d :: flat rows)[i]? with
    | none=>rw [ez] at hi;cases hi
    | some z =>
     rw [ez] at hi
     have hi:V.int (z:Int)=v:=Rc hi
     subst hi
     refine⟨_,rfl,_,rfl,_,rfl,_,_,rfl,rfl,?_⟩
     have e:Builtin.bitXor (tI ((((s1 :: d :: flat rows).take i).foldl Chk.stp 0:Nat):Int)) (z:Int) =((((s1 :: d :: flat rows).take (i + 1)).foldl Chk.stp 0:Nat):Int):=by
      rw [Cp,rY,Rn,ez]
      simp only [Option.toList,List.foldl_append,List.foldl_cons,List.foldl_nil]
      rfl
     exact⟨some (V.int (z:Int)),by rw [← e];rfl,rfl⟩
   ·rintro σ H3 ⟨v7,rfl,rfl⟩
    refine⟨_,rfl,?_⟩
    rw [QG,RA]
    exact q H3 s2
 ·refine .inr ⟨_,rfl,a,rfl,⟨_,SqT.of (by rw [af nam];exact hA)⟩,Am (K:=K) (a:=a) (xs:=L) (λ i σ H2=>∃ v4 v5:Option V,σ = [some (.int ((s1:Int) - 1)),some (.int (d:Int)),some (.ref a),some (.ref m),v4,v5,none,none] /\ az H H2 ∧
   H2 m=some (.lst ((s1 :: d :: flat (rows.take i)).map λ z:Nat=>V.int (z:Int))))
  ⟨none,none,rfl,az.new hm,by rw [ak];show some (HO.lst [V.int ((s1:Int) - 1 + 1),V.int (d:Int)])=_;rw [V1];rfl⟩ (λ i σ H2 _ z0=>by obtain⟨_,_,_,s2,_⟩:=z0;exact SqT.of (s2 a _ hA)) ?_ ?_⟩
  ·rintro i v σ H2 hi ⟨v4,v5,rfl,s2,h2⟩
   obtain⟨t,r,rfl,hr2,ht⟩:=R.get i v hi
   have hil:i < rows.length:=(QE.mp hr2).1
   refine⟨t,_,rfl,SqT.of (s2 t _ ht),rfl,_,_,rfl,_,_,rfl,rfl,?_⟩
   refine⟨_,rfl,.inl ⟨rfl,_,SqL.of h2⟩,_,rfl,_,rfl,(by show 2 ≤ sizeLine;decide),λ l hl=>?_⟩
   have nml:m ≠ l:=aj h2 hl
   have hml:H l=none:=s2.free hl
   refine⟨m,l,_,_,rfl,rfl,(by rw [af nml];exact h2),ak,?_,?_⟩
   ·have e1:(flat (rows.take i)).length=2 * i:=by rw [yQ,Ri];omega
    show _ ≤ sizeLine
    simp only [List.length_map,List.length_cons,e1,List.length_nil]
    exact RM (aY (by omega))
   ·refine⟨_,_,rfl,λ b o e=>?_,?_⟩
    ·rw [af (aj e hm),af (aj e hml)];exact s2 b o e
    ·rw [ak]
     have e:rows.take (i + 1)=rows.take i ++ [r]:=by rw [Rn,hr2];rfl
     rw [e,xh];simp
  ·rintro σ H2 ⟨v4,v5,rfl,s2,h2⟩
   have h2:H2 m=some (.lst ((s1 :: d :: flat rows).map λ z:Nat=>V.int (z:Int))):=by
    rw [h2,R.len,RA]
   refine⟨_,rfl,m,rfl,⟨_,SqL.of h2⟩,gF (K:=K) (a:=m) (xs:=(s1 :: d :: flat rows).map λ z:Nat=>V.int (z:Int)) (λ i σ H3=>∃ v7:Option V,σ = [some (.int ((s1:Int) - 1)),some (.int (d:Int)),some (.ref a),some (.ref m),v4,v5,some (.int ((((s1 :: d :: flat rows).take i).foldl Chk.stp 0:Nat):Int)),v7] /\ H3=H2)
    ⟨none,rfl,rfl⟩ (λ i σ H3 _ z0=>by obtain⟨_,_,e⟩:=z0;exact by rw [e];exact SqL.of h2) ?_ ?_⟩
   ·rintro i v σ H3 hi ⟨v7,rfl,rfl⟩
    rw [QK] at hi
    cases ez:(s1 :: d :: flat rows)[i]? with
    | none=>rw [ez] at hi;cases hi
    | some z =>
     rw [ez] at hi
     have hi:V.int (z:Int)=v:=Rc hi
     subst hi
     refine⟨_,rfl,_,rfl,_,rfl,_,_,rfl,rfl,?_⟩
     have e:Builtin.bitXor (tI ((((s1 :: d :: flat rows).take i).foldl Chk.stp 0:Nat):Int)) (z:Int) =((((s1 :: d :: flat rows).take (i + 1)).foldl Chk.stp 0:Nat):Int):=by
      rw [Cp,rY,Rn,ez]
      simp only [Option.toList,List.foldl_append,List.foldl_cons,List.foldl_nil]
      rfl
     exact⟨some (V.int (z:Int)),by rw [← e];rfl,rfl⟩
   ·rintro σ H3 ⟨v7,rfl,rfl⟩
    refine⟨_,rfl,?_⟩
    rw [QG,RA]
    exact q H3 s2
theorem sL {f:Addr} {fd:FuncData} (F:Fun K "__init__" "Piece.__init__" dD f fd) (T:Txt K mg t_W aE aG aD aI aB aH aA aK ah ao ay) (oS:DefX P w K mg base "check_of" 2 ["start","day","rows"] ux):aX P w K mg base (CXx P w) 3 f fd ["self","start","day","rows","check"] (pO K):=by
 refine F.okX kO (λ vs H Q E h=>?_) (λ cdv A outer s H vs Q E hr h=>?_)
 ·obtain⟨p,C,dx,a,s1,d,L,rows,cv,c,rfl,hp,cl,n1,n2,n3,n4,hA,R,hlen,hcv,q⟩:=h;rfl
 obtain⟨p,C,dx,a,s1,d,L,rows,cv,c,rfl,hp,cl,n1,n2,n3,n4,hA,R,hlen,hcv,q⟩:=h
 refine⟨_,(au (jy (pv 0) (pv 2) rfl)
   (au (jy (pv 0) (kH xr (by rfl) T.EB PyProof.Rows.boot_tuple (aa (rT (N:=["place","block"]) (k:=2) (cap:=[]) rfl rfl (Ef (fT (pv 3)) (uM (pv 3))) (λ _ _ _ _=>(Az (K:=K) (n:=2) rfl rfl (cQ (bH (i:=0) (show(["place","block"]:List Str).Nodup from by decide +kernel) rfl (Or.inl rfl) (.inr rfl)) (cQ (bH (i:=1) (show(["place","block"]:List Str).Nodup from by decide +kernel) rfl (Or.inl rfl) (.inr rfl)) lA)))) (λ _ _ _ _=>sq) (λ _ _ _ _=>(dZ (aa (pv 0) (aa (pv 1) aC))))) aC)) rfl)
   (au (aL (i:=5) kO.nd rfl (Or.inl rfl) (aZ oS aM (hr.mono (by decide)) rfl (aa (pv 1) (aa (pv 2) (aa (bq (pv 0) rfl) aC)))))
   (au (jy (pv 0) (tZ (bx yV (pv 4) kF (bz _)) (pv 5) (pv 4)) rfl)
   (aF (jy (pv 0) (nU jw (bq (pv 0) rfl) (pv 5) (bz _)) rfl)))))),?_⟩
 have npa:a ≠ p:=by rcases hA with h | h <;> exact aR h hp (by intro z;cases z)
 refine⟨_,rfl,_,rfl,p,C,dx,_,rfl,hp,cl,n1,(by show 0 < 1000;decide),?_⟩
 have hp1:upd H p (.ins C dx (cz "day" (V.int (d:Int)) [])) p=some (.ins C dx [("day",V.int (d:Int))]):=ak
 have k1:aV [p] H (upd H p (.ins C dx (cz "day" (V.int (d:Int)) []))):=dF aV.refl (.inl (by simp))
 generalize upd H p (.ins C dx (cz "day" (V.int (d:Int)) []))=H1 at hp1 k1
 have hA1:H1 a=some (.lst L) ∨ H1 a=some (.tup L):=hA.imp (λ h=>k1 a _ h (by simpa using npa)) (λ h=>k1 a _ h (by simpa using npa))
 have R1:bX H1 L rows:=R.mono λ t xs e=>k1 t _ e (by have:=aR e hp (by intro z;cases z);simpa using this)
 rcases hA1 with hA1 | hA1
 ·refine .inl ⟨_,rfl,a,rfl,⟨_,SqL.of hA1⟩,λ D hD=>?_⟩
  refine qV D (K:=K) (a:=a) (xs:=L) (λ i σ H5 ys=>∃ v v':Option V,σ = [v,v'] /\ az H1 H5 /\ H5 D=some (.lst ys) /\ bX H5 ys (rows.take i)) ⟨none,none,rfl,az.new hD,ak,⟨rfl,λ i v e=>by simp at e⟩⟩ (λ i σ H5 ys _ z0=>by obtain⟨_,_,_,s5,_⟩:=z0;exact SqL.of (s5 a _ hA1)) ?_ ?_
  ·rintro i x σ H5 ys hi ⟨v,v',rfl,s5,hy,R5⟩
   obtain⟨t,r,rfl,hr2,ht⟩:=R1.get i x hi
   refine⟨t,_,rfl,SqT.of (s5 t _ ht),rfl,_,_,rfl,_,_,rfl,rfl,_,rfl,_,rfl,(by show 2 ≤ sizeLine;decide),λ t2 ht2=>?_⟩
   have nD:D ≠ t2:=aj hy ht2
   refine⟨by rw [af nD];exact hy,(by rw [R5.len,Ri];exact aY (by omega)),_,_,rfl,λ b o e=>?_,ak,?_⟩
   ·rw [af (aj e hD)];exact az.new ht2 b _ (s5 b _ e)
   ·rw [Rn,hr2]
    refine(R5.mono λ b xs e=>?_).snoc ?_
    ·rw [af (aR e hy (by intro z;cases z))];exact az.new ht2 b _ e
    ·rw [af nD.symm,ak]
  ·rintro σ H5 ys ⟨v,v',rfl,s5,hy,R5⟩
   rw [show rows.take L.length=rows by rw [R1.len,RA]] at R5
   refine⟨D,_,rfl,.inl ⟨SqL.of hy,λ r hr=>?_⟩⟩
   have hp5:=s5 p _ hp1
   have npr:p ≠ r:=aj hp5 hr
   refine⟨_,rfl,p,C,dx,_,rfl,az.new hr p _ hp5,cl,n2,(by show 1 < 1000;decide),?_⟩
   rw [zu]
   have hp6:upd (upd H5 r (.tup ys)) p (.ins C dx [("day",V.int (d:Int)),("rows",V.ref r)]) p=some (.ins C dx [("day",V.int (d:Int)),("rows",V.ref r)]):=ak
   have hr6:upd (upd H5 r (.tup ys)) p (.ins C dx [("day",V.int (d:Int)),("rows",V.ref r)]) r=some (.tup ys):=by rw [af npr.symm,ak]
   have k6:aV [p] H5 (upd (upd H5 r (.tup ys)) p (.ins C dx [("day",V.int (d:Int)),("rows",V.ref r)])):=dF (aV.of_same (az.new hr)) (.inl (by simp))
   have R6:bX (upd (upd H5 r (.tup ys)) p (.ins C dx [("day",V.int (d:Int)),("rows",V.ref r)])) ys rows:=R5.mono λ t xs e=>k6 t _ e (by have:=aR e hp5 (by intro z;cases z);simpa using this)
   generalize upd (upd H5 r (.tup ys)) p (.ins C dx [("day",V.int (d:Int)),("rows",V.ref r)])=H6 at hp6 hr6 k6 R6
   have k06:aV [p] H H6:=λ b o e hb=>k6 b o (s5 b o (k1 b o e hb)) hb
   have npr6:r ≠ p:=npr.symm
   refine⟨_,rfl,_,rfl,_,rfl,p,C,dx,_,_,rfl,hp6,cl,n2,fY,s1,d,r,ys,rows,rfl,.inr hr6,R6,hlen,λ H7 s7=>?_⟩
   have last:Q V.non (upd (upd H7 p (.ins C dx [("day",V.int (d:Int)),("rows",V.ref r),("check",V.int c)])) p (.ins C dx (cz "fits" (V.bl (decide (V.int c=V.int ((Chk.chk (s1 :: d :: flat rows):Nat):Int)))) [("day",V.int (d:Int)),("rows",V.ref r),("check",V.int c)]))):=by
    rw [yO,nZ,Gu]
    refine q r ys _ ak (by rw [af npr6];exact s7 r _ hr6) (R6.mono λ t xs e=>?_) λ b o e hb=>?_
    ·rw [af (aR e hp6 (by intro z;cases z))];exact s7 t _ e
    ·rw [af (by simpa using hb)];exact s7 b _ (k06 b o e hb)
   rcases hcv with⟨rfl,hc⟩ | rfl
   ·subst hc
    refine⟨_,rfl,rfl,_,rfl,?_⟩
    refine jM rfl ?_
    refine⟨_,rfl,_,rfl,p,C,dx,_,rfl,s7 p _ hp6,cl,n3,(by show 2 < 1000;decide),?_⟩
    rw [m5]
    refine⟨_,rfl,p,C,dx,_,_,rfl,ak,cl,n3,jW,_,rfl,rfl,_,rfl,p,C,dx,_,rfl,ak,cl,n4,(by show 3 < 1000;decide),?_⟩
    exact last
   ·refine⟨_,rfl,rfl,_,rfl,?_⟩
    refine jN (by intro h;cases h) ?_
    refine⟨_,rfl,_,rfl,p,C,dx,_,rfl,s7 p _ hp6,cl,n3,(by show 2 < 1000;decide),?_⟩
    rw [m5]
    refine⟨_,rfl,p,C,dx,_,_,rfl,ak,cl,n3,jW,_,rfl,rfl,_,rfl,p,C,dx,_,rfl,ak,cl,n4,(by show 3 < 1000;decide),?_⟩
    exact last
 ·refine .inr ⟨_,rfl,a,rfl,⟨_,SqT.of hA1⟩,λ D hD=>?_⟩
  refine zx D (K:=K) (a:=a) (xs:=L) (λ i σ H5 ys=>∃ v v':Option V,σ = [v,v'] /\ az H1 H5 /\ H5 D=some (.lst ys) /\ bX H5 ys (rows.take i)) ⟨none,none,rfl,az.new hD,ak,⟨rfl,λ i v e=>by simp at e⟩⟩ (λ i σ H5 ys _ z0=>by obtain⟨_,_,_,s5,_⟩:=z0;exact SqT.of (s5 a _ hA1)) ?_ ?_
  ·rintro i x σ H5 ys hi ⟨v,v',rfl,s5,hy,R5⟩
   obtain⟨t,r,rfl,hr2,ht⟩:=R1.get i x hi
   refine⟨t,_,rfl,SqT.of (s5 t _ ht),rfl,_,_,rfl,_,_,rfl,rfl,_,rfl,_,rfl,(by show 2 ≤ sizeLine;decide),λ t2 ht2=>?_⟩
   have nD:D ≠ t2:=aj hy ht2
   refine⟨by rw [af nD];exact hy,(by rw [R5.len,Ri];exact aY (by omega)),_,_,rfl,λ b o e=>?_,ak,?_⟩
   ·rw [af (aj e hD)];exact az.new ht2 b _ (s5 b _ e)
   ·rw [Rn,hr2]
    refine(R5.mono λ b xs e=>?_).snoc ?_
    ·rw [af (aR e hy (by intro z;cases z))];exact az.new ht2 b _ e
    ·rw [af nD.symm,ak]
  ·rintro σ H5 ys ⟨v,v',rfl,s5,hy,R5⟩
   rw [show rows.take L.length=rows by rw [R1.len,RA]] at R5
   refine⟨D,_,rfl,.inl ⟨SqL.of hy,λ r hr=>?_⟩⟩
   have hp5:=s5 p _ hp1
   have npr:p ≠ r:=aj hp5 hr
   refine⟨_,rfl,p,C,dx,_,rfl,az.new hr p _ hp5,cl,n2,(by show 1 < 1000;decide),?_⟩
   rw [zu]
   have hp6:upd (upd H5 r (.tup ys)) p (.ins C dx [("day",V.int (d:Int)),("rows",V.ref r)]) p=some (.ins C dx [("day",V.int (d:Int)),("rows",V.ref r)]):=ak
   have hr6:upd (upd H5 r (.tup ys)) p (.ins C dx [("day",V.int (d:Int)),("rows",V.ref r)]) r=some (.tup ys):=by rw [af npr.symm,ak]
   have k6:aV [p] H5 (upd (upd H5 r (.tup ys)) p (.ins C dx [("day",V.int (d:Int)),("rows",V.ref r)])):=dF (aV.of_same (az.new hr)) (.inl (by simp))
   have R6:bX (upd (upd H5 r (.tup ys)) p (.ins C dx [("day",V.int (d:Int)),("rows",V.ref r)])) ys rows:=R5.mono λ t xs e=>k6 t _ e (by have:=aR e hp5 (by intro z;cases z);simpa using this)
   generalize upd (upd H5 r (.tup ys)) p (.ins C dx [("day",V.int (d:Int)),("rows",V.ref r)])=H6 at hp6 hr6 k6 R6
   have k06:aV [p] H H6:=λ b o e hb=>k6 b o (s5 b o (k1 b o e hb)) hb
   have npr6:r ≠ p:=npr.symm
   refine⟨_,rfl,_,rfl,_,rfl,p,C,dx,_,_,rfl,hp6,cl,n2,fY,s1,d,r,ys,rows,rfl,.inr hr6,R6,hlen,λ H7 s7=>?_⟩
   have last:Q V.non (upd (upd H7 p (.ins C dx [("day",V.int (d:Int)),("rows",V.ref r),("check",V.int c)])) p (.ins C dx (cz "fits" (V.bl (decide (V.int c=V.int ((Chk.chk (s1 :: d :: flat rows):Nat):Int)))) [("day",V.int (d:Int)),("rows",V.ref r),("check",V.int c)]))):=by
    rw [yO,nZ,Gu]
    refine q r ys _ ak (by rw [af npr6];exact s7 r _ hr6) (R6.mono λ t xs e=>?_) λ b o e hb=>?_
    ·rw [af (aR e hp6 (by intro z;cases z))];exact s7 t _ e
    ·rw [af (by simpa using hb)];exact s7 b _ (k06 b o e hb)
   rcases hcv with⟨rfl,hc⟩ | rfl
   ·subst hc
    refine⟨_,rfl,rfl,_,rfl,?_⟩
    refine jM rfl ?_
    refine⟨_,rfl,_,rfl,p,C,dx,_,rfl,s7 p _ hp6,cl,n3,(by show 2 < 1000;decide),?_⟩
    rw [m5]
    refine⟨_,rfl,p,C,dx,_,_,rfl,ak,cl,n3,jW,_,rfl,rfl,_,rfl,p,C,dx,_,rfl,ak,cl,n4,(by show 3 < 1000;decide),?_⟩
    exact last
   ·refine⟨_,rfl,rfl,_,rfl,?_⟩
    refine jN (by intro h;cases h) ?_
    refine⟨_,rfl,_,rfl,p,C,dx,_,rfl,s7 p _ hp6,cl,n3,(by show 2 < 1000;decide),?_⟩
    rw [m5]
    refine⟨_,rfl,p,C,dx,_,_,rfl,ak,cl,n3,jW,_,rfl,rfl,_,rfl,p,C,dx,_,rfl,ak,cl,n4,(by show 3 < 1000;decide),?_⟩
    exact last
theorem kN {f:Addr} {fd:FuncData} {dV:Value} (F:uo K "__init__" "Whole.__init__" dz f fd dV) (T:Txt K mg t_W aE aG aD aI aB aH aA aK ah ao ay) (bZ:Bk P w K mg base "Piece" aK "__init__" 3 ["self","start","day","rows","check"] (pO K)):aX P w K mg base (CXx P w) 4 f fd ["self","day","rows","check"] (j5 ah ao):=by
 refine F.okX sN (λ vs H Q E h=>?_) (λ cdv A outer s H vs Q E hr h=>?_)
 ·obtain⟨p,dx,a,d,L,rows,cv,c,rfl,hp,hA,R,hlen,hcv,q⟩:=h;rfl
 obtain⟨p,dx,a,d,L,rows,cv,c,rfl,hp,hA,R,hlen,hcv,q⟩:=h
 refine⟨_,(aF (bP (Ar (we (v:=.ref aK) rfl T.yN rfl) bZ aM (hr.mono (by decide)) (aa (pv 0) (aa (iY gI aq) (aa (pv 1) (aa (pv 2) (aa (pv 3) aC)))))))),?_⟩
 refine⟨_,rfl,_,rfl,_,rfl,_,rfl,_,rfl,p,ah,dx,a,0,d,L,rows,cv,c,rfl,hp,T.bT,T.dH,T.cN,T.fz,T.fW,hA,R,hlen,hcv,λ r Rr H1 h1 h2 h3 k1=>?_⟩
 exact q H1 ⟨dx,r,Rr,h1,h2,h3⟩ k1
theorem lH {f:Addr} {fd:FuncData} {dV:Value} (F:uo K "__init__" "Gain.__init__" dP f fd dV) (T:Txt K mg t_W aE aG aD aI aB aH aA aK ah ao ay) (bZ:Bk P w K mg base "Piece" aK "__init__" 3 ["self","start","day","rows","check"] (pO K)):aX P w K mg base (CXx P w) 4 f fd ["self","base","day","rows","check"] (mC ah ao):=by
 refine F.okX tO (λ vs H Q E h=>?_) (λ cdv A outer s H vs Q E hr h=>?_)
 ·obtain⟨p,dx,a,b,d,L,rows,cv,c,rfl,hp,hA,R,hlen,hcv,q⟩:=h;rfl
 obtain⟨p,dx,a,b,d,L,rows,cv,c,rfl,hp,hA,R,hlen,hcv,q⟩:=h
 refine⟨_,(au (bP (Ar (we (v:=.ref aK) rfl T.yN rfl) bZ aM (hr.mono (by decide)) (aa (pv 0) (aa (pv 1) (aa (pv 2) (aa (pv 3) (aa (pv 4) aC)))))))
   (aF (jy (pv 0) (pv 1) rfl))),?_⟩
 refine⟨_,rfl,_,rfl,_,rfl,_,rfl,_,rfl,p,ao,dx,a,b + 1,d,L,rows,cv,c,(by rw [show(((b + 1:Nat):Int) - 1) =(b:Int) by omega]),hp,T.bQ,T.ef,T.cK,T.gc,T.gT,hA,R,hlen,hcv,λ r Rr H1 h1 h2 h3 k1=>?_⟩
 refine⟨_,rfl,_,rfl,p,ao,dx,_,rfl,h1,T.bQ,T.fQ,(by show 4 < 1000;decide),?_⟩
 rw [Dz]
 refine q _ ⟨dx,r,Rr,ak,?_,h3.mono λ t xs e=>?_⟩ (dF k1 (.inl (by simp)))
 ·rw [af (aR h2 h1 (by intro z;cases z))];exact h2
 ·rw [af (aR e h1 (by intro z;cases z))];exact e
theorem vR {f:Addr} {fd:FuncData} (F:Fun K "start" "Whole.start" fB f fd) (T:Txt K mg t_W aE aG aD aI aB aH aA aK ah ao ay) :aX P w K mg base (CXx P w) 1 f fd ["self"] (mV):=by
 refine F.okX vH (λ vs H Q E h=>?_) (λ cdv A outer s H vs Q E hr h=>?_)
 ·obtain⟨p,rfl,q⟩:=h;rfl
 obtain⟨p,rfl,q⟩:=h
 refine⟨_,(aF (bh (iY gI aq))),?_⟩
 exact⟨_,rfl,q⟩
theorem xN {f:Addr} {fd:FuncData} (F:Fun K "start" "Gain.start" gj f fd) (T:Txt K mg t_W aE aG aD aI aB aH aA aK ah ao ay) :aX P w K mg base (CXx P w) 1 f fd ["self"] (mO ah ao):=by
 refine F.okX xq (λ vs H Q E h=>?_) (λ cdv A outer s H vs Q E hr h=>?_)
 ·obtain⟨p,b,d,rows,c,rfl,⟨dx,r,R,h1,h2,h3⟩,q⟩:=h;rfl
 obtain⟨p,b,d,rows,c,rfl,⟨dx,r,R,h1,h2,h3⟩,q⟩:=h
 refine⟨_,(aF (bh (bq (pv 0) rfl))),?_⟩
 exact⟨_,rfl,p,ao,dx,_,_,rfl,h1,T.bQ,T.fQ,AE,q⟩
theorem lN {f:Addr} {fd:FuncData} (F:Fun K "is_good" "Piece.is_good" dR f fd) (T:Txt K mg t_W aE aG aD aI aB aH aA aK ah ao ay) :aX P w K mg base (CXx P w) 3 f fd ["self"] (jK ah ao):=by
 refine F.okX tP (λ vs H Q E h=>?_) (λ cdv A outer s H vs Q E hr h=>?_)
 ·obtain⟨p,wh,b,d,rows,c,rfl,hP,hlen,q⟩:=h;rfl
 obtain⟨p,wh,b,d,rows,c,rfl,hP,hlen,q⟩:=h
 refine⟨_,(aF (bh (bq (pv 0) rfl))),?_⟩
 obtain⟨dx,r,R,h1,h2,h3⟩:=id hP
 cases wh
 ·exact⟨_,rfl,p,ao,dx,_,_,rfl,h1,T.bQ,T.gT,AJ,q H (az.refl _)⟩
 ·exact⟨_,rfl,p,ah,dx,_,_,rfl,h1,T.bT,T.fW,AJ,q H (az.refl _)⟩
theorem pY {f:Addr} {fd:FuncData} (F:Fun K "size" "Piece.size" gf f fd) (T:Txt K mg t_W aE aG aD aI aB aH aA aK ah ao ay) :aX P w K mg base (CXx P w) 1 f fd ["self"] (n5 ah ao):=by
 refine F.okX xF (λ vs H Q E h=>?_) (λ cdv A outer s H vs Q E hr h=>?_)
 ·obtain⟨p,wh,b,d,rows,c,rfl,⟨dx,r,R,h1,h2,h3⟩,q⟩:=h;rfl
 obtain⟨p,wh,b,d,rows,c,rfl,⟨dx,r,R,h1,h2,h3⟩,q⟩:=h
 refine⟨_,(aF (bh (bL bF (by rfl) T.fM Ru (aa (bq (pv 0) rfl) aC)))),?_⟩
 rw [← h3.len] at q
 cases wh
 ·exact⟨_,rfl,p,ao,dx,_,_,rfl,h1,T.bQ,T.cK,fY,r,R,rfl,.inr (SqT.of h2),q⟩
 ·exact⟨_,rfl,p,ah,dx,_,_,rfl,h1,T.bT,T.cN,fY,r,R,rfl,.inr (SqT.of h2),q⟩
theorem qB {f:Addr} {fd:FuncData} (F:Fun K "with_rows" "Whole.with_rows" cW f fd) (T:Txt K mg t_W aE aG aD aI aB aH aA aK ah ao ay) (vV:kg P w K mg base "Whole" ah 4 ["self","day","rows","check"] (j5 ah ao)):aX P w K mg base (CXx P w) 6 f fd ["self","rows"] (rW ah ao true):=by
 refine F.okX qI (λ vs H Q E h=>?_) (λ cdv A outer s H vs Q E hr h=>?_)
 ·obtain⟨p,b,d,rows,c,l,L,rows2,rfl,hP,hl,R,hlen,q⟩:=h;rfl
 obtain⟨p,b,d,rows,c,l,L,rows2,rfl,hP,hl,R,hlen,q⟩:=h
 refine⟨_,(aF (bh (yw vV aM (hr.mono (by decide)) rfl (aa (bq (pv 0) rfl) (aa (pv 1) (aa (bq (pv 0) rfl) aC)))))),?_⟩
 have up:∀ {x dx:Addr} {o:HO},H x=none->H dx=none->∀ t o',H t=some o'->upd (upd H dx (.own x)) x o t=some o':=λ hx hd t o' e=>by rw [af (aj e hx),af (aj e hd)];exact e
 obtain⟨dx,r,Rr,h1,h2,h3⟩:=id hP
 exact⟨_,rfl,p,ah,dx,_,_,rfl,h1,T.bT,T.dH,lU,_,rfl,_,rfl,p,ah,dx,_,_,rfl,h1,T.bT,T.fz,jW,λ x dx2 hx hd ne=>⟨x,dx2,l,d,L,rows2,.int c,c,rfl,ak,.inl (up hx hd l _ hl),R.mono (λ t xs e=>up hx hd t _ e),hlen,.inr rfl,λ H1 hP2 k1=>⟨rfl,q x H1 (PAt.of0 hP2) hx (jh hx hd k1)⟩⟩⟩
theorem sy {f:Addr} {fd:FuncData} (F:Fun K "with_rows" "Gain.with_rows" dj f fd) (T:Txt K mg t_W aE aG aD aI aB aH aA aK ah ao ay) (yC:kg P w K mg base "Gain" ao 4 ["self","base","day","rows","check"] (mC ah ao)):aX P w K mg base (CXx P w) 6 f fd ["self","rows"] (rW ah ao false):=by
 refine F.okX sP (λ vs H Q E h=>?_) (λ cdv A outer s H vs Q E hr h=>?_)
 ·obtain⟨p,b,d,rows,c,l,L,rows2,rfl,hP,hl,R,hlen,q⟩:=h;rfl
 obtain⟨p,b,d,rows,c,l,L,rows2,rfl,hP,hl,R,hlen,q⟩:=h
 refine⟨_,(aF (bh (yw yC aM (hr.mono (by decide)) rfl (aa (bq (pv 0) rfl) (aa (bq (pv 0) rfl) (aa (pv 1) (aa (bq (pv 0) rfl) aC))))))),?_⟩
 have up:∀ {x dx:Addr} {o:HO},H x=none->H dx=none->∀ t o',H t=some o'->upd (upd H dx (.own x)) x o t=some o':=λ hx hd t o' e=>by rw [af (aj e hx),af (aj e hd)];exact e
 obtain⟨dx,r,Rr,h1,h2,h3⟩:=id hP
 exact⟨_,rfl,p,ao,dx,_,_,rfl,h1,T.bQ,T.fQ,AE,_,rfl,p,ao,dx,_,_,rfl,h1,T.bQ,T.ef,lU,_,rfl,_,rfl,p,ao,dx,_,_,rfl,h1,T.bQ,T.gc,jW,λ x dx2 hx hd ne=>⟨x,dx2,l,b,d,L,rows2,.int c,c,rfl,ak,.inl (up hx hd l _ hl),R.mono (λ t xs e=>up hx hd t _ e),hlen,.inr rfl,λ H1 hP2 k1=>⟨rfl,q x H1 hP2 hx (jh hx hd k1)⟩⟩⟩
theorem mY {f:Addr} {fd:FuncData} (F:Fun K "harmed" "Piece.harmed" eE f fd) (T:Txt K mg t_W aE aG aD aI aB aH aA aK ah ao ay) (mQ:pT P w K mg base "NoPlace" aG 1 ["self","place"] (iG aG "place")) (gy:bf P w K mg base ao "with_rows" 6 ["self","rows"] (rW ah ao false)) (fS:bf P w K mg base ah "with_rows" 6 ["self","rows"] (rW ah ao true)):aX P w K mg base (CXx P w) 7 f fd ["self","at","bits"] (oA ah ao aG):=by
 refine F.okX jx (λ vs H Q E h=>?_) (λ cdv A outer s H vs Q E hr h=>?_)
 ·obtain⟨p,wh,b,d,rows,c,ai,bt,rfl,hP,hlen,q1,q2⟩:=h;rfl
 obtain⟨p,wh,b,d,rows,c,ai,bt,rfl,hP,hlen,q1,q2⟩:=h
 refine⟨_,(au (ck (PW.pt (pw_or (bx uR (pv 1) aq (bz _)) (pw_or1 (bx GC (pv 1) (bL bF (by rfl) T.fM Ru (aa (bq (pv 0) rfl) aC)) (bz _))))) (aF (jU rfl lC (qW mQ (hr.mono (by decide)) rfl (aa (pv 1) aC)))) bK)
   (au (aL (i:=3) jx.nd rfl (Or.inl rfl) (kH lK (by rfl) T.mj Tc (aa (bq (pv 0) rfl) aC)))
   (au (aL (i:=4) jx.nd rfl (Or.inl rfl) (aQ aW (pv 3) (pv 1) (λ _ _=>rfl)))
   (au (lT (dZ (aa (aQ bE (pv 4) aq (λ _ _=>rfl)) (aa (aO Cg (aQ bE (pv 4) aq (λ _ _=>rfl)) (pv 2)) aC))) (oz (pv 3) (pv 1) set_list))
   (aF (bh (kr (bV (pv 0) T.bT fS aM (hr.mono (by decide)) (aa (pv 3) aC)) (bV (pv 0) T.bQ gy aM (hr.mono (by decide)) (aa (pv 3) aC))))))))),?_⟩
 obtain⟨dx,r,Rr,h1,h2,h3⟩:=id hP
 cases wh
 ·refine⟨_,rfl,_,_,rfl,rfl,_,rfl,?_⟩
  by_cases a0:ai < 0
  ·refine jM a0 ?_
   refine dX ?_
   exact⟨_,rfl,kq (E:=E) T.jd λ e H' he hs=>q2 (by omega) e H' he hs⟩
  refine jN a0 ?_
  refine⟨_,rfl,_,rfl,p,ao,dx,_,_,rfl,h1,T.bQ,T.cK,fY,r,Rr,rfl,.inr (SqT.of h2),_,_,rfl,rfl,_,rfl,?_⟩
  by_cases a1:ai ≥(Rr.length:Int)
  ·refine jM a1 ?_
   rw [h3.len] at a1
   exact⟨_,rfl,kq (E:=E) T.jd λ e H' he hs=>q2 (by omega) e H' he hs⟩
  refine jN a1 ?_
  rw [h3.len] at a1
  obtain⟨i,rfl⟩:∃ i:Nat,ai =(i:Int):=⟨ai.toNat,by omega⟩
  have hi:i < rows.length:=by omega
  obtain⟨v,hv⟩:∃ v,Rr[i]? = some v:=⟨_,QC (by rw [h3.len];exact hi)⟩
  obtain⟨t,rw1,rfl,hrw,ht⟩:=h3.get i v hv
  refine⟨_,rfl,p,ao,dx,_,_,rfl,h1,T.bQ,T.cK,fY,r,Rr,rfl,.inr (SqT.of h2),λ l hl=>?_⟩
  have s1:az H (upd H l (.lst Rr)):=az.new hl
  have hl1:upd H l (.lst Rr) l=some (.lst Rr):=ak
  generalize upd H l (.lst Rr)=H1 at s1 hl1
  refine⟨_,rfl,_,rfl,l,_,_,V.ref t,rfl,rfl,SqL.of hl1,bw hv,?_⟩
  have ht1:=s1 t _ ht
  refine⟨_,rfl,t,_,_,V.int (rw1.1:Int),rfl,rfl,SqT.of ht1,bw (j:=0) rfl,_,rfl,t,_,_,V.int (rw1.2:Int),rfl,rfl,SqT.of ht1,bw (j:=1) rfl,_,rfl,_,_,rfl,rfl,(by show 2 ≤ sizeLine;decide),λ t2 ht2=>?_⟩
  have nlt:l ≠ t2:=aj hl1 ht2
  refine⟨_,rfl,_,rfl,l,_,_,i,rfl,rfl,az.new ht2 l _ hl1,?_,?_⟩
  ·unfold ixN;rw [if_pos (by omega),if_pos (by rw [h3.len];omega)];simp
  have ex:dg rows i bt=rows.set i (rw1.1,rw1.2 ^^^ bt):=qx hrw
  have hl3:upd (upd H1 t2 (.tup [V.int (rw1.1:Int),V.int (Builtin.bitXor (rw1.2:Int) (bt:Int))])) l (.lst (Rr.set i (V.ref t2))) l=some (.lst (Rr.set i (V.ref t2))):=ak
  have s3:az H (upd (upd H1 t2 (.tup [V.int (rw1.1:Int),V.int (Builtin.bitXor (rw1.2:Int) (bt:Int))])) l (.lst (Rr.set i (V.ref t2)))):=λ b o e=>by rw [af (aj e hl)];exact az.new ht2 b _ (s1 b _ e)
  have ht3:upd (upd H1 t2 (.tup [V.int (rw1.1:Int),V.int (Builtin.bitXor (rw1.2:Int) (bt:Int))])) l (.lst (Rr.set i (V.ref t2))) t2=some (.tup [V.int (rw1.1:Int),V.int ((rw1.2 ^^^ bt:Nat):Int)]):=by rw [af nlt.symm,ak,rY]
  generalize upd (upd H1 t2 (.tup [V.int (rw1.1:Int),V.int (Builtin.bitXor (rw1.2:Int) (bt:Int))])) l (.lst (Rr.set i (V.ref t2)))=H3 at hl3 s3 ht3
  have R3:bX H3 (Rr.set i (V.ref t2)) (dg rows i bt):=by rw [ex];exact zw (h3.mono λ t xs e=>s3 t _ e) ht3
  have h1:=s3 _ _ h1
  refine .inr ⟨_,rfl,p,dx,_,rfl,h1,fh (wh:=false) (by decide +kernel) (by decide +kernel) (by decide +kernel) (by decide +kernel),_,rfl,p,b,d,rows,c,l,_,dg rows i bt,rfl,hP.keep s3,hl3,R3,by rw [kD];exact hlen,λ p2 H4 hP2 hn s4=>?_⟩
  exact q1 i rfl hi p2 H4 hP2 (s3.free hn) (s3.trans s4)
 ·refine⟨_,rfl,_,_,rfl,rfl,_,rfl,?_⟩
  by_cases a0:ai < 0
  ·refine jM a0 ?_
   refine dX ?_
   exact⟨_,rfl,kq (E:=E) T.jd λ e H' he hs=>q2 (by omega) e H' he hs⟩
  refine jN a0 ?_
  refine⟨_,rfl,_,rfl,p,ah,dx,_,_,rfl,h1,T.bT,T.cN,fY,r,Rr,rfl,.inr (SqT.of h2),_,_,rfl,rfl,_,rfl,?_⟩
  by_cases a1:ai ≥(Rr.length:Int)
  ·refine jM a1 ?_
   rw [h3.len] at a1
   exact⟨_,rfl,kq (E:=E) T.jd λ e H' he hs=>q2 (by omega) e H' he hs⟩
  refine jN a1 ?_
  rw [h3.len] at a1
  obtain⟨i,rfl⟩:∃ i:Nat,ai =(i:Int):=⟨ai.toNat,by omega⟩
  have hi:i < rows.length:=by omega
  obtain⟨v,hv⟩:∃ v,Rr[i]? = some v:=⟨_,QC (by rw [h3.len];exact hi)⟩
  obtain⟨t,rw1,rfl,hrw,ht⟩:=h3.get i v hv
  refine⟨_,rfl,p,ah,dx,_,_,rfl,h1,T.bT,T.cN,fY,r,Rr,rfl,.inr (SqT.of h2),λ l hl=>?_⟩
  have s1:az H (upd H l (.lst Rr)):=az.new hl
  have hl1:upd H l (.lst Rr) l=some (.lst Rr):=ak
  generalize upd H l (.lst Rr)=H1 at s1 hl1
  refine⟨_,rfl,_,rfl,l,_,_,V.ref t,rfl,rfl,SqL.of hl1,bw hv,?_⟩
  have ht1:=s1 t _ ht
  refine⟨_,rfl,t,_,_,V.int (rw1.1:Int),rfl,rfl,SqT.of ht1,bw (j:=0) rfl,_,rfl,t,_,_,V.int (rw1.2:Int),rfl,rfl,SqT.of ht1,bw (j:=1) rfl,_,rfl,_,_,rfl,rfl,(by show 2 ≤ sizeLine;decide),λ t2 ht2=>?_⟩
  have nlt:l ≠ t2:=aj hl1 ht2
  refine⟨_,rfl,_,rfl,l,_,_,i,rfl,rfl,az.new ht2 l _ hl1,?_,?_⟩
  ·unfold ixN;rw [if_pos (by omega),if_pos (by rw [h3.len];omega)];simp
  have ex:dg rows i bt=rows.set i (rw1.1,rw1.2 ^^^ bt):=qx hrw
  have hl3:upd (upd H1 t2 (.tup [V.int (rw1.1:Int),V.int (Builtin.bitXor (rw1.2:Int) (bt:Int))])) l (.lst (Rr.set i (V.ref t2))) l=some (.lst (Rr.set i (V.ref t2))):=ak
  have s3:az H (upd (upd H1 t2 (.tup [V.int (rw1.1:Int),V.int (Builtin.bitXor (rw1.2:Int) (bt:Int))])) l (.lst (Rr.set i (V.ref t2)))):=λ b o e=>by rw [af (aj e hl)];exact az.new ht2 b _ (s1 b _ e)
  have ht3:upd (upd H1 t2 (.tup [V.int (rw1.1:Int),V.int (Builtin.bitXor (rw1.2:Int) (bt:Int))])) l (.lst (Rr.set i (V.ref t2))) t2=some (.tup [V.int (rw1.1:Int),V.int ((rw1.2 ^^^ bt:Nat):Int)]):=by rw [af nlt.symm,ak,rY]
  generalize upd (upd H1 t2 (.tup [V.int (rw1.1:Int),V.int (Builtin.bitXor (rw1.2:Int) (bt:Int))])) l (.lst (Rr.set i (V.ref t2)))=H3 at hl3 s3 ht3
  have R3:bX H3 (Rr.set i (V.ref t2)) (dg rows i bt):=by rw [ex];exact zw (h3.mono λ t xs e=>s3 t _ e) ht3
  have h1:=s3 _ _ h1
  refine .inl ⟨_,rfl,p,dx,_,rfl,h1,fh (wh:=true) (by decide +kernel) (by decide +kernel) (by decide +kernel) (by decide +kernel),_,rfl,p,b,d,rows,c,l,_,dg rows i bt,rfl,hP.keep s3,hl3,R3,by rw [kD];exact hlen,λ p2 H4 hP2 hn s4=>?_⟩
  exact q1 i rfl hi p2 H4 hP2 (s3.free hn) (s3.trans s4)
theorem xJ {f:Addr} {fd:FuncData} (F:Fun K "laid" "Whole.laid" gq f fd) (T:Txt K mg t_W aE aG aD aI aB aH aA aK ah ao ay) :aX P w K mg base (CXx P w) 1 f fd ["self","table"] (uz ah ao):=by
 refine F.okX xx (λ vs H Q E h=>?_) (λ cdv A outer s H vs Q E hr h=>?_)
 ·obtain⟨p,tb,b,d,rows,c,rfl,⟨dx,r,R,h1,h2,h3⟩,hl,q⟩:=h;rfl
 obtain⟨p,tb,b,d,rows,c,rfl,⟨dx,r,R,h1,h2,h3⟩,hl,q⟩:=h
 refine⟨_,(aF (bh (rT (N:=["place","block"]) (k:=2) (cap:=[]) rfl rfl (uM (bq (pv 0) rfl)) (λ _ _ _ _=>(Az (K:=K) (n:=2) rfl rfl (cQ (bH (i:=0) (show(["place","block"]:List Str).Nodup from by decide +kernel) rfl (Or.inl rfl) (.inr rfl)) (cQ (bH (i:=1) (show(["place","block"]:List Str).Nodup from by decide +kernel) rfl (Or.inl rfl) (.inr rfl)) lA)))) (λ _ _ _ _=>sq) (λ _ _ _ _=>(pv 1))))),?_⟩
 refine⟨_,rfl,p,ah,dx,_,_,rfl,h1,T.bT,T.cN,fY,r,rfl,⟨_,SqT.of h2⟩,λ D hD=>?_⟩
 refine zx D (K:=K) (a:=r) (xs:=R) (λ i σ H5 ys=>∃ v v':Option V,σ = [v,v'] /\ az H H5 /\ H5 D=some (.lst ys) /\ ys =((rows.take i).map (λ r=>(r.2:Int))).map V.int) ⟨none,none,rfl,az.new hD,ak,rfl⟩ (λ i σ H5 ys _ z0=>by obtain⟨_,_,_,s5,_⟩:=z0;exact SqT.of (s5 _ _ h2)) ?_ ?_
 ·rintro i x σ H5 ys hi ⟨v,v',rfl,s5,hy,rfl⟩
  obtain⟨t,rr,rfl,hr2,ht⟩:=h3.get i x hi
  have hil:i < rows.length:=(QE.mp hr2).1
  refine⟨t,_,rfl,SqT.of (s5 t _ ht),rfl,_,_,rfl,_,_,rfl,rfl,_,rfl,hy,(by rw [QG,QG,Ri];exact aY (by omega)),_,_,rfl,λ b o e=>?_,ak,by rw [Rn,hr2];simp⟩
  rw [af (aj e hD)];exact s5 b _ e
 ·rintro σ H5 ys ⟨v,v',rfl,s5,hy,rfl⟩
  rw [h3.len,RA] at hy
  exact q D H5 hy hD s5
theorem xZ {f:Addr} {fd:FuncData} (F:Fun K "laid" "Gain.laid" gQ f fd) (T:Txt K mg t_W aE aG aD aI aB aH aA aK ah ao ay) :aX P w K mg base (CXx P w) 1 f fd ["self","table"] (tV ah ao):=by
 refine F.okX jB (λ vs H Q E h=>?_) (λ cdv A outer s H vs Q E hr h=>?_)
 ·obtain⟨p,tb,b,d,rows,c,tt,rfl,⟨dx,r,R,h1,h2,h3⟩,htb,hin,q⟩:=h;rfl
 obtain⟨p,tb,b,d,rows,c,tt,rfl,⟨dx,r,R,h1,h2,h3⟩,htb,hin,q⟩:=h
 refine⟨_,(au (aL (i:=2) jB.nd rfl (Or.inl rfl) (kH lK (by rfl) T.mj Tc (aa (pv 1) aC)))
   (au (eX Ra rfl (uM (bq (pv 0) rfl)) (qA rfl (cQ (bH (i:=3) jB.nd rfl (Or.inl rfl)) (cQ (bH (i:=4) jB.nd rfl (Or.inl rfl)) lA)))
   (aF (lT (pv 4) (oz (pv 2) (pv 3) set_list))))
   (aF (bh (pv 2))))),?_⟩
 refine⟨_,rfl,tb,_,rfl,.inl (SqL.of htb),λ m hm=>?_⟩
 have s1:az H (upd H m (.lst (tt.map V.int))):=az.new hm
 refine⟨_,rfl,p,ao,dx,_,_,rfl,s1 p _ h1,T.bQ,T.cK,fY,r,rfl,⟨_,SqT.of (s1 _ _ h2)⟩,Am (K:=K) (a:=r) (xs:=R) (λ i σ H2=>∃ v3 v4:Option V,σ = [some (.ref p),some (.ref tb),some (.ref m),v3,v4] /\ az H H2 /\ H2 m=some (.lst ((kM tt (rows.take i)).map V.int))) ⟨none,none,rfl,s1,ak⟩ (λ i σ H2 _ z0=>by obtain⟨_,_,_,s2,_⟩:=z0;exact SqT.of (s2 _ _ h2)) ?_ ?_⟩
 ·rintro i v σ H2 hi ⟨v3,v4,rfl,s2,hm2⟩
  obtain⟨t,rr,rfl,hr2,ht⟩:=h3.get i v hi
  have hrl:=hin rr (QJ hr2)
  refine⟨t,_,rfl,SqT.of (s2 t _ ht),rfl,_,_,rfl,_,_,rfl,rfl,?_⟩
  refine⟨_,rfl,_,rfl,_,rfl,m,_,_,rr.1,rfl,rfl,hm2,?_,?_⟩
  ·unfold ixN;rw [QG,lJ,if_pos (by omega),if_pos (by omega)];simp
  ·refine⟨_,_,rfl,λ b o e=>?_,?_⟩
   ·rw [af (aj e hm)];exact s2 b _ e
   ·rw [ak,show rows.take (i + 1)=rows.take i ++ [rr] by rw [Rn,hr2];rfl,CU,List.map_set]
 ·rintro σ H2 ⟨v3,v4,rfl,s2,hm2⟩
  rw [h3.len,RA] at hm2
  exact⟨_,rfl,q m H2 hm2 hm s2⟩
theorem sH {f:Addr} {fd:FuncData} (F:Fun K "__init__" "Shelf.__init__" dw f fd) (T:Txt K mg t_W aE aG aD aI aB aH aA aK ah ao ay) :aX P w K mg base (CXx P w) 1 f fd ["self"] (um ay):=by
 refine F.okX sM (λ vs H Q E h=>?_) (λ cdv A outer s H vs Q E hr h=>?_)
 ·obtain⟨p,dx,rfl,hp,q⟩:=h;rfl
 obtain⟨p,dx,rfl,hp,q⟩:=h
 refine⟨_,(au (jy (pv 0) iC rfl)
   (aF (jy (pv 0) aq rfl))),?_⟩
 refine λ d hd=>?_
 have npd:p ≠ d:=aj hp hd
 refine⟨_,rfl,p,ay,dx,_,rfl,az.new hd p _ hp,T.cL,T.cu,(by show 0 < 1000;decide),?_⟩
 refine⟨_,rfl,p,ay,dx,_,rfl,ak,T.cL,T.cB,(by show 1 < 1000;decide),?_⟩
 rw [nZ,show cz "pieces" (V.ref d) [] =([("pieces",V.ref d)]:List (Str × V)) from rfl,z4]
 refine q d _ ⟨dx,ak,by rw [af npd.symm,ak]⟩ hd ?_
 exact dF (aV.of_same (az.new hd)) (.inl (by simp))
theorem x6 {f:Addr} {fd:FuncData} (F:Fun K "lay" "Shelf.lay" gR f fd) (T:Txt K mg t_W aE aG aD aI aB aH aA aK ah ao ay) :aX P w K mg base (CXx P w) 1 f fd ["self","number","piece"] (yy ay):=by
 refine F.okX ya (λ vs H Q E h=>?_) (λ cdv A outer s H vs Q E hr h=>?_)
 ·obtain⟨p,d,fl,kvs,n,a,rfl,⟨dx,h1,h2⟩,hlen,q⟩:=h;rfl
 obtain⟨p,d,fl,kvs,n,a,rfl,⟨dx,h1,h2⟩,hlen,q⟩:=h
 refine⟨_,(au (nY (bS hr) (bq (pv 0) rfl) (pv 1) (pv 2) rfl)
   (aF (jy (pv 0) (bL (Cj rfl) (by rfl) T.GJ PyProof.Rows.boot_max (aa (bq (pv 0) rfl) (aa (aO bN (pv 1) aq) aC))) rfl))),?_⟩
 have npd:p ≠ d:=aR h1 h2 (by intro z;cases z)
 refine⟨_,rfl,_,rfl,p,ay,dx,_,_,rfl,h1,T.cL,T.cu,mT,_,rfl,d,_,rfl,oG.k (k:=Sum.inl n) h2 (aY (by omega)),?_⟩
 have h1':upd H d (.dK (putK kvs (Sum.inl n) (V.ref a))) p=some (.ins ay dx (sfs d fl)):=by rw [af npd];exact h1
 refine⟨_,rfl,p,ay,dx,_,_,rfl,h1',T.cL,T.cB,uZ,?_⟩
 repeat (first | refine⟨_,rfl,?_⟩ | refine⟨_,_,rfl,rfl,?_⟩ | refine⟨(by first | decide |(dsimp only;decide) |(show 2 ≤ sizeLine;decide) |(show 1 ≤ sizeLine;decide) |(show 3 ≤ sizeLine;decide) |(show 4 ≤ sizeLine;decide)),?_⟩ | refine⟨.inl ⟨by first | decide |(dsimp only;decide),by first | decide |(dsimp only;decide)⟩,?_⟩ | refine⟨.inr ⟨by first | decide |(dsimp only;decide),by first | decide |(dsimp only;decide)⟩,?_⟩ | refine⟨⟨by first | decide |(dsimp only;decide),by first | decide |(dsimp only;decide)⟩,?_⟩ | refine⟨rfl,?_⟩ | refine⟨_,_,rfl,?_⟩)
 refine⟨p,ay,dx,_,rfl,h1',T.cL,T.cB,(by show 2 < 1000;decide),?_⟩
 rw [yH]
 refine q _ ⟨dx,ak,by rw [af npd.symm,ak]⟩ ?_
 exact dF (dF aV.refl (.inl (by simp))) (.inl (by simp))
theorem yE {f:Addr} {fd:FuncData} (F:Fun K "put" "Shelf.put" gY f fd) (T:Txt K mg t_W aE aG aD aI aB aH aA aK ah ao ay) (nh:bf P w K mg base ay "lay" 1 ["self","number","piece"] (yy ay)):aX P w K mg base (CXx P w) 2 f fd ["self","piece"] (zo ay):=by
 refine F.okX qe (λ vs H Q E h=>?_) (λ cdv A outer s H vs Q E hr h=>?_)
 ·obtain⟨p,d,fl,kvs,a,rfl,⟨dx,h1,h2⟩,hlen,q⟩:=h;rfl
 obtain⟨p,d,fl,kvs,a,rfl,⟨dx,h1,h2⟩,hlen,q⟩:=h
 refine⟨_,(au (aL (i:=2) qe.nd rfl (Or.inl rfl) (bq (pv 0) rfl))
   (au (bP (bV (pv 0) T.cL nh aM (hr.mono (by decide)) (aa (pv 2) (aa (pv 1) aC))))
   (aF (bh (pv 2))))),?_⟩
 refine⟨_,rfl,p,ay,dx,_,_,rfl,h1,T.cL,T.cB,uZ,?_⟩
 refine⟨_,rfl,p,dx,_,rfl,h1,rD (by decide +kernel) (by decide +kernel),_,rfl,_,rfl,p,d,fl,kvs,fl,a,rfl,⟨dx,h1,h2⟩,hlen,λ H1 hS k1=>?_⟩
 rw [if_pos (by omega)] at hS
 exact⟨_,rfl,q H1 hS k1⟩
theorem vL {f:Addr} {fd:FuncData} (F:Fun K "piece" "Shelf.piece" fC f fd) (T:Txt K mg t_W aE aG aD aI aB aH aA aK ah ao ay) (qz:pT P w K mg base "NoPiece" aD 1 ["self","number"] (iG aD "number")):aX P w K mg base (CXx P w) 3 f fd ["self","number"] (pQ ay aD):=by
 refine F.okX vG (λ vs H Q E h=>?_) (λ cdv A outer s H vs Q E hr h=>?_)
 ·obtain⟨p,d,fl,kvs,n,rfl,⟨dx,h1,h2⟩,q1,q2⟩:=h;rfl
 obtain⟨p,d,fl,kvs,n,rfl,⟨dx,h1,h2⟩,q1,q2⟩:=h
 refine⟨_,(au (ck (mq (ko (bS hr) (pv 1) (bq (pv 0) rfl))) (aF (jU rfl lC (qW qz (hr.mono (by decide)) rfl (aa (pv 1) aC)))) bK)
   (aF (bh (cX (bS hr) (bq (pv 0) rfl) (pv 1) (λ _ _=>rfl))))),?_⟩
 refine⟨_,rfl,_,rfl,p,ay,dx,_,_,rfl,h1,T.cL,T.cu,mT,d,_,rfl,dJ.k (k:=Sum.inl n) h2,_,rfl,?_⟩
 cases hv:bg kvs (Sum.inl n) with
 | none =>
  refine dX ?_
  exact⟨_,rfl,kq (E:=E) T.rq λ e H' he hs=>q2 hv e H' he hs⟩
 | some v =>
  refine dM ?_
  exact⟨_,rfl,p,ay,dx,_,_,rfl,h1,T.cL,T.cu,mT,_,rfl,d,v,rfl,hv ▸ dJ.k (k:=Sum.inl n) h2,q1 v hv⟩
theorem ua {f:Addr} {fd:FuncData} (F:Fun K "numbers" "Shelf.numbers" dQ f fd) (T:Txt K mg t_W aE aG aD aI aB aH aA aK ah ao ay) :aX P w K mg base (CXx P w) 1 f fd ["self"] (nO ay):=by
 refine F.okX tG (λ vs H Q E h=>?_) (λ cdv A outer s H vs Q E hr h=>?_)
 ·obtain⟨p,d,fl,kvs,ns,rfl,⟨dx,h1,h2⟩,hns,h64,q⟩:=h;rfl
 obtain⟨p,d,fl,kvs,ns,rfl,⟨dx,h1,h2⟩,hns,h64,q⟩:=h
 refine⟨_,(aF (bh (bL (xE rfl) (by rfl) T.zp UU (aa (bq (pv 0) rfl) aC)))),?_⟩
 exact⟨_,rfl,p,ay,dx,_,_,rfl,h1,T.cL,T.cu,mT,d,kvs,ns,rfl,h2,hns,h64,λ l ns' hl hp hs=>q l ns' hl hp hs⟩
theorem Br {f:Addr} {fd:FuncData} (F:Fun K "fetched" "fetched" jj f fd) (T:Txt K mg t_W aE aG aD aI aB aH aA aK ah ao ay) (rH:pT P w K mg base "NoWay" aI 1 ["self","at"] (iG aI "at")) (fF:bf P w K mg base ay "piece" 3 ["self","number"] (pQ ay aD)) (gp:bf P w K mg base ao "start" 1 ["self"] (mO ah ao)) (fE:bf P w K mg base ah "start" 1 ["self"] mV) (eK:bf P w K mg base ao "is_good" 3 ["self"] (jK ah ao)) (dU:bf P w K mg base ah "is_good" 3 ["self"] (jK ah ao)) (pG:pT P w K mg base "BadPiece" aB 1 ["self","day"] (iG aB "day")) (nF:bf P w K mg base ao "laid" 1 ["self","table"] (tV ah ao)) (mh:bf P w K mg base ah "laid" 1 ["self","table"] (uz ah ao)):aX P w K mg base (CXx P w) 6 f fd ["shelf","way"] (kY ay ah ao aD aI aB):=by
 refine F.okX fK (λ vs H Q E h=>?_) (λ cdv A outer s H vs Q E hr h=>?_)
 ·obtain⟨p,d,w,fl,kvs,M,way,wd,rfl,hS,hR,hok,hw,hwl,q1,q2,q3,q4⟩:=h;rfl
 obtain⟨p,d,w,fl,kvs,M,way,wd,rfl,hS,hR,hok,hw,hwl,q1,q2,q3,q4⟩:=h
 refine⟨_,(au (ck (bx jw (bL bF (by rfl) T.fM Ru (aa (pv 1) aC)) aq (bz _)) (aF (jU rfl lC (qW rH (hr.mono (by decide)) rfl (aa aq aC)))) bK)
   (au (aL (i:=2) fK.nd rfl (Or.inl rfl) (dN aC))
   (au (aL (i:=3) fK.nd rfl (Or.inl rfl) (iY gI aq))
   (au (eX Ra rfl (ET false rfl T.nc (aa (pv 1) aC)) (qA rfl (cQ (bH (i:=4) fK.nd rfl (Or.inl rfl)) (cQ (bH (i:=5) fK.nd rfl (Or.inl rfl)) lA)))
   (au (aL (i:=6) fK.nd rfl (Or.inl rfl) (bV (pv 0) T.cL fF jJ (hr.mono (by decide)) (aa (pv 5) aC)))
   (au (ck (bx A5 (kr (cA (pv 6) T.bT fE aM (hr.mono (by decide))) (cA (pv 6) T.bQ gp aM (hr.mono (by decide)))) (pv 3) (bz _)) (aF (jU rfl lC (qW rH (hr.mono (by decide)) rfl (aa (pv 4) aC)))) bK)
   (au (ck (yX (uW (kr (cA (pv 6) T.bT dU aM (hr.mono (by decide))) (cA (pv 6) T.bQ eK aM (hr.mono (by decide)))))) (aF (jU rfl lC (qW pG (hr.mono (by decide)) rfl (aa (bq (pv 6) rfl) aC)))) bK)
   (au (aL (i:=2) fK.nd rfl (Or.inl rfl) (kr (bV (pv 6) T.bT mh aM (hr.mono (by decide)) (aa (pv 2) aC)) (bV (pv 6) T.bQ nF aM (hr.mono (by decide)) (aa (pv 2) aC))))
   (aF (aL (i:=3) fK.nd rfl (Or.inl rfl) (bq (pv 6) rfl))))))))
   (aF (bh (pv 2))))))),?_⟩
 by_cases hne:way = []
 ·subst hne
  refine rC (λ Qb hq=>⟨_,rfl,w,_,rfl,.inl (SqL.of hw),rfl,_,rfl,hq⟩) ?_
  exact kq (E:=E) T.rX λ e H' he hs=>q3 0 rfl e H' he hs
 refine pN (λ Qb hq=>⟨_,rfl,w,_,rfl,.inl (SqL.of hw),rfl,_,rfl,?_⟩) ?_
 ·rw [QY (λ h=>hne (List.length_eq_zero_iff.mp (by have:=V.int.inj h;rw [QG] at this;omega)))];exact hq
 try unfold ly
 dsimp only
 have eR:iu M way=cV M 0 (-1) [] way:=by unfold iu;rw [if_neg hne]
 rw [eR] at q1 q2 q3 q4
 refine⟨Rm _,λ tb htb=>?_⟩
 have s1:az H (upd H tb (.lst [])):=az.new htb
 have htb1:upd H tb (.lst []) tb=some (.lst (([]:List Int).map V.int)):=ak
 generalize upd H tb (.lst [])=H1 at s1 htb1 ⊢
 refine aT [some (.ref p),some (.ref w),some (.ref tb),none,none,none,none] ?_
 dsimp only
 refine⟨_,rfl,?_⟩
 refine aT [some (.ref p),some (.ref w),some (.ref tb),some (.int (-1)),none,none,none] ?_
 dsimp only
 refine⟨_,rfl,w,rfl,⟨_,SqL.of (s1 _ _ hw)⟩,DF (K:=K) (tu:=false) (l:=w) (xs:=way.map V.int) (λ i σ H'=>∃(t:List Int) (day:Int) (tb:Addr) (v4 v5 v6:Option V),σ = [some (.ref p),some (.ref w),some (.ref tb),some (.int day),v4,v5,v6] /\ az H H' /\ H tb=none /\ H' tb=some (.lst (t.map V.int)) /\ cV M 0 (-1) [] way=cV M i day t (way.drop i) /\(day = -1 ∨ t.length=wd)) ⟨[],-1,tb,none,none,none,rfl,s1,htb,htb1,rfl,.inl rfl⟩ (λ i σ H' ⟨_,_,_,_,_,_,_,s',_⟩=>SqL.of (s' _ _ hw)) ?_ ?_⟩
 ·rintro i v σ H2 U hi ⟨t,day,tb,v4,v5,v6,rfl,s2,ntb,htb2,hg,hday⟩ hU
  rw [QK] at hi
  obtain⟨n,hn,rfl⟩:=QX.mp hi
  have hil:=(QE.mp hn).1
  have hdr:way.drop i=n :: way.drop (i + 1):=by rw [← List.getElem_cons_drop hil,(QE.mp hn).2]
  rw [hdr] at hg
  have s3:az H2 (upd H2 U (.tup [V.int (i:Int),V.int n])):=az.new hU
  have hU3:upd H2 U (.tup [V.int (i:Int),V.int n]) U=some (.tup [V.int (i:Int),V.int n]):=ak
  generalize upd H2 U (.tup [V.int (i:Int),V.int n])=H3 at s3 hU3 ⊢
  have s03:=s2.trans s3
  have htb3:=s3 _ _ htb2
  refine⟨U,_,rfl,SqT.of hU3,rfl,_,_,rfl,_,_,rfl,rfl,?_⟩
  have hS3:=hS.keep s03
  obtain⟨dx,h1,h2⟩:=id hS3
  dsimp only
  refine⟨_,rfl,p,dx,_,rfl,h1,rD (by decide +kernel) (by decide +kernel),_,rfl,p,d,fl,kvs,n,rfl,hS3,λ v hv=>?_,λ hv e H4 he s4=>?_⟩
  case refine_2 =>
   have eM:M n=none:=by
    cases eM:M n with
    | none=>rfl
    | some u=>obtain⟨v',hv',_⟩:=hR.ff n u eM;rw [hv'] at hv;cases hv
   refine q2 n (by rw [hg,cV,eM]) e H4 he (s03.trans s4)
  obtain⟨u,eM,a,rfl,hP0,hr100⟩:=hR.has hv
  have hOk:=hok n u eM
  rw [cV,eM] at hg
  have hP:=hP0.keep s03
  refine aT [some (.ref p),some (.ref w),some (.ref tb),some (.int day),some (.int (i:Int)),some (.int n),some (.ref a)] ?_
  dsimp only
  obtain⟨dxa,r,Rr,g1,g2,g3⟩:=id hP
  by_cases hst:u.st=day
  ·dsimp only at hg
   rw [if_pos hst] at hg
   refine vD false (λ H'=>H3=H') (λ Qb hq=>?_) (λ h=>by cases h) (λ _ H4 e4=>?_)
   ·cases hw:u.wh with
    | false =>
     rw [hw] at hP g1
     rw [rE hw] at hst
     refine .inr ⟨_,rfl,a,dxa,_,rfl,g1,fh (wh:=false) (by decide +kernel) (by decide +kernel) (by decide +kernel) (by decide +kernel),a,u.b,u.d,u.rows,u.c,rfl,hP,_,rfl,rfl,_,rfl,?_⟩
     rw [hst,Rq rfl];exact hq _ rfl
    | true =>
     rw [hw] at hP g1
     rw [xQ hw] at hst
     refine .inl ⟨_,rfl,a,dxa,_,rfl,g1,fh (wh:=true) (by decide +kernel) (by decide +kernel) (by decide +kernel) (by decide +kernel),a,rfl,_,rfl,rfl,_,rfl,?_⟩
     rw [hst,Rq rfl];exact hq _ rfl
   subst e4
   try unfold ly
   dsimp only
   refine vD (!u.good) (λ H'=>az H3 H') (λ Qb hq=>?_) (λ hb H4 s4=>?_) (λ hb H4 s4=>?_)
   ·cases hw:u.wh with
    | false =>
     rw [hw] at hP g1
     refine .inr ⟨_,rfl,a,dxa,_,rfl,g1,fh (wh:=false) (by decide +kernel) (by decide +kernel) (by decide +kernel) (by decide +kernel),a,false,u.b,u.d,u.rows,u.c,rfl,hP,hr100,λ H4 s4=>⟨_,rfl,?_⟩⟩
     rw [show decide (u.c =(d8 false u.b u.d u.rows:Nat))=u.good by unfold PcU.good;rw [hw]];exact hq _ s4
    | true =>
     rw [hw] at hP g1
     refine .inl ⟨_,rfl,a,dxa,_,rfl,g1,fh (wh:=true) (by decide +kernel) (by decide +kernel) (by decide +kernel) (by decide +kernel),a,true,u.b,u.d,u.rows,u.c,rfl,hP,hr100,λ H4 s4=>⟨_,rfl,?_⟩⟩
     rw [show decide (u.c =(d8 true u.b u.d u.rows:Nat))=u.good by unfold PcU.good;rw [hw]];exact hq _ s4
   ·have hgd:u.good=false:=by simpa using hb
    rw [if_neg (by rw [hgd];decide)] at hg
    have g14:=s4 _ _ g1
    have hcl:Cls K (cond u.wh ah ao) /\ bD K (cond u.wh ah ao) "day":=by cases u.wh <;> exact⟨by first | exact T.bQ | exact T.bT,by first | exact T.ef | exact T.dH⟩
    have hlk:List.lookup ("day":Str) (pfs u.wh u.b u.d r u.c (decide (u.c =(d8 u.wh u.b u.d u.rows:Nat))))=some (.int (u.d:Int)):=by cases u.wh <;> exact lU
    exact⟨_,rfl,a,_,dxa,_,_,rfl,g14,hcl.1,hcl.2,hlk,kq (E:=E) T.jE λ e H' he hs=>q4 u.d hg e H' he (s03.trans (s4.trans hs))⟩
   ·have hgd:u.good=true:=by simpa using hb
    rw [if_pos hgd] at hg
    try unfold ly
    dsimp only
    have hP4:=hP.keep s4
    have g14:=s4 _ _ g1
    have htb4:=s4 _ _ htb3
    have s04:=s03.trans s4
    have hnext:∀(l:Addr) H5,H5 l=some (.lst ((m9 u t).map V.int))->H4 l=none->az H4 H5->(∃(t:List Int) (day:Int) (tb:Addr) (v4 v5 v6:Option V),[some (V.ref p),some (V.ref w),some (V.ref l),some (V.int (u.d:Int)),some (V.int (i:Int)),some (V.int n),some (V.ref a)] = [some (.ref p),some (.ref w),some (.ref tb),some (.int day),v4,v5,v6] /\ az H H5 /\ H tb=none /\ H5 tb=some (.lst (t.map V.int)) /\ cV M 0 (-1) [] way=cV M (i + 1) day t (way.drop (i + 1)) /\(day = -1 ∨ t.length=wd)):=λ l H5 hl nl s5 =>
     ⟨_,_,l,_,_,_,rfl,s04.trans s5,s04.free nl,hl,hg,.inr (EH hOk (by rw [hst];exact hday))⟩
    cases hw:u.wh with
    | false =>
     rw [hw] at hP4 g14
     have hb2:=hst
     rw [rE hw] at hb2
     have htl:t.length=wd:=by rcases hday with h | h;(exfalso;omega);exact h
     refine .inr ⟨_,rfl,a,dxa,_,rfl,g14,fh (wh:=false) (by decide +kernel) (by decide +kernel) (by decide +kernel) (by decide +kernel),_,rfl,a,tb,u.b,u.d,u.rows,u.c,t,rfl,hP4,htb4,λ x hx=>by rw [htl];exact hOk.lt hw x hx,λ l H5 hl nl s5=>?_⟩
     have:=hnext l H5 (by rw [hl];unfold m9;rw [hw];rfl) nl s5
     refine aT [some (.ref p),some (.ref w),some (.ref l),some (.int day),some (.int (i:Int)),some (.int n),some (.ref a)] ?_
     dsimp only
     refine⟨_,rfl,a,ao,dxa,_,_,rfl,s5 _ _ g14,T.bQ,T.ef,lU,?_⟩
     exact this
    | true =>
     rw [hw] at hP4 g14
     refine .inl ⟨_,rfl,a,dxa,_,rfl,g14,fh (wh:=true) (by decide +kernel) (by decide +kernel) (by decide +kernel) (by decide +kernel),_,rfl,a,tb,u.b,u.d,u.rows,u.c,rfl,hP4,hr100,λ l H5 hl nl s5=>?_⟩
     have:=hnext l H5 (by rw [hl];unfold m9;rw [hw];rfl) nl s5
     refine aT [some (.ref p),some (.ref w),some (.ref l),some (.int day),some (.int (i:Int)),some (.int n),some (.ref a)] ?_
     dsimp only
     refine⟨_,rfl,a,ah,dxa,_,_,rfl,s5 _ _ g14,T.bT,T.dH,lU,?_⟩
     exact this
  ·dsimp only at hg
   rw [if_neg hst] at hg
   refine vD true (λ H'=>H3=H') (λ Qb hq=>?_) (λ _ H4 e4=>?_) (λ h=>by cases h)
   ·cases hw:u.wh with
    | false =>
     rw [hw] at hP g1
     rw [rE hw] at hst
     refine .inr ⟨_,rfl,a,dxa,_,rfl,g1,fh (wh:=false) (by decide +kernel) (by decide +kernel) (by decide +kernel) (by decide +kernel),a,u.b,u.d,u.rows,u.c,rfl,hP,_,rfl,rfl,_,rfl,?_⟩
     rw [QY (λ h=>hst (V.int.inj h))];exact hq _ rfl
    | true =>
     rw [hw] at hP g1
     rw [xQ hw] at hst
     refine .inl ⟨_,rfl,a,dxa,_,rfl,g1,fh (wh:=true) (by decide +kernel) (by decide +kernel) (by decide +kernel) (by decide +kernel),a,rfl,_,rfl,rfl,_,rfl,?_⟩
     rw [QY (λ h=>hst (V.int.inj h))];exact hq _ rfl
   subst e4
   exact⟨_,rfl,kq (E:=E) T.rX λ e H' he hs=>q3 i hg e H' he (s03.trans hs)⟩
 ·rintro σ H2 ⟨t,day,tb,v4,v5,v6,rfl,s2,ntb,htb2,hg,hday⟩
  rw [QG,List.drop_length] at hg
  exact⟨_,rfl,q1 t hg tb H2 htb2 ntb s2⟩
theorem yK {f:Addr} (T:Txt K mg t_W aE aG aD aI aB aH aA aK ah ao ay) (nQ:bf P w K mg base ao "size" 1 ["self"] (n5 ah ao)) (mH:bf P w K mg base ah "size" 1 ["self"] (n5 ah ao)):se P w K mg base (CXx P w) (3 + 1) f (wk ah ao f):=by
 refine Eo (name:="cost") (qual:="rate.<locals>.cost") (params:=aN dh) (body:=aJ dh) (scope:=av dh) EI (λ cl doc pm cdv ct s u=>.of_eq rfl) λ vs H Q E h=>?_
 obtain⟨p,wh,b,d,rows,c,seek,each,rfl,hb,hM,hP,q⟩:=h
 obtain⟨cl,doc,pm,c',ctv,hf,hcl,hnc,hC,hc'⟩:=hM
 refine⟨_,cl,doc,pm,c',ctv,_,rfl,hf,hcl,hnc,hC,hc',λ A outer s hr=>⟨_,(aF (bh (aO bN (pv 1) (aO iB (pv 2) (kr (cA (pv 0) T.bT mH aM (hr.mono (by decide))) (cA (pv 0) T.bQ nQ aM (hr.mono (by decide)))))))),?_⟩⟩
 have hPc:=PAt.cut hP hC.ext
 obtain⟨dx,r,R,h1,h2,h3⟩:=id hPc
 have fin:(Q (.int (seek + each * (rows.length:Int))) (glue (cellsOf cl) H (jV (cellsOf cl) H))):=by rw [Dw];exact q
 cases wh
 ·exact⟨_,rfl,_,rfl,.inr ⟨_,rfl,p,dx,_,rfl,h1,fh (wh:=false) (by decide +kernel) (by decide +kernel) (by decide +kernel) (by decide +kernel),p,_,_,_,_,_,rfl,hPc,_,_,rfl,rfl,.inr ⟨by omega,by omega⟩,_,_,rfl,rfl,fin⟩⟩
 ·exact⟨_,rfl,_,rfl,.inl ⟨_,rfl,p,dx,_,rfl,h1,fh (wh:=true) (by decide +kernel) (by decide +kernel) (by decide +kernel) (by decide +kernel),p,_,_,_,_,_,rfl,hPc,_,_,rfl,rfl,.inr ⟨by omega,by omega⟩,_,_,rfl,rfl,fin⟩⟩
theorem A7 {f:Addr} {fd:FuncData} (F:Fun K "legs_of" "legs_of" jg f fd) (T:Txt K mg t_W aE aG aD aI aB aH aA aK ah ao ay) (jn:bf P w K mg base ay "numbers" 1 ["self"] (nO ay)) (fF:bf P w K mg base ay "piece" 3 ["self","number"] (pQ ay aD)) (nk:∀ f,se P w K mg base (CXx P w) 4 f (A8 ah ao f)) (eK:bf P w K mg base ao "is_good" 3 ["self"] (jK ah ao)) (dU:bf P w K mg base ah "is_good" 3 ["self"] (jK ah ao)) (gp:bf P w K mg base ao "start" 1 ["self"] (mO ah ao)) (fE:bf P w K mg base ah "start" 1 ["self"] mV):aX P w K mg base (CXx P w) 6 f fd ["shelf","cost"] (qf ay ah ao):=by
 refine F.okX kZ (λ vs H Q E h=>?_) (λ cdv A outer s H vs Q E hr h=>?_)
 ·obtain⟨p,d,g,fl,kvs,M,pr,rfl,hS,hR,hfw,hC,hok,q⟩:=h;rfl
 obtain⟨p,d,g,fl,kvs,M,pr,rfl,hS,hR,hfw,hC,hok,q⟩:=h
 refine⟨_,(au (aL (i:=2) kZ.nd rfl (Or.inl rfl) (dN aC))
   (au (eX Ra rfl (fT (cA (pv 0) T.cL jn aM (hr.mono (by decide)))) (bH (i:=3) kZ.nd rfl (Or.inl rfl))
   (au (aL (i:=4) kZ.nd rfl (Or.inl rfl) (bV (pv 0) T.cL fF jJ (hr.mono (by decide)) (aa (pv 3) aC)))
   (aF (bP (m7 RH RO RP gv (pv 2) (aa (dZ (aa (pv 3) (aa (kr (cA (pv 4) T.bT fE aM (hr.mono (by decide))) (cA (pv 4) T.bQ gp aM (hr.mono (by decide)))) (aa (bq (pv 4) rfl) (aa (tZ (uW (kr (cA (pv 4) T.bT dU aM (hr.mono (by decide))) (cA (pv 4) T.bQ eK aM (hr.mono (by decide))))) aq aq) (aa (Ea (i:=1) nk (hr.mono (by decide)) rfl (by first | exact Or.inl rfl | exact Or.inr (Or.inl rfl) | exact Or.inr (Or.inr rfl)) (aa (pv 4) aC)) aC)))))) aC))))))
   (aF (bh (pv 2))))),?_⟩
 refine bY (λ σ H'=>∃ l:Addr,σ = [some (.ref p),some (.ref g),some (.ref l),none,none] /\ az H H' /\ H l=none /\ H' l=some (.lst [])) (λ N hN=>?_) ?_
 ·exact⟨Rm _,λ l hl=>hN _ _ ⟨l,rfl,az.new hl,hl,ak⟩⟩
 rintro σ H1 ⟨l,rfl,s1,nl,hl1⟩
 have hS1:=hS.keep s1
 obtain⟨dx,g1,g2⟩:=id hS1
 obtain⟨ks,hks,hkl⟩:=hfw
 refine bY (λ σ H'=>∃(v3 v4:Option V) (LV:List V) (ns:List Int),σ = [some (.ref p),some (.ref g),some (.ref l),v3,v4] /\ az H H' /\ H' l=some (.lst LV) /\ iU M ns /\ cM H' LV M ns pr) (λ N hN=>?_) ?_
 ·refine⟨_,rfl,p,dx,_,rfl,g1,rD (by decide +kernel) (by decide +kernel),p,d,fl,kvs,ks,rfl,hS1,hks,hkl,λ nl' ns' hnl' hp hs=>?_⟩
  have s2:az H1 (upd H1 nl' (.lst (ns'.map V.int))):=az.new hnl'
  have hnl2:upd H1 nl' (.lst (ns'.map V.int)) nl'=some (.lst (ns'.map V.int)):=ak
  have nnl:l ≠ nl':=aj hl1 hnl'
  have hl2:upd H1 nl' (.lst (ns'.map V.int)) l=some (.lst []):=by rw [af nnl];exact hl1
  generalize upd H1 nl' (.lst (ns'.map V.int))=H2 at s2 hnl2 hl2 ⊢
  have hri:=BN hR hks hp hs
  have hmem:∀ n,n ∈ ns' ↔ (M n).isSome=true:=λ n=>by rw [hp.mem_iff];exact hR.keys hks n
  have hl':ns'.length ≤ 900:=by rw [hp.length_eq];omega
  refine⟨nl',rfl,⟨_,SqL.of hnl2⟩,gF (K:=K) (a:=nl') (xs:=ns'.map V.int) (λ i σ H'=>∃(v3 v4:Option V) (LV:List V),σ = [some (.ref p),some (.ref g),some (.ref l),v3,v4] /\ az H H' /\ H' nl'=some (.lst (ns'.map V.int)) /\ H' l=some (.lst LV) /\ cM H' LV M (ns'.take i) pr) ⟨none,none,[],rfl,s1.trans s2,hnl2,hl2,⟨rfl,λ i v n e=>by simp at e⟩⟩ (λ i σ H' _ z0=>by obtain⟨_,_,_,_,_,e,_⟩:=z0;exact SqL.of e) ?_ ?_⟩
  ·rintro i v σ H3 hi ⟨v3,v4,LV,rfl,s3,hnl3,hl3,hLg⟩
   rw [QK] at hi
   obtain⟨n,hn,rfl⟩:=QX.mp hi
   have hil:=(QE.mp hn).1
   obtain⟨u,hu⟩:=R4.mp ((hmem n).mp (QJ hn))
   have hS3:=hS.keep s3
   have hR3:=hR.mono λ v u z=>eW.keep z s3
   obtain⟨v',hv',a,rfl,hP3,hr100⟩:=hR3.ff n u hu
   refine aT [some (.ref p),some (.ref g),some (.ref l),some (.int n),v4] ?_
   dsimp only
   obtain⟨dx3,h13,h23⟩:=id hS3
   refine bY (λ σ H'=>σ = [some (.ref p),some (.ref g),some (.ref l),some (.int n),some (.ref a)] /\ H3=H') (λ N2 hN2=>?_) ?_
   ·refine⟨_,rfl,p,dx3,_,rfl,h13,rD (by decide +kernel) (by decide +kernel),_,rfl,p,d,fl,kvs,n,rfl,hS3,λ v hv=>?_,λ hv=>?_⟩
    ·rw [hv'] at hv;cases hv
     exact hN2 _ _ ⟨rfl,rfl⟩
    ·rw [hv'] at hv;cases hv
   rintro σ _ ⟨rfl,rfl⟩
   obtain⟨dxa,r,Rr,g1a,g2a,g3a⟩:=id hP3
   have hC3:=cy.same hC s3
   obtain⟨fd,hfd⟩:=cy.fn hC3
   have tail:∀(H4:Hp),az H3 H4->∀ q1,H4 q1=none->∃ v3 v4 LV',[some (V.ref p),some (V.ref g),some (V.ref l),some (V.int n),some (V.ref a)] = [some (.ref p),some (.ref g),some (.ref l),v3,v4] /\ az H (upd (upd H4 q1 (.tup ((jD n u pr).map V.int))) l (.lst (LV ++ [V.ref q1]))) /\ upd (upd H4 q1 (.tup ((jD n u pr).map V.int))) l (.lst (LV ++ [V.ref q1])) nl'=some (.lst (ns'.map V.int)) /\ upd (upd H4 q1 (.tup ((jD n u pr).map V.int))) l (.lst (LV ++ [V.ref q1])) l=some (.lst LV') /\ cM (upd (upd H4 q1 (.tup ((jD n u pr).map V.int))) l (.lst (LV ++ [V.ref q1]))) LV' M (ns'.take (i + 1)) pr:=λ H4 s4 q1 hq1=>by
    have hl4:=s4 _ _ hl3
    have nlq:l ≠ q1:=aj hl4 hq1
    refine⟨_,_,LV ++ [V.ref q1],rfl,λ b o e=>?_,?_,ak,?_⟩
    ·rw [af (aj e nl),af (aj (s4 _ _ (s3 b o e)) hq1)];exact s4 _ _ (s3 b o e)
    ·rw [af nnl.symm,af (aj (s4 _ _ hnl3) hq1)];exact s4 _ _ hnl3
    ·rw [show ns'.take (i + 1)=ns'.take i ++ [n] by rw [Rn,hn];rfl]
     refine(cM.mono hLg λ t xs e=>?_).snoc hu ?_
     ·rw [af (aR e hl3 (by intro z;cases z)),af (aj (s4 _ _ e) hq1)];exact s4 _ _ e
     ·rw [af nlq.symm];exact ak
   refine⟨_,rfl,.inl ⟨rfl,_,SqL.of hl3⟩,_,rfl,?_⟩
   cases hw:u.wh with
   | false =>
    have hPu:=hP3
    rw [hw] at hP3 g1a
    refine .inr ⟨_,rfl,a,dxa,_,rfl,g1a,fh (wh:=false) (by decide +kernel) (by decide +kernel) (by decide +kernel) (by decide +kernel),a,u.b,u.d,u.rows,u.c,rfl,hP3,_,rfl,a,ao,dxa,_,_,rfl,g1a,T.bQ,T.ef,lU,.inr ⟨_,rfl,a,dxa,_,rfl,g1a,fh (wh:=false) (by decide +kernel) (by decide +kernel) (by decide +kernel) (by decide +kernel),a,false,u.b,u.d,u.rows,u.c,rfl,hP3,hr100,λ H4 s4=>⟨_,rfl,?_⟩⟩⟩
    have eg:decide (u.c =(d8 false u.b u.d u.rows:Nat))=u.good:=by unfold PcU.good;rw [hw]
    rw [eg]
    cases hgd:u.good
    ·refine dM ⟨g,fd,rfl,s4 _ _ hfd,_,rfl,cy.ask (cy.same hC3 s4) (hPu.keep s4) hr100 ⟨(by show 5 ≤ sizeLine;decide),λ q1 hq1=>⟨l,LV,_,rfl,rfl,by rw [af (aj (s4 _ _ hl3) hq1)];exact s4 _ _ hl3,by rw [cM.len hLg,Ri];exact aY (by omega),?_⟩⟩⟩
     have e:(jD n u pr).map V.int = [V.int n,V.int (u.b:Int),V.int (u.d:Int),V.int 1,V.int (pr u)]:=by unfold jD cJ;rw [rE hw,hgd];rfl
     have:=tail H4 s4 q1 hq1
     rw [e] at this
     exact this
    ·refine dX ⟨g,fd,rfl,s4 _ _ hfd,_,rfl,cy.ask (cy.same hC3 s4) (hPu.keep s4) hr100 ⟨(by show 5 ≤ sizeLine;decide),λ q1 hq1=>⟨l,LV,_,rfl,rfl,by rw [af (aj (s4 _ _ hl3) hq1)];exact s4 _ _ hl3,by rw [cM.len hLg,Ri];exact aY (by omega),?_⟩⟩⟩
     have e:(jD n u pr).map V.int = [V.int n,V.int (u.b:Int),V.int (u.d:Int),V.int 0,V.int (pr u)]:=by unfold jD cJ;rw [rE hw,hgd];rfl
     have:=tail H4 s4 q1 hq1
     rw [e] at this
     exact this
   | true =>
    have hPu:=hP3
    rw [hw] at hP3 g1a
    refine .inl ⟨_,rfl,a,dxa,_,rfl,g1a,fh (wh:=true) (by decide +kernel) (by decide +kernel) (by decide +kernel) (by decide +kernel),a,rfl,_,rfl,a,ah,dxa,_,_,rfl,g1a,T.bT,T.dH,lU,.inl ⟨_,rfl,a,dxa,_,rfl,g1a,fh (wh:=true) (by decide +kernel) (by decide +kernel) (by decide +kernel) (by decide +kernel),a,true,u.b,u.d,u.rows,u.c,rfl,hP3,hr100,λ H4 s4=>⟨_,rfl,?_⟩⟩⟩
    have eg:decide (u.c =(d8 true u.b u.d u.rows:Nat))=u.good:=by unfold PcU.good;rw [hw]
    rw [eg]
    cases hgd:u.good
    ·refine dM ⟨g,fd,rfl,s4 _ _ hfd,_,rfl,cy.ask (cy.same hC3 s4) (hPu.keep s4) hr100 ⟨(by show 5 ≤ sizeLine;decide),λ q1 hq1=>⟨l,LV,_,rfl,rfl,by rw [af (aj (s4 _ _ hl3) hq1)];exact s4 _ _ hl3,by rw [cM.len hLg,Ri];exact aY (by omega),?_⟩⟩⟩
     have e:(jD n u pr).map V.int = [V.int n,V.int (-1),V.int (u.d:Int),V.int 1,V.int (pr u)]:=by unfold jD cJ;rw [xQ hw,hgd];rfl
     have:=tail H4 s4 q1 hq1
     rw [e] at this
     exact this
    ·refine dX ⟨g,fd,rfl,s4 _ _ hfd,_,rfl,cy.ask (cy.same hC3 s4) (hPu.keep s4) hr100 ⟨(by show 5 ≤ sizeLine;decide),λ q1 hq1=>⟨l,LV,_,rfl,rfl,by rw [af (aj (s4 _ _ hl3) hq1)];exact s4 _ _ hl3,by rw [cM.len hLg,Ri];exact aY (by omega),?_⟩⟩⟩
     have e:(jD n u pr).map V.int = [V.int n,V.int (-1),V.int (u.d:Int),V.int 0,V.int (pr u)]:=by unfold jD cJ;rw [xQ hw,hgd];rfl
     have:=tail H4 s4 q1 hq1
     rw [e] at this
     exact this
  ·rintro σ H3 ⟨v3,v4,LV,rfl,s3,hnl3,hl3,hLg⟩
   rw [QG,RA] at hLg
   exact hN _ _ ⟨v3,v4,LV,ns',rfl,s3,hl3,⟨hri,hmem⟩,hLg⟩
 rintro σ H2 ⟨v3,v4,LV,ns,rfl,s2,hl2,hso,hLg⟩
 exact⟨_,rfl,q l LV ns H2 hl2 nl hso hLg s2⟩
theorem vc {f:Addr} {fd:FuncData} (F:Fun K "_law_cell_at" "_law_cell_at" eG f fd) (T:Txt K mg t_W aE aG aD aI aB aH aA aK ah ao ay) :aX P w K mg base (CXx P w) 1 f fd ["_law_script","_law_k"] (vU K):=by
 refine F.okX uT (λ vs H Q E h=>?_) (λ cdv A outer s H vs Q E hr h=>?_)
 ·obtain⟨a,ns,k,rfl,hS,q⟩:=h;rfl
 obtain⟨a,ns,k,rfl,hS,q⟩:=h
 refine⟨_,(au (ck (bx uR (pv 1) (bL bF (by rfl) T.fM Ru (aa (pv 0) aC)) (bz _)) (aF (bh (aQ aW (pv 0) (pv 1) (λ _ _=>rfl)))) bK)
   (aF (bh aq))),?_⟩
 refine⟨_,rfl,_,rfl,a,_,rfl,.inl hS,_,_,rfl,rfl,_,rfl,?_⟩
 refine Nl (λ h=>?_) (λ h=>?_)
 ·have h:k < ns.length:=by simpa using h
  refine⟨_,rfl,_,rfl,a,_,_,V.int (ns.getD k 0),rfl,rfl,hS,bw ?_,?_⟩
  ·simp [h]
  ·have e:mU ns k=ns.getD k 0:=by unfold mU;rw [if_pos (by omega)];rfl
   rw [e] at q;exact q
 ·have h:¬ k < ns.length:=by simpa using h
  have e:mU ns k=0:=by unfold mU;rw [if_neg (by omega)]
  rw [e] at q;exact q
theorem xo {f:Addr} {fd:FuncData} (F:Fun K "_law_drawn" "_law_drawn" fZ f fd) (T:Txt K mg t_W aE aG aD aI aB aH aA aK ah ao ay) :aX P w K mg base (CXx P w) 1 f fd ["_law_cell","_law_many"] (mG):=by
 refine F.okX gH (λ vs H Q E h=>?_) (λ cdv A outer s H vs Q E hr h=>?_)
 ·obtain⟨c,m,rfl,hm,q⟩:=h;rfl
 obtain⟨c,m,rfl,hm,q⟩:=h
 refine⟨_,(au (aL (i:=2) gH.nd rfl (Or.inl rfl) (dN aC))
   (au (aL (i:=3) gH.nd rfl (Or.inl rfl) (aO bN (aO cg (pv 0) aq) aq))
   (au (eX Ra rfl (wM rfl T.vZ (aa (pv 1) aC)) (bH (i:=4) gH.nd rfl (Or.inl rfl))
   (au (aL (i:=3) gH.nd rfl (Or.inl rfl) (aO cg (aO bN (aO bN (aO iB (pv 3) (pv 3)) (aO iB aq (pv 3))) (pv 4)) aq))
   (aF (bP (m7 RH RO RP gv (pv 2) (aa (pv 3) aC))))))
   (aF (bh (pv 2)))))),?_⟩
 refine⟨Rm _,λ l hl=>?_⟩
 refine⟨_,rfl,_,_,rfl,rfl,(by first | decide |(dsimp only;decide)),_,_,rfl,rfl,?_⟩
 refine⟨_,rfl,_,rfl,by omega,by omega,qo (lo:=0) (n:=(m:Int).toNat) (λ i σ H2=>∃(num:Int) (v4:Option V) (xs:List Int),σ = [some (.int c),some (.int (m:Int)),some (.ref l),some (.int num),v4] /\ az H H2 /\ H2 l=some (.lst (xs.map V.int)) /\ xs.length=i /\(∀ x ∈ xs,0 ≤ x /\ x < 2147483647) /\ 0 ≤ num /\ num < 2147531918)
  ⟨c % 2147483647 + 48271,none,[],rfl,az.new hl,ak,rfl,by simp,by omega,by omega⟩ ?_ ?_⟩
 ·rintro i σ H2 hi ⟨num,v4,xs,rfl,s2,h2,hlx,hx,n0,n1⟩
  refine⟨_,rfl,_,rfl,_,_,rfl,rfl,.inl ⟨by omega,by omega⟩,_,rfl,_,_,rfl,rfl,.inl ⟨by decide,by decide⟩,_,_,rfl,rfl,_,rfl,_,_,rfl,rfl,_,_,rfl,rfl,(by first | decide |(dsimp only;decide)),?_⟩
  refine⟨_,rfl,.inl ⟨rfl,_,SqL.of h2⟩,_,rfl,l,_,_,rfl,rfl,h2,(by rw [QG];exact aY (by omega)),?_⟩
  have b0:=Ss (num * num + 48271 * num +(0 +(i:Int))) (show(2147483647:Int) ≠ 0 by decide)
  have b1:=Sk (num * num + 48271 * num +(0 +(i:Int))) (show(0:Int) < 2147483647 by decide)
  refine⟨_,_,xs ++ [(num * num + 48271 * num +(0 +(i:Int))) % 2147483647],rfl,λ b o e=>?_,by rw [ak];simp,by simp [hlx],?_,b0,by omega⟩
  ·rw [af (aj e hl)];exact s2 b _ e
  ·intro x hx'
   rcases Ro.mp hx' with h | h
   ·exact hx x h
   ·have:x =(num * num + 48271 * num +(0 +(i:Int))) % 2147483647:=by simpa using h
    rw [this];exact⟨b0,b1⟩
 ·rintro σ H2 ⟨num,v4,xs,rfl,s2,h2,hlx,hx,n0,n1⟩
  exact⟨_,rfl,q l xs H2 h2 hl (by omega) hx s2⟩
theorem zW {f:Addr} {fd:FuncData} (F:Fun K "_law_day" "_law_day" iM f fd) (T:Txt K mg t_W aE aG aD aI aB aH aA aK ah ao ay) (cP:DefX P w K mg base "_law_drawn" 1 ["_law_cell","_law_many"] mG):aX P w K mg base (CXx P w) 2 f fd ["_law_cell","_law_tables","_law_places"] (uH):=by
 refine F.okX g6 (λ vs H Q E h=>?_) (λ cdv A outer s H vs Q E hr h=>?_)
 ·obtain⟨c,tl,pl,wd,chss,LT,PL,rfl,DY,hw0,hw,hok,hcl,q⟩:=h;rfl
 obtain⟨c,tl,pl,wd,chss,LT,PL,rfl,DY,hw0,hw,hok,hcl,q⟩:=h
 refine⟨_,(au (aL (i:=3) g6.nd rfl (Or.inl rfl) (aZ cP aM (hr.mono (by decide)) rfl (aa (pv 0) (aa aq aC))))
   (au (aL (i:=4) g6.nd rfl (Or.inl rfl) (kH lK (by rfl) T.mj Tc (aa (aQ aW (pv 1) (iY gI aq) (λ _ _=>rfl)) aC)))
   (au (aL (i:=5) g6.nd rfl (Or.inl rfl) iC)
   (au (eX Ra rfl (wM rfl T.vZ (aa (aO cg (aQ aW (pv 3) aq (λ _ _=>rfl)) aq) aC)) (bH (i:=6) g6.nd rfl (Or.inl rfl))
   (au (aL (i:=7) g6.nd rfl (Or.inl rfl) (aO cg (aQ aW (pv 3) (aO bN aq (pv 6)) (λ _ _=>rfl)) (bL bF (by rfl) T.fM Ru (aa (pv 4) aC))))
   (au (nY (bS hr) (pv 5) (pv 7) r9 rfl)
   (aF (lT (aO cg (aO bN (aO iB (aQ aW (pv 3) (aO bN aq (pv 6)) (λ _ _=>rfl)) aq) (aQ aW (pv 3) (aO bN aq (pv 6)) (λ _ _=>rfl))) (aQ aW (dN (aa aq (aa (oB (n:=18446744073709551616)) aC))) (aO cg (aO fO (aQ aW (pv 3) aq (λ _ _=>rfl)) aq) aq) (λ _ _=>rfl))) (oz (pv 4) (pv 7) set_list))))))
   (au (bP (m7 RH RO RP gv (pv 1) (aa (pv 4) aC)))
   (aF (bP (m7 RH RO RP gv (pv 2) (aa (pv 5) aC))))))))),?_⟩
 refine⟨_,rfl,c,9,rfl,by decide,λ xl xs H1 hxl nxl hxn hx s1=>?_⟩
 refine aT [some (.int c),some (.ref tl),some (.ref pl),some (.ref xl),none,none,none,none] ?_
 have DY1:=DY.keep s1
 have hTl:=jO wd chss
 obtain⟨tab,htab⟩:∃ tab,(bu wd chss)[chss.length]? = some tab:=⟨_,QC (by omega)⟩
 have hlast:ek (bu wd chss)=tab:=rK (by rw [hTl];simpa using htab)
 have hTok:=tabs_ok hok tab (QJ htab)
 obtain⟨ta,eta,mta,hta⟩:=DY1.lt.at_ htab
 have pick:∀ k:Int,0 ≤ k->k < 9->∃ z,atI (xs.map V.int) k=some (V.int z) /\ z ∈ xs:=λ k h0 h1=>Ay h0 (by omega)
 obtain⟨x0,e0,m0⟩:=pick 0 (by omega) (by omega)
 have b0:=hx x0 m0
 refine⟨_,rfl,_,rfl,tl,_,_,V.ref ta,rfl,rfl,SqL.of DY1.tl_,FW ?_,ta,_,rfl,.inl (SqL.of hta),λ t ht=>?_⟩
 ·rw [QG,DY1.lt.len,hTl,QK];simp [eta]
 refine aT [some (.int c),some (.ref tl),some (.ref pl),some (.ref xl),some (.ref t),none,none,none] ?_
 have s2:az H1 (upd H1 t (.lst (tab.map V.int))):=az.new ht
 have ht2:upd H1 t (.lst (tab.map V.int)) t=some (.lst (tab.map V.int)):=ak
 generalize upd H1 t (.lst (tab.map V.int))=H2 at s2 ht2 ⊢
 intro b hb
 refine aT [some (.int c),some (.ref tl),some (.ref pl),some (.ref xl),some (.ref t),some (.ref b),none,none] ?_
 have s3:az H2 (upd H2 b (.dK [])):=az.new hb
 have hb3:upd H2 b (.dK []) b=some (.dK []):=ak
 have ntb:t ≠ b:=aj ht2 hb
 generalize upd H2 b (.dK [])=H3 at s3 hb3 ⊢
 have s13:=s2.trans s3
 have hb1:H1 b=none:=s2.free hb
 dsimp only
 refine bY (λ σ' H'=>∃(v6 v7:Option V) (cs:List (Int × Int)) (kv:List (Key × V)),σ' = [some (.int c),some (.ref tl),some (.ref pl),some (.ref xl),some (.ref t),some (.ref b),v6,v7] /\ az H1 H' /\ H' t=some (.lst ((nextT tab cs).map V.int)) /\ H' b=some (.dK kv) /\ bM kv (· ∈ cs.map Prod.fst) /\ iD wd cs) (λ N hN=>?_) ?_
 ·refine⟨_,rfl,xl,_,_,V.int x0,rfl,rfl,SqL.of (s13 _ _ hxl),e0,_,_,rfl,rfl,(by first | decide |(dsimp only;decide)),_,rfl,by omega,by omega,qo (lo:=0) (n:=(x0 % 5).toNat) (λ i σ H'=>∃(v6 v7:Option V) (cs:List (Int × Int)) (kv:List (Key × V)),σ = [some (.int c),some (.ref tl),some (.ref pl),some (.ref xl),some (.ref t),some (.ref b),v6,v7] /\ az H1 H' /\ H' t=some (.lst ((nextT tab cs).map V.int)) /\ H' b=some (.dK kv) /\ bM kv (· ∈ cs.map Prod.fst) /\ cs.length=i /\ ∀ x ∈ cs,0 ≤ x.1 /\ x.1 <(wd:Int) /\ 0 ≤ x.2 /\ x.2 < 2 ^ 64) ⟨none,none,[],[],rfl,s13,s3 _ _ ht2,hb3,bM.iff bM.nil (λ i=>by simp),rfl,λ x h=>by cases h⟩ ?_ ?_⟩
  ·rintro i σ H4 hi ⟨v6,v7,cs,kv,rfl,s4,ht4,hb4,SA,hcl4,hcb⟩
   have hxl4:=s4 _ _ hxl
   obtain⟨z1,ez1,mz1⟩:=pick (1 +(0 +(i:Int))) (by omega) (by omega)
   obtain⟨z5,ez5,mz5⟩:=pick (5 +(0 +(i:Int))) (by omega) (by omega)
   have bz1:=hx z1 mz1
   have bz5:=hx z5 mz5
   have htl4:((nextT tab cs).map V.int).length=wd:=by rw [QG,yk,hTok.1]
   have p0:=Ss z1 (show(wd:Int) ≠ 0 by omega)
   have p1:=Sk z1 (show(0:Int) < wd by omega)
   refine aT [some (.int c),some (.ref tl),some (.ref pl),some (.ref xl),some (.ref t),some (.ref b),some (.int (0 +(i:Int))),v7] ?_
   refine⟨_,rfl,_,rfl,_,_,rfl,rfl,xl,_,_,V.int z1,rfl,rfl,SqL.of hxl4,ez1,_,rfl,t,_,rfl,.inl (SqL.of ht4),_,_,rfl,rfl,by rw [htl4];omega,?_⟩
   rw [htl4]
   obtain⟨pc,epc⟩:∃ pc,z1 % (wd:Int)=pc:=⟨_,rfl⟩
   rw [epc] at p0 p1
   refine aT [some (.int c),some (.ref tl),some (.ref pl),some (.ref xl),some (.ref t),some (.ref b),some (.int (0 +(i:Int))),some (.int pc)] ?_ (by rw [← epc];rfl)
   have hkf:kv.length ≤ 40:=by
    have:=vC (wd:=wd) SA λ k hk=>by
     obtain⟨x,hx1,rfl⟩:=QS.mp hk
     have:=hcb x hx1
     omega
    omega
   refine⟨_,rfl,_,rfl,b,_,rfl,oG.k (k:=Sum.inl pc) hb4 (aY (by omega)),?_⟩
   have SA5:=bM.put SA pc (V.bl true)
   have s5:az H1 (upd H4 b (.dK (putK kv (Sum.inl pc) (V.bl true)))):=λ x o e=>by rw [af (aj e hb1)];exact s4 x o e
   have ht5:upd H4 b (.dK (putK kv (Sum.inl pc) (V.bl true))) t=some (.lst ((nextT tab cs).map V.int)):=by rw [af ntb];exact ht4
   have hb5:upd H4 b (.dK (putK kv (Sum.inl pc) (V.bl true))) b=some (.dK (putK kv (Sum.inl pc) (V.bl true))):=ak
   generalize upd H4 b (.dK (putK kv (Sum.inl pc) (V.bl true)))=H5 at s5 ht5 hb5 ⊢
   have hxl5:=s5 _ _ hxl
   obtain⟨mm,emm,hmm⟩:=Cu (x:=4) (y:=18446744073709551616) (k:=x0 / 5 % 2) (by omega) (by omega)
   have hmm0:0 < mm /\ mm ≤ 18446744073709551616:=by rcases hmm with rfl | rfl <;> decide
   refine⟨_,rfl,_,rfl,_,_,rfl,rfl,xl,_,_,V.int z5,rfl,rfl,SqL.of hxl5,ez5,_,_,rfl,rfl,.inl ⟨by omega,by omega⟩,_,rfl,_,rfl,_,_,rfl,rfl,xl,_,_,V.int z1,rfl,rfl,SqL.of hxl5,ez1,_,_,rfl,rfl,(by show 2 ≤ sizeLine;decide),λ m1 hm1=>?_⟩
   have s6:az H5 (upd H5 m1 (.lst [V.int 4,V.int 18446744073709551616])):=az.new hm1
   have hm6:upd H5 m1 (.lst [V.int 4,V.int 18446744073709551616]) m1=some (.lst [V.int 4,V.int 18446744073709551616]):=ak
   generalize upd H5 m1 (.lst [V.int 4,V.int 18446744073709551616])=H6 at s6 hm6 ⊢
   refine⟨_,rfl,xl,_,_,V.int x0,rfl,rfl,SqL.of (s6 _ _ hxl5),e0,_,_,rfl,rfl,⟨by first | decide |(dsimp only;decide),by first | decide |(dsimp only;decide)⟩,_,_,rfl,rfl,(by first | decide |(dsimp only;decide)),m1,_,_,V.int mm,rfl,rfl,SqL.of hm6,emm,_,_,rfl,rfl,hmm0.1,?_⟩
   have q0:=Ss (z5 * 8589934593 + z1) (show mm ≠ 0 by omega)
   have q1:=Sk (z5 * 8589934593 + z1) hmm0.1
   obtain⟨bk,ebk⟩:∃ bk,(z5 * 8589934593 + z1) % mm=bk:=⟨_,rfl⟩
   rw [ebk] at q0 q1
   refine⟨_,rfl,_,rfl,t,_,_,pc.toNat,rfl,rfl,s6 _ _ ht5,?_,?_⟩
   ·unfold ixN;rw [htl4,if_pos (by omega),if_pos (by omega)]
   refine⟨_,_,cs ++ [(pc,bk)],putK kv (Sum.inl pc) (V.bl true),rfl,λ x o e=>?_,?_,?_,?_,by simp [hcl4],λ x hx'=>?_⟩
   ·rw [af (aj e ht)];exact s6 x o (s5 x o e)
   ·rw [ak,BG,List.map_set,← ebk]
   ·rw [af ntb.symm];exact s6 _ _ hb5
   ·exact bM.iff SA5 λ k=>by simp
   ·rcases Ro.mp hx' with h | h
    ·exact hcb x h
    ·rw [QZ.mp h];exact⟨p0,p1,q0,by omega⟩
  ·rintro σ H4 ⟨v6,v7,cs,kv,rfl,s4,ht4,hb4,SA,hcl4,hcb⟩
   exact hN _ _ ⟨v6,v7,cs,kv,rfl,s4,ht4,hb4,SA,by omega,hcb⟩
 rintro σ H4 ⟨v6,v7,cs,kv,rfl,s4,ht4,hb4,SA,hcs⟩
 have DY4:=DY1.keep s4
 have hLn:LT.length ≤ 64:=by rw [DY1.lt.len,hTl];omega
 have hPn:PL.length ≤ 64:=by rw [DY1.pn,yb];omega
 refine⟨_,rfl,.inl ⟨rfl,_,SqL.of DY4.tl_⟩,_,rfl,tl,_,_,rfl,rfl,DY4.tl_,by rw [QG];exact aY (by omega),?_⟩
 have hpl5:upd H4 tl (.lst (LT.map V.ref ++ [V.ref t])) pl=some (.lst (PL.map V.ref)):=by rw [af DY.tp.symm];exact DY4.pl_
 refine⟨_,rfl,.inl ⟨rfl,_,SqL.of hpl5⟩,_,rfl,pl,_,_,rfl,rfl,hpl5,by rw [QG];exact aY (by omega),?_⟩
 have D:=DY1.snoc (t:=t) (b:=b) (cs:=cs) (kvs:=kv) s4 ht hb1 (by rw [hlast];exact ht4) hb4 SA
 rw [RL,RL] at D
 refine q cs t b _ hcs D (λ x o e hx'=>?_) (s1.free ht) (s1.free hb1)
 simp only [List.mem_cons,List.not_mem_nil,or_false,not_or] at hx'
 show upd (upd H4 tl (.lst (LT.map V.ref ++ [V.ref t]))) pl (.lst (PL.map V.ref ++ [V.ref b])) x=_
 rw [af hx'.2,af hx'.1]
 exact s4 x o (s1 x o e)
theorem yR {f:Addr} {fd:FuncData} (F:Fun K "_law_gain" "_law_gain" g7 f fd) (T:Txt K mg t_W aE aG aD aI aB aH aA aK ah ao ay) (rA:oj P w K mg base "Gain" ao 4 ["self","base","day","rows","check"] [Value.none] (mC ah ao)):aX P w K mg base (CXx P w) 6 f fd ["_law_tables","_law_places","_law_base","_law_day_here"] (qK ah ao):=by
 refine F.okX mw (λ vs H Q E h=>?_) (λ cdv A outer s H vs Q E hr h=>?_)
 ·obtain⟨tl,pl,b,d,wd,chss,LT,PL,rfl,DY,hw,hok,hcl,hbd,hdl,q⟩:=h;rfl
 obtain⟨tl,pl,b,d,wd,chss,LT,PL,rfl,DY,hw,hok,hcl,hbd,hdl,q⟩:=h
 refine⟨_,(au (aL (i:=4) mw.nd rfl (Or.inl rfl) iC)
   (au (eX Ra rfl (BK rfl T.vZ (aa (aO bN (pv 2) aq) (aa (aO bN (pv 3) aq) aC))) (bH (i:=5) mw.nd rfl (Or.inl rfl))
   (aF (bP (EC (pv 4) (aQ aW (pv 1) (pv 5) (λ _ _=>rfl)) ⟨rfl,rfl,rfl,rfl⟩))))
   (aF (bh (qu (dvs:=[V.non]) rA (Paired.cons rfl Paired.nil) aM (hr.mono (by decide)) rfl (aa (pv 2) (aa (pv 3) (aa (rT (N:=["_law_place","_law_tables","_law_day_here"]) (k:=1) (cap:=[0,3]) rfl rfl (fT (bL (yU rfl) (by rfl) T.zp UU (aa (pv 4) aC))) (λ _ _ _ _=>(bH (i:=0) (show(["_law_place","_law_tables","_law_day_here"]:List Str).Nodup from by decide +kernel) rfl (Or.inl rfl) (.inr rfl))) (λ _ _ _ _=>sq) (λ _ _ _ _=>(dZ (aa (pv 0) (aa (aQ (xY (K:=K) rfl) (aQ (xY (K:=K) rfl) (pv 1) (pv 2) (λ _ _=>rfl)) (pv 0) (λ _ _=>rfl)) aC))))) aC)))))))),?_⟩
 intro he hhe
 refine aT [some (.ref tl),some (.ref pl),some (.int (b:Int)),some (.int (d:Int)),some (.ref he),none] ?_
 have hSl:=yb chss
 have hTl:=jO wd chss
 obtain⟨tab,htab⟩:∃ tab,(bu wd chss)[d]? = some tab:=⟨_,QC (by omega)⟩
 have hTok:=tabs_ok hok tab (QJ htab)
 have hSin:=rP hw hok
 dsimp only
 refine bY (λ σ' H'=>∃(v5:Option V) (kv:List (Key × V)),σ' = [some (.ref tl),some (.ref pl),some (.int (b:Int)),some (.int (d:Int)),some (.ref he),v5] /\ az H H' /\ H' he=some (.dK kv) /\ bM kv (λ k=>iS (cS chss) (b:Int) (d:Int) k)) (λ N hN=>?_) ?_
 ·refine⟨_,rfl,_,_,rfl,rfl,_,rfl,_,_,rfl,rfl,_,_,rfl,⟨by omega,by omega,by omega,by omega⟩,qo (lo:=(b:Int) + 1) (n:=((d:Int) + 1 -((b:Int) + 1)).toNat) (λ i σ H'=>∃(v5:Option V) (kv:List (Key × V)),σ = [some (.ref tl),some (.ref pl),some (.int (b:Int)),some (.int (d:Int)),some (.ref he),v5] /\ az H H' /\ H' he=some (.dK kv) /\ bM kv (λ k=>iS (cS chss) (b:Int) ((b + i:Nat):Int) k)) ⟨none,[],rfl,az.new hhe,ak,bM.iff bM.nil λ k=>⟨λ z=>z.elim,λ⟨dd,_,h1,h2,_⟩=>by omega⟩⟩ ?_ ?_⟩
  ·rintro i σ H1 hi ⟨v5,kv,rfl,s1,he1,SA⟩
   have DY1:=DY.keep s1
   obtain⟨xs,hxs⟩:∃ xs,(cS chss)[b + 1 + i]? = some xs:=⟨_,QC (by omega)⟩
   obtain⟨pa,hpa⟩:∃ pa,PL[b + 1 + i]? = some pa:=⟨_,QC (by rw [DY.pn];omega)⟩
   obtain⟨more,hm1,SM⟩:=DY1.ps _ _ _ hpa hxs
   obtain⟨_,hm0,_⟩:=DY.ps _ _ _ hpa hxs
   have ne:he ≠ pa:=(aj hm0 hhe).symm
   have f1:kv.length ≤ wd:=vC SA λ k hk=>lB hSin hk
   have f2:more.length ≤ wd:=vC SM λ k hk=>(hSin.day xs (QJ hxs)).2 k hk
   refine aT [some (.ref tl),some (.ref pl),some (.int (b:Int)),some (.int (d:Int)),some (.ref he),some (.int ((b:Int) + 1 +(i:Int)))] ?_
   refine⟨_,rfl,he,rfl,.inl ⟨_,.inl he1⟩,_,rfl,_,rfl,pl,_,_,V.ref pa,rfl,rfl,SqL.of DY1.pl_,?_,pa,kv,more,rfl,ne,he1,hm1,RM (aY (by omega)),?_⟩
   ·rw [show(b:Int) + 1 +(i:Int) =((b + 1 + i:Nat):Int) by omega]
    exact bw (by rw [QK,hpa];rfl)
   refine⟨_,_,rfl,λ x o e=>?_,ak,bM.iff (bM.merge (S:=λ _=>True) more SA SM.iz λ k=>bM.has SM k) λ k=>?_⟩
   ·rw [af (aj e hhe)];exact s1 x o e
   ·rw [DW hxs k]
  ·rintro σ H1 ⟨v5,kv,rfl,s1,he1,SA⟩
   refine hN _ _ ⟨v5,kv,rfl,s1,he1,?_⟩
   rw [show((b +((d:Int) + 1 -((b:Int) + 1)).toNat:Nat):Int) =(d:Int) by omega] at SA
   exact SA
 rintro σ H1 ⟨v5,kv,rfl,s1,he1,SA⟩
 obtain⟨ks,hks,hnd,hkm⟩:=bM.ns SA
 have hkl:ks.length ≤ wd:=kG wd ks hnd λ x hx=>lB hSin ((hkm x).mp hx)
 refine⟨_,rfl,_,rfl,_,rfl,he,kv,ks,rfl,he1,hks,by omega,λ l ns hl hp hs=>?_⟩
 have s2:az H1 (upd H1 l (.lst (ns.map V.int))):=az.new hl
 have hl2:upd H1 l (.lst (ns.map V.int)) l=some (.lst (ns.map V.int)):=ak
 generalize upd H1 l (.lst (ns.map V.int))=H2 at s2 hl2 ⊢
 have hns:ns.Pairwise (· < ·):=(hs.and (hp.nodup_iff.mpr hnd)).imp λ⟨z1,z2⟩=>by omega
 have hnm:∀ k,k ∈ ns ↔ iS (cS chss) (b:Int) (d:Int) k:=λ k=>by rw [hp.mem_iff];exact hkm k
 have hnb:∀ k ∈ ns,0 ≤ k /\ k <(wd:Int):=λ k hk=>lB hSin ((hnm k).mp hk)
 have hnl:ns.length ≤ 40:=by rw [hp.length_eq];omega
 have DY2:=DY.keep (s1.trans s2)
 obtain⟨ta,eta,mta,hta⟩:=DY2.lt.at_ htab
 refine⟨l,rfl,⟨_,SqL.of hl2⟩,λ D' hD'=>?_⟩
 refine qV D' (K:=K) (a:=l) (xs:=ns.map V.int) (λ i σ H5 ys=>∃ v:Option V,σ = [v,some (.ref tl),some (.int (d:Int))] /\ az H2 H5 /\ H5 D'=some (.lst ys) /\ bX H5 ys (bW (ns.take i) tab)) ⟨none,rfl,az.new hD',ak,⟨rfl,λ i v e=>by simp at e⟩⟩ (λ i σ H5 ys _ z0=>by obtain⟨_,_,s5,_⟩:=z0;exact SqL.of (s5 _ _ hl2)) ?_ ?_
 ·rintro i x σ H5 ys hi ⟨v,rfl,s5,hy,R⟩
  rw [QK] at hi
  obtain⟨k,hk,rfl⟩:=QX.mp hi
  have hkb:=hnb k (QJ hk)
  have hil:=(QE.mp hk).1
  obtain⟨j,ej⟩:∃ j:Nat,k =(j:Int):=⟨k.toNat,by omega⟩
  have hjt:j < tab.length:=by rw [hTok.1];omega
  have h0:=hTok.2 _ (R8 hjt)
  refine⟨_,rfl,_,rfl,_,rfl,tl,_,_,V.ref ta,rfl,rfl,SqL.of (s5 _ _ DY2.tl_),bw (by rw [QK,eta];rfl),_,rfl,ta,_,_,V.int tab[j],rfl,rfl,SqL.of (s5 _ _ hta),?_,(by show 2 ≤ sizeLine;decide),λ t ht=>⟨?_,?_,?_⟩⟩
  ·rw [ej];exact bw (by rw [QK,QC hjt];rfl)
  ·rw [af (aj hy ht)];exact hy
  ·rw [R.len,rj,Ri];exact aY (by omega)
  have nDt:D' ≠ t:=aj hy ht
  refine⟨_,rfl,λ x o e=>?_,ak,?_⟩
  ·rw [af (aj e hD')];exact az.new ht x _ (s5 x o e)
  ·rw [show ns.take (i + 1)=ns.take i ++ [k] by rw [Rn,hk];rfl,AS]
   refine(R.mono λ t' xs e=>?_).snoc ?_
   ·rw [af (aR e hy (by intro z;cases z))];exact az.new ht t' _ e
   ·rw [af nDt.symm,ak,ej]
    show some (HO.tup [V.int (j:Int),V.int tab[j]])=some (HO.tup [V.int (((j:Int).toNat:Nat):Int),V.int (((tab.getD (j:Int).toNat 0).toNat:Nat):Int)])
    rw [Uz,Rl,QC hjt]
    show _=some (HO.tup [V.int (j:Int),V.int ((tab[j].toNat:Nat):Int)])
    rw [Tv h0]
 rintro σ H5 ys ⟨v,rfl,s5,hy,R⟩
 rw [QG,RA] at R
 have upK:∀ {H4:Hp} {x dx:Addr} {o:HO},H4 x=none->H4 dx=none->∀ t o',H4 t=some o'->upd (upd H4 dx (.own x)) x o t=some o':=λ hx hd t o' e=>by rw [af (aj e hx),af (aj e hd)];exact e
 refine λ x dx hx hd ne=>⟨x,dx,D',b,d,ys,_,.non,_,rfl,ak,.inl (upK hx hd _ _ hy),R.mono (λ t xs e=>upK hx hd t _ e),by rw [rj];omega,.inl ⟨rfl,rfl⟩,λ J hP k=>⟨rfl,?_⟩⟩
 exact q x ns tab J htab hns hnm hP (((s1.trans s2).trans s5).trans (jh hx hd k))
theorem zZ {f:Addr} {fd:FuncData} (F:Fun K "_law_put" "_law_put" iJ f fd) (T:Txt K mg t_W aE aG aD aI aB aH aA aK ah ao ay) (cP:DefX P w K mg base "_law_drawn" 1 ["_law_cell","_law_many"] mG) (kK:bf P w K mg base ao "harmed" 7 ["self","at","bits"] (oA ah ao aG)) (jI:bf P w K mg base ah "harmed" 7 ["self","at","bits"] (oA ah ao aG)) (nM:bf P w K mg base ay "put" 2 ["self","piece"] (zo ay)):aX P w K mg base (CXx P w) 8 f fd ["_law_shelf","_law_facts","_law_piece","_law_fact","_law_cell"] (pH ay ah ao):=by
 refine F.okX iR (λ vs H Q E h=>?_) (λ cdv A outer s H vs Q E hr h=>?_)
 ·obtain⟨p,d,ld,a,t,c,n,wd,M,kvs,lkv,u,tabs,rfl,S,hn,ht,hP,hgood,hcar,hbd,hr64,q⟩:=h;rfl
 obtain⟨p,d,ld,a,t,c,n,wd,M,kvs,lkv,u,tabs,rfl,S,hn,ht,hP,hgood,hcar,hbd,hr64,q⟩:=h
 refine⟨_,(au (aL (i:=5) iR.nd rfl (Or.inl rfl) (aZ cP aM (hr.mono (by decide)) rfl (aa (pv 4) (aa aq aC))))
   (au (aL (i:=6) iR.nd rfl (Or.inl rfl) aq)
   (au (ck (PW.pt (pw_and (bx rO (aQ bE (pv 3) aq (λ _ _=>rfl)) aq (bz _)) (pw_and1 (bx jw (aO cg (aQ aW (pv 5) aq (λ _ _=>rfl)) aq) aq (bz _))))) (au (aL (i:=6) iR.nd rfl (Or.inl rfl) aq)
   (aF (aL (i:=2) iR.nd rfl (Or.inl rfl) (kr (bV (pv 2) T.bT jI jJ (hr.mono (by decide)) (aa (aO cg (aQ aW (pv 5) aq (λ _ _=>rfl)) (aQ bE (pv 3) aq (λ _ _=>rfl))) (aa (aO bN aq (aO cg (aO iB (aQ aW (pv 5) aq (λ _ _=>rfl)) aq) (aO iT (oB (n:=18446744073709551616)) aq))) aC))) (bV (pv 2) T.bQ kK jJ (hr.mono (by decide)) (aa (aO cg (aQ aW (pv 5) aq (λ _ _=>rfl)) (aQ bE (pv 3) aq (λ _ _=>rfl))) (aa (aO bN aq (aO cg (aO iB (aQ aW (pv 5) aq (λ _ _=>rfl)) aq) (aO iT (oB (n:=18446744073709551616)) aq))) aC))))))) bK)
   (aF (nY (bS hr) (pv 1) (bV (pv 0) T.cL nM aM (hr.mono (by decide)) (aa (pv 2) aC)) (dZ (aa (aQ bE (pv 3) aq (λ _ _=>rfl)) (aa (aQ bE (pv 3) aq (λ _ _=>rfl)) (aa (pv 6) (aa (aQ bE (pv 3) aq (λ _ _=>rfl)) aC))))) rfl))))),?_⟩
 refine⟨_,rfl,c,3,rfl,by decide,λ xl xs H1 hxl nxl hxn hx s1=>?_⟩
 refine aT [some (.ref p),some (.ref ld),some (.ref a),some (.ref t),some (.int c),some (.ref xl),none] ?_
 obtain⟨z0,z1,z2,rfl⟩:∃ x y z,xs = [x,y,z]:=by
  match xs,hxn with
  | [x,y,z],_=>exact⟨x,y,z,rfl⟩
 have bz2:=hx z2 (by simp)
 dsimp only
 refine bY (λ σ H'=>σ = [some (.ref p),some (.ref ld),some (.ref a),some (.ref t),some (.int c),some (.ref xl),some (.int 0)] /\ H1=H') (λ N hN=>hN _ _ ⟨rfl,rfl⟩) ?_
 rintro σ _ ⟨rfl,rfl⟩
 have S1:=S.keep s1
 have hP1:=hP.keep s1
 have ht1:=s1 _ _ ht
 have hrl:=hcar.rl
 refine bY (λ σ' H'=>∃(a2:Addr) (u2:PcU),σ' = [some (.ref p),some (.ref ld),some (.ref a2),some (.ref t),some (.int c),some (.ref xl),some (.int (cJ u2))] /\ az H1 H' /\ PAt ah ao H' a2 u2.wh u2.b u2.d u2.rows u2.c /\ gC wd tabs u2 /\ u2.st=u.st /\ u2.d=u.d /\ u2.rows.length=u.rows.length) (λ N hN=>?_) ?_
 ·refine Hy (λ H'=>H1=H' /\ 0 < u.rows.length) (λ H'=>H1=H') (λ Qb y1 y2=>?_) (λ H6 h6=>?_) (λ H6 e6=>?_)
  ·refine⟨_,rfl,t,_,_,V.int (u.rows.length:Int),rfl,rfl,SqT.of ht1,bw (j:=2) rfl,_,_,rfl,rfl,_,rfl,?_⟩
   by_cases h0:(0:Int) <(u.rows.length:Int)
   ·refine jM h0 ⟨_,rfl,xl,_,_,V.int z0,rfl,rfl,SqL.of hxl,rfl,_,_,rfl,rfl,(by first | decide |(dsimp only;decide)),rfl,_,rfl,?_⟩
    generalize decide ((λ i j=>V.int (i % j)) z0 6=V.int 0)=bb
    cases bb
    ·exact y2 _ rfl
    ·exact y1 _ ⟨rfl,by omega⟩
   ·exact jN h0 (y2 _ rfl)
  ·obtain⟨rfl,hpos⟩:=h6
   refine bY (λ σ H'=>σ = [some (.ref p),some (.ref ld),some (.ref a),some (.ref t),some (.int c),some (.ref xl),some (.int 1)] /\ H1=H') (λ N hN=>hN _ _ ⟨rfl,rfl⟩) ?_
   rintro σ _ ⟨rfl,rfl⟩
   have hlp:(0:Int) <(u.rows.length:Int):=by omega
   have i0:=Ss z1 (show(u.rows.length:Int) ≠ 0 by omega)
   have i1:=Sk z1 hlp
   obtain⟨bt,hbt,hbt0,hbt1⟩:∃ bt:Nat,1 + z2 * 8589934593 % (18446744073709551616 - 1) =(bt:Int) /\ bt ≠ 0 /\ bt < 2 ^ 64:=⟨(1 + z2 * 8589934593 % (18446744073709551616 - 1)).toNat,by omega,by omega,by omega⟩
   obtain⟨dxa,r,Rr,g1a,g2a,g3a⟩:=id hP1
   have fin:∀ i:Nat,z1 % (u.rows.length:Int) =(i:Int)->i < u.rows.length->∀ p2 J,PAt ah ao J p2 u.wh u.b u.d (dg u.rows i bt) u.c->az H1 J->N ([some (.ref p),some (.ref ld),some (.ref p2),some (.ref t),some (.int c),some (.ref xl),some (.int 1)]) J:=λ i hi hil p2 J hP2 j=>by
    have hb:=DT hgood hil hbd.1 hbd.2 hr64 hbt0 hbt1
    refine hN _ _ ⟨p2,{ u with rows:=dg u.rows i bt },?_,j,hP2,hcar.Kz hb,rfl,rfl,kD _ _ _⟩
    rw [show cJ { u with rows:=dg u.rows i bt } = 1 by unfold cJ;rw [hb];exact if_neg (by decide)]
   cases hw:u.wh with
   | false =>
    rw [hw] at g1a
    refine .inr ⟨_,rfl,a,dxa,_,rfl,g1a,fh (wh:=false) (by decide +kernel) (by decide +kernel) (by decide +kernel) (by decide +kernel),_,rfl,xl,_,_,V.int z1,rfl,rfl,SqL.of hxl,rfl,_,rfl,t,_,_,V.int (u.rows.length:Int),rfl,rfl,SqT.of ht1,bw (j:=2) rfl,_,_,rfl,rfl,hlp,_,rfl,xl,_,_,V.int z2,rfl,rfl,SqL.of hxl,rfl,_,_,rfl,rfl,.inr ⟨by decide,by decide⟩,_,_,rfl,rfl,_,_,rfl,rfl,(by first | decide |(dsimp only;decide)),_,_,rfl,rfl,?_⟩
    exact⟨a,u.wh,u.b,u.d,u.rows,u.c,z1 % (u.rows.length:Int),bt,by rw [← hbt],hP1,by omega,λ i hi hil p2 J hP2 np2 j=>fin i hi hil p2 J hP2 j,λ h=>absurd ⟨i0,i1⟩ h⟩
   | true =>
    rw [hw] at g1a
    refine .inl ⟨_,rfl,a,dxa,_,rfl,g1a,fh (wh:=true) (by decide +kernel) (by decide +kernel) (by decide +kernel) (by decide +kernel),_,rfl,xl,_,_,V.int z1,rfl,rfl,SqL.of hxl,rfl,_,rfl,t,_,_,V.int (u.rows.length:Int),rfl,rfl,SqT.of ht1,bw (j:=2) rfl,_,_,rfl,rfl,hlp,_,rfl,xl,_,_,V.int z2,rfl,rfl,SqL.of hxl,rfl,_,_,rfl,rfl,.inr ⟨by decide,by decide⟩,_,_,rfl,rfl,_,_,rfl,rfl,(by first | decide |(dsimp only;decide)),_,_,rfl,rfl,?_⟩
    exact⟨a,u.wh,u.b,u.d,u.rows,u.c,z1 % (u.rows.length:Int),bt,by rw [← hbt],hP1,by omega,λ i hi hil p2 J hP2 np2 j=>fin i hi hil p2 J hP2 j,λ h=>absurd ⟨i0,i1⟩ h⟩
  ·subst e6
   refine hN _ _ ⟨a,u,?_,az.refl _,hP1,hcar,rfl,rfl,rfl⟩
   rw [show cJ u=0 by unfold cJ PcU.good;rw [Rq hgood];rfl]
 rintro σ H2 ⟨a2,u2,rfl,s2,hP2,hc2,hst,hd,hl⟩
 have S2:=S1.keep s2
 have ht2:=s2 _ _ ht1
 refine⟨_,rfl,t,_,_,V.int u.st,rfl,rfl,SqT.of ht2,bw (j:=0) rfl,_,rfl,t,_,_,V.int (u.d:Int),rfl,rfl,SqT.of ht2,bw (j:=1) rfl,_,rfl,_,rfl,t,_,_,V.int (u.rows.length:Int),rfl,rfl,SqT.of ht2,bw (j:=2) rfl,(by show 4 ≤ sizeLine;decide),λ tf htf=>?_⟩
 have s3:az H2 (upd H2 tf (.tup [V.int u.st,V.int (u.d:Int),V.int (cJ u2),V.int (u.rows.length:Int)])):=az.new htf
 have htf3:upd H2 tf (.tup [V.int u.st,V.int (u.d:Int),V.int (cJ u2),V.int (u.rows.length:Int)]) tf=some (.tup [V.int u.st,V.int (u.d:Int),V.int (cJ u2),V.int (u.rows.length:Int)]):=ak
 generalize upd H2 tf (.tup [V.int u.st,V.int (u.d:Int),V.int (cJ u2),V.int (u.rows.length:Int)])=H3 at s3 htf3 ⊢
 have S3:=S2.keep s3
 obtain⟨dx,g1,g2⟩:=id S3.sh
 have hkl:=S.len
 refine⟨_,rfl,_,rfl,p,dx,_,rfl,g1,rD (by decide +kernel) (by decide +kernel),_,rfl,p,d,(n:Int),kvs,a2,rfl,S3.sh,by omega,λ H4 hS4 k4=>?_⟩
 obtain⟨hld4,S5⟩:=S3.put ⟨a2,rfl,hP2.keep s3,by have:=hc2.rl;omega⟩ (t:=tf) ⟨tf,rfl,by rw [htf3,hst,hd,hl],by have:=hc2.rl;omega⟩ k4 hS4
 refine⟨ld,_,rfl,oG.k (k:=Sum.inl (n:Int)) hld4 (aY (by omega)),?_⟩
 refine q u2 _ _ _ hc2 S5 λ x o e hx'=>?_
 simp only [List.mem_cons,List.not_mem_nil,or_false,not_or] at hx'
 rw [af hx'.2.2]
 exact k4 x o (s3 x o (s2 x o (s1 x o e))) (by simp only [List.mem_cons,List.not_mem_nil,or_false,not_or];exact⟨hx'.1,hx'.2.1⟩)
theorem yg {f:Addr} {fd:FuncData} (F:Fun K "_law_kept" "_law_kept" gW f fd) (T:Txt K mg t_W aE aG aD aI aB aH aA aK ah ao ay) (cP:DefX P w K mg base "_law_drawn" 1 ["_law_cell","_law_many"] mG) (gz:DefX P w K mg base "_law_put" 8 ["_law_shelf","_law_facts","_law_piece","_law_fact","_law_cell"] (pH ay ah ao)) (iI:oj P w K mg base "Whole" ah 4 ["self","day","rows","check"] [Value.none] (j5 ah ao)) (nE:DefX P w K mg base "_law_gain" 6 ["_law_tables","_law_places","_law_base","_law_day_here"] (qK ah ao)):aX P w K mg base (CXx P w) 9 f fd ["_law_cell","_law_tables","_law_places","_law_shelf","_law_facts"] (qT ay ah ao):=by
 refine F.okX eV (λ vs H Q E h=>?_) (λ cdv A outer s H vs Q E hr h=>?_)
 ·obtain⟨c,tl,pl,p,d,ld,wd,n,chss,LT,PL,M,kvs,lkv,rfl,DY,nd1,nd2,hw0,hw,hok,hc0,hcl,S,hn,hM,q⟩:=h;rfl
 obtain⟨c,tl,pl,p,d,ld,wd,n,chss,LT,PL,M,kvs,lkv,rfl,DY,nd1,nd2,hw0,hw,hok,hc0,hcl,S,hn,hM,q⟩:=h
 refine⟨_,(au (aL (i:=5) eV.nd rfl (Or.inl rfl) (aZ cP aM (hr.mono (by decide)) rfl (aa (aO bN (pv 0) aq) (aa aq aC))))
   (au (aL (i:=6) eV.nd rfl (Or.inl rfl) (aO iT (bL bF (by rfl) T.fM Ru (aa (pv 1) aC)) aq))
   (au (aL (i:=7) eV.nd rfl (Or.inl rfl) (bL bF (by rfl) T.fM Ru (aa (aQ aW (pv 1) (pv 6) (λ _ _=>rfl)) aC)))
   (au (ck (bx jw (aO cg (aQ aW (pv 5) aq (λ _ _=>rfl)) aq) aq (bz _)) (aF (bP (aZ gz aM (hr.mono (by decide)) rfl (aa (pv 3) (aa (pv 4) (aa (qu (dvs:=[V.non]) iI (Paired.cons rfl Paired.nil) aM (hr.mono (by decide)) rfl (aa (pv 6) (aa (sU rfl rfl T.mj rfl T.nc (aQ aW (pv 1) (pv 6) (λ _ _=>rfl))) aC))) (aa (dZ (aa (iY gI aq) (aa (pv 6) (aa (pv 7) aC)))) (aa (aQ aW (pv 5) aq (λ _ _=>rfl)) aC)))))))) bK)
   (aF (ck (bx rO (aO cg (aO fO (aQ aW (pv 5) aq (λ _ _=>rfl)) aq) aq) aq (bz _)) (au (aL (i:=8) eV.nd rfl (Or.inl rfl) (aO iT (aO iT (pv 6) aq) (aO cg (aQ aW (pv 5) aq (λ _ _=>rfl)) (bL (wU rfl) (by rfl) T.Ei Vo (aa (pv 6) (aa aq aC))))))
   (au (ck (bx jw (aO cg (aO fO (aQ aW (pv 5) aq (λ _ _=>rfl)) aq) aq) aq (bz _)) (aF (aL (i:=8) eV.nd rfl (Or.inl rfl) (aO cg (aQ aW (pv 5) aq (λ _ _=>rfl)) (pv 6)))) bK)
   (au (aL (i:=9) eV.nd rfl (Or.inl rfl) (aZ nE aM (hr.mono (by decide)) rfl (aa (pv 1) (aa (pv 2) (aa (pv 8) (aa (pv 6) aC))))))
   (aF (bP (aZ gz aM (hr.mono (by decide)) rfl (aa (pv 3) (aa (pv 4) (aa (pv 9) (aa (dZ (aa (pv 8) (aa (pv 6) (aa (bL bF (by rfl) T.fM Ru (aa (bq (pv 9) rfl) aC)) aC)))) (aa (aQ aW (pv 5) aq (λ _ _=>rfl)) aC))))))))))) bK)))))),?_⟩
 have hTl:=jO wd chss
 have hc1:1 ≤ chss.length:=by have:=RY.mpr hc0;omega
 obtain⟨tab,htab⟩:∃ tab,(bu wd chss)[chss.length]? = some tab:=⟨_,QC (by omega)⟩
 have hTok:=tabs_ok hok tab (QJ htab)
 have hT64:=CO hok tab (QJ htab)
 have upK:∀ {H4:Hp} {x dx:Addr} {o:HO},H4 x=none->H4 dx=none->∀ t o',H4 t=some o'->upd (upd H4 dx (.own x)) x o t=some o':=λ hx hd t o' e=>by rw [af (aj e hx),af (aj e hd)];exact e
 refine⟨_,rfl,_,_,rfl,rfl,_,5,rfl,by decide,λ xl xs H1 hxl nxl hxn hx s1=>?_⟩
 refine aT [some (.int c),some (.ref tl),some (.ref pl),some (.ref p),some (.ref ld),some (.ref xl),none,none,none,none] ?_
 have pick:∀ k:Int,0 ≤ k->k < 5->∃ z,atI (xs.map V.int) k=some (V.int z) /\ z ∈ xs:=λ k h0 h1=>Ay h0 (by omega)
 obtain⟨x0,e0,m0⟩:=pick 0 (by omega) (by omega)
 obtain⟨x1,e1,m1⟩:=pick 1 (by omega) (by omega)
 obtain⟨x2,e2,m2⟩:=pick 2 (by omega) (by omega)
 obtain⟨x3,e3,m3⟩:=pick 3 (by omega) (by omega)
 have b2:=hx x2 m2
 have DY1:=DY.keep s1
 have S1:=S.keep s1
 obtain⟨ta,eta,mta,hta⟩:=DY1.lt.at_ htab
 have hLl:((LT.map V.ref).length:Int) - 1 =(chss.length:Int):=by rw [QG,DY1.lt.len,hTl];omega
 refine⟨_,rfl,tl,_,rfl,.inl (SqL.of DY1.tl_),_,_,rfl,rfl,?_⟩
 refine aT [some (.int c),some (.ref tl),some (.ref pl),some (.ref p),some (.ref ld),some (.ref xl),some (.int (chss.length:Int)),none,none,none] ?_ (by rw [← hLl];rfl)
 have hat:atI (LT.map V.ref) (chss.length:Int)=some (V.ref ta):=bw (by rw [QK,eta];rfl)
 refine⟨_,rfl,_,rfl,tl,_,_,V.ref ta,rfl,rfl,SqL.of DY1.tl_,hat,ta,_,rfl,.inl (SqL.of hta),?_⟩
 refine aT [some (.int c),some (.ref tl),some (.ref pl),some (.ref p),some (.ref ld),some (.ref xl),some (.int (chss.length:Int)),some (.int (wd:Int)),none,none] ?_ (by rw [QG,hTok.1];rfl)
 dsimp only
 obtain⟨dx0,g10,g20⟩:=id S.sh
 have hF0:∀ {J:Hp} {b:Addr} {xs:List V},aV [p,d,ld] H J->H b=some (.lst xs)->J b=some (.lst xs):=λ k e=>k _ _ e (by
  simp only [List.mem_cons,List.not_mem_nil,or_false,not_or]
  exact⟨aR e g10 (by intro z;cases z),aR e g20 (by intro z;cases z),aR e S.ld_ (by intro z;cases z)⟩)
 have DYk:∀ {G J:Hp} {kv kw:List (Key × V)} {n':Nat} {M':bC},fm G tl pl wd chss LT PL->S39 ay ah ao G p d ld n' M' kv kw->aV [p,d,ld] G J->fm J tl pl wd chss LT PL:=λ DG SG k=>by
  obtain⟨dxg,h1g,h2g⟩:=id SG.sh
  refine DG.ig k (λ f xs e=>?_) (λ b hb=>?_)
  ·simp only [List.mem_cons,List.not_mem_nil,or_false,not_or]
   exact⟨aR e h1g (by intro z;cases z),aR e h2g (by intro z;cases z),aR e SG.ld_ (by intro z;cases z)⟩
  ·obtain⟨kv',hb'⟩:=DG.part b hb
   simp only [List.mem_cons,List.not_mem_nil,or_false,not_or]
   exact⟨aR hb' h1g (by intro z;cases z),λ z=>nd1 (by rw [← z];exact hb),λ z=>nd2 (by rw [← z];exact hb)⟩
 refine bY (λ σ' H'=>∃(n':Nat) (M':bC) (kv kw:List (Key × V)),σ' = [some (.int c),some (.ref tl),some (.ref pl),some (.ref p),some (.ref ld),some (.ref xl),some (.int (chss.length:Int)),some (.int (wd:Int)),none,none] /\ n ≤ n' /\ n' ≤ n + 1 /\ S39 ay ah ao H' p d ld n' M' kv kw /\(∀ m u,M' m=some u->gC wd (bu wd chss) u) /\ aV [p,d,ld] H1 H') (λ N hN=>?_) ?_
 ·refine qc (λ Qb y1 y2=>?_) ?_ ?_
  ·refine⟨_,rfl,xl,_,_,V.int x0,rfl,rfl,SqL.of hxl,e0,_,_,rfl,rfl,(by first | decide |(dsimp only;decide)),rfl,_,rfl,?_⟩
   generalize decide ((λ i j=>V.int (i % j)) x0 5=V.int 0)=bb
   cases bb
   ·exact y2
   ·exact y1
  ·refine⟨_,rfl,_,rfl,_,rfl,_,rfl,_,rfl,tl,_,_,V.ref ta,rfl,rfl,SqL.of DY1.tl_,hat,ta,_,rfl,SqL.of hta,λ r ts H2 nr s2 hts hr2 hEn=>?_⟩
   have R2:=enum_rows hEn hts hTok.2
   refine λ x dx hx hd ne=>⟨x,dx,r,chss.length,_,dW tab,.non,_,rfl,ak,.inl (upK hx hd _ _ hr2),R2.mono (λ t xs e=>upK hx hd t _ e),by rw [fL,hTok.1];omega,.inl ⟨rfl,rfl⟩,λ J hP k=>⟨rfl,?_⟩⟩
   have sJ:=s2.trans (jh hx hd k)
   refine⟨_,rfl,_,rfl,_,rfl,(by show 3 ≤ sizeLine;decide),λ tf htf=>?_⟩
   have s3:az J (upd J tf (.tup [V.int (-1),V.int (chss.length:Int),V.int (wd:Int)])):=az.new htf
   have htf3:upd J tf (.tup [V.int (-1),V.int (chss.length:Int),V.int (wd:Int)]) tf=some (.tup [V.int (-1),V.int (chss.length:Int),V.int (wd:Int)]):=ak
   generalize upd J tf (.tup [V.int (-1),V.int (chss.length:Int),V.int (wd:Int)])=J3 at s3 htf3 ⊢
   have s13:=sJ.trans s3
   have hcw:=sS hw hok htab
   refine⟨_,rfl,xl,_,_,V.int x1,rfl,rfl,SqL.of (s13 _ _ hxl),e1,p,d,ld,x,tf,x1,n,wd,M,kvs,lkv,⟨true,0,chss.length,dW tab,(d8 true 0 chss.length (dW tab):Nat)⟩,bu wd chss,rfl,S1.keep s13,by omega,?_,hP.keep s3,rfl,hcw,⟨by show 0 < 2 ^ 63;decide,by show chss.length < 2 ^ 63;omega⟩,Ax (by rw [hTok.1];exact hw) hT64,λ u' kv kw H4 hc4 S4 k4=>?_⟩
   ·rw [htf3]
    show some (HO.tup [V.int (-1),V.int (chss.length:Int),V.int (wd:Int)])=some (HO.tup [V.int (-1),V.int (chss.length:Int),V.int ((dW tab).length:Int)])
    rw [fL,hTok.1]
   refine hN _ _ ⟨n + 1,_,kv,kw,rfl,by omega,by omega,S4,λ m u e=>?_,λ b o e hb=>k4 b o (s13 b o e) hb⟩
   by_cases em:m =(n:Int)
   ·rw [em,om] at e;cases e;exact hc4
   ·rw [oh em] at e;exact hM m u e
  ·exact hN _ _ ⟨n,M,kvs,lkv,rfl,by omega,by omega,S1,hM,aV.refl⟩
 rintro σ H2 ⟨n',M',kv,kw,rfl,hn1,hn2,S2,hM2,k2⟩
 have kH2:aV [p,d,ld] H H2:=λ b o e hb=>k2 b o (s1 b o e) hb
 have DY2:=DYk DY1 S1 k2
 have hxl2:H2 xl=some (.lst (xs.map V.int)):=by
  obtain⟨dx1,g11,g21⟩:=id S1.sh
  refine k2 _ _ hxl ?_
  simp only [List.mem_cons,List.not_mem_nil,or_false,not_or]
  exact⟨aR hxl g11 (by intro z;cases z),aR hxl g21 (by intro z;cases z),aR hxl S1.ld_ (by intro z;cases z)⟩
 refine qc (λ Qb y1 y2=>?_) ?_ ?_
 ·refine⟨_,rfl,xl,_,_,V.int x0,rfl,rfl,SqL.of hxl2,e0,_,_,rfl,rfl,⟨by first | decide |(dsimp only;decide),by first | decide |(dsimp only;decide)⟩,_,_,rfl,rfl,(by first | decide |(dsimp only;decide)),_,_,rfl,rfl,_,rfl,?_⟩
  exact Bx _ y1 y2
 ·have hmn:(if (5:Int) <(chss.length:Int) then(5:Int) else(chss.length:Int))=min (chss.length:Int) 5:=by split <;> omega
  have mp:0 < min (chss.length:Int) 5:=by omega
  have r0:=Ss x2 (show min (chss.length:Int) 5 ≠ 0 by omega)
  have r1:=Sk x2 mp
  refine⟨_,rfl,_,_,rfl,rfl,_,rfl,xl,_,_,V.int x2,rfl,rfl,SqL.of hxl2,e2,_,rfl,_,_,rfl,_,_,rfl,rfl,by rw [hmn];exact mp,_,_,rfl,rfl,?_⟩
  obtain⟨bs,ebs,hbs⟩:∃ bs:Nat,(chss.length:Int) - 1 - x2 % min (chss.length:Int) 5 =(bs:Int) /\ bs < chss.length:=⟨((chss.length:Int) - 1 - x2 % min (chss.length:Int) 5).toNat,by omega,by omega⟩
  refine aT [some (.int c),some (.ref tl),some (.ref pl),some (.ref p),some (.ref ld),some (.ref xl),some (.int (chss.length:Int)),some (.int (wd:Int)),some (.int (bs:Int)),none] ?_ (by rw [← ebs,← hmn];rfl)
  dsimp only
  refine bY (λ σ' H'=>∃ bs:Nat,σ' = [some (.int c),some (.ref tl),some (.ref pl),some (.ref p),some (.ref ld),some (.ref xl),some (.int (chss.length:Int)),some (.int (wd:Int)),some (.int (bs:Int)),none] /\ bs < chss.length /\ H2=H') (λ N hN=>?_) ?_
  ·refine qc (λ Qb y1 y2=>?_) ?_ ?_
   ·refine⟨_,rfl,xl,_,_,V.int x0,rfl,rfl,SqL.of hxl2,e0,_,_,rfl,rfl,⟨by first | decide |(dsimp only;decide),by first | decide |(dsimp only;decide)⟩,_,_,rfl,rfl,(by first | decide |(dsimp only;decide)),rfl,_,rfl,?_⟩
    exact Bx _ y1 y2
   ·have w0:=Ss x2 (show(chss.length:Int) ≠ 0 by omega)
    have w1:=Sk x2 (show(0:Int) <(chss.length:Int) by omega)
    obtain⟨b',eb',hb'⟩:∃ b':Nat,x2 % (chss.length:Int) =(b':Int) /\ b' < chss.length:=⟨(x2 % (chss.length:Int)).toNat,by omega,by omega⟩
    exact⟨_,rfl,xl,_,_,V.int x2,rfl,rfl,SqL.of hxl2,e2,_,rfl,_,_,rfl,rfl,(by show(0:Int) <(chss.length:Int);omega),hN _ _ ⟨b',by dsimp only;rw [eb'];rfl,hb',rfl⟩⟩
   ·exact hN _ _ ⟨bs,rfl,hbs,rfl⟩
  clear ebs hbs
  rintro σ _ ⟨bs,rfl,hbs,rfl⟩
  refine⟨_,rfl,_,rfl,_,rfl,_,rfl,tl,pl,bs,chss.length,wd,chss,LT,PL,rfl,DY2,hw,hok,hcl,hbs,QH _,λ p2 ns tab' H3 htab' hns hnm hP3 s3=>?_⟩
  rw [htab] at htab'
  cases htab'
  refine aT [some (.int c),some (.ref tl),some (.ref pl),some (.ref p),some (.ref ld),some (.ref xl),some (.int (chss.length:Int)),some (.int (wd:Int)),some (.int (bs:Int)),some (.ref p2)] ?_
  obtain⟨dxp,r,Rr,h1p,h2p,h3p⟩:=id hP3
  have hcg:=Bu hw hok hbs htab hns hnm
  have hnb:∀ k ∈ ns,0 ≤ k /\ k <(wd:Int):=λ k hk=>lB (rP hw hok) ((hnm k).mp hk)
  refine⟨_,rfl,_,rfl,_,rfl,_,rfl,_,rfl,_,rfl,p2,ao,dxp,_,_,rfl,h1p,T.bQ,T.cK,fY,r,_,rfl,.inr (SqT.of h2p),(by show 3 ≤ sizeLine;decide),λ tf htf=>?_⟩
  have s4:az H3 (upd H3 tf (.tup [V.int (bs:Int),V.int (chss.length:Int),V.int (Rr.length:Int)])):=az.new htf
  have htf4:upd H3 tf (.tup [V.int (bs:Int),V.int (chss.length:Int),V.int (Rr.length:Int)]) tf=some (.tup [V.int (bs:Int),V.int (chss.length:Int),V.int (Rr.length:Int)]):=ak
  generalize upd H3 tf (.tup [V.int (bs:Int),V.int (chss.length:Int),V.int (Rr.length:Int)])=H4 at s4 htf4 ⊢
  have s24:=s3.trans s4
  refine⟨_,rfl,xl,_,_,V.int x3,rfl,rfl,SqL.of (s24 _ _ hxl2),e3,p,d,ld,p2,tf,x3,n',wd,M',kv,kw,⟨false,bs,chss.length,bW ns tab,(d8 false bs chss.length (bW ns tab):Nat)⟩,bu wd chss,rfl,S2.keep s24,by omega,?_,hP3.keep s4,rfl,hcg,⟨by show bs < 2 ^ 63;omega,by show chss.length < 2 ^ 63;omega⟩,EO hw hnb hT64,λ u' kv' kw' H5 hc5 S5 k5=>?_⟩
  ·rw [htf4,rE rfl,h3p.len]
  refine q (n' + 1) _ kv' kw' H5 (by omega) (by omega) (λ m u e=>?_) S5 λ b o e hb=>k5 b o (s24 b o (kH2 b o e hb)) hb
  by_cases em:m =(n':Int)
  ·rw [em,om] at e;cases e;exact hc5
  ·rw [oh em] at e;exact hM2 m u e
 ·exact q n' M' kv kw H2 hn1 (by omega) hM2 S2 kH2
theorem xD {f:Addr} {fd:FuncData} (F:Fun K "_law_added" "_law_added" fU f fd) (T:Txt K mg t_W aE aG aD aI aB aH aA aK ah ao ay) :aX P w K mg base (CXx P w) 1 f fd ["_law_price","_law_fact","_law_rates"] (kP):=by
 refine F.okX xH (λ vs H Q E h=>?_) (λ cdv A outer s H vs Q E hr h=>?_)
 ·obtain⟨pa,t,rl,q',sk,ea,n,u,rfl,hq,hpa,hu,hrl,q⟩:=h;rfl
 obtain⟨pa,t,rl,q',sk,ea,n,u,rfl,hq,hpa,hu,hrl,q⟩:=h
 refine⟨_,(aF (bh (dZ (aa (aO bN (aQ bE (pv 0) aq (λ _ _=>rfl)) (aQ bE (pv 1) aq (λ _ _=>rfl))) (aa (aO bN (aO bN (aQ bE (pv 0) aq (λ _ _=>rfl)) (aQ aW (pv 2) aq (λ _ _=>rfl))) (aO iB (aQ aW (pv 2) aq (λ _ _=>rfl)) (aQ bE (pv 1) aq (λ _ _=>rfl)))) (aa (aO bN (aQ bE (pv 0) aq (λ _ _=>rfl)) aq) aC)))))),?_⟩
 obtain⟨x,y,m,rfl⟩:=hq
 obtain⟨t',e,ht,hl⟩:=hu
 cases e
 refine⟨_,rfl,pa,_,_,V.int x,rfl,rfl,SqT.of hpa,rfl,_,rfl,t,_,_,V.int (cJ u),rfl,rfl,SqT.of ht,bw (j:=2) rfl,_,_,rfl,rfl,?_⟩
 refine⟨_,rfl,pa,_,_,V.int y,rfl,rfl,SqT.of hpa,rfl,_,rfl,rl,_,_,V.int sk,rfl,rfl,SqL.of hrl,rfl,_,_,rfl,rfl,?_⟩
 refine⟨_,rfl,rl,_,_,V.int ea,rfl,rfl,SqL.of hrl,rfl,_,rfl,t,_,_,V.int (u.rows.length:Int),rfl,rfl,SqT.of ht,bw (j:=3) rfl,_,_,rfl,rfl,.inr ⟨by omega,by omega⟩,_,_,rfl,rfl,?_⟩
 refine⟨_,rfl,pa,_,_,V.int (m:Int),rfl,rfl,SqT.of hpa,rfl,_,_,rfl,rfl,(by show 3 ≤ sizeLine;decide),λ r hr'=>?_⟩
 have:=q r hr'
 rw [show(bO [x,y,(m:Int)] (gA (cE sk ea) n u)).map V.int = [V.int (x + cJ u),V.int (y + sk + ea * (u.rows.length:Int)),V.int ((m:Int) + 1)] by
  show [V.int (x + cJ u),V.int (y +(sk + ea * (u.rows.length:Int))),V.int ((m:Int) + 1)]=_
  rw [Int.add_assoc]] at this
 exact this
theorem xw {f:Addr} {fd:FuncData} (F:Fun K "_law_least" "_law_least" fV f fd) (T:Txt K mg t_W aE aG aD aI aB aH aA aK ah ao ay) (gm:DefX P w K mg base "_law_added" 1 ["_law_price","_law_fact","_law_rates"] kP):aX P w K mg base (CXx P w) 2 f fd ["_law_facts","_law_known","_law_rates"] (pJ):=by
 refine F.okX cY (λ vs H Q E h=>?_) (λ cdv A outer s H vs Q E hr h=>?_)
 ·obtain⟨ld,kn,rl,sk,ea,lkv,kvs,M,ns,P',rfl,hld,hL,hkn,nlk,PR,hrl,hs,LP,q⟩:=h;rfl
 obtain⟨ld,kn,rl,sk,ea,lkv,kvs,M,ns,P',rfl,hld,hL,hkn,nlk,PR,hrl,hs,LP,q⟩:=h
 refine⟨_,(au (Aa (eX Ra rfl (Ae (pv 0)) (bH (i:=3) cY.nd rfl (Or.inl rfl))
   (au (lT (cX (bS hr) (pv 0) (pv 3) (λ _ _=>rfl)) (qA rfl (cQ (bH (i:=4) cY.nd rfl (Or.inl rfl)) (cQ (bH (i:=5) cY.nd rfl (Or.inl rfl)) (cQ (bH (i:=6) cY.nd rfl (Or.inl rfl)) (cQ (bH (i:=7) cY.nd rfl (Or.inl rfl)) lA))))))
   (aF (ck (PW.pt (pw_or (bx jw (pv 4) (iY gI aq) (bz _)) (pw_or1 (mq (Cz (bS hr) (pv 4) (pv 1)))))) (au (aL (i:=8) cY.nd rfl (Or.inl rfl) (dZ (aa aq (aa aq (aa aq aC)))))
   (au (ck (bx A5 (pv 4) (iY gI aq) (bz _)) (aF (aL (i:=8) cY.nd rfl (Or.inl rfl) (cX (bS hr) (pv 1) (pv 4) (λ _ _=>rfl)))) bK)
   (aF (ck (PW.pt (pw_or (mq (ko (bS hr) (pv 5) (pv 1))) (pw_or1 (bx (Ck (Si (Tr _ 64) hr.units)) (aZ gm aM (hr.mono (by decide)) rfl (aa (pv 8) (aa (cX (bS hr) (pv 0) (pv 3) (λ _ _=>rfl)) (aa (pv 2) aC)))) (cX (bS hr) (pv 1) (pv 5) (λ _ _=>rfl)) (bz _))))) (aF (bh r9)) bK)))) bK)))))
   (aF (bh r9))),?_⟩
 have npl:∀ {b:Addr} {o:HO},H b=some o->(∀ kv,o ≠ .dK kv)->b ≠ ld:=λ e h z=>by rw [z,hld] at e;cases e;exact h _ rfl
 refine bY (λ σ H'=>∃ v3 v4 v5 v6 v7 v8:Option V,σ = [some (.ref ld),some (.ref kn),some (.ref rl),v3,v4,v5,v6,v7,v8] /\ az H H') (λ N hN=>?_) ?_
 ·refine⟨_,rfl,ld,lkv,rfl,hld,λ o nf=>zA (d:=ld) (o:=o) (kvs:=lkv) (λ i σ H'=>∃ v3 v4 v5 v6 v7 v8:Option V,σ = [some (.ref ld),some (.ref kn),some (.ref rl),v3,v4,v5,v6,v7,v8] /\ az (upd H ld (.frz o (.dK lkv))) H') ⟨none,none,none,none,none,none,rfl,az.refl _⟩ (λ i σ H' _ z0=>by obtain⟨_,_,_,_,_,_,_,s'⟩:=z0;exact s' _ _ ak) ?_ ?_⟩
  ·rintro i k v σ H1 hi ⟨v3,v4,v5,v6,v7,v8,rfl,s1⟩
   obtain⟨n',u,rfl,eM,⟨t,rfl,ht,hu100⟩,hvl⟩:=hL.at_ hi
   have kp:=xT s1
   have ht1:=kp t _ ht (by simpa using npl ht λ _ z=>by cases z)
   have hkn1:=kp kn _ hkn (by simpa using nlk.symm)
   have hrl1:=kp rl _ hrl (by simpa using npl hrl λ _ z=>by cases z)
   have PR1:=PR.mono λ t xs e=>kp t _ e (by simpa using npl e λ _ z=>by cases z)
   have hfz:=s1 _ _ ak
   have hdp:∀ d,d ≠ -1->iL P' (-1) d=P' d:=λ d h=>if_neg h
   have hgm:gA (cE sk ea) n' u ∈ fq M (cE sk ea) ns:=(mF hs).mpr ⟨u,eM,rfl⟩
   have hg0:∀ {H2:Hp},az H1 H2->dJ H2 ld (.int n') (some (V.ref t)):=λ s=>.inl ⟨lkv,Sum.inl n',.inr ⟨o,s _ _ hfz⟩,rfl,hvl.symm⟩
   refine aT [some (.ref ld),some (.ref kn),some (.ref rl),some (.int n'),v4,v5,v6,v7,v8] ?_
   refine bY (λ σ H'=>σ = [some (.ref ld),some (.ref kn),some (.ref rl),some (.int n'),some (.int u.st),some (.int (u.d:Int)),some (.int (cJ u)),some (.int (u.rows.length:Int)),v8] /\ H1=H') (λ N2 hN2=>?_) ?_
   ·exact⟨_,rfl,_,rfl,ld,V.ref t,rfl,hg0 (az.refl _),t,_,rfl,SqT.of ht1,rfl,_,_,rfl,_,_,rfl,_,_,rfl,_,_,rfl,rfl,hN2 _ _ ⟨rfl,rfl⟩⟩
   rintro σ _ ⟨rfl,rfl⟩
   cases hp:P' u.st with
   | none =>
    have hs1:u.st ≠ -1:=λ e=>by rw [e,LP.zero] at hp;cases hp
    refine pN (λ Qb hq=>?_) ⟨_,_,_,_,_,_,rfl,s1⟩
    refine⟨_,rfl,_,rfl,rfl,_,rfl,?_⟩
    rw [QY (show ¬ V.int u.st=V.int (-1) from λ e=>hs1 (V.int.inj e))]
    refine dM ⟨_,rfl,_,rfl,kn,_,rfl,.inl ⟨kvs,Sum.inl u.st,.inl hkn1,rfl,rfl⟩,_,rfl,?_⟩
    rw [(PR1.val u.st).is,hdp _ hs1,hp]
    exact hq
   | some pq =>
    have hpr:=LP.pr _ _ hp
    obtain⟨q',hq',hle⟩:=LP.closed _ hgm pq hp
    have hq':P' (u.d:Int)=some q':=hq'
    refine rC (λ Qb hq=>?_) ?_
    ·refine⟨_,rfl,_,rfl,rfl,_,rfl,?_⟩
     by_cases hs1:u.st = -1
     ·rw [Rq (show V.int u.st=V.int (-1) by rw [hs1])];exact dX hq
     ·rw [QY (show ¬ V.int u.st=V.int (-1) from λ e=>hs1 (V.int.inj e))]
      refine dM ⟨_,rfl,_,rfl,kn,_,rfl,.inl ⟨kvs,Sum.inl u.st,.inl hkn1,rfl,rfl⟩,_,rfl,?_⟩
      rw [(PR1.val u.st).is,hdp _ hs1,hp]
      exact hq
    refine⟨(by show 3 ≤ sizeLine;decide),λ h0 hh0=>?_⟩
    refine aT [some (.ref ld),some (.ref kn),some (.ref rl),some (.int n'),some (.int u.st),some (.int (u.d:Int)),some (.int (cJ u)),some (.int (u.rows.length:Int)),some (.ref h0)] ?_
    have s3:az H1 (upd H1 h0 (.tup [V.int 0,V.int 0,V.int 0])):=az.new hh0
    have hh3:upd H1 h0 (.tup [V.int 0,V.int 0,V.int 0]) h0=some (.tup (([0,0,0]:List Int).map V.int)):=ak
    generalize upd H1 h0 (.tup [V.int 0,V.int 0,V.int 0])=H3 at s3 hh3 ⊢
    have hkn3:=s3 _ _ hkn1
    have PR3:=PR1.mono λ t ys e=>s3 t _ e
    dsimp only
    refine bY (λ σ' H'=>∃ ha,σ' = [some (.ref ld),some (.ref kn),some (.ref rl),some (.int n'),some (.int u.st),some (.int (u.d:Int)),some (.int (cJ u)),some (.int (u.rows.length:Int)),some (.ref ha)] /\ H3 ha=some (.tup (pq.map V.int)) /\ H3=H') (λ N hN=>?_) ?_
    ·refine⟨_,rfl,_,rfl,rfl,_,rfl,?_⟩
     by_cases hs1:u.st = -1
     ·rw [Rq (show V.int u.st=V.int (-1) by rw [hs1])]
      refine dM (hN _ _ ⟨h0,rfl,?_,rfl⟩)
      rw [hs1,LP.zero] at hp
      cases hp;exact hh3
     ·rw [QY (show ¬ V.int u.st=V.int (-1) from λ e=>hs1 (V.int.inj e))]
      have hv:=PR3.val u.st
      rw [hdp _ hs1,hp] at hv
      obtain⟨pa,hpa,hpa'⟩:=hv.some_of
      exact dX ⟨_,rfl,_,rfl,kn,V.ref pa,rfl,.inl ⟨kvs,Sum.inl u.st,.inl hkn3,rfl,hpa.symm⟩,hN _ _ ⟨pa,rfl,hpa',rfl⟩⟩
    rintro σ _ ⟨ha,rfl,hha,rfl⟩
    have hv:=PR3.val (u.d:Int)
    rw [hdp _ (by omega),hq'] at hv
    obtain⟨qa,hqa,hqa'⟩:=hv.some_of
    refine vD false (λ H'=>az H3 H') (λ Qb hq=>?_) (λ h=>by cases h) (λ _ H4 s4=>⟨_,_,_,_,_,_,rfl,(s1.trans s3).trans s4⟩)
    refine⟨_,rfl,_,rfl,kn,_,rfl,.inl ⟨kvs,Sum.inl (u.d:Int),.inl hkn3,rfl,rfl⟩,_,rfl,?_⟩
    rw [hqa]
    refine dM ⟨_,rfl,_,rfl,_,rfl,ld,V.ref t,rfl,hg0 s3,_,rfl,ha,t,rl,pq,sk,ea,n',u,rfl,hpr,hha,⟨t,rfl,s3 _ _ ht1,hu100⟩,s3 _ _ hrl1,λ r hr'=>?_⟩
    have s4:az H3 (upd H3 r (.tup ((bO pq (gA (cE sk ea) n' u)).map V.int))):=az.new hr'
    refine⟨_,rfl,_,rfl,kn,V.ref qa,rfl,.inl ⟨kvs,Sum.inl (u.d:Int),.inl (s4 _ _ hkn3),rfl,hqa.symm⟩,r,qa,_,_,rfl,rfl,SqT.of ak,SqT.of (s4 _ _ hqa'),_,rfl,?_⟩
    rw [show HT.lexLt (bO pq (gA (cE sk ea) n' u)) q'=false from hle]
    exact hq _ s4
  ·rintro σ H1 ⟨v3,v4,v5,v6,v7,v8,rfl,s1⟩
   exact⟨ld,o,lkv,s1 _ _ ak,nf,hN _ _ ⟨v3,v4,v5,v6,v7,v8,rfl,wN hld s1⟩⟩
 rintro σ H1 ⟨v3,v4,v5,v6,v7,v8,rfl,s1⟩
 exact q H1 s1
theorem yM {f:Addr} {fd:FuncData} (F:Fun K "_law_back" "_law_back" g4 f fd) (T:Txt K mg t_W aE aG aD aI aB aH aA aK ah ao ay) :aX P w K mg base (CXx P w) 1 f fd ["_law_facts","_law_lasts","_law_day_here"] (qP):=by
 refine F.okX jA (λ vs H Q E h=>?_) (λ cdv A outer s H vs Q E hr h=>?_)
 ·obtain⟨ld,ls,lkv,kvs,M,L,pr,ns,day,ws,rfl,hld,hL,hls,NA,hL1,hs,ch,hwl,hl9,q⟩:=h;rfl
 obtain⟨ld,ls,lkv,kvs,M,L,pr,ns,day,ws,rfl,hld,hL,hls,NA,hL1,hs,ch,hwl,hl9,q⟩:=h
 refine⟨_,(au (aL (i:=3) jA.nd rfl (Or.inl rfl) (dN aC))
   (au (lE Ra (PW.pt (pw_and (mq (Cz (bS hr) (pv 2) (pv 1))) (pw_and1 (bx Hj (bL bF (by rfl) T.fM Ru (aa (pv 3) aC)) (bL B5 (by rfl) T.fM Ru (aa (pv 0) aC)) (bz _))))) (au (aL (i:=3) jA.nd rfl (Or.inl rfl) (aO Gz (dN (aa (cX (bS hr) (pv 1) (pv 2) (λ _ _=>rfl)) aC)) (pv 3)))
   (aF (aL (i:=2) jA.nd rfl (Or.inl rfl) (aQ bE (cX (bS hr) (pv 0) (cX (bS hr) (pv 1) (pv 2) (λ _ _=>rfl)) (λ _ _=>rfl)) aq (λ _ _=>rfl))))))
   (aF (bh (pv 3))))),?_⟩
 refine⟨Rm _,λ w0 hw0=>?_⟩
 refine aT [some (.ref ld),some (.ref ls),some (.int day),some (.ref w0)] ?_
 dsimp only
 refine bY (λ σ' H'=>∃(v2:Option V) (r:Addr),σ' = [some (.ref ld),some (.ref ls),v2,some (.ref r)] /\ az H H' /\ H r=none /\ H' r=some (.lst (ws.reverse.map V.int))) (λ N hN=>?_) ?_
 ·refine⟨λ m σ H'=>∃(d':Int) (r:Addr) (us vs:List Int),σ = [some (.ref ld),some (.ref ls),some (.int d'),some (.ref r)] /\ az H H' /\ H r=none /\ H' r=some (.lst (us.reverse.map V.int)) /\ Chain L (fq M pr ns) d' vs /\ us ++ vs=ws /\ m=vs.length,⟨_,day,w0,[],ws,rfl,az.new hw0,hw0,ak,ch,rfl,rfl⟩,?_⟩
  rintro m σ H1 ⟨d',r,us,vs,rfl,s1,nr,hr1,ch1,huv,rfl⟩
  have hls1:=s1 _ _ hls
  have hld1:=s1 _ _ hld
  cases ch1 with
  | nil =>
   refine⟨_,rfl,_,rfl,ls,_,rfl,dJ.k (k:=Sum.inl (-1)) hls1,_,rfl,?_⟩
   rw [NA.val (-1),hL1]
   refine dM (hN _ _ ⟨_,r,rfl,s1,nr,?_⟩)
   rw [RT] at huv
   rw [← huv];exact hr1
  | cons h1 h2 h3 h4 =>
   rename_i x s vs
   obtain⟨g,hg,e1,e2⟩:=h3
   obtain⟨u,hu,eu⟩:=(mF hs).mp hg
   rw [e1] at hu
   have est:u.st=s:=by rw [← e2,eu];rfl
   obtain⟨v,hv,t,rfl,ht,_⟩:=hL.ff x u hu
   have hul:us.length < lkv.length:=by have:=congrArg List.length huv;simp at this;omega
   refine⟨_,rfl,_,rfl,ls,_,rfl,dJ.k (k:=Sum.inl d') hls1,_,rfl,?_⟩
   rw [NA.val d',h2]
   have hg2:dJ H1 ls (.int d') (some (V.int x)):=by have:=dJ.k (k:=Sum.inl d') hls1;rw [NA.val d',h2] at this;exact this
   refine dX ⟨_,rfl,r,_,rfl,.inl (SqL.of hr1),_,rfl,ld,lkv,rfl,hld1,_,_,rfl,rfl,_,rfl,?_⟩
   refine jM (by rw [QG,Up];omega) ⟨_,λ σ' H' h=>h,?_⟩
   refine⟨_,rfl,_,rfl,ls,V.int x,rfl,hg2,(by show 1 ≤ sizeLine;decide),λ l1 hl1=>?_⟩
   have s2:az H1 (upd H1 l1 (.lst [V.int x])):=az.new hl1
   have hl2:upd H1 l1 (.lst [V.int x]) l1=some (.lst [V.int x]):=ak
   generalize upd H1 l1 (.lst [V.int x])=H2 at s2 hl2 ⊢
   refine⟨_,rfl,l1,r,_,_,rfl,rfl,hl2,s2 _ _ hr1,RM (aY (by simp;omega)),λ r2 hr2=>?_⟩
   refine aT [some (.ref ld),some (.ref ls),some (.int d'),some (.ref r2)] ?_
   have s3:az H2 (upd H2 r2 (.lst ([V.int x] ++ us.reverse.map V.int))):=az.new hr2
   have hr3:upd H2 r2 (.lst ([V.int x] ++ us.reverse.map V.int)) r2=some (.lst ((us ++ [x]).reverse.map V.int)):=by rw [ak];simp
   generalize upd H2 r2 (.lst ([V.int x] ++ us.reverse.map V.int))=H3 at s3 hr3 ⊢
   have s23:=s2.trans s3
   have hg3:dJ H3 ls (.int d') (some (V.int x)):=by have:=dJ.k (k:=Sum.inl d') (s23 _ _ hls1);rw [NA.val d',h2] at this;exact this
   have hg4:dJ H3 ld (.int x) (some (V.ref t)):=by have:=dJ.k (k:=Sum.inl x) (s23 _ _ hld1);rw [hv] at this;exact this
   refine⟨_,rfl,_,rfl,_,rfl,ls,V.int x,rfl,hg3,ld,V.ref t,rfl,hg4,t,_,_,V.int u.st,rfl,rfl,SqT.of (s23 _ _ (s1 _ _ ht)),bw (j:=0) rfl,?_⟩
   refine⟨vs.length,by simp,s,r2,us ++ [x],vs,?_,s1.trans s23,s1.free (s2.free hr2),hr3,h4,by rw [UB];exact huv,rfl⟩
   rw [← est];rfl
 rintro σ H1 ⟨v2,r,rfl,s1,nr,hr1⟩
 exact⟨_,rfl,q r H1 hr1 nr s1⟩
theorem ve {f:Addr} {fd:FuncData} (F:Fun K "_law_refused" "_law_refused" er f fd) (T:Txt K mg t_W aE aG aD aI aB aH aA aK ah ao ay) (jm:DefX P w K mg base "fetched" 6 ["shelf","way"] (kY ay ah ao aD aI aB)):aX P w K mg base (CXx P w) 7 f fd ["_law_shelf","_law_way","_law_day_here"] (lZ ay ah ao):=by
 refine F.okX ic (λ vs H Q E h=>?_) (λ cdv A outer s H vs Q E hr h=>?_)
 ·obtain⟨p,d,ld,wl,n,wd,dd,M,kvs,lkv,way,rfl,S,hok,hwl,hwn,hf,q⟩:=h;rfl
 obtain⟨p,d,ld,wl,n,wd,dd,M,kvs,lkv,way,rfl,S,hok,hwl,hwn,hf,q⟩:=h
 refine⟨_,(au (aL (i:=3) ic.nd rfl (Or.inl rfl) kF)
   (au (Ga (λ pn xe E hx=>(aF (bP (aZ jm hx (hr.mono (by decide)) rfl (aa (pv 0) (aa (pv 1) aC)))))) (GF (i:=4) rfl T.zP T.jE ic.nd rfl rfl (λ _ _=>(aF (aL (i:=3) ic.nd rfl (Or.inl rfl) (EE (pv 4) rfl)))) FO) rfl rfl)
   (aF (bh (nU jw (pv 3) (pv 2) (bz _)))))),?_⟩
 refine bY (λ σ H'=>σ = [some (.ref p),some (.ref wl),some (.int (dd:Int)),some .non,none] /\ H=H') (λ N hN=>hN _ _ ⟨rfl,rfl⟩) ?_
 rintro σ _ ⟨rfl,rfl⟩
 refine bY (λ σ H'=>σ = [some (.ref p),some (.ref wl),some (.int (dd:Int)),some (.int (dd:Int)),none] /\ az H H') (λ N hN=>?_) ?_
 ·intro pn xe
  refine⟨_,rfl,_,rfl,p,d,wl,(n:Int),kvs,M,way,wd,rfl,S.sh,S.sr,hok,hwl,by omega,(λ t ht=>by rw [hf] at ht;cases ht),(λ m hm=>by rw [hf] at hm;cases hm),(λ k hk=>by rw [hf] at hk;cases hk),λ d2 hd2 e H1 he s1=>?_⟩
  rw [hf] at hd2
  cases hd2
  refine⟨e,aB,rfl,rfl,true,T.kt1,?_⟩
  rw [if_pos rfl]
  intro pn2
  exact⟨_,rfl,e,aB,_,_,rfl,he,T.jE,T.eF,bR,hN _ _ ⟨rfl,s1⟩⟩
 rintro σ H1 ⟨rfl,s1⟩
 refine⟨_,rfl,_,rfl,rfl,?_⟩
 rw [Rq rfl]
 exact q _ s1
theorem y9 {f:Addr} {fd:FuncData} (F:Fun K "_law_good" "_law_good" gX f fd) (T:Txt K mg t_W aE aG aD aI aB aH aA aK ah ao ay) (gm:DefX P w K mg base "_law_added" 1 ["_law_price","_law_fact","_law_rates"] kP) (j0:DefX P w K mg base "_law_refused" 7 ["_law_shelf","_law_way","_law_day_here"] (lZ ay ah ao)) (jm:DefX P w K mg base "fetched" 6 ["shelf","way"] (kY ay ah ao aD aI aB)):aX P w K mg base (CXx P w) 8 f fd ["_law_shelf","_law_facts","_law_way","_law_price","_law_table","_law_rates"] (qO ay ah ao):=by
 refine F.okX eY (λ vs H Q E h=>?_) (λ cdv A outer s H vs Q E hr h=>?_)
 ·obtain⟨p,d,ld,wl,pa,tb,rl,n,wd,sk,ea,day,M,kvs,lkv,way,tab,tabs,rfl,S,hM,hwl,hwn,hne,hgo,hall,hpa,htb,htab,hrl,q⟩:=h;rfl
 obtain⟨p,d,ld,wl,pa,tb,rl,n,wd,sk,ea,day,M,kvs,lkv,way,tab,tabs,rfl,S,hM,hwl,hwn,hne,hgo,hall,hpa,htb,htab,hrl,q⟩:=h
 refine⟨_,(au (aL (i:=6) eY.nd rfl (Or.inl rfl) (dZ (aa aq (aa aq (aa aq aC)))))
   (au (aL (i:=7) eY.nd rfl (Or.inl rfl) kF)
   (au (eX Ra rfl (fT (pv 2)) (bH (i:=8) eY.nd rfl (Or.inl rfl))
   (au (aL (i:=6) eY.nd rfl (Or.inl rfl) (aZ gm aM (hr.mono (by decide)) rfl (aa (pv 6) (aa (cX (bS hr) (pv 1) (pv 8) (λ _ _=>rfl)) (aa (pv 5) aC)))))
   (aF (ck (PW.pt (pw_and (bx yV (pv 7) kF (bz _)) (pw_and1 (bx jw (aQ bE (cX (bS hr) (pv 1) (pv 8) (λ _ _=>rfl)) aq (λ _ _=>rfl)) aq (bz _))))) (aF (aL (i:=7) eY.nd rfl (Or.inl rfl) (aQ bE (cX (bS hr) (pv 1) (pv 8) (λ _ _=>rfl)) aq (λ _ _=>rfl)))) bK))))
   (au (ck (bx (CL hr.units) (pv 6) (pv 3) (bz _)) (aF (bh r9)) bK)
   (au (ck (bx Ai (pv 7) kF (bz _)) (aF (bh (aZ j0 aM (hr.mono (by decide)) rfl (aa (pv 0) (aa (pv 2) (aa (pv 7) aC)))))) bK)
   (au (aL (i:=9) eY.nd rfl (Or.inl rfl) (aZ jm jJ (hr.mono (by decide)) rfl (aa (pv 0) (aa (pv 2) aC))))
   (aF (bh (Fz (bL zR (by rfl) T.xX PyProof.Rows.boot_isinstance (aa (pv 9) (aa (ES (v:=.ty "list") rfl T.mj Tc rfl) aC))) (Fl (nU (qS hr.units) (pv 9) (pv 4) (bz _)))))))))))),?_⟩
 have hS0:gB M (cE sk ea) [] = [0,0,0]:=rfl
 refine⟨(by show 3 ≤ sizeLine;decide),λ z0 hz0=>?_⟩
 refine aT [some (.ref p),some (.ref ld),some (.ref wl),some (.ref pa),some (.ref tb),some (.ref rl),some (.ref z0),none,none,none] ?_
 have s1:az H (upd H z0 (.tup [V.int 0,V.int 0,V.int 0])):=az.new hz0
 have hz1:upd H z0 (.tup [V.int 0,V.int 0,V.int 0]) z0=some (.tup ((gB M (cE sk ea) []).map V.int)):=ak
 generalize upd H z0 (.tup [V.int 0,V.int 0,V.int 0])=H1 at s1 hz1 ⊢
 dsimp only
 refine bY (λ σ H'=>σ = [some (.ref p),some (.ref ld),some (.ref wl),some (.ref pa),some (.ref tb),some (.ref rl),some (.ref z0),some .non,none,none] /\ H1=H') (λ N hN=>hN _ _ ⟨rfl,rfl⟩) ?_
 rintro σ _ ⟨rfl,rfl⟩
 refine bY (λ σ H'=>∃(du:Addr) (v8:Option V),σ = [some (.ref p),some (.ref ld),some (.ref wl),some (.ref pa),some (.ref tb),some (.ref rl),some (.ref du),some (fbV (gx M way)),v8,none] /\ az H H' /\ H' du=some (.tup ((gB M (cE sk ea) way).map V.int))) (λ N hN=>?_) ?_
 ·refine⟨_,rfl,wl,rfl,⟨_,SqL.of (s1 _ _ hwl)⟩,gF (K:=K) (a:=wl) (xs:=way.map V.int) (λ i σ H'=>∃(du:Addr) (v8:Option V),σ = [some (.ref p),some (.ref ld),some (.ref wl),some (.ref pa),some (.ref tb),some (.ref rl),some (.ref du),some (fbV (gx M (way.take i))),v8,none] /\ az H H' /\ H' du=some (.tup ((gB M (cE sk ea) (way.take i)).map V.int))) ⟨z0,none,rfl,s1,hz1⟩ (λ i σ H' _ z0=>by obtain⟨_,_,_,s',_⟩:=z0;exact SqL.of (s' _ _ hwl)) ?_ ?_⟩
  ·rintro i v σ H2 hi ⟨du,v8,rfl,s2,hdu⟩
   rw [QK] at hi
   obtain⟨n',hn',rfl⟩:=QX.mp hi
   obtain⟨u,hu⟩:=hall n' (QJ hn')
   obtain⟨v',hv',t,rfl,ht,hl100⟩:=S.lr.ff n' u hu
   have htk:way.take (i + 1)=way.take i ++ [n']:=by rw [Rn,hn'];rfl
   have hgt:∀ {H3:Hp},az H H3->dJ H3 ld (.int n') (some (V.ref t)):=λ s=>by have:=dJ.k (k:=Sum.inl n') (s _ _ S.ld_);rw [hv'] at this;exact this
   refine aT [some (.ref p),some (.ref ld),some (.ref wl),some (.ref pa),some (.ref tb),some (.ref rl),some (.ref du),some (fbV (gx M (way.take i))),some (.int n'),none] ?_
   refine⟨_,rfl,_,rfl,_,rfl,ld,V.ref t,rfl,hgt s2,_,rfl,du,t,rl,_,sk,ea,n',u,rfl,De _ _ _,hdu,⟨t,rfl,s2 _ _ ht,hl100⟩,s2 _ _ hrl,λ r hr'=>?_⟩
   refine aT [some (.ref p),some (.ref ld),some (.ref wl),some (.ref pa),some (.ref tb),some (.ref rl),some (.ref r),some (fbV (gx M (way.take i))),some (.int n'),none] ?_
   have s3:az H2 (upd H2 r (.tup ((bO (gB M (cE sk ea) (way.take i)) (gA (cE sk ea) n' u)).map V.int))):=az.new hr'
   have hr3:upd H2 r (.tup ((bO (gB M (cE sk ea) (way.take i)) (gA (cE sk ea) n' u)).map V.int)) r=some (.tup ((gB M (cE sk ea) (way.take (i + 1))).map V.int)):=by rw [ak,htk,uU hu]
   generalize upd H2 r (.tup ((bO (gB M (cE sk ea) (way.take i)) (gA (cE sk ea) n' u)).map V.int))=H3 at s3 hr3 ⊢
   have s03:=s2.trans s3
   have ht3:=s03 _ _ ht
   dsimp only
   rw [htk] at hr3 ⊢
   have hfb:=wF (way:=way.take i) hu (λ m hm=>hall m (List.mem_of_mem_take hm))
   cases hf:gx M (way.take i) with
   | some dd =>
    rw [hf] at hfb
    refine pN (λ Qb hq=>?_) ⟨r,_,by rw [hfb],s03,hr3⟩
    exact⟨_,rfl,rfl,_,rfl,jN (show ¬ fbV (some dd)=V.non from λ z=>by cases z) hq⟩
   | none =>
    rw [hf] at hfb
    cases hg:u.good with
    | true =>
     rw [hg,if_pos rfl] at hfb
     refine pN (λ Qb hq=>?_) ⟨r,_,by rw [hfb],s03,hr3⟩
     refine⟨_,rfl,rfl,_,rfl,dX ⟨_,rfl,_,rfl,ld,V.ref t,rfl,hgt s03,t,_,_,V.int (cJ u),rfl,rfl,SqT.of ht3,bw (j:=2) rfl,rfl,_,rfl,?_⟩⟩
     rw [show cJ u=0 by unfold cJ;rw [hg];rfl,QY (show ¬ V.int 0=V.int 1 from λ z=>by cases z)]
     exact hq
    | false =>
     rw [hg,if_neg (by decide)] at hfb
     refine rC (λ Qb hq=>?_) ?_
     ·refine⟨_,rfl,rfl,_,rfl,dX ⟨_,rfl,_,rfl,ld,V.ref t,rfl,hgt s03,t,_,_,V.int (cJ u),rfl,rfl,SqT.of ht3,bw (j:=2) rfl,rfl,_,rfl,?_⟩⟩
      rw [show cJ u=1 by unfold cJ;rw [hg];exact if_neg (by decide),Rq rfl]
      exact hq
     ·exact⟨_,rfl,_,rfl,ld,V.ref t,rfl,hgt s03,t,_,_,V.int (u.d:Int),rfl,rfl,SqT.of ht3,bw (j:=1) rfl,r,_,by rw [hfb];rfl,s03,hr3⟩
  ·rintro σ H2 ⟨du,v8,rfl,s2,hdu⟩
   rw [QG,RA] at hdu ⊢
   exact hN _ _ ⟨du,v8,rfl,s2,hdu⟩
 rintro σ H2 ⟨du,v8,rfl,s2,hdu⟩
 refine pN (λ Qb hq=>⟨_,rfl,_,rfl,0,true,by decide,B9 hdu (s2 _ _ hpa),_,rfl,hq⟩) ?_
 try unfold ly
 dsimp only
 obtain⟨f1,f2⟩:=DO hM hgo hne
 have hwl2:=s2 _ _ hwl
 have S2:=S.keep s2
 cases hf:gx M way with
 | some dd =>
  refine rC (λ Qb hq=>⟨_,rfl,rfl,_,rfl,hq⟩) ?_
  exact⟨_,rfl,_,rfl,_,rfl,p,d,ld,wl,n,wd,dd,M,kvs,lkv,way,rfl,S2,λ m u e=>(hM m u e).ok,hwl2,hwn,f1 dd hf,λ H3 s3=>q _ (s2.trans s3)⟩
 | none =>
  refine pN (λ Qb hq=>⟨_,rfl,rfl,_,rfl,hq⟩) ?_
  try unfold ly
  dsimp only
  obtain⟨tab',g1,g2⟩:=f2 hf
  rw [htab] at g2
  cases g2
  refine⟨_,rfl,_,rfl,p,d,wl,(n:Int),kvs,M,way,wd,rfl,S2.sh,S2.sr,(λ m u e=>(hM m u e).ok),hwl2,by omega,λ t ht l H3 hl nl s3=>?_,(λ m hm=>by rw [g1] at hm;cases hm),(λ k hk=>by rw [g1] at hk;cases hk),(λ d2 hd2=>by rw [g1] at hd2;cases hd2)⟩
  rw [g1] at ht
  cases ht
  refine aT [some (.ref p),some (.ref ld),some (.ref wl),some (.ref pa),some (.ref tb),some (.ref rl),some (.ref du),some .non,v8,some (.ref l)] ?_
  refine⟨_,rfl,_,_,_,_,true,rfl,rfl,.lst hl,rfl,_,rfl,dX ⟨_,rfl,_,rfl,0,true,by decide,zz hl (s3 _ _ (s2 _ _ htb)),q _ (s2.trans s3)⟩⟩
theorem FN {f:Addr} {fd:FuncData} (F:Fun K "law" "law" lz f fd) (T:Txt K mg t_W aE aG aD aI aB aH aA aK ah ao ay) (gg:DefX P w K mg base "_law_cell_at" 1 ["_law_script","_law_k"] (vU K)) (vS:kg P w K mg base "Shelf" ay 1 ["self"] (um ay)) (gz:DefX P w K mg base "_law_put" 8 ["_law_shelf","_law_facts","_law_piece","_law_fact","_law_cell"] (pH ay ah ao)) (iI:oj P w K mg base "Whole" ah 4 ["self","day","rows","check"] [Value.none] (j5 ah ao)) (oH:DefX P w K mg base "_law_day" 2 ["_law_cell","_law_tables","_law_places"] uH) (nu:DefX P w K mg base "_law_kept" 9 ["_law_cell","_law_tables","_law_places","_law_shelf","_law_facts"] (qT ay ah ao)) (qj:DefX P w K mg base "legs_of" 6 ["shelf","cost"] (qf ay ah ao)) (zy:DefX P w K mg base "rate" 1 ["seek","each"] (tT iy (Ed dh) "cost" "rate.<locals>.cost" (aN dh) (aJ dh) (av dh) ["seek","each"])) (jQ:DefX P w K mg base "prices" 4 ["legs"] mX) (gM:DefX P w K mg base "last_legs" 5 ["legs"] sj) (lX:DefX P w K mg base "_law_least" 2 ["_law_facts","_law_known","_law_rates"] pJ) (m8:DefX P w K mg base "_law_good" 8 ["_law_shelf","_law_facts","_law_way","_law_price","_law_table","_law_rates"] (qO ay ah ao)) (j8:DefX P w K mg base "_law_back" 1 ["_law_facts","_law_lasts","_law_day_here"] qP) (oY:DefX P w K mg base "way_of" 6 ["legs","day"] ye):aX P w K mg base (CXx P w) 10 f fd ["_law_script"] (qv K [(cc_rate,iy)]):=by
 refine F.okX dY (λ vs H Q E h=>?_) (λ cdv A outer s H vs Q E hr h=>?_)
 ·obtain⟨a,ns,rfl,hS,hlen,hT,q⟩:=h;rfl
 obtain⟨a,ns,rfl,hS,hlen,hT,q⟩:=h
 refine⟨_,(au (aL (i:=1) dY.nd rfl (Or.inl rfl) (aZ gg aM (hr.mono (by decide)) rfl (aa (pv 0) (aa aq aC))))
   (au (aL (i:=2) dY.nd rfl (Or.inl rfl) (aO bN aq (aO cg (pv 1) aq)))
   (au (ck (bx jw (aO cg (aO fO (pv 1) aq) aq) aq (bz _)) (aF (aL (i:=2) dY.nd rfl (Or.inl rfl) aq)) bK)
   (au (aL (i:=3) dY.nd rfl (Or.inl rfl) (aQ aW (dN (aa aq (aa (aO bN (oB (n:=1000000000000000000000000)) aq) aC))) (aO cg (aO fO (pv 1) aq) aq) (λ _ _=>rfl)))
   (au (aL (i:=4) dY.nd rfl (Or.inl rfl) (dN (aa (aO cg (aO iB (aZ gg aM (hr.mono (by decide)) rfl (aa (pv 0) (aa aq aC))) aq) (pv 3)) (aa (aO cg (aO iB (aZ gg aM (hr.mono (by decide)) rfl (aa (pv 0) (aa aq aC))) aq) (pv 3)) aC))))
   (au (aL (i:=5) dY.nd rfl (Or.inl rfl) (dN (aa (aO Ge (dN (aa aq aC)) (pv 2)) aC)))
   (au (aL (i:=6) dY.nd rfl (Or.inl rfl) (dN (aa iC aC)))
   (au (aL (i:=7) dY.nd rfl (Or.inl rfl) (wR vS aM (hr.mono (by decide)) rfl))
   (au (aL (i:=8) dY.nd rfl (Or.inl rfl) iC)
   (au (ck (bx rO (aO cg (aO fO (pv 1) aq) aq) aq (bz _)) (aF (bP (aZ gz aM (hr.mono (by decide)) rfl (aa (pv 7) (aa (pv 8) (aa (qu (dvs:=[V.non]) iI (Paired.cons rfl Paired.nil) aM (hr.mono (by decide)) rfl (aa aq (aa (sU rfl rfl T.mj rfl T.nc (aQ aW (pv 5) aq (λ _ _=>rfl))) aC))) (aa (dZ (aa (iY gI aq) (aa aq (aa (pv 2) aC)))) (aa (pv 1) aC)))))))) bK)
   (au (eX Ra rfl (fT (uu Fb (pv 0) (r8 aq) (r8 aq))) (bH (i:=9) dY.nd rfl (Or.inl rfl))
   (au (bP (aZ oH aM (hr.mono (by decide)) rfl (aa (pv 9) (aa (pv 5) (aa (pv 6) aC)))))
   (aF (bP (aZ nu aM (hr.mono (by decide)) rfl (aa (pv 9) (aa (pv 5) (aa (pv 6) (aa (pv 7) (aa (pv 8) aC))))))))))
   (au (aL (i:=10) dY.nd rfl (Or.inl rfl) (aZ qj aM (hr.mono (by decide)) rfl (aa (pv 7) (aa (aZ zy aM (hr.mono (by decide)) rfl (aa (aQ aW (pv 4) aq (λ _ _=>rfl)) (aa (aQ aW (pv 4) aq (λ _ _=>rfl)) aC))) aC))))
   (au (aL (i:=11) dY.nd rfl (Or.inl rfl) (aZ jQ aM (hr.mono (by decide)) rfl (aa (pv 10) aC)))
   (au (aL (i:=12) dY.nd rfl (Or.inl rfl) (aZ gM aM (hr.mono (by decide)) rfl (aa (pv 10) aC)))
   (au (ck (yX (uW (aZ lX aM (hr.mono (by decide)) rfl (aa (pv 8) (aa (pv 11) (aa (pv 4) aC)))))) (aF (bh r9)) bK)
   (au (Aa (eX Ra rfl (Ae (pv 11)) (bH (i:=13) dY.nd rfl (Or.inl rfl))
   (aF (ck (yX (uW (aZ m8 aM (hr.mono (by decide)) rfl (aa (pv 7) (aa (pv 8) (aa (aZ j8 aM (hr.mono (by decide)) rfl (aa (pv 8) (aa (pv 12) (aa (pv 13) aC)))) (aa (cX (bS hr) (pv 11) (pv 13) (λ _ _=>rfl)) (aa (aQ aW (pv 5) (pv 13) (λ _ _=>rfl)) (aa (pv 4) aC))))))))) (aF (bh r9)) bK))))
   (au (aL (i:=14) dY.nd rfl (Or.inl rfl) (aO iT (bL bF (by rfl) T.fM Ru (aa (pv 5) aC)) aq))
   (au (ck (mq (ko (bS hr) (pv 14) (pv 11))) (aF (bh (nU yV (aZ oY aM (hr.mono (by decide)) rfl (aa (pv 10) (aa (pv 14) aC))) kF (bz _)))) bK)
   (aF (bh (nU (qS hr.units) (aZ oY aM (hr.mono (by decide)) rfl (aa (pv 10) (aa (pv 14) aC))) (aZ j8 aM (hr.mono (by decide)) rfl (aa (pv 8) (aa (pv 12) (aa (pv 14) aC)))) (bz _)))))))))))))))))))))),?_⟩
 have hTr:H iy=some (.tbl #[]):=hT (cc_rate,iy) (by simp)
 have upK:∀ {H4:Hp} {x dx:Addr} {o:HO},H4 x=none->H4 dx=none->∀ t o',H4 t=some o'->upd (upd H4 dx (.own x)) x o t=some o':=λ hx hd t o' e=>by rw [af (aj e hx),af (aj e hd)];exact e
 refine bY (λ σ H'=>∃ c0:Int,σ = [some (.ref a),some (.int c0),none,none,none,none,none,none,none,none,none,none,none,none,none] /\ H=H') (λ N hN=>?_) ?_
 ·exact⟨_,rfl,a,ns,0,rfl,hS,hN _ _ ⟨_,rfl,rfl⟩⟩
 rintro σ _ ⟨c0,rfl,rfl⟩
 refine bY (λ σ H'=>∃ wd:Nat,σ = [some (.ref a),some (.int c0),some (.int (wd:Int)),none,none,none,none,none,none,none,none,none,none,none,none] /\ H=H' /\ 0 < wd /\ wd ≤ 40) (λ N hN=>?_) ?_
 ·obtain⟨wd,hwd,hw⟩:∃ wd:Nat,1 + c0 % 8 =(wd:Int) /\ 0 < wd /\ wd ≤ 40:=⟨(1 + c0 % 8).toNat,by omega,by omega,by omega⟩
  exact⟨_,rfl,_,_,rfl,rfl,(by first | decide |(dsimp only;decide)),_,_,rfl,rfl,hN _ _ ⟨wd,by dsimp only;rw [hwd];rfl,rfl,hw⟩⟩
 rintro σ _ ⟨wd0,rfl,rfl,hw0⟩
 refine bY (λ σ H'=>∃ wd:Nat,σ = [some (.ref a),some (.int c0),some (.int (wd:Int)),none,none,none,none,none,none,none,none,none,none,none,none] /\ H=H' /\ 0 < wd /\ wd ≤ 40) (λ N hN=>?_) ?_
 ·refine qc (λ Qb y1 y2=>?_) ?_ ?_
  ·refine⟨_,rfl,_,_,rfl,rfl,⟨by first | decide |(dsimp only;decide),by first | decide |(dsimp only;decide)⟩,_,_,rfl,rfl,(by first | decide |(dsimp only;decide)),rfl,_,rfl,?_⟩
   exact Bx _ y1 y2
  ·exact hN _ _ ⟨40,rfl,rfl,by omega,by omega⟩
  ·exact hN _ _ ⟨wd0,rfl,rfl,hw0⟩
 rintro σ _ ⟨wd,rfl,rfl,hwp,hw⟩
 refine bY (λ σ H'=>∃ m:Int,σ = [some (.ref a),some (.int c0),some (.int (wd:Int)),some (.int m),none,none,none,none,none,none,none,none,none,none,none] /\ az H H' /\ 0 < m /\ m ≤ 10 ^ 24 + 1) (λ N hN=>?_) ?_
 ·refine⟨_,_,rfl,rfl,(by show 2 ≤ sizeLine;decide),λ p1 hp1=>?_⟩
  obtain⟨m,em,hm⟩:=Cu (x:=10) (y:=1000000000000000000000000 + 1) (k:=c0 / 64 % 2) (by omega) (by omega)
  exact⟨_,rfl,_,_,rfl,rfl,⟨by first | decide |(dsimp only;decide),by first | decide |(dsimp only;decide)⟩,_,_,rfl,rfl,(by first | decide |(dsimp only;decide)),p1,_,_,V.int m,rfl,rfl,SqL.of ak,em,hN _ _ ⟨m,rfl,az.new hp1,by rcases hm with rfl | rfl <;> omega,by rcases hm with rfl | rfl <;> omega⟩⟩
 rintro σ H1 ⟨m,rfl,s1,hm0,hm1⟩
 have hS1:=s1.seq hS
 refine bY (λ σ H'=>∃(rl:Addr) (sk ea:Int),σ = [some (.ref a),some (.int c0),some (.int (wd:Int)),some (.int m),some (.ref rl),none,none,none,none,none,none,none,none,none,none] /\ az H1 H' /\ H' rl=some (.lst [.int sk,.int ea]) /\ 0 ≤ sk /\ 0 ≤ ea /\ ea < 10 ^ 30) (λ N hN=>?_) ?_
 ·refine⟨_,rfl,a,ns,1,rfl,hS1,_,_,rfl,rfl,.inr ⟨by decide,by decide⟩,_,rfl,_,_,rfl,rfl,hm0,?_⟩
  refine⟨_,rfl,a,ns,2,rfl,hS1,_,_,rfl,rfl,.inr ⟨by decide,by decide⟩,_,rfl,_,_,rfl,rfl,hm0,(by show 2 ≤ sizeLine;decide),λ rl hrl=>?_⟩
  have z0:=Ss (mU ns ((1:Nat):Int) * 982451653) (show m ≠ 0 by omega)
  have z1:=Ss (mU ns ((2:Nat):Int) * 961748941) (show m ≠ 0 by omega)
  have z2:=Sk (mU ns ((2:Nat):Int) * 961748941) hm0
  exact hN _ _ ⟨rl,_,_,rfl,az.new hrl,ak,z0,z1,by omega⟩
 rintro σ H2 ⟨rl,sk,ea,rfl,s2,hrl,hsk,hea,hea1⟩
 refine bY (λ σ H'=>∃ tl t0:Addr,σ = [some (.ref a),some (.int c0),some (.int (wd:Int)),some (.int m),some (.ref rl),some (.ref tl),none,none,none,none,none,none,none,none,none] /\ az H2 H' /\ H2 tl=none /\ H2 t0=none /\ tl ≠ t0 /\ H' tl=some (.lst [.ref t0]) /\ H' t0=some (.lst ((List.replicate wd (0:Int)).map V.int))) (λ N hN=>?_) ?_
 ·refine⟨(by show 1 ≤ sizeLine;decide),λ z hz=>⟨_,rfl,z,(wd:Int),_,rfl,rfl,ak,by omega,by omega,(by show 1 * _ ≤ sizeLine;exact RM (aY (by omega))),λ t ht=>⟨(by show 1 ≤ sizeLine;decide),λ tl htl=>?_⟩⟩⟩
  have z1:az H2 (upd H2 z (.lst [V.int 0])):=az.new hz
  generalize upd H2 z (.lst [V.int 0])=G1 at z1 ht htl ⊢
  rw [show((wd:Int)).toNat=wd by omega,yd]
  rw [show((wd:Int)).toNat=wd by omega,yd] at htl
  have z2:az G1 (upd G1 t (.lst ((List.replicate wd 0).map V.int))):=az.new ht
  have ht2:upd G1 t (.lst ((List.replicate wd 0).map V.int)) t=some (.lst ((List.replicate wd 0).map V.int)):=ak
  generalize upd G1 t (.lst ((List.replicate wd 0).map V.int))=G2 at z2 ht2 htl ⊢
  have z3:az G2 (upd G2 tl (.lst [V.ref t])):=az.new htl
  exact hN _ _ ⟨tl,t,rfl,z1.trans (z2.trans z3),(z1.trans z2).free htl,z1.free ht,(aj ht2 htl).symm,ak,z3 _ _ ht2⟩
 rintro σ H3 ⟨tl,t0,rfl,s3,ntl,nt0,ntt,htl,ht0⟩
 refine bY (λ σ H'=>∃ pl b0:Addr,σ = [some (.ref a),some (.int c0),some (.int (wd:Int)),some (.int m),some (.ref rl),some (.ref tl),some (.ref pl),none,none,none,none,none,none,none,none] /\ az H3 H' /\ H3 pl=none /\ H3 b0=none /\ H' pl=some (.lst [.ref b0]) /\ H' b0=some (.dK [])) (λ N hN=>?_) ?_
 ·refine λ b0 hb0=>⟨(by show 1 ≤ sizeLine;decide),λ pl hpl=>?_⟩
  have z:=az.new (o:=.dK []) hb0
  exact hN _ _ ⟨pl,b0,rfl,z.trans (az.new hpl),z.free hpl,hb0,ak,az.new hpl _ _ ak⟩
 rintro σ H4 ⟨pl,b0,rfl,s4,npl,nb0,hpl,hb0⟩
 refine bY (λ σ H'=>∃ p d:Addr,σ = [some (.ref a),some (.int c0),some (.int (wd:Int)),some (.int m),some (.ref rl),some (.ref tl),some (.ref pl),some (.ref p),none,none,none,none,none,none,none] /\ az H4 H' /\ gw ay H' p d 0 [] /\ H4 p=none /\ H4 d=none) (λ N hN=>?_) ?_
 ·refine λ p dx hp hdx ne=>⟨p,dx,rfl,ak,λ d H5 hSh hd k5=>⟨rfl,hN _ _ ⟨p,d,rfl,jh hp hdx k5,hSh,hp,?_⟩⟩⟩
  exact(yf (yf hd).1).1
 rintro σ H5 ⟨p,d,rfl,s5,hSh5,np,nd⟩
 refine bY (λ σ H'=>∃ ld:Addr,σ = [some (.ref a),some (.int c0),some (.int (wd:Int)),some (.int m),some (.ref rl),some (.ref tl),some (.ref pl),some (.ref p),some (.ref ld),none,none,none,none,none,none] /\ az H4 H' /\ G39 ay ah ao iy H' rl tl pl p d ld sk ea wd 0 [] [t0] [b0] (λ _=>none) [] []) (λ N hN=>?_) ?_
 ·intro ld hld
  have s6:az H5 (upd H5 ld (.dK [])):=az.new hld
  have hld6:upd H5 ld (.dK []) ld=some (.dK []):=ak
  obtain⟨dx,g1,g2⟩:=id hSh5
  have ndl:d ≠ ld:=aj g2 hld
  have nlb:b0 ≠ ld:=aj (s5 _ _ hb0) hld
  generalize upd H5 ld (.dK [])=H6 at s6 hld6 ⊢
  have s36:=(s4.trans s5).trans s6
  have s46:=s5.trans s6
  refine hN _ _ ⟨ld,rfl,s46,⟨⟨s36 _ _ htl,s46 _ _ hpl,⟨rfl,λ i x xs e1 e2=>?_⟩,rfl,λ i x xs e1 e2=>?_,aj htl npl,by simpa using ntt,by simpa using (aj ht0 npl).symm⟩,⟨hSh5.keep s6,eU.nil,hld6,eU.nil,ndl,rfl,rfl⟩,s36 _ _ (s3 _ _ hrl),s36 _ _ (s3 _ _ (s2 _ _ (s1 _ _ hTr))),aj hrl ntl,aj (s3 _ _ hrl) npl,by simpa using (aj hb0 nd).symm,by simpa using nlb.symm,λ cs h=>(by cases h),λ m u e=>(by cases e)⟩⟩
  ·cases i with
   | zero=>cases e1;cases e2;exact s36 _ _ ht0
   | succ i=>simp at e1
  ·cases i with
   | zero=>cases e1;cases e2;exact⟨[],s46 _ _ hb0,bM.iff bM.nil λ k=>by simp⟩
   | succ i=>simp at e1
 rintro σ H6 ⟨ld,rfl,s6,G6⟩
 have hS6:=s6.seq (s4.seq (s3.seq (s2.seq hS1)))
 refine bY (λ σ H'=>∃(n:Nat) (M:bC) (kvs lkv:List (Key × V)),σ = [some (.ref a),some (.int c0),some (.int (wd:Int)),some (.int m),some (.ref rl),some (.ref tl),some (.ref pl),some (.ref p),some (.ref ld),none,none,none,none,none,none] /\ n ≤ 1 /\ aV [p,d,ld] H6 H' /\ G39 ay ah ao iy H' rl tl pl p d ld sk ea wd n [] [t0] [b0] M kvs lkv) (λ N hN=>?_) ?_
 ·refine qc (λ Qb y1 y2=>?_) ?_ ?_
  ·refine⟨_,rfl,_,_,rfl,rfl,⟨by first | decide |(dsimp only;decide),by first | decide |(dsimp only;decide)⟩,_,_,rfl,rfl,(by first | decide |(dsimp only;decide)),_,_,rfl,rfl,_,rfl,?_⟩
   exact Bx _ y1 y2
  ·have htab:(bu wd [])[0]? = some (List.replicate wd 0):=rfl
   have hTok:=tabs_ok G6.ok _ (QJ htab)
   have hT64:=CO G6.ok _ (QJ htab)
   have ht06:H6 t0=some (.lst ((List.replicate wd (0:Int)).map V.int)):=G6.dy.lt.get 0 t0 _ rfl htab
   refine⟨_,rfl,_,rfl,_,rfl,tl,_,_,V.ref t0,rfl,rfl,SqL.of G6.dy.tl_,rfl,t0,_,rfl,SqL.of ht06,λ r ts H7 nr s7 hts hr7 hEn=>?_⟩
   have R7:=enum_rows hEn hts hTok.2
   refine λ x dx hx hd ne=>⟨x,dx,r,0,_,dW (List.replicate wd 0),.non,_,rfl,ak,.inl (upK hx hd _ _ hr7),R7.mono (λ t xs e=>upK hx hd t _ e),by rw [fL,hTok.1];omega,.inl ⟨rfl,rfl⟩,λ J hP k=>⟨rfl,?_⟩⟩
   have sJ:=s7.trans (jh hx hd k)
   refine⟨_,rfl,_,rfl,(by show 3 ≤ sizeLine;decide),λ tf htf=>?_⟩
   have s8:az J (upd J tf (.tup [V.int (-1),V.int 0,V.int (wd:Int)])):=az.new htf
   have htf8:upd J tf (.tup [V.int (-1),V.int 0,V.int (wd:Int)]) tf=some (.tup [V.int (-1),V.int 0,V.int (wd:Int)]):=ak
   generalize upd J tf (.tup [V.int (-1),V.int 0,V.int (wd:Int)])=J3 at s8 htf8 ⊢
   have s68:=sJ.trans s8
   have hcw:=sS hw G6.ok htab
   refine⟨_,rfl,p,d,ld,x,tf,c0,0,wd,_,[],[],⟨true,0,0,dW (List.replicate wd 0),(d8 true 0 0 (dW (List.replicate wd 0)):Nat)⟩,bu wd [],rfl,G6.s.keep s68,by omega,?_,hP.keep s8,rfl,hcw,⟨by show 0 < 2 ^ 63;decide,by show 0 < 2 ^ 63;decide⟩,Ax (by rw [hTok.1];exact hw) hT64,λ u' kv kw H9 hc9 S9 k9=>?_⟩
   ·rw [htf8]
    show some (HO.tup [V.int (-1),V.int 0,V.int (wd:Int)])=some (HO.tup [V.int (-1),V.int 0,V.int ((dW (List.replicate wd (0:Int))).length:Int)])
    rw [fL,RZ]
   have k69:aV [p,d,ld] H6 H9:=λ b o e hb=>k9 b o (s68 b o e) hb
   refine hN _ _ ⟨1,_,kv,kw,rfl,by omega,k69,G6.put k69 S9 λ m u e=>?_⟩
   by_cases em:m =((0:Nat):Int)
   ·rw [em,om] at e;cases e;exact hc9
   ·rw [oh em] at e;cases e
  ·exact hN _ _ ⟨0,_,[],[],rfl,by omega,aV.refl,G6⟩
 rintro σ H7 ⟨n7,M7,kvs7,lkv7,rfl,hn7,k7,G7⟩
 have hS7:SqL K H7 a (ns.map V.int):=by
  have hF:d7 H6 [p,d,ld]:=λ x hx=>by
   obtain⟨dx,h1,h2⟩:=id G6.s.sh
   simp only [List.mem_cons,List.not_mem_nil,or_false] at hx
   rcases hx with rfl | rfl | rfl
   ·exact .inr ⟨ay,dx,_,_,h1⟩
   ·exact .inl ⟨_,h2⟩
   ·exact .inl ⟨_,G6.s.ld_⟩
  exact hF.seq k7 hS6
 obtain⟨cs,hcs,hcl⟩:=Hu ns
 refine bY (λ σ H'=>∃(v9:Option V) (n:Nat) (chss:List (List (Int × Int))) (LT PL:List Addr) (M:bC) (kvs lkv:List (Key × V)),σ = [some (.ref a),some (.int c0),some (.int (wd:Int)),some (.int m),some (.ref rl),some (.ref tl),some (.ref pl),some (.ref p),some (.ref ld),v9,none,none,none,none,none] /\ n ≤ 81 /\ chss.length ≤ 40 /\ G39 ay ah ao iy H' rl tl pl p d ld sk ea wd n chss LT PL M kvs lkv) (λ N hN=>?_) ?_
 ·refine⟨_,rfl,_,rfl,_,rfl,a,_,rfl,hS7,λ c1 hc1=>?_⟩
  rw [hcs]
  have s8:az H7 (upd H7 c1 (.lst (cs.map V.int))):=az.new hc1
  have hc8:upd H7 c1 (.lst (cs.map V.int)) c1=some (.lst (cs.map V.int)):=ak
  have nct:c1 ≠ tl:=(aj G7.dy.tl_ hc1).symm
  have ncp:c1 ≠ pl:=(aj G7.dy.pl_ hc1).symm
  generalize upd H7 c1 (.lst (cs.map V.int))=H8 at s8 hc8 ⊢
  refine⟨c1,rfl,⟨_,SqL.of hc8⟩,gF (K:=K) (a:=c1) (xs:=cs.map V.int) (λ i σ H'=>∃(v9:Option V) (n:Nat) (chss:List (List (Int × Int))) (LT PL:List Addr) (M:bC) (kvs lkv:List (Key × V)),σ = [some (.ref a),some (.int c0),some (.int (wd:Int)),some (.int m),some (.ref rl),some (.ref tl),some (.ref pl),some (.ref p),some (.ref ld),v9,none,none,none,none,none] /\ n ≤ 1 + 2 * i /\ chss.length=i /\ H' c1=some (.lst (cs.map V.int)) /\ G39 ay ah ao iy H' rl tl pl p d ld sk ea wd n chss LT PL M kvs lkv) ⟨none,n7,[],[t0],[b0],M7,kvs7,lkv7,rfl,by omega,rfl,hc8,G7.keep s8⟩ (λ i σ H' _ z0=>by obtain⟨_,_,_,_,_,_,_,_,_,_,_,e,_⟩:=z0;exact SqL.of e) ?_ ?_⟩
  ·rintro i v σ H9 hi ⟨v9,n,chss,LT,PL,M,kvs,lkv,rfl,hn,hcn,hc9,G9⟩
   rw [QK] at hi
   obtain⟨cc,hcc,rfl⟩:=QX.mp hi
   have hil:=(QE.mp hcc).1
   refine aT [some (.ref a),some (.int c0),some (.int (wd:Int)),some (.int m),some (.ref rl),some (.ref tl),some (.ref pl),some (.ref p),some (.ref ld),some (.int cc),none,none,none,none,none] ?_
   refine⟨_,rfl,_,rfl,_,rfl,cc,tl,pl,wd,chss,LT,PL,rfl,G9.dy,hwp,hw,G9.ok,by omega,λ cs1 t b HA hcs1 dyA kA nt nb=>?_⟩
   have GA:=G9.day kA dyA nb hcs1
   have hcA:HA c1=some (.lst (cs.map V.int)):=kA _ _ hc9 (by simp [nct,ncp])
   refine⟨_,rfl,_,rfl,_,rfl,_,rfl,_,rfl,cc,tl,pl,p,d,ld,wd,n,chss ++ [cs1],LT ++ [t],PL ++ [b],M,kvs,lkv,rfl,GA.dy,GA.n1,GA.n2,hwp,hw,GA.ok,by simp,by simp;omega,GA.s,by omega,GA.car,λ n' M' kvs' lkv' HB h1 h2 hcar SB kB=>?_⟩
   exact⟨_,n',_,_,_,M',kvs',lkv',rfl,by omega,by simp [hcn],kB _ _ hcA (GA.PZ hcA),GA.put kB SB hcar⟩
  ·rintro σ H9 ⟨v9,n,chss,LT,PL,M,kvs,lkv,rfl,hn,hcn,hc9,G9⟩
   rw [QG] at hn hcn
   exact hN _ _ ⟨v9,n,chss,LT,PL,M,kvs,lkv,rfl,by omega,by omega,G9⟩
 rintro σ H8 ⟨v9,n,chss,LT,PL,M,kvs,lkv,rfl,hn,hcn,G8⟩
 have hpr0:∀ u,0 ≤ cE sk ea u:=λ u=>by
  have:=Int.mul_nonneg hea (show(0:Int) ≤(u.rows.length:Int) by omega)
  unfold cE;omega
 refine bY (λ σ H'=>∃(l:Addr) (LV:List V) (ms:List Int) (HC:Hp),σ = [some (.ref a),some (.int c0),some (.int (wd:Int)),some (.int m),some (.ref rl),some (.ref tl),some (.ref pl),some (.ref p),some (.ref ld),v9,some (.ref l),none,none,none,none] /\ aV [iy] H8 HC /\ az HC H' /\ H' l=some (.lst LV) /\ iU M ms /\ cM H' LV M ms (cE sk ea)) (λ N hN=>?_) ?_
 ·refine⟨_,rfl,_,rfl,rl,_,_,V.int sk,rfl,rfl,SqL.of G8.rl_,rfl,_,rfl,rl,_,_,V.int ea,rfl,rfl,SqL.of G8.rl_,rfl,.int sk,.int ea,rfl,.inl G8.tb,λ g HC hM _ hts kC=>?_⟩
  have SC:=S39.jG G8.s G8.tb kC
  exact⟨p,d,g,(n:Int),kvs,M,cE sk ea,rfl,SC.sh,SC.sr,SC.few (by omega),⟨sk,ea,⟨hea,hea1⟩,hM,λ _=>rfl⟩,(λ m u e=>Rp (G8.car m u e).rl (by decide)),λ l LV ms HD hl nl hso hlg sD=>hN _ _ ⟨l,LV,ms,HC,rfl,kC,sD,hl,hso,hlg⟩⟩
 rintro σ H9 ⟨ll,LV,ms,HC,rfl,kC,sC,hll,hso,hlg⟩
 have nT:∀ {x:Addr} {o:HO},H8 x=some o->(∀ ps,o ≠ .tbl ps)->x ∉ [iy]:=λ {x o} e h=>by
  have:x ≠ iy:=λ z=>by rw [z,G8.tb] at e;cases e;exact h _ rfl
  simpa using this
 have S9:=(S39.jG G8.s G8.tb kC).keep sC
 have D9:fm H9 tl pl wd chss LT PL:=(G8.dy.ig kC (λ f xs e=>nT e λ _ z=>by cases z) (λ b hb=>by
  obtain⟨kv,h1⟩:=G8.dy.part b hb
  exact nT h1 λ _ z=>by cases z)).keep sC
 have hrl9:H9 rl=some (.lst [.int sk,.int ea]):=sC _ _ (kC _ _ G8.rl_ (nT G8.rl_ λ _ z=>by cases z))
 have hms:=D8 S9 hso
 have K9:=cM.keys hlg
 have hok9:=Eu hso hpr0
 have hnd9:=Av (pr:=cE sk ea) hso
 have hl9:(fq M (cE sk ea) ms).length=ms.length:=by unfold fq;rw [QG]
 obtain⟨lgs,elgs⟩:∃ lgs,fq M (cE sk ea) ms=lgs:=⟨_,rfl⟩
 refine bY (λ σ H'=>∃(kn:Addr) (kvP:List (Key × V)) (Pp:Int->Option (List Int)),σ = [some (.ref a),some (.int c0),some (.int (wd:Int)),some (.int m),some (.ref rl),some (.ref tl),some (.ref pl),some (.ref p),some (.ref ld),v9,some (.ref ll),some (.ref kn),none,none,none] /\ az H9 H' /\ H9 kn=none /\ H' kn=some (.dK kvP) /\ gE H' kvP (iL Pp (-1)) /\ gD (fq M (cE sk ea) ms) Pp) (λ N hN=>?_) ?_
 ·exact⟨_,rfl,ll,LV,_,rfl,hll,K9,hok9,by omega,λ kn kvP Pp HD hkn PR LP nkn _ sD=>hN _ _ ⟨kn,kvP,Pp,rfl,sD,nkn,hkn,PR,LP⟩⟩
 rintro σ HA ⟨kn,kvP,Pp,rfl,sA,nkn,hknA,PRA,LP⟩
 refine bY (λ σ H'=>∃(ls:Addr) (kvL:List (Key × V)) (L:Int->Option Int),σ = [some (.ref a),some (.int c0),some (.int (wd:Int)),some (.int m),some (.ref rl),some (.ref tl),some (.ref pl),some (.ref p),some (.ref ld),v9,some (.ref ll),some (.ref kn),some (.ref ls),none,none] /\ az HA H' /\ HA ls=none /\ H' ls=some (.dK kvL) /\ kh kvL L /\ cR (fq M (cE sk ea) ms) Pp L) (λ N hN=>?_) ?_
 ·refine⟨_,rfl,ll,LV,_,rfl,sA _ _ hll,K9.mono (λ t ys e=>sA t _ e),hok9,by omega,λ ls kvL P2 L HB hls NA LP2 IL nls _ sB=>hN _ _ ⟨ls,kvL,L,rfl,sB,nls,hls,NA,?_⟩⟩
  have e2:P2=Pp:=funext λ d=>qt LP2 LP d
  rw [← e2];exact IL
 rintro σ HB ⟨ls,kvL,L,rfl,sB,nls,hlsB,NA,IL⟩
 have s9B:=sA.trans sB
 have hknB:=sB _ _ hknA
 have PRB:=PRA.mono λ t ys e=>sB t _ e
 have SB:=S9.keep s9B
 have DB:=D9.keep s9B
 have hrlB:=s9B _ _ hrl9
 have hllB:=s9B _ _ hll
 have nlk:ld ≠ kn:=aj S9.ld_ nkn
 have ndk:d ≠ kn:=by obtain⟨_,_,h2⟩:=S9.sh;exact aj h2 nkn
 have nsk:ls ≠ kn:=(aj hknA nls).symm
 refine vD false (λ H'=>az HB H') (λ Qb hq=>?_) (λ h=>by cases h) (λ _ HC2 sC2=>?_)
 ·exact⟨_,rfl,_,rfl,_,rfl,ld,kn,rl,sk,ea,lkv,kvP,M,ms,Pp,rfl,SB.ld_,SB.lr,hknB,nlk,PRB,hrlB,hso,LP,λ HD sD=>⟨_,rfl,hq _ sD⟩⟩
 try unfold ly
 dsimp only
 have sB2:=sC2
 have hknC:=sC2 _ _ hknB
 have PRC:=PRB.mono λ t ys e=>sC2 t _ e
 have SC:=SB.keep sC2
 have DC:=DB.keep sC2
 have hlsC:=sC2 _ _ hlsB
 have hrlC:=sC2 _ _ hrlB
 have hllC:=sC2 _ _ hllB
 have KC:=(K9.mono λ t ys e=>s9B t _ e).mono λ t ys e=>sC2 t _ e
 have hL1:L (-1)=none:=by
  cases e:L (-1) with
  | none=>rfl
  | some x=>exact absurd rfl (oJ IL hok9 e).1
 have hlkl:=S9.len
 have chain:∀ {day:Int} {q:List Int},Pp day=some q->day ≠ -1->∃ ws,Chain L (fq M (cE sk ea) ms) day ws /\ ws ≠ [] /\ ws.length ≤ lkv.length /\ ∃ dd:Nat,day =(dd:Int) /\ dd <(bu wd chss).length:=λ {day q} hq hd=>by
  obtain⟨b,c,k,rfl⟩:=LP.pr _ _ hq
  obtain⟨ws,hch,hwl⟩:=zd LP IL k day b c hq
  have:=wX LP hq
  obtain⟨g,hg,e1,_⟩:=LP.att day _ hq hd
  obtain⟨u,hu,eu⟩:=(mF hso).mp hg
  refine⟨ws,hch,?_,by omega,u.d,by rw [← e1,eu];rfl,(G8.car _ u hu).dl⟩
  rintro rfl
  cases hch
  exact hd rfl
 have hdp:∀ d,d ≠ -1->iL Pp (-1) d=Pp d:=λ d h=>if_neg h
 refine bY (λ σ' H'=>∃ v13:Option V,σ' = [some (.ref a),some (.int c0),some (.int (wd:Int)),some (.int m),some (.ref rl),some (.ref tl),some (.ref pl),some (.ref p),some (.ref ld),v9,some (.ref ll),some (.ref kn),some (.ref ls),v13,none] /\ az HC2 H') (λ N hN=>?_) ?_
 ·refine⟨_,rfl,kn,kvP,rfl,hknC,λ o nf=>zA (d:=kn) (o:=o) (kvs:=kvP) (λ i σ H5=>∃ v13:Option V,σ = [some (.ref a),some (.int c0),some (.int (wd:Int)),some (.int m),some (.ref rl),some (.ref tl),some (.ref pl),some (.ref p),some (.ref ld),v9,some (.ref ll),some (.ref kn),some (.ref ls),v13,none] /\ az (upd HC2 kn (.frz o (.dK kvP))) H5) ⟨none,rfl,az.refl _⟩ (λ i σ H5 _ z0=>by obtain⟨_,_,s5⟩:=z0;exact s5 kn _ ak) ?_ ?_⟩
  ·rintro i k v σ HD hi ⟨v13,rfl,sD⟩
   obtain⟨day,ekn⟩:=PRC.iz (k,v) (QJ hi)
   have ekn:k=Sum.inl day:=ekn
   subst ekn
   have hv:=rF PRC.nd (QJ hi)
   have h1:=PRC.val day
   rw [hv] at h1
   cases hP:iL Pp (-1) day with
   | none=>rw [hP] at h1;exact h1.elim
   | some q' =>
    rw [hP] at h1
    obtain⟨pa,rfl,hpa⟩:=h1
    have hd1:day ≠ -1:=λ e=>by rw [e] at hP;unfold iL at hP;rw [if_pos rfl] at hP;cases hP
    rw [hdp day hd1] at hP
    obtain⟨ws,hch,hwne,hwl,dd,edd,hddl⟩:=chain hP hd1
    obtain⟨c1,c2,c3⟩:=z8 hso LP IL hch
    rw [hP] at c2
    have c2:=Rc c2
    have kp:=xT sD
    have SD:=SC.xT kp hknC ndk nlk
    have ld':∀ {x:Addr} {xs:List V},HC2 x=some (.lst xs)->HD x=some (.lst xs):=λ e=>kp _ _ e (by simpa using aR e hknC (by intro z;cases z))
    have hfz:=sD kn _ ak
    have hpaD:=kp pa _ hpa (by simpa using aR hpa hknC (by intro z;cases z))
    have hlsD:=kp ls _ hlsC (by simpa using nsk)
    obtain⟨tab,htab⟩:∃ tab,(bu wd chss)[dd]? = some tab:=⟨_,QC hddl⟩
    obtain⟨ta,eta,mta,hta⟩:=DC.lt.at_ htab
    refine aT [some (.ref a),some (.int c0),some (.int (wd:Int)),some (.int m),some (.ref rl),some (.ref tl),some (.ref pl),some (.ref p),some (.ref ld),v9,some (.ref ll),some (.ref kn),some (.ref ls),some (.int day),none] ?_
    refine vD false (λ H'=>az HD H') (λ Qb hq=>?_) (λ h=>by cases h) (λ _ HE sE=>⟨_,rfl,sD.trans sE⟩)
    refine⟨_,rfl,_,rfl,_,rfl,_,rfl,_,rfl,ld,ls,lkv,kvL,M,L,cE sk ea,ms,day,ws,rfl,SD.ld_,SD.lr,hlsD,NA,hL1,hso,hch,hwl,by omega,λ wl HE hwlE nwl sE=>?_⟩
    refine⟨_,rfl,_,rfl,kn,V.ref pa,rfl,.inl ⟨kvP,Sum.inl day,.inr ⟨o,sE _ _ hfz⟩,rfl,hv.symm⟩,_,rfl,_,rfl,tl,_,_,V.ref ta,rfl,rfl,SqL.of (sE _ _ (ld' DC.tl_)),by rw [edd];exact bw (by rw [QK,eta];rfl),_,rfl,?_⟩
    exact⟨p,d,ld,wl,pa,ta,rl,n,wd,sk,ea,day,M,kvs,lkv,ws.reverse,tab,bu wd chss,rfl,SD.keep sE,G8.car,hwlE,by rw [Up];omega,by simpa using hwne,c1,(λ m' hm'=>c3 m' (List.mem_reverse.mp hm')),by rw [← c2];exact sE _ _ hpaD,sE _ _ (ld' hta),by rw [edd];simpa using htab,sE _ _ (ld' hrlC),λ HF sF=>⟨_,rfl,hq _ (sE.trans sF)⟩⟩
  ·rintro σ HD ⟨v13,rfl,sD⟩
   exact⟨kn,o,kvP,sD kn _ ak,nf,hN _ _ ⟨v13,rfl,wN hknC sD⟩⟩
 rintro σ HD ⟨v13,rfl,sD⟩
 have hTl:=jO wd chss
 have htlD:=sD _ _ DC.tl_
 have hknD:=sD _ _ hknC
 have PRD:=PRC.mono λ t ys e=>sD t _ e
 have SD:=SC.keep sD
 have KD:=KC.mono λ t ys e=>sD t _ e
 refine bY (λ σ' H'=>σ' = [some (.ref a),some (.int c0),some (.int (wd:Int)),some (.int m),some (.ref rl),some (.ref tl),some (.ref pl),some (.ref p),some (.ref ld),v9,some (.ref ll),some (.ref kn),some (.ref ls),v13,some (.int (chss.length:Int))] /\ HD=H') (λ N hN=>?_) ?_
 ·refine⟨_,rfl,tl,_,rfl,.inl (SqL.of htlD),_,_,rfl,rfl,hN _ _ ⟨?_,rfl⟩⟩
  rw [show(chss.length:Int) =((LT.map V.ref).length:Int) - 1 by rw [QG,DC.lt.len,hTl];omega]
  rfl
 rintro σ _ ⟨rfl,rfl⟩
 have hl1:(chss.length:Int) ≠ -1:=by omega
 cases hP:Pp (chss.length:Int) with
 | none =>
  refine rC (λ Qb hq=>?_) ?_
  ·refine⟨_,rfl,_,rfl,kn,_,rfl,.inl ⟨kvP,Sum.inl (chss.length:Int),.inl hknD,rfl,rfl⟩,_,rfl,?_⟩
   rw [(PRD.val _).is,hdp _ hl1,hP]
   exact hq
  ·refine⟨_,rfl,_,rfl,ll,LV,_,_,rfl,sD _ _ hllC,KD,hok9,by omega,hnd9,λ P2 L2 v HE LP2 IL2 hw2 sE=>?_⟩
   rcases hw2 with⟨rfl,_⟩ |⟨r,ws,rfl,hch,_,_⟩
   ·exact⟨rfl,q _⟩
   ·exfalso
    cases hch with
    | cons h1 h2 h3 h4 =>
     obtain⟨_,q2,hq2⟩:=oJ IL2 hok9 h2
     rw [qt LP2 LP] at hq2
     rw [hP] at hq2;cases hq2
 | some q' =>
  obtain⟨ws,hch,hwne,hwl,_⟩:=chain hP hl1
  refine pN (λ Qb hq=>?_) ?_
  ·refine⟨_,rfl,_,rfl,kn,_,rfl,.inl ⟨kvP,Sum.inl (chss.length:Int),.inl hknD,rfl,rfl⟩,_,rfl,?_⟩
   rw [(PRD.val _).is,hdp _ hl1,hP]
   exact hq
  try unfold ly
  dsimp only
  refine⟨_,rfl,_,rfl,ll,LV,_,_,rfl,sD _ _ hllC,KD,hok9,by omega,hnd9,λ P2 L2 v HE LP2 IL2 hw2 sE=>?_⟩
  have eP:P2=Pp:=funext λ d=>qt LP2 LP d
  subst eP
  have eL:L2=L:=IL2.one IL λ g=>Iff.rfl
  subst eL
  rcases hw2 with⟨rfl,hnone⟩ |⟨r,ws2,rfl,hch2,_,hr2,_⟩
  ·exfalso
   cases hch with
   | cons h1 h2 h3 h4=>rw [hnone] at h2;cases h2
  have ew:=Chain.one hnd9 hch2 hch
  subst ew
  refine⟨_,rfl,_,rfl,_,rfl,ld,ls,lkv,kvL,M,L2,cE sk ea,ms,_,ws2,rfl,sE _ _ SD.ld_,SD.lr.mono (λ v u z=>gG.keep z sE),sE _ _ (sD _ _ hlsC),NA,hL1,hso,hch,hwl,by omega,λ r3 HF hr3 _ sF=>?_⟩
  exact⟨0,true,by decide,zz (sF _ _ hr2) hr3,q _⟩
end
@[elab_as_elim] theorem ln1 {P:List Value->Prop} (us:List Value) (hl:us.length=1) (h:∀ a,P [a]):P us:=match us,hl with
 | [a],_=>h a
@[elab_as_elim] theorem ln2 {P:List Value->Prop} (us:List Value) (hl:us.length=2) (h:∀ a b,P [a,b]):P us:=match us,hl with
 | [a,b],_=>h a b
@[elab_as_elim] theorem ln3 {P:List Value->Prop} (us:List Value) (hl:us.length=3) (h:∀ a b c,P [a,b,c]):P us:=match us,hl with
 | [a,b,c],_=>h a b c
@[elab_as_elim] theorem ln4 {P:List Value->Prop} (us:List Value) (hl:us.length=4) (h:∀ a b c d,P [a,b,c,d]):P us:=match us,hl with
 | [a,b,c,d],_=>h a b c d
@[elab_as_elim] theorem ln5 {P:List Value->Prop} (us:List Value) (hl:us.length=5) (h:∀ a b c d e,P [a,b,c,d,e]):P us:=match us,hl with
 | [a,b,c,d,e],_=>h a b c d e
@[elab_as_elim] theorem ln6 {P:List Value->Prop} (us:List Value) (hl:us.length=6) (h:∀ a b c d e f,P [a,b,c,d,e,f]):P us:=match us,hl with
 | [a,b,c,d,e,f],_=>h a b c d e f
theorem all_mk {l:OpenLaw} {w:World} {K:Frag} {h:Heap} {mg:Str->Option Value} {fa:Addr} (X:K.In h) (G:h.Ns mainGlobals mg) (hfa:mg "law" = some (.ref fa))
  {t_W:Tok} (g_W:nsIn K mainGlobals "W" = some (some (.int 18446744073709551615 t_W)))
  {aE:Addr} (nj:nsIn K mainGlobals "KeepError" = some (some (.ref aE)))
  {aG:Addr} (mL:nsIn K mainGlobals "NoPlace" = some (some (.ref aG)))
  {aD:Addr} (mJ:nsIn K mainGlobals "NoPiece" = some (some (.ref aD)))
  {aI:Addr} (rG:nsIn K mainGlobals "NoWay" = some (some (.ref aI)))
  {aB:Addr} (kX:nsIn K mainGlobals "BadPiece" = some (some (.ref aB)))
  {aH:Addr} (tM:nsIn K mainGlobals "NoItem" = some (some (.ref aH)))
  {aA:Addr} (uV:nsIn K mainGlobals "Heap" = some (some (.ref aA)))
  {aK:Addr} (rQ:nsIn K mainGlobals "Piece" = some (some (.ref aK)))
  {ah:Addr} (nV:nsIn K mainGlobals "Whole" = some (some (.ref ah)))
  {ao:Addr} (qU:nsIn K mainGlobals "Gain" = some (some (.ref ao)))
  {ay:Addr} (r6:nsIn K mainGlobals "Shelf" = some (some (.ref ay)))
  (clg:specialIn K (.builtin "object.__class__") "__get__" = some (some (.builtin "getset_descriptor.__get__"))) (clt:takesIn K (.builtin "object.__class__")=some true)
  (lO:jz K aE=true) (mE:findIn K (.ref aE) "__setattr__" = some (some (.builtin "object.__setattr__"))) (lM:findIn K (.ref aE) "__getattribute__" = some (some (.builtin "BaseException.__getattribute__"))) (lD:findIn K (.ref aE) "__getattr__" = some none) (lR:findIn K (.ref aE) "__class__" = some (some (.builtin "object.__class__"))) (rB:keepIn K (.ref aE)=true)
  (pX:jz K aG=true) (pP:findIn K (.ref aG) "__setattr__" = some (some (.builtin "object.__setattr__"))) (oO:findIn K (.ref aG) "__getattribute__" = some (some (.builtin "BaseException.__getattribute__"))) (oQ:findIn K (.ref aG) "__getattr__" = some none) (oF:findIn K (.ref aG) "__class__" = some (some (.builtin "object.__class__"))) (pI:keepIn K (.ref aG)=true)
  (fJ:findIn K (.ref aG) "place" = some none)
  (pW:jz K aD=true) (oW:findIn K (.ref aD) "__setattr__" = some (some (.builtin "object.__setattr__"))) (oN:findIn K (.ref aD) "__getattribute__" = some (some (.builtin "BaseException.__getattribute__"))) (pA:findIn K (.ref aD) "__getattr__" = some none) (oE:findIn K (.ref aD) "__class__" = some (some (.builtin "object.__class__"))) (pV:keepIn K (.ref aD)=true)
  (eO:findIn K (.ref aD) "number" = some none)
  (tw:jz K aI=true) (uq:findIn K (.ref aI) "__setattr__" = some (some (.builtin "object.__setattr__"))) (uy:findIn K (.ref aI) "__getattribute__" = some (some (.builtin "BaseException.__getattribute__"))) (ur:findIn K (.ref aI) "__getattr__" = some none) (tE:findIn K (.ref aI) "__class__" = some (some (.builtin "object.__class__"))) (uw:keepIn K (.ref aI)=true)
  (jq:findIn K (.ref aI) "at" = some none)
  (nA:jz K aB=true) (nR:findIn K (.ref aB) "__setattr__" = some (some (.builtin "object.__setattr__"))) (ni:findIn K (.ref aB) "__getattribute__" = some (some (.builtin "BaseException.__getattribute__"))) (nH:findIn K (.ref aB) "__getattr__" = some none) (nI:findIn K (.ref aB) "__class__" = some (some (.builtin "object.__class__"))) (nG:keepIn K (.ref aB)=true)
  (eF:findIn K (.ref aB) "day" = some none)
  (qF:jz K aH=true) (qm:findIn K (.ref aH) "__setattr__" = some (some (.builtin "object.__setattr__"))) (qE:findIn K (.ref aH) "__getattribute__" = some (some (.builtin "BaseException.__getattribute__"))) (qX:findIn K (.ref aH) "__getattr__" = some none) (ql:findIn K (.ref aH) "__class__" = some (some (.builtin "object.__class__"))) (wC:keepIn K (.ref aH)=true)
  (wc:plainGet K aA Str.empty=true) (vA:hasDictIn K aA=true) (vJ:plainOver K aA=true) (wg:findIn K (.ref aA) "__setattr__" = some (some (.builtin "object.__setattr__"))) (vE:makesIn K aA=true) (vI:keepIn K (.ref aA)=true)
  (br:findIn K (.ref aA) "row" = some none)
  (tF:plainGet K ah Str.empty=true) (tX:hasDictIn K ah=true) (tQ:plainOver K ah=true) (ue:findIn K (.ref ah) "__setattr__" = some (some (.builtin "object.__setattr__"))) (pU:makesIn K ah=true) (pD:keepIn K (.ref ah)=true)
  (dH:findIn K (.ref ah) "day" = some none)
  (cN:findIn K (.ref ah) "rows" = some none)
  (fz:findIn K (.ref ah) "check" = some none)
  (fW:findIn K (.ref ah) "fits" = some none)
  (vX:plainGet K ao Str.empty=true) (wo:hasDictIn K ao=true) (vW:plainOver K ao=true) (vF:findIn K (.ref ao) "__setattr__" = some (some (.builtin "object.__setattr__"))) (rN:makesIn K ao=true) (rM:keepIn K (.ref ao)=true)
  (ef:findIn K (.ref ao) "day" = some none)
  (cK:findIn K (.ref ao) "rows" = some none)
  (gc:findIn K (.ref ao) "check" = some none)
  (gT:findIn K (.ref ao) "fits" = some none)
  (fQ:findIn K (.ref ao) "base" = some none)
  (uv:plainGet K ay Str.empty=true) (uB:hasDictIn K ay=true) (tW:plainOver K ay=true) (tU:findIn K (.ref ay) "__setattr__" = some (some (.builtin "object.__setattr__"))) (uF:makesIn K ay=true) (uI:keepIn K (.ref ay)=true)
  (cu:findIn K (.ref ay) "pieces" = some none)
  (cB:findIn K (.ref ay) "follows" = some none)
  {f0:Addr} {od0 an0:Option Addr} {sl0:Array (Option Value)} {oc0 kV0 dc0 pm0 cd0 ct0:Value}
  (a0:findIn K (.ref aG) "__init__" = some (some (.ref f0))) (i0:isFn K (.ref f0)=true)
  (l0:K.lookup f0=some ⟨oc0,od0,.func (fnOf "__init__" "NoPlace.__init__" (aN cH) (aJ cH) (av cH) .none kV0 dc0 pm0 an0 cd0 ct0),sl0⟩) (c0:codeIn K cd0 "NoPlace.__init__" = true) (k0:keepIn K (.ref f0)=true)
  {f1:Addr} {od1 an1:Option Addr} {sl1:Array (Option Value)} {oc1 kV1 dc1 pm1 cd1 ct1:Value}
  (a1:findIn K (.ref aD) "__init__" = some (some (.ref f1))) (i1:isFn K (.ref f1)=true)
  (l1:K.lookup f1=some ⟨oc1,od1,.func (fnOf "__init__" "NoPiece.__init__" (aN cI) (aJ cI) (av cI) .none kV1 dc1 pm1 an1 cd1 ct1),sl1⟩) (c1:codeIn K cd1 "NoPiece.__init__" = true) (k1:keepIn K (.ref f1)=true)
  {f2:Addr} {od2 an2:Option Addr} {sl2:Array (Option Value)} {oc2 kV2 dc2 pm2 cd2 ct2:Value}
  (a2:findIn K (.ref aI) "__init__" = some (some (.ref f2))) (i2:isFn K (.ref f2)=true)
  (l2:K.lookup f2=some ⟨oc2,od2,.func (fnOf "__init__" "NoWay.__init__" (aN di) (aJ di) (av di) .none kV2 dc2 pm2 an2 cd2 ct2),sl2⟩) (c2:codeIn K cd2 "NoWay.__init__" = true) (k2:keepIn K (.ref f2)=true)
  {f3:Addr} {od3 an3:Option Addr} {sl3:Array (Option Value)} {oc3 kV3 dc3 pm3 cd3 ct3:Value}
  (a3:findIn K (.ref aB) "__init__" = some (some (.ref f3))) (i3:isFn K (.ref f3)=true)
  (l3:K.lookup f3=some ⟨oc3,od3,.func (fnOf "__init__" "BadPiece.__init__" (aN cD) (aJ cD) (av cD) .none kV3 dc3 pm3 an3 cd3 ct3),sl3⟩) (c3:codeIn K cd3 "BadPiece.__init__" = true) (k3:keepIn K (.ref f3)=true)
  {f4:Addr} {od4 an4:Option Addr} {sl4:Array (Option Value)} {oc4 kV4 dc4 pm4 cd4 ct4:Value}
  (a4:findIn K (.ref aA) "__init__" = some (some (.ref f4))) (i4:isFn K (.ref f4)=true)
  (l4:K.lookup f4=some ⟨oc4,od4,.func (fnOf "__init__" "Heap.__init__" (aN dO) (aJ dO) (av dO) .none kV4 dc4 pm4 an4 cd4 ct4),sl4⟩) (c4:codeIn K cd4 "Heap.__init__" = true) (k4:keepIn K (.ref f4)=true)
  {f5:Addr} {od5 an5:Option Addr} {sl5:Array (Option Value)} {oc5 kV5 dc5 pm5 cd5 ct5:Value}
  (a5:findIn K (.ref aA) "add" = some (some (.ref f5))) (i5:isFn K (.ref f5)=true)
  (l5:K.lookup f5=some ⟨oc5,od5,.func (fnOf "add" "Heap.add" (aN iH) (aJ iH) (av iH) .none kV5 dc5 pm5 an5 cd5 ct5),sl5⟩) (c5:codeIn K cd5 "Heap.add" = true) (k5:keepIn K (.ref f5)=true)
  {f6:Addr} {od6 an6:Option Addr} {sl6:Array (Option Value)} {oc6 kV6 dc6 pm6 cd6 ct6:Value}
  (a6:findIn K (.ref aA) "least" = some (some (.ref f6))) (i6:isFn K (.ref f6)=true)
  (l6:K.lookup f6=some ⟨oc6,od6,.func (fnOf "least" "Heap.least" (aN gk) (aJ gk) (av gk) .none kV6 dc6 pm6 an6 cd6 ct6),sl6⟩) (c6:codeIn K cd6 "Heap.least" = true) (k6:keepIn K (.ref f6)=true)
  {f7:Addr} {od7 an7:Option Addr} {sl7:Array (Option Value)} {oc7 kV7 dc7 pm7 cd7 ct7:Value}
  (a7:findIn K (.ref aA) "take" = some (some (.ref f7))) (i7:isFn K (.ref f7)=true)
  (l7:K.lookup f7=some ⟨oc7,od7,.func (fnOf "take" "Heap.take" (aN gP) (aJ gP) (av gP) .none kV7 dc7 pm7 an7 cd7 ct7),sl7⟩) (c7:codeIn K cd7 "Heap.take" = true) (k7:keepIn K (.ref f7)=true)
  {f8:Addr} {od8 an8:Option Addr} {sl8:Array (Option Value)} {oc8 kV8 dc8 pm8 cd8 ct8:Value}
  (a8:findIn K (.ref aA) "size" = some (some (.ref f8))) (i8:isFn K (.ref f8)=true)
  (l8:K.lookup f8=some ⟨oc8,od8,.func (fnOf "size" "Heap.size" (aN gS) (aJ gS) (av gS) .none kV8 dc8 pm8 an8 cd8 ct8),sl8⟩) (c8:codeIn K cd8 "Heap.size" = true) (k8:keepIn K (.ref f8)=true)
  {f9:Addr} {od9 an9:Option Addr} {sl9:Array (Option Value)} {oc9 kV9 dc9 pm9 cd9 ct9:Value}
  (a9:findIn K (.ref aA) "lift" = some (some (.ref f9))) (i9:isFn K (.ref f9)=true)
  (l9:K.lookup f9=some ⟨oc9,od9,.func (fnOf "lift" "Heap.lift" (aN g5) (aJ g5) (av g5) .none kV9 dc9 pm9 an9 cd9 ct9),sl9⟩) (c9:codeIn K cd9 "Heap.lift" = true) (k9:keepIn K (.ref f9)=true)
  {f10:Addr} {od10 an10:Option Addr} {sl10:Array (Option Value)} {oc10 kV10 dc10 pm10 cd10 ct10:Value}
  (a10:findIn K (.ref aA) "sink" = some (some (.ref f10))) (i10:isFn K (.ref f10)=true)
  (l10:K.lookup f10=some ⟨oc10,od10,.func (fnOf "sink" "Heap.sink" (aN gV) (aJ gV) (av gV) .none kV10 dc10 pm10 an10 cd10 ct10),sl10⟩) (c10:codeIn K cd10 "Heap.sink" = true) (k10:keepIn K (.ref f10)=true)
  {f11:Addr} {od11 an11:Option Addr} {sl11:Array (Option Value)} {oc11 kV11 dc11 pm11 cd11 ct11:Value}
  (a11:findIn K (.ref aA) "lesser_below" = some (some (.ref f11))) (i11:isFn K (.ref f11)=true)
  (l11:K.lookup f11=some ⟨oc11,od11,.func (fnOf "lesser_below" "Heap.lesser_below" (aN cC) (aJ cC) (av cC) .none kV11 dc11 pm11 an11 cd11 ct11),sl11⟩) (c11:codeIn K cd11 "Heap.lesser_below" = true) (k11:keepIn K (.ref f11)=true)
  {f12:Addr} {od12 an12:Option Addr} {sl12:Array (Option Value)} {oc12 kV12 dc12 pm12 cd12 ct12:Value}
  (a12:findIn K (.ref aA) "swap" = some (some (.ref f12))) (i12:isFn K (.ref f12)=true)
  (l12:K.lookup f12=some ⟨oc12,od12,.func (fnOf "swap" "Heap.swap" (aN gU) (aJ gU) (av gU) .none kV12 dc12 pm12 an12 cd12 ct12),sl12⟩) (c12:codeIn K cd12 "Heap.swap" = true) (k12:keepIn K (.ref f12)=true)
  {f13:Addr} {od13 an13:Option Addr} {sl13:Array (Option Value)} {oc13 kV13 dc13 pm13 ct13:Value}
  (a13:nsIn K mainGlobals "rate" = some (some (.ref f13)))
  {cc_rate:Addr} {xv_rate:Array Value} {EX:Value} {xd_rate:Option Addr} {xl_rate:Array (Option Value)}
  (l13:K.lookup f13=some ⟨oc13,od13,.func (fnOf "rate" "rate" (aN qd) (aJ qd) (av qd) .none kV13 dc13 pm13 an13 (.ref cc_rate) ct13),sl13⟩) (c13:codeIn K (.ref cc_rate) "rate" = true) (k13:keepIn K (.ref f13)=true)
  (xk_rate:K.lookup cc_rate=some ⟨EX,xd_rate,.fields xv_rate,xl_rate⟩) (xt_rate:xv_rate[11]? = some (.ref (vt xv_rate 11))) (xn_rate:K.lookup (vt xv_rate 11)=none)
  {f14:Addr} {od14 an14:Option Addr} {sl14:Array (Option Value)} {oc14 kV14 dc14 pm14 cd14 ct14:Value}
  (a14:nsIn K mainGlobals "legs_of" = some (some (.ref f14)))
  (l14:K.lookup f14=some ⟨oc14,od14,.func (fnOf "legs_of" "legs_of" (aN jg) (aJ jg) (av jg) .none kV14 dc14 pm14 an14 cd14 ct14),sl14⟩) (c14:codeIn K cd14 "legs_of" = true) (k14:keepIn K (.ref f14)=true)
  {f15:Addr} {od15 an15:Option Addr} {sl15:Array (Option Value)} {oc15 kV15 dc15 pm15 cd15 ct15:Value}
  (a15:nsIn K mainGlobals "prices" = some (some (.ref f15)))
  (l15:K.lookup f15=some ⟨oc15,od15,.func (fnOf "prices" "prices" (aN jS) (aJ jS) (av jS) .none kV15 dc15 pm15 an15 cd15 ct15),sl15⟩) (c15:codeIn K cd15 "prices" = true) (k15:keepIn K (.ref f15)=true)
  {f16:Addr} {od16 an16:Option Addr} {sl16:Array (Option Value)} {oc16 kV16 dc16 pm16 cd16 ct16:Value}
  (a16:nsIn K mainGlobals "last_legs" = some (some (.ref f16)))
  (l16:K.lookup f16=some ⟨oc16,od16,.func (fnOf "last_legs" "last_legs" (aN gZ) (aJ gZ) (av gZ) .none kV16 dc16 pm16 an16 cd16 ct16),sl16⟩) (c16:codeIn K cd16 "last_legs" = true) (k16:keepIn K (.ref f16)=true)
  {f17:Addr} {od17 an17:Option Addr} {sl17:Array (Option Value)} {oc17 kV17 dc17 pm17 cd17 ct17:Value}
  (a17:nsIn K mainGlobals "way_of" = some (some (.ref f17)))
  (l17:K.lookup f17=some ⟨oc17,od17,.func (fnOf "way_of" "way_of" (aN jT) (aJ jT) (av jT) .none kV17 dc17 pm17 an17 cd17 ct17),sl17⟩) (c17:codeIn K cd17 "way_of" = true) (k17:keepIn K (.ref f17)=true)
  {f18:Addr} {od18 an18:Option Addr} {sl18:Array (Option Value)} {oc18 kV18 dc18 pm18 cd18 ct18:Value}
  (a18:nsIn K mainGlobals "legs_by_start" = some (some (.ref f18)))
  (l18:K.lookup f18=some ⟨oc18,od18,.func (fnOf "legs_by_start" "legs_by_start" (aN dS) (aJ dS) (av dS) .none kV18 dc18 pm18 an18 cd18 ct18),sl18⟩) (c18:codeIn K cd18 "legs_by_start" = true) (k18:keepIn K (.ref f18)=true)
  {f19:Addr} {od19 an19:Option Addr} {sl19:Array (Option Value)} {oc19 kV19 dc19 pm19 cd19 ct19:Value}
  (a19:nsIn K mainGlobals "price_at" = some (some (.ref f19)))
  (l19:K.lookup f19=some ⟨oc19,od19,.func (fnOf "price_at" "price_at" (aN iK) (aJ iK) (av iK) .none kV19 dc19 pm19 an19 cd19 ct19),sl19⟩) (c19:codeIn K cd19 "price_at" = true) (k19:keepIn K (.ref f19)=true)
  {f20:Addr} {od20 an20:Option Addr} {sl20:Array (Option Value)} {oc20 kV20 dc20 pm20 cd20 ct20:Value}
  (a20:nsIn K mainGlobals "price_over" = some (some (.ref f20)))
  (l20:K.lookup f20=some ⟨oc20,od20,.func (fnOf "price_over" "price_over" (aN gu) (aJ gu) (av gu) .none kV20 dc20 pm20 an20 cd20 ct20),sl20⟩) (c20:codeIn K cd20 "price_over" = true) (k20:keepIn K (.ref f20)=true)
  {f21:Addr} {od21 an21:Option Addr} {sl21:Array (Option Value)} {oc21 kV21 dc21 pm21 cd21 ct21:Value}
  (a21:nsIn K mainGlobals "turned" = some (some (.ref f21)))
  (l21:K.lookup f21=some ⟨oc21,od21,.func (fnOf "turned" "turned" (aN jP) (aJ jP) (av jP) .none kV21 dc21 pm21 an21 cd21 ct21),sl21⟩) (c21:codeIn K cd21 "turned" = true) (k21:keepIn K (.ref f21)=true)
  {f22:Addr} {od22 an22:Option Addr} {sl22:Array (Option Value)} {oc22 kV22 dc22 pm22 cd22 ct22:Value}
  (a22:nsIn K mainGlobals "check_of" = some (some (.ref f22)))
  (l22:K.lookup f22=some ⟨oc22,od22,.func (fnOf "check_of" "check_of" (aN iN) (aJ iN) (av iN) .none kV22 dc22 pm22 an22 cd22 ct22),sl22⟩) (c22:codeIn K cd22 "check_of" = true) (k22:keepIn K (.ref f22)=true)
  {f23:Addr} {od23 an23:Option Addr} {sl23:Array (Option Value)} {oc23 kV23 dc23 pm23 cd23 ct23:Value}
  (a23:findIn K (.ref aK) "__init__" = some (some (.ref f23))) (i23:isFn K (.ref f23)=true)
  (l23:K.lookup f23=some ⟨oc23,od23,.func (fnOf "__init__" "Piece.__init__" (aN dD) (aJ dD) (av dD) .none kV23 dc23 pm23 an23 cd23 ct23),sl23⟩) (c23:codeIn K cd23 "Piece.__init__" = true) (k23:keepIn K (.ref f23)=true)
  {f24:Addr} {od24 an24:Option Addr} {sl24:Array (Option Value)} {oc24 kV24 dc24 pm24 cd24 ct24:Value}
  (a24:findIn K (.ref aK) "size" = some (some (.ref f24))) (i24:isFn K (.ref f24)=true)
  (l24:K.lookup f24=some ⟨oc24,od24,.func (fnOf "size" "Piece.size" (aN gf) (aJ gf) (av gf) .none kV24 dc24 pm24 an24 cd24 ct24),sl24⟩) (c24:codeIn K cd24 "Piece.size" = true) (k24:keepIn K (.ref f24)=true)
  {f25:Addr} {od25 an25:Option Addr} {sl25:Array (Option Value)} {oc25 kV25 dc25 pm25 cd25 ct25:Value}
  (a25:findIn K (.ref aK) "is_good" = some (some (.ref f25))) (i25:isFn K (.ref f25)=true)
  (l25:K.lookup f25=some ⟨oc25,od25,.func (fnOf "is_good" "Piece.is_good" (aN dR) (aJ dR) (av dR) .none kV25 dc25 pm25 an25 cd25 ct25),sl25⟩) (c25:codeIn K cd25 "Piece.is_good" = true) (k25:keepIn K (.ref f25)=true)
  {f26:Addr} {od26 an26:Option Addr} {sl26:Array (Option Value)} {oc26 kV26 dc26 pm26 cd26 ct26:Value}
  (a26:findIn K (.ref aK) "harmed" = some (some (.ref f26))) (i26:isFn K (.ref f26)=true)
  (l26:K.lookup f26=some ⟨oc26,od26,.func (fnOf "harmed" "Piece.harmed" (aN eE) (aJ eE) (av eE) .none kV26 dc26 pm26 an26 cd26 ct26),sl26⟩) (c26:codeIn K cd26 "Piece.harmed" = true) (k26:keepIn K (.ref f26)=true)
  {f27:Addr} {od27 an27:Option Addr} {sl27:Array (Option Value)} {oc27 kV27 dc27 pm27 cd27 ct27:Value}
  (a27:findIn K (.ref ah) "__init__" = some (some (.ref f27))) (i27:isFn K (.ref f27)=true)
  {td27:Addr} {yc27:Value} {yd27:Option Addr} {yn27:Nat} {yl27:Array (Option Value)}
  (l27:K.lookup f27=some ⟨oc27,od27,.func (fnOf "__init__" "Whole.__init__" (aN dz) (aJ dz) (av dz) (.ref td27) kV27 dc27 pm27 an27 cd27 ct27),sl27⟩) (c27:codeIn K cd27 "Whole.__init__" = true) (k27:keepIn K (.ref f27)=true)
  (y27:K.lookup td27=some ⟨yc27,yd27,.seq #[.none] yn27,yl27⟩)
  {f28:Addr} {od28 an28:Option Addr} {sl28:Array (Option Value)} {oc28 kV28 dc28 pm28 cd28 ct28:Value}
  (a28:findIn K (.ref ah) "start" = some (some (.ref f28))) (i28:isFn K (.ref f28)=true)
  (l28:K.lookup f28=some ⟨oc28,od28,.func (fnOf "start" "Whole.start" (aN fB) (aJ fB) (av fB) .none kV28 dc28 pm28 an28 cd28 ct28),sl28⟩) (c28:codeIn K cd28 "Whole.start" = true) (k28:keepIn K (.ref f28)=true)
  {f29:Addr} {od29 an29:Option Addr} {sl29:Array (Option Value)} {oc29 kV29 dc29 pm29 cd29 ct29:Value}
  (a29:findIn K (.ref ah) "laid" = some (some (.ref f29))) (i29:isFn K (.ref f29)=true)
  (l29:K.lookup f29=some ⟨oc29,od29,.func (fnOf "laid" "Whole.laid" (aN gq) (aJ gq) (av gq) .none kV29 dc29 pm29 an29 cd29 ct29),sl29⟩) (c29:codeIn K cd29 "Whole.laid" = true) (k29:keepIn K (.ref f29)=true)
  {f30:Addr} {od30 an30:Option Addr} {sl30:Array (Option Value)} {oc30 kV30 dc30 pm30 cd30 ct30:Value}
  (a30:findIn K (.ref ah) "with_rows" = some (some (.ref f30))) (i30:isFn K (.ref f30)=true)
  (l30:K.lookup f30=some ⟨oc30,od30,.func (fnOf "with_rows" "Whole.with_rows" (aN cW) (aJ cW) (av cW) .none kV30 dc30 pm30 an30 cd30 ct30),sl30⟩) (c30:codeIn K cd30 "Whole.with_rows" = true) (k30:keepIn K (.ref f30)=true)
  {f31:Addr} {od31 an31:Option Addr} {sl31:Array (Option Value)} {oc31 kV31 dc31 pm31 cd31 ct31:Value}
  (a31:findIn K (.ref ao) "__init__" = some (some (.ref f31))) (i31:isFn K (.ref f31)=true)
  {td31:Addr} {yc31:Value} {yd31:Option Addr} {yn31:Nat} {yl31:Array (Option Value)}
  (l31:K.lookup f31=some ⟨oc31,od31,.func (fnOf "__init__" "Gain.__init__" (aN dP) (aJ dP) (av dP) (.ref td31) kV31 dc31 pm31 an31 cd31 ct31),sl31⟩) (c31:codeIn K cd31 "Gain.__init__" = true) (k31:keepIn K (.ref f31)=true)
  (y31:K.lookup td31=some ⟨yc31,yd31,.seq #[.none] yn31,yl31⟩)
  {f32:Addr} {od32 an32:Option Addr} {sl32:Array (Option Value)} {oc32 kV32 dc32 pm32 cd32 ct32:Value}
  (a32:findIn K (.ref ao) "start" = some (some (.ref f32))) (i32:isFn K (.ref f32)=true)
  (l32:K.lookup f32=some ⟨oc32,od32,.func (fnOf "start" "Gain.start" (aN gj) (aJ gj) (av gj) .none kV32 dc32 pm32 an32 cd32 ct32),sl32⟩) (c32:codeIn K cd32 "Gain.start" = true) (k32:keepIn K (.ref f32)=true)
  {f33:Addr} {od33 an33:Option Addr} {sl33:Array (Option Value)} {oc33 kV33 dc33 pm33 cd33 ct33:Value}
  (a33:findIn K (.ref ao) "laid" = some (some (.ref f33))) (i33:isFn K (.ref f33)=true)
  (l33:K.lookup f33=some ⟨oc33,od33,.func (fnOf "laid" "Gain.laid" (aN gQ) (aJ gQ) (av gQ) .none kV33 dc33 pm33 an33 cd33 ct33),sl33⟩) (c33:codeIn K cd33 "Gain.laid" = true) (k33:keepIn K (.ref f33)=true)
  {f34:Addr} {od34 an34:Option Addr} {sl34:Array (Option Value)} {oc34 kV34 dc34 pm34 cd34 ct34:Value}
  (a34:findIn K (.ref ao) "with_rows" = some (some (.ref f34))) (i34:isFn K (.ref f34)=true)
  (l34:K.lookup f34=some ⟨oc34,od34,.func (fnOf "with_rows" "Gain.with_rows" (aN dj) (aJ dj) (av dj) .none kV34 dc34 pm34 an34 cd34 ct34),sl34⟩) (c34:codeIn K cd34 "Gain.with_rows" = true) (k34:keepIn K (.ref f34)=true)
  {f35:Addr} {od35 an35:Option Addr} {sl35:Array (Option Value)} {oc35 kV35 dc35 pm35 cd35 ct35:Value}
  (a35:findIn K (.ref ay) "__init__" = some (some (.ref f35))) (i35:isFn K (.ref f35)=true)
  (l35:K.lookup f35=some ⟨oc35,od35,.func (fnOf "__init__" "Shelf.__init__" (aN dw) (aJ dw) (av dw) .none kV35 dc35 pm35 an35 cd35 ct35),sl35⟩) (c35:codeIn K cd35 "Shelf.__init__" = true) (k35:keepIn K (.ref f35)=true)
  {f36:Addr} {od36 an36:Option Addr} {sl36:Array (Option Value)} {oc36 kV36 dc36 pm36 cd36 ct36:Value}
  (a36:findIn K (.ref ay) "put" = some (some (.ref f36))) (i36:isFn K (.ref f36)=true)
  (l36:K.lookup f36=some ⟨oc36,od36,.func (fnOf "put" "Shelf.put" (aN gY) (aJ gY) (av gY) .none kV36 dc36 pm36 an36 cd36 ct36),sl36⟩) (c36:codeIn K cd36 "Shelf.put" = true) (k36:keepIn K (.ref f36)=true)
  {f37:Addr} {od37 an37:Option Addr} {sl37:Array (Option Value)} {oc37 kV37 dc37 pm37 cd37 ct37:Value}
  (a37:findIn K (.ref ay) "lay" = some (some (.ref f37))) (i37:isFn K (.ref f37)=true)
  (l37:K.lookup f37=some ⟨oc37,od37,.func (fnOf "lay" "Shelf.lay" (aN gR) (aJ gR) (av gR) .none kV37 dc37 pm37 an37 cd37 ct37),sl37⟩) (c37:codeIn K cd37 "Shelf.lay" = true) (k37:keepIn K (.ref f37)=true)
  {f38:Addr} {od38 an38:Option Addr} {sl38:Array (Option Value)} {oc38 kV38 dc38 pm38 cd38 ct38:Value}
  (a38:findIn K (.ref ay) "piece" = some (some (.ref f38))) (i38:isFn K (.ref f38)=true)
  (l38:K.lookup f38=some ⟨oc38,od38,.func (fnOf "piece" "Shelf.piece" (aN fC) (aJ fC) (av fC) .none kV38 dc38 pm38 an38 cd38 ct38),sl38⟩) (c38:codeIn K cd38 "Shelf.piece" = true) (k38:keepIn K (.ref f38)=true)
  {f39:Addr} {od39 an39:Option Addr} {sl39:Array (Option Value)} {oc39 kV39 dc39 pm39 cd39 ct39:Value}
  (a39:findIn K (.ref ay) "numbers" = some (some (.ref f39))) (i39:isFn K (.ref f39)=true)
  (l39:K.lookup f39=some ⟨oc39,od39,.func (fnOf "numbers" "Shelf.numbers" (aN dQ) (aJ dQ) (av dQ) .none kV39 dc39 pm39 an39 cd39 ct39),sl39⟩) (c39:codeIn K cd39 "Shelf.numbers" = true) (k39:keepIn K (.ref f39)=true)
  {f40:Addr} {od40 an40:Option Addr} {sl40:Array (Option Value)} {oc40 kV40 dc40 pm40 cd40 ct40:Value}
  (a40:nsIn K mainGlobals "fetched" = some (some (.ref f40)))
  (l40:K.lookup f40=some ⟨oc40,od40,.func (fnOf "fetched" "fetched" (aN jj) (aJ jj) (av jj) .none kV40 dc40 pm40 an40 cd40 ct40),sl40⟩) (c40:codeIn K cd40 "fetched" = true) (k40:keepIn K (.ref f40)=true)
  {f41:Addr} {od41 an41:Option Addr} {sl41:Array (Option Value)} {oc41 kV41 dc41 pm41 cd41 ct41:Value}
  (a41:nsIn K mainGlobals "_law_cell_at" = some (some (.ref f41)))
  (l41:K.lookup f41=some ⟨oc41,od41,.func (fnOf "_law_cell_at" "_law_cell_at" (aN eG) (aJ eG) (av eG) .none kV41 dc41 pm41 an41 cd41 ct41),sl41⟩) (c41:codeIn K cd41 "_law_cell_at" = true) (k41:keepIn K (.ref f41)=true)
  {f42:Addr} {od42 an42:Option Addr} {sl42:Array (Option Value)} {oc42 kV42 dc42 pm42 cd42 ct42:Value}
  (a42:nsIn K mainGlobals "_law_drawn" = some (some (.ref f42)))
  (l42:K.lookup f42=some ⟨oc42,od42,.func (fnOf "_law_drawn" "_law_drawn" (aN fZ) (aJ fZ) (av fZ) .none kV42 dc42 pm42 an42 cd42 ct42),sl42⟩) (c42:codeIn K cd42 "_law_drawn" = true) (k42:keepIn K (.ref f42)=true)
  {f43:Addr} {od43 an43:Option Addr} {sl43:Array (Option Value)} {oc43 kV43 dc43 pm43 cd43 ct43:Value}
  (a43:nsIn K mainGlobals "_law_day" = some (some (.ref f43)))
  (l43:K.lookup f43=some ⟨oc43,od43,.func (fnOf "_law_day" "_law_day" (aN iM) (aJ iM) (av iM) .none kV43 dc43 pm43 an43 cd43 ct43),sl43⟩) (c43:codeIn K cd43 "_law_day" = true) (k43:keepIn K (.ref f43)=true)
  {f44:Addr} {od44 an44:Option Addr} {sl44:Array (Option Value)} {oc44 kV44 dc44 pm44 cd44 ct44:Value}
  (a44:nsIn K mainGlobals "_law_gain" = some (some (.ref f44)))
  (l44:K.lookup f44=some ⟨oc44,od44,.func (fnOf "_law_gain" "_law_gain" (aN g7) (aJ g7) (av g7) .none kV44 dc44 pm44 an44 cd44 ct44),sl44⟩) (c44:codeIn K cd44 "_law_gain" = true) (k44:keepIn K (.ref f44)=true)
  {f45:Addr} {od45 an45:Option Addr} {sl45:Array (Option Value)} {oc45 kV45 dc45 pm45 cd45 ct45:Value}
  (a45:nsIn K mainGlobals "_law_put" = some (some (.ref f45)))
  (l45:K.lookup f45=some ⟨oc45,od45,.func (fnOf "_law_put" "_law_put" (aN iJ) (aJ iJ) (av iJ) .none kV45 dc45 pm45 an45 cd45 ct45),sl45⟩) (c45:codeIn K cd45 "_law_put" = true) (k45:keepIn K (.ref f45)=true)
  {f46:Addr} {od46 an46:Option Addr} {sl46:Array (Option Value)} {oc46 kV46 dc46 pm46 cd46 ct46:Value}
  (a46:nsIn K mainGlobals "_law_kept" = some (some (.ref f46)))
  (l46:K.lookup f46=some ⟨oc46,od46,.func (fnOf "_law_kept" "_law_kept" (aN gW) (aJ gW) (av gW) .none kV46 dc46 pm46 an46 cd46 ct46),sl46⟩) (c46:codeIn K cd46 "_law_kept" = true) (k46:keepIn K (.ref f46)=true)
  {f47:Addr} {od47 an47:Option Addr} {sl47:Array (Option Value)} {oc47 kV47 dc47 pm47 cd47 ct47:Value}
  (a47:nsIn K mainGlobals "_law_added" = some (some (.ref f47)))
  (l47:K.lookup f47=some ⟨oc47,od47,.func (fnOf "_law_added" "_law_added" (aN fU) (aJ fU) (av fU) .none kV47 dc47 pm47 an47 cd47 ct47),sl47⟩) (c47:codeIn K cd47 "_law_added" = true) (k47:keepIn K (.ref f47)=true)
  {f48:Addr} {od48 an48:Option Addr} {sl48:Array (Option Value)} {oc48 kV48 dc48 pm48 cd48 ct48:Value}
  (a48:nsIn K mainGlobals "_law_least" = some (some (.ref f48)))
  (l48:K.lookup f48=some ⟨oc48,od48,.func (fnOf "_law_least" "_law_least" (aN fV) (aJ fV) (av fV) .none kV48 dc48 pm48 an48 cd48 ct48),sl48⟩) (c48:codeIn K cd48 "_law_least" = true) (k48:keepIn K (.ref f48)=true)
  {f49:Addr} {od49 an49:Option Addr} {sl49:Array (Option Value)} {oc49 kV49 dc49 pm49 cd49 ct49:Value}
  (a49:nsIn K mainGlobals "_law_back" = some (some (.ref f49)))
  (l49:K.lookup f49=some ⟨oc49,od49,.func (fnOf "_law_back" "_law_back" (aN g4) (aJ g4) (av g4) .none kV49 dc49 pm49 an49 cd49 ct49),sl49⟩) (c49:codeIn K cd49 "_law_back" = true) (k49:keepIn K (.ref f49)=true)
  {f50:Addr} {od50 an50:Option Addr} {sl50:Array (Option Value)} {oc50 kV50 dc50 pm50 cd50 ct50:Value}
  (a50:nsIn K mainGlobals "_law_refused" = some (some (.ref f50)))
  (l50:K.lookup f50=some ⟨oc50,od50,.func (fnOf "_law_refused" "_law_refused" (aN er) (aJ er) (av er) .none kV50 dc50 pm50 an50 cd50 ct50),sl50⟩) (c50:codeIn K cd50 "_law_refused" = true) (k50:keepIn K (.ref f50)=true)
  {f51:Addr} {od51 an51:Option Addr} {sl51:Array (Option Value)} {oc51 kV51 dc51 pm51 cd51 ct51:Value}
  (a51:nsIn K mainGlobals "_law_good" = some (some (.ref f51)))
  (l51:K.lookup f51=some ⟨oc51,od51,.func (fnOf "_law_good" "_law_good" (aN gX) (aJ gX) (av gX) .none kV51 dc51 pm51 an51 cd51 ct51),sl51⟩) (c51:codeIn K cd51 "_law_good" = true) (k51:keepIn K (.ref f51)=true)
  {f52:Addr} {od52 an52:Option Addr} {sl52:Array (Option Value)} {oc52 kV52 dc52 pm52 cd52 ct52:Value}
  (a52:nsIn K mainGlobals "law" = some (some (.ref f52)))
  (l52:K.lookup f52=some ⟨oc52,od52,.func (fnOf "law" "law" (aN lz) (aJ lz) (av lz) .none kV52 dc52 pm52 an52 cd52 ct52),sl52⟩) (c52:codeIn K cd52 "law" = true) (k52:keepIn K (.ref f52)=true)
  (ju:findIn K (.ref ah) "is_good" = some (some (.ref f25)))
  (j4:findIn K (.ref ao) "is_good" = some (some (.ref f25)))
  (lG:findIn K (.ref ah) "size" = some (some (.ref f24)))
  (nP:findIn K (.ref ao) "size" = some (some (.ref f24)))
  (jZ:findIn K (.ref ah) "harmed" = some (some (.ref f26)))
  (kI:findIn K (.ref ao) "harmed" = some (some (.ref f26)))
  (uJ:specialIn K (.ref aK) "__getattribute__" = some (some (.builtin "type.__getattribute__"))) (ud:readsIn K aK (.type "type")=true) (iP:findCls K (.ref aK) (.type "type") "__init__" = some (.val (.ref f23)))
  (Bg:nsIn K mainGlobals "len" = some none)
  (lV:nsIn K mainGlobals "isinstance" = some none)
  (A0:nsIn K mainGlobals "int" = some none)
  (yP:nsIn K mainGlobals "bool" = some none)
  (zB:nsIn K mainGlobals "list" = some none)
  (vO:nsIn K mainGlobals "tuple" = some none)
  (zk:nsIn K mainGlobals "dict" = some none)
  (vv:nsIn K mainGlobals "range" = some none)
  (Bs:nsIn K mainGlobals "min" = some none)
  (Bq:nsIn K mainGlobals "max" = some none)
  (tD:nsIn K mainGlobals "sorted" = some none)
  (ng:nsIn K mainGlobals "enumerate" = some none)
  (oZ:nsIn K mainGlobals "reversed" = some none)
  (mD:nsIn K mainGlobals "ValueError" = some none)
  (jF:findIn K (.ref aH) "__init__" = some (some (.builtin "ValueError.__init__")))
  (jH:keepIn K (.ref aH)=true)
  (kt1:mroIn K aB (.ref aB)=some true)
  :∃(tabs:List (Addr × Addr)) (fd:FuncData),(∀ t ∈ tabs,∃ m ∈(["rate"]:List Str),tabIn K m=some t /\ K.lookup t.2=none) /\(∀(s:Shared) (v:Value),BindsTo s fd ⟨[v],[]⟩ [("_law_script",v)]) /\ ∀ base:Heap,K.In base->base.Ns mainGlobals mg->qw mg base tabs->aX l.prog w K mg base (CXx l.prog w) 10 fa fd ["_law_script"] (qv K tabs):=by
 have e:=hfa.symm.trans (QL X G a52)
 cases e
 have T:Txt K mg t_W aE aG aD aI aB aH aA aK ah ao ay:=⟨QL X G g_W,QL X G nj,⟨lO,mE,lM,lD,lR,clg,clt⟩,QL X G mL,⟨pX,pP,oO,oQ,oF,clg,clt⟩,fJ,QL X G mJ,⟨pW,oW,oN,pA,oE,clg,clt⟩,eO,QL X G rG,⟨tw,uq,uy,ur,tE,clg,clt⟩,jq,QL X G kX,⟨nA,nR,ni,nH,nI,clg,clt⟩,eF,QL X G tM,⟨qF,qm,qE,qX,ql,clg,clt⟩,QL X G uV,⟨wc,vA,vJ,wg⟩,br,QL X G rQ,QL X G nV,⟨tF,tX,tQ,ue⟩,dH,cN,fz,fW,QL X G qU,⟨vX,wo,vW,vF⟩,ef,cK,gc,gT,fQ,QL X G r6,⟨uv,uB,tW,tU⟩,cu,cB,Rt X G Bg,Rt X G lV,Rt X G A0,Rt X G yP,Rt X G zB,Rt X G vO,Rt X G zk,Rt X G vv,Rt X G Bs,Rt X G Bq,Rt X G tD,Rt X G ng,Rt X G oZ,Rt X G mD,jF,jH,kt1⟩
 have F0:=aU (st:=cH) l0 c0 k0
 have b0:=F0.binds (ps:=["self","place"]) λ _ _ _ _ _ _ us hl=>ln2 us hl λ _ _=>rfl
 have F1:=aU (st:=cI) l1 c1 k1
 have b1:=F1.binds (ps:=["self","number"]) λ _ _ _ _ _ _ us hl=>ln2 us hl λ _ _=>rfl
 have F2:=aU (st:=di) l2 c2 k2
 have b2:=F2.binds (ps:=["self","at"]) λ _ _ _ _ _ _ us hl=>ln2 us hl λ _ _=>rfl
 have F3:=aU (st:=cD) l3 c3 k3
 have b3:=F3.binds (ps:=["self","day"]) λ _ _ _ _ _ _ us hl=>ln2 us hl λ _ _=>rfl
 have F4:=aU (st:=dO) l4 c4 k4
 have b4:=F4.binds (ps:=["self"]) λ _ _ _ _ _ _ us hl=>ln1 us hl λ _=>rfl
 have F5:=aU (st:=iH) l5 c5 k5
 have b5:=F5.binds (ps:=["self","item"]) λ _ _ _ _ _ _ us hl=>ln2 us hl λ _ _=>rfl
 have F6:=aU (st:=gk) l6 c6 k6
 have b6:=F6.binds (ps:=["self"]) λ _ _ _ _ _ _ us hl=>ln1 us hl λ _=>rfl
 have F7:=aU (st:=gP) l7 c7 k7
 have b7:=F7.binds (ps:=["self"]) λ _ _ _ _ _ _ us hl=>ln1 us hl λ _=>rfl
 have F8:=aU (st:=gS) l8 c8 k8
 have b8:=F8.binds (ps:=["self"]) λ _ _ _ _ _ _ us hl=>ln1 us hl λ _=>rfl
 have F9:=aU (st:=g5) l9 c9 k9
 have b9:=F9.binds (ps:=["self","place"]) λ _ _ _ _ _ _ us hl=>ln2 us hl λ _ _=>rfl
 have F10:=aU (st:=gV) l10 c10 k10
 have b10:=F10.binds (ps:=["self","place"]) λ _ _ _ _ _ _ us hl=>ln2 us hl λ _ _=>rfl
 have F11:=aU (st:=cC) l11 c11 k11
 have b11:=F11.binds (ps:=["self","place"]) λ _ _ _ _ _ _ us hl=>ln2 us hl λ _ _=>rfl
 have F12:=aU (st:=gU) l12 c12 k12
 have b12:=F12.binds (ps:=["self","one","other"]) λ _ _ _ _ _ _ us hl=>ln3 us hl λ _ _ _=>rfl
 have F13:=aU (st:=qd) l13 c13 k13
 have b13:=F13.binds (ps:=["seek","each"]) λ _ _ _ _ _ _ us hl=>ln2 us hl λ _ _=>rfl
 have F14:=aU (st:=jg) l14 c14 k14
 have b14:=F14.binds (ps:=["shelf","cost"]) λ _ _ _ _ _ _ us hl=>ln2 us hl λ _ _=>rfl
 have F15:=aU (st:=jS) l15 c15 k15
 have b15:=F15.binds (ps:=["legs"]) λ _ _ _ _ _ _ us hl=>ln1 us hl λ _=>rfl
 have F16:=aU (st:=gZ) l16 c16 k16
 have b16:=F16.binds (ps:=["legs"]) λ _ _ _ _ _ _ us hl=>ln1 us hl λ _=>rfl
 have F17:=aU (st:=jT) l17 c17 k17
 have b17:=F17.binds (ps:=["legs","day"]) λ _ _ _ _ _ _ us hl=>ln2 us hl λ _ _=>rfl
 have F18:=aU (st:=dS) l18 c18 k18
 have b18:=F18.binds (ps:=["legs"]) λ _ _ _ _ _ _ us hl=>ln1 us hl λ _=>rfl
 have F19:=aU (st:=iK) l19 c19 k19
 have b19:=F19.binds (ps:=["priced","start"]) λ _ _ _ _ _ _ us hl=>ln2 us hl λ _ _=>rfl
 have F20:=aU (st:=gu) l20 c20 k20
 have b20:=F20.binds (ps:=["price","leg"]) λ _ _ _ _ _ _ us hl=>ln2 us hl λ _ _=>rfl
 have F21:=aU (st:=jP) l21 c21 k21
 have b21:=F21.binds (ps:=["number"]) λ _ _ _ _ _ _ us hl=>ln1 us hl λ _=>rfl
 have F22:=aU (st:=iN) l22 c22 k22
 have b22:=F22.binds (ps:=["start","day","rows"]) λ _ _ _ _ _ _ us hl=>ln3 us hl λ _ _ _=>rfl
 have F23:=aU (st:=dD) l23 c23 k23
 have b23:=F23.binds (ps:=["self","start","day","rows","check"]) λ _ _ _ _ _ _ us hl=>ln5 us hl λ _ _ _ _ _=>rfl
 have F24:=aU (st:=gf) l24 c24 k24
 have b24:=F24.binds (ps:=["self"]) λ _ _ _ _ _ _ us hl=>ln1 us hl λ _=>rfl
 have F25:=aU (st:=dR) l25 c25 k25
 have b25:=F25.binds (ps:=["self"]) λ _ _ _ _ _ _ us hl=>ln1 us hl λ _=>rfl
 have F26:=aU (st:=eE) l26 c26 k26
 have b26:=F26.binds (ps:=["self","at","bits"]) λ _ _ _ _ _ _ us hl=>ln3 us hl λ _ _ _=>rfl
 have F27:=Al (st:=dz) l27 c27 k27
 have b27:=F27.binds (ps:=["self","day","rows","check"]) (ds:=[]) y27 rfl λ _ _ _ _ _ _ us hl=>ln4 us hl λ _ _ _ _=>⟨_,rfl,rfl⟩
 have p6:=F27.binds (ps:=["self","day","rows","check"]) (ds:=[Value.none]) y27 rfl λ _ _ _ _ _ _ us hl=>ln3 us (by simpa using hl) λ _ _ _=>⟨_,rfl,rfl⟩
 have F28:=aU (st:=fB) l28 c28 k28
 have b28:=F28.binds (ps:=["self"]) λ _ _ _ _ _ _ us hl=>ln1 us hl λ _=>rfl
 have F29:=aU (st:=gq) l29 c29 k29
 have b29:=F29.binds (ps:=["self","table"]) λ _ _ _ _ _ _ us hl=>ln2 us hl λ _ _=>rfl
 have F30:=aU (st:=cW) l30 c30 k30
 have b30:=F30.binds (ps:=["self","rows"]) λ _ _ _ _ _ _ us hl=>ln2 us hl λ _ _=>rfl
 have F31:=Al (st:=dP) l31 c31 k31
 have b31:=F31.binds (ps:=["self","base","day","rows","check"]) (ds:=[]) y31 rfl λ _ _ _ _ _ _ us hl=>ln5 us hl λ _ _ _ _ _=>⟨_,rfl,rfl⟩
 have qg:=F31.binds (ps:=["self","base","day","rows","check"]) (ds:=[Value.none]) y31 rfl λ _ _ _ _ _ _ us hl=>ln4 us (by simpa using hl) λ _ _ _ _=>⟨_,rfl,rfl⟩
 have F32:=aU (st:=gj) l32 c32 k32
 have b32:=F32.binds (ps:=["self"]) λ _ _ _ _ _ _ us hl=>ln1 us hl λ _=>rfl
 have F33:=aU (st:=gQ) l33 c33 k33
 have b33:=F33.binds (ps:=["self","table"]) λ _ _ _ _ _ _ us hl=>ln2 us hl λ _ _=>rfl
 have F34:=aU (st:=dj) l34 c34 k34
 have b34:=F34.binds (ps:=["self","rows"]) λ _ _ _ _ _ _ us hl=>ln2 us hl λ _ _=>rfl
 have F35:=aU (st:=dw) l35 c35 k35
 have b35:=F35.binds (ps:=["self"]) λ _ _ _ _ _ _ us hl=>ln1 us hl λ _=>rfl
 have F36:=aU (st:=gY) l36 c36 k36
 have b36:=F36.binds (ps:=["self","piece"]) λ _ _ _ _ _ _ us hl=>ln2 us hl λ _ _=>rfl
 have F37:=aU (st:=gR) l37 c37 k37
 have b37:=F37.binds (ps:=["self","number","piece"]) λ _ _ _ _ _ _ us hl=>ln3 us hl λ _ _ _=>rfl
 have F38:=aU (st:=fC) l38 c38 k38
 have b38:=F38.binds (ps:=["self","number"]) λ _ _ _ _ _ _ us hl=>ln2 us hl λ _ _=>rfl
 have F39:=aU (st:=dQ) l39 c39 k39
 have b39:=F39.binds (ps:=["self"]) λ _ _ _ _ _ _ us hl=>ln1 us hl λ _=>rfl
 have F40:=aU (st:=jj) l40 c40 k40
 have b40:=F40.binds (ps:=["shelf","way"]) λ _ _ _ _ _ _ us hl=>ln2 us hl λ _ _=>rfl
 have F41:=aU (st:=eG) l41 c41 k41
 have b41:=F41.binds (ps:=["_law_script","_law_k"]) λ _ _ _ _ _ _ us hl=>ln2 us hl λ _ _=>rfl
 have F42:=aU (st:=fZ) l42 c42 k42
 have b42:=F42.binds (ps:=["_law_cell","_law_many"]) λ _ _ _ _ _ _ us hl=>ln2 us hl λ _ _=>rfl
 have F43:=aU (st:=iM) l43 c43 k43
 have b43:=F43.binds (ps:=["_law_cell","_law_tables","_law_places"]) λ _ _ _ _ _ _ us hl=>ln3 us hl λ _ _ _=>rfl
 have F44:=aU (st:=g7) l44 c44 k44
 have b44:=F44.binds (ps:=["_law_tables","_law_places","_law_base","_law_day_here"]) λ _ _ _ _ _ _ us hl=>ln4 us hl λ _ _ _ _=>rfl
 have F45:=aU (st:=iJ) l45 c45 k45
 have b45:=F45.binds (ps:=["_law_shelf","_law_facts","_law_piece","_law_fact","_law_cell"]) λ _ _ _ _ _ _ us hl=>ln5 us hl λ _ _ _ _ _=>rfl
 have F46:=aU (st:=gW) l46 c46 k46
 have b46:=F46.binds (ps:=["_law_cell","_law_tables","_law_places","_law_shelf","_law_facts"]) λ _ _ _ _ _ _ us hl=>ln5 us hl λ _ _ _ _ _=>rfl
 have F47:=aU (st:=fU) l47 c47 k47
 have b47:=F47.binds (ps:=["_law_price","_law_fact","_law_rates"]) λ _ _ _ _ _ _ us hl=>ln3 us hl λ _ _ _=>rfl
 have F48:=aU (st:=fV) l48 c48 k48
 have b48:=F48.binds (ps:=["_law_facts","_law_known","_law_rates"]) λ _ _ _ _ _ _ us hl=>ln3 us hl λ _ _ _=>rfl
 have F49:=aU (st:=g4) l49 c49 k49
 have b49:=F49.binds (ps:=["_law_facts","_law_lasts","_law_day_here"]) λ _ _ _ _ _ _ us hl=>ln3 us hl λ _ _ _=>rfl
 have F50:=aU (st:=er) l50 c50 k50
 have b50:=F50.binds (ps:=["_law_shelf","_law_way","_law_day_here"]) λ _ _ _ _ _ _ us hl=>ln3 us hl λ _ _ _=>rfl
 have F51:=aU (st:=gX) l51 c51 k51
 have b51:=F51.binds (ps:=["_law_shelf","_law_facts","_law_way","_law_price","_law_table","_law_rates"]) λ _ _ _ _ _ _ us hl=>ln6 us hl λ _ _ _ _ _ _=>rfl
 have F52:=aU (st:=lz) l52 c52 k52
 have b52:=F52.binds (ps:=["_law_script"]) λ _ _ _ _ _ _ us hl=>ln1 us hl λ _=>rfl
 refine⟨[(cc_rate,(vt xv_rate 11))],fnOf "law" "law" (aN lz) (aJ lz) (av lz) .none kV52 dc52 pm52 an52 cd52 ct52,λ t ht=>?_,λ s v=>.of_eq rfl,λ base _ _ hTb=>?_⟩
 ·simp only [List.mem_cons,List.not_mem_nil,or_false] at ht
  rcases ht with rfl
  ·exact⟨"rate",by simp,L2.Dv a13 l13 rfl xk_rate xt_rate,xn_rate⟩
 obtain⟨hCd_rate,hBu_rate,hGT_rate⟩:=hTb (cc_rate,(vt xv_rate 11)) (by simp)
 have mQ:pT l.prog w K mg base "NoPlace" aG 1 ["self","place"] (iG aG "place"):=⟨_,_,QL X G mL,⟨T.jd,a0,i0,pI⟩,p7 F0 T ,b0⟩
 have qz:pT l.prog w K mg base "NoPiece" aD 1 ["self","number"] (iG aD "number"):=⟨_,_,QL X G mJ,⟨T.rq,a1,i1,pV⟩,p8 F1 T ,b1⟩
 have rH:pT l.prog w K mg base "NoWay" aI 1 ["self","at"] (iG aI "at"):=⟨_,_,QL X G rG,⟨T.rX,a2,i2,uw⟩,sO F2 T ,b2⟩
 have pG:pT l.prog w K mg base "BadPiece" aB 1 ["self","day"] (iG aB "day"):=⟨_,_,QL X G kX,⟨T.jE,a3,i3,nG⟩,oV F3 T ,b3⟩
 have yo:kg l.prog w K mg base "Heap" aA 1 ["self"] (uG aA):=⟨_,_,QL X G uV,⟨vE,a4,i4,vI⟩,tY F4 T ,b4⟩
 have gO:bf l.prog w K mg base aA "swap" 1 ["self","one","other"] (rV aA):=⟨_,_,⟨a12,i12,k12⟩,ym F12 T ,b12⟩
 have nN:bf l.prog w K mg base aA "lift" 2 ["self","place"] (vY aA):=⟨_,_,⟨a9,i9,k9⟩,yt F9 T gO,b9⟩
 have lg:bf l.prog w K mg base aA "add" 3 ["self","item"] (zC aA):=⟨_,_,⟨a5,i5,k5⟩,zJ F5 T nN,b5⟩
 have lI:bf l.prog w K mg base aA "least" 2 ["self"] (uf aA aH):=⟨_,_,⟨a6,i6,k6⟩,xy F6 T ,b6⟩
 have eZ:bf l.prog w K mg base aA "lesser_below" 1 ["self","place"] (qC aA):=⟨_,_,⟨a11,i11,k11⟩,pS F11 T ,b11⟩
 have nq:bf l.prog w K mg base aA "sink" 2 ["self","place"] (vB aA):=⟨_,_,⟨a10,i10,k10⟩,ze F10 T eZ gO,b10⟩
 have nL:bf l.prog w K mg base aA "take" 3 ["self"] (wm aA aH):=⟨_,_,⟨a7,i7,k7⟩,yJ F7 T lI nq,b7⟩
 have nv:bf l.prog w K mg base aA "size" 1 ["self"] (tN aA):=⟨_,_,⟨a8,i8,k8⟩,yL F8 T ,b8⟩
 have zy:DefX l.prog w K mg base "rate" 1 ["seek","each"] (tT (vt xv_rate 11) (Ed dh) "cost" "rate.<locals>.cost" (aN dh) (aJ dh) (av dh) ["seek","each"]):=⟨_,_,QL X G a13,DE l13 c13 rfl rfl rfl rfl rfl rfl rfl (λ _=>rfl) (λ _=>rfl) hCd_rate hBu_rate hGT_rate,k13,b13⟩
 have jn:bf l.prog w K mg base ay "numbers" 1 ["self"] (nO ay):=⟨_,_,⟨a39,i39,k39⟩,ua F39 T ,b39⟩
 have fF:bf l.prog w K mg base ay "piece" 3 ["self","number"] (pQ ay aD):=⟨_,_,⟨a38,i38,k38⟩,vL F38 T qz,b38⟩
 have mH:bf l.prog w K mg base ah "size" 1 ["self"] (n5 ah ao):=⟨_,_,⟨lG,i24,k24⟩,pY F24 T ,b24⟩
 have nQ:bf l.prog w K mg base ao "size" 1 ["self"] (n5 ah ao):=⟨_,_,⟨nP,i24,k24⟩,pY F24 T ,b24⟩
 have O_cost:∀ f,se l.prog w K mg base (CXx l.prog w) 4 f (wk ah ao f):=λ f=>yK T nQ mH
 have nk:∀ f,se l.prog w K mg base (CXx l.prog w) 4 f (A8 ah ao f):=O_cost
 have dU:bf l.prog w K mg base ah "is_good" 3 ["self"] (jK ah ao):=⟨_,_,⟨ju,i25,k25⟩,lN F25 T ,b25⟩
 have eK:bf l.prog w K mg base ao "is_good" 3 ["self"] (jK ah ao):=⟨_,_,⟨j4,i25,k25⟩,lN F25 T ,b25⟩
 have gp:bf l.prog w K mg base ao "start" 1 ["self"] (mO ah ao):=⟨_,_,⟨a32,i32,k32⟩,xN F32 T ,b32⟩
 have fE:bf l.prog w K mg base ah "start" 1 ["self"] mV:=⟨_,_,⟨a28,i28,k28⟩,vR F28 T ,b28⟩
 have qj:DefX l.prog w K mg base "legs_of" 6 ["shelf","cost"] (qf ay ah ao):=⟨_,_,QL X G a14,A7 F14 T jn fF nk eK dU gp fE,k14,b14⟩
 have jo:DefX l.prog w K mg base "legs_by_start" 1 ["legs"] xV:=⟨_,_,QL X G a18,uC F18 T ,k18,b18⟩
 have fX:DefX l.prog w K mg base "price_over" 1 ["price","leg"] rJ:=⟨_,_,QL X G a20,xO F20 T ,k20,b20⟩
 have jQ:DefX l.prog w K mg base "prices" 4 ["legs"] mX:=⟨_,_,QL X G a15,B4 F15 T jo yo lg nv nL fX,k15,b15⟩
 have pK:DefX l.prog w K mg base "price_at" 1 ["priced","start"] pM:=⟨_,_,QL X G a19,zO F19 T ,k19,b19⟩
 have gM:DefX l.prog w K mg base "last_legs" 5 ["legs"] sj:=⟨_,_,QL X G a16,yx F16 T jQ pK fX,k16,b16⟩
 have oY:DefX l.prog w K mg base "way_of" 6 ["legs","day"] ye:=⟨_,_,QL X G a17,CJ F17 T gM,k17,b17⟩
 have uc:DefX l.prog w K mg base "turned" 1 ["number"] qQ:=⟨_,_,QL X G a21,BS F21 T ,k21,b21⟩
 have oS:DefX l.prog w K mg base "check_of" 2 ["start","day","rows"] ux:=⟨_,_,QL X G a22,zY F22 T uc,k22,b22⟩
 have bZ:Bk l.prog w K mg base "Piece" aK "__init__" 3 ["self","start","day","rows","check"] (pO K):=⟨_,_,QL X G rQ,⟨uJ,ud,iP,k23⟩,sL F23 T oS,b23⟩
 have yC:kg l.prog w K mg base "Gain" ao 4 ["self","base","day","rows","check"] (mC ah ao):=⟨_,_,QL X G qU,⟨rN,a31,i31,rM⟩,lH F31 T bZ,b31⟩
 have rA:oj l.prog w K mg base "Gain" ao 4 ["self","base","day","rows","check"] [Value.none] (mC ah ao):=⟨_,_,QL X G qU,⟨rN,a31,i31,rM⟩,lH F31 T bZ,qg⟩
 have gy:bf l.prog w K mg base ao "with_rows" 6 ["self","rows"] (rW ah ao false):=⟨_,_,⟨a34,i34,k34⟩,sy F34 T yC,b34⟩
 have vV:kg l.prog w K mg base "Whole" ah 4 ["self","day","rows","check"] (j5 ah ao):=⟨_,_,QL X G nV,⟨pU,a27,i27,pD⟩,kN F27 T bZ,b27⟩
 have iI:oj l.prog w K mg base "Whole" ah 4 ["self","day","rows","check"] [Value.none] (j5 ah ao):=⟨_,_,QL X G nV,⟨pU,a27,i27,pD⟩,kN F27 T bZ,p6⟩
 have fS:bf l.prog w K mg base ah "with_rows" 6 ["self","rows"] (rW ah ao true):=⟨_,_,⟨a30,i30,k30⟩,qB F30 T vV,b30⟩
 have jI:bf l.prog w K mg base ah "harmed" 7 ["self","at","bits"] (oA ah ao aG):=⟨_,_,⟨jZ,i26,k26⟩,mY F26 T mQ gy fS,b26⟩
 have kK:bf l.prog w K mg base ao "harmed" 7 ["self","at","bits"] (oA ah ao aG):=⟨_,_,⟨kI,i26,k26⟩,mY F26 T mQ gy fS,b26⟩
 have mh:bf l.prog w K mg base ah "laid" 1 ["self","table"] (uz ah ao):=⟨_,_,⟨a29,i29,k29⟩,xJ F29 T ,b29⟩
 have nF:bf l.prog w K mg base ao "laid" 1 ["self","table"] (tV ah ao):=⟨_,_,⟨a33,i33,k33⟩,xZ F33 T ,b33⟩
 have vS:kg l.prog w K mg base "Shelf" ay 1 ["self"] (um ay):=⟨_,_,QL X G r6,⟨uF,a35,i35,uI⟩,sH F35 T ,b35⟩
 have nh:bf l.prog w K mg base ay "lay" 1 ["self","number","piece"] (yy ay):=⟨_,_,⟨a37,i37,k37⟩,x6 F37 T ,b37⟩
 have nM:bf l.prog w K mg base ay "put" 2 ["self","piece"] (zo ay):=⟨_,_,⟨a36,i36,k36⟩,yE F36 T nh,b36⟩
 have jm:DefX l.prog w K mg base "fetched" 6 ["shelf","way"] (kY ay ah ao aD aI aB):=⟨_,_,QL X G a40,Br F40 T rH fF gp fE eK dU pG nF mh,k40,b40⟩
 have gg:DefX l.prog w K mg base "_law_cell_at" 1 ["_law_script","_law_k"] (vU K):=⟨_,_,QL X G a41,vc F41 T ,k41,b41⟩
 have cP:DefX l.prog w K mg base "_law_drawn" 1 ["_law_cell","_law_many"] mG:=⟨_,_,QL X G a42,xo F42 T ,k42,b42⟩
 have oH:DefX l.prog w K mg base "_law_day" 2 ["_law_cell","_law_tables","_law_places"] uH:=⟨_,_,QL X G a43,zW F43 T cP,k43,b43⟩
 have nE:DefX l.prog w K mg base "_law_gain" 6 ["_law_tables","_law_places","_law_base","_law_day_here"] (qK ah ao):=⟨_,_,QL X G a44,yR F44 T rA,k44,b44⟩
 have gz:DefX l.prog w K mg base "_law_put" 8 ["_law_shelf","_law_facts","_law_piece","_law_fact","_law_cell"] (pH ay ah ao):=⟨_,_,QL X G a45,zZ F45 T cP kK jI nM,k45,b45⟩
 have nu:DefX l.prog w K mg base "_law_kept" 9 ["_law_cell","_law_tables","_law_places","_law_shelf","_law_facts"] (qT ay ah ao):=⟨_,_,QL X G a46,yg F46 T cP gz iI nE,k46,b46⟩
 have gm:DefX l.prog w K mg base "_law_added" 1 ["_law_price","_law_fact","_law_rates"] kP:=⟨_,_,QL X G a47,xD F47 T ,k47,b47⟩
 have lX:DefX l.prog w K mg base "_law_least" 2 ["_law_facts","_law_known","_law_rates"] pJ:=⟨_,_,QL X G a48,xw F48 T gm,k48,b48⟩
 have j8:DefX l.prog w K mg base "_law_back" 1 ["_law_facts","_law_lasts","_law_day_here"] qP:=⟨_,_,QL X G a49,yM F49 T ,k49,b49⟩
 have j0:DefX l.prog w K mg base "_law_refused" 7 ["_law_shelf","_law_way","_law_day_here"] (lZ ay ah ao):=⟨_,_,QL X G a50,ve F50 T jm,k50,b50⟩
 have m8:DefX l.prog w K mg base "_law_good" 8 ["_law_shelf","_law_facts","_law_way","_law_price","_law_table","_law_rates"] (qO ay ah ao):=⟨_,_,QL X G a51,y9 F51 T gm j0 jm,k51,b51⟩
 exact FN F52 T gg vS gz iI oH nu qj zy jQ gM lX m8 j8 oY
theorem walk {l:OpenLaw} {q:Program} {loose:List Str} {XP:(Str->Option Value)->Heap->Prop} {YP:World->Heap->Prop} {d:DefRec} {K:Params->Frag} (hn:l.most=some 63) (hdf:d.params.defaults = []) (hm:(["rate"]:List Str).all (λ m=>((PyProof.Rows.recsOf q).find? (λ e=>e.name == m)).isSome)=true)
  (hY:∀(w:World) (h:Heap),YP w h->(K w.params).In h)
  (F:∀(w:World) (mg:Str->Option Value) (fa:Addr) (h:Heap),(K w.params).In h->h.Ns mainGlobals mg->mg d.name=some (.ref fa) →
   ∃(tabs:List (Addr × Addr)) (fd:FuncData),(∀ t ∈ tabs,∃ m ∈(["rate"]:List Str),tabIn (K w.params) m=some t /\(K w.params).lookup t.2=none) /\(∀(s:Shared) (u:Value),BindsTo s fd ⟨[u],[]⟩ [("_law_script",u)]) /\ ∀ base:Heap,(K w.params).In base->base.Ns mainGlobals mg->qw mg base tabs->aX l.prog w (K w.params) mg base (CXx l.prog w) 10 fa fd ["_law_script"] (qv (K w.params) tabs)) :
  WalkO q loose XP YP l.row.toRowW d [] (λ f vs=>PySem.call f vs) :=
 L2.DP (n:=63) (k:=10) (x:="_law_script") (CX:=λ w=>CXx l.prog w) (sp:=λ w tabs=>qv (K w.params) tabs) ["rate"] hn (by decide) hdf ⟨rfl,by decide,by decide⟩ hm hY F (λ _ _ _ a ns hl hT hS=>⟨a,ns,rfl,hS,hl,hT,λ _=>rfl⟩) λ _ _ _ _ _ z=>L2.Gv z
end Mine
open PySem PySem.W PyProof.Rows
noncomputable def PySem.W.Fast.tw9878918703341015180:PySem.Program:=PySem.Challenge.pw_keepsakes_k39_whole_least_ways_fetched
theorem PySem.W.Fast.te9878918703341015180:PySem.Challenge.pw_keepsakes_k39_whole_least_ways_fetched=PySem.W.Fast.tw9878918703341015180:=rfl
namespace Hd
noncomputable section
open PySem
structure Sc where
 (a b c d e f g h i j k l m n o p q r s t u v w x y:Str)
abbrev h0:Sc:=Sc.mk "<module>" "/claim/cut.py" "__main__" "__name__" "keepsakes.errors" "__doc__" "__package__" "__loader__" "__spec__" "__annotations__" "__builtins__" "__file__" "__cached__" "_wall" "KeepError" "k" "__module__" "__qualname__" "__firstlineno__" "__static_attributes__" "__weakref__" "NoPlace" "__init__" "self" "place"
abbrev h1:Sc:=Sc.mk "NoPlace.__init__" "NoPiece" "number" "NoPiece.__init__" "NoWay" "at" "NoWay.__init__" "BadPiece" "day" "BadPiece.__init__" "keepsakes.heaps" "NoItem" "Heap" "add" "least" "take" "size" "lying" "lift" "sink" "lesser_below" "swap" "Heap.__init__" "item" "Heap.add"
abbrev h2:Sc:=Sc.mk "Heap.least" "last" "Heap.take" "Heap.size" "Heap.lying" "low" "Heap.lift" "high" "Heap.sink" "Heap.lesser_below" "one" "other" "Heap.swap" "row" "__dict__" "keepsakes.pieces" "rate" "legs_of" "prices" "last_legs" "way_of" "legs_by_start" "price_at" "price_over" "W"
abbrev h3:Sc:=Sc.mk "turned" "check_of" "seek" "each" "cost" "keepsakes.least" "shelf" "legs" "piece" "starting" "priced" "heap" "leg" "start" "price" "keepsakes.checks" "rows" "numbers" "block" "check" "Piece" "is_good" "harmed" "Piece.__init__" "Piece.size"
abbrev h4:Sc:=Sc.mk "Piece.is_good" "bits" "Piece.harmed" "fits" "Whole" "kind" "laid" "with_rows" "Whole.__init__" "Whole.start" "Whole.kind" "Whole.laid" "Whole.with_rows" "keepsakes.shelves" "Gain" "base" "Gain.__init__" "Gain.start" "Gain.kind" "table" "blocks" "Gain.laid" "Gain.with_rows" "Shelf" "put"
abbrev h5:Sc:=Sc.mk "lay" "drop" "following" "copied" "last_whole" "Shelf.__init__" "Shelf.put" "Shelf.lay" "Shelf.piece" "Shelf.drop" "Shelf.numbers" "Shelf.following" "Shelf.copied" "Shelf.last_whole" "follows" "pieces" "law_keepsakes_k39_whole_least_ways_fetched" "fetched" "_law_cell_at" "_law_whole" "_law_drawn" "_law_day" "_law_gain" "_law_put" "_law_kept"
abbrev h6:Sc:=Sc.mk "_law_added" "_law_least" "_law_back" "way" "keepsakes.ways" "_law_script" "_law_k" "_law_found" "_law_cell" "_law_many" "_law_number" "_law_tables" "_law_places" "_law_xs" "_law_table" "_law_here" "_law_place" "_law_shelf" "_law_facts" "_law_piece" "_law_fact" "_law_bad" "_law_day_here" "_law_wide" "_law_base"
abbrev h7:Sc:=Sc.mk "_law_price" "_law_rates" "_law_known" "_law_start" "_law_lasts" "_law_way" "_law_refused" "_law_good" "law" "_law_caught" "e" "_law_due" "_law_first" "_law_head" "_law_most" "_law_legs" "_law_last" "" "" "" "" "" "" "" ""
abbrev h8:=((((("tuple","code"),"frame"),(("dict","__main__.__loader__#opaque"),"function")),((("ValueError","builtin_function_or_method"),"type.__prepare__"),("type","Exception"))),(((("BaseException","object"),"ValueError.__new__"),("getset_descriptor","ExceptionGroup.__weakref__")),((("super","object.__init_subclass__"),"object.__new__"),("function.__dict__","function.__dict__#set"))))
abbrev X:Type:=((((Sc × Sc) × Sc) ×(Sc × Sc)) ×(((Sc × Sc) × Sc) ×((((((String × String) × String) ×((String × String) × String)) ×(((String × String) × String) ×(String × String))) ×((((String × String) × String) ×(String × String)) ×(((String × String) × String) ×(String × String)))) × PySem.Program))) × PySem.Params
abbrev hs:=((((h0,h1),h2),(h3,h4)),(((h5,h6),h7),(h8,PySem.Challenge.pw_keepsakes_k39_whole_least_ways_fetched)))
lay_quick h0 h1 h2 h3 h4 h5 h6 h7 h8 PySem.Challenge.pw_keepsakes_k39_whole_least_ways_fetched
lay_quick hs
abbrev l0 (x:X):=x.1.2.2.1.1.1.1.1.1
abbrev l1 (x:X):=x.1.2.2.1.1.1.1.1.2
abbrev l2 (x:X):=x.1.2.2.1.1.1.1.2
abbrev l3 (x:X):=x.1.2.2.1.1.1.2.1.1
abbrev l4 (x:X):=x.1.2.2.1.1.1.2.1.2
abbrev l5 (x:X):=x.1.2.2.1.1.1.2.2
abbrev l6 (x:X):=x.1.2.2.1.1.2.1.1.1
abbrev l7 (x:X):=x.1.2.2.1.1.2.1.1.2
abbrev l8 (x:X):=x.1.2.2.1.1.2.1.2
abbrev l9 (x:X):=x.1.2.2.1.1.2.2.1
abbrev l10 (x:X):=x.1.2.2.1.1.2.2.2
abbrev l11 (x:X):=x.1.2.2.1.2.1.1.1.1
abbrev l12 (x:X):=x.1.2.2.1.2.1.1.1.2
abbrev l13 (x:X):=x.1.2.2.1.2.1.1.2
abbrev l14 (x:X):=x.1.2.2.1.2.1.2.1
abbrev l15 (x:X):=x.1.2.2.1.2.1.2.2
abbrev l16 (x:X):=x.1.2.2.1.2.2.1.1.1
abbrev l17 (x:X):=x.1.2.2.1.2.2.1.1.2
abbrev l18 (x:X):=x.1.2.2.1.2.2.1.2
abbrev l19 (x:X):=x.1.2.2.1.2.2.2.1
abbrev l20 (x:X):=x.1.2.2.1.2.2.2.2
abbrev C0 (x:X):=x.1.1.1.1.1
abbrev C1 (x:X):=x.1.1.1.1.2
abbrev C2 (x:X):=x.1.1.1.2
abbrev C3 (x:X):=x.1.1.2.1
abbrev C4 (x:X):=x.1.1.2.2
abbrev C5 (x:X):=x.1.2.1.1.1
abbrev C6 (x:X):=x.1.2.1.1.2
abbrev C7 (x:X):=x.1.2.1.2
abbrev b0 (x:X):=PySem.W.boot_o_0 x.2
abbrev b1 (x:X):=PySem.W.boot_o_1 x.2
abbrev b2 (x:X):=PySem.W.boot_o_2 x.2
abbrev b3 (x:X):=PySem.W.boot_o_3 x.2
abbrev b4 (x:X):=PySem.W.boot_o_4 x.2
abbrev b5 (x:X):=PySem.W.boot_o_5 x.2
abbrev b6 (x:X):=PySem.W.boot_o_6 x.2
abbrev b7 (x:X):=PySem.W.boot_o_7 x.2
abbrev b8 (x:X):=PySem.W.boot_o_8 x.2
abbrev b9 (x:X):=PySem.W.boot_o_9 x.2
abbrev b10 (x:X):=PySem.W.boot_o_10 x.2
abbrev pg (x:X):PySem.Program:=x.1.2.2.2
def nth:List PySem.Stmt->Nat->PySem.Stmt:=λ l=>@List.rec PySem.Stmt (λ _=>Nat->PySem.Stmt) (λ _=>.Pass ⟨0,0,0,0⟩) (λ a _ ih n=>@Nat.rec (λ _=>PySem.Stmt) a (λ m _=>ih m) n) l
abbrev st (x:X) (k:Nat):PySem.Stmt:=nth (pg x).main.body k
def cb:PySem.Stmt->List PySem.Stmt | .ClassDef _ _ _ y _ _ _ _ _ _ _=>y | _=>[]
abbrev sm (x:X) (k m:Nat):PySem.Stmt:=nth (cb (st x k)) m
def f0:PySem.Stmt->Str | .FunctionDef y _ _ _ _ _ _ _ _ _=>y | _=>default
def f1:PySem.Stmt->Arguments | .FunctionDef _ y _ _ _ _ _ _ _ _=>y | _=>default
def f2:PySem.Stmt->List Stmt | .FunctionDef _ _ y _ _ _ _ _ _ _=>y | _=>[]
def f6:PySem.Stmt->Scope | .FunctionDef _ _ _ _ _ _ y _ _ _=>y | _=>default
abbrev u0:=@PySem.Obj.mk
abbrev u1:=@PySem.Value.type
abbrev u2:=@Option.none.{0} (@Nat)
abbrev u3:=@PySem.Data.seq
abbrev u4:=@List.toArray.{0} (@PySem.Value)
abbrev u5:=@List.nil.{0} (@PySem.Value)
abbrev u6:=@List.toArray.{0} (@Option.{0} (@PySem.Value))
abbrev u7:=@List.nil.{0} (@Option.{0} (@PySem.Value))
abbrev u8:=@PySem.Value.none
abbrev u9:=@PySem.Data.fields
abbrev u10:=@List.cons.{0} (@PySem.Value)
abbrev u11:=@PySem.Value.str
abbrev u12:=@PySem.Value.int
abbrev u13:=@PySem.Value.ref
abbrev u14:=@PySem.Value.bool
abbrev u15:=@Bool.false
abbrev u16:=@PySem.Data.plain
abbrev u17:=@List.cons.{0} (@Option.{0} (@PySem.Value))
abbrev u18:=@Option.some.{0} (@PySem.Value)
abbrev u19:=@Option.none.{0} (@PySem.Value)
abbrev u20:=@PySem.Data.dict
abbrev u21:=@List.toArray.{0} (@PySem.DictEntry)
abbrev u22:=@List.cons.{0} (@PySem.DictEntry)
abbrev u23:=@PySem.DictEntry.mk
abbrev u24:=@PySem.PyData.keyHash
abbrev u25:=@PySem.Value.builtin
abbrev u26:=@List.nil.{0} (@PySem.DictEntry)
abbrev u27:=@PySem.Data.func
abbrev u28:=@PySem.FuncData.mk
abbrev u29:=@PySem.FuncBody.stmts
abbrev u30:=@List.nil.{0} (@Prod.{0,0} (@PySem.Str) (@Nat))
abbrev u31:=@Bool.true
abbrev u32:=@PySem.Data.cls
abbrev u33:=@PySem.ClassData.mk
abbrev u34:=@List.nil.{0} (@PySem.Str)
abbrev u35:=@Option.none.{0} (@Bool)
abbrev u36:=@List.cons.{0} (@Prod.{0,0} (@Nat) (@PySem.Obj))
abbrev u37:=@Prod.mk.{0,0} (@Nat) (@PySem.Obj)
abbrev u38:=@List.nil.{0} (@Prod.{0,0} (@Nat) (@PySem.Obj))
abbrev u39:=@PySem.Heap.mk
abbrev u40:=@Array.mk.{0} (@PySem.Obj)
abbrev u41:=@List.cons.{0} (@PySem.Obj)
abbrev u42:=@List.nil.{0} (@PySem.Obj)
abbrev u43:=@PySem.Life.mk
abbrev u44:=@List.nil.{0} (@Nat)
abbrev u45:=@List.nil.{0} (@Prod.{0,0} (@Nat) (@Nat))
abbrev u46:=@List.toArray.{0} (@Nat)
abbrev u47:=@List.cons.{0} (@Int)
abbrev u48:=@List.nil.{0} (@Int)
abbrev u49:=@PySem.W.BT.node
abbrev u50:=@PySem.W.BT.nil
abbrev M (c:PySem.Value) (d:PySem.Data):PySem.Obj:=PySem.Obj.mk c none d #[]
abbrev E (x:X) (s:PySem.Str) (n:Nat) (v:PySem.Value):PySem.DictEntry:=⟨PySem.PyData.keyHash x.2 s,.str s n,v⟩
abbrev N (o:X->PySem.Obj) (l r:X->PySem.W.BT):X->PySem.W.BT:=λ x=>.node (o x) (l x) (r x)
abbrev Z:X->PySem.W.BT:=λ _=>.nil
abbrev Q (o:X->PySem.Obj) (l:X->List PySem.Obj):X->List PySem.Obj:=λ x=>o x :: l x
abbrev R:X->List PySem.Obj:=λ _=>[]
abbrev J (k:Nat) (o:X->PySem.Obj) (l:X->List (Nat × PySem.Obj)):X->List (Nat × PySem.Obj):=λ x=>(k,o x) :: l x
abbrev I:X->List (Nat × PySem.Obj):=λ _=>[]
def inz:PySem.W.BT->Nat->PySem.Obj->PySem.W.BT
 | .nil,_,o=>.node o .nil .nil
 | .node v l r,i,o=>if i=0 then .node o l r else if i % 2=1 then .node v (inz l (i / 2) o) r else .node v l (inz r (i / 2 - 1) o)
def gi:List (X->PySem.Obj)->Nat->X->PySem.W.BT->PySem.W.BT
 | [],_,_,t=>t
 | o :: l,k,x,t=>gi l (k + 1) x (inz t k (o x))
def G (t:X->PySem.W.BT) (k:Nat) (l:List (X->PySem.Obj)):X->PySem.W.BT:=λ x=>gi l k x (t x)
def ap {α:Type}:List α->List α->List α
 | [],l=>l
 | a :: k,l=>a :: ap k l
def sz {α:Type}:List α->Nat->α->List α
 | [],_,_=>[]
 | _ :: l,0,b=>b :: l
 | a :: l,i + 1,b=>a :: sz l i b
def mp (x:X):List (X->PySem.Obj)->List PySem.Obj
 | []=>[]
 | o :: l=>o x :: mp x l
def il {α:Type}:List α->List α->List α
 | [],l=>l
 | a :: k,[]=>a :: k
 | a :: k,b :: m=>a :: b :: il k m
def fl:PySem.W.BT->List PySem.Obj
 | .nil=>[]
 | .node o l r=>o :: il (fl l) (fl r)
def pj:List PySem.Obj->Nat->List Nat->List (Nat × PySem.Obj)
 | o :: l,k,a :: m=>if k=a then(a,o) :: pj l (k + 1) m else pj l (k + 1) (a :: m)
 | _,_,_=>[]
structure Nf {α:Type} (e:α) where
 v:α
 h:v=e
abbrev nf {α:Type} (e:α) (t:Nf e:=by refine' ⟨_,?_⟩;rotate_left;dsimp [G,gi,inz,ap,sz,mp,il,fl,pj];rfl):α:=t.v
def k0 (x:X):PySem.Obj:=(M (u1 (l0 x)) (u3 (u4 u5) 0))
def k1 (x:X) (a0:PySem.Str) (a1 a2 a3:Nat) (a4:Int) (a5 a6:Nat) (a7:Int) (a8:Nat):PySem.Obj:=(M (u1 (l1 x)) (u9 (u4 [(u11 a0 a1),(u11 a0 a2),(u11 (C0 x).b a3),(u12 a4 0),(u12 0 0),(u12 0 0),(u12 0 0),(u12 0 0),(u13 a5),(u14 u15),(u12 181 0),(u13 a6),u8,u8,u8,u8,(u12 a7 0),(u12 a4 0),(u11 (C0 x).b a8)])))
def k2 (x:X) (a0 a1:Nat) (a2:PySem.Str) (a3:Nat):PySem.Obj:=(u0 (u1 (l2 x)) u2 u16 (u6 [(u18 (u13 a0)),(u18 (u13 3)),(u18 (u13 a1)),u19,(u18 (u11 a2 a3)),u19,(u18 (u13 0))]))
def k3 (x:X) (a0:PySem.Str) (a1:Nat):PySem.Obj:=(M (u1 (l0 x)) (u3 (u4 [(u11 a0 a1)]) 0))
def k4 (x:X) (a0:PySem.Str) (a1:PySem.Stmt):PySem.Obj:=(M u8 (u27 (u28 a0 a0 (f1 a1) (u29 (f2 a1)) (f6 a1) 0 u30 u8 u8 u8 u8 u2 u8 u8 0)))
def k5 (x:X) (a0:PySem.Str) (a1:Nat) (a2:PySem.Str) (a3 a4:Nat) (a5 a6:Int) (a7 a8 a9 a10 a11:Nat) (a12:Int) (a13:Nat):PySem.Obj:=(M (u1 (l1 x)) (u9 (u4 [(u11 a0 a1),(u11 a2 a3),(u11 (C0 x).b a4),(u12 a5 0),(u12 a6 0),(u12 0 0),(u12 0 0),(u12 3 0),(u13 a7),(u14 u31),(u12 181 0),(u13 a8),u8,(u13 a9),(u13 a10),(u13 a11),(u12 a12 0),(u12 a5 0),(u11 (C0 x).b a13)])))
def k6 (x:X) (a0:PySem.Str) (a1:PySem.Stmt) (a2:PySem.Str) (a3 a4:Nat):PySem.Obj:=(M (u1 (l5 x)) (u27 (u28 a0 a0 (f1 a1) (u29 (f2 a1)) (f6 a1) 3 u30 u8 u8 u8 (u11 a2 a3) u2 (u13 a4) u8 0)))
def k7 (x:X):PySem.Obj:=(M (u1 (l7 x)) (u9 (u4 [(u25 (l8 x)),(u1 (l9 x))])))
def k8 (x:X) (a0 a1:Nat) (a2:Int) (a3:Nat) (a4:PySem.Str) (a5 a6:Nat) (a7:PySem.Str) (a8 a9 a10 a11:Nat):PySem.Obj:=(M (u1 (l3 x)) (u20 (u21 [(E x (C0 x).q a0 (u11 (C0 x).e 194)),(E x (C0 x).s a1 (u12 a2 a3)),(E x a4 a5 (u13 a6)),(E x a7 a8 (u13 a9)),(E x (C0 x).f a10 u8)]) a11))
def k9 (x:X) (a0 a1:Nat):PySem.Obj:=(M (u1 (l14 x)) (u9 (u4 [(u11 (C0 x).u a0),(u13 a1),(u25 (l15 x)),u8])))
def k10 (x:X) (a0:Nat):PySem.Obj:=(M (u1 (l16 x)) (u9 (u4 [(u13 a0),(u13 a0),(u13 a0)])))
def k11 (x:X) (a0:Nat):PySem.Obj:=(M (u1 (l7 x)) (u9 (u4 [(u25 (l17 x)),(u13 a0)])))
def k12 (x:X) (a0:Nat):PySem.Obj:=(M (u1 (l0 x)) (u3 (u4 [(u13 a0)]) 0))
def k13 (x:X) (a0 a1:Nat) (a2:PySem.Str) (a3 a4:Nat) (a5:Int) (a6 a7 a8 a9 a10:Nat):PySem.Obj:=(M (u1 (l3 x)) (u20 (u21 [(E x (C0 x).q a0 (u11 (C0 x).e 194)),(E x (C0 x).r a1 (u11 a2 a3)),(E x (C0 x).s a4 (u12 a5 a6)),(E x (C0 x).w a7 (u13 a8)),(E x (C0 x).t a9 (u13 a10))]) 5))
def k14 (x:X) (a0:Int) (a1:Nat):PySem.Obj:=(M u8 (u9 (u4 [(u12 a0 0),(u12 4 0),(u13 a1)])))
def k15 (x:X) (a0:PySem.Str) (a1:Nat) (a2:PySem.Str) (a3:Nat):PySem.Obj:=(M (u1 (l0 x)) (u3 (u4 [(u11 a0 a1),(u11 a2 a3)]) 0))
def k16 (x:X) (a0 a1:PySem.Str) (a2 a3:PySem.Stmt):PySem.Obj:=(M u8 (u27 (u28 a0 a1 (f1 a2) (u29 (f2 a2)) (f6 a3) 0 u30 u8 u8 u8 u8 u2 u8 u8 0)))
def k17 (x:X) (a0 a1:PySem.Str) (a2 a3:PySem.Stmt) (a4:PySem.Str) (a5 a6:Nat):PySem.Obj:=(M (u1 (l5 x)) (u27 (u28 a0 a1 (f1 a2) (u29 (f2 a2)) (f6 a3) 3 u30 u8 u8 u8 (u11 a4 a5) u2 (u13 a6) u8 0)))
def k18 (x:X) (a0:PySem.Str) (a1 a2 a3 a4 a5:Nat):PySem.Obj:=(u0 (u1 (l9 x)) u2 (u32 (u33 a0 [(u13 31)] [(u13 a1),(u13 31),(u1 (l6 x)),(u1 (l10 x)),(u1 (l11 x)),(u1 (l12 x))] a2 a0 u31 u34 u5 u15 u35 u15)) (u6 [(u18 (u13 a3)),u19,(u18 (u11 a0 a4)),(u18 (u11 a0 a5)),(u18 (u25 (l13 x))),(u18 (u14 u31))]))
def k19 (x:X) (a0 a1:Int) (a2:Nat) (a3:Int) (a4:Nat) (a5:Int) (a6:Nat) (a7:Int) (a8:Nat) (a9:Int) (a10:Nat):PySem.Obj:=(M u8 (u9 (u4 [(u12 a0 0),(u12 a1 0),(u13 a2),(u12 a3 0),(u12 a1 0),(u13 a4),(u12 a5 0),(u12 a1 0),(u13 a6),(u12 a7 0),(u12 a1 0),(u13 a8),(u12 a9 0),(u12 a1 0),(u13 a10)])))
def k20 (x:X) (a0:PySem.Str) (a1:Nat) (a2:PySem.Str) (a3:Nat) (a4:PySem.Str) (a5:Nat):PySem.Obj:=(M (u1 (l0 x)) (u3 (u4 [(u11 a0 a1),(u11 a2 a3),(u11 a4 a5)]) 0))
def k21 (x:X) (a0:PySem.Str) (a1:Nat) (a2:PySem.Str) (a3:Nat) (a4:PySem.Str) (a5:Nat) (a6:PySem.Str) (a7:Nat):PySem.Obj:=(M (u1 (l0 x)) (u3 (u4 [(u11 a0 a1),(u11 a2 a3),(u11 a4 a5),(u11 a6 a7)]) 0))
def k22 (x:X) (a0:PySem.Str) (a1 a2 a3 a4:Nat):PySem.Obj:=(u0 (u1 (l9 x)) u2 (u32 (u33 a0 [(u1 (l12 x))] [(u13 a1),(u1 (l12 x))] a2 a0 u31 u34 u5 u15 u35 u15)) (u6 [u19,u19,(u18 (u11 a0 a3)),(u18 (u11 a0 a4)),(u18 (u25 (l18 x))),(u18 (u14 u31))]))
def k23 (x:X) (a0 a1:Nat):PySem.Obj:=(M (u1 (l14 x)) (u9 (u4 [(u11 (C2 x).o a0),(u13 a1),(u25 (l19 x)),(u25 (l20 x))])))
def k24 (x:X) (a0:PySem.Str) (a1:Nat) (a2:PySem.Str) (a3:Nat) (a4:PySem.Str) (a5:Nat) (a6:PySem.Str) (a7:Nat) (a8:PySem.Str) (a9:Nat):PySem.Obj:=(M (u1 (l0 x)) (u3 (u4 [(u11 a0 a1),(u11 a2 a3),(u11 a4 a5),(u11 a6 a7),(u11 a8 a9)]) 0))
def k25 (x:X) (a0:PySem.Str) (a1:Nat) (a2:PySem.Str) (a3 a4:Nat) (a5 a6:Int) (a7 a8 a9:Nat) (a10:Int) (a11:Nat):PySem.Obj:=(M (u1 (l1 x)) (u9 (u4 [(u11 a0 a1),(u11 a2 a3),(u11 (C0 x).b a4),(u12 a5 0),(u12 a6 0),(u12 0 0),(u12 0 0),(u12 3 0),(u13 a7),(u14 u31),(u12 181 0),(u13 a8),u8,u8,u8,(u13 a9),(u12 a10 0),(u12 a5 0),(u11 (C0 x).b a11)])))
def k26 (x:X) (a0:PySem.Stmt):PySem.Obj:=(M u8 (u27 (u28 (f0 a0) (f0 a0) (f1 a0) (u29 (f2 a0)) (f6 a0) 0 u30 u8 u8 u8 u8 u2 u8 u8 0)))
def k27 (x:X) (a0:PySem.Stmt) (a1:PySem.Str) (a2 a3:Nat):PySem.Obj:=(M (u1 (l5 x)) (u27 (u28 (f0 a0) (f0 a0) (f1 a0) (u29 (f2 a0)) (f6 a0) 3 u30 u8 u8 u8 (u11 a1 a2) u2 (u13 a3) u8 0)))
variable (x:X)
def o43:=k0 x 
def o44 (x:X):Obj:=(M u8 (u9 (u4 u5)))
def o45:=k1 x (C0 x).a 182 183 184 1 11 12 185 186
def o46:=k2 x 13 3 (C0 x).c 164
abbrev d0 (x:X):List (@PySem.DictEntry):=[(E x (C0 x).d 165 (u11 (C0 x).e 194)),(E x (C0 x).f 166 u8),(E x (C0 x).g 167 u8),(E x (C0 x).h 168 (u25 (l4 x))),(E x (C0 x).i 169 u8),(E x (C0 x).j 170 (u13 6)),(E x (C0 x).k 171 (u13 4)),(E x (C0 x).l 173 (u11 (C0 x).b 172)),(E x (C0 x).m 174 u8),(E x (C0 x).n 193 (u13 21)),(E x (C0 x).o 213 (u13 31))]
def o49:=(M (u1 (l3 x)) (u20 (u21 (d0 x)) 11))
abbrev d1 (x:X):List (@PySem.Value):=[(u12 1 0),(u12 0 0),(u13 20),(u12 5 0),(u12 0 0),(u13 27)]
def o50:=(M u8 (u9 (u4 (d1 x))))
def o53:=k3 x (C0 x).p 190
def o55:=k4 x (C0 x).n (st x 0)
def o56:=k5 x (C0 x).n 187 (C0 x).n 188 189 1 1 15 16 17 18 19 191 192
def o57:=k6 x (C0 x).n (st x 0) (C0 x).c 164 20
def o58:=(M (u1 (l0 x)) (u3 (u4 [(u1 (l6 x))]) 0))
def o59:=k7 x 
def o60:=(M (u1 (l3 x)) (u20 (u21 [(E x (C0 x).q 203 (u11 (C0 x).e 194)),(E x (C0 x).r 205 (u11 (C0 x).o 204)),(E x (C0 x).s 207 (u12 5 206)),(E x (C0 x).t 208 (u13 29))]) 4))
def o63:=k1 x (C0 x).o 198 199 200 5 25 26 201 202
def o64:=k2 x 27 24 (C0 x).e 194
def o66:=k8 x 203 207 5 206 (C0 x).t 208 29 (C0 x).u 210 32 211 3
abbrev d3 (x:X):List (@PySem.Value):=[(u13 31),(u1 (l6 x)),(u1 (l10 x)),(u1 (l11 x)),(u1 (l12 x))]
abbrev d4 (x:X):List (@Option.{0} (@PySem.Value)):=[(u18 (u13 22)),u19,(u18 (u11 (C0 x).o 196)),(u18 (u11 (C0 x).o 204)),(u18 (u25 (l13 x))),(u18 (u14 u31))]
def o67:=(u0 (u1 (l9 x)) u2 (u32 (u33 (C0 x).o [(u1 (l6 x))] (d3 x) 30 (C0 x).o u31 u34 u5 u15 u35 u15)) (u6 (d4 x)))
def o68:=k9 x 209 31
def o69:=k10 x 31
def o70:=k11 x 31
abbrev d5 (x:X):List (@PySem.DictEntry):=(nf (ap (d0 x) [(E x (C0 x).v 238 (u13 51))]))
def o71:=(M (u1 (l3 x)) (u20 (u21 (d5 x)) 12))
abbrev d6 (x:X):List (@PySem.Value):=(nf (ap (d1 x) [(u12 7 0),(u12 0 0),(u13 40)]))
def o72:=(M u8 (u9 (u4 (d6 x))))
def o73:=(u0 (u1 (l9 x)) u2 (u32 (u33 (C0 x).o [(u1 (l6 x))] ((d3 x)) 30 (C0 x).o u31 u34 [(u13 51)] u15 u35 u15)) (u6 ((d4 x))))
def o74:=k12 x 31
def o76:=k13 x 221 223 (C0 x).v 222 225 7 224 233 48 235 49
def o78:=k14 x 9 47
def o79:=k1 x (C0 x).v 216 217 218 7 38 39 219 220
def o80:=k2 x 40 37 (C0 x).e 194
def o83:=k15 x (C0 x).x 229 (C0 x).y 230
def o85:=k16 x (C0 x).w (C1 x).a (sm x 3 0) (sm x 3 0)
def o86:=k5 x (C0 x).w 226 (C1 x).a 227 228 9 2 42 43 44 45 46 231 232
def o87:=k17 x (C0 x).w (C1 x).a (sm x 3 0) (sm x 3 0) (C0 x).e 194 47
def o88:=k3 x (C0 x).y 234
def o89:=k8 x 221 225 7 224 (C0 x).w 233 48 (C0 x).t 235 49 236 2
def o90:=k18 x (C0 x).v 51 50 35 214 222
def o91:=k10 x 51
def o92:=k11 x 51
abbrev d9 (x:X):List (@PySem.DictEntry):=(nf (ap (d5 x) [(E x (C1 x).b 263 (u13 70))]))
def o93:=(M (u1 (l3 x)) (u20 (u21 (d9 x)) 13))
abbrev d10 (x:X):List (@PySem.Value):=(nf (ap (d6 x) [(u12 11 0),(u12 0 0),(u13 59)]))
def o94:=(M u8 (u9 (u4 (d10 x))))
def o95:=(u0 (u1 (l9 x)) u2 (u32 (u33 (C0 x).o [(u1 (l6 x))] ((d3 x)) 30 (C0 x).o u31 u34 [(u13 51),(u13 70)] u15 u35 u15)) (u6 ((d4 x))))
def o98:=k13 x 246 248 (C1 x).b 247 250 11 249 258 67 260 68
def Ly:=k14 x 13 66
def Lk:=k1 x (C1 x).b 241 242 243 11 57 58 244 245
def JT:=k2 x 59 56 (C0 x).e 194
def LA:=k15 x (C0 x).x 254 (C1 x).c 255
def IB:=k16 x (C0 x).w (C1 x).d (sm x 4 0) (sm x 4 0)
def KY:=k5 x (C0 x).w 251 (C1 x).d 252 253 13 2 61 62 63 64 65 256 257
def Oj:=k17 x (C0 x).w (C1 x).d (sm x 4 0) (sm x 4 0) (C0 x).e 194 66
def Me:=k3 x (C1 x).c 259
def Ii:=k8 x 246 250 11 249 (C0 x).w 258 67 (C0 x).t 260 68 261 2
def Ji:=k18 x (C1 x).b 70 69 54 239 247
def Nx:=k10 x 70
def Ol:=k11 x 70
abbrev d13 (x:X):List (@PySem.DictEntry):=(nf (ap (d9 x) [(E x (C1 x).e 288 (u13 89))]))
def Mz:=(M (u1 (l3 x)) (u20 (u21 (d13 x)) 14))
def Mc:=k19 x 1 0 20 5 27 7 40 11 59 15 78
def Pw:=(u0 (u1 (l9 x)) u2 (u32 (u33 (C0 x).o [(u1 (l6 x))] ((d3 x)) 30 (C0 x).o u31 u34 [(u13 51),(u13 70),(u13 89)] u15 u35 u15)) (u6 ((d4 x))))
def OV:=k13 x 271 273 (C1 x).e 272 275 15 274 283 86 285 87
def JB:=k14 x 17 85
def Qm:=k1 x (C1 x).e 266 267 268 15 76 77 269 270
def Qq:=k2 x 78 75 (C0 x).e 194
def P7:=k15 x (C0 x).x 279 (C1 x).f 280
def JC:=k16 x (C0 x).w (C1 x).g (sm x 5 0) (sm x 5 0)
def JU:=k5 x (C0 x).w 276 (C1 x).g 277 278 17 2 80 81 82 83 84 281 282
def Ml:=k17 x (C0 x).w (C1 x).g (sm x 5 0) (sm x 5 0) (C0 x).e 194 85
def OU:=k3 x (C1 x).f 284
def Nq:=k8 x 271 275 15 274 (C0 x).w 283 86 (C0 x).t 285 87 286 2
def K7:=k18 x (C1 x).e 89 88 73 264 272
def JY:=k10 x 89
def OS:=k11 x 89
abbrev d16 (x:X):List (@PySem.DictEntry):=(nf (ap (d13 x) [(E x (C1 x).h 313 (u13 108))]))
def ID:=(M (u1 (l3 x)) (u20 (u21 (d16 x)) 15))
abbrev d17 (x:X):List (@PySem.Value):=(nf (ap (d10 x) [(u12 15 0),(u12 0 0),(u13 78),(u12 19 0),(u12 0 0),(u13 97)]))
def PV:=(M u8 (u9 (u4 (d17 x))))
abbrev d19 (x:X):List (@PySem.Value):=[(u13 51),(u13 70),(u13 89),(u13 108)]
def Jy:=(u0 (u1 (l9 x)) u2 (u32 (u33 (C0 x).o [(u1 (l6 x))] ((d3 x)) 30 (C0 x).o u31 u34 (d19 x) u15 u35 u15)) (u6 ((d4 x))))
def Nm:=k13 x 296 298 (C1 x).h 297 300 19 299 308 105 310 106
def Of:=k14 x 21 104
def Jo:=k1 x (C1 x).h 291 292 293 19 95 96 294 295
def Ma:=k2 x 97 94 (C0 x).e 194
def Kr:=k15 x (C0 x).x 304 (C1 x).i 305
def O7:=k16 x (C0 x).w (C1 x).j (sm x 6 0) (sm x 6 0)
def HR:=k5 x (C0 x).w 301 (C1 x).j 302 303 21 2 99 100 101 102 103 306 307
def IQ:=k17 x (C0 x).w (C1 x).j (sm x 6 0) (sm x 6 0) (C0 x).e 194 104
def Ja:=k3 x (C1 x).i 309
def MO:=k8 x 296 300 19 299 (C0 x).w 308 105 (C0 x).t 310 106 311 2
def KI:=k18 x (C1 x).h 108 107 92 289 297
def Na:=k10 x 108
def IK:=k11 x 108
abbrev d21 (x:X):List (@PySem.DictEntry):=(nf (ap (sz (d16 x) 0 (E x (C0 x).d 165 (u11 (C1 x).k 330))) [(E x (C1 x).l 329 (u13 120))]))
def Nh:=(M (u1 (l3 x)) (u20 (u21 (d21 x)) 16))
abbrev d22 (x:X):List (@PySem.Value):=(nf (ap (d17 x) [(u12 23 0),(u12 0 0),(u13 116)]))
def LY:=(M u8 (u9 (u4 (d22 x))))
def HX:=(u0 (u1 (l9 x)) u2 (u32 (u33 (C0 x).o [(u1 (l6 x))] ((d3 x)) 30 (C0 x).o u31 u34 ((nf (ap (d19 x) [(u13 120)]))) u15 u35 u15)) (u6 ((d4 x))))
def O5:=(M (u1 (l3 x)) (u20 (u21 [(E x (C0 x).q 321 (u11 (C0 x).e 194)),(E x (C0 x).r 323 (u11 (C1 x).l 322)),(E x (C0 x).s 325 (u12 23 324)),(E x (C0 x).t 326 (u13 118))]) 4))
def K6:=k1 x (C1 x).l 316 317 318 23 114 115 319 320
def K8:=k2 x 116 113 (C0 x).e 194
def Lw:=(M (u1 (l3 x)) (u20 (u21 [(E x (C0 x).q 321 (u11 (C0 x).e 194)),(E x (C0 x).s 325 (u12 23 324)),(E x (C0 x).t 326 (u13 118)),(E x (C0 x).f 327 u8)]) 2))
def Qp:=k18 x (C1 x).l 120 119 111 314 322
def KA:=k10 x 120
def O1:=k11 x 120
abbrev d28 (x:X):List (@PySem.DictEntry):=(nf (ap (d21 x) [(E x (C1 x).m 435 (u13 202))]))
def Lf:=(M (u1 (l3 x)) (u20 (u21 (d28 x)) 17))
abbrev d29 (x:X):List (@PySem.Value):=(nf (ap (d22 x) [(u12 26 0),(u12 0 0),(u13 128)]))
def MQ:=(M u8 (u9 (u4 (d29 x))))
def OQ:=(M (u1 (l3 x)) (u20 (u21 [(E x (C0 x).q 339 (u11 (C1 x).k 330)),(E x (C0 x).r 341 (u11 (C1 x).m 340)),(E x (C0 x).s 343 (u12 26 342)),(E x (C0 x).w 350 (u13 136)),(E x (C1 x).n 358 (u13 143)),(E x (C1 x).o 365 (u13 150)),(E x (C1 x).p 374 (u13 157)),(E x (C1 x).q 381 (u13 164)),(E x (C1 x).r 388 (u13 171)),(E x (C1 x).s 397 (u13 178)),(E x (C1 x).t 407 (u13 185)),(E x (C1 x).u 416 (u13 192)),(E x (C1 x).v 426 (u13 199)),(E x (C0 x).t 428 (u13 200))]) 14))
def Lv (x:X):Obj:=(M u8 (u9 (u4 [(u12 28 0),(u12 4 0),(u13 135),(u12 31 0),(u12 4 0),(u13 142),(u12 35 0),(u12 4 0),(u13 149),(u12 40 0),(u12 4 0),(u13 156),(u12 48 0),(u12 4 0),(u13 163),(u12 51 0),(u12 4 0),(u13 170),(u12 54 0),(u12 4 0),(u13 177),(u12 60 0),(u12 4 0),(u13 184),(u12 68 0),(u12 4 0),(u13 191),(u12 74 0),(u12 4 0),(u13 198)])))
def JW:=k1 x (C1 x).m 334 335 336 26 126 127 337 338
def Im:=k2 x 128 125 (C1 x).k 330
def PX:=k3 x (C0 x).x 347
def KQ:=k16 x (C0 x).w (C1 x).w (sm x 9 0) (sm x 9 0)
def P0:=k5 x (C0 x).w 344 (C1 x).w 345 346 28 1 130 131 132 133 134 348 349
def IY:=k17 x (C0 x).w (C1 x).w (sm x 9 0) (sm x 9 0) (C1 x).k 330 135
def Jb:=k15 x (C0 x).x 354 (C1 x).x 355
def KU:=k16 x (C1 x).n (C1 x).y (sm x 9 1) (sm x 9 1)
def Nr:=k5 x (C1 x).n 351 (C1 x).y 352 353 31 2 137 138 139 140 141 356 357
def OT:=k17 x (C1 x).n (C1 x).y (sm x 9 1) (sm x 9 1) (C1 x).k 330 142
def Ni:=k3 x (C0 x).x 362
def P5:=k16 x (C1 x).o (C2 x).a (sm x 9 2) (sm x 9 2)
def OM:=k5 x (C1 x).o 359 (C2 x).a 360 361 35 1 144 145 146 147 148 363 364
def Iu:=k17 x (C1 x).o (C2 x).a (sm x 9 2) (sm x 9 2) (C1 x).k 330 149
def Kl:=k20 x (C0 x).x 369 (C1 x).x 370 (C2 x).b 371
def JM:=k16 x (C1 x).p (C2 x).c (sm x 9 3) (sm x 9 3)
def KZ:=k5 x (C1 x).p 366 (C2 x).c 367 368 40 1 151 152 153 154 155 372 373
def Ou:=k17 x (C1 x).p (C2 x).c (sm x 9 3) (sm x 9 3) (C1 x).k 330 156
def Po:=k3 x (C0 x).x 378
def Pe:=k16 x (C1 x).q (C2 x).d (sm x 9 4) (sm x 9 4)
def Ob:=k5 x (C1 x).q 375 (C2 x).d 376 377 48 1 158 159 160 161 162 379 380
def NG:=k17 x (C1 x).q (C2 x).d (sm x 9 4) (sm x 9 4) (C1 x).k 330 163
def Py:=k3 x (C0 x).x 385
def Lh:=k16 x (C1 x).r (C2 x).e (sm x 9 5) (sm x 9 5)
def IU:=k5 x (C1 x).r 382 (C2 x).e 383 384 51 1 165 166 167 168 169 386 387
def Kg:=k17 x (C1 x).r (C2 x).e (sm x 9 5) (sm x 9 5) (C1 x).k 330 170
def Ik:=k20 x (C0 x).x 392 (C0 x).y 393 (C2 x).f 394
def Ig:=k16 x (C1 x).s (C2 x).g (sm x 9 6) (sm x 9 6)
def Oi:=k5 x (C1 x).s 389 (C2 x).g 390 391 54 2 172 173 174 175 176 395 396
def Qt:=k17 x (C1 x).s (C2 x).g (sm x 9 6) (sm x 9 6) (C1 x).k 330 177
def OP:=k21 x (C0 x).x 401 (C0 x).y 402 (C2 x).h 403 (C2 x).f 404
def Nj:=k16 x (C1 x).t (C2 x).i (sm x 9 7) (sm x 9 7)
def Qk:=k5 x (C1 x).t 398 (C2 x).i 399 400 60 2 179 180 181 182 183 405 406
def PM:=k17 x (C1 x).t (C2 x).i (sm x 9 7) (sm x 9 7) (C1 x).k 330 184
def Jp:=k20 x (C0 x).x 411 (C0 x).y 412 (C2 x).f 413
def Ir:=(M u8 (u27 (u28 (f0 (sm x 9 8)) (C2 x).j (f1 (sm x 9 8)) (u29 (f2 (sm x 9 8))) (f6 (sm x 9 8)) 0 u30 u8 u8 u8 u8 u2 u8 u8 0)))
def OY:=k5 x (C1 x).u 408 (C2 x).j 409 410 68 2 186 187 188 189 190 414 415
def MZ:=(M (u1 (l5 x)) (u27 (u28 (f0 (sm x 9 8)) (C2 x).j (f1 (sm x 9 8)) (u29 (f2 (sm x 9 8))) (f6 (sm x 9 8)) 3 u30 u8 u8 u8 (u11 (C1 x).k 330) u2 (u13 191) u8 0)))
def KG:=k21 x (C0 x).x 420 (C2 x).k 421 (C2 x).l 422 (C1 x).x 423
def MC:=k16 x (C1 x).v (C2 x).m (sm x 9 9) (sm x 9 9)
def LX:=k5 x (C1 x).v 417 (C2 x).m 418 419 74 3 193 194 195 196 197 424 425
def LQ:=k17 x (C1 x).v (C2 x).m (sm x 9 9) (sm x 9 9) (C1 x).k 330 198
def IP:=k3 x (C2 x).n 427
def KO:=(M (u1 (l3 x)) (u20 (u21 [(E x (C0 x).q 339 (u11 (C1 x).k 330)),(E x (C0 x).s 343 (u12 26 342)),(E x (C0 x).w 350 (u13 136)),(E x (C1 x).n 358 (u13 143)),(E x (C1 x).o 365 (u13 150)),(E x (C1 x).p 374 (u13 157)),(E x (C1 x).q 381 (u13 164)),(E x (C1 x).r 388 (u13 171)),(E x (C1 x).s 397 (u13 178)),(E x (C1 x).t 407 (u13 185)),(E x (C1 x).u 416 (u13 192)),(E x (C1 x).v 426 (u13 199)),(E x (C0 x).t 428 (u13 200)),(E x (C2 x).o 430 (u13 203)),(E x (C0 x).u 432 (u13 204)),(E x (C0 x).f 433 u8)]) 4))
def MB:=k22 x (C1 x).m 202 201 332 340
def JQ:=k23 x 429 202
def Jl:=k9 x 431 202
def OI:=k10 x 202
def PU:=k11 x 202
abbrev d33 (x:X):List (@PySem.DictEntry):=(nf (ap (sz (d28 x) 0 (E x (C0 x).d 165 (u11 (C2 x).p 539))) [(E x (C2 x).q 448 (u13 213)),(E x (C2 x).r 459 (u13 220)),(E x (C2 x).s 471 (u13 227)),(E x (C2 x).t 482 (u13 234)),(E x (C2 x).u 488 (u13 239)),(E x (C2 x).v 497 (u13 246)),(E x (C2 x).w 505 (u13 253)),(E x (C2 x).x 513 (u13 260)),(E x (C2 x).y 515 (u12 18446744073709551615 514)),(E x (C3 x).a 524 (u13 267)),(E x (C3 x).b 538 (u13 274))]))
def HV:=(M (u1 (l3 x)) (u20 (u21 (d33 x)) 28))
abbrev d34 (x:X):List (@PySem.Value):=(nf (ap (d29 x) [(u12 79 0),(u12 0 0),(u13 212),(u12 84 0),(u12 0 0),(u13 219),(u12 90 0),(u12 0 0),(u13 226),(u12 103 0),(u12 0 0),(u13 233),(u12 111 0),(u12 0 0),(u13 238),(u12 122 0),(u12 0 0),(u13 245),(u12 127 0),(u12 0 0),(u13 252),(u12 129 0),(u12 0 0),(u13 259),(u12 133 0),(u12 0 0),(u13 266),(u12 135 0),(u12 0 0),(u13 273)]))
def Mu:=(M u8 (u9 (u4 (d34 x))))
def MH:=k20 x (C3 x).c 441 (C3 x).d 442 (C3 x).e 443
def MG:=k15 x (C3 x).c 444 (C3 x).d 445
def O0:=k4 x (C2 x).q (st x 11)
def JK:=k5 x (C2 x).q 438 (C2 x).q 439 440 79 2 207 208 209 210 211 446 447
def MY:=k6 x (C2 x).q (st x 11) (C3 x).f 436 212
def ML:=k24 x (C3 x).g 452 (C3 x).e 453 (C3 x).h 454 (C1 x).c 455 (C3 x).i 456
def O4:=k4 x (C2 x).r (st x 12)
def Lc:=k5 x (C2 x).r 449 (C2 x).r 450 451 84 2 214 215 216 217 218 457 458
def LM:=k6 x (C2 x).r (st x 12) (C3 x).f 436 219
def JJ:=(M (u1 (l0 x)) (u3 (u4 [(u11 (C3 x).h 463),(u11 (C3 x).j 464),(u11 (C3 x).k 465),(u11 (C3 x).l 466),(u11 (C1 x).x 467),(u11 (C3 x).m 468)]) 0))
def Mb:=k4 x (C2 x).s (st x 13)
def NH:=k5 x (C2 x).s 460 (C2 x).s 461 462 90 1 221 222 223 224 225 469 470
def JG:=k6 x (C2 x).s (st x 13) (C3 x).f 436 226
def Ih:=k24 x (C3 x).h 475 (C3 x).k 476 (C2 x).b 477 (C3 x).m 478 (C3 x).n 479
def Js:=k4 x (C2 x).t (st x 14)
def Jj:=k5 x (C2 x).t 472 (C2 x).t 473 474 103 1 228 229 230 231 232 480 481
def Ny:=k6 x (C2 x).t (st x 14) (C3 x).f 436 233
def NI:=k4 x (C2 x).u (st x 15)
def Jc:=k25 x (C2 x).u 483 (C2 x).u 484 485 111 2 235 236 237 486 487
def OX:=k6 x (C2 x).u (st x 15) (C3 x).f 436 238
def Ju:=k20 x (C3 x).h 492 (C3 x).j 493 (C3 x).m 494
def JE:=k26 x (st x 16)
def Kf:=k5 x (C2 x).v 489 (C2 x).v 490 491 122 1 240 241 242 243 244 495 496
def MX:=k27 x (st x 16) (C3 x).f 436 245
def PJ:=k15 x (C3 x).k 501 (C3 x).n 502
def JS:=k4 x (C2 x).w (st x 17)
def Ot:=k5 x (C2 x).w 498 (C2 x).w 499 500 127 2 247 248 249 250 251 503 504
def Pb:=k6 x (C2 x).w (st x 17) (C3 x).f 436 252
def Ld:=k15 x (C3 x).o 509 (C3 x).m 510
def HJ:=k4 x (C2 x).x (st x 18)
def Od:=k5 x (C2 x).x 506 (C2 x).x 507 508 129 2 254 255 256 257 258 511 512
def NS:=k6 x (C2 x).x (st x 18) (C3 x).f 436 259
def KH:=k3 x (C1 x).c 521
def LD:=k4 x (C3 x).a (st x 21)
def Jk:=k5 x (C3 x).a 518 (C3 x).a 519 520 133 1 261 262 263 264 265 522 523
def MW:=k6 x (C3 x).a (st x 21) (C3 x).p 516 266
def O8:=(M (u1 (l0 x)) (u3 (u4 [(u11 (C3 x).n 528),(u11 (C1 x).i 529),(u11 (C3 x).q 530),(u11 (C3 x).r 531),(u11 (C0 x).y 532),(u11 (C3 x).s 533),(u11 (C3 x).t 534),(u11 (C1 x).c 535)]) 0))
def Lb:=k4 x (C3 x).b (st x 22)
def IS:=k5 x (C3 x).b 525 (C3 x).b 526 527 135 3 268 269 270 271 272 536 537
def NV:=k6 x (C3 x).b (st x 22) (C3 x).p 516 273
abbrev d37 (x:X):List (@PySem.DictEntry):=(nf (ap (d33 x) [(E x (C3 x).u 595 (u13 310))]))
def Qf:=(M (u1 (l3 x)) (u20 (u21 (d37 x)) 29))
abbrev d38 (x:X):List (@PySem.Value):=(nf (ap (d34 x) [(u12 144 0),(u12 0 0),(u13 280)]))
def IA:=(M u8 (u9 (u4 (d38 x))))
def Qe:=(M (u1 (l3 x)) (u20 (u21 [(E x (C0 x).q 548 (u11 (C2 x).p 539)),(E x (C0 x).r 550 (u11 (C3 x).u 549)),(E x (C0 x).s 552 (u12 144 551)),(E x (C0 x).w 558 (u13 286)),(E x (C1 x).q 565 (u13 293)),(E x (C3 x).v 572 (u13 300)),(E x (C3 x).w 583 (u13 307)),(E x (C0 x).t 588 (u13 308))]) 8))
def Oo (x:X):Obj:=(M u8 (u9 (u4 [(u12 146 0),(u12 4 0),(u13 285),(u12 153 0),(u12 4 0),(u13 292),(u12 156 0),(u12 4 0),(u13 299),(u12 159 0),(u12 4 0),(u13 306)])))
def NQ:=k1 x (C3 x).u 543 544 545 144 278 279 546 547
def Iz:=k2 x 280 277 (C2 x).p 539
def Qo:=k16 x (C0 x).w (C3 x).x (sm x 24 0) (sm x 24 0)
def IJ:=k25 x (C0 x).w 553 (C3 x).x 554 555 146 5 282 283 284 556 557
def LO:=k17 x (C0 x).w (C3 x).x (sm x 24 0) (sm x 24 0) (C2 x).p 539 285
def O3:=k3 x (C0 x).x 562
def Kd:=k16 x (C1 x).q (C3 x).y (sm x 24 1) (sm x 9 4)
def MN:=k5 x (C1 x).q 559 (C3 x).y 560 561 153 1 287 288 289 290 291 563 564
def KR:=k17 x (C1 x).q (C3 x).y (sm x 24 1) (sm x 9 4) (C2 x).p 539 292
def Qs:=k3 x (C0 x).x 569
def Jd:=k16 x (C3 x).v (C4 x).a (sm x 24 2) (sm x 9 0)
def JX:=k5 x (C3 x).v 566 (C4 x).a 567 568 156 1 294 295 296 297 298 570 571
def HM:=k17 x (C3 x).v (C4 x).a (sm x 24 2) (sm x 9 0) (C2 x).p 539 299
def Oe:=k24 x (C0 x).x 576 (C1 x).f 577 (C4 x).b 578 (C3 x).q 579 (C2 x).n 580
def Kv:=k16 x (C3 x).w (C4 x).c (sm x 24 3) (sm x 24 3)
def MS:=k5 x (C3 x).w 573 (C4 x).c 574 575 159 3 301 302 303 304 305 581 582
def Nn:=k17 x (C3 x).w (C4 x).c (sm x 24 3) (sm x 24 3) (C2 x).p 539 306
def OL:=k21 x (C3 x).t 584 (C1 x).i 585 (C4 x).d 586 (C3 x).q 587
def LL:=(M (u1 (l3 x)) (u20 (u21 [(E x (C0 x).q 548 (u11 (C2 x).p 539)),(E x (C0 x).s 552 (u12 144 551)),(E x (C0 x).w 558 (u13 286)),(E x (C1 x).q 565 (u13 293)),(E x (C3 x).v 572 (u13 300)),(E x (C3 x).w 583 (u13 307)),(E x (C0 x).t 588 (u13 308)),(E x (C2 x).o 590 (u13 311)),(E x (C0 x).u 592 (u13 312)),(E x (C0 x).f 593 u8)]) 4))
def Jv:=k22 x (C3 x).u 310 309 541 549
def IE:=k23 x 589 310
def NR:=k9 x 591 310
def ME:=k10 x 310
def IG:=k11 x 310
abbrev d42 (x:X):List (@PySem.DictEntry):=(nf (ap (d37 x) [(E x (C4 x).e 649 (u13 358))]))
def Oh:=(M (u1 (l3 x)) (u20 (u21 (d42 x)) 30))
abbrev d43 (x:X):List (@PySem.Value):=(nf (ap (d38 x) [(u12 166 0),(u12 0 0),(u13 320)]))
def NO:=(M u8 (u9 (u4 (d43 x))))
abbrev d44 (x:X):List (@Option.{0} (@PySem.Value)):=[u19,u19,(u18 (u11 (C3 x).u 541)),(u18 (u11 (C3 x).u 549)),(u18 (u25 (l18 x))),(u18 (u14 u31))]
def Kp:=(u0 (u1 (l9 x)) u2 (u32 (u33 (C3 x).u [(u1 (l12 x))] [(u13 310),(u1 (l12 x))] 309 (C3 x).u u31 u34 [(u13 358)] u15 u35 u15)) (u6 (d44 x)))
def Gn:=k12 x 310
def Mf:=(M (u1 (l3 x)) (u20 (u21 [(E x (C0 x).q 603 (u11 (C2 x).p 539)),(E x (C0 x).r 605 (u11 (C4 x).e 604)),(E x (C0 x).s 607 (u12 166 606)),(E x (C0 x).w 617 (u13 329)),(E x (C3 x).n 624 (u13 336)),(E x (C4 x).f 631 (u13 343)),(E x (C4 x).g 637 (u13 348)),(E x (C4 x).h 645 (u13 355)),(E x (C0 x).t 646 (u13 356))]) 9))
def KS:=k19 x 168 4 328 171 335 174 342 177 347 180 354
def NY:=k1 x (C4 x).e 598 599 600 166 318 319 601 602
def Ph:=k2 x 320 317 (C2 x).p 539
def FA:=(M (u1 (l0 x)) (u3 (u4 [u8]) 0))
def NU:=k21 x (C0 x).x 611 (C1 x).i 612 (C3 x).q 613 (C3 x).t 614
def Kc:=k16 x (C0 x).w (C4 x).i (sm x 25 0) (sm x 25 0)
def O2:=k5 x (C0 x).w 608 (C4 x).i 609 610 168 4 323 324 325 326 327 615 616
def LG:=(M (u1 (l5 x)) (u27 (u28 (C0 x).w (C4 x).i (f1 (sm x 25 0)) (u29 (f2 (sm x 25 0))) (f6 (sm x 25 0)) 3 u30 (u13 322) u8 u8 (u11 (C2 x).p 539) u2 (u13 328) u8 0)))
def Nt:=k3 x (C0 x).x 621
def Jr:=k16 x (C3 x).n (C4 x).j (sm x 25 1) (sm x 9 0)
def MP:=k5 x (C3 x).n 618 (C4 x).j 619 620 171 1 330 331 332 333 334 622 623
def OZ:=k17 x (C3 x).n (C4 x).j (sm x 25 1) (sm x 9 0) (C2 x).p 539 335
def P6:=k3 x (C0 x).x 628
def Lp:=k16 x (C4 x).f (C4 x).k (sm x 25 2) (sm x 9 5)
def L7:=k5 x (C4 x).f 625 (C4 x).k 626 627 174 1 337 338 339 340 341 629 630
def Jf:=k17 x (C4 x).f (C4 x).k (sm x 25 2) (sm x 9 5) (C2 x).p 539 342
def OE:=k16 x (C4 x).g (C4 x).l (sm x 25 3) (sm x 25 3)
def MM:=k25 x (C4 x).g 632 (C4 x).l 633 634 177 2 344 345 346 635 636
def Pu:=k17 x (C4 x).g (C4 x).l (sm x 25 3) (sm x 25 3) (C2 x).p 539 347
def Lj:=k15 x (C0 x).x 641 (C3 x).q 642
def KN:=k16 x (C4 x).h (C4 x).m (sm x 25 4) (sm x 25 4)
def NW:=k5 x (C4 x).h 638 (C4 x).m 639 640 180 2 349 350 351 352 353 643 644
def Ql:=k17 x (C4 x).h (C4 x).m (sm x 25 4) (sm x 25 4) (C2 x).p 539 354
def NB:=(M (u1 (l3 x)) (u20 (u21 [(E x (C0 x).q 603 (u11 (C2 x).p 539)),(E x (C0 x).s 607 (u12 166 606)),(E x (C0 x).w 617 (u13 329)),(E x (C3 x).n 624 (u13 336)),(E x (C4 x).f 631 (u13 343)),(E x (C4 x).g 637 (u13 348)),(E x (C4 x).h 645 (u13 355)),(E x (C0 x).t 646 (u13 356)),(E x (C0 x).f 647 u8)]) 2))
def OR:=(u0 (u1 (l9 x)) u2 (u32 (u33 (C4 x).e [(u13 310)] [(u13 358),(u13 310),(u1 (l12 x))] 357 (C4 x).e u31 u34 u5 u15 u35 u15)) (u6 [(u18 (u13 315)),u19,(u18 (u11 (C4 x).e 596)),(u18 (u11 (C4 x).e 604)),(u18 (u25 (l18 x))),(u18 (u14 u31))]))
def Ng:=k10 x 358
def Jh:=k11 x 358
abbrev d48 (x:X):List (@PySem.DictEntry):=(nf (ap (sz (d42 x) 0 (E x (C0 x).d 165 (u11 (C4 x).n 711))) [(E x (C4 x).o 710 (u13 406))]))
def Nb:=(M (u1 (l3 x)) (u20 (u21 (d48 x)) 31))
abbrev d49 (x:X):List (@PySem.Value):=(nf (ap (d43 x) [(u12 182 0),(u12 0 0),(u13 366)]))
def Jx:=(M u8 (u9 (u4 (d49 x))))
def MD:=(u0 (u1 (l9 x)) u2 (u32 (u33 (C3 x).u [(u1 (l12 x))] [(u13 310),(u1 (l12 x))] 309 (C3 x).u u31 u34 [(u13 358),(u13 406)] u15 u35 u15)) (u6 ((d44 x))))
def LF:=(M (u1 (l3 x)) (u20 (u21 [(E x (C0 x).q 657 (u11 (C2 x).p 539)),(E x (C0 x).r 659 (u11 (C4 x).o 658)),(E x (C0 x).s 661 (u12 182 660)),(E x (C0 x).w 672 (u13 375)),(E x (C3 x).n 679 (u13 382)),(E x (C4 x).f 686 (u13 389)),(E x (C4 x).g 697 (u13 396)),(E x (C4 x).h 705 (u13 403)),(E x (C0 x).t 707 (u13 404))]) 9))
def ON:=k19 x 184 4 374 188 381 191 388 194 395 200 402
def HU:=k1 x (C4 x).o 652 653 654 182 364 365 655 656
def Mj:=k2 x 366 363 (C2 x).p 539
def IV:=k24 x (C0 x).x 665 (C4 x).p 666 (C1 x).i 667 (C3 x).q 668 (C3 x).t 669
def Qu:=k16 x (C0 x).w (C4 x).q (sm x 26 0) (sm x 26 0)
def P8:=k5 x (C0 x).w 662 (C4 x).q 663 664 184 5 369 370 371 372 373 670 671
def MR:=(M (u1 (l5 x)) (u27 (u28 (C0 x).w (C4 x).q (f1 (sm x 26 0)) (u29 (f2 (sm x 26 0))) (f6 (sm x 26 0)) 3 u30 (u13 368) u8 u8 (u11 (C2 x).p 539) u2 (u13 374) u8 0)))
def Ka:=k3 x (C0 x).x 676
def Ov:=k16 x (C3 x).n (C4 x).r (sm x 26 1) (sm x 9 0)
def Pj:=k5 x (C3 x).n 673 (C4 x).r 674 675 188 1 376 377 378 379 380 677 678
def OW:=k17 x (C3 x).n (C4 x).r (sm x 26 1) (sm x 9 0) (C2 x).p 539 381
def Mg:=k3 x (C0 x).x 683
def NZ:=k16 x (C4 x).f (C4 x).s (sm x 26 2) (sm x 9 5)
def IZ:=k5 x (C4 x).f 680 (C4 x).s 681 682 191 1 383 384 385 386 387 684 685
def OJ:=k17 x (C4 x).f (C4 x).s (sm x 26 2) (sm x 9 5) (C2 x).p 539 388
def JZ:=k24 x (C0 x).x 690 (C4 x).t 691 (C4 x).u 692 (C0 x).y 693 (C3 x).s 694
def LK:=k16 x (C4 x).g (C4 x).v (sm x 26 3) (sm x 26 3)
def Nv:=k5 x (C4 x).g 687 (C4 x).v 688 689 194 2 390 391 392 393 394 695 696
def LJ:=k17 x (C4 x).g (C4 x).v (sm x 26 3) (sm x 26 3) (C2 x).p 539 395
def OF:=k15 x (C0 x).x 701 (C3 x).q 702
def OD:=k16 x (C4 x).h (C4 x).w (sm x 26 4) (sm x 26 4)
def Ls:=k5 x (C4 x).h 698 (C4 x).w 699 700 200 2 397 398 399 400 401 703 704
def LS:=k17 x (C4 x).h (C4 x).w (sm x 26 4) (sm x 26 4) (C2 x).p 539 402
def Ln:=k3 x (C4 x).p 706
def Qa:=(M (u1 (l3 x)) (u20 (u21 [(E x (C0 x).q 657 (u11 (C2 x).p 539)),(E x (C0 x).s 661 (u12 182 660)),(E x (C0 x).w 672 (u13 375)),(E x (C3 x).n 679 (u13 382)),(E x (C4 x).f 686 (u13 389)),(E x (C4 x).g 697 (u13 396)),(E x (C4 x).h 705 (u13 403)),(E x (C0 x).t 707 (u13 404)),(E x (C0 x).f 708 u8)]) 2))
def OA:=(u0 (u1 (l9 x)) u2 (u32 (u33 (C4 x).o [(u13 310)] [(u13 406),(u13 310),(u1 (l12 x))] 405 (C4 x).o u31 u34 u5 u15 u35 u15)) (u6 [(u18 (u13 361)),u19,(u18 (u11 (C4 x).o 650)),(u18 (u11 (C4 x).o 658)),(u18 (u25 (l18 x))),(u18 (u14 u31))]))
def ND:=k10 x 406
def LH:=k11 x 406
abbrev d54 (x:X):List (@PySem.DictEntry):=(nf (ap (d48 x) [(E x (C4 x).x 803 (u13 481))]))
def KL:=(M (u1 (l3 x)) (u20 (u21 (d54 x)) 32))
abbrev d55 (x:X):List (@PySem.Value):=(nf (ap (d49 x) [(u12 203 0),(u12 0 0),(u13 414)]))
def Qg:=(M u8 (u9 (u4 (d55 x))))
def Ie:=(M (u1 (l3 x)) (u20 (u21 [(E x (C0 x).q 720 (u11 (C4 x).n 711)),(E x (C0 x).r 722 (u11 (C4 x).x 721)),(E x (C0 x).s 724 (u12 203 723)),(E x (C0 x).w 731 (u13 422)),(E x (C4 x).y 740 (u13 429)),(E x (C5 x).a 749 (u13 436)),(E x (C3 x).i 757 (u13 443)),(E x (C5 x).b 765 (u13 450)),(E x (C3 x).r 772 (u13 457)),(E x (C5 x).c 779 (u13 464)),(E x (C5 x).d 786 (u13 471)),(E x (C5 x).e 793 (u13 478)),(E x (C0 x).t 796 (u13 479))]) 13))
def HQ (x:X):Obj:=(M u8 (u9 (u4 [(u12 205 0),(u12 4 0),(u13 421),(u12 209 0),(u12 4 0),(u13 428),(u12 214 0),(u12 4 0),(u13 435),(u12 218 0),(u12 4 0),(u13 442),(u12 223 0),(u12 4 0),(u13 449),(u12 226 0),(u12 4 0),(u13 456),(u12 229 0),(u12 4 0),(u13 463),(u12 232 0),(u12 4 0),(u13 470),(u12 235 0),(u12 4 0),(u13 477)])))
def PN:=k1 x (C4 x).x 715 716 717 203 412 413 718 719
def Ms:=k2 x 414 411 (C4 x).n 711
def Je:=k3 x (C0 x).x 728
def HZ:=k16 x (C0 x).w (C5 x).f (sm x 28 0) (sm x 9 0)
def Mt:=k5 x (C0 x).w 725 (C5 x).f 726 727 205 1 416 417 418 419 420 729 730
def NJ:=k17 x (C0 x).w (C5 x).f (sm x 28 0) (sm x 9 0) (C4 x).n 711 421
def HW:=k20 x (C0 x).x 735 (C3 x).i 736 (C1 x).c 737
def Pn:=k16 x (C4 x).y (C5 x).g (sm x 28 1) (sm x 28 1)
def HK:=k5 x (C4 x).y 732 (C5 x).g 733 734 209 2 423 424 425 426 427 738 739
def IT:=k17 x (C4 x).y (C5 x).g (sm x 28 1) (sm x 28 1) (C4 x).n 711 428
def Qj:=k20 x (C0 x).x 744 (C1 x).c 745 (C3 x).i 746
def L8:=k16 x (C5 x).a (C5 x).h (sm x 28 2) (sm x 28 2)
def IW:=k5 x (C5 x).a 741 (C5 x).h 742 743 214 3 430 431 432 433 434 747 748
def Iv:=k17 x (C5 x).a (C5 x).h (sm x 28 2) (sm x 28 2) (C4 x).n 711 435
def Mv:=k15 x (C0 x).x 753 (C1 x).c 754
def Mq:=k16 x (C3 x).i (C5 x).i (sm x 28 3) (sm x 28 3)
def NT:=k5 x (C3 x).i 750 (C5 x).i 751 752 218 2 437 438 439 440 441 755 756
def Om:=k17 x (C3 x).i (C5 x).i (sm x 28 3) (sm x 28 3) (C4 x).n 711 442
def Nz:=k15 x (C0 x).x 761 (C1 x).c 762
def Mx:=k16 x (C5 x).b (C5 x).j (sm x 28 4) (sm x 28 4)
def Mn:=k5 x (C5 x).b 758 (C5 x).j 759 760 223 2 444 445 446 447 448 763 764
def OH:=k17 x (C5 x).b (C5 x).j (sm x 28 4) (sm x 28 4) (C4 x).n 711 449
def Nk:=k3 x (C0 x).x 769
def Mr:=k16 x (C3 x).r (C5 x).k (sm x 28 5) (sm x 28 5)
def MU:=k5 x (C3 x).r 766 (C5 x).k 767 768 226 1 451 452 453 454 455 770 771
def MT:=k17 x (C3 x).r (C5 x).k (sm x 28 5) (sm x 28 5) (C4 x).n 711 456
def Pk:=k3 x (C0 x).x 776
def Lx:=k16 x (C5 x).c (C5 x).l (sm x 28 6) (sm x 9 5)
def Iw:=k5 x (C5 x).c 773 (C5 x).l 774 775 229 1 458 459 460 461 462 777 778
def Lm:=k17 x (C5 x).c (C5 x).l (sm x 28 6) (sm x 9 5) (C4 x).n 711 463
def OO:=k3 x (C0 x).x 783
def Li:=k16 x (C5 x).d (C5 x).m (sm x 28 7) (sm x 9 5)
def Ko:=k5 x (C5 x).d 780 (C5 x).m 781 782 232 1 465 466 467 468 469 784 785
def Mh:=k17 x (C5 x).d (C5 x).m (sm x 28 7) (sm x 9 5) (C4 x).n 711 470
def PD:=k3 x (C0 x).x 790
def IX:=k16 x (C5 x).e (C5 x).n (sm x 28 8) (sm x 9 5)
def Pz:=k5 x (C5 x).e 787 (C5 x).n 788 789 235 1 472 473 474 475 476 791 792
def Lg:=k17 x (C5 x).e (C5 x).n (sm x 28 8) (sm x 9 5) (C4 x).n 711 477
def Lo:=k15 x (C5 x).o 794 (C5 x).p 795
def MJ:=(M (u1 (l3 x)) (u20 (u21 [(E x (C0 x).q 720 (u11 (C4 x).n 711)),(E x (C0 x).s 724 (u12 203 723)),(E x (C0 x).w 731 (u13 422)),(E x (C4 x).y 740 (u13 429)),(E x (C5 x).a 749 (u13 436)),(E x (C3 x).i 757 (u13 443)),(E x (C5 x).b 765 (u13 450)),(E x (C3 x).r 772 (u13 457)),(E x (C5 x).c 779 (u13 464)),(E x (C5 x).d 786 (u13 471)),(E x (C5 x).e 793 (u13 478)),(E x (C0 x).t 796 (u13 479)),(E x (C2 x).o 798 (u13 482)),(E x (C0 x).u 800 (u13 483)),(E x (C0 x).f 801 u8)]) 4))
def JH:=k22 x (C4 x).x 481 480 713 721
def Jz:=k23 x 797 481
def Oc:=k9 x 799 481
def LU:=k10 x 481
def JF:=k11 x 481
abbrev d59 (x:X):List (@PySem.DictEntry):=(nf (ap (sz (d54 x) 0 (E x (C0 x).d 165 (u11 (C5 x).q 819))) [(E x (C5 x).r 818 (u13 492)),(E x (C5 x).s 828 (u13 499)),(E x (C5 x).t 835 (u13 506)),(E x (C5 x).u 846 (u13 513)),(E x (C5 x).v 860 (u13 520)),(E x (C5 x).w 866 (u13 525)),(E x (C5 x).x 879 (u13 532)),(E x (C5 x).y 895 (u13 539)),(E x (C6 x).a 904 (u13 546)),(E x (C6 x).b 919 (u13 553)),(E x (C6 x).c 929 (u13 560))]))
def Qc:=(M (u1 (l3 x)) (u20 (u21 (d59 x)) 43))
abbrev d60 (x:X):List (@PySem.Value):=(nf (ap (d55 x) [(u12 238 0),(u12 0 0),(u13 491),(u12 253 0),(u12 0 0),(u13 498),(u12 257 0),(u12 0 0),(u13 505),(u12 259 0),(u12 0 0),(u13 512),(u12 266 0),(u12 0 0),(u13 519),(u12 276 0),(u12 0 0),(u13 524),(u12 281 0),(u12 0 0),(u13 531),(u12 288 0),(u12 0 0),(u13 538),(u12 300 0),(u12 0 0),(u13 545),(u12 302 0),(u12 0 0),(u13 552),(u12 312 0),(u12 0 0),(u13 559)]))
def P9:=(M u8 (u9 (u4 (d60 x))))
def Ij:=(M (u1 (l0 x)) (u3 (u4 [(u11 (C3 x).g 809),(u11 (C6 x).d 810),(u11 (C4 x).t 811),(u11 (C1 x).i 812),(u11 (C1 x).f 813),(u11 (C1 x).c 814),(u11 (C3 x).i 815)]) 0))
def Pd:=k4 x (C5 x).r (st x 30)
def HN:=k5 x (C5 x).r 806 (C5 x).r 807 808 238 2 486 487 488 489 490 816 817
def Qh:=k6 x (C5 x).r (st x 30) (C6 x).e 804 491
def Ip:=k15 x (C6 x).f 824 (C6 x).g 825
def Ll:=k26 x (st x 32)
def Pg:=k5 x (C5 x).s 821 (C5 x).s 822 823 253 2 493 494 495 496 497 826 827
def II:=k27 x (st x 32) (C5 x).q 819 498
def OG:=k3 x (C6 x).h 832
def Km:=k4 x (C5 x).t (st x 33)
def JO:=k5 x (C5 x).t 829 (C5 x).t 830 831 257 1 500 501 502 503 504 833 834
def Ia:=k6 x (C5 x).t (st x 33) (C5 x).q 819 505
def K1:=k24 x (C6 x).i 839 (C6 x).j 840 (C6 x).h 841 (C6 x).k 842 (C6 x).g 843
def NX:=k4 x (C5 x).u (st x 34)
def IM:=k5 x (C5 x).u 836 (C5 x).u 837 838 259 2 507 508 509 510 511 844 845
def JP:=k6 x (C5 x).u (st x 34) (C5 x).q 819 512
def JN:=(M (u1 (l0 x)) (u3 (u4 [(u11 (C6 x).i 850),(u11 (C6 x).l 851),(u11 (C6 x).m 852),(u11 (C6 x).n 853),(u11 (C6 x).o 854),(u11 (C6 x).p 855),(u11 (C6 x).g 856),(u11 (C6 x).q 857)]) 0))
def Lr:=k4 x (C5 x).v (st x 35)
def Lu:=k5 x (C5 x).v 847 (C5 x).v 848 849 266 3 514 515 516 517 518 858 859
def Og:=k6 x (C5 x).v (st x 35) (C5 x).q 819 519
def Ks:=k4 x (C5 x).w (st x 36)
def JR:=k25 x (C5 x).w 861 (C5 x).w 862 863 276 4 521 522 523 864 865
def K0:=k6 x (C5 x).w (st x 36) (C5 x).q 819 524
def MV:=(M (u1 (l0 x)) (u3 (u4 [(u11 (C6 x).r 870),(u11 (C6 x).s 871),(u11 (C6 x).t 872),(u11 (C6 x).u 873),(u11 (C6 x).i 874),(u11 (C6 x).n 875),(u11 (C6 x).v 876)]) 0))
def JD:=k4 x (C5 x).x (st x 37)
def Nu:=k5 x (C5 x).x 867 (C5 x).x 868 869 281 5 526 527 528 529 530 877 878
def Jm:=k6 x (C5 x).x (st x 37) (C5 x).q 819 531
def KW:=(M (u1 (l0 x)) (u3 (u4 [(u11 (C6 x).i 883),(u11 (C6 x).l 884),(u11 (C6 x).m 885),(u11 (C6 x).r 886),(u11 (C6 x).s 887),(u11 (C6 x).n 888),(u11 (C6 x).w 889),(u11 (C6 x).x 890),(u11 (C6 x).y 891),(u11 (C6 x).t 892)]) 0))
def JI:=k4 x (C5 x).y (st x 38)
def LR:=k5 x (C5 x).y 880 (C5 x).y 881 882 288 5 533 534 535 536 537 893 894
def MI:=k6 x (C5 x).y (st x 38) (C5 x).q 819 538
def Ke:=k20 x (C7 x).a 899 (C6 x).u 900 (C7 x).b 901
def L5:=k4 x (C6 x).a (st x 39)
def Iq:=k5 x (C6 x).a 896 (C6 x).a 897 898 300 3 540 541 542 543 544 902 903
def PK:=k6 x (C6 x).a (st x 39) (C5 x).q 819 545
def Qi:=(M (u1 (l0 x)) (u3 (u4 [(u11 (C6 x).s 908),(u11 (C7 x).c 909),(u11 (C7 x).b 910),(u11 (C6 x).k 911),(u11 (C7 x).d 912),(u11 (C6 x).w 913),(u11 (C6 x).v 914),(u11 (C6 x).j 915),(u11 (C6 x).p 916)]) 0))
def Px:=k4 x (C6 x).b (st x 40)
def Lz:=k5 x (C6 x).b 905 (C6 x).b 906 907 302 3 547 548 549 550 551 917 918
def MA:=k6 x (C6 x).b (st x 40) (C5 x).q 819 552
def NK:=k21 x (C6 x).s 923 (C7 x).e 924 (C6 x).w 925 (C7 x).f 926
def Qn:=k4 x (C6 x).c (st x 41)
def MK:=k5 x (C6 x).c 920 (C6 x).c 921 922 312 3 554 555 556 557 558 927 928
def PY:=k6 x (C6 x).c (st x 41) (C5 x).q 819 559
def LW:=(M (u1 (l3 x)) (u20 (u21 ((nf (ap (d59 x) [(E x (C7 x).g 940 (u13 567)),(E x (C7 x).h 956 (u13 574)),(E x (C7 x).i 977 (u13 581))])))) 46))
def Jt:=(M u8 (u9 (u4 ((nf (ap (d60 x) [(u12 318 0),(u12 0 0),(u13 566),(u12 325 0),(u12 0 0),(u13 573),(u12 338 0),(u12 0 0),(u13 580)]))))))
def LZ:=k24 x (C6 x).r 933 (C7 x).f 934 (C6 x).w 935 (C7 x).j 936 (C7 x).k 937
def JL:=k26 x (st x 42)
def IC:=k5 x (C7 x).g 930 (C7 x).g 931 932 318 3 561 562 563 564 565 938 939
def OB:=k27 x (st x 42) (C5 x).q 819 566
def JV:=(M (u1 (l0 x)) (u3 (u4 [(u11 (C6 x).r 944),(u11 (C6 x).s 945),(u11 (C7 x).f 946),(u11 (C7 x).a 947),(u11 (C6 x).o 948),(u11 (C7 x).b 949),(u11 (C7 x).l 950),(u11 (C7 x).m 951),(u11 (C6 x).k 952),(u11 (C6 x).h 953)]) 0))
def Nc:=k4 x (C7 x).h (st x 43)
def Kh:=k5 x (C7 x).h 941 (C7 x).h 942 943 325 6 568 569 570 571 572 954 955
def IF:=k6 x (C7 x).h (st x 43) (C5 x).q 819 573
def Il:=(M (u1 (l0 x)) (u3 (u4 [(u11 (C6 x).f 960),(u11 (C7 x).n 961),(u11 (C6 x).x 962),(u11 (C7 x).o 963),(u11 (C7 x).b 964),(u11 (C6 x).l 965),(u11 (C6 x).m 966),(u11 (C6 x).r 967),(u11 (C6 x).s 968),(u11 (C6 x).i 969),(u11 (C7 x).p 970),(u11 (C7 x).c 971),(u11 (C7 x).e 972),(u11 (C6 x).w 973),(u11 (C7 x).q 974)]) 0))
def JA:=k4 x (C7 x).i (st x 44)
def HS:=k5 x (C7 x).i 957 (C7 x).i 958 959 338 1 575 576 577 578 579 975 976
def Mm:=k6 x (C7 x).i (st x 44) (C5 x).q 819 580
def q1 (x:X):PySem.Obj:=(M u8 (u20 (u21 u26) 0))
abbrev tree47:X->PySem.W.BT:=λ x=>nf (G Z 0 [b0,b1,b2,b3,b4,b5,b6,b7,b8,b9,b10,o43,o44,o45,o46] x)
abbrev tree70:X->PySem.W.BT:=λ x=>nf (G (G (G tree47 3 [o49]) 12 [o50]) 15 [o43,o44,o53,o43,o55,o56,o57,o58,o59,o60,o43,o44,o63,o64,o43,o66,o67,o68,o69,o70] x)
abbrev tree92:X->PySem.W.BT:=λ x=>nf (G (G (G (G tree70 3 [o71]) 12 [o72]) 31 [o73]) 35 [o74,o59,o76,o43,o78,o79,o80,o43,o44,o83,o43,o85,o86,o87,o88,o89,o90,o91,o92] x)
abbrev tree114:X->PySem.W.BT:=λ x=>nf (G (G (G (G tree92 3 [o93]) 12 [o94]) 31 [o95]) 54 [o74,o59,o98,o43,Ly,Lk,JT,o43,o44,LA,o43,IB,KY,Oj,Me,Ii,Ji,Nx,Ol] x)
abbrev tree136:X->PySem.W.BT:=λ x=>nf (G (G (G (G tree114 3 [Mz]) 12 [Mc]) 31 [Pw]) 73 [o74,o59,OV,o43,JB,Qm,Qq,o43,o44,P7,o43,JC,JU,Ml,OU,Nq,K7,JY,OS] x)
abbrev tree158:X->PySem.W.BT:=λ x=>nf (G (G (G (G tree136 3 [ID]) 12 [PV]) 31 [Jy]) 92 [o74,o59,Nm,o43,Of,Jo,Ma,o43,o44,Kr,o43,O7,HR,IQ,Ja,MO,KI,Na,IK] x)
abbrev tree173:X->PySem.W.BT:=λ x=>nf (G (G (G (G tree158 3 [Nh]) 12 [LY]) 31 [HX]) 111 [o74,o59,O5,o43,o44,K6,K8,o43,Lw,Qp,KA,O1] x)
abbrev tree259:X->PySem.W.BT:=λ x=>nf (G (G (G tree173 3 [Lf]) 12 [MQ]) 123 [o43,o59,OQ,o43,Lv,JW,Im,o43,o44,PX,o43,KQ,P0,IY,o43,o44,Jb,o43,KU,Nr,OT,o43,o44,Ni,o43,P5,OM,Iu,o43,o44,Kl,o43,JM,KZ,Ou,o43,o44,Po,o43,Pe,Ob,NG,o43,o44,Py,o43,Lh,IU,Kg,o43,o44,Ik,o43,Ig,Oi,Qt,o43,o44,OP,o43,Nj,Qk,PM,o43,o44,Jp,o43,Ir,OY,MZ,o43,o44,KG,o43,MC,LX,LQ,IP,KO,MB,JQ,Jl,OI,PU] x)
abbrev tree329:X->PySem.W.BT:=λ x=>nf (G (G (G tree259 3 [HV]) 12 [Mu]) 207 [o43,o44,MH,MG,O0,JK,MY,o43,o44,ML,o43,O4,Lc,LM,o43,o44,JJ,o43,Mb,NH,JG,o43,o44,Ih,o43,Js,Jj,Ny,o43,o44,NI,Jc,OX,o43,o44,Ju,o43,JE,Kf,MX,o43,o44,PJ,o43,JS,Ot,Pb,o43,o44,Ld,o43,HJ,Od,NS,o43,o44,KH,o43,LD,Jk,MW,o43,o44,O8,o43,Lb,IS,NV] x)
abbrev tree371:X->PySem.W.BT:=λ x=>nf (G (G (G tree329 3 [Qf]) 12 [IA]) 275 [o43,o59,Qe,o43,Oo,NQ,Iz,o43,o44,Qo,IJ,LO,o43,o44,O3,o43,Kd,MN,KR,o43,o44,Qs,o43,Jd,JX,HM,o43,o44,Oe,o43,Kv,MS,Nn,OL,LL,Jv,IE,NR,ME,IG] x)
abbrev tree420:X->PySem.W.BT:=λ x=>nf (G (G (G (G tree371 3 [Oh]) 12 [NO]) 310 [Kp]) 315 [Gn,o59,Mf,o43,KS,NY,Ph,FA,o43,o44,NU,o43,Kc,O2,LG,o43,o44,Nt,o43,Jr,MP,OZ,o43,o44,P6,o43,Lp,L7,Jf,o43,o44,OE,MM,Pu,o43,o44,Lj,o43,KN,NW,Ql,o43,NB,OR,Ng,Jh] x)
abbrev tree471:X->PySem.W.BT:=λ x=>nf (G (G (G (G tree420 3 [Nb]) 12 [Jx]) 310 [MD]) 361 [Gn,o59,LF,o43,ON,HU,Mj,FA,o43,o44,IV,o43,Qu,P8,MR,o43,o44,Ka,o43,Ov,Pj,OW,o43,o44,Mg,o43,NZ,IZ,OJ,o43,o44,JZ,o43,LK,Nv,LJ,o43,o44,OF,o43,OD,Ls,LS,Ln,Qa,OA,ND,LH] x)
abbrev tree550:X->PySem.W.BT:=λ x=>nf (G (G (G tree471 3 [KL]) 12 [Qg]) 409 [o43,o59,Ie,o43,HQ,PN,Ms,o43,o44,Je,o43,HZ,Mt,NJ,o43,o44,HW,o43,Pn,HK,IT,o43,o44,Qj,o43,L8,IW,Iv,o43,o44,Mv,o43,Mq,NT,Om,o43,o44,Nz,o43,Mx,Mn,OH,o43,o44,Nk,o43,Mr,MU,MT,o43,o44,Pk,o43,Lx,Iw,Lm,o43,o44,OO,o43,Li,Ko,Mh,o43,o44,PD,o43,IX,Pz,Lg,Lo,MJ,JH,Jz,Oc,LU,JF] x)
abbrev tree627:X->PySem.W.BT:=λ x=>nf (G (G (G tree550 3 [Qc]) 12 [P9]) 486 [o43,o44,Ij,o43,Pd,HN,Qh,o43,o44,Ip,o43,Ll,Pg,II,o43,o44,OG,o43,Km,JO,Ia,o43,o44,K1,o43,NX,IM,JP,o43,o44,JN,o43,Lr,Lu,Og,o43,o44,Ks,JR,K0,o43,o44,MV,o43,JD,Nu,Jm,o43,o44,KW,o43,JI,LR,MI,o43,o44,Ke,o43,L5,Iq,PK,o43,o44,Qi,o43,Px,Lz,MA,o43,o44,NK,o43,Qn,MK,PY] x)
abbrev tree650:X->PySem.W.BT:=λ x=>nf (G (G (G tree627 3 [LW]) 12 [Jt]) 561 [o43,o44,LZ,o43,JL,IC,OB,o43,o44,JV,o43,Nc,Kh,IF,o43,o44,Il,o43,JA,HS,Mm] x)
def heap39:X->PySem.W.Frag:=λ x=>nf (pj (fl ((G tree650 2 [q1]) x)) 0 [2,3,15,17,18,20,21,22,29,30,31,32,35,42,44,45,47,48,49,50,51,54,61,63,64,66,67,68,69,70,73,80,82,83,85,86,87,88,89,92,99,101,102,104,105,106,107,108,111,118,119,120,130,132,133,135,136,137,139,140,142,143,144,146,147,149,150,151,153,154,156,157,158,160,161,163,164,165,167,168,170,171,172,174,175,177,178,179,181,182,184,185,186,188,189,191,192,193,195,196,198,199,200,201,202,203,204,207,209,210,212,213,214,216,217,219,220,221,223,224,226,227,228,230,231,233,234,235,238,239,240,242,243,245,246,247,249,250,252,253,254,256,257,259,260,261,263,264,266,267,268,270,271,273,274,282,285,286,287,289,290,292,293,294,296,297,299,300,301,303,304,306,307,308,309,310,311,312,315,322,323,325,326,328,329,330,332,333,335,336,337,339,340,342,343,344,347,348,349,351,352,354,355,356,357,358,361,368,369,371,372,374,375,376,378,379,381,382,383,385,386,388,389,390,392,393,395,396,397,399,400,402,403,404,405,406,416,418,419,421,422,423,425,426,428,429,430,432,433,435,436,437,439,440,442,443,444,446,447,449,450,451,453,454,456,457,458,460,461,463,464,465,467,468,470,471,472,474,475,477,478,479,480,481,482,483,486,488,489,491,492,493,495,496,498,499,507,509,510,512,513,514,516,517,519,520,521,524,525,526,528,529,531,532,533,535,536,538,539,540,542,543,545,546,547,549,550,552,553,554,556,557,559,560,561,563,564,566,567,568,570,571,573,574,575,577,578,580,581])
def heap46:X->PySem.Heap:=λ x=>u39 (u40 (nf (fl (tree47 x)))) (u43 u44 u44 u44 0 u45 u44 u15 (u46 u44) u44 0 u15 u15 u15 0 [2000,10,10] u15 0 u31 u44 u44 0 u15)
def heap651:X->PySem.Heap:=λ x=>u39 (u40 (nf (fl (tree650 x)))) (u43 u44 u44 u44 0 u45 u44 u15 (u46 u44) u44 0 u15 u15 u15 0 [2000,10,10] u15 0 u31 u44 u44 0 u15)
end
end Hd
namespace PySem.W.Fast
noncomputable abbrev hdq {α:Type} (f:Hd.X->α):PySem.Params->α:=λ P=>f (PySem.W.Fast.tw13745409909519247493,P)
theorem hdp {α:Type} (f:Hd.X->α):(λ P=>f (Hd.hs,P))=hdq f:=congrArg (λ σ P=>f (σ,P)) PySem.W.Fast.te13745409909519247493
noncomputable def tw6479901312241471930:=hdq Hd.heap39
theorem te6479901312241471930:(λ P=>Hd.heap39 (Hd.hs,P))=tw6479901312241471930:=hdp Hd.heap39
noncomputable def tw11384086426676741586:=hdq Hd.heap46
theorem te11384086426676741586:(λ P=>Hd.heap46 (Hd.hs,P))=tw11384086426676741586:=hdp Hd.heap46
noncomputable def tw16319870900304370288:=hdq Hd.tree47
theorem te16319870900304370288:(λ P=>Hd.tree47 (Hd.hs,P))=tw16319870900304370288:=hdp Hd.tree47
noncomputable def tw17259414355602688942:=hdq Hd.tree70
theorem te17259414355602688942:(λ P=>Hd.tree70 (Hd.hs,P))=tw17259414355602688942:=hdp Hd.tree70
noncomputable def tw3217402464293592984:=hdq Hd.tree92
theorem te3217402464293592984:(λ P=>Hd.tree92 (Hd.hs,P))=tw3217402464293592984:=hdp Hd.tree92
noncomputable def tw925177308448003299:=hdq Hd.tree114
theorem te925177308448003299:(λ P=>Hd.tree114 (Hd.hs,P))=tw925177308448003299:=hdp Hd.tree114
noncomputable def tw12887697988672854699:=hdq Hd.tree136
theorem te12887697988672854699:(λ P=>Hd.tree136 (Hd.hs,P))=tw12887697988672854699:=hdp Hd.tree136
noncomputable def tw1172241926473658390:=hdq Hd.tree158
theorem te1172241926473658390:(λ P=>Hd.tree158 (Hd.hs,P))=tw1172241926473658390:=hdp Hd.tree158
noncomputable def tw3864088304111289955:=hdq Hd.tree173
theorem te3864088304111289955:(λ P=>Hd.tree173 (Hd.hs,P))=tw3864088304111289955:=hdp Hd.tree173
noncomputable def tw6039800405216474992:=hdq Hd.tree259
theorem te6039800405216474992:(λ P=>Hd.tree259 (Hd.hs,P))=tw6039800405216474992:=hdp Hd.tree259
noncomputable def tw11693831830538455227:=hdq Hd.tree329
theorem te11693831830538455227:(λ P=>Hd.tree329 (Hd.hs,P))=tw11693831830538455227:=hdp Hd.tree329
noncomputable def tw16878331439432438498:=hdq Hd.tree371
theorem te16878331439432438498:(λ P=>Hd.tree371 (Hd.hs,P))=tw16878331439432438498:=hdp Hd.tree371
noncomputable def tw14820867380356477921:=hdq Hd.tree420
theorem te14820867380356477921:(λ P=>Hd.tree420 (Hd.hs,P))=tw14820867380356477921:=hdp Hd.tree420
noncomputable def tw10192805429091204021:=hdq Hd.tree471
theorem te10192805429091204021:(λ P=>Hd.tree471 (Hd.hs,P))=tw10192805429091204021:=hdp Hd.tree471
noncomputable def tw2280487302679709056:=hdq Hd.tree550
theorem te2280487302679709056:(λ P=>Hd.tree550 (Hd.hs,P))=tw2280487302679709056:=hdp Hd.tree550
noncomputable def tw16315011932591553996:=hdq Hd.tree627
theorem te16315011932591553996:(λ P=>Hd.tree627 (Hd.hs,P))=tw16315011932591553996:=hdp Hd.tree627
noncomputable def tw8885762568386236342:=hdq Hd.tree650
theorem te8885762568386236342:(λ P=>Hd.tree650 (Hd.hs,P))=tw8885762568386236342:=hdp Hd.tree650
noncomputable def tw5658088284096839886:=hdq Hd.heap651
theorem te5658088284096839886:(λ P=>Hd.heap651 (Hd.hs,P))=tw5658088284096839886:=hdp Hd.heap651
end PySem.W.Fast
namespace Hd
noncomputable section
abbrev pw:=PySem.Challenge.pw_keepsakes_k39_whole_least_ways_fetched
def pick (p:PySem.Program) (l:List Nat):List PySem.Stmt:=l.map λ i=>p.main.body.getD i (.Pass ⟨0,0,0,0⟩)
def vw (p:PySem.Program) (l:List Nat):PySem.Program:={ p with main:={ p.main with body:=pick p l } }
end
end Hd
noncomputable def PySem.W.Fast.tw3541987752407798947:List PySem.Stmt:=Hd.pick Hd.pw [5]
theorem PySem.W.Fast.te3541987752407798947:Hd.pick Hd.pw [5]=PySem.W.Fast.tw3541987752407798947:=rfl
noncomputable def PySem.W.Fast.tw11325983082328180316:List PySem.Stmt:=Hd.pick Hd.pw [9]
theorem PySem.W.Fast.te11325983082328180316:Hd.pick Hd.pw [9]=PySem.W.Fast.tw11325983082328180316:=rfl
noncomputable def PySem.W.Fast.tw3034165920476356681:List PySem.Stmt:=Hd.pick Hd.pw [6]
theorem PySem.W.Fast.te3034165920476356681:Hd.pick Hd.pw [6]=PySem.W.Fast.tw3034165920476356681:=rfl
noncomputable def PySem.W.Fast.tw8550004658499891023:List PySem.Stmt:=Hd.pick Hd.pw [7,8]
theorem PySem.W.Fast.te8550004658499891023:Hd.pick Hd.pw [7,8]=PySem.W.Fast.tw8550004658499891023:=rfl
noncomputable def PySem.W.Fast.tw1507789617471602464:List PySem.Stmt:=Hd.pick Hd.pw [25]
theorem PySem.W.Fast.te1507789617471602464:Hd.pick Hd.pw [25]=PySem.W.Fast.tw1507789617471602464:=rfl
noncomputable def PySem.W.Fast.tw7916109853750166234:List PySem.Stmt:=Hd.pick Hd.pw [28]
theorem PySem.W.Fast.te7916109853750166234:Hd.pick Hd.pw [28]=PySem.W.Fast.tw7916109853750166234:=rfl
noncomputable def PySem.W.Fast.tw9498953278105875107:List PySem.Stmt:=Hd.pick Hd.pw [0,1,2]
theorem PySem.W.Fast.te9498953278105875107:Hd.pick Hd.pw [0,1,2]=PySem.W.Fast.tw9498953278105875107:=rfl
noncomputable def PySem.W.Fast.tw5984757575587328904:List PySem.Stmt:=Hd.pick Hd.pw [4]
theorem PySem.W.Fast.te5984757575587328904:Hd.pick Hd.pw [4]=PySem.W.Fast.tw5984757575587328904:=rfl
noncomputable def PySem.W.Fast.tw17533361420291740923:List PySem.Stmt:=Hd.pick Hd.pw [3]
theorem PySem.W.Fast.te17533361420291740923:Hd.pick Hd.pw [3]=PySem.W.Fast.tw17533361420291740923:=rfl
noncomputable def PySem.W.Fast.tw3376421665842265539:List PySem.Stmt:=Hd.pick Hd.pw [24]
theorem PySem.W.Fast.te3376421665842265539:Hd.pick Hd.pw [24]=PySem.W.Fast.tw3376421665842265539:=rfl
noncomputable def PySem.W.Fast.tw8082421057086121299:List PySem.Stmt:=Hd.pick Hd.pw [26,27]
theorem PySem.W.Fast.te8082421057086121299:Hd.pick Hd.pw [26,27]=PySem.W.Fast.tw8082421057086121299:=rfl
noncomputable def PySem.W.Fast.tw1956736017124030069:List PySem.Stmt:=Hd.pick Hd.pw [42,43,44]
theorem PySem.W.Fast.te1956736017124030069:Hd.pick Hd.pw [42,43,44]=PySem.W.Fast.tw1956736017124030069:=rfl
noncomputable def PySem.W.Fast.tw2927458189128808294:List PySem.Stmt:=Hd.pick Hd.pw [29,30,31,32,33,34,35,36,37,38,39,40,41]
theorem PySem.W.Fast.te2927458189128808294:Hd.pick Hd.pw [29,30,31,32,33,34,35,36,37,38,39,40,41]=PySem.W.Fast.tw2927458189128808294:=rfl
noncomputable def PySem.W.Fast.tw1601837798858754143:List PySem.Stmt:=Hd.pick Hd.pw [10,11,12,13,14,15,16,17,18,19,20,21,22,23]
theorem PySem.W.Fast.te1601837798858754143:Hd.pick Hd.pw [10,11,12,13,14,15,16,17,18,19,20,21,22,23]=PySem.W.Fast.tw1601837798858754143:=rfl
noncomputable def PySem.W.Fast.tw7739025421374015391:PySem.Program:=Hd.vw Hd.pw [0,2,3,4,5,6,7,9,11,12,13,14,15,16,17,18,19,21,22,24,25,26,28,30,32,33,34,35,36,37,38,39,40,41,42,43,44]
theorem PySem.W.Fast.te7739025421374015391:Hd.vw Hd.pw [0,2,3,4,5,6,7,9,11,12,13,14,15,16,17,18,19,21,22,24,25,26,28,30,32,33,34,35,36,37,38,39,40,41,42,43,44]=PySem.W.Fast.tw7739025421374015391:=rfl
set_option maxRecDepth 100000 in
set_option maxHeartbeats 0 in
theorem PySem.Challenge.cw_keepsakes_k39_whole_least_ways_fetched_holds : PySem.Challenge.rw_keepsakes_k39_whole_least_ways_fetched.Holds := by
 w_on;o_law;k_head;(case hw=>w_witness2)
 k_fill
 refine Mine.walk (l:=PySem.Challenge.rw_keepsakes_k39_whole_least_ways_fetched) rfl rfl rfl (λ w h Y=>PySem.W.km_in_of Y) ?F
 case F =>
  intro w mg fa h KX G hmg
  refine' Mine.all_mk KX G hmg ?g_W ?nj ?mL ?mJ ?rG ?kX ?tM ?uV ?rQ ?nV ?qU ?r6 ?clg ?clt ?lO ?mE ?lM ?lD ?lR ?rB ?pX ?pP ?oO ?oQ ?oF ?pI ?fJ ?pW ?oW ?oN ?pA ?oE ?pV ?eO ?tw ?uq ?uy ?ur ?tE ?uw ?jq ?nA ?nR ?ni ?nH ?nI ?nG ?eF ?qF ?qm ?qE ?qX ?ql ?wC ?wc ?vA ?vJ ?wg ?vE ?vI ?br ?tF ?tX ?tQ ?ue ?pU ?pD ?dH ?cN ?fz ?fW ?vX ?wo ?vW ?vF ?rN ?rM ?ef ?cK ?gc ?gT ?fQ ?uv ?uB ?tW ?tU ?uF ?uI ?cu ?cB ?a0 ?i0 ?l0 ?c0 ?k0 ?a1 ?i1 ?l1 ?c1 ?k1 ?a2 ?i2 ?l2 ?c2 ?k2 ?a3 ?i3 ?l3 ?c3 ?k3 ?a4 ?i4 ?l4 ?c4 ?k4 ?a5 ?i5 ?l5 ?c5 ?k5 ?a6 ?i6 ?l6 ?c6 ?k6 ?a7 ?i7 ?l7 ?c7 ?k7 ?a8 ?i8 ?l8 ?c8 ?k8 ?a9 ?i9 ?l9 ?c9 ?k9 ?a10 ?i10 ?l10 ?c10 ?k10 ?a11 ?i11 ?l11 ?c11 ?k11 ?a12 ?i12 ?l12 ?c12 ?k12 ?a13 ?l13 ?c13 ?k13 ?xk_rate ?xt_rate ?xn_rate ?a14 ?l14 ?c14 ?k14 ?a15 ?l15 ?c15 ?k15 ?a16 ?l16 ?c16 ?k16 ?a17 ?l17 ?c17 ?k17 ?a18 ?l18 ?c18 ?k18 ?a19 ?l19 ?c19 ?k19 ?a20 ?l20 ?c20 ?k20 ?a21 ?l21 ?c21 ?k21 ?a22 ?l22 ?c22 ?k22 ?a23 ?i23 ?l23 ?c23 ?k23 ?a24 ?i24 ?l24 ?c24 ?k24 ?a25 ?i25 ?l25 ?c25 ?k25 ?a26 ?i26 ?l26 ?c26 ?k26 ?a27 ?i27 ?l27 ?c27 ?k27 ?y27 ?a28 ?i28 ?l28 ?c28 ?k28 ?a29 ?i29 ?l29 ?c29 ?k29 ?a30 ?i30 ?l30 ?c30 ?k30 ?a31 ?i31 ?l31 ?c31 ?k31 ?y31 ?a32 ?i32 ?l32 ?c32 ?k32 ?a33 ?i33 ?l33 ?c33 ?k33 ?a34 ?i34 ?l34 ?c34 ?k34 ?a35 ?i35 ?l35 ?c35 ?k35 ?a36 ?i36 ?l36 ?c36 ?k36 ?a37 ?i37 ?l37 ?c37 ?k37 ?a38 ?i38 ?l38 ?c38 ?k38 ?a39 ?i39 ?l39 ?c39 ?k39 ?a40 ?l40 ?c40 ?k40 ?a41 ?l41 ?c41 ?k41 ?a42 ?l42 ?c42 ?k42 ?a43 ?l43 ?c43 ?k43 ?a44 ?l44 ?c44 ?k44 ?a45 ?l45 ?c45 ?k45 ?a46 ?l46 ?c46 ?k46 ?a47 ?l47 ?c47 ?k47 ?a48 ?l48 ?c48 ?k48 ?a49 ?l49 ?c49 ?k49 ?a50 ?l50 ?c50 ?k50 ?a51 ?l51 ?c51 ?k51 ?a52 ?l52 ?c52 ?k52 ?ju ?j4 ?lG ?nP ?jZ ?kI ?uJ ?ud ?iP ?Bg ?lV ?A0 ?yP ?zB ?vO ?zk ?vv ?Bs ?Bq ?tD ?ng ?oZ ?mD ?jF ?jH ?kt1
  case g_W | nj | mL | mJ | rG | kX | tM | uV | rQ | nV | qU | r6 | clg | clt | lO | mE | lM | lD | lR | rB | pX | pP | oO | oQ | oF | pI | fJ | pW | oW | oN | pA | oE | pV | eO | tw | uq | uy | ur | tE | uw | jq | nA | nR | ni | nH | nI | nG | eF | qF | qm | qE | qX | ql | wC | wc | vA | vJ | wg | vE | vI | br | tF | tX | tQ | ue | pU | pD | dH | cN | fz | fW | vX | wo | vW | vF | rN | rM | ef | cK | gc | gT | fQ | uv | uB | tW | tU | uF | uI | cu | cB | a0 | i0 | l0 | c0 | k0 | a1 | i1 | l1 | c1 | k1 | a2 | i2 | l2 | c2 | k2 | a3 | i3 | l3 | c3 | k3 | a4 | i4 | l4 | c4 | k4 | a5 | i5 | l5 | c5 | k5 | a6 | i6 | l6 | c6 | k6 | a7 | i7 | l7 | c7 | k7 | a8 | i8 | l8 | c8 | k8 | a9 | i9 | l9 | c9 | k9 | a10 | i10 | l10 | c10 | k10 | a11 | i11 | l11 | c11 | k11 | a12 | i12 | l12 | c12 | k12 | a13 | l13 | c13 | k13 | xk_rate | xt_rate | xn_rate | a14 | l14 | c14 | k14 | a15 | l15 | c15 | k15 | a16 | l16 | c16 | k16 | a17 | l17 | c17 | k17 | a18 | l18 | c18 | k18 | a19 | l19 | c19 | k19 | a20 | l20 | c20 | k20 | a21 | l21 | c21 | k21 | a22 | l22 | c22 | k22 | a23 | i23 | l23 | c23 | k23 | a24 | i24 | l24 | c24 | k24 | a25 | i25 | l25 | c25 | k25 | a26 | i26 | l26 | c26 | k26 | a27 | i27 | l27 | c27 | k27 | y27 | a28 | i28 | l28 | c28 | k28 | a29 | i29 | l29 | c29 | k29 | a30 | i30 | l30 | c30 | k30 | a31 | i31 | l31 | c31 | k31 | y31 | a32 | i32 | l32 | c32 | k32 | a33 | i33 | l33 | c33 | k33 | a34 | i34 | l34 | c34 | k34 | a35 | i35 | l35 | c35 | k35 | a36 | i36 | l36 | c36 | k36 | a37 | i37 | l37 | c37 | k37 | a38 | i38 | l38 | c38 | k38 | a39 | i39 | l39 | c39 | k39 | a40 | l40 | c40 | k40 | a41 | l41 | c41 | k41 | a42 | l42 | c42 | k42 | a43 | l43 | c43 | k43 | a44 | l44 | c44 | k44 | a45 | l45 | c45 | k45 | a46 | l46 | c46 | k46 | a47 | l47 | c47 | k47 | a48 | l48 | c48 | k48 | a49 | l49 | c49 | k49 | a50 | l50 | c50 | k50 | a51 | l51 | c51 | k51 | a52 | l52 | c52 | k52 | ju | j4 | lG | nP | jZ | kI | uJ | ud | iP | Bg | lV | A0 | yP | zB | vO | zk | vv | Bs | Bq | tD | ng | oZ | mD | jF | jH | kt1=>first | k_is | kit_is | kernel_rfl | decide
