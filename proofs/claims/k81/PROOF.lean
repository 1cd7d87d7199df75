import PyProof.Rows.All
import Wide.All
import OpenK.AllK
import Wide.FinOn
import Lean
import PyProof.EqAt
import PyProof.EqKinds
import PyProof.TupleCall
import PyProof.AttrMissHeap
import PyProof.DictWalks
import KE.KDictObj
import KE.KEqDict
import KE.KUnpack
import PyProof.Rows.SetFrom
import KE.KRevIter
import KE.KDictSum
import KE.KFmtOwn
import PyProof.FactsAll.set_1
import PyProof.FactsAll.set_2
import PyProof.FactsAll.tuple_1
import PyProof.FactsAll.tuple_2
import KE.KSortTup
import PyProof.SetRoads
import PyProof.DictValues
import PyProof.FactsAll.dict_4
import PyProof.Rows.CallKwBuiltin
import PyProof.DictCopy
import KE.KDictList
import KE.KPairComp
import PyProof.DictItems
import PyProof.MinMaxWalk
import PyProof.WalkInts
import PyProof.RulesTry
import PyProof.ListRange
import PyProof.RangeFor
import KE.KNest
import KE.KLam
import PySem.Challenge.RW_keepsakes_k81_kept_by_a_word
set_option compiler.extract_closed false
section
variable{A B C D:Sort _}{G:Prop}
theorem ε02{p q:Prop}(h:p∧q)(g:p→q→G):G:=h.elim g
theorem ε03{p q r:Prop}(h:p∧q∧r)(g:p→q→r→G):G:=h.elim λa b=>ε02 b (g a)
theorem ε04{p q r s:Prop}(h:p∧q∧r∧s)(g:p→q→r→s→G):G:=h.elim λa b=>ε03 b (g a)
theorem ε05{p q r s t:Prop}(h:p∧q∧r∧s∧t)(g:p→q→r→s→t→G):G:=h.elim λa b=>ε04 b (g a)
theorem ε06{p q r s t u:Prop}(h:p∧q∧r∧s∧t∧u)(g:p→q→r→s→t→u→G):G:=h.elim λa b=>ε05 b (g a)
theorem ε07{p q r s t u v:Prop}(h:p∧q∧r∧s∧t∧u∧v)(g:p→q→r→s→t→u→v→G):G:=h.elim λa b=>ε06 b (g a)
theorem ε08{p q r s t u v w:Prop}(h:p∧q∧r∧s∧t∧u∧v∧w)(g:p→q→r→s→t→u→v→w→G):G:=h.elim λa b=>ε07 b (g a)
theorem ε09{p q r s t u v w x:Prop}(h:p∧q∧r∧s∧t∧u∧v∧w∧x)(g:p→q→r→s→t→u→v→w→x→G):G:=h.elim λa b=>ε08 b (g a)
theorem ε12{p q:A→Prop}(h:∃a,p a∧q a)(g:∀a,p a→q a→G):G:=h.elim λa h=>ε02 h (g a)
theorem ε13{p q r:A→Prop}(h:∃a,p a∧q a∧r a)(g:∀a,p a→q a→r a→G):G:=h.elim λa h=>ε03 h (g a)
theorem ε14{p q r s:A→Prop}(h:∃a,p a∧q a∧r a∧s a)(g:∀a,p a→q a→r a→s a→G):G:=h.elim λa h=>ε04 h (g a)
theorem ε15{p q r s t:A→Prop}(h:∃a,p a∧q a∧r a∧s a∧t a)(g:∀a,p a→q a→r a→s a→t a→G):G:=h.elim λa h=>ε05 h (g a)
theorem ε16{p q r s t u:A→Prop}(h:∃a,p a∧q a∧r a∧s a∧t a∧u a)(g:∀a,p a→q a→r a→s a→t a→u a→G):G:=h.elim λa h=>ε06 h (g a)
theorem ε21{p:A→B→Prop}(h:∃a b,p a b)(g:∀a b,p a b→G):G:=h.elim λa h=>h.elim (g a)
theorem ε22{p q:A→B→Prop}(h:∃a b,p a b∧q a b)(g:∀a b,p a b→q a b→G):G:=h.elim λa h=>ε12 h (g a)
theorem ε23{p q r:A→B→Prop}(h:∃a b,p a b∧q a b∧r a b)(g:∀a b,p a b→q a b→r a b→G):G:=h.elim λa h=>ε13 h (g a)
theorem ε24{p q r s:A→B→Prop}(h:∃a b,p a b∧q a b∧r a b∧s a b)(g:∀a b,p a b→q a b→r a b→s a b→G):G:=h.elim λa h=>ε14 h (g a)
theorem ε25{p q r s t:A→B→Prop}(h:∃a b,p a b∧q a b∧r a b∧s a b∧t a b)(g:∀a b,p a b→q a b→r a b→s a b→t a b→G):G:=h.elim λa h=>ε15 h (g a)
theorem ε26{p q r s t u:A→B→Prop}(h:∃a b,p a b∧q a b∧r a b∧s a b∧t a b∧u a b)(g:∀a b,p a b→q a b→r a b→s a b→t a b→u a b→G):G:=h.elim λa h=>ε16 h (g a)
theorem ε31{p:A→B→C→Prop}(h:∃a b c,p a b c)(g:∀a b c,p a b c→G):G:=h.elim λa h=>ε21 h (g a)
theorem ε32{p q:A→B→C→Prop}(h:∃a b c,p a b c∧q a b c)(g:∀a b c,p a b c→q a b c→G):G:=h.elim λa h=>ε22 h (g a)
theorem ε33{p q r:A→B→C→Prop}(h:∃a b c,p a b c∧q a b c∧r a b c)(g:∀a b c,p a b c→q a b c→r a b c→G):G:=h.elim λa h=>ε23 h (g a)
theorem ε34{p q r s:A→B→C→Prop}(h:∃a b c,p a b c∧q a b c∧r a b c∧s a b c)(g:∀a b c,p a b c→q a b c→r a b c→s a b c→G):G:=h.elim λa h=>ε24 h (g a)
theorem ε35{p q r s t:A→B→C→Prop}(h:∃a b c,p a b c∧q a b c∧r a b c∧s a b c∧t a b c)(g:∀a b c,p a b c→q a b c→r a b c→s a b c→t a b c→G):G:=h.elim λa h=>ε25 h (g a)
theorem ε36{p q r s t u:A→B→C→Prop}(h:∃a b c,p a b c∧q a b c∧r a b c∧s a b c∧t a b c∧u a b c)(g:∀a b c,p a b c→q a b c→r a b c→s a b c→t a b c→u a b c→G):G:=h.elim λa h=>ε26 h (g a)
theorem ε41{p:A→B→C→D→Prop}(h:∃a b c d,p a b c d)(g:∀a b c d,p a b c d→G):G:=h.elim λa h=>ε31 h (g a)
theorem ε42{p q:A→B→C→D→Prop}(h:∃a b c d,p a b c d∧q a b c d)(g:∀a b c d,p a b c d→q a b c d→G):G:=h.elim λa h=>ε32 h (g a)
theorem ε43{p q r:A→B→C→D→Prop}(h:∃a b c d,p a b c d∧q a b c d∧r a b c d)(g:∀a b c d,p a b c d→q a b c d→r a b c d→G):G:=h.elim λa h=>ε33 h (g a)
theorem ε44{p q r s:A→B→C→D→Prop}(h:∃a b c d,p a b c d∧q a b c d∧r a b c d∧s a b c d)(g:∀a b c d,p a b c d→q a b c d→r a b c d→s a b c d→G):G:=h.elim λa h=>ε34 h (g a)
theorem ε45{p q r s t:A→B→C→D→Prop}(h:∃a b c d,p a b c d∧q a b c d∧r a b c d∧s a b c d∧t a b c d)(g:∀a b c d,p a b c d→q a b c d→r a b c d→s a b c d→t a b c d→G):G:=h.elim λa h=>ε35 h (g a)
theorem ε46{p q r s t u:A→B→C→D→Prop}(h:∃a b c d,p a b c d∧q a b c d∧r a b c d∧s a b c d∧t a b c d∧u a b c d)(g:∀a b c d,p a b c d→q a b c d→r a b c d→s a b c d→t a b c d→u a b c d→G):G:=h.elim λa h=>ε36 h (g a)
end
open Lean Parser.Tactic in
local macro_rules|`(tactic|obtain ⟨$ps,*⟩:=$h:term)=>do
 let mut xs:Array Term:=#[]
 let mut tl:=#[]
 for p in ps.getElems do
  let s:=p.raw[0][0]
  let i:=s[0][0]
  if s.getNumArgs==1&&s[0].getKind== ``rcasesPat.one&&i.getId != `rfl then xs:=xs.push ⟨i⟩
  else
   let y:=mkIdent (←Macro.addMacroScope (.mkSimple s!"x{xs.size}"))
   xs:=xs.push y
   tl:=tl.push (←`(tactic|rcases $y:ident with $p))
 let c←if h.raw.isIdent then`(tactic|try clear $(⟨h⟩))else`(tactic|skip)
 let m:=xs.size
 let mut l:Array (TSyntax ``tacticSeq):=#[]
 for k in [0:5]do
  if k<m&&(k==0||m-k<7)then l:=l.push (←`(tacticSeq|refine $(mkIdent (.mkSimple s!"ε{k}{m-k}")) $h ?_;$c;intro $xs*;$[$tl];*))
 l:=l.push (←`(tacticSeq|rcases $h:term with ⟨$ps,*⟩))
 `(tactic|first $[|$l]*)
open Lean Parser.Tactic in
local macro_rules|`(tactic|rintro $ps*)=>do
 let l:=ps.back!.raw[0]
 if l.getKind != ``rcasesPat.tuple then Macro.throwUnsupported
 let q:TSyntaxArray ``rcasesPatLo:=l[1].getSepArgs.map (⟨·⟩)
 let i:=ps.pop
 let a←if i.isEmpty then`(tactic|skip)else`(tactic|rintro $i*)
 `(tactic|($a;intro z;obtain ⟨$q,*⟩:=z))
local macro_rules|`(tactic|omega)=>`(tactic|lia)
open Lean in
local macro_rules|`($x:ident)=>match x.getId with|`Z0=>`(none)|`Z1=>`(true)|`Z2=>`(false)|`Z3=>`(Prop)|`Z4=>`(Int)|`Z5=>`(Nat)|`Z6=>`(PySem.Str)|`Z7=>`(PySem.sizeLine)|`Z8=>pure (mkIdent `L2.V.int)|_=>Macro.throwUnsupported
open Lean Parser.Tactic in
def πp:Nat→Term→MacroM (TSyntax ``rcasesPatLo)
|n+1,x=>match x with|`(⟨$a,*⟩)=>do `(rcasesPatLo|⟨$(←a.getElems.mapM (πp n)),*⟩)|`(_)=>`(rcasesPatLo|_)|x=>`(rcasesPatLo|$(⟨x⟩):ident)
|_,_=>Macro.throwUnsupported
local macro_rules|`(tactic|let $d:letDecl)=>`(tactic|have $d:letDecl)
open Lean in
local macro_rules|`(tactic|let ⟨$a,*⟩:=$e)=>do `(tactic|obtain ⟨$(←a.getElems.mapM (πp 9)),*⟩:=$e)
local macro_rules|`(↥$n)=>`(($n : Int))
set_option hygiene false
local macro_rules|`(⋯)=>`(aI P w K mg base (CXx P w))
set_option hygiene true
local macro_rules|`(⇑$h)=>`(by simpa using $h)
open Lean in def μq(xs:Array Term):MacroM (Array Term):=do
 let mut a:=#[]
 for x in xs do
  match x with
  |`(1)=>a:=a++#[←`(_),←`(rfl)]
  |`(2)=>a:=a++#[←`(_),←`(rfl),←`(_),←`(rfl)]
  |`(3)=>a:=a++#[←`(_),←`(_),←`(rfl),←`(rfl)]
  |_=>a:=a.push x
 return a
local macro_rules(kind:=«term{_}»)|`({$xs,*})=>do let a←μq xs;`(⟨$a,*⟩)
local macro_rules|`(tactic|exists $xs,*)=>do let a←μq xs;`(tactic|refine ⟨$a,*, ?_⟩)
local macro_rules|`(~~~$s)=>`(($s).heap.objs.size)
set_option linter.all false
def Xd:=@PySem.wpAny_bind
def Xe:=@PySem.wpAny_pure
def Xf:=@PySem.Heap.get?_push_of_some
def Xg:=@List.getElem?_eq_some_iff
def Xh:=@List.getElem?_eq_getElem
def Xi:=@PySem.Heap.lt_size
def Xj:=@List.length_map
def Xk:=@Nat.le_refl
def Xl:=@List.mem_of_getElem?
def Xm:=@if_pos
def Xn:=@if_neg
def Xo:=@List.getElem?_map
def Xp:=@PySem.Heap.get?_push_size
def Xq:=@List.nodup_cons
def Xr:=@decide_eq_true
def Xs:=@Bool.false_ne_true
def Xu:=@List.mem_append_left
def Xv:=@List.mem_append
def Xw:=@Nat.zero_le
def Xx:=@List.mem_singleton
def Xy:=@Nat.ne_of_lt
def Xz:=@List.lookup_cons
def XA:=@Option.map_eq_some_iff
def XC:=@Nat.lt_of_lt_of_le
def XD:=@List.mem_append_right
def XE:=@PySem.Heap.get?_update_other
def XF:=@PySem.PassesOwn.leaving
def XG:=@List.mem_cons
def XH:=@decide_eq_false
def XI:=@List.mem_map
def XJ:=@PySem.F.plainAttrs_list
def XM:=@List.mem_iff_getElem?
def XO:=@PySem.W.mg_of
def XQ:=@Option.some.inj
def XR:=@List.mem_cons_of_mem
def XT:=@List.take_add_one
def XU:=@PySem.wpAny_Call_Name_kw
def XW:=@PySem.Heap.get?_update_self
def XY:=@PySem.wpAny_mono
def XZ:=@PySem.F.slot_list_append
def Yb:=@PySem.F.type_list_append
def Yc:=@PySem.boot_len
def Yd:=@PySem.W.mg_none_of
def Ye:=@Nat.le_trans
def Yg:=@List.getElem?_append_left
def Yh:=@List.getElem_mem
def Yi:=@List.take_length
def Yj:=@PySem.wpAny_holding
def Yk:=@Nat.le_of_lt
def Yl:=@PyProof.Rows.callWith_type1
def Ym:=@PySem.Calls.spliced_cons
def Yn:=@List.map_cons
def Yo:=@Ne.symm
def Yp:=@List.getElem?_append_right
def Yq:=@Array.getElem?_eq_some_iff
def Yr:=@PySem.W.kia_one
def Ys:=@Array.length_toList
def Yt:=@PySem.Calls.spliced_nil
def Yu:=@List.length_replicate
def Yv:=@Array.getElem?_toList
def Yw:=@PyProof.Rows.boot_isinstance
def Yx:=@List.mem_cons_self
def Yy:=@List.getD_eq_getElem?_getD
def Yz:=@PySem.Heap.size_push
def YA:=@PyProof.Rows.boot_list
def YB:=@List.mem_filter
def YC:=@List.length_take
def YD:=@PySem.F.called_set
def YE:=@PySem.W.looks_findIn
def YF:=@PySem.Around.under_plainId
def YG:=@PySem.wpAny_loadPart_at
def YH:=@PySem.wpAny_call_entry
def YI:=@List.length_append
def YJ:=@PySem.Obj.data_mapFields
def YK:=@Array.getElem?_eq_getElem
def YL:=@PySem.wpAny_field
def YM:=@List.append_nil
def YN:=@PySem.codeAny_builtin
def YO:=@Nat.succ.inj
def YQ:=@List.size_toArray
def YR:=@PySem.Calls.callWith_builtin
def YS:=@Nat.le_succ
def YT:=@PySem.W.callWith_K
def YU:=@PyProof.Rows.F.plain_set_update_loop
def YV:=@PySem.F.slot_enumerate_next
def YW:=@PySem.wpAny_passesOwn
def YX:=@List.map_append
def YY:=@Nat.lt_irrefl
def YZ:=@PySem.F.excAttr_ValueError
def Y0:=@PySem.wpAny_truthy_bool
def Y3:=@PySem.wpAny_newObj_type
def Y4:=@PySem.codeAny_mono
def Y5:=@List.any_eq_true
def Y6:=@PySem.F.plain_max_loop
def Y7:=@PySem.mem_of_lookup
def Y8:=@PySem.wpAny_isSubtype_exc
def Y9:=@PySem.plainObj_wpAny_Assign_Attribute
def Za:=@PySem.F.plainAttrs_dict
def Zb:=@PySem.wpAny_callSpecial?_slot
def Zc:=@List.any_cons
def Zd:=@PySem.wpAny_attempt
def Ze:=@PySem.plainId_quiet
def Zf:=@PySem.tupleKind_room_in1
def Zg:=@PySem.wpAny_call
def Zh:=@Int.emod_lt_of_pos
def Zi:=@PySem.wpAny_updateSeq
def Zj:=@Nat.lt_succ_of_lt
def Zk:=@List.ext_getElem?
def Zl:=@List.length_filter_le
def Zm:=@PySem.wpAny_setField
def Zn:=@PySem.Obj.isFreed_of_fields
def Zo:=@PySem.builtinLookup_eq_fast
def Zp:=@beq_iff_eq
def Zq:=@PySem.Calls.evalArgs_plain
def Zr:=@List.filter_cons
def Zs:=@List.length_cons
def Zt:=@Option.bind_some
def Zu:=@PySem.codeAny_call_builtin
def Zv:=@PySem.wpAny_askSetting
def Zw:=@PySem.F.excBase_ValueError
def Zx:=@Sum.inl.inj
def Zy:=@PySem.W.looks_clsIn
def Zz:=@List.replicate_succ
def ZA:=@PySem.W.looks_mroIn
def ZC:=@PySem.Heap.SameBut.update
def ZD:=@PySem.wpAny_execs_nil
def ZE:=@Bool.eq_iff_iff
def ZF:=@List.foldl_cons
def ZG:=@Int.emod_nonneg
def ZH:=@PySem.F.plain_extend_loop
def ZI:=@Option.isSome_iff_exists
def ZJ:=@Nat.lt_of_le_of_lt
def ZK:=@PySem.Code.quiet_builtin
def ZL:=@PyProof.Rows.F.entry_set_update_loop
def ZM:=@PyProof.Rows.boot_sorted
def ZN:=@List.mem_range
def ZO:=@PyProof.Rows.boot_tuple
def ZP:=@PySem.Value.isInt_shape
def ZQ:=@Option.isSome_map
def ZR:=@PySem.wpAny_setState_of
def ZS:=@of_decide_eq_true
def ZT:=@List.getElem?_set
def ZU:=@PySem.wpAny_of_eq
def ZV:=@PySem.wpAny_standAt
def ZW:=@Nat.lt_succ_self
def ZX:=@PySem.F.slot_dict_get
def ZY:=@PySem.W.methodCall_KW
def ZZ:=@List.getElem?_set_ne
def aaa:=@Nat.ne_of_gt
def aab:=@PyProof.Rows.callWith_builtin1
def aac:=@Option.map_some
def aad:=@PySem.call_meetsIn
def aae:=@PySem.wpAny_specialOf
def aaf:=@PySem.typeLookup_type
def aag:=@PySem.F.args_enumerate_next_1
def aah:=@List.filterMap_cons
def aai:=@PySem.W.plainGet_of
def aaj:=@PySem.wpAny_setEntries_of
def aak:=@List.length_pos_iff
def aal:=@Int.toNat_of_nonneg
def aam:=@PySem.wpAny_loadPart
def aan:=@List.nodup_nil
def aao:=@PySem.F.slot_dict_setdefault
def aap:=@PySem.F.entry_enumerate_next
def aaq:=@PySem.sizeLine_eq
def aar:=@Int.le_refl
def aas:=@PySem.W.check_slot
def aat:=@List.map_filterMap
def aau:=@PySem.wpAny_setField_rec
def aav:=@List.mem_replicate
def aaw:=@PySem.Calls.Name_function_global
def aax:=@PySem.wpAny_pyIter_list
def aay:=@List.flatten_cons
def aaz:=@PySem.wpAny_Call_method
def aaA:=@Nat.lt_trichotomy
def aaB:=@List.pairwise_map
def aaC:=@List.nodup_append
def aaD:=@PyProof.Rows.intsAre_of
def aaE:=@PySem.Calls.call_function_entry
def aaF:=@List.perm_append_left_iff
def aaG:=@PySem.F.entry_extend_loop
def aaH:=@List.mem_or_eq_of_mem_set
def aaI:=@PySem.wpAny_lookBehind
def aaJ:=@PySem.pastItsLine_dict
def aaK:=@List.map_nil
def aaL:=@Bool.and_eq_true
def aaM:=@PySem.wpAny_comprehension_free
def aaN:=@PySem.F.store_ValueError
def aaO:=@List.length_erase_of_mem
def aaP:=@List.all_eq_true
def aaQ:=@PySem.wpAny_isInstance
def aaR:=@PySem.F.slot_dict_values
def aaS:=@PySem.F.slot_list_extend
def aaT:=@PySem.F.type_list_extend
def aaU:=@Int.zero_add
def aaV:=@PySem.F.args_dict_get_3
def aaW:=@List.length_eq_zero_iff
def aaX:=@List.of_mem_zip
def aaY:=@PySem.codeAny_of_tree
def aaZ:=@PySem.wpAny_ite_split
def aa0:=@List.getElem?_set_self
def aa1:=@PySem.W.cellsFrom_some
def aa3:=@PySem.F.entry_dict_get
def aa5:=@List.length_pos_of_mem
def aa6:=@Array.getElem?_eq_none
def aa7:=@List.pairwise_lt_range
def aa8:=@PySem.wpAny_letGo
def aba:=@PySem.F.slot_dict_pop
def abb:=@PySem.F.entry_bexc_ga
def abc:=@List.take_append_drop
def abd:=@PySem.F.plain_set_new
def abe:=@PySem.isSubtype_type
def abf:=@PySem.F.slot_set_iter
def abg:=@PySem.wpAny_tryCatch
def abh:=@PyProof.Rows.boot_max
def abi:=@PyProof.Rows.boot_min
def abj:=@PyProof.Rows.boot_int
def abk:=@PySem.call_meets
def abl:=@List.contains_eq_mem
def abm:=@PySem.F.args_bexc_ga
def abn:=@PySem.W.handedOut_of
def abo:=@List.mem_erase_of_ne
def abr:=@Nat.xor_assoc
def abu:=@PySem.W.findObj_own
def abv:=@beq_eq_false_iff_ne
def abx:=@PySem.wpAt_of_wpAny
def aby:=@PySem.W.callWith_K0
def abz:=@List.findSome?_cons
def abA:=@PySem.W.kdu_collect
def abD:=@List.mem_filterMap
def abH:=@Nat.xor_lt_two_pow
def abI:=@List.getElem?_drop
def abJ:=@PySem.W.looks_find
def abK:=@List.contains_cons
def abL:=@decide_eq_true_iff
def abM:=@Nat.eq_zero_or_pos
def abN:=@List.filterMap_map
def abO:=@List.map_map
def abP:=@Int.sub_add_cancel
def abQ:=@List.map_set
def abR:=@Iff.trans
open PySem.W (instObj methodObj Frag lookIn plainGet hasDictIn findIn handedIn isFn plainOver takerIn set_plain Looks makesIn typeIn emptyDict bind_fn keepIn specialIn takesIn mroIn kitOne kitx_list kitx_dict fnOf codeIn OpenLaw WalkO clsIn findObj KitX osa_eq readsIn findCls kdl_dict keq_eq KdlSrc nsIn)
set_option Elab.async false
set_option linter.all false
set_option maxRecDepth 100000
def o4{p:Z3}(h:p:=by decide +kernel):p:=h
def o5{p:Z3}(h:p:=by first|decide|(dsimp only;decide)):p:=h
def o6{p:Z3}(h:p:=by omega):p:=h
def o7{p:Z3}(h:p:=by decide):p:=h
def o8{p:Z3}(h:p:=by simp):p:=h
def o9{p:Z3}(h:p:=by rfl):p:=h
def G{α:Sort u}{a:α}:a=a:=Eq.refl a
abbrev ee:=List
abbrev fy:=PySem.Addr
abbrev mu:=PySem.Value
abbrev nt:=Option
abbrev nA:=PySem.Shared
abbrev pW:=PySem.FuncData
abbrev qq:=Array
abbrev q8:=PySem.Program
abbrev q9:=PySem.World
namespace L2
open PySem PySem.Spec PyProof.Rows
abbrev Key:=Sum Z4 Z6
def oF:Key->mu->Bool
 |.inl k,v=>Value.isInt k v
 |.inr x,v=>Value.isStrOf x v
def VX(w:q9):Key->Z4
 |.inl k=>hashInt k
 |.inr x=>hashStr w x
def cQ:∀{k:Key}{v:mu},oF k v=Z1->(∃i t,k=Sum.inl i/\v=Value.int i t)∨(∃x t,k=Sum.inr x/\v=Value.str x t)
 |.inl i,v,h=>by let⟨t,e⟩:=ZP (k:=i) (v:=v) h;exact .inl ⟨i,t,G,e⟩
 |.inr x,v,h=>by let⟨t,e⟩:=Value.isStrOf_shape (x:=x) (v:=v) h;exact .inr ⟨x,t,G,e⟩
def Fc(i:Z4)(t:Tok):oF (.inl i) (.int i t)=Z1:=by simp[oF,Value.isInt]
def EE(x:Z6)(t:Tok):oF (.inr x) (.str x t)=Z1:=by simp[oF,Value.isStrOf]
def RP(a b:Z4):decide ((Sum.inl a:Key)=Sum.inl b) =(a==b):=by grind
def LM(a b:Z6):decide ((Sum.inr a:Key)=Sum.inr b)=decide (a=b):=by grind
def JQ(a:Z4)(b:Z6):decide ((Sum.inl a:Key)=Sum.inr b)=Z2:=XH λq=>nomatch q
def LV(a:Z6)(b:Z4):decide ((Sum.inr a:Key)=Sum.inl b)=Z2:=XH λq=>nomatch q
def bN(prog:q8)(w:q9):PySem.KeyKind prog w Key where
 is:=oF
 hash:=VX w
 inj:=λv a b l f=>by
  rcases cQ l with⟨i,t,rfl,rfl⟩|⟨x,t,rfl,rfl⟩
  .rcases cQ f with⟨j,u,rfl,e⟩|⟨y,u,rfl,e⟩
   .injection e with e1 _;rw[e1]
   .exact nomatch e
  .rcases cQ f with⟨j,u,rfl,e⟩|⟨y,u,rfl,e⟩
   .exact nomatch e
   .injection e with e1 _;rw[e1]
 byValue:=λk v h=>by rcases cQ h with⟨i,t,rfl,rfl⟩|⟨x,t,rfl,rfl⟩ <;> rfl
 pyHash:=λc h=>by
  rcases cQ c with⟨i,t,rfl,rfl⟩|⟨x,t,rfl,rfl⟩
  .exact wpAny_pyHash_int h
  .exact wpAny_pyHash_str h
 eqBool:=λg c h=>by
  rcases cQ g with⟨i,t,rfl,rfl⟩|⟨x,t,rfl,rfl⟩
  .rcases cQ c with⟨j,u,rfl,rfl⟩|⟨y,u,rfl,rfl⟩
   .rw[RP] at h;exact wpAny_eqBool_int h
   .rw[JQ] at h;exact SeqAt.EqAt.int_str i t y u _ _ _ _ h
  .rcases cQ c with⟨j,u,rfl,rfl⟩|⟨y,u,rfl,rfl⟩
   .rw[LV] at h;exact SeqAt.EqAt.str_int x t j u _ _ _ _ h
   .rw[LM] at h;exact wpAny_eqBool_str h
 «strs»:=λk x t v h=>by
  rcases cQ h with⟨i,u,rfl,e⟩|⟨y,u,rfl,e⟩
  .exact nomatch e
  .injection e with e1 _
   subst e1;cases v <;> rfl
def Cg(prog:q8)(w:q9)(i:Z4)(t:Tok):(bN prog w).is (.inl i) (.int i t)=Z1:=Fc i t
def B9(prog:q8)(w:q9)(x:Z6)(t:Tok):(bN prog w).is (.inr x) (.str x t)=Z1:=EE x t
inductive V where
 |non|bl (b:Bool)|int (i:Z4)|str (x:Z6)|byt (b:qq UInt8)|flt (b:UInt64)|ref (a:fy)|ty (n:String)
 deriving DecidableEq
def RelV:V->mu->Z3
 |.non,u=>u=Value.none
 |.bl b,u=>u=Value.bool b
 |.int i,u=>∃t,u=Value.int i t
 |.str x,u=>∃t,u=Value.str x t
 |.byt b,u=>∃t,u=Value.bytes b t
 |.flt b,u=>∃t,u=Value.float b t
 |.ref a,u=>u=Value.ref a
 |.ty n,u=>u=Value.type n
abbrev Vals:ee V->ee mu->Z3:=Paired RelV
def Vals.length{xs:ee V}{us:ee mu}(r:Vals xs us):xs.length=us.length:=Paired.length r
def Vals.get:∀{xs:ee V}{us:ee mu}{i:Z5}{x:V},Vals xs us->xs[i]?=some x->∃u,us[i]?=some u/\RelV x u
 |_,_,_,_,.nil,e=>by simp at e
 |_,_,0,_,.cons r _,e=>by simp at e;subst e;exact{_,G,r}
 |_,_,i+1,x,.cons _ t,e=>by let⟨u,h1,h2⟩:=Vals.get (i:=i) (x:=x) t (⇑e);exact{u,⇑h1,h2}
def Vals.set{x:V}{u:mu}(r:RelV x u):∀{xs:ee V}{us:ee mu}(i:Z5),Vals xs us->Vals (xs.set i x) (us.set i u)
 |_,_,_,.nil=>.nil
 |_,_,0,.cons _ t=>.cons r t
 |_,_,i+1,.cons q t=>.cons q<|Vals.set r i t
def Vals.append:∀{xs ys:ee V}{us a:ee mu},Vals xs us->Vals ys a->Vals (xs++ys) (us++a)
 |_,_,_,_,.nil,s=>s
 |_,_,_,_,.cons r t,s=>.cons r<|Vals.append t s
def Vals.take:∀{xs:ee V}{us:ee mu}(n:Z5),Vals xs us->Vals (xs.take n) (us.take n)
 |_,_,0,_=>.nil
 |_,_,_+1,.nil=>.nil
 |_,_,n+1,.cons r t=>.cons r<|Vals.take n t
def Vals.drop:∀{xs:ee V}{us:ee mu}(n:Z5),Vals xs us->Vals (xs.drop n) (us.drop n)
 |_,_,0,r=>r
 |_,_,_+1,.nil=>.nil
 |_,_,n+1,.cons _ t=>Vals.drop n t
def fW:nt V->nt mu->Z3
 |some v,some u=>RelV v u
 |none,none=>True
 |_,_=>False
def KV{κ:Type}:ee (κ×V)->ee (κ×mu)->Z3:=Paired λ(p:κ×V)(q:κ×mu)=>p.1=q.1/\RelV p.2 q.2
def kV:Key->V
 |.inl i=>.int i
 |.inr x=>.str x
inductive HO where
  |lst (xs:ee V)
  |tup (xs:ee V)
  |dK (kvs:ee (Key×V))|dT (kvs:ee (ee Key×V))
  |set (S:Z4->Bool) (n:Z5)
  |ins (C dx:fy) (fs:ee (Z6×V))
  |own (x:fy)
  |xd (fs:ee (Z6×V))
  |met (f x:fy)
  |rng (lo hi:Z4)
  |frz (o:Obj) (u:HO)
  |tbl (ps:qq mu)
  |ext (φ:Heap->Z3)
abbrev Hp:=fy->nt HO
def Z9(H:Hp)(a:fy)(o:HO):Hp:=λb=>if b=a then some o else H b
def af{H:Hp}{a:fy}{o:HO}:Z9 H a o a=some o:=by unfold Z9;rw[Xm rfl]
def ah{H:Hp}{a b:fy}{o:HO}(h:b≠a):Z9 H a o b=H b:=by unfold Z9;rw[Xn h]
def gp{H:Hp}{a:fy}{o u:HO}:Z9 (Z9 H a o) a u=Z9 H a u:=by funext b;unfold Z9;split <;> rfl
def br{H:Hp}{a b:fy}{o u:HO}(h:H a=some o)(h':H b=some u)(d:o≠u):a≠b:=by grind
def aq{H:Hp}{a b:fy}{o:HO}(h:H a=some o)(h':H b=Z0):a≠b:=by grind
section
variable(P:q8)(w:q9)
def bF(H:Hp)(h:Heap)(a:fy):HO->Z3
 |.lst xs=>xs.length≤Z7/\∃(b:ee mu)(n:Z5),Vals xs b/\h.get? a=some {.type "list",Z0,.seq b.toArray n,#[]}
 |.tup xs=>xs.length≤Z7/\∃b:ee mu,Vals xs b/\IsTup h a b.toArray
 |.dK kvs=>kvs.length≤Z7/\(a==sysModules)=Z2/\∃vs,KV kvs vs/\h.DictOf (bN P w) a vs
 |.dT kvs=>kvs.length≤Z7/\(a==sysModules)=Z2/\∃xs:ee (ee Key×fy×mu),
   Paired (λ(p:ee Key×V)(q:ee Key×fy×mu)=>p.1=q.1/\H q.2.1=some (.tup<|p.1.map kV)/\RelV p.2 q.2.2) kvs xs∧
   ∃o es ep,h.get? a=some o/\o.ExactDict/\o.data=.dict es ep/\es.toList=xs.map (entryOfKey<|tupleKind<|bN P w)/\(xs.map (·.1)).Nodup
 |.set S n=>h.SetOf (intKind P w) a S n
 |.ins C dx fs=>H dx=some (.own a)/\fs.length≤1000/\dx≠a/\h.get? a=some (instObj C dx)∧
   ∃mA,h.Ns1 dx mA/\(∀f,fW (fs.lookup f)<|mA f)/\PySem.Within mA (fs.map (·.1))
 |.own _=>∃o,h.get? a=some o
 |.xd fs=>∃mA,h.Ns1 a mA/\∀f,fW (fs.lookup f)<|mA f
 |.rng lo hi=>∃t u v,h.get? a=some {.type "range",Z0,.fields #[.int lo t,.int hi u,.int 1 v],#[]}
 |.frz o u=>h.get? a=some o/\bF H h a u
 |.tbl ps=>h.get? a=some {.none,Z0,.fields ps,#[]}
 |.met f x=>h.get? a=some (methodObj (.ref f)<|.ref x)
 |.ext c=>c h/\(∃o,h.get? a=some o)/\∀h1 h2:Heap,c h1->(∀o,h1.get? a=some o->h2.get? a=some o)->c h2
def HOk(H:Hp)(h:Heap):Z3:=∀a o,H a=some o->bF P w H h a o
end
section
variable{P:q8}{w:q9}{H H':Hp}{h h':Heap}{a:fy}{o:HO}
def bF.lt(x:bF P w H h a o):a<h.objs.size:=by
 cases o with
 |lst xs=>let⟨_,_,_,_,e⟩:=x;exact Xi e
 |tup xs=>let⟨_,_,_,p⟩:=x;exact p.lt
 |dK kvs=>let⟨_,_,_,_,o,_,_,e,_⟩:=x;exact Xi e
 |dT kvs=>let⟨_,_,_,_,o,_,_,e,_⟩:=x;exact Xi e
 |set S n=>let⟨o,_,_,_,e,_⟩:=x;exact Xi e
 |ins C dx fs=>let⟨_,_,_,e,_⟩:=x;exact Xi e
 |own y=>let⟨_,e⟩:=x;exact Xi e
 |xd fs=>let⟨_,⟨_,_,_,e,_⟩,_⟩:=x;exact Xi e
 |rng lo hi=>let⟨_,_,_,e⟩:=x;exact Xi e
 |frz c u=>let⟨e,_⟩:=x;exact Xi e
 |tbl ps=>exact Xi (show h.get? a=some _ from x)
 |met f y=>exact Xi (show h.get? a=some _ from x)
 |ext b=>let⟨_,⟨_,e⟩,_⟩:=x;exact Xi e
def Paired.GQ{α h:Type}{F b4:α->h->Z3}:∀{g:ee α}{c:ee h},Paired F g c->(∀a b,F a b->b4 a b)->Paired b4 g c
 |_,_,.nil,_=>.nil
 |_,_,.cons r t,f=>.cons (f _ _ r)<|Paired.GQ t f
def bF.stay(x:bF P w H h a o)(k:∀b u,(b=a∨H b=some (.own a))->h.get? b=some u->h'.get? b=some u)(A:∀b,H b=some (.own a)->H' b=some (.own a))(j:∀b xs,H b=some (.tup xs)->H' b=some (.tup xs)):bF P w H' h' a o:=by
 induction o with
 |lst xs=>let⟨z,i,n,r,e⟩:=x;exact{z,i,n,r,k _ _ (.inl G) e}
 |tup xs=>let⟨z,i,r,g,e,c⟩:=x;exact{z,i,r,g,k _ _ (.inl G) e,c}
 |dK kvs=>let⟨z,y,vs,r,g,es,ep,e,c⟩:=x;exact{z,y,vs,r,g,es,ep,k _ _ (.inl G) e,c}
 |dT kvs=>let⟨z,y,xs,r,g,es,ep,e,c⟩:=x;exact{z,y,xs,Paired.GQ r λp q z=>{z.1,j _ _ z.2.1,z.2.2},g,es,ep,k _ _ (.inl G) e,c}
 |set S n=>let⟨g,es,ep,t,e,c⟩:=x;exact{g,es,ep,t,k _ _ (.inl G) e,c}
 |ins C dx fs=>let⟨d,z,l,e,mA,⟨od,es,ep,m,c⟩,r⟩:=x;exact{A _ d,z,l,k _ _ (.inl G) e,mA,{od,es,ep,k _ _ (.inr d) m,c},r}
 |own y=>let⟨g,e⟩:=x;exact{g,k _ _ (.inl G) e}
 |xd fs=>let⟨mA,⟨od,es,ep,e,c⟩,r⟩:=x;exact{mA,{od,es,ep,k _ _ (.inl G) e,c},r}
 |rng lo hi=>let⟨t,u,v,e⟩:=x;exact{t,u,v,k _ _ (.inl G) e}
 |frz g u s=>let⟨e,q⟩:=x;exact{k _ _ (.inl G) e,s q}
 |tbl ps=>have e:h.get? a=some {.none,Z0,.fields ps,#[]}:=x;show h'.get? a=some {.none,Z0,.fields ps,#[]};exact k a _ (.inl G) e
 |met f y=>have e:h.get? a=some (methodObj (.ref f) (.ref y)):=x;show h'.get? a=some (methodObj (.ref f)<|.ref y);exact k a _ (.inl G) e
 |ext B=>let⟨p,⟨o,e⟩,st⟩:=x;exact{st _ _ p λo q=>k _ _ (.inl G) q,{o,k _ _ (.inl G) e},st}
def HOk.lt(x:HOk P w H h)(e:H a=some o):a<h.objs.size:=(x a o e).lt
def HOk.fresh(x:HOk P w H h)(e:h.objs.size≤a):H a=Z0:=by
 cases q:H a with
 |none=>rfl
 |some u=>exact absurd (XC (x.lt q) e)<|YY _
def HOk.kept(x:HOk P w H h)(k:∀b u,h.get? b=some u->h'.get? b=some u):HOk P w H h':=λa o e=>(x a o e).stay (λb u _ q=>k b u q) (λ_ q=>q) λ_ _ q=>q
def HOk.laid(x:HOk P w H h)(k:∀b u,h.get? b=some u->h'.get? b=some u)(i:h.objs.size≤a)(new:bF P w (Z9 H a o) h' a o):HOk P w (Z9 H a o) h':=λb u e=>by
 let g:=x.fresh i;by_cases f:b=a
 .subst f;rw[af] at e;cases e;exact new
 .rw[ah f] at e;exact(x b u e).stay (λc v _ q=>k c v q) (λc q=>by rwa[ah<|aq q g]) λc xs q=>by rwa[ah<|aq q g]
end
def Rd(H:Hp)(a:fy)(u:HO):Z3:=H a=some u∨∃o,H a=some (.frz o u)
def Rd.ok{P:q8}{w:q9}{H:Hp}{h:Heap}{a:fy}{u:HO}(r:Rd H a u)(x:HOk P w H h):bF P w H h a u:=by
 rcases r with r|⟨o,r⟩
 .exact x a u r
 .let⟨_,q⟩:=x a _ r;exact q
def Mut:nt HO->Z3
 |some (.lst _)=>True
 |some (.dK _)=>True
 |some (.dT _)=>True
 |some (.set _ _)=>True
 |some (.ins _ _ _)=>True
 |some (.ext _)=>True
 |_=>False
section
variable{P:q8}{w:q9}{H:Hp}{h h':Heap}{x e:fy}{o':HO}
def HOk.write(ok:HOk P w H h)(i:Mut (H x))(he:e=x∨H e=some (.own x))(k:∀b u,b≠e->h.get? b=some u->h'.get? b=some u)(j:∃u,h'.get? e=some u)(new:bF P w (Z9 H x o') h' x o'):HOk P w (Z9 H x o') h':=λb u q=>by
 let f:∀c y,H c=some (.own y)->c≠x:=λc y r z=>by subst z;rwa[r] at i
 let a:∀c xs,H c=some (.tup xs)->c≠x:=λc xs r z=>by subst z;rwa[r] at i
 by_cases n:b=x
 .subst n;rw[af] at q;cases q;exact new
 .rw[ah n] at q;by_cases g:b=e
  .let l:H b=some (.own x):=by grind
   rw[q] at l;cases l;let⟨v,o⟩:=j;exact{v,by rwa[g]}
  .refine(ok b u q).stay (λc v m r=>k c v ?_ r) (λc r=>by rwa[ah<|f c b r]) λc xs r=>by rwa[ah<|a c xs r]
   rcases m with rfl|m
   .exact g
   .grind
end
structure Un(fs ex:ee fy)(H H':Hp)(h h':Heap):Z3 where
 keep:∀b o,h.get? b=some o->H b=Z0->b∉fs->b∉ex->h'.get? b=some o
 slot:∀b o,h.get? b=some o->H b=Z0->b∈fs->b∉ex->∃sl,h'.get? b=some {o with slots:=sl}
 free:∀b o,h.get? b=some o->H b=Z0->b∉ex->H' b=Z0
 there:∀b o,h.get? b=some o->b∉ex->∃o',h'.get? b=some o'
 tups:∀b xs,H b=some (.tup xs)->H' b=some (.tup xs)
 mj:∀b o u,H b=some (.frz o u)->H' b=some (.frz o u)
 pC:∀b ps,H b=some (.tbl ps)->∃more,H' b=some (.tbl (ps++more))
section
variable{fs fs' ex ex':ee fy}{H H1 H2:Hp}{h h1 h2 h':Heap}{a x e:fy}{o:HO}
def Un.any(u:Un fs ex H H1 h h1){b:fy}{a:Obj}(q:h.get? b=some a)(n:H b=Z0)(c:b∉ex):∃g,h1.get? b=some {a with slots:=g}:=by
 by_cases f:b∈fs
 .exact u.slot b a q n f c
 .exact{a.slots,u.keep b a q n f c}
def Un.kept(k:∀b u,h.get? b=some u->h'.get? b=some u):Un fs ex H H h h':=
 {λb a q _ _ _=>k b a q,λb a q _ _ _=>{a.slots,k b a q},λ_ _ _ n _=>n,λb a q _=>{a,k b a q},λ_ _ q=>q,λ_ _ _ q=>q,λ_ ps q=>{#[],by rw[q];simp}}
def Un.refl:Un fs ex H H h h:=Un.kept λ_ _ q=>q
def Un.laid(k:∀b u,h.get? b=some u->h'.get? b=some u)(f:h.objs.size≤a)(c:H a=Z0):Un fs ex H (Z9 H a o) h h' where
 keep:=λb u q _ _ _=>k b u q
 slot:=λb u q _ _ _=>{u.slots,k b u q}
 free:=λb u q n _=>by rwa[ah<|Xy<|XC (Xi q) f]
 there:=λb u q _=>{u,k b u q}
 tups:=λb xs q=>by rwa[ah<|aq q c]
 mj:=λb u xs q=>by rwa[ah<|aq q c]
 pC:=λb ps q=>{#[],by rw[ah<|aq q c,q];simp}
def Un.write(a:Mut (H x))(he:e=x∨H e=some (.own x))(k:∀b u,b≠e->h.get? b=some u->h'.get? b=some u)(f:∃u,h'.get? e=some u):Un fs ex H (Z9 H x o) h h':=by
 let i:∀b,H b=Z0->b≠x:=λb n z=>by subst z;rwa[n] at a
 let j:∀b,H b=Z0->b≠e:=λb n z=>by
  subst z;rcases he with r|r
  .exact i b n r
  .rw[n] at r;cases r
 let g:∀b u,H b=some u->¬Mut (some u)->b≠x:=λb u q nm z=>by subst z;rw[q] at a;exact nm a
 refine⟨λb u q n _ _=>k b u (j b n) q,λb u q n _ _=>{u.slots,k b u (j b n) q},λb u q n _=>by rwa[ah<|i b n],λb u q _=>?_,
  λb xs q=>by rwa[ah (g b _ q λz=>z)],λb u xs q=>by rwa[ah (g b _ q λz=>z)],λb ps q=>{#[],by rw[ah (g b _ q λz=>z),q];simp}⟩
 by_cases c:b=e
 .subst c;exact f
 .grind
end
def trk(h:Heap)(H:Hp):ee fy:=(List.range h.objs.size).filter λa=>(H a).isSome
def ql(h:Heap)(H:Hp):Heap:=PySem.W.hideAll h<|trk h H
def FO(h:Heap)(H:Hp):(ql h H).objs.size=h.objs.size:=PySem.W.hideAll_size _ _
def HE{h:Heap}{H:Hp}{b:fy}{o:Obj}(e:h.get? b=some o)(n:H b=Z0):(ql h H).get? b=some o:=
 PySem.W.hideAll_get _ e λa=>by let q:(H b).isSome=Z1:=(YB.mp a).2;rw[n] at q;simp at q
def Io{h:Heap}{H:Hp}{b:fy}{o:Obj}(e:(ql h H).get? b=some o):h.get? b=some o/\H b=Z0:=by
 let a:h.get? b=some o:=PySem.W.of_hideAll (trk h H) e;exists a;cases q:H b with
 |none=>rfl
 |some x=>have c:b∈trk h H:=YB.mpr {ZN.mpr<|Xi a,by simp[q]};let z:(ql h H).get? b=Z0:=PySem.W.hideAll_none (trk h H) c;rw[z] at e;cases e
def Ih(g h:Heap)(L:fy):ee (fy×Obj):=(List.range h.objs.size).filterMap λa=>if a=L∨(g.get? a).isSome=Z1 then Z0 else(h.get? a).map λo=>(a,o)
def rest(g h:Heap)(L d:fy):ee (fy×Obj):=(Ih g h L).filter λp=>decide (p.1≠d)
structure Mod(K:Frag)(mg:Z6->nt mu)(base:Heap):Z3 where
 kin:K.In base
 glob:base.Ns mainGlobals mg
 blt:∃mb,base.Ns builtinsNs mb/\∀x:Z6,x≠"__name__"->mb x=bootBuiltins x
 nolimit:base.NoLimit
structure Cx where
 prog:q8
 w:q9
 K:Frag
 mg:Z6->nt mu
 base:Heap
 A:Around
 N:ee Z6
 s₀:nA
 H₀:Hp
 env:Env
 outer:ee Env
 stack:ee Env
 ex:ee fy
 fn:Z6->Bool
 calm:Bool
 pn:ee (fy×Obj)
 xe:mu->nA->Z3
def frs(l:ee Env):ee fy:=l.filterMap (·.frame)
abbrev Cx.fs(X:Cx):ee fy:=frs X.outer
def Vis(a:Scope)(x:Z6):Z3:=a.names.lookup x=some .local∨a.names.lookup x=some .cell∨a.names.lookup x=some .free
def Loc(a:Scope)(x:Z6):Z3:=a.names.lookup x=some .local∨a.names.lookup x=some .cell
def Look(env:Env)(h:Heap)(m:Z6->nt mu)(x:Z6)(u:mu):Z3:=
 (env.kindOf x=some .local/\m x=some u)∨((env.kindOf x=some .cell∨env.kindOf x=some .free)/\∃c,env.cells.lookup x=some c/\h.IsCell c (some u))
structure Cx.Ok(X:Cx):Z3 where
 mod:Mod X.K X.mg X.base
 kind:X.env.scope.kind=.function
 glob:X.env.globals=mainGlobals
 blt:X.env.builtins=builtinsNs
 above:X.s₀.heap.objs.size≤X.env.locals
 inj:∀x y c,X.env.cells.lookup x=some c->X.env.cells.lookup y=some c->x=y
 has:∀x,(X.env.kindOf x=some .cell∨X.env.kindOf x=some .free)->∃c,X.env.cells.lookup x=some c
 cab:∀x c,X.fn x=Z1->X.env.cells.lookup x=some c->X.s₀.heap.objs.size≤c
 hd:X.calm=Z1->X.A.handled=Z0
 frames:X.A.frames=some X.stack
 stk:X.stack=X.outer∨(X.stack=X.env::X.outer/\X.env.frame=some X.env.locals)
 exf:∀ b∈X.ex,b≠X.env.locals/\∀x c,X.env.cells.lookup x=some c->c≠b
 bs:∀b o,X.base.get? b=some o->X.s₀.heap.get? b=some o/\X.H₀ b=Z0
 bsz:X.base.objs.size≤X.s₀.heap.objs.size
 sO:∀b o,X.base.get? b=some o->b∉X.ex
 rZ:∀ b∈X.ex,b∉X.fs
 jw:X.s₀.heap.FunFrames X.base X.outer
 frf:∀ b∈X.fs,X.H₀ b=Z0
structure Inv(X:Cx)(X4:ee (fy×Obj))(σ:ee (nt V))(H:Hp)(s:nA):Z3 where
 ok:X.Ok
 os:s.os=X.s₀.os
 bare:AllBare s.gens
 base:Un X.fs X.ex X.H₀ H X.s₀.heap s.heap
 loc:∃m,s.heap.Ns X.env.locals m/\∀(i:Z5)(x:Z6)(v:V),X.N[i]?=some x->σ[i]?=some (some v)->Vis X.env.scope x->∃u,RelV v u/\Look X.env s.heap m x u
 cell:∀x c,X.env.cells.lookup x=some c->∃v,s.heap.IsCell c v
 free:H X.env.locals=Z0
 fP:∀x c,X.env.cells.lookup x=some c->H c=Z0
 pin:∀ p∈X.pn++X4,s.heap.get? p.1=some p.2/\H p.1=Z0/\p.1≠X.env.locals/\p.1∉X.fs/\∀v,p.2.data≠.cell v
 hok:HOk X.prog X.w H s.heap
 len:σ.length=X.N.length
section
variable{X:Cx}{X4:ee (fy×Obj)}{σ:ee (nt V)}{H H':Hp}{s:nA}{h':Heap}
def Cx.Ok.Vj(ok:X.Ok){b:fy}{o:Obj}(e:X.base.get? b=some o):b∉X.fs:=λa=>by let:=(ok.jw.mem a).1;rw[e] at this;cases this
def Inv.bs(I:Inv X X4 σ H s):∀b o,X.base.get? b=some o->s.heap.get? b=some o/\H b=Z0:=λb o e=>
 {I.base.keep b o (I.ok.bs b o e).1 (I.ok.bs b o e).2 (I.ok.Vj e)<|I.ok.sO b o e,I.base.free b o (I.ok.bs b o e).1 (I.ok.bs b o e).2<|I.ok.sO b o e}
def Inv.bk(I:Inv X X4 σ H s):∀b o,X.base.get? b=some o->s.heap.get? b=some o:=λb o e=>(I.bs b o e).1
def Inv.mod(I:Inv X X4 σ H s):Mod X.K X.mg X.base:=I.ok.mod
def Inv.kIn(I:Inv X X4 σ H s):X.K.In s.heap:=I.ok.mod.kin.keeps I.bk
def Inv.lt(I:Inv X X4 σ H s):X.env.locals<(~~~s):=let ⟨_,hn,_⟩:=I.loc; hn.lt
def Inv.sz(I:Inv X X4 σ H s):X.s₀.heap.objs.size≤(~~~s):=Ye I.ok.above<|Yk I.lt
def Inv.Vq(I:Inv X X4 σ H s){a:fy}(h:( ~~~s)≤a):a∉X.fs:=λb=>by let⟨_,o,c,_⟩:=I.ok.jw.mem b;exact absurd (XC (Xi c)<|Ye I.sz h)<|YY _
def Inv.cne(I:Inv X X4 σ H s):∀x c,X.env.cells.lookup x=some c->c≠X.env.locals:=fun x c e z=>by let⟨v,o,f,g⟩:=I.cell x c e;let⟨m,⟨o',es,ep,a,b,_⟩,_⟩:=I.loc;rw[z,a] at f;cases f;rw[b] at g;cases g
def Inv.jw(I:Inv X X4 σ H s):s.heap.FunFrames X.base X.outer:=by
 let all:∀(l:ee Env),(∀ b∈frs l,b∈X.fs)->X.s₀.heap.FunFrames X.base l->s.heap.FunFrames X.base l:=by
  intro l
  induction l with
  |nil=>intro _ _;trivial
  |cons env r p=>
   intro hs h;let⟨j,⟨L,o,a,g,m,n⟩,i⟩:=h;let c:L∈X.fs:=hs L (by unfold frs;rw[aah,a];exact Yx);let⟨q,e⟩:=I.base.slot L o m (I.ok.frf L c) c λz=>I.ok.rZ L z c
   exact{j,{L,_,a,g,e,n},p (λb f=>hs b (by unfold frs;rw[aah,a];exact XR _ f)) i}
 exact all X.outer (λ_ f=>f) I.ok.jw
def Inv.stack(I:Inv X X4 σ H s):s.heap.FunFrames X.base X.stack:=by
 rcases I.ok.stk with e|⟨e,a⟩
 .rw[e];exact I.jw
 .rw[e];let⟨m,b,_⟩:=I.loc;refine .cons (by rw[I.ok.kind];decide) a b ?_ I.jw;exact Heap.get?_none_of_le<|Ye I.ok.bsz I.ok.above
def Inv.BF(I:Inv X X4 σ H s):∀ b∈frs X.stack,b∈X.env.locals::X.fs:=fun b hb=>by
 rcases I.ok.stk with e|⟨e,a⟩
 .grind
 .rw[e] at hb;unfold frs at hb;rwa[aah,a] at hb
def Inv.yi(I:Inv X X4 σ H s):∀ b∈frs X.stack,H b=Z0:=λb a=>by
 rcases XG.mp (I.BF b a) with e|a
 .rw[e];exact I.free
 .let⟨_,o,c,_⟩:=I.ok.jw.mem a;exact I.base.free b o c (I.ok.frf b a) λz=>I.ok.rZ b z a
def Inv.step{g':qq GenState}{t':Z5}{d':Drawn}{ch:ee fy}(I:Inv X X4 σ H s)(f:∀ b∈ch,(b∈X.ex∨X.s₀.heap.objs.size≤b)/\b≠X.env.locals/\(∀x c,X.env.cells.lookup x=some c->c≠b)/\∀ p∈X.pn++X4,p.1≠b)(keep:∀b o,b≠X.env.locals->b∉X.fs->b∉ch->s.heap.get? b=some o->H b=Z0->h'.get? b=some o)(y:∀b o,b≠X.env.locals->b∈X.fs->b∉ch->s.heap.get? b=some o->H b=Z0->∃S,h'.get? b=some {o with slots:=S})(free:∀b o,b∉ch->s.heap.get? b=some o->H b=Z0->H' b=Z0)(A:∀b o,b∉ch->s.heap.get? b=some o->∃o',h'.get? b=some o')(F:∀b xs,H b=some (.tup xs)->H' b=some (.tup xs))(mj:∀b o u,H b=some (.frz o u)->H' b=some (.frz o u))(pC:∀b ps,H b=some (.tbl ps)->∃more,H' b=some (.tbl (ps++more)))(ns:∀m,s.heap.Ns X.env.locals m->h'.Ns X.env.locals m)(a0:HOk X.prog X.w H' h')(hg:AllBare g') :
  Inv X X4 σ H' {s with heap:=h',gens:=g',drawn:=d',toks:=t'}:=by
 let O:∀b o,X.s₀.heap.get? b=some o->b≠X.env.locals:=fun b o e=>Xy<|XC (Xi e) I.ok.above
 let t:∀b o,X.s₀.heap.get? b=some o->b∉X.ex->b∉ch:=λb o e a B=>by
  rcases(f b B).1 with z|z
  .exact a z
  .exact absurd (XC (Xi e) z) (YY _)
 let h:∀x c,X.env.cells.lookup x=some c->∀v,s.heap.IsCell c v->h'.IsCell c v:=λ x c e v ⟨o,C,Y⟩=>by
  let g:c∉ch:=λz=>(f c z).2.2.1 x c e G
  by_cases hc:c∈X.fs
  .let⟨S,q⟩:=y c o (I.cne x c e) hc g C<|I.fP x c e;exact{_,q,Y}
  .exact{o,keep c o (I.cne x c e) hc g C<|I.fP x c e,Y}
 refine{I.ok,I.os,hg,{λb o e n B a=>?_,λb o e n B a=>?_,λb o e n a=>?_,λb o e a=>?_,λb xs e=>F b xs<|I.base.tups b xs e,λb o xs e=>mj b o xs<|I.base.mj b o xs e,λb ps e=>?_},?_,λx c e=>?_,?_,λx c e=>?_,λp hp=>?_,a0,I.len}
 .exact keep b o (O b o e) B (t b o e a) (I.base.keep b o e n B a) (I.base.free b o e n a)
 .let⟨S,j⟩:=I.base.slot b o e n B a;let⟨U,L⟩:=y b _ (O b o e) B (t b o e a) j<|I.base.free b o e n a;exact⟨U,L⟩
 .let⟨o',j⟩:=I.base.there b o e a;exact free b o' (t b o e a) j<|I.base.free b o e n a
 .let⟨o',j⟩:=I.base.there b o e a;exact A b o' (t b o e a) j
 .let⟨m1,j⟩:=I.base.pC b ps e;let⟨m2,L⟩:=pC b _ j;exact{m1++m2,by rw[L,Array.append_assoc]}
 .let⟨m,hn,hl⟩:=I.loc;refine{m,ns m hn,λi x v j L e3=>?_};let⟨u,r,l⟩:=hl i x v j L e3;exists u,r;rcases l with l|⟨k,c,e,z⟩
  .exact .inl l
  .exact .inr {k,c,e,h x c e _ z}
 .let⟨v,z⟩:=I.cell x c e;exact{v,h x c e v z}
 .let⟨m,⟨o,_,_,C,_⟩,_⟩:=I.loc;exact free _ o (λz=>(f _ z).2.1 G) C I.free
 .let⟨v,o,C,Y⟩:=I.cell x c e;exact free c o (λz=>(f c z).2.2.1 x c e G) C<|I.fP x c e
 .let⟨e,n,ne,nf,d⟩:=I.pin p hp;let g:p.1∉ch:=λz=>(f p.1 z).2.2.2 p hp G
  exact{keep p.1 p.2 ne nf g e n,free p.1 p.2 g e n,ne,nf,d}
def Inv.un{t':Z5}(I:Inv X X4 σ H s)(u:Un X.fs [] H H' s.heap h')(c:HOk X.prog X.w H' h'):Inv X X4 σ H' {s with heap:=h',toks:=t'}:=by
 let⟨m,⟨o,es,ep,i,r⟩,_⟩:=id I.loc;let⟨t,j⟩:=u.any i I.free o8;exact I.step (g':=s.gens) (d':=s.drawn) (ch:=[]) (λ_ z=>nomatch z) (λb o _ g _ e n=>u.keep b o e n g o8) (λb o _ g _ e n=>u.slot b o e n g o8) (λb o _ e n=>u.free b o e n o8) (λb o _ e=>u.there b o e o8) u.tups u.mj u.pC (λq l=>by let⟨o',h,f,a,p⟩:=l;rw[i] at a;cases a;exact{_,h,f,j,p}) c I.bare
def Inv.call{g':qq GenState}{t':Z5}{d':Drawn}{ch:ee fy}(I:Inv X X4 σ H s)(u:Un (frs X.stack) ch H H' s.heap h')(h:HOk X.prog X.w H' h')(t:AllBare g')(f:∀ b∈ch,(b∈X.ex∨X.s₀.heap.objs.size≤b)/\b≠X.env.locals/\(∀x c,X.env.cells.lookup x=some c->c≠b)/\∀ p∈X.pn++X4,p.1≠b) :
  Inv X X4 σ H' {s with heap:=h',gens:=g',drawn:=d',toks:=t'}:=by
 let⟨m,⟨o,es,ep,q,r⟩,_⟩:=id I.loc;let⟨C,j⟩:=u.any q I.free λz=>(f _ z).2.1 G
 exact I.step (ch:=ch) f (λb o j v a e n=>u.keep b o e n (λz=>(XG.mp<|I.BF b z).elim j v) a) (λb o _ _ a e n=>u.any e n a) (λb o a e n=>u.free b o e n a) (λb o a e=>u.there b o e a) u.tups u.mj u.pC (λB y=>by let⟨o',l,i,g,A⟩:=y;rw[q] at g;cases g;exact{_,l,i,j,A}) h t
def Inv.turned{t':Z5}{it:fy}(I:Inv X X4 σ H s)(k:∀b o,b≠it->s.heap.get? b=some o->h'.get? b=some o)(g:H it=Z0)(h:it≠X.env.locals)(h1:it∈X.ex∨X.s₀.heap.objs.size≤it)(h2:∀x c,X.env.cells.lookup x=some c->c≠it)(h3:∀ p∈X.pn++X4,p.1≠it):Inv X X4 σ H {s with heap:=h',toks:=t'}:=by
 let f:∀b u,H b=some u->b≠it:=λb u e z=>by rw[z,g] at e;cases e
 refine I.step (g':=s.gens) (d':=s.drawn) (ch:=[it]) (λb l=>?_) (λb o _ _ a e _=>k b o (λz=>a (by simp[z])) e) (λb o _ _ a e _=>{o.slots,k b o (λz=>a (by simp[z])) e}) (λ_ _ _ _ n=>n)
  (λb o a e=>{o,k b o (λz=>a (by simp[z])) e}) (λ_ _ e=>e) (λ_ _ _ e=>e) (λb ps e=>{#[],by rw[e];simp}) (λm i=>?_) (λb u e=>?_) I.bare
 .grind
 .let⟨o,es,ep,j,r⟩:=i;exact{o,es,ep,k _ o (Yo h) j,r}
 .refine(I.hok b u e).stay (λc v a q=>k c v ?_ q) (λ_ q=>q) λ_ _ q=>q
  rcases a with z|z
  .grind
  .exact f c _ z
def Inv.tok(I:Inv X X4 σ H s)(t:Z5):Inv X X4 σ H {s with toks:=t}:=I.un (h':=s.heap) (t':=t) Un.refl I.hok
def Inv.kept{t':Z5}(I:Inv X X4 σ H s)(k:∀b u,s.heap.get? b=some u->h'.get? b=some u):Inv X X4 σ H {s with heap:=h',toks:=t'}:=I.un (Un.kept k)<|I.hok.kept k
def Inv.laid{a:fy}{o:HO}{t':Z5}(I:Inv X X4 σ H s)(k:∀b u,s.heap.get? b=some u->h'.get? b=some u)(c:( ~~~s)≤a)(new:bF X.prog X.w (Z9 H a o) h' a o) :
  Inv X X4 σ (Z9 H a o) {s with heap:=h',toks:=t'}:=I.un (Un.laid k c<|I.hok.fresh c)<|I.hok.laid k c new
def Inv.write{x e:fy}{o:HO}{t':Z5}(I:Inv X X4 σ H s)(c:Mut (H x))(he:e=x∨H e=some (.own x))(k:∀b u,b≠e->s.heap.get? b=some u->h'.get? b=some u)(a:∃u,h'.get? e=some u)(new:bF X.prog X.w (Z9 H x o) h' x o):Inv X X4 σ (Z9 H x o) {s with heap:=h',toks:=t'}:=I.un (Un.write c he k a)<|I.hok.write c he k a new
def Inv.Dc{a:ee (fy×Obj)}(I:Inv X X4 σ H s)(h:∀ p∈a,s.heap.get? p.1=some p.2/\H p.1=Z0/\p.1≠X.env.locals/\p.1∉X.fs/\∀v,p.2.data≠.cell v):Inv X a σ H s:=
 {I.ok,I.os,I.bare,I.base,I.loc,I.cell,I.free,I.fP,λp b=>(Xv.mp b).elim (λz=>I.pin p<|Xu _ z)<|h p,I.hok,I.len}
def vo{N:ee Z6}(g:N.Nodup){i j:Z5}{x:Z6}(a:N[i]?=some x)(b:N[j]?=some x):i=j:=by let⟨h1,f⟩:=Xg.mp a;let⟨h2,c⟩:=Xg.mp b;exact(List.getElem_inj g).mp (f.trans c.symm)
def yW{M:Model}{A:Around}{E:mu->nA->Z3}{i:Z5}{x:Z6}{v:V}{u:mu}{Q:Unit->nA->Z3}(I:Inv X X4 σ H s)(hN:X.N.Nodup)(hi:X.N[i]?=some x)(t:Loc X.env.scope x)(r:RelV v u)(h:∀s',Inv X X4 (σ.set i (some v)) H s'->(∃a,Heap.SameBut a s.heap s'.heap/\(a=X.env.locals∨X.env.cells.lookup x=some a))->Q () s')(hf:X.fn x=Z1∨X.env.scope.names.lookup x=some .local:=by first|exact .inl rfl|exact .inr rfl|assumption):wpAny M A (storeName X.env x u) Q E s:=by
 let⟨m,hn,hl⟩:=id I.loc;let Y:(X.env.scope.kind==.class||(X.env.scope.kind==.module&&X.env.locals != X.env.globals))=Z2:=by rw[I.ok.kind]; rfl
 let C:i<σ.length:=by rw[I.len];exact(Xg.mp hi).1
 let cne:=I.cne;let g:∀{a:fy}{h':Heap},(∃o,s.heap.get? a=some o/\H a=Z0)->Heap.SameBut a s.heap h'->HOk X.prog X.w H h':=λ{a h'}ha hs b ob e=>by
  let⟨_,_,a1⟩:=ha;refine(I.hok b ob e).stay (λc w' l q=>(hs.2 c ?_).trans q) (λ_ q=>q) λ_ _ q=>q
  rintro rfl;rcases l with rfl|l
  .grind
  .grind
 rcases t with S|S
 .refine wpAny_storeName_local S hn (λh' a4 hs=>?_) Y;let⟨oL,_,_,a3,_⟩:=id hn;refine h _ {I.ok,I.os,I.bare,{λb o e n F t=>?_,λb o e n F t=>?_,I.base.free,λb o e t=>?_,I.base.tups,I.base.mj,I.base.pC},{_,a4,λj y v' f B e3=>?_},λy c e=>?_,I.free,I.fP,λp hp=>?_,g ⟨oL,a3,I.free⟩ hs,⇑I.len} {_,hs,.inl G}
  .exact(hs.2 b<|Xy<|XC (Xi e) I.ok.above).trans (I.base.keep b o e n F t)
  .let⟨sl,f⟩:=I.base.slot b o e n F t;exact{sl,(hs.2 b<|Xy<|XC (Xi e) I.ok.above).trans f}
  .let⟨o',f⟩:=I.base.there b o e t;exact{o',(hs.2 b<|Xy<|XC (Xi e) I.ok.above).trans f}
  .by_cases O:j=i
   .subst O;rw[hi] at f;cases f;rw[aa0 C] at B;cases B;exact{u,r,.inl ⟨S,o8⟩}
   .rw[ZZ<|Yo O] at B;let⟨u',r',q⟩:=hl j y v' f B e3;exists u',r';rcases q with⟨k,e⟩|⟨k,c,e,z⟩
    .refine .inl {k,?_};let:y≠x:=λe=>O (vo hN f<|e ▸ hi)
     simp[this,e]
    .exact .inr {k,c,e,z.sameBut hs<|cne y c e}
  .let⟨w',z⟩:=I.cell y c e;exact{w',z.sameBut hs<|cne y c e}
  .let⟨e,n,ne,nf,d⟩:=I.pin p hp;exact{(hs.2 p.1 ne).trans e,n,ne,nf,d}
 .let L:X.fn x=Z1:=by grind
  let⟨c,l⟩:=I.ok.has x<|.inl S;let⟨w',z⟩:=I.cell x c l;refine wpAny_storeName_cell I.ok.kind S l z λh' a2 hs=>?_;let⟨oc,a0,U⟩:=id z;refine h {s with heap:=h'} {I.ok,I.os,I.bare,{λb o e n F t=>?_,λb o e n F t=>?_,I.base.free,λb o e t=>?_,I.base.tups,I.base.mj,I.base.pC},{m,hn.sameBut hs<|Yo<|cne x c l,λj y v' f B e3=>?_},λy c' e=>?_,I.free,I.fP,λp hp=>?_,g {oc,a0,I.fP x c l} hs,⇑I.len} {c,hs,.inr l}
  .exact(hs.2 b<|Xy<|XC (Xi e)<|I.ok.cab x c L l).trans (I.base.keep b o e n F t)
  .let⟨sl,f⟩:=I.base.slot b o e n F t;exact{sl,(hs.2 b<|Xy<|XC (Xi e)<|I.ok.cab x c L l).trans f}
  .let⟨o',f⟩:=I.base.there b o e t;exact{o',(hs.2 b<|Xy<|XC (Xi e)<|I.ok.cab x c L l).trans f}
  .by_cases O:j=i
   .subst O;rw[hi] at f;cases f;rw[aa0 C] at B;cases B;exact{u,r,.inr {.inl S,c,l,a2}}
   .rw[ZZ<|Yo O] at B;let⟨u',r',q⟩:=hl j y v' f B e3;exists u',r';rcases q with q|⟨k,c',e,z'⟩
    .exact .inl q
    .refine .inr {k,c',e,z'.sameBut hs ?_};rintro rfl;exact O<|vo hN f<|I.ok.inj _ _ _ e l ▸ hi
  .by_cases a5:c'=c
   .grind
   .let⟨w2,z2⟩:=I.cell y c' e;exact{w2,z2.sameBut hs a5}
  .let⟨e,n,ne,nf,d⟩:=I.pin p hp;refine{(hs.2 p.1 ?_).trans e,n,ne,nf,d};intro q;rw[q,a0] at e;let q':oc=p.2:=XQ e;exact d w' (by rwa[←q'])
def qw{M:Model}{A:Around}{E:mu->nA->Z3}{i:Z5}{x:Z6}{v:V}{u:mu}{Q:Unit->nA->Z3}(I:Inv X X4 σ H s)(f:X.N.Nodup)(hi:X.N[i]?=some x)(b:Loc X.env.scope x)(r:RelV v u)(h:∀s',Inv X X4 (σ.set i (some v)) H s'->Q () s')(c:X.fn x=Z1∨X.env.scope.names.lookup x=some .local:=by first|exact .inl rfl|exact .inr rfl|assumption):wpAny M A (storeName X.env x u) Q E s:=
 yW I f hi b r (λs' a _=>h s' a) c
def Inv.Ai{s':nA}{ch:ee fy}(I:Inv X X4 σ H s)(g:s'.os=s.os)(u:Un (frs X.stack) ch H H' s.heap s'.heap)(f:HOk X.prog X.w H' s'.heap)(h:AllBare s'.gens)(a:∀ b∈ch,(b∈X.ex∨X.s₀.heap.objs.size≤b)/\b≠X.env.locals/\(∀x c,X.env.cells.lookup x=some c->c≠b)/\∀ p∈X.pn++X4,p.1≠b):Inv X X4 σ H' s':=by let⟨h',g',d',t',o'⟩:=s';let e:o'=s.os:=g;subst e;exact I.call (g':=g') (t':=t') (d':=d') u f h a
end
abbrev XK:=mu->nt fy->Hp->Z3
abbrev St:=ee<|nt V
abbrev VK:=V->Hp->Z3
abbrev TE:=St->Hp->VK->Z3
abbrev TT:=St->Hp->(Bool->Hp->Z3)->Z3
abbrev TA:=St->Hp->(ee V->Hp->Z3)->Z3
structure Ends where
 nx:St->Hp->Z3
 rt:VK
 bk:St->Hp->Z3:=λ_ _=>False
 ct:St->Hp->Z3:=λ_ _=>False
abbrev TS:=Ends->St->Hp->Z3
inductive EP(X:Cx)(X4:ee (fy×Obj))(σ:St)(Q:VK)(u:mu)(s':nA):Z3
 |m v H'(_:Inv X X4 σ H' s')(_:RelV v u)(_:Q v H')
def TP(X:Cx)(X4:ee (fy×Obj))(σ:St)(Q:Bool->Hp->Z3)(b:Bool)(s':nA):Z3:=∃H',Inv X X4 σ H' s'/\Q b H'
inductive AP(X:Cx)(X4:ee (fy×Obj))(σ:St)(Q:ee V->Hp->Z3)(us:ee mu)(s':nA):Z3
 |m vs H'(_:Inv X X4 σ H' s')(_:Vals vs us)(_:Q vs H')
def SP(X:Cx)(X4:ee (fy×Obj))(D:Ends)(f:Flow)(s':nA):Z3:=
 match f with
 |.next=>∃a H',Inv X X4 a H' s'/\D.nx a H'
 |.brk=>∃a H',Inv X X4 a H' s'/\D.bk a H'
 |.cont=>∃a H',Inv X X4 a H' s'/\D.ct a H'
 |.ret u=>∃v a H',Inv X X4 a H' s'/\RelV v u/\D.rt v H'
def PE(X:Cx)(e:Expr)(t:TE):Z3:=
 ∀(X4:ee (fy×Obj))(s:nA)(σ:St)(H:Hp)(Q:VK),Inv X X4 σ H s->t σ H Q->wpAny (model X.prog X.w) X.A (eval e X.env) (EP X X4 σ Q) X.xe s
def PT(X:Cx)(e:Expr)(t:TT):Z3:=
 ∀(X4:ee (fy×Obj))(s:nA)(σ:St)(H:Hp)(Q:Bool->Hp->Z3),Inv X X4 σ H s->t σ H Q->wpAny (model X.prog X.w) X.A (isTrue e X.env<|eval e X.env) (TP X X4 σ Q) X.xe s
def PW(X:Cx)(e:Expr)(t:TT):Z3:=
 ∀(a:Sem mu)(X4:ee (fy×Obj))(s:nA)(σ:St)(H:Hp)(Q:Bool->Hp->Z3),Inv X X4 σ H s->t σ H Q->wpAny (model X.prog X.w) X.A (isTrue e X.env a) (TP X X4 σ Q) X.xe s
def PW.pt{X:Cx}{e:Expr}{t:TT}(h:PW X e t):PT X e t:=h _
def PA(X:Cx)(es:ee Expr)(t:TA):Z3:=
 ∀(pos:Pos)(X4:ee (fy×Obj))(s:nA)(σ:St)(H:Hp)(Q:ee V->Hp->Z3),Inv X X4 σ H s->t σ H Q->wpAny (model X.prog X.w) X.A (spliced<|backTo pos<|starEach es X.env) (AP X X4 σ Q) X.xe s
def PS(X:Cx)(st:Stmt)(t:TS):Z3:=
 ∀(X4:ee (fy×Obj))(s:nA)(σ:St)(H:Hp)(D:Ends),Inv X X4 σ H s->t D σ H->wpAny (model X.prog X.w) X.A (exec st X.env) (SP X X4 D) X.xe s
def PSs(X:Cx)(st:ee Stmt)(t:TS):Z3:=
 ∀(X4:ee (fy×Obj))(s:nA)(σ:St)(H:Hp)(D:Ends),Inv X X4 σ H s->t D σ H->wpAny (model X.prog X.w) X.A (execs st X.env) (SP X X4 D) X.xe s
def thn{α:Type}{t:Sem α}{Q b:α->nA->Z3}{M:Model}{A:Around}{E:mu->nA->Z3}{s:nA}(h:wpAny M A t Q E s)(c:∀a s,Q a s->b a s):wpAny M A t b E s:=XY h c λ_ _ x=>x
section
variable{X:Cx}
inductive vv(i:Z5)(σ:St)(H:Hp)(Q:VK):Z3
 |m v(_:σ[i]?=some (some v))(_:Q v H)
def tC(v:V):TE:=λ_ H Q=>Q v H
def K5{i:Z5}{x:Z6}{pos:Pos}(q:X.N[i]?=some x)(y:Vis X.env.scope x)(j:(x ==("__debug__":Str))=Z2:=by decide)(g:(x ==("__classdict__":Str))=Z2:=by decide):PE X (.Name x pos) (vv i):=by
 intro X4 s σ H Q I h;let⟨v,e,h⟩:=h;let⟨m,o,p⟩:=I.loc;let⟨u,r,l⟩:=p i x v q e y;let b:EP X X4 σ Q u s:=⟨v,H,I,r,h⟩;rcases l with⟨f,t⟩|⟨f,c,n,a⟩
 .exact wpAny_Name (wpAny_loadName_local I.ok.kind f o t b) j
 .rcases f with f|f
  .exact wpAny_Name (wpAny_loadName_cell I.ok.kind f n a b) j
  .exact wpAny_Name (wpAny_loadName_free I.ok.kind f n a b g) j
def aA{i j pos}:PE X (.Constant (.int i) j pos) (tC (.int i)):=λ_ _ _ H _ I h=>wpAny_Constant_int {.int i,H,I.tok _,{_,G},h}
def fL{b j pos}:PE X (.Constant (.bool b) j pos) (tC (.bl b)):=λ_ _ _ H _ I h=>Constant_bool {.bl b,H,I,G,h}
def lF{j pos}:PE X (.Constant .none j pos) (tC .non):=λ_ _ _ H _ I h=>Constant_none {.non,H,I,G,h}
def aJ{x j pos}:PE X (.Constant (.str x) j pos) (tC (.str x)):=λ_ _ _ H _ I h=>Calls.Constant_str {.str x,H,I.tok _,{_,G},h}
def Gl(X:Cx)(x:Z6):Z3:=X.env.kindOf x=some .globalImplicit
def kF{E:mu->nA->Z3}{X4:ee (fy×Obj)}{s:nA}{σ:St}{H:Hp}{x:Z6}{u:mu}{pos:Pos}{Q:mu->nA->Z3}(I:Inv X X4 σ H s)(c:Gl X x)(a:X.mg x=some u)(h:Q u s)(b:(x ==("__debug__":Str))=Z2:=by decide):wpAny (model X.prog X.w) X.A (eval (.Name x pos) X.env) Q E s:=
 aaw I.ok.kind c (Calls.loadGlobal_global (by rw[I.ok.glob];exact I.mod.glob.keeps I.bk) a h) b
def gK{E:mu->nA->Z3}{X4:ee (fy×Obj)}{s:nA}{σ:St}{H:Hp}{x:Z6}{u:mu}{pos:Pos}{Q:mu->nA->Z3}(I:Inv X X4 σ H s)(a:Gl X x)(c:X.mg x=Z0)(f:bootBuiltins x=some u)(h:Q u s)(b:x≠"__name__":=by decide)(g:(x ==("__debug__":Str))=Z2:=by decide):wpAny (model X.prog X.w) X.A (eval (.Name x pos) X.env) Q E s:=by let⟨i,h1,h2⟩:=I.mod.blt;exact aaw I.ok.kind a (Calls.loadGlobal_builtin (by rw[I.ok.glob];exact I.mod.glob.keeps I.bk) c (by rw[I.ok.blt];exact h1.keeps I.bk) ((h2 x b).trans f) h) g
def iQ{x:Z6}{v:V}{u:mu}{pos:Pos}(c:Gl X x)(a:X.mg x=some u)(r:RelV v u)(b:(x ==("__debug__":Str))=Z2:=by decide):PE X (.Name x pos) (tC v):=
 λ_ _ _ H _ I h=>kF I c a ⟨v,H,I,r,h⟩ b
def CT{x:Z6}{v:V}{u:mu}{pos:Pos}(a:Gl X x)(c:X.mg x=Z0)(f:bootBuiltins x=some u)(r:RelV v u)(b:x≠"__name__":=by decide)(g:(x ==("__debug__":Str))=Z2:=by decide):PE X (.Name x pos) (tC v):=
 λ_ _ _ H _ I h=>gK I a c f ⟨v,H,I,r,h⟩ b g
variable{a b:Expr}{ta tb:TE}{pos:Pos}
def PC(X:Cx)(g:CmpOp)(a b:Expr)(t:TE):Z3:=
 ∀(X4:ee (fy×Obj))(s:nA)(σ:St)(H:Hp)(Q:VK),Inv X X4 σ H s->t σ H Q →
  wpAny (model X.prog X.w) X.A (eval a X.env) (λv f=>wpAny (model X.prog X.w) X.A (eval b X.env) (λu c=>wpAny (model X.prog X.w) X.A (compareOp g v u) (EP X X4 σ Q) X.xe c) X.xe f) X.xe s
def GS(b:Expr){a:CmpOp}(h:a≠.In)(h2:a≠.NotIn):behindInMarks a b=Z2:=by
 let c:(a==CmpOp.In)=Z2:=by grind
 let f:(a==CmpOp.NotIn)=Z2:=by grind
 cases b <;> simp[behindInMarks,c,f]
inductive MW(Q:Bool->Hp->Z3)(x:V)(H1:Hp):Z3
 |m c(_:x=.bl c)(_:Q c H1)
def tB(t:TE):TT:=λσ H Q=>t σ H λx H1=>MW Q x H1
def w9{f:CmpOp}{t:TE}(h:PC X f a b t)(h1:behindInMarks f b=Z2:=by first|exact GS _ o7 o7|rfl):PT X (.Compare a [f] [b] pos) (tB t):=by intro X4 s σ H Q I g;refine wpAny_isTrue_Compare1 (thn (h X4 s σ H _ I g) λv s1 h1=>thn h1 λu s2 h2=>thn h2 λ c s3 ⟨x,H1,I1,r1,q1⟩=>?_) h1;let⟨d,rfl,q⟩:=q1;cases r1;exact Y0 ⟨H1,I1,q⟩
def lK{e:Expr}{t:TE}(h:PE X e t)(he:∀a,isTrue e X.env a =(do let v ←a;standAt e.pos;holding [v] (truthy v)):=by intro _;rfl):PT X e (tB t):=by intro X4 s σ H Q I b;refine isTrue_plain (thn (h X4 s σ H _ I b) λ v s1 ⟨x,H1,I1,r1,q1⟩=>?_)<|he _;let⟨d,rfl,q⟩:=q1;cases r1;exact Y0 ⟨H1,I1,q⟩
variable{tA tB':TT}{rest:ee Expr}
def WW(t u:TT):TT:=λσ H Q=>t σ H λc H1=>if c=Z1 then u σ H1 Q else Q Z2 H1
def tOr(t u:TT):TT:=λσ H Q=>t σ H λc H1=>if c=Z1 then Q Z1 H1 else u σ H1 Q
def Wk(t:TT):TT:=λσ H Q=>t σ H λc H1=>Q (!c) H1
def pw_and1(b:PT X a tA):PW X (.BoolOp .And [a] pos) tA:=by
 intro wh X4 s σ H Q I h;refine isTrue_and (thn (b X4 s σ H Q I h) λc s1 e=>?_);cases c with
 |true=>exact isTrue_and_nil e
 |false=>exact e
def pw_or1(b:PT X a tA):PW X (.BoolOp .Or [a] pos) tA:=by
 intro wh X4 s σ H Q I h;refine isTrue_or (thn (b X4 s σ H Q I h) λc s1 e=>?_);cases c with
 |false=>exact isTrue_or_nil e
 |true=>exact e
def pw_and(f:PT X a tA)(g:PW X (.BoolOp .And (b::rest) pos) tB'):PW X (.BoolOp .And (a::b::rest) pos) (WW tA tB'):=by
 intro wh X4 s σ H Q I h;refine isTrue_and (thn (f X4 s σ H _ I h) λ c s1 ⟨H1,I1,q1⟩=>?_);cases c with
 |true=>exact g wh X4 s1 σ H1 Q I1 q1
 |false=>exact⟨H1,I1,q1⟩
def pw_or(f:PT X a tA)(g:PW X (.BoolOp .Or (b::rest) pos) tB'):PW X (.BoolOp .Or (a::b::rest) pos) (tOr tA tB'):=by
 intro wh X4 s σ H Q I h;refine isTrue_or (thn (f X4 s σ H _ I h) λ c s1 ⟨H1,I1,q1⟩=>?_);cases c with
 |true=>exact⟨H1,I1,q1⟩
 |false=>exact g wh X4 s1 σ H1 Q I1 q1
def sJ(b:PT X a tA):PT X (.UnaryOp .Not a pos) (Wk tA):=by intro X4 s σ H Q I h;exact isTrue_not<|b X4 s σ H (λc H1=>Q (!c) H1) I h
inductive xQ(tb:TE)(σ:St)(Q:VK)(x:V)(H1:Hp):Z3
 |m c(_:x=.bl c)(_:if c=Z1 then tb σ H1 Q else Q (.bl Z2) H1)
def Ur(ta tb:TE):TE:=λσ H Q=>ta σ H λx H1=>xQ tb σ Q x H1
inductive De(Q:VK)(x:V)(H1:Hp):Z3
 |m c(_:x=.bl c)(_:Q (.bl (!c)) H1)
def Uc(ta:TE):TE:=λσ H Q=>ta σ H λx H1=>De Q x H1
def wM{op}{t:TE}(h:PE X a t):PE X (.BoolOp op [a] pos) t:=λX4 s σ H Q I b=>BoolOp_one<|h X4 s σ H Q I b
def sM(f:PE X a ta)(g:PE X (.BoolOp .And (b::rest) pos) tb):PE X (.BoolOp .And (a::b::rest) pos) (Ur ta tb):=by
 intro X4 s σ H Q I h;refine BoolOp_and (thn (f X4 s σ H _ I h) λ v s1 ⟨x,H1,I1,r1,q1⟩=>?_);let⟨c,rfl,q1⟩:=q1;cases r1;refine Y0 ?_;cases c with
 |true=>exact g X4 s1 σ H1 Q I1 q1
 |false=>exact{.bl Z2,H1,I1,G,q1}
def Lv(b:PE X a ta):PE X (.UnaryOp .Not a pos) (Uc ta):=by intro X4 s σ H Q I h;refine UnaryOp_ (thn (b X4 s σ H _ I h) λ v s1 ⟨x,H1,I1,r1,q1⟩=>?_);let⟨c,rfl,q1⟩:=q1;cases r1;exact not_of<|Y0 {.bl (!c),H1,I1,G,q1}
def tIf(t:TT)(ta tb:TE):TE:=λσ H Q=>t σ H λc H1=>if c=Z1 then ta σ H1 Q else tb σ H1 Q
def HA{c:Expr}(i:PT X c tA)(f:PE X a ta)(g:PE X b tb):PE X (.IfExp c a b pos) (tIf tA ta tb):=by
 intro X4 s σ H Q I h;refine wpAny_IfExp (thn (i X4 s σ H _ I h) λ d s1 ⟨H1,I1,q1⟩=>?_);cases d with
 |true=>exact f X4 s1 σ H1 Q I1 q1
 |false=>exact g X4 s1 σ H1 Q I1 q1
end
def X0(K:Frag)(H:Hp)(a:fy)(xs:ee V):Z3:=
 Rd H a (.lst xs)∨
  ∃(o:Obj)(b:qq mu)(n:Z5),K.lookup a=some o/\o.cls=.type "list"/\o.dict=Z0/\o.data=.seq b n/\b.size≤Z7/\Vals xs b.toList
def X3(K:Frag)(H:Hp)(a:fy)(xs:ee V):Z3:=
 Rd H a (.tup xs)∨
  ∃(o:Obj)(b:qq mu)(n:Z5),K.lookup a=some o/\o.cls=.type "tuple"/\o.data=.seq b n/\b.size≤Z7/\Vals xs b.toList
def Wv:mu->nt V
 |.none=>some .non
 |.bool b=>some<|.bl b
 |.int i _=>some<|.int i
 |.str x _=>some<|.str x
 |.bytes b _=>some<|.byt b
 |.float b _=>some<|.flt b
 |.ref a=>some<|.ref a
 |.type n=>some<|.ty n
 |_=>Z0
def RelV.abs{x:V}{u:mu}(r:RelV x u):Wv u=some x:=by
 cases x with
 |non=>cases r;rfl
 |bl _=>cases r;rfl
 |int _=>let⟨t,rfl⟩:=r;rfl
 |str _=>let⟨t,rfl⟩:=r;rfl
 |byt _=>let⟨t,rfl⟩:=r;rfl
 |flt _=>let⟨t,rfl⟩:=r;rfl
 |ref _=>cases r;rfl
 |ty _=>cases r;rfl
def RelV.inj{x y:V}{u:mu}(r:RelV x u)(q:RelV y u):x=y:=XQ<|r.abs.symm.trans q.abs
def Vals.inj:∀{xs ys:ee V}{us:ee mu},Vals xs us->Vals ys us->xs=ys
 |_,_,_,.nil,.nil=>rfl
 |_,_,_,.cons r t,.cons r' t'=>by rw[r.inj r',Vals.inj t t']
section
variable{X:Cx}{X4:ee (fy×Obj)}{σ:St}{H:Hp}{s:nA}{a:fy}{xs ys:ee V}
def X0.of{K:Frag}(h:H a=some (.lst xs)):X0 K H a xs:=.inl<|.inl h
def X3.of{K:Frag}(h:H a=some (.tup xs)):X3 K H a xs:=.inl<|.inl h
def Inv.list(I:Inv X X4 σ H s)(h:X0 X.K H a xs):∃b:ee mu,Vals xs b/\PlainL s.heap a b.toArray/\xs.length≤Z7:=by
 rcases h with h|⟨o,b,n,c,g,f,hs,i,r⟩
 .let⟨z,b,n,r,e⟩:=h.ok I.hok;exact{b,r,{_,n,e,G,G,G},z}
 .exists b.toList,r,{o,n,I.kIn a o c,g,f,⇑hs};let e:=r.length;simp only[Array.length_toList] at e;omega
def Inv.tuple(I:Inv X X4 σ H s)(h:X3 X.K H a xs):∃b:ee mu,Vals xs b/\IsTup s.heap a b.toArray/\xs.length≤Z7:=by
 rcases h with h|⟨o,b,n,c,f,hs,g,r⟩
 .let⟨z,b,r,p⟩:=h.ok I.hok;exact⟨b,r,p,z⟩
 .exists b.toList,r,{o,I.kIn a o c,f,n,⇑hs};let e:=r.length;simp only[Array.length_toList] at e;omega
def Inv.Hu(I:Inv X X4 σ H s)(h:X0 X.K H a xs)(h':X0 X.K H a ys):xs=ys:=by
 let⟨b,r,⟨o,n,e,_,_,d⟩,_⟩:=I.list h;let⟨its',f,⟨o',g,c,_,_,d'⟩,_⟩:=I.list h';rw[e] at c;cases c;rw[d] at d';injection d' with d1 _
 let:b=its':=by grind
 subst this;exact r.inj f
def Inv.FT(I:Inv X X4 σ H s)(h:X3 X.K H a xs)(h':X3 X.K H a ys):xs=ys:=by
 let⟨b,r,⟨o,e,_,n,d⟩,_⟩:=I.tuple h;let⟨its',f,⟨o',c,_,g,d'⟩,_⟩:=I.tuple h';rw[e] at c;cases c;rw[d] at d';injection d' with d1 _
 let:b=its':=by grind
 subst this;exact r.inj f
end
abbrev Cx.qm(X:Cx)(E:mu->nA->Z3):Cx:={X with xe:=E}
abbrev Cx.nox(X:Cx):Cx:=X.qm λ_ _=>False
def Cx.Ok.qm{X:Cx}(ok:X.Ok)(E:mu->nA->Z3):(X.qm E).Ok:=
 ⟨ok.mod,ok.kind,ok.glob,ok.blt,ok.above,ok.inj,ok.has,ok.cab,ok.hd,ok.frames,ok.stk,ok.exf,ok.bs,ok.bsz,ok.sO,ok.rZ,ok.jw,ok.frf⟩
def Cx.Ok.Ao{X:Cx}{E:mu->nA->Z3}(ok:(X.qm E).Ok):X.Ok:=
 ⟨ok.mod,ok.kind,ok.glob,ok.blt,ok.above,ok.inj,ok.has,ok.cab,ok.hd,ok.frames,ok.stk,ok.exf,ok.bs,ok.bsz,ok.sO,ok.rZ,ok.jw,ok.frf⟩
section
variable{X:Cx}{X4:ee (fy×Obj)}{σ:St}{H:Hp}{s:nA}{E:mu->nA->Z3}
def Inv.qm(I:Inv X X4 σ H s)(E:mu->nA->Z3):Inv (X.qm E) X4 σ H s:={I.ok.qm E,I.os,I.bare,I.base,I.loc,I.cell,I.free,I.fP,I.pin,I.hok,I.len}
def Inv.Ao(I:Inv (X.qm E) X4 σ H s):Inv X X4 σ H s:=⟨I.ok.Ao,I.os,I.bare,I.base,I.loc,I.cell,I.free,I.fP,I.pin,I.hok,I.len⟩
end
section
variable{X:Cx}{st:Stmt}{rest:ee Stmt}{t u:TS}{e:Expr}{te:TE}{pos:Pos}
def mO:TS:=λD σ H=>D.nx σ H
def A0(t u:TS):TS:=λD σ H=>t {D with nx:=u D} σ H
def bR:PSs X [] mO:=λ_ _ σ H _ I h=>ZD ⟨σ,H,I,h⟩
def au(h1:PS X st t)(h2:PSs X rest u):PSs X (st::rest) (A0 t u):=by
 intro X4 s σ H D I h;refine wpAny_execs_cons (thn (h1 X4 s σ H {D with nx:=u D} I h) λf s1 q=>?_);cases f with
 |next=>let⟨a,H',b,q⟩:=q;exact h2 X4 s1 a H' D b q
 |ret v=>exact q
 |brk=>exact q
 |cont=>exact q
def av(h1:PS X st t):PSs X [st] t:=by
 intro X4 s σ H D I h;refine wpAny_execs_cons (thn (h1 X4 s σ H D I h) λf s1 q=>?_);cases f with
 |next=>exact ZD q
 |ret v=>exact q
 |brk=>exact q
 |cont=>exact q
def Inv.quiet{X4:ee (fy×Obj)}{σ:St}{H:Hp}{s:nA}(I:Inv X X4 σ H s):interactive X.env=Z2:=by simp[interactive,I.ok.kind]
def TM(te:TE):TS:=λD σ H=>te σ H λ_ H1=>D.nx σ H1
def aY(he:PE X e te)(hs:swapsWith e Z0 pos.line X.env=pure Z2:=by rfl):PS X (.Expr e pos) (TM te):=by intro X4 s σ H D I h;exact wpAny_Expr_any (thn (he X4 s σ H _ I h) λ v s1 ⟨x,H1,I1,r1,q1⟩=>⟨σ,H1,I1,q1⟩) I.quiet hs
def KQ(te:TE):TS:=λD σ H=>te σ H D.rt
def aM(he:PE X e te):PS X (.Return (some e) pos) (KQ te):=by intro X4 s σ H D I h;exact wpAny_Return_some (thn (he X4 s σ H _ I h) λ v s1 ⟨x,H1,I1,r1,q1⟩=>⟨x,σ,H1,I1,r1,q1⟩)
def UA:TS:=λD _ H=>D.rt .non H
def Iw:PS X (.Return Z0 pos) UA:=λ_ _ σ H _ I h=>wpAny_Return_none {.non,σ,H,I,G,h}
def yE(c:TT)(t u:TS):TS:=λD σ H=>c σ H λb H1=>if b=Z1 then t D σ H1 else u D σ H1
def cj{c:Expr}{a b:ee Stmt}{tc:TT}(i:PT X c tc)(f:PSs X a t)(g:PSs X b u):PS X (.If c a b pos) (yE tc t u):=by
 intro X4 s σ H D I h;refine wpAny_If (thn (i X4 s σ H _ I h) λ d s1 ⟨H1,I1,q1⟩=>?_);cases d with
 |true=>exact f X4 s1 σ H1 D I1 q1
 |false=>exact g X4 s1 σ H1 D I1 q1
end
abbrev TG:=V->St->Hp->(St->Hp->Z3)->Z3
abbrev TGs:=ee V->St->Hp->(St->Hp->Z3)->Z3
def PG(X:Cx)(a:Expr)(t:TG):Z3:=
 ∀(X4:ee (fy×Obj))(s:nA)(σ:St)(H:Hp)(v:V)(u:mu)(Q:St->Hp->Z3),Inv X X4 σ H s->RelV v u->t v σ H Q →
  wpAny (model X.prog X.w) X.A (assign a X.env u) (λ_ s'=>∃b H',Inv X X4 b H' s'/\Q b H') X.xe s
def PGs(X:Cx)(ts:ee Expr)(t:TGs):Z3:=
 ∀(X4:ee (fy×Obj))(s:nA)(σ:St)(H:Hp)(vs:ee V)(us:ee mu)(Q:St->Hp->Z3),Inv X X4 σ H s->Vals vs us->t vs σ H Q →
  wpAny (model X.prog X.w) X.A (assignInOrder ((assignEach ts X.env).map (·.2)) us) (λ_ s'=>∃a H',Inv X X4 a H' s'/\Q a H') X.xe s
abbrev Ho:=V->V->V->Hp->(Hp->Z3)->Z3
def Nm(X:Cx)(t:Ho):Z3:=
 ∀(X4:ee (fy×Obj))(s:nA)(σ:St)(H:Hp)(o i v:V)(b a u:mu)(Q:Hp->Z3),Inv X X4 σ H s->RelV o b->RelV i a->RelV v u->t o i v H Q →
  wpAny (model X.prog X.w) X.A (setItem b a u) (λ_ s'=>∃H',Inv X X4 σ H' s'/\Q H') X.xe s
section
variable{X:Cx}{pos:Pos}
def qF(i:Z5):TG:=λv σ H Q=>Q (σ.set i<|some v) H
def IV{i:Z5}{x:Z6}(f:X.N.Nodup)(hi:X.N[i]?=some x)(b:Loc X.env.scope x)(c:X.fn x=Z1∨X.env.scope.names.lookup x=some .local:=by first|exact .inl rfl|exact .inr rfl|assumption):PG X (.Name x pos) (qF i):=by intro X4 s σ H v u Q I r h;exact wpAny_assign_Name<|qw I f hi b r (λs' a=>{_,H,a,h}) c
def Vc:TGs:=λvs σ H Q=>vs=[]/\Q σ H
inductive Ib(t:TG)(u:TGs)(vs:ee V)(σ:St)(H:Hp)(Q:St->Hp->Z3):Z3
 |m v r(_:vs=v::r)(_:t v σ H λσ' H'=>u r σ' H' Q)
def kN:PGs X [] Vc:=by intro X4 s σ H vs us Q I r h;let⟨e,h⟩:=h;subst e;cases r;exact assignInOrder_nil ⟨σ,H,I,h⟩
def cS{e:Expr}{es:ee Expr}{t:TG}{u:TGs}(h1:PG X e t)(h2:PGs X es u)(hs:(assignEach (e::es) X.env).map (·.2)=assign e X.env ::(assignEach es X.env).map (·.2):=by rfl):PGs X (e::es) (Ib t u):=by
 intro X4 s σ H vs us Q I r h;let⟨v,f,b,h⟩:=h;subst b;cases r with
 |cons r c=>rw[hs];refine assignInOrder_cons (thn (h1 X4 s σ H _ _ _ I r h) λ _ s1 ⟨a,H1,I1,q1⟩=>?_);exact h2 X4 s1 a H1 _ _ Q I1 c q1
inductive GB(K:Frag)(n:Z5)(t:TGs)(v:V)(σ:St)(H:Hp)(Q:St->Hp->Z3):Z3
 |m a xs(_:v=.ref a)(_:X3 K H a xs)(_:xs.length=n)(_:t xs σ H Q)
def pR{es:ee Expr}{k:Z5}{t:TGs}{n:Z5}(x:X.calm=Z1)(h:PGs X es t)(l:(assignEach es X.env).length=n:=by rfl)(c:(assignEach es X.env).findIdx? (·.1)=Z0:=by rfl):PG X (.Tuple es k pos) (GB X.K n t):=by
 intro X4 s σ H v u Q I r f;let⟨a,xs,i,p,m,f⟩:=f;subst i;cases r;let⟨q,g,j,A⟩:=I.tuple p;refine assign_Tuple_tuple (I.ok.hd x) j (by simp[l,←m,g.length]) c λh' y=>?_
 let z:Inv X X4 σ H {s with heap:=h'}:=I.kept (t':=s.toks) λb o e=>y b o (Xy<|Xi e) e
 exact h X4 _ σ H xs _ Q z (⇑g) f
def WM(to b:TE)(t:Ho):TG:=λv σ H Q=>to σ H λo H1=>b σ H1 λi H2=>t o i v H2 λa=>Q σ a
def sW{o i:Expr}{to c:TE}{t:Ho}(j:PE X o to)(hi:PE X i c)(hs:Nm X t)(f:∀v,assign (.Subscript o i pos) X.env v =(do
   let a ←holding [v] (eval o X.env);let b ←holding [v,a] (eval i X.env)
   standAt pos
   holding [v,a,b] (setItem a b v)
   release [v,a,b] []):=by intro _;rfl):PG X (.Subscript o i pos) (WM to c t):=by
 intro X4 s σ H v u Q I r h;rw[f];refine Xd<|Yj (thn (j X4 s σ H _ I h) λ a s1 ⟨x,H1,I1,r1,q1⟩=>?_);refine Xd<|Yj (thn (hi X4 s1 σ H1 _ I1 q1) λ b s2 ⟨y,H2,I2,r2,q2⟩=>?_);refine Xd<|ZV<|Xd<|Yj (thn (hs X4 s2 σ H2 x y v a b u _ I2 r1 r2 r q2) λ _ s3 ⟨g,I3,q3⟩=>?_);exact wpAny_release ⟨σ,g,I3,q3⟩
def Ed(te:TE)(g:TG):TS:=λD σ H=>te σ H λx H1=>g x σ H1 D.nx
def tH{tg e:Expr}{te:TE}{g:TG}(he:PE X e te)(a:PG X tg g)(hs:swapsWithSole [tg] e pos.line X.env=pure Z2:=by rfl)(b:swappedStores [tg] e X.env=pure Z0:=by rfl)(h1:(assignEach [tg] X.env).map (·.2)=[assign tg X.env]:=by rfl):PS X (.Assign [tg] e pos) (Ed te g):=by intro X4 s σ H D I h;refine wpAny_Assign_stores (thn (he X4 s σ H _ I h) λ v s1 ⟨x,H1,I1,r1,q1⟩=>?_) hs b;rw[h1];exact thn (a X4 s1 σ H1 x v _ I1 r1 q1) λ_ s2 q=>q
def A4{i:Z5}{x:Z6}{e:Expr}{te:TE}{pos':Pos}(c:X.N.Nodup)(hi:X.N[i]?=some x)(a:Loc X.env.scope x)(he:PE X e te)(hs:swapsWith e (some (.Name x pos')) pos.line X.env=pure Z2:=by rfl)(b:X.fn x=Z1∨X.env.scope.names.lookup x=some .local:=by first|exact .inl rfl|exact .inr rfl|assumption) :
  PS X (.Assign [.Name x pos'] e pos) (Ed te (qF i)):=by
 intro X4 s σ H D I h;refine wpAny_Assign_Name (thn (he X4 s σ H _ I h) λ v s1 ⟨y,H1,I1,r1,q1⟩=>?_) hs;exact qw I1 c hi a r1 (λs2 f=>{_,H1,f,q1}) b
end
section
variable{X:Cx}{pos:Pos}
inductive F9(c:TT)(tb:TS)(D:Ends)(σ:St)(H:Hp):Z3
 |m (W:Z5->St->Hp->Z3)(_:∃m,W m σ H)(_:∀m σ H,W m σ H->c σ H λb H1=>if b=Z1 then ∃N:St->Hp->Z3,(∀σ' H',N σ' H'->∃m',m'<m/\W m' σ' H')/\tb {D with nx:=N,ct:=N,bk:=D.nx} σ H1 else D.nx σ H1)
def vj{c:Expr}{i:ee Stmt}{tc:TT}{tb:TS}(y:PassesOwn (model X.prog X.w) X.A X.env X.xe)(C:PT X c tc)(F:PSs X i tb):PS X (.While c i [] pos) (F9 tc tb):=by
 intro X4 s σ H D I h;let⟨W,⟨B,L⟩,j⟩:=h;refine wpAny_While<|codeAny_whileLoop (λn s'=>∃m H',Inv X X4 m H' s'/\W n m H') ?_ B ⟨σ,H,I,L⟩;rintro n s1 ⟨g,H1,S,O⟩;refine YW y (thn (C X4 s1 g H1 _ S<|j n g H1 O) λ b s2 ⟨H2,I2,p⟩=>?_);cases b with
 |true=>
  let⟨N,z,p⟩:=p;rw[Xm rfl];refine YW y (thn (F X4 s2 g H2 _ I2 p) λf s3 o=>?_);cases f with
  |next=>let⟨a,l,u,t⟩:=o;let⟨q,x,r⟩:=z a l t;exact⟨q,x,a,l,u,r⟩
  |cont=>let⟨a,l,u,t⟩:=o;let⟨q,x,r⟩:=z a l t;exact⟨q,x,a,l,u,r⟩
  |brk=>exact o
  |ret v=>exact o
 |false=>rw[Xn Xs];exact ZD ⟨g,H2,I2,p⟩
end
structure It where
 go:Z5->Hp->Z3
 yld:Z5->Hp->V->Hp->Z3
 stop:Z5->Hp->Z3
def eF(X:Cx)(X4:ee (fy×Obj))(H:Hp)(b:fy):Z3:=
 H b=Z0/\b≠X.env.locals/\b∉X.fs/\(b∈X.ex∨X.s₀.heap.objs.size≤b)/\(∀x c,X.env.cells.lookup x=some c->c≠b)/\∀ p∈X.pn++X4,p.1≠b
def Inv.qK{X:Cx}{X4:ee (fy×Obj)}{σ:St}{H H':Hp}{s:nA}{b:fy}(I:Inv X X4 σ H s)(a:( ~~~s)≤b)(g:H' b=Z0):eF X X4 H' b:=by
 refine{g,aaa<|XC I.lt a,I.Vq a,.inr<|Ye I.sz a,λx c e z=>?_,λp f z=>?_}
 .let⟨v,q⟩:=I.cell x c e;exact absurd (XC q.lt (by rwa[z]))<|YY _
 .exact absurd (XC (Xi (I.pin p f).1) (by rwa[z])) (YY _)
structure Turn(P:q8)(w:q9)(K:Frag)(tg:Expr)(J:It)(fp:ee fy)(it:fy)(tn:Z5->Heap->Z3):Z3 where
 mem:it∈fp
 obj:∀i h,tn i h->∀ b∈fp,∃o,h.get? b=some o/\∀v,o.data≠.cell v
 keep:∀i h h',tn i h->(∀ b∈fp,∀o,h.get? b=some o->h'.get? b=some o)->tn i h'
 item:∀(X:Cx),X.prog=P->X.w=w->X.K=K->X.calm=Z1->∀(i:Z5)(X4:ee (fy×Obj))(s:nA)(σ:St)(H:Hp)(E:mu->nA->Z3),Inv X X4 σ H s->(∀ b∈fp,eF X X4 H b)->tn i s.heap->J.go i H →
  wpAny (model P w) X.A (pyNext (.ref it)) (λr s1=>∃u,r=some u∧
   wpAny (model P w) X.A (letOwnedTupleGo tg (.ref it) u) (λ_ s2=>∃x H',Inv X X4 σ H' s2/\RelV x u/\J.yld i H x H'/\tn (i+1) s2.heap/\∀ b∈fp,H' b=Z0) E s1) E s
 done:∀(X:Cx),X.prog=P->X.w=w->X.K=K->X.calm=Z1->∀(i:Z5)(X4:ee (fy×Obj))(s:nA)(σ:St)(H:Hp)(E:mu->nA->Z3),Inv X X4 σ H s->(∀ b∈fp,eF X X4 H b)->tn i s.heap->J.stop i H →
  wpAny (model P w) X.A (pyNext (.ref it)) (λr s1=>r=Z0/\Inv X X4 σ H s1) E s
 self:∀(A:Around)(i:Z5)(s:nA)(Q:mu->nA->Z3)(E:mu->nA->Z3),tn i s.heap->Q (.ref it) s->wpAny (model P w) A (pyIter (.ref it)) Q E s
abbrev TI:=St->Hp->(It->Hp->Z3)->Z3
def PIE(X:Cx)(X4:ee (fy×Obj))(σ:St)(tg:Expr)(R:It->Hp->Z3)(a:mu)(s2:nA):Z3:=
 ∃(it:fy)(fp:ee fy)(c:Z5->Heap->Z3)(J:It)(H':Hp),a=.ref it/\Inv X X4 σ H' s2/\Turn X.prog X.w X.K tg J fp it c/\c 0 s2.heap/\(∀ b∈fp,eF X X4 H' b)/\R J H'
def PI(X:Cx)(tg iter:Expr)(wi:TI):Z3:=
 ∀(X4:ee (fy×Obj))(s:nA)(σ:St)(H:Hp)(R:It->Hp->Z3),Inv X X4 σ H s->wi σ H R →
  wpAny (model X.prog X.w) X.A (eval iter X.env) (λv s1=>wpAny (model X.prog X.w) X.A (pyIter v) (PIE X X4 σ tg R) X.xe s1) X.xe s
def Ae{M:Model}{A:Around}{E:mu->nA->Z3}{s:nA}{tg:Expr}{it:fy}{u:mu}{o:Obj}{n:String}{vs:qq mu}{Q:Unit->nA->Z3}(f:s.heap.get? it=some o)(c:o.cls=.type n)(b:o.data=.fields vs)(g:["enumerate","zip","dict_itemiterator","dict_reverseitemiterator","odict_iterator","itertools.zip_longest","itertools.pairwise"].contains n=Z2)(a:Q () s):wpAny M A (letOwnedTupleGo tg (.ref it) u) Q E s:=by
 unfold letOwnedTupleGo;cases tg <;> first
  |exact Xe a
  |(cases u <;> first
    |exact Xe a
    |(refine Xd (wpAny_load f ?_)
      rw[c,b];show wpAny M A (if (["enumerate","zip","dict_itemiterator","dict_reverseitemiterator","odict_iterator","itertools.zip_longest","itertools.pairwise"].contains n&&vs[0]? == some (rawInt _))=Z1 then _ else _) Q E s;rw[Xn (by grind)];exact Xe a))
def Itl(K:Frag)(a:fy):It:=
 {λi H=>∃xs x,X0 K H a xs/\xs[i]?=some x,λi H x H'=>H'=H/\∀xs,X0 K H a xs->xs[i]?=some x,λi H=>∃xs,X0 K H a xs/\xs.length≤i}
def Itt(K:Frag)(a:fy):It:=
 {λi H=>∃xs x,X3 K H a xs/\xs[i]?=some x,λi H x H'=>H'=H/\∀xs,X3 K H a xs->xs[i]?=some x,λi H=>∃xs,X3 K H a xs/\xs.length≤i}
def Itr(lo:Z4)(n:Z5):It:={λi _=>i<n,λi H x H'=>H'=H/\x=.int (lo+i),λi _=>n≤i}
def Fd{P:q8}{w:q9}{K:Frag}{tg:Expr}(a it:fy):Turn P w K tg (Itl K a) [it] it (λi h=>h.IsListIter it a i) where
 mem:=by simp
 obj:=λi h st b f=>by
  let e:b=it:=⇑f
  subst e;let⟨o,e,c,d⟩:=st;exact{o,e,λv z=>by rw[d] at z;cases z}
 keep:=λi h h' st k=>st.at λo e=>k it o8 o e
 item:=by
  intro X B q y L i X4 s σ H E I j st C;subst B q y;let⟨xs,x,l,F⟩:=C;let⟨n,r,p,U⟩:=I.list l;let⟨u,Y,O⟩:=r.get F;let⟨f0,f1,f2,m,t,A⟩:=j it o8;refine wpAny_pyNext_list_item st p.isList (x:=u) (⇑Y) λh' g sb=>?_
  let I1:Inv X X4 σ H {s with heap:=h'}:=I.turned (t':=s.toks) (λb o f e=>(sb.2 b f).trans e) f0 f1 m t A;let⟨o,e,c,d⟩:=id g;exact{u,G,Ae (s:={s with heap:=h'}) e c d o7 {x,H,I1,O,{G,λys S=>by rwa[I.Hu S l]},g,λb f=>(j b f).1}}
 done:=by intro X B q y L i X4 s σ H E I j st C;subst B q y;let⟨xs,l,F⟩:=C;let⟨n,r,p,U⟩:=I.list l;let⟨f0,f1,f2,m,t,A⟩:=j it o8;let hl:=r.length;exact wpAny_pyNext_list_end (I.ok.hd L) st p.isList (by simp;omega) λh' eb=>{G,I.turned (t':=s.toks) (λb o f e=>eb b o f e) f0 f1 m t A}
 self:=λ_ _ _ _ _ st h=>wpAny_pyIter_listiter st h
def Er{P:q8}{w:q9}{K:Frag}{tg:Expr}(a it:fy):Turn P w K tg (Itt K a) [it] it (λi h=>h.IsTupleIter it a i) where
 mem:=by simp
 obj:=λi h st b g=>by
  let e:b=it:=⇑g
  subst e;let⟨o,e,c,d⟩:=st;exact{o,e,λv z=>by rw[d] at z;cases z}
 keep:=λi h h' st k=>st.at λo e=>k it o8 o e
 item:=by
  intro X B q y L i X4 s σ H E I l st C;subst B q y;let⟨xs,x,m,F⟩:=C;let⟨f,r,p,U⟩:=I.tuple m;let⟨u,Y,O⟩:=r.get F;let⟨f0,f1,f2,n,t,A⟩:=l it o8;refine wpAny_pyNext_tuple_item st (show s.heap.IsTuple a f.toArray from p) (x:=u) (⇑Y) λh' j sb=>?_
  let I1:Inv X X4 σ H {s with heap:=h'}:=I.turned (t':=s.toks) (λb o g e=>(sb.2 b g).trans e) f0 f1 n t A;let⟨o,e,c,d⟩:=id j;exact{u,G,Ae (s:={s with heap:=h'}) e c d o7 {x,H,I1,O,{G,λys S=>by rwa[I.FT S m]},j,λb g=>(l b g).1}}
 done:=by intro X B q y L i X4 s σ H E I l st C;subst B q y;let⟨xs,m,F⟩:=C;let⟨f,r,p,U⟩:=I.tuple m;let⟨f0,f1,f2,n,t,A⟩:=l it o8;let hl:=r.length;exact wpAny_pyNext_tuple_end (I.ok.hd L) st (show s.heap.IsTuple a f.toArray from p) (by simp;omega) λh' eb=>{G,I.turned (t':=s.toks) (λb o g e=>eb b o g e) f0 f1 n t A}
 self:=λ_ _ _ _ _ st h=>wpAny_pyIter_tupleiter st h
def Et{P:q8}{w:q9}{K:Frag}{tg:Expr}(it:fy)(lo:Z4)(n:Z5):Turn P w K tg (Itr lo n) [it] it (λi h=>IsRangeIter h it (lo +(i:Z5)*1) (↥n -(i:Z5)) 1) where
 mem:=by simp
 obj:=λi h st b a=>by
  let e:b=it:=⇑a
  subst e;exact⟨_,st,λv z=>by let F:Data.fields _=Data.cell v:=z;cases F⟩
 keep:=λi h h' st k=>k it o8 _ st
 item:=by
  intro X p l u q i X4 s σ H E I f st g;subst p l u;let⟨f0,f1,f2,j,r,m⟩:=f it o8;let W:=Walks.range (prog:=X.prog) (w:=X.w) (I.ok.hd q) it lo 1 n;refine W.item i s _ _ g st λv h' x A c B=>?_
  let⟨t,rfl⟩:=A;let C:Inv X X4 σ H {s with heap:=h',toks:=x}:=I.turned (λb o a e=>B b o (⇑a) e) f0 f1 j r m;refine{_,G,Ae (s:={s with heap:=h',toks:=x}) (n:="range_iterator") c G G o7 {.int (lo+i),H,C,{t,?_},⟨G,G⟩,c,λb a=>(f b a).1}};rw[Int.mul_one]
 done:=by intro X p l u q i X4 s σ H E I f st g;subst p l u;let⟨f0,f1,f2,j,r,m⟩:=f it o8;exact wpAny_pyNext_range_end (I.ok.hd q) st (by let:n≤i:=g;omega) λh' y=>{G,I.turned (t':=s.toks) (λb o a e=>y b o a e) f0 f1 j r m}
 self:=λ_ _ _ _ _ st h=>wpAny_pyIter_rangeiter st h
section
variable{X:Cx}{tg:Expr}
inductive Ct(K:Frag)(R:It->Hp->Z3)(x:V)(H1:Hp):Z3
 |m a(_:x=.ref a)(_:∃xs,X0 K H1 a xs)(_:R (Itl K a) H1)
def UO(K:Frag)(tl:TE):TI:=λσ H R=>tl σ H λx H1=>Ct K R x H1
inductive Fo(K:Frag)(R:It->Hp->Z3)(x:V)(H1:Hp):Z3
 |m a(_:x=.ref a)(_:∃xs,X3 K H1 a xs)(_:R (Itt K a) H1)
def Vb(K:Frag)(tl:TE):TI:=λσ H R=>tl σ H λx H1=>Fo K R x H1
def dP{l:Expr}{tl:TE}(c:PE X l tl):PI X tg l (UO X.K tl):=by
 intro X4 s σ H R I h;refine thn (c X4 s σ H _ I h) λ v s1 ⟨x,H1,I1,r1,q1⟩=>?_
 let⟨a,e,⟨xs,f⟩,q⟩:=q1;subst e;cases r1;let⟨g,m,p,j⟩:=I1.list f;refine aax p.isList ?_;refine{(~~~s1),[~~~s1],_,_,H1,G,I1.kept (t':=s1.toks) λb o e=>Xf _ e,Fd a _,{_,Xp _ G,G,G},λb i=>?_,q};let e:b=( ~~~s1):=⇑i
 subst e;exact I1.qK (Xk _)<|I1.hok.fresh<|Xk _
def EH{l:Expr}{tl:TE}(f:PE X l tl):PI X tg l (Vb X.K tl):=by
 intro X4 s σ H R I h;refine thn (f X4 s σ H _ I h) λ v s1 ⟨x,H1,I1,r1,q1⟩=>?_
 let⟨a,e,⟨xs,g⟩,q⟩:=q1;subst e;cases r1;let⟨c,m,p,j⟩:=I1.tuple g;refine wpAny_pyIter_tuple (show s1.heap.IsTuple a c.toArray from p) ?_;refine{(~~~s1),[~~~s1],_,_,H1,G,I1.kept (t':=s1.toks) λb o e=>Xf _ e,Er a _,{_,Xp _ G,G,G},λb i=>?_,q};let e:b=( ~~~s1):=⇑i
 subst e;exact I1.qK (Xk _)<|I1.hok.fresh<|Xk _
def Bj{X4:ee (fy×Obj)}{σ:St}{H:Hp}{s:nA}{R:It->Hp->Z3}{E:mu->nA->Z3}{lo hi:Z4}{t u v:Tok}{a:Z5}(I:Inv X X4 σ H s)(h1:-(2 ^ 62)≤lo)(h2:lo<2 ^ 62)(h3:-(2 ^ 62)≤hi)(h4:hi<2 ^ 62)(q:R (Itr lo (hi-lo).toNat) H):wpAny (model X.prog X.w) X.A (pyIter (.ref (~~~s))) (PIE X X4 σ tg R) E {s with heap:=s.heap.push {.type "range",Z0,.fields #[.int lo t,.int hi u,.int 1 v],#[]},toks:=a}:=by
 refine wpAny_pyIter_range (IsRange.new ..) (small_one h1 h2 h3 h4) ?_;let c:Inv X X4 σ H {s with heap:=s.heap.push {.type "range",Z0,.fields #[.int lo t,.int hi u,.int 1 v],#[]},toks:=a}:=I.kept λb o e=>Xf _ e
 refine⟨(s.heap.push {.type "range",Z0,.fields #[.int lo t,.int hi u,.int 1 v],#[]}).objs.size,[(s.heap.push {.type "range",Z0,.fields #[.int lo t,.int hi u,.int 1 v],#[]}).objs.size],_,_,H,G,
  c.kept (t':=a) λb o e=>Xf _ e,Et _ lo (hi-lo).toNat,?_,λb h=>?_,q⟩
 .let f:lo +((0:Z5):Z4)*1=lo:=by simp
  let g:(((hi-lo).toNat:Z5):Z4) -((0:Z5):Z4)=Builtin.Range.rangeSize lo hi 1:=by rw[rangeSize_one];split <;> omega
  show IsRangeIter _ _ (lo +((0:Z5):Z4)*1) ((((hi-lo).toNat:Z5):Z4) -((0:Z5):Z4)) 1;rw[f,g];exact Xp _ G
 .let e:b =(s.heap.push {.type "range",Z0,.fields #[.int lo t,.int hi u,.int 1 v],#[]}).objs.size:=⇑h
  subst e;exact c.qK (Xk _)<|c.hok.fresh<|Xk _
inductive Dr(R:It->Hp->Z3)(vs:ee V)(H1:Hp):Z3
 |m (j:Z4)(_:vs=[.int j])(_:-(2 ^ 62)≤j)(_:j<2 ^ 62)(_:R (Itr 0 j.toNat) H1)
def Uu(ta:TA):TI:=λσ H R=>ta σ H λvs H1=>Dr R vs H1
inductive Dw(R:It->Hp->Z3)(vs:ee V)(H1:Hp):Z3
 |m (i j:Z4)(_:vs=[.int i,.int j])(_:-(2 ^ 62)≤i/\i<2 ^ 62/\-(2 ^ 62)≤j/\j<2 ^ 62)(_:R (Itr i (j-i).toNat) H1)
def UC(ta:TA):TI:=λσ H R=>ta σ H λvs H1=>Dw R vs H1
def sq{a:Expr}{ta:TA}{p pos:Pos}(c:Gl X "range")(g:X.mg "range" = Z0)(b:PA X [a] ta)(hs:starEach [a] X.env=[(Z2,eval a X.env)]:=by rfl):PI X tg (.Call (.Name "range" p) [a] [] pos) (Uu ta):=by
 intro X4 s σ H R I h;refine Call_<|gK I c g boot_range<|Yl (thn (b pos X4 s σ H _ I h) λ us s1 ⟨vs,H1,I1,r1,q1⟩=>?_) hs G;let⟨j,e,q1,i,q⟩:=q1;subst e;cases r1 with
 |cons r f=>cases f;let⟨t,rfl⟩:=r;exact call_range_1<|Bj I1 o6 o6 q1 i (⇑q)
def zw{a b:Expr}{ta:TA}{p pos:Pos}(l:Gl X "range")(m:X.mg "range" = Z0)(g:PA X [a,b] ta)(hs:starEach [a,b] X.env=[(Z2,eval a X.env),(Z2,eval b X.env)]:=by rfl)(c:starEach [b] X.env=[(Z2,eval b X.env)]:=by rfl) :
  PI X tg (.Call (.Name "range" p) [a,b] [] pos) (UC ta):=by
 intro X4 s σ H R I h;refine Call_<|gK I l m boot_range<|Yl (thn (g pos X4 s σ H _ I h) λ us s1 ⟨vs,H1,I1,r1,q1⟩=>?_) (by rw[hs,c]) (by rw[c];rfl);let⟨i,j,e,⟨q1,u,n,o⟩,q⟩:=q1;subst e;cases r1 with
 |cons r f=>
  cases f with
  |cons v f=>cases f;let⟨t,rfl⟩:=r;let⟨t',rfl⟩:=v;exact call_range_2<|Bj I1 q1 u n o q
def Wm(wi:TI)(g:TG)(tb:TS):TS:=λD σ H=>wi σ H λJ H1=>∃W:Z5->Z5->St->Hp->Z3,(∃m,W 0 m σ H1)/\∀i m σ H,W i m σ H →
 (J.stop i H/\D.nx σ H)∨(J.go i H/\∃N:St->Hp->Z3,(∀a H',N a H'->∃c,c<m/\W (i+1) c a H')/\∀x H',J.yld i H x H'->g x σ H' λb H2=>tb {D with nx:=N,ct:=N,bk:=D.nx} b H2)
def sU(fp:ee fy)(h:Heap):ee (fy×Obj):=fp.filterMap λb=>(h.get? b).map λo=>(b,o)
def mQ{fp:ee fy}{h:Heap}{b:fy}{o:Obj}(a:b∈fp)(e:h.get? b=some o):(b,o)∈sU fp h:=abD.mpr {b,a,by rw[e];rfl}
def FY{fp:ee fy}{h:Heap}{p:fy×Obj}(a:p∈sU fp h):p.1∈fp/\h.get? p.1=some p.2:=by
 let⟨b,f,e⟩:=abD.mp a;cases q:h.get? b with
 |none=>rw[q] at e;cases e
 |some o=>rw[q] at e;let c:(b,o)=p:=XQ e;subst c;exact⟨f,q⟩
def Inv.pinned{X4:ee (fy×Obj)}{σ:St}{H:Hp}{s:nA}{fp:ee fy}(I:Inv X X4 σ H s)(f:∀ b∈fp,eF X X4 H b)(h:∀ b∈fp,∃o,s.heap.get? b=some o/\∀v,o.data≠.cell v):Inv X (X4++sU fp s.heap) σ H s:=
 I.Dc λp g=>(Xv.mp g).elim (λz=>I.pin p<|XD _ z) λz=>by let⟨c,e⟩:=FY z;let⟨f0,f1,f2,_⟩:=f p.1 c;let⟨o,a,d⟩:=h p.1 c;rw[e] at a;cases a;exact⟨e,f0,f1,f2,d⟩
def Inv.qo{X4 pl:ee (fy×Obj)}{σ:St}{H:Hp}{s:nA}(I:Inv X (X4++pl) σ H s):Inv X X4 σ H s:=I.Dc λp a=>I.pin p<|XD _<|Xu _ a
def eE{iter:Expr}{y:ee Stmt}{wi:TI}{g:TG}{tb:TS}{pos:Pos}(B:PassesOwn (model X.prog X.w) X.A X.env X.xe)(hc:X.calm=Z1)(hi:PI X tg iter wi)(hg:PG X tg g)(l:PSs X y tb)(hs:∀x,foldedSetIterable iter X.env x=pure x:=by intro _;rfl):PS X (.For tg iter y [] pos) (Wm wi g tb):=by
 intro X4 s σ H D I h;refine wpAny_For (thn (hi X4 s σ H _ I h) λv s1 h1=>thn h1 λa2 s2 h2=>?_) hs;let⟨it,fp,tn,J,H2,e,I2,T,a1,f2,W,⟨m0,w0⟩,F⟩:=h2;subst e;let j:∀{H':Hp},(∀ b∈fp,H' b=Z0)->∀ b∈fp,eF X X4 H' b:=λhn b l=>{hn b l,(f2 b l).2}
 refine codeAny_forLoop_any (λn s'=>∃i t H',Inv X X4 t H' s'/\tn i s'.heap/\(∀ b∈fp,H' b=Z0)/\W i n t H') ?_ m0 {(0),σ,H2,I2,a1,λb l=>(f2 b l).1,w0};rintro n s3 ⟨i,c,U,I3,L,O,w3⟩;rcases F i n c U w3 with⟨C,qn⟩|⟨go,N,hN,step⟩
 .refine YW B (thn (T.done X G G G hc i X4 s3 c U X.xe I3 (j O) L C) λ r s4 ⟨hr,I4⟩=>?_);subst hr;exact ZD ⟨c,U,I4,qn⟩
 .refine YW B (thn (T.item X G G G hc i X4 s3 c U X.xe I3 (j O) L go) λ r s4 ⟨u,hr,h4⟩=>?_);subst hr;refine YW B (thn h4 λ _ s5 ⟨x,H5,I5,r5,y5,st5,fr5⟩=>?_);let a0:=I5.pinned (j fr5)<|T.obj _ _ st5;refine YW B (thn (hg _ s5 c H5 x u _ a0 r5<|step x H5 y5) λ _ s6 ⟨Y,H6,I6,q6⟩=>?_);refine YW B (thn (l _ s6 Y H6 _ I6 q6) λf s7 z=>?_);let again:∀{a:St}{q:Hp},Inv X (X4++sU fp s5.heap) a q s7->N a q->∃m,m<n/\∃i t H',Inv X X4 t H' s7/\tn i s7.heap/\(∀ b∈fp,H' b=Z0)/\W i m t H':=λ{a q}p S=>by let⟨m',hm,w7⟩:=hN a q S;refine{m',hm,i+1,a,q,p.qo,T.keep _ _ _ st5 λb l o e=>(p.pin (b,o)<|XD _<|XD _<|mQ l e).1,λb l=>?_,w7};let⟨o,e,d⟩:=T.obj _ _ st5 b l;exact(p.pin (b,o)<|XD _<|XD _<|mQ l e).2.1
  cases f with
  |next=>let⟨a,q,p,S⟩:=z;exact again p S
  |cont=>let⟨a,q,p,S⟩:=z;exact again p S
  |brk=>let⟨a,q,p,z⟩:=z;exact⟨a,q,p.qo,z⟩
  |ret v=>let⟨x7,a,q,p,r7,z⟩:=z;exact⟨x7,a,q,p.qo,r7,z⟩
end
def eG{K:Frag}{a:fy}{xs:ee V}{g:TG}{tb:TS}{D:Ends}{σ:St}{H:Hp}(b:Z5->St->Hp->Z3)(h0:b 0 σ H)(n:∀i σ H,i≤xs.length->b i σ H->X0 K H a xs)(hs:∀i x σ H,xs[i]?=some x->b i σ H->g x σ H λf H2=>tb {D with nx:=b (i+1),ct:=b (i+1),bk:=D.nx} f H2)(o:∀σ H,b xs.length σ H->D.nx σ H) :
  ∃W:Z5->Z5->St->Hp->Z3,(∃m,W 0 m σ H)/\∀i m σ H,W i m σ H →
   ((Itl K a).stop i H/\D.nx σ H)∨((Itl K a).go i H/\∃N:St->Hp->Z3,(∀c H',N c H'->∃j,j<m/\W (i+1) j c H')/\∀x H',(Itl K a).yld i H x H'->g x σ H' λf H2=>tb {D with nx:=N,ct:=N,bk:=D.nx} f H2):=by
 exists λi m σ H=>m=xs.length-i/\i≤xs.length/\b i σ H,{xs.length,o8,Xw _,h0};rintro i m σ H ⟨rfl,hi,p⟩;let q:=n i σ H hi p;by_cases h:i<xs.length
 .refine .inr {{xs,xs[i],q,by simp[h]},b (i+1),λc H' l=>{xs.length -(i+1),o6,G,h,l},λx H' y=>?_};let⟨e,y⟩:=y;subst e;exact hs i x σ _ (y xs q) p
 .let e:i=xs.length:=by omega
  subst e;exact .inl {{xs,q,Xk _},o σ H p}
def II{K:Frag}{a:fy}{xs:ee V}{g:TG}{tb:TS}{D:Ends}{σ:St}{H:Hp}(b:Z5->St->Hp->Z3)(h0:b 0 σ H)(n:∀i σ H,i≤xs.length->b i σ H->X3 K H a xs)(hs:∀i x σ H,xs[i]?=some x->b i σ H->g x σ H λf H2=>tb {D with nx:=b (i+1),ct:=b (i+1),bk:=D.nx} f H2)(o:∀σ H,b xs.length σ H->D.nx σ H) :
  ∃W:Z5->Z5->St->Hp->Z3,(∃m,W 0 m σ H)/\∀i m σ H,W i m σ H →
   ((Itt K a).stop i H/\D.nx σ H)∨((Itt K a).go i H/\∃N:St->Hp->Z3,(∀c H',N c H'->∃j,j<m/\W (i+1) j c H')/\∀x H',(Itt K a).yld i H x H'->g x σ H' λf H2=>tb {D with nx:=N,ct:=N,bk:=D.nx} f H2):=by
 exists λi m σ H=>m=xs.length-i/\i≤xs.length/\b i σ H,{xs.length,o8,Xw _,h0};rintro i m σ H ⟨rfl,hi,p⟩;let q:=n i σ H hi p;by_cases h:i<xs.length
 .refine .inr {{xs,xs[i],q,by simp[h]},b (i+1),λc H' l=>{xs.length -(i+1),o6,G,h,l},λx H' y=>?_};let⟨e,y⟩:=y;subst e;exact hs i x σ _ (y xs q) p
 .let e:i=xs.length:=by omega
  subst e;exact .inl {{xs,q,Xk _},o σ H p}
def oN{lo:Z4}{n:Z5}{g:TG}{tb:TS}{D:Ends}{σ:St}{H:Hp}(c:Z5->St->Hp->Z3)(h0:c 0 σ H)(hs:∀i σ H,i<n->c i σ H->g (.int (lo+i)) σ H λb H2=>tb {D with nx:=c (i+1),ct:=c (i+1),bk:=D.nx} b H2)(l:∀σ H,c n σ H->D.nx σ H) :
  ∃W:Z5->Z5->St->Hp->Z3,(∃m,W 0 m σ H)/\∀i m σ H,W i m σ H →
   ((Itr lo n).stop i H/\D.nx σ H)∨((Itr lo n).go i H/\∃N:St->Hp->Z3,(∀a H',N a H'->∃h,h<m/\W (i+1) h a H')/\∀x H',(Itr lo n).yld i H x H'->g x σ H' λb H2=>tb {D with nx:=N,ct:=N,bk:=D.nx} b H2):=by
 exists λi m σ H=>m=n-i/\i≤n/\c i σ H,{n,o8,Xw _,h0};rintro i m σ H ⟨rfl,hi,p⟩;by_cases f:i<n
 .refine .inr {f,c (i+1),λa H' j=>{n -(i+1),o6,G,f,j},λx H' y=>?_};let⟨e,y⟩:=y;subst e y;exact hs i σ _ f p
 .let e:i=n:=by omega
  subst e;exact .inl {Xk _,l σ H p}
abbrev R2:=V->V->Hp->VK->Z3
def OpR(X:Cx)(f:mu->mu->Sem mu)(r:R2):Z3:=
 ∀(X4:ee (fy×Obj))(s:nA)(σ:St)(H:Hp)(x y:V)(v u:mu)(Q:VK),Inv X X4 σ H s->RelV x v->RelV y u->r x y H Q →
  wpAny (model X.prog X.w) X.A (f v u) (EP X X4 σ Q) X.xe s
def UnR(X:Cx)(f:mu->Sem mu)(r:V->Hp->VK->Z3):Z3:=
 ∀(X4:ee (fy×Obj))(s:nA)(σ:St)(H:Hp)(x:V)(v:mu)(Q:VK),Inv X X4 σ H s->RelV x v->r x H Q →
  wpAny (model X.prog X.w) X.A (f v) (EP X X4 σ Q) X.xe s
def iM(X:Cx)(f:mu)(r:ee V->Hp->VK->Z3):Z3:=
 ∀(X4:ee (fy×Obj))(s:nA)(σ:St)(H:Hp)(xs:ee V)(us:ee mu)(Q:VK),Inv X X4 σ H s->Vals xs us->r xs H Q →
  wpAny (model X.prog X.w) X.A (call f us) (EP X X4 σ Q) X.xe s
def tOp(r:R2)(ta tb:TE):TE:=λσ H Q=>ta σ H λx H1=>tb σ H1 λy H2=>r x y H2 Q
def tUn(r:V->Hp->VK->Z3)(ta:TE):TE:=λσ H Q=>ta σ H λx H1=>r x H1 Q
inductive rI(C:Z4->Z4->Z3)(g:Z4->Z4->V)(x:V)(y:V)(H:Hp)(Q:VK):Z3
 |m i j(_:x=.int i)(_:y=.int j)(_:C i j)(_:Q (g i j) H)
inductive rI0(g:Z4->Z4->V)(x:V)(y:V)(H:Hp)(Q:VK):Z3
 |m i j(_:x=.int i)(_:y=.int j)(_:Q (g i j) H)
inductive rU(g:Z4->V)(x:V)(H:Hp)(Q:VK):Z3
 |m i(_:x=.int i)(_:Q (g i) H)
section
variable{X:Cx}{a b c:Expr}{ta tb tc:TE}{pos:Pos}
def HC(j:PE X a ta)(l:PE X b tb){X4:ee (fy×Obj)}{s:nA}{σ:St}{H:Hp}{R:V->V->Hp->Z3}(I:Inv X X4 σ H s)(h:ta σ H λx H1=>tb σ H1 λy H2=>R x y H2){Q:mu->nA->Z3}{f:mu->mu->Sem mu}(i:∀v u s2 x y H2,Inv X X4 σ H2 s2->RelV x v->RelV y u->R x y H2->wpAny (model X.prog X.w) X.A (f v u) Q X.xe s2) :
  wpAny (model X.prog X.w) X.A (eval a X.env) (λv c=>wpAny (model X.prog X.w) X.A (eval b X.env) (λu g=>wpAny (model X.prog X.w) X.A (f v u) Q X.xe g) X.xe c) X.xe s:=by
 refine thn (j X4 s σ H _ I h) λ v s1 ⟨x,H1,I1,r1,q1⟩=>?_
 refine thn (l X4 s1 σ H1 _ I1 q1) λ u s2 ⟨y,H2,I2,r2,q2⟩=>?_
 exact i v u s2 x y H2 I2 r1 r2 q2
def aV{c:Operator}{r:R2}(m:OpR X (binaryOp c) r)(f:PE X a ta)(i:PE X b tb):PE X (.BinOp a c b pos) (tOp r ta tb):=by intro X4 s σ H Q I h;exact wpAny_BinOp (HC f i I h λv u s2 x y H2 g j l q=>m X4 s2 σ H2 x y v u Q g j l q)
def jg{b:UnaryOp}{r:V->Hp->VK->Z3}(f:UnR X (unaryOp b) r)(c:PE X a ta):PE X (.UnaryOp b a pos) (tUn r ta):=by intro X4 s σ H Q I h;exact UnaryOp_ (thn (c X4 s σ H _ I h) λ v s1 ⟨x,H1,I1,r1,q1⟩=>f X4 s1 σ H1 x v Q I1 r1 q1)
def opI{f:mu->mu->Sem mu}{C:Z4->Z4->Z3}{g:Z4->Z4->Z4}(rule:∀(i j:Z4)(t u:Tok)(s:nA)(Q:mu->nA->Z3)(E:mu->nA->Z3),C i j->Q (.int (g i j) s.toks) {s with toks:=s.toks+1}->wpAny (model X.prog X.w) X.A (f (.int i t) (.int j u)) Q E s) :
  OpR X f (rI C λi j=>.int (g i j)):=by
 intro X4 s σ H x y v u Q I b a h;let⟨i,j,rfl,rfl,c,q⟩:=h;let⟨t,rfl⟩:=b;let⟨t',rfl⟩:=a;exact rule i j t t' s _ _ c {.int<|g i j,H,I.tok _,{_,G},q}
def Gp{f:mu->mu->Sem mu}{g:Z4->Z4->Z4}(rule:∀(i j:Z4)(t u:Tok)(s:nA)(Q:mu->nA->Z3)(E:mu->nA->Z3),Q (.int (g i j) s.toks) {s with toks:=s.toks+1}->wpAny (model X.prog X.w) X.A (f (.int i t) (.int j u)) Q E s) :
  OpR X f (rI0 λi j=>.int (g i j)):=by
 intro X4 s σ H x y v u Q I b a h;let⟨i,j,rfl,rfl,q⟩:=h;let⟨t,rfl⟩:=b;let⟨t',rfl⟩:=a;exact rule i j t t' s _ _ {.int<|g i j,H,I.tok _,{_,G},q}
def Hi{f:mu->mu->Sem mu}{g:Z4->Z4->Bool}(rule:∀(i j:Z4)(t u:Tok)(s:nA)(Q:mu->nA->Z3)(E:mu->nA->Z3),Q (.bool (g i j)) s->wpAny (model X.prog X.w) X.A (f (.int i t) (.int j u)) Q E s) :
  OpR X f (rI0 λi j=>.bl (g i j)):=by
 intro X4 s σ H x y v u Q I b a h;let⟨i,j,rfl,rfl,q⟩:=h;let⟨t,rfl⟩:=b;let⟨t',rfl⟩:=a;exact rule i j t t' s _ _ {.bl<|g i j,H,I,G,q}
def U5(i j:Z4):Z3:=0≤j/\j≤1000000/\i.natAbs<2 ^ 64
def Gw(i j:Z4):Z3:=(-(2 ^ 64)<i/\i<2 ^ 64)∨(-(2 ^ 64)<j/\j<2 ^ 64)
def Gw.ok{i j:Z4}(h:Gw i j):IntMulOk i j:=by
 rcases h with⟨h1,h2⟩|⟨h1,h2⟩
 .exact .of_left (intBits_le_64 h1 h2)
 .exact .of_right (intBits_le_64 h1 h2)
def cZ:OpR X (binaryOp .Add) (rI0 λi j=>.int (i+j)):=Gp λ_ _ _ _ _ _ _ q=>add_int q
def tX:OpR X (binaryOp .Sub) (rI0 λi j=>.int (i-j)):=Gp λ_ _ _ _ _ _ _ q=>sub_int q
def p8:OpR X (binaryOp .Mult) (rI Gw λi j=>.int (i*j)):=opI λ_ _ _ _ _ _ _ a q=>mul_int q a.ok
def dM:OpR X (binaryOp .Mod) (rI (λ_ j=>0<j) λi j=>.int (i % j)):=opI λi j _ _ _ _ _ a q=>by let h1:↥0<j:=a;exact mod_int' o6 (by grind)
def Mi:OpR X (binaryOp .Pow) (rI U5 λi j=>.int (i ^ j.toNat)):=opI λ_ _ _ _ _ _ _ a q=>pow_int_small a.1 a.2.1 a.2.2 q
def ET:OpR X (binaryOp .BitXor) (rI0 λi j=>.int (Builtin.bitXor i j)):=Gp λ_ _ _ _ _ _ _ q=>xor_int q
def unI{f:mu->Sem mu}{g:Z4->Z4}(rule:∀(i:Z4)(t:Tok)(s:nA)(Q:mu->nA->Z3)(E:mu->nA->Z3),Q (.int (g i) s.toks) {s with toks:=s.toks+1}->wpAny (model X.prog X.w) X.A (f (.int i t)) Q E s) :
  UnR X f (rU λi=>.int (g i)):=by
 intro X4 s σ H x v Q I a h;let⟨i,rfl,q⟩:=h;let⟨t,rfl⟩:=a;exact rule i t s _ _ {.int<|g i,H,I.tok _,{_,G},q}
def gI:UnR X (unaryOp .USub) (rU λi=>.int (-i)):=unI λ_ _ _ _ _ q=>neg_int q
end
def Lw:V->V->Bool
 |.non,.non=>true|.non,.int _=>true|.int _,.non=>true|.non,.bl _=>true|.bl _,.non=>true|.non,.str _=>true|.str _,.non=>Z1
 |.int _,.int _=>true|.bl _,.bl _=>true|.str _,.str _=>true|.byt _,.byt _=>Z1
 |.int _,.str _=>true|.str _,.int _=>true|.bl _,.str _=>true|.str _,.bl _=>Z1
 |_,_=>Z2
def rEq:R2:=λx y H Q=>Lw x y=Z1/\Q (.bl<|decide (x=y)) H
def rNe:R2:=λx y H Q=>Lw x y=Z1/\Q (.bl (!decide (x=y))) H
def Di{i j:Z4}:decide (V.int i=V.int j) =(i==j):=by grind
def FQ{i j:Bool}:decide (V.bl i=V.bl j) =(i==j):=by grind
def Cy{i j:Z6}:decide (V.str i=V.str j) =(i==j):=by grind
def CK{i j:qq UInt8}:decide (V.byt i=V.byt j) =(i.toList==j.toList):=by rw[ZE];cases i;cases j;simp
section
variable{X:Cx}{a b c:Expr}{ta tb tc:TE}{pos:Pos}
def bS{X4:ee (fy×Obj)}{σ:St}{H:Hp}{s:nA}{Q:VK}{k a:Bool}(I:Inv X X4 σ H s)(q:Q (.bl k) H)(e:k=a):EP X X4 σ Q (.bool a) s:=by subst e;exact{.bl k,H,I,G,q}
def fC:OpR X (compareOp .Eq) rEq:=by
 intro X4 s σ H x y v u Q I b a h;let⟨hs,q⟩:=h;cases x with
 |non=>
  cases b;cases y with
  |non=>cases a;exact PySem.EqNone.eq_none_none<|bS I q o8
  |bl j=>cases a;exact PySem.EqNone.eq_none_bool<|bS I q o8
  |int j=>let⟨t',rfl⟩:=a;exact PySem.EqNone.eq_none_int<|bS I q o8
  |str j=>let⟨t',rfl⟩:=a;exact PySem.EqNone.eq_none_str<|bS I q o8
  |_=>exact absurd (show Z2=Z1 from hs) Xs
 |bl i=>
  cases b;cases y with
  |non=>cases a;exact PySem.EqNone.eq_bool_none<|bS I q o8
  |bl j=>cases a;exact eq_bool<|bS I q FQ
  |str j=>let⟨t',rfl⟩:=a;exact PySem.EqMixed.eq_bool_str<|bS I q o8
  |_=>exact absurd (show Z2=Z1 from hs) Xs
 |int i=>
  let⟨t,rfl⟩:=b;cases y with
  |non=>cases a;exact PySem.EqNone.eq_int_none<|bS I q o8
  |int j=>let⟨t',rfl⟩:=a;exact eq_int<|bS I q Di
  |str j=>let⟨t',rfl⟩:=a;exact PySem.EqMixed.eq_int_str<|bS I q o8
  |_=>exact absurd (show Z2=Z1 from hs) Xs
 |str i=>
  let⟨t,rfl⟩:=b;cases y with
  |non=>cases a;exact PySem.EqNone.eq_str_none<|bS I q o8
  |bl j=>cases a;exact PySem.EqMixed.eq_str_bool<|bS I q o8
  |int j=>let⟨t',rfl⟩:=a;exact PySem.EqMixed.eq_str_int<|bS I q o8
  |str j=>let⟨t',rfl⟩:=a;exact eq_str<|bS I q Cy
  |_=>exact absurd (show Z2=Z1 from hs) Xs
 |byt i=>
  let⟨t,rfl⟩:=b;cases y with
  |byt j=>let⟨t',rfl⟩:=a;exact PySem.W.eq_bytes<|bS I q CK
  |_=>exact absurd (show Z2=Z1 from hs) Xs
 |_=>cases y <;> exact absurd (show Z2=Z1 from hs) Xs
def uz:OpR X (compareOp .NotEq) rNe:=by
 intro X4 s σ H x y v u Q I b a h;let⟨hs,q⟩:=h;cases x with
 |non=>
  cases b;cases y with
  |non=>cases a;exact PySem.EqNone.ne_none_none<|bS I q o8
  |bl j=>cases a;exact PySem.EqNone.ne_none_bool<|bS I q o8
  |int j=>let⟨t',rfl⟩:=a;exact PySem.EqNone.ne_none_int<|bS I q o8
  |str j=>let⟨t',rfl⟩:=a;exact PySem.EqNone.ne_none_str<|bS I q o8
  |_=>exact absurd (show Z2=Z1 from hs) Xs
 |bl i=>
  cases b;cases y with
  |non=>cases a;exact PySem.EqNone.ne_bool_none<|bS I q o8
  |bl j=>cases a;exact ne_bool<|bS I q<|congrArg not FQ
  |str j=>let⟨t',rfl⟩:=a;exact PySem.EqMixed.ne_bool_str<|bS I q o8
  |_=>exact absurd (show Z2=Z1 from hs) Xs
 |int i=>
  let⟨t,rfl⟩:=b;cases y with
  |non=>cases a;exact PySem.EqNone.ne_int_none<|bS I q o8
  |int j=>let⟨t',rfl⟩:=a;exact ne_int<|bS I q<|congrArg not Di
  |str j=>let⟨t',rfl⟩:=a;exact PySem.EqMixed.ne_int_str<|bS I q o8
  |_=>exact absurd (show Z2=Z1 from hs) Xs
 |str i=>
  let⟨t,rfl⟩:=b;cases y with
  |non=>cases a;exact PySem.EqNone.ne_str_none<|bS I q o8
  |bl j=>cases a;exact PySem.EqMixed.ne_str_bool<|bS I q o8
  |int j=>let⟨t',rfl⟩:=a;exact PySem.EqMixed.ne_str_int<|bS I q o8
  |str j=>let⟨t',rfl⟩:=a;exact ne_str<|bS I q<|congrArg not Cy
  |_=>exact absurd (show Z2=Z1 from hs) Xs
 |byt i=>
  let⟨t,rfl⟩:=b;cases y with
  |byt j=>let⟨t',rfl⟩:=a;exact PySem.W.ne_bytes<|bS I q<|congrArg not CK
  |_=>exact absurd (show Z2=Z1 from hs) Xs
 |_=>cases y <;> exact absurd (show Z2=Z1 from hs) Xs
def jR:OpR X (compareOp .Lt) (rI0 λi j=>.bl (decide (i<j))):=Hi λ_ _ _ _ _ _ _ q=>lt_int q
def xg:OpR X (compareOp .Gt) (rI0 λi j=>.bl (decide (j<i))):=Hi λ_ _ _ _ _ _ _ q=>gt_int q
def Ah:OpR X (compareOp .GtE) (rI0 λi j=>.bl (decide (j≤i))):=Hi λ_ _ _ _ _ _ _ q=>ge_int q
def Bl:OpR X (compareOp .Is) (λx y H Q=>y=.non/\Q (.bl (decide (x=.non))) H):=by
 intro X4 s σ H x y v u Q I a b h;let⟨rfl,q⟩:=h;cases b;refine is_none_gen<|bS I q ?_;cases x <;> first
  |(cases a;rfl)
  |(let⟨t,rfl⟩:=a;rfl)
def aR(b:Expr){a:CmpOp}(h:a≠.In:=by decide)(h2:a≠.NotIn:=by decide):behindInMarks a b=Z2:=by
 let c:(a==CmpOp.In)=Z2:=by grind
 let f:(a==CmpOp.NotIn)=Z2:=by grind
 cases b <;> simp[behindInMarks,c,f]
def gP{c:CmpOp}{r:R2}(n:OpR X (compareOp c) r)(f:PE X a ta)(i:PE X b tb)(l:behindInMarks c b=Z2):PE X (.Compare a [c] [b] pos) (tOp r ta tb):=by intro X4 s σ H Q I h;exact wpAny_Compare1 (HC f i I h λv u s2 x y H2 g j m q=>n X4 s2 σ H2 x y v u Q g j m q) l
inductive CQ(Q:Bool->Hp->Z3)(x:V)(H':Hp):Z3
 |m k(_:x=.bl k)(_:Q k H')
def UL(t:TE):TT:=λσ H Q=>t σ H λx H'=>CQ Q x H'
def aQ{f:CmpOp}{r:R2}(j:OpR X (compareOp f) r)(g:PE X a ta)(l:PE X b tb)(i:behindInMarks f b=Z2):PT X (.Compare a [f] [b] pos) (UL (tOp r ta tb)):=by
 intro X4 s σ H Q I h;refine wpAny_isTrue_Compare1 (thn (g X4 s σ H _ I h) λ v s1 ⟨x,H1,I1,r1,q1⟩=>thn (l X4 s1 σ H1 _ I1 q1) λ u s2 ⟨y,H2,I2,r2,q2⟩=>thn (j X4 s2 σ H2 x y v u _ I2 r1 r2 q2) λ c s3 ⟨z,H3,I3,r3,k,e,q3⟩=>?_) i
 subst e;cases r3;exact Y0 ⟨H3,I3,q3⟩
def wQ:(Z7:Z5)<2 ^ 63:=by rw[aaq];decide
def vals1{x:V}{us:ee mu}(r:Vals [x] us):∃u,us=[u]/\RelV x u:=by
 cases r with
 |cons b a=>cases a;exact{_,G,b}
def vals2{x y:V}{us:ee mu}(r:Vals [x,y] us):∃u w',us=[u,w']/\RelV x u/\RelV y w':=by
 cases r with
 |cons c a=>
  cases a with
  |cons b f=>cases f;exact{_,_,G,c,b}
inductive uZ(xs:ee V)(H:Hp)(Q:VK):Z3
 |m i j(_:xs=[.int i,.int j])(_:Q (.int (if j>i then j else i)) H)
def za(b:X.calm=Z1):iM X (.builtin "max") uZ:=by
 intro X4 s σ H xs us Q I r h;let⟨i,j,rfl,q⟩:=h;let⟨u,c,rfl,⟨t,rfl⟩,⟨t',rfl⟩⟩:=vals2 r;refine max_two_ints (I.ok.hd b) λh' f k=>{_,H,I.kept k,?_,q}
 by_cases a:j>i
 .rw[Xm a,Xm a];exact{_,G}
 .rw[Xn a,Xn a];exact{_,G}
inductive uV(xs:ee V)(H:Hp)(Q:VK):Z3
 |m i j(_:xs=[.int i,.int j])(_:Q (.int (if j<i then j else i)) H)
def zv(b:X.calm=Z1):iM X (.builtin "min") uV:=by
 intro X4 s σ H xs us Q I r h;let⟨i,j,rfl,q⟩:=h;let⟨u,c,rfl,⟨t,rfl⟩,⟨t',rfl⟩⟩:=vals2 r;refine min_two_ints (I.ok.hd b) λh' f k=>{_,H,I.kept k,?_,q}
 by_cases a:j<i
 .rw[Xm a,Xm a];exact{_,G}
 .rw[Xn a,Xn a];exact{_,G}
end
structure vS(h:Heap)(x dx C:fy)(mA:Z6->nt mu):Z3 where
 obj:h.get? x=some (instObj C dx)
 ns:h.Ns1 dx mA
 ne:dx≠x
def tO{h:Heap}{dx:fy}{mA:Z6->nt mu}(n:h.Ns1 dx mA):∃od,h.get? dx=some od/\∀name,lookIn name od=some (mA name):=by
 let⟨o,es,ep,l,i,f,_,g⟩:=n;refine{o,l,λname=>?_};let e:=g name;unfold nsFind findBy at e;rw[←Array.find?_toList] at e;unfold lookIn;rw[i];dsimp only;split
 .grind
 .rename_i q;rw[q] at e;let a:es.toList.any (·.refKey)=Z2:=by rw[List.any_eq_false];intro y c;let⟨z,t,b⟩:=f y<|Array.mem_toList_iff.mp c;simp[DictEntry.refKey,b]
  let j:¬es.toList.any (·.refKey)=Z1:=by grind
  rw[Xn j];exact congrArg some e
def vS.look{h:Heap}{x dx C:fy}{mA:Z6->nt mu}(I:vS h x dx C mA):∃od,PySem.W.InstAt h x (instObj C dx) C (some od)/\∀name,lookIn name od=some (mA name):=
 let ⟨od,ho,hl⟩:=tO I.ns
 {od,⟨I.obj,G,G,ho⟩,hl}
section
variable{prog:q8}{w:q9}{A:Around}{E:mu->nA->Z3}{s:nA}{K:Frag}{x dx C f:fy}{mA:Z6->nt mu}{name:Z6}{v:mu}
def get_map{a:Bool}{Q:mu->nA->Z3}(X:K.In s.heap)(I:vS s.heap x dx C mA)(f:plainGet K C name=Z1)(i:hasDictIn K C=Z1)(c:findIn K (.ref C) name=some Z0)(j:mA name=some v)(b:handedIn v=Z1)(h:Q v {s with toks:=s.toks+1}) :
  wpAny (model prog w) A (getAttr (.ref x) name a) Q E s:=by
 let⟨od,J,g⟩:=I.look;exact PySem.W.get_value X J (aai f).1 (abu i c G (by rw[g,j])) b h
def GU{pl:Sem Bool}{Q:mu×ee mu->nA->Z3}(X:K.In s.heap)(I:vS s.heap x dx C mA)(a:plainGet K C name=Z1)(b:findIn K (.ref C) name=some (some (.ref f)))(c:isFn K (.ref f)=Z1)(i:mA name=Z0)(h:Q (.ref f,[.ref x]) s) :
  wpAny (model prog w) A (getMethod (.ref x) name pl) Q E s:=by
 let⟨od,J,g⟩:=I.look;exact PySem.W.method_fn X J (aai a).1 (aai a).2 b (Zp.mp c) (by show(lookIn name od).map (·.isSome)=some Z2;rw[g,i];rfl) h
def IT{ns:ee Z6}{Q:Unit->nA->Z3}(X:K.In s.heap)(I:vS s.heap x dx C mA)(hs:findIn K (.ref C) "__setattr__" = some (some (.builtin "object.__setattr__")))(n:plainOver K C=Z1)(m:takerIn K C name=some Z0)(o:hasDictIn K C=Z1)(p:PySem.Within mA ns)(hsz:ns.length≤Z7)(h:∀h',vS h' x dx C (λy=>if y=name then some v else mA y)->Heap.SameBut dx s.heap h'->Q () {s with heap:=h',toks:=s.toks+2}) :
  wpAny (model prog w) A (setAttr (.ref x) name v) Q E s:=by
 let⟨od,J,F⟩:=I.look;refine set_plain X J hs (PySem.W.osa_open (s:={s with toks:=s.toks+1}) (r:=Z0) X J n m λb=>?_);let⟨cd,q,i⟩:=PySem.W.any_some o;let t:s.heap.get? x=some ⟨.ref C,some dx,.plain,#[]⟩:=I.obj;refine Xd<|Xe<|Xd<|Xd<|aam t<|Xd<|Looks.here (s:={s with toks:=s.toks+1}) (Zy X q) ?_;rw[i];refine Xe (a:=some dx)<|Xd<|Xe<|Xd ?_;refine wpAny_nsSet1 (s:={s with toks:=s.toks+1}) I.ns λh' f c=>?_
 let⟨B,z,u,g,l,j⟩:=f.count<|PySem.Within.cons name v p;refine Xd<|aaI g (by rw[l];exact aaJ<|Ye j (by grind)) ?_;exact Xe<|h _ {(c.2 _<|Yo I.ne).trans I.obj,f,I.ne} c
def Ar{R:Result->nA->Z3}{vs:ee mu}{a:ee (Z6×mu)}(X:K.In s.heap)(b:makesIn K C=Z1)(hi:findIn K (.ref C) "__init__" = some (some (.ref f)))(c:typeIn K (.ref f)=some (.type "function"))(h:codeAny (model prog w) (A.under (.builtin "type.__call__" {.ref C::vs,a})) (.call (.ref f) {.ref (~~~s+1)::vs,a}) (PySem.W.InitBack (~~~s+1) R)
   {s with heap:=(s.heap.push emptyDict).push (instObj C (~~~s))}) :
  codeAny (model prog w) A (.call (.ref C) ⟨vs,a⟩) R s:=by
 let⟨i,g,d,t,os⟩:=s;exact PySem.W.make_core (PySem.W.makes_of X b) (YE X hi) (λself=>bind_fn X self c) (.inl G) h
end
def bC(f:Z6)(v:V):ee (Z6×V)->ee (Z6×V)
 |[]=>[(f,v)]
 |(g,x)::r=>if g=f then(g,v)::r else(g,x)::bC f v r
def pK(f g:Z6)(v:V):∀fs:ee (Z6×V),(bC f v fs).lookup g=if g=f then some v else fs.lookup g
 |[]=>by
  show List.lookup g [(f,v)]=_;by_cases h:g=f
  .let a:(g==f)=Z1:=Zp.mpr h;simp only[List.lookup,a,if_pos h]
  .grind
 |(k,x)::r=>by
  let b:=pK f g v r;rw[show bC f v ((k,x)::r) =(if k=f then(k,v)::r else(k,x)::bC f v r) from rfl];by_cases c:k=f
  .grind
  .grind
def lJ(f:Z6)(v:V):∀fs:ee (Z6×V),f∈(bC f v fs).map (·.1)/\∀g,g∈fs.map (·.1)->g∈(bC f v fs).map (·.1)
 |[]=>{by simp[bC],λg h=>by simp at h}
 |(k,x)::r=>by
  let⟨a,c⟩:=lJ f v r;rw[show bC f v ((k,x)::r) =(if k=f then(k,v)::r else(k,x)::bC f v r) from rfl];by_cases b:k=f
  .grind
  .grind
def fV(f:Z6)(v:V):∀fs:ee (Z6×V),(bC f v fs).length≤fs.length+1
 |[]=>by simp[bC]
 |(k,x)::r=>by
  let a:=fV f v r;rw[show bC f v ((k,x)::r) =(if k=f then(k,v)::r else(k,x)::bC f v r) from rfl];by_cases b:k=f
  .grind
  .grind
def fW.some_of{v:V}{o:nt mu}(r:fW (some v) o):∃u,o=some u/\RelV v u:=by
 cases o with
 |none=>exact(show False from r).elim
 |some u=>exact⟨u,G,r⟩
def fW.none_of{o:nt mu}(r:fW Z0 o):o=Z0:=by
 cases o with
 |none=>rfl
 |some u=>exact(show False from r).elim
def yV{v:V}{u:mu}(r:RelV v u):handedIn u=Z1:=by
 cases v with
 |non=>cases (show u=Value.none from r);rfl
 |bl b=>cases (show u=Value.bool b from r);rfl
 |int i=>let⟨t,e⟩:=(show ∃t,u=Value.int i t from r);cases e;rfl
 |str x=>let⟨t,e⟩:=(show ∃t,u=Value.str x t from r);cases e;rfl
 |byt b=>let⟨t,e⟩:=(show ∃t,u=Value.bytes b t from r);cases e;rfl
 |flt b=>let⟨t,e⟩:=(show ∃t,u=Value.float b t from r);cases e;rfl
 |ref a=>cases (show u=Value.ref a from r);rfl
 |ty n=>cases (show u=Value.type n from r);rfl
section
variable{P:q8}{w:q9}{H H':Hp}{h h':Heap}{a C dx:fy}{fs fs':ee (Z6×V)}
def uv(b:HOk P w H h)(e:H a=some (.ins C dx fs)):∃mA,vS h a dx C mA/\(∀f,fW (fs.lookup f) (mA f))/\PySem.Within mA (fs.map (·.1))/\fs.length≤1000/\H dx=some (.own a):=by let⟨d,z,c,g,mA,n,r,q⟩:=(show bF P w H h a (.ins C dx fs) from b a _ e);exact{mA,⟨g,n,c⟩,r,q,z,d}
end
structure Cls(K:Frag)(C:fy):Z3 where
 pg:plainGet K C Str.empty=Z1
 hd:hasDictIn K C=Z1
 po:plainOver K C=Z1
 sa:findIn K (.ref C) "__setattr__" = some (some (.builtin "object.__setattr__"))
def Cls.get{K:Frag}{C:fy}(c:Cls K C)(f:Z6):plainGet K C f=Z1:=c.pg
def aF(K:Frag)(C:fy)(f:Z6):Z3:=findIn K (.ref C) f=some Z0
def aF.T5{K:Frag}{C:fy}{f:Z6}(n:aF K C f):takerIn K C f=some Z0:=by unfold takerIn;rw[show findIn K (.ref C) f=some Z0 from n];rfl
structure Meth(K:Frag)(C:fy)(m:Z6)(f:fy):Z3 where
 at_:findIn K (.ref C) m=some (some (.ref f))
 fn:isFn K (.ref f)=Z1
 kp:keepIn K (.ref f)=Z1
section
variable{X:Cx}{X4:ee (fy×Obj)}{σ:St}{H:Hp}{s:nA}{a C dx:fy}{fs:ee (Z6×V)}{f:Z6}{v:V}{A:Around}{E:mu->nA->Z3}
def DZ{b:Bool}{Q:mu->nA->Z3}(I:Inv X X4 σ H s)(e:H a=some (.ins C dx fs))(c:Cls X.K C)(n:aF X.K C f)(l:fs.lookup f=some v)(h:∀u s',Inv X X4 σ H s'->RelV v u->Q u s'):wpAny (model X.prog X.w) A (getAttr (.ref a) f b) Q E s:=by let⟨mA,O,r,_,_,_⟩:=uv I.hok e;let⟨u,i,g⟩:=fW.some_of (v:=v) (o:=mA f) (by rw[←l];exact r f);exact get_map I.kIn O (c.get f) c.hd n i (yV g)<|h u _ (I.tok _) g
def xr{m:Z6}{g:fy}{pl:Sem Bool}{Q:mu×ee mu->nA->Z3}(I:Inv X X4 σ H s)(e:H a=some (.ins C dx fs))(c:Cls X.K C)(k:Meth X.K C m g)(l:fs.lookup m=Z0)(h:Q (.ref g,[.ref a]) s):wpAny (model X.prog X.w) A (getMethod (.ref a) m pl) Q E s:=by let⟨mA,O,r,_,_,_⟩:=uv I.hok e;let b:mA m=Z0:=fW.none_of (by rw[←l];exact r m);exact GU I.kIn O (c.get m) k.at_ k.fn b h
def DR{y:V}{u:mu}{Q:Unit->nA->Z3}(I:Inv X X4 σ H s)(e:H a=some (.ins C dx fs))(c:Cls X.K C)(n:aF X.K C f)(F:fs.length<1000)(B:RelV y u)(h:∀s',Inv X X4 σ (Z9 H a (.ins C dx (bC f y fs))) s'->Q () s'):wpAny (model X.prog X.w) A (setAttr (.ref a) f u) Q E s:=by
 let⟨mA,O,r,wi,_,j⟩:=uv I.hok e;let m:(fs.map (·.1)).length≤Z7:=by rw[Xj,aaq];omega
 refine IT I.kIn O c.sa c.po n.T5 c.hd wi m λh' i t=>h _ ?_
 let v:∃o,h'.get? dx=some o:=let ⟨o,_,_,e',_⟩:=i.ns;⟨o,e'⟩;refine I.write (x:=a) (e:=dx) (by rw[e];exact True.intro) (.inr j) (λb q p z=>(t.2 b p).trans z) v ?_;refine{by rwa[ah O.ne],?_,O.ne,i.obj,_,i.ns,λg=>?_,λg l=>?_}
 .let:=fV f y fs;omega
 .show fW ((bC f y fs).lookup g) (if g=f then some u else mA g);rw[pK];by_cases q:g=f
  .rw[Xm q,Xm q];exact B
  .grind
 .by_cases q:g=f
  .rw[q];exact(lJ f y fs).1
  .refine(lJ f y fs).2 g (wi g λz=>l ?_);show(if g=f then some u else mA g)=Z0;rwa[Xn q]
def Inv.made(I:Inv X X4 σ H s):Inv X X4 σ (Z9 (Z9 H (~~~s) (.own (~~~s+1))) (~~~s+1) (.ins C (~~~s) []))
  {s with heap:=(s.heap.push emptyDict).push (instObj C (~~~s))}:=by
 let c:(s.heap.push emptyDict).get? (~~~s)=some emptyDict:=Xp s.heap rfl;let i:((s.heap.push emptyDict).push (instObj C (~~~s))).get? (~~~s+1)=some (instObj C (~~~s)):=by let:=Xp (s.heap.push emptyDict) (o:=instObj C (~~~s)) rfl;rwa[Yz] at this
 let h:(s.heap.push emptyDict).Ns (~~~s) (λ_=>Z0):={emptyDict,#[],_,c,G,(λe he=>absurd he o8),λ_=>rfl};let j:=I.laid (a:= ~~~s) (o:=.own (~~~s+1)) (h':=s.heap.push emptyDict) (t':=s.toks) (λb u q=>Xf _ q) (Xk _) {_,c};refine j.laid (a:= ~~~s+1) (o:=.ins C (~~~s) []) (t':=s.toks) (λb u q=>Xf _ q) (Nat.le_of_eq<|Yz _ _) ?_;let f:( ~~~s)≠(~~~s)+1:=Xy<|ZW _;refine{by rw[ah f,af],Xw _,f,i,λ_=>Z0,(Heap.Ns1.of_empty h).at λo q=>Xf _ q,λ_=>True.intro,λy g=>absurd G g}
def Dj{prog:q8}{w:q9}{env:Env}{e:Expr}{f:Z6}{pos:Pos}{s:nA}{Q:mu->nA->Z3}(b:attributeBase e f env (eval e env)=eval e env)(h:wpAny (model prog w) A (eval e env) (λo a=>wpAny (model prog w) A (getAttr o f Z1) Q E a) E s):wpAny (model prog w) A (eval (.Attribute e f pos) env) Q E s:=
 Attribute_any_ h (by rw[arm_eval_Attribute,b])
end
inductive Fj(K:Frag)(f:Z6)(Q:VK)(x:V)(H1:Hp):Z3
 |m a C dx fs v(_:x=.ref a)(_:H1 a=some (.ins C dx fs))(_:Cls K C)(_:aF K C f)(_:fs.lookup f=some v)(_:Q v H1)
def RC(K:Frag)(ta:TE)(f:Z6):TE:=λσ H Q=>ta σ H λx H1=>Fj K f Q x H1
inductive FJ(K:Frag)(f:Z6)(D:Ends)(σ:St)(y:V)(x:V)(H2:Hp):Z3
 |m a C dx fs(_:x=.ref a)(_:H2 a=some (.ins C dx fs))(_:Cls K C)(_:aF K C f)(_:fs.length<1000)(_:D.nx σ (Z9 H2 a (.ins C dx (bC f y fs))))
def Su(K:Frag)(ta tv:TE)(f:Z6):TS:=λD σ H=>tv σ H λy H1=>ta σ H1 λx H2=>FJ K f D σ y x H2
section
variable{X:Cx}{o e value:Expr}{f:Z6}{pos pos' tpos:Pos}{ta tv:TE}
def aT(he:PE X e ta)(g:attributeBase e f X.env (eval e X.env)=eval e X.env):PE X (.Attribute e f pos) (RC X.K ta f):=by intro X4 s σ H Q I h;refine Dj g (thn (he X4 s σ H _ I h) λ u s1 ⟨x,H1,I1,rx,a,C,dx,fs,v,ex,ea,c,n,l,q⟩=>?_);subst ex;obtain rfl:u=Value.ref a:=rx;exact DZ I1 ea c n l λu' s2 i b=>⟨v,H1,i,b,q⟩
def cM(g:PE X o ta)(j:PE X value tv)(hs:swapsWith value (some (.Attribute o f pos')) pos.line X.env=pure Z2):PS X (.Assign [.Attribute o f pos'] value pos) (Su X.K ta tv f):=by intro X4 s σ H D I h;refine Y9 (thn (j X4 s σ H _ I h) λ u s1 ⟨y,H1,I1,ry,q⟩=>thn (g X4 s1 σ H1 _ I1 q) λ i s2 ⟨x,H2,I2,rx,a,C,dx,fs,ex,ea,c,n,l,q2⟩=>?_) hs;subst ex;obtain rfl:i=Value.ref a:=rx;exact DR I2 ea c n l ry λs3 b=>{σ,_,b,q2}
end
section
variable{X:Cx}{X4:ee (fy×Obj)}{σ:St}{H:Hp}{s:nA}{A:Around}{E:mu->nA->Z3}{Q:mu->nA->Z3}{c:mu}{b:Bool}
inductive kD (K:Frag) (H:Hp):V->mu->Z3 where
 |non:kD K H .non (.type "NoneType")
 |bl (x:Bool):kD K H (.bl x) (.type "bool")
 |int (i:Z4):kD K H (.int i) (.type "int")
 |str (x:Z6):kD K H (.str x) (.type "str")
 |flt (x:UInt64):kD K H (.flt x) (.type "float")
 |lst {a:fy} {xs:ee V} (e:H a=some (.lst xs)):kD K H (.ref a) (.type "list")
 |frz {a:fy} {o:Obj} {xs:ee V} (e:H a=some (.frz o (.lst xs))):kD K H (.ref a) (.type "list")
 |tup {a:fy} {xs:ee V} (e:H a=some (.tup xs)):kD K H (.ref a) (.type "tuple")
 |dK {a:fy} {kvs:ee (Key×V)} (e:H a=some (.dK kvs)):kD K H (.ref a) (.type "dict")
 |dT {a:fy} {kvs:ee (ee Key×V)} (e:H a=some (.dT kvs)):kD K H (.ref a) (.type "dict")
 |ins {a C dx:fy} {fs:ee (Z6×V)} (e:H a=some (.ins C dx fs)) (cl:Cls K C) (ha:findIn K (.ref C) "__class__" = some (some (.builtin "object.__class__")))
   (hn:specialIn K (.builtin "object.__class__") "__get__" = some (some (.builtin "getset_descriptor.__get__"))) (htk:takesIn K (.builtin "object.__class__")=some Z1)
   (hm:mroIn K C (.type "object")=some Z1):kD K H (.ref a) (.ref C)
def FZ{x:V}{u t:mu}(I:Inv X X4 σ H s)(f:RelV x u)(ty:kD X.K H x t)(e:kitOne X.K t c=some b)(h:∀g,Q (.bool b) {s with toks:=g}) :
  wpAny (model X.prog X.w) A (call (.builtin "isinstance") [u,c]) Q E s:=by
 cases ty with
 |non=>cases (show u=Value.none from f);exact Yr PySem.W.kitx_none I.kIn True.intro e (λz=>nomatch z) h
 |bl y=>cases (show u=Value.bool y from f);exact Yr PySem.W.kitx_bool I.kIn True.intro e (λz=>nomatch z) h
 |int i=>let⟨t,q⟩:=(show ∃t,u=Value.int i t from f);cases q;exact Yr PySem.W.kitx_int I.kIn True.intro e (λz=>nomatch z) h
 |str y=>let⟨t,q⟩:=(show ∃t,u=Value.str y t from f);cases q;exact Yr PySem.W.kitx_str I.kIn True.intro e (λz=>nomatch z) h
 |flt y=>let⟨t,q⟩:=(show ∃t,u=Value.float y t from f);cases q;exact Yr PySem.W.kitx_float I.kIn True.intro e (λz=>nomatch z) h
 |@lst a xs ea=>cases (show u=Value.ref a from f);let⟨_,_,n,_,h1⟩:=(show bF X.prog X.w H s.heap a (.lst xs) from I.hok a _ ea);exact Yr kitx_list I.kIn {_,h1,G} e (λz=>nomatch z) h
 |@frz a ob xs ea=>cases (show u=Value.ref a from f);let⟨_,_,_,n,_,h1⟩:=(show bF X.prog X.w H s.heap a (.frz ob<|.lst xs) from I.hok a _ ea);exact Yr kitx_list I.kIn {_,h1,G} e (λz=>nomatch z) h
 |@tup a xs ea=>cases (show u=Value.ref a from f);let⟨_,_,_,p⟩:=(show bF X.prog X.w H s.heap a (.tup xs) from I.hok a _ ea);let⟨o,h1,h2,_⟩:=p;exact Yr PySem.W.kitx_tuple I.kIn ⟨o,h1,h2⟩ e (λz=>nomatch z) h
 |@dK a kvs ea=>cases (show u=Value.ref a from f);let⟨_,_,vs,_,p⟩:=(show bF X.prog X.w H s.heap a (.dK kvs) from I.hok a _ ea);let⟨o,es,ep,h1,h2,_⟩:=p;exact Yr kitx_dict I.kIn ⟨o,h1,h2.1⟩ e (λz=>nomatch z) h
 |@dT a kvs ea=>cases (show u=Value.ref a from f);let⟨_,_,xs,_,o,es,ep,h1,h2,_⟩:=(show bF X.prog X.w H s.heap a (.dT kvs) from I.hok a _ ea);exact Yr kitx_dict I.kIn ⟨o,h1,h2.1⟩ e (λz=>nomatch z) h
 |@ins a C dx fs ea cl ha hn htk hm=>cases (show u=Value.ref a from f);let⟨mA,O,_⟩:=uv I.hok ea;let⟨od,J,_⟩:=O.look;exact Yr (PySem.W.kitx_own (cl.get _) cl.hd ha hn htk hm) I.kIn J e (λz=>nomatch z) h
end
structure cI(k:Z5)(A:Around):Z3 where
 hd:A.handled=Z0
 dp:A.depth+3*k+5<recursionLimit
 un:A.units+16*k+200<cLine
def cI.mono{j k:Z5}{A:Around}(r:cI k A)(h:j≤k):cI j A:={r.hd,by let:=r.dp;omega,by let:=r.un;omega}
def cI.deeper{k:Z5}{A:Around}(r:cI (k+1) A)(env:Env):cI k (A.deeper env):=
 {r.hd,by let:=r.dp;show A.depth+1+3*k+5<_;omega,by let:=r.un;show A.units+3+16*k+200<_;omega}
def Es{A:Around}{C:fy}{us:ee mu}{a:ee (Z6×mu)}:(A.under (.builtin "type.__call__" {.ref C::us,a})).depth=A.depth+1:=by first|rfl|simp[Around.under,Code.weight,Code.isCreation,Code.isGuard,Code.isCaller,Code.frames,Code.isFrame,guardIds]
def DW{A:Around}{C:fy}{us:ee mu}{a:ee (Z6×mu)}:(A.under (.builtin "type.__call__" {.ref C::us,a})).units=A.units+1:=by first|rfl|simp[Around.under,Code.cUnits,Code.frames,Code.isFrame]
def cI.make{k:Z5}{A:Around}(r:cI (k+1) A)(C:fy)(us:ee mu)(a:ee (Z6×mu)):cI k (A.under (.builtin "type.__call__" {.ref C::us,a})):=
 {r.hd,by let:=r.dp;rw[Es];omega,by let:=r.un;rw[DW];omega}
def cI.depth{k:Z5}{A:Around}(r:cI k A):A.depth<recursionLimit:=by let:=r.dp;omega
def cI.units{k:Z5}{A:Around}(r:cI k A):A.units+64<cLine:=by let:=r.un;omega
def By:TA:=λ_ H Q=>Q [] H
def oq(ta:TE)(tr:TA):TA:=λσ H Q=>ta σ H λx H1=>tr σ H1 λxs H2=>Q (x::xs) H2
section
variable{X:Cx}{e:Expr}{es:ee Expr}{te:TE}{t:TA}{pos:Pos}
def aj:PA X [] By:=λ_ _ _ _ H Q I h=>Yt {[],H,I,.nil,h}
def aa(a:PE X e te)(b:PA X es t)(hs:starEach (e::es) X.env =(Z2,eval e X.env)::starEach es X.env:=by rfl):PA X (e::es) (oq te t):=by intro pos X4 s σ H Q I h;rw[hs];show wpAny _ _ (spliced ((Z2,eval e X.env)::backTo pos (starEach es X.env))) _ _ s;refine Ym (thn (a X4 s σ H _ I h) λ u s1 ⟨x,H1,I1,r1,q1⟩=>?_);exact thn (b pos X4 s1 σ H1 _ I1 q1) λ us s2 ⟨xs,H2,I2,r2,q2⟩=>{x::xs,H2,I2,.cons r1 r2,q2}
def KZ(t:TA):TE:=λσ H Q=>t σ H λxs H1=>xs.length≤Z7/\∀p,H1 p=Z0->Q (.ref p) (Z9 H1 p<|.tup xs)
def Wy(t:TA):TE:=λσ H Q=>t σ H λxs H1=>xs.length≤Z7/\∀p,H1 p=Z0->Q (.ref p) (Z9 H1 p<|.lst xs)
def dc{x1}(h:PA X es t):PE X (.Tuple es x1 pos) (KZ t):=by intro X4 s σ H Q I c;refine wpAny_Tuple_spliced (thn (h pos X4 s σ H _ I c) λ us s1 ⟨xs,H1,I1,r,z,q⟩=>{by rwa[←r.length],?_});let a:H1 (~~~s1)=Z0:=I1.hok.fresh<|Xk _;refine{.ref (~~~s1),Z9 H1 (~~~s1)<|.tup xs,I1.laid (t':=s1.toks) (λb u e=>Xf _ e) (Xk _) ?_,G,q _ a};exact{z,us,r,{_,Xp _ G,G,_,G}}
def bQ(h:PA X es t):PE X (.List es pos) (Wy t):=by intro X4 s σ H Q I c;refine wpAny_List_spliced (thn (h pos X4 s σ H _ I c) λ us s1 ⟨xs,H1,I1,r,z,q⟩=>{by rwa[←r.length],?_});let a:H1 (~~~s1)=Z0:=I1.hok.fresh<|Xk _;refine{.ref (~~~s1),Z9 H1 (~~~s1)<|.lst xs,I1.laid (t':=s1.toks) (λb u e=>Xf _ e) (Xk _) ?_,G,q _ a};exact{z,us,(0),r,Xp _ G}
end
abbrev Sp:=ee V->Hp->VK->XK->Z3
abbrev CXT:=ee Env->Hp->nA->XK->mu->nA->Z3
structure wC(P:q8)(w:q9)(K:Frag)(mg:Z6->nt mu)(base:Heap)(A:Around)(outer:ee Env)(s:nA)(H:Hp):Z3 where
 frames:A.frames=some outer
 mod:Mod K mg base
 bs:∀b o,base.get? b=some o->s.heap.get? b=some o/\H b=Z0
 bsz:base.objs.size≤~~~s
 jw:s.heap.FunFrames base outer
 frf:∀ b∈frs outer,H b=Z0
 hok:HOk P w H s.heap
 bare:AllBare s.gens
inductive CE(outer:ee Env)(P:q8)(w:q9)(H:Hp)(s:nA)(Q:VK)(u:mu)(s':nA):Z3
 |m v H'(_:s'.os=s.os)(_:AllBare s'.gens)(_:Un (frs outer) [] H H' s.heap s'.heap)(_:HOk P w H' s'.heap)(_:RelV v u)(_:Q v H')
def CR(CX:CXT)(outer:ee Env)(P:q8)(w:q9)(H:Hp)(s:nA)(Q:VK)(E:XK)(r:Result)(s':nA):Z3:=
 match r with
 |.ok (.ret u)=>CE outer P w H s Q u s'
 |.ok _=>False
 |.error e=>CX outer H s E e s'
structure aI(P:q8)(w:q9)(K:Frag)(mg:Z6->nt mu)(base:Heap)(CX:CXT)(k:Z5)(f:fy)(fd:pW)(ps:ee Z6)(sp:Sp):Z3 where
 len:∀vs H Q E,sp vs H Q E->vs.length=ps.length
 run:∀(A:Around)(outer:ee Env)(s:nA)(H:Hp)(args:Args)(us:ee mu)(vs:ee V)(Q:VK)(E:XK),cI k A->wC P w K mg base A outer s H->BindsTo s fd args (ps.zip us)->Vals vs us->sp vs H Q E →
  codeAny (model P w) A (.call (.ref f) args) (CR CX outer P w H s Q E) s
def wC.make{P:q8}{w:q9}{K:Frag}{mg:Z6->nt mu}{base:Heap}{A:Around}{outer:ee Env}{s:nA}{H:Hp}(e:wC P w K mg base A outer s H)(C:fy)(us:ee mu)(a:ee (Z6×mu)) :
  wC P w K mg base (A.under (.builtin "type.__call__" {.ref C::us,a})) outer s H:={by first|exact e.frames|(simpa[Around.under,Code.envs,Code.isFrame,pushEnvs] using e.frames),e.mod,e.bs,e.bsz,e.jw,e.frf,e.hok,e.bare}
section
variable{X:Cx}{X4:ee (fy×Obj)}{σ:St}{H:Hp}{s s':nA}
def Inv.Eu(I:Inv X X4 σ H s):wC X.prog X.w X.K X.mg X.base X.A X.stack s H:=
 {I.ok.frames,I.ok.mod,I.bs,Ye I.ok.bsz I.sz,I.stack,I.yi,I.hok,I.bare}
def Inv.after{Q:VK}{u:mu}(I:Inv X X4 σ H s)(h:CE X.stack X.prog X.w H s Q u s'):EP X X4 σ Q u s':=by let⟨v,H',os,a,un,c,r,q⟩:=h;let⟨i,g,d,t,f⟩:=s';obtain rfl:f=s.os:=os;exact{v,H',I.call (h':=i) (g':=g) (d':=d) (t':=t) (ch:=[]) un c a λb z=>absurd z o8,r,q}
end
def Binds(K:Frag)(fd:pW)(ps:ee Z6)(ds:ee mu):Z3:=
 ∀(s:nA)(us:ee mu),K.In s.heap->(us++ds).length=ps.length->BindsTo s fd {us,[]} (ps.zip (us++ds))
def Binds.all{K:Frag}{fd:pW}{ps:ee Z6}(h:∀us:ee mu,us.length=ps.length->bindArgs fd {us,[]}=pure (ps.zip us)):Binds K fd ps []:=λs us _ a=>by rw[YM] at a ⊢;exact .of_eq<|h us a
section
variable{X:Cx}{CX:CXT}{k:Z5}{f C:fy}{fd:pW}{ps:ee Z6}{sp:Sp}{dvs:ee V}{ds:ee mu}{E:XK}{x m:Z6}{p pos apos:Pos}{e o:Expr}{es:ee Expr}{ta:TE}{t:TA}
structure Mk(K:Frag)(C f:fy):Z3 where
 makes:makesIn K C=Z1
 init:findIn K (.ref C) "__init__" = some (some (.ref f))
 fn:isFn K (.ref f)=Z1
 kp:keepIn K (.ref C)=Z1
end
structure aE(N P:ee Z6)(sc:Scope):Z3 where
 kind:sc.kind=.function
 co:sc.isCoroutine=Z2
 gen:sc.isGenerator=Z2
 nd:N.Nodup
 pre:N.take P.length=P
 par:∀ x∈P,sc.names.lookup x=some .local∨sc.names.lookup x=some .cell
 SS:∀ y∈sc.names,y.2≠.free
def yP{kindOf:Z6->nt NameKind}{x:Z6}:∀{binds:ee (Z6×mu)}{m:Z6->nt mu},(∀v,(x,v)∉binds)->bindL kindOf binds m x=m x
 |[],_,_=>rfl
 |(n,v)::r,m,h=>by
  unfold bindL;rw[yP λw a=>h w<|XR _ a];split
  .let:x≠n:=by rintro rfl;exact h v Yx
   simp[this]
  .rfl
def zk{kindOf:Z6->nt NameKind}{x:Z6}:∀{binds:ee (Z6×mu)}{m:Z6->nt mu},(∀v,(x,v)∉binds)->bindC kindOf binds m x=m x
 |[],_,_=>rfl
 |(n,v)::r,m,h=>by
  unfold bindC;rw[zk λw a=>h w<|XR _ a];split
  .rfl
  .let:x≠n:=by rintro rfl;exact h v Yx
   simp[this]
def zo{kindOf:Z6->nt NameKind}{x:Z6}{v:mu}:∀{P:ee Z6}{vs:ee mu}{i:Z5}{m:Z6->nt mu},P.Nodup->P[i]?=some x->vs[i]?=some v->kindOf x=some .local →
  bindL kindOf (P.zip vs) m x=some v
 |[],_,_,_,_,h,_,_=>by simp at h
 |_::_,[],_,_,_,_,h,_=>by simp at h
 |p::P,w::vs,0,m,nd,h1,h2,hk=>by simp at h1 h2;subst h1;subst h2;show bindL kindOf ((p,w)::P.zip vs) m p=_;unfold bindL;rw[yP λv a=>(Xq.mp nd).1 (aaX a).1,Xm hk];simp
 |p::P,w::vs,i+1,m,nd,h1,h2,hk=>by show bindL kindOf ((p,w)::P.zip vs) m x=_;unfold bindL;exact zo (i:=i) (Xq.mp nd).2 (⇑h1) (⇑h2) hk
def zu{kindOf:Z6->nt NameKind}{x:Z6}{v:mu}:∀{P:ee Z6}{vs:ee mu}{i:Z5}{m:Z6->nt mu},P.Nodup->P[i]?=some x->vs[i]?=some v->kindOf x≠some .local →
  bindC kindOf (P.zip vs) m x=some v
 |[],_,_,_,_,h,_,_=>by simp at h
 |_::_,[],_,_,_,_,h,_=>by simp at h
 |p::P,w::vs,0,m,nd,h1,h2,hk=>by simp at h1 h2;subst h1;subst h2;show bindC kindOf ((p,w)::P.zip vs) m p=_;unfold bindC;rw[zk λv a=>(Xq.mp nd).1 (aaX a).1,Xn hk];simp
 |p::P,w::vs,i+1,m,nd,h1,h2,hk=>by show bindC kindOf ((p,w)::P.zip vs) m x=_;unfold bindC;exact zu (i:=i) (Xq.mp nd).2 (⇑h1) (⇑h2) hk
def start(N:ee Z6)(vs:ee V):St:=vs.map some++List.replicate (N.length-vs.length) Z0
def aW(CX:CXT)(P:q8)(w:q9)(K:Frag)(mg:Z6->nt mu)(base:Heap)(N:ee Z6)(qual:Z6)(scope:Scope)(f:fy)(cd:mu)(A:Around)(outer:ee Env)(s:nA)(H:Hp)(E:XK):Cx where
 prog:=P
 w:=w
 K:=K
 mg:=mg
 base:=base
 A:=A.deeper (envOfC qual scope (~~~s) f cd)
 N:=N
 s₀:=s
 H₀:=H
 env:=envOfC qual scope (~~~s) f cd
 outer:=outer
 stack:=envOfC qual scope (~~~s) f cd::outer
 ex:=[]
 calm:=Z1
 fn:=λ_=>Z1
 pn:=[]
 xe:=λe s'=>wpAny (model P w) (A.deeper<|envOfC qual scope (~~~s) f cd) (leaving (envOfC qual scope (~~~s) f cd) e) (λ_ a=>CX outer H s E e a) (λb a=>CX outer H s E b a) s'
def AF{a:Scope}{n:Z5}{x:Z6}(h:a.names.lookup x=some .cell):∃c,(cellsFrom n a.names []).lookup x=some c:=by let q:=aa1 a.names n []<|.inl h;exact ZI.mp q
def F2{CX:CXT}{P:q8}{w:q9}{K:Frag}{mg:Z6->nt mu}{base:Heap}{N ps:ee Z6}{qual:Z6}{scope:Scope}{f:fy}{cd:mu}{A:Around}{outer:ee Env}{s s1:nA}{H:Hp}{E:XK}{us:ee mu}{vs:ee V}(S:aE N ps scope)(O:A.handled=Z0)(g:wC P w K mg base A outer s H)(U:vs.length=ps.length)(r:Vals vs us)(x:InCallC s (~~~s) (bindL (envOfC qual scope (~~~s) f cd).kindOf (ps.zip us) λ_=>Z0) (cellsFrom (~~~s+1) scope.names []) (bindC (envOfC qual scope (~~~s) f cd).kindOf (ps.zip us) λ_=>Z0) s1) :
  Inv (aW CX P w K mg base N qual scope f cd A outer s H E) [] (start N vs) H s1:=by
 let C:ps.length≤N.length:=by let:=congrArg List.length S.pre;rw[YC] at this;omega
 let⟨h1,Y,rfl,t⟩:=x.done;let l:∀b:fy,b∉(aW CX P w K mg base N qual scope f cd A outer s H E).ex:=λb z=>absurd (show b∈([]:ee fy) from z) o8
 refine⟨{g.mod,S.kind,G,G,Xk _,λy z c h1 h2=>?_,λy j=>?_,λy c _ h=>?_,λ_=>O,Around.frames_deeper g.frames,.inr ⟨G,G⟩,λb z=>absurd z<|l b,g.bs,g.bsz,λb _ _=>l b,λb z=>absurd z<|l b,g.jw,g.frf},
  G,g.bare,Un.kept t,{_,x.toInCall.ns,λi y v h1 h2 h3=>?_},λy c h=>{_,x.cell y c h},g.hok.fresh<|Xk _,λy c h=>?_,λp m=>absurd (show p∈([]:ee (fy×Obj)) from m) o8,g.hok.kept t,?_⟩
 .exact name_of_addr x.apart (Y7 h1) (Y7 h2)
 .let j:scope.names.lookup y=some .cell∨scope.names.lookup y=some .free:=j;rcases j with j|j
  .exact AF j
  .exact absurd G (S.SS _<|Y7 j)
 .exact Yk (x.above y c<|Y7 h)
 .let hi:i<vs.length:=by
   unfold start at h2;by_cases hi:i<vs.length
   .exact hi
   .grind
  let F:vs[i]?=some v:=by
   unfold start at h2;rw[Yg (⇑hi),Xo] at h2;cases e:vs[i]? with
   |none=>rw[e] at h2;cases h2
   |some a=>rw[e] at h2;cases h2;rfl
  let⟨u,B,L⟩:=r.get F;let m:ps[i]?=some y:=by rwa[←S.pre,List.getElem?_take_of_lt o6]
  let o:ps.Nodup:=by rw[←S.pre];exact S.nd.sublist<|List.take_sublist _ _
  exists u,L;rcases S.par y (Xl m) with k|k
  .exact .inl {k,zo o m B k}
  .let⟨c,e⟩:=AF (n:= ~~~s+1) k;refine .inr {.inl k,c,e,?_};let q:=x.cell y c e;rw[zu o m B (by show scope.names.lookup y≠_;rw[k];decide)] at q;exact q
 .exact g.hok.fresh (Yk<|x.above y c<|Y7 h)
 .unfold start;show _=N.length;rw[YI,Xj,Yu];omega
def HR{CX:CXT}{P:q8}{w:q9}{K:Frag}{mg:Z6->nt mu}{base:Heap}{k:Z5}{f:fy}{name qual:Z6}{c:Arguments}{g:ee Stmt}{scope:Scope}{Y kV m pm a ct oc:mu}{U od:nt fy}{C:qq (nt mu)}{N ps:ee Z6}{sp:Sp}(lk:K.lookup f=some {oc,od,.func (fnOf name qual c g scope Y kV m pm U a ct),C})(B:codeIn K a qual=Z1)(S:aE N ps scope)(len:∀vs H Q E,sp vs H Q E->vs.length=ps.length)(i:∀(A:Around)(outer:ee Env)(s:nA)(H:Hp)(vs:ee V)(Q:VK)(E:XK),cI k (A.deeper (envOfC qual scope (~~~s) f a))->sp vs H Q E →
   ∃t,PSs (aW CX P w K mg base N qual scope f a A outer s H E) g t/\t {nx:=λ_ H'=>Q .non H',rt:=Q} (start N vs) H) :
  aI P w K mg base CX (k+1) f (fnOf name qual c g scope Y kV m pm U a ct) ps sp:=by
 refine{len,λA outer s H args us vs Q E L l hb r p=>?_};let hl:=len _ _ _ _ p;let KX:K.In s.heap:=l.mod.kin.keeps λb o e=>(l.bs b o e).1
 let O:s.heap.NoLimit:=l.mod.nolimit.keeps λb o e=>(l.bs b o e).1
 let j:∀ y∈ps.zip us,scope.names.lookup y.1=some .local∨(scope.names.lookup y.1=some .cell/\((cellsFrom (~~~s+1) scope.names []).lookup y.1).isSome=Z1):=fun ⟨n,v⟩ hy=>by
  rcases S.par n (aaX hy).1 with q|q
  .exact .inl q
  .exact .inr {q,aa1 _ _ _<|.inl q}
 refine codeAny_call_function L.depth (KX _ _ lk) G S.co S.gen G (PySem.W.codeRec_of KX B)<|hb _ _ _ _ ?_;refine wpAny_newFunctionEnv_cells S.kind j λenv he s1 x=>?_
 subst he;refine{O.keeps x.toInCall.keep,codeAny_func ?_};let⟨t,ht,hq⟩:=i A outer s H vs Q E (L.deeper _) p;let I:Inv (aW CX P w K mg base N qual scope f a A outer s H E) [] (start N vs) H s1:=F2 S L.hd l hl r x;refine XY (ht [] s1 (start N vs) H _ I hq) (λfl s' hs=>?_) λe s' hs=>hs
 let z:∀{h:St}{H':Hp}{v:V}{u:mu},Inv (aW CX P w K mg base N qual scope f a A outer s H E) [] h H' s'->RelV v u->Q v H'->CE outer P w H s Q u s':=
  λ{h H' v u}J F q=>⟨v,H',J.os,J.bare,J.base,J.hok,F,q⟩
 cases fl with
 |ret u=>let⟨v,h,H',J,F,q⟩:=hs;exact z J F q
 |next=>let⟨h,H',J,q⟩:=hs;exact z (v:=V.non) (u:=Value.none) J G q
 |brk=>let⟨_,_,_,q⟩:=hs;exact False.elim q
 |cont=>let⟨_,_,_,q⟩:=hs;exact False.elim q
section
variable{X:Cx}{x:Z6}{p pos:Pos}{e:Expr}{es:ee Expr}{t:TA}{id T:String}{r:ee V->Hp->VK->Z3}
def tCB(r:ee V->Hp->VK->Z3)(t:TA):TE:=λσ H Q=>t σ H λvs H1=>r vs H1 Q
def bq(l:iM X (.builtin id) r)(f:Gl X x)(i:X.mg x=Z0)(j:bootBuiltins x=some (.builtin id))(c:PA X (e::es) t)(g:x≠"__name__":=by decide)(b:(x ==("__debug__":Str))=Z2:=by decide)(he:starEach (e::es) X.env =(Z2,eval e X.env)::starEach es X.env:=by rfl)(a:(backTo pos (starEach es X.env)).any (·.1)=Z2:=by rfl):PE X (.Call (.Name x p) (e::es) [] pos) (tCB r t):=by intro X4 s σ H Q I h;refine XU<|gK I f i j ?_ g b;exact aab (thn (c pos X4 s σ H _ I h) λ us s1 ⟨vs,H1,I1,r1,q1⟩=>l X4 s1 σ H1 vs us Q I1 r1 q1) he a
def dI(l:iM X (.type T) r)(f:Gl X x)(i:X.mg x=Z0)(j:bootBuiltins x=some (.type T))(c:PA X (e::es) t)(g:x≠"__name__":=by decide)(b:(x ==("__debug__":Str))=Z2:=by decide)(he:starEach (e::es) X.env =(Z2,eval e X.env)::starEach es X.env:=by rfl)(a:(backTo pos (starEach es X.env)).any (·.1)=Z2:=by rfl):PE X (.Call (.Name x p) (e::es) [] pos) (tCB r t):=by intro X4 s σ H Q I h;refine XU<|gK I f i j ?_ g b;exact Yl (thn (c pos X4 s σ H _ I h) λ us s1 ⟨vs,H1,I1,r1,q1⟩=>l X4 s1 σ H1 vs us Q I1 r1 q1) he a
end
end L2
namespace HT
open PySem PyProof.Rows
section
variable{prog:q8}{w:q9}{A:Around}{E:mu->nA->Z3}{s:nA}
def sIx(n d:Z5):nt Z4->Z5
 |none=>d
 |some v=>if v<0 then(v +↥n).toNat else min v.toNat n
def Gn(n d:Z5):sIx n d Z0=d:=rfl
def ya(n d k:Z5):sIx n d (some ↥k)=min k n:=by show(if ↥k<0 then(↥k +↥n).toNat else min (k:Z4).toNat n)=min k n;rw[Xn o6,Int.toNat_natCast]
end
end HT
namespace L2
open PySem PySem.Spec PyProof.Rows
abbrev TO:=St->Hp->(nt Z4->Hp->Z3)->Z3
def PO(X:Cx)(e:nt Expr)(t:TO):Z3:=
 ∀(X4:ee (fy×Obj))(s:nA)(σ:St)(H:Hp)(Q:nt Z4->Hp->Z3),Inv X X4 σ H s->t σ H Q →
  wpAny (model X.prog X.w) X.A (evalPart e X.env) (λu s'=>∃o H',Inv X X4 σ H' s'/\IsPart u o/\Q o H') X.xe s
def IB:TO:=λ_ H Q=>Q Z0 H
inductive DB(Q:nt Z4->Hp->Z3)(x:V)(H1:Hp):Z3
 |m i(_:x=.int i)(_:Q (some i) H1)
def UM(t:TE):TO:=λσ H Q=>t σ H λx H1=>DB Q x H1
def aaD{ns:ee Z4}:∀{us:ee mu},Vals (ns.map Z8) us->IntsAre us ns:=by
 induction ns with
 |nil=>intro us r;rw[aaK] at r;cases r;exact .nil
 |cons n ns c=>
  intro us r;rw[Yn] at r;cases r with
  |cons b a=>let⟨t,e⟩:=b;subst e;exact .cons n t<|c a
section
variable{X:Cx}{e:Expr}{te:TE}{lo hi:nt Expr}{tl th:TO}{pos p2:Pos}
def IS:PO X Z0 IB:=by intro X4 s σ H Q I h;rw[evalPart_none];exact Xe {Z0,H,I,.none,h}
def yx(h:PE X e te):PO X (some e) (UM te):=by
 intro X4 s σ H Q I a;rw[evalPart_some];refine thn (h X4 s σ H _ I a) λ u s1 ⟨x,H1,I1,r1,q1⟩=>?_
 let⟨i,rfl,q⟩:=q1;let⟨t,rfl⟩:=r1;exact{some i,H1,I1,.int i t,q}
def SlR(X:Cx)(r:V->nt Z4->nt Z4->Hp->VK->Z3):Z3:=
 ∀(X4:ee (fy×Obj))(s:nA)(σ:St)(H:Hp)(x:V)(v a c:mu)(lo hi:nt Z4)(b:fy)(Q:VK),Inv X X4 σ H s->RelV x v->s.heap.IsSliceOf b a c .none->IsPart a lo->IsPart c hi->r x lo hi H Q →
  ∃T id,typeLookup (.type T) "__getitem__" = pure (some<|.builtin id)/\s.TypeIs v T/\wpAny (model X.prog X.w) X.A (getItem v<|.ref b) (EP X X4 σ Q) X.xe s
def tSl(r:V->nt Z4->nt Z4->Hp->VK->Z3)(te:TE)(tl th:TO):TE:=λσ H Q=>te σ H λx H1=>tl σ H1 λl H2=>th σ H2 λu a=>r x l u a Q
def BC{r:V->nt Z4->nt Z4->Hp->VK->Z3}(m:SlR X r)(he:PE X e te)(j:PO X lo tl)(n:PO X hi th):PE X (.Subscript e (.Slice lo hi Z0 p2) pos) (tSl r te tl th):=by
 intro X4 s σ H Q I h;refine Subscript_ (thn (he X4 s σ H _ I h) λ v s1 ⟨x,H1,I1,r1,q1⟩=>?_);refine wpAny_Slice (thn (j X4 s1 σ H1 _ I1 q1) λ a s2 ⟨l,H2,I2,pl,q2⟩=>thn (n X4 s2 σ H2 _ I2 q2) λ c s3 ⟨u,H3,I3,pu,q3⟩=>?_);rw[evalPart_none];refine Xe ?_;let o:Inv X X4 σ H3 {s3 with heap:=s3.heap.push {.type "slice",Z0,.fields #[a,c,.none],#[]}}:=I3.kept (t':=s3.toks) λb p q=>Xf _ q
 let⟨T,id,i,f,g⟩:=m X4 {s3 with heap:=s3.heap.push {.type "slice",Z0,.fields #[a,c,.none],#[]}} σ H3 x v a c l u (~~~s3) Q o r1 (Heap.IsSliceOf.new ..) pl pu q3;show wpAny (model X.prog X.w) X.A (subscriptTail e (.Slice lo hi Z0 p2) v<|.ref (~~~s3)) (EP X X4 σ Q) X.xe {s3 with heap:=s3.heap.push {.type "slice",Z0,.fields #[a,c,.none],#[]}};exact tail_any (ops:=[.ref (~~~s3),v]) f i g (by with_unfolding_all rfl)
def sC(xs:ee V)(lo hi:nt Z4):ee V:=(xs.drop<|HT.sIx xs.length 0 lo).take<|HT.sIx xs.length xs.length hi-HT.sIx xs.length 0 lo
def B3(xs:ee V)(lo hi:nt Z4):(sC xs lo hi).length≤xs.length:=by unfold sC;rw[YC,List.length_drop];omega
end
def ixN(n:Z5)(i:Z4):nt Z5:=if 0≤i then(if i<n then some i.toNat else Z0) else if -↥n≤i then some (i+n).toNat else Z0
def atI{α:Type}(xs:ee α)(i:Z4):nt α:=(ixN xs.length i).bind λj=>xs[j]?
def CZ{n:Z5}{i:Z4}{j:Z5}(h:ixN n i=some j):seqIndex? i n=some j/\j<n/\-↥n≤i/\i<n:=by
 unfold ixN at h;by_cases h0:0≤i
 .rw[Xm h0] at h;by_cases h1:i<n
  .rw[Xm h1] at h;let e:i.toNat=j:=XQ h;exact{by rw[seqIndex_of h0 h1,e],o6,o6,h1}
  .grind
 .rw[Xn h0] at h;by_cases h1:-↥n≤i
  .rw[Xm h1] at h;let e:(i+n).toNat=j:=XQ h;exact{by rw[seqIndex_neg o6 h1,e],o6,h1,o6}
  .grind
def DG{α:Type}{xs:ee α}{i:Z4}{v:α}(h:atI xs i=some v):∃j,seqIndex? i xs.length=some j/\xs[j]?=some v/\j<xs.length/\-↥xs.length≤i/\i<xs.length:=by
 unfold atI at h;cases e:ixN xs.length i with
 |none=>rw[e] at h;cases h
 |some j=>rw[e] at h;let⟨h1,h2,h3,h4⟩:=CZ e;exact⟨j,h1,h,h2,h3,h4⟩
def dh{α:Type}{xs:ee α}{j:Z5}{v:α}(h:xs[j]?=some v):atI xs ↥j=some v:=by
 let a:j<xs.length:=(Xg.mp h).1;let e:ixN xs.length ↥j=some j:=by unfold ixN;rw[Xm o6,Xm o6];simp
 unfold atI;rwa[e]
def Ij(b:Expr):Z3:=∀o i,subscripted b Z2 o i=operate [o,i] (getItem o i)
def IxR(X:Cx)(r:R2):Z3:=
 ∀(value a:Expr)(X4:ee (fy×Obj))(s:nA)(σ:St)(H:Hp)(x y:V)(v u:mu)(Q:VK),Inv X X4 σ H s->RelV x v->RelV y u->r x y H Q →
  subscripted a Z2 v u=operate [v,u] (getItem v u)->wpAny (model X.prog X.w) X.A (subscriptTail value a v u) (EP X X4 σ Q) X.xe s
def MtR(X:Cx)(id:String)(r:V->ee V->Hp->VK->Z3):Z3:=
 ∀(X4:ee (fy×Obj))(s:nA)(σ:St)(H:Hp)(x:V)(xs:ee V)(v:mu)(us:ee mu)(Q:VK),Inv X X4 σ H s->RelV x v->Vals xs us->r x xs H Q →
  wpAny (model X.prog X.w) X.A (call (.builtin id) (v::us)) (EP X X4 σ Q) X.xe s
section
variable{X:Cx}{a b:Expr}{ta tb:TE}{pos:Pos}
def bh{r:R2}(g:IxR X r)(c:PE X a ta)(l:PE X b tb)(hs:Ij b):PE X (.Subscript a b pos) (tOp r ta tb):=by intro X4 s σ H Q I h;exact Subscript_ (HC c l I h λv u s2 x y H2 f i j q=>g a b X4 s2 σ H2 x y v u Q f i j q<|hs _ _)
inductive GY(K:Frag)(x:V)(y:V)(H:Hp)(Q:VK):Z3
 |m p xs i v(_:x=.ref p)(_:y=.int i)(_:X0 K H p xs)(_:atI xs i=some v)(_:Q v H)
inductive Hw(K:Frag)(x:V)(y:V)(H:Hp)(Q:VK):Z3
 |m p xs i v(_:x=.ref p)(_:y=.int i)(_:X3 K H p xs)(_:atI xs i=some v)(_:Q v H)
def bx:IxR X (GY X.K):=by
 intro value c X4 s σ H x y v u Q I m n h hs;let⟨p,xs,i,z,rfl,rfl,l,he,q⟩:=h;cases m;let⟨t,rfl⟩:=n;let⟨b,r,pl,B⟩:=I.list l;let⟨j,h1,h2,h3,h4,h5⟩:=DG he;let⟨w,C,f⟩:=r.get h2;let g:=r.length;let A:=wQ;let a:EP X X4 σ Q w s:=⟨z,H,I,f,q⟩;by_cases h0:0≤i
 .let o:i.toNat=j:=by rw[seqIndex_of h0 h5] at h1;exact XQ h1
  exact item_listR pl.isList h0 o6 (by grind) a hs
 .let o:(i +↥b.toArray.size).toNat=j:=by rw[seqIndex_neg o6 h4] at h1;rw[YQ,←g];exact XQ h1
  exact subscriptTail_builtinR (x:=w) pl.isList.typeIs slot_list_getitem.lookup
   (wpAny_getItem_list_neg (Q:=λr s'=>r=w/\EP X X4 σ Q r s') pl.isList o6 (by grind) o6 (by grind) ⟨G,a⟩) hs
def eW:IxR X (Hw X.K):=by
 intro value b X4 s σ H x y v u Q I g n h hs;let⟨p,xs,i,z,rfl,rfl,f,he,q⟩:=h;cases g;let⟨t,rfl⟩:=n;let⟨m,r,pl,B⟩:=I.tuple f;let⟨j,h1,h2,h3,h4,h5⟩:=DG he;let⟨w,l,c⟩:=r.get h2;let A:=r.length;let o:=wQ;let a:EP X X4 σ Q w s:=⟨z,H,I,c,q⟩;exact subscriptTail_builtinR (x:=w) pl.typeIs slot_tuple_getitem.lookup
  (getItem_tuple (j:=j) (Q:=λr s'=>r=w/\EP X X4 σ Q r s') pl o6 o6 (by grind) (⇑l) ⟨G,a⟩) hs
def DY(a:ee mu)(n j:Z5)(u:mu):Obj.mapSeq (·.setIfInBounds j u) {.type "list",Z0,.seq a.toArray n,#[]}={.type "list",Z0,.seq (a.set j u).toArray n,#[]}:=by simp[Obj.mapSeq]
def Inv.lst{X4:ee (fy×Obj)}{σ:St}{H:Hp}{s:nA}{p:fy}{xs:ee V}(I:Inv X X4 σ H s)(h:H p=some (.lst xs)) :
  ∃(a:ee mu)(n:Z5),Vals xs a/\s.heap.get? p=some {.type "list",Z0,.seq a.toArray n,#[]}/\xs.length≤Z7:=by
 let⟨z,a,n,r,e⟩:=I.hok p _ h;exact⟨a,n,r,e,z⟩
def Inv.NT{X4:ee (fy×Obj)}{σ:St}{H:Hp}{s:nA}{p:fy}{xs ys:ee V}{a its':ee mu}{n c:Z5}{f:Obj->Obj}(I:Inv X X4 σ H s)(h:H p=some (.lst xs))(l:s.heap.get? p=some {.type "list",Z0,.seq a.toArray n,#[]})(g:f {.type "list",Z0,.seq a.toArray n,#[]}={.type "list",Z0,.seq its'.toArray c,#[]})(r:Vals ys its')(i:ys.length≤Z7)(t:Z5) :
  Inv X X4 σ (Z9 H p (.lst ys)) {s with heap:=s.heap.update p f,toks:=t}:=by
 let e:(s.heap.update p f).get? p=some {.type "list",Z0,.seq its'.toArray c,#[]}:=by rw[XW f l (by rw[g] <;> rfl),g]
 refine I.write (x:=p) (e:=p) (by rw[h];trivial) (.inl G) (λb u j q=>(XE _ _<|Yo j).trans q) {_,e} ?_;exact⟨i,its',c,r,e⟩
inductive HM(o:V)(i:V)(v:V)(H:Hp)(Q:Hp->Z3):Z3
 |m p xs k j(_:o=.ref p)(_:i=.int k)(_:H p=some (.lst xs))(_:ixN xs.length k=some j)(_:Q (Z9 H p (.lst (xs.set j v))))
def set_list:Nm X HM:=by
 intro X4 s σ H o i v z F u Q I f x m h;let⟨p,xs,k,j,rfl,rfl,c,y,q⟩:=h;cases f;let⟨t,rfl⟩:=x;let⟨a,n,r,b,B⟩:=I.lst c;let⟨h1,h2,h3,h4⟩:=CZ y;let g:=r.length;let A:=wQ;let C:Inv X X4 σ (Z9 H p (.lst (xs.set j v))) {s with heap:=s.heap.update p (Obj.mapSeq (·.setIfInBounds j u))}:=
  I.NT c b (DY a n j u) (r.set m j) (by grind) s.toks
 by_cases h0:0≤k
 .let l:k.toNat=j:=by rw[seqIndex_of h0 h4] at h1;exact XQ h1
  exact PySem.W.ki_setAt b h0 o6 (by grind) (by grind)
 .let l:(k +↥a.toArray.size).toNat=j:=by rw[seqIndex_neg o6 h3] at h1;rw[YQ,←g];exact XQ h1
  exact PySem.W.ki_setBack b o6 (by grind) o6 (by grind)
def BG(lo hi:nt Z4)(n:Z5):(sliceBounds lo hi Z0 n).1 =((HT.sIx n 0 lo:Z5):Z4)/\(sliceBounds lo hi Z0 n).2.1 =((HT.sIx n n hi:Z5):Z4)/\(sliceBounds lo hi Z0 n).2.2=1:=by
 refine{?_,?_,G}
 .cases lo with
  |none=>simp[sliceBounds,HT.sIx]
  |some i=>
   simp only[sliceBounds,HT.sIx,Option.getD_none,show↥1>0 by decide,if_true];by_cases h:i<0
   .grind
   .grind
 .cases hi with
  |none=>simp[sliceBounds,HT.sIx]
  |some i=>
   simp only[sliceBounds,HT.sIx,Option.getD_none,show↥1>0 by decide,if_true];by_cases h:i<0
   .grind
   .grind
def zG(a:ee mu)(lo hi:nt Z4):slicePick a.toArray lo hi Z0 =((a.drop (HT.sIx a.length 0 lo)).take (HT.sIx a.length a.length hi-HT.sIx a.length 0 lo)).toArray:=by let⟨h1,h2,h3⟩:=BG lo hi a.toArray.size;unfold slicePick;rw[h1,h2,h3];simp only[sliceRange_one,pick_run,List.size_toArray] <;> rfl
inductive P1(K:Frag)(x:V)(lo:nt Z4)(hi:nt Z4)(H:Hp)(Q:VK):Z3
 |m a xs(_:x=.ref a)(_:X0 K H a xs)(_:∀p,H p=Z0->Q (.ref p) (Z9 H p (.lst (sC xs lo hi))))
def Dy:SlR X (P1 X.K):=by intro X4 s σ H x v n t lo hi p Q I j hs pl g h;let⟨a,xs,rfl,m,q⟩:=h;cases j;let⟨l,r,f,i⟩:=I.list m;let c:=r.length;exists "list",_,slot_list_getitem.lookup,f.isList.typeIs;refine wpAny_getItem_list_slice f.isList hs pl g .none o8 ?_ (by grind);rw[zG,←c];refine{.ref (~~~s),_,I.laid (t':=s.toks) (o:=.lst<|sC xs lo hi) (λb u q=>Xf _ q) (Xk _) ?_,G,q _<|I.hok.fresh<|Xk _};exact{Ye (B3 xs lo hi) i,_,(0),(r.drop<|HT.sIx xs.length 0 lo).take<|HT.sIx xs.length xs.length hi-HT.sIx xs.length 0 lo,Xp _ G}
def gV:V->Bool
 |.non=>Z1
 |.bl _=>Z1
 |.int _=>Z1
 |.str _=>Z1
 |_=>Z2
def eqV:V->V->Bool
 |.non,.non=>Z1
 |.bl a,.bl b=>a==b
 |.bl a,.int b=>(if a then 1 else 0)==b
 |.int a,.bl b=>a ==(if b then 1 else 0)
 |.int a,.int b=>a==b
 |.str a,.str b=>a==b
 |_,_=>Z2
def EG{A:Around}{s:nA}{y x:V}{u v:mu}(f:RelV y u)(c:RelV x v)(h:gV y=Z1)(g:gV x=Z1):SeqAt.EqAt A s u v (eqV y x):=by
 cases y with
 |non=>
  cases f;cases x with
  |non=>cases c;exact SeqAt.EqAt.same _
  |bl b=>cases c;exact SeqAt.EqAt.none_bool b
  |int b=>let⟨t,rfl⟩:=c;exact SeqAt.EqAt.none_int b t
  |str b=>let⟨t,rfl⟩:=c;exact SeqAt.EqAt.none_str b t
  |_=>exact absurd (show Z2=Z1 from g) Xs
 |bl a=>
  cases f;cases x with
  |non=>cases c;exact SeqAt.EqAt.bool_none a
  |bl b=>cases c;exact SeqAt.EqAt.bool_bool a b
  |int b=>let⟨t,rfl⟩:=c;exact SeqAt.EqAt.bool_int a b t
  |str b=>let⟨t,rfl⟩:=c;exact SeqAt.EqAt.bool_str a b t
  |_=>exact absurd (show Z2=Z1 from g) Xs
 |int a=>
  let⟨t',rfl⟩:=f;cases x with
  |non=>cases c;exact SeqAt.EqAt.int_none a t'
  |bl b=>cases c;exact SeqAt.EqAt.int_bool a t' b
  |int b=>let⟨t,rfl⟩:=c;exact SeqAt.EqAt.int_int a t' b t
  |str b=>let⟨t,rfl⟩:=c;exact SeqAt.EqAt.int_str a t' b t
  |_=>exact absurd (show Z2=Z1 from g) Xs
 |str a=>
  let⟨t',rfl⟩:=f;cases x with
  |non=>cases c;exact SeqAt.EqAt.str_none a t'
  |bl b=>cases c;exact SeqAt.EqAt.str_bool a t' b
  |int b=>let⟨t,rfl⟩:=c;exact SeqAt.EqAt.str_int a t' b t
  |str b=>let⟨t,rfl⟩:=c;exact SeqAt.EqAt.str_str a t' b t
  |_=>exact absurd (show Z2=Z1 from g) Xs
 |_=>exact absurd (show Z2=Z1 from h) Xs
def eqU(x:V)(u:mu):Bool:=match u with
 |.none=>eqV .non x
 |.bool b=>eqV (.bl b) x
 |.int i _=>eqV (.int i) x
 |.str z _=>eqV (.str z) x
 |_=>Z2
def Gb{x y:V}{u:mu}(r:RelV y u)(f:gV y=Z1):eqU x u=eqV y x:=by
 cases y with
 |non=>cases r;rfl
 |bl b=>cases r;rfl
 |int i=>let⟨t,rfl⟩:=r;rfl
 |str z=>let⟨t,rfl⟩:=r;rfl
 |_=>exact absurd (show Z2=Z1 from f) Xs
def qf{x:V}:∀{xs:ee V}{us:ee mu},Vals xs us->xs.all gV=Z1->us.any (eqU x)=xs.any λy=>eqV y x
 |_,_,.nil,_=>rfl
 |y::xs,u::us,.cons r t,f=>by rw[List.all_cons,aaL] at f;rw[Zc,Zc,Gb r f.1,qf t f.2]
def nR{A:Around}{s:nA}{x:V}{v:mu}(b:RelV x v)(c:gV x=Z1):∀{xs:ee V}{us:ee mu},Vals xs us->xs.all gV=Z1->∀ u∈us,SeqAt.EqAt A s u v (eqU x u)
 |_,_,.nil,_=>λu a=>by cases a
 |y::xs,u::us,.cons r t,f=>λu' a=>by
  rw[List.all_cons,aaL] at f;rcases XG.mp a with rfl|a
  .rw[Gb r f.1];exact EG r b f.1 c
  .exact nR b c t f.2 u' a
def inV(x:V)(xs:ee V):Bool:=xs.any λy=>eqV y x
inductive rIn(K:Frag)(neg:Bool)(x:V)(y:V)(H:Hp)(Q:VK):Z3
 |m p xs(_:y=.ref p)(_:X0 K H p xs∨X3 K H p xs)(_:gV x=Z1)(_:xs.all gV=Z1)(_:Q (.bl (if neg then !inV x xs else inV x xs)) H)
def EN:OpR X (compareOp .In) (rIn X.K Z2):=by
 intro X4 s σ H x y v u Q I g j h;let⟨p,xs,rfl,b,f,fs,q⟩:=h;cases j;rcases b with b|b
 .let⟨a,r,pl,i⟩:=I.list b;refine SeqAt.in_listAt (eqU x) pl.isList (λw c=>nR g f r fs w (⇑c)) {.bl _,H,I,G,?_};rwa[show a.toArray.any (eqU x)=a.any (eqU x) by simp,qf r fs]
 .let⟨a,r,pl,i⟩:=I.tuple b;refine SeqAt.in_tupleAt (eqU x) pl (λw c=>nR g f r fs w (⇑c)) {.bl _,H,I,G,?_};rwa[show a.toArray.any (eqU x)=a.any (eqU x) by simp,qf r fs]
def BO:OpR X (compareOp .NotIn) (rIn X.K Z1):=by
 intro X4 s σ H x y v u Q I g j h;let⟨p,xs,rfl,b,f,fs,q⟩:=h;cases j;rcases b with b|b
 .let⟨a,r,pl,i⟩:=I.list b;refine SeqAt.notIn_listAt (eqU x) pl.isList (λw c=>nR g f r fs w (⇑c)) {.bl _,H,I,G,?_};rwa[show a.toArray.any (eqU x)=a.any (eqU x) by simp,qf r fs]
 .let⟨a,r,pl,i⟩:=I.tuple b;refine SeqAt.notIn_tupleAt (eqU x) pl (λw c=>nR g f r fs w (⇑c)) {.bl _,H,I,G,?_};rwa[show a.toArray.any (eqU x)=a.any (eqU x) by simp,qf r fs]
inductive pV(K:Frag)(xs:ee V)(H:Hp)(Q:VK):Z3
 |m p ys(_:xs=[.ref p])(_:X0 K H p ys∨X3 K H p ys)(_:Q (.int ys.length) H)
def bM:iM X (.builtin "len") (pV X.K):=by
 intro X4 s σ H xs us Q I r h;let⟨p,ys,rfl,b,q⟩:=h;let⟨u,rfl,i⟩:=vals1 r;cases i;let j:=wQ;rcases b with b|b
 .let⟨c,f,pl,g⟩:=I.list b;let a:=f.length;exact Calls.call_len_list pl.isList (by grind) {.int ys.length,H,I.tok _,{s.toks+1,by rw[YQ,a]},q}
 .let⟨c,f,pl,g⟩:=I.tuple b;let a:=f.length;exact len_tuple pl (by grind) {.int ys.length,H,I.tok _,{s.toks+1,by rw[YQ,a]},q}
inductive pP(K:Frag)(xs:ee V)(H:Hp)(Q:VK):Z3
 |m p ys(_:xs=[.ref p])(_:X0 K H p ys∨X3 K H p ys)(_:∀l,H l=Z0->Q (.ref l) (Z9 H l (.lst ys)))
def gm:iM X (.type "list") (pP X.K):=by
 intro X4 s σ H xs us Q I r h;let⟨p,ys,rfl,j,q⟩:=h;let⟨u,rfl,y⟩:=vals1 r;cases y;let l:∀(a:ee mu),Vals ys a->ys.length≤Z7->∀(h':Heap)(c:Z5),(∀b o',s.heap.get? b=some o'->h'.get? b=some o') →
   h'.get? (~~~s)=some {.type "list",Z0,.seq a.toArray c,#[]}->EP X X4 σ Q (.ref (~~~s)) {s with heap:=h'}:=λa f i h' c g e=>
  {.ref (~~~s),_,I.laid (t':=s.toks) g (Xk _) (show bF X.prog X.w _ h' _ (.lst ys) from⟨i,a,c,f,e⟩),G,q _<|I.hok.fresh<|Xk _}
 rcases j with j|j
 .let⟨a,f,pl,i⟩:=I.list j;let m:=f.length;let⟨o,t,x,n,v⟩:=pl.isList;exact call_list_seq p (.inl G) t x v (λh' c g e=>l a f i h' c g e) (by grind)
 .let⟨a,f,pl,i⟩:=I.tuple j;let m:=f.length;let⟨o,t,x,n,v⟩:=pl;exact call_list_seq p (.inr G) t x v (λh' c g e=>l a f i h' c g e) (by grind)
inductive ou(K:Frag)(xs:ee V)(H:Hp)(Q:VK):Z3
 |m p ys(_:xs=[.ref p])(_:(X0 K H p ys/\∀l,H l=Z0->Q (.ref l) (Z9 H l (.tup ys)))∨(X3 K H p ys/\Q (.ref p) H))
def mq:iM X (.type "tuple") (ou X.K):=by
 intro X4 s σ H xs us Q I r h;let⟨p,ys,rfl,h⟩:=h;let⟨u,rfl,n⟩:=vals1 r;cases n;rcases h with⟨c,q⟩|⟨c,q⟩
 .let⟨a,f,pl,g⟩:=I.list c;let j:=f.length;refine call_tuple_list pl.isList (λh' l=>?_) (by grind);let i:Inv X X4 σ H {s with heap:=h'}:=I.kept (t':=s.toks) l;let m:Inv X X4 σ (Z9 H h'.objs.size (.tup ys)) {s with heap:=h'.push {.type "tuple",Z0,.seq a.toArray,#[]}}:=
   i.laid (t':=s.toks) (λb o e=>Xf _ e) (Xk _) (show bF X.prog X.w _ _ _ (.tup ys) from{g,a,f,IsTup.new _ _})
  exact{.ref h'.objs.size,_,m,G,q _<|i.hok.fresh<|Xk _}
 .let⟨a,f,pl,g⟩:=I.tuple c;exact call_tuple_same pl {.ref p,H,I,G,q}
def tyV(K:Frag)(T:String)(x:V)(H:Hp):Z3:=match x with
 |.str _=>T = "str"
 |.int _=>T = "int"
 |.ref p=>(T = "list"/\∃xs,X0 K H p xs)∨(T = "tuple"/\∃o,K.lookup p=some o/\o.cls=.type "tuple"/\o.dict=Z0)∨
   (T = "dict"/\((∃kvs,H p=some (.dK kvs))∨∃kvs,H p=some (.dT kvs)))∨(T = "set"/\∃S n,H p=some (.set S n))
 |_=>False
def Pz{X4:ee (fy×Obj)}{σ:St}{H:Hp}{s:nA}{T:String}{x:V}{v:mu}(I:Inv X X4 σ H s)(r:RelV x v)(ty:tyV X.K T x H) :
  s.TypeIs v T/\∀a,v=.ref a->∃h,s.heap.get? a=some h/\h.dict=Z0:=by
 cases x with
 |str z=>let⟨t,rfl⟩:=r;cases (show T = "str" from ty);exact{typeIs_str s z t,λ_ e=>nomatch e}
 |int i=>let⟨t,rfl⟩:=r;cases (show T = "int" from ty);exact{typeIs_int s i t,λ_ e=>nomatch e}
 |ref p=>
  cases r;rcases ty with⟨rfl,xs,j⟩|⟨rfl,o,b,m,f⟩|⟨rfl,b⟩|⟨rfl,S,n,b⟩
  .let⟨l,_,pl,_⟩:=I.list j;refine{pl.isList.typeIs,λa e=>?_};cases e;let⟨o,n,e,c,f,_⟩:=pl;exact⟨o,e,f⟩
  .refine{{o,I.kIn p o b,m},λa e=>?_};cases e;exact{o,I.kIn _ o b,f}
  .let z:∃o,s.heap.get? p=some o/\o.ExactDict:=by
    rcases b with⟨kvs,b⟩|⟨kvs,b⟩
    .let⟨_,_,_,_,o,_,_,e,ex,_⟩:=I.hok p _ b;exact⟨o,e,ex⟩
    .let⟨_,_,_,_,o,_,_,e,ex,_⟩:=I.hok p _ b;exact⟨o,e,ex⟩
   let⟨o,e,ex⟩:=z;refine{⟨o,e,ex.1⟩,λa g=>?_};cases g;exact⟨o,e,ex.2.1⟩
  .let⟨o,_,_,_,e,ex,_⟩:=I.hok p _ b;refine{⟨o,e,ex.1⟩,λa g=>?_};cases g;exact⟨o,e,ex.2.1⟩
 |_=>exact False.elim ty
def tBM(K:Frag)(T:String)(r:V->ee V->Hp->VK->Z3)(to:TE)(t:TA):TE:=λσ H Q=>to σ H λx H1=>tyV K T x H1/\t σ H1 λxs H2=>r x xs H2 Q
variable{o e:Expr}{es:ee Expr}{to:TE}{t:TA}{name:Z6}{apos cpos:Pos}{T id:String}{r:V->ee V->Hp->VK->Z3}
def jc(n:PlainAttrs T)(f:Slot T name id)(g:typeOf (.builtin id)=pure (.type "method_descriptor"))(l:MtR X id r)(m:PE X o to)(j:PA X (e::es) t)(b:attributeBase o name X.env (eval o X.env)=eval o X.env:=by rfl)(c:((backTo cpos (starEach (e::es) X.env)).all (λx=>!x.1) &&(backToKw cpos (keywordEach [] X.env)).all (λx=>x.1.isSome)
   && decide ((e::es).length +([]:ee Keyword).length +(if ([]:ee Keyword).isEmpty then 0 else 1)<30))=Z1:=by rfl)(a:(apos.endLine==cpos.line)=Z1:=by rfl)(hs:starEach (e::es) X.env =(Z2,eval e X.env)::starEach es X.env:=by rfl)(hplain:(backTo cpos (starEach es X.env)).any (·.1)=Z2:=by rfl) :
  PE X (.Call (.Attribute o name apos) (e::es) [] cpos) (tBM X.K T r to t):=by
 intro X4 s σ H Q I h;refine wpAny_Call_method_late b c a G (thn (m X4 s σ H _ I h) λ v s1 ⟨x,H1,I1,r1,ty,q1⟩=>?_);let⟨h1,h2⟩:=Pz I1 r1 ty;exists T,id,n,f,g,h1,h2;let i:=j cpos X4 s1 σ H1 _ I1 q1;rw[hs] at i ⊢;refine YR (by grind)<|Zq ?_;exact thn i λ us s2 ⟨vs,H2,I2,r2,q2⟩=>l X4 s2 σ H2 x vs v us Q I2 r1 r2 q2
end
def MtM(X:Cx)(id:String)(r:V->ee V->Hp->VK->Z3):Z3:=
 ∀(X4:ee (fy×Obj))(s:nA)(σ:St)(H:Hp)(x:V)(xs:ee V)(v:mu)(us:ee mu)(Q:VK),Inv X X4 σ H s->RelV x v->Vals xs us->r x xs H Q →
  wpAny (model X.prog X.w) X.A (call (.builtin id) (v::us)) (EP X X4 σ Q) X.xe s
def Vals.one:∀{x:V}{us:ee mu},Vals [x] us->∃u,us=[u]/\RelV x u
 |_,_,.cons r .nil=>{_,G,r}
def Vals.rep{xs:ee V}{us:ee mu}(h:Vals xs us):∀k:Z5,Vals (List.replicate k xs).flatten (List.replicate k us).flatten
 |0=>.nil
 |k+1=>by rw[Zz,Zz,aay,aay];exact Vals.append h<|Vals.rep h k
def foldl_rep(a:ee mu):∀(k:Z5)(acc:ee mu),
  List.foldl (λc f=>c++f) acc.toArray (List.replicate k a.toArray) =(acc ++(List.replicate k a).flatten).toArray
 |0,acc=>by simp
 |k+1,acc=>by
  let e:acc.toArray++a.toArray =(acc++a).toArray:=by simp
  let b:(acc++a) ++(List.replicate k a).flatten=acc ++(List.replicate (k+1) a).flatten:=by grind
  rw[←b,←foldl_rep a k (acc++a),←e,Zz,ZF]
section
variable{X:Cx}{X4:ee (fy×Obj)}{σ:St}{H:Hp}{s:nA}{l b:fy}{xs ys zs:ee V}
def Inv.Gr{a its':ee mu}{n:Z5}{f:qq mu->qq mu}{t':Z5}(I:Inv X X4 σ H s)(b:H l=some (.lst xs))(e:s.heap.get? l=some {.type "list",Z0,.seq a.toArray n,#[]})(c:f a.toArray=its'.toArray)(i:Vals ys its')(g:ys.length≤Z7) :
  Inv X X4 σ (Z9 H l (.lst ys)) {s with heap:=s.heap.update l (Obj.mapSeq f),toks:=t'}:=by
 let q:=PySem.IsL.update e f;rw[c] at q;refine I.write (x:=l) (e:=l) (by rw[b];exact trivial) (.inl G) (λm u j h=>(XE s.heap (Obj.mapSeq f)<|Yo j).trans h) {_,q} ?_;exact{g,its',_,i,q}
def Inv.WG{a:ee mu}{t':Z5}(I:Inv X X4 σ H s)(c:Vals ys a)(b:ys.length≤Z7) :
  Inv X X4 σ (Z9 H (~~~s) (.lst ys)) {s with heap:=s.heap.push {.type "list",Z0,.seq a.toArray,#[]},toks:=t'}:=
 I.laid (λ_ _ q=>Xf _ q) (Xk _) {b,a,(0),c,Xp _ G}
def Inv.fresh(I:Inv X X4 σ H s):H (~~~s)=Z0:=I.hok.fresh<|Xk _
def Inv.AZ(I:Inv X X4 σ H s)(b:H l=some (.lst xs)):xs.length≤Z7/\∃(a:ee mu)(n:Z5),Vals xs a/\xs.length=a.length/\s.heap.get? l=some {.type "list",Z0,.seq a.toArray n,#[]}:=by let⟨z,a,n,r,e⟩:=I.hok l _ b;exact⟨z,a,n,r,r.length,e⟩
def AI{n:Z5}(h:n≤Z7):Builtin.List.listTooLong n=Z2:=by unfold Builtin.List.listTooLong;exact XH o6
end
section
variable{X:Cx}
inductive Dp(x:V)(vs:ee V)(H:Hp)(Q:VK):Z3
 |m l xs y(_:x=.ref l)(_:vs=[y])(_:H l=some (.lst xs))(_:xs.length<Z7)(_:Q .non (Z9 H l (.lst (xs++[y]))))
def dH:MtM X "list.append" Dp:=by intro X4 s σ H x vs v us Q I f g h;let⟨l,xs,y,rfl,rfl,b,j,q⟩:=h;cases f;let⟨u,rfl,c⟩:=g.one;let⟨z,a,n,r,i,e⟩:=I.AZ b;refine abk F.slot_list_append {_,e,G} F.entry_list_append (F.args_list_append_2 _ _) (PySem.list_append l a.toArray n u (by grind)) {e,?_};refine{.non,_,I.Gr (its':=a++[u]) b e o8 (r.append<|.cons c .nil) ?_,G,q};rw[YI,List.length_singleton];omega
inductive CM(x:V)(vs:ee V)(H:Hp)(Q:VK):Z3
 |m l b xs zs(_:x=.ref l)(_:vs=[.ref b])(_:H l=some (.lst xs))(_:H b=some (.lst zs))(_:xs.length+zs.length≤Z7)(_:Q .non (Z9 H l (.lst (xs++zs))))
def yX:MtM X "list.extend" CM:=by
 intro X4 s σ H x vs v us Q I o p h;let⟨l,b,xs,zs,rfl,rfl,g,y,L,q⟩:=h;cases o;let⟨u,rfl,i⟩:=p.one;cases i;let⟨z,c,n,r,B,e⟩:=I.AZ g;let⟨C,a,m,j,A,t⟩:=I.AZ y;let hsz:c.toArray.size+a.toArray.size≤Z7:=by grind
 let f:¬(!c.toArray.isEmpty&&Builtin.List.listTooLong (c.toArray.size+a.toArray.size))=Z1:=by rw[AI hsz,Bool.and_false];exact Xs
 refine abk F.slot_list_extend {_,e,G} F.entry_list_extend (F.args_list_extend_2 _ _)
  (AutoSeq1.list_extend_list_list_0 l c.toArray n b a.toArray m f (by grind) o6) {e,t,?_}
 refine{.non,_,I.Gr (its':=c++a) g e o8 (r.append j) ?_,G,q};rw[YI];omega
inductive Jj(x:V)(y:V)(H:Hp)(Q:VK):Z3
 |m l k xs(_:x=.ref l)(_:y=.int k)(_:H l=some (.lst xs))(_:-(2 ^ 63)≤k)(_:k<2 ^ 63)(_:xs.length*k.toNat≤Z7)(_:∀p,H p=Z0->Q (.ref p) (Z9 H p (.lst (List.replicate k.toNat xs).flatten)))
def len_rep{α:Type}(xs:ee α)(k:Z5):(List.replicate k xs).flatten.length=k*xs.length:=by
 induction k with
 |zero=>simp
 |succ k a=>rw[Zz,aay,YI,a,Nat.succ_mul,Nat.add_comm]
def EV:OpR X (binaryOp .Mult) Jj:=by
 intro X4 s σ H x y v u Q I C L h;let⟨l,k,xs,rfl,rfl,A,h1,h2,B,q⟩:=h;cases C;let⟨t,rfl⟩:=L;let⟨z,b,n,r,O,e⟩:=I.AZ A;let j:b.toArray.size*k.toNat≤Z7:=by grind
 let i:¬b.toArray.size*k.toNat >(2 ^ 63-1) / 8:=by
  let:(Z7:Z5)≤(2 ^ 63-1) / 8:=by decide
  omega
 let g:¬(!Builtin.List.listFitsIndex k)=Z1:=by rw[fitsIndex_both h1 h2];exact Xs
 let c:¬Builtin.List.listTooLong (b.toArray.size*k.toNat)=Z1:=by rw[AI j];exact Xs
 let f:List.foldl (λp o=>p++o) #[] (List.replicate (if b.toArray.isEmpty=Z1 then 0 else k.toNat) b.toArray) =(List.replicate k.toNat b).flatten.toArray:=by
  let f0:∀m:Z5,List.foldl (λp o=>p++o) #[] (List.replicate m b.toArray) =(List.replicate m b).flatten.toArray:=λm=>by let:=foldl_rep b m [];rwa[List.nil_append] at this
  rw[f0];cases b with
  |nil=>simp
  |cons a S=>rw[Xn o8]
 refine wpAny_binaryOp_repeat_ref (T:="list") (U:="int") o7 {_,e,G} (λs'=>typeIs_int s' k t) noFill_list_mul F.fills_int_mul F.slot_int_rmul repeat_list F.slot_int_index.lookup
  (abk F.slot_int_rmul (typeIs_int s k t) F.entry_int_rmul (F.args_int_rmul_2 _ _) (int___rmul___int_list k t l b.toArray n)
   {e,G,{_,e,G},abk F.slot_list_mul {_,e,G} F.entry_list_mul (F.args_list_mul_2 _ _) (AutoListH.list___mul___list_int_3 l b.toArray n k t g i c) {e,?_}})
 rw[f];exact{.ref _,_,I.WG (t':=s.toks) (r.rep k.toNat) (by rwa[len_rep,Nat.mul_comm]),G,q _ I.fresh}
end
section
variable{prog:q8}{w:q9}{A:Around}{E:mu->nA->Z3}{s:nA}
set_option maxRecDepth 100000 in
end
end L2
namespace Att
open PySem PySem.W PySem.Calls PyProof.Rows
def xG{P:Params}{h:Heap}:∀(ns:ee Z4)(vs:ee mu),WellAll P h vs (ns.map WData.int)->IntsAre vs ns:=by
 intro ns
 induction ns with
 |nil=>intro vs w;rw[aaK] at w;cases w;exact .nil
 |cons n ns c=>
  intro vs w;rw[Yn] at w;cases w with
  |cons a b=>cases a;exact .cons _ _<|c _ b
def Ge{l:OpenLaw}{n:Z5}(s:l.most=some n){P:Params}{h:Heap}{args:ee WData}{c:ee mu}(b:l.row.toRowW.claim.pre args=Z1)(i:WellAll P h c args) :
  ∃a vs ns,c=[Value.ref a]/\args=[WData.list (ns.map WData.int)]/\h.get? a=some {.type "list",Z0,.seq vs.toArray,#[]}/\IntsAre vs ns/\ns.length≤n:=by
 let j:WShape.hasAll [] args [.list .int]=Z1:=(pre_splitW b).1;let m:l.pre.holds [] {args:=args}=Z1:=(pre_splitW b).2;let⟨d,r,rfl,h1,h2⟩:=hasAllW_cons j;obtain rfl:=hasAllW_nil h2;let⟨xs,rfl,h3⟩:=hasW_list h1;let⟨ns,rfl⟩:=items_int h3;let g:ns.length≤n:=by
  unfold OpenLaw.pre at m;let h4:(WTm.not (.lt (.lit (.int ↥n)) (.len (.arg 0)))).holds [] {args:=[.list (ns.map .int)]}=Z1:=by let h4:=(holds_andW m).1;rwa[s] at h4
  let h5:=condW_of h4<|w_not<|w_lt w_lit<|w_len_list<|w_arg G;rw[Xj] at h5;refine Nat.le_of_not_lt λq=>?_
  let p:↥n <((ns.length:Z5):Z4):=by omega
  first
   |(rw[Xr p] at h5;exact absurd h5 o7)
   |(simp at h5;omega)
 cases i with
 |cons t o=>
  cases o;cases t with
  |list u f=>exact{_,_,ns,G,G,u,xG ns _ f,g}
def FU(l:OpenLaw)(args:ee WData):l.row.toRowW.claim.post args (.bool Z1) args=Z1:=
 postW_of (r:=l.row.toRowW) (X:=(Z1==Z1))
  (show WShape.has [] (.bool Z1) .bool=Z1 by first|rfl|decide|simp[WShape.has,WShape.arms,WShape.armsAll])
  (show(WTm.eq .res<|.lit<|.bool Z1).value [] {args:=args,res:=some<|.bool Z1,after:=args}=some (.bool (Z1==Z1)) from w_eq_bool (w_res G) w_lit) G
def Ci{l:OpenLaw}{n:Z5}{q:q8}{c:ee Z6}{z:(Z6->nt mu)->Heap->Z3}{F:q9->Heap->Z3}{d:DefRec}(U:l.most=some n)(v:d.params.defaults=[])(call:∀(w:q9)(s₀ b:nA)(mg x:Z6->nt mu)(m:fy)(o:Obj)(t cd h:mu)(a:fy)(vs:ee mu)(ns:ee Z4),
   Ground q c [] z w s₀ mg x b.heap->F w b.heap →
   b.heap.get? m=some o->o.data=.func (docDef d.name d.params d.body d.scope t cd h)->b.heap.CodeRec cd d.name->mg d.name=some (.ref m) →
   b.heap.get? a=some {.type "list",Z0,.seq vs.toArray,#[]}->IntsAre vs ns->ns.length≤n->b.gens=#[] →
   codeAny (model l.prog w) callerA (.call (.ref m) {[.ref a],[]}) (λr s'=>r=.ok (.ret (.bool Z1))/\OldK b.heap s'.heap/\s'.os=b.os/\AllBare s'.gens) b) :
  WalkO q c z F l.row.toRowW d [] (λf vs=>PySem.call f vs):=by
 intro w s₀ b mg x b4 Y m o t cd h L kV H S s B u hg args C as j A a0 y O;obtain rfl:L=.none:=Dflts.none B v;obtain rfl:kV=.none:=Dflts.noKw B;let⟨a,vs,ns,rfl,rfl,p,g,i⟩:=Ge U j y;refine enter_call (Y4 (call w s₀ b mg x m o t cd h a vs ns b4 Y H (fd_plain S) s u p g i hg) λr s' hq=>?_);let⟨rfl,h2,h3,h4⟩:=hq;exact{.inl {.bool Z1,.bool Z1,[],G,λ_=>rfl,.bool Z1,FU l _,λ_=>{List.Pairwise.nil,λ_ hm=>(nomatch hm)}},h2,h3,h4}
section
variable{prog:q8}{w:q9}{A:Around}{E:mu->nA->Z3}{s:nA}{K:Frag}
def ledger(h:Heap)(L d:fy):ee (fy×Obj):=(List.range h.objs.size).filterMap λa=>if a=L∨a=d then Z0 else(h.get? a).map λo=>(a,o)
end
end Att
namespace L2
open PySem PySem.Spec PyProof.Rows
def zf:∀{vs:ee mu}{ns:ee Z4},IntsAre vs ns->Vals (ns.map Z8) vs
 |_,_,.nil=>.nil
 |_,_,.cons n t h=>.cons ⟨t,G⟩<|zf h
def Hj(H:Hp):Z3:=∀b,H b=Z0∨∃o xs,H b=some (.frz o<|.lst xs)
def GP{P:q8}{w:q9}{K:Frag}{mg mb:Z6->nt mu}{CX:CXT}{k:Z5}{fa a:fy}{fd:pW}{x:Z6}{sp:Sp}{s₁:nA}{vs:ee mu}{ns:ee Z4}(KX:K.In s₁.heap)(p:s₁.heap.Ns mainGlobals mg)(j:s₁.heap.Ns builtinsNs mb)(a1:∀x:Z6,x≠"__name__"->mb x=bootBuiltins x)(l:s₁.heap.NoLimit)(hg:s₁.gens=#[])(L:s₁.heap.get? a=some {.type "list",Z0,.seq vs.toArray,#[]})(hi:IntsAre vs ns)(hl:ns.length≤Z7)(hr:cI k callerA)(F:∀base:Heap,K.In base->base.Ns mainGlobals mg->aI P w K mg base CX k fa fd [x] sp)(i:∀(s:nA)(u:mu),BindsTo s fd {[u],[]} [(x,u)])(U:∀H:Hp,Hj H->X0 K H a (ns.map Z8)->sp [.ref a] H (λv _=>v=.bl Z1) λ_ _ _=>False)(O:∀H e s',CX [] H s₁ (λ_ _ _=>False) e s'->False) :
  codeAny (model P w) callerA (.call (.ref fa) {[.ref a],[]}) (λr s'=>r=.ok (.ret (.bool Z1))/\OldK s₁.heap s'.heap/\s'.os=s₁.os/\AllBare s'.gens) s₁:=by
 let rv:=zf hi;let B:=hi.length;let g:∀H:Hp,Hj H->X0 K H a (ns.map Z8)->HOk P w H s₁.heap->(∀b,H b≠Z0->b=a)->(H a≠Z0->K.lookup a=Z0) →
   codeAny (model P w) callerA (.call (.ref fa) {[.ref a],[]}) (λr s'=>r=.ok (.ret<|.bool Z1)/\OldK s₁.heap s'.heap/\s'.os=s₁.os/\AllBare s'.gens) s₁:=by
  intro H hO hS y hA hK;let c:∀{b:fy}{o:Obj},s₁.heap.get? b=some o->H b=Z0->(ql s₁.heap H).get? b=some o:=λe n=>HE e n
  let a0:∀{b:fy}{o:Obj}{es:qq DictEntry}{ep:Z5},s₁.heap.get? b=some o->o.data=.dict es ep->H b=Z0:=λ{b o es ep}e d=>by
   cases q:H b with
   |none=>rfl
   |some u=>have S:b=a:=hA b (by rw[q];simp);subst S;rw[L] at e;cases e;let d':Data.seq vs.toArray _=Data.dict es ep:=d;cases d'
  let f:∀{b:fy}{m:Z6->nt mu},s₁.heap.Ns b m->(ql s₁.heap H).Ns b m:=λ {b m} ⟨o,es,ep,e,d,r⟩=>{o,es,ep,c e<|a0 e d,d,r}
  let A:K.In (ql s₁.heap H):=λb o e=>c (KX b o e) (by
   cases q:H b with
   |none=>rfl
   |some u=>have S:b=a:=hA b (by rw[q];simp);subst S;rw[hK (by rw[q];simp)] at e;cases e)
  let hM:Mod K mg (ql s₁.heap H):={A,f p,{mb,f j,a1},let ⟨mc,h1,h2⟩:=l;{mc,f h1,h2}};let e0:wC P w K mg (ql s₁.heap H) callerA [] s₁ H:={G,hM,λb o e=>Io e,Nat.le_of_eq<|FO _ _,trivial,λb j=>absurd (show b∈([]:ee fy) from j) o8,y,.of_eq hg};refine Y4 ((F _ A<|f p).run callerA [] s₁ H {[.ref a],[]} [.ref a] [.ref a] _ _ hr e0 (i s₁<|.ref a) (.cons G .nil)<|U H hO hS) λr s' h=>?_
  cases r with
  |error e=>exact(O H e s' h).elim
  |ok fl=>
   cases fl with
   |next=>exact False.elim h
   |brk=>exact False.elim h
   |cont=>exact False.elim h
   |ret u=>
    let⟨v,H',os,t,un,C,r',q⟩:=h;let q':v=.bl Z1:=q;subst q';obtain rfl:u=Value.bool Z1:=r';refine{G,OldK.of_keep λb o e=>?_,os,t};cases q:H b with
    |none=>exact un.keep b o e q (by intro z;exact absurd (show b∈([]:ee fy) from z) o8) o8
    |some u=>
     rcases hO b with z|⟨ob,xs,z⟩
     .rw[q] at z;cases z
     .let z2:=un.mj b ob _ z;let⟨e1,_⟩:=y b _ z;let⟨e2,_⟩:=C b _ z2;rw[e] at e1;cases e1;exact e2
 cases hk:K.lookup a with
 |some o=>have e:=KX a o hk;rw[L] at e;cases e;refine g (λ_=>Z0) (λ_=>.inl G) (.inr {_,vs.toArray,_,hk,G,G,G,by rwa[YQ,B],⇑rv}) (λb u z=>by let Y:(Z0:nt HO)=some u:=z;cases Y) (λb z=>absurd G z) λz=>absurd G z
 |none=>
  refine g (λb=>if b=a then some (.frz {.type "list",Z0,.seq vs.toArray,#[]}<|.lst<|ns.map Z8) else Z0) (λb=>?_) (.inl<|.inr {{.type "list",Z0,.seq vs.toArray,#[]},Xm G}) (λb u z=>?_) (λb z=>?_) λ_=>hk
  .grind
  .by_cases j:b=a
   .let Y:=(Xm j).symm.trans z;cases Y;subst j;exact{L,by rwa[Xj],vs,_,rv,L}
   .grind
  .grind
abbrev KOf{K:Frag}{h:Heap}(_:K.In h):Frag:=K
def IU{l:OpenLaw}{n k:Z5}{q:q8}{j:ee Z6}{S:(Z6->nt mu)->Heap->Z3}{L:q9->Heap->Z3}{d:DefRec}{K:Params->Frag}{CX:q9->CXT}{sp:q9->Sp}{x:Z6}(hn:l.most=some n)(A:n≤Z7)(B:d.params.defaults=[])(hr:cI k callerA)(hY:∀(w:q9)(h:Heap),L w h->(K w.params).In h)(F:∀(w:q9)(mg:Z6->nt mu)(r:fy)(h:Heap),(K w.params).In h->h.Ns mainGlobals mg->mg d.name=some (.ref r) →
   ∃fd:pW,(∀(s:nA)(u:mu),BindsTo s fd {[u],[]} [(x,u)])∧
    ∀base:Heap,(K w.params).In base->base.Ns mainGlobals mg->aI l.prog w (K w.params) mg base (CX w) k r fd [x] (sp w))(y:∀(w:q9)(H:Hp)(a:fy)(ns:ee Z4),ns.length≤n->Hj H->X0 (K w.params) H a (ns.map Z8)->sp w [.ref a] H (λv _=>v=.bl Z1) λ_ _ _=>False)(t:∀(w:q9)(H:Hp)(s:nA)(e:mu)(s':nA),CX w [] H s (λ_ _ _=>False) e s'->False) :
  WalkO q j S L l.row.toRowW d [] (λf vs=>PySem.call f vs):=by
 refine Att.Ci hn B λw s₀ m mg mb r o pm cd U a vs ns b4 Y ho hd O z p i c hg=>?_
 let C:=hY w _ Y;let⟨fd,hb,hF⟩:=F w mg r _ C b4.T.g z;exact GP C b4.T.g b4.T.b b4.T.builtins b4.T.nolimit hg p i (Ye c A) hr hF hb (λH hO hS=>y w H a ns c hO hS) λH e s'=>t w H m e s'
end L2
namespace L2
open PySem PySem.Spec PyProof.Rows
def inClass(s:Stmt)(j:Z5):Stmt:=match s with
 |.ClassDef _ _ _ a _ _ _ _ _ _ _=>a.getD j<|.Pass {(0),(0),(0),(0)}
 |_=>.Pass {(0),(0),(0),(0)}
def dR(s:Stmt):Arguments:=match s with
 |.FunctionDef _ a _ _ _ _ _ _ _ _=>a
 |_=>{posonlyargs:=[],args:=[],vararg:=Z0,kwonlyargs:=[],kw_defaults:=[],kwarg:=Z0,defaults:=[]}
def cV(s:Stmt):ee Stmt:=match s with
 |.FunctionDef _ _ b _ _ _ _ _ _ _=>b
 |_=>[]
def az(s:Stmt):Scope:=match s with
 |.FunctionDef _ _ _ _ _ _ a _ _ _=>a
 |_=>{kind:=.function,names:=[],isGenerator:=Z2,isCoroutine:=Z2}
abbrev E0:XK:=λ_ _ _=>False
structure Fun(K:Frag)(x qual:Z6)(st:Stmt)(f:fy)(fd:pW):Z3 where
 ex:∃(oc:mu)(od:nt fy)(kV doc pm:mu)(an:nt fy)(cdv ct:mu)(osl:qq (nt mu)),
  fd=fnOf x qual (dR st) (cV st) (az st) .none kV doc pm an cdv ct/\K.lookup f=some {oc,od,.func fd,osl}/\codeIn K cdv qual=Z1
 kp:keepIn K (.ref f)=Z1
section
variable{P:q8}{w:q9}{K:Frag}{mg:Z6->nt mu}{base:Heap}
def Fun.binds{x qual:Z6}{st:Stmt}{f:fy}{fd:pW}{ps:ee Z6}(F:Fun K x qual st f fd)(h:∀(kV b c:mu)(g:nt fy)(a ct:mu)(us:ee mu),us.length=ps.length->bindArgs (fnOf x qual (dR st) (cV st) (az st) .none kV b c g a ct) {us,[]}=pure (ps.zip us)):Binds K fd ps []:=by let⟨l,od,kV,b,c,g,a,ct,j,rfl,lk,i⟩:=F.ex;exact .all<|h kV b c g a ct
def Px{x qual:Z6}{st:Stmt}{f:fy}{j:mu}{od h:nt fy}{g:qq (nt mu)}{kV b i a ct:mu}(l:K.lookup f=some {j,od,.func (fnOf x qual (dR st) (cV st) (az st) .none kV b i h a ct),g})(c:codeIn K a qual=Z1)(k:keepIn K (.ref f)=Z1):Fun K x qual st f (fnOf x qual (dR st) (cV st) (az st) .none kV b i h a ct):={⟨j,od,kV,b,i,h,a,ct,g,G,l,c⟩,k}
end
def bG{A:Around}{k:Z5}(a:cI k A):A.units+1<cLine:=ZJ (Nat.add_le_add_left (by decide:1≤64) _) a.units
def aN{n:Z5}(h:n≤1000):n<Z7:=ZJ h o7
section
variable{X:Cx}
def pv(i:Z5){x:Z6}{pos:Pos}(f:X.N[i]?=some x:=by rfl)(b:Vis X.env.scope x:=by first|exact Or.inl rfl|exact Or.inr (Or.inl G)|exact Or.inr (Or.inr G))(c:(x ==("__debug__":Str))=Z2:=by decide)(a:(x ==("__classdict__":Str))=Z2:=by decide):PE X (.Name x pos) (vv i):=K5 f b c a
end
def eV{A B:Z3}(h:B):if Z2=Z1 then A else B:=by grind
def dB{A B:Z3}(h:A):if Z1=Z1 then A else B:=by grind
def HD{c A B:Z3}[Decidable c](h1:c->A)(h2:¬c->B):if c then A else B:=by grind
def ak(H H':Hp):Z3:=∀b o,H b=some o->H' b=some o
def ak.refl(H:Hp):ak H H:=λ_ _ h=>h
def ak.trans{H H1 H2:Hp}(a:ak H H1)(b:ak H1 H2):ak H H2:=λc o h=>b c o<|a c o h
def ak.free{H H':Hp}(e:ak H H'){l:fy}(h:H' l=Option.none):H l=Option.none:=by
 cases q:H l with
 |none=>rfl
 |some o=>rw[e l o q] at h;cases h
def ak.seq{K:Frag}{H H':Hp}{a:fy}{xs:ee V}(e:ak H H')(h:X0 K H a xs):X0 K H' a xs:=by
 rcases h with(h|⟨o,h⟩)|h
 .exact .inl (.inl<|e _ _ h)
 .exact .inl (.inr {o,e _ _ h})
 .exact .inr h
end L2
set_option maxHeartbeats 4000000
namespace L2
open PySem PySem.Spec PyProof.Rows
section
variable{κ:Type}[DecidableEq κ]
def aL(kvs:ee (κ×V))(k:κ):nt V:=(kvs.find? λa=>decide (a.1=k)).map (·.2)
def putK(kvs:ee (κ×V))(k:κ)(v:V):ee (κ×V):=
 if (kvs.any λa=>decide (a.1=k))=Z1 then kvs.map (λa=>if a.1=k then(a.1,v) else a) else kvs++[(k,v)]
def c5(kvs:ee (κ×V))(k:κ):ee (κ×V):=kvs.filter λa=>decide (a.1≠k)
def dD{p:κ×V}{r:ee (κ×V)}{k:κ}(e:p.1=k):aL (p::r) k=some p.2:=by simp[aL,List.find?_cons,e]
def dg{p:κ×V}{r:ee (κ×V)}{k:κ}(e:¬p.1=k):aL (p::r) k=aL r k:=by simp[aL,List.find?_cons,e]
def iw(k:κ):∀kvs:ee (κ×V),(kvs.any λa=>decide (a.1=k)) =(aL kvs k).isSome
 |[]=>rfl
 |p::r=>by
  rw[Zc];by_cases e:p.1=k
  .simp only[dD e,decide_eq_true e,Bool.true_or,Option.isSome_some]
  .rw[dg e,XH e,Bool.false_or];exact iw k r
def Am(k j:κ)(y:V):∀kvs:ee (κ×V),aL (kvs.map λa=>if a.1=k then(a.1,y) else a) j =(aL kvs j).map λx=>if j=k then y else x
 |[]=>rfl
 |p::r=>by
  let b:=Am k j y r;rw[Yn];by_cases h:p.1=k
  .rw[Xm h];by_cases e:p.1=j
   .rw[dD (p:=(p.1,y)) e,dD e,aac,Xm<|e.symm.trans h]
   .rw[dg (p:=(p.1,y)) e,dg e,b]
  .rw[Xn h];by_cases e:p.1=j
   .rw[dD (p:=p) e,dD e,aac,Xn λz=>h<|e.trans z]
   .rw[dg (p:=p) e,dg e,b]
def yN(k j:κ)(y:V):∀kvs:ee (κ×V),aL kvs k=Z0->aL (kvs++[(k,y)]) j=if j=k then some y else aL kvs j
 |[],_=>by
  by_cases e:k=j
  .rw[Xm e.symm];exact dD (p:=(k,y)) e
  .rw[Xn λz=>e z.symm];exact dg (p:=(k,y)) e
 |p::r,hn=>by
  rw[List.cons_append];let a:¬p.1=k:=λz=>by rw[dD z] at hn;cases hn
  rw[dg a] at hn;let b:=yN k j y r hn;by_cases e:p.1=j
  .rw[dD e,dD e,Xn λz=>a<|e.trans z]
  .rw[dg e,dg e,b]
def iy(kvs:ee (κ×V))(k j:κ)(y:V):aL (putK kvs k y) j=if j=k then some y else aL kvs j:=by
 unfold putK;by_cases a:(kvs.any λc=>decide (c.1=k))=Z1
 .rw[Xm a,Am];rw[iw] at a;by_cases e:j=k
  .let⟨x,b⟩:=ZI.mp a;rw[Xm e,e,b,aac,Xm rfl]
  .rw[Xn e];cases aL kvs j with
   |none=>rfl
   |some x=>rw[aac,Xn e]
 .rw[Xn a];refine yN k j y kvs ?_;rw[iw] at a;cases q:aL kvs k with
  |none=>rfl
  |some x=>rw[q] at a;exact(a G).elim
def i9(kvs:ee (κ×V))(k:κ)(v:V):(putK kvs k v).length≤kvs.length+1:=by
 unfold putK;split
 .grind
 .grind
def Hg{kvs:ee (κ×V)}{k:κ}(v:V)(h:aL kvs k=Z0):putK kvs k v=kvs++[(k,v)]:=by unfold putK;rw[iw,h];exact Xn o7
def fW.lH{o:nt V}{u:nt mu}(r:fW o u):o.isSome=u.isSome:=by
 cases o with
 |none=>cases u with
  |none=>rfl
  |some _=>exact(show False from r).elim
 |some _=>cases u with
  |none=>exact(show False from r).elim
  |some _=>rfl
def fW.getD{o:nt V}{u:nt mu}{d:V}{d':mu}(r:fW o u)(a:RelV d d'):RelV (o.getD d) (u.getD d'):=by
 cases o with
 |none=>cases u with
  |none=>exact a
  |some _=>exact(show False from r).elim
 |some _=>cases u with
  |none=>exact(show False from r).elim
  |some _=>exact r
def KV.val{kvs:ee (κ×V)}{vs:ee (κ×mu)}(r:KV kvs vs)(k:κ):fW (aL kvs k) (valueAt vs k):=by
 unfold KV at r
 induction r with
 |nil=>exact True.intro
 |@cons p q ps qs h t ih=>
  let⟨h1,h2⟩:=h;by_cases e:p.1=k
  .let a:q.1=k:=h1.symm.trans e;let b:valueAt (q::qs) k=some q.2:=by simp[valueAt,List.find?_cons,a]
   rwa[dD e,b]
  .let a:¬q.1=k:=λz=>e (h1.trans z)
   let b:valueAt (q::qs) k=valueAt qs k:=by simp[valueAt,List.find?_cons,a]
   rwa[dg e,b]
def KV.any{kvs:ee (κ×V)}{vs:ee (κ×mu)}(r:KV kvs vs)(k:κ):(kvs.any λa=>decide (a.1=k))=vs.any λa=>decide (a.1=k):=by
 unfold KV at r
 induction r with
 |nil=>rfl
 |cons h t b=>rw[Zc,Zc,b,h.1]
def KV.repl{kvs:ee (κ×V)}{vs:ee (κ×mu)}(r:KV kvs vs)(k:κ){y:V}{u:mu}(b:RelV y u) :
  KV (kvs.map λa=>if a.1=k then(a.1,y) else a) (vs.map λa=>if a.1=k then(a.1,u) else a):=by
 unfold KV at r ⊢
 induction r with
 |nil=>exact .nil
 |@cons p q ps qs h t ih=>
  rw[Yn,Yn];refine .cons ?_ ih;let⟨h1,h2⟩:=h;by_cases e:p.1=k
  .grind
  .grind
def KV.put{kvs:ee (κ×V)}{vs:ee (κ×mu)}(r:KV kvs vs)(k:κ){y:V}{u:mu}(a:RelV y u):KV (putK kvs k y) (stored vs k u):=by
 unfold putK stored;rw[r.any k];by_cases e:(vs.any λb=>decide (b.1=k))=Z1
 .rw[Xm e,Xm e];exact r.repl k a
 .rw[Xn e,Xn e];exact Paired.snoc r ⟨G,a⟩
def KV.drop{kvs:ee (κ×V)}{vs:ee (κ×mu)}(r:KV kvs vs)(k:κ):KV (c5 kvs k) (without vs k):=by
 unfold KV at r ⊢;unfold c5 without
 induction r with
 |nil=>exact .nil
 |@cons p q ps qs h t ih=>
  let⟨h1,h2⟩:=h;rw[Zr,Zr];by_cases e:p.1=k
  .grind
  .let c:¬q.1=k:=λz=>e (h1.trans z)
   let a:decide (p.1≠k)=Z1:=by simp[e]
   let b:decide (q.1≠k)=Z1:=by simp[c]
   rw[Xm a,Xm b];exact .cons ⟨h1,h2⟩ ih
def KV.keys{kvs:ee (κ×V)}{vs:ee (κ×mu)}(r:KV kvs vs):kvs.map (·.1)=vs.map (·.1):=by
 unfold KV at r
 induction r with
 |nil=>rfl
 |cons h t a=>rw[Yn,Yn,a,h.1]
def KV.length{kvs:ee (κ×V)}{vs:ee (κ×mu)}(r:KV kvs vs):kvs.length=vs.length:=Paired.length r
def Gy(kvs:ee (κ×V))(k:κ):(c5 kvs k).length≤kvs.length:=Zl _ _
end
def mY{P:q8}{w:q9}{k:Key}{u:mu}(r:RelV (kV k) u):(bN P w).is k u=Z1:=by
 cases k with
 |inl i=>let⟨t,e⟩:=(show ∃t,u=Value.int i t from r);subst e;exact Cg P w i t
 |inr x=>let⟨t,e⟩:=(show ∃t,u=Value.str x t from r);subst e;exact B9 P w x t
def zD{P:q8}{w:q9}:∀{a:ee Key}{us:ee mu},Vals (a.map kV) us->ItemsAre (bN P w) a us
 |[],_,r=>by rw[aaK] at r;cases r;exact .nil
 |k::a,_,r=>by
  rw[Yn] at r;cases r with
  |cons h t=>exact .cons (mY h)<|zD t
abbrev KT(H:Hp):ee (ee Key×V)->ee (ee Key×fy×mu)->Z3:=Paired λp q=>p.1=q.1/\H q.2.1=some (.tup<|p.1.map kV)/\RelV p.2 q.2.2
def KT.val{H:Hp}{kvs:ee (ee Key×V)}{xs:ee (ee Key×fy×mu)}(r:KT H kvs xs)(k:ee Key):fW (aL kvs k) ((atKey xs k).map (·.2)):=by
 induction r with
 |nil=>exact True.intro
 |@cons p q ps qs h t ih=>
  let⟨h1,_,h2⟩:=h;by_cases e:p.1=k
  .let a:q.1=k:=h1.symm.trans e;let b:atKey (q::qs) k=some q.2:=by simp[atKey,List.find?_cons,a]
   rwa[dD e,b]
  .let a:¬q.1=k:=λz=>e (h1.trans z)
   let b:atKey (q::qs) k=atKey qs k:=by simp[atKey,List.find?_cons,a]
   rwa[dg e,b]
def KT.repl{H:Hp}{kvs:ee (ee Key×V)}{xs:ee (ee Key×fy×mu)}(r:KT H kvs xs)(k:ee Key){y:V}{u:mu}(b:RelV y u) :
  KT H (kvs.map λa=>if a.1=k then(a.1,y) else a) (xs.map (putAt k u)):=by
 induction r with
 |nil=>exact .nil
 |@cons p q ps qs h t ih=>
  rw[Yn,Yn];refine .cons ?_ ih;let⟨h1,h2,h3⟩:=h;unfold putAt;by_cases e:p.1=k
  .grind
  .grind
def KT.put{H:Hp}{kvs:ee (ee Key×V)}{xs:ee (ee Key×fy×mu)}(r:KT H kvs xs)(k:ee Key){b:fy}{y:V}{u:mu}(f:H b=some (.tup (k.map kV)))(a:RelV y u) :
  KT H (putK kvs k y) (storedH xs k b u):=by
 let e:(kvs.any λc=>decide (c.1=k)) =(atKey xs k).isSome:=by rw[iw,(r.val k).lH,ZQ]
 unfold putK storedH;rw[e];by_cases q:(atKey xs k).isSome=Z1
 .rw[Xm q,Xm q];exact r.repl k a
 .rw[Xn q,Xn q];exact Paired.snoc r ⟨G,f,a⟩
def KT.keeps{H H':Hp}{kvs:ee (ee Key×V)}{xs:ee (ee Key×fy×mu)}(r:KT H kvs xs)(a:∀b ys,H b=some (.tup ys)->H' b=some (.tup ys)):KT H' kvs xs:=
 Paired.GQ r λ_ _ z=>{z.1,a _ _ z.2.1,z.2.2}
section
variable{P:q8}{w:q9}{H:Hp}{h:Heap}{a:fy}
def Ia{u:HO}(ok:HOk P w H h)(e:Rd H a u):bF P w H h a u:=e.ok ok
def oJ{kvs:ee (Key×V)}(ok:HOk P w H h)(e:Rd H a (.dK kvs)):kvs.length≤Z7/\(a==sysModules)=Z2/\∃vs,KV kvs vs/\h.DictOf (bN P w) a vs:=
 show bF P w H h a (.dK kvs) from Ia ok e
def oE{kvs:ee (Key×V)}(ok:HOk P w H h)(e:H a=some (.dK kvs)):kvs.length≤Z7/\(a==sysModules)=Z2/\∃vs,KV kvs vs/\h.DictOf (bN P w) a vs:=oJ ok<|.inl e
def pZ{c:ee Key}(ok:HOk P w H h)(e:H a=some (.tup (c.map kV))):(tupleKind (bN P w)).is h c a:=by let⟨_,b,r,o,h1,h2,n,h3⟩:=(show bF P w H h a (.tup<|c.map kV) from ok a _ e);exact{o,b.toArray,n,h1,h2,h3,⇑(zD r)}
def qG{kvs:ee (ee Key×V)}(ok:HOk P w H h)(e:Rd H a (.dT kvs)):kvs.length≤Z7/\(a==sysModules)=Z2∧
  ∃xs,KT H kvs xs/\h.DictOfH (tupleKind (bN P w)) a xs:=by
 let⟨z,y,xs,r,o,es,ep,h1,h2,h3,h4,h5⟩:=(show bF P w H h a (.dT kvs) from Ia ok e);refine{z,y,xs,r,o,es,ep,h1,h2,h3,h4,λx b=>?_,h5};let all:∀{l:ee (ee Key×V)}{m:ee (ee Key×fy×mu)},KT H l m->∀ x∈m,(tupleKind (bN P w)).is h x.1 x.2.1:=by
  intro l m q
  induction q with
  |nil=>intro x b;exact nomatch b
  |@cons p q ps qs hq t ih=>
   intro x b;rcases XG.mp b with e|b
   .subst e;exact pZ ok (by grind)
   .exact ih x b
 exact all r x b
def Uj{kvs:ee (ee Key×V)}(ok:HOk P w H h)(e:H a=some (.dT kvs)):kvs.length≤Z7/\(a==sysModules)=Z2∧
  ∃xs,KT H kvs xs/\h.DictOfH (tupleKind (bN P w)) a xs:=qG ok<|.inl e
end
def cT(H:Hp)(a:fy)(y:V)(r:nt V):Z3:=
 (∃kvs k,Rd H a (.dK kvs)/\y=kV k/\r=aL kvs k)∨∃kvs k b,Rd H a (.dT kvs)/\y=.ref b/\H b=some (.tup<|k.map kV)/\r=aL kvs k
def mw(H:Hp)(a:fy)(y v:V)(H':Hp):Z3:=
 (∃kvs k,H a=some (.dK kvs)/\y=kV k/\kvs.length<Z7/\H'=Z9 H a (.dK<|putK kvs k v))∨
 ∃kvs k b,H a=some (.dT kvs)/\y=.ref b/\H b=some (.tup<|k.map kV)/\kvs.length<Z7/\H'=Z9 H a (.dT<|putK kvs k v)
def cT.k{H:Hp}{a:fy}{kvs:ee (Key×V)}{k:Key}(e:H a=some (.dK kvs)):cT H a (kV k) (aL kvs k):=.inl {kvs,k,.inl e,G,G}
def mw.k{H:Hp}{a:fy}{kvs:ee (Key×V)}{k:Key}{v:V}(e:H a=some (.dK kvs))(b:kvs.length<Z7):mw H a (kV k) v (Z9 H a (.dK (putK kvs k v))):=.inl ⟨kvs,k,e,G,b,G⟩
section
variable{X:Cx}{X4:ee (fy×Obj)}{σ:St}{H:Hp}{s:nA}{a:fy}{y v:V}{u r:mu}{o:nt V}{A:Around}{E:mu->nA->Z3}
def Inv.big(I:Inv X X4 σ H s):sysModules<(~~~s):=by let h:mainGlobals<(~~~s):=(I.mod.glob.keeps I.bk).lt;exact Nat.lt_trans o7 h
def Gd{Q:mu->nA->Z3}(x:A.units+1<cLine)(I:Inv X X4 σ H s)(g:cT H a y (some v))(q:RelV y u)(h:∀i s',Inv X X4 σ H s'->RelV v i->Q i s') :
  wpAny (model X.prog X.w) A (getItem (.ref a) u) Q E s:=by
 rcases g with⟨kvs,k,e,n,l⟩|⟨kvs,k,b,e,n,r,l⟩
 .subst n;let⟨z,B,vs,c,dd⟩:=oJ I.hok e;let⟨i,m,f⟩:=fW.some_of (v:=v) (o:=valueAt vs k) (by rw[l];exact c.val k);exact wpAny_getItem_of (mY q) dd.mapOf m<|h i _ (I.tok _) f
 .subst n;cases (show u=Value.ref b from q);let⟨z,B,xs,c,dd⟩:=qG I.hok e;let⟨i,m,f⟩:=fW.some_of (v:=v) (o:=(atKey xs k).map (·.2)) (by rw[l];exact c.val k);let⟨p,t,j⟩:=XA.mp m;refine wpAny_getItem_heap (Zf x) (pZ I.hok r) dd t ?_;rw[j];exact h i _ (I.tok _) f
def W0{Q:mu->nA->Z3}(n:A.units+1<cLine)(I:Inv X X4 σ H s)(g:cT H a y o)(j:RelV y u)(h:∀s',Inv X X4 σ H s'->Q (.bool o.isSome) s') :
  wpAny (model X.prog X.w) A (compareOp .In u (.ref a)) Q E s:=by
 rcases g with⟨kvs,k,e,i,l⟩|⟨kvs,k,b,e,i,m,l⟩
 .subst i;let⟨z,f,vs,c,dd⟩:=oJ I.hok e;refine wpAny_in_of (mY j) f dd.mapOf ?_;rw[←(c.val k).lH,←l];exact h _<|I.tok _
 .subst i;cases (show u=Value.ref b from j);let⟨z,f,xs,c,dd⟩:=qG I.hok e;refine wpAny_in_heap (Zf n) (pZ I.hok m) f dd ?_;let q:=(c.val k).lH;rw[ZQ] at q;rw[←q,←l];exact h _<|I.tok _
def IF{Q:mu->nA->Z3}(n:A.units+1<cLine)(I:Inv X X4 σ H s)(g:cT H a y o)(j:RelV y u)(h:∀s',Inv X X4 σ H s'->Q (.bool (!o.isSome)) s') :
  wpAny (model X.prog X.w) A (compareOp .NotIn u (.ref a)) Q E s:=by
 rcases g with⟨kvs,k,e,i,l⟩|⟨kvs,k,b,e,i,m,l⟩
 .subst i;let⟨z,f,vs,c,dd⟩:=oJ I.hok e;refine wpAny_notIn_of (mY j) f dd.mapOf ?_;rw[←(c.val k).lH,←l];exact h _<|I.tok _
 .subst i;cases (show u=Value.ref b from j);let⟨z,f,xs,c,dd⟩:=qG I.hok e;refine wpAny_notIn_heap (Zf n) (pZ I.hok m) f dd ?_;let q:=(c.val k).lH;rw[ZQ] at q;rw[←q,←l];exact h _<|I.tok _
def qc{h':Heap}{t':Z5}{c:HO}(I:Inv X X4 σ H s)(g:Mut (H a))(hs:Heap.SameBut a s.heap h')(he:∃q,h'.get? a=some q)(new:bF X.prog X.w (Z9 H a c) h' a c) :
  Inv X X4 σ (Z9 H a c) {s with heap:=h',toks:=t'}:=
 I.write (x:=a) (e:=a) g (.inl G) (λb q f z=>(hs.2 b f).trans z) he new
def wY{P:q8}{w:q9}{H':Hp}{h':Heap}{kvs:ee (Key×V)}{vs:ee (Key×mu)}(z:kvs.length≤Z7)(c:(a==sysModules)=Z2)(b:KV kvs vs)(dd:h'.DictOf (bN P w) a vs) :
  bF P w H' h' a (.dK kvs):=⟨z,c,vs,b,dd⟩
def Ga{H':Hp}{Q:Unit->nA->Z3}(L:A.units+1<cLine)(I:Inv X X4 σ H s)(g:mw H a y v H')(F:RelV y u)(B:RelV v r)(h:∀s',Inv X X4 σ H' s'->Q () s') :
  wpAny (model X.prog X.w) A (setItem (.ref a) u r) Q E s:=by
 rcases g with⟨kvs,k,e,t,l,o⟩|⟨kvs,k,b,e,t,x,l,o⟩
 .subst t o;let⟨z,p,vs,f,dd⟩:=oE I.hok e;let n:vs.length≤Z7:=by rwa[←f.length]
  let m:(putK kvs k v).length≤Z7:=by let:=i9 kvs k v;omega
  refine wpAny_setItem_pairs (hsz:=n) (mY F) dd λh' i hs=>h _ ?_
  let he:∃q,h'.get? a=some q:=let ⟨q,_,_,j,_⟩:=i;⟨q,j⟩;exact qc I (by rw[e];exact True.intro) hs he<|wY m p (f.put k B) i
 .subst t o;cases (show u=Value.ref b from F);let⟨z,p,xs,f,dd⟩:=Uj I.hok e;let n:xs.length≤Z7:=by rwa[←Paired.length f]
  let m:(putK kvs k v).length≤Z7:=by let:=i9 kvs k v;omega
  refine wpAny_setItem_heap (hsz:=n) (Zf L) (pZ I.hok x) dd λh' i hs=>h _ ?_
  let⟨q,es,ep,j,h2,h3,h4,_,h5⟩:=i;refine qc I (by rw[e];exact True.intro) hs ⟨q,j⟩ {m,p,_,(f.put k x B).keeps λc ys C=>?_,q,es,ep,j,h2,h3,h4,h5};rwa[ah<|br C e λz=>nomatch z]
end
section
variable{X:Cx}{X4:ee (fy×Obj)}{σ:St}{H:Hp}{s:nA}{a:fy}{kvs:ee (Key×V)}{k:Key}{u:mu}{A:Around}{E:mu->nA->Z3}
def T8{v:V}{more:ee mu}{Q:mu->nA->Z3}(I:Inv X X4 σ H s)(e:H a=some (.dK kvs))(j:RelV (kV k) u)(l:aL kvs k=some v)(m:more=[]∨∃x,more=[x])(h:∀f s',Inv X X4 σ (Z9 H a (.dK (c5 kvs k))) s'->RelV v f->Q f s'):wpAny (model X.prog X.w) A (call (.builtin "dict.pop") (.ref a::u::more)) Q E s:=by
 let⟨z,y,vs,b,dd⟩:=oE I.hok e;let⟨f,r,g⟩:=fW.some_of (v:=v) (o:=valueAt vs k) (by rw[←l];exact b.val k);let p:(keyPart u).isSome=Z1:=by
  cases k with
  |inl i=>let⟨t,q⟩:=(show ∃t,u=Value.int i t from j);subst q;rfl
  |inr x=>let⟨t,q⟩:=(show ∃t,u=Value.str x t from j);subst q;rfl
 let n:argsOk "dict.pop" ⟨.ref a::u::more,[]⟩:=by
  rcases m with q|⟨x,q⟩
  .subst q;exact PySem.F.args_dict_pop_2 _ _
  .subst q;exact PySem.F.args_dict_pop_3 _ _ _
 refine aad aba dd.typeIs PySem.F.entry_dict_pop n (meets_dict_pop_there (bN X.prog X.w) a (mY j) more m p)
  {vs,f,dd,by rwa[←b.length],r,λh' c hs=>h f _ ?_ g}
 let he:∃q,h'.get? a=some q:=let ⟨q,_,_,hq,_⟩:=c;⟨q,hq⟩;exact qc I (by rw[e];exact True.intro) hs he<|wY (Ye (Gy kvs k) z) y (b.drop k) c
def UH{Q:mu->nA->Z3}(I:Inv X X4 σ H s)(e:Rd H a (.dK kvs))(h:∀t s',Inv X X4 σ H s'->Q (.int kvs.length t) s'):wpAny (model X.prog X.w) A (call (.builtin "len") [.ref a]) Q E s:=by let⟨z,c,vs,b,dd⟩:=oJ I.hok e;refine call_len_dict c dd (by rw[←b.length];rw[aaq] at z;omega) ?_;rw[←b.length];exact h _ _<|I.tok _
end
def Tj(i:Expr):Z3:=∀b a,subscripted i Z2 b a=operate [b,a] (getItem b a)
def Ir{prog:q8}{w:q9}{A:Around}{E:mu->nA->Z3}{s:nA}{env:Env}{value a:Expr}{pos:Pos}{T id:String}{Q:mu->nA->Z3}(m:typeLookup (.type T) "__getitem__" = pure (some (.builtin id)))(hs:Tj a)(h:wpAny (model prog w) A (eval value env) (λo c=>wpAny (model prog w) A (eval a env) (λi s₂=>s₂.TypeIs o T/\wpAny (model prog w) A (getItem o i) Q E s₂) E c) E s) :
  wpAny (model prog w) A (eval (.Subscript value a pos) env) Q E s:=by
 refine Subscript_ (XY h (λo c h₁=>XY h₁ (λi s₂ b=>?_) λ_ _ x=>x) λ_ _ x=>x);let⟨l,b⟩:=b;unfold subscriptTail;refine Xd ?_;rw[getitemInPython_of_ne l.not_modules];refine Xd<|aae l m ?_;let g:wpAny (model prog w) A (subscripted a Z2 o i) (λr f=>wpAny (model prog w) A (letTemporaryGo value o r >>= λ_=>pure r) Q E f) E s₂:=by rw[hs o i];exact wpAny_operating (XY b (λr f j=>Xd<|wpAny_letTemporaryGo<|Xe j) λ_ _ x=>x)
 first
  |exact Xe<|Xd g
  |exact Xd<|Xe<|Xd g
  |exact Xd g
def BW{X:Cx}{X4:ee (fy×Obj)}{σ:St}{H:Hp}{s:nA}{a:fy}{y:V}{o:nt V}(I:Inv X X4 σ H s)(g:cT H a y o):s.TypeIs (.ref a) "dict":=by
 rcases g with⟨kvs,k,e,_,_⟩|⟨kvs,k,b,e,_,_,_⟩
 .let⟨_,_,vs,_,dd⟩:=oJ I.hok e;exact dd.typeIs
 .let⟨_,_,xs,_,dd⟩:=qG I.hok e;exact dd.typeIs
inductive CI(Q:VK)(x:V)(y:V)(H2:Hp):Z3
 |m a v(_:x=.ref a)(_:cT H2 a y (some v))(_:Q v H2)
def TQ(td ty:TE):TE:=λσ H Q=>td σ H λx H1=>ty σ H1 λy H2=>CI Q x y H2
inductive EM(Q:VK)(y:V)(x:V)(H2:Hp):Z3
 |m a o(_:x=.ref a)(_:cT H2 a y o)(_:Q (.bl o.isSome) H2)
def WU(ty td:TE):TE:=λσ H Q=>ty σ H λy H1=>td σ H1 λx H2=>EM Q y x H2
inductive zl(Q:VK)(y:V)(x:V)(H2:Hp):Z3
 |m a o(_:x=.ref a)(_:cT H2 a y o)(_:Q (.bl (!o.isSome)) H2)
def Ip(ty td:TE):TE:=λσ H Q=>ty σ H λy H1=>td σ H1 λx H2=>zl Q y x H2
inductive DK(D:Ends)(σ:St)(v:V)(x:V)(y:V)(H3:Hp):Z3
 |m a H4(_:x=.ref a)(_:mw H3 a y v H4)(_:D.nx σ H4)
def UK(td ty tv:TE):TS:=λD σ H=>tv σ H λv H1=>td σ H1 λx H2=>ty σ H2 λy a=>DK D σ v x y a
section
variable{X:Cx}{o i e value:Expr}{pos pos' tpos:Pos}{td ty tv:TE}
def bH(c:X.A.units+1<cLine)(j:PE X o td)(hi:PE X i ty)(hs:Tj i):PE X (.Subscript o i pos) (TQ td ty):=by intro X4 s σ H Q I h;refine Ir PySem.F.slot_dict_getitem.lookup hs (thn (j X4 s σ H _ I h) λ u s1 ⟨x,H1,I1,rx,q1⟩=>thn (hi X4 s1 σ H1 _ I1 q1) λ m s2 ⟨y,H2,I2,ry,a,v,ex,g,q2⟩=>?_);subst ex;obtain rfl:u=Value.ref a:=rx;exact{BW I2 g,Gd c I2 g ry λl s3 f b=>⟨v,H2,f,b,q2⟩}
def QX(b:X.A.units+1<cLine)(hi:PE X i ty)(f:PE X o td):PC X .In i o (WU ty td):=by
 intro X4 s σ H Q I h;refine thn (hi X4 s σ H _ I h) λ j s1 ⟨y,H1,I1,ry,q1⟩=>thn (f X4 s1 σ H1 _ I1 q1) λ u s2 ⟨x,H2,I2,rx,a,ov,ex,g,q2⟩=>?_
 subst ex;obtain rfl:u=Value.ref a:=rx;exact W0 b I2 g ry λs3 c=>{.bl ov.isSome,H2,c,G,q2}
def sA(b:X.A.units+1<cLine)(hi:PE X i ty)(f:PE X o td):PC X .NotIn i o (Ip ty td):=by
 intro X4 s σ H Q I h;refine thn (hi X4 s σ H _ I h) λ j s1 ⟨y,H1,I1,ry,q1⟩=>thn (f X4 s1 σ H1 _ I1 q1) λ u s2 ⟨x,H2,I2,rx,a,ov,ex,g,q2⟩=>?_
 subst ex;obtain rfl:u=Value.ref a:=rx;exact IF b I2 g ry λs3 c=>{.bl (!ov.isSome),H2,c,G,q2}
def jF(b:X.A.units+1<cLine)(j:PE X o td)(hi:PE X i ty)(c:PE X value tv)(hs:swapsWith value (some (.Subscript o i pos')) pos.line X.env=pure Z2) :
  PS X (.Assign [.Subscript o i pos'] value pos) (UK td ty tv):=by
 intro X4 s σ H D I h;refine wpAny_Assign_Subscript (thn (c X4 s σ H _ I h) λ r s1 ⟨v,H1,I1,rv,q1⟩=>thn (j X4 s1 σ H1 _ I1 q1) λ u s2 ⟨x,H2,I2,rx,q2⟩=>thn (hi X4 s2 σ H2 _ I2 q2) λ l s3 ⟨y,H3,I3,ry,a,H4,ex,g,q3⟩=>?_) hs;subst ex;obtain rfl:u=Value.ref a:=rx;exact Ga b I3 g ry rv λs4 f=>⟨σ,H4,f,q3⟩
end
def AR{P:q8}{w:q9}{H:Hp}(h:Heap)(a:sysModules<h.objs.size):bF P w H (h.push {.type "dict",Z0,.dict #[],#[]}) h.objs.size (.dK []):=
 {Xw _,abv.mpr<|Yo<|Xy a,[],.nil,Heap.DictOf.new h}
def O8:TE:=λ_ H Q=>∀p,H p=Z0->Q (.ref p) (Z9 H p<|.dK [])
section
variable{X:Cx}{pos:Pos}
def ic:PE X (.Dict [] [] pos) O8:=λX4 s σ H Q I h=>wpAny_Dict_empty {.ref (~~~s),_,I.laid (a:= ~~~s) (o:=.dK []) (t':=s.toks) (λ_ _ q=>Xf _ q) (Xk _)<|AR s.heap I.big,G,h _<|I.hok.fresh<|Xk _}
end
def BD:ee (TE×TE)->St->Hp->(ee (V×V)->Hp->Z3)->Z3
 |[],_,H,Q=>Q [] H
 |(tk,tv)::r,σ,H,Q=>tk σ H λx H1=>tv σ H1 λy H2=>BD r σ H2 λps a=>Q ((x,y)::ps) a
abbrev VV:ee (V×V)->ee (mu×mu)->Z3:=Paired λp q=>RelV p.1 q.1/\RelV p.2 q.2
def PPs(X:Cx)(pos:Pos)(keys:ee (nt Expr))(a:ee Expr)(b:ee (TE×TE)):Z3:=
 ∀(X4:ee (fy×Obj))(s:nA)(σ:St)(H:Hp)(Q:ee (V×V)->Hp->Z3),Inv X X4 σ H s->BD b σ H Q →
  wpAny (model X.prog X.w) X.A (evalPairs<|pairTrees keys a X.env pos) (λvs s'=>∃ps H',Inv X X4 σ H' s'/\VV ps vs/\Q ps H') X.xe s
def Cr{X:Cx}{pos:Pos}:PPs X pos [] [] []:=λX4 s σ H Q I h=>pairTrees_nil_walk {[],H,I,.nil,h}
def nk{X:Cx}{pos:Pos}{k v:Expr}{b:ee (nt Expr)}{vs:ee Expr}{c tv:TE}{a:ee (TE×TE)}(g:PE X k c)(i:PE X v tv)(f:PPs X pos b vs a) :
  PPs X pos (some k::b) (v::vs) ((c,tv)::a):=λX4 s σ H Q I h=>
 pairTrees_cons_walk (thn (g X4 s σ H _ I h) λ u s1 ⟨x,H1,I1,rx,q1⟩=>thn (i X4 s1 σ H1 _ I1 q1) λ j s2 ⟨y,H2,I2,ry,q2⟩=>thn (f X4 s2 σ H2 _ I2 q2) λ l s3 ⟨ps,H3,I3,rel,q3⟩=>{(x,y)::ps,H3,I3,.cons ⟨rx,ry⟩ rel,q3})
def nC(kvs more:ee (Key×V)):ee (Key×V):=more.foldl (λacc a=>putK acc a.1 a.2) kvs
def KV.merge:∀{more:ee (Key×V)}{a:ee (Key×mu)}{kvs:ee (Key×V)}{vs:ee (Key×mu)},KV more a->KV kvs vs->KV (nC kvs more) (merged vs a):=by
 intro more a kvs vs r;unfold KV at r
 induction r generalizing kvs vs with
 |nil=>intro q;exact q
 |@cons p q ps qs h t ih=>
  intro b;let e:KV (putK kvs p.1 p.2) (stored vs q.1 q.2):=by let:=b.put p.1 h.2;rwa[←h.1]
  exact ih e
def qR:∀(more kvs:ee (Key×V)),(nC kvs more).length≤kvs.length+more.length
 |[],kvs=>by show kvs.length≤kvs.length+0;omega
 |p::r,kvs=>by let h1:=qR r<|putK kvs p.1 p.2;let h2:=i9 kvs p.1 p.2;show(nC (putK kvs p.1 p.2) r).length≤_;rw[Zs];omega
def xF{P:q8}{w:q9}:∀{kvs:ee (Key×V)}{i:ee (mu×mu)},VV (kvs.map λg=>(kV g.1,g.2)) i->∃f,Carries (bN P w) i f/\KV kvs f
 |[],_,r=>by rw[aaK] at r;cases r;exact{[],True.intro,.nil}
 |p::kvs,_,r=>by
  rw[Yn] at r;cases r with
  |@cons a b as bs h t=>let⟨f,c,q⟩:=xF (P:=P) (w:=w) t;let⟨b1,b2⟩:=b;exact{(p.1,b2)::f,{mY h.1,G,c},.cons ⟨G,h.2⟩ q}
def Tr(a:ee (TE×TE)):TE:=λσ H Q=>∀p,H p=Z0->BD a σ (Z9 H p<|.dK []) λps H2=>H2 p=some (.dK [])/\∃kvs:ee (Key×V),ps=kvs.map (λb=>(kV b.1,b.2))/\kvs.length≤15/\Q (.ref p) (Z9 H2 p<|.dK<|nC [] kvs)
def Cq{X:Cx}{pos:Pos}{keys:ee (nt Expr)}{b:ee Expr}{i:ee (TE×TE)}(h:PPs X pos keys b i)(g:keys.all (·.isSome)=Z1)(m:keys.length=b.length)(h0:keys≠[])(j:keys.length≤15):PE X (.Dict keys b pos) (Tr i):=by
 intro X4 s σ H Q I q;let l:=I.hok.fresh<|Xk (~~~s);let x:=I.laid (a:= ~~~s) (o:=.dK []) (h':=s.heap.push {.type "dict",Z0,.dict #[],#[]}) (t':=s.toks) (λ_ _ q=>Xf _ q) (Xk _)<|AR s.heap I.big;refine wpAny_Dict_walk (knd:=bN X.prog X.w) g m h0 j (thn (h X4 _ σ _ _ x<|q _ l) λ y s2 ⟨ps,H2,I2,rel,e,kvs,ep,lk,q2⟩=>?_);subst ep;let⟨t,c,v⟩:=xF (P:=X.prog) (w:=X.w) rel;let⟨z,u,p,r,dd⟩:=oE I2.hok e;cases r;refine{t,c,dd,λh' f hs=>{.ref (~~~s),_,?_,G,q2}};let n:(nC [] kvs).length≤Z7:=by let h1:=qR kvs [];rw[List.length_nil] at h1;rw[aaq];omega
 let he:∃q,h'.get? (~~~s)=some q:=let ⟨q,_,_,hq,_⟩:=f;⟨q,hq⟩;exact qc I2 (by rw[e];exact True.intro) hs he<|wY n u (v.merge .nil) f
structure M1(X:Cx)(o:Expr)(m:Z6)(apos:Pos)(e:Expr)(cpos:Pos):Z3 where
 base:attributeBase o m X.env (eval o X.env)=eval o X.env
 few:((backTo cpos (starEach [e] X.env)).all (λx=>!x.1) &&(backToKw cpos (keywordEach [] X.env)).all (λx=>x.1.isSome)
  && decide (([e]:ee Expr).length +([]:ee Keyword).length +(if ([]:ee Keyword).isEmpty then 0 else 1)<30))=Z1
 line:(apos.endLine==cpos.line)=Z1
 trees:backTo cpos (starEach [e] X.env)=[(Z2,eval e X.env)]
structure M2(X:Cx)(o:Expr)(m:Z6)(apos:Pos)(e f:Expr)(cpos:Pos):Z3 where
 base:attributeBase o m X.env (eval o X.env)=eval o X.env
 few:((backTo cpos (starEach [e,f] X.env)).all (λx=>!x.1) &&(backToKw cpos (keywordEach [] X.env)).all (λx=>x.1.isSome)
  && decide (([e,f]:ee Expr).length +([]:ee Keyword).length +(if ([]:ee Keyword).isEmpty then 0 else 1)<30))=Z1
 line:(apos.endLine==cpos.line)=Z1
 trees:backTo cpos (starEach [e,f] X.env)=[(Z2,eval e X.env),(Z2,eval f X.env)]
def IsD(H:Hp)(a:fy):Z3:=(∃kvs,Rd H a<|.dK kvs)∨∃kvs,Rd H a<|.dT kvs
def xo{X:Cx}{X4:ee (fy×Obj)}{σ:St}{H:Hp}{s:nA}{a:fy}(I:Inv X X4 σ H s)(d:IsD H a) :
  s.TypeIs (.ref a) "dict"/\(∀b,Value.ref a=.ref b->∃c,s.heap.get? b=some c/\c.dict=Z0)/\(a==sysModules)=Z2:=by
 rcases d with⟨kvs,e⟩|⟨kvs,e⟩
 .let⟨_,f,vs,_,dd⟩:=oJ I.hok e;refine{dd.typeIs,λb q=>?_,f};cases q;let⟨c,_,_,h1,h2,_⟩:=dd;exact⟨c,h1,h2.2.1⟩
 .let⟨_,f,xs,_,dd⟩:=qG I.hok e;refine{dd.typeIs,λb q=>?_,f};cases q;let⟨c,_,_,h1,h2,_⟩:=dd;exact⟨c,h1,h2.2.1⟩
section
variable{X:Cx}{X4:ee (fy×Obj)}{σ:St}{H:Hp}{s:nA}{a:fy}{y d:V}{u r:mu}{o:nt V}{A:Around}{E:mu->nA->Z3}
def SE{Q:mu->nA->Z3}(q:A.units+1<cLine)(I:Inv X X4 σ H s)(g:cT H a y o)(n:RelV y u)(j:RelV d r)(h:∀m s',Inv X X4 σ H s'->RelV (o.getD d) m->Q m s') :
  wpAny (model X.prog X.w) A (call (.builtin "dict.get") [.ref a,u,r]) Q E s:=by
 rcases g with⟨kvs,k,e,i,l⟩|⟨kvs,k,b,e,i,p,l⟩
 .subst i;let⟨z,f,vs,c,dd⟩:=oJ I.hok e;refine aad ZX dd.typeIs aa3 (aaV _ _ _) (meets_dict_get_default (bN X.prog X.w) a (mY n) f r) {_,dd.mapOf,h _ _ (I.tok _) ?_};rw[l];exact(c.val k).getD j
 .subst i;cases (show u=Value.ref b from n);let⟨z,f,xs,c,dd⟩:=qG I.hok e;refine aad ZX dd.typeIs aa3 (aaV _ _ _) (meetsH_dict_get_default (tupleKind<|bN X.prog X.w) a b f r) {Zf q,k,xs,pZ I.hok p,dd,h _ _ (I.tok _) ?_};rw[l];exact(c.val k).getD j
end
inductive A3(ty:TE)(tx:TE)(σ:St)(Q:VK)(x:V)(H1:Hp):Z3
 |m a(_:x=.ref a)(_:IsD H1 a)(_:ty σ H1 λy H2=>tx σ H2 λz H3=>∃o,cT H3 a y o/\Q (o.getD z) H3)
def OS(td ty tx:TE):TE:=λσ H Q=>td σ H λx H1=>A3 ty tx σ Q x H1
inductive Ax(ty:TE)(σ:St)(Q:VK)(x:V)(H1:Hp):Z3
 |m a(_:x=.ref a)(_:IsD H1 a)(_:ty σ H1 λy H2=>∃kvs k v,H2 a=some (.dK kvs)/\y=kV k/\aL kvs k=some v/\Q v (Z9 H2 a (.dK (c5 kvs k))))
def Pn(td ty:TE):TE:=λσ H Q=>td σ H λx H1=>Ax ty σ Q x H1
section
variable{X:Cx}{o e f:Expr}{apos cpos:Pos}{td ty tx:TE}
def GC(i:X.A.units+1<cLine)(p:PE X o td)(he:PE X e ty)(c:PE X f tx)(m:M2 X o "get" apos e f cpos):PE X (.Call (.Attribute o "get" apos) [e,f] [] cpos) (OS td ty tx):=by
 intro X4 s σ H Q I h;refine aaz m.base m.few m.line Za ZX PySem.F.type_dict_get (thn (p X4 s σ H _ I h) λ u s1 ⟨x,H1,I1,rx,a,ex,d,q1⟩=>?_);subst ex;obtain rfl:u=Value.ref a:=rx;let⟨n,l,_⟩:=xo I1 d;exists n,l;rw[m.trees];refine YR G (Zq (Ym (thn (he X4 s1 σ H1 _ I1 q1) λ t s2 ⟨y,H2,I2,ry,q2⟩=>Ym (thn (c X4 s2 σ H2 _ I2 q2) λ q s3 ⟨z,H3,I3,rz,ov,g,q3⟩=>Yt ?_))))
 exact SE i I3 g ry rz λr s4 j b=>{_,H3,j,b,q3}
def vp(i:PE X o td)(he:PE X e ty)(m:M1 X o "pop" apos e cpos):PE X (.Call (.Attribute o "pop" apos) [e] [] cpos) (Pn td ty):=by intro X4 s σ H Q I h;refine aaz m.base m.few m.line Za aba PySem.F.type_dict_pop (thn (i X4 s σ H _ I h) λ u s1 ⟨x,H1,I1,rx,a,ex,d,q1⟩=>?_);subst ex;obtain rfl:u=Value.ref a:=rx;let⟨g,c,_⟩:=xo I1 d;exists g,c;rw[m.trees];refine YR G<|Zq<|Ym (thn (he X4 s1 σ H1 _ I1 q1) λ n s2 ⟨y,H2,I2,ry,kvs,k,v,ea,ey,l,q2⟩=>Yt ?_);subst ey;exact T8 I2 ea ry l (.inl G) λj s3 f b=>{v,_,f,b,q2}
end
section
variable{X:Cx}
inductive vd(xs:ee V)(H:Hp)(Q:VK):Z3
 |m a kvs(_:xs=[.ref a])(_:H a=some (.dK kvs))(_:Q (.int kvs.length) H)
def Fz:iM X (.builtin "len") vd:=by intro X4 s σ H xs us Q I r h;let⟨a,kvs,rfl,c,q⟩:=h;let⟨u,rfl,f⟩:=vals1 r;cases f;exact UH I (.inl c) λt s' b=>{.int kvs.length,H,b,⟨t,G⟩,q}
end
section
variable{κ:Type}[DecidableEq κ]
def GR{kvs:ee (κ×V)}{k:κ}(h:aL kvs k=Z0):¬k∈kvs.map (·.1):=by intro m;let⟨p,a,e⟩:=XI.mp m;let q:(kvs.any λb=>decide (b.1=k))=Z1:=Y5.mpr {p,a,Xr e};rw[iw,h] at q;exact absurd q o8
def DJ:∀{l:ee κ}{k:κ},l.Nodup->¬k∈l->(l++[k]).Nodup
 |[],k,_,_=>by simp
 |a::r,k,h,hk=>by
  let⟨h1,h2⟩:=Xq.mp h;show(a ::(r++[k])).Nodup;refine Xq.mpr {λm=>?_,DJ h2 λm=>hk<|XG.mpr<|Or.inr m};rcases Xv.mp m with q|q
  .exact h1 q
  .grind
def Iq{kvs:ee (κ×V)}{k:κ}(v:V)(a:(kvs.map (·.1)).Nodup)(h:aL kvs k=Z0):((putK kvs k v).map (·.1)).Nodup:=by rw[Hg v h,YX];exact DJ a<|GR h
def Ff{p:κ×V}{r:ee (κ×V)}{k:κ}(e:p.1=k):c5 (p::r) k=c5 r k:=by unfold c5;rw[Zr,Xn (by simp[e])]
def Fg{p:κ×V}{r:ee (κ×V)}{k:κ}(e:¬p.1=k):c5 (p::r) k=p::c5 r k:=by unfold c5;rw[Zr,Xm (by simp[e])]
def FF{kvs:ee (κ×V)}{k:κ}{p:κ×V}(h:p∈c5 kvs k):p∈kvs:=(YB.mp h).1
def vg:∀{kvs:ee (κ×V)}{k:κ},(kvs.map (·.1)).Nodup->((c5 kvs k).map (·.1)).Nodup
 |[],_,_=>aan
 |p::r,k,h=>by
  let h:(p.1::r.map (·.1)).Nodup:=h;let⟨h1,h2⟩:=Xq.mp h;by_cases e:p.1=k
  .rw[Ff e];exact vg h2
  .rw[Fg e];show(p.1 ::(c5 r k).map (·.1)).Nodup;refine Xq.mpr {λm=>h1 ?_,vg h2};let⟨q,a,b⟩:=XI.mp m;exact XI.mpr {q,FF a,b}
end
end L2
namespace Chk
def T(n:Z5):Z5:=n*128 % 2 ^ 64+n / 2 ^ 57
def Pk{n:Z5}:T n=2 ^ 7*(n % 2 ^ 57)+n / 2 ^ 57:=by unfold T;omega
def W8{n:Z5}(h:n<2 ^ 64):T n<2 ^ 64:=by unfold T;omega
def Tt{a b:Z5}(l:a<2 ^ 64)(n:b<2 ^ 64)(h:T a=T b):a=b:=by
 rw[Pk,Pk] at h;let f:=Nat.div_add_mod a<|2 ^ 57;let g:=Nat.div_add_mod b<|2 ^ 57;let m:a / 2 ^ 57<2 ^ 7:=by omega
 let j:b / 2 ^ 57<2 ^ 7:=by omega
 generalize a % 2 ^ 57=x at *;generalize b % 2 ^ 57=y at *;generalize a / 2 ^ 57=u at *;generalize b / 2 ^ 57=v at *;let c:x=y:=by omega
 let i:u=v:=by omega
 rw[←f,←g,c,i]
def D(n:Z5):Z5:=if n*2≥2 ^ 64 then n*2-2 ^ 64+1 else n*2
def ID:∀a b:Z5,(a ^^^ b)+2*(a &&& b)=a+b:=by
 intro a
 induction a using Nat.strongRecOn with
 |ind a l=>
  intro b;by_cases i:a=0
  .subst i;simp
  .let h:=l (a / 2) o6<|b / 2;let g:(a ^^^ b) / 2=a / 2 ^^^ b / 2:=Nat.xor_div_two;let j:(a &&& b) / 2=a / 2 &&& b / 2:=Nat.and_div_two;let m:(a ^^^ b) % 2 =(a % 2) ^^^ (b % 2):=by let:=Nat.xor_mod_two_pow (a:=a) (b:=b) (n:=1);simpa using this
   let o:(a ^^^ b) % 2 =(a+b) % 2:=by grind
   let c:(a &&& b) % 2 =(a % 2) &&&(b % 2):=by let:=Nat.and_mod_two_pow (a:=a) (b:=b) (n:=1);simpa using this
   let f:(a % 2) &&&(b % 2)=if a % 2=1/\b % 2=1 then 1 else 0:=by grind
   rw[f] at c;rw[←g,←j] at h;split at c <;> omega
def stp(c n:Z5):Z5:=T c ^^^ n
def chk(l:ee Z5):Z5:=l.foldl stp 0
def tT{c n:Z5}(a:c<2 ^ 64)(b:n<2 ^ 64):stp c n<2 ^ 64:=abH (W8 a) b
def fold_lt:∀{l:ee Z5}{c:Z5},c<2 ^ 64->(∀ n∈l,n<2 ^ 64)->l.foldl stp c<2 ^ 64
 |[],_,hc,_=>hc
 |n::r,c,hc,h=>fold_lt (l:=r) (tT hc<|h n Yx) λm a=>h m<|XR _ a
def xx{a b n:Z5}(h:a ^^^ n=b ^^^ n):a=b:=by
 let:(a ^^^ n) ^^^ n =(b ^^^ n) ^^^ n:=by rw[h]
 rwa[abr,abr,Nat.xor_self,Nat.xor_zero,Nat.xor_zero] at this
def B0{a b n:Z5}(h:n ^^^ a=n ^^^ b):a=b:=xx (n:=n) (by grind)
def Bw:∀{l:ee Z5}{c d:Z5},c<2 ^ 64->d<2 ^ 64->(∀ n∈l,n<2 ^ 64)->l.foldl stp c=l.foldl stp d->c=d
 |[],_,_,_,_,_,h=>h
 |n::r,c,d,hc,hd,hl,h=>by let a:=hl n Yx;let e:=Bw (l:=r) (tT hc a) (tT hd a) (λm b=>hl m<|XR _ b) h;exact Tt hc hd<|xx e
def DO{x y:Z5}(b:x<2 ^ 64)(f:y<2 ^ 64)(h1:∀ n∈pre,n<2 ^ 64)(h2:∀ n∈post,n<2 ^ 64)(h:chk (pre++x::post)=chk (pre++y::post)):x=y:=by unfold chk at h;rw[List.foldl_append,List.foldl_append,ZF,ZF] at h;let a:=fold_lt (c:=0) o7 h1;let e:=Bw (tT a b) (tT a f) h2 h;exact B0 e
end Chk
namespace L2
open PySem PySem.Spec PyProof.Rows
section
variable{X:Cx}
def fj:OpR X (binaryOp .FloorDiv) (rI (λ_ j=>0<j/\j.natAbs.log2<9000) λi j=>.int (i / j)):=opI λi j _ _ _ _ _ a q=>by let h1:↥0<j:=a.1;exact floordiv_int o6 (by grind)<|.inl<|PyProof.noPylong_of_log2 a.2
def yJ{a b n:Z4}{j1 j2 p1 p2 pos}(h:0≤b/\b≤1000000/\a.natAbs<2 ^ 64:=by decide)(e:a ^ b.toNat=n:=by first|rfl|decide +kernel) :
  PE X (.BinOp (.Constant (.int a) j1 p1) .Pow (.Constant (.int b) j2 p2) pos) (tC (.int n)):=λX4 s σ H Q I c=>
 aV Mi aA aA X4 s σ H Q I {_,_,G,G,h,by subst e;exact c}
def En:V->nt mu
 |.ty n=>some<|.type n
 |.ref a=>some<|.ref a
 |_=>Z0
inductive qO(K:Frag)(xs:ee V)(H:Hp)(Q:VK):Z3
 |m x c cv t b(_:xs=[x,c])(_:En c=some cv)(_:kD K H x t)(_:kitOne K t cv=some b)(_:Q (.bl b) H)
def uY:iM X (.builtin "isinstance") (qO X.K):=by
 rintro X4 s σ H xs us Q I r ⟨x,c,cv,t,b,rfl,a,ty,e,q⟩;let⟨u,v,rfl,f,g⟩:=vals2 r;let i:v=cv:=by cases c <;> simp[En] at a <;> subst a <;> exact g
 subst i;exact FZ I f ty e λh=>{.bl b,H,I.tok h,G,q}
end
def iC{c A B:Z3}[Decidable c](a:c)(h:A):if decide c=Z1 then A else B:=by grind
def gg{c A B:Z3}[Decidable c](a:¬c)(h:B):if decide c=Z1 then A else B:=by grind
def clos(cells:ee (Z6×fy)):ee (Z6×NameKind)->ee (Z6×fy)->ee (Z6×fy)
 |[],acc=>acc
 |(n,k)::r,acc=>clos cells r (if k==.free then(n,(cells.lookup n).getD 0)::acc else acc)
def sQ:∀l acc,(∀ y∈l,y.2=.free->∃c,env.cells.lookup y.1=some c) →
  (forIn l acc λ(x:Z6×NameKind)(i:ee (Z6×fy))=>if (x.2==NameKind.free)=Z1 then do let a ←cellOf env x.1;pure (ForInStep.yield ((x.1,a)::i)) else pure (ForInStep.yield i):Sem (ee (Z6×fy)))=pure (clos env.cells l acc)
 |[],acc,_=>by simp only[List.forIn_nil];rfl
 |(n,k)::r,acc,h=>by
  simp only[List.forIn_cons];cases f:(k==NameKind.free) with
  |false=>
   simp only[Bool.false_eq_true,if_false];let g:=sQ (env:=env) r acc λy b=>h y<|XR _ b
   simp only[pure_bind,g,clos,f,Bool.false_eq_true,if_false]
  |true=>
   let⟨c,j⟩:=h (n,k) Yx (⇑f);let e:cellOf env n=pure c:=by unfold cellOf;rw[show env.cells.lookup n=some c from j]
   simp only[if_true,e,pure_bind];let g:=sQ (env:=env) r ((n,c)::acc) λy b=>h y<|XR _ b
   rw[g];simp only[clos,f,if_true];rw[show env.cells.lookup n=some c from j];rfl
def qQ(h:∀ y∈scope.names,y.2=.free->∃c,env.cells.lookup y.1=some c):closureFor scope env=pure (clos env.cells scope.names []):=by let:=sQ (env:=env) scope.names [] h;unfold closureFor;simp only[bind_pure];exact this
def Ak:∀{names:ee (Z6×NameKind)}{acc:ee (Z6×fy)},(∀ y∈names,y.2=.free->∃c,cells.lookup y.1=some c)->(∀x c,acc.lookup x=some c->cells.lookup x=some c) →
  ∀x c,(clos cells names acc).lookup x=some c->cells.lookup x=some c
 |[],_,_,ha,x,c,h=>ha x c h
 |(n,k)::r,acc,hn,ha,x,c,h=>by
  refine Ak (names:=r) (λy a=>hn y<|XR _ a) ?_ x c h;intro x c h;split at h
  .rename_i b;let⟨d,f⟩:=hn (n,k) Yx (⇑b);rw[show cells.lookup n=some d from f,Xz] at h;split at h
   .grind
   .exact ha x c h
  .exact ha x c h
def ve:∀{names:ee (Z6×NameKind)}{acc:ee (Z6×fy)}{x:Z6},((x,NameKind.free)∈names∨∃c,acc.lookup x=some c)->∃c,(clos cells names acc).lookup x=some c
 |[],acc,x,h=>by
  rcases h with h|h
  .cases h
  .exact h
 |(n,k)::r,acc,x,h=>by
  refine ve (names:=r) ?_;rcases h with h|⟨c,h⟩
  .rcases XG.mp h with h|h
   .injection h with h1 h2
    subst h1;subst h2;exact .inr {(cells.lookup x).getD 0,by simp[List.lookup_cons]}
   .exact .inl h
  .right;split
   .rw[Xz];split
    .exact{_,G}
    .exact⟨c,h⟩
   .exact⟨c,h⟩
def mem_of_lookup{α:Type}{x:Z6}{a:α}:∀{l:ee (Z6×α)},l.lookup x=some a->(x,a)∈l
 |[],h=>by simp at h
 |(n,k)::r,h=>by
  rw[Xz] at h;split at h
  .rename_i e;injection h with h
   rw[eq_of_beq e,h];exact Yx
  .exact XR _ (mem_of_lookup h)
def pU{env:Env}{x:Z6}:∀(names:ee (Z6×NameKind)),
  (names.map λ(n,k)=>if (k==NameKind.free&&env.scope.kind==.function&&env.kindOf n==some .cell) then(n,NameKind.cell) else(n,k)).lookup x =
   (names.lookup x).map λk=>if (k==NameKind.free&&env.scope.kind==.function&&env.kindOf x==some .cell) then NameKind.cell else k
 |[]=>rfl
 |(n,k)::r=>by
  let a:=pU (env:=env) (x:=x) r;simp only[List.map_cons];by_cases e:x=n
  .grind
  .grind
def qx{a b n:Z5}(h1:a<n)(h2:n≤b):a≠b:=by omega
def Cx.comp(X:Cx)(scope:Scope)(N:ee Z6)(C:fy)(s₀:nA)(H₀:Hp)(ex:ee fy):Cx:=
 {X with N:=N,s₀:=s₀,H₀:=H₀,env:=compEnvC scope (clos X.env.cells scope.names []) C X.env,outer:=X.stack,stack:=X.stack,ex:=ex,fn:=λ_=>Z2,pn:=[]}
def st0(k:Z5)(cap:ee Z5)(σ:St):St:=List.replicate k Z0++cap.map λj=>(σ[j]?).getD Z0
def xA(b:ee Z6)(fs a:Scope)(N:ee Z6)(k:Z5)(cap:ee Z5):Bool:=
 decide (a.kind=.function)&&a.names.all (fun y=>decide (y.2≠.cell))&&a.names.all (fun y=>decide (y.2≠.local)||decide (a.names.lookup y.1=some .local)) &&
 a.names.all (λy=>decide (y.2≠.free)||decide (fs.names.lookup y.1=some .cell))&&decide (N.length=k+cap.length) &&
 (cap.zip<|N.drop k).all (λp=>decide (b[p.1]?=some p.2)&&decide (a.names.lookup p.2=some .free))
structure nJ(XN:ee Z6)(fs sc:Scope)(N:ee Z6)(k:Z5)(cap:ee Z5):Z3 where
 kind:sc.kind=.function
 ES:∀ y∈sc.names,y.2≠.cell
 locs:∀ y∈sc.names,y.2=.local->sc.names.lookup y.1=some .local
 frees:∀ y∈sc.names,y.2=.free->fs.names.lookup y.1=some .cell
 len:N.length=k+cap.length
 caps:∀ p∈cap.zip (N.drop k),XN[p.1]?=some p.2/\sc.names.lookup p.2=some .free
def nJ.of{k:Z5}(h:xA XN fs sc N k cap=Z1):nJ XN fs sc N k cap:=by unfold xA at h;simp only[Bool.and_eq_true,List.all_eq_true,decide_eq_true_eq,Bool.or_eq_true] at h;let⟨⟨⟨⟨⟨h1,h2⟩,h3⟩,h4⟩,h5⟩,h6⟩:=h;exact{h1,h2,λy a e=>(h3 y a).resolve_left λz=>z e,λy a e=>(h4 y a).resolve_left λz=>z e,h5,h6}
section
variable{X:Cx}{X4:ee (fy×Obj)}{σ:St}{H:Hp}{s:nA}{scope:Scope}{N:ee Z6}{k:Z5}{cap:ee Z5}{fp:ee fy}
def Cx.zd{x:Z6}{C:fy}{s₀:nA}{H₀:Hp}{ex:ee fy}(a:X.env.scope.kind=.function) :
  (X.comp scope N C s₀ H₀ ex).env.kindOf x =(scope.names.lookup x).map λk=>if (k==NameKind.free&&X.env.kindOf x==some .cell) then NameKind.cell else k:=by
 show(relabel scope X.env).names.lookup x=_;unfold relabel;rw[pU];congr 1;funext k;rw[a];simp
def Inv.rP(I:Inv X X4 σ H s)(c:nJ X.N X.env.scope scope N k cap):∀ y∈scope.names,y.2=.free->∃d,X.env.cells.lookup y.1=some d:=
 λy a e=>I.ok.has y.1<|.inl<|c.frees y a e
def Inv.block(I:Inv X X4 σ H s)(c:nJ X.N X.env.scope scope N k cap)(L:∀ b∈fp,eF X X4 H b)(ho:∀ b∈fp,∃o,s.heap.get? b=some o){D C:fy}{s1:nA}(F:( ~~~s)≤D)(hC:( ~~~s)≤C)(S:D≠C)(a2:s1.os=s.os)(hg:s1.gens=s.gens)(keep:∀b o,s.heap.get? b=some o->s1.heap.get? b=some o)(hl:s1.heap.get? D=some {.type "list",Z0,.seq #[],#[]})(hn:s1.heap.Ns C λ_=>Z0) :
  Inv (X.comp scope N C s H fp) [] (st0 k cap σ) (Z9 H D (.lst [])) s1:=by
 let a0:=I.rP c;let lt:∀ b∈fp,b<(~~~s):=λb r=>let ⟨o,e⟩:=ho b r;Xi e
 let U:∀x d,X.env.cells.lookup x=some d->d<(~~~s):=λx d e=>let ⟨v,o,q,_⟩:=I.cell x d e;Xi q
 let sub:=Ak (cells:=X.env.cells) (names:=scope.names) (acc:=[]) a0 (λx c h=>by simp at h);let fresh:∀a,~~~s≤a->H a=Z0:=λa h=>I.hok.fresh h
 let t:∀x,((X.comp scope N C s H fp).env.kindOf x=some .cell∨(X.comp scope N C s H fp).env.kindOf x=some .free)->(x,NameKind.free)∈scope.names:=λx h=>by
  rw[Cx.zd I.ok.kind] at h;cases e:scope.names.lookup x with
  |none=>rw[e] at h;simp at h
  |some kd=>
   let m:=mem_of_lookup e;rw[e] at h;cases kd with
   |free=>exact m
   |cell=>exact absurd G<|c.ES _ m
   |«local»=>simp at h
   |globalExplicit=>simp at h
   |globalImplicit=>simp at h
 let ok:(X.comp scope N C s H fp).Ok:=
  {mod:=I.ok.mod
   kind:=c.kind
   glob:=I.ok.glob
   blt:=I.ok.blt
   above:=hC
   inj:=λx y d hx hy=>I.ok.inj x y d (sub x d hx) (sub y d hy)
   has:=λx h=>ve (.inl<|t x h)
   cab:=λx d h=>by cases h
   hd:=I.ok.hd
   frames:=I.ok.frames
   stk:=.inl G
   exf:=λb r=>{λz=>qx (lt b r) hC z,λx d hx=>(L b r).2.2.2.2.1 x d<|sub x d hx}
   bs:=I.bs
   bsz:=Ye I.ok.bsz I.sz
   sO:=λb o e r=>by
    rcases(L b r).2.2.2.1 with h|h
    .exact I.ok.sO b o e h
    .exact absurd (Xi (I.ok.bs b o e).1) (Nat.not_lt.mpr h)
   rZ:=λb r hm=>by
    rcases XG.mp (I.BF b hm) with h|h
    .exact(L b r).2.1 h
    .exact(L b r).2.2.1 h
   jw:=I.stack
   frf:=I.yi}
 let nD:H D=Z0:=fresh D F;refine
  {ok:=ok
   os:=a2
   bare:=by rw[hg];exact I.bare
   base:=Un.laid keep F nD
   loc:={_,hn,?_}
   cell:=λx d h=>let ⟨v,q⟩:=I.cell x d<|sub x d h;{v,q.keeps keep}
   free:=by show Z9 H D _ C=Z0;rw[ah<|Yo S];exact fresh C hC
   fP:=λx d h=>by let h':=sub x d h;rw[ah<|qx (U x d h') F];exact I.fP x d h'
   pin:=λp hp=>by cases hp
   hok:=I.hok.laid keep F {Xw _,[],(0),.nil,hl}
   len:=by show(st0 k cap σ).length=N.length;unfold st0;rw[YI,Yu,Xj,c.len]}
 intro i x v hi l _;let hi:N[i]?=some x:=hi;unfold st0 at l;by_cases A:i<k
 .rw[Yg (by rwa[Yu]),List.getElem?_replicate,Xm A] at l;cases l
 .rw[Yp (by rw[Yu];omega),Yu,Xo] at l;cases O:cap[i-k]? with
  |none=>rw[O] at l;cases l
  |some j=>
   rw[O] at l;let l:(σ[j]?).getD Z0=some v:=XQ l;let a1:σ[j]?=some (some v):=by
    cases e:σ[j]? with
    |none=>rw[e] at l;cases l
    |some z=>rw[e] at l;exact congrArg some l
   let hm:(j,x)∈cap.zip (N.drop k):=by refine XM.mpr {i-k,?_};rw[List.getElem?_zip_eq_some];exists O;rwa[abI,show k +(i-k)=i by omega]
   let⟨hX,n⟩:=c.caps _ hm;let mf:=mem_of_lookup n;let f:=c.frees _ mf rfl;let⟨m,_,q⟩:=I.loc;let⟨u,ru,lk⟩:=q j x v hX a1<|.inr<|.inl f;refine{u,ru,.inr {.inl ?_,?_}}
   .rw[Cx.zd I.ok.kind,n];let:(X.env.kindOf x==some NameKind.cell)=Z1:=by show(X.env.scope.names.lookup x==some NameKind.cell)=Z1;rw[f];rfl
    simp[this]
   .rcases lk with⟨g,_⟩|⟨_,d,hd,Y⟩
    .let g:X.env.scope.names.lookup x=some .local:=g;rw[f] at g;cases g
    .let⟨d',B⟩:=ve (cells:=X.env.cells) (acc:=[]) (.inl mf:(x,NameKind.free)∈scope.names∨_);let:=sub x d' B;rw[hd] at this;cases this;exact{d,B,Y.keeps keep}
def Inv.Iu{H':Hp}{f:St}{s1:nA}{C:fy}{ps:ee (fy×Obj)}(I:Inv X X4 σ H s)(a:∀ b∈fp,eF X X4 H b)(J:Inv (X.comp scope N C s H fp) ps f H' s1):Inv X X4 σ H' s1:=
 I.Ai (ch:=fp) J.os J.base J.hok J.bare λb c=>{(a b c).2.2.2.1,(a b c).2.1,(a b c).2.2.2.2.1,(a b c).2.2.2.2.2}
end
def HP(k:Z5)(cap:ee Z5)(wi:TI)(g:TG)(tt:TT)(te:TE):TE:=λσ H Q=>wi σ H λJ H1=>∀D,H1 D=Z0->∃W:Z5->Z5->St->Hp->ee V->Z3,
 (∃m,W 0 m (st0 k cap σ) (Z9 H1 D<|.lst []) [])/\∀i m a H' ys,W i m a H' ys->(J.stop i H'/\Q (.ref D) H')∨
  (J.go i H'/\∃N:St->Hp->ee V->Z3,(∀a H' f,N a H' f->∃j,j<m/\W (i+1) j a H' f)/\∀x H2,J.yld i H' x H2->g x a H2 λc n=>tt c n λb l=>if b=Z1 then
   te c l λy h=>h D=some (.lst ys)/\ys.length<Z7/\N c (Z9 h D<|.lst<|ys++[y]) (ys++[y])
   else N c l ys)
def U7:TT:=λ_ H Q=>Q Z1 H
def PTs(X:Cx)(ifs:ee Expr)(t:TT):Z3:=
 ∀X4 s σ H Q,Inv X X4 σ H s->t σ H Q →
  wpAny (model X.prog X.w) X.A (forIn ifs Z1 λc r=>if r=Z1 then do let ok ←isTrue c X.env (eval c X.env);pure (ForInStep.yield ok) else pure<|ForInStep.yield r) (TP X X4 σ Q) X.xe s
def pQ:PTs X [] U7:=λ_ _ _ H _ I h=>wpAny_tests_nil ⟨H,I,h⟩
def DI(h:PT X c t):PTs X [c] t:=λX4 s σ H Q I a=>wpAny_tests_one<|h X4 s σ H Q I a
section
variable{prog:q8}{w:q9}{A:Around}{R:Result->nA->Z3}{s:nA}
def qZ(I:Z5->nA->Z3)(o:∀n s,I n s->wpAny (model prog w) A (pyNext it) (λr a=>match r with
   |none=>R (.ok .next) a
   |some v=>wpAny (model prog w) A (letOwnedTupleGo target it v) (λ_ s₀=>wpAny (model prog w) A (assign target env v) (λ_ g=>
     wpAny (model prog w) A (forIn ifs Z1 λc r=>if r=Z1 then do let ok ←isTrue c env (eval c env);pure (ForInStep.yield ok) else pure (ForInStep.yield r)) (λok b=>
      if ok=Z1 then wpAny (model prog w) A (eval elt env) (λx i=>wpAny (model prog w) A (call (.builtin "list.append") [acc,x]) (λ_ f=>∃m,m<n/\I m f) (notedBy (model prog w) A env λe s'=>R (.error e) s') i) (notedBy (model prog w) A env λe s'=>R (.error e) s') b
      else ∃m,m<n/\I m b) (notedBy (model prog w) A env λe s'=>R (.error e) s') g) (notedBy (model prog w) A env λe s'=>R (.error e) s') s₀) (notedBy (model prog w) A env λe s'=>R (.error e) s') a) (notedBy (model prog w) A env λe s'=>R (.error e) s') s)(n:Z5)(h:I n s) :
  codeAny (model prog w) A (.compLoop (.ListComp elt [{target,iter,ifs,(0)}] scope pos) 0 it acc env) R s:=by
 refine codeAny_loop G I (λn s t=>?_) n h;show wpAny _ A ((compTurn (.ListComp elt [{target,iter,ifs,(0)}] scope pos) 0 it acc env).onRaise λx=>do noteFrame x env;theTreesLotGoes x) _ _ s;refine wpAny_noted ?_;rw[compTurn_list];refine Xd<|ZV<|Xd (XY (o n s t) (λr a h₁=>?_) λ_ _ h'=>h');cases r with
 |none=>exact Xe h₁
 |some v=>
  refine Xd (XY h₁ (λ_ s₀ h₀=>?_) λ_ _ h'=>h');refine Xd (XY h₀ (λ_ g q=>Xd (XY q (λok b j=>?_) λ_ _ h'=>h')) λ_ _ h'=>h');cases ok with
  |false=>exact Xe ⟨G,j⟩
  |true=>exact Xd<|Xd (XY j (λx i p=>Xd (XY p (λ_ f l=>Xe<|Xe ⟨G,l⟩) λ_ _ h'=>h')) λ_ _ h'=>h')
end
section
variable{X:Cx}{scope:Scope}{N:ee Z6}{k:Z5}{cap:ee Z5}{tg iter elt:Expr}{ifs:ee Expr}{wi:TI}{g:TG}{tt:TT}{te:TE}{pos:Pos}
def zz{E:mu->nA->Z3}{use:nt (mu->Sem Unit)}{QQ:mu->nA->Z3}{X4:ee (fy×Obj)}{s:nA}{σ:St}{H:Hp}{it:fy}{fp:ee fy}{tn:Z5->Heap->Z3}{J:It}{Q:VK}(hc:X.calm=Z1)(c:nJ X.N X.env.scope scope N k cap)(hg:∀C s₀ H₀ ex,PG (X.comp scope N C s₀ H₀ ex).nox tg g)(ht:∀C s₀ H₀ ex,PTs (X.comp scope N C s₀ H₀ ex).nox ifs tt)(he:∀C s₀ H₀ ex,PE (X.comp scope N C s₀ H₀ ex).nox elt te)(I:Inv X X4 σ H s)(T:Turn X.prog X.w X.K tg J fp it tn)(st:tn 0 s.heap)(hf:∀ b∈fp,eF X X4 H b)(h:∀D,H D=Z0->∃W:Z5->Z5->St->Hp->ee V->Z3,(∃m,W 0 m (st0 k cap σ) (Z9 H D (.lst [])) [])/\∀i m a H' ys,W i m a H' ys->(J.stop i H'/\Q (.ref D) H')∨
   (J.go i H'/\∃N:St->Hp->ee V->Z3,(∀a H' a1,N a H' a1->∃m',m'<m/\W (i+1) m' a H' a1)/\∀x H2,J.yld i H' x H2->g x a H2 λF H3=>tt F H3 λb H4=>if b=Z1 then
    te F H4 λy H5=>H5 D=some (.lst ys)/\ys.length<Z7/\N F (Z9 H5 D (.lst (ys++[y]))) (ys++[y])
    else N F H4 ys))(hQ:∀D C s1 H',Inv X X4 σ H' s1->Q (.ref D) H'->(∃m,s1.heap.Ns C m)->H' C=Z0->X.s₀.heap.objs.size≤C->C≠X.env.locals->(∀x c,X.env.cells.lookup x=some c->c≠C)->(∀ p∈X.pn++X4,p.1≠C) →
   compPost (model X.prog X.w) X.A E use QQ (.ref D) C (.ok .next) s1) :
  wpAny (model X.prog X.w) X.A (newList []) (λacc s₃=>wpAny (model X.prog X.w) X.A (newFunctionEnv scope X.env.globals (clos X.env.cells scope.names []) [] X.env.qual Z0 .none (some X.env)) (λO a4=>codeAny (model X.prog X.w) X.A (.compStart (.ListComp elt [{tg,iter,ifs,(0)}] scope pos) 0 (.ref it) acc {O with scope:=relabel scope X.env}) (compPost (model X.prog X.w) X.A E use QQ acc O.locals) a4) E s₃) E s:=by
 refine Y3<|wpAny_newFunctionEnv c.ES (by grind) (λh₁ j f=>?_) c.kind;dsimp only at j f ⊢;generalize hH2:s.heap.push {.type "list",Z0,.seq ([]:ee mu).toArray,#[]}=H2 at j f ⊢;let hC:H2.objs.size= ~~~s+1:=by rw[←hH2,Yz]
 let a2:( ~~~s)≠H2.objs.size:=by grind
 let z:( ~~~s)≤H2.objs.size:=by grind
 let keep:∀b o,s.heap.get? b=some o->h₁.get? b=some o:=λb o e=>by exact f.extBut b o (qx (Xi e) z)<|Xf _<|hH2 ▸ Xf _ e
 let hl:h₁.get? (~~~s)=some {.type "list",Z0,.seq #[],#[]}:=f.extBut _ _ a2<|Xf _<|hH2 ▸ Xp _ G;let nD:H (~~~s)=Z0:=I.hok.fresh<|Xk _;let⟨W,⟨m0,w0⟩,a3⟩:=h _ nD;let ho:∀ b∈fp,∃o,s.heap.get? b=some o:=λb l=>let ⟨o,e,_⟩:=T.obj _ _ st b l;⟨o,e⟩
 let ab:X.s₀.heap.objs.size≤H2.objs.size:=Ye I.sz z;let ae:H2.objs.size≠X.env.locals:=(qx I.lt z).symm;let a8:∀x d,X.env.cells.lookup x=some d->d≠H2.objs.size:=λx d e=>by let⟨v,o,q,_⟩:=I.cell x d e;exact qx (Xi q) z
 let a7:∀ p∈X.pn++X4,p.1≠H2.objs.size:=λp hp=>by exact qx (Xi (I.pin p hp).1) z
 let L:∀s₃:nA,s₃={s with heap:=h₁,toks:=s.toks +([]:ee (Z6×mu)).length} →
   codeAny (model X.prog X.w) X.A (.compLoop (.ListComp elt [{tg,iter,ifs,(0)}] scope pos) 0 (.ref it) (.ref (~~~s))<|compEnvC scope (clos X.env.cells scope.names []) H2.objs.size X.env)
    (compPost (model X.prog X.w) X.A E use QQ (.ref (~~~s)) H2.objs.size) s₃:=by
  rintro s₃ rfl;let I0:Inv (X.comp scope N H2.objs.size s H fp) [] (st0 k cap σ) (Z9 H (~~~s) (.lst [])) {s with heap:=h₁,toks:=s.toks +([]:ee (Z6×mu)).length}:=
   I.block c hf ho (Xk _) z a2 G G keep hl (⇑j)
  let B:∀{H':Hp}{ps:ee (fy×Obj)},(∀ b∈fp,H' b=Z0)->ps=[]->∀ b∈fp,eF (X.comp scope N H2.objs.size s H fp).nox ps H' b:=λhn hp b l=>by subst hp;exact{hn b l,(I0.ok.exf b l).1,I0.ok.rZ b l,.inl l,(I0.ok.exf b l).2,λp hp=>by cases hp}
  let ag:∀ b∈fp,Z9 H (~~~s) (.lst []) b=Z0:=λb l=>by let⟨o,e⟩:=ho b l;rw[ah<|qx (Xi e)<|Xk _];exact(hf b l).1
  refine qZ (λn s'=>∃i a H' ys,Inv (X.comp scope N H2.objs.size s H fp).nox [] a H' s'/\tn i s'.heap/\(∀ b∈fp,H' b=Z0)/\W i n a H' ys) ?_ m0
   {(0),_,_,[],I0.qm _,T.keep _ _ _ st λb _ o e=>keep b o e,ag,w0}
  rintro n s' ⟨i,a,H',ys,I',a5,a6,w'⟩;rcases a3 i n a H' ys w' with⟨a0,q⟩|⟨go,NN,a9,step⟩
  .refine XY (T.done (X.comp scope N H2.objs.size s H fp).nox G G G hc i [] s' a H' (λ_ _=>False) I' (B a6 G) a5 a0) (λ r s4 ⟨hr,I4⟩=>?_) (λ_ _ x=>x.elim);subst hr;exact hQ _ _ s4 H' (I.Iu hf I4.Ao) q (let ⟨m,hn,_⟩:=I4.loc;⟨m,hn⟩) I4.free ab ae a8 a7
  .refine XY (T.item (X.comp scope N H2.objs.size s H fp).nox G G G hc i [] s' a H' (λ_ _=>False) I' (B a6 G) a5 go) (λ r s4 ⟨u,hr,h4⟩=>?_) (λ_ _ x=>x.elim);subst hr;refine XY h4 (λ _ s5 ⟨x,H5,I5,r5,y5,st5,fr5⟩=>?_) λ_ _ x=>x.elim;let ac:=I5.pinned (B fr5 G)<|T.obj _ _ st5;refine XY (hg _ _ _ _ _ s5 a H5 x u _ ac r5<|step x H5 y5) (λ _ s6 ⟨t,H6,I6,q6⟩=>?_) λ_ _ x=>x.elim;refine XY (ht _ _ _ _ _ s6 t H6 _ I6 q6) (λ ok s7 ⟨H7,I7,q7⟩=>?_) λ_ _ x=>x.elim;let again:∀{S:Hp}{Y:nA}{U:ee V},Inv (X.comp scope N H2.objs.size s H fp).nox ([]++sU fp s5.heap) t S Y->NN t S U →
     ∃m,m<n/\∃i a H' ys,Inv (X.comp scope N H2.objs.size s H fp).nox [] a H' Y/\tn i Y.heap/\(∀ b∈fp,H' b=Z0)/\W i m a H' ys:=λ{S Y U}I8 n8=>by
    let⟨m',hm,w8⟩:=a9 _ _ _ n8;refine{m',hm,i+1,t,S,U,I8.qo,T.keep _ _ _ st5 λb l o e=>(I8.pin (b,o)<|XD _<|XD _<|mQ l e).1,λb l=>?_,w8};let⟨o,e,d⟩:=T.obj _ _ st5 b l;exact(I8.pin (b,o)<|XD _<|XD _<|mQ l e).2.1
   cases ok with
   |false=>exact again I7 q7
   |true=>refine XY (he _ _ _ _ _ s7 t H7 _ I7 q7) (λ y Y ⟨v,S,I8,rv,hD,hlen,w8⟩=>?_) λ_ _ x=>x.elim;refine XY (dH (X:=(X.comp scope N H2.objs.size s H fp).nox) _ Y t S (.ref (~~~s)) [v] (.ref (~~~s)) [y] (λ_ H9=>H9=Z9 S (~~~s) (.lst<|ys++[v])) I8 G (.cons rv .nil) {_,ys,v,G,G,hD,hlen,G}) (λ _ s9 ⟨_,H9,I9,_,e9⟩=>?_) λ_ _ x=>x.elim;subst e9;exact again I9 w8
 exact codeAny_compStart_list (L _ G)<|T.self _ 0 _ _ _ (T.keep _ _ _ st λb _ o e=>keep b o e)<|L _ G
def pY(v:X.calm=Z1)(f:xA X.N X.env.scope scope N k cap=Z1)(hi:PI X tg iter wi)(r:∀C s₀ H₀ ex,PG (X.comp scope N C s₀ H₀ ex).nox tg g)(p:∀C s₀ H₀ ex,PTs (X.comp scope N C s₀ H₀ ex).nox ifs tt)(he:∀C s₀ H₀ ex,PE (X.comp scope N C s₀ H₀ ex).nox elt te)(hs:∀x,foldedSetIterable iter X.env x=pure x:=by intro _;rfl):PE X (.ListComp elt [{tg,iter,ifs,(0)}] scope pos) (HP k cap wi g tt te):=by
 intro X4 s σ H Q I h;let c:=nJ.of f;rw[eval_ListComp];refine aaM (use:=Z0) (cl:=clos X.env.cells scope.names []) G hs (qQ<|I.rP c) c.kind c.locs (thn (hi X4 s σ H _ I h) λB j h₁=>thn h₁ λy l a=>?_);let⟨it,fp,A,J,H2,e,t,T,st,n,q⟩:=a;subst e;exact zz (use:=Z0) v c r p he t T st n q λ D C s1 H' u q1 ⟨m,hn⟩ hCn hCs hCl hCc hCp=>
  {m,hn,λh' i=>{.ref D,H',u.turned (t':=s1.toks) (λb o z e=>i.extBut b o z e) hCn hCl (.inr hCs) hCc hCp,G,q1}}
def wW{i:Z5}{x:Z6}{pos' f:Pos}(O:X.N.Nodup)(p:X.N[i]?=some x)(hx:Loc X.env.scope x)(S:X.calm=Z1)(n:xA X.N X.env.scope scope N k cap=Z1)(hi:PI X tg iter wi)(hg:∀C s₀ H₀ ex,PG (X.comp scope N C s₀ H₀ ex).nox tg g)(F:∀C s₀ H₀ ex,PTs (X.comp scope N C s₀ H₀ ex).nox ifs tt)(he:∀C s₀ H₀ ex,PE (X.comp scope N C s₀ H₀ ex).nox elt te)(t:swapsWith (.ListComp elt [{tg,iter,ifs,(0)}] scope pos) (some (.Name x pos')) f.line X.env=pure Z1:=by rfl)(hs:∀x,foldedSetIterable iter X.env x=pure x:=by intro _; rfl)(l:X.fn x=Z1∨X.env.scope.names.lookup x=some .local:=by first|exact .inl rfl|exact .inr rfl|assumption) :
  PS X (.Assign [.Name x pos'] (.ListComp elt [{tg,iter,ifs,(0)}] scope pos) f) (Ed (HP k cap wi g tt te) (qF i)):=by
 intro X4 s σ H D I h;let c:=nJ.of n;rw[exec_Assign_Name_used _ _ _ _ t];refine Xd<|ZV<|Xd ?_;show wpAny _ X.A (do let _ ←comprehension (.ListComp elt [{tg,iter,ifs,(0)}] scope pos) scope X.env _ (newList []) Z2 (eval iter X.env) (some (assign (.Name x pos') X.env))) _ _ s;refine Xd (XY (aaM (use:=some<|assign (.Name x pos') X.env) (Q:=λ_ s'=>SP X X4 D .next s') (cl:=clos X.env.cells scope.names []) G hs (qQ<|I.rP c) c.kind c.locs
  (thn (hi X4 s σ H _ I h) λxv y h₁=>thn h₁ λB u j=>?_)) (λ_ s' hq=>Xe<|Xe hq) λ_ _ e=>e)
 let⟨it,fp,tn,J,H2,e,I2,T,st,hf,q⟩:=j;subst e;refine zz (use:=some<|assign (.Name x pos') X.env) (Q:=λv H1=>qF i v σ H1 D.nx) S c hg F he I2 T st hf q λ L C s1 H' I1 q1 ⟨m,hn⟩ hCn hCs hCl hCc hCp=>?_
 show wpAny _ X.A (assign (.Name x pos') X.env<|.ref L) _ _ s1;refine wpAny_assign_Name<|yW (v:=.ref L) I1 O p hx G (λ s2 U ⟨a,sb,ha⟩=>{m,?_,λh' r=>?_}) l
 .refine hn.sameBut sb ?_;rcases ha with z|z
  .rw[z];exact hCl
  .grind
 .exact{_,H',U.turned (t':=s2.toks) (λb o Y e=>r.extBut b o Y e) hCn hCl (.inr hCs) hCc hCp,q1}
end
def oO{K:Frag}{a:fy}(D:fy){xs:ee V}{g:TG}{tt:TT}{te:TE}{σ:St}{H:Hp}{R:Hp->Z3}(h:Z5->St->Hp->ee V->Z3)(h0:h 0 σ H [])(u:∀i σ H ys,i≤xs.length->h i σ H ys->X0 K H a xs)(hs:∀i x σ H ys,xs[i]?=some x->h i σ H ys->g x σ H λc r=>tt c r λb n=>if b=Z1 then
   te c n λy l=>l D=some (.lst ys)/\ys.length<Z7/\h (i+1) c (Z9 l D (.lst (ys++[y]))) (ys++[y]) else h (i+1) c n ys)(v:∀σ H ys,h xs.length σ H ys->R H) :
  ∃W:Z5->Z5->St->Hp->ee V->Z3,(∃m,W 0 m σ H [])/\∀i m f H' ys,W i m f H' ys->((Itl K a).stop i H'/\R H')∨
   ((Itl K a).go i H'/\∃N:St->Hp->ee V->Z3,(∀f H' j,N f H' j->∃s,s<m/\W (i+1) s f H' j)/\∀x H2,(Itl K a).yld i H' x H2->g x f H2 λc r=>tt c r λb n=>if b=Z1 then
    te c n λy l=>l D=some (.lst ys)/\ys.length<Z7/\N c (Z9 l D (.lst (ys++[y]))) (ys++[y])
    else N c n ys):=by
 exists λi m σ H ys=>m=xs.length-i/\i≤xs.length/\h i σ H ys,{xs.length,o8,Xw _,h0};rintro i m σ H ys ⟨rfl,hi,p⟩;let q:=u i σ H ys hi p;by_cases o:i<xs.length
 .refine .inr {{xs,xs[i],q,by simp[o]},h (i+1),λf H' j t=>{xs.length -(i+1),o6,G,o,t},λx H' y=>?_};let⟨e,y⟩:=y;subst e;exact hs i x σ _ ys (y xs q) p
 .let e:i=xs.length:=by omega
  subst e;exact .inl {{xs,q,Xk _},v σ H ys p}
def El{lo:Z4}{n:Z5}(D:fy){g:TG}{tt:TT}{te:TE}{σ:St}{H:Hp}{R:Hp->Z3}(f:Z5->St->Hp->ee V->Z3)(h0:f 0 σ H [])(hs:∀i σ H ys,i<n->f i σ H ys->g (.int (lo+i)) σ H λa q=>tt a q λb o=>if b=Z1 then
   te a o λy l=>l D=some (.lst ys)/\ys.length<Z7/\f (i+1) a (Z9 l D (.lst (ys++[y]))) (ys++[y]) else f (i+1) a o ys)(t:∀σ H ys,f n σ H ys->R H) :
  ∃W:Z5->Z5->St->Hp->ee V->Z3,(∃m,W 0 m σ H [])/\∀i m c H' ys,W i m c H' ys->((Itr lo n).stop i H'/\R H')∨
   ((Itr lo n).go i H'/\∃N:St->Hp->ee V->Z3,(∀c H' h,N c H' h->∃r,r<m/\W (i+1) r c H' h)/\∀x H2,(Itr lo n).yld i H' x H2->g x c H2 λa q=>tt a q λb o=>if b=Z1 then
    te a o λy l=>l D=some (.lst ys)/\ys.length<Z7/\N a (Z9 l D (.lst (ys++[y]))) (ys++[y])
    else N a o ys):=by
 exists λi m σ H ys=>m=n-i/\i≤n/\f i σ H ys,{n,o8,Xw _,h0};rintro i m σ H ys ⟨rfl,hi,p⟩;by_cases j:i<n
 .refine .inr {j,f (i+1),λc H' h s=>{n -(i+1),o6,G,j,s},λx H' y=>?_};let⟨e,y⟩:=y;subst e y;exact hs i σ _ ys j p
 .let e:i=n:=by omega
  subst e;exact .inl {Xk _,t σ H ys p}
section
variable{X:Cx}{K:Frag}
def Dv{es:ee Expr}{k:Z5}{t:TGs}{n:Z5}{pos:Pos}(b:X.K=K)(c:X.calm=Z1)(h:PGs X es t)(f:(assignEach es X.env).length=n:=by rfl)(a:(assignEach es X.env).findIdx? (·.1)=Z0:=by rfl) :
  PG X (.Tuple es k pos) (GB K n t):=by subst b;exact pR c h f a
def Br(a:X.K=K):IxR X (GY K):=by subst a;exact bx
def ux(a:X.K=K):IxR X (Hw K):=by subst a;exact eW
end
def ak.new(h:H p=Z0):ak H (Z9 H p o):=λb u e=>by rw[ah<|aq e h];exact e
open PySem PySem.Spec PyProof.Rows PySem.SeqAt
def cR(K:Frag)(H:Hp)(R:V->V->Bool->Z3)(x y:V)(b:Bool):Z3:=
 ∃a c xs ys e,x=.ref a/\y=.ref c∧
  ((X0 K H a xs/\X0 K H c ys/\xs.length=ys.length/\(∀(j:Z5)x' y',xs[j]?=some x'->ys[j]?=some y'->R x' y' (e j))/\b =(List.range xs.length).all e)∨
   (X0 K H a xs/\X0 K H c ys/\xs.length≠ys.length/\b=Z2)∨
   (X3 K H a xs/\X3 K H c ys/\(∀(j:Z5)x' y',xs[j]?=some x'->ys[j]?=some y'->R x' y' (e j))/\b =((List.range<|min xs.length ys.length).all e&&xs.length==ys.length)))
def EqI(K:Frag)(H:Hp):Z5->V->V->Bool->Z3
 |0=>λx y b=>(gV x=Z1/\gV y=Z1/\b=eqV x y)∨∃a,x=.ref a/\y=.ref a/\b=Z1
 |n+1=>λx y b=>EqI K H n x y b∨(x≠y/\cR K H (EqI K H n) x y b)
section
variable{X:Cx}{X4:ee (fy×Obj)}{σ:St}{H:Hp}{s:nA}{A:Around}
def qz{xs ys:ee V}{us vs:ee mu}{R:V->V->Bool->Z3}{e:Z5->Bool}(r:Vals xs us)(q:Vals ys vs)(he:∀(j:Z5)x' y',xs[j]?=some x'->ys[j]?=some y'->R x' y' (e j))(h:∀x y b u v,R x y b->RelV x u->RelV y v->EqAt A s u v b):∀j(h1:j<us.toArray.size)(h2:j<vs.toArray.size),EqAt A s us.toArray[j] vs.toArray[j] (e j):=λj h1 h2=>by
 let g:j<us.length:=⇑h1
 let i:j<vs.length:=⇑h2
 let l1:=r.length;let l2:=q.length;let ex:xs[j]?=some (xs[j]'o6):=Xh o6;let a:ys[j]?=some (ys[j]'o6):=Xh o6;let⟨u,o,c⟩:=Vals.get r ex;let⟨v,n,l⟩:=Vals.get q a;let f:us.toArray[j]=u:=by grind
 let m:vs.toArray[j]=v:=by grind
 rw[f,m];exact h _ _ _ _ _ (he j _ _ ex a) c l
def cR.rc(I:Inv X X4 σ H s)(g:∀x y b u v,R x y b->RelV x u->RelV y v->EqAt A.in1 s u v b)(f:A.units<cLine)(h:cR X.K H R x y b)(j:RelV x u)(l:RelV y v):RcAt A s u v b:=by
 let⟨a,c,xs,ys,e,rfl,rfl,h⟩:=h;cases j;cases l;rcases h with⟨h1,h2,i,he,rfl⟩|⟨h1,h2,i,rfl⟩|⟨h1,h2,he,rfl⟩
 .let⟨us,r,p,_⟩:=I.list h1;let⟨vs,q,p2,_⟩:=I.list h2;let l1:=r.length;let l2:=q.length;let z:=RcAt.lists (A:=A) (e:=e) p.isList p2.isList (by simp;omega) f<|qz r q he g;rwa[show us.toArray.size=xs.length by simp;omega] at z
 .let⟨us,r,p,_⟩:=I.list h1;let⟨vs,q,p2,_⟩:=I.list h2;let l1:=r.length;let l2:=q.length;exact RcAt.lists_lengths p.isList p2.isList (by simp;omega) f
 .let⟨us,r,p,_⟩:=I.tuple h1;let⟨vs,q,p2,_⟩:=I.tuple h2;let l1:=r.length;let l2:=q.length;let z:=RcAt.tuples (A:=A) (e:=e) (show s.heap.IsTuple a us.toArray from p) (show s.heap.IsTuple c vs.toArray from p2) f<|qz r q he g;rwa[show us.toArray.size=xs.length by simp;omega,show vs.toArray.size=ys.length by simp;omega] at z
def cR.Wg(I:Inv X X4 σ H s)(g:∀x y b u v,R x y b->RelV x u->RelV y v->EqAt A.in1 s u v b)(f:A.units<cLine)(h:cR X.K H R x y b)(j:RelV x u)(l:RelV y v):RcNeAt A s u v (!b):=by
 let⟨a,c,xs,ys,e,rfl,rfl,h⟩:=h;cases j;cases l;rcases h with⟨h1,h2,i,he,rfl⟩|⟨h1,h2,i,rfl⟩|⟨h1,h2,he,rfl⟩
 .let⟨us,r,p,_⟩:=I.list h1;let⟨vs,q,p2,_⟩:=I.list h2;let l1:=r.length;let l2:=q.length;let z:=RcNeAt.lists (A:=A) (e:=e) p.isList p2.isList (by simp;omega) f<|qz r q he g;rwa[show us.toArray.size=xs.length by simp;omega] at z
 .let⟨us,r,p,_⟩:=I.list h1;let⟨vs,q,p2,_⟩:=I.list h2;let l1:=r.length;let l2:=q.length;exact RcNeAt.lists_lengths p.isList p2.isList (by simp;omega) f
 .let⟨us,r,p,_⟩:=I.tuple h1;let⟨vs,q,p2,_⟩:=I.tuple h2;let l1:=r.length;let l2:=q.length;let z:=RcNeAt.tuples (A:=A) (e:=e) (show s.heap.IsTuple a us.toArray from p) (show s.heap.IsTuple c vs.toArray from p2) f<|qz r q he g;rwa[show us.toArray.size=xs.length by simp;omega,show vs.toArray.size=ys.length by simp;omega] at z
def EqI.at(I:Inv X X4 σ H s):∀(n:Z5){A:Around}{x y:V}{b:Bool}{u v:mu},A.units+n<cLine->EqI X.K H n x y b->RelV x u->RelV y v->EqAt A s u v b
 |0,A,x,y,b,u,v,hu,h,f,g=>by
  rcases h with⟨j,l,rfl⟩|⟨a,rfl,rfl,rfl⟩
  .exact EG f g j l
  .cases f;cases g;exact EqAt.same _
 |n+1,A,x,y,b,u,v,hu,h,f,g=>by
  rcases h with h|⟨i,h⟩
  .exact EqI.at I n o6 h f g
  .let z:=cR.rc (A:=A) I (λx y b u v h f g=>EqI.at I n (A:=A.in1) (by grind) h f g) o6 h f g;let⟨a,c,xs,ys,e,rfl,rfl,_⟩:=h;cases f;cases g;exact EqAt.of_refs (λe=>i (by rw[e])) z
inductive HL(K:Frag)(x:V)(y:V)(H:Hp)(Q:VK):Z3
 |m n b(_:n≤8)(_:cR K H (EqI K H n) x y b)(_:Q (.bl b) H)
inductive MQ(K:Frag)(x:V)(y:V)(H:Hp)(Q:VK):Z3
 |m n b(_:n≤8)(_:cR K H (EqI K H n) x y b)(_:Q (.bl (!b)) H)
def jE(f:X.A.units+64<cLine):OpR X (compareOp .Eq) (HL X.K):=by rintro X4 s σ H x y v u Q I c a ⟨n,b,g,h,q⟩;exact cR.rc (A:=X.A) I (λx y b u v h c a=>EqI.at I n (A:=X.A.in1) (by grind) h c a) o6 h c a X.prog X.w X.xe _ {.bl b,H,I,G,q}
def zy(f:X.A.units+64<cLine):OpR X (compareOp .NotEq) (MQ X.K):=by rintro X4 s σ H x y v u Q I c a ⟨n,b,g,h,q⟩;exact cR.Wg (A:=X.A) I (λx y b u v h c a=>EqI.at I n (A:=X.A.in1) (by grind) h c a) o6 h c a X.prog X.w X.xe _ {.bl (!b),H,I,G,q}
end
def cR.Eb{K:Frag}{H:Hp}{a c:fy}{xs:ee V}(h1:X0 K H a xs)(h2:X0 K H c xs)(g:∀ x∈xs,EqI K H n x x Z1):cR K H (EqI K H n) (.ref a) (.ref c) Z1:=
 ⟨a,c,xs,xs,λ_=>Z1,G,G,.inl ⟨h1,h2,G,λj x y b f=>by rw[b] at f;cases f;exact g x<|Xl b,o8⟩⟩
def cR.HV{K:Frag}{H:Hp}{a c:fy}{xs:ee V}(h1:X3 K H a xs)(h2:X3 K H c xs)(g:∀ x∈xs,EqI K H n x x Z1):cR K H (EqI K H n) (.ref a) (.ref c) Z1:=
 ⟨a,c,xs,xs,λ_=>Z1,G,G,.inr (.inr ⟨h1,h2,λj x y b f=>by rw[b] at f;cases f;exact g x<|Xl b,o8⟩)⟩
def CF{K:Frag}{H:Hp}(i:Z4):EqI K H 0 (.int i) (.int i) Z1:=.inl {G,G,by simp[eqV]}
def Hh{K:Frag}{H:Hp}(a:fy):EqI K H 0 (.ref a) (.ref a) Z1:=.inr ⟨a,G,G,G⟩
def HS(h1:PI X tg it w1)(h2:PI X tg it w2):PI X tg it (λσ H R=>w1 σ H R∨w2 σ H R):=λX4 s σ H R I h=>h.elim (h1 X4 s σ H R I)<|h2 X4 s σ H R I
def EI{a b n:Z5}(h1:a<n)(h2:n≤b):a≠b:=by omega
def Inv.Em{X:Cx}{X4:ee (fy×Obj)}{σ:St}{H:Hp}{s:nA}{h':Heap}{t':Z5}{ch:ee fy}(I:Inv X X4 σ H s)(k:∀b o,b∉ch->s.heap.get? b=some o->h'.get? b=some o)(f:∀ b∈ch,eF X X4 H b) :
  Inv X X4 σ H {s with heap:=h',toks:=t'}:=by
 let h:∀b u,H b=some u->b∉ch:=λb u e z=>by rw[(f b z).1] at e;cases e
 refine I.step (g':=s.gens) (d':=s.drawn) (ch:=ch) (λb g=>{(f b g).2.2.2.1,(f b g).2.1,(f b g).2.2.2.2.1,(f b g).2.2.2.2.2}) (λb o _ _ a e _=>k b o a e) (λb o _ _ a e _=>{o.slots,k b o a e}) (λ_ _ _ _ n=>n)
  (λb o a e=>{o,k b o a e}) (λ_ _ e=>e) (λ_ _ _ e=>e) (λb ps e=>{#[],by rw[e];simp}) (λm i=>?_) (λb u e=>?_) I.bare
 .let⟨o,es,ep,j,r⟩:=i;exact{o,es,ep,k _ o (λz=>(f _ z).2.1 G) j,r}
 .refine(I.hok b u e).stay (λc v a q=>k c v ?_ q) (λ_ q=>q) λ_ _ q=>q
  rcases a with z|z
  .grind
  .exact h c _ z
def Inv.Ex{X:Cx}{X4:ee (fy×Obj)}{σ:St}{H:Hp}{s:nA}{h':Heap}{t':Z5}{ch:ee fy}{T:fy}{u:HO}(I:Inv X X4 σ H s)(k:∀b o,b∉ch->s.heap.get? b=some o->h'.get? b=some o)(g:∀ b∈ch,eF X X4 H b)(j:( ~~~s)≤T)(new:bF X.prog X.w (Z9 H T u) h' T u):Inv X X4 σ (Z9 H T u) {s with heap:=h',toks:=t'}:=by
 let h:H T=Z0:=I.hok.fresh j;let i:∀b u,H b=some u->b∉ch:=λb u e z=>by rw[(g b z).1] at e;cases e
 let l:∀b o,s.heap.get? b=some o->b≠T:=λb o e=>EI (Xi e) j
 refine I.step (g':=s.gens) (d':=s.drawn) (ch:=ch) (λb a=>{(g b a).2.2.2.1,(g b a).2.1,(g b a).2.2.2.2.1,(g b a).2.2.2.2.2}) (λb o _ _ f e _=>k b o f e) (λb o _ _ f e _=>{o.slots,k b o f e}) (λb o _ e n=>by rwa[ah<|l b o e])
  (λb o f e=>{o,k b o f e}) (λb xs e=>by rw[ah<|aq e h];exact e) (λb o xs e=>by rw[ah<|aq e h];exact e) (λb ps e=>{#[],by rw[ah<|aq e h,e];simp}) (λm p=>?_) (λb v e=>?_) I.bare
 .let⟨o,es,ep,t,r⟩:=p;exact{o,es,ep,k _ o (λz=>(g _ z).2.1 G) t,r}
 .by_cases a:b=T
  .subst a;rw[af] at e;cases e;exact new
  .rw[ah a] at e;refine(I.hok b v e).stay (λc v f q=>k c v ?_ q) (λc q=>by rwa[ah<|aq q h]) λc xs q=>by rwa[ah<|aq q h]
   rcases f with z|z
   .grind
   .exact i c _ z
def lQ:ee mu:=[.type "ValueError",.type "Exception",.type "BaseException",.type "object"]
def FI:mu->Bool
 |.ref _=>Z1
 |_=>Z2
def dJ(l:ee mu):Bool:=l.dropWhile FI==lQ
def sD(h:dJ l=Z1):∃b:ee fy,l=b.map Value.ref++lQ:=by
 induction l with
 |nil=>exact absurd h o7
 |cons x r f=>
  unfold dJ at h;by_cases c:FI x=Z1
  .rw[List.dropWhile_cons,Xm c] at h;let⟨b,e⟩:=f h;cases x <;> first|cases c|skip
   rename_i a;exact{a::b,by rw[e];rfl}
  .simp_all
def wO{T:String}(a:lQ.contains (.type T)=Z1){l:ee mu}(h:dJ l=Z1):l.contains (.type T)=Z1:=by let⟨b,rfl⟩:=sD h;rw[abl];simp only[List.contains_eq_mem,decide_eq_true_eq] at a ⊢;exact XD _ a
def FH(h:dJ l=Z1):l.isEmpty=Z2:=by
 cases l with
 |nil=>exact absurd h o7
 |cons _ _=>rfl
def DT(self:mu)(h:dJ l=Z1):refuseLoop self "__setattr__" l=pure ():=by
 let⟨f,rfl⟩:=sD h
 induction f with
 |nil=>exact aaN.passes self
 |cons a r c=>
  show refuseLoop self "__setattr__" (.ref a ::(r.map Value.ref++lQ))=_;rw[refuseLoop_ref];refine c ?_;let:∀r:ee fy,dJ (r.map Value.ref++lQ)=Z1:=λr=>by
   induction r with
   |nil=>decide
   |cons b r c=>exact c
  exact this r
def Bm(K:Frag)(C:fy):Bool:=match K.lookup C with
 |some {.type "type",_,.cls cd,sl}=>(match cd.mro,sl.toList with
  |.ref D::bm,[_,_,_,_,some<|.builtin n,_]=>D==C&&!cd.hasDel&&dJ bm&&n == "ValueError.__new__" && cd.hasDict
  |_,_=>Z2)
 |_=>Z2
structure GG(h:Heap)(C:fy):Z3 where
 ex:∃nm q N bs bm sn sub ab col dd k0 k1 k2 k3 k5,h.get? C=some (excClassObj nm q C N bs bm Z1 sn sub ab col dd k0 k1 k2 k3 k5 "ValueError.__new__")/\dJ bm=Z1
def Dm{K:Frag}{C:fy}(q:Bm K C=Z1):∃nm c N bs bm sn sub ab col dd k0 k1 k2 k3 k5,K.lookup C=some (excClassObj nm c C N bs bm Z1 sn sub ab col dd k0 k1 k2 k3 k5 "ValueError.__new__")/\dJ bm=Z1:=by
 unfold Bm at q;split at q
 .rename_i dd cd l m;split at q
  .rename_i D bm k0 k1 k2 k3 n k5 f hs;simp only[Bool.and_eq_true,beq_iff_eq,Bool.not_eq_true'] at q;let⟨⟨⟨⟨rfl,a⟩,i⟩,rfl⟩,g⟩:=q;let⟨nm,bs,mro,ns,c,h,sn,sub,ab,col,j⟩:=cd;dsimp only at f a g;subst f a g;let b:l=#[k0,k1,k2,k3,some (.builtin "ValueError.__new__"),k5]:=by grind
   subst b;exact⟨nm,c,ns,bs,bm,sn,sub,ab,col,dd,k0,k1,k2,k3,k5,m,i⟩
  .cases q
 .cases q
structure cA(K:Frag)(C:fy):Z3 where
 obj:Bm K C=Z1
 sa:findIn K (.ref C) "__setattr__" = some (some (.builtin "object.__setattr__"))
 ga:findIn K (.ref C) "__getattribute__" = some (some (.builtin "BaseException.__getattribute__"))
 gh:findIn K (.ref C) "__getattr__" = some Z0
 cl:findIn K (.ref C) "__class__" = some (some (.builtin "object.__class__"))
 clg:specialIn K (.builtin "object.__class__") "__get__" = some (some (.builtin "getset_descriptor.__get__"))
 clt:takesIn K (.builtin "object.__class__")=some Z1
def Cb(h:dJ bm=Z1):dJ (.ref C::bm)=Z1:=h
def cA.mro{K:Frag}{C:fy}(c:cA K C):∃cd,clsIn K C=some cd/\dJ cd.mro=Z1/\cd.hasDict=Z1:=by let⟨nm,a,N,bs,bm,sn,sub,ab,col,dd,k0,k1,k2,k3,k5,f,b⟩:=Dm c.obj;refine{{name:=nm,bases:=bs,mro:=.ref C::bm,ns:=N,qualname:=a,hasDict:=Z1,slotNames:=sn,subclasses:=sub,abstract:=ab,collection:=col,hasDel:=Z2},?_,Cb (C:=C) b,G};unfold clsIn;rw[f]
def cA.at{K:Frag}{C:fy}{h:Heap}(c:cA K C)(X:K.In h):GG h C:=by let⟨nm,a,N,bs,bm,sn,sub,ab,col,dd,k0,k1,k2,k3,k5,f,b⟩:=Dm c.obj;exact{nm,a,N,bs,bm,sn,sub,ab,col,dd,k0,k1,k2,k3,k5,X _ _ f,b}
def cA.has{K:Frag}{C:fy}(c:cA K C){T:String}(a:lQ.contains (.type T)=Z1):mroIn K C (.type T)=some Z1:=by let⟨cd,h1,h2,_⟩:=c.mro;unfold mroIn;rw[h1,Zt,Xn (by rw[FH h2];decide),wO a h2]
section
variable{prog:q8}{w:q9}{A:Around}{E:mu->nA->Z3}{s:nA}{K:Frag}{x C:fy}{ox:Obj}{od:nt Obj}{name:Z6}{v:mu}
def Eh{a:Bool}(X:K.In s.heap)(I:PySem.W.InstAt s.heap x ox C od)(c:cA K C)(i:findObj K C od name=some (.value v))(o:handedIn v=Z1)(h:Q v {s with toks:=s.toks+1}):wpAny (model prog w) A (getAttr (.ref x) name a) Q E s:=by
 let⟨j,g,d,t,os⟩:=s;let b:=I.type (M:=model prog w);let p:=YE (M:=model prog w) X c.ga;let u:=YE (M:=model prog w) X c.gh;let q:=abJ (M:=model prog w) X I i;let l:Looks (model prog w) j (isInstance (.ref x) (.type "BaseException")) Z1:=b.andThen<|ZA X<|c.has o7;let f:(onTheHeap (Value.ref C)&&Value.builtin "BaseException.__getattribute__" == Value.builtin "object.__getattribute__")=Z2:=by grind
 let r:=YZ.ga.bind<|.ref x;unfold getAttr getAttrBy;refine Xd<|wpAny_mkText<|Yj<|Xd (b.at<|Xd (p.at ?_));dsimp only;rw[f,Xn o7];unfold getAttrByItsOwn;refine Xd (m:=hookBefore<|.ref C) ?_;show wpAny _ _ (typeLookup (.ref C) "__getattr__") _ _ _;refine u.at ?_;refine Xd<|Zd<|Yj ?_;let n:(a&&onTheHeap (Value.builtin "BaseException.__getattribute__"))=Z2:=by cases a <;> rfl
 unfold callGetattribute;rw[n,Xn o7];unfold boundAndCalled;rw[r];refine Xd<|Xe ?_;refine Zg<|Zu YZ.ga.plain abb<|@aas (model prog w) _ _ _ "BaseException.__getattribute__" "BaseException" "__getattribute__" (.ref x) _ [] _ o4 o4 l (abm _ _) ?_;unfold Builtin.«object.__getattribute__»;refine Xd<|Xe<|Xd<|Xe<|Xd (b.at<|Xd (q.at ?_));refine Xe ?_;show wpAny _ _ (handedOut v) _ _ _;rw[abn o];exact Xe h
def Eg{Q:nt mu->nA->Z3}(X:K.In s.heap)(I:PySem.W.InstAt s.heap x ox C od)(c:cA K C)(h:Q (some (.ref C)) {s with toks:=s.toks+1}) :
  wpAny (model prog w) A (getAttr? (.ref x) "__class__") Q E s:=by
 let⟨cd,b,_⟩:=c.mro;let j:findObj K C od "__class__" = some (.bind (.builtin "getset_descriptor.__get__") (.builtin "object.__class__")):=by unfold findObj;rw[b,Zt,c.cl,Zt];dsimp only;rw[c.clg,Zt];dsimp only;rw[c.clt,Zt]
 let⟨i,g,d,t,os⟩:=s;let a:=I.type (M:=model prog w);let n:=YE (M:=model prog w) X c.ga;let q:=YE (M:=model prog w) X c.gh;let o:=abJ (M:=model prog w) X I j;let l:Looks (model prog w) i (isInstance (.ref x) (.type "BaseException")) Z1:=a.andThen<|ZA X<|c.has o7;let f:(onTheHeap (Value.ref C)&&Value.builtin "BaseException.__getattribute__" == Value.builtin "object.__getattribute__")=Z2:=by grind
 let p:=YZ.ga.bind<|.ref x;unfold getAttr? getAttrBy? getAttrBy;refine Xd<|wpAny_mkText<|Xd<|Zd<|Yj<|Xd (a.at<|Xd (n.at ?_));dsimp only;rw[f,Xn o7];unfold getAttrByItsOwn;refine Xd (m:=hookBefore<|.ref C) ?_;show wpAny _ _ (typeLookup (.ref C) "__getattr__") _ _ _;refine q.at ?_;refine Xd<|Zd<|Yj ?_;unfold callGetattribute;rw[Xn o7];unfold boundAndCalled;rw[p];refine Xd<|Xe ?_;refine Zg<|Zu YZ.ga.plain abb<|@aas (model prog w) _ _ _ "BaseException.__getattribute__" "BaseException" "__getattribute__" (.ref x) _ [] _ o4 o4 l (abm _ _) ?_;unfold Builtin.«object.__getattribute__»;refine Xd<|Xe<|Xd<|Xe<|Xd (a.at<|Xd (o.at ?_));show wpAny _ _ (Builtin.ObjectAttr.bindTo _ _ _ _) _ _ _;unfold Builtin.ObjectAttr.bindTo;refine Xd<|Yj<|Zg<|PySem.W.class_get (s:={i,g,d,t+1,os}) X I (c.has o7) ?_;refine Xe ?_;show wpAny _ _ (handedOut<|.ref C) _ _ _;rw[abn rfl];exact Xe<|Xe h
def Gu(c:cA K C){h₁:Heap->Z3}(l:∀h,h₁ h->∃ox od,PySem.W.InstAt h x ox C od):KitX K (.ref x) (.ref C) h₁ where
 ty:=λ_ _ _ I=>let ⟨_,_,J⟩:=l _ I;J.type
 it:=λ_ _ X _=>by
  let⟨f,a,_⟩:=c.mro;unfold clsIn at a;split at a
  .rename_i o d' j g i;intro s t r s' k q;unfold isType loadHead;exact Xd<|aam (k _ _<|X _ _ i)<|Xe q
  .cases a
 ne:=λh tp dd m n u X b=>by
  let⟨f,a,_⟩:=c.mro;refine Bool.eq_false_iff.mpr λq=>?_
  let e:C=tp:=Value.ref.inj<|Zp.mp q;subst e;unfold clsIn at a;split at a
  .rename_i o d' j g i;let z:=(X _ _ i).symm.trans b;cases z
  .cases a
 ca:=λX p k=>let ⟨_,_,J⟩:=l _ p;Eg X J c k
end
section
variable{prog:q8}{w:q9}{A:Around}{E:mu->nA->Z3}{s:nA}{K:Frag}{x C:fy}{ox:Obj}{od:nt Obj}{name:Z6}{v:mu}
def zc(X:K.In s.heap)(I:PySem.W.InstAt s.heap x ox C od)(c:cA K C)(n:aF K C name)(h:∀b,wpAny (model prog w) A.in1 (Builtin.ObjectAttr.storeInOwnDict (.ref x) (.ref C) (.str name s.toks) name v b)
   (λa s'=>match a with|.done (.ret _)=>Q () s'|_=>False) (λe s'=>E e s') {s with toks:=s.toks+1}) :
  wpAny (model prog w) A (setAttr (.ref x) name v) Q E s:=by
 let⟨i,g,d,t,os⟩:=s;let f:=aaN;let⟨cd,m,o,_⟩:=c.mro;refine set_plain X I c.sa ?_;let sub:Looks (model prog w) i (isInstance (.ref x) (.type "object")) Z1:=I.type.andThen<|ZA X<|c.has o7;refine Zu f.slot.plain f.entry<|@aas (model prog w) _ _ _ "object.__setattr__" "object" "__setattr__" (.ref x) [.str name t,v] [] _ f.kind f.split sub (f.args (.ref x) (.str name t) v) ?_;let l:Looks (model prog w) i (mroOf (.ref C)) cd.mro:=(Zy X m).andThen .now;let j:=YE (M:=model prog w) X (show findIn K (.ref C) name=some Z0 from n);rw[osa_eq,refuse_eq];refine Xd<|Xd (I.type.at<|Xd (l.at ?_));rw[DT _ o];refine Xe<|Xd (I.type.at<|Xd (j.at<|Xd<|Xe ?_));refine XY (h Z2) (λa s' z=>?_) λ_ _ z=>z
 rcases a with(_|_|_|_)|_ <;> first|exact z|exact z.elim
def Ey(X:K.In s.heap)(l:s.heap.get? x=some {.ref C,Z0,.fields vs,sl})(c:cA K C)(n:aF K C name)(h:∀h' p,h'.get? x=some {.ref C,some (~~~s),.fields vs,sl}->h'.Ns1 (~~~s) (λy=>if y=name then some v else Z0)->(∀b o,b≠x->s.heap.get? b=some o->h'.get? b=some o) →
   Q () {s with heap:=h',toks:=p}) :
  wpAny (model prog w) A (setAttr (.ref x) name v) Q E s:=by
 let I:PySem.W.InstAt s.heap x {.ref C,Z0,.fields vs,sl} C Z0:=⟨l,G,G,trivial⟩;refine zc X I c n λb=>?_
 let⟨a,g,d,t,os⟩:=s;let⟨cd,F,ho,H⟩:=c.mro;let U:=Zy (M:=model prog w) X F;unfold Builtin.ObjectAttr.storeInOwnDict;refine Xd<|Xe ?_;refine Xd (m:=Builtin.ObjectAttr.ownDictForStores _) ?_;show wpAny _ _ (instanceDict x Z1) _ _ _;unfold instanceDict;refine Xd<|aam l ?_;dsimp only;refine Xd (U.at ?_);rw[H];let j:(a.push {.type "dict",Z0,.dict #[],#[]}).get? x=some ⟨.ref C,Z0,.fields vs,sl⟩:=Xf _ l;let i:x≠a.objs.size:=Xy<|Xi l;show wpAny _ _ (do let dd ←alloc {.type "dict",Z0,.dict #[],#[]};update x λo=>{o with dict:=some dd};dictMade (.ref C) x dd) _ _ _;refine Xd<|wpAny_alloc' ?_;refine Xd<|wpAny_update' j ?_;refine Xe ?_;let q:((a.push {.type "dict",Z0,.dict #[],#[]}).update x λo=>{o with dict:=some a.objs.size}).get? a.objs.size=some {.type "dict",Z0,.dict #[],#[]}:=
  (Heap.get?_update_ne _ _ _ _ i.symm).trans (Heap.get?_push_at G G)
 let u:((a.push {.type "dict",Z0,.dict #[],#[]}).update x λo=>{o with dict:=some a.objs.size}).Ns a.objs.size (λ_=>Z0):={_,#[],_,q,G,λe he=>absurd he o8,λ_=>rfl};show wpAny _ _ (Builtin.ObjectAttr.storeInDict a.objs.size (.str name t) name v) _ _ _;unfold Builtin.ObjectAttr.storeInDict Builtin.ObjectAttr.newKeyGuard;refine Xd<|Xe<|Xd (wpAny_nsSet1 (Heap.Ns1.of_empty u) λh' f hs=>?_);let⟨Y,S,L,B,z,r⟩:=f.count<|Within.cons name v Within.nil;refine Xd<|aaI B (by rw[z];exact aaJ<|Ye r (by grind)) ?_;refine Xe (h h' _ ?_ f λb o O e=>?_)
 .exact(hs.2 x i).trans (XW _ j G)
 .exact(hs.2 b<|Xy<|Xi e).trans ((Heap.get?_update_ne _ _ _ _ O).trans<|Xf _ e)
def EU(X:K.In s.heap)(r:s.heap.get? x=some {.ref C,some dx,.fields vs,sl})(q:s.heap.Ns1 dx mA)(c:cA K C)(n:aF K C name)(u:PySem.Within mA ns)(hsz:ns.length≤Z7)(h:∀h' l,h'.Ns1 dx (λy=>if y=name then some v else mA y)->Heap.SameBut dx s.heap h'->Q () {s with heap:=h',toks:=l}) :
  wpAny (model prog w) A (setAttr (.ref x) name v) Q E s:=by
 let⟨od,j,_⟩:=tO q;let I:PySem.W.InstAt s.heap x {.ref C,some dx,.fields vs,sl} C (some od):=⟨r,G,G,j⟩;refine zc X I c n λb=>?_
 let⟨S,g,d,t,os⟩:=s;let⟨cd,B,U,F⟩:=c.mro;let z:=Zy (M:=model prog w) X B;unfold Builtin.ObjectAttr.storeInOwnDict;refine Xd<|Xe ?_;refine Xd (m:=Builtin.ObjectAttr.ownDictForStores _) ?_;show wpAny _ _ (instanceDict x Z1) _ _ _;unfold instanceDict;refine Xd<|aam r ?_;dsimp only;refine Xd (z.at ?_);rw[F];refine Xe (a:=some dx) ?_;show wpAny _ _ (Builtin.ObjectAttr.storeInDict dx (.str name t) name v) _ _ _;unfold Builtin.ObjectAttr.storeInDict Builtin.ObjectAttr.newKeyGuard;refine Xd<|Xe<|Xd (wpAny_nsSet1 q λh' f hs=>?_);let⟨O,L,H,i,p,o⟩:=f.count<|Within.cons name v u;refine Xd<|aaI i (by rw[p];exact aaJ<|Ye o (by grind)) ?_;exact Xe<|h h' _ f hs
end
abbrev ko(C t:fy):Obj:={.ref C,Z0,.fields #[.ref t,.none,.none,.none,.bool Z2,.none],#[]}
abbrev lE(rest:ee mu):Obj:={.type "tuple",Z0,.seq rest.toArray,#[]}
def uo{C:fy}{bm:ee mu}(a:dJ bm=Z1){T:String}(b:lQ.contains (.type T)=Z1):(Value.ref C::bm).contains (.type T)=Z1:=by rw[abK,wO b a,Bool.or_true]
def CC{C:fy}{bm:ee mu}(a:dJ bm=Z1){T:String}(c:lQ.contains (.type T)=Z2):(Value.ref C::bm).contains (.type T)=Z2:=by
 let⟨b,rfl⟩:=sD a;rw[abK,abl,XH,Bool.or_false]
 .rfl
 .grind
section
variable{prog:q8}{w:q9}{A:Around}{E:mu->nA->Z3}{h:Heap}{g:qq GenState}{d:Drawn}{t:Z5}{os:OsState}{K:Frag}{C f:fy}
variable{nm q:Z6}{N:fy}{bs bm:ee mu}{sn:ee Z6}{sub:ee mu}{ab:Bool}{col:nt Bool}{dd:nt fy}{k0 k1 k2 k3 k5:nt mu}
def D9{rest:ee mu}(i:dJ bm=Z1)(b:h.get? C=some (excClassObj nm q C N bs bm Z1 sn sub ab col dd k0 k1 k2 k3 k5 "ValueError.__new__"))(f:Q () ⟨h,g,d,t,os⟩) :
  wpAny M A (checkBuiltinCall "ValueError.__new__" {.ref C::rest,[]}) Q E ⟨h,g,d,t,os⟩:=by
 let F:=Zw;let a:=uo (C:=C) i (T:="ValueError") o7;let c:=F.noStar;simp only[checkBuiltinCall,F.newKind,F.newSplit,F.newRow]
 repeat (first
  |refine YG b ?_
  |(refine Y8 b ?_;rw[a])
  |refine wpAny_staticBase_exc b ?_
  |refine wpAny_madeBy_exc b ?_
  |simp only[bne_self_eq_false,Bool.false_eq_true,if_false]
  |wp_step)
 exact f
def EK{rest:ee mu}(i:dJ bm=Z1)(c:h.get? C=some (excClassObj nm q C N bs bm Z1 sn sub ab col dd k0 k1 k2 k3 k5 "ValueError.__new__"))(l:rest.length≤Z7)(m:R (.ok (.ret (.ref (h.objs.size+1)))) {(h.push (lE rest)).push (ko C h.objs.size),g,d,t,os}) :
  codeAny (model prog w) A (.builtin "ValueError.__new__" {.ref C::rest,[]}) R ⟨h,g,d,t,os⟩:=by
 let F:=Zw;let b:=F.ends;let a:=uo (C:=C) i (T:="ValueError") o7;let j:=CC (C:=C) i (T:="AttributeError") o7;let f:=CC (C:=C) i (T:="NameError") o7;refine codeAny_builtinAt F.entry ?_;unfold Builtin.«BaseException.__new__»;refine PySem.wpAt_bind ?_;show PySem.wpAt _ _ _ (stack >>= _) _ _ _;refine PySem.wpAt_bind (PySem.wpAt_stack λp below=>abx ?_)
 wp_walk
 refine abx ?_;rw[F.owner]
 repeat (first
  |with_reducible refine wpAny_madeHere_exc F.canon c ?_
  |with_reducible refine YG c ?_
  |(with_reducible refine Y8 c ?_;first|rw[a]|rw[j]|rw[f])
  |wp_step)
 show R _ _;rwa[Yz]
def An{rest:ee mu}:∀b o,h.get? b=some o->((h.push (lE rest)).push (ko C h.objs.size)).get? b=some o:=λb o e=>Xf _<|Xf _ e
def CJ{rest:ee mu}:((h.push (lE rest)).push (ko C h.objs.size)).get? (h.objs.size+1)=some (ko C h.objs.size):=by let:=Xp (h.push<|lE rest) (o:=ko C h.objs.size) rfl;rwa[Yz] at this
def D8{rest:ee mu}(l:dJ bm=Z1)(b:h.get? C=some (excClassObj nm q C N bs bm Z1 sn sub ab col dd k0 k1 k2 k3 k5 "ValueError.__new__"))(a:rest.length≤Z7)(X:K.In h)(hi:findIn K (.ref C) "__init__" = some (some (.ref f)))(m:typeIn K (.ref f)=some (.type "function"))(o:wpAny (model prog w) A (call (.ref f) (.ref (h.objs.size+1)::rest)) (λr s'=>r=.none/\Q (.done (.ret (.ref (h.objs.size+1)))) s') E {(h.push (lE rest)).push (ko C h.objs.size),g,d,t,os}) :
  wpAny (model prog w) A (Builtin.«type.__call__» {.ref C::rest,[]}) Q E ⟨h,g,d,t,os⟩:=by
 let F:=Zw
 repeat (first|with_reducible refine YG b ?_|with_reducible refine wpAny_madeBy_exc b ?_|wp_step)
 refine codeAny_call_builtin_code (ZK _ F.quiet)<|D9 l b ?_;refine EK l b a ?_;show wpAny _ _ _ _ _ _;let j:K.In ((h.push (lE rest)).push (ko C h.objs.size)):=X.keeps An;let i:=An (C:=C) (rest:=rest) _ _ b;let c:(Value.ref C::bm).contains (.ref C)=Z1:=by simp
 let p:=YE (M:=model prog w) j hi;let u:=bind_fn (M:=model prog w) j (.ref (h.objs.size+1)) m;unfold isInstance
 repeat (first|with_reducible refine YG CJ ?_|(with_reducible refine Y8 i ?_;rw[c])|wp_step)
 show wpAny _ _ (typeLookup (.ref C) _) _ _ _;refine p.at ?_;refine Yj<|Xd (u.at ?_);refine Xd (XY o (λr s' n=>?_) λ_ _ x=>x);let⟨rfl,s⟩:=n
 wp_walk
 exact s
def Ew{rest:ee mu}(X:K.In h)(c:cA K C)(a:rest.length≤Z7)(hi:findIn K (.ref C) "__init__" = some (some (.ref f)))(i:typeIn K (.ref f)=some (.type "function"))(j:wpAny (model prog w) (A.under (.builtin "type.__call__" {.ref C::rest,[]})) (call (.ref f) (.ref (h.objs.size+1)::rest)) (λr s'=>r=.none/\Q (.ref (h.objs.size+1)) s') E {(h.push (lE rest)).push (ko C h.objs.size),g,d,t,os}) :
  wpAny (model prog w) A (call (.ref C) rest) Q E ⟨h,g,d,t,os⟩:=by
 let⟨nm,n,N,bs,bm,sn,sub,ab,col,dd,k0,k1,k2,k3,k5,b,l⟩:=(c.at X).ex;let f1:=tc_lookup;let f2:=tc_bind<|.ref C;let m:(⟨h,g,d,t,os⟩:nA).TypeIs (.ref C) "type":={_,b,G};refine Zg<|aaY ?_;show wpAny _ _ (callAny (.ref C) _) _ _ _
 repeat (any_goals (first|assumption|with_reducible refine YG b ?_|wp_step))
 exists G;exact codeAny_call_builtin_at (ZK _ o4) entry_typeCall<|wpAny_check_type_call_sub b<|D8 l b a X hi i j
end
def wR(raw ch:Bool)(e C:fy)(od:nt fy)(h:Heap):Z3:=∃vs a,h.get? e=some {.ref C,od,.fields vs,a}/\vs.size=6/\(raw=Z1->vs[1]?=some .none)/\(ch=Z2->vs[2]?=some .none)
def D3(dx:fy)(fs:ee (Z6×V))(h:Heap):Z3:=∃mA,h.Ns1 dx mA/\(∀f,fW (fs.lookup f)<|mA f)/\PySem.Within mA (fs.map (·.1))
abbrev exO(raw ch:Bool)(e C:fy)(od:nt fy):HO:=.ext<|wR raw ch e C od
def D7(H:Hp)(e C:fy)(od:nt fy):Z3:=∃ch,H e=some (exO Z2 ch e C od)
abbrev xdO(dx:fy)(fs:ee (Z6×V)):HO:=.ext<|D3 dx fs
def ExcAt(H:Hp)(e C:fy)(fs:ee (Z6×V)):Z3:=∃raw ch od,H e=some (exO raw ch e C od)/\match od with
 |none=>fs=[]
 |some dx=>H dx=some (xdO dx fs)/\dx≠e
section
variable{P:q8}{w:q9}{H:Hp}{h:Heap}{e C dx:fy}{od:nt fy}{raw ch:Bool}{fs:ee (Z6×V)}
def tP(x:wR raw ch e C od h):bF P w H h e (exO raw ch e C od):=by
 exists x,?_
 .let⟨vs,a,q,_⟩:=x;exact{_,q}
 .rintro h1 h2 ⟨vs,a,q,r⟩ k;exact{vs,a,k _ q,r}
def Bv(x:D3 dx fs h):bF P w H h dx (xdO dx fs):=by
 exists x,?_
 .let⟨mA,⟨o,es,ep,q,_⟩,_⟩:=x;exact⟨o,q⟩
 .rintro h1 h2 ⟨mA,⟨o,es,ep,q,r⟩,z⟩ k;exact{mA,{o,es,ep,k _ q,r},z}
def nU(x:HOk P w H h)(q:H e=some (exO raw ch e C od)):wR raw ch e C od h:=(x e _ q).1
def HX(x:HOk P w H h)(q:H dx=some (xdO dx fs)):D3 dx fs h:=(x dx _ q).1
end
section
variable{X:Cx}{X4:ee (fy×Obj)}{σ:St}{H:Hp}{s:nA}{a C dx:fy}{od:nt fy}{raw ch:Bool}{fs:ee (Z6×V)}{f:Z6}{v:V}{A:Around}{E:mu->nA->Z3}
def ExcAt.inst(I:Inv X X4 σ H s)(e:ExcAt H a C fs):∃ox od,PySem.W.InstAt s.heap a ox C od/\∀f v,fs.lookup f=some v->∃o u,od=some o/\lookIn f o=some (some u)/\RelV v u:=by
 let⟨raw,ch,od,h1,h2⟩:=e;let⟨vs,j,q,_⟩:=nU I.hok h1;cases od with
 |none=>subst h2;exact{_,Z0,⟨q,G,G,trivial⟩,λf v h=>by simp at h}
 |some dx=>let⟨mA,n,r,_⟩:=HX I.hok h2.1;let⟨o,i,c⟩:=tO n;refine{_,some o,⟨q,G,G,i⟩,λf v h=>?_};let⟨u,g,b⟩:=fW.some_of (v:=v) (o:=mA f) (by rw[←h];exact r f);exact{o,u,G,by rw[c,g],b}
def Co(I:Inv X X4 σ H s)(e:ExcAt H a C fs)(c:cA X.K C)(n:aF X.K C f)(l:fs.lookup f=some v)(h:∀u s',Inv X X4 σ H s'->RelV v u->Q u s'):wpAny (model X.prog X.w) A (getAttr (.ref a) f b) Q E s:=by let⟨ox,od,J,i⟩:=e.inst I;let⟨o,u,rfl,lk,g⟩:=i f v l;let⟨cd,j,_,m⟩:=c.mro;exact Eh I.kIn J c (abu (by unfold hasDictIn;rwa[j]) n G lk) (yV g)<|h u _ (I.tok _) g
def xZ{y:V}{u:mu}{Q:Unit->nA->Z3}(I:Inv X X4 σ H s)(e:H a=some (exO raw ch a C Z0))(c:cA X.K C)(n:aF X.K C f)(Y:RelV y u)(h:∀dx s',H dx=Z0->Inv X X4 σ (Z9 (Z9 H dx (xdO dx [(f,y)])) a (exO raw ch a C (some dx))) s'->Q () s'):wpAny (model X.prog X.w) A (setAttr (.ref a) f u) Q E s:=by
 let⟨vs,B,q,U⟩:=nU I.hok e;refine Ey I.kIn q c n λh' x h1 h2 h3=>?_
 let m:H (~~~s)=Z0:=I.hok.fresh<|Xk _;let O:a≠(~~~s):=Xy<|Xi q;refine h (~~~s) _ m ?_;let t:D3 (~~~s) [(f,y)] h':=by
  refine{_,h2,λg=>?_,λg hg=>?_}
  .rw[Xz];by_cases z:g=f
   .subst z;rw[Xm rfl];simp;exact Y
   .rw[Xn z,show(g==f)=Z2 by simpa using z];exact True.intro
  .grind
 let hE:wR raw ch a C (some (~~~s)) h':=⟨vs,B,h1,U⟩;let S:Un X.fs [] H (Z9 (Z9 H (~~~s) (xdO (~~~s) [(f,y)])) a (exO raw ch a C (some (~~~s)))) s.heap h':=by
  let F:∀b o,s.heap.get? b=some o->b≠(~~~s):=λb o e=>Xy<|Xi e
  refine{λb o i l _ _=>h3 b o (λz=>by rw[z,e] at l;cases l) i,λb o i l _ _=>{o.slots,h3 b o (λz=>by rw[z,e] at l;cases l) i},λb o i l _=>?_,λb o i _=>?_,λb xs i=>?_,λb o u' i=>?_,λb ps i=>{#[],?_}}
  .rw[ah (λz=>by rw[z,e] at l;cases l),ah<|F b o i];exact l
  .grind
  .rw[ah (λz=>by rw[z,e] at i;cases i),ah<|aq i m];exact i
  .rw[ah (λz=>by rw[z,e] at i;cases i),ah<|aq i m];exact i
  .rw[ah (λz=>by rw[z,e] at i;cases i),ah<|aq i m,i];simp
 refine I.un S λb o i=>?_
 by_cases z:b=a
 .subst z;rw[af] at i;cases i;exact tP hE
 .rw[ah z] at i;by_cases v:b= ~~~s
  .subst v;rw[af] at i;cases i;exact Bv t
  .rw[ah v] at i;refine(I.hok b o i).stay (λr L hc j=>h3 r L ?_ j) (λr j=>?_) λr xs j=>?_
   .grind
   .rw[ah (λp=>by rw[p,e] at j;cases j),ah<|aq j m];exact j
   .rw[ah (λp=>by rw[p,e] at j;cases j),ah<|aq j m];exact j
def zF(I:Inv X X4 σ H s)(e:H a=some (exO raw ch a C (some dx)))(i:H dx=some (xdO dx fs))(c:cA X.K C)(n:aF X.K C f)(F:fs.length<1000)(v:RelV y u)(h:∀s',Inv X X4 σ (Z9 H dx (xdO dx (bC f y fs))) s'->Q () s'):wpAny (model X.prog X.w) A (setAttr (.ref a) f u) Q E s:=by
 let⟨vs,O,q,L⟩:=nU I.hok e;let⟨mA,l,r,wi⟩:=HX I.hok i;let p:(fs.map (·.1)).length≤Z7:=by rw[Xj,aaq];omega
 refine EU I.kIn q l c n wi p λh' m h1 t=>h _ ?_
 refine I.write (x:=dx) (e:=dx) (i ▸ True.intro) (.inl G) (λb o B z=>(t.2 b B).trans z) (let ⟨o,_,_,e',_⟩:=h1;⟨o,e'⟩)<|Bv {_,h1,λg=>?_,λg j=>?_}
 .rw[pK];by_cases q:g=f
  .rw[Xm q,Xm q];exact v
  .grind
 .by_cases q:g=f
  .rw[q];exact(lJ f y fs).1
  .refine(lJ f y fs).2 g (wi g λz=>j ?_);show(if g=f then some u else mA g)=Z0;rwa[Xn q]
end
inductive DE(K:Frag)(f:Z6)(Q:VK)(x:V)(H1:Hp):Z3
 |m a C fs v(_:x=.ref a)(_:ExcAt H1 a C fs)(_:cA K C)(_:aF K C f)(_:fs.lookup f=some v)(_:Q v H1)
def TV(K:Frag)(ta:TE)(f:Z6):TE:=λσ H Q=>ta σ H λx H1=>DE K f Q x H1
inductive BB(K:Frag)(f:Z6)(D:Ends)(σ:St)(y:V)(x:V)(H2:Hp):Z3
 |m a C raw(_:x=.ref a)(_:H2 a=some (exO raw Z2 a C Z0))(_:cA K C)(_:aF K C f)(_:∀dx,H2 dx=Z0->D.nx σ (Z9 (Z9 H2 dx (xdO dx [(f,y)])) a (exO raw Z2 a C (some dx))))
def Qp(K:Frag)(ta tv:TE)(f:Z6):TS:=λD σ H=>tv σ H λy H1=>ta σ H1 λx H2=>BB K f D σ y x H2
inductive AA(K:Frag)(f:Z6)(D:Ends)(σ:St)(y:V)(x:V)(H2:Hp):Z3
 |m a C raw dx fs(_:x=.ref a)(_:H2 a=some (exO raw Z2 a C (some dx)))(_:H2 dx=some (xdO dx fs))(_:cA K C)(_:aF K C f)(_:fs.length<1000)(_:D.nx σ (Z9 H2 dx (xdO dx (bC f y fs))))
def LH(K:Frag)(ta tv:TE)(f:Z6):TS:=λD σ H=>tv σ H λy H1=>ta σ H1 λx H2=>AA K f D σ y x H2
section
variable{X:Cx}{o e value:Expr}{f:Z6}{pos pos':Pos}{ta tv:TE}
def uh(he:PE X e ta)(g:attributeBase e f X.env (eval e X.env)=eval e X.env):PE X (.Attribute e f pos) (TV X.K ta f):=by intro X4 s σ H Q I h;refine Dj g (thn (he X4 s σ H _ I h) λ u s1 ⟨x,H1,I1,rx,a,C,fs,v,ex,ea,c,n,l,q⟩=>?_);subst ex;obtain rfl:u=Value.ref a:=rx;exact Co I1 ea c n l λu' s2 i b=>⟨v,H1,i,b,q⟩
def ig(g:PE X o ta)(j:PE X value tv)(hs:swapsWith value (some (.Attribute o f pos')) pos.line X.env=pure Z2):PS X (.Assign [.Attribute o f pos'] value pos) (Qp X.K ta tv f):=by intro X4 s σ H D I h;refine Y9 (thn (j X4 s σ H _ I h) λ u s1 ⟨y,H1,I1,ry,q⟩=>thn (g X4 s1 σ H1 _ I1 q) λ i s2 ⟨x,H2,I2,rx,a,C,raw,ex,ea,c,n,q2⟩=>?_) hs;subst ex;obtain rfl:i=Value.ref a:=rx;exact xZ I2 ea c n ry λdx s3 b l=>{σ,_,l,q2 dx b}
def GK(g:PE X o ta)(j:PE X value tv)(hs:swapsWith value (some (.Attribute o f pos')) pos.line X.env=pure Z2):PS X (.Assign [.Attribute o f pos'] value pos) (LH X.K ta tv f):=by intro X4 s σ H D I h;refine Y9 (thn (j X4 s σ H _ I h) λ u s1 ⟨y,H1,I1,ry,q⟩=>thn (g X4 s1 σ H1 _ I1 q) λ i s2 ⟨x,H2,I2,rx,a,C,raw,dx,fs,ex,ea,ed,c,n,l,q2⟩=>?_) hs;subst ex;obtain rfl:i=Value.ref a:=rx;exact zF I2 ea ed c n l ry λs3 b=>{σ,_,b,q2}
inductive pS(K:Frag)(xs:ee V)(H:Hp)(Q:VK):Z3
 |m a C fs c cv b(_:xs=[.ref a,c])(_:En c=some cv)(_:ExcAt H a C fs)(_:cA K C)(_:kitOne K (.ref C) cv=some b)(_:Q (.bl b) H)
def jY:iM X (.builtin "isinstance") (pS X.K):=by
 rintro X4 s σ H xs us Q I r ⟨a,C,fs,c,cv,b,rfl,f,i,cl,e,q⟩;let⟨u,v,rfl,g,j⟩:=vals2 r;let m:v=cv:=by cases c <;> simp[En] at f <;> subst f <;> exact j
 subst m;cases (show u=Value.ref a from g);exact Yr (Gu (h₁:=λh=>∃ox od,PySem.W.InstAt h a ox C od) cl λ_ z=>z) I.kIn (let ⟨ox,od,J,_⟩:=i.inst I;⟨ox,od,J⟩) e (λz=>nomatch z) λl=>{.bl b,H,I.tok l,G,q}
end
inductive Fly(h:Heap)(e T:fy)(fl:mu):Z3
 |m oe vs oT ts(_:h.get? e=some oe)(_:oe.data=.fields vs)(_:vs[1]?=some (.ref T))(_:h.get? T=some oT)(_:oT.data=.fields ts)(_:ts[3]?=some fl)(_:T≠e)
structure lz(fs ch:ee fy)(e T:fy)(fl:mu)(h h':Heap):Z3 where
 keep:∀b o,b∉fs->b∉ch->b≠e->h.get? b=some o->h'.get? b=some o
 slot:∀b o,b∈fs->b∉ch->b≠e->h.get? b=some o->∃sl,h'.get? b=some {o with slots:=sl}
 new:h.objs.size≤T
 exc:∀oe vs,h.get? e=some oe->oe.data=.fields vs->h'.get? e=some (oe.mapFields (·.setIfInBounds 1 (.ref T)))
 fly:Fly h' e T fl
section
variable{M:Model}{A:Around}{E:mu->nA->Z3}{s:nA}{base:Heap}{env:Env}{outer:ee Env}{L e:fy}{oe:Obj}{vs:qq mu}{Q:Unit->nA->Z3}
def AW(u:A.frames=some (env::outer))(B:s.heap.FunFrames base (env::outer))(O:env.frame=some L)(he:s.heap.get? e=some oe)(r:oe.data=.fields vs)(hsz:1<vs.size)(h:∀h' T,lz (frs (env::outer)) [] e T (rawInt L) s.heap h'->Q () {s with heap:=h'}) :
  wpAny M A (do let a ←frameOf env;let pl ←entryPlaceOf L b;let x ←EntryCells.newEntry head a .none (rawInt L) .none pl;setField (.ref e) 1 x) Q E s:=by
 let i:e∉frs (env::outer):=λF=>by let⟨_,o,y,p⟩:=B.mem F;rw[he] at y;cases y;exact p vs r
 refine Xd (wpAny_frameOf_fun u B O λh1 hs=>?_);refine Xd (wpAny_entryPlaceOf λpl t=>?_);unfold EntryCells.newEntry newFields;refine Xd<|Y3 ?_<|t.sizeOk5 _ _ _ _ _;let g:h1.get? e=some oe:=(hs.2.1 e i).trans he;generalize hT:({.type "traceback",Z0,.fields ([head,.ref L,.none,rawInt L,.none] ++(if pl.isEmpty then List.replicate 6 Value.none else pl)).toArray,#[]}:Obj)=oT;let l:=Xf (h:=h1) oT g;refine Zm l r hsz<|h _ h1.objs.size ?_;let j:h1.objs.size≠e:=aaa<|Xi g;let f:=YJ r (·.setIfInBounds 1 (Value.ref h1.objs.size));let v:=XW (Obj.mapFields (·.setIfInBounds 1 (Value.ref h1.objs.size))) l<|Zn f;let n:((h1.push oT).update e (Obj.mapFields (·.setIfInBounds 1 (Value.ref h1.objs.size)))).get? h1.objs.size=some oT:=
  (XE _ _<|Yo j).trans (Xp h1 (by rw[←hT];rfl))
 let keep:∀b o,b≠e->h1.get? b=some o->((h1.push oT).update e (Obj.mapFields (·.setIfInBounds 1 (Value.ref h1.objs.size)))).get? b=some o:=λb o m q=>by rw[XE _ _<|Yo m];exact Xf _ q
 exists λb o m _ c q=>keep b o c<|(hs.2.1 b m).trans q,λb o m _ c q=>?_,?_,λH S U d'=>?_
 .let⟨C,z⟩:=hs.2.2 b o q;exact{C,keep b _ c z}
 .rw[hs.1];exact Xk _
 .grind
 .refine{_,_,oT,_,v,f,by simp[hsz],n,by rw[←hT],?_,j};simp
def Gi(a:A.frames=some (env::outer))(f:s.heap.FunFrames base (env::outer))(b:env.frame=some L)(he:s.heap.get? e=some oe)(c:oe.data=.fields vs)(h1:vs[1]?=some .none)(h:∀h' T,lz (frs (env::outer)) [] e T (rawInt L) s.heap h'->Q () {s with heap:=h'}):wpAny M A (noteFrame (.ref e) env) Q E s:=by unfold noteFrame;simp only[b];refine Xd<|YL he c h1 ?_;rw[Xn o7];exact AW a f b he c (Yq.mp h1).1 h
def yO{T:fy}(l:A.frames=some (env::outer))(y:s.heap.FunFrames base (env::outer))(u:env.frame=some L)(x:Fly s.heap e T .none)(h:∀h' m,lz (frs (env::outer)) [T] e m (rawInt L) s.heap h'->Q () {s with heap:=h'}):wpAny M A (noteFrame (.ref e) env) Q E s:=by
 let⟨oe,vs,z,ts,he,v,h1,n,g,h3,j⟩:=x;unfold noteFrame;simp only[u];refine Xd<|YL he v h1 ?_;rw[Xm (show(Value.ref T != Value.none)=Z1 from by simp)];refine Xd<|YL n g h3 ?_;rw[Xn (show ¬((Value.none==rawInt L)=Z1) from by simp[rawInt])];refine Xd<|Zm n g (Yq.mp h3).1 ?_;let other:∀b,b≠T->(s.heap.update T (Obj.mapFields (·.setIfInBounds 3 Value.none))).get? b=s.heap.get? b:=λb a=>XE _ _<|Yo a
 let i:∀b o,s.heap.get? b=some o->(∀vs,o.data≠.fields vs)->b≠T:=λb o a f q=>by rw[q,n] at a;cases a;exact f ts g
 let sz:(s.heap.update T (Obj.mapFields (·.setIfInBounds 3 Value.none))).objs.size=( ~~~s):=Heap.size_after_update _ _ _;refine AW l (y.of_keeps λb o a f=>{o,(other b<|i b o a f).trans a,G}) u ((other e<|Yo j).trans he) v (Yq.mp h1).1 λh' m N=>h h' m ?_
 dsimp only at N;refine{λb o a p c q=>N.keep b o a o8 c<|(other b (⇑p)).trans q,λb o a p c q=>N.slot b o a o8 c<|(other b (⇑p)).trans q,?_,λr t q d=>N.exc r t ((other e<|Yo j).trans q) d,N.fly};rw[←sz];exact N.new
def ly{T:fy}{fl:mu}(l:Fly s.heap e T fl)(h:∀h',(∀b o,b≠T->s.heap.get? b=some o->h'.get? b=some o)->h'.objs.size= ~~~s->Fly h' e T .none->Q () {s with heap:=h'}):wpAny M A (setFlight (.ref e) Z0) Q E s:=by
 let⟨oe,vs,m,ts,he,j,h1,i,a,h3,c⟩:=l;let hsz:3<ts.size:=(Yq.mp h3).1;let other:∀b,b≠T->(s.heap.update T (Obj.mapFields (·.setIfInBounds 3 ((Z0:nt fy).elim Value.none λf=>rawInt f)))).get? b=s.heap.get? b:=λb g=>XE _ _<|Yo g
 unfold setFlight;refine Xd<|YL he j h1 ?_;rw[Xm (show(Value.ref T != Value.none)=Z1 from by simp)];refine Zm i a hsz<|h _ (λb o g q=>(other b g).trans q) (Heap.size_after_update _ _ _) ?_;exact{oe,vs,_,_,(other e<|Yo c).trans he,j,h1,XW _ i<|Zn<|YJ a _,YJ a _,by simp[hsz],c}
def lz.landed{fs ch:ee fy}{T:fy}{fl:mu}{h h1 h2:Heap}(N:lz fs ch e T fl h h1)(k:∀b o,b≠T->h1.get? b=some o->h2.get? b=some o)(F:Fly h2 e T .none):lz fs ch e T .none h h2:=by
 let c:∀b o,h.get? b=some o->b≠T:=λb o q=>Xy<|XC (Xi q) N.new
 refine{λb o g f a q=>k b o (c b o q)<|N.keep b o g f a q,λb o g f a q=>?_,N.new,λoe vs q d=>k e _ (c e oe q)<|N.exc oe vs q d,F};let⟨i,z⟩:=N.slot b o g f a q;exact{i,k b _ (c b o q) z}
def leave_new(a:A.frames=some (env::outer))(b:s.heap.FunFrames base (env::outer))(c:env.frame=some L)(he:s.heap.get? e=some oe)(f:oe.data=.fields vs)(h1:vs[1]?=some .none)(h:∀h' T,lz (frs (env::outer)) [] e T .none s.heap h'->Q () {s with heap:=h'}):wpAny M A (leaving env (.ref e)) Q E s:=by unfold leaving;exact Xd (Gi a b c he f h1 λh' T N=>ly (s:={s with heap:=h'}) N.fly λh2 k _ F=>h h2 T<|N.landed k F)
def Ei{T:fy}(a:A.frames=some (env::outer))(g:s.heap.FunFrames base (env::outer))(f:env.frame=some L)(c:Fly s.heap e T .none)(h:∀h' b,lz (frs (env::outer)) [T] e b .none s.heap h'->Q () {s with heap:=h'}):wpAny M A (leaving env (.ref e)) Q E s:=by unfold leaving;exact Xd (yO a g f c λh' b N=>ly (s:={s with heap:=h'}) N.fly λh2 k _ F=>h h2 b<|N.landed k F)
end
section
variable{X:Cx}{X4:ee (fy×Obj)}{σ:St}{H:Hp}{s:nA}{e C T:fy}{od:nt fy}{raw ch':Bool}{fl:mu}{h':Heap}{ch:ee fy}
def LU(q:H e=some o):Z9 H e o=H:=by grind [Z9]
def Inv.noted(I:Inv X X4 σ H s)(q:H e=some (exO raw ch' e C od))(N:lz (frs X.stack) ch e T fl s.heap h')(i:∀ b∈ch,eF X X4 H b) :
  Inv X X4 σ (Z9 H e (exO Z2 ch' e C od)) {s with heap:=h'}:=by
 let⟨vs,L,g,O,_,l⟩:=nU I.hok q;let A:∀b,H b=Z0->b≠e:=λb n z=>by rw[z,q] at n;cases n
 let tfs:∀b o,H b=some o->b∉frs X.stack:=λb o z y=>by rw[I.yi b y] at z;cases z
 let t:∀b o,H b=some o->b∉ch:=λb o z y=>by rw[(i b y).1] at z;cases z
 let F:wR Z2 ch' e C od h':=by let:=N.exc _ vs g rfl;refine{vs.setIfInBounds 1<|.ref T,L,this,⇑O,nofun,(λz=>by simpa using l z)}
 refine I.Ai (s':={s with heap:=h'}) (ch:=ch) G {λb o a n h f=>N.keep b o h f (A b n) a,λb o a n h f=>N.slot b o h f (A b n) a,λb o a n f=>?_,λb o a f=>?_,λb xs a=>?_,λb o u a=>?_,λb ps a=>{#[],?_}} (λb o a=>?_) I.bare λb j=>{(i b j).2.2.2.1,(i b j).2.1,(i b j).2.2.2.2.1,(i b j).2.2.2.2.2}
 .rw[ah<|A b n];exact n
 .by_cases z:b=e
  .subst z;let⟨U,r,g',_⟩:=F;exact{_,g'}
  .by_cases h:b∈frs X.stack
   .let⟨r,g'⟩:=N.slot b o h f z a;exact{_,g'}
   .exact{o,N.keep b o h f z a}
 .rw[ah λz=>by rw[z,q] at a;cases a];exact a
 .rw[ah λz=>by rw[z,q] at a;cases a];exact a
 .rw[ah (λz=>by rw[z,q] at a;cases a),a];simp
 .by_cases z:b=e
  .subst z;rw[af] at a;cases a;exact tP F
  .rw[ah z] at a;refine(I.hok b o a).stay (λc v S g'=>?_) (λc g'=>?_) λc xs g'=>?_
   .let p:∃u,H c=some u:=by grind
    let⟨u,B⟩:=p;let m:c≠e:=by grind
    exact N.keep c v (tfs c u B) (t c u B) m g'
   .rw[ah λx=>by rw[x,q] at g';cases g'];exact g'
   .rw[ah λx=>by rw[x,q] at g';cases g'];exact g'
def Inv.EF(I:Inv X X4 σ H s)(q:D7 H e C od)(N:lz (frs X.stack) ch e T fl s.heap h')(a:∀ b∈ch,eF X X4 H b):Inv X X4 σ H {s with heap:=h'}:=by let⟨ch',q⟩:=q;let:=I.noted q N a;rwa[LU q] at this
def Inv.landed{T:fy}(I:Inv X X4 σ H s)(f:eF X X4 H T)(k:∀b o,b≠T->s.heap.get? b=some o->h'.get? b=some o):Inv X X4 σ H {s with heap:=h'}:=
 I.turned (it:=T) (t':=s.toks) k f.1 f.2.1 f.2.2.2.1 f.2.2.2.2.1 f.2.2.2.2.2
end
def CXx(P:q8)(w:q9):CXT:=λouter H s E v s'=>∃e C od T H',v=.ref e/\s'.os=s.os/\AllBare s'.gens/\Un (frs outer) [] H H' s.heap s'.heap/\HOk P w H' s'.heap∧
 D7 H' e C od/\(~~~s)≤T/\H' T=Z0/\Fly s'.heap e T .none/\E (.ref C) (some e) H'
abbrev XS:=St->XK
def dN(X:Cx)(E:XS):Z3:=∀X4 σ H s v s',Inv X X4 σ H s->CXx X.prog X.w X.stack H s (E σ) v s'->X.xe v s'
def Du(X:Cx)(E:XS):Z3:=∀X4 σ H s e C od ch,Inv X X4 σ H s->H e=some (exO Z1 ch e C od)->E σ (.ref C) (some e) (Z9 H e<|exO Z2 ch e C od)->X.xe (.ref e) s
def aG{X:Cx}:dN X (λ_=>E0):=λ_ _ _ _ _ _ _ z=>by let⟨_,_,_,_,_,_,_,_,_,_,_,_,_,_,h⟩:=z;exact h.elim
section
variable{P:q8}{w:q9}{K:Frag}{mg:Z6->nt mu}{base:Heap}{N:ee Z6}{qual:Z6}{scope:Scope}{f:fy}{cd:mu}{A:Around}{outer:ee Env}{s₀:nA}{H₀:Hp}{E:XK}
def aZ:dN (aW (CXx P w) P w K mg base N qual scope f cd A outer s₀ H₀ E) (λ_=>E):=by
 rintro X4 σ H s v s' I ⟨e,C,od,T,H',rfl,os,a,un,h,he,l,o,i,m⟩;let c:=I.Ai (ch:=[]) os un h a λb z=>absurd z o8;let j:eF (aW (CXx P w) P w K mg base N qual scope f cd A outer s₀ H₀ E) X4 H' T:=I.qK l o;show wpAny _ _ (leaving _<|.ref e) _ _ _;refine Ei I.ok.frames c.stack G i λh2 n g=>?_
 let J:=c.EF (ch:=[T]) he g (λb p=>by let:=Xx.mp p;subst this;exact j);exact{e,C,od,n,H',G,J.os,J.bare,J.base,J.hok,he,Ye c.sz g.new,c.hok.fresh g.new,g.fly,m}
def gQ:Du (aW (CXx P w) P w K mg base N qual scope f cd A outer s₀ H₀ E) (λ_=>E):=by
 rintro X4 σ H s e C od ch I he c;let⟨vs,m,g,l,h⟩:=nU I.hok he;show wpAny _ _ (leaving _<|.ref e) _ _ _;refine leave_new I.ok.frames I.stack G g G (h.1 G) λh2 i a=>?_
 let J:=I.noted (ch:=[]) he a (λb j=>by cases j);exact{e,C,od,i,_,G,J.os,J.bare,J.base,J.hok,⟨ch,af⟩,Ye I.sz a.new,by rw[ah λz=>by rw[←z] at g;exact absurd (Xi g)<|Nat.not_lt.mpr a.new];exact I.hok.fresh a.new,a.fly,c}
def Fun.okX{x qual:Z6}{st:Stmt}{f:fy}{fd:pW}{N ps:ee Z6}{k:Z5}{sp:Sp}(F:Fun K x qual st f fd)(S:aE N ps (az st))(len:∀vs H Q E,sp vs H Q E->vs.length=ps.length)(b:∀a A outer s H vs Q E,cI k (A.deeper (envOfC qual (az st) (~~~s) f a))->sp vs H Q E →
   ∃t,PSs (aW (CXx P w) P w K mg base N qual (az st) f a A outer s H E) (cV st) t/\t {nx:=λ_ H'=>Q .non H',rt:=Q} (start N vs) H):aI P w K mg base (CXx P w) (k+1) f fd ps sp:=by
 let⟨l,od,kV,j,m,n,a,ct,i,rfl,lk,c⟩:=F.ex;exact HR lk c S len λA outer s H vs Q E h g=>b a A outer s H vs Q E h g
end
section
variable(P:q8)(w:q9)(K:Frag)(mg:Z6->nt mu)(base:Heap)
structure DefX(x:Z6)(k:Z5)(ps:ee Z6)(sp:Sp):Z3 where
 ex:∃(f:fy)(fd:pW),mg x=some (.ref f)/\aI P w K mg base (CXx P w) k f fd ps sp/\keepIn K (.ref f)=Z1/\Binds K fd ps []
structure wN(C:fy)(m:Z6)(k:Z5)(ps:ee Z6)(sp:Sp):Z3 where
 ex:∃(f:fy)(fd:pW),Meth K C m f/\aI P w K mg base (CXx P w) k f fd ps sp/\Binds K fd ps []
structure Ad(x:Z6)(C:fy)(k:Z5)(ps:ee Z6)(sp:Sp):Z3 where
 ex:∃(f:fy)(fd:pW),mg x=some (.ref C)/\Mk K C f/\aI P w K mg base (CXx P w) k f fd ps sp/\Binds K fd ps []
structure XMk(K:Frag)(C f:fy):Z3 where
 cls:cA K C
 init:findIn K (.ref C) "__init__" = some (some (.ref f))
 fn:isFn K (.ref f)=Z1
 kp:keepIn K (.ref C)=Z1
structure Gz(x:Z6)(C:fy)(k:Z5)(ps:ee Z6)(sp:Sp):Z3 where
 ex:∃(f:fy)(fd:pW),mg x=some (.ref C)/\XMk K C f/\aI P w K mg base (CXx P w) k f fd ps sp/\Binds K fd ps []
end
def wU(sp:Sp)(E:XS)(t:TA):TE:=λσ H Q=>t σ H λvs H1=>sp vs H1 Q<|E σ
inductive As(C:fy)(m:Z6)(sp:Sp)(E:XS)(t:TA)(σ:St)(Q:VK)(x:V)(H1:Hp):Z3
 |m a dx fs(_:x=.ref a)(_:H1 a=some (.ins C dx fs))(_:fs.lookup m=Z0)(_:t σ H1 λvs H2=>sp (x::vs) H2 Q (E σ))
def Fp(C:fy)(m:Z6)(sp:Sp)(E:XS)(ta:TE)(t:TA):TE:=λσ H Q=>ta σ H λx H1=>As C m sp E t σ Q x H1
def F7(C:fy)(sp:Sp)(E:XS)(t:TA):TE:=λσ H Q=>t σ H λvs H1=>∀x dx,H1 x=Z0->H1 dx=Z0->dx≠x →
 sp (.ref x::vs) (Z9 (Z9 H1 dx<|.own x) x<|.ins C dx []) (λv H2=>v=.non/\Q (.ref x) H2) (E σ)
def WH(C:fy)(sp:Sp)(t:TA):TE:=λσ H Q=>t σ H λvs H1=>vs.length≤Z7/\∀x,H1 x=Z0->sp (.ref x::vs) (Z9 H1 x<|exO Z1 Z2 x C Z0) (λv H2=>v=.non/\Q (.ref x) H2) E0
section
variable{X:Cx}{k:Z5}{f C:fy}{fd:pW}{ps:ee Z6}{sp:Sp}{E:XS}{x m:Z6}{p pos apos:Pos}{e o:Expr}{es:ee Expr}{ta:TE}{t:TA}
def ur{X4:ee (fy×Obj)}{σ:St}{H:Hp}{s:nA}{Q:VK}{us:ee mu}{vs:ee V}(F:aI X.prog X.w X.K X.mg X.base (CXx X.prog X.w) k f fd ps sp)(c:cI k X.A)(i:Binds X.K fd ps [])(g:dN X E)(I:Inv X X4 σ H s)(r:Vals vs us)(h:sp vs H Q (E σ)):wpAny (model X.prog X.w) X.A (call (.ref f) us) (EP X X4 σ Q) X.xe s:=by
 let j:us.length=ps.length:=by rw[←r.length];exact F.len _ _ _ _ h
 let b:=i s us I.kIn (by grind);rw[YM] at b;refine Zg (Y4 (F.run X.A X.stack s H {us,[]} us vs Q (E σ) c I.Eu b r h) λr s' a=>?_);cases r with
 |error e=>exact g X4 σ H s e s' I a
 |ok fl=>
  cases fl with
  |ret u=>exact I.after a
  |next=>exact False.elim a
  |brk=>exact False.elim a
  |cont=>exact False.elim a
def HF(D:DefX X.prog X.w X.K X.mg X.base x k ps sp)(n:dN X E)(l:cI k X.A)(i:Gl X x)(g:PA X (e::es) t)(c:(x ==("__debug__":Str))=Z2:=by decide)(he:starEach (e::es) X.env =(Z2,eval e X.env)::starEach es X.env:=by rfl)(a:(backTo pos (starEach es X.env)).any (·.1)=Z2:=by rfl) :
  PE X (.Call (.Name x p) (e::es) [] pos) (wU sp E t):=by
 let⟨f,fd,m,F,j,b⟩:=D.ex;intro X4 s σ H Q I h;refine XU<|kF I i m ?_ c;refine YT (h₀:=X.base) I.ok.mod.kin j (thn (g pos X4 s σ H _ I h) λ us s1 ⟨vs,H1,I1,r,q⟩=>{I1.kIn,?_}) he a;exact ur F l b n I1 r q
def aU{pl:Sem Bool}(he:PE X o ta)(c:Cls X.K C)(D:wN X.prog X.w X.K X.mg X.base C m k ps sp)(y:dN X E)(v:cI k X.A)(p:PA X (e::es) t)(i:starEach (e::es) X.env =(Z2,eval e X.env)::starEach es X.env:=by rfl)(g:(backTo pos (starEach es X.env)).any (·.1)=Z2:=by rfl)(n:eval (.Call (.Attribute o m apos) (e::es) [] pos) X.env =(do
   let ov ←eval o X.env
   standAt apos.atName
   let (f,first) ←holding [ov] (getMethod ov m pl)
   callWith pos f first (backTo pos (starEach (e::es) X.env)) (backToKw pos (keywordEach [] X.env))):=by rfl) :
  PE X (.Call (.Attribute o m apos) (e::es) [] pos) (Fp C m sp E ta t):=by
 let⟨f,fd,j,F,b⟩:=D.ex;intro X4 s σ H Q I h;refine ZY (pl:=pl) (thn (he X4 s σ H _ I h) λ u s1 ⟨x,H1,I1,rx,a,dx,fs,ex,ea,l,q⟩=>?_) n;subst ex;obtain rfl:u=Value.ref a:=rx;refine xr I1 ea c j l ?_;refine YT (first:=[.ref a]) (h₀:=X.base) I.ok.mod.kin j.kp (thn (p pos X4 s1 σ H1 _ I1 q) λ us s2 ⟨vs,H2,I2,r,q2⟩=>{I2.kIn,?_}) i g;exact ur (us:=.ref a::us) (vs:=.ref a::vs) F v b y I2 (.cons G r) q2
def bw{pl:Sem Bool}(he:PE X o ta)(c:Cls X.K C)(D:wN X.prog X.w X.K X.mg X.base C m k ps sp)(n:dN X E)(j:cI k X.A)(i:eval (.Call (.Attribute o m apos) [] [] pos) X.env =(do
   let ov ←eval o X.env
   standAt apos.atName
   let (f,first) ←holding [ov] (getMethod ov m pl)
   callWith pos f first (backTo pos (starEach [] X.env)) (backToKw pos (keywordEach [] X.env))):=by rfl) :
  PE X (.Call (.Attribute o m apos) [] [] pos) (Fp C m sp E ta By):=by
 let⟨f,fd,g,F,b⟩:=D.ex;intro X4 s σ H Q I h;refine ZY (pl:=pl) (thn (he X4 s σ H _ I h) λ u s1 ⟨x,H1,I1,rx,a,dx,fs,ex,ea,l,q⟩=>?_) i;subst ex;obtain rfl:u=Value.ref a:=rx;refine xr I1 ea c g l ?_;exact aby (first:=[.ref a]) I1.kIn g.kp<|ur (us:=[.ref a]) (vs:=[.ref a]) F j b n I1 (.cons G .nil) q
def ze{X4:ee (fy×Obj)}{σ:St}{H:Hp}{s:nA}{Q:VK}{us:ee mu}{vs:ee V}(M:Mk X.K C f)(F:aI X.prog X.w X.K X.mg X.base (CXx X.prog X.w) k f fd ps sp)(l:cI (k+1) X.A)(q:Binds X.K fd ps [])(o:dN X E)(I:Inv X X4 σ H s)(r:Vals vs us)(h:∀x dx,H x=Z0->H dx=Z0->dx≠x->sp (.ref x::vs) (Z9 (Z9 H dx (.own x)) x (.ins C dx [])) (λv H2=>v=.non/\Q (.ref x) H2) (E σ)) :
  wpAny (model X.prog X.w) X.A (call (.ref C) us) (EP X X4 σ Q) X.xe s:=by
 let i:=h (~~~s+1) (~~~s) (I.hok.fresh<|YS _) (I.hok.fresh<|Xk _)<|Xy<|ZW _;let c:=Inv.made (C:=C) I;let g:Vals (V.ref (~~~s+1)::vs) (Value.ref (~~~s+1)::us):=.cons G r;let t:(Value.ref (~~~s+1)::us).length=ps.length:=by let e:=g.length;rw[F.len _ _ _ _ i] at e;exact e.symm
 let b:=q _ (Value.ref (~~~s+1)::us) c.kIn (by grind);rw[YM] at b;refine Zg (Ar (f:=f) I.kIn M.makes M.init (Zp.mp M.fn) (Y4 (F.run _ X.stack _ _ {Value.ref (~~~s+1)::us,[]} (Value.ref (~~~s+1)::us) _ _ (E σ) (l.make C us [])
  (c.Eu.make C us []) b g i) λr s' a=>?_))
 cases r with
 |error e=>exact o X4 σ _ _ e s' c a
 |ok fl=>
  cases fl with
  |ret u=>let⟨v,H',p,n,j,m⟩:=c.after a;subst j;exact{n,{V.ref (~~~s+1),H',p,G,m}}
  |next=>exact False.elim a
  |brk=>exact False.elim a
  |cont=>exact False.elim a
def jB(D:Ad X.prog X.w X.K X.mg X.base x C k ps sp)(l:dN X E)(j:cI (k+1) X.A)(i:Gl X x)(g:PA X (e::es) t)(c:(x ==("__debug__":Str))=Z2:=by decide)(he:starEach (e::es) X.env =(Z2,eval e X.env)::starEach es X.env:=by rfl)(a:(backTo pos (starEach es X.env)).any (·.1)=Z2:=by rfl) :
  PE X (.Call (.Name x p) (e::es) [] pos) (F7 C sp E t):=by
 let⟨f,fd,m,M,F,b⟩:=D.ex;intro X4 s σ H Q I h;refine XU<|kF I i m ?_ c;refine YT (h₀:=X.base) I.ok.mod.kin M.kp (thn (g pos X4 s σ H _ I h) λ us s1 ⟨vs,H1,I1,r,q⟩=>{I1.kIn,?_}) he a;exact ze M F j b l I1 r q
def rV(D:Ad X.prog X.w X.K X.mg X.base x C k ps sp)(c:dN X E)(g:cI (k+1) X.A)(i:Gl X x)(a:(x ==("__debug__":Str))=Z2:=by decide):PE X (.Call (.Name x p) [] [] pos) (F7 C sp E By):=by let⟨f,fd,m,M,F,b⟩:=D.ex;intro X4 s σ H Q I h;refine XU<|kF I i m ?_ a;exact aby I.kIn M.kp<|ze (us:=[]) M F g b c I .nil h
def Inv.T7{X4:ee (fy×Obj)}{σ:St}{H:Hp}{s:nA}{rest:ee mu}(I:Inv X X4 σ H s) :
  Inv X X4 σ (Z9 H (~~~s+1) (exO Z1 Z2 (~~~s+1) C Z0)) {s with heap:=(s.heap.push (lE rest)).push (ko C (~~~s))}:=by
 refine I.laid (a:= ~~~s+1) (t':=s.toks) (λb u q=>An b u q) (YS _)<|tP {_,_,CJ,G,(λ_=>rfl),(λ_=>rfl)}
def IP{X4:ee (fy×Obj)}{σ:St}{H:Hp}{s:nA}{Q:VK}{us:ee mu}{vs:ee V}(M:XMk X.K C f)(F:aI X.prog X.w X.K X.mg X.base (CXx X.prog X.w) k f fd ps sp)(o:cI (k+1) X.A)(B:Binds X.K fd ps [])(I:Inv X X4 σ H s)(r:Vals vs us)(c:vs.length≤Z7)(h:∀x,H x=Z0->sp (.ref x::vs) (Z9 H x (exO Z1 Z2 x C Z0)) (λv H2=>v=.non/\Q (.ref x) H2) E0) :
  wpAny (model X.prog X.w) X.A (call (.ref C) us) (EP X X4 σ Q) X.xe s:=by
 let j:=h (~~~s+1)<|I.hok.fresh<|YS _;let i:=Inv.T7 (C:=C) (rest:=us) I;let l:Vals (V.ref (~~~s+1)::vs) (Value.ref (~~~s+1)::us):=.cons G r;let L:(Value.ref (~~~s+1)::us).length=ps.length:=by let e:=l.length;rw[F.len _ _ _ _ j] at e;exact e.symm
 let b:=B _ (Value.ref (~~~s+1)::us) i.kIn (by grind);rw[YM] at b;let run:=F.run _ X.stack _ _ {Value.ref (~~~s+1)::us,[]} (Value.ref (~~~s+1)::us) _ _ E0 (o.make C us []) (i.Eu.make C us []) b l j;let⟨n,g,d,t,os⟩:=s;refine Ew I.kIn M.cls (by rwa[←r.length]) M.init (Zp.mp M.fn)<|Zg (Y4 run λr s' a=>?_);cases r with
 |error e=>let⟨_,_,_,_,_,_,_,_,_,_,_,_,_,_,z⟩:=a;exact z.elim
 |ok fl=>
  cases fl with
  |ret u=>let⟨v,H',y,q,m,p⟩:=i.after a;subst m;exact{q,{V.ref (n.objs.size+1),H',y,G,p}}
  |next=>exact False.elim a
  |brk=>exact False.elim a
  |cont=>exact False.elim a
def i8(D:Gz X.prog X.w X.K X.mg X.base x C k ps sp)(j:cI (k+1) X.A)(i:Gl X x)(g:PA X (e::es) t)(c:(x ==("__debug__":Str))=Z2:=by decide)(he:starEach (e::es) X.env =(Z2,eval e X.env)::starEach es X.env:=by rfl)(a:(backTo pos (starEach es X.env)).any (·.1)=Z2:=by rfl) :
  PE X (.Call (.Name x p) (e::es) [] pos) (WH C sp t):=by
 let⟨f,fd,m,M,F,b⟩:=D.ex;intro X4 s σ H Q I h;refine XU<|kF I i m ?_ c;refine YT (h₀:=X.base) I.ok.mod.kin M.kp (thn (g pos X4 s σ H _ I h) λ us s1 ⟨vs,H1,I1,r,hlen,q⟩=>{I1.kIn,?_}) he a;exact IP M F j b I1 r hlen q
end
def Nx(K:Frag)(te:TE)(E:XS):TS:=λ_ σ H=>te σ H λv H1=>∃e C od,v=.ref e/\H1 e=some (exO Z1 Z2 e C od)/\cA K C/\E σ (.ref C) (some e) (Z9 H1 e<|exO Z2 Z2 e C od)
section
variable{X:Cx}{x:Expr}{te:TE}{E:XS}{pos:Pos}
def HJ{M:Model}{A:Around}{E:mu->nA->Z3}{env:Env}{s:nA}{x:Sem mu}{Q:Flow->nA->Z3}(j:A.handled=Z0)(h:wpAny M A x (λv a=>∃e vs f C od,v=.ref e/\a.heap.get? e=some {.ref C,od,.fields vs,f}/\vs[1]?=some .none/\GG a.heap C/\E (.ref e) a) E s) :
  wpAny M A (raiseStmt env (some x) Z0) Q E s:=by
 refine Xd (XY h (λv a h₁=>?_) λ_ _ x=>x);let⟨e,vs,f,C,od,rfl,he,h1,b,i⟩:=h₁;let⟨nm,n,N,bs,bm,sn,sub,ab,col,dd,k0,k1,k2,k3,k5,b,l⟩:=b.ex;let c:=uo (C:=C) l (T:="BaseException") o7;let⟨m,g,d,o,os⟩:=a
 repeat (first
  |with_reducible refine YG he ?_
  |with_reducible refine YG b ?_
  |(with_reducible refine Y8 b ?_;rw[c])
  |with_reducible refine YL he G h1 ?_
  |wp_step)
 exact wpAny_raiseNew_none j i
def fQ(j:X.calm=Z1)(l:Du X E)(he:PE X x te):PS X (.Raise (some x) Z0 pos) (Nx X.K te E):=by
 intro X4 s σ H D I h;rw[arm_exec_Raise];let f:=I.ok.hd j;let b:wpAny (model X.prog X.w) X.A (eval x X.env) (λv a=>∃e vs c C od,v=.ref e/\a.heap.get? e=some {.ref C,od,.fields vs,c}/\vs[1]?=some .none/\GG a.heap C/\X.xe (.ref e) a) X.xe s:=by
  refine thn (he X4 s σ H _ I h) λ u s1 ⟨v,H1,I1,rv,e,C,od,ev,eo,hcl,hE⟩=>?_
  subst ev;cases (show u=Value.ref e from rv);let⟨vs,c,g,m,i⟩:=nU I1.hok eo;exact{e,vs,c,C,od,G,g,i.1 G,hcl.at I1.kIn,l X4 σ H1 s1 e C od Z2 I1 eo hE}
 exact Xd<|ZV<|HJ f<|Xd (XY b (λv a h₁=>Xd<|ZV<|Xe h₁) λ_ _ x=>x)
end
section
variable{M:Model}{A:Around}{E:mu->nA->Z3}{s:nA}{K:Frag}{e C DC:fy}{b:Bool}
def RM(X:K.In s.heap)(n:s.heap.get? e=some ox)(c:ox.cls=.ref C)(cd:cA K DC)(m:mroIn K C (.ref DC)=some b)(h:Q b s) :
  wpAny M A (excMatches (.ref e) (.ref DC)) Q E s:=by
 let⟨j,g,d,t,os⟩:=s;let⟨nm,q,N,bs,bm,sn,sub,ab,col,dd,k0,k1,k2,k3,k5,i,o⟩:=(cd.at X).ex;let a:=uo (C:=DC) o (T:="BaseException") o7;let f:=tc_notTuple;let p:Looks M j (typeOf (.ref e)) (.ref C):=c ▸ (Looks.ld n).andThen .now;let l:=ZA (M:=M) X m
 repeat (first
  |with_reducible refine YG i ?_
  |(with_reducible refine Y8 i ?_;rw[a])
  |with_reducible refine p.at ?_
  |with_reducible refine l.at ?_
  |wp_step)
 cases b
 ·wp_walk;exact h
 ·wp_walk;exact h
end
abbrev Cx.held(X:Cx)(e:fy)(pn:ee (fy×Obj)):Cx:={X with A:=X.A.mark<|some<|.ref e,calm:=Z2,pn:=pn,xe:=λ_ _=>False}
abbrev Cx.tried(X:Cx)(pn:ee (fy×Obj))(xe:mu->nA->Z3):Cx:={X with pn:=pn,xe:=xe}
section
variable{X:Cx}{X4:ee (fy×Obj)}{σ:St}{H:Hp}{s:nA}{e:fy}{xe:mu->nA->Z3}
def Inv.held(I:Inv X X4 σ H s)(e:fy):Inv (X.held e (X.pn++X4)) [] σ H s:=
 ⟨{I.ok.mod,I.ok.kind,I.ok.glob,I.ok.blt,I.ok.above,I.ok.inj,I.ok.has,I.ok.cab,nofun,I.ok.frames,I.ok.stk,I.ok.exf,I.ok.bs,I.ok.bsz,I.ok.sO,I.ok.rZ,I.ok.jw,I.ok.frf},
  I.os,I.bare,I.base,I.loc,I.cell,I.free,I.fP,λp a=>I.pin p (⇑a),I.hok,I.len⟩
def Inv.xy(ok:X.Ok)(I:Inv (X.held e (X.pn++X4)) [] σ H s):Inv X X4 σ H s:=
 {ok,I.os,I.bare,I.base,I.loc,I.cell,I.free,I.fP,λp a=>I.pin p (⇑a),I.hok,I.len}
def Inv.tried(I:Inv X X4 σ H s):Inv (X.tried (X.pn++X4) xe) [] σ H s:=
 ⟨⟨I.ok.mod,I.ok.kind,I.ok.glob,I.ok.blt,I.ok.above,I.ok.inj,I.ok.has,I.ok.cab,I.ok.hd,I.ok.frames,I.ok.stk,I.ok.exf,I.ok.bs,I.ok.bsz,I.ok.sO,I.ok.rZ,I.ok.jw,I.ok.frf⟩,
  I.os,I.bare,I.base,I.loc,I.cell,I.free,I.fP,λp a=>I.pin p (⇑a),I.hok,I.len⟩
def Inv.gu(ok:X.Ok)(I:Inv (X.tried (X.pn++X4) xe) ps σ H s):Inv X X4 σ H s:=
 {ok,I.os,I.bare,I.base,I.loc,I.cell,I.free,I.fP,λp a=>I.pin p<|Xu _ a,I.hok,I.len}
def oA{i:Z5}(I:Inv X X4 σ H s)(F:X.N.Nodup)(hi:X.N[i]?=some n)(g:X.env.scope.names.lookup n=some .local)(h:∀s',Inv X X4 (σ.set i Z0) H s'->Q () s'):wpAny M A (do bindName X.env n .none;unbindBehindTheSuite X.env n pos) Q E s:=by
 refine Xd<|wpAny_bindName<|qw (v:=.non) I F hi (.inl g) G (λs' a=>?_)<|.inr g;let⟨m,O,S⟩:=id a.loc;let l:(X.env.scope.kind==.class||(X.env.scope.kind==.module&&X.env.locals != X.env.globals))=Z2:=by rw[I.ok.kind]; rfl
 let Y:i<σ.length:=by rw[I.len];exact(Xg.mp hi).1
 let⟨u,ru,lk⟩:=S i n .non hi (by grind)<|.inl g;let hv:m n=some u:=by
  rcases lk with⟨_,z⟩|⟨k,_⟩
  .exact z
  .rcases k with k|k
   .let k:X.env.scope.names.lookup n=some .cell:=k;rw[g] at k;cases k
   .let k:X.env.scope.names.lookup n=some .free:=k;rw[g] at k;cases k
 refine wpAny_onRaise (wpAny_unbindName_local (env:=X.env) g O hv l λh' u' C hs=>h _ ?_);let⟨oL,_,_,a0,_⟩:=id O;let cne:=a.cne;refine{a.ok,a.os,a.bare,{λb o e t B x=>?_,λb o e t B x=>?_,a.base.free,λb o e x=>?_,a.base.tups,a.base.mj,a.base.pC},{_,C,λj y v' f e2 e3=>?_},λy c q=>?_,a.free,a.fP,λp hp=>?_,λb ob q=>?_,⇑I.len}
 .exact(hs.2 b<|Xy<|XC (Xi e) a.ok.above).trans (a.base.keep b o e t B x)
 .let⟨sl,f⟩:=a.base.slot b o e t B x;exact{sl,(hs.2 b<|Xy<|XC (Xi e) a.ok.above).trans f}
 .let⟨o',f⟩:=a.base.there b o e x;exact{o',(hs.2 b<|Xy<|XC (Xi e) a.ok.above).trans f}
 .by_cases hj:j=i
  .grind
  .rw[ZZ<|Yo hj] at e2;let⟨u2,r2,q⟩:=S j y v' f (by grind) e3;exists u2,r2;rcases q with⟨k,e⟩|⟨k,c,e,z⟩
   .refine .inl {k,?_};let:y≠n:=λe=>hj (vo F f<|e ▸ hi)
    simp[this,e]
   .exact .inr {k,c,e,z.sameBut hs<|cne y c e}
 .let⟨L,z⟩:=a.cell y c q;exact{L,z.sameBut hs<|cne y c q}
 .let⟨e,t,U,nf,d⟩:=a.pin p hp;exact{(hs.2 p.1 U).trans e,t,U,nf,d}
 .refine(a.hok b ob q).stay (λc L hc r=>(hs.2 c ?_).trans r) (λ_ r=>r) λ_ _ r=>r
  rintro rfl;rcases hc with z|z
  .rw[←z,a.free] at q;cases q
  .rw[a.free] at z;cases z
end
abbrev TH:=fy->fy->TS
def PH(X:Cx)(hs:ee ExceptHandler)(th:TH):Z3:=
 ∀(X4:ee (fy×Obj))(s:nA)(σ:St)(H:Hp)(D:Ends)(e C:fy)(od:nt fy)(T:fy),Inv X X4 σ H s->D7 H e C od->Fly s.heap e T .none->eF X X4 H T->th e C D σ H →
  wpAny (model X.prog X.w) X.A (handleBy (.ref e) X.env hs) (SP X X4 D) X.xe s
def K1:TH:=λ_ _ _ _ _=>False
def EO:PH X [] K1:=by grind [PH,K1]
inductive hAs(K:Frag)(DC:fy)(i:Z5)(ts:fy->ee (fy×Obj)->TS)(tr:TH)(e:fy)(C:fy)(D:Ends)(σ:St)(H:Hp):Z3
 |m b(_:mroIn K C (.ref DC)=some b)(_:if b=Z1 then ∀pn,ts e pn {nx:=λσ' H'=>D.nx (σ'.set i Z0) H',rt:=D.rt,bk:=λσ' H'=>D.bk (σ'.set i Z0) H',ct:=λσ' H'=>D.ct (σ'.set i Z0) H'} (σ.set i (some (.ref e))) H else tr e C D σ H)
section
variable{X:Cx}{x n:Z6}{i:Z5}{DC:fy}{np pos:Pos}{b0:Stmt}{suite:ee Stmt}{rest:ee ExceptHandler}{ts:fy->ee (fy×Obj)->TS}{tr:TH}
def SP.gu{X4:ee (fy×Obj)}{D:Ends}{xe:mu->nA->Z3}{fl:Flow}{s':nA}(ok:X.Ok)(h:SP (X.tried (X.pn++X4) xe) [] D fl s'):SP X X4 D fl s':=by
 cases fl with
 |next=>let⟨a,H',J,q⟩:=h;exact{a,H',J.gu ok,q}
 |brk=>let⟨a,H',J,q⟩:=h;exact{a,H',J.gu ok,q}
 |cont=>let⟨a,H',J,q⟩:=h;exact{a,H',J.gu ok,q}
 |ret u=>let⟨v,a,H',J,r,q⟩:=h;exact{v,a,H',J.gu ok,r,q}
def Ec(y:Gl X x)(B:X.mg x=some (.ref DC))(c:cA X.K DC)(m:X.N.Nodup)(hi:X.N[i]?=some n)(l:X.env.scope.names.lookup n=some .local)(hs:∀e pn,PSs (X.held e pn) (b0::suite) (ts e pn))(A:PH X rest tr)(L:(x ==("__debug__":Str))=Z2:=by decide) :
  PH X (.ExceptHandler (some (.Name x np)) (some n) (b0::suite) pos::rest) (hAs X.K DC i ts tr):=by
 rintro X4 s σ H D e C od T I q o fp ⟨b,S,h⟩;let⟨vs,U,g,_⟩:=nU I.hok q.choose_spec;let F:=I.held e;refine wpAny_handleBy_cons (codeAny_handlers_test<|kF (X:=X.held e (X.pn++X4)) F y B ?_ L) nofun;refine RM I.kIn g G c S ?_;cases b with
 |false=>rw[Xn o7] at h;exact A X4 s σ H D e C od T I q o fp h
 |true=>
  rw[Xm rfl] at h;refine codeAny_handlers_suite_as (ly o λh2 k _ p=>?_);let t:=I.landed fp k;refine qw (X:=X.held e (X.pn++X4)) (t.held e) m hi (.inl l) (v:=.ref e) G (λs3 O=>?_)<|.inr l;refine XY (hs e _ [] s3 _ _ _ O<|h _) (λfl s4 h4=>?_) λ_ _ z=>z.elim
  cases fl with
  |next=>let⟨f,H',J,a⟩:=h4;exact oA (J.xy I.ok) m hi l λs5 j=>{_,_,j,a}
  |brk=>let⟨f,H',J,a⟩:=h4;exact oA (J.xy I.ok) m hi l λs5 j=>{_,_,j,a}
  |cont=>let⟨f,H',J,a⟩:=h4;exact oA (J.xy I.ok) m hi l λs5 j=>{_,_,j,a}
  |ret u=>let⟨v,f,H',J,r,a⟩:=h4;exact oA (J.xy I.ok) m hi l λs5 j=>{v,_,_,j,r,a}
def V1(tb:ee (fy×Obj)->(mu->nA->Z3)->XS->TS)(th:TH):TS:=λD σ H=>∀pn xe,tb pn xe (λa cls oe H'=>∃e C,cls=.ref C/\oe=some e/\th e C D a H') D σ H
def FP(q:∀pn xe E,dN (X.tried pn xe) E->PSs (X.tried pn xe) body (tb pn xe E))(U:PH X (h0::hs) th)(c:X.stack=X.env::X.outer)(t:X.env.frame=some X.env.locals) :
  PS X (.Try body (h0::hs) [] [] pos) (V1 tb th):=by
 intro X4 s σ H D I h;refine wpAny_Try_except ?_;refine XY (q (X.pn++X4) (λv m=>wpAny (model X.prog X.w) X.A (noteFrame v X.env) (λ_ j=>wpAny (model X.prog X.w) X.A (setFlight v Z0) (λ_ n=>wpAny (model X.prog X.w) X.A (handleBy v X.env (h0::hs)) (SP X X4 D) X.xe n) X.xe j) X.xe m)
  (λa cls oe H'=>∃e C,cls=.ref C/\oe=some e/\th e C D a H') ?_ [] s σ H D I.tried (h _ _)) (λfl s1 h1=>?_) λv s1 h1=>h1
 .rintro ps a H1 s1 v s2 J ⟨e,C,od,T,H2,rfl,os,g,un,r,he,O,y,x,e',C',ec,B,p⟩;cases ec;cases B;let L:=J.Ai (ch:=[]) os un r g λb z=>absurd z o8;let o:Inv X X4 a H2 s2:=L.gu I.ok;let fp:eF X X4 H2 T:=(J.gu I.ok).qK O y;let S:X.A.frames=some (X.env::X.outer):=by rw[←c];exact I.ok.frames
  refine yO S (by rw[←c];exact o.stack) t x λh3 T3 l=>?_
  rw[←c] at l;let Y:=o.EF (ch:=[T]) he l (λb q=>by let:=Xx.mp q;subst this;exact fp);let f:eF X X4 H2 T3:=o.qK l.new<|o.hok.fresh l.new;refine ly (s:={s2 with heap:=h3}) l.fly λh4 k4 _ i=>?_
  let F:=Y.landed f k4;exact U X4 _ a H2 D e C od T3 F he i f p
 .cases fl with
  |next=>exact ZD<|SP.gu I.ok h1
  |brk=>exact SP.gu I.ok h1
  |cont=>exact SP.gu I.ok h1
  |ret u=>exact SP.gu I.ok h1
end
def RQ(h:CXx P w o H s (λ_ _ _=>False) e s'):False:=by let⟨_,_,_,_,_,_,_,_,_,_,_,_,_,_,z⟩:=h;exact z
inductive fZ(C:fy)(f:Z6)(vs:ee V)(H:Hp)(Q:VK)(E:XK):Z3
 |m p y(_:vs=[.ref p,y])(_:H p=some (exO Z1 Z2 p C Z0))(_:∀dx,H dx=Z0->Q .non (Z9 (Z9 H dx (xdO dx [(f,y)])) p (exO Z1 Z2 p C (some dx))))
inductive Af(C:fy)(f g:Z6)(vs:ee V)(H:Hp)(Q:VK)(E:XK):Z3
 |m p y z(_:vs=[.ref p,y,z])(_:H p=some (exO Z1 Z2 p C Z0))(_:∀dx,H dx=Z0->Q .non (Z9 (Z9 H dx (xdO dx [(f,y),(g,z)])) p (exO Z1 Z2 p C (some dx))))
def Im{H:Hp}{p dx C:fy}{f g:Z6}{y z:V}{Q:Hp->Z3}(c:p≠dx)(a:¬f=g)(h:Q (Z9 (Z9 H dx (xdO dx [(f,y),(g,z)])) p (exO Z1 Z2 p C (some dx)))) :
  Q (Z9 (Z9 (Z9 H dx (xdO dx [(f,y)])) p (exO Z1 Z2 p C (some dx))) dx (xdO dx (bC g z [(f,y)]))):=by
 let e:bC g z [(f,y)]=[(f,y),(g,z)]:=by show(if f=g then _ else _)=_;rw[Xn a];rfl
 rw[e];let:Z9 (Z9 (Z9 H dx (xdO dx [(f,y)])) p (exO Z1 Z2 p C (some dx))) dx (xdO dx [(f,y),(g,z)])=Z9 (Z9 H dx (xdO dx [(f,y),(g,z)])) p (exO Z1 Z2 p C (some dx)):=by
  funext b;unfold Z9;by_cases h1:b=dx
  .grind
  .grind
 rwa[this]
section
variable{K:Frag}{C:fy}{f g:Z6}{y z:V}{H1:Hp}{E:XK}
def wL(f:H1 x=Z0)(c:Z9 H1 x (exO Z1 Z2 x C Z0) dx=Z0) :
  ExcAt (Z9 (Z9 (Z9 (Z9 H1 x (exO Z1 Z2 x C Z0)) dx (xdO dx fs)) x (exO Z1 Z2 x C (some dx))) x (exO Z2 Z2 x C (some dx))) x C fs/\ak H1 (Z9 (Z9 (Z9 (Z9 H1 x (exO Z1 Z2 x C Z0)) dx (xdO dx fs)) x (exO Z1 Z2 x C (some dx))) x (exO Z2 Z2 x C (some dx))):=by
 let a:dx≠x:=λe=>by rw[e,af] at c;cases c
 let g:H1 dx=Z0:=by rwa[ah a] at c
 refine{{Z2,Z2,some dx,af,?_,a},λb o q=>?_}
 .rw[ah a,ah a,af]
 .let h1:=aq q f;let h2:=aq q g;rwa[ah h1,ah h1,ah h2,ah h1]
def fK(c:cA K C)(h:∀e H',ExcAt H' e C [(f,y)]->ak H1 H'->E (.ref C) (some e) H') :
  [y].length≤Z7/\∀x,H1 x=Z0->fZ C f (.ref x::[y]) (Z9 H1 x (exO Z1 Z2 x C Z0)) (λv H2=>v=.non/\∃e g od,V.ref x=.ref e/\H2 e=some (exO Z1 Z2 e g od)/\cA K g/\E (.ref g) (some e) (Z9 H2 e (exO Z2 Z2 e g od))) E0:=
 {by show 1≤Z7;decide,λx j=>{x,y,G,af,λdx i=>{G,x,C,some dx,G,af,c,let ⟨a,b⟩:=wL j i;h x _ a b}}}
def F1(c:cA K C)(h:∀e H',ExcAt H' e C [(f,y),(g,z)]->ak H1 H'->E (.ref C) (some e) H') :
  [y,z].length≤Z7/\∀x,H1 x=Z0->Af C f g (.ref x::[y,z]) (Z9 H1 x (exO Z1 Z2 x C Z0)) (λv H2=>v=.non/\∃e i od,V.ref x=.ref e/\H2 e=some (exO Z1 Z2 e i od)/\cA K i/\E (.ref i) (some e) (Z9 H2 e (exO Z2 Z2 e i od))) E0:=
 {by show 2≤Z7;decide,λx l=>{x,y,z,G,af,λdx j=>{G,x,C,some dx,G,af,c,let ⟨a,b⟩:=wL l j;h x _ a b}}}
end
def bf(h:Z9 H a o b=Z0):H b=Z0/\b≠a:=by
 unfold Z9 at h;split at h
 .cases h
 .grind
def vJ(n:Z5):(List.replicate n [V.int 0]).flatten =(List.replicate n ↥0).map Z8:=by simp_all
def cH(h:¬g=f):bC f v ((g,x)::r) =(g,x)::bC f v r:=by grind [bC]
def Dz:bC f v ((f,x)::r) =(f,v)::r:=by grind [bC]
def kC{r:ee (Z6×V)}(h:¬f=g):List.lookup f ((g,x)::r)=List.lookup f r:=by grind
def jH{r:ee (Z6×V)}:List.lookup f ((f,x)::r)=some x:=by grind
def bg(F:ee fy)(H H':Hp):Z3:=∀b o,H b=some o->b∉F->H' b=some o
def bg.of_same(h:ak H H'):bg F H H':=λb o e _=>h b o e
def fY(s:bg F H H')(h:p∈F∨H p=Z0):bg F H (Z9 H' p o):=λb u e a=>by
 rw[ah]
 .exact s b u e a
 .grind
def bg.refl:bg F H H:=λ_ _ e _=>e
structure Rows(H:Hp)(L:ee fy)(xss:ee (ee Z4)):Z3 where
 len:L.length=xss.length
 get:∀(i:Z5)a xs,L[i]?=some a->xss[i]?=some xs->H a=some (.lst (xs.map Z8))
def Rows.mono(R:Rows H L xss)(h:∀ a∈L,∀o,H a=some o->H' a=some o):Rows H' L xss:=
 {R.len,λi a xs b c=>h a (Xl b) _<|R.get i a xs b c}
def Rows.snoc(R:Rows H L xss)(h:H a=some (.lst (xs.map Z8))):Rows H (L++[a]) (xss++[xs]):=
 ⟨by simp[R.len],λi b ys f c=>by
  let l:=R.len;by_cases hi:i<L.length
  .rw[Yg hi] at f;rw[Yg o6] at c;exact R.get i b ys f c
  .rw[Yp o6] at f;rw[Yp o6] at c;let g:i-L.length=0:=by grind
   rw[g] at f;rw[show i-xss.length=0 by omega] at c;let f:a=b:=⇑f
   let c:xs=ys:=⇑c
   rwa[←f,←c]⟩
def Rows.at_(R:Rows H L xss){i:Z5}(h:xss[i]?=some xs):∃a,L[i]?=some a/\a∈L/\H a=some (.lst (xs.map Z8)):=by
 let hi:i<L.length:=by rw[R.len];exact(Xg.mp h).1
 exact{L[i],Xh hi,Yh hi,R.get i _ xs (Xh hi) h}
def Rows.here(R:Rows H L xss):∀ a∈L,∃o,H a=some o:=λa c=>by
 let⟨i,hi⟩:=XM.mp c;let b:i<xss.length:=by rw[←R.len];exact(Xg.mp hi).1
 exact{_,R.get i a _ hi<|Xh b}
structure iu(H:Hp)(L:ee V)(A2:ee (Z4×Z4)):Z3 where
 len:L.length=A2.length
 get:∀(i:Z5)v,L[i]?=some v->∃t r,v=V.ref t/\A2[i]?=some r/\H t=some (.tup [.int r.1,.int r.2])
def iu.nil:iu H [] []:={G,λi v e=>by simp at e}
def iu.mono(R:iu H L A2)(h:∀t xs,H t=some (.tup xs)->H' t=some (.tup xs)):iu H' L A2:=
 {R.len,λi v e=>let ⟨t,r,a,b,c⟩:=R.get i v e;{t,r,a,b,h t _ c}}
def iu.snoc(R:iu H L A2){r:Z4×Z4}(h:H t=some (.tup [.int r.1,.int r.2])):iu H (L++[.ref t]) (A2++[r]):=
 ⟨by simp[R.len],λi v e=>by
  by_cases hi:i<L.length
  .rw[Yg hi] at e;let⟨t,r,a,b,c⟩:=R.get i v e;exact{t,r,a,by rwa[Yg (by grind)],c}
  .rw[Yp o6] at e;let f:i-L.length=0:=by grind
   rw[f] at e;let e:V.ref t=v:=⇑e
   refine{t,r,e.symm,?_,h};rw[Yp (by rw[←R.len];omega),←R.len,f];rfl⟩
def fl(wd ls:Z4)(ta sa:fy):ee (Z6×V):=[("wide",.int wd),("last",.int ls),("tables",.ref ta),("set_places",.ref sa)]
def s1:¬(("wide":Str) = "last"):=by decide +kernel
def s2:¬(("wide":Str) = "tables"):=by decide +kernel
def s3:¬(("wide":Str) = "set_places"):=by decide +kernel
def s4:¬(("last":Str) = "tables"):=by decide +kernel
def s5:¬(("last":Str) = "set_places"):=by decide +kernel
def s6:¬(("tables":Str) = "set_places"):=by decide +kernel
def IQ{wd ls:Z4}{ta sa:fy}:(fl wd ls ta sa).lookup ("wide":Str)=some (.int wd):=jH
def qd{wd ls:Z4}{ta sa:fy}:(fl wd ls ta sa).lookup ("last":Str)=some (.int ls):=by unfold fl;rw[kC λe=>s1 e.symm,jH]
def rM{wd ls:Z4}{ta sa:fy}:(fl wd ls ta sa).lookup ("tables":Str)=some (.ref ta):=by unfold fl;rw[kC λe=>s2 e.symm,kC λe=>s4 e.symm,jH]
def Fl{wd ls:Z4}{ta sa:fy}:(fl wd ls ta sa).lookup ("set_places":Str)=some (.ref sa):=by unfold fl;rw[kC λe=>s3 e.symm,kC λe=>s5 e.symm,kC λe=>s6 e.symm,jH]
def mP{wd ls:Z4}{ta sa:fy}{m:Z6}(h1:¬m = "wide")(h2:¬m = "last")(h3:¬m = "tables")(h4:¬m = "set_places"):(fl wd ls ta sa).lookup m=Z0:=by grind [fl]
def Qs{wd ls l2:Z4}:bC "last" (.int l2) (fl wd ls ta sa)=fl wd l2 ta sa:=by unfold fl;rw[cH s1,Dz]
def Il{wd:Z4}:bC "set_places" (.ref sa) (bC "tables" (.ref ta) (bC "last" (.int 0) (bC "wide" (.int wd) [])))=fl wd 0 ta sa:=by show bC "set_places" (.ref sa) (bC "tables" (.ref ta)<|bC "last" (.int 0) [("wide",.int wd)])=_;rw[cH s1];show bC "set_places" (.ref sa) (bC "tables" (.ref ta) [("wide",.int wd),("last",.int 0)])=_;rw[cH s2,cH s4];show bC "set_places" (.ref sa) [("wide",.int wd),("last",.int 0),("tables",.ref ta)]=_;rw[cH s3,cH s5,cH s6];rfl
def gR(wd:Z5)(c:Z4×Z4):nt (Bool×Z4):=if c.1<0∨↥wd≤c.1 then some (Z1,c.1) else if c.2<0∨18446744073709551615<c.2 then some (Z2,c.2) else Z0
def dS(wd:Z5)(a:ee (Z4×Z4)):nt (Bool×Z4):=a.findSome?<|gR wd
def nextT(b:ee Z4)(a:ee (Z4×Z4)):ee Z4:=a.foldl (λt c=>t.set c.1.toNat c.2) b
def tW(b:ee (Z4×Z4)):∀a:ee Z4,(nextT a b).length=a.length:=by
 induction b with
 |nil=>intro a;rfl
 |cons c r f=>intro a;show(nextT (a.set c.1.toNat c.2) r).length=_;rw[f,List.length_set]
def qg(b:ee Z4)(a:ee (Z4×Z4))(c:Z4×Z4):nextT b (a++[c]) =(nextT b a).set c.1.toNat c.2:=by grind [nextT]
def FL{wd:Z5}{c:Z4×Z4}(h:gR wd c=Z0):0≤c.1/\c.1<wd/\0≤c.2/\c.2≤18446744073709551615:=by grind [gR]
def zN{wd:Z5}(h:dS wd A2=Z0):∀ c∈A2,gR wd c=Z0:=by grind [dS,gR]
def uX{wd:Z5}{i:Z5}{c:Z4×Z4}(hi:A2[i]?=some c)(a:∀j d,j<i->A2[j]?=some d->gR wd d=Z0)(f:gR wd c=some x):dS wd A2=some x:=by
 unfold dS
 induction A2 generalizing i with
 |nil=>simp at hi
 |cons d r b=>
  cases i with
  |zero=>
   let:d=c:=⇑hi
   rw[abz,this,f]
  |succ i=>rw[abz,a 0 d o6 rfl];exact b (i:=i) (⇑hi) λj d' g e=>a (j+1) d' o6 (⇑e)
structure bV(C:fy)(H:Hp)(p ta sa:fy)(TL SL:ee fy)(wd:Z5)(v8 AL:ee (ee Z4)):Z3 where
 ob:∃dx,H p=some (.ins C dx (fl (wd:Z4) ((v8.length:Z4)-1) ta sa))
 tl:H ta=some (.lst (TL.map V.ref))
 sl:H sa=some (.lst (SL.map V.ref))
 tls:Rows H TL v8
 sls:Rows H SL AL
 nd:(p::ta::sa ::(TL++SL)).Nodup
 ne:v8.length≠0
 lens:AL.length=v8.length
 wds:∀ t∈v8,t.length=wd
 w1:0<wd
 w2:wd≤40
abbrev foot(p ta sa:fy)(TL SL:ee fy):ee fy:=p::ta::sa ::(TL++SL)
section
variable{C:fy}{H H':Hp}{p ta sa:fy}{TL SL:ee fy}{wd:Z5}{v8 AL:ee (ee Z4)}
def bV.here(D:bV C H p ta sa TL SL wd v8 AL):∀ b∈foot p ta sa TL SL,∃o,H b=some o:=by
 intro b a;simp only[foot,List.mem_cons,List.mem_append] at a;let⟨dx,c⟩:=D.ob;rcases a with rfl|rfl|rfl|a|a
 .exact{_,c}
 .exact{_,D.tl}
 .exact{_,D.sl}
 .exact D.tls.here b a
 .exact D.sls.here b a
def bV.mono(D:bV C H p ta sa TL SL wd v8 AL)(h:∀ b∈foot p ta sa TL SL,∀o,H b=some o->H' b=some o):bV C H' p ta sa TL SL wd v8 AL:=by let⟨dx,f⟩:=D.ob;exact{{dx,h _ (by simp[foot]) _ f},h _ (by simp[foot]) _ D.tl,h _ (by simp[foot]) _ D.sl,D.tls.mono λa c=>h a (by simp[foot,c]),D.sls.mono λa c=>h a (by simp[foot,c]),D.nd,D.ne,D.lens,D.wds,D.w1,D.w2}
def bV.same(D:bV C H p ta sa TL SL wd v8 AL)(h:ak H H'):bV C H' p ta sa TL SL wd v8 AL:=D.mono λb _ o e=>h b o e
def bV.fresh(D:bV C H p ta sa TL SL wd v8 AL)(h:H a=Z0):a∉foot p ta sa TL SL:=λb=>by let⟨o,e⟩:=D.here a b;rw[h] at e;cases e
def bV.lists(D:bV C H p ta sa TL SL wd v8 AL)(c:b∈foot p ta sa TL SL):(∃dx fs,H b=some (.ins C dx fs))∨∃xs,H b=some (.lst xs):=by
 simp only[foot,List.mem_cons,List.mem_append] at c;let⟨dx,j⟩:=D.ob;let f:∀{L:ee fy}{a:ee (ee Z4)},Rows H L a->b∈L->∃xs,H b=some (.lst xs):=λ{L a}R h=>by
  let⟨i,hi⟩:=XM.mp h;let g:i<a.length:=by rw[←R.len];exact(Xg.mp hi).1
  exact{_,R.get i b _ hi<|Xh g}
 rcases c with rfl|rfl|rfl|c|c
 .grind
 .exact .inr {_,D.tl}
 .exact .inr {_,D.sl}
 .exact .inr (f D.tls c)
 .exact .inr (f D.sls c)
def bV.apart(D:bV C H p ta sa TL SL wd v8 AL)(k:bg F H H')(h:∀ b∈foot p ta sa TL SL,b∉F):bV C H' p ta sa TL SL wd v8 AL:=D.mono λb a o e=>k b o e<|h b a
end
def DU{α:Type}{p q r:α}{A B:ee α}{x y:α}(h:(p::q::r ::(A++B)).Nodup)(a:x∉(p::q::r ::(A++B)))(b:y∉(p::q::r ::(A++B)))(c:x≠y):(p::q::r ::((A++[x]) ++(B++[y]))).Nodup:=by simp only[List.nodup_cons,List.nodup_append,List.mem_cons,List.mem_append,List.not_mem_nil,or_false,not_or] at h a b ⊢;grind
structure sX(K:Frag)(x qual:Z6)(st:Stmt)(f:fy)(fd:pW)(dV:mu):Z3 where
 ex:∃(oc:mu)(od:nt fy)(kV doc pm:mu)(an:nt fy)(cdv ct:mu)(osl:qq (nt mu)),
  fd=fnOf x qual (dR st) (cV st) (az st) dV kV doc pm an cdv ct/\K.lookup f=some {oc,od,.func fd,osl}/\codeIn K cdv qual=Z1
 kp:keepIn K (.ref f)=Z1
section
variable{P:q8}{w:q9}{K:Frag}{mg:Z6->nt mu}{base:Heap}
def sX.okX{x qual:Z6}{st:Stmt}{f:fy}{fd:pW}{j:mu}{N ps:ee Z6}{k:Z5}{sp:Sp}(F:sX K x qual st f fd j)(S:aE N ps (az st))(len:∀vs H Q E,sp vs H Q E->vs.length=ps.length)(b:∀a A outer s H vs Q E,cI k (A.deeper (envOfC qual (az st) (~~~s) f a))->sp vs H Q E →
   ∃t,PSs (aW (CXx P w) P w K mg base N qual (az st) f a A outer s H E) (cV st) t/\t {nx:=λ_ H'=>Q .non H',rt:=Q} (start N vs) H):aI P w K mg base (CXx P w) (k+1) f fd ps sp:=by
 let⟨m,od,kV,h,n,o,a,ct,l,rfl,lk,c⟩:=F.ex;exact HR lk c S len λA outer s H vs Q E i g=>b a A outer s H vs Q E i g
def yv{x qual:Z6}{st:Stmt}{f:fy}{j dV:mu}{od h:nt fy}{g:qq (nt mu)}{kV b i a ct:mu}(l:K.lookup f=some {j,od,.func (fnOf x qual (dR st) (cV st) (az st) dV kV b i h a ct),g})(c:codeIn K a qual=Z1)(k:keepIn K (.ref f)=Z1):sX K x qual st f (fnOf x qual (dR st) (cV st) (az st) dV kV b i h a ct) dV:={⟨j,od,kV,b,i,h,a,ct,g,G,l,c⟩,k}
def sX.binds{x qual:Z6}{st:Stmt}{f T:fy}{fd:pW}{ps:ee Z6}{o:Obj}{c:qq mu}{n:Z5}{ds:ee mu}(F:sX K x qual st f fd (.ref T))(l:K.lookup T=some o)(hs:o.data=.seq c n)(h:∀kV b g i a ct us,us.length+ds.length=ps.length->∃k:nt (qq mu)->Sem (ee (Z6×mu)),
   bindArgs (fnOf x qual (dR st) (cV st) (az st) (.ref T) kV b g i a ct) {us,[]}=seqItems? (.ref T) >>= k/\k (some c)=pure (ps.zip (us++ds))):Binds K fd ps ds:=by
 let⟨p,od,kV,b,g,i,a,ct,m,rfl,lk,j⟩:=F.ex;intro s us X q;let⟨k,h1,h2⟩:=h kV b g i a ct us (by grind);exact PySem.W.binds_K X G l hs h1 h2
end
section
variable(P:q8)(w:q9)(K:Frag)(mg:Z6->nt mu)(base:Heap)
structure UN(x:Z6)(k:Z5)(ps:ee Z6)(ds:ee mu)(sp:Sp):Z3 where
 ex:∃(f:fy)(fd:pW),mg x=some (.ref f)/\aI P w K mg base (CXx P w) k f fd ps sp/\keepIn K (.ref f)=Z1/\Binds K fd ps ds
structure EW(x:Z6)(C:fy)(k:Z5)(ps:ee Z6)(ds:ee mu)(sp:Sp):Z3 where
 ex:∃(f:fy)(fd:pW),mg x=some (.ref C)/\Mk K C f/\aI P w K mg base (CXx P w) k f fd ps sp/\Binds K fd ps ds
structure TR(C:fy)(m:Z6)(f:fy):Z3 where
 ga:specialIn K (.ref C) "__getattribute__" = some (some (.builtin "type.__getattribute__"))
 rd:readsIn K C (.type "type")=Z1
 fc:findCls K (.ref C) (.type "type") m=some (.val (.ref f))
 kp:keepIn K (.ref f)=Z1
structure Oo(x:Z6)(C:fy)(m:Z6)(k:Z5)(ps:ee Z6)(sp:Sp):Z3 where
 ex:∃(f:fy)(fd:pW),mg x=some (.ref C)/\TR K C m f/\aI P w K mg base (CXx P w) k f fd ps sp/\Binds K fd ps []
end
def IC(C:fy)(sp:Sp)(E:XS)(dvs:ee V)(t:TA):TE:=λσ H Q=>t σ H λvs H1=>∀x dx,H1 x=Z0->H1 dx=Z0->dx≠x →
 sp (.ref x ::(vs++dvs)) (Z9 (Z9 H1 dx<|.own x) x<|.ins C dx []) (λv H2=>v=.non/\Q (.ref x) H2) (E σ)
def Ic(b a:TE):TE:=λσ H Q=>b σ H Q∨a σ H Q
section
variable{X:Cx}{k:Z5}{f C:fy}{fd:pW}{ps:ee Z6}{sp:Sp}{E:XS}{x m:Z6}{p pos apos:Pos}{e o:Expr}{es:ee Expr}{ta:TE}{t:TA}{ds:ee mu}{dvs:ee V}
def i6(h1:PE X e t1)(h2:PE X e t2):PE X e (Ic t1 t2):=λX4 s σ H Q I h=>h.elim (h1 X4 s σ H Q I)<|h2 X4 s σ H Q I
inductive qV(xs:ee V)(H:Hp)(Q:VK):Z3
 |m b(_:xs=[.bl b])(_:Q (.int (if b then 1 else 0)) H)
def B8:iM X (.type "int") qV:=by rintro X4 s σ H xs us Q I r ⟨b,rfl,q⟩;let⟨u,rfl,a⟩:=vals1 r;cases (show u=Value.bool b from a);exact call_int_bool {.int _,H,I.tok _,{_,G},q}
def EB{X4:ee (fy×Obj)}{σ:St}{H:Hp}{s:nA}{Q:VK}{us:ee mu}{vs:ee V}(M:Mk X.K C f)(F:aI X.prog X.w X.K X.mg X.base (CXx X.prog X.w) k f fd ps sp)(n:cI (k+1) X.A)(y:Binds X.K fd ps ds)(l:Vals dvs ds)(q:dN X E)(I:Inv X X4 σ H s)(r:Vals vs us)(h:∀x dx,H x=Z0->H dx=Z0->dx≠x->sp (.ref x ::(vs++dvs)) (Z9 (Z9 H dx (.own x)) x (.ins C dx [])) (λv H2=>v=.non/\Q (.ref x) H2) (E σ)) :
  wpAny (model X.prog X.w) X.A (call (.ref C) us) (EP X X4 σ Q) X.xe s:=by
 let i:=h (~~~s+1) (~~~s) (I.hok.fresh<|YS _) (I.hok.fresh<|Xk _)<|Xy<|ZW _;let b:=Inv.made (C:=C) I;let g:Vals (V.ref (~~~s+1) ::(vs++dvs)) (Value.ref (~~~s+1)::us++ds):=.cons G<|Vals.append r l;let m:(Value.ref (~~~s+1)::us++ds).length=ps.length:=by let e:=g.length;rw[F.len _ _ _ _ i] at e;exact e.symm
 let c:=y _ (Value.ref (~~~s+1)::us) b.kIn m;refine Zg (Ar (f:=f) I.kIn M.makes M.init (Zp.mp M.fn) (Y4 (F.run _ X.stack _ _ {Value.ref (~~~s+1)::us,[]} (Value.ref (~~~s+1)::us++ds) _ _ (E σ) (n.make C us [])
  (b.Eu.make C us []) c g i) λr s' a=>?_))
 cases r with
 |error e=>exact q X4 σ _ _ e s' b a
 |ok fl=>
  cases fl with
  |ret u=>let⟨v,H',t,p,j,o⟩:=b.after a;subst j;exact{p,{V.ref (~~~s+1),H',t,G,o}}
  |next=>exact False.elim a
  |brk=>exact False.elim a
  |cont=>exact False.elim a
def zA(D:EW X.prog X.w X.K X.mg X.base x C k ps ds sp)(g:Vals dvs ds)(n:dN X E)(l:cI (k+1) X.A)(j:Gl X x)(i:PA X (e::es) t)(c:(x ==("__debug__":Str))=Z2:=by decide)(he:starEach (e::es) X.env =(Z2,eval e X.env)::starEach es X.env:=by rfl)(a:(backTo pos (starEach es X.env)).any (·.1)=Z2:=by rfl) :
  PE X (.Call (.Name x p) (e::es) [] pos) (IC C sp E dvs t):=by
 let⟨f,fd,m,M,F,b⟩:=D.ex;intro X4 s σ H Q I h;refine XU<|kF I j m ?_ c;refine YT (h₀:=X.base) I.ok.mod.kin M.kp (thn (i pos X4 s σ H _ I h) λ us s1 ⟨vs,H1,I1,r,q⟩=>{I1.kIn,?_}) he a;exact EB M F l b g n I1 r q
def Dt{pl:Sem Bool}(he:PE X o (tC (.ref C)))(D:Oo X.prog X.w X.K X.mg X.base x C m k ps sp)(n:dN X E)(l:cI k X.A)(j:PA X (e::es) t)(g:starEach (e::es) X.env =(Z2,eval e X.env)::starEach es X.env:=by rfl)(a:(backTo pos (starEach es X.env)).any (·.1)=Z2:=by rfl)(i:eval (.Call (.Attribute o m apos) (e::es) [] pos) X.env =(do
   let ov ←eval o X.env
   standAt apos.atName
   let (f,first) ←holding [ov] (getMethod ov m pl)
   callWith pos f first (backTo pos (starEach (e::es) X.env)) (backToKw pos (keywordEach [] X.env))):=by rfl) :
  PE X (.Call (.Attribute o m apos) (e::es) [] pos) (wU sp E t):=by
 let⟨f,fd,_,c,F,b⟩:=D.ex;intro X4 s σ H Q I h;refine ZY (pl:=pl) (thn (he X4 s σ H (λv H'=>v=.ref C/\H'=H) I ⟨G,G⟩) λ u s1 ⟨x,H1,I1,rx,ex,eH⟩=>?_) i;subst ex eH;obtain rfl:u=Value.ref C:=rx;refine PySem.W.method_cls I1.kIn c.ga<|PySem.W.cls_value I1.kIn c.rd c.fc G ?_;refine YT (first:=[]) (h₀:=X.base) I.ok.mod.kin c.kp (thn (j pos X4 _ σ H1 _ (I1.tok _) h) λ us s2 ⟨vs,H2,I2,r,q2⟩=>{I2.kIn,?_}) g a;exact ur F l b n I2 r q2
end
def GD{K:Frag}{a:fy}(D:fy){xs:ee V}{g:TG}{tt:TT}{te:TE}{σ:St}{H:Hp}{R:Hp->Z3}(h:Z5->St->Hp->ee V->Z3)(h0:h 0 σ H [])(u:∀i σ H ys,i≤xs.length->h i σ H ys->X3 K H a xs)(hs:∀i x σ H ys,xs[i]?=some x->h i σ H ys->g x σ H λc r=>tt c r λb n=>if b=Z1 then
   te c n λy l=>l D=some (.lst ys)/\ys.length<Z7/\h (i+1) c (Z9 l D (.lst (ys++[y]))) (ys++[y]) else h (i+1) c n ys)(v:∀σ H ys,h xs.length σ H ys->R H) :
  ∃W:Z5->Z5->St->Hp->ee V->Z3,(∃m,W 0 m σ H [])/\∀i m f H' ys,W i m f H' ys->((Itt K a).stop i H'/\R H')∨
   ((Itt K a).go i H'/\∃N:St->Hp->ee V->Z3,(∀f H' j,N f H' j->∃s,s<m/\W (i+1) s f H' j)/\∀x H2,(Itt K a).yld i H' x H2->g x f H2 λc r=>tt c r λb n=>if b=Z1 then
    te c n λy l=>l D=some (.lst ys)/\ys.length<Z7/\N c (Z9 l D (.lst (ys++[y]))) (ys++[y])
    else N c n ys):=by
 exists λi m σ H ys=>m=xs.length-i/\i≤xs.length/\h i σ H ys,{xs.length,o8,Xw _,h0};rintro i m σ H ys ⟨rfl,hi,p⟩;let q:=u i σ H ys hi p;by_cases o:i<xs.length
 .refine .inr {{xs,xs[i],q,by simp[o]},h (i+1),λf H' j t=>{xs.length -(i+1),o6,G,o,t},λx H' y=>?_};let⟨e,y⟩:=y;subst e;exact hs i x σ _ ys (y xs q) p
 .let e:i=xs.length:=by omega
  subst e;exact .inl {{xs,q,Xk _},v σ H ys p}
def tI(n:Z4):Z4:=n*128 % 18446744073709551616+n / 144115188075855872
def EX(n:Z5):tI ↥n =(Chk.T n:Z5):=by unfold tI Chk.T;omega
def uE(a b:Z5):Builtin.bitXor ↥a ↥b =((a ^^^ b:Z5):Z4):=by
 rw[PyProof.Rows.bitXor_and];let e:Builtin.bitAnd ↥a ↥b =((a &&& b:Z5):Z4):=by unfold Builtin.bitAnd;simp
 rw[e];let:=Chk.ID a b;omega
def flat(rows:ee (Z5×Z5)):ee Z5:=rows.flatMap λr=>[r.1,r.2]
def yQ(rows:ee (Z5×Z5))(r:Z5×Z5):flat (rows++[r])=flat rows++[r.1,r.2]:=by simp[flat]
structure bP(H:Hp)(L:ee V)(rows:ee (Z5×Z5)):Z3 where
 len:L.length=rows.length
 get:∀(i:Z5)v,L[i]?=some v->∃t r,v=V.ref t/\rows[i]?=some r/\H t=some (.tup [.int (r.1:Z4),.int (r.2:Z4)])
def bP.mono(R:bP H L rows)(h:∀t xs,H t=some (.tup xs)->H' t=some (.tup xs)):bP H' L rows:=
 {R.len,λi v e=>let ⟨t,r,a,b,c⟩:=R.get i v e;{t,r,a,b,h t _ c}}
def bP.snoc(R:bP H L rows){r:Z5×Z5}(h:H t=some (.tup [.int ↥r.1,.int ↥r.2])):bP H (L++[.ref t]) (rows++[r]):=
 ⟨by simp[R.len],λi v e=>by
  by_cases hi:i<L.length
  .rw[Yg hi] at e;let⟨t,r,a,b,c⟩:=R.get i v e;exact{t,r,a,by rwa[Yg (by grind)],c}
  .rw[Yp o6] at e;let f:i-L.length=0:=by grind
   rw[f] at e;let e:V.ref t=v:=⇑e
   refine{t,r,e.symm,?_,h};rw[Yp (by rw[←R.len];omega),←R.len,f];rfl⟩
def Bb(l:ee (Z5×Z5)):(flat l).length=2*l.length:=by
 induction l with
 |nil=>rfl
 |cons r l a=>have:flat (r::l)=r.1::r.2::flat l:=rfl;rw[this];simp only[List.length_cons,a];omega
def A6:bC "rows" v [("day",x)] =([("day",x),("rows",v)]:ee (Z6×V)):=by rw[cH o4];rfl
def oH:bC "check" v [("day",x),("rows",y)] =([("day",x),("rows",y),("check",v)]:ee (Z6×V)):=by rw[cH o4,cH o4];rfl
def BI:bC "fits" v [("day",x),("rows",y),("check",z)] =([("day",x),("rows",y),("check",z),("fits",v)]:ee (Z6×V)):=by rw[cH o4,cH o4,cH o4];rfl
def HB:bC "base" v [("day",x),("rows",y),("check",z),("fits",f)] =([("day",x),("rows",y),("check",z),("fits",f),("base",v)]:ee (Z6×V)):=by rw[cH o4,cH o4,cH o4,cH o4];rfl
def lM{x:V}{r:ee (Z6×V)}:List.lookup ("day":Str) (("day",x)::r)=some x:=by rw[Xz];simp
def gO{x y:V}{r:ee (Z6×V)}:List.lookup ("rows":Str) (("day",x) ::("rows",y)::r)=some y:=by rw[Xz,show(("rows":Str) == "day")=Z2 by decide +kernel,Xz];simp
def kO{x y z:V}{r:ee (Z6×V)}:List.lookup ("check":Str) (("day",x) ::("rows",y) ::("check",z)::r)=some z:=by rw[Xz,show(("check":Str) == "day")=Z2 by decide +kernel,Xz,show(("check":Str) == "rows")=Z2 by decide +kernel,Xz];simp
def Dq{x y z f:V}{r:ee (Z6×V)}:List.lookup ("fits":Str) (("day",x) ::("rows",y) ::("check",z) ::("fits",f)::r)=some f:=by rw[Xz,show(("fits":Str) == "day")=Z2 by decide +kernel,Xz,show(("fits":Str) == "rows")=Z2 by decide +kernel,Xz,show(("fits":Str) == "check")=Z2 by decide +kernel,Xz];simp
def Dl{x y z f v:V}{r:ee (Z6×V)}:List.lookup ("base":Str) (("day",x) ::("rows",y) ::("check",z) ::("fits",f) ::("base",v)::r)=some v:=by rw[Xz,show(("base":Str) == "day")=Z2 by decide +kernel,Xz,show(("base":Str) == "rows")=Z2 by decide +kernel,Xz,show(("base":Str) == "check")=Z2 by decide +kernel,Xz,show(("base":Str) == "fits")=Z2 by decide +kernel,Xz];simp
def pfs(wh:Bool)(b d:Z5)(r:fy)(c:Z4)(f:Bool):ee (Z6×V):=match wh with
 |true=>[("day",V.int ↥d),("rows",V.ref r),("check",V.int c),("fits",V.bl f)]
 |false=>[("day",V.int ↥d),("rows",V.ref r),("check",V.int c),("fits",V.bl f),("base",V.int ↥b)]
def d7{m:Z6}{wh:Bool}{b d:Z5}{r:fy}{c:Z4}{f:Bool}(h1:(m == "day")=Z2)(h2:(m == "rows")=Z2)(h3:(m == "check")=Z2)(h4:(m == "base")=Z2)(h5:(m == "fits")=Z2:=by decide +kernel):List.lookup m (pfs wh b d r c f)=Z0:=by
 cases wh
 .grind [pfs]
 .grind [pfs]
def stN(wh:Bool)(b:Z5):Z5:=cond wh 0 (b+1)
def iz(wh:Bool)(b d:Z5)(rows:ee (Z5×Z5)):Z5:=Chk.chk (stN wh b::d::flat rows)
def PAt(CW CG:fy)(H:Hp)(p:fy)(wh:Bool)(b d:Z5)(rows:ee (Z5×Z5))(c:Z4):Z3:=
 ∃dx r R,H p=some (.ins (cond wh CW CG) dx<|pfs wh b d r c<|decide (c =(iz wh b d rows:Z5)))/\H r=some (.tup R)/\bP H R rows
def PAt.keep{b d:Z5}{c:Z4}(h:PAt CW CG H p wh b d rows c)(s:ak H H'):PAt CW CG H' p wh b d rows c:=by let⟨dx,r,R,h1,h2,h3⟩:=h;exact{dx,r,R,s _ _ h1,s _ _ h2,h3.mono λt xs e=>s _ _ e}
def dw(c:H x=Z0)(g:H dx=Z0)(k:bg [x] (Z9 (Z9 H dx (.own x)) x o) H'):ak H H':=λb u e=>by let a:=aq e c;let f:=aq e g;exact k b u (by rw[ah a,ah f];exact e) (⇑a)
def Od{i j:Z4}:decide (V.int i=V.int j)=decide (i=j):=by grind
inductive tU(vs:ee V)(H:Hp)(Q:VK)(E:XK):Z3
 |m n(_:vs=[.int n])(_:Q (.int (tI n)) H)
inductive vL(vs:ee V)(H:Hp)(Q:VK)(E:XK):Z3
 |m (s d:Z5) (a:fy) (L:ee V) (rows:ee (Z5×Z5))(_:vs=[.int ((s:Z4)-1),.int (d:Z4),.ref a])(_:H a=some (.lst L)∨H a=some (.tup L))(_:bP H L rows)(_:rows.length≤100)(_:∀H',ak H H'->Q (.int (Chk.chk (s::d::flat rows):Z5)) H')
inductive qI(K:Frag)(vs:ee V)(H:Hp)(Q:VK)(E:XK):Z3
 |m (p C dx a:fy) (s d:Z5) (L:ee V) (rows:ee (Z5×Z5)) (cv:V) (c:Z4)(_:vs=[.ref p,.int ((s:Z4)-1),.int (d:Z4),.ref a,cv])(_:H p=some (.ins C dx []))(_:Cls K C)(_:aF K C "day")(_:aF K C "rows")(_:aF K C "check")(_:aF K C "fits")(_:H a=some (.lst L)∨H a=some (.tup L))(_:bP H L rows)(_:rows.length≤100)(_:(cv=.non/\c =(Chk.chk (s::d::flat rows):Z5))∨cv=.int c)(_:∀r R H',H' p=some (.ins C dx [("day",V.int (d:Z4)),("rows",V.ref r),("check",V.int c),("fits",V.bl (decide (c =(Chk.chk (s::d::flat rows):Z5))))])->H' r=some (.tup R)->bP H' R rows->bg [p] H H'->Q .non H')
inductive kB(CW CG:fy)(vs:ee V)(H:Hp)(Q:VK)(E:XK):Z3
 |m (p dx a:fy) (d:Z5) (L:ee V) (rows:ee (Z5×Z5)) (cv:V) (c:Z4)(_:vs=[.ref p,.int (d:Z4),.ref a,cv])(_:H p=some (.ins CW dx []))(_:H a=some (.lst L)∨H a=some (.tup L))(_:bP H L rows)(_:rows.length≤100)(_:(cv=.non/\c =(iz Z1 0 d rows:Z5))∨cv=.int c)(_:∀H',PAt CW CG H' p Z1 0 d rows c->bg [p] H H'->Q .non H')
inductive kK(CW CG:fy)(vs:ee V)(H:Hp)(Q:VK)(E:XK):Z3
 |m (p dx a:fy) (b d:Z5) (L:ee V) (rows:ee (Z5×Z5)) (cv:V) (c:Z4)(_:vs=[.ref p,.int (b:Z4),.int (d:Z4),.ref a,cv])(_:H p=some (.ins CG dx []))(_:H a=some (.lst L)∨H a=some (.tup L))(_:bP H L rows)(_:rows.length≤100)(_:(cv=.non/\c =(iz Z2 b d rows:Z5))∨cv=.int c)(_:∀H',PAt CW CG H' p Z2 b d rows c->bg [p] H H'->Q .non H')
inductive uu(CW CG:fy)(vs:ee V)(H:Hp)(Q:VK)(E:XK):Z3
 |m p wh b d rows c(_:vs=[.ref p])(_:PAt CW CG H p wh b d rows c)(_:Q (.int (rows.length:Z4)) H)
inductive um(CW CG:fy)(vs:ee V)(H:Hp)(Q:VK)(E:XK):Z3
 |m p wh b d rows c(_:vs=[.ref p])(_:PAt CW CG H p wh b d rows c)(_:rows.length≤100)(_:∀H',ak H H'->Q (.bl (decide (c =(iz wh b d rows:Z5)))) H')
inductive sI(vs:ee V)(H:Hp)(Q:VK)(E:XK):Z3
 |m p(_:vs=[.ref p])(_:Q (.int (-1)) H)
inductive tD(CW CG:fy)(vs:ee V)(H:Hp)(Q:VK)(E:XK):Z3
 |m p b d rows c(_:vs=[.ref p])(_:PAt CW CG H p Z2 b d rows c)(_:Q (.int (b:Z4)) H)
inductive wm(vs:ee V)(H:Hp)(Q:VK)(E:XK):Z3
 |m p(_:vs=[.ref p])(_:Q (.str (Str.ofString "whole")) H)
inductive vN(vs:ee V)(H:Hp)(Q:VK)(E:XK):Z3
 |m p(_:vs=[.ref p])(_:Q (.str (Str.ofString "gain")) H)
def uq:∀{us:ee mu}{ns:ee Z4},IntsAre us ns->Vals (ns.map Z8) us
 |_,_,.nil=>.nil
 |_,_,.cons _ t r=>.cons ⟨t,G⟩<|uq r
def wj(h:IntsAre us ns):us.length=ns.length:=by let:=(uq h).length;rw[Xj] at this;exact this.symm
def BS(x:bF P w H h a o):∃ob,h.get? a=some ob:=by
 cases o with
 |lst xs=>let⟨_,_,_,_,e⟩:=x;exact{_,e}
 |tup xs=>let⟨_,_,_,ob,e,_⟩:=x;exact{_,e}
 |dK kvs=>let⟨_,_,_,_,o,_,_,e,_⟩:=x;exact{_,e}
 |dT kvs=>let⟨_,_,_,_,o,_,_,e,_⟩:=x;exact{_,e}
 |set S n=>let⟨o,_,_,_,e,_⟩:=x;exact{_,e}
 |ins C dx fs=>let⟨_,_,_,e,_⟩:=x;exact{_,e}
 |own y=>exact x
 |xd fs=>let⟨_,⟨_,_,_,e,_⟩,_⟩:=x;exact{_,e}
 |rng lo hi=>let⟨_,_,_,e⟩:=x;exact{_,e}
 |frz ob u=>exact{_,x.1}
 |tbl ps=>exact{_,x}
 |met f y=>exact{_,x}
 |ext b=>exact x.2.1
section
variable{X:Cx}{X4:ee (fy×Obj)}{σ:St}{H:Hp}{s:nA}
def Inv.Fb{t':Z5}(I:Inv X X4 σ H s)(h:s.heap.get? a=Z0)(k:∀b o,s.heap.get? b=some o->h'.get? b=some o)(new:bF X.prog X.w (Z9 H a (.lst vs)) h' a (.lst vs)) :
  ∃_:H a=Z0,Inv X X4 σ (Z9 H a (.lst vs)) {s with heap:=h',toks:=t'}/\True:=by
 let f:H a=Z0:=by
  cases z:H a with
  |none=>rfl
  |some o=>let⟨l,g⟩:=BS<|I.hok a o z;rw[h] at g;cases g
 refine{f,?_,trivial};let j:∀b o,s.heap.get? b=some o->b≠a:=λb o e z=>by rw[z,h] at e;cases e
 let i:Un X.fs [] H (Z9 H a (.lst vs)) s.heap h':=by
  refine{λb o e _ _ _=>k b o e,λb o e _ _ _=>{o.slots,k b o e},λb o e n _=>?_,λb o e _=>{o,k b o e},λb xs e=>?_,λb o u e=>?_,λb ps e=>{#[],?_}}
  .grind [bF,Z9]
  .grind [bF,Z9]
  .grind [bF,Z9]
  .grind [bF,Z9]
 refine I.un i λb o e=>?_
 by_cases z:b=a
 .grind [bF,Z9]
 .rw[ah z] at e;exact(I.hok b o e).stay (λc v _ q=>k c v q) (λc q=>by rwa[ah<|aq q f]) λc xs q=>by rwa[ah<|aq q f]
end
section
variable{X:Cx}
inductive qb(xs:ee V)(H:Hp)(Q:VK):Z3
 |m (a:fy) (kvs:ee (Key×V)) (ns:ee Z4)(_:xs=[.ref a])(_:H a=some (.dK kvs))(_:kvs.map (·.1)=ns.map Sum.inl)(_:ns.length<64)(_:∀(l:fy)(ns':ee Z4),H l=Z0->ns'.Perm ns->ns'.Pairwise (·≤·)->Q (.ref l) (Z9 H l (.lst (ns'.map .int))))
def nW(hc:X.calm=Z1):iM X (.builtin "sorted") qb:=by
 rintro X4 s σ H xs us Q I r ⟨a,kvs,ns,rfl,hD,hk,S,q⟩;let⟨u,rfl,ru⟩:=vals1 r;cases (show u=Value.ref a from ru);let⟨hsz,lo,vs,kv,hd⟩:=oE I.hok hD;let⟨ep,a0⟩:=hd.dictAt;let g:=kv.keys;let l:vs.length=ns.length:=by let:=congrArg List.length<|g.symm.trans hk;simpa using this
 refine aaE kind_sorted plain_sorted entry_sorted (args_sorted1 _) ?_;unfold Builtin.«sorted»;refine Xd (m:=checkCount "sorted" 1 1 _)<|Xe ?_;refine Xd (abA (A:=X.A.in1) (kdl_dict (knd:=bN X.prog X.w) (kvs:=vs) (ep:=ep) lo) (I.ok.hd hc) a0 (by rw[l];exact Yk<|aN o6) λh' tk acc keep f=>?_);let hI:IntsAre acc.toList ns:=by
  refine aaD ?_;let c:acc.toList.length=ns.length:=by rw[Ys,f.1,l]
  let B:∀(j:Z5)v,acc.toList[j]?=some v->∃n t,ns[j]?=some n/\v=Value.int n t:=λj v e=>by
   let⟨k,x,h1,h2⟩:=f.2 j v (by rw[←Yv];exact e);let F:(vs.map (·.1))[j]?=some k:=by grind
   rw[←g,hk,Xo] at F;let⟨n,e2,e3⟩:=XA.mp F;subst e3;let h2:oF (Sum.inl n) v=Z1:=h2;rcases cQ h2 with⟨i,t,e5,e4⟩|⟨y,t,e5,e4⟩
   .grind
   .grind
  clear f;generalize acc.toList=us at c B;clear hk l S q
  induction us generalizing ns with
  |nil=>cases ns with
   |nil=>exact .nil
   |cons n ns=>simp at c
  |cons u us ih=>cases ns with
   |nil=>simp at c
   |cons n ns=>
    let⟨m,t,F,e2⟩:=B 0 u rfl;let F:n=m:=⇑F
    subst F;exact .cons ⟨t,e2⟩ (ih (ns:=ns) (⇑c) λj v e=>by let⟨m,t,a1,a2⟩:=B (j+1) v (⇑e);exact{m,t,⇑a1,a2})
 let c:acc.toList.length<64:=by rwa[wj hI]
 refine Xd<|wpAny_newList ?_<|Yk<|aN o6;let p:(h'.push (seqObj "list" acc.toList.toArray 0)).get? h'.objs.size=some (seqObj "list" acc.toList.toArray 0):=Xp _ rfl;refine Xd<|Yj<|YH slot_list_sort {_,p,G} entry_list_sort (list_sort_tree p hI c λout C b1 b2 b3=>{_,G,?_})<|args_list_sort _;refine Xe {_,G,?_};let⟨e,U⟩:=sortedHeap_at (out:=out) p;let Y:s.heap.get? h'.objs.size=Z0:=by
  cases z:s.heap.get? h'.objs.size with
  |none=>rfl
  |some o=>exact absurd (Xi<|keep _ _ z)<|YY _
 let L:C.length≤Z7:=by rw[b2.length_eq];exact Yk<|aN o6
 let h:∀b o,s.heap.get? b=some o->(sortedHeap (h'.push (seqObj "list" acc.toList.toArray 0)) h'.objs.size acc.toList out).get? b=some o:=λb o z=>by let hb:=keep b o z;let O:=Xi hb;rw[sortedHeap_old (Xy O) (by rw[size_push'];exact Zj O)];exact Xf _ hb
 let⟨H',I',_⟩:=I.Fb (t':=tk) (vs:=C.map Z8) Y h {by rwa[Xj],out.toList,e,uq b1,⇑U};exact{.ref h'.objs.size,_,I',G,q _ C H' b2 b3}
end
def sfs(d:fy)(fl:Z4):ee (Z6×V):=[("pieces",V.ref d),("follows",V.int fl)]
def B4:bC "follows" v [("pieces",x)] =([("pieces",x),("follows",v)]:ee (Z6×V)):=by rw[cH o4];rfl
def Al{fl m:Z4}:bC "follows" (.int m) (sfs d fl)=sfs d m:=by unfold sfs;rw[cH o4,Dz]
def jG{fl:Z4}:List.lookup ("pieces":Str) (sfs d fl)=some (V.ref d):=by grind [fl,sfs]
def qh{fl:Z4}:List.lookup ("follows":Str) (sfs d fl)=some (V.int fl):=by unfold sfs;rw[Xz,show(("follows":Str) == "pieces")=Z2 by decide +kernel,Xz];simp
def gH{m:Z6}{d:fy}{fl:Z4}(h1:(m == "pieces")=Z2)(h2:(m == "follows")=Z2):List.lookup m (sfs d fl)=Z0:=by grind [fl,sfs]
inductive cF(C:fy)(H:Hp)(p d:fy)(fl:Z4)(kvs:ee (Key×V)):Z3
 |m dx(_:H p=some (.ins C dx (sfs d fl)))(_:H d=some (.dK kvs))
def cF.keep{fl:Z4}(h:cF C H p d fl kvs)(s:ak H H'):cF C H' p d fl kvs:=by let⟨dx,h1,h2⟩:=h;exact{dx,s _ _ h1,s _ _ h2}
inductive wc(C:fy)(vs:ee V)(H:Hp)(Q:VK)(E:XK):Z3
 |m p dx(_:vs=[.ref p])(_:H p=some (.ins C dx []))(_:∀d H',cF C H' p d 0 []->H d=Z0->bg [p] H H'->Q .non H')
inductive AD(C:fy)(vs:ee V)(H:Hp)(Q:VK)(E:XK):Z3
 |m p d fl kvs n a(_:vs=[.ref p,.int n,.ref a])(_:cF C H p d fl kvs)(_:kvs.length<1000)(_:∀H',cF C H' p d (if n+1>fl then n+1 else fl) (putK kvs (.inl n) (.ref a))->bg [p,d] H H'->Q .non H')
inductive AM(C:fy)(vs:ee V)(H:Hp)(Q:VK)(E:XK):Z3
 |m p d fl kvs a(_:vs=[.ref p,.ref a])(_:cF C H p d fl kvs)(_:kvs.length<1000)(_:∀H',cF C H' p d (fl+1) (putK kvs (.inl fl) (.ref a))->bg [p,d] H H'->Q (.int fl) H')
inductive vV(C CN:fy)(vs:ee V)(H:Hp)(Q:VK)(E:XK):Z3
 |m p d fl kvs n(_:vs=[.ref p,.int n])(_:cF C H p d fl kvs)(_:∀v,aL kvs (.inl n)=some v->Q v H)(_:aL kvs (.inl n)=Z0->∀e H',ExcAt H' e CN [("number",.int n)]->ak H H'->E (.ref CN) (some e) H')
inductive yq(C CN:fy)(vs:ee V)(H:Hp)(Q:VK)(E:XK):Z3
 |m p d fl kvs n(_:vs=[.ref p,.int n])(_:cF C H p d fl kvs)(_:∀v,aL kvs (.inl n)=some v->∀H',cF C H' p d fl (c5 kvs (.inl n))->bg [p,d] H H'->Q v H')(_:aL kvs (.inl n)=Z0->∀e H',ExcAt H' e CN [("number",.int n)]->ak H H'->E (.ref CN) (some e) H')
def F8(kvs:ee (Key×V))(k j:Key):aL (c5 kvs k) j=if j=k then Z0 else aL kvs j:=by
 induction kvs with
 |nil=>show Z0=_;split <;> rfl
 |cons p r c=>
  let e:c5 (p::r) k=if p.1=k then c5 r k else p::c5 r k:=by unfold c5;rw[Zr];by_cases h:p.1=k <;> simp[h]
  rw[e];by_cases h:p.1=k
  .rw[Xm h,c];by_cases b:j=k
   .grind
   .rw[Xn b,Xn b,dg λz=>b<|z.symm.trans h]
  .rw[Xn h];by_cases a:p.1=j
   .rw[dD a,dD a,Xn λz=>h<|a.trans z]
   .rw[dg a,dg a,c]
def gy(lkv:ee (Key×V)):Z3:=∀ a∈lkv,∃n:Z4,a.1=Sum.inl n
def gy.nil:gy []:=λ_ h=>by cases h
def gy.put(h:gy kvs)(n:Z4)(v:V):gy (putK kvs (Sum.inl n) v):=λc a=>by
 unfold putK at a;split at a
 .let⟨b,h1,rfl⟩:=XI.mp a;let⟨m,e⟩:=h b h1;split
  .exact⟨m,e⟩
  .exact⟨m,e⟩
 .rcases Xv.mp a with h1|h1
  .exact h c h1
  .grind
def gy.drop(h:gy kvs)(k:Key):gy (c5 kvs k):=λb a=>h b (YB.mp a).1
def qa(H:Hp)(F:ee fy):Z3:=∀ x∈F,(∃a,H x=some (.dK a))∨(∃C dx d fl,H x=some (.ins C dx<|sfs d fl))
def qa.tup(h:qa H F)(e:H t=some (.tup xs)):t∉F:=λb=>by rcases h t b with⟨c,a⟩|⟨C,dx,d,fl,a⟩ <;>(rw[e] at a;cases a)
def PAt.jl{b d:Z5}{c:Z4}(h:PAt CW CG H a wh b d rows c)(k:bg F H H')(f:qa H F):PAt CW CG H' a wh b d rows c:=by
 let⟨dx,r,R,h1,h2,h3⟩:=h;refine{dx,r,R,k _ _ h1 λg=>?_,k _ _ h2<|f.tup h2,h3.mono λt xs e=>k _ _ e<|f.tup e};rcases f _ g with⟨j,e⟩|⟨C,i,d',fl,e⟩
 .rw[h1] at e;cases e
 .rw[h1] at e;let e:=congrArg List.length (HO.ins.inj<|XQ e).2.2;cases wh <;> simp[pfs,sfs] at e
def qa.one(h:H a=some (.dK kv)):qa H [a]:=λx b=>by
 let:x=a:=⇑b
 subst this;exact .inl {_,h}
def cF.jl{fl:Z4}(h:cF C H p d fl kvs)(k:bg F H H')(a:p∉F)(b:d∉F):cF C H' p d fl kvs:=by let⟨dx,h1,h2⟩:=h;exact{dx,k _ _ h1 a,k _ _ h2 b}
def KV.len':∀{ps:ee (Key×V)}{pv:ee (Key×mu)},KV ps pv->pv.length=ps.length
 |_,_,.nil=>rfl
 |_,_,.cons _ r=>by simp[KV.len' r]
def Ii{X:Cx}{K:Frag}{e:Expr}{ta:TE}{f:Z6}{pos:Pos}(a:X.K=K)(he:PE X e ta)(b:attributeBase e f X.env (eval e X.env)=eval e X.env):PE X (.Attribute e f pos) (RC K ta f):=by subst a;exact aT he b
section
variable{X:Cx}{X4:ee (fy×Obj)}{σ:ee (nt V)}{H:Hp}{s:nA}{d:fy}{u u':HO}
def Inv.swap(I:Inv X X4 σ H s)(e:H d=some u)(i:∀xs,u≠.tup xs)(no:∀y,u≠.own y)(B:∀ps,u≠.tbl ps)(nf:∀o v,u=.frz o v->X.H₀ d≠some (.frz o v))(new:bF X.prog X.w (Z9 H d u') s.heap d u'):Inv X X4 σ (Z9 H d u') s:=by
 let g:∀b,H b=Z0->Z9 H d u' b=Z0:=λb h=>by rw[ah λz=>by subst z;rw[h] at e;cases e];exact h
 let hs:∀b v,H b=some v->v≠u->Z9 H d u' b=some v:=λb v h n=>by rw[ah λz=>by subst z;rw[h] at e;cases e;exact n G];exact h
 refine{I.ok,I.os,I.bare,{I.base.keep,I.base.slot,λb o q n A=>g b<|I.base.free b o q n A,I.base.there,λb xs q=>hs b _ (I.base.tups b xs q) λz=>i xs z.symm,λb o v q=>?_,λb ps q=>?_},I.loc,I.cell,g _ I.free,λx c q=>g _<|I.fP x c q,λp m=>?_,λa o q=>?_,I.len}
 .let h1:=I.base.mj b o v q;by_cases f:b=d
  .subst f;rw[e] at h1;exact absurd q<|nf o v<|XQ h1
  .rw[ah f];exact h1
 .let⟨more,h1⟩:=I.base.pC b ps q;exact{more,hs b _ h1 λz=>B _ z.symm}
 .let⟨t,l,j⟩:=I.pin p m;exact{t,g _ l,j}
 .by_cases f:a=d
  .subst f;rw[af] at q;cases q;exact new
  .rw[ah f] at q;exact(I.hok a o q).stay (λ_ _ _ r=>r) (λb r=>hs b _ r λz=>no a z.symm) λb xs r=>hs b _ r λz=>i xs z.symm
def NF(H₀:Hp)(d:fy):Z3:=∀o v,H₀ d≠some (.frz o v)
def Inv.freeze(I:Inv X X4 σ H s)(e:H d=some (.dK kvs)):NF X.H₀ d/\∃o,s.heap.get? d=some o/\Inv X X4 σ (Z9 H d (.frz o (.dK kvs))) s:=by
 let nf:NF X.H₀ d:=λo v q=>by let:=I.base.mj d o v q;rw[e] at this;cases this
 let ok:=I.hok d _ e;let⟨z,y,vs,r,b,es,ep,a,c⟩:=(show bF X.prog X.w H s.heap d (.dK kvs) from ok);exact{nf,b,a,I.swap e (λ_=>nofun) (λ_=>nofun) (λ_=>nofun) (λ_ _=>nofun) ⟨a,z,y,vs,r,b,es,ep,a,c⟩}
def Inv.Mj(I:Inv X X4 σ H s)(e:H d=some (.frz o (.dK kvs)))(nf:NF X.H₀ d):Inv X X4 σ (Z9 H d (.dK kvs)) s:=by let⟨f,z,y,vs,r,b,es,ep,a,c⟩:=(show bF X.prog X.w H s.heap d (.frz o<|.dK kvs) from I.hok d _ e);exact I.swap e (λ_=>nofun) (λ_=>nofun) (λ_=>nofun) (λo v _=>nf o v) ⟨z,y,vs,r,b,es,ep,a,c⟩
end
def DA{ep:Z5}(ok:bF P w H h d (.frz o (.dK kvs)))(a:o.data=.dict es ep):∃vs,KV kvs vs/\h.DictAt (bN P w) d vs ep:=by let⟨g,z,y,vs,r,l,i,j,b,c,f,q⟩:=ok;rw[g] at b;cases b;rw[a] at f;cases f;exact{vs,r,_,_,g,c,a,q}
section
variable{X:Cx}{tg:Expr}
def Up(H₀:Hp)(t:TS):TS:=λD σ H=>t {D with nx:=λa H'=>∃d o kvs,H' d=some (.frz o<|.dK kvs)/\NF H₀ d/\D.nx a (Z9 H' d<|.dK kvs),rt:=λv H'=>∃d o kvs,H' d=some (.frz o<|.dK kvs)/\NF H₀ d/\D.rt v (Z9 H' d<|.dK kvs)} σ H
def yf{st:Stmt}{t:TS}(h:PS X st t):PS X st (Up X.H₀ t):=by
 intro X4 s σ H D I q;refine thn (h X4 s σ H _ I q) λf s' b=>?_
 cases f with
 |next=>let⟨a,H',c,d,o,kvs,e,nf,g⟩:=b;exact{a,_,c.Mj e nf,g}
 |brk=>exact b
 |cont=>exact b
 |ret u=>let⟨v,a,H',c,r,d,o,kvs,e,nf,g⟩:=b;exact{v,a,_,c.Mj e nf,r,g}
end
section
variable{X:Cx}{X4:ee (fy×Obj)}{σ:St}{H:Hp}{s:nA}{a:fy}{kvs:ee (Key×V)}{k:Key}{u r:mu}{z:V}{A:Around}{E:mu->nA->Z3}
def Hz(I:Inv X X4 σ H s)(e:H a=some (.dK kvs))(t:RelV (kV k) u)(p:RelV z r)(x:kvs.length<Z7)(h1:∀v j s',aL kvs k=some v->Inv X X4 σ H s'->RelV v j->Q j s')(h2:aL kvs k=Z0->∀s',Inv X X4 σ (Z9 H a (.dK (putK kvs k z))) s'->Q r s') :
  wpAny (model X.prog X.w) A (call (.builtin "dict.setdefault") [.ref a,u,r]) Q E s:=by
 let⟨o,l,vs,c,dd⟩:=oE I.hok e;let n:vs.length≤Z7:=by rwa[←c.length]
 let h:(putK kvs k z).length≤Z7:=by let:=i9 kvs k z;omega
 refine aad aao dd.typeIs PySem.F.entry_dict_setdefault (PySem.F.args_dict_setdefault_3 _ _ _) (PySem.kt_meets_setdefault (bN X.prog X.w) a (mY t) l r) {vs,dd,n,λv g=>?_,λg h' f hs=>?_}
 .let:=c.val k;rw[g] at this;cases b:aL kvs k with
  |none=>rw[b] at this;exact this.elim
  |some i=>rw[b] at this;exact h1 i v _ b (I.tok _) this
 .let m:aL kvs k=Z0:=by
   let:=c.val k;rw[g] at this;cases b:aL kvs k with
   |none=>rfl
   |some i=>rw[b] at this;exact this.elim
  let he:∃q,h'.get? a=some q:=let ⟨q,_,_,hq,_⟩:=f;⟨q,hq⟩;exact h2 m _<|qc I (by rw[e];exact True.intro) hs he<|wY h l (c.put k p) f
end
inductive A8(ty:TE)(tx:TE)(σ:St)(Q:VK)(x:V)(H1:Hp):Z3
 |m a(_:x=.ref a)(_:IsD H1 a)(_:ty σ H1 λy H2=>tx σ H2 λz H3=>∃kvs k,H3 a=some (.dK kvs)/\y=kV k/\kvs.length<Z7/\(∀v,aL kvs k=some v->Q v H3)/\(aL kvs k=Z0->Q z (Z9 H3 a (.dK (putK kvs k z)))))
def K7(td ty tx:TE):TE:=λσ H Q=>td σ H λx H1=>A8 ty tx σ Q x H1
def HG(n:PE X o td)(he:PE X e ty)(g:PE X f tx)(m:M2 X o "setdefault" apos e f cpos):PE X (.Call (.Attribute o "setdefault" apos) [e,f] [] cpos) (K7 td ty tx):=by
 intro X4 s σ H Q I h;refine aaz m.base m.few m.line Za aao PySem.F.type_dict_setdefault (thn (n X4 s σ H _ I h) λ u s1 ⟨x,H1,I1,rx,a,ex,d,q1⟩=>?_);subst ex;obtain rfl:u=Value.ref a:=rx;let⟨l,j,_⟩:=xo I1 d;exists l,j;rw[m.trees];refine YR G (Zq (Ym (thn (he X4 s1 σ H1 _ I1 q1) λ r s2 ⟨y,H2,I2,ry,q2⟩=>Ym (thn (g X4 s2 σ H2 _ I2 q2) λ p s3 ⟨z,H3,I3,rz,kvs,k,ea,ey,hl,q3,q4⟩=>Yt ?_))))
 subst ey;exact Hz I3 ea ry rz hl (λv q s' c b i=>{v,H3,b,i,q3 v c}) λc s' b=>{z,_,b,rz,q4 c}
inductive EqD (R:V->V->Bool->Z3) (kb:ee (Key×V)):ee (Key×V)->Bool->Z3
 |nil:EqD R kb [] Z1
 |miss {k:Key} {v:V} {r:ee (Key×V)}:aL kb k=Z0->EqD R kb ((k,v)::r) Z2
 |hit {k:Key} {v y:V} {r:ee (Key×V)} {e b:Bool}:aL kb k=some y->R v y e->EqD R kb r b->EqD R kb ((k,v)::r) (e&&b)
def JJ(K:Frag)(H:Hp)(x y:V)(b:Bool):Z3:=∃n p q c a r,n≤8/\x=.ref p/\y=.ref q/\H p=some (.dK c)/\H q=some (.dK a)/\(c.length=a.length->EqD (EqI K H n) a c r)/\b =(c.length==a.length&&r)
inductive Pf(K:Frag)(x:V)(y:V)(H:Hp)(Q:VK):Z3
 |m b(_:JJ K H x y b)(_:Q (.bl b) H)
section
variable{X:Cx}
def EqD.hits{X4:ee (fy×Obj)}{σ:St}{H:Hp}{s:nA}{A:Around}{n:Z5}(I:Inv X X4 σ H s)(m:A.units+n<cLine){l:ee (Key×V)}{c:ee (Key×mu)}(j:KV l c):∀{g:ee (Key×V)}{i:ee (Key×mu)}{r:Bool},KV g i->EqD (EqI X.K H n) l g r->PySem.W.KeqHits A s c i r
 |[],[],_,_,h=>by cases h;exact .nil
 |[],_::_,_,b,_=>by cases b
 |_::_,[],_,b,_=>by cases b
 |(k,v)::g,(k',v')::i,r,b,h=>by
  cases b with
  |cons o b=>
   let⟨rfl,q⟩:=o;cases h with
   |miss f=>
    let:=j.val k;rw[f] at this;cases a:valueAt c k with
    |none=>exact .miss a
    |some w=>rw[a] at this;exact this.elim
   |hit f he p=>
    let:=j.val k;rw[f] at this;cases a:valueAt c k with
    |none=>rw[a] at this;exact this.elim
    |some w=>rw[a] at this;exact .hit a (EqI.at I n m he q this)<|EqD.hits I m j b p
def RA(S:X.A.units+64<cLine):OpR X (compareOp .Eq) (Pf X.K):=by rintro X4 s σ H x y v u Q I o t ⟨b,⟨n,p,q,F,U,r,L,rfl,rfl,m,z,h,rfl⟩,l⟩;cases o;cases t;let⟨C,g,Y,a,j⟩:=oE I.hok m;let⟨O,i,B,f,c⟩:=oE I.hok z;refine keq_eq g i j c o6 (λe=>EqD.hits I (by show X.A.units+1+n<cLine;omega) f a<|h (by rw[a.length,f.length];exact e)) {.bl _,H,I,?_,l};rw[a.length,f.length];rfl
end
structure Leg where
 num:Z4
 start:Z4
 to:Z4
 bad:Z4
 cost:Z4
def ahead(a:ee Leg)(P:Z4->nt (ee Z4)):Z5:=(a.filter λg=>(P g.start).isNone).length
def AV{α:Type}[DecidableEq α]:∀{l m:ee α},l.Nodup->(∀ x∈l,x∈m)->l.length≤m.length
 |[],_,_,_=>Xw _
 |x::l,m,hn,h=>by
  let b:x∈m:=h x o8;let a:=Xq.mp hn;let f:=AV (l:=l) (m:=m.erase x) a.2 λy c=>(abo (show y≠x from λe=>a.1 (by rwa[←e]))).mpr<|h y (by simp[c])
  rw[aaO b] at f;let:=aa5 b;simp;omega
def gD{kvs:ee (Key×V)}:(aL kvs k).isSome=Z1↔k∈kvs.map (·.1):=by
 unfold aL;rw[ZQ,List.find?_isSome,XI];constructor
 .grind
 .grind
def uB:∀{kvs:ee (Key×V)}{k:Key}{v:V},(kvs.map (·.1)).Nodup->(k,v)∈kvs->aL kvs k=some v
 |[],_,_,_,h=>by cases h
 |(k',v')::r,k,v,hn,h=>by
  rw[Yn,Xq] at hn;unfold aL;rw[List.find?_cons];rcases XG.mp h with e|h
  .cases e;simp
  .let a:k'≠k:=λe=>hn.1 (by grind)
   simp only[a,decide_false];exact uB hn.2 h
def cR.Tw{K:Frag}{H:Hp}{a c:fy}{xs ys:ee Z4}(h1:X3 K H a (xs.map Z8))(h2:X3 K H c (ys.map Z8)):cR K H (EqI K H 0) (.ref a) (.ref c) (decide (xs=ys)):=by
 refine{a,c,_,_,λj=>decide (xs[j]? = ys[j]?),G,G,.inr<|.inr {h1,h2,λj m l b g=>?_,?_}}
 .rw[Xo] at b g;let⟨x,ex,rfl⟩:=XA.mp b;let⟨y,i,rfl⟩:=XA.mp g;refine .inl {G,G,?_};show decide (xs[j]? = ys[j]?)=eqV (.int x) (.int y);rw[ex,i];show decide (some x=some y) =(x==y);rw[ZE,abL,Zp];exact{λh=>XQ h,λh=>by rw[h]}
 .rw[Xj,Xj,ZE,abL,aaL,aaP];constructor
  .grind
  .rintro⟨h,f⟩;let f:xs.length=ys.length:=⇑f
   refine Zk λj=>?_
   by_cases n:j<xs.length
   .grind
   .grind
def AX{kvs:ee (Key×V)}(v:V)(b:(kvs.map (·.1)).Nodup):((putK kvs k v).map (·.1)).Nodup:=by
 cases h:aL kvs k with
 |none=>exact Iq v b h
 |some y=>unfold putK;rw[iw,h];simp only[Option.isSome_some,if_true,List.map_map];rw[show((λx:Key×V=>x.1) ∘ λa:Key×V=>if a.1=k then(a.1,v) else a)=λx=>x.1 from funext λa=>by simp only[Function.comp];split <;> rfl];exact b
structure cO(kvs:ee (Key×V))(S:Z4->Z3):Z3 where
 nd:(kvs.map (·.1)).Nodup
 c8:gy kvs
 val:∀i,(aL kvs (Sum.inl i)).isSome=Z1↔S i
def cO.nil:cO [] (λ_=>False):={aan,gy.nil,λi=>{λh=>(by cases h),λh=>h.elim}}
def cO.put{kvs:ee (Key×V)}{S:Z4->Z3}(h:cO kvs S)(d:Z4)(v:V):cO (putK kvs (Sum.inl d) v) (λi=>S i∨i=d):=by
 refine{AX _ h.nd,h.c8.put d _,λi=>?_};rw[iy];by_cases e:i=d
 .subst e;simp
 .rw[Xn λz=>e<|Zx z,h.val i];simp[e]
def tfs(a b c:fy):ee (Z6×V):=[("sizes",V.ref a),("weights",V.ref b),("rates",V.ref c)]
def upK(a:H4 x=Z0)(b:H4 dx=Z0)(t:fy)(o':HO)(e:H4 t=some o'):Z9 (Z9 H4 dx (.own x)) x o t=some o':=by rw[ah<|aq e a,ah<|aq e b];exact e
def iA(xs:qq Z5):Z3:=∀(i j a b:Z5),xs[i]?=some a->xs[j]?=some b->i<j->a<b
def vm{j:Z5}(f:iA xs):∀b lo hi,hi≤xs.size->hi-lo≤b->lo≤hi->(∀i a,i<lo->xs[i]?=some a->a<j)->(∀i a,hi≤i->xs[i]?=some a->j≤a) →
  ∃p,SetTable.below.go xs j b lo hi=p/\p≤xs.size/\(∀i a,i<p->xs[i]?=some a->a<j)/\(∀i a,p≤i->xs[i]?=some a->j≤a)
 |0,lo,hi,h1,h2,h3,h4,h5=>{lo,G,o6,h4,λi a c e=>h5 i a o6 e}
 |b+1,lo,hi,h1,h2,h3,h4,h5=>by
  unfold SetTable.below.go;by_cases l:lo<hi
  .rw[Xm l];dsimp only;let g:(lo+hi) / 2<xs.size:=by omega
   let em:xs[(lo+hi) / 2]?=some xs[(lo+hi) / 2]:=YK g;let m:xs.getD ((lo+hi) / 2) j=xs[(lo+hi) / 2]:=by simp[Array.getD,g]
   rw[m];by_cases h:xs[(lo+hi) / 2]<j
   .rw[Xm h];refine vm f b _ hi h1 o6 o6 (λi a c e=>?_) h5;by_cases he:i =(lo+hi) / 2
    .grind
    .grind [iA]
   .rw[Xn h];refine vm f b lo _ o6 o6 o6 h4 λi a c e=>?_;by_cases he:i =(lo+hi) / 2
    .grind
    .grind [iA]
  .grind
def vA(b:iA xs)(j:Z5):SetTable.below xs j≤xs.size/\(∀i a,i<SetTable.below xs j->xs[i]?=some a->a<j)/\(∀i a,SetTable.below xs j≤i->xs[i]?=some a->j≤a):=by let⟨p,e,h⟩:=vm (j:=j) b xs.size 0 xs.size (Xk _) o6 o6 (λi a h=>by omega) (λi a h e=>by rw[aa6 h] at e;cases e);let:SetTable.below xs j=p:=e;rwa[this]
def Ej{xs:qq Z5}(b:iA xs){i a:Z5}(h:xs[i]?=some a):SetTable.below xs (a+1)=i+1:=by
 let⟨h1,h2,h3⟩:=vA b (a+1);let hi:i<xs.size:=(Yq.mp h).1;rcases aaA (SetTable.below xs (a+1)) (i+1) with z|z|z
 .grind
 .exact z
 .let e:xs[i+1]?=some (xs[i+1]'o6):=YK o6;let u1:=h2 (i+1) _ z e;let u2:=b i (i+1) _ _ h e o6;omega
def D4(a:iA xs):SetTable.below xs 0=0:=by
 let⟨h1,h2,_⟩:=vA a 0;rcases abM (SetTable.below xs 0) with z|z
 .exact z
 .let e:xs[0]?=some (xs[0]'o6):=YK o6;let:=h2 0 _ z e;omega
def AH{α:Type}(xs:qq α){p:Z5}(b:p≤xs.size)(x:α)(i:Z5):(SetTable.insertAt xs p x)[i]? = if i<p then xs[i]? else if i=p then some x else xs[i-1]?:=by
 rw[←Yv,SetTable.toList_insertAt];let a:(xs.toList.take p).length=p:=by grind
 by_cases h1:i<p
 .grind
 .grind
def Ca{xs:qq Z5}(h:iA xs){j:Z5}(o:xs[SetTable.below xs j]?≠some j):iA (SetTable.insertAt xs (SetTable.below xs j) j):=by
 let⟨m,h1,h2⟩:=vA h j;let h3:∀i a,SetTable.below xs j≤i->xs[i]?=some a->j<a:=λi a hi e=>by
  let:=h2 i a hi e;rcases Nat.lt_or_eq_of_le this with z|z
  .exact z
  .grind [iA]
 intro i k a b c f l;rw[AH xs m] at c f;by_cases g:i<SetTable.below xs j
 .rw[Xm g] at c;by_cases k1:k<SetTable.below xs j
  .grind [iA]
  .grind
 .rw[Xn g] at c;by_cases n:i=SetTable.below xs j
  .grind
  .rw[Xn n] at c;rw[Xn o6,Xn o6] at f;exact h (i-1) (k-1) a b c f o6
def Hv(a:iA xs){j:Z5}(h:xs[SetTable.below xs j]?=some j):j∈xs.toList:=by grind
def xJ:∀(m:Z5)(l:ee Z5),(∀j,j<m->j∈l)->m≤l.length
 |0,l,_=>Xw _
 |m+1,l,h=>by
  let a:=h m o6;let b:=xJ m (l.erase m) λj c=>(abo o6).mpr<|h j o6
  rw[aaO a] at b;let:=aa5 a;omega
def hop(N i:Z5):Z5:=(i*5+1) % N
def Ef(N:Z5):Z5->Z5->Z5
 |0,i=>i
 |m+1,i=>Ef N m<|hop N i
def Bg(N:Z5):Z5->Z5->Z5
 |0,_=>0
 |m+1,i=>(1 <<< i) ||| Bg N m (hop N i)
def Av{N j:Z5}:∀m i,(Bg N m i).testBit j=Z1->∃k,k<m/\Ef N k i=j
 |0,i,h=>by simp[Bg] at h
 |m+1,i,h=>by
  unfold Bg at h;rw[Nat.testBit_or,Bool.or_eq_true] at h;rcases h with h|h
  .exists (0),o6;rw[Nat.testBit_shiftLeft] at h;simp only[Bool.and_eq_true,decide_eq_true_eq] at h;let⟨h1,h2⟩:=h;let:j-i=0:=by
    rcases abM (j-i) with z|z
    .exact z
    .rw[Nat.testBit_one_eq_true_iff_self_eq_zero] at h2;exact h2
   show i=j;omega
  .let⟨k,a,e⟩:=Av m (hop N i) h;exact{k+1,o6,e}
def fJ(N:Z5):Bool:=(List.range N).all λi=>Bg N N i==2 ^ N-1
def OL:fJ 8=Z1:=by decide +kernel
def Df:fJ 32=Z1:=by decide +kernel
def A9:fJ 128=Z1:=by decide +kernel
def F5{N:Z5}(h:fJ N=Z1){i j:Z5}(hi:i<N)(a:j<N):∃k,k<N/\Ef N k i=j:=by unfold fJ at h;rw[aaP] at h;let:=h i<|ZN.mpr hi;rw[Zp] at this;refine Av N i ?_;rw[this,Nat.testBit_two_pow_sub_one];exact Xr a
def adv(t:SetTable):Z5->SetTable.Probe->SetTable.Probe
 |0,p=>p
 |k+1,p=>adv t k<|t.advance p
def IE(t:SetTable):∀a b p,adv t (a+b) p=adv t b (adv t a p):=by intro x;induction x <;> grind [adv]
def pT(t:SetTable)(q:Z5×Z5)(d:nt Z5):SetTable.Probe:={j:=q.1,more:=SetTable.runEnd t.mask q.1-q.1,i:=q.1,perturb:=q.2,dummy:=d}
def CO(t:SetTable):∀m p,p.more=m->adv t (m+1) p=pT t (SetTable.leap t.mask p.i p.perturb) p.dummy
 |0,p,h=>by show t.advance p=_;unfold SetTable.advance;rw[Xn o6];rfl
 |m+1,p,h=>by
  show adv t (m+1) (t.advance p)=_;let e:t.advance p={p with j:=p.j+1,more:=p.more-1}:=by unfold SetTable.advance;rw[Xm o6]
  rw[e,CO t m _ (by grind)]
def ef(mask:Z5):Z5->Z5×Z5->Z5×Z5
 |0,q=>q
 |m+1,q=>ef mask m<|SetTable.leap mask q.1 q.2
def WD(mask i:Z5):SetTable.runEnd mask i-i≤9:=by unfold SetTable.runEnd;split <;> omega
def zm(t:SetTable)(d:nt Z5):∀m q,∃k,k≤10*m/\adv t k (pT t q d)=pT t (ef t.mask m q) d
 |0,q=>{(0),o6,G}
 |m+1,q=>by let⟨k,a,e⟩:=zm t d m<|SetTable.leap t.mask q.1 q.2;exists (SetTable.runEnd t.mask q.1-q.1+1)+k,(by let:=WD t.mask q.1;omega);rw[IE,CO t (SetTable.runEnd t.mask q.1-q.1) (pT t q d) rfl];exact e
def yZ(mask:Z5):∀a b q,ef mask (a+b) q=ef mask b (ef mask a q):=by intro x;induction x <;> grind [ef]
def yS(mask:Z5):∀m q,(ef mask m q).2=q.2 / 32 ^ m
 |0,q=>by simp[ef]
 |m+1,q=>by show(ef mask m<|SetTable.leap mask q.1 q.2).2=_;rw[yS mask m];show q.2 / 32 / 32 ^ m=_;rw[Nat.div_div_eq_div_mul,Nat.pow_succ,Nat.mul_comm]
def xu(mask:Z5):∀m i,ef mask m (i,0) =(Ef (mask+1) m i,0)
 |0,i=>rfl
 |m+1,i=>by
  show ef mask m (SetTable.leap mask i 0)=_;let e:SetTable.leap mask i 0 =(hop (mask+1) i,0):=by unfold SetTable.leap hop;simp
  rw[e,xu mask m];rfl
def Dh(h:Z4):SetTable.bits h<2 ^ 64:=by unfold SetTable.bits;let h1:=ZG h (show(2 ^ 64:Z4)≠0 by decide);let h2:=Zh h (show↥0<2 ^ 64 by decide);omega
def yU{mask:Z5}(c:fJ (mask+1)=Z1){q:Z5×Z5}(a:q.2<2 ^ 64){j:Z5}(f:j<mask+1):∃m,m<mask+15/\(ef mask m q).1=j:=by
 let b:(ef mask 13 q).2=0:=by rw[yS];exact Nat.div_eq_of_lt<|Nat.lt_trans a o7
 let l0:(ef mask 13 q).1<mask+1:=by rw[show(13:Z5)=12+1 from G,yZ];show(_ % (mask+1))<_;exact Nat.mod_lt _ o6
 let⟨k,g,e⟩:=F5 c l0 f;exists 13+k,o6;rw[yZ,show ef mask 13 q =((ef mask 13 q).1,0) from by rw[←b],xu];exact e
def GV{t:SetTable}(a:t.dummies=#[])(j:Z5):(t.slot j=.empty/\t.place[SetTable.below t.place j]?≠some j)∨(∃i,t.slot j=.live i)/\t.place[SetTable.below t.place j]?=some j:=by
 unfold SetTable.slot;by_cases h:t.place[SetTable.below t.place j]?=some j
 .grind
 .left;let h2:SetTable.has t.dummies j=Z2:=by rw[a];simp[SetTable.has]
  let h1:(t.place[SetTable.below t.place j]? == some j)=Z2:=⇑h
  simp only[h1,h2];exact⟨G,h⟩
def F6(f:t.dummies=#[])(h:Z4):∀(a:Z5)(p:SetTable.Probe),p.dummy=Z0 →
  (∃j,SetTable.probe.go t (λ_=>h+1) h a p=some (.empty j Z0)/\t.place[SetTable.below t.place j]?≠some j)∨∀k,k<a->t.place[SetTable.below t.place (adv t k p).j]?=some (adv t k p).j
 |0,p,_=>.inr λk l=>by omega
 |a+1,p,hp=>by
  unfold SetTable.probe.go;rcases GV f p.j with⟨e,m⟩|⟨⟨i,e⟩,g⟩
  .grind
  .rw[e];dsimp only;let b:((h+1:Z4)==h)=Z2:=by simp;omega
   rw[b];simp only[Bool.false_eq_true,↓reduceIte];let c:(t.advance p).dummy=Z0:=by unfold SetTable.advance;split <;> exact hp
   rcases F6 f h a (t.advance p) c with z|z
   .exact .inl z
   .refine .inr λk l=>?_
    cases k with
    |zero=>exact g
    |succ k=>exact z k o6
def Fw{t:SetTable}(o:t.dummies=#[])(i:iA t.place)(n:fJ (t.mask+1)=Z1)(hs:t.place.size≤t.mask)(h:Z4):∃j,t.freeSlot h=some (j,Z2)/\t.place[SetTable.below t.place j]?≠some j:=by
 let c:=F6 o h (10*SetTable.turns t.mask) (t.probeStart h) rfl;rcases c with⟨j,e,g⟩|a
 .refine{j,?_,g};unfold SetTable.freeSlot SetTable.probe;rw[e];rfl
 .exfalso;let f:=xJ (t.mask+1) t.place.toList λj p=>by let⟨m,f,e⟩:=yU n (q:=(SetTable.bits h % (t.mask+1),SetTable.bits h)) (Dh h) p;let⟨k,r,l⟩:=zm t Z0 m (SetTable.bits h % (t.mask+1),SetTable.bits h);let b:t.probeStart h=pT t (SetTable.bits h % (t.mask+1),SetTable.bits h) Z0:=rfl;let:=a k (by unfold SetTable.turns;omega);rw[b,l] at this;let this:t.place[SetTable.below t.place (ef t.mask m (SetTable.bits h % (t.mask+1),SetTable.bits h)).1]?=some (ef t.mask m (SetTable.bits h % (t.mask+1),SetTable.bits h)).1:=this;rw[e] at this;exact Hv i this
  simp at f;omega
def AU{mask:Z5}:∀a q,
  (∃j,SetTable.layClean.free mask owner a q.1 q.2=some j/\owner[j]?=some Z0)∨∀m,m<a->owner[(ef mask m q).1]?≠some Z0
 |0,q=>.inr λm c=>by omega
 |a+1,q=>by
  unfold SetTable.layClean.free;cases e:(List.range (SetTable.runEnd mask q.1+1-q.1)).find? λk=>(owner.getD (q.1+k) (some 0)).isNone with
  |some k=>
   left;let f:=List.find?_some e;exists q.1+k,G;by_cases b:q.1+k<owner.size
   .simp_all
   .grind
  |none=>
   dsimp only;rcases AU a (SetTable.leap mask q.1 q.2) with z|z
   .exact .inl z
   .refine .inr λm c=>?_
    cases m with
    |succ m=>exact z m o6
    |zero=>intro h0;let:=List.find?_eq_none.mp e 0<|ZN.mpr (by unfold SetTable.runEnd;split <;> omega);let h0:owner[q.1]?=some Z0:=h0;let b:q.1<owner.size:=(Yq.mp h0).1;let he:=(Yq.mp h0).2;simp[Array.getD,b,he] at this
def fH(owner:qq (nt Z5)):ee Z5:=owner.toList.filterMap id
def GL{l:ee (nt Z5)}(h:∀j,j<l.length->l[j]?≠some Z0):(l.filterMap id).length=l.length:=by
 induction l with
 |nil=>rfl
 |cons x r c=>
  let b:=h 0 o8;cases x with
  |none=>exact absurd G b
  |some a=>rw[show(some a::r).filterMap id=a::r.filterMap id from G,Zs,Zs,c λj f=>by let:=h (j+1) (by simp;omega);simpa using this]
def IX{mask:Z5}{owner:qq (nt Z5)}(f:fJ (mask+1)=Z1)(hs:owner.size=mask+1)(a:(fH owner).length<mask+1){i p:Z5}(c:p<2 ^ 64):∃j,SetTable.layClean.free mask owner (SetTable.turns mask) i p=some j/\owner[j]?=some Z0:=by
 rcases AU (mask:=mask) (owner:=owner) (SetTable.turns mask) (i,p) with z|z
 .exact z
 .exfalso;let b:=GL (l:=owner.toList) λj g=>by let⟨m,h,e⟩:=yU f (q:=(i,p)) c (j:=j) (by simpa[hs] using g);let:=z m (by unfold SetTable.turns;omega);rw[e] at this;rwa[Yv]
  unfold fH at a;rw[b] at a;simp[hs] at a
def Gx{l:ee (nt Z5)}{j k:Z5}(h:l[j]?=some Z0):((l.set j (some k)).filterMap id).Perm (l.filterMap id++[k]):=by
 let c:j<l.length:=(Xg.mp h).1;let e:l=l.take j++Z0::l.drop (j+1):=by let b:l[j]=Z0:=(Xg.mp h).2;let:=abc j l;rw[List.drop_eq_getElem_cons c,b] at this;exact this.symm
 let a:l.set j (some k)=l.take j++some k::l.drop (j+1):=by grind
 rw[a]
 conv=>rhs;rw[e]
 simp only[List.filterMap_append];rw[show(some k::l.drop (j+1)).filterMap id=k ::(l.drop (j+1)).filterMap id from G,show(Z0::l.drop (j+1)).filterMap id =(l.drop (j+1)).filterMap id from G,List.append_assoc];exact(aaF _).mpr (List.perm_append_singleton _ _).symm
def Bk{mask:Z5}(a:fJ (mask+1)=Z1):∀(hs:ee Z4)(owner:qq (nt Z5))(k:Z5),owner.size=mask+1->(fH owner).Perm (List.range k)->k+hs.length≤mask+1 →
  ∃o,hs.foldl (λacc h=>do
   let (owner,k) ←acc;let j ←SetTable.layClean.free mask owner (SetTable.turns mask) (SetTable.bits h % (mask+1)) (SetTable.bits h)
   pure (owner.setIfInBounds j (some k),k+1)) (some (owner,k))=some (o,k+hs.length)/\o.size=mask+1/\(fH o).Perm (List.range (k+hs.length))
 |[],owner,k,h1,h2,h3=>⟨owner,G,h1,h2⟩
 |h::r,owner,k,h1,h2,h3=>by
  let c:(fH owner).length<mask+1:=by rw[h2.length_eq,List.length_range];simp at h3;omega
  let⟨j,b,m⟩:=IX a h1 c (i:=SetTable.bits h % (mask+1))<|Dh h;let f:(fH (owner.setIfInBounds j (some k))).Perm (List.range (k+1)):=by unfold fH;rw[Array.toList_setIfInBounds,List.range_succ];exact(Gx (by grind)).trans (h2.append_right _)
  let⟨o,g,s1,l⟩:=Bk a r (owner.setIfInBounds j<|some k) (k+1) (⇑h1) f (by simp at h3;omega);refine{o,?_,s1,by rwa[Zs,show k +(r.length+1)=k+1+r.length by omega]};rw[ZF];simp only[Option.bind_eq_bind,Option.bind_some,b];rwa[Zs,show k +(r.length+1)=k+1+r.length by omega]
def B5{mask:Z5}(b:fJ (mask+1)=Z1)(a:qq Z4)(c:a.size≤mask):∃o,SetTable.layClean mask a=some o/\o.size=mask+1/\(fH o).Perm (List.range a.size):=by
 let h0:fH (Array.replicate (mask+1) Z0)=[]:=by unfold fH;simp
 let⟨o,e,h1,h2⟩:=Bk b a.toList (Array.replicate (mask+1) Z0) 0 o8 (by rw[h0];exact .nil) (by simp;omega);rw[Nat.zero_add,Ys] at h2;refine{o,?_,h1,h2};unfold SetTable.layClean;rw[←Array.foldl_toList];rw[e];rfl
def pF{α:Type}(f:α->Bool)(g:α->nt Z5)(a:∀x,f x =(g x).isSome):∀l:ee α,l.filterMap (λj=>(g j).map λ_=>j)=l.filter f
 |[]=>rfl
 |x::r=>by
  cases e:g x with
  |none=>rw[List.filterMap_cons_none (by rw[e];rfl),List.filter_cons_of_neg (by rw[a,e];simp),pF f g a r]
  |some y=>rw[List.filterMap_cons_some (b:=x) (by rw[e];rfl),List.filter_cons_of_pos (by rw[a,e];rfl),pF f g a r]
def Iz{l:ee Z5}(h:l.Pairwise (· < ·)):iA l.toArray:=by intro i j a b f g c;simp only[List.getElem?_toArray] at f g;let⟨hi,n⟩:=Xg.mp f;let⟨m,o⟩:=Xg.mp g;let:=List.pairwise_iff_getElem.mp h i j hi m c;omega
def IL{mask:Z5}(m:fJ (mask+1)=Z1)(a:qq Z4)(i:a.size≤mask)(finger moves:Z5)(led plain:Bool) :
  ∃place b,SetTable.laid mask finger moves led plain a=some ({mask,place,dummies:=#[],finger,led,moves,plain},b)/\iA place/\place.size=a.size/\b.toList.Perm (List.range a.size):=by
 let⟨o,e,hs,g⟩:=B5 m a i;exists _,_,by unfold SetTable.laid;rw[e];rfl,?_,?_
 .rw[aat];let h:(λj=>Option.map (λx:Z5×Nat=>x.1) (Option.map (λy=>(j,y)) (o.getD j Z0)))=λj=>(o.getD j Z0).map λ_=>j:=by funext j;cases o.getD j Z0 <;> rfl
  rw[h,pF (λj=>(o.getD j Z0).isSome) _ λ_=>rfl];exact Iz<|aa7.filter _
 .let n:((List.range (mask+1)).filterMap λj=>(o.getD j Z0).map λy=>(j,y)).length =(fH o).length:=by
   rw[←Xj (f:=λx:Z5×Nat=>x.2)];rw[aat];unfold fH;let c:o.toList =(List.range (mask+1)).map λj=>o.getD j Z0:=by
    refine Zk λj=>?_
    rw[Yv,Xo];by_cases p:j<mask+1
    .simp_all
    .grind
   rw[c,abN];congr 2;funext j;simp only[Function.comp_apply,_root_.id];cases o.getD j Z0 <;> rfl
  simp only[List.size_toArray,List.length_map];rw[n,g.length_eq,List.length_range]
 .let l:((List.range (mask+1)).filterMap λj=>(o.getD j Z0).map λy=>(j,y)).map (λx:Z5×Nat=>x.2)=fH o:=by
   rw[aat];unfold fH;let c:o.toList =(List.range (mask+1)).map λj=>o.getD j Z0:=by
    refine Zk λj=>?_
    rw[Yv,Xo];by_cases p:j<mask+1
    .simp_all
    .grind
   rw[c,abN];congr 1;funext j;simp only[Function.comp_apply,_root_.id];cases o.getD j Z0 <;> rfl
  show(((List.range (mask+1)).filterMap λj=>(o.getD j Z0).map λy=>(j,y)).map λx:Z5×Nat=>x.2).Perm _;rwa[l]
structure jr(t:SetTable)(n:Z5)(L:Bool):Z3 where
 sz:t.place.size=n
 dm:t.dummies=#[]
 ri:iA t.place
 pl:t.plain=Z1
 ld:t.led=L
 ms:(t.mask=7/\n≤4)∨(t.mask=31/\n≤18)∨(t.mask=127/\n≤63)
def jr.fits{n:Z5}(h:jr t n L):t.fits n=Z1:=by unfold SetTable.fits SetTable.fill;rw[h.sz,h.dm];let:=h.ms;simp;omega
def jr.fresh(L:Bool):jr (.fresh 0 0 L) 0 L:={G,G,λi j a b h=>by simp[SetTable.fresh] at h,G,G,.inl ⟨G,o6⟩}
def jr.cov{n:Z5}(h:jr t n L):fJ (t.mask+1)=Z1:=by
 rcases h.ms with⟨e,_⟩|⟨e,_⟩|⟨e,_⟩ <;> rw[e]
 .exact OL
 .exact Df
 .exact A9
def mE{α:Type}(xs:qq α)(p:Z5)(x:α):(SetTable.insertAt xs p x).size=xs.size+1:=by rw[←Ys,(SetTable.insertAt_perm xs p x).length_eq];simp
def FN{es:qq (Z4×mu)}{L:Bool}(T:jr t es.size L)(m:es.size<63)(h:Z4)(x:mu) :
  ∃a t',layNew t es h x =(a,t',Z2,Z2)/\a.size=es.size+1/\t'.place.size=es.size+1/\t'.dummies=#[]/\iA t'.place/\t'.plain=Z1/\t'.led=L/\t'.mask=t.mask:=by
 let⟨j,f,l⟩:=Fw T.dm T.ri T.cov (by let:=T.ms;let:=T.sz;omega) h;let hsz:=T.sz;let b:(SetTable.insertAt es (SetTable.below t.place j) (h,x)).size=es.size+1:=mE ..;let g:SetTable.has t.dummies j=Z2:=by rw[T.dm];simp[SetTable.has]
 let i:t.put j =({t with place:=SetTable.insertAt t.place (SetTable.below t.place j) j},SetTable.below t.place j):=by unfold SetTable.put;simp only[g];rfl
 let c:({t with place:=SetTable.insertAt t.place (SetTable.below t.place j) j}:SetTable).fits (es.size+1)=Z1:=by unfold SetTable.fits SetTable.fill;simp only[mE,T.dm,hsz];let:=T.ms;simp;omega
 refine{SetTable.insertAt es (SetTable.below t.place j) (h,x),{t with place:=SetTable.insertAt t.place (SetTable.below t.place j) j},?_,b,by show(SetTable.insertAt _ _ _).size=_;rw[mE,hsz],T.dm,Ca T.ri l,T.pl,T.ld,G};unfold layNew;rw[f];dsimp only;rw[i];dsimp only;unfold SetTable.orStandIn;rw[b,c];rfl
def GZ{a mask:Z5}(n:SetTable.sizeAbove a-1=mask)(p:fJ (mask+1)=Z1)(j:es.size≤mask) :
  ∃c t',relayAll t es a =(c,t',Z2)/\c.size=es.size/\t'.place.size=es.size/\t'.dummies=#[]/\iA t'.place/\t'.plain=t.plain/\t'.led=t.led/\t'.mask=mask:=by
 let⟨place,b,e,m,f,g⟩:=IL p (es.map (·.1)) (⇑j) t.finger (t.movedTo mask) t.led t.plain;rw[Array.size_map] at f g;let i:t.relaid (es.map (·.1)) a=some ({mask,place,dummies:=#[],finger:=t.finger,led:=t.led,moves:=t.movedTo mask,plain:=t.plain},b):=by unfold SetTable.relaid;rw[n];exact e
 let h:(b.filterMap (es[·]?)).size=es.size:=by rw[←Ys,Array.toList_filterMap,((g.filterMap _).trans (by rw[filterMap_getElem?_range])).length_eq];simp
 let o:coversAll b es.size=Z1:=List.isPerm_iff.mpr g;let l:({mask,place,dummies:=#[],finger:=t.finger,led:=t.led,moves:=t.movedTo mask,plain:=t.plain}:SetTable).fits es.size=Z1:=by unfold SetTable.fits SetTable.fill;simp[f];omega
 refine{b.filterMap (es[·]?),{mask,place,dummies:=#[],finger:=t.finger,led:=t.led,moves:=t.movedTo mask,plain:=t.plain},?_,h,f,G,m,G,G,G};unfold relayAll;rw[i];dsimp only;rw[h,o,l];rfl
def LW:mu->Z4
 |.int n _=>n
 |_=>0
def mV(es:qq (Z4×mu)):ee Z4:=es.toList.map λe=>LW e.2
def mJ(prog:q8)(w:q9)(h:Heap)(a:fy)(b:ee Z4)(L:Bool):Z3:=
 ∃es ep t,h.get? a=some {.type "set",Z0,.set es ep t,#[]}/\ElemsOf (intKind prog w) es.toList/\(mV es).Perm b/\jr t es.size L/\es.size≤63
def Az(a:ElemsOf (intKind prog w) es.toList){k:Z4}:k∈mV es↔∃ e∈es.toList,(intKind prog w).is k e.2=Z1:=by
 unfold mV;rw[XI];constructor
 .rintro⟨e,he,rfl⟩;let⟨⟨f,b,_⟩,_⟩:=a e he;let⟨t,c⟩:=ZP (show Value.isInt f e.2=Z1 from b);exact{e,he,by rw[c];exact intKind_is prog w _ t}
 .rintro⟨e,he,b⟩;let⟨t,c⟩:=ZP (show Value.isInt k e.2=Z1 from b);exact{e,he,by rw[c];rfl}
def Aw(es:qq (Z4×mu)):(mV es).length=es.size:=by unfold mV;simp
section
variable{prog:q8}{w:q9}{A:Around}{E:mu->nA->Z3}{s:nA}
def xE{ep:Z5}(b:s.heap.get? a=some {.type "set",Z0,.set es ep t,#[]})(c:es'.size≤64)(h:∀h',Heap.SameBut a s.heap h'->h'.get? a=some {.type "set",Z0,.set es' (ep+1) t',#[]}->Q () {s with heap:=h'}):wpAny (model prog w) A (storeSet a es' t') Q E s:=by refine wpAny_storeSet_of b G (h _ (ZC s.heap a _) ?_)<|Yk<|aN o6;let:=XW (Obj.putSet es' t') b (by rw[putSet_of es' t' rfl];rfl);rwa[putSet_of es' t' rfl] at this
def Gm{k:Z4}(hS:mJ prog w s.heap a fm L)(x:(step_dedup fm k).length≤63)(h:∀b h',Heap.SameBut a s.heap h'->mJ prog w h' a (step_dedup fm k) L->Q b {s with heap:=h'}) :
  wpAny (model prog w) A (setAddHashed a (.int k tk) (hashInt k)) Q E s:=by
 let⟨es,ep,t,Y,i,l,H,hsz⟩:=hS;let hf:=H.fits;let u:(Value.int k tk).scannable=Z1:=rfl;let p:(intKind prog w).is k (.int k tk)=Z1:=intKind_is prog w k tk;unfold setAddHashed setAddHashedIn;refine Yj<|Xd<|ZR Y G hf ?_;dsimp only;rw[byScan_of (knd:=intKind prog w) u (by unfold scanBound;omega) i];simp only[↓reduceIte];unfold setAddByScan;refine Xd ?_;refine Xd<|wpAny_rule ?_;refine Xd<|wpAny_setScan_of (knd:=intKind prog w) p Y G hf i ?_;cases hr:List.findIdx? (λe=>(intKind prog w).is k e.2) es.toList with
 |some j=>
  dsimp only;let⟨hj,a2,_⟩:=List.findIdx?_eq_some_iff_getElem.mp hr;let a1:k∈fm:=l.mem_iff.mp<|(Az i).mpr {_,Yh hj,a2};let q:step_dedup fm k=fm:=by unfold step_dedup;rw[Xm<|Y5.mpr ⟨k,a1,o8⟩]
  rw[q] at h;refine Xe<|Xe ?_;let e:s={s with heap:=s.heap}:=by cases s;rfl
  rw[e];exact h _ s.heap (Heap.SameBut.refl a s.heap) ⟨es,ep,t,Y,i,l,H,hsz⟩
 |none=>
  dsimp only;let O:k∉fm:=λz=>by let⟨e,he,hp⟩:=(Az i).mp<|l.mem_iff.mpr z;let:=List.findIdx?_eq_none_iff.mp hr e he;rw[hp] at this;exact Bool.noConfusion this
  let q:step_dedup fm k=fm++[k]:=by
   unfold step_dedup;rw[Xn (λz=>by
    let⟨y,hy,e⟩:=Y5.mp z;let:y=k:=⇑e
    exact O<|this ▸ hy)]
  rw[q] at h x;let a8:fm.length=es.size:=by rw[←l.length_eq,Aw]
  let U:es.size<63:=by grind
  let g:=layNew_perm t es (hashInt k)<|.int k tk;let⟨f,r,e1,z1,z2,z3,z4,z5,z6,z7⟩:=FN H U (hashInt k)<|.int k tk;let a7:layNew t es ((intKind prog w).hash k) (.int k tk) =(f,r,Z2,Z2):=e1;rw[e1] at g;dsimp only at g;rw[Array.toList_push] at g;let n:ElemsOf (intKind prog w) f.toList:=(i.push p u).perm g;let o:(mV f).Perm (fm++[k]):=by unfold mV;refine(g.map _).trans ?_;rw[YX];exact l.append_right _
  let F:layNew t es (hashInt k) (.int k tk) =(f,r,Z2,Z2):=e1;rw[F];dsimp only;refine Xd<|Xe ?_;rw[z5];simp only[↓reduceIte];rw[hashByValue_scannable 8 u];refine Xd<|Xe ?_;simp only[plainKind,↓reduceIte];refine Xd (xE Y o6 λh1 C B=>?_);by_cases c:r.tooFull=Z1
  .rw[c];simp only[Bool.not_false,Bool.and_self,↓reduceIte];obtain⟨mask,hm,hc,a0,a5⟩:∃mask,SetTable.sizeAbove (SetTable.grown f.size)-1=mask/\fJ (mask+1)=Z1/\f.size≤mask/\((mask=7/\f.size≤4)∨(mask=31/\f.size≤18)∨(mask=127/\f.size≤63)):=by
    unfold SetTable.tooFull SetTable.fill at c;rw[z2,z3,z7] at c;let c:(es.size+1+0)*5≥t.mask*3:=ZS c;rcases H.ms with⟨v,S⟩|⟨v,S⟩|⟨v,S⟩
    .rw[v] at c;let:f.size=5:=by omega
     rw[this];exact{(31),o4,Df,o6,o6}
    .rw[v] at c;let:f.size=19:=by omega
     rw[this];exact{(127),o4,A9,o6,o6}
    .grind
   let m:=relayAll_perm r f<|SetTable.grown f.size;let⟨a3,t2,e2,y1,y2,y3,y4,y5,y6,y7⟩:=GZ (t:=r) (es:=f) hm hc a0;rw[e2] at m ⊢;dsimp only at m ⊢;refine Xd<|Xe ?_;refine Xd (xE B o6 λh2 a4 a6=>?_);refine Xe<|Xe ?_;refine h _ h2 (C.trans a4) {a3,_,t2,a6,n.perm m,(m.map _).trans o,{y2.trans y1.symm,y3,y4,y5.trans z5,y6.trans z6,by rwa[y7,y1]},o6}
  .let c:r.tooFull=Z2:=⇑c
   rw[c];simp only[Bool.and_false,Bool.false_eq_true,↓reduceIte];refine Xe<|Xe ?_;refine h _ h1 C {f,_,r,B,n,o,{z2.trans z1.symm,z3,z4,z5,z6,?_},o6};unfold SetTable.tooFull SetTable.fill at c;rw[z2,z3,z7] at c;let c:¬(es.size+1+0)*5≥t.mask*3:=of_decide_eq_false c;rw[z7,z1];rcases H.ms with⟨v,S⟩|⟨v,S⟩|⟨v,S⟩
   .grind
   .grind
   .right;right;omega
def mJ.at(S:mJ prog w h a fm L)(e:∀o,h.get? a=some o->h'.get? a=some o):mJ prog w h' a fm L:=by grind [mJ]
def uU(val:Z5->Z4):∀{i n:Z5},i≤n->(firstMet val i).length≤(firstMet val n).length
 |i,0,h=>by rw[show i=0 by omega];exact Xk _
 |i,n+1,h=>by
  by_cases e:i=n+1
  .grind
  .refine Ye (uU val (show i≤n by omega)) ?_;rw[firstMet_succ,step_length];split <;> omega
def Fv{n:Z5}{P:Z5->mu->Z3}{St:Z5->nA->Z3}(W:WalksS prog w A.in1 I fp wr b4 n P St)(S:fy)(q:S∉fp)(val:Z5->Z4)(y:∀i v,P i v->∃t,v=.int (val i) t)(g:(firstMet val n).length≤63):∀k i s,n-i=k->i≤n->St i s->mJ prog w s.heap S (firstMet val i) L →
   (∀s',Moved (S::wr) b4 s s'->mJ prog w s'.heap S (firstMet val n) L->R (.ok (.ret .none)) s')->codeAny (model prog w) A (.builtin "set.update.loop" {[.ref S,.ref I],[]}) R s:=by
 let p:S∉wr:=λh=>q<|W.sub _ h
 let a:∀ b∈wr,b∈S::wr:=λb g=>XR _ g
 intro k
 induction k with
 |zero=>
  intro i s U hi f F B;let C:i=n:=by omega
  subst C;refine YN ZL ?_;rw[YF YU _];show wpAny _ A.in1 (pyNext (.ref I) >>= _) _ _ s;refine Xd (W.done s _ _ f λs' z=>?_);show wpAny _ A.in1 (ret Value.none) _ _ s';exact Xe<|B s' (z.mono a) (F.at λo e=>z.heap S o p e)
 |succ k ih=>
  intro i s U hi f F B;let c:i<n:=by omega
  refine YN ZL ?_;rw[YF YU _];show wpAny _ A.in1 (pyNext (.ref I) >>= _) _ _ s;refine Xd (W.item i s _ _ c f λv s' Y r z=>?_);let⟨t,rfl⟩:=y i v Y;let H:mJ prog w s'.heap S (firstMet val i) L:=F.at λo e=>z.heap S o p e
  show wpAny _ A.in1 (holding [Value.int (val i) t] (setAdd S<|.int (val i) t) >>= _) _ _ s';refine Xd<|Yj ?_;unfold setAdd;refine Yj ?_;refine Xd<|(intKind prog w).pyHash (k:=val i) (intKind_is _ _ _ _) ?_;let m:=firstMet_succ val i;refine Gm (s:={s' with toks:=s'.toks+1}) H (by rw[←m];exact Ye (uU val c) g) λb h' j x=>?_
  rw[←m] at x;refine Xe {Ze YU _,ih (i+1) _ o6 c (W.frame _ s' _ _ r (YS _) λb g o e=>?_) x λO l u=>?_}
  .rw[j.2 b λh:b=S=>q (by rwa[←h])];exact e
  .refine B O (Moved.trans W.gtrans ((z.mono a).then_heap (YS _) λb o g e=>?_) l) u;rw[j.2 b λh:b=S=>g (by grind)];exact e
def Hr(a:mu)(h:Q₁ (.ref (~~~s)) {s with heap:=s.heap.push {.type "set",Z0,.set #[] 0 (.fresh 0 0 (!w.params.followText "set-order")),#[]}}) :
  codeAny (model prog w) A (.call (.builtin "set.__new__") {[.type "set",a],[]}) (wants Q₁ E) s:=by
 refine aaY ?_;show wpAny _ A.in1 (do checkBuiltinCall "set.__new__" {[.type "set",a],[]};again<|.builtin "set.__new__" {[.type "set",a],[]}) _ _ s;refine Xd<|ZU (PySem.F.newCall_set_1 a)<|Xe {Ze abd _,YN PySem.F.entry_set_new ?_};rw[YF abd _];unfold Builtin.«set.__new__» Builtin.Frozenset.newClass;let b:=sub_set_self;let⟨c,g,d,f,os⟩:=s;dsimp only
 wp_walk
 refine Zv<|Xe ?_;dsimp only;simp only[newObj];refine Xd<|wpAny_alloc<|Xe ?_;exact Xe h
set_option maxHeartbeats 6400000 in
theorem Fi(hh:A.handled=Z0)(hl:s.heap.IsList l items)(hi:IntsAre items.toList ns)(Y:(firstMet (λi=>ns.getD i 0) items.size).length≤63)(h:∀h' tk,mJ prog w h' (~~~s) (firstMet (λi=>ns.getD i 0) items.size) (!w.params.followText "set-order")->(∀b o,b<~~~s->s.heap.get? b=some o->h'.get? b=some o)->Q (.ref (~~~s)) {s with heap:=h',toks:=tk}) :
  wpAny (model prog w) A (call (.type "set") [.ref l]) Q E s:=by
 let⟨c,tl,a9⟩:=YD.mro;let a6:=YD.made;let a8:=YD.sub;refine Zg<|aaY ?_;show wpAny _ _ (callAny (.type "set") _) _ _ _;refine Xe {ZK _ o4,YN PySem.F.entry_type_call ?_};rw[Around.under_plain (weight_type_call_type "set" [.ref l] []) rfl];let h1:=YD.notType;let h2:=YD.canCreate;let am:=PySem.F.typeCall_set_1<|.ref l
 repeat (any_goals (first|assumption|wp_step))
 obtain⟨led,g⟩:∃led:Bool,led=!w.params.followText "set-order":={_,G};refine Y4 (Hr (.ref l) (E:=E) (Q₁:=λB m=>B=.ref (~~~s)/\m={s with heap:=s.heap.push {.type "set",Z0,.set #[] 0 (.fresh 0 0 led),#[]}}) {G,by rw[g]}) λr m hr=>?_
 cases r with
 |error e=>exact hr
 |ok fl=>
  cases fl with
  |ret B=>
   let⟨rfl,rfl⟩:=hr;let hS:(s.heap.push {.type "set",Z0,.set #[] 0 (.fresh 0 0 led),#[]}).get? (~~~s)=some {.type "set",Z0,.set #[] 0 (.fresh 0 0 led),#[]}:=Xp _ rfl;let hT:Shared.TypeIs {s with heap:=s.heap.push {.type "set",Z0,.set #[] 0 (.fresh 0 0 led),#[]}} (.ref (~~~s)) "set":={_,hS,G};let al:=YD.init.lookup;let ae:=YD.init.bind<|.ref (~~~s)
   repeat (any_goals (first|assumption|wp_step))
   refine Y4 (Zu (R:=wants (λr j=>r=.none/\∃h' tk,j={s with heap:=h',toks:=tk}/\mJ prog w h' (~~~s) (firstMet (λi=>ns.getD i 0) items.size) (!w.params.followText "set-order")/\(∀b o,b<~~~s->s.heap.get? b=some o->h'.get? b=some o)) E) YD.init.plain PySem.F.entry_set_init<|check_set_init_1 hT ?_) λU j a=>?_
   .let⟨ol,x,z,nl,S⟩:=hl;let⟨ac,q,a4,f⟩:=ol;simp only at z S;subst z;subst S;let C:(s.heap.push {.type "set",Z0,.set #[] 0 (.fresh 0 0 led),#[]}).get? l=some {.type "list",q,.seq items nl,f}:=Xf _ x;let ab:=PySem.F.sub_list_set;let a7:=PySem.F.sub_list_frozenset;let ag:(Value.type "list" == Value.type "dict")=Z2:=by decide
    let H:(s.heap.push {.type "set",Z0,.set #[] 0 (.fresh 0 0 led),#[]}).IsList l items:={_,C,G,nl,G};unfold Builtin.«set.__init__» noKeywords Builtin.Frozenset.updateFrom;generalize hPI:pyIter=PI
    wp_walk
    subst hPI;refine aax H ?_;refine Xd<|wpAny_runValue ?_;let u:l<(~~~s):=Xi x;let a3:A.in1.in1.in1.handled=Z0:=by simp[hh]
    let y:l≠(s.heap.push {.type "set",Z0,.set #[] 0 (.fresh 0 0 led),#[]}).objs.size:=by rw[Yz];exact Xy<|Zj u
    let a1:( ~~~s)∉[(s.heap.push {.type "set",Z0,.set #[] 0 (.fresh 0 0 led),#[]}).objs.size,l]:=by rw[Yz];simp only[List.mem_cons,List.mem_singleton,List.not_mem_nil,or_false,not_or];exact{Xy<|ZW _,aaa u}
    let O:∀(i:Z5)(v:mu),items[i]?=some v->∃t,v=.int ((λi=>ns.getD i 0) i) t:=λi v hv=>IntsAre.int_at hi i v (by grind)
    refine Fv (L:=!w.params.followText "set-order") ((Walks.list a3 _ l y items).toS) (~~~s) a1 (λi=>ns.getD i 0) O Y (items.size-0) 0 _ o6 (Xw _) {{_,Xp _ G,G,G},(H.push _)} ?hS0 ?hR
    case hS0=>exact{#[],(0),_,Xf _ hS,λe he=>by simp at he,.nil,by rw[←g];exact jr.fresh _,o8}
    case hR=>
     intro s' hm p;let⟨h',g',d',a0,a5⟩:=s';let eg:g'=s.gens:=hm.gens;let ed:d'=s.drawn:=hm.drawn;let eo:a5=s.os:=hm.os;subst eg;subst ed;subst eo;show wpAny _ _ _ _ _ _;refine Xe ?_;show wpAny _ _ (ret Value.none) _ _ _;refine Xe {G,h',a0,G,p,λb o Y e=>?_};let ai:b≠(~~~s):=Xy Y;let an:b≠(s.heap.push {.type "set",Z0,.set #[] 0 (.fresh 0 0 led),#[]}).objs.size:=by rw[Yz];exact Xy<|Zj Y
     exact hm.heap b o (by grind)<|Xf _<|Xf _ e
   .cases U with
    |error e=>exact a
    |ok n=>
     cases n with
     |ret r=>
      let⟨rfl,h',tk,rfl,p,a2⟩:=a
      repeat (any_goals (first|assumption|wp_step))
      exact h _ _ p a2
     |_=>exact a.elim
  |_=>exact hr.elim
end
def DH{α:Type}(next:Z5->Z5):∀(b k:Z5)(a:ee α)(out:qq α),a.length=b->(pickOrder.go next b k a out).toList.Perm (out.toList++a)
 |0,k,a,out,h=>by let:a=[]:=aaW.mp h;subst this;unfold pickOrder.go;simp
 |b+1,k,a,out,h=>by
  unfold pickOrder.go;let c:next k % a.length<a.length:=Nat.mod_lt _ o6
  rw[Xh c];dsimp only;refine(DH next b (k+1) _ _ (by grind)).trans ?_;rw[Array.toList_push,List.append_assoc];refine(aaF _).mpr ?_;rw[List.eraseIdx_eq_take_drop_succ];let e:a=a.take (next k % a.length)++a[next k % a.length]::a.drop (next k % a.length+1):=by simp_all
  conv=>rhs;rw[e]
  show(a[next k % a.length] ::(a.take (next k % a.length)++a.drop (next k % a.length+1))).Perm _;exact List.perm_middle.symm
def EZ{α:Type}(next:Z5->Z5)(xs:qq α):(pickOrder next xs).toList.Perm xs.toList:=by
 unfold pickOrder;let:=DH next xs.size 0 xs.toList #[] o8
 simpa using this
def fM(w:q9)(d:fy)(ep:Z5)(es:qq (Z4×mu)):qq (Z4×mu):=if w.params.followText "set-order" = Z1 then pickOrder (w.params.setOrder d ep) es else es
def pB(w:q9)(d:fy)(ep:Z5)(es:qq (Z4×mu)):(fM w d ep es).toList.Perm es.toList:=by
 unfold fM;split
 .exact EZ _ _
 .exact .rfl
def pe(w:q9)(d:fy)(ep:Z5)(es:qq (Z4×mu)):(fM w d ep es).size=es.size:=by rw[←Ys,(pB w d ep es).length_eq,Ys]
def slotAt(w:q9)(t:SetTable)(i:Z5):Z5:=if w.params.followText "set-order" = Z1 then 0 else match i with
 |0=>0
 |k+1=>t.place.getD k 0+1
inductive jk(h:Heap)(I d:fy)(first i n ep:Z5):Z3
 |m o(_:h.get? I=some o)(_:o.cls=.type "set_iterator")(_:o.data=.fields #[rawInt first,rawInt i,.ref d,rawInt n,rawInt ep])
def pH(h:Heap)(d:fy)(es:qq (Z4×mu))(ep:Z5)(t:SetTable):Z3:=h.get? d=some {.type "set",Z0,.set es ep t,#[]}
section
variable{prog:q8}{w:q9}{A:Around}{E:mu->nA->Z3}{s:nA}
def uW{ep:Z5}(q:pH s.heap d es ep t)(c:jr t es.size (!w.params.followText "set-order")){i:Z5}(h:∀r,(match (fM w d ep es)[i]? with|some e=>r=some (e.2,slotAt w t (i+1))|none=>r=Z0)->Q r s)(hi:i≤es.size) :
  wpAny (model prog w) A (setNext d (slotAt w t i) i ep) Q E s:=by
 let o:=c.fits;refine Xd<|ZR q G o ?_;refine Xd<|Xd<|Zv<|Xe ?_;by_cases b:w.params.followText "set-order" = Z1
 .let a:(model prog w).w.params.followText "set-order" = Z1:=b;simp only[a,↓reduceIte];simp only[bne_self_eq_false,Bool.false_eq_true,↓reduceIte];refine Xd ?_;refine Xd<|ZR q G o ?_;refine Xd<|Xd<|Zv<|Xe ?_;simp only[a,↓reduceIte];refine Xd<|Zv<|Xe ?_;refine Xe<|h _ ?_;unfold fM slotAt;simp only[b,↓reduceIte];cases e:(pickOrder (w.params.setOrder d ep) es)[i]? with
  |none=>have n:(pickOrder ((model prog w).w.params.setOrder d ep) es)[i]? = Z0:=e;rw[n];rfl
  |some x=>have n:(pickOrder ((model prog w).w.params.setOrder d ep) es)[i]?=some x:=e;rw[n];rfl
 .let b:w.params.followText "set-order" = Z2:=⇑b
  let a:(model prog w).w.params.followText "set-order" = Z2:=b;simp only[a,Bool.false_eq_true,↓reduceIte];let g:=c.pl;let l:t.led=Z1:=by rw[c.ld,b];rfl
  show wpAny _ _ (if (!t.plain&&decide (es.size>1))=Z1 then _ else _) _ _ _;rw[g];simp only[Bool.not_true,Bool.false_and,Bool.false_eq_true,↓reduceIte];show wpAny _ _ ((if (!t.led&&!es.isEmpty)=Z1 then _ else _) >>= _) _ _ _;rw[l];simp only[Bool.not_true,Bool.false_and,Bool.false_eq_true,↓reduceIte];refine Xd<|Xe ?_;refine Xe<|h _ ?_;let v:fM w d ep es=es:=by grind [pH,fM,slotAt]
  let f:∀j,slotAt w t j=match j with|0=>0|k+1=>t.place.getD k 0+1:=λj=>by unfold slotAt;rw[Xn (by rw[b];simp)]
  let hsz:=c.sz;let m:SetTable.below t.place (slotAt w t i)=i:=by
   rw[f];cases i with
   |zero=>exact D4 c.ri
   |succ k=>
    let p:k<t.place.size:=by omega
    let u:t.place[k]?=some t.place[k]:=YK p;show SetTable.below t.place (t.place.getD k 0+1)=k+1;rw[show t.place.getD k 0=t.place[k] by simp[Array.getD,p]];exact Ej c.ri u
  rw[v,m,f];by_cases y:i<es.size
  .simp_all
  .grind
namespace FS
def AS:Manifest.owners.lookup (String.ofList ['r','o','t','a','r','e','t','i','_','t','e','s'].reverse)=some Manifest.sig_set_iterator:=by kernel_rfl
def gr:Slot "set_iterator" "__next__" "set_iterator.__next__" :=
 .of (owner:="set_iterator") (n:="__next__") (by rw[aaf,Zo];kernel_rfl) o4 o4 o4
  (by first|exact .inl o4|exact .inr o4) (by rw[abe];kernel_rfl)
def qS:entryFor table "set_iterator.__next__" = some Builtin.«set_iterator.__next__»:=entryFor_of_tree (by kernel_rfl)
def sS(a:mu):argsOk "set_iterator.__next__" ⟨[a],[]⟩:=by unfold argsOk;rw[signature?_of (id:="set_iterator.__next__") (n:=['_','_','t','x','e','n','_','_']) (o:=['r','o','t','a','r','e','t','i','_','t','e','s']) (by kernel_rfl) AS];kernel_rfl
def rK:Slot "set_iterator" "__iter__" "set_iterator.__iter__" :=
 .of (owner:="set_iterator") (n:="__iter__") (by rw[aaf,Zo];kernel_rfl) o4 o4 o4
  (by first|exact .inl o4|exact .inr o4) (by rw[abe];kernel_rfl)
def BA(a:mu):argsOk "set_iterator.__iter__" ⟨[a],[]⟩:=by unfold argsOk;rw[signature?_of (id:="set_iterator.__iter__") (n:=['_','_','r','e','t','i','_','_']) (o:=['r','o','t','a','r','e','t','i','_','t','e','s']) (by kernel_rfl) AS];kernel_rfl
def Aa:entryFor table "set_iterator.__iter__" = some Builtin.«dict_keyiterator.__iter__» :=
 entryFor_alias (id':="dict_keyiterator.__iter__") (by kernel_rfl) (by first|rfl|decide +kernel|(unfold String.splitOn;simp +decide [String.splitOnAux])) o4 (by kernel_rfl)
def yo:entryFor table "set.__iter__" = some Builtin.«frozenset.__iter__» :=
 entryFor_alias (id':="frozenset.__iter__") (by kernel_rfl) G o4 (by kernel_rfl)
end FS
def jk.typeIs{a b c e:Z5}(x:jk s.heap I d a b c e):s.TypeIs (.ref I) "set_iterator":=let ⟨o,ho,hc,_⟩:=x;⟨o,ho,hc⟩
def jk.at{a b c e:Z5}(x:jk h I d a b c e)(k:∀o,h.get? I=some o->h'.get? I=some o):jk h' I d a b c e:=by grind [jk]
def pH.typeIs{ep:Z5}(x:pH s.heap d es ep t):s.TypeIs (.ref d) "set":={_,x,G}
def zJ{ep:Z5}{i:Z5}(c:jk s.heap I d (slotAt w t i) i es.size ep)(n:pH s.heap d es ep t)(j:jr t es.size (!w.params.followText "set-order"))(hi:i<es.size)(q:∀h' x,(fM w d ep es)[i]?=some x->jk h' I d (slotAt w t (i+1)) (i+1) es.size ep->Heap.SameBut I s.heap h'->Q (some x.2) {s with heap:=h'}):wpAny (model prog w) A (pyNext (.ref I)) Q E s:=by
 let⟨o,g,u,b⟩:=id c;let hex:∃x,(fM w d ep es)[i]?=some x:={_,YK (by rwa[pe])};let⟨x,p⟩:=hex;refine Xd<|Zd<|Zb (name:=Str.ofString "__next__") c.typeIs FS.gr<|YH FS.gr c.typeIs FS.qS ?_<|FS.sS _;refine Xd<|ZU (a:=(Value.ref I,[])) G ?_
 try dsimp only
 refine Xd<|wpAny_fieldsOf g b ?_;refine Xd<|aaj n G j.fits ?_;simp only[bne_self_eq_false,Bool.false_eq_true,↓reduceIte,Int.toNat_natCast];refine Xd<|uW n j (λr m=>?_)<|Yk hi;rw[p] at m;subst m;refine Xd<|Zm g b o8 ?_;let h:=XW (Obj.mapFields (·.setIfInBounds 0 (Value.int (slotAt w t (i+1):Z4) 0))) g<|Zn<|YJ b _;let l:=(Obj.cls_mapFields (o:=o) (f:=(·.setIfInBounds 0 (Value.int (slotAt w t (i+1):Z4) 0)))).trans u;let d1:(Obj.mapFields (·.setIfInBounds 0 (Value.int (slotAt w t (i+1):Z4) 0)) o).data=.fields #[rawInt (slotAt w t (i+1)),rawInt i,.ref d,rawInt es.size,rawInt ep]:=by rw[YJ b];simp[rawInt]
 generalize Obj.mapFields (·.setIfInBounds 0 (Value.int (slotAt w t (i+1):Z4) 0)) o=v at h l d1;refine Xd<|Zm h d1 o8 ?_;refine Xe {x.2,G,Xe<|q _ x p ?_<|(ZC ..).trans<|ZC ..};exact{_,XW _ h<|Zn<|YJ d1 _,(Obj.cls_mapFields ..).trans l,by rw[YJ d1];simp[rawInt]}
def AY{ep:Z5}(i:A.handled=Z0)(c:jk s.heap I d (slotAt w t es.size) es.size es.size ep)(j:pH s.heap d es ep t)(g:jr t es.size (!w.params.followText "set-order"))(n:∀h',Heap.ExtBut I s.heap h'->Q Z0 {s with heap:=h'}):wpAny (model prog w) A (pyNext (.ref I)) Q E s:=by
 let⟨o,l,q,f⟩:=id c;let p:(fM w d ep es)[es.size]? = Z0:=aa6 (by rw[pe];exact Xk _);refine Xd<|Zd<|Zb (name:=Str.ofString "__next__") c.typeIs FS.gr<|YH FS.gr c.typeIs FS.qS ?_<|FS.sS _;refine Xd<|ZU (a:=(Value.ref I,[])) G ?_
 try dsimp only
 refine Xd<|wpAny_fieldsOf l f ?_;refine Xd<|aaj j G g.fits ?_;simp only[bne_self_eq_false,Bool.false_eq_true,↓reduceIte,Int.toNat_natCast];refine Xd<|uW j g (λr h=>?_)<|Xk _;rw[p] at h;subst h;refine Xd<|Zm l f o8 ?_;refine Xd ?_;simp only[newExc,newTuple];refine Xd<|Y3 ?_ (by size_fits);refine Xd (m:=firstArgMember _ _)<|ZU (a:=Value.none) (by first|rfl|(simp only[firstArgMember];rfl)) ?_;refine Y3 ?_ (by size_fits);simp only[raiseNew];refine Xd<|wpAny_handled ?_
 first|rw[show A.in1.handled=Z0 from i]|rw[i]
 refine Xd<|Xe<|wpAny_throw ?_;refine Xd<|aaQ (T:="StopIteration") (b:=Z1) {_,Xp _ G,G} isSubtype_stop ?_;exact Xe<|n _<|((Heap.SameBut.extBut<|ZC ..).push _).push _
def zM{a b c e:Z5}(f:jk s.heap I d a b c e)(h:Q (.ref I) s):wpAny (model prog w) A (pyIter (.ref I)) Q E s:=by refine wpAny_pyIter_slot f.typeIs FS.rK<|YH FS.rK f.typeIs FS.Aa ?_<|FS.BA _;exact Xe {_,G,"set_iterator",_,f.typeIs,FS.gr.lookup,h}
def A1(d:fy)(n ep:Z5):Obj:={.type "set_iterator",Z0,.fields #[rawInt (0:Z5),rawInt (0:Z5),.ref d,rawInt n,rawInt ep],#[]}
def Hx{ep:Z5}(c:pH s.heap d es ep t)(i:jr t es.size (!w.params.followText "set-order"))(h:Q (.ref (~~~s)) {s with heap:=s.heap.push (A1 d es.size ep)}):wpAny (model prog w) A (pyIter (.ref d)) Q E s:=by
 let f:=i.fits;refine wpAny_pyIter_slot c.typeIs abf<|YH abf c.typeIs FS.yo ?_<|PySem.F.args_set_iter_1 _;refine Xd<|ZU (a:=d) G ?_;refine Xd<|Xd<|aaj c G f<|Xe ?_;refine Xd<|Xd<|ZR c G f ?_;refine Xd<|Xd<|Zv<|Xe ?_;refine Xe ?_;let g:∀b:Bool,(b &&(!t.plain&&decide (es.size>1)))=Z2:=λb=>by rw[i.pl];simp
 show wpAny _ _ (if (!w.params.followText "set-order" &&(!t.plain&&decide (es.size>1)))=Z1 then _ else _) _ _ _;rw[g];simp only[Bool.false_eq_true,↓reduceIte];refine Xd<|Xe ?_;refine Xd<|wpAny_setEpoch_of c G f ?_;simp only[newFields];refine Xd<|Y3 ?_;refine Xe {_,G,"set_iterator",_,{_,Xp _ G,G},FS.gr.lookup,?_};exact h
def Gs(c:s.TypeIs (.ref r) "set")(h:Q Z2 s):wpAny (model prog w) A (Builtin.List.listLengthHint (.ref r)) Q E s:=by
 refine Xd<|aae c PySem.F.slot_set_len.lookup ?_;generalize hid:("set.__len__":String)=f
 wp_delta
 rw[show splitId f=some ("set","__len__") from by subst hid;decide +kernel];subst hid;refine Xd<|aaQ (T:="set") (b:=Z1) c (by rw[abe];kernel_rfl) ?_;refine aaZ (λa=>absurd a o7) λ_=>?_;refine aaZ (λ_=>?_) λa=>absurd o4 a;refine Xd<|wpAny_typeOf c ?_;exact Xe h
def F4(q:A.handled=Z0)(I d:fy)(c:d≠I){ep:Z5}(l:jr t es.size (!w.params.followText "set-order")) :
  Walks prog w A I [I,d] [I] es.size (λi v=>∃e,(fM w d ep es)[i]?=some e/\v=e.2) (λi h=>jk h I d (slotAt w t i) i es.size ep/\pH h d es ep t) where
 sub:=λb a=>by simp at a;simp[a]
 frame:=λ_ _ _ st m=>{st.1.at λo e=>m I o8 o e,m d o8 _ st.2}
 item:=λi s Q E hi st g=>zJ st.1 st.2 l hi λh' x p f n=>g _ h' s.toks ⟨x,p,G⟩ {f,(n.2 d c).trans st.2} λb o a j=>n.extBut b o (λh=>a (by simp[h])) j
 done:=λs Q E st g=>AY q st.1 st.2 l λh' he=>g h' s.toks λb o a j=>he b o (λh=>a (by simp[h])) j
 self:=λ_ _ _ _ st h=>zM st.1 h
def Cj(w:q9)(t:SetTable):slotAt w t 0=0:=by unfold slotAt;split <;> rfl
def IA{ep:Z5}(c:jr t es.size (!w.params.followText "set-order")):KdlSrc prog w "set" d d es.size (λi v=>∃e,(fM w d ep es)[i]?=some e/\v=e.2) (λh=>pH h d es ep t) where
 type:=λ_ a=>a.typeIs
 there:=λ_ a=>{Xi a,Xi a}
 keep:=λ_ _ a g=>g d (.inl G) _ a
 notList:=by decide
 notTuple:=by decide
 hint:=λ_ _ _ _ a b=>Gs a.typeIs b
 iter:=λA s f a=>{A1 d es.size ep,_,(λ_ _ b=>Hx a c b),F4 f _ d (Xy<|Xi a) c,{{_,Xp _ G,G,by rw[Cj];rfl},Xf _ a}}
end
section
variable{X:Cx}
def CY:∀{us:ee mu}{ns:ee Z4},us.length=ns.length->(∀(j:Z5)v,us[j]?=some v->∃n t,ns[j]?=some n/\v=Value.int n t)->Vals (ns.map Z8) us
 |[],[],_,_=>.nil
 |[],_::_,h,_=>by simp at h
 |_::_,[],h,_=>by simp at h
 |u::us,n::ns,h,key=>by
  let⟨m,t,a,b⟩:=key 0 u rfl;let a:n=m:=⇑a
  subst a;exact .cons ⟨t,b⟩ (CY (⇑h) λj v e=>by let⟨m,t,c,f⟩:=key (j+1) v (⇑e);exact{m,t,⇑c,f})
def DX(hc:X.calm=Z1){X4:ee (fy×Obj)}{σ:St}{H:Hp}{s:nA}{d:fy}{fm:ee Z4}{Q:VK}(I:Inv X X4 σ H s)(hS:mJ X.prog X.w s.heap d fm (!X.w.params.followText "set-order"))(q:∀(l:fy)(a:ee Z4),H l=Z0->a.Perm fm->a.Pairwise (·≤·)->Q (.ref l) (Z9 H l (.lst (a.map Z8)))):wpAny (model X.prog X.w) X.A (call (.builtin "sorted") [.ref d]) (EP X X4 σ Q) X.xe s:=by
 let⟨es,ep,t,r,y,B,hT,hsz⟩:=hS;let r:pH s.heap d es ep t:=r;obtain⟨ns,g⟩:∃ns,ns=mV (fM X.w d ep es):={_,G};let C:ns.Perm fm:=by rw[g];exact((pB X.w d ep es).map _).trans B
 let O:ns.length=es.size:=by rw[g,Aw,pe]
 let F:ns.length<64:=by omega
 refine aaE kind_sorted plain_sorted entry_sorted (args_sorted1 _) ?_;refine Xd (m:=checkCount "sorted" 1 1 _)<|Xe ?_;refine Xd (abA (A:=X.A.in1) (IA (prog:=X.prog) (w:=X.w) (d:=d) (ep:=ep) hT) (I.ok.hd hc) r (Yk<|aN o6) λh' tk acc keep c=>?_);let Y:IntsAre acc.toList ns:=by
  refine aaD (CY (by rw[Ys,c.1,O]) λj v e=>?_);let⟨x,h1,h2⟩:=c.2 j v (by grind);let hx:x∈(fM X.w d ep es).toList:=by grind
  let⟨⟨k,hk,_⟩,_⟩:=y x<|(pB X.w d ep es).mem_iff.mp hx;let⟨t',S⟩:=ZP (show Value.isInt k x.2=Z1 from hk);refine{k,t',?_,by rw[h2,S]};rw[g];unfold mV;rw[Xo,Yv,h1];show some (LW x.2)=some k;rw[S];rfl
 let L:acc.toList.length<64:=by rwa[wj Y]
 refine Xd<|wpAny_newList ?_<|Yk<|aN o6;let h:(h'.push (seqObj "list" acc.toList.toArray 0)).get? h'.objs.size=some (seqObj "list" acc.toList.toArray 0):=Xp _ rfl;refine Xd<|Yj<|YH slot_list_sort {_,h,G} entry_list_sort (list_sort_tree h Y L λout a b1 b2 b3=>{_,G,?_})<|args_list_sort _;refine Xe {_,G,?_};let⟨e,p⟩:=sortedHeap_at (out:=out) h;let u:s.heap.get? h'.objs.size=Z0:=by
  cases z:s.heap.get? h'.objs.size with
  |none=>rfl
  |some o=>exact absurd (Xi<|keep _ _ z)<|YY _
 let i:a.length≤Z7:=by rw[b2.length_eq];exact Yk<|aN o6
 let f:∀b o,s.heap.get? b=some o->(sortedHeap (h'.push (seqObj "list" acc.toList.toArray 0)) h'.objs.size acc.toList out).get? b=some o:=λb o z=>by let U:=keep b o z;let n:=Xi U;rw[sortedHeap_old (Xy n) (by rw[size_push'];exact Zj n)];exact Xf _ U
 let⟨H',I',_⟩:=I.Fb (t':=tk) (vs:=a.map Z8) u f {by rwa[Xj],out.toList,e,uq b1,⇑p};exact{.ref h'.objs.size,_,I',G,q _ a H' (b2.trans C) b3}
def F0(val:Z5->Z4)(i:Z5)(k:Z4):k∈firstMet val i↔∃j,j<i/\val j=k:=by
 let h:=firstMet_any val i k;rw[ZE,Y5,Y5] at h;constructor
 .grind
 .grind
def pJ(val:Z5->Z4):∀i,(firstMet val i).Nodup
 |0=>.nil
 |i+1=>by
  rw[firstMet_succ];unfold step_dedup;let a:=pJ val i;split
  .exact a
  .grind
def dd(ns:ee Z4):ee Z4:=firstMet (λi=>ns.getD i 0) ns.length
def Fx{k:Z4}:k∈dd ns↔k∈ns:=by
 unfold dd;rw[F0];constructor
 .grind
 .intro b;let⟨j,a,e⟩:=List.getElem_of_mem b;exact{j,a,by rw[Yy,Xh a,e];rfl}
def HN{c ns:ee Z4}(g:c.Perm (dd ns))(hs:c.Pairwise (·≤·)):c.Pairwise (· < ·)/\∀k,k∈c↔k∈ns:=by refine{?_,λk=>g.mem_iff.trans Fx};let f:c.Nodup:=g.nodup_iff.mpr<|pJ _ _;let:=hs.and f;exact this.imp λ{a b}h=>by let:=h.1;let:=h.2;omega
inductive Cz(K:Frag)(Q:VK)(v:V)(H1:Hp):Z3
 |m l ns(_:v=.ref l)(_:X0 K H1 l (ns.map Z8))(_:(dd ns).length≤63)(_:∀(r:fy)(ns':ee Z4),H1 r=Z0->ns'.Pairwise (· < ·)->(∀k,k∈ns'↔k∈ns)->Q (.ref r) (Z9 H1 r (.lst (ns'.map Z8))))
def TN(K:Frag)(te:TE):TE:=λσ H Q=>te σ H λv H1=>Cz K Q v H1
def Ik{e:Expr}{te:TE}{O p2 m a:Pos}(L:X.calm=Z1)(n:Gl X "sorted")(y:X.mg "sorted" = Z0)(t:Gl X "set")(z:X.mg "set" = Z0)(he:PE X e te)(j:starEach [Expr.Call (.Name "set" p2) [e] [] a] X.env=[(Z2,eval (Expr.Call (.Name "set" p2) [e] [] a) X.env)]:=by rfl)(i:starEach [e] X.env=[(Z2,eval e X.env)]:=by rfl) :
  PE X (.Call (.Name "sorted" O) [.Call (.Name "set" p2) [e] [] a] [] m) (TN X.K te):=by
 intro X4 s σ H Q I h;refine XU<|gK I n y boot_sorted ?_;refine aab ?_ j rfl;rw[j];refine Ym ?_;refine XU<|gK I t z boot_set ?_;refine Yl ?_ i rfl;rw[i];refine Ym (thn (he X4 s σ H _ I h) λ u s1 ⟨x,H1,I1,r1,q1⟩=>?_);let⟨l,ns,rfl,U,v,q⟩:=q1;cases r1;refine Yt ?_;let⟨g,F,p,hz⟩:=I1.list U;let hI:=aaD F;let c:g.length=ns.length:=by let:=F.length;simpa using this.symm
 refine Fi (I1.ok.hd L) p.isList (⇑hI) (by rwa[YQ,c]) λh' tk C keep=>?_
 refine Yt ?_;let S:Inv X X4 σ H1 {s1 with heap:=h',toks:=tk}:=I1.kept λb o e=>keep b o (Xi e) e
 rw[show g.toArray.size=ns.length by rw[YQ,c]] at C;exact DX L S C λr A Y B f=>q r A Y (HN B f).1 (HN B f).2
end
open PySem PySem.Spec PyProof.Rows
def vM:∀{l m:ee Z4},l.Pairwise (· < ·)->m.Pairwise (· < ·)->(∀a,a∈l↔a∈m)->l=m
 |[],[],_,_,_=>rfl
 |[],b::m,_,_,h=>absurd ((h b).mpr o8) o8
 |a::l,[],_,_,h=>absurd ((h a).mp o8) o8
 |a::l,b::m,hl,hm,h=>by
  rw[List.pairwise_cons] at hl hm;let e:a=b:=by
   rcases XG.mp ((h a).mp o8) with e|h1
   .exact e
   .rcases XG.mp ((h b).mpr o8) with e|h2
    .exact e.symm
    .let:=hm.1 a h1;let:=hl.1 b h2;omega
  subst e;rw[vM hl.2 hm.2 λc=>{λf=>?_,λf=>?_}]
  .rcases XG.mp ((h c).mp (by simp[f])) with e|h1
   .subst e;let:=hl.1 c f;omega
   .exact h1
  .rcases XG.mp ((h c).mpr (by simp[f])) with e|h1
   .subst e;let:=hm.1 c f;omega
   .exact h1
def su(d:fy)(o:Obj)(kvs:ee (Key×V)):It:=
 {λi H=>i<kvs.length/\H d=some (.frz o<|.dK kvs),λi H x H'=>H'=H/\∃k v,kvs[i]?=some (k,v)/\x=v,λi H=>kvs.length≤i/\H d=some (.frz o<|.dK kvs)}
inductive Cw(H₀:Hp)(R:It->Hp->Z3)(x:V)(H1:Hp):Z3
 |m d kvs(_:x=.ref d)(_:H1 d=some (.dK kvs))(_:∀o,NF H₀ d->R (su d o kvs) (Z9 H1 d (.frz o (.dK kvs))))
def Uo(H₀:Hp)(td:TE):TI:=λσ H R=>td σ H λx H1=>Cw H₀ R x H1
def KV.Vy(r:KV kvs vs):∀{i:Z5}{k:Key}{v:V},kvs[i]?=some (k,v)->∃u,vs[i]?=some (k,u)/\RelV v u:=by
 induction r with
 |nil=>intro i k v h;simp at h
 |cons a b f=>
  intro i k v h;cases i with
  |zero=>simp at h;subst h;exact{_,by simp;exact Prod.ext a.1.symm G,a.2}
  |succ i=>let⟨u,c⟩:=f (⇑h);exact{u,⇑c}
def EY{P:q8}{w:q9}{K:Frag}{tg:Expr}{d it:fy}{o:Obj}{kvs:ee (Key×V)}{es:qq DictEntry}{ep:Z5}(f:o.data=.dict es ep) :
  Turn P w K tg (su d o kvs) [it] it (λi h=>h.IsValIter it d i kvs.length ep) where
 mem:=by simp
 obj:=λi h st b g=>by
  let e:b=it:=⇑g
  subst e;let⟨o,e,c,d⟩:=st;exact{o,e,λv z=>by rw[d] at z;cases z}
 keep:=λi h h' st k=>by let⟨o,e,r⟩:=st;exact{o,k it o8 o e,r}
 item:=by
  intro X F y B O i X4 s σ H E I q st L;subst F y B;let⟨x,j⟩:=L;let⟨vs,p,m⟩:=DA (I.hok d _ j) f;obtain⟨k,v,n⟩:∃k v,kvs[i]?=some (k,v):={_,_,Xh x};let⟨u,hu,S⟩:=KV.Vy p n;let⟨f0,f1,f2,t,A,C⟩:=q it o8;let a:=KV.len' p;refine wpAny_pyNext_values_item (knd:=bN X.prog X.w) (by rw[a];exact st) m hu λh' l sb=>?_
  rw[a] at l;let I1:Inv X X4 σ H {s with heap:=h'}:=I.turned (t':=s.toks) (λb o g e=>(sb.2 b g).trans e) f0 f1 t A C;let⟨o2,e,c,Y⟩:=id l;exact{u,G,Ae (s:={s with heap:=h'}) e c Y o7 {v,H,I1,S,⟨G,k,v,n,G⟩,l,λb g=>(q b g).1}}
 done:=by intro X F y B O i X4 s σ H E I q st L;subst F y B;let⟨U,j⟩:=L;let⟨vs,p,m⟩:=DA (I.hok d _ j) f;let⟨f0,f1,f2,t,A,C⟩:=q it o8;let a:=KV.len' p;exact wpAny_pyNext_values_end (knd:=bN X.prog X.w) (I.ok.hd O) (by rw[a];exact st) m (List.getElem?_eq_none o6) λh' eb=>{G,I.turned (t':=s.toks) (λb o g e=>eb b o g e) f0 f1 t A C}
 self:=λ_ _ _ _ _ st h=>wpAny_pyIter_valiter st h
section
variable{X:Cx}{tg:Expr}
def yr{l:Expr}{tl:TE}{apos cpos:Pos}(B:PE X l tl)(g:attributeBase l "values" X.env (eval l X.env)=eval l X.env:=by rfl)(f:(apos.endLine==cpos.line)=Z1:=by rfl):PI X tg (.Call (.Attribute l "values" apos) [] [] cpos) (Uo X.H₀ tl):=by
 intro X4 s σ H R I h;refine wpAny_Call_method0_late g f (thn (B X4 s σ H _ I h) λ v s1 ⟨x,H1,I1,r1,q1⟩=>?_);let⟨d,kvs,e,n,q⟩:=q1;subst e;cases (show v=Value.ref d from r1);let⟨nf,o,m,A⟩:=I1.freeze n;let⟨z,y,vs,r,S,es,ep,t,c,a,rest⟩:=(show bF X.prog X.w H1 s1.heap d (.dK kvs) from I1.hok d _ n);rw[m] at t;cases t;let j:=KV.len' r;let L:s1.heap.DictAt (bN X.prog X.w) d vs ep:=⟨o,es,m,c,a,rest⟩;let⟨u,O,_⟩:=xo I1 (show IsD H1 d from .inl {kvs,.inl n});refine{"dict","dict.values",Za,aaR,PySem.F.type_dict_values,u,O,YR G<|PySem.evalArgs_none ?_};refine aad aaR u PySem.F.entry_dict_values (PySem.F.args_dict_values_1 _) (meets_dict_values (bN X.prog X.w) d y) {⟨vs,o,es,ep,m,c,a,rest⟩,?_};let p:=A.kept (t':=s1.toks) (h':=s1.heap.push {Value.type "dict_values",Z0,Data.fields #[Value.ref d],#[]}) λb o e=>Xf _ e
 let i:(s1.heap.push {Value.type "dict_values",Z0,Data.fields #[Value.ref d],#[]}).DictAt (bN X.prog X.w) d vs ep:={o,es,Xf _ m,c,a,rest};refine wpAny_pyIter_values (knd:=bN X.prog X.w) (d:=d) (kvs:=vs) (ep:=ep) {_,Xp _ G,G,G} i ?_;refine{_,[(s1.heap.push {Value.type "dict_values",Z0,Data.fields #[Value.ref d],#[]}).objs.size],_,_,_,G,p.kept (t':=s1.toks) λb o e=>Xf _ e,EY a,{_,Xp _ G,G,by rw[j];rfl},λb C=>?_,q o nf};let e:b =(s1.heap.push {Value.type "dict_values",Z0,Data.fields #[Value.ref d],#[]}).objs.size:=⇑C
 subst e;exact p.qK (Xk _)<|p.hok.fresh<|Xk _
end
def Hs{d:fy}{o:Obj}{kvs:ee (Key×V)}{g:TG}{tb:TS}{D:Ends}{σ:St}{H:Hp}(a:Z5->St->Hp->Z3)(h0:a 0 σ H)(n:∀i σ H,i≤kvs.length->a i σ H->H d=some (.frz o (.dK kvs)))(hs:∀i k v σ H,kvs[i]?=some (k,v)->a i σ H->g v σ H λc H2=>tb {D with nx:=a (i+1),ct:=a (i+1),bk:=D.nx} c H2)(r:∀σ H,a kvs.length σ H->D.nx σ H) :
  ∃W:Z5->Z5->St->Hp->Z3,(∃m,W 0 m σ H)/\∀i m σ H,W i m σ H →
   ((su d o kvs).stop i H/\D.nx σ H)∨((su d o kvs).go i H/\∃N:St->Hp->Z3,(∀b H',N b H'->∃j,j<m/\W (i+1) j b H')/\∀x H',(su d o kvs).yld i H x H'->g x σ H' λc H2=>tb {D with nx:=N,ct:=N,bk:=D.nx} c H2):=by
 exists λi m σ H=>m=kvs.length-i/\i≤kvs.length/\a i σ H,{kvs.length,o8,Xw _,h0};rintro i m σ H ⟨rfl,hi,p⟩;let q:=n i σ H hi p;by_cases f:i<kvs.length
 .refine .inr {⟨f,q⟩,a (i+1),λb H' l=>{kvs.length -(i+1),o6,G,f,l},λx H' y=>?_};let⟨e,k,v,h,rfl⟩:=y;subst e;exact hs i k _ σ _ h p
 .let e:i=kvs.length:=by omega
  subst e;exact .inl {{Xk _,q},r σ H p}
def yM{d:fy}{o:Obj}{kvs:ee (Key×V)}(D:fy){g:TG}{tt:TT}{te:TE}{σ:St}{H:Hp}{R:Hp->Z3}(f:Z5->St->Hp->ee V->Z3)(h0:f 0 σ H [])(z:∀i σ H ys,i≤kvs.length->f i σ H ys->H d=some (.frz o (.dK kvs)))(hs:∀i k v σ H ys,kvs[i]?=some (k,v)->f i σ H ys->g v σ H λa s=>tt a s λb l=>if b=Z1 then
   te a l λy j=>j D=some (.lst ys)/\ys.length<Z7/\f (i+1) a (Z9 j D (.lst (ys++[y]))) (ys++[y]) else f (i+1) a l ys)(A:∀σ H ys,f kvs.length σ H ys->R H) :
  ∃W:Z5->Z5->St->Hp->ee V->Z3,(∃m,W 0 m σ H [])/\∀i m c H' ys,W i m c H' ys->((su d o kvs).stop i H'/\R H')∨
   ((su d o kvs).go i H'/\∃N:St->Hp->ee V->Z3,(∀c H' h,N c H' h->∃t,t<m/\W (i+1) t c H' h)/\∀x H2,(su d o kvs).yld i H' x H2->g x c H2 λa s=>tt a s λb l=>if b=Z1 then
    te a l λy j=>j D=some (.lst ys)/\ys.length<Z7/\N a (Z9 j D (.lst (ys++[y]))) (ys++[y])
    else N a l ys):=by
 exists λi m σ H ys=>m=kvs.length-i/\i≤kvs.length/\f i σ H ys,{kvs.length,o8,Xw _,h0};rintro i m σ H ys ⟨rfl,hi,p⟩;let q:=z i σ H ys hi p;by_cases n:i<kvs.length
 .refine .inr {⟨n,q⟩,f (i+1),λc H' h u=>{kvs.length -(i+1),o6,G,n,u},λx H' y=>?_};let⟨e,k,v,r,rfl⟩:=y;subst e;exact hs i k _ σ _ ys r p
 .let e:i=kvs.length:=by omega
  subst e;exact .inl {{Xk _,q},A σ H ys p}
abbrev cY:=Z4->nt (Z4×Z4×Bool)
def uD(CW CG:fy)(H:Hp)(v:V)(s d:Z4)(g:Bool):Z3:=∃a wh b dd rows c,v=.ref a/\PAt CW CG H a wh b dd rows c/\rows.length≤100/\d =↥dd/\s =(stN wh b:Z4)-1/\g=decide (c =(iz wh b dd rows:Z5))
def uD.keep{s d:Z4}(h:uD CW CG H v s d g)(k:ak H H'):uD CW CG H' v s d g:=by let⟨a,wh,b,dd,rows,c,h1,h2,h3⟩:=h;exact{a,wh,b,dd,rows,c,h1,h2.keep k,h3}
def kU(CW CG:fy)(H:Hp)(kvs:ee (Key×V))(M:cY):Z3:=∀n:Z4,match M n with
 |none=>aL kvs (Sum.inl n)=Z0
 |some (s,d,g)=>∃v,aL kvs (Sum.inl n)=some v/\uD CW CG H v s d g
section
variable{CW CG:fy}{H H':Hp}{kvs lkv:ee (Key×V)}{M:cY}{F:ee fy}{n s d:Z4}{g:Bool}
def kU.got(h:kU CW CG H kvs M)(e:M n=some (s,d,g)):∃v,aL kvs (Sum.inl n)=some v/\uD CW CG H v s d g:=by let:=h n;rwa[e] at this
def kU.gone(h:kU CW CG H kvs M)(e:M n=Z0):aL kvs (Sum.inl n)=Z0:=by let:=h n;rwa[e] at this
def kU.has(h:kU CW CG H kvs M)(e:aL kvs (Sum.inl n)=some v):∃s d g,M n=some (s,d,g)/\uD CW CG H v s d g:=by
 cases a:M n with
 |none=>rw[h.gone a] at e;cases e
 |some x=>let⟨s,d,g⟩:=x;let⟨b,h1,h2⟩:=h.got a;rw[h1] at e;cases e;exact⟨s,d,g,G,h2⟩
def kU.keep(h:kU CW CG H kvs M)(k:ak H H'):kU CW CG H' kvs M:=λn=>by
 cases e:M n with
 |none=>exact h.gone e
 |some x=>let⟨s,d,g⟩:=x;let⟨v,h1,h2⟩:=h.got e;exact{v,h1,h2.keep k}
end
def okG(gd g:Bool):Z3:=g=Z1∨gd=Z2
instance (gd g:Bool):Decidable (okG gd g):=inferInstanceAs<|Decidable (_∨_)
inductive Rk (M:cY) (gd:Bool):Z5->Z4->Z3
 |zero:Rk M gd 0 (-1)
 |step {k:Z5} {n s d:Z4} {g:Bool}:M n=some (s,d,g)->okG gd g->Rk M gd k s->Rk M gd (k+1) d
def Rch(M:cY)(gd:Bool)(d:Z4):Z3:=∃k,Rk M gd k d
def Lev(M:cY)(gd:Bool)(d:Z4)(k:Z5):Z3:=Rk M gd k d/\∀j,j<k->¬Rk M gd j d
section
variable{M:cY}{gd:Bool}
def FW:∀(k:Z5){d:Z4},Rk M gd k d->∃j,j≤k/\Lev M gd d j:=by
 intro k
 induction k using Nat.strongRecOn with
 |_ k ih=>
  intro d h;by_cases a:∃j,j<k/\Rk M gd j d
  .let⟨j,a,b⟩:=a;let⟨i,hi,f⟩:=ih j a b;exact⟨i,o6,f⟩
  .exact{k,Xk _,h,λj c b=>a ⟨j,c,b⟩}
def Lev.one{d:Z4}{j k:Z5}(h:Lev M gd d j)(h':Lev M gd d k):j=k:=by
 rcases aaA j k with x|x|x
 .exact absurd h.1 (h'.2 j x)
 .exact x
 .exact absurd h'.1 (h.2 k x)
def Lev.zero:Lev M gd (-1) 0:={.zero,λj h=>absurd h o6}
def Rk.Ea{d:Z4}(h:Rk M gd 0 d):d = -1:=by cases h;rfl
def Lev.pred{d:Z4}{k:Z5}(h:Lev M gd d (k+1)):∃n s g,M n=some (s,d,g)/\okG gd g/\Lev M gd s k:=by
 let⟨h1,h2⟩:=h;cases h1 with
 |step a b c=>exact{_,_,_,a,b,c,λj i f=>h2 (j+1) o6<|.step a b f}
def BP(M:cY):Z3:=∀n s d g,M n=some (s,d,g)->0≤d
def Rk.pos(b:BP M){k:Z5}{d:Z4}(h:Rk M gd (k+1) d):0≤d:=by
 cases h with
 |step a _ _=>exact b _ _ _ _ a
def RdL(M:cY)(gd:Bool)(ns:ee Z4):Z3:=ns.Pairwise (· < ·)/\∀x,x∈ns↔Rch M gd x/\x≠-1
structure iP(lk:ee (Key×V))(M:cY)(gd:Bool)(t:Z5):Z3 where
 nd:(lk.map (·.1)).Nodup
 c8:gy lk
 cN:∀d v,aL lk (Sum.inl d)=some v->∃n s g k,v=V.int n/\M n=some (s,d,g)/\okG gd g/\Lev M gd s k/\Lev M gd d (k+1)/\k+1≤t
 D5:∀d k,Lev M gd d (k+1)->k+1≤t->(aL lk (Sum.inl d)).isSome=Z1
structure nL(lk:ee (Key×V))(M:cY)(gd:Bool):Z3 where
 nd:(lk.map (·.1)).Nodup
 c8:gy lk
 cN:∀d v,aL lk (Sum.inl d)=some v->∃n s g k,v=V.int n/\M n=some (s,d,g)/\okG gd g/\Lev M gd s k/\Lev M gd d (k+1)
 D5:∀d k,Lev M gd d (k+1)->(aL lk (Sum.inl d)).isSome=Z1
def iP.nil:iP [] M gd 0:={aan,gy.nil,λd v h=>(by cases h),λd k _ h=>absurd h o6}
def iP.end_{t:Z5}(h:iP lk M gd t)(m:∀d,¬Lev M gd d t):nL lk M gd:=by
 let i:∀j d,¬Lev M gd d (t+j):=by
  intro j
  induction j with
  |zero=>exact m
  |succ j q=>intro d f;let⟨n,s,g,_,_,hs⟩:=Lev.pred (k:=t+j) f;exact q s hs
 refine{h.nd,h.c8,λd v e=>?_,λd k f=>?_}
 .let⟨n,s,g,k,a,b,c,l,p,_⟩:=h.cN d v e;exact⟨n,s,g,k,a,b,c,l,p⟩
 .by_cases o:k+1≤t
  .exact h.D5 d k f o
  .exact absurd (show Lev M gd d (t +(k+1-t)) by rwa[show t +(k+1-t)=k+1 by omega]) (i _ d)
def nL.iff(h:nL lk M gd)(o:BP M)(d:Z4):(aL lk (Sum.inl d)).isSome=Z1↔Rch M gd d/\d≠-1:=by
 constructor
 .intro e;cases i:aL lk (Sum.inl d) with
  |none=>rw[i] at e;cases e
  |some v=>let⟨n,s,g,k,_,a,b,c,l⟩:=h.cN d v i;exact{{_,l.1},by let:=Rk.pos o l.1;omega}
 .rintro⟨⟨k,p⟩,f⟩;let⟨j,_,m⟩:=FW k p;cases j with
  |zero=>exact absurd (Rk.Ea m.1) f
  |succ j=>exact h.D5 d j m
def nL.rise{lk:ee (Key×V)}(h:nL lk M gd)(g:BP M){ns ns':ee Z4}(e:lk.map (·.1)=ns.map Sum.inl)(c:ns'.Perm ns)(hs:ns'.Pairwise (·≤·)):RdL M gd ns':=by
 let i:ns.Nodup:=by let:=h.nd;rw[e] at this;exact(aaB.mp this).imp λa b=>a<|congrArg Sum.inl b
 let f:ns'.Nodup:=c.nodup_iff.mpr i;refine{(hs.and f).imp λ⟨a,b⟩=>by omega,λx=>?_};rw[c.mem_iff,←h.iff g x,gD,e,XI];constructor
 .intro h;exact⟨x,h,G⟩
 .rintro⟨y,h,e⟩;cases e;exact h
end
def TU:nt mu->qq mu
 |none=>#[]
 |some v=>#[v,v]
def ED(P:Z5->mu->Z3)(f:Z5->Z4)(j:Z5):nt mu->Z3
 |none=>j=0
 |some v=>∃i,i<j/\P i v/\∀a,a<j->f a≤f i
section
variable{prog:q8}{w:q9}{A:Around}{R:Result->nA->Z3}{It:fy}{fp wr:ee fy}{n:Z5}{P:Z5->mu->Z3}{St:Z5->Heap->Z3}{f:Z5->Z4}{dv:mu}
def FE(W:Walks prog w A.in1 It fp wr n P St)(a0:∀i v,P i v->∃t,v=Value.int (f i) t)(Z:fy)(hZ:Z∉fp) :
  ∀k j s C c,n-j=k->j≤n->St j s.heap->ED P f j C →
  s.heap.get? Z=some {.type "list",Z0,.seq (TU C) c,#[]} →
  (∀v h2 tk,((n=0/\v=dv)∨ED P f n (some v))->(∀b o,b∉wr->b≠Z->s.heap.get? b=some o->h2.get? b=some o)->R (.ok (.ret v)) {s with heap:=h2,toks:=tk}) →
  codeAny (model prog w) A (.builtin "max.loop" {[.ref It,.none,.ref Z],[(Str.ofString "default",dv)]}) R s:=by
 let L:=CmpOf.ints_gt (prog:=prog) (w:=w) (A:=A.in1) f a0;let nZ:Z∉wr:=λh=>hZ<|W.sub _ h
 let nm:(toString "max" ++ toString ".loop":String) = "max.loop":=by decide
 intro k
 induction k with
 |zero=>
  intro j s C c ek hj st Y U B;let ej:j=n:=by omega
  subst ej;refine YN F.entry_max_loop ?_;rw[YF Y6 _];show wpAny _ A.in1 (seqItems? (.ref Z) >>= _) _ _ s;refine Xd<|wpAny_seqItems U G ?_;show wpAny _ A.in1 (tryCatch (pyNext<|.ref It) _ >>= _) _ _ s;refine Xd<|abg (W.done s _ _ st λh2 tk x=>?_);let a:=x Z _ nZ U;cases C with
  |none=>refine Xd<|wpAny_rule<|Xe ?_;exact B dv h2 tk (.inl ⟨Y,G⟩) λb o g _ e=>x b o g e
  |some r=>replace a:h2.get? Z=some {.type "list",Z0,.seq #[r,r] c,#[]}:=a;show wpAny _ A.in1 (updateSeq Z (λ_=>#[]) >>= _) _ _ _;refine Xd ?_;refine Zi a G<|Xd<|aa8<|Xe ?_;exact B r _ tk (.inr Y) λb o g l e=>(XE _ _<|Yo l).trans<|x b o g e
 |succ k ih=>
  intro j s C c ek hj st Y U B;let u:j<n:=by omega
  refine YN F.entry_max_loop ?_;rw[YF Y6 _];show wpAny _ A.in1 (seqItems? (.ref Z) >>= _) _ _ s;refine Xd<|wpAny_seqItems U G ?_;show wpAny _ A.in1 (tryCatch (pyNext<|.ref It) _ >>= _) _ _ s;refine Xd<|abg (W.item j s _ _ u st λv h2 tk hP z x=>?_);let a:=x Z _ nZ U;cases C with
  |none=>
   let j0:j=0:=Y;subst j0;replace a:h2.get? Z=some {.type "list",Z0,.seq #[] c,#[]}:=a;show wpAny _ A.in1 (updateSeq Z (λ_=>#[v,v]) >>= _) _ _ _;refine Xd ?_;refine Zi a G ?_;rw[nm];refine Xe {Ze Y6 _,ih 1 _ (some v) _ o6 u (W.frame _ _ _ z λb g o e=>?_) {(0),o6,hP,λi hi=>by rw[show i=0 by omega];exact aar _} (XW _ a G) λO h3 p q m=>?_}
   .exact(XE _ _ λh:Z=b=>hZ (by rwa[h])).trans e
   .exact B O h3 p q λb o g l e=>m b o g l<|(XE _ _<|Yo l).trans<|x b o g e
  |some r=>
   let⟨i,hi,S,y⟩:=Y;replace a:h2.get? Z=some {.type "list",Z0,.seq #[r,r] c,#[]}:=a;show wpAny _ A.in1 (tryCatch (holding [v,v]<|richCompare .Gt v r >>= _) _ >>= _) _ _ _;refine Xd<|abg<|Yj<|Xd<|L j i v r _ _ _ hP S ?_;refine Xd<|Yj<|Y0 ?_;refine Xd<|aa8<|Xe ?_;by_cases g:f j>f i
   .simp only[show decide (f j>f i)=Z1 from decide_eq_true g,if_true];refine Xd ?_;refine Zi a G<|Xd<|aa8 ?_;rw[nm];refine Xe {Ze Y6 _,ih (j+1) _ (some v) _ o6 u (W.frame _ _ _ z λb g o e=>?_) {j,o6,hP,λH a1=>?_} (XW _ a G) λO h3 p q m=>?_}
    .exact(XE _ _ λh:Z=b=>hZ (by rwa[h])).trans e
    .by_cases e:H=j
     .rw[e];exact aar _
     .let:=y H o6;omega
    .exact B O h3 p q λb o g l e=>m b o g l<|(XE _ _<|Yo l).trans<|x b o g e
   .simp only[show decide (f j>f i)=Z2 from decide_eq_false g,Bool.false_eq_true,if_false];refine Xd<|aa8 ?_;rw[nm];refine Xe {Ze Y6 _,ih (j+1) _ (some r) c o6 u z {i,o6,S,λH a1=>?_} a λO h3 p q m=>?_}
    .by_cases e:H=j
     .rw[e];omega
     .exact y H o6
    .exact B O h3 p q λb o g l e=>m b o g l<|x b o g e
end
def ER(a d:mu):argsOk "max" ⟨[a],[(Str.ofString "default",d)]⟩:=by unfold argsOk;kernel_rfl
def Fe(dv:mu):Builtin.Builtins.bindParams "max" ["key","default"] 0 {[],[(Str.ofString "default",dv)]}=pure [Z0,some dv]:=by kernel_rfl
def maxD(d:V):ee Z4->V
 |[]=>d
 |x::r=>.int<|r.foldl max x
def foldl_max:∀(r:ee Z4)(x:Z4),(r.foldl max x=x∨r.foldl max x∈r)/\x≤r.foldl max x/\∀ y∈r,y≤r.foldl max x
 |[],x=>{.inl G,aar _,o8}
 |y::r,x=>by
  rw[ZF];let⟨h1,h2,h3⟩:=foldl_max r<|max x y;refine{?_,o6,λz a=>?_}
  .rcases h1 with h1|h1
   .rcases(show max x y=x∨max x y=y by omega) with e|e
    .exact .inl (h1.trans e)
    .exact .inr (by rw[h1,e];simp)
   .exact .inr (XR _ h1)
  .rcases XG.mp a with rfl|a
   .omega
   .exact h3 z a
def IW{ns:ee Z4}{m:Z4}(c:m∈ns)(h:∀ y∈ns,y≤m):maxD d ns=.int m:=by
 cases ns with
 |nil=>simp at c
 |cons x r=>
  let⟨h1,h2,h3⟩:=foldl_max r x;let a:r.foldl max x≤m:=by
   rcases h1 with e|e
   .rw[e];exact h x o8
   .exact h _ (XR _ e)
  let b:m≤r.foldl max x:=by
   rcases XG.mp c with rfl|e
   .exact h2
   .exact h3 m e
  show V.int (r.foldl max x)=.int m;congr 1;omega
section
variable{X:Cx}{x:Z6}{p pos kpos:Pos}{e de:Expr}{t:TA}{td:TE}
inductive Dk(K:Frag)(Q:VK)(vs:ee V)(d:V)(H2:Hp):Z3
 |m a ns(_:vs=[.ref a])(_:X0 K H2 a (ns.map Z8))(_:Q (maxD d ns) H2)
def Ua(K:Frag)(t:TA)(td:TE):TE:=λσ H Q=>t σ H λvs H1=>td σ H1 λd H2=>Dk K Q vs d H2
def Ht{X4:ee (fy×Obj)}{σ:St}{H:Hp}{s:nA}{Q:VK}{a:fy}{ns:ee Z4}{d:V}{dv:mu}(Y:X.calm=Z1)(I:Inv X X4 σ H s)(S:X0 X.K H a (ns.map Z8))(rd:RelV d dv)(q:Q (maxD d ns) H) :
  wpAny (model X.prog X.w) X.A (call (.builtin "max") [.ref a] [(Str.ofString "default",dv)]) (EP X X4 σ Q) X.xe s:=by
 let⟨c,U,pl,_⟩:=I.list S;let B:=aaD U;let u:s.heap.IsList a c.toArray:=pl.isList;let l:a<(~~~s):=by let⟨o,e,_⟩:=u;exact Xi e
 let p:=wj B;let h:∀i v,c.toArray[i]?=some v->∃t,v=Value.int (ns.getD i 0) t:=λi v e=>B.int_at i v (⇑e)
 let nm:(toString "max" ++ toString ".loop":String) = "max.loop":=by decide
 refine kmk_tree F.kind_max F.plain_max F.entry_max (ER _ _) ?_;show wpAny _ X.A.in1 (Builtin.Builtins.bindParams "max" ["key","default"] 0 {[],[(Str.ofString "default",dv)]} >>= _) _ _ s;refine Xd<|ZU (Fe dv) ?_;refine Xd<|Xe ?_;refine Xd<|aax u ?_;refine Xd<|Y3 ?_;rw[nm];let W:=Walks.list (prog:=X.prog) (w:=X.w) (A:=X.A.in1) (I.ok.hd Y) (~~~s) a (EI l<|Xk _) c.toArray;refine Xe {Ze Y6 _,FE (f:=λi=>ns.getD i 0) (dv:=dv) W h ((s.heap.push {.type "list_iterator",Z0,.fields #[.ref a,.int 0 0],#[]}).objs.size) (λg=>?_) c.toArray.size 0 _ Z0 _ G (Xw _) {{_,Xf _<|Xp _ G,G,G},let ⟨o,e,r⟩:=u;{o,Xf _<|Xf _ e,r}} G (Xp _ G) λv h2 tk hv hk=>?_}
 .rw[Yz] at g;simp only[List.mem_cons,List.not_mem_nil,or_false] at g;rcases g with g|g
  .exact absurd g (Nat.succ_ne_self _)
  .exact absurd l (by rw[←g];exact Nat.not_lt_of_le<|YS _)
 .refine{maxD d ns,H,I.kept λb o e=>hk b o (λg=>?_) (λx=>?_)<|Xf _<|Xf _ e,?_,q}
  .let:b=( ~~~s):=⇑g
   exact absurd (Xi e) (by rw[this];exact YY _)
  .rw[Yz] at x;exact absurd (Xi e) (by rw[x];exact Nat.not_lt_of_le<|YS _)
  .let hsz:c.toArray.size=ns.length:=by simp[p]
   rcases hv with⟨h0,rfl⟩|⟨i,hi,hP,n⟩
   .let:ns=[]:=aaW.mp o6;subst this;exact rd
   .let⟨t,rfl⟩:=h i v hP;let z:i<ns.length:=by omega
    let e:ns.getD i 0=ns[i]:=by rw[Yy,Xh z,Option.getD_some]
    rw[IW (m:=ns.getD i 0) (by rw[e];exact Yh z) λy O=>?_]
    .exact⟨t,G⟩
    .let⟨j,C⟩:=XM.mp O;let L:j<ns.length:=(Xg.mp C).1;let:ns.getD j 0≤ns.getD i 0:=n j o6;rw[show ns.getD j 0=y by rw[Yy,C];rfl] at this;exact this
def yb(j:X.calm=Z1)(g:Gl X "max")(i:X.mg "max" = Z0)(c:PA X [e] t)(l:PE X de td)(he:backTo pos (starEach [e] X.env) =(Z2,eval e X.env)::backTo pos (starEach [] X.env):=by rfl)(b:(backTo pos (starEach [e] X.env)).any (·.1)=Z2:=by rfl):PE X (.Call (.Name "max" p) [e] [{some "default",de,kpos}] pos) (Ua X.K t td):=by intro X4 s σ H Q I h;refine XU<|gK I g i boot_max ?_ o7 o7;refine callWith_kw (he:=he) (hplain:=b) (thn (c pos X4 s σ H _ I h) λ us s1 ⟨vs,H1,I1,r1,q1⟩=>?_);refine kws_cons (thn (l X4 s1 σ H1 _ I1 q1) λ dv s2 ⟨d,H2,I2,rd,a,ns,e1,hS,q⟩=>kws_nil ?_);subst e1;let⟨u,rfl,f⟩:=vals1 r1;cases (show u=Value.ref a from f);exact Ht j I2 hS rd q
end
def uc(d:Z4):∀L:ee Z4,inV (.int d) (L.map Z8)=decide (d∈L)
 |[]=>by simp[inV]
 |x::r=>by
  let a:=uc d r;unfold inV at a ⊢;rw[Yn,Zc,a];by_cases h:x=d
  .subst h;simp[eqV]
  .let h2:¬d=x:=λe=>h e.symm
   simp[eqV,h,h2]
section
variable{α:Type}
def jQ(M:Z4->nt α)(n:Z4)(x:nt α):Z4->nt α:=λm=>if m=n then x else M m
def m7{M:Z4->nt α}{n:Z4}:jQ M n x n=x:=Xm G
def m6{M:Z4->nt α}{n m:Z4}(h:m≠n):jQ M n x m=M m:=Xn h
structure dX(Pr:V->α->Z3)(kvs:ee (Key×V))(M:Z4->nt α):Z3 where
 nd:(kvs.map (·.1)).Nodup
 c8:gy kvs
 none_:∀n,M n=Z0->aL kvs (Sum.inl n)=Z0
 cN:∀n u,M n=some u->∃v,aL kvs (Sum.inl n)=some v/\Pr v u
variable{Pr Pr':V->α->Z3}{kvs:ee (Key×V)}{M:Z4->nt α}
def dX.nil:dX Pr [] (λ_=>Z0):={aan,gy.nil,λn _=>rfl,λn u e=>by cases e}
def dX.mono(h:dX Pr kvs M)(k:∀v u,Pr v u->Pr' v u):dX Pr' kvs M:={h.nd,h.c8,h.none_,λn u e=>let ⟨v,h1,h2⟩:=h.cN n u e;{v,h1,k v u h2}}
def dX.has(h:dX Pr kvs M){n:Z4}(e:aL kvs (Sum.inl n)=some v):∃u,M n=some u/\Pr v u:=by
 cases a:M n with
 |none=>rw[h.none_ n a] at e;cases e
 |some u=>let⟨b,h1,h2⟩:=h.cN n u a;rw[h1] at e;cases e;exact⟨u,G,h2⟩
def dX.put(h:dX Pr kvs M){n:Z4}(a:Pr v u):dX Pr (putK kvs (Sum.inl n) v) (jQ M n (some u)):=by
 refine{AX _ h.nd,h.c8.put n _,λm e=>?_,λm u' e=>?_}
 .by_cases em:m=n
  .grind [putK,jQ]
  .rw[m6 em] at e;rw[iy,Xn λz=>em<|Zx z];exact h.none_ m e
 .by_cases em:m=n
  .subst em;rw[m7] at e;cases e;exact{v,by rw[iy,Xm rfl],a}
  .rw[m6 em] at e;rw[iy,Xn λz=>em<|Zx z];exact h.cN m u' e
def dX.at_(h:dX Pr kvs M){i:Z5}(e:kvs[i]?=some (k,v)):∃n u,k=Sum.inl n/\M n=some u/\Pr v u/\aL kvs (Sum.inl n)=some v:=by let b:=Xl e;let⟨n,c⟩:=h.c8 _ b;let a:=uB h.nd (k:=k) (v:=v) b;rw[show k=Sum.inl n from c] at a;let⟨u,h1,h2⟩:=h.has a;exact⟨n,u,c,h1,h2,a⟩
def dX.ix(h:dX Pr kvs M){n:Z4}(e:M n=some u):∃(i:Z5)(v:V),kvs[i]?=some ((Sum.inl n:Key),v):=by let⟨v,h1,_⟩:=h.cN n u e;let:=gD.mp (show(aL kvs<|Sum.inl n).isSome=Z1 by rw[h1];rfl);let⟨b,a,c⟩:=XI.mp this;let⟨i,hi⟩:=XM.mp a;exact{i,b.2,by rw[hi,←c]}
def dX.keys(h:dX Pr kvs M){ns:ee Z4}(e:kvs.map (·.1)=ns.map Sum.inl)(n:Z4):n∈ns↔(M n).isSome=Z1:=by
 let:n∈ns↔(aL kvs (Sum.inl n)).isSome=Z1:=by rw[gD,e,XI];exact{λh=>⟨n,h,G⟩,λ⟨y,h,z⟩=>by cases z;exact h}
 rw[this];cases a:M n with
 |none=>rw[h.none_ n a];simp
 |some u=>let⟨v,h1,_⟩:=h.cN n u a;rw[h1];rfl
end
structure Xc where
 wh:Bool
 b:Z5
 d:Z5
 rows:ee (Z5×Z5)
 bits:Z5
def gB(S:Z4->Z3)(v:V):Z3:=(v=.non/\∀x,¬S x)∨∃m:Z4,v=.int m/\S m/\∀x,S x->x≤m
def gB.one{S:Z4->Z3}(h:gB S v)(h':gB S w):v=w:=by grind [gB]
def ym(ns:ee Z4):gB (λx=>x∈ns) (maxD .non ns):=by
 cases ns with
 |nil=>exact .inl {G,λx h=>by cases h}
 |cons x r=>
  let⟨h1,h2,h3⟩:=foldl_max r x;refine .inr {r.foldl max x,G,?_,λy a=>?_}
  .grind
  .grind
def gB.ext{S a:Z4->Z3}(h:gB S v)(e:∀x,S x↔a x):gB a v:=by grind [gB]
structure PcU where
 wh:Bool
 b:Z5
 d:Z5
 rows:ee (Z5×Z5)
 c:Z4
def PcU.st(u:PcU):Z4:=(stN u.wh u.b:Z4)-1
def PcU.good(u:PcU):Bool:=decide (u.c =(iz u.wh u.b u.d u.rows:Z5))
def PcU.kind(u:PcU):Z6:=if u.wh then Str.ofString "whole" else Str.ofString "gain"
inductive cP(CW CG:fy)(H:Hp)(v:V)(u:PcU):Z3
 |m a(_:v=.ref a)(_:PAt CW CG H a u.wh u.b u.d u.rows u.c)(_:u.rows.length≤100)
section
variable{CW CG:fy}{H H':Hp}{F:ee fy}{v:V}{u:PcU}
def cP.keep(h:cP CW CG H v u)(k:ak H H'):cP CW CG H' v u:=let ⟨a,h1,h2,h3⟩:=h;{a,h1,h2.keep k,h3}
end
def Bt:∀(rows:ee (Z5×Z5))(i p x:Z5),i<rows.length->∃pre post:ee Z5,(∀y,flat (rows.set i (p,y))=pre++p::y::post)/\(∀ m∈pre,m∈flat rows)/\∀ m∈post,m∈flat rows
 |[],i,p,x,h=>by simp at h
 |r::rs,0,p,x,_=>{[],flat rs,λy=>rfl,λm h=>(by cases h),λm h=>by show m∈r.1::r.2::flat rs;simp[h]}
 |r::rs,i+1,p,x,h=>by
  let⟨pre,post,h1,h2,h3⟩:=Bt rs i p x (⇑h);refine{r.1::r.2::pre,post,λy=>?_,λm a=>?_,λm a=>?_}
  .grind [flat]
  .grind [flat]
  .grind [flat]
def GI{wh:Bool}{b d:Z5}{rows:ee (Z5×Z5)}{i p x y:Z5}(hi:rows[i]?=some (p,x))(t:stN wh b<2 ^ 64)(s:d<2 ^ 64)(l:∀ m∈flat rows,m<2 ^ 64)(o:y<2 ^ 64)(j:x≠y):iz wh b d (rows.set i (p,y))≠iz wh b d rows:=by
 let⟨a,f⟩:=Xg.mp hi;let⟨pre,post,h1,h2,h3⟩:=Bt rows i p x a;let q:rows.set i (p,x)=rows:=by rw[←f];exact List.set_getElem_self a
 let g:=h1 x;rw[q] at g;let r:p<2 ^ 64:=l p (by rw[g];simp);let c:x<2 ^ 64:=l x (by rw[g];simp);intro h;unfold iz at h;rw[h1 y,g] at h;let:=Chk.DO (pre:=stN wh b::d ::(pre++[p])) (post:=post) (x:=y) (y:=x) o c (λm n=>?_) (λm n=>l m<|h3 m n) (⇑h)
 .exact j this.symm
 .grind
section
variable{X:Cx}
def zp:∀{kvs:ee (Key×V)}{us:ee mu},us.length=kvs.length->(∀(j:Z5)v,us[j]?=some v->∃b,kvs[j]?=some b/\oF b.1 v=Z1)->Vals (kvs.map λb=>kV b.1) us
 |[],[],_,_=>.nil
 |[],_::_,h,_=>by simp at h
 |_::_,[],h,_=>by simp at h
 |b::r,u::us,h,hk=>by
  let⟨kv',e,hi⟩:=hk 0 u rfl;let e:b=kv':=⇑e
  subst e;refine .cons ?_ (zp (⇑h) λj v e=>?_)
  .let⟨k,x⟩:=b;rcases cQ hi with⟨i,t,a,f⟩|⟨y,t,a,f⟩
   .subst f;let a:k=Sum.inl i:=a;subst a;exact⟨t,G⟩
   .subst f;let a:k=Sum.inr y:=a;subst a;exact⟨t,G⟩
  .let⟨c,l,g⟩:=hk (j+1) v (⇑e);exact{c,⇑l,g}
inductive sf(xs:ee V)(H:Hp)(Q:VK):Z3
 |m a kvs(_:xs=[.ref a])(_:H a=some (.dK kvs))(_:∀l,H l=Z0->Q (.ref l) (Z9 H l (.lst (kvs.map λkv=>kV kv.1))))
def Ez(B:X.calm=Z1):iM X (.type "list") sf:=by
 rintro X4 s σ H xs us Q I r ⟨a,kvs,rfl,p,q⟩;let⟨u,rfl,n⟩:=vals1 r;cases (show u=Value.ref a from n);let⟨hsz,lo,vs,g,C⟩:=oE I.hok p;let⟨ep,i⟩:=C.dictAt;let b:=g.keys;let f:vs.length=kvs.length:=by let:=congrArg List.length b;simpa using this.symm
 refine PySem.W.kdl_call (A:=X.A) (kdl_dict (knd:=bN X.prog X.w) (kvs:=vs) (ep:=ep) lo) (I.ok.hd B) i (by rwa[f]) λh' t acc L o e c=>?_
 let z:Vals (kvs.map λg=>kV g.1) acc.toList:=by
  refine zp (by rw[Ys,c.1,f]) λj v m=>?_
  let⟨k,x,h1,h2⟩:=c.2 j v (by rwa[←Yv]);let l:(vs.map (·.1))[j]?=some k:=by rw[Xo,h1];rfl
  rw[←b,Xo] at l;let⟨h,F,y⟩:=XA.mp l;exact{h,F,by rwa[y]}
 exact{.ref (~~~s),_,I.laid (t':=t) o (Xk _) (show bF X.prog X.w _ h' _ (.lst (kvs.map λg=>kV g.1)) from{by rwa[Xj],acc.toList,L,z,⇑e}),G,q _<|I.hok.fresh<|Xk _}
end
open PySem PySem.Spec PySem.Calls PyProof.Rows
abbrev jM(h:Heap)(e it:fy)(i:Z4)(b:mu)(a:fy)(f:Bool):Z3:=
 h.get? e=some {.type "enumerate",Z0,.fields #[rawInt a,.bool f,.ref it,rawInt i,.none,b],#[]}
section
variable{prog:q8}{w:q9}{A:Around}{E:mu->nA->Z3}{s:nA}
def Gh(b:s.heap.get? a=some o)(h:Q (some o) s):wpAny (model prog w) A (loadIfAlive a) Q E s:=by
 let h':Q (s.heap.get? a) s:=by rwa[b]
 exact λ_ _ _=>h'
def AE{i:Z5}(he:jM s.heap e it i item a f)(ha:s.heap.get? a=some oa)(a4:a≠e)(a3:a≠it)(a2:s.heap.IsListIter it l i)(hl:s.heap.IsList l items)(hx:items[i]?=some x)(C:e≠it)(hQ:∀h',jM h' e it (↥i+1) item a Z1->h'.IsListIter it l (i+1)->h'.get? (~~~s)=some {.type "tuple",Z0,.seq #[.int i s.toks,x],#[]}->h'.objs.size= ~~~s+1 →
   (∀b o,b≠e->b≠it->s.heap.get? b=some o->h'.get? b=some o)->Q (some (.ref (~~~s))) {s with heap:=h',toks:=s.toks+1}) :
  wpAny (model prog w) A (pyNext (.ref e)) Q E s:=by
 let hT:s.TypeIs (.ref e) "enumerate":={_,he,G};refine Xd (Zd (Zb (name:=Str.ofString "__next__") hT YV
  (YH YV hT aap ?_<|aag _)))
 let⟨F,g,d,U,os⟩:=s;show wpAny _ _ (field (.ref e) 2 >>= _) _ _ _;refine Xd<|YL he G (x:=.ref it) G ?_;refine Xd (wpAny_nextOf_list_item a2 hl hx λh₁ y m=>?_);replace m:Heap.SameBut it F h₁:=m;let u:jM h₁ e it i item a f:=(m.2 e C).trans he;refine Xd<|YL u G (x:=rawInt i) G ?_;refine Xd<|YL u G (x:=.none) G ?_;refine Xd<|wpAny_mkInt ?_;refine Xd (aau u o8 λh₂ t j=>?_);replace j:Heap.SameBut e h₁ h₂:=j;replace t:jM h₂ e it (↥i+1) item a f:=t;refine Xd (aau t o8 λh₃ v n=>?_);replace n:Heap.SameBut e h₂ h₃:=n;replace v:jM h₃ e it (↥i+1) item a f:=v;refine Xd<|wpAny_newTuple ?_;let q:jM (h₃.push {.type "tuple",Z0,.seq #[.int i U,x],#[]}) e it (↥i+1) item a f:=Xf _ v;generalize hh₄:h₃.push {.type "tuple",Z0,.seq #[.int i U,x],#[]}=h at q;let hsz:h₃.objs.size=F.objs.size:=by rw[n.1,j.1,m.1]
 let a1:e<F.objs.size:=Xi he;let H:h.get? F.objs.size=some {.type "tuple",Z0,.seq #[.int i U,x],#[]}:=by rw[←hh₄,←hsz];exact Xp _ G
 let O:h.objs.size=F.objs.size+1:=by rw[←hh₄,Yz,hsz]
 let z:∀b o,b≠e->b≠it->F.get? b=some o->h.get? b=some o:=λb o S a0 hb=>by rw[←hh₄];exact Xf _<|n.extBut b o S<|j.extBut b o S<|m.extBut b o a0 hb
 let B:h.IsListIter it l (i+1):=by rw[←hh₄];let⟨o,ho,r⟩:=(y.extBut j.extBut<|Yo C).extBut n.extBut<|Yo C;exact{o,Xf _ ho,r}
 show wpAny _ _ (Builtin.SmallTypes.ownedTupleIsFree (.ref e) >>= _) _ _ {h,g,d,U+1,os};rw[hsz];clear hh₄ v n t j u m y hsz h₃ h₂ h₁;let L:h.get? a=some oa:=z a oa a4 a3 ha;refine Xd ?_;refine Xd<|YL q G (x:=rawInt a) G ?_;show wpAny _ _ (loadIfAlive ((a:Z4).toNat) >>= _) _ _ _;rw[Int.toNat_natCast];refine Xd<|Gh L ?_;simp only[Option.isNone_some,Bool.false_eq_true,if_false];refine Xd<|YL q G (x:=.bool f) G ?_;let Y:∀h₅:Heap,jM h₅ e it (↥i+1) item a Z1->Heap.SameBut e h h₅->Q (some (.ref F.objs.size)) ⟨h₅,g,d,U+1,os⟩:=λh₅ p c=>hQ h₅ p (B.extBut c.extBut<|Yo C) (c.extBut _ _ (aaa a1) H) (by rw[c.1,O]) λb o hb hi e=>c.extBut b o hb<|z b o hb hi e
 cases f with
 |true=>rw[Xn (show ¬((Value.bool Z1 != Value.bool Z1)=Z1) from Xs)];refine Xe ?_;simp only[Bool.false_eq_true,if_false];exact Xe {_,G,Xe<|Y h q<|Heap.SameBut.refl _ _}
 |false=>rw[Xm (show(Value.bool Z2 != Value.bool Z1)=Z1 from G)];refine Xd (aau q o8 λh₅ p c=>?_);replace c:Heap.SameBut e h h₅:=c;replace p:jM h₅ e it (↥i+1) item a Z1:=p;refine Xe ?_;simp only[Bool.false_eq_true,if_false];exact Xe {_,G,Xe<|Y h₅ p c}
def BU{i:Z5}(n:A.handled=Z0)(he:jM s.heap e it i item a f)(g:s.heap.IsListIter it l i)(m:s.heap.IsList l items)(r:items[i]? = Z0)(p:∀h',Heap.ExtBut it s.heap h'->Q Z0 {s with heap:=h'}):wpAny (model prog w) A (pyNext (.ref e)) Q E s:=by
 let j:s.TypeIs (.ref e) "enumerate":={_,he,G};refine Xd (Zd (Zb (name:=Str.ofString "__next__") j YV
  (YH YV j aap ?_<|aag _)))
 show wpAny _ _ (field (.ref e) 2 >>= _) _ _ _;refine Xd<|YL he G (x:=.ref it) G ?_;refine Xd (wpAny_nextOf_list_end n g m r λh' x c h=>?_);let⟨o,t,q⟩:=h;refine Xd<|aaQ (T:="StopIteration") (b:=Z1) ⟨o,t,q⟩ isSubtype_stop ?_;exact Xe<|p _ c
def F3:typeLookup (.type "enumerate") "__len__" = pure Z0:=by rw[aaf,Zo];kernel_rfl
def EA:typeLookup (.type "enumerate") "__length_hint__" = pure Z0:=by rw[aaf,Zo];kernel_rfl
def Ep(h:Heap)(e it:fy)(i:Z5)(c:fy->Z3):Z3:=(i=0/\IsEnum h e it 0 .none)∨∃b a f g,jM h e it i b a f/\h.get? a=some g/\a≠e/\a≠it/\c a
def Gk{i:Z5}(st:Ep s.heap e it i Pa)(j:s.heap.IsListIter it l i)(q:s.heap.IsList l items)(p:items[i]?=some x)(h:e≠it)(r:∀h' g a f,jM h' e it (↥i+1) g a f->((i=0/\a= ~~~s)∨Pa a)->h'.IsListIter it l (i+1)->h'.get? (~~~s)=some {.type "tuple",Z0,.seq #[.int i s.toks,x],#[]}->h'.objs.size= ~~~s+1 →
   (∀b o,b≠e->b≠it->s.heap.get? b=some o->h'.get? b=some o)->Q (some (.ref (~~~s))) {s with heap:=h',toks:=s.toks+1}) :
  wpAny (model prog w) A (pyNext (.ref e)) Q E s:=by
 rcases st with⟨rfl,he⟩|⟨g,a,f,v,he,t,n,m,u⟩
 .exact wpAny_pyNext_enum_item (i:=0) he j q p h λh' a b c d k=>r h' x _ Z2 a (.inl ⟨G,G⟩) b c d k
 .exact AE he t n m j q p h λh' a b c d k=>r h' g _ Z1 a (.inr u) b c d k
def Hl{i:Z5}(h:A.handled=Z0)(st:Ep s.heap e it i Pa)(b:s.heap.IsListIter it l i)(g:s.heap.IsList l items)(c:items[i]? = Z0)(m:∀h',Heap.ExtBut it s.heap h'->Q Z0 {s with heap:=h'}):wpAny (model prog w) A (pyNext (.ref e)) Q E s:=by
 rcases st with⟨rfl,he⟩|⟨j,a,f,q,he,p,o,n,r⟩
 .exact wpAny_pyNext_enum_end (i:=0) h he b g c m
 .exact BU h he b g c m
end
def pq{a b:Z5}(h:a<b∨b<a):a≠b:=by omega
def EnL(H0 H:Hp)(xs:ee V)(ts:ee fy):Z3:=∀(j:Z5)(t:fy),ts[j]?=some t->H0 t=Z0/\∃x,xs[j]?=some x/\H t=some (.tup [.int ↥j,x])
def Gv{X:Cx}{X4:ee (fy×Obj)}{σ:St}{A:Around}(hh:A.handled=Z0){S e it l:fy}{xs:ee V}{us:ee mu}(rv:Vals xs us)(ae:e≠it)(a8:l≠e)(al:l≠it)(Y:S≠e)(O:S≠it)(ag:l≠S)(hz:xs.length≤Z7)(res:mu){R:Result->nA->Z3}{H0:Hp}(hR:∀H' s' ts,Inv X X4 σ H' s'->(∀b o,b≠S->H0 b=some o->H' b=some o)->ts.length=xs.length->H' S=some (.lst (ts.map V.ref))->EnL H0 H' xs ts->R (.ok (.ret res)) s') :
  ∀(k i:Z5)(H:Hp)(s:nA)(ts:ee fy),xs.length-i=k->i≤xs.length->Inv X X4 σ H s->eF X X4 H e->eF X X4 H it->Ep s.heap e it i (λa=>ts[0]?=some a)->s.heap.IsListIter it l i->s.heap.IsList l us.toArray->(∀b o,b≠S->H0 b=some o->H b=some o)->H S=some (.lst (ts.map V.ref))->ts.length=i->EnL H0 H xs ts →
   codeAny (model X.prog X.w) A (.builtin "list.extend.loop" {[.ref S,.ref e,res],[]}) R s:=by
 intro k
 induction k with
 |zero=>
  intro i H s ts hk hi I fe F st h hl m C am hE;let p:us.toArray[i]? = Z0:=by let:=rv.length;simp;omega
  refine YN aaG ?_;rw[YF ZH _];refine Xd (Hl (A:=A.in1) hh st h hl p λh' ex=>?_);refine Xe<|hR H _ ts (I.Em (t':=s.toks) (ch:=[it]) (λb o c q=>ex b o (⇑c) q) λb c=>?_) m o6 C hE;let e1:b=it:=⇑c
  rwa[e1]
 |succ k ih=>
  intro i H s ts hk hi I fe F st h hl m C am hE;let a0:i<xs.length:=by omega
  obtain⟨x,hx⟩:∃x,xs[i]?=some x:={_,Xh a0};let⟨u,eu,ru⟩:=Vals.get rv hx;let ai:us.toArray[i]?=some u:=⇑eu
  refine YN aaG ?_;rw[YF ZH _];refine Xd (Gk (A:=A.in1) st h hl ai ae λh' a6 a f ab ac a7 ht hsz kk=>?_);let nT:H (~~~s)=Z0:=I.hok.fresh<|Xk _;let I2:Inv X X4 σ (Z9 H (~~~s) (.tup [.int ↥i,x])) {s with heap:=h',toks:=s.toks+1}:=
   I.Ex (ch:=[e,it]) (λb o c q=>by
    simp only[List.mem_cons,List.not_mem_nil,or_false,not_or] at c;exact kk b o c.1 c.2 q) (λb c=>by
    simp only[List.mem_cons,List.not_mem_nil,or_false] at c;rcases c with rfl|rfl
    .exact fe
    .exact F) (Xk _) {by show 2≤Z7;decide,[Value.int ↥i s.toks,u],.cons ⟨s.toks,G⟩<|.cons ru .nil,{_,ht,G,(0),G}}
  let B:S≠(~~~s):=aq C nT;let a4:Z9 H (~~~s) (.tup [.int ↥i,x]) S=some (.lst (ts.map V.ref)):=by rwa[ah B]
  let⟨_,U,n,rS,lS,eS⟩:=I2.AZ a4;let an:U.length=i:=by grind
  let I3:=I2.Gr (t':=s.toks+1) a4 eS (f:=(·.push (Value.ref (~~~s)))) (its':=U++[Value.ref (~~~s)]) (ys:=(ts++[~~~s]).map V.ref) o8 (YX ▸ Vals.append rS (.cons G .nil)) (by grind);let up:∀b o,b≠S->h'.get? b=some o->(h'.update S (Obj.mapSeq (·.push (Value.ref (~~~s))))).get? b=some o:=λb o c e=>(XE _ _<|Yo c).trans e
  let elt:e<(~~~s):=by
   rcases st with⟨_,he⟩|⟨_,_,_,_,he,_⟩
   .exact Xi he
   .exact Xi he
  let a9:it<(~~~s):=by let⟨o,v,_⟩:=h;exact Xi v
  let old:∀b,b<~~~s->b≠S->Z9 (Z9 H (~~~s) (.tup [.int ↥i,x])) S (.lst ((ts++[~~~s]).map V.ref)) b=H b:=λb c hs=>by rw[ah hs,ah<|Xy c]
  let ar:Z9 (Z9 H (~~~s) (.tup [.int ↥i,x])) S (.lst ((ts++[~~~s]).map V.ref)) (~~~s)=some (.tup [.int ↥i,x]):=by rw[ah B.symm,af]
  let g:∀b o,b≠S->H b=some o->Z9 (Z9 H (~~~s) (.tup [.int ↥i,x])) S (.lst ((ts++[~~~s]).map V.ref)) b=some o:=λb o c eb=>by rwa[ah c,ah<|aq eb nT]
  let as:H0 (~~~s)=Z0:=by
   cases z:H0 (~~~s) with
   |none=>rfl
   |some o=>have:=m _ _ B.symm z;rw[nT] at this;cases this
  refine Xd (Zi eS G (Xe ⟨Ze ZH _,ih (i+1) _ _ (ts++[~~~s]) o6 a0 I3 {(old e elt Y.symm).trans fe.1,fe.2} {(old it a9 O.symm).trans F.1,F.2} (.inr ?_) (by
   let⟨o,v,r⟩:=a7;exact{o,up it o O.symm v,r}) (by
   let⟨o,v,r⟩:=hl;exact{o,up l o ag<|kk l o a8 al v,r}) (λb o c eb=>g b o c<|m b o c eb) af (by grind) λj t ej=>?_⟩) (by grind) (by grind))
  .let first:(ts++[~~~s])[0]?=some a:=by grind
   let a5:∃oa,(h'.update S (Obj.mapSeq (·.push (Value.ref (~~~s))))).get? a=some oa/\a≠e/\a≠it:=by
    rcases ac with⟨_,rfl⟩|ha
    .grind
    .let⟨_,y,_,L⟩:=hE 0 a ha;let aS:a≠S:=λz=>by rw[z,C] at L;cases L
     let⟨_,its',_,o,v,_⟩:=I3.hok a _<|g a _ aS L;exact{o,v,aq L fe.1,aq L F.1}
   let⟨oa,l1,l2,l3⟩:=a5;refine{a6,a,f,oa,?_,l1,l2,l3,first};let e2:((i+1:Z5):Z4) =↥i+1:=by omega
   rw[e2];exact up e _ Y.symm ab
  .rcases aaA j ts.length with h1|h1|h1
   .rw[Yg h1] at ej;let⟨a1,y,a2,a3⟩:=hE j t ej;let tS:t≠S:=λz=>by rw[z,C] at a3;cases a3
    exact{a1,y,a2,g t _ tS a3}
   .grind
   .grind
section
variable{X:Cx}
inductive EJ(K:Frag)(Q:VK)(v:V)(H1:Hp):Z3
 |m l xs(_:v=.ref l)(_:X0 K H1 l xs)(_:∀(r:fy)(ts:ee fy)(H2:Hp),H1 r=Z0->ak H1 H2->ts.length=xs.length->H2 r=some (.lst (ts.map V.ref))->EnL H1 H2 xs ts->Q (.ref r) H2)
def VO(K:Frag)(te:TE):TE:=λσ H Q=>te σ H λv H1=>EJ K Q v H1
def Cp{e:Expr}{te:TE}{p1 p2 B a:Pos}(hc:X.calm=Z1)(O:Gl X "list")(a5:X.mg "list" = Z0)(U:Gl X "enumerate")(a9:X.mg "enumerate" = Z0)(he:PE X e te)(y:starEach [Expr.Call (.Name "enumerate" p2) [e] [] a] X.env=[(Z2,eval (Expr.Call (.Name "enumerate" p2) [e] [] a) X.env)]:=by rfl)(p:starEach [e] X.env=[(Z2,eval e X.env)]:=by rfl) :
  PE X (.Call (.Name "list" p1) [.Call (.Name "enumerate" p2) [e] [] a] [] B) (VO X.K te):=by
 intro X4 s σ H Q I h;refine XU<|gK I O a5 boot_list ?_;refine Yl ?_ y rfl;rw[y];refine Ym ?_;refine XU<|gK I U a9 boot_enumerate ?_;refine Yl ?_ p rfl;rw[p];refine Ym (thn (he X4 s σ H _ I h) λ u s1 ⟨x,H1,I1,r1,q1⟩=>?_);let⟨l,xs,rfl,hl,q⟩:=q1;cases r1;refine Yt ?_;let⟨us,rv,pl,hz⟩:=I1.list hl;let ll:l<(~~~s1):=by let⟨o,i,_⟩:=pl.isList;exact Xi i
 refine call_enumerate_list pl.isList λh' L z2 zs kk=>?_
 refine Yt ?_;let I2:Inv X X4 σ H1 {s1 with heap:=h',toks:=s1.toks}:=I1.kept kk;let fe:eF X X4 H1 (~~~s1+1):=I1.qK (YS _)<|I1.hok.fresh<|YS _;let fi:eF X X4 H1 (~~~s1):=I1.qK (Xk _)<|I1.hok.fresh<|Xk _;let a4:h'.IsList l us.toArray:=by let⟨o,i,r⟩:=pl.isList;exact{o,kk l o i,r}
 obtain⟨e0,m⟩:∃e0,~~~s1+1=e0:={_,G};rw[m] at L fe ⊢;obtain⟨i0,a7⟩:∃i0,~~~s1=i0:={_,G};rw[a7] at L z2 fi m zs ll;let a0:h'.objs.size=i0+2:=zs;refine callType_codes PySem.F.called_list (PySem.F.typeCall_list_1 _) PySem.F.entry_list_init (code_list_new (.ref e0) (Q₁:=λz g=>z=.ref h'.objs.size/\g={s1 with heap:=h'.push {.type "list",Z0,.seq #[] 0,#[]}}) ⟨G,G⟩) λz g hq=>?_
 let⟨h1,h2⟩:=hq;subst h1 h2;let hS:(h'.push {.type "list",Z0,.seq #[] 0,#[]}).get? h'.objs.size=some {.type "list",Z0,.seq #[] 0,#[]}:=Xp _ rfl;exists {_,hS,G},PySem.F.args_list_init_2 _ _;unfold Builtin.«list.__init__»;generalize hX:Builtin.List.listExtendWith=XX
 wp_walk
 subst hX;let f:((h'.push {.type "list",Z0,.seq #[] 0,#[]}).update h'.objs.size (Obj.mapSeq λx=>#[])).get? h'.objs.size=some {.type "list",Z0,.seq #[] 0,#[]}:=XW _ hS rfl;let Y:∀b o,h'.get? b=some o->((h'.push {.type "list",Z0,.seq #[] 0,#[]}).update h'.objs.size (Obj.mapSeq λx=>#[])).get? b=some o:=λb o e=>Heap.get?_update_of_ne _ (aaa<|Xi e)<|Xf _ e
 generalize (h'.push {.type "list",Z0,.seq #[] 0,#[]}).update h'.objs.size (Obj.mapSeq λx=>#[])=h2 at f Y ⊢;obtain⟨S,n⟩:∃S,h'.objs.size=S:={_,G};rw[n] at f a0 ⊢;let e2:IsEnum h2 e0 i0 0 .none:=Y _ _ L;let hT:Shared.TypeIs {s1 with heap:=h2} (.ref e0) "enumerate":={_,e2,G};refine Xd<|wpAny_typeOf hT ?_;let a6:Builtin.List.listSameRef (Value.ref S) (Value.ref e0)=Z2:=by unfold Builtin.List.listSameRef;simp;exact pq o6
 refine aaZ (λa8=>absurd a8 (by rw[a6];decide)) λ_=>?_;refine Xd<|wpAny_pyIter_enum (s:={s1 with heap:=h2}) e2 ?_;refine Xd<|Yj ?_;refine Xd<|aae hT F3 ?_;refine Xd<|aae hT EA ?_;refine Xe ?_;refine Xd<|wpAny_rule ?_;refine Xd ?_;refine Xd<|Zi f G ?_;let C:=XW (Obj.mapSeq (·.push Value.none)) f rfl;refine Zi C G ?_;let v:=XW (Obj.mapSeq (·.pop)) C rfl;let c:∀b o,h'.get? b=some o->((h2.update S (Obj.mapSeq (·.push Value.none))).update S (Obj.mapSeq (·.pop))).get? b=some o:=λb o e=>by let hb:S≠b:=pq (by let hb:@LT.lt Z5 _ b h'.objs.size:=Xi e;let hs:h'.objs.size=S:=n;omega);exact(XE _ _ hb).trans ((XE _ _ hb).trans<|Y b o e)
 generalize (h2.update S (Obj.mapSeq (·.push Value.none))).update S (Obj.mapSeq (·.pop))=h4 at v c ⊢;let ab:=rv.length;let nS:H1 S=Z0:=I2.hok.fresh (by grind);let I4:Inv X X4 σ (Z9 H1 S (.lst [])) {s1 with heap:=h4,toks:=s1.toks}:=I2.laid (t':=s1.toks) (h':=h4) c (by grind) {Xw _,[],_,.nil,v};let hh:X.A.handled=Z0:=I1.ok.hd hc;let ac:@LT.lt Z5 _ l i0:=ll;refine Xe ⟨ZK _ o4,Gv (X:=X) (X4:=X4) (σ:=σ) (H0:=Z9 H1 S<|.lst []) (by simp[hh]) rv (S:=S) (e:=e0) (it:=i0) (l:=l) (pq o6) (pq o6) (pq o6) (pq o6) (pq o6) (pq o6) hz _ (λH' s' ts I' k' tl a3 hE=>?_) xs.length 0 (Z9 H1 S<|.lst []) _ [] o6 (Xw _) I4 {by rw[ah<|pq o6];exact fe.1,fe.2} {by rw[ah<|pq o6];exact fi.1,fi.2} (.inl {G,c _ _ L}) (by
  let⟨o,i,r⟩:=z2;exact{o,c _ _ i,r}) (by
  let⟨o,i,r⟩:=a4;exact{o,c _ _ i,r}) (λb o _ e=>e) af G λj t e=>by simp at e⟩
 refine{G,.ref S,H',I',G,q S ts H' nS (λb o eb=>k' b o (aq eb nS)<|(ah<|aq eb nS) ▸ eb) tl a3 λj t ej=>?_};let⟨a1,a2⟩:=hE j t ej;refine{?_,a2};by_cases ht:t=S
 .grind
 .rw[ah ht] at a1;exact a1
end
open PySem PySem.Spec PyProof.Rows Builtin Builtin.Str
section
variable{c:Z4}(h0:0≤c)(h1:c<10 ^ 20)
include h0 h1
end
def CV:∀{xs:ee V}{us:ee mu},us.length=xs.length->(∀(j:Z5)x u,xs[j]?=some x->us[j]?=some u->RelV x u)->Vals xs us
 |[],[],_,_=>.nil
 |[],_::_,h,_=>by simp at h
 |_::_,[],h,_=>by simp at h
 |x::xs,u::us,h,k=>.cons (k 0 x u G G) (CV (⇑h) λj x u b a=>k (j+1) x u (⇑b) (⇑a))
section
variable{X:Cx}
inductive Cu(Q:VK)(v:V)(H1:Hp):Z3
 |m (n:Z5)(_:v=.int (n:Z4))(_:n≤1000)(_:∀r,H1 r=Z0->Q (.ref r) (Z9 H1 r (.lst (((List.range n).map λk:Nat=>(k:Z4)).map Z8))))
def Uh(te:TE):TE:=λσ H Q=>te σ H λv H1=>Cu Q v H1
def Eo{e:Expr}{te:TE}{C p2 c a:Pos}(B:X.calm=Z1)(l:Gl X "list")(p:X.mg "list" = Z0)(m:Gl X "range")(r:X.mg "range" = Z0)(he:PE X e te)(i:starEach [Expr.Call (.Name "range" p2) [e] [] a] X.env=[(Z2,eval (Expr.Call (.Name "range" p2) [e] [] a) X.env)]:=by rfl)(g:starEach [e] X.env=[(Z2,eval e X.env)]:=by rfl) :
  PE X (.Call (.Name "list" C) [.Call (.Name "range" p2) [e] [] a] [] c) (Uh te):=by
 intro X4 s σ H Q I h;refine XU<|gK I l p boot_list ?_;refine Yl ?_ i rfl;rw[i];show wpAny _ _ (spliced ((Z2,eval (Expr.Call (.Name "range" p2) [e] [] a) X.env)::backTo c [])) _ _ s;refine Ym ?_;refine XU<|gK I m r boot_range ?_;refine Yl ?_ g rfl;rw[g];show wpAny _ _ (spliced ((Z2,eval e X.env)::backTo a [])) _ _ s;refine Ym (thn (he X4 s σ H _ I h) λ u s1 ⟨x,H1,I1,r1,q1⟩=>?_);let⟨n,rfl,Y,q⟩:=q1;let⟨t,rfl⟩:=r1;refine Yt ?_;refine call_range_1 ?_;refine Yt ?_;let hsz:Builtin.Range.rangeSize 0 ↥n 1 =↥n:=by rw[rangeSize_one];split <;> omega
 refine call_list_range (n:=n) (I1.ok.hd B) (IsRange.new ..) (small_one o6 o6 o6 o6) hsz o6 λh' F acc S z A f=>?_
 let y:Inv X X4 σ H1 {s1 with heap:=s1.heap.push {.type "range",Z0,.fields #[.int 0 s1.toks,.int ↥n t,.int 1 (s1.toks+1)],#[]},toks:=s1.toks+1+1}:=I1.kept λb o e=>Xf _ e
 let L:Vals (((List.range n).map λk:Nat=>↥k).map Z8) acc.toList:=by
  refine CV (by rw[Ys,f.1];simp) λj x u v O=>?_
  let⟨t',rfl⟩:=f.2 j u (by rwa[←Yv]);rw[abO,Xo] at v;let⟨k,h1,h2⟩:=XA.mp v;let U:=(Xg.mp h1).1;rw[List.getElem?_range (⇑U)] at h1;cases h1;rw[←h2];exact⟨t',o8⟩
 refine{.ref _,_,y.laid (t':=F) z (Xk _) (show bF X.prog X.w _ h' _ (.lst<|((List.range n).map λk:Nat=>↥k).map Z8) from{by simp;exact Yk<|aN o6,acc.toList,S,L,⇑A}),G,q _<|y.hok.fresh<|Xk _}
end
@[elab_as_elim] def ln0{P:ee mu->Z3}(us:ee mu)(a:us.length=0)(h:P []):P us:=by
 cases us with
 |nil=>exact h
 |cons=>cases a
@[elab_as_elim] def ln1{P:ee mu->Z3}(us:ee mu)(b:us.length=1)(h:∀a,P [a]):P us:=by
 cases us with
 |nil=>cases b
 |cons x us=>exact ln0 (P:=λl=>P (x::l)) us (YO b)<|h x
@[elab_as_elim] def ln2{P:ee mu->Z3}(us:ee mu)(c:us.length=2)(h:∀a b,P [a,b]):P us:=by
 cases us with
 |nil=>cases c
 |cons x us=>exact ln1 (P:=λl=>P (x::l)) us (YO c)<|h x
@[elab_as_elim] def ln3{P:ee mu->Z3}(us:ee mu)(f:us.length=3)(h:∀a b c,P [a,b,c]):P us:=by
 cases us with
 |nil=>cases f
 |cons x us=>exact ln2 (P:=λl=>P (x::l)) us (YO f)<|h x
@[elab_as_elim] def ln4{P:ee mu->Z3}(us:ee mu)(f:us.length=4)(h:∀a b c d,P [a,b,c,d]):P us:=by
 cases us with
 |nil=>cases f
 |cons x us=>exact ln3 (P:=λl=>P (x::l)) us (YO f)<|h x
@[elab_as_elim] def ln5{P:ee mu->Z3}(us:ee mu)(f:us.length=5)(h:∀a b c d e,P [a,b,c,d,e]):P us:=by
 cases us with
 |nil=>cases f
 |cons x us=>exact ln4 (P:=λl=>P (x::l)) us (YO f)<|h x
@[elab_as_elim] def ln6{P:ee mu->Z3}(us:ee mu)(g:us.length=6)(h:∀a b c d e f,P [a,b,c,d,e,f]):P us:=by
 cases us with
 |nil=>cases g
 |cons x us=>exact ln5 (P:=λl=>P (x::l)) us (YO g)<|h x
@[elab_as_elim] def ln7{P:ee mu->Z3}(us:ee mu)(i:us.length=7)(h:∀a b c d e f g,P [a,b,c,d,e,f,g]):P us:=by
 cases us with
 |nil=>cases i
 |cons x us=>exact ln6 (P:=λl=>P (x::l)) us (YO i)<|h x
@[elab_as_elim] def ln8{P:ee mu->Z3}(us:ee mu)(j:us.length=8)(h:∀a b c d e f g i,P [a,b,c,d,e,f,g,i]):P us:=by
 cases us with
 |nil=>cases j
 |cons x us=>exact ln7 (P:=λl=>P (x::l)) us (YO j)<|h x
@[elab_as_elim] def ln9{P:ee mu->Z3}(us:ee mu)(m:us.length=9)(h:∀a b c d e f g i j,P [a,b,c,d,e,f,g,i,j]):P us:=by
 cases us with
 |nil=>cases m
 |cons x us=>exact ln8 (P:=λl=>P (x::l)) us (YO m)<|h x
@[elab_as_elim] def ln10{P:ee mu->Z3}(us:ee mu)(m:us.length=10)(h:∀a b c d e f g i j k,P [a,b,c,d,e,f,g,i,j,k]):P us:=by
 cases us with
 |nil=>cases m
 |cons x us=>exact ln9 (P:=λl=>P (x::l)) us (YO m)<|h x
def GA(K:Frag)(x:Z6)(a:fy):Z3:=nsIn K mainGlobals x=some (some<|.ref a)
def GN(K:Frag)(x:Z6):Z3:=nsIn K mainGlobals x=some Z0
def FA(K:Frag)(C:fy)(m:Z6)(f:fy):Z3:=findIn K (.ref C) m=some (some<|.ref f)
def GF(K:Frag)(x:Z6)(st:Stmt):Z3:=∃f fd,GA K x f/\Fun K x x st f fd
def MV(K:Frag)(m q:Z6)(st:Stmt)(f:fy):Z3:=isFn K (.ref f)=Z1/\∃fd,Fun K m q st f fd
def MF(K:Frag)(C:fy)(m q:Z6)(st:Stmt):Z3:=∃f,FA K C m f/\MV K m q st f
def EC(K:Frag)(C:fy):Z3:=cA K C/\keepIn K (.ref C)=Z1
def PX(K:Frag)(C:fy):Z3:=Cls K C/\makesIn K C=Z1/\keepIn K (.ref C)=Z1
structure Bs(P:q8)(w:q9)(K:Frag)(mg:Z6->nt mu)(base:Heap):Z3 where
 ex:∃h:Heap,K.In h/\h.Ns mainGlobals mg
abbrev Bd(x q:Z6)(st:Stmt)(ps:ee Z6):Z3:=∀kV b c f a ct us,us.length=ps.length->bindArgs (fnOf x q (dR st) (cV st) (az st) .none kV b c f a ct) {us,[]}=pure (ps.zip us)
section
variable{P:q8}{w:q9}{K:Frag}{mg:Z6->nt mu}{base:Heap}{x q m:Z6}{st:Stmt}{f C:fy}{fd:pW}{N ps:ee Z6}{k:Z5}{sp:Sp}
def Bs.at_(Y:Bs P w K mg base)(a:GA K x f):mg x=some (.ref f):=by let⟨h,X,b4⟩:=Y.ex;exact XO X b4 a
def bdA{m q:Z6}{st:Stmt}{ps:ee Z6}(h:Bd m q st ps:=by intro _ _ _ _ _ _ us a;first|exact ln0 us a rfl|exact ln1 us a λ_=>rfl|exact ln2 us a λ_ _=>rfl|exact ln3 us a λ_ _ _=>rfl|exact ln4 us a λ_ _ _ _=>rfl|exact ln5 us a λ_ _ _ _ _=>rfl|exact ln6 us a λ_ _ _ _ _ _=>rfl|exact ln7 us a λ_ _ _ _ _ _ _=>rfl|exact ln8 us a λ_ _ _ _ _ _ _ _=>rfl|exact ln9 us a λ_ _ _ _ _ _ _ _ _=>rfl|exact ln10 us a λ_ _ _ _ _ _ _ _ _ _=>rfl):Bd m q st ps:=h
def GF.d(l:GF K x st)(Y:Bs P w K mg base)(h:∀{f fd},Fun K x x st f fd->aI P w K mg base (CXx P w) k f fd ps sp)(b:Bd x x st ps:=by exact bdA):DefX P w K mg base x k ps sp:=by let⟨f,fd,a,F⟩:=l;exact{f,fd,Y.at_ a,h F,F.kp,F.binds b}
def MV.d(l:MV K m q st f)(a:FA K C m f)(Y:Bs P w K mg base)(h:∀{f fd},Fun K m q st f fd->aI P w K mg base (CXx P w) k f fd ps sp)(b:Bd m q st ps:=by exact bdA):wN P w K mg base C m k ps sp:=by let⟨i,fd,F⟩:=l;exact{f,fd,⟨a,i,F.kp⟩,h F,F.binds b}
def MF.d(l:MF K C m q st)(Y:Bs P w K mg base)(h:∀{f fd},Fun K m q st f fd->aI P w K mg base (CXx P w) k f fd ps sp)(b:Bd m q st ps:=by exact bdA):wN P w K mg base C m k ps sp:=by let⟨f,a,l⟩:=l;exact l.d a Y h b
def MF.e(l:MF K C "__init__" q st)(a:GA K x C)(e:EC K C)(Y:Bs P w K mg base)(h:∀{f fd},Fun K "__init__" q st f fd->aI P w K mg base (CXx P w) k f fd ps sp)(c:Bd "__init__" q st ps:=by exact bdA):Gz P w K mg base x C k ps sp:=by let⟨f,b,i,fd,F⟩:=l;exact{f,fd,Y.at_ a,⟨e.1,b,i,e.2⟩,h F,F.binds c}
def MF.mk1(l:MF K C "__init__" q st)(a:GA K x C)(e:PX K C)(Y:Bs P w K mg base)(h:∀{f fd},Fun K "__init__" q st f fd->aI P w K mg base (CXx P w) k f fd ps sp)(c:Bd "__init__" q st ps:=by exact bdA):Ad P w K mg base x C k ps sp:=by let⟨f,b,i,fd,F⟩:=l;exact{f,fd,Y.at_ a,⟨e.2.1,b,i,e.2.2⟩,h F,F.binds c}
def Fun.okY(F:Fun K x q st f fd)(S:aE N ps (az st))(h:∀vs H Q E,sp vs H Q E->vs.length=ps.length/\∀a A outer s,cI k (A.deeper (envOfC q (az st) (~~~s) f a)) →
   ∃t,PSs (aW (CXx P w) P w K mg base N q (az st) f a A outer s H E) (cV st) t/\t {nx:=λ_ H'=>Q .non H',rt:=Q} (start N vs) H):aI P w K mg base (CXx P w) (k+1) f fd ps sp:=
 F.okX S (λvs H Q E e=>(h vs H Q E e).1) λa A outer s H vs Q E b e=>(h vs H Q E e).2 a A outer s b
end
section
variable{X:Cx}{k n:Z5}{C:fy}{ps:ee Z6}{sp:Sp}{E:XS}{x m:Z6}{p pos apos:Pos}{e o:Expr}{es:ee Expr}{ta:TE}{t:TA}
def pcS(D:DefX X.prog X.w X.K X.mg X.base x k ps sp)(i:dN X E)(g:cI n X.A)(c:PA X (e::es) t)(h:k≤n:=by first|decide|omega)(f:Gl X x:=by rfl)(b:(x ==("__debug__":Str))=Z2:=by decide)(he:starEach (e::es) X.env =(Z2,eval e X.env)::starEach es X.env:=by rfl)(a:(backTo pos (starEach es X.env)).any (·.1)=Z2:=by rfl) :
  PE X (.Call (.Name x p) (e::es) [] pos) (wU sp E t):=HF D i (g.mono h) f c b he a
def psS(i:Z5){x:Z6}{e:Expr}{te:TE}{pos pos':Pos}(c:X.N.Nodup)(he:PE X e te)(hi:X.N[i]?=some x:=by rfl)(a:Loc X.env.scope x:=by exact Or.inl G)(hs:swapsWith e (some (.Name x pos')) pos.line X.env=pure Z2:=by rfl)(b:X.fn x=Z1∨X.env.scope.names.lookup x=some .local:=by first|exact .inl rfl|exact .inr rfl|assumption) :
  PS X (.Assign [.Name x pos'] e pos) (Ed te (qF i)):=A4 c hi a he hs b
def pgN(i:Z5)(c:X.N.Nodup)(b:X.fn x=Z1∨X.env.scope.names.lookup x=some .local:=by first|exact .inl rfl|exact .inr rfl|assumption)(hi:X.N[i]?=some x:=by rfl)(a:Loc X.env.scope x:=by exact Or.inl G):PG X (.Name x pos) (qF i):=IV c hi a b
end
end L2
namespace Mine
open PySem L2
theorem v7{p:Z3}(h:p:=by show 3≤Z7;decide):p:=h
theorem t9{p:Z3}(h:p:=by show 2≤Z7;decide):p:=h
theorem t8{p:Z3}(h:p:=by show 1≤Z7;decide):p:=h
theorem t7{N ps sc}(h:aE N ps sc:=by exact{rfl,rfl,rfl,by decide +kernel,rfl,by decide +kernel,by decide +kernel}):aE N ps sc:=h
abbrev r4(a:Addr):Option V:=some<|.ref a
abbrev t6(a:Z4):Option V:=some<|.int a
seal PE PA PS PSs PT PTs PG PGs PI
def top(i:Z5):Stmt:=PySem.Challenge.pw_keepsakes_k81_kept_by_a_word.main.body.getD i<|.Pass {(0),(0),(0),(0)}
abbrev iV:Stmt:=inClass (top 5) 0
abbrev ie:Stmt:=inClass (top 6) 0
abbrev iB:Stmt:=inClass (top 7) 0
abbrev gZ:Stmt:=inClass (top 8) 0
abbrev jC:Stmt:=inClass (top 9) 0
abbrev iS:Stmt:=inClass (top 10) 0
abbrev iD:Stmt:=inClass (top 11) 0
abbrev gY:Stmt:=inClass (top 12) 0
abbrev jS:Stmt:=inClass (top 14) 0
abbrev lV:Stmt:=inClass (top 14) 1
abbrev nX:Stmt:=inClass (top 14) 2
abbrev kG:Stmt:=inClass (top 14) 3
abbrev iZ:Stmt:=inClass (top 14) 4
abbrev kI:Stmt:=inClass (top 14) 5
abbrev qt:Stmt:=top 15
abbrev jv:Stmt:=inClass (top 17) 0
abbrev pD:Stmt:=inClass (top 17) 1
abbrev oZ:Stmt:=inClass (top 17) 2
abbrev mz:Stmt:=inClass (top 17) 3
abbrev nv:Stmt:=inClass (top 17) 4
abbrev jK:Stmt:=inClass (top 17) 5
abbrev iW:Stmt:=inClass (top 17) 6
abbrev ir:Stmt:=inClass (top 17) 8
abbrev jD:Stmt:=top 19
abbrev lX:Stmt:=top 20
abbrev iE:Stmt:=top 21
abbrev vZ:Stmt:=top 23
abbrev qu:Stmt:=top 24
abbrev jq:Stmt:=inClass (top 26) 0
abbrev nE:Stmt:=inClass (top 26) 1
abbrev ki:Stmt:=inClass (top 26) 2
abbrev kM:Stmt:=inClass (top 26) 3
abbrev dF:Stmt:=inClass (top 27) 0
abbrev mD:Stmt:=inClass (top 27) 1
abbrev nK:Stmt:=inClass (top 27) 2
abbrev iU:Stmt:=inClass (top 27) 4
abbrev dO:Stmt:=inClass (top 28) 0
abbrev nc:Stmt:=inClass (top 28) 1
abbrev pM:Stmt:=inClass (top 28) 2
abbrev jz:Stmt:=inClass (top 28) 4
abbrev qL:Stmt:=top 29
abbrev rQ:Stmt:=top 30
abbrev jx:Stmt:=inClass (top 33) 0
abbrev jt:Stmt:=inClass (top 35) 0
abbrev kQ:Stmt:=inClass (top 35) 1
abbrev mF:Stmt:=inClass (top 35) 2
abbrev nB:Stmt:=inClass (top 35) 3
abbrev lW:Stmt:=inClass (top 35) 6
abbrev mC:Stmt:=inClass (top 35) 7
abbrev lT:Stmt:=inClass (top 35) 8
abbrev j3:Stmt:=inClass (top 35) 9
abbrev lU:Stmt:=inClass (top 35) 10
abbrev nu:Stmt:=inClass (top 35) 11
abbrev lZ:Stmt:=inClass (top 35) 13
abbrev iT:Stmt:=inClass (top 35) 16
abbrev iX:Stmt:=inClass (top 35) 18
abbrev ju:Stmt:=inClass (top 35) 19
abbrev nh:Stmt:=inClass (top 35) 20
abbrev tM:Stmt:=top 36
abbrev kE:Stmt:=top 38
abbrev ni:Stmt:=top 39
abbrev qB:Stmt:=top 40
abbrev kJ:Stmt:=top 41
abbrev nY:Stmt:=top 42
abbrev qH:Stmt:=top 43
abbrev oY:Stmt:=top 44
abbrev ku:Stmt:=top 45
abbrev pA:Stmt:=top 46
abbrev qJ:Stmt:=top 47
abbrev nj:Stmt:=top 48
abbrev pN:Stmt:=top 49
abbrev nq:Stmt:=top 50
abbrev jW:Stmt:=top 51
abbrev nO:Stmt:=top 52
abbrev oV:Stmt:=top 53
abbrev lY:Stmt:=top 54
abbrev j9:Stmt:=top 55
abbrev kY:Stmt:=top 56
def tZ:aE ["self","word"] ["self","word"] (az iV):=t7
def rB:aE ["self","wide"] ["self","wide"] (az ie):=t7
def rF:aE ["self","place"] ["self","place"] (az iB):=t7
def rj:aE ["self","block"] ["self","block"] (az gZ):=t7
def uN:aE ["self","day"] ["self","day"] (az jC):=t7
def sV:aE ["self","base","day"] ["self","base","day"] (az iS):=t7
def rA:aE ["self","number"] ["self","number"] (az iD):=t7
def rm:aE ["self","shelf"] ["self","shelf"] (az gY):=t7
def vR:aE ["self","wide"] ["self","wide"] (az jS):=t7
def eB:aE ["self","changes","place","block","table"] ["self","changes"] (az lV):=t7
def zI:aE ["self","day"] ["self","day"] (az nX):=t7
def jZ:aE ["self","one","other","places","day"] ["self","one","other"] (az kG):=t7
def rX:aE ["self","place","block"] ["self","place","block"] (az iZ):=t7
def xB:aE ["self","day"] ["self","day"] (az kI):=t7
def Ce:aE ["wide"] ["wide"] (az qt):=t7
def uO:aE ["self"] ["self"] (az jv):=t7
def tR:aE ["self","piece","number"] ["self","piece"] (az pD):=t7
def BK:aE ["self","number","piece"] ["self","number","piece"] (az oZ):=t7
def xT:aE ["self","number"] ["self","number"] (az mz):=t7
def qN:aE ["self","number","piece"] ["self","number"] (az nv):=t7
def vO:aE ["self"] ["self"] (az jK):=t7
def sL:aE ["self"] ["self"] (az iW):=t7
def kr:aE ["self","days"] ["self"] (az ir):=t7
def Ek:aE ["shelf","good"] ["shelf","good"] (az jD):=t7
def cJ:aE ["shelf","good","starting","last","met","further","start","number","day"] ["shelf","good"] (az lX):=t7
def fq:aE ["shelf","good","starting","number","piece"] ["shelf","good"] (az iE):=t7
def Ft:aE ["number"] ["number"] (az vZ):=t7
def fS:aE ["start","day","rows","numbers","place","block","check","number"] ["start","day","rows"] (az qu):=t7
def mK:aE ["self","start","day","rows","check","fitting"] ["self","start","day","rows","check"] (az jq):=t7
def zS:aE ["self"] ["self"] (az nE):=t7
def vW:aE ["self"] ["self"] (az ki):=t7
def j8:aE ["self","at","bits","rows","row"] ["self","at","bits"] (az kM):=t7
def uS:aE ["self","day","rows","check"] ["self","day","rows","check"] (az dF):=t7
def yc:aE ["self"] ["self"] (az mD):=t7
def z8:aE ["self"] ["self"] (az nK):=t7
def rW:aE ["self","rows"] ["self","rows"] (az iU):=t7
def vq:aE ["self","base","day","rows","check"] ["self","base","day","rows","check"] (az dO):=t7
def zR:aE ["self"] ["self"] (az nc):=t7
def Bp:aE ["self"] ["self"] (az pM):=t7
def uK:aE ["self","rows"] ["self","rows"] (az jz):=t7
def BZ:aE ["days","day"] ["days","day"] (az qL):=t7
def qE:aE ["days","base","day","places","table"] ["days","base","day"] (az rQ):=t7
def uH:aE ["self","rules"] ["self","rules"] (az jx):=t7
def uG:aE ["self","wide","rule","seek","each"] ["self","wide","rule","seek","each"] (az jt):=t7
def xq:aE ["self","changes"] ["self","changes"] (az kQ):=t7
def xW:aE ["self"] ["self"] (az mF):=t7
def lR:aE ["self","word","piece","number"] ["self","word"] (az nB):=t7
def iH:aE ["self","shelf","many","mark","next_ones","deed"] ["self","shelf","many"] (az lW):=t7
def xU:aE ["self"] ["self"] (az mC):=t7
def xV:aE ["self"] ["self"] (az lT):=t7
def vD:aE ["self","shelf"] ["self","shelf"] (az j3):=t7
def yu:aE ["self","shelf","number"] ["self","shelf","number"] (az lU):=t7
def qT:aE ["self","shelf","number","at","bits","harmed_piece"] ["self","shelf","number","at","bits"] (az nu):=t7
def xR:aE ["self","shelf"] ["self","shelf"] (az lZ):=t7
def rH:aE ["self","shelf"] ["self","shelf"] (az iT):=t7
def tK:aE ["self","word"] ["self","word"] (az iX):=t7
def iY:aE ["self","word","base"] ["self","word"] (az ju):=t7
def zU:aE ["self","deed"] ["self","deed"] (az nh):=t7
def DQ:aE ["shelf","deed"] ["shelf","deed"] (az tM):=t7
def wH:aE ["_law_script","_law_k"] ["_law_script","_law_k"] (az kE):=t7
def zO:aE ["_law_found"] ["_law_found"] (az ni):=t7
def vc:aE ["_law_cell","_law_k","_law_m"] ["_law_cell","_law_k"] (az qB):=t7
def gT:aE ["_law_cell","_law_wide","_law_changes_here","_law_k","_law_m"] ["_law_cell","_law_wide"] (az kJ):=t7
def qP:aE ["_law_wide","_law_state"] ["_law_wide"] (az nY):=t7
def lu:aE ["_law_store","_law_state","_law_changes_here","_law_table","_law_place","_law_block"] ["_law_store","_law_state","_law_changes_here"] (az qH):=t7
def AB:aE ["_law_state","_law_side","_law_deed"] ["_law_state","_law_side","_law_deed"] (az oY):=t7
def jO:aE ["_law_state","_law_side","_law_many","_law_count"] ["_law_state","_law_side","_law_many"] (az ku):=t7
def A7:aE ["_law_state","_law_deed"] ["_law_state","_law_deed"] (az pA):=t7
def Cm:aE ["_law_state","_law_start","_law_day_here"] ["_law_state","_law_start","_law_day_here"] (az qJ):=t7
def di:aE ["_law_row","_law_well","_law_there","_law_more","_law_start","_law_day_here","_law_bad"] ["_law_row","_law_well"] (az nj):=t7
def kh:aE ["_law_state","_law_word","_law_row","_law_days"] ["_law_state","_law_word"] (az pN):=t7
def dW:aE ["_law_store","_law_word","_law_found","e"] ["_law_store","_law_word"] (az nq):=t7
def eK:aE ["_law_state","_law_start","_law_table","_law_found","_law_place","_law_places"] ["_law_state","_law_start"] (az jW):=t7
def mG:aE ["_law_store","_law_state","_law_number","_law_start","_law_piece_here","_law_kind"] ["_law_store","_law_state","_law_number","_law_start"] (az nO):=t7
def gq:aE ["_law_store","_law_state","_law_word","_law_today","_law_start","_law_found","_law_number"] ["_law_store","_law_state","_law_word"] (az oV):=t7
def iO:aE ["_law_store","_law_state","_law_m","_law_row","_law_number","_law_size"] ["_law_store","_law_state","_law_m"] (az lY):=t7
def gC:aE ["_law_wide","_law_told","e"] ["_law_wide"] (az j9):=t7
def oh:aE ["_law_script","_law_wide","_law_store","_law_state","_law_k","_law_m","_law_word"] ["_law_script"] (az kY):=t7
def aO{k:Z5}{x:V}{σ:St}(σ':St){H:Hp}{N:St->Hp->Z3}(h:N σ' H)(e:σ.set k (some x)=σ':=by rfl):qF k x σ H N:=by subst e;exact h
def gz{c R:TS}{D:Ends}{σ:St}{H:Hp}(b:St->Hp->Z3)(h:∀N:St->Hp->Z3,(∀a H',b a H'->N a H')->c {D with nx:=N} σ H)(f:∀a H',b a H'->R D a H'):A0 c R D σ H:=h (R D) f
def fN{c:TT}{t u:TS}{D:Ends}{σ:St}{H:Hp}(a:∀Q:Bool->Hp->Z3,Q Z1 H->c σ H Q)(h:t D σ H):yE c t u D σ H:=a _<|dB h
def iI{c:TT}{t u:TS}{D:Ends}{σ:St}{H:Hp}(a:∀Q:Bool->Hp->Z3,Q Z2 H->c σ H Q)(h:u D σ H):yE c t u D σ H:=a _<|eV h
def yt{c:TT}{t u:TS}{D:Ends}{σ:St}{H:Hp}(b:Bool)(P:Hp->Z3)(g:∀Q:Bool->Hp->Z3,(∀H',P H'->Q b H')->c σ H Q)(f:b=Z1->∀H',P H'->t D σ H')(a:b=Z2->∀H',P H'->u D σ H'):yE c t u D σ H:=g _ λH' p=>by
 cases b with
 |true=>exact dB<|f G H' p
 |false=>exact eV<|a G H' p
def HK(s:ak H H1):ak (Z9 H a u) (Z9 H1 a u):=λb o e=>by
 by_cases h:b=a
 .subst h;rw[af] at e ⊢;exact e
 .rw[ah h] at e ⊢;exact s b o e
def tL(h:H a=some w)(s:ak (Z9 H a u) H5):ak H (Z9 H5 a w):=λb o e=>by
 by_cases c:b=a
 .subst c;rw[af,←h];exact e
 .rw[ah c];exact s b o (by rw[ah c];exact e)
def m5:∀{fk:ee (Key×V)},gy fk->∃ns:ee Z4,fk.map (·.1)=ns.map Sum.inl
 |[],_=>{[],G}
 |kv::r,h=>by
  let⟨n,b⟩:=h kv o8;let⟨ns,e⟩:=m5 (fk:=r) λx a=>h x (by simp[a])
  exact{n::ns,by rw[Yn,Yn,e,b]}
def NI{x y k:Z4}(h0:0≤k)(h1:k<2):∃z,atI [V.int x,V.int y] k=some (V.int z)/\(z=x∨z=y):=by
 let:k=0∨k=1:=by omega
 rcases this with rfl|rfl
 .exact{x,G,.inl G}
 .exact{y,G,.inr G}
def xP{ds:ee Z4}{k:Z4}(h0:0≤k)(h1:k <↥ds.length):∃z,atI (ds.map Z8) k=some (V.int z)/\z∈ds:=by
 obtain⟨j,rfl⟩:∃j:Z5,k =↥j:=⟨k.toNat,o6⟩;let a:j<ds.length:=by omega
 exact{ds[j],dh (by rw[Xo,Xh a];rfl),Yh a}
inductive vf(vs:ee V)(H:Hp)(Q:VK)(E:XK):Z3
 |m n(_:vs=[.int n])(_:Q (.bl Z1) H)
inductive qk(C:fy)(vs:ee V)(H:Hp)(Q:VK)(E:XK):Z3
 |m (p d:fy) (fl:Z4) (kvs:ee (Key×V)) (ns:ee Z4)(_:vs=[.ref p])(_:cF C H p d fl kvs)(_:kvs.map (·.1)=ns.map Sum.inl)(_:ns.length<64)(_:∀(l:fy)(ns':ee Z4),H l=Z0->ns'.Perm ns->ns'.Pairwise (·≤·)->Q (.ref l) (Z9 H l (.lst (ns'.map Z8))))
inductive nN(C:fy)(vs:ee V)(H:Hp)(Q:VK)(E:XK):Z3
 |m p d fl kvs(_:vs=[.ref p])(_:cF C H p d fl kvs)(_:Q (.int fl) H)
def Tz(s:ak (Z9 H d u) H'):bg [d] H H':=λb o e a=>s b o (by rw[ah (⇑a)];exact e)
def uw{c:TT}{t u:TS}{D:Ends}{σ:St}{H:Hp}(PT a:Hp->Z3)(g:∀Q:Bool->Hp->Z3,(∀H',PT H'->Q Z1 H')->(∀H',a H'->Q Z2 H')->c σ H Q)(f:∀H',PT H'->t D σ H')(b:∀H',a H'->u D σ H'):yE c t u D σ H:=g _ (λH' p=>dB<|f H' p) λH' p=>eV<|b H' p
def eqZ{x:V}(ns:ee Z4)(a:x∈ns.map Z8){K:Frag}{H:Hp}:EqI K H 0 x x Z1:=by let⟨z,_,rfl⟩:=XI.mp a;exact CF z
def fu(rows:ee (Z5×Z5))(i a:Z5):ee (Z5×Z5):=rows.modify i λr=>(r.1,r.2 ^^^ a)
def tu(rows:ee (Z5×Z5))(i a:Z5):(fu rows i a).length=rows.length:=by simp[fu]
def tE{i a:Z5}{r:Z5×Z5}(h:rows[i]?=some r):fu rows i a=rows.set i (r.1,r.2 ^^^ a):=by
 unfold fu;apply Zk;intro j;rw[List.getElem?_modify,ZT];by_cases e:i=j
 .grind
 .simp[e]
def Bu(R:bP H L rows){r:Z5×Z5}{i:Z5}(h:H t=some (.tup [.int ↥r.1,.int ↥r.2])):bP H (L.set i (.ref t)) (rows.set i r):=
 ⟨by simp[R.len],λj v e=>by
  rw[ZT] at e;by_cases f:i=j
  .subst f;rw[Xm rfl] at e;split at e
   .rename_i g;let e:V.ref t=v:=⇑e
    exact{t,r,e.symm,by rw[ZT,Xm G,Xm (by rwa[←R.len])],h}
   .cases e
  .rw[Xn f] at e;let⟨u,l,a,b,c⟩:=R.get j v e;exact{u,l,a,by rwa[ZT,Xn f],c}⟩
inductive xm(CW CG:fy)(wh:Bool)(vs:ee V)(H:Hp)(Q:VK)(E:XK):Z3
 |m p b d rows c l L rows2(_:vs=[.ref p,.ref l])(_:PAt CW CG H p wh b d rows c)(_:H l=some (.lst L))(_:bP H L rows2)(_:rows2.length≤100)(_:∀p2 H',PAt CW CG H' p2 wh b d rows2 c->H p2=Z0->ak H H'->Q (.ref p2) H')
inductive uF(CW CG CN:fy)(vs:ee V)(H:Hp)(Q:VK)(E:XK):Z3
 |m (p:fy) (wh:Bool) (b d:Z5) (rows:ee (Z5×Z5)) (c ai:Z4) (bt:Z5)(_:vs=[.ref p,.int ai,.int (bt:Z4)])(_:PAt CW CG H p wh b d rows c)(_:rows.length≤100)(_:∀i:Z5,ai =(i:Z4)->i<rows.length->∀p2 H',PAt CW CG H' p2 wh b d (fu rows i bt) c->H p2=Z0->ak H H'->Q (.ref p2) H')(_:¬(0≤ai/\ai <(rows.length:Z4))->∀e H',ExcAt H' e CN [("place",.int ai)]->ak H H'->E (.ref CN) (some e) H')
def PAt.of0{b d:Z5}{c:Z4}(h:PAt CW CG H p Z1 0 d rows c):PAt CW CG H p Z1 b d rows c:=h
inductive yy(C CN:fy)(vs:ee V)(H:Hp)(Q:VK)(E:XK):Z3
 |m p dx wd(_:vs=[.ref p,.int wd])(_:H p=some (.ins C dx []))(_:(1≤wd/\wd≤40)->∀(ta sa tz se:fy)(H':Hp),bV C H' p ta sa [tz] [se] wd.toNat [List.replicate wd.toNat 0] [[]]->(∀ b∈[ta,sa,tz,se],H b=Z0)->bg [p] H H'->Q .non H')(_:¬(1≤wd/\wd≤40)->∀e H',ExcAt H' e CN [("wide",.int wd)]->ak H H'->E (.ref CN) (some e) H')
inductive yj(CN:fy)(vs:ee V)(H:Hp)(Q:VK)(E:XK):Z3
 |m wd(_:vs=[.int wd])(_:(1≤wd/\wd≤40)->Q .non H)(_:¬(1≤wd/\wd≤40)->∀e H',ExcAt H' e CN [("wide",.int wd)]->ak H H'->E (.ref CN) (some e) H')
inductive yz(C CP CB:fy)(vs:ee V)(H:Hp)(Q:VK)(E:XK):Z3
 |m p ta sa TL SL wd v8 AL c(_:vs=[.ref p,.int c.1,.int c.2])(_:bV C H p ta sa TL SL wd v8 AL)(_:gR wd c=Z0->Q .non H)(_:∀x,gR wd c=some (Z1,x)->∀e H',ExcAt H' e CP [("place",.int x)]->ak H H'->E (.ref CP) (some e) H')(_:∀x,gR wd c=some (Z2,x)->∀e H',ExcAt H' e CB [("block",.int x)]->ak H H'->E (.ref CB) (some e) H')
inductive yd(C CD:fy)(vs:ee V)(H:Hp)(Q:VK)(E:XK):Z3
 |m p ta sa TL SL wd v8 AL d(_:vs=[.ref p,.int d])(_:bV C H p ta sa TL SL wd v8 AL)(_:(0≤d/\d<v8.length)->Q .non H)(_:¬(0≤d/\d<v8.length)->∀e H',ExcAt H' e CD [("day",.int d)]->ak H H'->E (.ref CD) (some e) H')
inductive wB(C CD:fy)(vs:ee V)(H:Hp)(Q:VK)(E:XK):Z3
 |m p ta sa TL SL wd v8 AL d(_:vs=[.ref p,.int d])(_:bV C H p ta sa TL SL wd v8 AL)(_:(0≤d/\d<v8.length)->∀t tab,v8[d.toNat]?=some tab->H t=Z0->Q (.ref t) (Z9 H t (.lst (tab.map Z8))))(_:¬(0≤d/\d<v8.length)->∀e H',ExcAt H' e CD [("day",.int d)]->ak H H'->E (.ref CD) (some e) H')
inductive sY(C CP CB:fy)(vs:ee V)(H:Hp)(Q:VK)(E:XK):Z3
 |m p ta sa a TL SL wd v8 AL L A2(_:vs=[.ref p,.ref a])(_:bV C H p ta sa TL SL wd v8 AL)(_:H a=some (.lst L))(_:iu H L A2)(_:A2.length≤300)(_:v8.length≤500)(_:a∉foot p ta sa TL SL)(_:dS wd A2=Z0->∀(m d:fy)(H':Hp)(tab:ee Z4),v8[v8.length-1]?=some tab->bV C H' p ta sa (TL++[m]) (SL++[d]) wd (v8++[nextT tab A2]) (AL++[A2.map Prod.fst])->H m=Z0->H d=Z0->bg (foot p ta sa TL SL) H H'->Q (.int (v8.length:Z4)) H')(_:∀x,dS wd A2=some (Z1,x)->∀e H',ExcAt H' e CP [("place",.int x)]->ak H H'->E (.ref CP) (some e) H')(_:∀x,dS wd A2=some (Z2,x)->∀e H',ExcAt H' e CB [("block",.int x)]->ak H H'->E (.ref CB) (some e) H')
def pX(AL:ee (ee Z4))(lo hi:Z4)(k:Z4):Z3:=∃(d:Z5)(xs:ee Z4),lo <↥d/\↥d≤hi/\AL[d]?=some xs/\k∈xs
structure nM(wd:Z5)(AL:ee (ee Z4)):Z3 where
 most:wd≤40
 day:∀ xs∈AL,xs.length≤300/\∀ x∈xs,0≤x/\x <(wd:Z4)
inductive qD(C CD:fy)(vs:ee V)(H:Hp)(Q:VK)(E:XK):Z3
 |m p ta sa TL SL wd v8 AL one other(_:vs=[.ref p,.int one,.int other])(_:bV C H p ta sa TL SL wd v8 AL)(_:nM wd AL)(_:v8.length≤500)(_:(0≤one/\one<v8.length)->(0≤other/\other<v8.length)->∀(r:fy)(ns:ee Z4)H',H' r=some (.lst (ns.map Z8))->H r=Z0->ns.Pairwise (· < ·)->(∀k,k∈ns↔pX AL (min one other) (max one other) k)->ak H H'->Q (.ref r) H')(_:∀d,(¬(0≤one/\one<v8.length)/\d=one)∨((0≤one/\one<v8.length)/\¬(0≤other/\other<v8.length)/\d=other)->∀e H',ExcAt H' e CD [("day",.int d)]->ak H H'->E (.ref CD) (some e) H')
def sd:∀(m:Z5)(l:ee Z4),l.Nodup->(∀ x∈l,0≤x/\x <↥m)->l.length≤m
 |0,l,_,h=>by
  cases l with
  |nil=>exact Xk _
  |cons x r=>have:=h x o8;omega
 |m+1,l,hn,h=>by
  let c:=sd m (l.erase ↥m) (hn.erase _) λx a=>by
   let h1:=h x<|List.mem_of_mem_erase a;let h2:x≠↥m:=λz=>by rw[z] at a;exact(List.Nodup.not_mem_erase hn) a
   omega
  by_cases b:↥m∈l
  .grind
  .grind
def UD{wd:Z5}(h:wd≤40){ns:ee Z4}(a:∀ x∈ns,0≤x/\x <↥wd):(dd ns).length≤63:=by
 let:=sd wd (dd ns) (pJ _ _) λx h=>a x<|Fx.mp h
 omega
def IG{n:Z5}(h:n≤200000):n≤Z7:=Ye h o7
def Gg{α:Type}{xs:ee α}{v:α}(h:xs[xs.length-1]?=some v):atI xs (-1)=some v:=by let a:=(Xg.mp h).1;unfold atI ixN;rwa[Xn o6,Xm o6,show((-1:Z4) +↥xs.length).toNat=xs.length-1 by omega]
def nQ(wd:Z5)(a:ee (Z4×Z4)):Z3:=a.length≤4/\∀ x∈a,0≤x.1/\x.1 <↥wd/\0≤x.2/\x.2<2 ^ 64
def Hf{wd:Z5}(h:nQ wd A2):dS wd A2=Z0:=by grind [nQ,dS,gR]
def kW(ts:ee (ee Z4)):ee Z4:=(ts[ts.length-1]?).getD []
def lO(ts:ee (ee Z4))(a:ee (ee (Z4×Z4))):ee (ee Z4):=a.foldl (λts c=>ts++[nextT (kW ts) c]) ts
def bT(wd:Z5)(a:ee (ee (Z4×Z4))):ee (ee Z4):=lO [List.replicate wd 0] a
def g9(a:ee (ee (Z4×Z4))):ee (ee Z4):=[]::a.map (List.map Prod.fst)
def FD(wd:Z5)(a:ee (ee (Z4×Z4)))(c:ee (Z4×Z4)):bT wd (a++[c])=bT wd a++[nextT (kW (bT wd a)) c]:=by grind [bT,nextT,kW,lO]
def sj(a:ee (ee (Z4×Z4)))(c:ee (Z4×Z4)):g9 (a++[c])=g9 a++[c.map Prod.fst]:=by unfold g9;simp
def wG:∀a ts,(lO ts a).length=ts.length+a.length
 |[],ts=>rfl
 |c::r,ts=>by show(lO (ts++[nextT (kW ts) c]) r).length=_;rw[wG r];simp;omega
def qv(wd:Z5)(a:ee (ee (Z4×Z4))):(bT wd a).length=a.length+1:=by unfold bT;rw[wG];simp;omega
def GO(a:ee (ee (Z4×Z4))):(g9 a).length=a.length+1:=by unfold g9;simp
def DM(h:ts[ts.length-1]?=some t):kW ts=t:=by unfold kW;rw[h];rfl
def TabOk(wd:Z5)(t:ee Z4):Z3:=t.length=wd/\∀ v∈t,0≤v
def CA{wd:Z5}:∀{a:ee (Z4×Z4)}{t:ee Z4},TabOk wd t->(∀ c∈a,0≤c.2)->TabOk wd (nextT t a)
 |[],t,h,_=>h
 |c::r,t,h,hc=>by
  show TabOk wd (nextT (t.set c.1.toNat c.2) r);refine CA {by rw[List.length_set];exact h.1,λv f=>?_} λx b=>hc x (by simp[b])
  rcases aaH f with z|z
  .exact h.2 v z
  .grind
def Ie{wd:Z5}(h:∀ t∈ts,TabOk wd t)(h0:ts≠[]):TabOk wd (kW ts):=by
 let a:ts.length-1<ts.length:=by let:=aak.mpr h0;omega
 rw[DM<|Xh a];exact h _<|Yh a
def y9{wd:Z5}:∀{a:ee (ee (Z4×Z4))}{ts:ee (ee Z4)},(∀ b∈a,nQ wd b)->(∀ t∈ts,TabOk wd t)->ts≠[]->∀ t∈lO ts a,TabOk wd t
 |[],ts,_,h,_=>h
 |c::r,ts,hc,h,h0=>by
  show ∀ t∈lO (ts++[nextT (kW ts) c]) r,TabOk wd t;refine y9 (λb f=>hc b (by simp[f])) (λt g=>?_) o8;rcases Xv.mp g with z|z
  .exact h t z
  .rw[Xx.mp z];exact CA (Ie h h0) λx i=>((hc c o8).2 x i).2.2.1
def tabs_ok{wd:Z5}(h:∀ c∈chss,nQ wd c):∀ t∈bT wd chss,TabOk wd t:=y9 h (λt a=>by rw[Xx.mp a];exact{Yu,λv b=>by rw[(aav.mp b).2];exact aar _}) o8
def Dd{wd:Z5}(g:wd≤40)(h:∀ f∈chss,nQ wd f):nM wd (g9 chss):=⟨g,λxs a=>by
 unfold g9 at a;rcases XG.mp a with rfl|a
 .grind
 .let⟨f,b,rfl⟩:=XI.mp a;refine{by rw[Xj];let:=(h f b).1;omega,λx a=>?_};let⟨c,i,rfl⟩:=XI.mp a;let:=(h f b).2 c i;omega⟩
def gW(a:ee Z4):ee (Z5×Z5):=a.zipIdx.map λq=>(q.2,q.1.toNat)
def lD(a:ee Z4):(gW a).length=a.length:=by unfold gW;simp
def vQ{i:Z5}{v:Z4}(h:tab[i]?=some v):(gW tab)[i]?=some (i,v.toNat):=by grind [gW]
def enum_rows(h:EnL H0 H (tab.map Z8) ts)(g:ts.length =(tab.map Z8).length)(h0:∀ v∈tab,0≤v):bP H (ts.map V.ref) (gW tab):=
 ⟨by rw[Xj,g,Xj,lD],λi v e=>by rw[Xo] at e;let⟨t,f,rfl⟩:=XA.mp e;let⟨_,x,b,c⟩:=h i t f;rw[Xo] at b;let⟨z,a,rfl⟩:=XA.mp b;let:=h0 z<|Xl a;exists t,_,G,vQ a;rw[c];show some (HO.tup [V.int ↥i,V.int z])=some (HO.tup [V.int ↥i,V.int ↥z.toNat]);rw[aal this]⟩
def cW(ns a:ee Z4):ee (Z5×Z5):=ns.map λk=>(k.toNat,(a.getD k.toNat 0).toNat)
def xC{k:Z4}:cW (ns++[k]) tab=cW ns tab++[(k.toNat,(tab.getD k.toNat 0).toNat)]:=by grind [cW]
def lP:(cW ns tab).length=ns.length:=by unfold cW;rw[Xj]
def we{wd:Z5}{ns:ee Z4}(h:ns.Pairwise (· < ·))(b:∀ x∈ns,0≤x/\x <↥wd):ns.length≤wd:=sd wd ns (h.imp λa=>by omega) b
def uf{wd:Z5}(h:nM wd AL){lo hi k:Z4}(b:pX AL lo hi k):0≤k/\k <↥wd:=by let⟨d,xs,_,_,e,a⟩:=b;exact(h.day xs<|Xl e).2 k a
def okD(n:Z5)(d:Z4):Z3:=0≤d/\d <↥n
structure GW(C:fy)(H:Hp)(p:fy)(wd:Z5)(v8 AL:ee (ee Z4)):Z3 where
 D:∃ta sa TL SL,bV C H p ta sa TL SL wd v8 AL
 S:nM wd AL
 T:∀ t∈v8,TabOk wd t
 n:v8.length≤500
inductive qM(C CW CG CD:fy)(vs:ee V)(H:Hp)(Q:VK)(E:XK):Z3
 |m p wd v8 AL day(_:vs=[.ref p,.int day])(_:GW C H p wd v8 AL)(_:okD v8.length day->∀(q:fy)(tab:ee Z4)H',v8[day.toNat]?=some tab->PAt CW CG H' q Z1 0 day.toNat (gW tab) (iz Z1 0 day.toNat (gW tab):Z5)->ak H H'->Q (.ref q) H')(_:¬okD v8.length day->∀e H',ExcAt H' e CD [("day",.int day)]->ak H H'->E (.ref CD) (some e) H')
inductive tN(C CW CG CD CB:fy)(vs:ee V)(H:Hp)(Q:VK)(E:XK):Z3
 |m p wd v8 AL base day(_:vs=[.ref p,.int base,.int day])(_:GW C H p wd v8 AL)(_:okD v8.length base->okD v8.length day->base<day->∀(q:fy)(ns tab:ee Z4)H',v8[day.toNat]?=some tab->ns.Pairwise (· < ·)->(∀k,k∈ns↔pX AL base day k)->PAt CW CG H' q Z2 base.toNat day.toNat (cW ns tab) (iz Z2 base.toNat day.toNat (cW ns tab):Z5)->ak H H'->Q (.ref q) H')(_:okD v8.length base->okD v8.length day->day≤base->∀e H',ExcAt H' e CB [("base",.int base),("day",.int day)]->ak H H'->E (.ref CB) (some e) H')(_:∀d,((¬okD v8.length base/\d=base)∨(okD v8.length base/\¬okD v8.length day/\d=day))->∀e H',ExcAt H' e CD [("day",.int d)]->ak H H'->E (.ref CD) (some e) H')
structure ShG(C CW CG:fy)(H:Hp)(p d:fy)(fl:Z4)(kvs:ee (Key×V))(M:cY):Z3 where
 sh:cF C H p d fl kvs
 sr:kU CW CG H kvs M
 nd:(kvs.map (·.1)).Nodup
 c8:gy kvs
 pos:BP M
def ShG.keep{C CW CG:fy}{H H':Hp}{p d:fy}{fl:Z4}{kvs:ee (Key×V)}{M:cY}(h:ShG C CW CG H p d fl kvs M)(s:ak H H'):ShG C CW CG H' p d fl kvs M:={h.sh.keep s,h.sr.keep s,h.nd,h.c8,h.pos}
def ShG.has{C CW CG:fy}{H:Hp}{p d:fy}{fl:Z4}{kvs:ee (Key×V)}{M:cY}(h:ShG C CW CG H p d fl kvs M){ns:ee Z4}(e:kvs.map (·.1)=ns.map Sum.inl)(n:Z4):n∈ns↔(M n).isSome=Z1:=by
 let:n∈ns↔(aL kvs (Sum.inl n)).isSome=Z1:=by rw[gD,e,XI];exact{λh=>⟨n,h,G⟩,λ⟨y,h,z⟩=>by cases z;exact h}
 rw[this];cases a:M n with
 |none=>rw[h.sr.gone a];simp
 |some x=>let⟨s,d,g⟩:=x;let⟨v,h1,_⟩:=h.sr.got a;rw[h1];rfl
def d8(M:cY)(gd:Bool)(s n:Z4):Bool:=match M n with
 |some (s',_,g)=>decide (s'=s) &&(g||!gd)
 |none=>Z2
def nV{M:cY}{gd:Bool}{s n:Z4}:d8 M gd s n=Z1↔∃d g,M n=some (s,d,g)/\okG gd g:=by
 unfold d8 okG;cases e:M n with
 |none=>simp
 |some x=>
  let⟨s',d,g⟩:=x;simp only[Bool.and_eq_true,decide_eq_true_eq,Bool.or_eq_true,Bool.not_eq_true'];constructor
  .rintro⟨rfl,h⟩;exact⟨d,g,G,h⟩
  .rintro⟨d',g',h,a⟩;cases h;exact⟨G,a⟩
structure StG(H:Hp)(sk:ee (Key×V))(sel:Z4->ee Z4):Z3 where
 val:∀d,(∃l,aL sk (Sum.inl d)=some (.ref l)/\H l=some (.lst ((sel d).map Z8)))∨(aL sk (Sum.inl d)=Z0/\sel d=[])
def StG.same{H H':Hp}{sk:ee (Key×V)}{sel:Z4->ee Z4}(S:StG H sk sel)(s:ak H H'):StG H' sk sel:=⟨λd=>(S.val d).imp (λ⟨l,a,b⟩=>{l,a,s _ _ b}) id⟩
inductive A5(C CW CG:fy)(vs:ee V)(H:Hp)(Q:VK)(E:XK):Z3
 |m (p d:fy) (fl:Z4) (kvs:ee (Key×V)) (M:cY) (gd:Bool)(_:vs=[.ref p,.bl gd])(_:ShG C CW CG H p d fl kvs M)(_:kvs.length≤62)(_:∀(st:fy)(sk:ee (Key×V))(ns:ee Z4)H',H' st=some (.dK sk)->StG H' sk (λs=>ns.filter (d8 M gd s))->(∀n,n∈ns↔(M n).isSome=Z1)->ns.length≤62->H st=Z0->ak H H'->Q (.ref st) H')
inductive vP(C CW CG:fy)(vs:ee V)(H:Hp)(Q:VK)(E:XK):Z3
 |m (p d:fy) (fl:Z4) (kvs:ee (Key×V)) (M:cY) (gd:Bool)(_:vs=[.ref p,.bl gd])(_:ShG C CW CG H p d fl kvs M)(_:kvs.length≤62)(_:∀(ld:fy)(lk:ee (Key×V))H',H' ld=some (.dK lk)->nL lk M gd->lk.length≤kvs.length->H ld=Z0->ak H H'->Q (.ref ld) H')
inductive jU(C CW CG:fy)(vs:ee V)(H:Hp)(Q:VK)(E:XK):Z3
 |m (p d:fy) (fl:Z4) (kvs:ee (Key×V)) (M:cY) (gd:Bool)(_:vs=[.ref p,.bl gd])(_:ShG C CW CG H p d fl kvs M)(_:kvs.length≤62)(_:∀(l:fy)(ns:ee Z4)H',H' l=some (.lst (ns.map Z8))->RdL M gd ns->ns.length≤62->H l=Z0->ak H H'->Q (.ref l) H')
def iP.len{C CW CG:fy}{H:Hp}{p d:fy}{fl:Z4}{kvs lk:ee (Key×V)}{M:cY}{gd:Bool}{Z:Z4->Z3}(h:ShG C CW CG H p d fl kvs M)(m:(lk.map (·.1)).Nodup)(t:gy lk)(hs:∀d v,aL lk (Sum.inl d)=some v->∃n s g,M n=some (s,d,g)):lk.length≤kvs.length:=by
 let c:∀ x∈lk.map (·.1),x∈kvs.map λa=>(match a.1 with|Sum.inl n=>(match M n with|some (_,d,_)=>Sum.inl d|none=>Sum.inl 0)|Sum.inr z=>Sum.inr z:Key):=λx o=>by let⟨a,b,rfl⟩:=XI.mp o;let⟨d',r⟩:=t _ b;let l:=uB m (k:=a.1) (v:=a.2) b;rw[show a.1=Sum.inl d' from r] at l ⊢;let⟨n,s,g,j⟩:=hs d' _ l;let⟨v,h1,_⟩:=h.sr.got j;let⟨i,f,q⟩:=XI.mp<|gD.mp (show(aL kvs<|Sum.inl n).isSome=Z1 by rw[h1];rfl);refine XI.mpr {i,f,?_};rw[q];simp only[j]
 let:=AV m c;simpa using this
structure NbI(H H':Hp)(nl st:fy)(sk:ee (Key×V))(M:cY)(gd:Bool)(ns:ee Z4)(i:Z5):Z3 where
 same:ak H H'
 lst:H' nl=some (.lst (ns.map Z8))
 dct:H' st=some (.dK sk)
 stn:H st=Z0
 len:sk.length≤i
 val:StG H' sk (λs=>(ns.take i).filter (d8 M gd s))
 fresh:∀s l,aL sk (Sum.inl s)=some (.ref l)->H l=Z0/\l≠nl
 inj:∀s s' l,aL sk (Sum.inl s)=some (.ref l)->aL sk (Sum.inl s')=some (.ref l)->s=s'
section
variable{H H' H'':Hp}{nl st:fy}{sk:ee (Key×V)}{M:cY}{gd:Bool}{ns:ee Z4}{i:Z5}{n s d:Z4}{g:Bool}
def NbI.keep(h:NbI H H' nl st sk M gd ns i)(k:ak H' H''):NbI H H'' nl st sk M gd ns i:={h.same.trans k,k _ _ h.lst,k _ _ h.dct,h.stn,h.len,h.val.same k,h.fresh,h.inj}
def vX(e:ns[i]?=some n)(x:Z4):(ns.take (i+1)).filter (d8 M gd x) =(ns.take i).filter (d8 M gd x) ++(if d8 M gd x n=Z1 then [n] else []):=by
 rw[XT,e,List.filter_append];by_cases h:d8 M gd x n=Z1
 .rw[Xm h];simp[h]
 .rw[Xn h];simp[h]
def NbI.skip(h:NbI H H' nl st sk M gd ns i)(e:ns[i]?=some n)(a:M n=some (s,d,g))(b:¬okG gd g):NbI H H' nl st sk M gd ns (i+1):=by refine{h.same,h.lst,h.dct,h.stn,Nat.le_succ_of_le h.len,⟨λx=>?_⟩,h.fresh,h.inj};rw[vX e x,Xn λz=>b (by let⟨d',g',h1,h2⟩:=nV.mp z;rw[a] at h1;cases h1;exact h2),YM];exact h.val.val x
def uA(a:M n=some (s,d,g))(b:okG gd g)(x:Z4):d8 M gd x n=Z1↔s=x:=by
 rw[nV];constructor
 .rintro⟨d',g',h1,_⟩;rw[a] at h1;cases h1;rfl
 .rintro rfl;exact⟨d,g,a,b⟩
def NbI.old(h:NbI H H' nl st sk M gd ns i)(e:ns[i]?=some n)(t:M n=some (s,d,g))(u:okG gd g){w:V}(f:aL sk (Sum.inl s)=some w)(v:ns.length≤62) :
  ∃(l:fy)(xs:ee V),w=.ref l/\H' l=some (.lst xs)/\xs.length<1000/\NbI H (Z9 H' l (.lst (xs++[.int n]))) nl st sk M gd ns (i+1):=by
 rcases h.val.val s with⟨l,h1,h2⟩|⟨h1,_⟩
 case inr=>rw[h1] at f;cases f
 rw[h1] at f;cases f;let j:l≠st:=br h2 h.dct nofun;let p:=h.fresh _ _ h1;refine{l,_,G,h2,?_,{λb o q=>?_,by rw[ah p.2.symm];exact h.lst,by rw[ah j.symm];exact h.dct,h.stn,Nat.le_succ_of_le h.len,⟨λx=>?_⟩,h.fresh,h.inj}}
 .rw[Xj];refine ZJ (Zl _ _) ?_;rw[YC];omega
 .rw[ah<|aq q p.1];exact h.same b o q
 .rw[vX e x];by_cases m:s=x
  .subst m;rw[Xm<|(uA t u s).mpr G];exact .inl {l,h1,by rw[af];simp}
  .rw[Xn λz=>m<|(uA t u x).mp z,YM];rcases h.val.val x with⟨r,a,c⟩|z
   .refine .inl {r,a,?_};rw[ah (show r≠l from λz=>m<|h.inj _ _ _ h1 (by rwa[←z]))];exact c
   .exact .inr z
def NbI.new(h:NbI H H' nl st sk M gd ns i)(e:ns[i]?=some n)(S:M n=some (s,d,g))(O:okG gd g)(U:aL sk (Sum.inl s)=Z0){x:fy}(A:H' x=Z0) :
  NbI H (Z9 (Z9 (Z9 H' x (.lst [])) st (.dK (putK sk (Sum.inl s) (.ref x)))) x (.lst ([]++[.int n]))) nl st (putK sk (Sum.inl s) (.ref x)) M gd ns (i+1):=by
 let C:st≠x:=aq h.dct A;let q:nl≠x:=aq h.lst A;let L:nl≠st:=br h.lst h.dct nofun;let p:H x=Z0:=h.same.free A;let c:∀y l,aL (putK sk (Sum.inl s) (.ref x)) (Sum.inl y)=some (.ref l)->(y=s/\l=x)∨(y≠s/\aL sk (Sum.inl y)=some (.ref l)):=λy l a=>by
  rw[iy] at a;by_cases v:(Sum.inl y:Key)=Sum.inl s
  .rw[Xm v] at a;cases a;exact .inl {Zx v,G}
  .rw[Xn v] at a;exact .inr {λz=>v<|congrArg Sum.inl z,a}
 let f:∀y l,aL sk (Sum.inl y)=some (.ref l)->l≠x:=λy l a=>by
  rcases h.val.val y with⟨Y,h1,h2⟩|⟨h1,_⟩
  .rw[h1] at a;cases a;exact aq h2 A
  .rw[h1] at a;cases a
 refine{λb o u=>?_,?_,?_,h.stn,?_,⟨λy=>?_⟩,λy l a=>?_,λy F l a t=>?_}
 .rw[ah<|aq u p,ah<|aq u h.stn,ah<|aq u p];exact h.same b o u
 .rw[ah q,ah L,ah q];exact h.lst
 .rw[ah C,af]
 .let:=i9 sk (Sum.inl s)<|V.ref x;let:=h.len;omega
 .rw[vX e y];by_cases B:s=y
  .subst B;rw[Xm<|(uA S O s).mpr G];let r:(ns.take i).filter (d8 M gd s)=[]:=by
    rcases h.val.val s with⟨l,h1,_⟩|⟨_,h2⟩
    .rw[h1] at U;cases U
    .exact h2
   exact .inl {x,by rw[iy,Xm rfl],by rw[af,r];rfl}
  .rw[Xn λz=>B<|(uA S O y).mp z,YM,iy,Xn λz=>B (Zx z).symm];rcases h.val.val y with⟨Y,m,j⟩|z
   .refine .inl {Y,m,?_};rwa[ah<|f _ _ m,ah<|br j h.dct nofun,ah<|f _ _ m]
   .exact .inr z
 .rcases c y l a with⟨_,rfl⟩|⟨_,h1⟩
  .exact⟨p,q.symm⟩
  .exact h.fresh y l h1
 .rcases c y l a with⟨rfl,rfl⟩|⟨h0,h1⟩
  .rcases c F _ t with⟨rfl,_⟩|⟨_,h2⟩
   .rfl
   .exact absurd G (f _ _ h2)
  .rcases c F _ t with⟨rfl,rfl⟩|⟨_,h2⟩
   .exact absurd G (f _ _ h1)
   .exact h.inj y F l h1 h2
end
def mZ(kvs:ee (Key×V))(k:Key)(v:V):(putK kvs k v).length=if (aL kvs k).isSome=Z1 then kvs.length else kvs.length+1:=by
 unfold putK;rw[iw];split
 .simp
 .simp
structure Mid(lk:ee (Key×V))(M:cY)(gd:Bool)(t:Z5)(fs:ee Z4)(Dn:Z4->Z3):Z3 where
 nd:(lk.map (·.1)).Nodup
 c8:gy lk
 cN:∀d v,aL lk (Sum.inl d)=some v->∃n s g k,v=V.int n/\M n=some (s,d,g)/\okG gd g/\Lev M gd s k/\Lev M gd d (k+1)/\k+1≤t+1
 old:∀d k,Lev M gd d (k+1)->k+1≤t->(aL lk (Sum.inl d)).isSome=Z1
 fs_:∀d,d∈fs↔(aL lk (Sum.inl d)).isSome=Z1/\Lev M gd d (t+1)
 done:∀n s d g,Dn n->M n=some (s,d,g)->okG gd g->Lev M gd s t->(aL lk (Sum.inl d)).isSome=Z1
section
variable{lk:ee (Key×V)}{M:cY}{gd:Bool}{t:Z5}{fs:ee Z4}{Dn Dn':Z4->Z3}{n s d:Z4}{g:Bool}
def Mid.start(h:iP lk M gd t):Mid lk M gd t [] (λ_=>False):=by
 refine{h.nd,h.c8,λd v e=>?_,h.D5,λd=>{nofun,λ⟨l,z2⟩=>?_},λn s d g z=>z.elim}
 .let⟨n,s,g,k,a,b,c,j,f,m⟩:=h.cN d v e;exact⟨n,s,g,k,a,b,c,j,f,o6⟩
 .cases i:aL lk (Sum.inl d) with
  |none=>rw[i] at l;cases l
  |some v=>let⟨n,s,g,k,a,b,c,j,f,m⟩:=h.cN d v i;let:=f.one z2;omega
def Mid.mono(h:Mid lk M gd t fs Dn)(a:∀n,Dn' n->Dn n):Mid lk M gd t fs Dn':={h.nd,h.c8,h.cN,h.old,h.fs_,λn s d g z=>h.done n s d g<|a n z}
def Mid.skip(h:Mid lk M gd t fs Dn)(b:M n=some (s,d,g))(f:(aL lk (Sum.inl d)).isSome=Z1):Mid lk M gd t fs (λm=>Dn m∨m=n):=
 {h.nd,h.c8,h.cN,h.old,h.fs_,λm s' d' g' z a i c=>z.elim (λz=>h.done m s' d' g' z a i c) λz=>by rw[z,b] at a;cases a;exact f}
def Mid.put(h:Mid lk M gd t fs Dn)(u:BP M)(f:M n=some (s,d,g))(p:okG gd g)(hs:Lev M gd s t)(B:aL lk (Sum.inl d)=Z0):Mid (putK lk (Sum.inl d) (.int n)) M gd t (fs++[d]) (λm=>Dn m∨m=n):=by
 let c:Lev M gd d (t+1):=by
  refine{.step f p hs.1,λj C y=>?_};let⟨i,hi,o⟩:=FW j y;cases i with
  |zero=>have:=Rk.Ea o.1;let:=u _ _ _ _ f;omega
  |succ k=>have:=h.old d k o o6;rw[B] at this;cases this
 let a:∀x,aL (putK lk (Sum.inl d) (.int n)) (Sum.inl x)=if x=d then some (.int n) else aL lk (Sum.inl x):=λx=>by
  rw[iy];by_cases e:x=d
  .subst e;rw[Xm G,Xm rfl]
  .rw[Xn λz=>e<|Zx z,Xn e]
 let b:∀x,(aL lk (Sum.inl x)).isSome=Z1->(aL (putK lk (Sum.inl d) (.int n)) (Sum.inl x)).isSome=Z1:=λx q=>by
  rw[a x];split
  .rfl
  .exact q
 refine{AX _ h.nd,h.c8.put d _,λx v e=>?_,λx k h1 h2=>b x<|h.old x k h1 h2,λx=>?_,λm s' d' g' z l r A=>?_}
 .rw[a x] at e;by_cases ex:x=d
  .subst ex;rw[Xm rfl] at e;cases e;exact{n,s,g,t,G,f,p,hs,c,Xk _}
  .rw[Xn ex] at e;exact h.cN x v e
 .rw[Xv,Xx,h.fs_ x,a x];by_cases ex:x=d
  .subst ex;rw[Xm rfl];exact{λ_=>⟨G,c⟩,λ_=>.inr G}
  .rw[Xn ex];exact{λz=>z.elim id λz=>absurd z ex,.inl}
 .rcases z with z|z
  .exact b _ (h.done m s' d' g' z l r A)
  .rw[z,f] at l;cases l;rw[a,Xm rfl];rfl
def Mid.end_(h:Mid lk M gd t fs Dn)(j:∀n s d g,M n=some (s,d,g)->okG gd g->Lev M gd s t->Dn n):iP lk M gd (t+1)/\∀d,d∈fs↔Lev M gd d (t+1):=by
 let f:∀d k,Lev M gd d (k+1)->k+1≤t+1->(aL lk (Sum.inl d)).isSome=Z1:=λd k h1 h2=>by
  by_cases i:k+1≤t
  .exact h.old d k h1 i
  .let:k=t:=by omega
   subst this;let⟨n,s,g,a,b,c⟩:=h1.pred;exact h.done n s d g (j n s d g a b c) a b c
 exact{⟨h.nd,h.c8,h.cN,f⟩,λd=>(h.fs_ d).trans {λz=>z.2,λz=>{f d t z<|Xk _,z}}}
end
def uy(ns:ee Z4)(k:Z4):Z4:=if k <↥ns.length then ns.getD k.toNat 0 else 0
inductive yp(K:Frag)(vs:ee V)(H:Hp)(Q:VK)(E:XK):Z3
 |m (a:fy) (ns:ee Z4) (k:Z5)(_:vs=[.ref a,.int (k:Z4)])(_:X0 K H a (ns.map Z8))(_:Q (.int (uy ns k)) H)
def stF(q a nl dl b:fy)(c sk f:V):ee (Z6×V):=[("days",.ref q),("rule",c),("seek",sk),("each",f),("shelves",.ref a),("noted",.ref nl),("done",.ref dl),("seals",.ref b)]
structure StA(CS:fy)(H:Hp)(p q sl nl dl se:fy)(rl sk ea:V):Z3 where
 ex:∃dx,H p=some (.ins CS dx (stF q sl nl dl se rl sk ea))
def ue{q a nl dl b:fy}{c sk f:V}:(stF q a nl dl b c sk f).lookup (Str.ofString "days")=some (V.ref q):=rfl
def fO{q a nl dl b:fy}{c sk f:V}:(stF q a nl dl b c sk f).lookup (Str.ofString "shelves")=some (V.ref a):=rfl
def vY{q a nl dl b:fy}{c sk f:V}:(stF q a nl dl b c sk f).lookup (Str.ofString "noted")=some (V.ref nl):=rfl
def xX{q a nl dl b:fy}{c sk f:V}:(stF q a nl dl b c sk f).lookup (Str.ofString "done")=some (V.ref dl):=rfl
def bU{q b nl dl a:fy}{c sk f:V}{m:Z6}(h:((["days","rule","seek","each","shelves","noted","done","seals"]:ee Z6).all (λk=>!(m==k)))=Z1):List.lookup m (stF q b nl dl a c sk f)=Z0:=by simp only[List.all_cons,List.all_nil,Bool.and_true,Bool.and_eq_true,Bool.not_eq_true'] at h;let⟨h1,h2,h3,h4,h5,h6,h7,h8⟩:=h;unfold stF;simp only[List.lookup,h1,h2,h3,h4,h5,h6,h7,h8]
def Bc{xs:ee V}{i:Z5}{v:V}(h:xs[i]?=some v):atI xs ↥i=some v:=dh h
inductive vn(CS:fy)(vs:ee V)(H:Hp)(Q:VK)(E:XK):Z3
 |m (p q sl nl dl se:fy) (rl sk ea:V) (NL:ee V)(_:vs=[.ref p])(_:StA CS H p q sl nl dl se rl sk ea)(_:H nl=some (.lst NL))(_:NL.length≤1000)(_:Q (.int (NL.length:Z4)) H)
inductive vH(CS:fy)(vs:ee V)(H:Hp)(Q:VK)(E:XK):Z3
 |m (p q sl nl dl se:fy) (rl sk ea:V) (DL:ee V)(_:vs=[.ref p])(_:StA CS H p q sl nl dl se rl sk ea)(_:H dl=some (.lst DL))(_:DL.length≤1000)(_:∀t,H t=Z0->Q (.ref t) (Z9 H t (.tup DL)))
inductive pG(CS:fy)(vs:ee V)(H:Hp)(Q:VK)(E:XK):Z3
 |m (p q sl nl dl se:fy) (rl sk ea:V) (SL:ee V) (i:Z5)(_:vs=[.ref p,.int (i:Z4)])(_:StA CS H p q sl nl dl se rl sk ea)(_:H sl=some (.lst SL))(_:SL.length=3)(_:i<3)(_:Q .non H)
inductive wg(CS CD:fy)(vs:ee V)(H:Hp)(Q:VK)(E:XK):Z3
 |m (p q sl nl dl se ta sa:fy) (TL SL:ee fy) (wd:Z5) (v8 AL:ee (ee Z4)) (rl sk ea:V)(_:vs=[.ref p])(_:StA CS H p q sl nl dl se rl sk ea)(_:bV CD H q ta sa TL SL wd v8 AL)(_:Q (.int ((v8.length:Z4)-1)) H)
inductive pI(CS C:fy)(vs:ee V)(H:Hp)(Q:VK)(E:XK):Z3
 |m (p q sl nl dl se:fy) (rl sk ea:V) (SL:ee V) (i:Z5) (x d:fy) (fl:Z4) (kvs:ee (Key×V)) (ns:ee Z4)(_:vs=[.ref p,.int (i:Z4)])(_:StA CS H p q sl nl dl se rl sk ea)(_:H sl=some (.lst SL))(_:SL.length=3)(_:i<3)(_:SL[i]?=some (.ref x))(_:cF C H x d fl kvs)(_:kvs.map (·.1)=ns.map Sum.inl)(_:ns.length<64)(_:∀(l:fy)(ns':ee Z4),H l=Z0->ns'.Perm ns->ns'.Pairwise (·≤·)->Q (.ref l) (Z9 H l (.lst (ns'.map Z8))))
inductive rY(CS C:fy)(vs:ee V)(H:Hp)(Q:VK)(E:XK):Z3
 |m (p q sl nl dl se:fy) (rl sk ea:V) (SL:ee V) (i:Z5) (x d:fy) (fl:Z4) (kvs:ee (Key×V)) (n:Z4) (v:V)(_:vs=[.ref p,.int (i:Z4),.int n])(_:StA CS H p q sl nl dl se rl sk ea)(_:H sl=some (.lst SL))(_:SL.length=3)(_:i<3)(_:SL[i]?=some (.ref x))(_:cF C H x d fl kvs)(_:aL kvs (.inl n)=some v)(_:Q v H)
inductive tG(C:fy)(vs:ee V)(H:Hp)(Q:VK)(E:XK):Z3
 |m (x d t a:fy) (fl:Z4) (kvs:ee (Key×V))(_:vs=[.ref x,.ref t])(_:H t=some (.tup [.str "put",.ref a]))(_:cF C H x d fl kvs)(_:kvs.length<1000)(_:∀H',cF C H' x d (fl+1) (putK kvs (.inl fl) (.ref a))->bg [x,d] H H'->Q .non H')
inductive vG(CS C:fy)(vs:ee V)(H:Hp)(Q:VK)(E:XK):Z3
 |m (p q sl nl dl se x d t a:fy) (rl sk ea y z D1 D2:V) (NL:ee V) (n:Z5) (fl:Z4) (kvs:ee (Key×V))(_:vs=[.ref p,.int 0,.int 1])(_:StA CS H p q sl nl dl se rl sk ea)(_:H sl=some (.lst [.ref x,y,z]))(_:H nl=some (.lst (NL++[.ref t])))(_:NL.length=n)(_:n≤900)(_:H t=some (.tup [.str "put",.ref a]))(_:H dl=some (.lst [.int (n:Z4),D1,D2]))(_:cF C H x d fl kvs)(_:kvs.length<1000)(_:∀H',cF C H' x d (fl+1) (putK kvs (.inl fl) (.ref a))->H' dl=some (.lst [.int (n+1:Z4),D1,D2])->bg [x,d,dl] H H'->Q (.int 1) H')
def V3(K:Frag)(x y:V)(H:Hp)(Q:VK):Z3:=∃(p:fy)(L:ee fy)(bs:fy->Bool),y=.ref p/\X0 K H p (L.map V.ref)/\(∀ a∈L,EqI K H 1 (.ref a) x<|bs a)/\Q (.bl (!L.any bs)) H
def Hq(bs:fy->Bool):mu->Bool
 |.ref a=>bs a
 |_=>Z2
def zg:∀{L:ee fy}{us:ee mu},Vals (L.map V.ref) us->us=L.map Value.ref
 |[],_,.nil=>rfl
 |a::L,_,.cons (b:=u) r t=>by rw[zg t,show u=Value.ref a from r];rfl
def IJ{X:Cx}(n:X.A.units+64<cLine):OpR X (compareOp .NotIn) (V3 X.K):=by
 intro X4 s σ H x y v u Q I f j h;let⟨p,L,bs,rfl,c,l,q⟩:=h;cases j;let⟨i,r,pl,m⟩:=I.list c;let e:=zg r;subst e;refine SeqAt.notIn_listAt (Hq bs) pl.isList (λw g=>?_) {.bl _,H,I,G,?_}
 .let⟨a,b,rfl⟩:=XI.mp (show w∈L.map Value.ref by simpa using g);exact EqI.at I 1 (A:=X.A.in1) (by grind) (l a b) G f
 .rw[show(L.map Value.ref).toArray.any (Hq bs)=L.any bs by simp[List.any_map,Function.comp_def,Hq]];exact q
def bE(H:Hp)(F:ee fy):Z3:=∀ x∈F,(∃a,H x=some (.dK a))∨(∃xs,H x=some (.lst xs))∨∃C dx fs,H x=some (.ins C dx fs)/\List.lookup ("day":Str) fs=Z0
section
variable{H H':Hp}{F b4:ee fy}{CW CG:fy}
def bE.tup(h:bE H F){t:fy}{xs:ee V}(e:H t=some (.tup xs)):t∉F:=λa=>by rcases h t a with⟨_,z⟩|⟨_,z⟩|⟨_,_,_,z,_⟩ <;>(rw[e] at z;cases z)
def PAt.c6{a:fy}{wh:Bool}{b d:Z5}{rows:ee (Z5×Z5)}{c:Z4}(h:PAt CW CG H a wh b d rows c)(k:bg F H H')(f:bE H F):PAt CW CG H' a wh b d rows c:=by
 let⟨dx,r,R,h1,h2,h3⟩:=h;refine{dx,r,R,k _ _ h1 λi=>?_,k _ _ h2<|f.tup h2,h3.mono λt xs e=>k _ _ e<|f.tup e};rcases f _ i with⟨_,z⟩|⟨_,z⟩|⟨_,_,_,z,g⟩
 .rw[h1] at z;cases z
 .rw[h1] at z;cases z
 .rw[h1] at z;rw[←(HO.ins.inj<|XQ z).2.2,show List.lookup ("day":Str) (pfs wh b d r c _)=some (V.int ↥d) by cases wh <;> exact lM] at g;cases g
def cP.c6{v:V}{u:PcU}(h:cP CW CG H v u)(k:bg F H H')(b:bE H F):cP CW CG H' v u:=let ⟨a,h1,h2,h3⟩:=h;{a,h1,PAt.c6 h2 k b,h3}
def bE.dk{a:fy}{c:ee (Key×V)}(h:H a=some (.dK c))(r:bE H F):bE H (a::F):=λx b=>(XG.mp b).elim (λz=>by rw[z];exact .inl {_,h})<|r x
def bE.ls{a:fy}{xs:ee V}(h:H a=some (.lst xs))(r:bE H F):bE H (a::F):=λx b=>(XG.mp b).elim (λz=>by rw[z];exact .inr<|.inl {_,h})<|r x
def bE.nil:bE H []:=λ_ h=>by cases h
def bE.sh{C p d:fy}{fl:Z4}{kvs:ee (Key×V)}(h:cF C H p d fl kvs):bE H [p,d]:=λx a=>by
 let⟨dx,h1,h2⟩:=h;simp only[List.mem_cons,List.not_mem_nil,or_false] at a;rcases a with rfl|rfl
 .exact .inr (.inr {_,_,_,h1,gH o4 o4})
 .exact .inl {_,h2}
def bE.days{C p ta sa:fy}{TL SL:ee fy}{wd:Z5}{v8 AL:ee (ee Z4)}(D:bV C H p ta sa TL SL wd v8 AL):bE H (foot p ta sa TL SL):=λx b=>by
 rcases D.lists b with⟨dx,fs,e⟩|⟨xs,e⟩
 .let⟨g,f⟩:=D.ob;by_cases c:x=p
  .subst c;exact .inr<|.inr {_,_,_,f,mP o4 o4 o4 o4}
  .simp only[foot,List.mem_cons,List.mem_append] at b;rcases b with z|z|z|z|z
   .exact absurd z c
   .rw[z,D.tl] at e;cases e
   .rw[z,D.sl] at e;cases e
   .let⟨i,hi⟩:=XM.mp z;let a:=(Xg.mp hi).1;rw[D.tls.len] at a;rw[D.tls.get i x _ hi<|Xh a] at e;cases e
   .let⟨i,hi⟩:=XM.mp z;let a:=(Xg.mp hi).1;rw[D.sls.len] at a;rw[D.sls.get i x _ hi<|Xh a] at e;cases e
 .exact .inr (.inl ⟨xs,e⟩)
end
abbrev bD:=Z4->nt PcU
def lG(M:bD):cY:=λn=>(M n).map λu=>(u.st,↥u.d,u.good)
def Ds{M:bD}{n:Z4}{u:PcU}(e:M n=some u):lG M n=some (u.st,↥u.d,u.good):=by unfold lG;rw[e];rfl
def Ag{M:bD}{n s d:Z4}{g:Bool}(e:lG M n=some (s,d,g)):∃u,M n=some u/\s=u.st/\d =↥u.d/\g=u.good:=by unfold lG at e;let⟨u,h1,h2⟩:=XA.mp e;cases h2;exact⟨u,h1,G,G,G⟩
def OD{C CW CG:fy}{H:Hp}{x d:fy}{fl:Z4}{kvs:ee (Key×V)}{M:bD}(h:cF C H x d fl kvs)(f:dX (cP CW CG H) kvs M):ShG C CW CG H x d fl kvs (lG M):=by
 refine{h,λn=>?_,f.nd,f.c8,λn s d g e=>?_}
 .cases e:M n with
  |none=>unfold lG;rw[e];exact f.none_ n e
  |some u=>rw[Ds e];let⟨v,h1,a,h2,h3,h4⟩:=f.cN n u e;exact⟨v,h1,a,u.wh,u.b,u.d,u.rows,u.c,h2,h3,h4,G,G,G⟩
 .let⟨u,_,_,rfl,_⟩:=Ag e;omega
def WhC(M:bD)(x:Z4):Z3:=∃n u,M n=some u/\u.wh=Z1/\u.good=Z1/\x =↥u.d
def gG(M:bD)(w:Z6)(x:Z4):Z3:=if w = "since" then WhC M x else Rch (lG M) Z1 x/\x≠-1
inductive vI(C CW CG:fy)(vs:ee V)(H:Hp)(Q:VK)(E:XK):Z3
 |m (p d:fy) (fl:Z4) (kvs:ee (Key×V)) (M:bD)(_:vs=[.ref p])(_:cF C H p d fl kvs)(_:dX (cP CW CG H) kvs M)(_:kvs.length≤62)(_:∀v H',gB (WhC M) v->ak H H'->Q v H')
structure SAd where
 p:fy
 q:fy
 sl:fy
 nl:fy
 dl:fy
 se:fy
 x:fy
 d:fy
 y:fy
 z:fy
 dy:fy
 dz:fy
 ta:fy
 sa:fy
 TL:ee fy
 SL:ee fy
 rl:V
 sk:V
 ea:V
 NL:ee V
 kvs:ee (Key×V)
 n:Z5
def SAd.ft(A:SAd):ee fy:=foot A.q A.ta A.sa A.TL A.SL
def SAd.sm(A:SAd):ee fy:=[A.p,A.sl,A.y,A.dy,A.z,A.dz,A.nl,A.dl,A.x,A.d]
structure StC(CS CD C CW CG:fy)(H:Hp)(A:SAd)(wd:Z5)(v8 AL:ee (ee Z4))(M:bD):Z3 where
 st:StA CS H A.p A.q A.sl A.nl A.dl A.se A.rl A.sk A.ea
 sl:H A.sl=some (.lst [.ref A.x,.ref A.y,.ref A.z])
 D:bV CD H A.q A.ta A.sa A.TL A.SL wd v8 AL
 nl:H A.nl=some (.lst A.NL)
 dl:H A.dl=some (.lst [.int (A.n:Z4),.int 0,.int 0])
 sh:cF C H A.x A.d (A.n:Z4) A.kvs
 sy:cF C H A.y A.dy 0 []
 sz:cF C H A.z A.dz 0 []
 pr:dX (cP CW CG H) A.kvs M
 nn:A.NL.length=A.n
 kn:A.kvs.length=A.n
 n61:A.n≤61
 tn:v8.length≤100
 S:nM wd AL
 T:∀ t∈v8,TabOk wd t
 nd:A.sm.Nodup
 ap:∀ b∈A.sm,b∉A.ft
def gM{l:ee fy}(h:l.Nodup)(k:Z5){b:fy}(a:b∈l.take k):b∉l.drop k:=λc=>by rw[←abc k l,aaC] at h;exact h.2.2 b a b c G
section
variable{CS CD C CW CG:fy}{H H':Hp}{A:SAd}{wd:Z5}{v8 AL:ee (ee Z4)}{M:bD}{F:ee fy}
def StC.c6(h:StC CS CD C CW CG H A wd v8 AL M)(k:bg F H H')(g:bE H F)(f:∀ b∈A.sm++A.ft,b∉F):StC CS CD C CW CG H' A wd v8 AL M:=by
 let a:∀ b∈A.sm,b∉F:=λb c=>f b<|Xu _ c
 let⟨dx,h1⟩:=h.st;exact{{dx,k _ _ h1<|a _ (by simp[SAd.sm])},k _ _ h.sl<|a _ (by simp[SAd.sm]),h.D.apart k λb c=>f b<|XD _ c,k _ _ h.nl<|a _ (by simp[SAd.sm]),k _ _ h.dl<|a _ (by simp[SAd.sm]),h.sh.jl k (a _ (by simp[SAd.sm]))<|a _ (by simp[SAd.sm]),h.sy.jl k (a _ (by simp[SAd.sm]))<|a _ (by simp[SAd.sm]),h.sz.jl k (a _ (by simp[SAd.sm]))<|a _ (by simp[SAd.sm]),h.pr.mono λv u z=>cP.c6 z k g,h.nn,h.kn,h.n61,h.tn,h.S,h.T,h.nd,h.ap}
def StC.same(h:StC CS CD C CW CG H A wd v8 AL M)(s:ak H H'):StC CS CD C CW CG H' A wd v8 AL M:=h.c6 (F:=[]) (bg.of_same s) bE.nil λ_ _ h=>by cases h
def StC.here(h:StC CS CD C CW CG H A wd v8 AL M):∀ b∈A.sm++A.ft,∃o,H b=some o:=λb a=>by
 rcases Xv.mp a with a|a
 .let⟨_,h1⟩:=h.st;let⟨_,h2,h3⟩:=h.sh;let⟨_,h4,h5⟩:=h.sy;let⟨_,h6,h7⟩:=h.sz;let h8:=h.sl;let h9:=h.nl;let h10:=h.dl;simp only[SAd.sm,List.mem_cons,List.not_mem_nil,or_false] at a;rcases a with rfl|rfl|rfl|rfl|rfl|rfl|rfl|rfl|rfl|rfl <;> exact{_,by assumption}
 .exact h.D.here b a
def StC.Jx(h:StC CS CD C CW CG H A wd v8 AL M):GW CD H A.q wd v8 AL:={{_,_,_,_,h.D},h.S,h.T,by let:=h.tn;omega}
def SAd.add(A:SAd)(t a:fy):SAd:={A with NL:=A.NL++[.ref t],kvs:=putK A.kvs (.inl ↥A.n)<|.ref a,n:=A.n+1}
def StC.add(h:StC CS CD C CW CG H A wd v8 AL M)(m:A.n≤60)(o:M ↥A.n=Z0){t a:fy}{u:PcU}(q:cP CW CG H (.ref a) u)(l:H' A.nl=some (.lst (A.NL++[.ref t])))(g:H' A.dl=some (.lst [.int (A.n+1:Z4),.int 0,.int 0]))(hs:cF C H' A.x A.d (A.n+1) (putK A.kvs (.inl ↥A.n) (.ref a)))(k:bg [A.nl,A.dl,A.x,A.d] H H'):StC CS CD C CW CG H' (A.add t a) wd v8 AL (jQ M ↥A.n (some u)):=by
 let i:bE H [A.nl,A.dl,A.x,A.d]:=bE.ls h.nl<|bE.ls h.dl<|bE.sh h.sh;let c:∀ b∈[A.p,A.sl,A.y,A.dy,A.z,A.dz],b∉[A.nl,A.dl,A.x,A.d]:=λb f=>gM h.nd 6 f
 let⟨dx,h1⟩:=h.st;refine{{dx,k _ _ h1<|c A.p o8},k _ _ h.sl<|c A.sl o8,h.D.apart k λb f j=>h.ap b (by simp only[SAd.sm,List.mem_cons] at j ⊢;simp only[List.not_mem_nil,or_false] at j;grind) f,l,g,hs,h.sy.jl k (c _ o8)<|c _ o8,h.sz.jl k (c _ o8)<|c _ o8,(h.pr.mono λv u z=>cP.c6 z k i).put<|cP.c6 q k i,by simp[SAd.add,h.nn],?_,by simp only[SAd.add];omega,h.tn,h.S,h.T,h.nd,h.ap};simp only[SAd.add];rw[mZ,h.pr.none_ _ o,h.kn];rfl
end
section
variable{CS CD C CW CG:fy}{H H':Hp}{A:SAd}{wd:Z5}{v8 AL:ee (ee Z4)}{M:bD}
def StC.set(h:StC CS CD C CW CG H A wd v8 AL M){m:Z4}{u u':PcU}(j:M m=some u){a:fy}(l:cP CW CG H (.ref a) u')(hs:cF C H' A.x A.d A.n (putK A.kvs (.inl m) (.ref a)))(k:bg [A.x,A.d] H H'):StC CS CD C CW CG H' {A with kvs:=putK A.kvs (.inl m) (.ref a)} wd v8 AL (jQ M m (some u')):=by
 let g:bE H [A.x,A.d]:=bE.sh h.sh;let c:∀ b∈[A.p,A.sl,A.y,A.dy,A.z,A.dz,A.nl,A.dl],b∉[A.x,A.d]:=λb f=>gM h.nd 8 f
 let⟨dx,h1⟩:=h.st;refine{{dx,k _ _ h1<|c A.p o8},k _ _ h.sl<|c A.sl o8,h.D.apart k λb f i=>h.ap b (by simp only[SAd.sm,List.mem_cons] at i ⊢;simp only[List.not_mem_nil,or_false] at i;grind) f,k _ _ h.nl<|c A.nl o8,k _ _ h.dl<|c A.dl o8,hs,h.sy.jl k (c A.y o8)<|c A.dy o8,h.sz.jl k (c A.z o8)<|c A.dz o8,(h.pr.mono λv u z=>cP.c6 z k g).put<|cP.c6 l k g,h.nn,?_,h.n61,h.tn,h.S,h.T,h.nd,h.ap};let⟨v,o,_⟩:=h.pr.cN m u j;show(putK A.kvs (.inl m)<|.ref a).length=A.n;rw[mZ,o,h.kn];rfl
end
def Alv(L:ee fy)(H:Hp):Z3:=∀ a∈L,H a≠Z0
def Alv.new{L:ee fy}{H:Hp}(h:Alv L H){b:fy}(e:H b=Z0):b∉L:=λz=>h b z e
def Alv.cons{L:ee fy}{H:Hp}(h:Alv L H){b:fy}{o:HO}(e:H b=some o):Alv (b::L) H:=λa c=>(XG.mp c).elim (λz=>by rw[z,e];simp)<|h a
def Alv.mv{L:ee fy}{H H':Hp}(h:Alv L H)(k:∀b,H b≠Z0->H' b≠Z0):Alv L H':=λa c=>k a<|h a c
def cU{H H':Hp}(s:ak H H')(b:fy)(h:H b≠Z0):H' b≠Z0:=by
 cases e:H b with
 |none=>exact absurd e h
 |some o=>rw[s b o e];simp
def qe{H:Hp}{p:fy}{o:HO}(b:fy)(h:H b≠Z0):Z9 H p o b≠Z0:=by
 by_cases e:b=p
 .subst e;rw[af];simp
 .rw[ah e];exact h
inductive qp(CS CD:fy)(vs:ee V)(H:Hp)(Q:VK)(E:XK):Z3
 |m (p q sl nl dl se ta sa a:fy) (TL SL:ee fy) (wd:Z5) (v8 AL:ee (ee Z4)) (rl sk ea:V) (L:ee V) (A2:ee (Z4×Z4))(_:vs=[.ref p,.ref a])(_:StA CS H p q sl nl dl se rl sk ea)(_:bV CD H q ta sa TL SL wd v8 AL)(_:H a=some (.lst L))(_:iu H L A2)(_:A2.length≤300)(_:v8.length≤500)(_:a∉foot q ta sa TL SL)(_:dS wd A2=Z0)(_:∀(m d:fy)(H':Hp)(tab:ee Z4),v8[v8.length-1]?=some tab->bV CD H' q ta sa (TL++[m]) (SL++[d]) wd (v8++[nextT tab A2]) (AL++[A2.map Prod.fst])->H m=Z0->H d=Z0->bg (foot q ta sa TL SL) H H'->Q (.int (v8.length:Z4)) H')
inductive rJ(CS C CW CG:fy)(vs:ee V)(H:Hp)(Q:VK)(E:XK):Z3
 |m (p q sl nl dl se:fy) (rl sk ea:V) (SL:ee V) (i:Z5) (x d:fy) (fl:Z4) (kvs:ee (Key×V)) (M:bD)(_:vs=[.ref p,.int (i:Z4)])(_:StA CS H p q sl nl dl se rl sk ea)(_:H sl=some (.lst SL))(_:SL.length=3)(_:i<3)(_:SL[i]?=some (.ref x))(_:cF C H x d fl kvs)(_:dX (cP CW CG H) kvs M)(_:kvs.length≤62)(_:∀v H',gB (λx=>Rch (lG M) Z1 x/\x≠-1) v->ak H H'->Q v H')
inductive yl(CS C:fy)(vs:ee V)(H:Hp)(Q:VK)(E:XK):Z3
 |m (CD CW CG:fy) (A:SAd) (wd:Z5) (v8 AL:ee (ee Z4)) (M:bD) (t a:fy) (u:PcU)(_:vs=[.ref A.p,.ref t])(_:StC CS CD C CW CG H A wd v8 AL M)(_:A.n≤60)(_:M (A.n:Z4)=Z0)(_:H t=some (.tup [.str "put",.ref a]))(_:cP CW CG H (.ref a) u)(_:∀H',StC CS CD C CW CG H' (A.add t a) wd v8 AL (jQ M (A.n:Z4) (some u))->bg [A.nl,A.dl,A.x,A.d] H H'->Q .non H')
def gb(w:Z6):Z3:=w = "since"∨w = "last"
inductive qC(CS C CW CG CD CNW CNB:fy)(vs:ee V)(H:Hp)(Q:VK)(E:XK):Z3
 |m (A:SAd) (wd:Z5) (v8 AL:ee (ee Z4)) (M:bD) (w:Z6)(_:vs=[.ref A.p,.str w])(_:StC CS CD C CW CG H A wd v8 AL M)(_:gb w->∀b H',gB (gG M w) (.int b)->ak H H'->Q (.int b) H')(_:gb w->gB (gG M w) .non->∀e H',ExcAt H' e CNB [("base",.non),("day",.int ((v8.length:Z4)-1))]->ak H H'->E (.ref CNB) (some e) H')(_:¬gb w->∀e H',ExcAt H' e CNW [("word",.str w)]->ak H H'->E (.ref CNW) (some e) H')
def Bo(v8 AL:ee (ee Z4))(M:bD)(w:Z6)(u:PcU):Z3:=
 (w = "whole"/\∃a,v8[v8.length-1]?=some a/\u ={Z1,(0),v8.length-1,gW a,(iz Z1 0 (v8.length-1) (gW a):Z5)})∨
 (gb w/\∃(b:Z5)(a ns:ee Z4),gB (gG M w) (.int ↥b)/\b<v8.length-1/\v8[v8.length-1]?=some a/\ns.Pairwise (· < ·)/\(∀k,k∈ns↔pX AL b ((v8.length-1:Z5):Z4) k)/\u ={Z2,b,v8.length-1,cW ns a,(iz Z2 b (v8.length-1) (cW ns a):Z5)})
def Ly(b a:fy)(today:Z4)(M:bD)(w:Z6)(C:fy)(fs:ee (Z6×V)):Z3:=
 (C=b/\w≠"whole"/\¬gb w/\fs =([("word",.str w)]:ee (Z6×V)))∨(C=a/\gb w/\∃v:V,(v=.non∨v=.int today)/\gB (gG M w) v/\fs =([("base",v),("day",.int today)]:ee (Z6×V)))
inductive oX(CS C CW CG CD CNW CNB:fy)(vs:ee V)(H:Hp)(Q:VK)(E:XK):Z3
 |m (A:SAd) (wd:Z5) (v8 AL:ee (ee Z4)) (M:bD) (w:Z6)(_:vs=[.ref A.p,.str w])(_:StC CS CD C CW CG H A wd v8 AL M)(_:∀m u,M m=some u->u.d<v8.length)(_:∀a u H',Bo v8 AL M w u->cP CW CG H' (.ref a) u->ak H H'->Q (.ref a) H')(_:∀CE fs e H',Ly CNW CNB ((v8.length:Z4)-1) M w CE fs->ExcAt H' e CE fs->ak H H'->E (.ref CE) (some e) H')
inductive yH(CS C CW CG CD CNW CNB:fy)(vs:ee V)(H:Hp)(Q:VK)(E:XK):Z3
 |m (A:SAd) (wd:Z5) (v8 AL:ee (ee Z4)) (M:bD) (w:Z6)(_:vs=[.ref A.p,.str w])(_:StC CS CD C CW CG H A wd v8 AL M)(_:∀m u,M m=some u->u.d<v8.length)(_:A.n≤60)(_:M (A.n:Z4)=Z0)(_:∀t a u H',Bo v8 AL M w u->StC CS CD C CW CG H' (A.add t a) wd v8 AL (jQ M (A.n:Z4) (some u))->bg [A.nl,A.dl,A.x,A.d] H H'->Q (.int (A.n:Z4)) H')(_:∀CE fs e H',Ly CNW CNB ((v8.length:Z4)-1) M w CE fs->ExcAt H' e CE fs->ak H H'->E (.ref CE) (some e) H')
inductive vU(CS C CW CG:fy)(vs:ee V)(H:Hp)(Q:VK)(E:XK):Z3
 |m (CD:fy) (A:SAd) (wd:Z5) (v8 AL:ee (ee Z4)) (M:bD) (m:Z4) (i bt:Z5) (u:PcU)(_:vs=[.ref A.p,.int 0,.int m,.int (i:Z4),.int (bt:Z4)])(_:StC CS CD C CW CG H A wd v8 AL M)(_:M m=some u)(_:0≤m)(_:m <(A.n:Z4))(_:i<u.rows.length)(_:∀(a:fy)H',StC CS CD C CW CG H' {A with kvs:=putK A.kvs (.inl m) (.ref a)} wd v8 AL (jQ M m (some {u with rows:=fu u.rows i bt}))->bg [A.x,A.d] H H'->Q .non H')
inductive vE(C:fy)(vs:ee V)(H:Hp)(Q:VK)(E:XK):Z3
 |m (p dx l:fy)(_:vs=[.ref p,.ref l])(_:H p=some (.ins C dx []))(_:H l=some (.lst []))(_:∀t H',H' p=some (.ins C dx [("rules",.ref t)])->bg [p] H H'->Q .non H')
inductive tQ(CS CD C CNT:fy)(vs:ee V)(H:Hp)(Q:VK)(E:XK):Z3
 |m (p dx:fy) (wd:Z4) (rl sk ea:V)(_:vs=[.ref p,.int wd,rl,sk,ea])(_:H p=some (.ins CS dx []))(_:(1≤wd/\wd≤40)->∀(A:SAd)(H':Hp),A.p=p->A.n=0->(∀CW CG,StC CS CD C CW CG H' A wd.toNat [List.replicate wd.toNat 0] [[]] (λ_=>Z0))->(∀ b∈A.sm++A.ft,b=p∨H b=Z0)->bg [p] H H'->Q .non H')(_:¬(1≤wd/\wd≤40)->∀e H',ExcAt H' e CNT [("wide",.int wd)]->bg [p] H H'->E (.ref CNT) (some e) H')
def mI(c k:Z4):Z4:=(c % 2147483647+48271*k+11)*16807 % 2147483629
def yF(c k:Z4):Z4:=(mI c k*mI c k+7919*k) % 2147483587
def U4(c k:Z4):0≤mI c k/\mI c k<2147483629:=by grind [mI]
def HQ(c k:Z4):0≤yF c k/\yF c k<2147483587:=by grind [yF]
inductive AJ(vs:ee V)(H:Hp)(Q:VK)(E:XK):Z3
 |m c k(_:vs=[.int c,.int k])(_:Q (.int (yF c k)) H)
def lwK(tl pl lg lsl ldn:fy)(n:Z5):ee (Key×V):=[(.inr "tables",.ref tl),(.inr "places",.ref pl),(.inr "log",.ref lg),(.inr "next",.int ↥n),(.inr "shelves",.ref lsl),(.inr "done",.ref ldn)]
section
variable{H:Hp}{s tl pl lg lsl ldn:fy}{n:Z5}(h:H s=some (.dK (lwK tl pl lg lsl ldn n)))
include h
def gTb:cT H s (.str "tables") (some (.ref tl)):=cT.k (k:=Sum.inr "tables") h
def gPl:cT H s (.str "places") (some (.ref pl)):=cT.k (k:=Sum.inr "places") h
def gLg:cT H s (.str "log") (some (.ref lg)):=cT.k (k:=Sum.inr "log") h
def gNx:cT H s (.str "next") (some (.int ↥n)):=cT.k (k:=Sum.inr "next") h
def gSh:cT H s (.str "shelves") (some (.ref lsl)):=cT.k (k:=Sum.inr "shelves") h
def gDn:cT H s (.str "done") (some (.ref ldn)):=cT.k (k:=Sum.inr "done") h
end
def bdI(u:PcU):Z4:=if u.good then 0 else 1
def vz(H:Hp)(v:V)(u:PcU):Z3:=∃t,v=.ref t/\H t=some (.tup [.int u.st,.int ↥u.d,.int<|bdI u])
structure LAd where
 s:fy
 tl:fy
 pl:fy
 lg:fy
 lsl:fy
 ldn:fy
 ld:fy
 LT:ee fy
 LP:ee fy
 l1:V
 l2:V
 LG:ee V
 lkv:ee (Key×V)
 n:Z5
def LAd.sm(L:LAd):ee fy:=[L.lsl,L.tl,L.pl,L.lg,L.ldn,L.s,L.ld]
structure LwC(H:Hp)(L:LAd)(v8 AL:ee (ee Z4))(M:bD):Z3 where
 s_:H L.s=some (.dK (lwK L.tl L.pl L.lg L.lsl L.ldn L.n))
 tl:H L.tl=some (.lst (L.LT.map V.ref))
 lt:Rows H L.LT v8
 pl:H L.pl=some (.lst (L.LP.map V.ref))
 lp:Rows H L.LP AL
 lg:H L.lg=some (.lst L.LG)
 ln:L.LG.length=L.n
 ls:H L.lsl=some (.lst [.ref L.ld,L.l1,L.l2])
 dn:H L.ldn=some (.lst [.int (L.n:Z4),.int 0,.int 0])
 ld:H L.ld=some (.dK L.lkv)
 lr:dX (vz H) L.lkv M
 lk:L.lkv.length=L.n
 n61:L.n≤61
 nd:L.sm.Nodup
 ap:∀ b∈L.LT++L.LP,b∉L.sm
def vz.c6{H H':Hp}{F:ee fy}{v:V}{u:PcU}(h:vz H v u)(k:bg F H H')(a:bE H F):vz H' v u:=let ⟨t,h1,h2⟩:=h;{t,h1,k _ _ h2<|a.tup h2}
section
variable{H H':Hp}{L:LAd}{v8 AL:ee (ee Z4)}{M:bD}{F:ee fy}
def LwC.c6(h:LwC H L v8 AL M)(k:bg F H H')(i:bE H F)(g:∀ b∈L.sm ++(L.LT++L.LP),b∉F):LwC H' L v8 AL M:=by
 let c:∀ b∈L.sm,b∉F:=λb j=>g b<|Xu _ j
 exact{k _ _ h.s_<|c _ (by simp[LAd.sm]),k _ _ h.tl<|c _ (by simp[LAd.sm]),h.lt.mono λa f o e=>k _ _ e<|g a (by simp[f]),k _ _ h.pl<|c _ (by simp[LAd.sm]),h.lp.mono λa f o e=>k _ _ e<|g a (by simp[f]),k _ _ h.lg<|c _ (by simp[LAd.sm]),h.ln,k _ _ h.ls<|c _ (by simp[LAd.sm]),k _ _ h.dn<|c _ (by simp[LAd.sm]),k _ _ h.ld<|c _ (by simp[LAd.sm]),h.lr.mono λv u z=>z.c6 k i,h.lk,h.n61,h.nd,h.ap}
def LwC.same(h:LwC H L v8 AL M)(s:ak H H'):LwC H' L v8 AL M:=h.c6 (F:=[]) (bg.of_same s) bE.nil λ_ _ h=>by cases h
def LwC.here(h:LwC H L v8 AL M):∀ b∈L.sm ++(L.LT++L.LP),∃o,H b=some o:=λb a=>by
 rcases Xv.mp a with a|a
 .let h1:=h.s_;let h2:=h.tl;let h3:=h.pl;let h4:=h.lg;let h5:=h.ls;let h6:=h.dn;let h7:=h.ld;simp only[LAd.sm,List.mem_cons,List.not_mem_nil,or_false] at a;rcases a with rfl|rfl|rfl|rfl|rfl|rfl|rfl <;> exact{_,by assumption}
 .rcases Xv.mp a with a|a
  .exact h.lt.here b a
  .exact h.lp.here b a
def LAd.add(L:LAd)(t a:fy):LAd:={L with LG:=L.LG++[.ref t],lkv:=putK L.lkv (.inl ↥L.n)<|.ref a,n:=L.n+1}
def LwC.noF(h:LwC H L v8 AL M):bE H [L.lg,L.ldn,L.s,L.ld]:=bE.ls h.lg<|bE.ls h.dn<|bE.dk h.s_<|bE.dk h.ld bE.nil
def LwC.add(h:LwC H L v8 AL M)(m:L.n≤60)(p:M ↥L.n=Z0){t g:fy}{u:PcU}(l:vz H' (.ref g) u)(h1:H' L.s=some (.dK (lwK L.tl L.pl L.lg L.lsl L.ldn (L.n+1))))(h2:H' L.lg=some (.lst (L.LG++[.ref t])))(h3:H' L.ldn=some (.lst [.int (L.n+1:Z4),.int 0,.int 0]))(h4:H' L.ld=some (.dK (putK L.lkv (.inl ↥L.n) (.ref g))))(k:bg [L.lg,L.ldn,L.s,L.ld] H H'):LwC H' (L.add t g) v8 AL (jQ M ↥L.n (some u)):=by
 let j:=h.noF;let f:∀ b∈[L.lsl,L.tl,L.pl],b∉[L.lg,L.ldn,L.s,L.ld]:=λb c=>gM h.nd 3 c
 let i:∀ b∈L.LT++L.LP,b∉[L.lg,L.ldn,L.s,L.ld]:=λb c z=>h.ap b c (by simp only[LAd.sm,List.mem_cons] at z ⊢;simp only[List.not_mem_nil,or_false] at z;grind)
 refine{h1,k _ _ h.tl<|f L.tl o8,h.lt.mono λa c o e=>k _ _ e<|i a (by simp[c]),k _ _ h.pl<|f L.pl o8,h.lp.mono λa c o e=>k _ _ e<|i a (by simp[c]),h2,by simp[LAd.add,h.ln],k _ _ h.ls<|f L.lsl o8,h3,h4,(h.lr.mono λv u z=>z.c6 k j).put l,?_,by simp only[LAd.add];omega,h.nd,h.ap};simp only[LAd.add];rw[mZ,h.lr.none_ _ p,h.lk];rfl
def LwC.set(h:LwC H L v8 AL M){m:Z4}{u u':PcU}(p:M m=some u){g:fy}(l:vz H' (.ref g) u')(h4:H' L.ld=some (.dK (putK L.lkv (.inl m) (.ref g))))(k:bg [L.ld] H H'):LwC H' {L with lkv:=putK L.lkv (.inl m) (.ref g)} v8 AL (jQ M m (some u')):=by
 let j:bE H [L.ld]:=bE.dk h.ld bE.nil;let f:∀ b∈[L.lsl,L.tl,L.pl,L.lg,L.ldn,L.s],b∉[L.ld]:=λb c=>gM h.nd 6 c
 let i:∀ b∈L.LT++L.LP,b∉[L.ld]:=λb c z=>h.ap b c (by simp only[LAd.sm,List.mem_cons] at z ⊢;simp only[List.not_mem_nil,or_false] at z;grind)
 refine{k _ _ h.s_<|f L.s o8,k _ _ h.tl<|f L.tl o8,h.lt.mono λa c o e=>k _ _ e<|i a (by simp[c]),k _ _ h.pl<|f L.pl o8,h.lp.mono λa c o e=>k _ _ e<|i a (by simp[c]),k _ _ h.lg<|f L.lg o8,h.ln,k _ _ h.ls<|f L.lsl o8,k _ _ h.dn<|f L.ldn o8,h4,(h.lr.mono λv u z=>z.c6 k j).put l,?_,h.n61,h.nd,h.ap};let⟨v,q,_⟩:=h.lr.cN m u p;show(putK L.lkv (.inl m)<|.ref g).length=L.n;rw[mZ,q,h.lk];rfl
end
inductive nH(vs:ee V)(H:Hp)(Q:VK)(E:XK):Z3
 |m (c:Z4) (wd:Z5)(_:vs=[.int c,.int (wd:Z4)])(_:0<wd)(_:wd≤40)(_:∀l L A2 H',H' l=some (.lst L)->H l=Z0->iu H' L A2->nQ wd A2->ak H H'->Q (.ref l) H')
inductive sE(vs:ee V)(H:Hp)(Q:VK)(E:XK):Z3
 |m (wd:Z5)(_:vs=[.int (wd:Z4)])(_:wd≤40)(_:∀(L:LAd)H',L.n=0->LwC H' L [List.replicate wd 0] [[]] (λ_=>Z0)->(∀ b∈L.sm ++(L.LT++L.LP),H b=Z0)->ak H H'->Q (.ref L.s) H')
inductive vt(vs:ee V)(H:Hp)(Q:VK)(E:XK):Z3
 |m (s tl pl lg lsl ldn ld t:fy) (n:Z5) (l1 l2:V) (lkv:ee (Key×V)) (m st day:Z4)(_:vs=[.ref s,.int 0,.ref t])(_:H s=some (.dK (lwK tl pl lg lsl ldn n)))(_:H lsl=some (.lst [.ref ld,l1,l2]))(_:H ld=some (.dK lkv))(_:lkv.length≤100)(_:H t=some (.tup [.str "put",.int m,.int st,.int day]))(_:∀t2,H t2=Z0->Q .non (Z9 (Z9 H t2 (.tup [.int st,.int day,.int 0])) ld (.dK (putK lkv (.inl m) (.ref t2)))))
inductive pL (vs:ee V) (H:Hp) (Q:VK) (E:XK):Z3
 |mk (s tl pl lg lsl ldn ld t:fy) (n:Z5) (l1 l2:V) (LG:ee V) (lkv:ee (Key×V)) (m st day:Z4):vs=[.ref s,.int 0,.int 1]->H s=some (.dK (lwK tl pl lg lsl ldn n))->H lsl=some (.lst [.ref ld,l1,l2])->H ld=some (.dK lkv)->lkv.length≤100->s≠ld->H t=some (.tup [.str "put",.int m,.int st,.int day])->H lg=some (.lst (LG++[.ref t]))->LG.length=n->n≤100->H ldn=some (.lst [.int (n:Z4),.int 0,.int 0])->ldn≠lg->ldn≠lsl->(∀t2 H',H' ld=some (.dK (putK lkv (.inl m) (.ref t2)))->H' t2=some (.tup [.int st,.int day,.int 0])->H' ldn=some (.lst [.int (n+1:Z4),.int 0,.int 0])->bg [ldn,ld] H H'->Q (.int 1) H')->pL vs H Q E
inductive vF (vs:ee V) (H:Hp) (Q:VK) (E:XK):Z3
 |mk (s tl pl lg lsl ldn ld t:fy) (n:Z5) (l1 l2:V) (LG:ee V) (lkv:ee (Key×V)) (m st day:Z4):vs=[.ref s,.ref t]->H s=some (.dK (lwK tl pl lg lsl ldn n))->H lsl=some (.lst [.ref ld,l1,l2])->H ld=some (.dK lkv)->lkv.length≤100->s≠ld->H t=some (.tup [.str "put",.int m,.int st,.int day])->H lg=some (.lst LG)->LG.length=n->n≤100->H ldn=some (.lst [.int (n:Z4),.int 0,.int 0])->ldn≠lg->ldn≠lsl->lg≠lsl->(∀t2 H',H' ld=some (.dK (putK lkv (.inl m) (.ref t2)))->H' t2=some (.tup [.int st,.int day,.int 0])->H' ldn=some (.lst [.int (n+1:Z4),.int 0,.int 0])->H' lg=some (.lst (LG++[.ref t]))->bg [lg,ldn,ld] H H'->Q .non H')->vF vs H Q E
inductive ye(vs:ee V)(H:Hp)(Q:VK)(E:XK):Z3
 |m (L:LAd) (v8 AL:ee (ee Z4)) (M:bD) (u:PcU)(_:vs=[.ref L.s,.int u.st,.int (u.d:Z4)])(_:LwC H L v8 AL M)(_:L.n≤60)(_:M (L.n:Z4)=Z0)(_:u.good=Z1)(_:∀t t2 H',LwC H' (L.add t t2) v8 AL (jQ M (L.n:Z4) (some u))->bg [L.lg,L.ldn,L.s,L.ld] H H'->Q .non H')
def cO.iff{S T:Z4->Z3}(h:cO kvs S)(e:∀i,S i↔T i):cO kvs T:={h.nd,h.c8,λi=>(h.val i).trans<|e i}
def cO.no{S:Z4->Z3}(h:cO kvs S){i:Z4}(hi:¬S i):aL kvs (Sum.inl i)=Z0:=by
 cases e:aL kvs (Sum.inl i) with
 |none=>rfl
 |some v=>exact absurd ((h.val i).mp (by rw[e];rfl)) hi
def cO.drop{kvs:ee (Key×V)}{S:Z4->Z3}(h:cO kvs S)(d:Z4):cO (c5 kvs (Sum.inl d)) (λi=>S i/\i≠d):=by
 refine{vg h.nd,h.c8.drop _,λi=>?_};rw[F8];by_cases e:i=d
 .subst e;simp
 .rw[Xn λz=>e<|Zx z,h.val i];simp[e]
def SX{M:bD}{gd:Bool}{x:Z4}(h:Rch (lG M) gd x):x = -1∨∃n u,M n=some u/\x =↥u.d:=by
 let⟨k,b⟩:=h;cases b with
 |zero=>exact .inl G
 |step a _ _=>let⟨u,e,_,h,_⟩:=Ag a;exact .inr {_,u,e,h}
def oj{Pr:V->PcU->Z3}{kvs lkv:ee (Key×V)}{M:bD}{S:Z4->Z3}(h:cO kvs S)(l:dX Pr lkv M)(m:∀x,S x->Rch (lG M) Z1 x):kvs.length≤lkv.length+1:=by
 let c:∀ x∈kvs.map (·.1),x∈(Sum.inl (-1):Key)::lkv.map λa=>(match a.1 with|Sum.inl n=>(match M n with|some u=>Sum.inl ↥u.d|none=>Sum.inl 0)|Sum.inr z=>Sum.inr z:Key):=λx j=>by
  let⟨a,b,rfl⟩:=XI.mp j;let⟨d',o⟩:=h.c8 _ b;let i:=uB h.nd (k:=a.1) (v:=a.2) b;rw[show a.1=Sum.inl d' from o] at i ⊢;rcases SX (m d' ((h.val d').mp (by rw[i];rfl))) with e0|⟨n,u,e,e0⟩
  .subst e0;exact Yx
  .subst e0;let⟨v,h1,_⟩:=l.cN n u e;let⟨g,f,p⟩:=XI.mp<|gD.mp (show(aL lkv<|Sum.inl n).isSome=Z1 by rw[h1];rfl);refine XR _<|XI.mpr {g,f,?_};rw[p];simp only[e]
 let:=AV h.nd c;simpa using this
def D6{M:bD}{S:Z4->Z3}(h0:S (-1))(g:∀n u,M n=some u->u.good=Z1->S u.st->S ↥u.d){x:Z4}(h:Rch (lG M) Z1 x):S x:=by
 let⟨k,f⟩:=h
 induction f with
 |zero=>exact h0
 |step a b _ c=>let⟨u,e,h1,h2,h3⟩:=Ag a;subst h1 h2 h3;exact g _ u e (b.elim id λz=>by cases z) c
inductive sR(vs:ee V)(H:Hp)(Q:VK)(E:XK):Z3
 |m (ld:fy) (lkv:ee (Key×V)) (M:bD)(_:vs=[.ref ld,.bl Z1])(_:H ld=some (.dK lkv))(_:dX (vz H) lkv M)(_:lkv.length≤62)(_:∀(rd:fy)(rk:ee (Key×V))H',H' rd=some (.dK rk)->cO rk (λx=>Rch (lG M) Z1 x/\x≠-1)->rk.length≤64->H rd=Z0->ak H H'->Q (.ref rd) H')
inductive wu(vs:ee V)(H:Hp)(Q:VK)(E:XK):Z3
 |m (L:LAd) (v8 AL:ee (ee Z4)) (M:bD) (w:Z6)(_:vs=[.ref L.s,.str w])(_:LwC H L v8 AL M)(_:gb w)(_:∀v H',gB (gG M w) v->ak H H'->Q v H')
def HZ(today:Z4)(M:bD)(w:Z6)(xs:ee V):Z3:=(w≠"whole"/\¬gb w/\xs=[.str "word",.str w,.bl Z1,.bl Z2])∨(gb w/\∃v:V,(v=.non∨v=.int today)/\gB (gG M w) v/\xs=[.str "none",v,.int today,.bl Z1,.bl Z2])
inductive oK(CS C CW CG CD:fy)(vs:ee V)(H:Hp)(Q:VK)(E:XK):Z3
 |m (A:SAd) (wd:Z5) (v8 AL:ee (ee Z4)) (M:bD) (w:Z6)(_:vs=[.ref A.p,.str w])(_:StC CS CD C CW CG H A wd v8 AL M)(_:∀m u,M m=some u->u.d<v8.length)(_:A.n≤60)(_:M (A.n:Z4)=Z0)(_:∀f t a u H',Bo v8 AL M w u->H' f=some (.tup [.str "kept",.int (A.n:Z4)])->StC CS CD C CW CG H' (A.add t a) wd v8 AL (jQ M (A.n:Z4) (some u))->bg [A.nl,A.dl,A.x,A.d] H H'->Q (.ref f) H')(_:∀f xs H',HZ ((v8.length:Z4)-1) M w xs->H' f=some (.tup xs)->ak H H'->Q (.ref f) H')
def HH(v8 AL:ee (ee Z4))(st:Z4)(rows:ee (Z5×Z5)):Z3:=∃a:ee Z4,v8[v8.length-1]?=some a/\((st = -1/\rows=gW a)∨∃(b:Z5)(ns:ee Z4),st =↥b/\ns.Pairwise (· < ·)/\(∀k,k∈ns↔pX AL b ((v8.length-1:Z5):Z4) k)/\rows=cW ns a)
def uc(d:Z4):∀L:ee Z4,inV (.int d) (L.map Z8)=decide (d∈L)
 |[]=>rfl
 |x::r=>by
  let a:=uc d r;unfold inV at a ⊢;rw[Yn,Zc,a];show((x==d)||decide (d∈r))=decide (d∈x::r);by_cases h:x=d
  .subst h;simp
  .rw[abv.mpr h];simp[List.mem_cons,Ne.symm h]
def Wj(d:Z4)(a:ee Z4):(if Z2=Z1 then !inV (.int d) (a.map Z8) else inV (.int d) (a.map Z8))=decide (d∈a):=by rw[Xn o7,uc]
def Ut{K:Frag}{H:Hp}{c:ee fy}{o b:ee Z4}{t:fy}{i z:Z4}(R:bP H (c.map V.ref) (cW o b))(v:H t=some (.tup [.int i,.int z]))(C:t∉c)(h0:∀ k∈o,0≤k)(hi:0≤i)(s:0≤z)(y:b.getD i.toNat 0=z):∃bs:fy->Bool,(∀ a∈c,EqI K H 1 (.ref a) (.ref t) (bs a))/\c.any bs=decide (i∈o):=by
 let g:∀(j:Z5)a,c[j]?=some a->∃k,o[j]?=some k/\H a=some (.tup [.int ↥k.toNat,.int ((b.getD k.toNat 0).toNat:Z4)]):=λj a e=>by let⟨t',r,x,f,A⟩:=R.get j (.ref a) (by rw[Xo,e];rfl);cases x;unfold cW at f;rw[Xo] at f;let⟨k,L,rfl⟩:=XA.mp f;exact⟨k,L,A⟩
 exists λa=>@decide (H a=some (.tup [.int i,.int z]))<|Classical.propDecidable _,λa n=>?_
 .let⟨j,h⟩:=XM.mp n;let⟨k,_,e⟩:=g j a h;refine .inr {λz=>C (by cases z;exact n),?_};let:=cR.Tw (K:=K) (xs:=[↥k.toNat,((b.getD k.toNat 0).toNat:Z4)]) (ys:=[i,z]) (X3.of e)<|X3.of v;let u:@decide (H a=some (.tup [.int i,.int z])) (Classical.propDecidable _)=decide ([↥k.toNat,((b.getD k.toNat 0).toNat:Z4)]=[i,z]):=by rw[decide_eq_decide,e];simp
  show cR K H (EqI K H 0) (.ref a) (.ref t) (@decide (H a=some (.tup [.int i,.int z]))<|Classical.propDecidable _);rwa[u]
 .rw[ZE,Y5,decide_eq_true_eq];constructor
  .rintro⟨a,n,e⟩;let⟨j,h⟩:=XM.mp n;let⟨k,p,f⟩:=g j a h;let e:=@ZS _ (Classical.propDecidable _) e;rw[f] at e;let B:=h0 k<|Xl p;let:↥k.toNat=i:=⇑((List.cons.inj<|HO.tup.inj<|XQ e).1)
   rw[show i=k by omega];exact Xl p
  .intro p;let⟨j,h⟩:=XM.mp p;let F:=R.len;rw[Xj,lP] at F;let q:=(Xg.mp h).1;let m:j<c.length:=by omega
   let⟨k,l,f⟩:=g j c[j] (Xh m);rw[h] at l;cases l;refine{c[j],Yh m,@Xr _ (Classical.propDecidable _) ?_};rw[f,y,show((i.toNat:Z5):Z4)=i by omega,show((z.toNat:Z5):Z4)=z by omega]
def Fq{ns:ee Z4}(f:ns.Pairwise (· < ·))(i:Z4):ns.filter (λx=>decide (x<i+1))=ns.filter (λx=>decide (x<i)) ++(if i∈ns then [i] else []):=by
 refine vM (f.filter _) ?_ λx=>?_
 .refine List.pairwise_append.mpr {f.filter _,?_,λx g y b=>?_}
  .split <;> simp
  .split at b
   .let:=(YB.mp g).2;rw[Xx.mp b];simpa using this
   .cases b
 .rw[Xv,YB,YB];by_cases h:i∈ns
  .rw[Xm h,Xx];simp only[decide_eq_true_eq];constructor
   .rintro⟨a,c⟩;by_cases e:x=i
    .exact .inr e
    .exact .inl ⟨a,o6⟩
   .rintro(⟨a,c⟩|rfl)
    .exact⟨a,o6⟩
    .exact⟨h,o6⟩
  .rw[Xn h];simp only[decide_eq_true_eq,List.not_mem_nil,or_false];constructor
   .rintro⟨a,c⟩;exact{a,by let:x≠i:=λz=>h<|z ▸ a;omega}
   .rintro⟨a,c⟩;exact⟨a,o6⟩
def Kn{ns:ee Z4}{wd:Z5}(b:ns.Pairwise (· < ·))(a:∀ k∈ns,0≤k/\k <↥wd)(i:Z4):(ns.filter λx=>decide (x<i)).length≤wd:=Ye (Zl _ _)<|we b a
def Aq{K:Frag}{H:Hp}{r rt:fy}{L c:ee V}{rows:ee (Z5×Z5)}(h1:H r=some (.lst L))(h2:H rt=some (.lst c))(R:bP H L rows)(f:bP H c rows):cR K H (EqI K H 1) (.ref r) (.ref rt) Z1:=by
 refine{r,rt,L,c,λ_=>Z1,G,G,.inl {X0.of h1,X0.of h2,by rw[R.len,f.len],λj x y i h=>?_,o8}};let⟨t,q,rfl,m,l⟩:=R.get j x i;let⟨t',n,rfl,a,b⟩:=f.get j y h;rw[m] at a;cases a;by_cases e:t=t'
 .subst e;exact .inl<|Hh t
 .refine .inr {λz=>e<|V.ref.inj z,cR.HV (X3.of l) (X3.of b) λx g=>?_};simp only[List.mem_cons,List.not_mem_nil,or_false] at g;rcases g with rfl|rfl <;> exact CF _
inductive yw(vs:ee V)(H:Hp)(Q:VK)(E:XK):Z3
 |m (L:LAd) (wd:Z5) (v8 AL:ee (ee Z4)) (M:bD) (st:Z4) (rows:ee (Z5×Z5))(_:vs=[.ref L.s,.int st])(_:LwC H L v8 AL M)(_:HH v8 AL st rows)(_:nM wd AL)(_:∀ t∈v8,TabOk wd t)(_:AL.length=v8.length)(_:v8.length≤100)(_:∀l R H',H' l=some (.lst R)->bP H' R rows->ak H H'->Q (.ref l) H')
inductive rO(CS C CW CG CD:fy)(vs:ee V)(H:Hp)(Q:VK)(E:XK):Z3
 |m (A:SAd) (L:LAd) (wd:Z5) (v8 AL:ee (ee Z4)) (M M':bD) (m:Z4) (u:PcU)(_:vs=[.ref A.p,.ref L.s,.int m,.int u.st])(_:StC CS CD C CW CG H A wd v8 AL M)(_:LwC H L v8 AL M')(_:M m=some u)(_:u.d=v8.length-1)(_:u.good=Z1)(_:HH v8 AL u.st u.rows)(_:∀H',ak H H'->Q (.bl Z1) H')
structure PO(k:Z5)(u:PcU):Z3 where
 lt:u.d<k
 st:stN u.wh u.b<2 ^ 64
 fl:u.good=Z1->∀ m∈flat u.rows,m<2 ^ 64
structure gX(CS CD C CW CG:fy)(B H:Hp)(A:SAd)(L:LAd)(wd:Z5)(chss:ee (ee (Z4×Z4)))(M:bD):Z3 where
 a:StC CS CD C CW CG H A wd (bT wd chss) (g9 chss) M
 l:LwC H L (bT wd chss) (g9 chss) M
 dj:∀ b∈A.sm++A.ft,b∉L.sm ++(L.LT++L.LP)
 nn:L.n=A.n
 dom:∀m,(M m).isSome=Z1↔0≤m/\m <(A.n:Z4)
 po:∀m u,M m=some u->PO (bT wd chss).length u
 ok:∀ cs∈chss,nQ wd cs
 sb:ak B H
 fa:∀ b∈A.sm++A.ft,B b=Z0
 fb:∀ b∈L.sm ++(L.LT++L.LP),B b=Z0
def yI{N:Z5}:∀{rows:ee (Z5×Z5)},(∀ r∈rows,r.1<N/\r.2<N)->∀ m∈flat rows,m<N
 |[],_=>λm h=>by cases h
 |r::rs,h=>λm a=>by
  let a:m∈r.1::r.2::flat rs:=a;rcases XG.mp a with rfl|a
  .exact(h r o8).1
  .rcases XG.mp a with rfl|a
   .exact(h r o8).2
   .exact yI (λx b=>h x (by simp[b])) m a
def AQ{P:Z4->Z3}:∀{a:ee (Z4×Z4)}{t:ee Z4},(∀ v∈t,P v)->(∀ c∈a,P c.2)->∀ v∈nextT t a,P v
 |[],t,h,_=>h
 |c::r,t,h,hc=>by
  show ∀ v∈nextT (t.set c.1.toNat c.2) r,P v;refine AQ (λv f=>?_) λx b=>hc x (by simp[b])
  rcases aaH f with z|z
  .exact h v z
  .rw[z];exact hc c o8
def EL{P:Z4->Z3}:∀{a:ee (ee (Z4×Z4))}{ts:ee (ee Z4)},(∀ f∈a,∀ c∈f,P c.2)->(∀ t∈ts,∀ v∈t,P v)->∀ t∈lO ts a,∀ v∈t,P v
 |[],ts,_,h=>h
 |c::r,ts,hc,h=>by
  show ∀ t∈lO (ts++[nextT (kW ts) c]) r,∀ v∈t,P v;refine EL (λf g=>hc f (by simp[g])) λt i=>?_
  rcases Xv.mp i with z|z
  .exact h t z
  .rw[Xx.mp z];refine AQ (λv b=>?_)<|hc c o8;unfold kW at b;cases e:ts[ts.length-1]? with
   |none=>rw[e] at b;cases b
   |some t=>rw[e] at b;exact h t (Xl e) v b
def Ig{wd:Z5}{a:ee (ee (Z4×Z4))}{M:bD}{B:Z6}{u:PcU}(h:Bo (bT wd a) (g9 a) M B u)(l:∀ s∈a,nQ wd s)(A:wd≤40)(F:a.length≤90):PO (bT wd a).length u/\u.good=Z1/\u.d =(bT wd a).length-1/\HH (bT wd a) (g9 a) u.st u.rows:=by
 let S:=qv wd a;let o:∀ t∈bT wd a,∀ v∈t,v<2 ^ 64:=EL (λs q c C=>((l s q).2 c C).2.2.2) λt j v o=>by rw[Xx.mp j] at o;rw[(aav.mp o).2];decide
 rcases h with⟨_,tab,j,rfl⟩|⟨_,b,tab,ns,z,O,j,y,x,rfl⟩
 .let f:=tabs_ok l tab<|Xl j;refine{{by show _-1<_;omega,by show 0<2 ^ 64;decide,λ_=>yI λr m=>?_},by unfold PcU.good;simp,G,tab,j,.inl ⟨G,G⟩};let m:r∈gW tab:=m;let⟨i,hi⟩:=XM.mp m;let g:=(Xg.mp hi).1;rw[lD] at g;rw[vQ<|Xh g] at hi;cases hi;let h1:=o tab (Xl j) _<|Yh g;let h2:=f.1;let h3:=f.2 _<|Yh g;constructor
  .show i<2 ^ 64;omega
  .show(tab[i]).toNat<2 ^ 64;omega
 .let f:=tabs_ok l tab<|Xl j;refine{{by show _-1<_;omega,by show b+1<2 ^ 64;omega,λ_=>yI λr m=>?_},by unfold PcU.good;simp,G,tab,j,.inr {b,ns,by show((b+1:Z5):Z4)-1=_;omega,y,x,G}};let m:r∈cW ns tab:=m;unfold cW at m;let⟨k,H,rfl⟩:=XI.mp m;let L:=uf (Dd A l)<|(x k).mp H;let n:k.toNat<tab.length:=by rw[f.1];omega
  let p:tab.getD k.toNat 0=tab[k.toNat]:=by rw[Yy,Xh n];rfl
  let h1:=o tab (Xl j) _<|Yh n;let h3:=f.2 _<|Yh n;constructor
  .show k.toNat<2 ^ 64;omega
  .show(tab.getD k.toNat 0).toNat<2 ^ 64;rw[p];omega
def GJ{K:Frag}{H:Hp}{x:V}(h:gV x=Z1):EqI K H 0 x x Z1:=.inl {h,h,by cases x <;> simp_all[eqV,gV]}
def ug{K:Frag}{H:Hp}{a c:fy}{xs:ee V}(h1:H a=some (.tup xs))(h2:H c=some (.tup xs))(b:xs.all gV=Z1):cR K H (EqI K H 0) (.ref a) (.ref c) Z1:=cR.HV (X3.of h1) (X3.of h2) λx h=>GJ<|aaP.mp b x h
def TY{w:Z6}(h:w = "whole"∨gb w):inV (.str w) [.str "whole",.str "since",.str "last"]=Z1:=by rcases h with rfl|rfl|rfl <;> rfl
def UP{w:Z6}(h0:w≠"whole")(h:¬gb w):inV (.str w) [.str "whole",.str "since",.str "last"]=Z2:=by
 let h1:w≠"since":=λz=>h<|.inl z
 let h2:w≠"last":=λz=>h<|.inr z
 simp[inV,eqV,h0.symm,h1.symm,h2.symm]
def gX.same{CS CD C CW CG:fy}{B H H':Hp}{A:SAd}{L:LAd}{wd:Z5}{b:ee (ee (Z4×Z4))}{M:bD}(h:gX CS CD C CW CG B H A L wd b M)(s:ak H H'):gX CS CD C CW CG B H' A L wd b M:={h.a.same s,h.l.same s,h.dj,h.nn,h.dom,h.po,h.ok,h.sb.trans s,h.fa,h.fb}
section
variable{CS CD C CW CG:fy}{B H H':Hp}{A:SAd}{L:LAd}{wd:Z5}{v8 AL:ee (ee Z4)}{M:bD}{m d:fy}{tb xs:ee Z4}
def LwC.day(h:LwC H L v8 AL M)(k:bg [L.tl,L.pl] H H')(h1:H' L.tl=some (.lst ((L.LT++[m]).map V.ref)))(h2:H' L.pl=some (.lst ((L.LP++[d]).map V.ref)))(n:H' m=some (.lst (tb.map Z8)))(p:H' d=some (.lst (xs.map Z8)))(nm:H m=Z0)(q:H d=Z0):LwC H' {L with LT:=L.LT++[m],LP:=L.LP++[d]} (v8++[tb]) (AL++[xs]) M:=by
 let i:bE H [L.tl,L.pl]:=bE.ls h.tl<|bE.ls h.pl bE.nil;let j:=h.nd;simp only[LAd.sm,List.nodup_cons,List.mem_cons,not_or,List.not_mem_nil,not_false_eq_true,List.nodup_nil,and_true] at j;let f:∀ b∈[L.lsl,L.lg,L.ldn,L.s,L.ld],b∉[L.tl,L.pl]:=λb c l=>by simp only[List.mem_cons,List.not_mem_nil,or_false] at c l;grind
 let g:∀ b∈L.LT++L.LP,b∉[L.tl,L.pl]:=λb c z=>h.ap b c (by simp only[LAd.sm,List.mem_cons] at z ⊢;simp only[List.not_mem_nil,or_false] at z;grind)
 refine{k _ _ h.s_<|f L.s o8,h1,(h.lt.mono λa c o e=>k _ _ e<|g a (by simp[c])).snoc n,h2,(h.lp.mono λa c o e=>k _ _ e<|g a (by simp[c])).snoc p,k _ _ h.lg<|f L.lg o8,h.ln,k _ _ h.ls<|f L.lsl o8,k _ _ h.dn<|f L.ldn o8,k _ _ h.ld<|f L.ld o8,h.lr.mono λv u z=>z.c6 k i,h.lk,h.n61,h.nd,λb c hs=>?_};let⟨o,e⟩:=h.here b<|Xu _ hs;let z:b∈L.LT++L.LP∨b=m∨b=d:=by simp only[List.mem_append,List.mem_singleton] at c ⊢;grind
 rcases z with z|z|z
 .exact h.ap b z hs
 .rw[z,nm] at e;cases e
 .rw[z,q] at e;cases e
def StC.day(h:StC CS CD C CW CG H A wd v8 AL M)(j:bV CD H' A.q A.ta A.sa (A.TL++[m]) (A.SL++[d]) wd (v8++[tb]) (AL++[xs]))(k:bg A.ft H H')(nm:H m=Z0)(n:H d=Z0)(i:v8.length≤99)(l:nM wd (AL++[xs]))(g:∀ t∈v8++[tb],TabOk wd t):StC CS CD C CW CG H' {A with TL:=A.TL++[m],SL:=A.SL++[d]} wd (v8++[tb]) (AL++[xs]) M:=by
 let c:bE H A.ft:=bE.days h.D;let⟨dx,h1⟩:=h.st;refine{{dx,k _ _ h1<|h.ap A.p (by simp[SAd.sm])},k _ _ h.sl<|h.ap A.sl (by simp[SAd.sm]),j,k _ _ h.nl<|h.ap A.nl (by simp[SAd.sm]),k _ _ h.dl<|h.ap A.dl (by simp[SAd.sm]),h.sh.jl k (h.ap A.x (by simp[SAd.sm]))<|h.ap A.d (by simp[SAd.sm]),h.sy.jl k (h.ap A.y (by simp[SAd.sm]))<|h.ap A.dy (by simp[SAd.sm]),h.sz.jl k (h.ap A.z (by simp[SAd.sm]))<|h.ap A.dz (by simp[SAd.sm]),h.pr.mono λv u z=>cP.c6 z k c,h.nn,h.kn,h.n61,by simp;omega,l,g,h.nd,λb a f=>?_};let⟨o,e⟩:=h.here b<|Xu _ a;let z:b∈A.ft∨b=m∨b=d:=by simp only[SAd.ft,foot,List.mem_append,List.mem_singleton,List.mem_cons] at f ⊢;grind
 rcases z with z|z|z
 .exact h.ap b a z
 .rw[z,nm] at e;cases e
 .rw[z,n] at e;cases e
def PO.more{k:Z5}{u:PcU}(h:PO k u):PO (k+1) u:={Zj h.lt,h.st,h.fl}
end
inductive yh(CS CD C CW CG:fy)(vs:ee V)(H:Hp)(Q:VK)(E:XK):Z3
 |m (B:Hp) (A:SAd) (L:LAd) (wd:Z5) (chss:ee (ee (Z4×Z4))) (M:bD) (ca:fy) (CL:ee V) (A2:ee (Z4×Z4))(_:vs=[.ref A.p,.ref L.s,.ref ca])(_:gX CS CD C CW CG B H A L wd chss M)(_:H ca=some (.lst CL))(_:iu H CL A2)(_:nQ wd A2)(_:ca∉L.sm)(_:chss.length≤90)(_:∀(A':SAd)(L':LAd)H',A'.p=A.p->A'.n=A.n->L'.s=L.s->gX CS CD C CW CG B H' A' L' wd (chss++[A2]) M->Q (.bl Z1) H')
inductive vC(CS CD C CW CG:fy)(vs:ee V)(H:Hp)(Q:VK)(E:XK):Z3
 |m (B:Hp) (A:SAd) (L:LAd) (wd:Z5) (chss:ee (ee (Z4×Z4))) (M:bD) (w:Z6)(_:vs=[.ref A.p,.ref L.s,.str w])(_:gX CS CD C CW CG B H A L wd chss M)(_:A.n≤60)(_:chss.length≤90)(_:∀(A':SAd)(L':LAd)(M':bD)H',A'.p=A.p->A'.n≤A.n+1->L'.s=L.s->gX CS CD C CW CG B H' A' L' wd chss M'->Q (.bl Z1) H')
inductive qi(CS CD C CW CG:fy)(vs:ee V)(H:Hp)(Q:VK)(E:XK):Z3
 |m (B:Hp) (A:SAd) (L:LAd) (wd:Z5) (chss:ee (ee (Z4×Z4))) (M:bD) (m:Z4)(_:vs=[.ref A.p,.ref L.s,.int m])(_:gX CS CD C CW CG B H A L wd chss M)(_:0≤m)(_:m<2 ^ 40)(_:∀(A':SAd)(L':LAd)(M':bD)H',A'.p=A.p->A'.n=A.n->L'.s=L.s->gX CS CD C CW CG B H' A' L' wd chss M'->Q .non H')
inductive oU(vs:ee V)(H:Hp)(Q:VK)(E:XK):Z3
 |m (wd:Z4)(_:vs=[.int wd])(_:¬(1≤wd/\wd≤40))(_:∀H',ak H H'->Q (.bl Z1) H')
def CU{ds:ee Z6}{k:Z4}(h0:0≤k)(h1:k <↥ds.length):∃z,atI (ds.map V.str) k=some (V.str z):=by
 obtain⟨j,rfl⟩:∃j:Z5,k =↥j:=⟨k.toNat,o6⟩;let a:j<ds.length:=by omega
 exact{ds[j],dh (by rw[Xo,Xh a];rfl)}
def gX.nums{CS CD C CW CG:fy}{B H:Hp}{A:SAd}{L:LAd}{wd:Z5}{f:ee (ee (Z4×Z4))}{M:bD}(h:gX CS CD C CW CG B H A L wd f M){ns c:ee Z4}(e:A.kvs.map (·.1)=ns.map Sum.inl)(g:c.Perm ns)(hs:c.Pairwise (·≤·)):c =(List.range A.n).map λk:Nat=>↥k:=by
 let i:ns.Nodup:=by let:=h.a.pr.nd;rw[e] at this;exact(aaB.mp this).imp λa b=>a<|congrArg Sum.inl b
 refine vM ((hs.and<|g.nodup_iff.mpr i).imp λ⟨a,b⟩=>by omega) ?_ λx=>?_
 .rw[aaB];exact aa7.imp λh=>by omega
 .rw[g.mem_iff,h.a.pr.keys e x,h.dom x,XI];constructor
  .rintro⟨h0,h1⟩;exact{x.toNat,ZN.mpr o6,o6}
  .rintro⟨k,j,rfl⟩;let:=ZN.mp j;omega
inductive pO(K:Frag)(vs:ee V)(H:Hp)(Q:VK)(E:XK):Z3
 |m (a:fy) (ns:ee Z4)(_:vs=[.ref a])(_:X0 K H a (ns.map Z8))(_:ns.length≤63)(_:∀H',Q (.bl Z1) H')
instance:Inhabited World:=⟨{λ_ _=>0,{strHash:=λ_=>0,shareClass:=λ_=>0,mergeTok:=λ_=>0,idOf:=λ_=>0,idOfShared:=λ_ _=>0,followText:=λ_=>Z1,idOfImm:=λ_=>0}}⟩
structure Gc where (P:q8) (w:q9) (K:Frag) (mg:Z6->nt mu) (base:Heap) (t_W cG:Tok) (bL aP aX bu bJ bK aK bI bX aD aB cD ay aC i7 cK ao:fy) deriving Inhabited
inductive Hy(K:Frag)(mg:Z6->nt mu)(t_W cG:Tok)(bL aP aX bu bJ bK aK bI bX aD aB cD ay aC i7 cK ao:fy):Z3
 |m {h:Heap} (_:K.In h) (_:h.Ns mainGlobals mg) (_:nsIn K mainGlobals "W" = some (some (.int 18446744073709551615 t_W))) (_:nsIn K mainGlobals "MOST_BLOCKS" = some (some (.int 40 cG))) (_:GA K "KeepError" bL) (_:GA K "NoWord" aP) (_:GA K "NoTable" aX) (_:GA K "NoPlace" bu) (_:GA K "NoBlock" bJ) (_:GA K "NoDay" bK) (_:GA K "NoBase" aK) (_:GA K "NoPiece" bI) (_:GA K "NoShelf" bX) (_:GA K "Days" aD) (_:GA K "Shelf" aB) (_:GA K "Piece" cD) (_:GA K "Whole" ay) (_:GA K "Gain" aC) (_:GA K "Rule" i7) (_:GA K "AnyOf" cK) (_:GA K "Store" ao) (_:EC K bL) (_:EC K aP) (_:aF K aP "word") (_:EC K aX) (_:aF K aX "wide") (_:EC K bu) (_:aF K bu "place") (_:EC K bJ) (_:aF K bJ "block") (_:EC K bK) (_:aF K bK "day") (_:EC K aK) (_:aF K aK "base") (_:aF K aK "day") (_:EC K bI) (_:aF K bI "number") (_:EC K bX) (_:aF K bX "shelf") (_:PX K aD) (_:aF K aD "wide") (_:aF K aD "last") (_:aF K aD "tables") (_:aF K aD "set_places") (_:PX K aB) (_:aF K aB "pieces") (_:aF K aB "follows") (_:PX K ay) (_:aF K ay "day") (_:aF K ay "rows") (_:aF K ay "check") (_:aF K ay "fits") (_:PX K aC) (_:aF K aC "day") (_:aF K aC "rows") (_:aF K aC "check") (_:aF K aC "fits") (_:aF K aC "base") (_:PX K cK) (_:aF K cK "rules") (_:PX K ao) (_:aF K ao "days") (_:aF K ao "rule") (_:aF K ao "seek") (_:aF K ao "each") (_:aF K ao "shelves") (_:aF K ao "noted") (_:aF K ao "done") (_:aF K ao "seals") (_:MF K aP "__init__" "NoWord.__init__" iV) (_:MF K aX "__init__" "NoTable.__init__" ie) (_:MF K bu "__init__" "NoPlace.__init__" iB) (_:MF K bJ "__init__" "NoBlock.__init__" gZ) (_:MF K bK "__init__" "NoDay.__init__" jC) (_:MF K aK "__init__" "NoBase.__init__" iS) (_:MF K bI "__init__" "NoPiece.__init__" iD) (_:MF K bX "__init__" "NoShelf.__init__" gY) (_:MF K aD "__init__" "Days.__init__" jS) (_:MF K aD "passes" "Days.passes" lV) (_:MF K aD "table" "Days.table" nX) (_:MF K aD "written" "Days.written" kG) (_:MF K aD "ask_change" "Days.ask_change" iZ) (_:MF K aD "ask_day" "Days.ask_day" kI) (_:GF K "ask_wide" qt) (_:MF K aB "__init__" "Shelf.__init__" jv) (_:MF K aB "put" "Shelf.put" pD) (_:MF K aB "lay" "Shelf.lay" oZ) (_:MF K aB "piece" "Shelf.piece" mz) (_:MF K aB "drop" "Shelf.drop" nv) (_:MF K aB "numbers" "Shelf.numbers" jK) (_:MF K aB "following" "Shelf.following" iW) (_:MF K aB "last_whole" "Shelf.last_whole" ir) {f23:fy} {od23 an23:nt fy} {sl23:qq (nt mu)} {oc23 kV23 dc23 pm23 cd23 ct23:mu} (_:GA K "reached" f23) {td23:fy} {yc23:mu} {yd23:nt fy} {yn23:Z5} {yl23:qq (nt mu)} (_:K.lookup f23=some {oc23,od23,.func (fnOf "reached" "reached" (dR jD) (cV jD) (az jD) (.ref td23) kV23 dc23 pm23 an23 cd23 ct23),sl23}) (_:codeIn K cd23 "reached" = Z1) (_:keepIn K (.ref f23)=Z1) (_:K.lookup td23=some {yc23,yd23,.seq #[.bool Z2] yn23,yl23}) (_:GF K "last_pieces" lX) (_:GF K "numbers_by_start" iE) (_:GF K "turned" vZ) (_:GF K "check_of" qu) {f28:fy} (_:FA K cD "__init__" f28) (_:MV K "__init__" "Piece.__init__" jq f28) {f29:fy} (_:FA K cD "size" f29) (_:MV K "size" "Piece.size" nE f29) {f30:fy} (_:FA K cD "is_good" f30) (_:MV K "is_good" "Piece.is_good" ki f30) {f31:fy} (_:FA K cD "harmed" f31) (_:MV K "harmed" "Piece.harmed" kM f31) {f32:fy} {od32 an32:nt fy} {sl32:qq (nt mu)} {oc32 kV32 dc32 pm32 cd32 ct32:mu} (_:FA K ay "__init__" f32) (_:isFn K (.ref f32)=Z1) {td32:fy} {yc32:mu} {yd32:nt fy} {yn32:Z5} {yl32:qq (nt mu)} (_:K.lookup f32=some {oc32,od32,.func (fnOf "__init__" "Whole.__init__" (dR dF) (cV dF) (az dF) (.ref td32) kV32 dc32 pm32 an32 cd32 ct32),sl32}) (_:codeIn K cd32 "Whole.__init__" = Z1) (_:keepIn K (.ref f32)=Z1) (_:K.lookup td32=some {yc32,yd32,.seq #[.none] yn32,yl32}) (_:MF K ay "start" "Whole.start" mD) (_:MF K ay "kind" "Whole.kind" nK) (_:MF K ay "with_rows" "Whole.with_rows" iU) {f36:fy} {od36 an36:nt fy} {sl36:qq (nt mu)} {oc36 kV36 dc36 pm36 cd36 ct36:mu} (_:FA K aC "__init__" f36) (_:isFn K (.ref f36)=Z1) {td36:fy} {yc36:mu} {yd36:nt fy} {yn36:Z5} {yl36:qq (nt mu)} (_:K.lookup f36=some {oc36,od36,.func (fnOf "__init__" "Gain.__init__" (dR dO) (cV dO) (az dO) (.ref td36) kV36 dc36 pm36 an36 cd36 ct36),sl36}) (_:codeIn K cd36 "Gain.__init__" = Z1) (_:keepIn K (.ref f36)=Z1) (_:K.lookup td36=some {yc36,yd36,.seq #[.none] yn36,yl36}) (_:MF K aC "start" "Gain.start" nc) (_:MF K aC "kind" "Gain.kind" pM) (_:MF K aC "with_rows" "Gain.with_rows" jz) (_:GF K "whole_of" qL) (_:GF K "gain_of" rQ) (_:MF K cK "__init__" "AnyOf.__init__" jx) (_:MF K ao "__init__" "Store.__init__" jt) (_:MF K ao "passes" "Store.passes" kQ) (_:MF K ao "today" "Store.today" mF) (_:MF K ao "keep" "Store.keep" nB) (_:MF K ao "carry" "Store.carry" lW) (_:MF K ao "deeds" "Store.deeds" mC) (_:MF K ao "marks" "Store.marks" lT) (_:MF K ao "numbers" "Store.numbers" j3) (_:MF K ao "piece" "Store.piece" lU) (_:MF K ao "harm" "Store.harm" nu) (_:MF K ao "reach" "Store.reach" lZ) (_:MF K ao "ask_shelf" "Store.ask_shelf" iT) (_:MF K ao "new_piece" "Store.new_piece" iX) (_:MF K ao "base_for" "Store.base_for" ju) (_:MF K ao "note" "Store.note" nh) (_:GF K "do_deed" tM) (_:GF K "_law_cell_at" kE) (_:GF K "_law_whole" ni) (_:GF K "_law_mix" qB) (_:GF K "_law_changes" kJ) (_:GF K "_law_begin" nY) (_:GF K "_law_day" qH) (_:GF K "_law_work" oY) (_:GF K "_law_carried" ku) (_:GF K "_law_note" pA) (_:GF K "_law_put" qJ) (_:GF K "_law_reach" nj) (_:GF K "_law_base" pN) (_:GF K "_law_asked" nq) (_:GF K "_law_due_rows" jW) (_:GF K "_law_piece" nO) (_:GF K "_law_kept" oV) (_:GF K "_law_harmed" lY) (_:GF K "_law_no_table" j9) (_:FA K ay "is_good" f30) (_:FA K aC "is_good" f30) (_:FA K ay "size" f29) (_:FA K aC "size" f29) (_:FA K ay "harmed" f31) (_:FA K aC "harmed" f31) (_:specialIn K (.ref cD) "__getattribute__" = some (some (.builtin "type.__getattribute__"))) (_:readsIn K cD (.type "type")=Z1) (_:findCls K (.ref cD) (.type "type") "__init__" = some (.val (.ref f28))) (_:GN K "len") (_:GN K "isinstance") (_:GN K "int") (_:GN K "bool") (_:GN K "list") (_:GN K "tuple") (_:GN K "range") (_:GN K "max") (_:GN K "min") (_:GN K "sorted") (_:GN K "set") (_:GN K "enumerate") (_:GN K "ValueError") (_:mroIn K aK (.ref aK)=some Z1) (_:mroIn K aP (.ref aK)=some Z2) (_:mroIn K aP (.ref aP)=some Z1) (_:mroIn K aX (.ref aX)=some Z1) (_:kitOne K (.ref aK) (.ref bL)=some Z1) (_:kitOne K (.ref aK) (.ref aP)=some Z2) (_:kitOne K (.ref aP) (.ref bL)=some Z1) (_:kitOne K (.ref aP) (.ref aK)=some Z2)
def Go(c:Gc):Z3:=Hy c.K c.mg c.t_W c.cG c.bL c.aP c.aX c.bu c.bJ c.bK c.aK c.bI c.bX c.aD c.aB c.cD c.ay c.aC c.i7 c.cK c.ao->∀{f fd},Fun c.K "law" "law" kY f fd->aI c.P c.w c.K c.mg c.base (CXx c.P c.w) 13 f fd ["_law_script"] (pO c.K)
noncomputable def g0:Gc:=Classical.epsilon λc=>¬Go c
noncomputable def P:q8:=g0.P
noncomputable def w:q9:=g0.w
noncomputable def K:Frag:=g0.K
noncomputable def mg:Z6->nt mu:=g0.mg
noncomputable def base:Heap:=g0.base
noncomputable def t_W:Tok:=g0.t_W
noncomputable def cG:Tok:=g0.cG
noncomputable def bL:fy:=g0.bL
noncomputable def aP:fy:=g0.aP
noncomputable def aX:fy:=g0.aX
noncomputable def bu:fy:=g0.bu
noncomputable def bJ:fy:=g0.bJ
noncomputable def bK:fy:=g0.bK
noncomputable def aK:fy:=g0.aK
noncomputable def bI:fy:=g0.bI
noncomputable def bX:fy:=g0.bX
noncomputable def aD:fy:=g0.aD
noncomputable def aB:fy:=g0.aB
noncomputable def cD:fy:=g0.cD
noncomputable def ay:fy:=g0.ay
noncomputable def aC:fy:=g0.aC
noncomputable def i7:fy:=g0.i7
noncomputable def cK:fy:=g0.cK
noncomputable def ao:fy:=g0.ao
abbrev cE:=@DefX P w K mg base
abbrev bB:=@wN P w K mg base
abbrev lI:=@Ad P w K mg base
abbrev ua:=@EW P w K mg base
abbrev oB:=@Gz P w K mg base
abbrev HU:=@Oo P w K mg base
structure Txt:Z3 where
 m_W:mg "W" = some (.int 18446744073709551615 t_W)
 z9:mg "MOST_BLOCKS" = some (.int 40 cG)
 tV:mg "KeepError" = some (.ref bL)
 Tq:cA K bL
 zx:mg "NoWord" = some (.ref aP)
 kL:cA K aP
 jn:aF K aP "word"
 DP:mg "NoTable" = some (.ref aX)
 lN:cA K aX
 iK:aF K aX "wide"
 UT:mg "NoPlace" = some (.ref bu)
 ia:cA K bu
 kq:aF K bu "place"
 Ue:mg "NoBlock" = some (.ref bJ)
 rR:cA K bJ
 jJ:aF K bJ "block"
 WI:mg "NoDay" = some (.ref bK)
 xN:cA K bK
 oW:aF K bK "day"
 yR:mg "NoBase" = some (.ref aK)
 gA:cA K aK
 jh:aF K aK "base"
 jI:aF K aK "day"
 UI:mg "NoPiece" = some (.ref bI)
 zB:cA K bI
 jA:aF K bI "number"
 Ul:mg "NoShelf" = some (.ref bX)
 FG:cA K bX
 jN:aF K bX "shelf"
 Xa:mg "Days" = some (.ref aD)
 cg:Cls K aD
 kT:aF K aD "wide"
 dG:aF K aD "last"
 fB:aF K aD "tables"
 dZ:aF K aD "set_places"
 VY:mg "Shelf" = some (.ref aB)
 bO:Cls K aB
 cL:aF K aB "pieces"
 c9:aF K aB "follows"
 Ba:mg "Piece" = some (.ref cD)
 U1:mg "Whole" = some (.ref ay)
 bZ:Cls K ay
 fT:aF K ay "day"
 eY:aF K ay "rows"
 jj:aF K ay "check"
 kj:aF K ay "fits"
 W9:mg "Gain" = some (.ref aC)
 cu:Cls K aC
 iJ:aF K aC "day"
 fR:aF K aC "rows"
 jT:aF K aC "check"
 kX:aF K aC "fits"
 ja:aF K aC "base"
 Xb:mg "Rule" = some (.ref i7)
 VB:mg "AnyOf" = some (.ref cK)
 GH:Cls K cK
 mH:aF K cK "rules"
 VW:mg "Store" = some (.ref ao)
 aH:Cls K ao
 eX:aF K ao "days"
 n9:aF K ao "rule"
 ng:aF K ao "seek"
 nP:aF K ao "each"
 bY:aF K ao "shelves"
 fz:aF K ao "noted"
 gk:aF K ao "done"
 mh:aF K ao "seals"
 fE:mg "len" = Z0
 gj:mg "isinstance" = Z0
 HY:mg "int" = Z0
 JC:mg "bool" = Z0
 j6:mg "list" = Z0
 xY:mg "tuple" = Z0
 m8:mg "range" = Z0
 wX:mg "max" = Z0
 HW:mg "min" = Z0
 qA:mg "sorted" = Z0
 Ug:mg "set" = Z0
 BY:mg "enumerate" = Z0
 Oa:mg "ValueError" = Z0
 mbb:mroIn K aK (.ref aK)=some Z1
 mwb:mroIn K aP (.ref aK)=some Z2
 mww:mroIn K aP (.ref aP)=some Z1
 mtt:mroIn K aX (.ref aX)=some Z1
 kbk:kitOne K (.ref aK) (.ref bL)=some Z1
 kbo:kitOne K (.ref aK) (.ref aP)=some Z2
 kwk:kitOne K (.ref aP) (.ref bL)=some Z1
 kwo:kitOne K (.ref aP) (.ref aK)=some Z2
section
variable{f:fy}{fd:pW}
variable(T:Txt)
include T in
theorem sN(F:Fun K "__init__" "NoWord.__init__" iV f fd):⋯ 1 f fd ["self","word"] (fZ aP "word"):=by
 refine F.okX tZ (λvs H Q E h=>?_) λg A outer s H vs Q E i h=>?_
 .let⟨p,c,rfl,b,q⟩:=h;rfl
 .let⟨p,c,rfl,b,q⟩:=h;exists _,(av<|ig (pv 0) (pv 1) G);exact{_,G,_,G,p,aP,Z1,G,b,T.kL,T.jn,λdx a=>q dx a}
include T in
theorem qX(F:Fun K "__init__" "NoTable.__init__" ie f fd):⋯ 1 f fd ["self","wide"] (fZ aX "wide"):=by
 refine F.okX rB (λvs H Q E h=>?_) λg A outer s H vs Q E i h=>?_
 .let⟨p,c,rfl,b,q⟩:=h;rfl
 .let⟨p,c,rfl,b,q⟩:=h;exists _,(av<|ig (pv 0) (pv 1) G);exact{_,G,_,G,p,aX,Z1,G,b,T.lN,T.iK,λdx a=>q dx a}
include T in
theorem qY(F:Fun K "__init__" "NoPlace.__init__" iB f fd):⋯ 1 f fd ["self","place"] (fZ bu "place"):=by
 refine F.okX rF (λvs H Q E h=>?_) λg A outer s H vs Q E i h=>?_
 .let⟨p,c,rfl,b,q⟩:=h;rfl
 .let⟨p,c,rfl,b,q⟩:=h;exists _,(av<|ig (pv 0) (pv 1) G);exact{_,G,_,G,p,bu,Z1,G,b,T.ia,T.kq,λdx a=>q dx a}
include T in
theorem qW(F:Fun K "__init__" "NoBlock.__init__" gZ f fd):⋯ 1 f fd ["self","block"] (fZ bJ "block"):=by
 refine F.okX rj (λvs H Q E h=>?_) λg A outer s H vs Q E i h=>?_
 .let⟨p,c,rfl,b,q⟩:=h;rfl
 .let⟨p,c,rfl,b,q⟩:=h;exists _,(av<|ig (pv 0) (pv 1) G);exact{_,G,_,G,p,bJ,Z1,G,b,T.rR,T.jJ,λdx a=>q dx a}
include T in
theorem uM(F:Fun K "__init__" "NoDay.__init__" jC f fd):⋯ 1 f fd ["self","day"] (fZ bK "day"):=by
 refine F.okX uN (λvs H Q E h=>?_) λg A outer s H vs Q E i h=>?_
 .let⟨p,c,rfl,b,q⟩:=h;rfl
 .let⟨p,c,rfl,b,q⟩:=h;exists _,(av<|ig (pv 0) (pv 1) G);exact{_,G,_,G,p,bK,Z1,G,b,T.xN,T.oW,λdx a=>q dx a}
include T in
theorem rN(F:Fun K "__init__" "NoBase.__init__" iS f fd):⋯ 1 f fd ["self","base","day"] (Af aK "base" "day"):=by
 refine F.okX sV (λvs H Q E h=>?_) λi A outer s H vs Q E j h=>?_
 .let⟨p,c,g,rfl,b,q⟩:=h;rfl
 .let⟨p,c,g,rfl,b,q⟩:=h;refine⟨_,(au (ig (pv 0) (pv 1) G)
   (av<|GK (pv 0) (pv 2) G)),?_⟩
  refine{_,G,_,G,p,aK,Z1,G,b,T.gA,T.jh,λdx a=>?_};exists _,G,_,G,p,aK,Z1,dx,_,G,af,by rw[ah (aq b a).symm,af],T.gA,T.jI,(by show 1<1000;decide);exact Im (aq b a) o4<|q dx a
include T in
theorem rE(F:Fun K "__init__" "NoPiece.__init__" iD f fd):⋯ 1 f fd ["self","number"] (fZ bI "number"):=by
 refine F.okX rA (λvs H Q E h=>?_) λg A outer s H vs Q E i h=>?_
 .let⟨p,c,rfl,b,q⟩:=h;rfl
 .let⟨p,c,rfl,b,q⟩:=h;exists _,(av<|ig (pv 0) (pv 1) G);exact{_,G,_,G,p,bI,Z1,G,b,T.zB,T.jA,λdx a=>q dx a}
include T in
theorem rC(F:Fun K "__init__" "NoShelf.__init__" gY f fd):⋯ 1 f fd ["self","shelf"] (fZ bX "shelf"):=by
 refine F.okX rm (λvs H Q E h=>?_) λg A outer s H vs Q E i h=>?_
 .let⟨p,c,rfl,b,q⟩:=h;rfl
 .let⟨p,c,rfl,b,q⟩:=h;exists _,(av<|ig (pv 0) (pv 1) G);exact{_,G,_,G,p,bX,Z1,G,b,T.FG,T.jN,λdx a=>q dx a}
include T in
theorem Gf(F:Fun K "turned" "turned" vZ f fd):⋯ 1 f fd ["number"] (tU):=by refine F.okY Ft ?_;rintro vs H Q E ⟨n,rfl,q⟩;refine{G,λa A outer s b=>{_,(av<|aM<|aV cZ (aV dM (aV p8 (pv 0) aA)<|aV cZ (iQ (v:=.int 18446744073709551615) G T.m_W {_,G}) aA)<|aV fj (pv 0)<|yJ (n:=144115188075855872)),?_}};exists _,G,_,_,G,G,.inr ⟨o5,o5⟩,_,_,G,G,_,_,G,G,o5,_,G,_,_,G,G,⟨o5,o5⟩,_,_,G,G;exact q
variable(qj:cE "turned" 1 ["number"] tU)
include T qj in
theorem BX(F:Fun K "check_of" "check_of" qu f fd):⋯ 2 f fd ["start","day","rows"] (vL):=by
 refine F.okY fS ?_;rintro vs H Q E ⟨s1,d,a,L,rows,rfl,p,R,a0,q⟩;refine⟨G,λa1 A outer s hr=>⟨_,(au (psS 3 fS.nd<|bQ<|aa (aV cZ (pv 0) aA)<|aa (pv 1) aj)
   (au (eE XF G (HS (dP<|pv 2)<|EH<|pv 2) (pR G<|cS (pgN 4 fS.nd)<|cS (pgN 5 fS.nd) kN)
   (av<|aY<|jc XJ aaS aaT yX (pv 3)<|aa (bQ<|aa (pv 4)<|aa (pv 5) aj) aj))
   (au (psS 6 fS.nd aA)
   (au (eE XF G (dP<|pv 3) (pgN 7 fS.nd)
   (av<|psS 6 fS.nd<|aV ET (pcS qj aG hr<|aa (pv 6) aj)<|pv 7))
   (av<|aM<|pv 6))))),?_⟩⟩
 dsimp only[aW];refine{_,G,_,_,G,G,_,G,t9,λm O=>?_};let S:a≠m:=p.elim (λh=>aq h O) λh=>aq h O;rcases p with p|p
 .refine .inl ⟨_,G,a,G,{_,X0.of (by rwa[ah S])},eG (K:=K) (a:=a) (xs:=L) (λi σ H2=>∃n j:nt V,σ=[t6<|↥s1-1,t6 ↥d,r4 a,r4 m,n,j,Z0,Z0]/\ak H H2∧
   H2 m=some (.lst ((s1::d::flat (rows.take i)).map λz:Nat=>V.int ↥z)))
  {Z0,Z0,G,ak.new O,by rw[af];show some (HO.lst [V.int<|↥s1-1+1,V.int ↥d])=_;rw[abP];rfl} (λi σ H2 _ y=>by let⟨_,_,_,s2,_⟩:=y;exact X0.of<|s2 a _ p) ?_ ?_⟩
  .rintro i v σ H2 hi ⟨n,j,rfl,s2,h2⟩;let⟨t,r,rfl,c,ht⟩:=R.get i v hi;let Y:i<rows.length:=(Xg.mp c).1;exists t,_,G,X3.of<|s2 t _ ht,G,_,_,G,_,_,G,G;refine{_,G,.inl {G,_,X0.of h2},_,G,_,G,t9,λl U=>?_};let B:m≠l:=aq h2 U;let C:H l=Z0:=s2.free U;exists m,l,_,_,G,G,(by rwa[ah B]),af,?_
   .let e1:(flat<|rows.take i).length=2*i:=by rw[Bb,YC];omega
    show _≤Z7;simp only[List.length_map,List.length_cons,e1,List.length_nil];exact Yk<|aN o6
   .exists _,_,G,λb o e=>?_
    .rw[ah<|aq e O,ah<|aq e C];exact s2 b o e
    .rw[af];let e:rows.take (i+1)=rows.take i++[r]:=by rw[XT,c];rfl
     rw[e,yQ];simp
  .rintro σ H2 ⟨n,j,rfl,s2,h2⟩;let h2:H2 m=some (.lst ((s1::d::flat rows).map λz:Nat=>V.int ↥z)):=by rw[h2,R.len,Yi]
   refine⟨_,G,m,G,{_,X0.of h2},eG (K:=K) (a:=m) (xs:=(s1::d::flat rows).map λz:Nat=>V.int ↥z) (λi σ g=>∃x:nt V,σ=[t6<|↥s1-1,t6 ↥d,r4 a,r4 m,n,j,some<|.int ((((s1::d::flat rows).take i).foldl Chk.stp 0:Z5):Z4),x]/\g=H2)
    ⟨Z0,G,G⟩ (λi σ g _ y=>by let⟨_,_,e⟩:=y;exact by rw[e];exact X0.of h2) ?_ ?_⟩
   .rintro i v σ g hi ⟨x,rfl,rfl⟩;rw[Xo] at hi;cases u:(s1::d::flat rows)[i]? with
    |none=>rw[u] at hi;cases hi
    |some z=>
     rw[u] at hi;let hi:V.int ↥z=v:=XQ hi;subst hi;exists _,G,_,G,_,G,_,_,G,G;let e:Builtin.bitXor (tI ((((s1::d::flat rows).take i).foldl Chk.stp 0:Z5):Z4)) ↥z =((((s1::d::flat rows).take (i+1)).foldl Chk.stp 0:Z5):Z4):=by rw[EX,uE,XT,u];simp only[Option.toList,List.foldl_append,List.foldl_cons,List.foldl_nil];rfl
     exact{some<|V.int ↥z,by rw[←e];rfl,G}
   .rintro σ g ⟨x,rfl,rfl⟩;exists _,G;rw[Xj,Yi];exact q g s2
 .refine .inr ⟨_,G,a,G,{_,X3.of (by rwa[ah S])},II (K:=K) (a:=a) (xs:=L) (λi σ H2=>∃n j:nt V,σ=[t6<|↥s1-1,t6 ↥d,r4 a,r4 m,n,j,Z0,Z0]/\ak H H2∧
   H2 m=some (.lst ((s1::d::flat (rows.take i)).map λz:Nat=>V.int ↥z)))
  {Z0,Z0,G,ak.new O,by rw[af];show some (HO.lst [V.int<|↥s1-1+1,V.int ↥d])=_;rw[abP];rfl} (λi σ H2 _ y=>by let⟨_,_,_,s2,_⟩:=y;exact X3.of<|s2 a _ p) ?_ ?_⟩
  .rintro i v σ H2 hi ⟨n,j,rfl,s2,h2⟩;let⟨t,r,rfl,c,ht⟩:=R.get i v hi;let Y:i<rows.length:=(Xg.mp c).1;exists t,_,G,X3.of<|s2 t _ ht,G,_,_,G,_,_,G,G;refine{_,G,.inl {G,_,X0.of h2},_,G,_,G,t9,λl U=>?_};let B:m≠l:=aq h2 U;let C:H l=Z0:=s2.free U;exists m,l,_,_,G,G,(by rwa[ah B]),af,?_
   .let e1:(flat<|rows.take i).length=2*i:=by rw[Bb,YC];omega
    show _≤Z7;simp only[List.length_map,List.length_cons,e1,List.length_nil];exact Yk<|aN o6
   .exists _,_,G,λb o e=>?_
    .rw[ah<|aq e O,ah<|aq e C];exact s2 b o e
    .rw[af];let e:rows.take (i+1)=rows.take i++[r]:=by rw[XT,c];rfl
     rw[e,yQ];simp
  .rintro σ H2 ⟨n,j,rfl,s2,h2⟩;let h2:H2 m=some (.lst ((s1::d::flat rows).map λz:Nat=>V.int ↥z)):=by rw[h2,R.len,Yi]
   refine⟨_,G,m,G,{_,X0.of h2},eG (K:=K) (a:=m) (xs:=(s1::d::flat rows).map λz:Nat=>V.int ↥z) (λi σ g=>∃x:nt V,σ=[t6<|↥s1-1,t6 ↥d,r4 a,r4 m,n,j,some<|.int ((((s1::d::flat rows).take i).foldl Chk.stp 0:Z5):Z4),x]/\g=H2)
    ⟨Z0,G,G⟩ (λi σ g _ y=>by let⟨_,_,e⟩:=y;exact by rw[e];exact X0.of h2) ?_ ?_⟩
   .rintro i v σ g hi ⟨x,rfl,rfl⟩;rw[Xo] at hi;cases u:(s1::d::flat rows)[i]? with
    |none=>rw[u] at hi;cases hi
    |some z=>
     rw[u] at hi;let hi:V.int ↥z=v:=XQ hi;subst hi;exists _,G,_,G,_,G,_,_,G,G;let e:Builtin.bitXor (tI ((((s1::d::flat rows).take i).foldl Chk.stp 0:Z5):Z4)) ↥z =((((s1::d::flat rows).take (i+1)).foldl Chk.stp 0:Z5):Z4):=by rw[EX,uE,XT,u];simp only[Option.toList,List.foldl_append,List.foldl_cons,List.foldl_nil];rfl
     exact{some<|V.int ↥z,by rw[←e];rfl,G}
   .rintro σ g ⟨x,rfl,rfl⟩;exists _,G;rw[Xj,Yi];exact q g s2
variable(mS:cE "check_of" 2 ["start","day","rows"] vL)
include T mS in
theorem uR(F:Fun K "__init__" "Piece.__init__" jq f fd):⋯ 3 f fd ["self","start","day","rows","check"] (qI K):=by
 refine F.okY mK ?_;rintro vs H Q E ⟨p,C,dx,a,s1,d,L,rows,cv,c,rfl,hp,cl,n1,n2,n3,n4,hA,R,a0,a4,q⟩;refine⟨G,λa6 A outer s hr=>⟨_,(au (cM (pv 0) (pv 2) G)
   (au (cM (pv 0) (dI mq o9 T.xY ZO<|aa (pY (N:=["place","block"]) (k:=2) (cap:=[]) G G (HS (dP<|pv 3)<|EH<|pv 3) (λ_ _ _ _=>(Dv (K:=K) (n:=2) G G<|cS (pgN 0 (show(["place","block"]:ee Z6).Nodup from by decide +kernel)<|.inr G)<|cS (pgN 1 (show(["place","block"]:ee Z6).Nodup from by decide +kernel)<|.inr G) kN)) (λ_ _ _ _=>pQ) λ_ _ _ _=>(dc<|aa (pv 0)<|aa (pv 1) aj)) aj) G)
   (au (psS 5 mK.nd<|pcS mS aG hr<|aa (pv 1)<|aa (pv 2)<|aa (aT (pv 0) G) aj)
   (au (cM (pv 0) (HA (aQ Bl (pv 4) lF<|aR _) (pv 5)<|pv 4) G)
   (av<|cM (pv 0) (gP fC (aT (pv 0) G) (pv 5)<|aR _) G))))),?_⟩⟩
 dsimp only[aW];let a5:a≠p:=by rcases hA with h|h <;> exact br h hp nofun
 exists _,G,_,G,p,C,dx,_,G,hp,cl,n1,(by show 0<1000;decide);let a2:Z9 H p (.ins C dx (bC "day" (V.int ↥d) [])) p=some (.ins C dx [("day",V.int ↥d)]):=af;let k1:bg [p] H (Z9 H p (.ins C dx (bC "day" (V.int ↥d) []))):=fY bg.refl<|.inl o8;generalize Z9 H p (.ins C dx (bC "day" (V.int ↥d) []))=H1 at a2 k1;let m:H1 a=some (.lst L)∨H1 a=some (.tup L):=hA.imp (λh=>k1 a _ h (⇑a5)) λh=>k1 a _ h (⇑a5);let R1:bP H1 L rows:=R.mono λt xs e=>k1 t _ e (by let:=br e hp nofun;simpa using this)
 rcases m with m|m
 .refine .inl {_,G,a,G,{_,X0.of m},λD hD=>?_};refine oO D (K:=K) (a:=a) (xs:=L) (λi σ g ys=>∃v v':nt V,σ=[v,v']/\ak H1 g/\g D=some (.lst ys)/\bP g ys (rows.take i)) {Z0,Z0,G,ak.new hD,af,{G,λi v e=>by simp at e}} (λi σ g ys _ z0=>by let⟨_,_,_,s5,_⟩:=z0;exact X0.of<|s5 a _ m) ?_ ?_
  .rintro i x σ g ys hi ⟨v,v',rfl,s5,S,R5⟩;let⟨t,r,rfl,a1,ht⟩:=R1.get i x hi;refine{t,_,G,X3.of<|s5 t _ ht,G,_,_,G,_,_,G,G,_,G,_,G,t9,λt2 B=>?_};let nD:D≠t2:=aq S B;exists by rwa[ah nD],(by rw[R5.len,YC];exact aN o6),_,_,G,λb o e=>?_,af
   .rw[ah<|aq e hD];exact ak.new B b _<|s5 b _ e
   .rw[XT,a1];refine(R5.mono λb xs e=>?_).snoc ?_
    .rw[ah<|br e S nofun];exact ak.new B b _ e
    .rw[ah nD.symm,af]
  .rintro σ g ys ⟨v,v',rfl,s5,S,R5⟩;rw[show rows.take L.length=rows by rw[R1.len,Yi]] at R5;refine{D,_,G,.inl {X0.of S,λr hr=>?_}};let y:=s5 p _ a2;let Y:p≠r:=aq y hr;exists _,G,p,C,dx,_,G,ak.new hr p _ y,cl,n2,(by show 1<1000;decide);rw[A6];let j:Z9 (Z9 g r (.tup ys)) p (.ins C dx [("day",V.int ↥d),("rows",V.ref r)]) p=some (.ins C dx [("day",V.int ↥d),("rows",V.ref r)]):=af;let u:Z9 (Z9 g r (.tup ys)) p (.ins C dx [("day",V.int ↥d),("rows",V.ref r)]) r=some (.tup ys):=by rw[ah Y.symm,af]
   let k6:bg [p] g (Z9 (Z9 g r (.tup ys)) p (.ins C dx [("day",V.int ↥d),("rows",V.ref r)])):=fY (bg.of_same<|ak.new hr)<|.inl o8;let R6:bP (Z9 (Z9 g r (.tup ys)) p (.ins C dx [("day",V.int ↥d),("rows",V.ref r)])) ys rows:=R5.mono λt xs e=>k6 t _ e (by let:=br e y nofun;simpa using this)
   generalize Z9 (Z9 g r (.tup ys)) p (.ins C dx [("day",V.int ↥d),("rows",V.ref r)])=H6 at j u k6 R6;let a3:bg [p] H H6:=λb o e hb=>k6 b o (s5 b o<|k1 b o e hb) hb
   let U:r≠p:=Y.symm;refine{_,G,_,G,_,G,p,C,dx,_,_,G,j,cl,n2,gO,s1,d,r,ys,rows,G,.inr u,R6,a0,λH7 O=>?_};let l:Q V.non (Z9 (Z9 H7 p (.ins C dx [("day",V.int ↥d),("rows",V.ref r),("check",V.int c)])) p (.ins C dx (bC "fits" (V.bl (decide (V.int c=V.int ((Chk.chk (s1::d::flat rows):Z5):Z4)))) [("day",V.int ↥d),("rows",V.ref r),("check",V.int c)]))):=by
    rw[BI,gp,Od];refine q r ys _ af (by rw[ah U];exact O r _ u) (R6.mono λt xs e=>?_) λb o e hb=>?_
    .rw[ah<|br e j nofun];exact O t _ e
    .rw[ah (⇑hb)];exact O b _<|a3 b o e hb
   rcases a4 with⟨rfl,hc⟩|rfl
   .subst hc;exists _,G,G,_,G;refine iC G ?_;exists _,G,_,G,p,C,dx,_,G,O p _ j,cl,n3,(by show 2<1000;decide);rw[oH];exists _,G,p,C,dx,_,_,G,af,cl,n3,kO,_,G,G,_,G,p,C,dx,_,G,af,cl,n4,(by show 3<1000;decide);exact l
   .exists _,G,G,_,G;refine gg (by intro h;cases h) ?_;exists _,G,_,G,p,C,dx,_,G,O p _ j,cl,n3,(by show 2<1000;decide);rw[oH];exists _,G,p,C,dx,_,_,G,af,cl,n3,kO,_,G,G,_,G,p,C,dx,_,G,af,cl,n4,(by show 3<1000;decide);exact l
 .refine .inr {_,G,a,G,{_,X3.of m},λD hD=>?_};refine GD D (K:=K) (a:=a) (xs:=L) (λi σ g ys=>∃v v':nt V,σ=[v,v']/\ak H1 g/\g D=some (.lst ys)/\bP g ys (rows.take i)) {Z0,Z0,G,ak.new hD,af,{G,λi v e=>by simp at e}} (λi σ g ys _ z0=>by let⟨_,_,_,s5,_⟩:=z0;exact X3.of<|s5 a _ m) ?_ ?_
  .rintro i x σ g ys hi ⟨v,v',rfl,s5,S,R5⟩;let⟨t,r,rfl,a1,ht⟩:=R1.get i x hi;refine{t,_,G,X3.of<|s5 t _ ht,G,_,_,G,_,_,G,G,_,G,_,G,t9,λt2 B=>?_};let nD:D≠t2:=aq S B;exists by rwa[ah nD],(by rw[R5.len,YC];exact aN o6),_,_,G,λb o e=>?_,af
   .rw[ah<|aq e hD];exact ak.new B b _<|s5 b _ e
   .rw[XT,a1];refine(R5.mono λb xs e=>?_).snoc ?_
    .rw[ah<|br e S nofun];exact ak.new B b _ e
    .rw[ah nD.symm,af]
  .rintro σ g ys ⟨v,v',rfl,s5,S,R5⟩;rw[show rows.take L.length=rows by rw[R1.len,Yi]] at R5;refine{D,_,G,.inl {X0.of S,λr hr=>?_}};let y:=s5 p _ a2;let Y:p≠r:=aq y hr;exists _,G,p,C,dx,_,G,ak.new hr p _ y,cl,n2,(by show 1<1000;decide);rw[A6];let j:Z9 (Z9 g r (.tup ys)) p (.ins C dx [("day",V.int ↥d),("rows",V.ref r)]) p=some (.ins C dx [("day",V.int ↥d),("rows",V.ref r)]):=af;let u:Z9 (Z9 g r (.tup ys)) p (.ins C dx [("day",V.int ↥d),("rows",V.ref r)]) r=some (.tup ys):=by rw[ah Y.symm,af]
   let k6:bg [p] g (Z9 (Z9 g r (.tup ys)) p (.ins C dx [("day",V.int ↥d),("rows",V.ref r)])):=fY (bg.of_same<|ak.new hr)<|.inl o8;let R6:bP (Z9 (Z9 g r (.tup ys)) p (.ins C dx [("day",V.int ↥d),("rows",V.ref r)])) ys rows:=R5.mono λt xs e=>k6 t _ e (by let:=br e y nofun;simpa using this)
   generalize Z9 (Z9 g r (.tup ys)) p (.ins C dx [("day",V.int ↥d),("rows",V.ref r)])=H6 at j u k6 R6;let a3:bg [p] H H6:=λb o e hb=>k6 b o (s5 b o<|k1 b o e hb) hb
   let U:r≠p:=Y.symm;refine{_,G,_,G,_,G,p,C,dx,_,_,G,j,cl,n2,gO,s1,d,r,ys,rows,G,.inr u,R6,a0,λH7 O=>?_};let l:Q V.non (Z9 (Z9 H7 p (.ins C dx [("day",V.int ↥d),("rows",V.ref r),("check",V.int c)])) p (.ins C dx (bC "fits" (V.bl (decide (V.int c=V.int ((Chk.chk (s1::d::flat rows):Z5):Z4)))) [("day",V.int ↥d),("rows",V.ref r),("check",V.int c)]))):=by
    rw[BI,gp,Od];refine q r ys _ af (by rw[ah U];exact O r _ u) (R6.mono λt xs e=>?_) λb o e hb=>?_
    .rw[ah<|br e j nofun];exact O t _ e
    .rw[ah (⇑hb)];exact O b _<|a3 b o e hb
   rcases a4 with⟨rfl,hc⟩|rfl
   .subst hc;exists _,G,G,_,G;refine iC G ?_;exists _,G,_,G,p,C,dx,_,G,O p _ j,cl,n3,(by show 2<1000;decide);rw[oH];exists _,G,p,C,dx,_,_,G,af,cl,n3,kO,_,G,G,_,G,p,C,dx,_,G,af,cl,n4,(by show 3<1000;decide);exact l
   .exists _,G,G,_,G;refine gg (by intro h;cases h) ?_;exists _,G,_,G,p,C,dx,_,G,O p _ j,cl,n3,(by show 2<1000;decide);rw[oH];exists _,G,p,C,dx,_,_,G,af,cl,n3,kO,_,G,G,_,G,p,C,dx,_,G,af,cl,n4,(by show 3<1000;decide);exact l
variable(cz:HU "Piece" cD "__init__" 3 ["self","start","day","rows","check"] (qI K))
include T cz in
theorem mL{f:fy}{fd:pW}{n:mu}(F:sX K "__init__" "Whole.__init__" dF f fd n):⋯ 4 f fd ["self","day","rows","check"] (kB ay aC):=by
 refine F.okX uS (λvs H Q E h=>?_) λt A outer s H vs Q E m h=>?_
 .let⟨p,dx,a,d,L,rows,l,c,rfl,i,j,R,b,g,q⟩:=h;rfl
 let⟨p,dx,a,d,L,rows,l,c,rfl,i,j,R,b,g,q⟩:=h;exists _,(av<|aY<|Dt (iQ (v:=.ref cD) G T.Ba G) cz aG (m.mono o7)<|aa (pv 0)<|aa (jg gI aA)<|aa (pv 1)<|aa (pv 2)<|aa (pv 3) aj);refine{_,G,_,G,_,G,_,G,_,G,p,ay,dx,a,(0),d,L,rows,l,c,G,i,T.bZ,T.fT,T.eY,T.jj,T.kj,j,R,b,g,λr o H1 h1 h2 h3 k1=>?_};exact q H1 ⟨dx,r,o,h1,h2,h3⟩ k1
include T cz in
theorem ny{f:fy}{fd:pW}{o:mu}(F:sX K "__init__" "Gain.__init__" dO f fd o):⋯ 4 f fd ["self","base","day","rows","check"] (kK ay aC):=by
 refine F.okX vq (λvs H Q E h=>?_) λx A outer s H vs Q E n h=>?_
 .let⟨p,dx,a,b,d,L,rows,m,c,rfl,j,l,R,g,i,q⟩:=h;rfl
 let⟨p,dx,a,b,d,L,rows,m,c,rfl,j,l,R,g,i,q⟩:=h;refine⟨_,(au (aY<|Dt (iQ (v:=.ref cD) G T.Ba G) cz aG (n.mono o7)<|aa (pv 0)<|aa (pv 1)<|aa (pv 2)<|aa (pv 3)<|aa (pv 4) aj)
   (av<|cM (pv 0) (pv 1) G)),?_⟩
 dsimp only[aW];refine{_,G,_,G,_,G,_,G,_,G,p,aC,dx,a,b+1,d,L,rows,m,c,(by rw[show(((b+1:Z5):Z4)-1) =↥b by omega]),j,T.cu,T.iJ,T.fR,T.jT,T.kX,l,R,g,i,λr u H1 h1 h2 h3 k1=>?_};exists _,G,_,G,p,aC,dx,_,G,h1,T.cu,T.ja,(by show 4<1000;decide);rw[HB];refine q _ {dx,r,u,af,?_,h3.mono λt xs e=>?_}<|fY k1<|.inl o8
 .rw[ah<|br h2 h1 nofun];exact h2
 .rw[ah<|br e h1 nofun];exact e
include T in
theorem yg(F:Fun K "start" "Whole.start" mD f fd):⋯ 1 f fd ["self"] (sI):=by refine F.okY yc ?_;rintro vs H Q E ⟨p,rfl,q⟩;refine{G,λa A outer s b=>{_,(av<|aM<|jg gI aA),?_}};exact{_,G,q}
include T in
theorem zP(F:Fun K "start" "Gain.start" nc f fd):⋯ 1 f fd ["self"] (tD ay aC):=by refine F.okY zR ?_;rintro vs H Q E ⟨p,b,d,rows,c,rfl,⟨dx,r,R,h1,h2,h3⟩,q⟩;refine{G,λa A outer s g=>{_,(av<|aM<|aT (pv 0) G),?_}};dsimp only[aW];exact{_,G,p,aC,dx,_,_,G,h1,T.cu,T.ja,Dl,q}
include T in
theorem nI(F:Fun K "is_good" "Piece.is_good" ki f fd):⋯ 3 f fd ["self"] (um ay aC):=by
 refine F.okY vW ?_;rintro vs H Q E ⟨p,wh,b,d,rows,c,rfl,g,a,q⟩;refine{G,λh A outer s i=>{_,(av<|aM<|aT (pv 0) G),?_}};dsimp only[aW];let⟨dx,r,R,h1,h2,h3⟩:=id g;cases wh
 .exact{_,G,p,aC,dx,_,_,G,h1,T.cu,T.kX,Dq,q H<|ak.refl _}
 .exact{_,G,p,ay,dx,_,_,G,h1,T.bZ,T.kj,Dq,q H<|ak.refl _}
include T in
theorem zQ(F:Fun K "kind" "Whole.kind" nK f fd):⋯ 1 f fd ["self"] (wm):=by refine F.okY z8 ?_;rintro vs H Q E ⟨p,rfl,q⟩;refine{G,λa A outer s b=>{_,(av<|aM aJ),?_}};exact q
include T in
theorem Au(F:Fun K "kind" "Gain.kind" pM f fd):⋯ 1 f fd ["self"] (vN):=by refine F.okY Bp ?_;rintro vs H Q E ⟨p,rfl,q⟩;refine{G,λa A outer s b=>{_,(av<|aM aJ),?_}};exact q
include T in
theorem qU(F:Fun K "size" "Piece.size" nE f fd):⋯ 1 f fd ["self"] (uu ay aC):=by
 refine F.okY zS ?_;rintro vs H Q E ⟨p,wh,b,d,rows,c,rfl,⟨dx,r,R,h1,h2,h3⟩,q⟩;refine{G,λa A outer s g=>{_,(av<|aM<|bq bM o9 T.fE Yc<|aa (aT (pv 0) G) aj),?_}};dsimp only[aW];rw[←h3.len] at q;cases wh
 .exact{_,G,p,aC,dx,_,_,G,h1,T.cu,T.fR,gO,r,R,G,.inr<|X3.of h2,q}
 .exact{_,G,p,ay,dx,_,_,G,h1,T.bZ,T.eY,gO,r,R,G,.inr<|X3.of h2,q}
variable(uC:lI "Whole" ay 4 ["self","day","rows","check"] (kB ay aC))
include T uC in
theorem tF(F:Fun K "with_rows" "Whole.with_rows" iU f fd):⋯ 6 f fd ["self","rows"] (xm ay aC Z1):=by
 refine F.okY rW ?_;rintro vs H Q E ⟨p,b,d,rows,c,l,L,a,rfl,y,u,R,i,q⟩;refine{G,λz A outer s v=>{_,(av<|aM<|jB uC aG (v.mono o7) G<|aa (aT (pv 0) G)<|aa (pv 1)<|aa (aT (pv 0) G) aj),?_}};dsimp only[aW];let n:∀{x dx:fy}{o:HO},H x=Z0->H dx=Z0->∀t o',H t=some o'->Z9 (Z9 H dx (.own x)) x o t=some o':=λg h t o' e=>by rw[ah<|aq e g,ah<|aq e h];exact e
 let⟨dx,r,C,h1,h2,h3⟩:=id y;exact{_,G,p,ay,dx,_,_,G,h1,T.bZ,T.fT,lM,_,G,_,G,p,ay,dx,_,_,G,h1,T.bZ,T.jj,kO,λx j g h B=>{x,j,l,d,L,a,.int c,c,G,af,.inl<|n g h l _ u,R.mono λt xs e=>n g h t _ e,i,.inr G,λH1 m k1=>{G,q x H1 (PAt.of0 m) g<|dw g h k1}}}
variable(w5:lI "Gain" aC 4 ["self","base","day","rows","check"] (kK ay aC))
include T w5 in
theorem uQ(F:Fun K "with_rows" "Gain.with_rows" jz f fd):⋯ 6 f fd ["self","rows"] (xm ay aC Z2):=by
 refine F.okY uK ?_;rintro vs H Q E ⟨p,b,d,rows,c,l,L,a,rfl,y,u,R,i,q⟩;refine{G,λz A outer s v=>{_,(av<|aM<|jB w5 aG (v.mono o7) G<|aa (aT (pv 0) G)<|aa (aT (pv 0) G)<|aa (pv 1)<|aa (aT (pv 0) G) aj),?_}};dsimp only[aW];let n:∀{x dx:fy}{o:HO},H x=Z0->H dx=Z0->∀t o',H t=some o'->Z9 (Z9 H dx (.own x)) x o t=some o':=λg h t o' e=>by rw[ah<|aq e g,ah<|aq e h];exact e
 let⟨dx,r,C,h1,h2,h3⟩:=id y;exact{_,G,p,aC,dx,_,_,G,h1,T.cu,T.ja,Dl,_,G,p,aC,dx,_,_,G,h1,T.cu,T.iJ,lM,_,G,_,G,p,aC,dx,_,_,G,h1,T.cu,T.jT,kO,λx j g h B=>{x,j,l,b,d,L,a,.int c,c,G,af,.inl<|n g h l _ u,R.mono λt xs e=>n g h t _ e,i,.inr G,λH1 m k1=>{G,q x H1 m g<|dw g h k1}}}
variable(gw:oB "NoPlace" bu 1 ["self","place"] (fZ bu "place"))
variable(fh:bB aC "with_rows" 6 ["self","rows"] (xm ay aC Z2))
variable(dY:bB ay "with_rows" 6 ["self","rows"] (xm ay aC Z1))
include T gw fh dY in
theorem oi(F:Fun K "harmed" "Piece.harmed" kM f fd):⋯ 7 f fd ["self","at","bits"] (uF ay aC bu):=by
 refine F.okY j8 ?_;rintro vs H Q E ⟨p,wh,b,d,rows,c,B,m,rfl,hP,z,q1,q2⟩;refine⟨G,λa2 A outer s hr=>⟨_,(au (cj (PW.pt<|pw_or (aQ jR (pv 1) aA<|aR _)<|pw_or1<|aQ Ah (pv 1) (bq bM o9 T.fE Yc<|aa (aT (pv 0) G) aj)<|aR _) (av<|fQ G gQ<|i8 gw (hr.mono o7) G<|aa (pv 1) aj) bR)
   (au (psS 3 j8.nd<|dI gm o9 T.j6 YA<|aa (aT (pv 0) G) aj)
   (au (psS 4 j8.nd<|bh bx (pv 3) (pv 1) λ_ _=>rfl)
   (au (tH (dc<|aa (bh eW (pv 4) aA λ_ _=>rfl)<|aa (aV ET (bh eW (pv 4) aA λ_ _=>rfl)<|pv 2) aj)<|sW (pv 3) (pv 1) set_list)
   (av<|aM<|i6 (aU (pv 0) T.bZ dY aG (hr.mono o7)<|aa (pv 3) aj)<|aU (pv 0) T.cu fh aG (hr.mono o7)<|aa (pv 3) aj))))),?_⟩⟩
 dsimp only[aW];let⟨dx,r,g,h1,h2,h3⟩:=id hP;cases wh
 .exists _,G,_,_,G,G,_,G;by_cases S:B<0
  .refine iC S ?_;refine dB ?_;exact{_,G,fK (E:=E) T.ia λe H' he hs=>q2 o6 e H' he hs}
  refine gg S ?_;exists _,G,_,G,p,aC,dx,_,_,G,h1,T.cu,T.fR,gO,r,g,G,.inr<|X3.of h2,_,_,G,G,_,G;by_cases y:B≥↥g.length
  .refine iC y ?_;rw[h3.len] at y;exact{_,G,fK (E:=E) T.ia λe H' he hs=>q2 o6 e H' he hs}
  refine gg y ?_;rw[h3.len] at y;obtain⟨i,rfl⟩:∃i:Z5,B =↥i:=⟨B.toNat,o6⟩;let hi:i<rows.length:=by omega
  obtain⟨v,Y⟩:∃v,g[i]?=some v:={_,Xh (by rwa[h3.len])};let⟨t,a,rfl,O,ht⟩:=h3.get i v Y;refine{_,G,p,aC,dx,_,_,G,h1,T.cu,T.fR,gO,r,g,G,.inr<|X3.of h2,λl U=>?_};let s1:ak H (Z9 H l (.lst g)):=ak.new U;let h:Z9 H l (.lst g) l=some (.lst g):=af;generalize Z9 H l (.lst g)=H1 at s1 h;exists _,G,_,G,l,_,_,V.ref t,G,G,X0.of h,dh Y;let q:=s1 t _ ht;refine{_,G,t,_,_,V.int ↥a.1,G,G,X3.of q,dh (j:=0) G,_,G,t,_,_,V.int ↥a.2,G,G,X3.of q,dh (j:=1) G,_,G,_,_,G,G,t9,λt2 n=>?_};let L:l≠t2:=aq h n;exists _,G,_,G,l,_,_,i,G,G,ak.new n l _ h,?_
  .unfold ixN;rw[Xm o6,Xm (by rw[h3.len];omega)];simp
  let ex:fu rows i m=rows.set i (a.1,a.2 ^^^ m):=tE O;let u:Z9 (Z9 H1 t2 (.tup [V.int ↥a.1,V.int (Builtin.bitXor ↥a.2 ↥m)])) l (.lst (g.set i (V.ref t2))) l=some (.lst (g.set i (V.ref t2))):=af;let s3:ak H (Z9 (Z9 H1 t2 (.tup [V.int ↥a.1,V.int (Builtin.bitXor ↥a.2 ↥m)])) l (.lst (g.set i (V.ref t2)))):=λb o e=>by rw[ah<|aq e U];exact ak.new n b _<|s1 b _ e
  let x:Z9 (Z9 H1 t2 (.tup [V.int ↥a.1,V.int (Builtin.bitXor ↥a.2 ↥m)])) l (.lst (g.set i (V.ref t2))) t2=some (.tup [V.int ↥a.1,V.int ((a.2 ^^^ m:Z5):Z4)]):=by rw[ah L.symm,af,uE]
  generalize Z9 (Z9 H1 t2 (.tup [V.int ↥a.1,V.int (Builtin.bitXor ↥a.2 ↥m)])) l (.lst (g.set i (V.ref t2)))=H3 at u s3 x;let R3:bP H3 (g.set i (V.ref t2)) (fu rows i m):=by rw[ex];exact Bu (h3.mono λt xs e=>s3 t _ e) x
  let h1:=s3 _ _ h1;refine .inr {_,G,p,dx,_,G,h1,d7 (wh:=Z2) o4 o4 o4 o4,_,G,p,b,d,rows,c,l,_,fu rows i m,G,hP.keep s3,u,R3,by rwa[tu],λp2 H4 C hn s4=>?_};exact q1 i G hi p2 H4 C (s3.free hn)<|s3.trans s4
 .exists _,G,_,_,G,G,_,G;by_cases S:B<0
  .refine iC S ?_;refine dB ?_;exact{_,G,fK (E:=E) T.ia λe H' he hs=>q2 o6 e H' he hs}
  refine gg S ?_;exists _,G,_,G,p,ay,dx,_,_,G,h1,T.bZ,T.eY,gO,r,g,G,.inr<|X3.of h2,_,_,G,G,_,G;by_cases y:B≥↥g.length
  .refine iC y ?_;rw[h3.len] at y;exact{_,G,fK (E:=E) T.ia λe H' he hs=>q2 o6 e H' he hs}
  refine gg y ?_;rw[h3.len] at y;obtain⟨i,rfl⟩:∃i:Z5,B =↥i:=⟨B.toNat,o6⟩;let hi:i<rows.length:=by omega
  obtain⟨v,Y⟩:∃v,g[i]?=some v:={_,Xh (by rwa[h3.len])};let⟨t,a,rfl,O,ht⟩:=h3.get i v Y;refine{_,G,p,ay,dx,_,_,G,h1,T.bZ,T.eY,gO,r,g,G,.inr<|X3.of h2,λl U=>?_};let s1:ak H (Z9 H l (.lst g)):=ak.new U;let h:Z9 H l (.lst g) l=some (.lst g):=af;generalize Z9 H l (.lst g)=H1 at s1 h;exists _,G,_,G,l,_,_,V.ref t,G,G,X0.of h,dh Y;let q:=s1 t _ ht;refine{_,G,t,_,_,V.int ↥a.1,G,G,X3.of q,dh (j:=0) G,_,G,t,_,_,V.int ↥a.2,G,G,X3.of q,dh (j:=1) G,_,G,_,_,G,G,t9,λt2 n=>?_};let L:l≠t2:=aq h n;exists _,G,_,G,l,_,_,i,G,G,ak.new n l _ h,?_
  .unfold ixN;rw[Xm o6,Xm (by rw[h3.len];omega)];simp
  let ex:fu rows i m=rows.set i (a.1,a.2 ^^^ m):=tE O;let u:Z9 (Z9 H1 t2 (.tup [V.int ↥a.1,V.int (Builtin.bitXor ↥a.2 ↥m)])) l (.lst (g.set i (V.ref t2))) l=some (.lst (g.set i (V.ref t2))):=af;let s3:ak H (Z9 (Z9 H1 t2 (.tup [V.int ↥a.1,V.int (Builtin.bitXor ↥a.2 ↥m)])) l (.lst (g.set i (V.ref t2)))):=λb o e=>by rw[ah<|aq e U];exact ak.new n b _<|s1 b _ e
  let x:Z9 (Z9 H1 t2 (.tup [V.int ↥a.1,V.int (Builtin.bitXor ↥a.2 ↥m)])) l (.lst (g.set i (V.ref t2))) t2=some (.tup [V.int ↥a.1,V.int ((a.2 ^^^ m:Z5):Z4)]):=by rw[ah L.symm,af,uE]
  generalize Z9 (Z9 H1 t2 (.tup [V.int ↥a.1,V.int (Builtin.bitXor ↥a.2 ↥m)])) l (.lst (g.set i (V.ref t2)))=H3 at u s3 x;let R3:bP H3 (g.set i (V.ref t2)) (fu rows i m):=by rw[ex];exact Bu (h3.mono λt xs e=>s3 t _ e) x
  let h1:=s3 _ _ h1;refine .inl {_,G,p,dx,_,G,h1,d7 (wh:=Z1) o4 o4 o4 o4,_,G,p,b,d,rows,c,l,_,fu rows i m,G,hP.keep s3,u,R3,by rwa[tu],λp2 H4 C hn s4=>?_};exact q1 i G hi p2 H4 C (s3.free hn)<|s3.trans s4
include T in
theorem uI(F:Fun K "__init__" "Shelf.__init__" jv f fd):⋯ 1 f fd ["self"] (wc aB):=by
 refine F.okY uO ?_;rintro vs H Q E ⟨p,dx,rfl,c,q⟩;refine⟨G,λg A outer s h=>⟨_,(au (cM (pv 0) ic G)
   (av<|cM (pv 0) aA G)),?_⟩⟩
 dsimp only[aW];refine λd a=>?_
 let b:p≠d:=aq c a;exists _,G,p,aB,dx,_,G,ak.new a p _ c,T.bO,T.cL,(by show 0<1000;decide);exists _,G,p,aB,dx,_,G,af,T.bO,T.c9,(by show 1<1000;decide);rw[gp,show bC "pieces" (V.ref d) [] =([("pieces",V.ref d)]:ee (Z6×V)) from G,B4];refine q d _ {dx,af,by rw[ah b.symm,af]} a ?_;exact fY (bg.of_same<|ak.new a)<|.inl o8
include T in
theorem BN(F:Fun K "lay" "Shelf.lay" oZ f fd):⋯ 1 f fd ["self","number","piece"] (AD aB):=by
 refine F.okY BK ?_;rintro vs H Q E ⟨p,d,fl,kvs,n,a,rfl,⟨dx,h1,h2⟩,g,q⟩;refine⟨G,λi A outer s h=>⟨_,(au (jF (bG h) (aT (pv 0) G) (pv 1) (pv 2) G)
   (av<|cM (pv 0) (bq (za G) o9 T.wX abh<|aa (aT (pv 0) G)<|aa (aV cZ (pv 1) aA) aj) G)),?_⟩⟩
 dsimp only[aW];let b:p≠d:=br h1 h2 nofun;exists _,G,_,G,p,aB,dx,_,_,G,h1,T.bO,T.cL,jG,_,G,d,_,G,mw.k (k:=Sum.inl n) h2<|aN o6;let c:Z9 H d (.dK (putK kvs (Sum.inl n) (V.ref a))) p=some (.ins aB dx (sfs d fl)):=by rwa[ah b]
 exists _,G,p,aB,dx,_,_,G,c,T.bO,T.c9,qh
 repeat (first|refine{_,G,?_}|refine{_,_,G,G,?_}|refine{(by first|decide|(dsimp only;decide)|(show 2≤Z7;decide)|(show 1≤Z7;decide)|(show 3≤Z7;decide)|(show 4≤Z7;decide)),?_}|refine{.inl ⟨o5,o5⟩,?_}|refine{.inr ⟨o5,o5⟩,?_}|refine{⟨o5,o5⟩,?_}|refine{_,_,G,G,o5,?_}|refine{_,_,G,G,.inl ⟨o5,o5⟩,?_}|refine{_,_,G,G,.inr ⟨o5,o5⟩,?_}|refine{_,_,G,G,⟨o5,o5⟩,?_}|refine{G,?_}|exists _,_,G)
 exists p,aB,dx,_,G,c,T.bO,T.c9,(by show 2<1000;decide);rw[Al];refine q _ {dx,af,by rw[ah b.symm,af]} ?_;exact fY (fY bg.refl<|.inl o8)<|.inl o8
variable(fU:bB aB "lay" 1 ["self","number","piece"] (AD aB))
include T fU in
theorem Aj(F:Fun K "put" "Shelf.put" pD f fd):⋯ 2 f fd ["self","piece"] (AM aB):=by
 refine F.okY tR ?_;rintro vs H Q E ⟨p,d,fl,kvs,a,rfl,⟨dx,h1,h2⟩,b,q⟩;refine⟨G,λh A outer s g=>⟨_,(au (psS 2 tR.nd<|aT (pv 0) G)
   (au (aY<|aU (pv 0) T.bO fU aG (g.mono o7)<|aa (pv 2)<|aa (pv 1) aj)
   (av<|aM<|pv 2))),?_⟩⟩
 dsimp only[aW];exists _,G,p,aB,dx,_,_,G,h1,T.bO,T.c9,qh;refine{_,G,p,dx,_,G,h1,gH o4 o4,_,G,_,G,p,d,fl,kvs,fl,a,G,⟨dx,h1,h2⟩,b,λH1 c k1=>?_};rw[Xm o6] at c;exact{_,G,q H1 c k1}
variable(oG:oB "NoPiece" bI 1 ["self","number"] (fZ bI "number"))
include T oG in
theorem yK(F:Fun K "piece" "Shelf.piece" mz f fd):⋯ 3 f fd ["self","number"] (vV aB bI):=by
 refine F.okY xT ?_;rintro vs H Q E ⟨p,d,fl,kvs,n,rfl,⟨dx,h1,h2⟩,q1,c⟩;refine⟨G,λg A outer s b=>⟨_,(au (cj (w9<|sA (bG b) (pv 1)<|aT (pv 0) G) (av<|fQ G gQ<|i8 oG (b.mono o7) G<|aa (pv 1) aj) bR)
   (av<|aM<|bH (bG b) (aT (pv 0) G) (pv 1) λ_ _=>rfl)),?_⟩⟩
 dsimp only[aW];exists _,G,_,G,p,aB,dx,_,_,G,h1,T.bO,T.cL,jG,d,_,G,cT.k (k:=Sum.inl n) h2,_,G;cases a:aL kvs (Sum.inl n) with
 |none=>refine dB ?_;exact{_,G,fK (E:=E) T.zB λe H' he hs=>c a e H' he hs}
 |some v=>refine eV ?_;exact{_,G,p,aB,dx,_,_,G,h1,T.bO,T.cL,jG,_,G,d,v,G,a ▸ cT.k (k:=Sum.inl n) h2,q1 v a}
variable(bW:bB aB "piece" 3 ["self","number"] (vV aB bI))
include T bW in
theorem zE(F:Fun K "drop" "Shelf.drop" nv f fd):⋯ 4 f fd ["self","number"] (yq aB bI):=by
 refine F.okY qN ?_;rintro vs H Q E ⟨p,d,fl,kvs,n,rfl,⟨dx,h1,h2⟩,q1,h⟩;refine⟨G,λg A outer s c=>⟨_,(au (psS 2 qN.nd<|aU (pv 0) T.bO bW aZ (c.mono o7)<|aa (pv 1) aj)
   (au (aY<|vp (aT (pv 0) G) (pv 1) ⟨G,G,G,G⟩)
   (av<|aM<|pv 2))),?_⟩⟩
 dsimp only[aW];let b:p≠d:=br h1 h2 nofun;refine{_,G,p,dx,_,G,h1,gH o4 o4,_,G,p,d,fl,kvs,n,G,⟨dx,h1,h2⟩,λv a=>?_,λa e H' he hs=>h a e H' he hs};exists _,G,p,aB,dx,_,_,G,h1,T.bO,T.cL,jG,d,G,.inl {_,.inl h2},_,G,kvs,Sum.inl n,v,h2,G,a;refine{_,G,q1 v a _ {dx,by rwa[ah b],af} ?_};exact fY bg.refl<|.inl o8
include T in
theorem vh(F:Fun K "numbers" "Shelf.numbers" jK f fd):⋯ 1 f fd ["self"] (qk aB):=by refine F.okY vO ?_;rintro vs H Q E ⟨p,d,fl,kvs,ns,rfl,⟨dx,h1,h2⟩,b,h,q⟩;refine{G,λi A outer s j=>{_,(av<|aM<|bq (nW G) o9 T.qA ZM<|aa (aT (pv 0) G) aj),?_}};dsimp only[aW];exact{_,G,p,aB,dx,_,_,G,h1,T.bO,T.cL,jG,d,kvs,ns,G,h2,b,o6,λl a c g hs=>q l a c g hs}
variable(c7:bB aB "numbers" 1 ["self"] (qk aB))
variable(cC:bB aC "is_good" 3 ["self"] (um ay aC))
variable(cy:bB ay "is_good" 3 ["self"] (um ay aC))
variable(eU:bB aC "start" 1 ["self"] (tD ay aC))
variable(dU:bB ay "start" 1 ["self"] sI)
include T bW c7 cC cy eU dU in
theorem rD(F:Fun K "numbers_by_start" "numbers_by_start" iE f fd):⋯ 4 f fd ["shelf","good"] (A5 aB ay aC):=by
 refine F.okY fq ?_;rintro vs H Q E ⟨p,d,fl,kvs,M,gd,rfl,hG,ae,q⟩;refine⟨G,λal A outer s hr=>⟨_,(au (psS 2 fq.nd ic)
   (au (eE XF G (dP<|bw (pv 0) T.bO c7 aG<|hr.mono o7) (pgN 3 fq.nd)
   (au (psS 4 fq.nd<|aU (pv 0) T.bO bW aZ (hr.mono o7)<|aa (pv 3) aj)
   (av<|cj (PW.pt<|pw_or (sJ<|lK<|pv 1)<|pw_or1<|lK<|i6 (bw (pv 4) T.bZ cy aG<|hr.mono o7)<|bw (pv 4) T.cu cC aG<|hr.mono o7) (av<|aY<|jc XJ XZ Yb dH (HG (pv 2) (i6 (bw (pv 4) T.bZ dU aG<|hr.mono o7)<|bw (pv 4) T.cu eU aG<|hr.mono o7) (bQ aj) ⟨G,G,G,G⟩)<|aa (pv 3) aj) bR)))
   (av<|aM<|pv 2))),?_⟩⟩
 dsimp only[aW];intro st Y;refine aO [r4 p,some<|.bl gd,r4 st,Z0,Z0] ?_;let s1:ak H (Z9 H st (.dK [])):=ak.new Y;let C:Z9 H st (.dK []) st=some (.dK []):=af;generalize Z9 H st (.dK [])=H1 at s1 C ⊢;dsimp only;let⟨ns,z⟩:=m5 hG.c8;let am:kvs.length=ns.length:=by let:=congrArg List.length z;simpa using this
 let a6:=hG.keep s1;let⟨dx,h1,h2⟩:=id a6.sh;refine{_,G,p,dx,_,G,h1,gH o4 o4,p,d,fl,kvs,ns,G,a6.sh,z,o6,λnl h a4 hp hs=>?_};let s2:ak H1 (Z9 H1 nl (.lst (h.map Z8))):=ak.new a4;let t:Z9 H1 nl (.lst (h.map Z8)) nl=some (.lst (h.map Z8)):=af;generalize Z9 H1 nl (.lst (h.map Z8))=H2 at s2 t ⊢;let a1:h.length≤62:=by rw[hp.length_eq];omega
 refine{nl,G,{_,X0.of t},eG (K:=K) (a:=nl) (xs:=h.map Z8) (λi σ H'=>∃(v3 v4:nt V)(sk:ee (Key×V)),σ=[r4 p,some<|.bl gd,r4 st,v3,v4]/\NbI H H' nl st sk M gd h i) {Z0,Z0,[],G,{s1.trans s2,t,s2 _ _ C,Y,Xk _,⟨λx=>.inr ⟨G,G⟩⟩,λs l e=>(by cases e),λs s' l e=>(by cases e)}} (λi σ H' _ z0=>by let⟨_,_,_,_,N⟩:=z0;exact X0.of N.lst) ?_ ?_}
 .rintro i v σ H3 hi ⟨v3,v4,sk,rfl,N⟩;rw[Xo] at hi;let⟨n,hn,rfl⟩:=XA.mp hi;let ac:=(Xg.mp hn).1;let ai:=N.len;refine aO [r4 p,some<|.bl gd,r4 st,t6 n,v4] ?_;let U:=hG.keep N.same;let⟨a8,a9,ag⟩:=id U.sh;dsimp only;refine{_,G,p,a8,_,G,a9,gH o4 o4,_,G,p,d,fl,kvs,n,G,U.sh,λv hv=>?_,λhv=>?_}
  case refine_2=>
   let:=(hG.has z n).mp<|hp.mem_iff.mp<|Xl hn;cases y:M n with
   |none=>rw[y] at this;cases this
   |some x=>let⟨s',d',g'⟩:=x;let⟨v',ab,_⟩:=hG.sr.got y;rw[ab] at hv;cases hv
  let⟨s',d',g,y,a,wh,b,dd,rows,c,rfl,hP,m,rfl,rfl,hg⟩:=U.sr.has hv;refine aO [r4 p,some<|.bl gd,r4 st,t6 n,r4 a] ?_;dsimp only;let⟨B,r,Rr,g1,g2,g3⟩:=id hP;refine yt (g||!gd) (λH'=>ak H3 H') (λQb hq=>?_) (λhb O s4=>?_) λhb O s4=>?_
  .exists _,G,_,G;cases gd with
   |false=>exact dB<|⇑(hq H3<|ak.refl _)
   |true=>
    refine eV ?_;rw[show(g||!Z1)=g by simp] at hq;cases wh
    .exact .inr {_,G,a,B,_,G,g1,d7 (wh:=Z2) o4 o4 o4 o4,a,Z2,b,dd,rows,c,G,hP,m,λO s4=>{_,G,by rw[←hg];exact hq O s4}}
    .exact .inl {_,G,a,B,_,G,g1,d7 (wh:=Z1) o4 o4 o4 o4,a,Z1,b,dd,rows,c,G,hP,m,λO s4=>{_,G,by rw[←hg];exact hq O s4}}
  .let ho:okG gd g:=by unfold okG;cases g <;> cases gd <;> simp_all
   let L:=N.keep s4;let a7:=hP.keep s4;let a5:=s4 _ _ g1;let go:∀x,O x=Z0->∀sv:Z4,sv =((stN wh b:Z5):Z4)-1->True:=λ_ _ _ _=>trivial
   cases wh
   .let es:((stN Z2 b:Z5):Z4)-1 =↥b:=by show(((b+1:Z5):Z4)-1)=_;omega
    rw[es] at y;refine{_,G,st,G,.inl {sk,.inl L.dct},.inr {_,G,a,B,_,G,a5,d7 (wh:=Z2) o4 o4 o4 o4,a,b,dd,rows,c,G,a7,Xw _,λe he=>?_}};let N5:=L.keep<|ak.new he (o:=.lst []);refine{sk,Sum.inl ↥b,N5.dct,G,aN o6,λw' hw=>?_,λa0=>?_}
    .let⟨l,xs,rfl,u,a3,S⟩:=N5.old hn y ho hw a1;exact{.inl {G,_,X0.of u},_,G,l,_,_,G,G,u,aN<|Yk a3,_,_,_,G,S}
    .let S:=L.new hn y ho a0 he;let a2:st≠e:=aq L.dct he;let j:Z9 (Z9 O e (.lst [])) st (.dK (putK sk (Sum.inl ↥b) (.ref e))) e=some (.lst []):=by rw[ah a2.symm,af]
     exact{.inl {G,_,X0.of j},_,G,e,_,_,G,G,j,o7,_,_,_,G,S}
   .let es:((stN Z1 b:Z5):Z4)-1 = -1:=rfl;rw[es] at y;refine{_,G,st,G,.inl {sk,.inl L.dct},.inl {_,G,a,B,_,G,a5,d7 (wh:=Z1) o4 o4 o4 o4,a,G,Xw _,λe he=>?_}};let N5:=L.keep<|ak.new he (o:=.lst []);refine{sk,Sum.inl (-1:Z4),N5.dct,G,aN o6,λw' hw=>?_,λa0=>?_}
    .let⟨l,xs,rfl,u,a3,S⟩:=N5.old hn y ho hw a1;exact{.inl {G,_,X0.of u},_,G,l,_,_,G,G,u,aN<|Yk a3,_,_,_,G,S}
    .let S:=L.new hn y ho a0 he;let a2:st≠e:=aq L.dct he;let j:Z9 (Z9 O e (.lst [])) st (.dK (putK sk (Sum.inl (-1:Z4)) (.ref e))) e=some (.lst []):=by rw[ah a2.symm,af]
     exact{.inl {G,_,X0.of j},_,G,e,_,_,G,G,j,o7,_,_,_,G,S}
  .let ho:¬okG gd g:=by unfold okG;cases g <;> cases gd <;> simp_all
   exact{_,_,sk,G,(N.keep s4).skip hn y ho}
 .rintro σ H3 ⟨v3,v4,sk,rfl,N⟩;let hv:=N.val;rw[Xj,Yi] at hv;exact{_,G,q st sk h H3 N.dct hv (λn=>hp.mem_iff.trans<|hG.has z n) a1 Y N.same}
variable(fF:cE "numbers_by_start" 4 ["shelf","good"] (A5 aB ay aC))
include T bW fF in
theorem yk(F:Fun K "last_pieces" "last_pieces" lX f fd):⋯ 5 f fd ["shelf","good"] (vP aB ay aC):=by
 refine F.okY cJ ?_;rintro vs H Q E ⟨p,d,fl,kvs,M,gd,rfl,hG,cc,q⟩;refine⟨G,λci A outer s hr=>⟨_,(au (psS 2 cJ.nd<|pcS fF aG hr<|aa (pv 0)<|aa (pv 1) aj)
   (au (psS 3 cJ.nd ic)
   (au (psS 4 cJ.nd<|bQ<|aa (jg gI aA) aj)
   (au (vj XF (aQ xg (bq bM o9 T.fE Yc<|aa (pv 4) aj) aA<|aR _) (au (psS 5 cJ.nd<|bQ aj)
   (au (eE XF G (dP<|pv 4) (pgN 6 cJ.nd)
   (av (eE XF G (dP<|GC (bG hr) (pv 2) (pv 6) (bQ aj) ⟨G,G,G,G⟩) (pgN 7 cJ.nd)
   (au (psS 8 cJ.nd<|aT (aU (pv 0) T.bO bW aZ (hr.mono o7)<|aa (pv 7) aj) G)
   (av (cj (w9<|sA (bG hr) (pv 8)<|pv 3) (au (jF (bG hr) (pv 3) (pv 8) (pv 7) G)
   (av<|aY<|jc XJ XZ Yb dH (pv 5)<|aa (pv 8) aj)) bR))))))
   (av<|psS 4 cJ.nd<|pv 5))))
   (av<|aM<|pv 3))))),?_⟩⟩
 dsimp only[aW];refine{_,G,_,G,p,d,fl,kvs,M,gd,G,hG,cc,λst sk ns H1 ba S bA cp co s1=>?_};refine aO [r4 p,some<|.bl gd,r4 st,Z0,Z0,Z0,Z0,Z0,Z0] ?_;dsimp only;intro ld as;refine aO [r4 p,some<|.bl gd,r4 st,r4 ld,Z0,Z0,Z0,Z0,Z0] ?_;let s2:ak H1 (Z9 H1 ld (.dK [])):=ak.new as;let a7:Z9 H1 ld (.dK []) ld=some (.dK []):=af;generalize Z9 H1 ld (.dK [])=H2 at s2 a7 ⊢;dsimp only;refine{_,G,t8,λa4 a9=>?_};refine aO [r4 p,some<|.bl gd,r4 st,r4 ld,r4 a4,Z0,Z0,Z0,Z0] ?_;let s3:ak H2 (Z9 H2 a4 (.lst [V.int (-1)])):=ak.new a9;let O:Z9 H2 a4 (.lst [V.int (-1)]) a4=some (.lst (([-1]:ee Z4).map Z8)):=af;let bm:H1 a4=Z0:=s2.free a9;generalize Z9 H2 a4 (.lst [V.int (-1)])=H3 at s3 O ⊢;dsimp only;let al:∀s n,n∈ns.filter (d8 M gd s)↔d8 M gd s n=Z1:=λs n=>by rw[YB];exact{λh=>h.2,λh=>{(bA n).mpr (by let⟨d',g',e,_⟩:=nV.mp h;rw[e];rfl),h}}
 let c1:=hG.keep s1;let ab:∀{lk:ee (Key×V)}{t:Z5},iP lk M gd t->lk.length≤kvs.length:=λ{lk t}h=>iP.len (Z:=λ_=>True) (gd:=gd) hG h.nd h.c8 λd v e=>let ⟨n,s,g,k,_,hm,_⟩:=h.cN d v e;⟨n,s,g,hm⟩
 let aS:∀{lk:ee (Key×V)}{t:Z5}{fs:ee Z4}{Dn:Z4->Z3},Mid lk M gd t fs Dn->lk.length≤kvs.length:=λ{lk t fs Dn}h=>iP.len (Z:=λ_=>True) (gd:=gd) hG h.nd h.c8 λd v e=>let ⟨n,s,g,k,_,hm,_⟩:=h.cN d v e;⟨n,s,g,hm⟩
 refine gz (λσ H'=>∃(v4 v5 v6 Y U:nt V)(lk:ee (Key×V)),σ=[r4 p,some<|.bl gd,r4 st,r4 ld,v4,v5,v6,Y,U]/\ak H1 H'/\H' ld=some (.dK lk)/\nL lk M gd/\lk.length≤kvs.length) (λN hN=>?_) ?_
 .exists λm σ H'=>∃(ma:fy)(v5 v6 Y U:nt V)(lk:ee (Key×V))(ms:ee Z4)(t:Z5),σ=[r4 p,some<|.bl gd,r4 st,r4 ld,r4 ma,v5,v6,Y,U]/\ak H1 H'/\H' ld=some (.dK lk)/\H' ma=some (.lst<|ms.map Z8)/\ms.length≤kvs.length+1/\iP lk M gd t/\(∀d,d∈ms↔Lev M gd d t)/\m=kvs.length-lk.length +(if ms=[] then 0 else 1),{_,a4,Z0,Z0,Z0,Z0,[],[-1],(0),G,s2.trans s3,s3 _ _ a7,O,o8,iP.nil,λd=>?_,G}
  .rw[Xx];exact{λh=>by rw[h];exact Lev.zero,λh=>Rk.Ea h.1}
  clear O bm s3 H3 a9 a7 s2 H2 a4;rintro m σ H3 ⟨ma,v5,v6,Y,U,lk,ms,t,rfl,s3,a3,O,cn,LP,aw,rfl⟩;exists _,G,ma,_,G,.inl<|X0.of O,_,_,G,G,_,G;by_cases ar:ms=[]
  .subst ar;refine gg (by show ¬(((([]:ee Z4).map Z8).length:Z5):Z4)>0;decide) ?_;exact hN _ _ {_,_,_,_,_,lk,G,s3,a3,LP.end_ λd hd=>(by cases (aw d).mpr hd),ab LP}
  let cg:0<ms.length:=aak.mpr ar;refine iC (by show(((ms.map Z8).length:Z5):Z4)>0;rw[Xj];omega) ?_;exists _,λck H' h=>h;rw[Xn ar];refine{Xw _,λfa ag=>?_};refine aO [r4 p,some<|.bl gd,r4 st,r4 ld,r4 ma,r4 fa,v6,Y,U] ?_;let s4:ak H3 (Z9 H3 fa (.lst [])):=ak.new ag;let a1:Z9 H3 fa (.lst []) fa=some (.lst (([]:ee Z4).map Z8)):=af;let bi:H1 fa=Z0:=s3.free ag;let c0:fa≠ma:=(aq O ag).symm;generalize Z9 H3 fa (.lst [])=H4 at s4 a1 ⊢;dsimp only;let bd:ld≠fa:=aq a3 ag;refine gz (λσ H'=>∃(v6 Y U:nt V)(u:ee (Key×V))(fs:ee Z4),σ=[r4 p,some<|.bl gd,r4 st,r4 ld,r4 ma,r4 fa,v6,Y,U]/\ak H1 H'/\H' ld=some (.dK u)/\H' fa=some (.lst<|fs.map Z8)/\u.length=lk.length+fs.length/\iP u M gd (t+1)/\(∀d,d∈fs↔Lev M gd d (t+1))) (λN2 ca=>?_) ?_
  .refine{_,G,ma,G,{_,X0.of<|s4 _ _ O},eG (K:=K) (a:=ma) (xs:=ms.map Z8) (λi σ H'=>∃(v6 Y U:nt V)(u:ee (Key×V))(fs:ee Z4),σ=[r4 p,some<|.bl gd,r4 st,r4 ld,r4 ma,r4 fa,v6,Y,U]/\ak H1 H'/\H' ma=some (.lst<|ms.map Z8)/\H' ld=some (.dK u)/\H' fa=some (.lst<|fs.map Z8)/\u.length=lk.length+fs.length/\Mid u M gd t fs (λn=>∃ s∈ms.take i,d8 M gd s n=Z1)) {v6,Y,U,lk,[],G,s3.trans s4,s4 _ _ O,s4 _ _ a3,a1,G,(Mid.start LP).mono λ n ⟨s,hs,_⟩=>(by simp at hs)} (λi σ H' _ z0=>by let⟨_,_,_,_,_,_,_,h,_⟩:=z0;exact X0.of h) ?_ ?_}
   .clear a1 s4 H4 v6 Y U;rintro i v σ H4 hi ⟨v6,Y,U,u,fs,rfl,s4,ai,a8,a1,B,MI⟩;rw[Xo] at hi;let⟨s0,bp,rfl⟩:=XA.mp hi;let bt:Lev M gd s0 t:=(aw s0).mp<|Xl bp;let tk:∀s',s'∈ms.take (i+1)->s'∈ms.take i∨s'=s0:=λs' h=>by rw[XT,bp] at h;exact(Xv.mp h).imp id λh=>Xx.mp h
    refine aO [r4 p,some<|.bl gd,r4 st,r4 ld,r4 ma,r4 fa,t6 s0,Y,U] ?_;dsimp only;refine{_,G,st,G,.inl {sk,.inl<|s4 _ _ ba},_,G,Xw _,λe he=>?_};let s5:ak H4 (Z9 H4 e (.lst [])):=ak.new he;let ax:Z9 H4 e (.lst []) e=some (.lst []):=af;let ch:ld≠e:=aq a8 he;generalize Z9 H4 e (.lst [])=H5 at s5 ax ⊢;let ae:=s4.trans s5;obtain⟨la,c4,a0,bv⟩:∃la,(aL sk (Sum.inl s0)).getD (V.ref e)=.ref la/\H5 la=some (.lst ((ns.filter (d8 M gd s0)).map Z8))/\la≠fa:=by
     rcases S.val s0 with⟨l,h1,h2⟩|⟨h1,h2⟩
     .exact{l,by rw[h1];rfl,ae _ _ h2,aq h2 bi}
     .exact{e,by rw[h1];rfl,by rwa[h2],(aq a1 he).symm}
    refine{_,.inl {sk,Sum.inl s0,.inl<|ae _ _ ba,G,G},la,c4,{_,X0.of a0},eG (K:=K) (a:=la) (xs:=(ns.filter<|d8 M gd s0).map Z8) (λj σ H'=>∃(Y U:nt V)(u:ee (Key×V))(fs:ee Z4),σ=[r4 p,some<|.bl gd,r4 st,r4 ld,r4 ma,r4 fa,t6 s0,Y,U]/\ak H1 H'/\H' la=some (.lst<|(ns.filter<|d8 M gd s0).map Z8)/\H' ma=some (.lst<|ms.map Z8)/\H' ld=some (.dK u)/\H' fa=some (.lst<|fs.map Z8)/\u.length=lk.length+fs.length/\Mid u M gd t fs (λn=>(∃ s∈ms.take i,d8 M gd s n=Z1)∨n∈(ns.filter<|d8 M gd s0).take j)) {Y,U,u,fs,G,ae,a0,s5 _ _ ai,s5 _ _ a8,s5 _ _ a1,B,MI.mono λn h=>h.elim id λh=>(by simp at h)} (λi σ H' _ z0=>by let⟨_,_,_,_,_,_,h,_⟩:=z0;exact X0.of h) ?_ ?_}
    .clear a0 ax ae s5 H5 B MI a1 a8 ai s4 u fs Y U v6;rintro j v σ H5 hj ⟨Y,U,u,fs,rfl,s5,a0,a5,L,a2,B,MI⟩;rw[Xo] at hj;let⟨n,hn,rfl⟩:=XA.mp hj;let bo:=(al s0 n).mp<|Xl hn;let⟨d0,g0,eM,ho⟩:=nV.mp bo;let tj:∀x,x∈(ns.filter (d8 M gd s0)).take (j+1)->x∈(ns.filter (d8 M gd s0)).take j∨x=n:=λx h=>by rw[XT,hn] at h;exact(Xv.mp h).imp id λh=>Xx.mp h
     let bc:∀x,((∃ s∈ms.take i,d8 M gd s x=Z1)∨x∈(ns.filter (d8 M gd s0)).take (j+1))->((∃ s∈ms.take i,d8 M gd s x=Z1)∨x∈(ns.filter (d8 M gd s0)).take j)∨x=n:=λx h=>h.elim (λh=>.inl<|.inl h) λh=>(tj x h).elim (λh=>.inl<|.inr h) .inr
     let aH:=c1.keep s5;let⟨dx,h1,h2⟩:=id aH.sh;refine aO [r4 p,some<|.bl gd,r4 st,r4 ld,r4 ma,r4 fa,t6 s0,t6 n,U] ?_;dsimp only;refine{_,G,p,dx,_,G,h1,gH o4 o4,_,G,p,d,fl,kvs,n,G,aH.sh,λv hv=>?_,λhv=>?_}
     case refine_2=>let⟨v',ce,_⟩:=hG.sr.got eM;rw[ce] at hv;cases hv
     let⟨s',d',g,bb,a,wh,b,dd,rows,c,rfl,hP,bY,rfl,rfl,hg⟩:=aH.sr.has hv;rw[eM] at bb;let ed:d0 =↥dd:=congrArg (λx:Z4×Z4×Bool=>x.2.1)<|XQ bb;subst ed;let⟨bj,r,Rr,g1,g2,g3⟩:=id hP;let cl:=aS MI;obtain⟨C,fs',bz,c7,c2,c3⟩:∃C fs',H5 a=some (.ins C bj fs')/\Cls K C/\aF K C "day"/\List.lookup ("day":Str) fs'=some (V.int ↥dd):=by
      cases wh
      .exact{aC,_,g1,T.cu,T.iJ,lM}
      .exact{ay,_,g1,T.bZ,T.fT,lM}
     exists a,C,bj,_,_,G,bz,c7,c2,c3;refine aO [r4 p,some<|.bl gd,r4 st,r4 ld,r4 ma,r4 fa,t6 s0,t6 n,t6 ↥dd] ?_;dsimp only;exists _,G,_,G,ld,_,G,.inl {u,Sum.inl ↥dd,.inl L,G,G},_,G;cases am:aL u (Sum.inl ↥dd) with
     |some y=>exact eV {_,_,u,fs,G,s5,a0,a5,L,a2,B,(MI.skip eM (by rw[am];rfl)).mono bc}
     |none=>
      refine dB {_,G,_,G,_,G,ld,_,G,mw.k (k:=Sum.inl ↥dd) L<|aN o6,?_};let a6:Z9 H5 ld (.dK (putK u (Sum.inl ↥dd) (.int n))) fa=some (.lst (fs.map Z8)):=by rwa[ah bd.symm]
      let n1:la≠ld:=br a0 L nofun;let n2:ma≠ld:=br a5 L nofun;exists _,G,.inl {G,_,X0.of a6},_,G,fa,_,_,G,G,a6,(by rw[Xj];exact aN o6);refine{_,_,putK u (Sum.inl ↥dd)<|.int n,fs++[↥dd],G,λb' o e=>?_,by rwa[ah bv,ah n1],by rwa[ah c0.symm,ah n2],by rw[ah bd,af],by rw[af];simp,by rw[mZ,am];simp;omega,(MI.put hG.pos eM ho bt am).mono bc};rw[ah<|aq e bi,ah<|aq e as];exact s5 b' o e
    .rintro σ H6 ⟨Y,U,u,fs,rfl,s6,cf,be,bn,a6,B,MI⟩;refine{_,_,_,u,fs,G,s6,be,bn,a6,B,MI.mono λn h=>?_};let⟨s',cd,hn⟩:=h;rcases tk s' cd with h|rfl
     .exact .inl ⟨s',h,hn⟩
     .refine .inr ?_;rw[Xj,Yi];exact(al _ n).mpr hn
   .rintro σ H5 ⟨v6,Y,U,u,fs,rfl,s5,a5,L,a2,B,MI⟩;rw[Xj,Yi] at MI;let⟨ac,an⟩:=MI.end_ λn s d g e1 e2 e3=>{s,(aw s).mpr e3,nV.mpr ⟨d,g,e1,e2⟩}
    exact ca _ _ ⟨v6,Y,U,u,fs,G,s5,L,a2,B,ac,an⟩
  rintro σ H5 ⟨v6,Y,U,u,fs,rfl,s5,L,a2,B,ac,an⟩;exists _,G;let cm:=ab ac;refine{kvs.length-u.length +(if fs=[] then 0 else 1),?_,fa,_,_,_,_,u,fs,t+1,G,s5,L,a2,o6,ac,an,G};cases fs with
  |nil=>rw[Xm rfl];simp at B;omega
  |cons x r=>rw[Xn o8];simp at B;omega
 rintro σ H3 ⟨v4,v5,v6,Y,U,lk,rfl,s3,a3,LA,c9⟩;exact{_,G,q ld lk H3 a3 LA c9 (s1.free as)<|s1.trans s3}
variable(gJ:cE "last_pieces" 5 ["shelf","good"] (vP aB ay aC))
include T gJ in
theorem wI{f:fy}{fd:pW}{t:mu}(F:sX K "reached" "reached" jD f fd t):⋯ 6 f fd ["shelf","good"] (jU aB ay aC):=by
 refine F.okX Ek (λvs H Q E h=>?_) λx A outer s H vs Q E r h=>?_
 .let⟨p,d,fl,kvs,M,gd,rfl,c,b,q⟩:=h;rfl
 let⟨p,d,fl,kvs,M,gd,rfl,c,b,q⟩:=h;exists _,(av<|aM<|bq (nW G) o9 T.qA ZM<|aa (pcS gJ aG r<|aa (pv 0)<|aa (pv 1) aj) aj);refine{_,G,_,G,p,d,fl,kvs,M,gd,G,c,b,λld lk H1 g j v o s1=>?_};let⟨ns,a⟩:=m5 j.c8;let u:lk.length=ns.length:=by let:=congrArg List.length a;simpa using this
 refine{ld,lk,ns,G,g,a,o6,λl i n m hs=>?_};exact q l i _ af (j.rise c.pos a m hs) (by rw[m.length_eq];omega) (s1.free n)<|s1.trans<|ak.new n
variable(oM:oB "NoTable" aX 1 ["self","wide"] (fZ aX "wide"))
include T oM in
theorem Cd(F:Fun K "ask_wide" "ask_wide" qt f fd):⋯ 3 f fd ["wide"] (yj aX):=by
 refine F.okY Ce ?_;rintro vs H Q E ⟨wd,rfl,q1,b⟩;refine{G,λg A outer s c=>{_,(av<|cj (PW.pt<|pw_or (aQ jR (pv 0) aA<|aR _)<|pw_or1<|aQ xg (pv 0) (iQ (v:=.int 40) G T.z9 {_,G})<|aR _) (av<|fQ G gQ<|i8 oM (c.mono o7) G<|aa (pv 0) aj) bR),?_}};dsimp only[aW];by_cases a:¬(1≤wd/\wd≤40)
 .exists _,G,_,_,G,G,_,G;refine HD (λh=>?_) (λh=>?_)
  .refine dB ?_;exact{_,G,fK (E:=E) T.lN<|b a}
  .exists _,G,_,_,G,G,_,G;refine HD (λh'=>{_,G,fK (E:=E) T.lN<|b a}) λh'=>?_;simp at h h';omega
 let a:=Classical.not_not.mp a;exists _,G,_,_,G,G,_,G;refine gg o6 ?_;exists _,G,_,_,G,G,_,G;refine gg o6 ?_;exact q1 a
variable(mW:cE "ask_wide" 3 ["wide"] (yj aX))
include T mW in
theorem wz(F:Fun K "__init__" "Days.__init__" jS f fd):⋯ 4 f fd ["self","wide"] (yy aD aX):=by
 refine F.okY vR ?_;rintro vs H Q E ⟨p,dx,wd,rfl,hp,q1,q2⟩;refine⟨G,λa6 A outer s hr=>⟨_,(au (aY<|pcS mW aZ hr<|aa (pv 1) aj)
   (au (cM (pv 0) (pv 1) G)
   (au (cM (pv 0) aA G)
   (au (cM (pv 0) (bQ<|aa (aV EV (bQ<|aa aA aj)<|pv 1) aj) G)
   (av<|cM (pv 0) (bQ<|aa (bQ aj) aj) G))))),?_⟩⟩
 dsimp only[aW];refine{_,G,wd,G,λhw=>?_,q2};let q:=q1 hw;exists _,G,_,G,p,aD,dx,[],G,hp,T.cg,T.kT,(by show 0<1000;decide);exists _,G,p,aD,dx,_,G,af,T.cg,T.dG,(by show 1<1000;decide);rw[gp];refine{t8,λz hz=>?_};refine{_,G,z,wd,_,G,G,af,o6,o6,(by show 1*_≤Z7;exact Yk<|aN o6),λt C=>?_};refine{t8,λta x=>?_};let⟨a1,v⟩:=bf x;let⟨a2,Y⟩:=bf a1;let⟨a3,g⟩:=bf a2;let⟨b1,a4⟩:=bf C;let⟨b2,m⟩:=bf b1;let⟨c1,nz⟩:=bf hz;exists _,G,p,aD,dx,bC "last" (.int 0)<|bC "wide" (.int wd) [],G,(by simp[Z9,g.symm,m.symm,nz.symm]),T.cg,T.fB,(by let:=fV "last" (.int 0)<|bC "wide" (.int wd) [];let:=fV "wide" (.int wd) [];simp at *;omega);refine{Xw _,λe he=>?_};refine{t8,λsa U=>?_};let⟨d1,l⟩:=bf he;let⟨d2,B⟩:=bf d1;let⟨d3,y⟩:=bf d2;let⟨d4,a0⟩:=bf d3;let⟨d5,a5⟩:=bf d4;let⟨e1,O⟩:=bf U;let⟨e2,u⟩:=bf e1;let⟨e3,S⟩:=bf e2;let⟨e4,L⟩:=bf e3;let⟨e5,a8⟩:=bf e4;let⟨e6,a7⟩:=bf e5;exists _,G,p,aD,dx,bC "tables" (.ref ta)<|bC "last" (.int 0)<|bC "wide" (.int wd) [],G,(by simp[Z9,u.symm,l.symm]),T.cg,T.dZ,(by let:=fV "tables" (.ref ta)<|bC "last" (.int 0)<|bC "wide" (.int wd) [];let:=fV "last" (.int 0)<|bC "wide" (.int wd) [];let:=fV "wide" (.int wd) [];simp at *;omega);let ew:((wd.toNat:Z5):Z4)=wd:=by omega
 refine q ta sa t e _ {{dx,?_},?_,?_,{G,λi a xs h1 h2=>?_},{G,λi a xs h1 h2=>?_},?_,o8,G,λt C=>?_,o6,o6} (λb n=>?_) λb o n j=>?_
 .rw[af,Il,ew];rfl
 .simp[Z9,g,S.symm,B.symm]
 .simp[Z9,u]
 .match i,h1,h2 with
  |0,h1,h2=>
   let h1:t=a:=⇑h1
   let h2:List.replicate wd.toNat 0=xs:=⇑h2
   subst h1 h2;rw[←vJ];simp[Z9,m,L.symm,y.symm,v.symm]
  |i+1,h1,_=>simp at h1
 .match i,h1,h2 with
  |0,h1,h2=>
   let h1:e=a:=⇑h1
   let h2:[]=xs:=⇑h2
   subst h1 h2;simp[Z9,O.symm,l]
  |i+1,h1,_=>simp at h1
 .simp only[List.nodup_cons,List.mem_cons,List.mem_append,List.not_mem_nil,or_false,not_or,not_false_eq_true,List.nodup_nil,and_true,List.cons_append,List.nil_append];grind
 .let:t=List.replicate wd.toNat 0:=⇑C
  rw[this,Yu]
 .simp only[List.mem_cons,List.not_mem_nil,or_false] at n;rcases n with rfl|rfl|rfl|rfl
  .exact a3
  .exact e6
  .exact b2
  .exact d5
 .let j:b≠p:=⇑j
  let r:∀{c:fy},H c=Z0->b≠c:=λh=>aq n h
  simp[Z9,j,r e6,r d5,r a3,r b2,r c1,n]
variable(oQ:oB "NoBlock" bJ 1 ["self","block"] (fZ bJ "block"))
include T gw oQ in
theorem tw(F:Fun K "ask_change" "Days.ask_change" iZ f fd):⋯ 3 f fd ["self","place","block"] (yz aD bu bJ):=by
 refine F.okY rX ?_;rintro vs H Q E ⟨p,ta,sa,TL,SL,wd,v8,AL,c,rfl,D,g,q1,b⟩;refine⟨G,λi A outer s a=>⟨_,(au (cj (PW.pt<|pw_or (aQ jR (pv 1) aA<|aR _)<|pw_or1<|aQ Ah (pv 1) (aT (pv 0) G)<|aR _) (av<|fQ G gQ<|i8 gw (a.mono o7) G<|aa (pv 1) aj) bR)
   (av<|cj (PW.pt<|pw_or (aQ jR (pv 2) aA<|aR _)<|pw_or1<|aQ xg (pv 2) (iQ (v:=.int 18446744073709551615) G T.m_W {_,G})<|aR _) (av<|fQ G gQ<|i8 oQ (a.mono o7) G<|aa (pv 2) aj) bR)),?_⟩⟩
 dsimp only[aW];let⟨dx,h⟩:=D.ob;by_cases h1:c.1<0
 .exists _,G,_,_,G,G,_,G;refine iC h1 ?_;refine dB ?_;exact{_,G,fK (E:=E) T.ia<|q1 c.1 (by unfold gR;rw[Xm<|.inl h1])}
 exists _,G,_,_,G,G,_,G;refine gg h1 ?_;exists _,G,_,G,p,aD,dx,_,_,G,h,T.cg,T.kT,IQ,_,_,G,G,_,G;by_cases h2:↥wd≤c.1
 .refine iC h2 ?_;exact{_,G,fK (E:=E) T.ia<|q1 c.1 (by unfold gR;rw[Xm<|.inr h2])}
 refine gg h2 ?_;by_cases h3:c.2<0
 .exists _,G,_,_,G,G,_,G;refine iC h3 ?_;refine dB ?_;exact{_,G,fK (E:=E) T.rR<|b c.2 (by unfold gR;rw[Xn o6,Xm<|.inl h3])}
 exists _,G,_,_,G,G,_,G;refine gg h3 ?_;exists _,G,_,_,G,G,_,G;by_cases h4:18446744073709551615<c.2
 .refine iC h4 ?_;exact{_,G,fK (E:=E) T.rR<|b c.2 (by unfold gR;rw[Xn o6,Xm<|.inr h4])}
 refine gg h4 ?_;exact g (by unfold gR;rw[Xn o6,Xn o6])
variable(ud:oB "NoDay" bK 1 ["self","day"] (fZ bK "day"))
include T ud in
theorem w6(F:Fun K "ask_day" "Days.ask_day" kI f fd):⋯ 3 f fd ["self","day"] (yd aD bK):=by
 refine F.okY xB ?_;rintro vs H Q E ⟨p,ta,sa,TL,SL,wd,v8,AL,d,rfl,D,a,q1⟩;refine{G,λg A outer s b=>{_,(av<|cj (PW.pt<|pw_or (aQ jR (pv 1) aA<|aR _)<|pw_or1<|aQ xg (pv 1) (aT (pv 0) G)<|aR _) (av<|fQ G gQ<|i8 ud (b.mono o7) G<|aa (pv 1) aj) bR),?_}};dsimp only[aW];let⟨dx,c⟩:=D.ob;by_cases h1:d<0
 .exists _,G,_,_,G,G,_,G;refine iC h1 ?_;refine dB ?_;exact{_,G,fK (E:=E) T.xN<|q1 o6}
 exists _,G,_,_,G,G,_,G;refine gg h1 ?_;exists _,G,_,G,p,aD,dx,_,_,G,c,T.cg,T.dG,qd,_,_,G,G,_,G;by_cases h2:↥v8.length-1<d
 .refine iC h2 ?_;exact{_,G,fK (E:=E) T.xN<|q1 o6}
 refine gg h2 ?_;exact a o6
variable(cX:bB aD "ask_day" 3 ["self","day"] (yd aD bK))
include T cX in
theorem Ac(F:Fun K "table" "Days.table" nX f fd):⋯ 4 f fd ["self","day"] (wB aD bK):=by
 refine F.okY zI ?_;rintro vs H Q E ⟨p,ta,sa,TL,SL,wd,v8,AL,d,rfl,D,i,q1⟩;refine⟨G,λo A outer s j=>⟨_,(au (aY<|aU (pv 0) T.cg cX aZ (j.mono o7)<|aa (pv 1) aj)
   (av<|aM<|dI gm o9 T.j6 YA<|aa (bh bx (aT (pv 0) G) (pv 1) λ_ _=>rfl) aj)),?_⟩⟩
 dsimp only[aW];let⟨dx,h⟩:=D.ob;refine{_,G,p,dx,_,G,h,mP o4 o4 o4 o4,_,G,p,ta,sa,TL,SL,wd,v8,AL,d,G,D,λn=>?_,q1};let c:d.toNat<v8.length:=by omega
 let⟨g,b,_,a⟩:=D.tls.at_<|Xh c;refine{_,G,p,aD,dx,_,_,G,h,T.cg,T.fB,rM,_,G,ta,_,_,V.ref g,G,G,X0.of D.tl,?_,g,_,G,.inl<|X0.of a,λm l=>?_}
 .rw[show d =((d.toNat:Z5):Z4) by omega];refine dh ?_;simp[b]
 .exact i n m _ (Xh c) l
variable(f9:bB aD "ask_change" 3 ["self","place","block"] (yz aD bu bJ))
include T f9 in
theorem x6(F:Fun K "passes" "Days.passes" lV f fd):⋯ 4 f fd ["self","changes"] (sY aD bu bJ):=by
 refine F.okY eB ?_;rintro vs H Q E ⟨p,ta,sa,a,TL,SL,wd,v8,AL,L,A2,rfl,D,hA,R,bO,bZ,ac,q0,q1,q2⟩;refine⟨G,λbz A outer s hr=>⟨_,(au (eE XF G (dP<|pv 1) (pR G<|cS (pgN 2 eB.nd)<|cS (pgN 3 eB.nd) kN)
   (av<|aY<|aU (pv 0) T.cg f9 aZ (hr.mono o7)<|aa (pv 2)<|aa (pv 3) aj))
   (au (psS 4 eB.nd<|dI gm o9 T.j6 YA<|aa (bh bx (aT (pv 0) G) (aT (pv 0) G) λ_ _=>rfl) aj)
   (au (eE XF G (dP<|pv 1) (pR G<|cS (pgN 2 eB.nd)<|cS (pgN 3 eB.nd) kN)
   (av<|tH (pv 3)<|sW (pv 4) (pv 2) set_list))
   (au (aY<|jc XJ XZ Yb dH (aT (pv 0) G)<|aa (pv 4) aj)
   (au (aY<|jc XJ XZ Yb dH (aT (pv 0) G)<|aa (pY (N:=["place","block"]) (k:=2) (cap:=[]) G G (dP<|pv 1) (λ_ _ _ _=>(Dv (K:=K) (n:=2) G G<|cS (pgN 0 (show(["place","block"]:ee Z6).Nodup from by decide +kernel)<|.inr G)<|cS (pgN 1 (show(["place","block"]:ee Z6).Nodup from by decide +kernel)<|.inr G) kN)) (λ_ _ _ _=>pQ) λ_ _ _ _=>(pv 0)) aj)
   (au (cM (pv 0) (aV cZ (aT (pv 0) G) aA) G)
   (av<|aM<|aT (pv 0) G))))))),?_⟩⟩
 dsimp only[aW];let⟨dx,ob⟩:=D.ob;let tpos:0<v8.length:=Nat.pos_of_ne_zero D.ne;let bd:∀{i:Z5}{v:V},L[i]?=some v->i<A2.length:=λ{i v}h=>by rw[←R.len];exact(Xg.mp h).1
 refine⟨_,G,a,G,{_,X0.of hA},eG (K:=K) (a:=a) (xs:=L) (λi σ H2=>∃S U:nt V,σ=[r4 p,r4 a,S,U,Z0]/\H2=H/\∀j d,j<i->A2[j]?=some d->gR wd d=Z0)
  {Z0,Z0,G,G,λj d hj=>absurd hj<|Nat.not_lt_zero _} (λi σ H2 _ z0=>by let⟨_,_,_,e,_⟩:=z0;exact by rw[e];exact X0.of hA) ?_ ?_⟩
 .rintro i v σ H2 hi ⟨S,U,rfl,rfl,hp⟩;let⟨t,r,rfl,q,B⟩:=R.get i v hi;exists t,_,G,X3.of B,G,_,_,G,_,_,G,G;refine{_,G,p,dx,_,G,ob,mP o4 o4 o4 o4,_,G,_,G,p,ta,sa,TL,SL,wd,v8,AL,r,G,D,λy=>?_,λx y=>q1 x<|uX q hp y,λx y=>q2 x<|uX q hp y};refine{_,_,G,G,λj d hj hd=>?_};by_cases bo:j=i
  .rw[bo,q] at hd;cases hd;exact y
  .exact hp j d o6 hd
 rintro σ H2 ⟨S,U,rfl,rfl,a0⟩;let a4:dS wd A2=Z0:=by unfold dS;rw[List.findSome?_eq_none_iff];intro c hc;let⟨j,hj⟩:=XM.mp hc;exact a0 j c (by rw[R.len];exact(Xg.mp hj).1) hj
 let bi:∀ c∈A2,gR wd c=Z0:=zN a4;let u:v8[v8.length-1]?=some v8[v8.length-1]:=Xh o6;generalize v8[v8.length-1]=g at u;let⟨t0,bp,_,bn⟩:=D.tls.at_ u;refine{_,G,p,aD,dx,_,_,G,ob,T.cg,T.fB,rM,_,G,p,aD,dx,_,_,G,ob,T.cg,T.dG,qd,ta,_,_,V.ref t0,G,G,X0.of D.tl,?_,t0,_,G,.inl<|X0.of bn,λm C=>?_}
 .rw[show↥v8.length-1 =((v8.length-1:Z5):Z4) by omega];refine dh ?_;simp[bp]
 let aw:g.length=wd:=D.wds g<|Xl u;let a1:a≠m:=aq hA C;let am:p≠m:=aq ob C;let a5:ta≠m:=aq D.tl C;let a7:sa≠m:=aq D.sl C;refine⟨_,G,a,G,{_,X0.of (by rwa[ah a1])},eG (K:=K) (a:=a) (xs:=L) (λi σ H3=>∃S U:nt V,σ=[r4 p,r4 a,S,U,r4 m]/\H3=Z9 H2 m (.lst<|(nextT g<|A2.take i).map Z8))
  ⟨S,U,G,G⟩ (λi σ H3 _ z0=>by let⟨_,_,_,e⟩:=z0;exact by rw[e];exact X0.of (by rwa[ah a1])) ?_ ?_⟩
 .rintro i v σ H3 hi ⟨S,U,rfl,rfl⟩;let⟨t,r,rfl,q,B⟩:=R.get i v hi;let⟨r1,r2,_,_⟩:=FL<|bi r<|Xl q;exists t,_,G,X3.of (by rwa[ah<|aq B C]),G,_,_,G,_,_,G,G;exists _,G,_,G,_,G,m,_,_,r.1.toNat,G,G,af,?_
  .rw[Xj,tW,aw];unfold ixN;rw[Xm o6,Xm o6]
  .exists _,_,G;rw[gp];let e:A2.take (i+1)=A2.take i++[r]:=by rw[XT,q];rfl
   rw[e,qg,abQ]
 rintro σ H3 ⟨S,U,rfl,rfl⟩;rw[show A2.take L.length=A2 by rw[R.len,Yi]];let nd:=D.nd;simp only[List.nodup_cons,List.mem_cons,List.mem_append,not_or] at nd;let⟨⟨as,a2,ba,bm⟩,⟨ae,aH,bj⟩,⟨bl,ax⟩,_⟩:=nd;simp only[foot,List.mem_cons,List.mem_append,not_or] at ac;let⟨c1,a6,bv,bW,bA⟩:=ac;let ar:Z9 H2 m (.lst ((nextT g A2).map Z8)) p=some (.ins aD dx (fl ↥wd (↥v8.length-1) ta sa)):=by rwa[ah am]
 let Y:Z9 H2 m (.lst ((nextT g A2).map Z8)) ta=some (.lst (TL.map V.ref)):=by rw[ah a5];exact D.tl
 let c2:=D.tls.len;let c0:=D.sls.len;let ai:=D.lens;exists _,G,p,aD,dx,_,_,G,ar,T.cg,T.fB,rM,.inl {G,_,X0.of Y},_,G,ta,_,_,G,G,Y,(by rw[Xj];exact aN o6);let ab:Z9 (Z9 H2 m (.lst ((nextT g A2).map Z8))) ta (.lst (TL.map V.ref++[.ref m])) p=some (.ins aD dx (fl ↥wd (↥v8.length-1) ta sa)):=by rwa[ah as]
 let O:Z9 (Z9 H2 m (.lst ((nextT g A2).map Z8))) ta (.lst (TL.map V.ref++[.ref m])) sa=some (.lst (SL.map V.ref)):=by rw[ah<|Yo ae,ah a7];exact D.sl
 let al:Z9 (Z9 H2 m (.lst ((nextT g A2).map Z8))) ta (.lst (TL.map V.ref++[.ref m])) a=some (.lst L):=by rwa[ah a6,ah a1]
 exists _,G,p,aD,dx,_,_,G,ab,T.cg,T.dZ,Fl,.inl {G,_,X0.of O};refine{_,G,a,G,{_,X0.of al},λD' bt=>?_};let⟨aS,bc⟩:=bf bt;let⟨l,a8⟩:=bf aS;let a9:D'≠p:=(aq ob l).symm;let a3:D'≠sa:=(aq D.sl l).symm;let bb:a≠D':=aq hA l;refine oO D' (K:=K) (a:=a) (xs:=L) (λi σ H5 ys=>∃v v':nt V,σ=[v,v']/\H5=Z9 (Z9 (Z9 H2 m<|.lst<|(nextT g A2).map Z8) ta<|.lst<|TL.map V.ref++[.ref m]) D' (.lst ys)/\ys =((A2.take i).map Prod.fst).map Z8)
  ⟨Z0,Z0,G,G,G⟩ (λi σ H5 ys _ z0=>by let⟨_,_,_,e,_⟩:=z0;exact by rw[e];exact X0.of (by rwa[ah bb])) ?_ ?_
 .rintro i x σ H5 ys hi ⟨v,v',rfl,rfl,hy⟩;let bY:=bd hi;let⟨t,r,rfl,q,B⟩:=R.get i x hi;let be:Z9 (Z9 (Z9 H2 m (.lst ((nextT g A2).map Z8))) ta (.lst (TL.map V.ref++[.ref m]))) D' (.lst ys) t=some (.tup [.int r.1,.int r.2]):=by rwa[ah<|aq B l,ah<|br B D.tl nofun,ah<|aq B C]
  exists t,_,G,X3.of be,G,_,_,G,_,_,G,G,_,G,af,(by rw[hy];exact aN (by simp;omega));exact{_,_,G,by rw[gp],by rw[hy,XT,q];simp}
 rintro σ H5 ys ⟨v,v',rfl,rfl,hy⟩;rw[show A2.take L.length=A2 by rw[R.len,Yi]] at hy;subst hy;let an:Z9 (Z9 (Z9 H2 m (.lst ((nextT g A2).map Z8))) ta (.lst (TL.map V.ref++[.ref m]))) D' (.lst ((A2.map Prod.fst).map Z8)) sa=some (.lst (SL.map V.ref)):=by rwa[ah<|Yo a3]
 exists sa,_,_,G,G,an,(by rw[Xj];exact aN o6);let ag:Z9 (Z9 (Z9 (Z9 H2 m (.lst ((nextT g A2).map Z8))) ta (.lst (TL.map V.ref++[.ref m]))) D' (.lst ((A2.map Prod.fst).map Z8))) sa (.lst (SL.map V.ref++[.ref D'])) p=some (.ins aD dx (fl ↥wd (↥v8.length-1) ta sa)):=by rwa[ah a2,ah<|Yo a9]
 exists _,G,p,aD,dx,_,_,G,ag,T.cg,T.dG,qd,_,_,G,G,_,G,p,aD,dx,_,G,ag,T.cg,T.dG,(by show 4<1000;decide);rw[Qs];exists _,G,p,aD,dx,_,_,G,af,T.cg,T.dG,qd;let el:↥v8.length-1+1 =↥v8.length:=by omega
 let fm:=D.fresh C;let fD:=D.fresh l;let z:=q0 a4 m D' (Z9 (Z9 (Z9 (Z9 (Z9 H2 m<|.lst<|(nextT g A2).map Z8) ta<|.lst<|TL.map V.ref++[.ref m]) D'<|.lst<|(A2.map Prod.fst).map Z8) sa<|.lst<|SL.map V.ref++[.ref D']) p<|.ins aD dx<|fl ↥wd (↥v8.length-1+1) ta sa) g u ?_ C l ?_
 .exact(congrArg (λn:Int=>Q (V.int n) _) el).mpr z
 .let old:∀b o,b∈TL++SL->H2 b=some o->Z9 (Z9 (Z9 (Z9 (Z9 H2 m<|.lst<|(nextT g A2).map Z8) ta<|.lst<|TL.map V.ref++[.ref m]) D'<|.lst<|(A2.map Prod.fst).map Z8) sa<|.lst<|SL.map V.ref++[.ref D']) p (.ins aD dx<|fl ↥wd (↥v8.length-1+1) ta sa) b=some o:=λb o y e=>by
   let b1:b≠p:=by rintro rfl;rcases Xv.mp y with z|z;exact ba z;exact bm z
   let b2:b≠ta:=by rintro rfl;rcases Xv.mp y with z|z;exact aH z;exact bj z
   let b3:b≠sa:=by rintro rfl;rcases Xv.mp y with z|z;exact bl z;exact ax z
   rw[ah b1,ah b3,ah<|aq e l,ah b2,ah<|aq e C];exact e
  refine{{dx,?_},?_,?_,(D.tls.mono λa ha o e=>old a o (Xu _ ha) e).snoc ?_,(D.sls.mono λa ha o e=>old a o (XD _ ha) e).snoc ?_,?_,o8,by simp[ai],λt B=>?_,D.w1,D.w2}
  .rw[af];congr 2;simp
  .simp[Z9,Ne.symm as,ae,Ne.symm bc]
  .simp[Z9,Ne.symm a2]
  .simp[Z9,Ne.symm am,Ne.symm a7,Ne.symm a8,Ne.symm a5]
  .simp[Z9,a9,a3]
  .exact DU D.nd fm fD (Yo a8)
  .rcases Xv.mp B with h|h
   .exact D.wds t h
   .let:t=nextT g A2:=⇑h
    rw[this,tW,aw]
 .intro b o e y;let n1:b≠p:=λz=>y (by simp[foot,z])
  let n2:b≠ta:=λz=>y (by simp[foot,z])
  let n3:b≠sa:=λz=>y (by simp[foot,z])
  rw[ah n1,ah n3,ah<|aq e l,ah n2,ah<|aq e C];exact e
include T cX in
theorem wZ(F:Fun K "written" "Days.written" kG f fd):⋯ 4 f fd ["self","one","other"] (qD aD bK):=by
 refine F.okY jZ ?_;rintro vs H Q E ⟨p,ta,sa,TL,SL,wd,v8,AL,one,other,rfl,D,m,a0,q0,q1⟩;refine⟨G,λa2 A outer s t=>⟨_,(au (aY<|aU (pv 0) T.cg cX aZ (t.mono o7)<|aa (pv 1) aj)
   (au (aY<|aU (pv 0) T.cg cX aZ (t.mono o7)<|aa (pv 2) aj)
   (au (psS 3 jZ.nd<|bQ aj)
   (au (eE XF G (zw G T.m8<|aa (aV cZ (bq (zv G) o9 T.HW abi<|aa (pv 1)<|aa (pv 2) aj) aA)<|aa (aV cZ (bq (za G) o9 T.wX abh<|aa (pv 1)<|aa (pv 2) aj) aA) aj) (pgN 4 jZ.nd)
   (av<|aY<|jc XJ aaS aaT yX (pv 3)<|aa (bh bx (aT (pv 0) G) (pv 4) λ_ _=>rfl) aj))
   (av<|aM<|Ik G o9 T.qA o9 T.Ug<|pv 3))))),?_⟩⟩
 dsimp only[aW];let⟨dx,B⟩:=D.ob;let a1:=D.lens;refine{_,G,p,dx,_,G,B,mP o4 o4 o4 o4,_,G,p,ta,sa,TL,SL,wd,v8,AL,one,G,D,λho=>?_,λL=>q1 one<|.inl ⟨L,G⟩};refine{_,G,p,dx,_,G,B,mP o4 o4 o4 o4,_,G,p,ta,sa,TL,SL,wd,v8,AL,other,G,D,λht=>?_,λL=>q1 other<|.inr ⟨ho,L,G⟩};refine{Xw _,λpl q=>?_};let e1:(if other<one then other else one)=min one other:=by split <;> omega
 let e2:(if other>one then other else one)=max one other:=by split <;> omega
 exists _,G,_,G,one,other,G,_,_,G,G,_,G,_,G,one,other,G,_,_,G,G,min one other+1,max one other+1,by rw[e1,e2],⟨o6,o6,o6,o6⟩;refine oN (lo:=min one other+1) (n:=((max one other+1) -(min one other+1)).toNat) (λi σ H2=>∃(U:nt V)(ns:ee Z4),σ=[r4 p,t6 one,t6 other,r4 pl,U]/\ak H H2/\H2 pl=some (.lst<|ns.map Z8)/\ns.length≤300*i/\(∀k,k∈ns↔pX AL (min one other) (min one other+i) k)/\∀ x∈ns,0≤x/\x <↥wd) {Z0,[],G,ak.new q,af,o8,λk=>{λh=>by simp at h,λ⟨d,xs,h1,h2,_⟩=>by omega},λx h=>by simp at h} ?_ ?_
 .rintro i σ H2 hi ⟨U,ns,rfl,s2,a,S,g,j⟩;let D2:=D.same s2;obtain⟨d,hd⟩:∃d:Z5,min one other+1 +↥i =↥d:={(min one other+1 +↥i).toNat,o6};let u:d<AL.length:=by omega
  let c:AL[d]?=some AL[d]:=Xh u;let⟨xa,y,_,O⟩:=D2.sls.at_ c;let v:=m.day AL[d] (Yh u);exists _,G,.inl {G,_,X0.of a},_,G,p,aD,dx,_,_,G,s2 _ _ B,T.cg,T.dZ,Fl,_,G,sa,_,_,V.ref xa,G,G,X0.of D2.sl,?_
  .rw[hd];exact dh (by rw[Xo,y];rfl)
  exists pl,xa,_,_,G,G,a,O,(by rw[Xj,Xj];exact IG o6);refine{_,ns++AL[d],G,λb o e=>by rw[ah<|aq e q];exact s2 b o e,by rw[af,YX],by rw[YI];omega,λk=>?_,λx hx=>?_}
  .rw[Xv,g k];constructor
   .rintro(⟨d',xs,h1,h2,h3,h4⟩|h)
    .exact⟨d',xs,h1,o6,h3,h4⟩
    .exact{d,_,o6,o6,c,h}
   .rintro⟨d',xs,h1,h2,h3,h4⟩;by_cases z:d'=d
    .subst z;rw[c] at h3;cases h3;exact .inr h4
    .exact .inl ⟨d',xs,h1,o6,h3,h4⟩
  .rcases Xv.mp hx with h|h
   .exact j x h
   .exact v.2 x h
 .rintro σ H2 ⟨U,ns,rfl,s2,a,S,g,j⟩;refine{_,G,pl,ns,G,X0.of a,UD m.most j,λr Y t C l=>q0 ho ht r Y _ af (s2.free t) C (λk=>(l k).trans<|(g k).trans ?_)<|s2.trans<|ak.new t};rw[show min one other +((((max one other+1) -(min one other+1)).toNat:Z5):Z4)=max one other by omega]
variable(mT:ua "Whole" ay 4 ["self","day","rows","check"] [Value.none] (kB ay aC))
variable(e8:bB aD "table" 4 ["self","day"] (wB aD bK))
include T mT e8 in
theorem Cn(F:Fun K "whole_of" "whole_of" qL f fd):⋯ 6 f fd ["days","day"] (qM aD ay aC bK):=by
 refine F.okY BZ ?_;rintro vs H Q E ⟨p,wd,v8,AL,day,rfl,v,q1,O⟩;refine{G,λL A outer s y=>{_,(av<|aM<|zA (dvs:=[V.non]) mT (Paired.cons G Paired.nil) aG (y.mono o7) G<|aa (pv 1)<|aa (Cp G G T.j6 G T.BY<|aU (pv 0) T.cg e8 aZ (y.mono o7)<|aa (pv 1) aj) aj),?_}};dsimp only[aW];let upK:∀{l:Hp}{x dx:fy}{o:HO},l x=Z0->l dx=Z0->∀t o',l t=some o'->Z9 (Z9 l dx (.own x)) x o t=some o':=λj g t o' e=>by rw[ah<|aq e j,ah<|aq e g];exact e
 let⟨ta,sa,TL,SL,D⟩:=v.D;let⟨dx,z⟩:=D.ob;refine{_,G,_,G,p,dx,_,G,z,mP o4 o4 o4 o4,_,G,p,ta,sa,TL,SL,wd,v8,AL,day,G,D,λi t a c B=>?_,λh=>O h};obtain⟨d,rfl⟩:∃d:Z5,day =↥d:={day.toNat,by let:=i.1;omega};let b:=v.T a<|Xl c;let s1:ak H (Z9 H t (.lst (a.map Z8))):=ak.new B;refine{t,_,G,X0.of af,λr ts H2 U s2 m q u=>?_};let R:=enum_rows u m b.2;let n:=s1.trans s2;refine λx dx j g Y=>{x,dx,r,d,_,gW a,.non,_,G,af,.inl<|upK j g _ _ q,R.mono λt xs e=>upK j g t _ e,by rw[lD,b.1];let:=D.w2;omega,.inl ⟨G,G⟩,λS C k5=>{G,?_}}
 exact q1 i x a S c C<|n.trans<|dw j g k5
variable(iG:bB aD "written" 4 ["self","one","other"] (qD aD bK))
variable(jy:oB "NoBase" aK 1 ["self","base","day"] (Af aK "base" "day"))
variable(oz:ua "Gain" aC 4 ["self","base","day","rows","check"] [Value.none] (kK ay aC))
include T e8 iG jy oz in
theorem DS(F:Fun K "gain_of" "gain_of" rQ f fd):⋯ 6 f fd ["days","base","day"] (tN aD ay aC bK aK):=by
 refine F.okY qE ?_;rintro vs H Q E ⟨p,wd,v8,AL,base,day,rfl,O,q1,q2,q3⟩;refine⟨G,λa9 A outer s hr=>⟨_,(au (psS 3 qE.nd<|aU (pv 0) T.cg iG aZ (hr.mono o7)<|aa (pv 1)<|aa (pv 2) aj)
   (au (cj (aQ Ah (pv 1) (pv 2)<|aR _) (av<|fQ G gQ<|i8 jy (hr.mono o7) G<|aa (pv 1)<|aa (pv 2) aj) bR)
   (au (A4 (i:=4) qE.nd G (Or.inr G)<|aU (pv 0) T.cg e8 aZ (hr.mono o7)<|aa (pv 2) aj)
   (av<|aM<|zA (dvs:=[V.non]) oz (Paired.cons G Paired.nil) aG (hr.mono o7) G<|aa (pv 1)<|aa (pv 2)<|aa (pY (N:=["place","table"]) (k:=1) (cap:=[4]) G G (dP<|pv 3) (λ_ _ _ _=>(pgN 0 (show(["place","table"]:ee Z6).Nodup from by decide +kernel)<|.inr G)) (λ_ _ _ _=>pQ) λ_ _ _ _=>(dc<|aa (pv 0)<|aa (bh (Br (K:=K) G) (pv 1) (pv 0) λ_ _=>rfl) aj)) aj)))),?_⟩⟩
 dsimp only[aW];let upK:∀{H4:Hp}{x dx:fy}{o:HO},H4 x=Z0->H4 dx=Z0->∀t o',H4 t=some o'->Z9 (Z9 H4 dx (.own x)) x o t=some o':=λhx B t o' e=>by rw[ah<|aq e hx,ah<|aq e B];exact e
 let⟨ta,sa,TL,SL,D⟩:=O.D;let⟨dx,ob⟩:=D.ob;refine{_,G,p,dx,_,G,ob,mP o4 o4 o4 o4,_,G,_,G,p,ta,sa,TL,SL,wd,v8,AL,base,day,G,D,O.S,O.n,λhb B r ns H1 a7 nr hp hm s1=>?_,λd h=>q3 d h};refine aO [r4 p,t6 base,t6 day,r4 r,Z0] ?_;dsimp only;by_cases a4:base<day
 .refine iI (λQb hq=>?_) ?_
  .exists _,G,_,G,_,_,G,G,_,G;rwa[XH (show ¬day≤base by omega)]
  unfold mO;dsimp only;let D1:=D.same s1;let⟨a1,a5⟩:=D1.ob;refine{_,G,p,a1,_,G,a5,mP o4 o4 o4 o4,_,G,p,ta,sa,TL,SL,wd,v8,AL,day,G,D1,λ_ t c m hn=>?_,λh=>absurd B h};let l:=O.T c<|Xl m;let s2:ak H1 (Z9 H1 t (.lst (c.map Z8))):=ak.new hn;let a0:Z9 H1 t (.lst (c.map Z8)) t=some (.lst (c.map Z8)):=af;generalize Z9 H1 t (.lst (c.map Z8))=H2 at s2 a0 ⊢;refine aO [r4 p,t6 base,t6 day,r4 r,r4 t] ?_;dsimp only;rw[show min base day=base by omega,show max base day=day by omega] at hm;obtain⟨b,rfl⟩:∃b:Z5,base =↥b:={base.toNat,by let:=hb.1;omega};obtain⟨d,rfl⟩:∃d:Z5,day =↥d:={day.toNat,by let:=B.1;omega};let L:∀ k∈ns,0≤k/\k <↥wd:=λk hk=>uf O.S<|(hm k).mp hk
  let ab:=we hp L;let a8:=D.w2;let U:=s2 _ _ a7;refine{_,G,_,G,_,G,r,G,{_,X0.of U},λD' Y=>?_};refine oO D' (K:=K) (a:=r) (xs:=ns.map Z8) (λi σ C ys=>∃v:nt V,σ=[v,r4 t]/\ak H2 C/\C D'=some (.lst ys)/\bP C ys (cW (ns.take i) c)) {Z0,G,ak.new Y,af,{G,λi v e=>by simp at e}} (λi σ C ys _ z0=>by let⟨_,_,s3,_⟩:=z0;exact X0.of<|s3 _ _ U) ?_ ?_
  .rintro i v σ C ys hi ⟨v0,rfl,s3,g,R3⟩;rw[Xo] at hi;let⟨k,hk,rfl⟩:=XA.mp hi;let a6:=L k<|Xl hk;let u:k.toNat<c.length:=by rw[l.1];omega
   let tk:ns.take (i+1)=ns.take i++[k]:=by rw[XT,hk];rfl
   let a3:=l.2 c[k.toNat] (Yh u);let a2:c.getD k.toNat 0=c[k.toNat]:=by rw[Yy,Xh u];rfl
   refine{_,G,_,G,_,G,t,_,_,V.int c[k.toNat],G,G,X0.of<|s3 _ _ a0,?_,t9,λt2 y=>?_}
   .obtain⟨j,rfl⟩:∃j:Z5,k =↥j:=⟨k.toNat,o6⟩;let hj:j<c.length:=u;exact dh (by rw[Xo,Xh hj];rfl)
   let nD:D'≠t2:=aq g y;exists by rwa[ah nD],by rw[R3.len,lP,YC];exact aN o6,_,G,λb' o e=>?_,af
   .rw[ah<|aq e Y];exact ak.new y b' _<|s3 b' _ e
   .rw[tk,xC];refine(R3.mono λb' xs e=>?_).snoc ?_
    .rw[ah<|br e g nofun];exact ak.new y b' _ e
    .rw[ah nD.symm,af];show some (HO.tup [V.int k,V.int c[k.toNat]])=some (HO.tup [V.int ↥k.toNat,V.int ((c.getD k.toNat 0).toNat:Z4)]);rw[a2,aal a6.1,aal a3]
  .rintro σ C ys ⟨v0,rfl,s3,g,R3⟩;rw[Xj,Yi] at R3;refine λx dx hx q ne=>{x,dx,D',b,d,ys,cW ns c,.non,_,G,af,.inl<|upK hx q _ _ g,R3.mono λt xs e=>upK hx q t _ e,by rw[lP];omega,.inl ⟨G,G⟩,λJ5 hP k5=>{G,?_}}
   exact q1 hb B a4 x ns c J5 m hp hm hP<|(s1.trans<|s2.trans s3).trans<|dw hx q k5
 .refine fN (λQb hq=>?_) ?_
  .exists _,G,_,G,_,_,G,G,_,G;rwa[Xr (show day≤base by omega)]
  exact{_,G,_,G,F1 (E:=E) T.gA λe H' he hs=>q2 hb B o6 e H' he<|s1.trans hs}
include T in
theorem w4(F:Fun K "_law_cell_at" "_law_cell_at" kE f fd):⋯ 1 f fd ["_law_script","_law_k"] (yp K):=by
 refine F.okY wH ?_;rintro vs H Q E ⟨a,ns,k,rfl,b,q⟩;refine⟨G,λc A outer s g=>⟨_,(au (cj (aQ jR (pv 1) (bq bM o9 T.fE Yc<|aa (pv 0) aj)<|aR _) (av<|aM<|bh bx (pv 0) (pv 1) λ_ _=>rfl) bR)
   (av<|aM aA)),?_⟩⟩
 dsimp only[aW];exists _,G,_,G,a,_,G,.inl b,_,_,G,G,_,G;refine HD (λh=>?_) λh=>?_
 .let h:k<ns.length:=⇑h
  exists _,G,_,G,a,_,_,V.int<|ns.getD k 0,G,G,b,dh ?_
  .simp[h]
  .let e:uy ns k=ns.getD k 0:=by unfold uy;rw[Xm o6];rfl
   rwa[e] at q
 .let h:¬k<ns.length:=⇑h
  let e:uy ns k=0:=by unfold uy;rw[Xn o6]
  rwa[e] at q
include T in
theorem zT(F:Fun K "_law_whole" "_law_whole" ni f fd):⋯ 1 f fd ["_law_found"] (vf):=by refine F.okY zO ?_;rintro vs H Q E ⟨n,rfl,q⟩;refine{G,λa A outer s b=>{_,(av<|aM<|sM (bq uY o9 T.gj Yw<|aa (pv 0)<|aa (CT (v:=.ty "int") G T.HY abj G) aj)<|wM<|Lv<|bq uY o9 T.gj Yw<|aa (pv 0)<|aa (CT (v:=.ty "bool") G T.JC PyProof.Rows.boot_bool G) aj),?_}};dsimp only[aW];exists _,G,_,_,_,_,Z1,G,G,.int _,G,_,G;refine dB ?_;exists _,G,_,_,_,_,Z2,G,G,.int _,(by with_unfolding_all rfl),_,G;exact q
include T in
theorem xK(F:Fun K "deeds" "Store.deeds" mC f fd):⋯ 1 f fd ["self"] (vn ao):=by refine F.okY xU ?_;rintro vs H Q E ⟨p,h,n,nl,dl,j,m,sk,i,c,rfl,⟨dx,h1⟩,b,a,q⟩;refine{G,λg A outer s l=>{_,(av<|aM<|bq bM o9 T.fE Yc<|aa (aT (pv 0) G) aj),?_}};dsimp only[aW];exact{_,G,p,ao,dx,_,_,G,h1,T.aH,T.fz,vY,nl,c,G,.inl<|X0.of b,q}
include T in
theorem yL(F:Fun K "marks" "Store.marks" lT f fd):⋯ 1 f fd ["self"] (vH ao):=by refine F.okY xV ?_;rintro vs H Q E ⟨p,h,n,nl,dl,j,m,sk,i,b,rfl,⟨dx,h1⟩,c,a,q⟩;refine{G,λg A outer s l=>{_,(av<|aM<|dI mq o9 T.xY ZO<|aa (aT (pv 0) G) aj),?_}};dsimp only[aW];refine{_,G,p,ao,dx,_,_,G,h1,T.aH,T.gk,xX,dl,b,G,.inl {X0.of c,q}}
variable(ow:oB "NoShelf" bX 1 ["self","shelf"] (fZ bX "shelf"))
include T ow in
theorem rT(F:Fun K "ask_shelf" "Store.ask_shelf" iT f fd):⋯ 3 f fd ["self","shelf"] (pG ao):=by refine F.okY rH ?_;rintro vs H Q E ⟨p,h,c,nl,dl,l,m,sk,j,SL,i,rfl,⟨dx,h1⟩,b,h3,hi,q⟩;refine{G,λg A outer s a=>{_,(av<|cj (PW.pt<|pw_or (aQ jR (pv 1) aA<|aR _)<|pw_or1<|aQ Ah (pv 1) (bq bM o9 T.fE Yc<|aa (aT (pv 0) G) aj)<|aR _) (av<|fQ G gQ<|i8 ow (a.mono o7) G<|aa (pv 1) aj) bR),?_}};dsimp only[aW];exists _,G,_,_,G,G,_,G;refine gg o6 ?_;exists _,G,_,G,p,ao,dx,_,_,G,h1,T.aH,T.bY,fO,c,SL,G,.inl<|X0.of b,_,_,G,G,_,G;refine gg o6 ?_;exact q
include T in
theorem x9(F:Fun K "today" "Store.today" mF f fd):⋯ 1 f fd ["self"] (wg ao aD):=by refine F.okY xW ?_;rintro vs H Q E ⟨p,a,l,nl,dl,h,ta,sa,TL,SL,wd,v8,AL,j,sk,g,rfl,⟨dx,h1⟩,D,q⟩;refine{G,λb A outer s i=>{_,(av<|aM<|aT (aT (pv 0) G) G),?_}};dsimp only[aW];let⟨dd,c⟩:=D.ob;exact{_,G,p,ao,dx,_,_,G,h1,T.aH,T.eX,ue,a,aD,dd,_,_,G,c,T.cg,T.dG,qd,q}
variable(bA:bB ao "ask_shelf" 3 ["self","shelf"] (pG ao))
include T c7 bA in
theorem vK(F:Fun K "numbers" "Store.numbers" j3 f fd):⋯ 4 f fd ["self","shelf"] (pI ao aB):=by
 refine F.okY vD ?_;rintro vs H Q E ⟨p,n,j,nl,dl,r,t,sk,o,SL,i,x,d,fl,kvs,ns,rfl,⟨dx,h1⟩,h,h3,hi,m,⟨g,l,u⟩,b,a,q⟩;refine⟨G,λv A outer s c=>⟨_,(au (aY<|aU (pv 0) T.aH bA aZ (c.mono o7)<|aa (pv 1) aj)
   (av<|aM<|bw (bh bx (aT (pv 0) G) (pv 1) λ_ _=>rfl) T.bO c7 aG<|c.mono o7)),?_⟩⟩
 dsimp only[aW];exists _,G,p,dx,_,G,h1,bU o4,_,G,p,n,j,nl,dl,r,t,sk,o,SL,i,G,⟨dx,h1⟩,h,h3,hi;exists _,G,p,ao,dx,_,_,G,h1,T.aH,T.bY,fO,_,G,j,SL,_,_,G,G,X0.of h,Bc m;exact{x,g,_,G,l,gH o4 o4,x,d,fl,kvs,ns,G,⟨g,l,u⟩,b,a,q}
include T bW bA in
theorem xO(F:Fun K "piece" "Store.piece" lU f fd):⋯ 4 f fd ["self","shelf","number"] (rY ao aB):=by
 refine F.okY yu ?_;rintro vs H Q E ⟨p,m,j,nl,dl,r,t,sk,o,SL,i,x,d,fl,kvs,n,v,rfl,⟨dx,h1⟩,g,h3,hi,y,⟨c,l,u⟩,h,q⟩;refine⟨G,λz A outer s b=>⟨_,(au (aY<|aU (pv 0) T.aH bA aZ (b.mono o7)<|aa (pv 1) aj)
   (av<|aM<|aU (bh bx (aT (pv 0) G) (pv 1) λ_ _=>rfl) T.bO bW aZ (b.mono o7)<|aa (pv 2) aj)),?_⟩⟩
 dsimp only[aW];exists _,G,p,dx,_,G,h1,bU o4,_,G,p,m,j,nl,dl,r,t,sk,o,SL,i,G,⟨dx,h1⟩,g,h3,hi;exists _,G,p,ao,dx,_,_,G,h1,T.aH,T.bY,fO,_,G,j,SL,_,_,G,G,X0.of g,Bc y;refine{x,c,_,G,l,gH o4 o4,_,G,x,d,fl,kvs,n,G,⟨c,l,u⟩,λw a=>?_,λa=>?_}
 .rw[h] at a;cases a;exact q
 .rw[h] at a;cases a
variable(kZ:bB aB "put" 2 ["self","piece"] (AM aB))
variable(kg:bB aB "drop" 4 ["self","number"] (yq aB bI))
include T kZ kg in
theorem D0(F:Fun K "do_deed" "do_deed" tM f fd):⋯ 5 f fd ["shelf","deed"] (tG aB):=by refine F.okY DQ ?_;rintro vs H Q E ⟨x,d,t,a,fl,kvs,rfl,c,⟨h,i,m⟩,b,q⟩;refine{G,λn A outer s g=>{_,(av<|cj (aQ fC (bh eW (pv 1) aA λ_ _=>rfl) aJ<|aR _) (av<|aY<|aU (pv 0) T.bO kZ aG (g.mono o7)<|aa (bh eW (pv 1) aA λ_ _=>rfl) aj)<|av<|aY<|aU (pv 0) T.bO kg aZ (g.mono o7)<|aa (bh eW (pv 1) aA λ_ _=>rfl) aj),?_}};dsimp only[aW];refine fN (λo j=>{_,G,t,_,_,V.str _,G,G,X3.of c,G,G,_,G,by rwa[Xr rfl]}) ?_;exact{_,G,x,h,_,G,i,gH o4 o4,_,G,t,_,_,V.ref a,G,G,X3.of c,G,x,d,fl,kvs,a,G,⟨h,i,m⟩,b,λH' l k=>q H' l k}
variable(oS:cE "do_deed" 5 ["shelf","deed"] (tG aB))
include T bA oS in
theorem yD(F:Fun K "carry" "Store.carry" lW f fd):⋯ 6 f fd ["self","shelf","many"] (vG ao aB):=by
 refine F.okY iH ?_;rintro vs H Q E ⟨p,q',sl,nl,dl,se,x,d,t,a,rl,sk,ea,y,z,D1,D2,U,n,fl,kvs,rfl,⟨dx,h1⟩,hS,hN,hn,h9,ht,C,hX,u,q⟩;refine⟨G,λa8 A outer s hr=>⟨_,(au (aY<|aU (pv 0) T.aH bA aZ (hr.mono o7)<|aa (pv 1) aj)
   (au (psS 3 iH.nd<|bh bx (aT (pv 0) G) (pv 1) λ_ _=>rfl)
   (au (psS 4 iH.nd<|BC Dy (aT (pv 0) G) (yx<|pv 3)<|yx<|aV cZ (pv 3)<|pv 2)
   (au (eE XF G (dP<|pv 4) (pgN 5 iH.nd)
   (av<|aY<|pcS oS aZ hr<|aa (bh bx (aT (pv 0) G) (pv 1) λ_ _=>rfl)<|aa (pv 5) aj))
   (au (tH (aV cZ (pv 3)<|bq bM o9 T.fE Yc<|aa (pv 4) aj)<|sW (aT (pv 0) G) (pv 1) set_list)
   (av<|aM<|bq bM o9 T.fE Yc<|aa (pv 4) aj)))))),?_⟩⟩
 dsimp only[aW];let a1:=hX;let⟨sx,g1,g2⟩:=a1;exists _,G,p,dx,_,G,h1,bU o4,_,G,p,q',sl,nl,dl,se,rl,sk,ea,_,(0),G,⟨dx,h1⟩,hS,G,o6;exists _,G,p,ao,dx,_,_,G,h1,T.aH,T.gk,xX,_,G,dl,_,_,_,G,G,X0.of C,G;refine aO [r4 p,t6 0,t6 1,t6 ↥n,Z0,Z0] ?_;dsimp only;exists _,G,p,ao,dx,_,_,G,h1,T.aH,T.fz,vY;refine{_,G,_,G,_,G,_,G,_,_,G,G,_,G,nl,_,G,X0.of hN,λl c=>?_};let hc:sC (U++[V.ref t]) (some ↥n) (some (↥n+1))=[V.ref t]:=by subst hn;unfold sC;rw[show(↥U.length+1) =((U.length+1:Z5):Z4) from G,HT.ya,HT.ya];simp
 rw[hc];refine aO [r4 p,t6 0,t6 1,t6 ↥n,r4 l,Z0] ?_;dsimp only;generalize hH1:Z9 H l (.lst [V.ref t])=H1;let s1:ak H H1:=by rw[←hH1];exact ak.new c
 let g:H1 l=some (.lst [V.ref t]):=by rw[←hH1];exact af
 let S:l≠x:=λe=>by rw[e,g1] at c;cases c
 let r:l≠d:=λe=>by rw[e,g2] at c;cases c
 refine gz (λσ H'=>∃i,σ=[r4 p,t6 0,t6 1,t6 ↥n,r4 l,i]/\cF aB H' x d (fl+1) (putK kvs (.inl fl)<|.ref a)/\bg [x,d] H1 H') (λN hN=>?_) ?_
 .refine{_,G,l,G,{_,X0.of g},eG (K:=K) (a:=l) (xs:=[V.ref t]) (λj σ H'=>∃i,σ=[r4 p,t6 0,t6 1,t6 ↥n,r4 l,i]/\bg [x,d] H1 H'/\(j=0->H'=H1)/\(j=1->cF aB H' x d (fl+1) (putK kvs (.inl fl)<|.ref a))) {Z0,G,bg.refl,λ_=>rfl,λz=>by cases z} (λj σ H' _ z0=>by let⟨_,_,k,_,_⟩:=z0;exact X0.of<|k l _ g (by simp[S,r])) ?_ ?_}
  .rintro j v σ H2 hj ⟨i,rfl,k2,e0,_⟩;cases j with
   |succ j=>simp at hj
   |zero=>simp at hj;subst hj;let e:=e0 rfl;subst e;refine aO [r4 p,t6 0,t6 1,t6 ↥n,r4 l,r4 t] ?_;refine{_,G,p,ao,dx,_,_,G,s1 p _ h1,T.aH,T.bY,fO,_,G,sl,_,_,_,G,G,X0.of<|s1 sl _ hS,G,_,G,x,d,t,a,fl,kvs,G,s1 t _ ht,hX.keep s1,u,λH' a3 k'=>?_};exact{some<|.ref t,G,k',nofun,λ_=>a3}
  .rintro σ H2 ⟨i,rfl,k2,_,h⟩;exact hN _ _ {i,G,h G,k2}
 rintro σ H2 ⟨i,rfl,a0,k2⟩;let B:dl≠x:=br C g1 nofun;let L:dl≠d:=br C g2 nofun;let Y:H2 dl=some (.lst [.int ↥n,D1,D2]):=k2 dl _ (s1 dl _ C) (by simp[B,L]);let O:H2 l=some (.lst [V.ref t]):=k2 l _ g (by simp[S,r]);exists _,G,_,G,l,_,G,.inl<|X0.of O,_,_,G,G;let a6:p≠x:=br h1 g1 (by intro z;injection z with _ _ z3;cases z3);let a5:p≠d:=br h1 g2 nofun;let a4:=k2 p _ (s1 p _ h1) (by simp[a6,a5]);exists _,G,p,ao,dx,_,_,G,a4,T.aH,T.gk,xX;exists _,G,dl,_,(0),(0),G,G,Y,G;let a2:l≠dl:=λe=>by rw[e,C] at c;cases c
 exists _,G,l,_,G,.inl<|X0.of (by rwa[ah a2]);refine q _ ?_ ?_ ?_
 .let⟨a7,g3,g4⟩:=a0;exact{a7,by rwa[ah B.symm],by rwa[ah L.symm]}
 .rw[af];rfl
 .intro b o e hb;let m:b≠x/\b≠d/\b≠dl:=⇑hb
  rw[ah m.2.2];exact k2 b o (s1 b o e) (by simp[m.1,m.2.1])
variable(fX:bB aC "kind" 1 ["self"] vN)
variable(eO:bB ay "kind" 1 ["self"] wm)
include T cC cy fX eO in
theorem rG(F:Fun K "last_whole" "Shelf.last_whole" ir f fd):⋯ 4 f fd ["self"] (vI aB ay aC):=by
 refine F.okY kr ?_;rintro vs H Q E ⟨p,d,fl,kvs,M,rfl,hS,hR,a4,q⟩;refine⟨G,λa6 A outer s hr=>⟨_,(au (yf<|wW (i:=1) kr.nd G (Or.inl G) (N:=["piece"]) (k:=1) (cap:=[]) G G (yr<|aT (pv 0) G) (λ_ _ _ _=>(pgN 0 (show(["piece"]:ee Z6).Nodup from by decide +kernel)<|.inr G)) (λ_ _ _ _=>(DI<|PW.pt<|pw_and (aQ fC (i6 (bw (pv 0) T.bZ eO aG<|hr.mono o7)<|bw (pv 0) T.cu fX aG<|hr.mono o7) aJ<|aR _)<|pw_and1<|lK<|i6 (bw (pv 0) T.bZ cy aG<|hr.mono o7)<|bw (pv 0) T.cu cC aG<|hr.mono o7)) λ_ _ _ _=>(Ii (K:=K) G (pv 0) G))
   (av<|aM<|yb G G T.wX (aa (pv 1) aj) lF)),?_⟩⟩
 dsimp only[aW];let⟨dx,h1,h2⟩:=id hS;refine{_,G,p,aB,dx,_,_,G,h1,T.bO,T.cL,jG,d,kvs,G,h2,λo nf t c=>?_};let U:t≠d:=λe=>by rw[e,af] at c;cases c
 let a5:H t=Z0:=by rwa[ah U] at c
 refine yM t (d:=d) (o:=o) (kvs:=kvs) (λi σ H' ys=>∃(v:nt V)(ds:ee Z4),σ=[v]/\ak (Z9 H d<|.frz o<|.dK kvs) H'/\H' t=some (.lst ys)/\ys=ds.map Z8/\ds.length≤i/\∀x,x∈ds↔∃(j:Z5)(n:Z4)(u:PcU)(v:V),j<i/\kvs[j]?=some ((Sum.inl n:Key),v)/\M n=some u/\u.wh=Z1/\u.good=Z1/\x =↥u.d) {Z0,[],G,ak.new c,af,G,Xk _,λx=>{nofun,λ⟨j,_,_,_,h,_⟩=>absurd h o6}} (λi σ H' ys _ z0=>by let⟨_,_,_,s',_⟩:=z0;exact s' _ _ af) ?_ ?_
 .rintro i k v σ H1 ys hi ⟨v0,ds,rfl,s1,g,rfl,a2,C⟩;let⟨n,u,rfl,eM,⟨a,rfl,a0,S⟩,_⟩:=hR.at_ hi;let a3:=(Xg.mp hi).1;let hP:=a0.jl (Tz s1)<|qa.one h2;let step:∀(x:Z4),(∃(j:Z5)(n:Z4)(u:PcU)(v:V),j<i+1/\kvs[j]?=some ((Sum.inl n:Key),v)/\M n=some u/\u.wh=Z1/\u.good=Z1/\x =↥u.d)↔(x∈ds∨(u.wh=Z1/\u.good=Z1/\x =↥u.d)):=λx=>by
   rw[C x];constructor
   .rintro⟨j,n',u',v',hj,y,B,hw,l,hx⟩;by_cases a1:j<i
    .exact .inl ⟨j,n',u',v',a1,y,B,hw,l,hx⟩
    .let:j=i:=by omega
     subst this;rw[hi] at y;cases y;rw[eM] at B;cases B;exact .inr ⟨hw,l,hx⟩
   .rintro(⟨j,n',u',v',hj,r⟩|⟨hw,l,hx⟩)
    .exact⟨j,n',u',v',o6,r⟩
    .exact{i,n,u,_,o6,hi,eM,hw,l,hx}
  let⟨wh,b,Y,rows,bn⟩:=u;let⟨m,r,Rr,g1,g2,g3⟩:=id hP;cases wh with
  |false=>refine .inr {_,G,a,m,_,G,g1,d7 (wh:=Z2) o4 o4 o4 o4,a,G,G,_,G,?_};refine gg (λz=>absurd (V.str.inj z) o4) ?_;refine eV {_,ds,G,s1,g,G,o6,λx=>(abR (step x) {λh=>h.elim id λh=>absurd h.1 nofun,Or.inl}).symm}
  |true=>
   refine .inl {_,G,a,m,_,G,g1,d7 (wh:=Z1) o4 o4 o4 o4,a,G,G,_,G,?_};refine iC G ?_;refine .inl {_,G,a,m,_,G,g1,d7 (wh:=Z1) o4 o4 o4 o4,a,Z1,b,Y,rows,_,G,hP,S,λH2 s2=>{_,G,?_}};rw[show decide (bn =((iz Z1 b Y rows:Z5):Z4))=PcU.good ⟨Z1,b,Y,rows,bn⟩ from rfl];let O:=s1.trans s2;by_cases l:PcU.good ⟨Z1,b,Y,rows,bn⟩=Z1
   .rw[l];refine dB {_,G,a,ay,m,_,_,G,s2 _ _ g1,T.bZ,T.fT,lM,s2 _ _ g,by rw[Xj];exact aN o6,_,ds++[↥Y],G,λb' o' e=>?_,af,o8,by simp;omega,λx=>?_}
    .rw[ah<|aq e c];exact O b' o' e
    .rw[step x,Xv,Xx];exact{λh=>h.imp id λh=>⟨G,l,h⟩,λh=>h.imp id λh=>h.2.2}
   .rw[Bool.eq_false_iff.mpr l];exact eV {_,ds,G,O,s2 _ _ g,G,o6,λx=>(abR (step x) {λh=>h.elim id λh=>absurd h.2.1 l,Or.inl}).symm}
 .rintro σ H1 ys ⟨v0,ds,rfl,s1,g,rfl,a2,C⟩;refine aO [r4 p,r4 t] ?_;exists d,o,kvs,s1 _ _ af,nf;let s2:=tL h2 s1;let L:Z9 H1 d (.dK kvs) t=some (.lst (ds.map Z8)):=by rwa[ah U]
  generalize Z9 H1 d (.dK kvs)=H2 at s2 L ⊢;refine{_,G,t,ds,G,X0.of L,q _ H2 ((ym ds).ext λx=>?_) s2};rw[C x];constructor
  .rintro⟨j,n,u,v,_,_,h3,h4,h5,h6⟩;exact⟨n,u,h3,h4,h5,h6⟩
  .rintro⟨n,u,h3,h4,h5,h6⟩;let⟨j,v,hj⟩:=hR.ix h3;exact{j,n,u,v,(Xg.mp hj).1,hj,h3,h4,h5,h6}
variable(jb:bB ao "carry" 6 ["self","shelf","many"] (vG ao aB))
include T jb in
theorem zZ(F:Fun K "note" "Store.note" nh f fd):⋯ 7 f fd ["self","deed"] (yl ao aB):=by
 refine F.okY zU ?_;rintro vs H Q E ⟨CD,CW,CG,Z,wd,v8,AL,M,t,a,u,rfl,h,l,L,m,hP,q⟩;refine⟨G,λa0 A outer s U=>⟨_,(au (aY<|jc XJ XZ Yb dH (aT (pv 0) G)<|aa (pv 1) aj)
   (av<|aY<|aU (pv 0) T.aH jb aZ (U.mono o7)<|aa aA<|aa aA aj)),?_⟩⟩
 dsimp only[aW];let⟨dx,h1⟩:=id h.st;let C:=h.nn;exists _,G,Z.p,ao,dx,_,_,G,h1,T.aH,T.fz,vY,.inl {G,_,X0.of h.nl},_,G,Z.nl,_,_,G,G,h.nl,aN o6;let r:∀ b∈[Z.p,Z.sl,Z.y,Z.dy,Z.z,Z.dz],b≠Z.nl:=λb g e=>gM h.nd 6 g (by simp[SAd.sm,e])
 let j:∀ b∈[Z.dl,Z.x,Z.d],b≠Z.nl:=λb g e=>gM h.nd 7 (b:=Z.nl) (by simp[SAd.sm]) (by rwa[←e])
 let s1:∀b o,H b=some o->b≠Z.nl->Z9 H Z.nl (.lst (Z.NL++[.ref t])) b=some o:=λb o e n=>by rw[ah n];exact e
 let c:Z9 H Z.nl (.lst (Z.NL++[.ref t])) Z.nl=some (.lst (Z.NL++[.ref t])):=af;generalize Z9 H Z.nl (.lst (Z.NL++[.ref t]))=H1 at s1 c ⊢;let i:=s1 _ _ h1<|r _ o8;let⟨S,B,g2⟩:=id h.sh;refine{_,G,Z.p,dx,_,G,i,bU o4,Z.p,Z.q,Z.sl,Z.nl,Z.dl,Z.se,Z.x,Z.d,t,a,Z.rl,Z.sk,Z.ea,.ref Z.y,.ref Z.z,.int 0,.int 0,Z.NL,Z.n,↥Z.n,Z.kvs,G,⟨dx,i⟩,s1 _ _ h.sl<|r _ o8,c,C,o6,s1 _ _ m<|br m h.nl nofun,s1 _ _ h.dl<|j _ o8,{S,s1 _ _ B<|j _ o8,s1 _ _ g2<|j _ o8},by let:=h.kn;omega,λH' O Y k=>?_};let v:bg [Z.nl,Z.dl,Z.x,Z.d] H H':=λb o e g=>k b o (s1 b o e λz=>g (by simp[z])) λz=>g (by simp at z ⊢;grind)
 exact q H' (h.add l L hP (k _ _ c λz=>by simp at z;rcases z with z|z|z <;> exact j _ o8 z.symm) Y O v) v
variable(ji:bB aD "passes" 4 ["self","changes"] (sY aD bu bJ))
include T ji in
theorem xD(F:Fun K "passes" "Store.passes" kQ f fd):⋯ 5 f fd ["self","changes"] (qp ao aD):=by
 refine F.okY xq ?_;rintro vs H Q E ⟨p,j,O,nl,dl,C,ta,sa,a,TL,SL,wd,v8,AL,U,sk,S,L,h,rfl,⟨dx,h1⟩,D,n,B,b,c,i,l,q⟩;refine{G,λz A outer s v=>{_,(av<|aM<|aU (aT (pv 0) G) T.cg ji aZ (v.mono o7)<|aa (pv 1) aj),?_}};dsimp only[aW];let⟨dd,o⟩:=D.ob;refine{_,G,p,ao,dx,_,_,G,h1,T.aH,T.eX,ue,j,dd,_,G,o,mP o4 o4 o4 o4,_,G,j,ta,sa,a,TL,SL,wd,v8,AL,L,h,G,D,n,B,b,c,i,λ_ m d H' g r y t u k=>q m d H' g r y t u k,λx e=>?_,λx e=>?_}
 .rw[l] at e;cases e
 .rw[l] at e;cases e
variable(oR:cE "reached" 6 ["shelf","good"] (jU aB ay aC))
include T bA oR in
theorem xM(F:Fun K "reach" "Store.reach" lZ f fd):⋯ 7 f fd ["self","shelf"] (rJ ao aB ay aC):=by
 refine F.okY xR ?_;rintro vs H Q E ⟨p,n,j,nl,dl,t,y,sk,o,SL,i,x,d,fl,kvs,M,rfl,⟨dx,h1⟩,g,h3,hi,m,v,u,b,q⟩;refine⟨G,λz A outer s c=>⟨_,(au (aY<|aU (pv 0) T.aH bA aZ (c.mono o7)<|aa (pv 1) aj)
   (av<|aM<|yb G G T.wX (aa (pcS oR aG c<|aa (bh bx (aT (pv 0) G) (pv 1) λ_ _=>rfl)<|aa fL aj) aj) lF)),?_⟩⟩
 dsimp only[aW];exists _,G,p,dx,_,G,h1,bU o4,_,G,p,n,j,nl,dl,t,y,sk,o,SL,i,G,⟨dx,h1⟩,g,h3,hi;exact{_,G,p,ao,dx,_,_,G,h1,T.aH,T.bY,fO,_,G,j,SL,_,_,G,G,X0.of g,Bc m,x,d,fl,kvs,lG M,Z1,G,OD v u,b,λl ns H' r a h B s=>{l,ns,G,X0.of r,q _ H' ((ym ns).ext a.2) s}}
variable(fG:bB aB "last_whole" 4 ["self"] (vI aB ay aC))
variable(jo:bB ao "reach" 7 ["self","shelf"] (rJ ao aB ay aC))
variable(qy:oB "NoWord" aP 1 ["self","word"] (fZ aP "word"))
variable(cB:bB ao "today" 1 ["self"] (wg ao aD))
include T jy fG jo qy cB in
theorem uL(F:Fun K "base_for" "Store.base_for" ju f fd):⋯ 8 f fd ["self","word"] (qC ao aB ay aC aD aP aK):=by
 refine F.okY iY ?_;rintro vs H Q E ⟨Z,wd,v8,AL,M,c,rfl,h,q1,t,y⟩;refine⟨G,λB A outer s j=>⟨_,(au (cj (aQ fC (pv 1) aJ<|aR _) (av<|psS 2 iY.nd<|bw (bh bx (aT (pv 0) G) aA λ_ _=>rfl) T.bO fG aG<|j.mono o7)<|av<|cj (aQ fC (pv 1) aJ<|aR _) (av<|psS 2 iY.nd<|aU (pv 0) T.aH jo aZ (j.mono o7)<|aa aA aj)<|av<|fQ G gQ<|i8 qy (j.mono o7) G<|aa (pv 1) aj)
   (au (cj (aQ Bl (pv 2) lF<|aR _) (av<|fQ G gQ<|i8 jy (j.mono o7) G<|aa (pv 2)<|aa (bw (pv 0) T.aH cB aG<|j.mono o7) aj) bR)
   (av<|aM<|pv 2))),?_⟩⟩
 dsimp only[aW];let⟨dx,h1⟩:=id h.st;let⟨u,C,L⟩:=id h.sh;let l:Z.kvs.length≤62:=by let:=h.kn;let:=h.n61;omega
 let no:∀{x:Z6},c≠x->decide (V.str c=V.str x)=Z2:=λe=>XH λz=>e<|V.str.inj z
 refine gz (λσ H'=>∃v:V,σ=[r4 Z.p,some<|.str c,some v]/\gb c/\gB (gG M c) v/\ak H H') (λN o=>?_) ?_
 .by_cases i:c = "since"
  .refine fN (λm a=>{_,G,G,_,G,by rw[Xr (by rw[i])];exact a}) ?_;refine{_,G,Z.p,ao,dx,_,_,G,h1,T.aH,T.bY,fO,Z.sl,_,_,.ref Z.x,G,G,X0.of h.sl,G,Z.x,u,_,G,C,gH o4 o4,Z.x,Z.d,_,Z.kvs,M,G,h.sh,h.pr,l,λv H' g s=>aO [r4 Z.p,some<|.str c,some v]<|o _ _ {v,G,.inl i,?_,s}};exact g.ext λx=>by unfold gG;rw[Xm i]
  .refine iI (λm a=>{_,G,G,_,G,by rwa[no i]}) ?_;by_cases n:c = "last"
   .refine fN (λm a=>{_,G,G,_,G,by rw[Xr (by rw[n])];exact a}) ?_;refine{_,G,Z.p,dx,_,G,h1,bU o4,Z.p,Z.q,Z.sl,Z.nl,Z.dl,Z.se,Z.rl,Z.sk,Z.ea,_,(0),Z.x,Z.d,_,Z.kvs,M,G,⟨dx,h1⟩,h.sl,G,o6,G,h.sh,h.pr,l,λv H' g s=>aO [r4 Z.p,some<|.str c,some v]<|o _ _ {v,G,.inr n,?_,s}};exact g.ext λx=>by unfold gG;rw[Xn i]
   .refine iI (λm a=>{_,G,G,_,G,by rwa[no n]}) ?_;exact{_,G,fK (E:=E) T.kL λe H' he hs=>y (λz=>z.elim i n) e H' he hs}
 .rintro σ H1 ⟨v,rfl,r,g,s1⟩;rcases id g with⟨rfl,_⟩|⟨b,rfl,_⟩
  .refine fN (λm a=>{_,G,G,_,G,a}) ?_;exact{_,G,_,G,Z.p,dx,_,G,s1 _ _ h1,bU o4,Z.p,Z.q,Z.sl,Z.nl,Z.dl,Z.se,Z.ta,Z.sa,Z.TL,Z.SL,wd,v8,AL,Z.rl,Z.sk,Z.ea,G,{dx,s1 _ _ h1},h.D.same s1,F1 (E:=E) T.gA λe H' he hs=>t r g e H' he<|s1.trans hs}
  .refine iI (λm a=>{_,G,G,_,G,a}) ?_;unfold mO;dsimp only;exact{_,G,q1 r b H1 g s1}
variable(mU:cE "whole_of" 6 ["days","day"] (qM aD ay aC bK))
variable(om:cE "gain_of" 6 ["days","base","day"] (tN aD ay aC bK aK))
variable(gx:bB ao "base_for" 8 ["self","word"] (qC ao aB ay aC aD aP aK))
include T cB mU om gx in
theorem tY(F:Fun K "new_piece" "Store.new_piece" iX f fd):⋯ 9 f fd ["self","word"] (oX ao aB ay aC aD aP aK):=by
 refine F.okY tK ?_;rintro vs H Q E ⟨Z,wd,v8,AL,M,L,rfl,h,n,q1,U⟩;refine⟨G,λa4 A outer s r=>⟨_,(au (cj (aQ fC (pv 1) aJ<|aR _) (av<|aM<|pcS mU aZ r<|aa (aT (pv 0) G)<|aa (bw (pv 0) T.aH cB aG<|r.mono o7) aj) bR)
   (av<|aM<|pcS om aZ r<|aa (aT (pv 0) G)<|aa (aU (pv 0) T.aH gx aZ (r.mono o7)<|aa (pv 1) aj)<|aa (bw (pv 0) T.aH cB aG<|r.mono o7) aj)),?_⟩⟩
 dsimp only[aW];let⟨dx,h1⟩:=id h.st;let hT:v8.length≠0:=h.D.ne;let e1:((↥v8.length-1).toNat)=v8.length-1:=by omega
 let ok:okD v8.length (↥v8.length-1):=⟨o6,o6⟩;let a1:=h.D.w2;by_cases x:L = "whole"
 .refine fN (λQb Y=>{_,G,G,_,G,by rw[Xr (by rw[x])];exact Y}) ?_;refine{_,G,Z.p,ao,dx,_,_,G,h1,T.aH,T.eX,ue,_,G,Z.p,dx,_,G,h1,bU o4,Z.p,Z.q,Z.sl,Z.nl,Z.dl,Z.se,Z.ta,Z.sa,Z.TL,Z.SL,wd,v8,AL,Z.rl,Z.sk,Z.ea,G,⟨dx,h1⟩,h.D,Z.q,wd,v8,AL,_,G,h.Jx,λ_ a c H' i t s=>?_,λz=>absurd ok z};rw[e1] at i t;let g:=h.T c<|Xl i;exact q1 a _ H' (.inl ⟨x,c,i,G⟩) {a,G,t,by show(gW c).length≤100;rw[lD,g.1];omega} s
 .refine iI (λQb Y=>{_,G,G,_,G,by rwa[XH λz=>x<|V.str.inj z]}) ?_;unfold mO;dsimp only;refine{_,G,Z.p,ao,dx,_,_,G,h1,T.aH,T.eX,ue,_,G,Z.p,dx,_,G,h1,bU o4,_,G,Z,wd,v8,AL,M,L,G,h,λl b H1 o s1=>?_,λl o e H' he hs=>U _ _ e H' (.inr {G,l,.non,.inl G,o,G}) he hs,λl e H' he hs=>U _ _ e H' (.inl ⟨G,x,l,G⟩) he hs};let v:gG M L b:=by
   rcases id o with⟨z,_⟩|⟨m,z,y,_⟩
   .cases z
   .cases z;exact y
  obtain⟨j,rfl,a3⟩:∃j:Z5,b =↥j/\j<v8.length:=by
   unfold gG at v;split at v
   .let⟨m,u,e,_,_,rfl⟩:=v;exact{u.d,G,n m u e}
   .let⟨⟨k,O⟩,hn⟩:=v;cases O with
    |zero=>exact absurd G hn
    |step a _ _=>let⟨u,e,_,rfl,_⟩:=Ag a;exact{u.d,G,n _ u e}
  let C:okD v8.length ↥j:=⟨o6,o6⟩;refine{_,G,Z.p,dx,_,G,s1 _ _ h1,bU o4,Z.p,Z.q,Z.sl,Z.nl,Z.dl,Z.se,Z.ta,Z.sa,Z.TL,Z.SL,wd,v8,AL,Z.rl,Z.sk,Z.ea,G,{dx,s1 _ _ h1},h.D.same s1,Z.q,wd,v8,AL,_,_,G,(h.same s1).Jx,λ_ _ a0 a ns c H2 i hp y t s2=>?_,λ_ _ a2 e H' he hs=>?_,λd hd=>?_}
  .rw[e1] at i t;let g:=h.T c<|Xl i;let B:∀ k∈ns,0≤k/\k <↥wd:=λk O=>uf h.S ((y k).mp O)
   let a5:=we hp B;refine q1 a _ H2 (.inr {?_,j,c,ns,o,o6,i,hp,λk=>?_,G}) {a,G,t,by show(cW ns c).length≤100;rw[lP];omega}<|s1.trans s2
   .exact l
   .rw[y k,show(((v8.length-1:Z5)):Z4) =↥v8.length-1 by omega]
  .let eb:↥j =↥v8.length-1:=by omega
   exact U _ _ e H' (.inr {G,l,.int ↥j,.inr (by rw[eb]),o,G}) he<|s1.trans hs
  .rcases hd with⟨z,_⟩|⟨_,z,_⟩
   .exact absurd C z
   .exact absurd ok z
variable(gf:bB ao "new_piece" 9 ["self","word"] (oX ao aB ay aC aD aP aK))
variable(gc:bB aB "following" 1 ["self"] (nN aB))
variable(kc:bB ao "note" 7 ["self","deed"] (yl ao aB))
include T gf gc kc in
theorem zH(F:Fun K "keep" "Store.keep" nB f fd):⋯ 10 f fd ["self","word"] (yH ao aB ay aC aD aP aK):=by
 refine F.okY lR ?_;rintro vs H Q E ⟨Z,wd,v8,AL,M,i,rfl,h,j,c,q,q1,C⟩;refine⟨G,λv A outer s g=>⟨_,(au (psS 2 lR.nd<|aU (pv 0) T.aH gf aZ (g.mono o7)<|aa (pv 1) aj)
   (au (psS 3 lR.nd<|bw (bh bx (aT (pv 0) G) aA λ_ _=>rfl) T.bO gc aG<|g.mono o7)
   (au (aY<|aU (pv 0) T.aH kc aZ (g.mono o7)<|aa (dc<|aa aJ<|aa (pv 2) aj) aj)
   (av<|aM<|pv 3)))),?_⟩⟩
 dsimp only[aW];let⟨dx,h1⟩:=id h.st;let⟨r,l,L⟩:=id h.sh;refine{_,G,Z.p,dx,_,G,h1,bU o4,_,G,Z,wd,v8,AL,M,i,G,h,j,λa u H1 z y s1=>?_,C};refine aO [r4 Z.p,some<|.str i,r4 a,Z0] ?_;dsimp only;exists _,G,Z.p,ao,dx,_,_,G,s1 _ _ h1,T.aH,T.bY,fO,Z.sl,_,_,.ref Z.x,G,G,X0.of<|s1 _ _ h.sl,G,Z.x,r,_,G,s1 _ _ l,gH o4 o4,Z.x,Z.d,_,Z.kvs,G,h.sh.keep s1;refine aO [r4 Z.p,some<|.str i,r4 a,t6 ↥Z.n] ?_;dsimp only;refine{_,G,Z.p,dx,_,G,s1 _ _ h1,bU o4,_,G,t9,λt m=>?_};let s2:=ak.new m (o:=.tup [.str "put",.ref a]);exact{aD,ay,aC,Z,wd,v8,AL,M,t,a,u,G,(h.same s1).same s2,c,q,af,y.keep s2,λH' h' k=>{_,G,q1 t a u H' z h' λb o e B=>k b o (s2 b o<|s1 b o e) B}}
variable(jm:bB aC "harmed" 7 ["self","at","bits"] (uF ay aC bu))
variable(ck:bB ao "piece" 4 ["self","shelf","number"] (rY ao aB))
variable(iN:bB ay "harmed" 7 ["self","at","bits"] (uF ay aC bu))
include T fU jm ck iN in
theorem Ab(F:Fun K "harm" "Store.harm" nu f fd):⋯ 8 f fd ["self","shelf","number","at","bits"] (vU ao aB ay aC):=by
 refine F.okY qT ?_;rintro vs H Q E ⟨CD,Z,wd,v8,AL,M,m,i,l,u,rfl,h,O,a2,a0,hi,q⟩;refine⟨G,λa1 A outer s n=>⟨_,(au (psS 5 qT.nd<|i6 (aU (aU (pv 0) T.aH ck aZ (n.mono o7)<|aa (pv 1)<|aa (pv 2) aj) T.bZ iN aZ (n.mono o7)<|aa (pv 3)<|aa (pv 4) aj)<|aU (aU (pv 0) T.aH ck aZ (n.mono o7)<|aa (pv 1)<|aa (pv 2) aj) T.cu jm aZ (n.mono o7)<|aa (pv 3)<|aa (pv 4) aj)
   (av<|aY<|aU (bh bx (aT (pv 0) G) (pv 1) λ_ _=>rfl) T.bO fU aG (n.mono o7)<|aa (pv 2)<|aa (pv 5) aj)),?_⟩⟩
 dsimp only[aW];let⟨dx,h1⟩:=id h.st;let⟨sx,g1,g2⟩:=id h.sh;let⟨v,U,a,rfl,C,g⟩:=h.pr.cN m u O;refine gz (λσ H'=>∃p2,σ=[r4 Z.p,t6 0,t6 m,t6 ↥i,t6 ↥l,r4 p2]/\PAt ay aC H' p2 u.wh u.b u.d (fu u.rows i l) u.c/\ak H H') (λN L=>?_) ?_
 .let⟨wh,b,Y,rows,c⟩:=u;let⟨t,r,Rr,g3,g4,g5⟩:=id C;cases wh with
  |false=>exact .inr {_,G,Z.p,dx,_,G,h1,bU o4,_,G,_,G,Z.p,Z.q,Z.sl,Z.nl,Z.dl,Z.se,Z.rl,Z.sk,Z.ea,_,(0),Z.x,Z.d,_,Z.kvs,m,_,G,⟨dx,h1⟩,h.sl,G,o6,G,h.sh,U,a,t,_,G,g3,d7 (wh:=Z2) o4 o4 o4 o4,_,G,_,G,a,Z2,b,Y,rows,c,_,l,G,C,g,λy e B p2 H1 j hn s1=>aO [r4 Z.p,t6 0,t6 m,t6 ↥i,t6 ↥l,r4 p2]<|L _ _ {p2,G,by rwa[show i=y by omega],s1},λz=>absurd {o6,by let:i<rows.length:=hi;omega} z}
  |true=>exact .inl {_,G,Z.p,dx,_,G,h1,bU o4,_,G,_,G,Z.p,Z.q,Z.sl,Z.nl,Z.dl,Z.se,Z.rl,Z.sk,Z.ea,_,(0),Z.x,Z.d,_,Z.kvs,m,_,G,⟨dx,h1⟩,h.sl,G,o6,G,h.sh,U,a,t,_,G,g3,d7 (wh:=Z1) o4 o4 o4 o4,_,G,_,G,a,Z1,b,Y,rows,c,_,l,G,C,g,λy e B p2 H1 j hn s1=>aO [r4 Z.p,t6 0,t6 m,t6 ↥i,t6 ↥l,r4 p2]<|L _ _ {p2,G,by rwa[show i=y by omega],s1},λz=>absurd {o6,by let:i<rows.length:=hi;omega} z}
 rintro σ H1 ⟨p2,rfl,j,s1⟩;refine{_,G,Z.p,ao,dx,_,_,G,s1 _ _ h1,T.aH,T.bY,fO,_,G,Z.sl,_,_,.ref Z.x,G,G,X0.of<|s1 _ _ h.sl,G,Z.x,sx,_,G,s1 _ _ g1,gH o4 o4,_,G,_,G,Z.x,Z.d,_,Z.kvs,m,p2,G,h.sh.keep s1,by let:=h.kn;let:=h.n61;omega,λH2 S k=>?_};rw[Xn o6] at S;exact q p2 H2 ((h.same s1).set O {p2,G,j,by show(fu u.rows i l).length≤100;rwa[tu]} S k) λb o e hb=>k b o (s1 b o e) hb
include T in
theorem uJ(F:Fun K "__init__" "AnyOf.__init__" jx f fd):⋯ 1 f fd ["self","rules"] (vE cK):=by refine F.okY uH ?_;rintro vs H Q E ⟨p,dx,l,rfl,c,b,q⟩;refine{G,λg A outer s h=>{_,(av<|cM (pv 0) (dI mq o9 T.xY ZO<|aa (pv 1) aj) G),?_}};dsimp only[aW];refine{_,G,l,[],G,.inl {X0.of b,λt a=>{_,G,p,cK,dx,_,G,ak.new a p _ c,T.GH,T.mH,(by show 0<1000;decide),?_}}};exact q t _ af<|fY (bg.of_same<|ak.new a)<|.inl o8
variable(xh:lI "Days" aD 4 ["self","wide"] (yy aD aX))
variable(m9:lI "Shelf" aB 1 ["self"] (wc aB))
include T xh m9 in
theorem uP(F:Fun K "__init__" "Store.__init__" jt f fd):⋯ 6 f fd ["self","wide","rule","seek","each"] (tQ ao aD aB aX):=by
 refine F.okY uG ?_;rintro vs H Q E ⟨p,dx,wd,j,sk,i,rfl,hp,q1,q2⟩;refine⟨G,λbn A outer s hr=>⟨_,(au (cM (pv 0) (jB xh aZ (hr.mono o7) G<|aa (pv 1) aj) G)
   (au (cM (pv 0) (pv 2) G)
   (au (cM (pv 0) (pv 3) G)
   (au (cM (pv 0) (pv 4) G)
   (au (cM (pv 0) (bQ<|aa (rV m9 aG (hr.mono o7) G)<|aa (rV m9 aG (hr.mono o7) G)<|aa (rV m9 aG (hr.mono o7) G) aj) G)
   (au (cM (pv 0) (bQ aj) G)
   (au (cM (pv 0) (bQ<|aa aA<|aa aA<|aa aA aj) G)
   (av<|cM (pv 0) ic G)))))))),?_⟩⟩
 dsimp only[aW];refine{_,G,λc dq ae hdq bo=>{c,dq,wd,G,af,λhw=>?_,λhw e H' he hs=>q2 hw e H' he λb o eb _=>?_}}
 rotate_left
 .exact hs b o (by rwa[ah<|aq eb ae,ah<|aq eb hdq])
 intro ta sa r q H1 D fr k1;let s1:ak H H1:=dw ae hdq k1;let a1:Alv (p::foot c ta sa [r] [q]) H1:=Alv.cons (λa ha=>by let⟨o,e⟩:=D.here a ha;rw[e];simp)<|s1 _ _ hp;let ag:∀ b∈foot c ta sa [r] [q],H b=Z0:=λb m=>by
  simp only[foot,List.mem_cons,List.mem_append,List.not_mem_nil,or_false] at m;let z:b=c∨b∈[ta,sa,r,q]:=by simp only[List.mem_cons,List.not_mem_nil,or_false];grind
  rcases z with z|z
  .rw[z];exact ae
  .exact(bf (bf<|fr b z).1).1
 let n1:(p::foot c ta sa [r] [q]).Nodup:=Xq.mpr {λz=>(by let:=ag p z;rw[hp] at this;cases this),D.nd};exists G,_,G,p,ao,dx,_,G,s1 _ _ hp,T.aH,T.eX,(by show 0<1000;decide);exists _,G,_,G,p,ao,dx,_,G,af,T.aH,T.n9,(by show 1<1000;decide);exists _,G,_,G,p,ao,dx,_,G,af,T.aH,T.ng,(by show 2<1000;decide);exists _,G,_,G,p,ao,dx,_,G,af,T.aH,T.nP,(by show 3<1000;decide);rw[gp,gp,gp];let p2:Z9 H1 p (.ins ao dx [("days",.ref c),("rule",j),("seek",sk),("each",i)]) p=some (.ins ao dx [("days",.ref c),("rule",j),("seek",sk),("each",i)]):=af;let r2:∀b o,H1 b=some o->b≠p->Z9 H1 p (.ins ao dx [("days",.ref c),("rule",j),("seek",sk),("each",i)]) b=some o:=λb o e n=>by rw[ah n];exact e
 let a2:Alv _ (Z9 H1 p (.ins ao dx [("days",.ref c),("rule",j),("seek",sk),("each",i)])):=a1.mv qe;change A0 _ _ _ _ (Z9 H1 p<|.ins ao dx [("days",.ref c),("rule",j),("seek",sk),("each",i)]);generalize Z9 H1 p (.ins ao dx [("days",.ref c),("rule",j),("seek",sk),("each",i)])=H2 at p2 r2 a2 ⊢;refine λx bl hx ax bm=>{x,bl,G,af,λd H3 hX hd k3=>{G,?_}}
 let s3:ak H2 H3:=dw hx ax k3;let am:=(bf (bf hd).1).1;let⟨sx,g1,g2⟩:=id hX;let n3:(d::x::p::foot c ta sa [r] [q]).Nodup:=Xq.mpr {λz=>(XG.mp z).elim (λz=>(bf hd).2 z) λz=>a2.new am z,Xq.mpr {a2.new hx,n1}};let a3:=((a2.mv<|cU s3).cons g1).cons g2;refine λy bj hy bd bt=>{y,bj,G,af,λL H4 hY as k4=>{G,?_}}
 let s4:ak H3 H4:=dw hy bd k4;let a9:=(bf (bf as).1).1;let⟨sy,g3,g4⟩:=id hY;let n4:(L::y::d::x::p::foot c ta sa [r] [q]).Nodup:=Xq.mpr {λz=>(XG.mp z).elim (λz=>(bf as).2 z) λz=>a3.new a9 z,Xq.mpr {a3.new hy,n3}};let a4:=((a3.mv<|cU s4).cons g3).cons g4;refine λz be hz ar bp=>{z,be,G,af,λO H5 hZ al k5=>{G,?_}}
 let s5:ak H4 H5:=dw hz ar k5;let a0:=(bf (bf al).1).1;let⟨sz,g5,g6⟩:=id hZ;let n5:(O::z::L::y::d::x::p::foot c ta sa [r] [q]).Nodup:=Xq.mpr {λz=>(XG.mp z).elim (λz=>(bf al).2 z) λz=>a4.new a0 z,Xq.mpr {a4.new hz,n4}};let a5:=((a4.mv<|cU s5).cons g5).cons g6;refine{v7,λg u=>?_};let n6:(g::O::z::L::y::d::x::p::foot c ta sa [r] [q]).Nodup:=Xq.mpr {a5.new u,n5};let p5:=s5 _ _<|s4 _ _<|s3 _ _ p2;exists _,G,p,ao,dx,_,G,ak.new u _ _ p5,T.aH,T.bY,(by show 4<1000;decide);let nb:∀{b:fy},b∈(g::O::z::L::y::d::x::p::foot c ta sa [r] [q])->b∉[p]->b≠p:=λ_ h=>by simpa using h
 let r6:∀b o,H5 b=some o->b≠p->Z9 (Z9 H5 g (.lst [.ref x,.ref y,.ref z])) p (.ins ao dx [("days",.ref c),("rule",j),("seek",sk),("each",i),("shelves",.ref g)]) b=some o:=λb o e n=>by rw[ah n];exact ak.new u _ _ e
 let ai:g≠p:=λz=>by rw[z,p5] at u;cases u
 let h6:Z9 (Z9 H5 g (.lst [.ref x,.ref y,.ref z])) p (.ins ao dx [("days",.ref c),("rule",j),("seek",sk),("each",i),("shelves",.ref g)]) g=some (.lst [.ref x,.ref y,.ref z]):=by rw[ah ai,af]
 let p6:Z9 (Z9 H5 g (.lst [.ref x,.ref y,.ref z])) p (.ins ao dx [("days",.ref c),("rule",j),("seek",sk),("each",i),("shelves",.ref g)]) p=some (.ins ao dx [("days",.ref c),("rule",j),("seek",sk),("each",i),("shelves",.ref g)]):=af;let a6:=((a5.mv<|cU<|ak.new u (o:=.lst [.ref x,.ref y,.ref z])).mv<|qe (p:=p) (o:=.ins ao dx [("days",.ref c),("rule",j),("seek",sk),("each",i),("shelves",.ref g)])).cons h6;change A0 _ _ _ _ (Z9 (Z9 H5 g<|.lst [.ref x,.ref y,.ref z]) p<|.ins ao dx [("days",.ref c),("rule",j),("seek",sk),("each",i),("shelves",.ref g)]);generalize Z9 (Z9 H5 g (.lst [.ref x,.ref y,.ref z])) p (.ins ao dx [("days",.ref c),("rule",j),("seek",sk),("each",i),("shelves",.ref g)])=H6 at r6 h6 p6 a6 ⊢;refine{Xw _,λnl B=>{_,G,p,ao,dx,_,G,ak.new B _ _ p6,T.aH,T.fz,(by show 5<1000;decide),?_}};let n7:(nl::g::O::z::L::y::d::x::p::foot c ta sa [r] [q]).Nodup:=Xq.mpr {a6.new B,n6};let s7:ak H6 (Z9 H6 nl (.lst [])):=ak.new B;let h7:Z9 H6 nl (.lst []) nl=some (.lst []):=af;let aw:nl≠p:=λz=>by rw[z,p6] at B;cases B
 let a7:=(a6.mv<|cU s7).cons h7;let p7:=s7 _ _ p6;generalize Z9 H6 nl (.lst [])=H7 at s7 h7 a7 p7 ⊢;let a8:=a7.mv<|qe (p:=p) (o:=.ins ao dx [("days",.ref c),("rule",j),("seek",sk),("each",i),("shelves",.ref g),("noted",.ref nl)]);refine{v7,λdl U=>{_,G,p,ao,dx,_,G,ak.new U _ _ af,T.aH,T.gk,(by show 6<1000;decide),?_}};let n8:(dl::nl::g::O::z::L::y::d::x::p::foot c ta sa [r] [q]).Nodup:=Xq.mpr {a8.new U,n7};let ab:=(bf U).1;let aS:=(bf U).2;dsimp only;let r9:∀b o,H7 b=some o->b≠p->Z9 (Z9 (Z9 H7 p (.ins ao dx [("days",.ref c),("rule",j),("seek",sk),("each",i),("shelves",.ref g),("noted",.ref nl)])) dl (.lst [.int 0,.int 0,.int 0])) p (.ins ao dx [("days",.ref c),("rule",j),("seek",sk),("each",i),("shelves",.ref g),("noted",.ref nl),("done",.ref dl)]) b=some o:=λb o e n=>by rw[ah n,ah<|aq e ab,ah n];exact e
 let p9:Z9 (Z9 (Z9 H7 p (.ins ao dx [("days",.ref c),("rule",j),("seek",sk),("each",i),("shelves",.ref g),("noted",.ref nl)])) dl (.lst [.int 0,.int 0,.int 0])) p (.ins ao dx [("days",.ref c),("rule",j),("seek",sk),("each",i),("shelves",.ref g),("noted",.ref nl),("done",.ref dl)]) p=some (.ins ao dx [("days",.ref c),("rule",j),("seek",sk),("each",i),("shelves",.ref g),("noted",.ref nl),("done",.ref dl)]):=af;let h9:Z9 (Z9 (Z9 H7 p (.ins ao dx [("days",.ref c),("rule",j),("seek",sk),("each",i),("shelves",.ref g),("noted",.ref nl)])) dl (.lst [.int 0,.int 0,.int 0])) p (.ins ao dx [("days",.ref c),("rule",j),("seek",sk),("each",i),("shelves",.ref g),("noted",.ref nl),("done",.ref dl)]) dl=some (.lst [.int 0,.int 0,.int 0]):=by rw[ah aS,af]
 change Su _ _ _ _ _ _ (Z9 (Z9 (Z9 H7 p<|.ins ao dx [("days",.ref c),("rule",j),("seek",sk),("each",i),("shelves",.ref g),("noted",.ref nl)]) dl<|.lst [.int 0,.int 0,.int 0]) p<|.ins ao dx [("days",.ref c),("rule",j),("seek",sk),("each",i),("shelves",.ref g),("noted",.ref nl),("done",.ref dl)]);generalize Z9 (Z9 (Z9 H7 p (.ins ao dx [("days",.ref c),("rule",j),("seek",sk),("each",i),("shelves",.ref g),("noted",.ref nl)])) dl (.lst [.int 0,.int 0,.int 0])) p (.ins ao dx [("days",.ref c),("rule",j),("seek",sk),("each",i),("shelves",.ref g),("noted",.ref nl),("done",.ref dl)])=H9 at r9 p9 h9 ⊢;refine λl bb=>{_,G,p,ao,dx,_,G,ak.new bb _ _ p9,T.aH,T.mh,(by show 7<1000;decide),?_}
 let Y:∀b o,H9 b=some o->b≠p->Z9 (Z9 H9 l (.dK [])) p (.ins ao dx (stF c g nl dl l j sk i)) b=some o:=λb o e n=>by rw[ah n];exact ak.new bb _ _ e
 let an:Z9 (Z9 H9 l (.dK [])) p (.ins ao dx (stF c g nl dl l j sk i)) p=some (.ins ao dx (stF c g nl dl l j sk i)):=af;show Q .non (Z9 (Z9 H9 l<|.dK []) p<|.ins ao dx<|stF c g nl dl l j sk i);generalize Z9 (Z9 H9 l (.dK [])) p (.ins ao dx (stF c g nl dl l j sk i))=S at Y an ⊢;clear nb;let r7:∀b o,H6 b=some o->b≠p->S b=some o:=λb o e n=>Y _ _ (r9 _ _ (s7 _ _ e) n) n
 let r5:∀b o,H5 b=some o->b≠p->S b=some o:=λb o e n=>r7 _ _ (r6 _ _ e n) n
 let r1:∀b o,H1 b=some o->b≠p->S b=some o:=λb o e n=>r5 _ _ (s5 _ _<|s4 _ _<|s3 _ _<|r2 _ _ e n) n
 let bi:bV aD S c ta sa [r] [q] wd.toNat [List.replicate wd.toNat 0] [[]]:=D.mono λb m o e=>r1 b o e λz=>by let:=ag b m;rw[z,hp] at this;cases this
 let ac:∀ b∈[dl,nl,g,O,z,L,y,d,x,p],b∉foot c ta sa [r] [q]:=λb m hf=>by let:=(aaC.mp (show([dl,nl,g,O,z,L,y,d,x,p]++foot c ta sa [r] [q]).Nodup from n8)).2.2 b m b hf;exact this G
 let bc:[dl,nl,g,O,z,L,y,d,x,p].Nodup:=(aaC.mp (show([dl,nl,g,O,z,L,y,d,x,p]++foot c ta sa [r] [q]).Nodup from n8)).1;clear n8 n7 n6 n5 n4 n3;let C:∀ b∈[dl,nl,g,O,z,L,y,d,x],b≠p:=λb m e=>gM bc 9 m (by simp[e])
 let ba:∀ b∈[p,g,y,L,z,O,nl,dl,x,d]++foot c ta sa [r] [q],b=p∨H b=Z0:=λb m=>by
  rcases Xv.mp m with m|m
  .by_cases e:b=p
   .exact .inl e
   refine .inr ?_;let f1:∀b,b≠p->H2 b=Z0->H b=Z0:=λb n h=>by
    cases e:H b with
    |none=>rfl
    |some o=>rw[r2 _ _ (s1 _ _ e) n] at h;cases h
   let f5:∀b,b≠p->H5 b=Z0->H b=Z0:=λb n h=>f1 b n<|(s3.trans<|s4.trans s5).free h
   let f7:∀b,b≠p->H7 b=Z0->H b=Z0:=λb n h=>f5 b n (by
    cases e:H5 b with
    |none=>rfl
    |some o=>rw[s7 _ _<|r6 _ _ e n] at h;cases h)
   simp only[List.mem_cons,List.not_mem_nil,or_false] at m;rcases m with rfl|rfl|rfl|rfl|rfl|rfl|rfl|rfl|rfl|rfl
   .exact absurd G e
   .exact f5 _ e u
   .exact f1 _ e (s3.free hy)
   .exact f1 _ e (s3.free a9)
   .exact f1 _ e ((s3.trans s4).free hz)
   .exact f1 _ e ((s3.trans s4).free a0)
   .exact f5 _ e (by cases e2:H5 b with
    |none=>rfl
    |some o=>rw[r6 _ _ e2 e] at B;cases B)
   .exact f7 _ e ab
   .exact f1 _ e hx
   .exact f1 _ e am
  .exact .inr (ag b m)
 refine q1 hw {p,c,g,nl,dl,l,x,d,y,z,L,O,ta,sa,[r],[q],j,sk,i,[],[],(0)} S G G (λCW CG=>{⟨dx,an⟩,r7 _ _ h6<|C _ o8,bi,Y _ _ (r9 _ _ h7 aw) aw,Y _ _ h9 aS,{sx,r5 _ _ (s5 _ _<|s4 _ _ g1)<|C _ o8,r5 _ _ (s5 _ _<|s4 _ _ g2)<|C _ o8},{sy,r5 _ _ (s5 _ _ g3)<|C _ o8,r5 _ _ (s5 _ _ g4)<|C _ o8},{sz,r5 _ _ g5<|C _ o8,r5 _ _ g6<|C _ o8},dX.nil,G,G,Xw 61,(by show 1≤100;omega),?_,?_,?_,?_}) ba λb o e m=>r1 b o (s1 b o e) (⇑m)
 .exact{D.w2,λxs hx=>by rw[Xx.mp hx];exact{o8,λx h=>by cases h}}
 .intro t ht;rw[Xx.mp ht];exact{Yu,λv hv=>by rw[(aav.mp hv).2];exact aar _}
 .simp only[SAd.sm,List.nodup_cons,List.mem_cons,not_or,List.not_mem_nil,not_false_eq_true,List.nodup_nil,and_true] at bc ⊢;grind
 .intro b m;refine ac b ?_;simp only[SAd.sm,List.mem_cons,List.not_mem_nil,or_false] at m ⊢;grind
include T in
theorem rL(F:Fun K "following" "Shelf.following" iW f fd):⋯ 1 f fd ["self"] (nN aB):=by refine F.okY sL ?_;rintro vs H Q E ⟨p,d,fl,kvs,rfl,⟨dx,h1,h2⟩,q⟩;refine{G,λa A outer s b=>{_,(av<|aM<|aT (pv 0) G),?_}};dsimp only[aW];exact{_,G,p,aB,dx,_,_,G,h1,T.bO,T.c9,qh,q}
include T in
theorem Cf(F:Fun K "_law_mix" "_law_mix" qB f fd):⋯ 1 f fd ["_law_cell","_law_k"] (AJ):=by
 refine F.okY vc ?_;rintro vs H Q E ⟨c,k,rfl,q⟩;refine⟨G,λa A outer s b=>⟨_,(au (psS 2 vc.nd<|aV dM (aV p8 (aV cZ (aV cZ (aV dM (pv 0) aA)<|aV p8 aA<|pv 1) aA) aA) aA)
   (av<|aM<|aV dM (aV cZ (aV p8 (pv 2)<|pv 2)<|aV p8 aA<|pv 1) aA)),?_⟩⟩
 repeat (first|refine{_,G,?_}|refine{_,_,G,G,?_}|refine{(by first|decide|(dsimp only;decide)|(show 2≤Z7;decide)|(show 1≤Z7;decide)|(show 3≤Z7;decide)|(show 4≤Z7;decide)),?_}|refine{.inl ⟨o5,o5⟩,?_}|refine{.inr ⟨o5,o5⟩,?_}|refine{⟨o5,o5⟩,?_}|refine{_,_,G,G,o5,?_}|refine{_,_,G,G,.inl ⟨o5,o5⟩,?_}|refine{_,_,G,G,.inr ⟨o5,o5⟩,?_}|refine{_,_,G,G,⟨o5,o5⟩,?_}|refine{G,?_}|exists _,_,G)
 let h:=U4 c k;exists _,_,G,G,.inl {by show -(2 ^ 64)<mI c k;omega,by show mI c k<2 ^ 64;omega}
 repeat (first|refine{_,G,?_}|refine{_,_,G,G,?_}|refine{(by first|decide|(dsimp only;decide)|(show 2≤Z7;decide)|(show 1≤Z7;decide)|(show 3≤Z7;decide)|(show 4≤Z7;decide)),?_}|refine{.inl ⟨o5,o5⟩,?_}|refine{.inr ⟨o5,o5⟩,?_}|refine{⟨o5,o5⟩,?_}|refine{_,_,G,G,o5,?_}|refine{_,_,G,G,.inl ⟨o5,o5⟩,?_}|refine{_,_,G,G,.inr ⟨o5,o5⟩,?_}|refine{_,_,G,G,⟨o5,o5⟩,?_}|refine{G,?_}|exists _,_,G)
 exact q
variable(gE:cE "_law_mix" 1 ["_law_cell","_law_k"] AJ)
include T gE in
theorem wK(F:Fun K "_law_changes" "_law_changes" kJ f fd):⋯ 2 f fd ["_law_cell","_law_wide"] (nH):=by
 refine F.okY gT ?_;rintro vs H Q E ⟨c,wd,rfl,hw,a2,q⟩;refine⟨G,λa6 A outer s hr=>⟨_,(au (psS 2 gT.nd<|bQ aj)
   (au (eE XF G (sq G T.m8<|aa (aV dM (pv 0) aA) aj) (pgN 3 gT.nd)
   (au (psS 4 gT.nd<|pcS gE aG hr<|aa (aV fj (pv 0) aA)<|aa (pv 3) aj)
   (av<|aY<|jc XJ XZ Yb dH (pv 2)<|aa (dc<|aa (aV dM (pv 4)<|pv 1)<|aa (aV p8 (aV dM (aV fj (pv 4)<|pv 1) aA)<|bh bx (bQ<|aa aA<|aa (yJ (n:=100000000000000000)) aj) (aV dM (aV fj (pv 4) aA) aA) λ_ _=>rfl) aj) aj)))
   (av<|aM<|pv 2))),?_⟩⟩
 dsimp only[aW];refine{Xw _,λj u=>?_};refine aO [t6 c,t6 ↥wd,r4 j,Z0,Z0] ?_;dsimp only;let a4:=ZG c (show↥4≠0 by decide);let a5:=Zh c (show↥0<4 by decide);refine gz (λσ H'=>∃(B v:nt V)(L:ee V)(a:ee (Z4×Z4)),σ=[t6 c,t6 ↥wd,r4 j,B,v]/\ak H H'/\H' j=some (.lst L)/\iu H' L a/\nQ wd a) (λN hN=>?_) ?_
 .refine{_,G,_,_,G,G,o5,c % 4,G,o6,o6,oN (lo:=0) (n:=(c % 4).toNat) (λi σ H'=>∃(B v:nt V)(L:ee V)(a:ee (Z4×Z4)),σ=[t6 c,t6 ↥wd,r4 j,B,v]/\ak H H'/\H' j=some (.lst L)/\iu H' L a/\a.length=i/\∀ x∈a,0≤x.1/\x.1 <↥wd/\0≤x.2/\x.2<2 ^ 64) {Z0,Z0,[],[],G,ak.new u,af,iu.nil,G,λx h=>by cases h} ?_ ?_}
  .rintro i σ H2 hi ⟨B,v,L,a,rfl,s2,g,R,C,r⟩;refine aO [t6 c,t6 ↥wd,r4 j,t6<|0 +↥i,v] ?_;dsimp only;exists _,G,_,_,G,G,⟨o5,o5⟩,_,G,_,_,G;let hm:=HQ (c / 4)<|0 +↥i;generalize yF (c / 4) (0 +↥i)=m at hm ⊢;refine aO [t6 c,t6 ↥wd,r4 j,t6<|0 +↥i,t6 m] ?_;dsimp only;let O:(↥wd).natAbs.log2<9000:=ZJ (Nat.log2_le_self _) o6;let a0:=ZG m (show↥wd≠0 by omega);let a1:=Zh m (show↥0<wd by omega);let b0:0≤m /↥wd % 50:=by omega
   let b1:m /↥wd % 50<50:=by omega
   refine{_,G,.inl {G,_,X0.of g},_,G,_,G,_,_,G,G,(by show↥0<wd;omega),_,G,_,G,_,_,G,G,{by show↥0<wd;omega,O},_,_,G,G,o5,t9,λl hl=>?_};let⟨z,U,hz⟩:=NI (x:=1) (y:=100000000000000000) (k:=m / 50 % 2) o6 o6;let sl:=ak.new hl (o:=.lst [V.int 1,V.int 100000000000000000]);refine{_,G,_,_,G,G,⟨o5,o5⟩,_,_,G,G,o5,l,_,_,V.int z,G,G,X0.of af,U,_,_,G,G,.inl {by show -(2 ^ 64)<m /↥wd % 50;omega,by show m /↥wd % 50<2 ^ 64;omega},t9,λt ht=>?_};let s3:=sl.trans<|ak.new ht (o:=.tup [V.int<|m % ↥wd,V.int<|m /↥wd % 50*z]);let p:Z9 (Z9 H2 l (.lst [V.int 1,V.int 100000000000000000])) t (.tup [V.int (m % ↥wd),V.int (m /↥wd % 50*z)]) t=some (.tup [V.int (m % ↥wd),V.int (m /↥wd % 50*z)]):=af;generalize m /↥wd % 50=x at b0 b1 s3 p ⊢;let bz:0≤x*z/\x*z<2 ^ 64:=by rcases hz with rfl|rfl <;> omega
   dsimp only;generalize Z9 (Z9 H2 l (.lst [V.int 1,V.int 100000000000000000])) t (.tup [V.int (m % ↥wd),V.int (x*z)])=H3 at s3 p ⊢;let a3:=R.len;exists j,_,_,G,G,s3 _ _ g,aN o6;refine{_,_,_,a++[(m % ↥wd,x*z)],G,λb o e=>?_,af,?_,by simp[C],λy Y=>?_}
   .rw[ah<|aq e u];exact s3 b o<|s2 b o e
   .refine(R.mono λb xs e=>?_).snoc ?_
    .rw[ah<|br e g nofun];exact s3 b _ e
    .rw[ah<|br p (s3 _ _ g) nofun];exact p
   .rcases Xv.mp Y with h|h
    .exact r y h
    .rw[Xx.mp h];exact⟨a0,a1,bz⟩
  .rintro σ H2 ⟨B,v,L,a,rfl,s2,g,R,C,r⟩;exact hN _ _ {_,_,_,_,G,s2,g,R,o6,r}
 .rintro σ H2 ⟨B,v,L,a,rfl,s2,g,R,S⟩;exact{_,G,q j L a H2 g u R S s2}
include T in
theorem zK(F:Fun K "_law_begin" "_law_begin" nY f fd):⋯ 1 f fd ["_law_wide"] (sE):=by
 refine F.okY qP ?_;rintro vs H Q E ⟨wd,rfl,ba,q⟩;refine⟨G,λaS A outer s hr=>⟨_,(au (psS 1 qP.nd<|Cq (nk aJ (bQ<|aa (aV EV (bQ<|aa aA aj)<|pv 0) aj)<|nk aJ (bQ<|aa (bQ aj) aj)<|nk aJ (bQ aj)<|nk aJ aA Cr) G G o7 o7)
   (au (jF (bG hr) (pv 1) aJ (bQ<|aa ic<|aa ic<|aa ic aj) G)
   (au (jF (bG hr) (pv 1) aJ (bQ<|aa aA<|aa aA<|aa aA aj) G)
   (av<|aM<|pv 1)))),?_⟩⟩
 intro s1 U;let C:ak H (Z9 H s1 (.dK [])):=ak.new U;let g0:Z9 H s1 (.dK []) s1=some (.dK []):=af;let a0:Alv [s1] (Z9 H s1 (.dK [])):=Alv.cons (λ_ h=>by cases h) g0;generalize Z9 H s1 (.dK [])=G0 at C g0 a0 ⊢;refine{t8,λz hz=>{_,G,z,↥wd,_,G,G,af,o6,o6,(by show 1*_≤Z7;exact Yk<|aN o6),λt ht=>{t8,λtl l=>?_}}};let a:ak G0 (Z9 G0 z (.lst [V.int 0])):=ak.new hz;generalize Z9 G0 z (.lst [V.int 0])=G1 at a ht l ⊢;rw[show(↥wd).toNat=wd by omega,vJ];rw[show(↥wd).toNat=wd by omega,vJ] at l;let s2:ak G1 (Z9 G1 t (.lst ((List.replicate wd 0).map Z8))):=ak.new ht;let g2:Z9 G1 t (.lst ((List.replicate wd 0).map Z8)) t=some (.lst ((List.replicate wd 0).map Z8)):=af;let n2:[t,s1].Nodup:=Xq.mpr {(a0.mv<|cU a).new ht,o8};let a2:=((a0.mv<|cU a).mv<|cU s2).cons g2;generalize Z9 G1 t (.lst ((List.replicate wd 0).map Z8))=G2 at s2 g2 l a2 ⊢;let s3:ak G2 (Z9 G2 tl (.lst [V.ref t])):=ak.new l;let g3:Z9 G2 tl (.lst [V.ref t]) tl=some (.lst [V.ref t]):=af;let n3:[tl,t,s1].Nodup:=Xq.mpr {a2.new l,n2};let a3:=(a2.mv<|cU s3).cons g3;generalize Z9 G2 tl (.lst [V.ref t])=G3 at s3 g3 a3 ⊢;refine{Xw _,λe he=>{t8,λpl y=>?_}};let s4:ak G3 (Z9 G3 e (.lst [])):=ak.new he;let g4:Z9 G3 e (.lst []) e=some (.lst []):=af;let n4:[e,tl,t,s1].Nodup:=Xq.mpr {a3.new he,n3};let a4:=(a3.mv<|cU s4).cons g4;generalize Z9 G3 e (.lst [])=G4 at s4 g4 a4 y ⊢;let s5:ak G4 (Z9 G4 pl (.lst [V.ref e])):=ak.new y;let g5:Z9 G4 pl (.lst [V.ref e]) pl=some (.lst [V.ref e]):=af;let n5:[pl,e,tl,t,s1].Nodup:=Xq.mpr {a4.new y,n4};let a5:=(a4.mv<|cU s5).cons g5;generalize Z9 G4 pl (.lst [V.ref e])=G5 at s5 g5 a5 ⊢;refine{Xw _,λlg L=>?_};let s6:ak G5 (Z9 G5 lg (.lst [])):=ak.new L;let g6:Z9 G5 lg (.lst []) lg=some (.lst []):=af;let n6:[lg,pl,e,tl,t,s1].Nodup:=Xq.mpr {a5.new L,n5};let a6:=(a5.mv<|cU s6).cons g6;generalize Z9 G5 lg (.lst [])=B at s6 g6 a6 ⊢;let S:=a.trans<|s2.trans<|s3.trans<|s4.trans<|s5.trans s6;exists S _ _ g0,[(.inr "tables",.ref tl),(.inr "places",.ref pl),(.inr "log",.ref lg),(.inr "next",.int 0)],G,o8;let e7:nC [] [(.inr "tables",V.ref tl),(.inr "places",.ref pl),(.inr "log",.ref lg),(.inr "next",.int 0)]=[((.inr "tables":Key),V.ref tl),(.inr "places",.ref pl),(.inr "log",.ref lg),(.inr "next",.int 0)]:=rfl;rw[e7];let r7:∀b o,B b=some o->b≠s1->Z9 B s1 (.dK [((.inr "tables":Key),V.ref tl),(.inr "places",.ref pl),(.inr "log",.ref lg),(.inr "next",.int 0)]) b=some o:=λb o e n=>by rw[ah n];exact e
 let g7:Z9 B s1 (.dK [((.inr "tables":Key),V.ref tl),(.inr "places",.ref pl),(.inr "log",.ref lg),(.inr "next",.int 0)]) s1=some (.dK [((.inr "tables":Key),V.ref tl),(.inr "places",.ref pl),(.inr "log",.ref lg),(.inr "next",.int 0)]):=af;let a7:Alv _ (Z9 B s1 (.dK [((.inr "tables":Key),V.ref tl),(.inr "places",.ref pl),(.inr "log",.ref lg),(.inr "next",.int 0)])):=a6.mv qe;generalize Z9 B s1 (.dK [((.inr "tables":Key),V.ref tl),(.inr "places",.ref pl),(.inr "log",.ref lg),(.inr "next",.int 0)])=G7 at r7 g7 a7 ⊢;refine aO [t6 ↥wd,r4 s1] ?_;dsimp only;refine λld v=>?_
 let s8:ak G7 (Z9 G7 ld (.dK [])):=ak.new v;let g8:Z9 G7 ld (.dK []) ld=some (.dK []):=af;let n8:[ld,lg,pl,e,tl,t,s1].Nodup:=Xq.mpr {a7.new v,n6};let a8:=(a7.mv<|cU s8).cons g8;generalize Z9 G7 ld (.dK [])=G8 at s8 g8 a8 ⊢;refine λl1 ax l2 as=>{v7,λlsl j=>?_}
 let s9:ak G8 (Z9 (Z9 G8 l1 (.dK [])) l2 (.dK [])):=(ak.new ax).trans<|ak.new as;let a9:=a8.mv<|cU s9;generalize Z9 (Z9 G8 l1 (.dK [])) l2 (.dK [])=G9 at s9 a9 j ⊢;let p:ak G9 (Z9 G9 lsl (.lst [.ref ld,.ref l1,.ref l2])):=ak.new j;let a1:Z9 G9 lsl (.lst [.ref ld,.ref l1,.ref l2]) lsl=some (.lst [.ref ld,.ref l1,.ref l2]):=af;let aH:[lsl,ld,lg,pl,e,tl,t,s1].Nodup:=Xq.mpr {a9.new j,n8};let ai:=(a9.mv<|cU p).cons a1;generalize Z9 G9 lsl (.lst [.ref ld,.ref l1,.ref l2])=g at p a1 ai ⊢;let am:=s8.trans<|s9.trans p;exists _,G,s1,_,G,mw.k (k:=Sum.inr "shelves") (am _ _ g7)<|aN (by show 4≤1000;decide);dsimp only;let O:∀b o,g b=some o->b≠s1->Z9 g s1 (.dK [((.inr "tables":Key),V.ref tl),(.inr "places",.ref pl),(.inr "log",.ref lg),(.inr "next",.int 0),(.inr "shelves",.ref lsl)]) b=some o:=λb o e n=>by rw[ah n];exact e
 let an:Z9 g s1 (.dK [((.inr "tables":Key),V.ref tl),(.inr "places",.ref pl),(.inr "log",.ref lg),(.inr "next",.int 0),(.inr "shelves",.ref lsl)]) s1=some (.dK [((.inr "tables":Key),V.ref tl),(.inr "places",.ref pl),(.inr "log",.ref lg),(.inr "next",.int 0),(.inr "shelves",.ref lsl)]):=af;let ae:Alv _ (Z9 g s1 (.dK [((.inr "tables":Key),V.ref tl),(.inr "places",.ref pl),(.inr "log",.ref lg),(.inr "next",.int 0),(.inr "shelves",.ref lsl)])):=ai.mv qe;change A0 _ _ _ _ (Z9 g s1<|.dK [((.inr "tables":Key),V.ref tl),(.inr "places",.ref pl),(.inr "log",.ref lg),(.inr "next",.int 0),(.inr "shelves",.ref lsl)]);generalize Z9 g s1 (.dK [((.inr "tables":Key),V.ref tl),(.inr "places",.ref pl),(.inr "log",.ref lg),(.inr "next",.int 0),(.inr "shelves",.ref lsl)])=r at O an ae ⊢;refine{v7,λldn m=>?_};let Y:ak r (Z9 r ldn (.lst [.int 0,.int 0,.int 0])):=ak.new m;let al:Z9 r ldn (.lst [.int 0,.int 0,.int 0]) ldn=some (.lst [.int 0,.int 0,.int 0]):=af;let ab:[ldn,lsl,ld,lg,pl,e,tl,t,s1].Nodup:=Xq.mpr {ae.new m,aH};generalize Z9 r ldn (.lst [.int 0,.int 0,.int 0])=u at Y al ⊢;exists _,G,s1,_,G,mw.k (k:=Sum.inr "done") (Y _ _ an)<|aN (by show 5≤1000;decide),_,G;let c:∀ b∈[ldn,lsl,ld,lg,pl,e,tl,t],b≠s1:=λb hb z=>gM ab 8 hb (by simp[z])
 let ac:∀b o,u b=some o->b≠s1->Z9 u s1 (.dK (lwK tl pl lg lsl ldn 0)) b=some o:=λb o e n=>by rw[ah n];exact e
 let ag:Z9 u s1 (.dK (lwK tl pl lg lsl ldn 0)) s1=some (.dK (lwK tl pl lg lsl ldn 0)):=af;show Q (.ref s1) (Z9 u s1<|.dK<|lwK tl pl lg lsl ldn 0);generalize Z9 u s1 (.dK (lwK tl pl lg lsl ldn 0))=G13 at ac ag ⊢;let ar:∀b o,g b=some o->b≠s1->G13 b=some o:=λb o e n=>ac _ _ (Y _ _<|O _ _ e n) n
 let r8:∀b o,G8 b=some o->b≠s1->G13 b=some o:=λb o e n=>ar _ _ (p _ _<|s9 _ _ e) n
 let r6:∀b o,B b=some o->b≠s1->G13 b=some o:=λb o e n=>r8 _ _ (s8 _ _<|r7 _ _ e n) n
 let sH:ak H G13:=λb o e=>r6 b o (S _ _<|C _ _ e)<|aq e U
 let f0:∀b,b≠s1->B b=Z0->H b=Z0:=λb n h=>C.free<|S.free h
 let f8:∀b,b≠s1->G8 b=Z0->H b=Z0:=λb n h=>f0 b n (by
  cases x:B b with
  |none=>rfl
  |some o=>rw[s8 _ _<|r7 _ _ x n] at h;cases h)
 let aw:∀b,b≠s1->r b=Z0->H b=Z0:=λb n h=>f8 b n (by
  cases x:G8 b with
  |none=>rfl
  |some o=>rw[O _ _ (p _ _<|s9 _ _ x) n] at h;cases h)
 refine q {s1,tl,pl,lg,lsl,ldn,ld,[t],[e],.ref l1,.ref l2,[],[],(0)} G13 G {ag,r6 _ _ ((s4.trans<|s5.trans s6) _ _ g3)<|c _ o8,{G,λi b xs e1 x=>?_},r6 _ _ (s6 _ _ g5)<|c _ o8,{G,λi b xs e1 x=>?_},r6 _ _ g6<|c _ o8,G,ar _ _ a1<|c _ o8,ac _ _ al<|c _ o8,r8 _ _ g8<|c _ o8,dX.nil,G,Xw 61,?_,?_} ?_ sH
 .cases i with
  |zero=>cases e1;cases x;exact r6 _ _ ((s3.trans<|s4.trans<|s5.trans s6) _ _ g2)<|c _ o8
  |succ i=>cases e1
 .cases i with
  |zero=>cases e1;cases x;exact r6 _ _ ((s5.trans s6) _ _ g4)<|c _ o8
  |succ i=>cases e1
 .simp only[LAd.sm,List.nodup_cons,List.mem_cons,not_or,List.not_mem_nil,not_false_eq_true,List.nodup_nil,and_true] at ab ⊢;grind
 .intro b hb;simp only[LAd.sm,List.nodup_cons,List.mem_cons,not_or,List.not_mem_nil,not_false_eq_true,List.nodup_nil,and_true,List.mem_append,or_false] at ab hb ⊢;grind
 .intro b hb;by_cases n:b=s1
  .rw[n];exact U
  simp only[LAd.sm,List.mem_cons,List.not_mem_nil,or_false,List.mem_append] at hb;rcases hb with(rfl|rfl|rfl|rfl|rfl|rfl|rfl)|rfl|rfl
  .exact f8 _ n (s9.free j)
  .exact C.free (a.free<|s2.free l)
  .exact C.free (a.free<|(s2.trans<|s3.trans s4).free y)
  .exact C.free (a.free<|(s2.trans<|s3.trans<|s4.trans s5).free L)
  .exact aw _ n m
  .exact absurd G n
  .exact f0 _ n (by
    cases x:B b with
    |none=>rfl
    |some o=>rw[r7 _ _ x n] at v;cases v)
  .exact C.free (a.free ht)
  .exact C.free (a.free<|(s2.trans s3).free he)
variable(iR:bB ao "passes" 5 ["self","changes"] (qp ao aD))
include T iR in
theorem Cc(F:Fun K "_law_day" "_law_day" qH f fd):⋯ 6 f fd ["_law_store","_law_state","_law_changes_here"] (yh ao aD aB ay aC):=by
 refine F.okY lu ?_;rintro vs H Q E ⟨B,Z,L,wd,g,M,ca,CL,A2,rfl,h,a3,U,ab,a7,ck,q⟩;refine⟨G,λce A outer s hr=>⟨_,(au (psS 3 lu.nd<|dI gm o9 T.j6 YA<|aa (bh bx (bH (bG hr) (pv 1) aJ λ_ _=>rfl) (jg gI aA) λ_ _=>rfl) aj)
   (au (eE XF G (dP<|pv 2) (pR G<|cS (pgN 4 lu.nd)<|cS (pgN 5 lu.nd) kN)
   (av<|tH (pv 5)<|sW (pv 3) (pv 4) set_list))
   (au (aY<|jc XJ XZ Yb dH (bH (bG hr) (pv 1) aJ λ_ _=>rfl)<|aa (pv 3) aj)
   (au (aY<|jc XJ XZ Yb dH (bH (bG hr) (pv 1) aJ λ_ _=>rfl)<|aa (pY (N:=["_law_change"]) (k:=1) (cap:=[]) G G (dP<|pv 2) (λ_ _ _ _=>(pgN 0 (show(["_law_change"]:ee Z6).Nodup from by decide +kernel)<|.inr G)) (λ_ _ _ _=>pQ) λ_ _ _ _=>(bh (ux (K:=K) G) (pv 0) aA λ_ _=>rfl)) aj)
   (av<|aM<|gP fC (aU (pv 0) T.aH iR aZ (hr.mono o7)<|aa (dI gm o9 T.j6 YA<|aa (pv 2) aj) aj) (aV tX (bq bM o9 T.fE Yc<|aa (bH (bG hr) (pv 1) aJ λ_ _=>rfl) aj) aA)<|aR _))))),?_⟩⟩
 dsimp only[aW];let hT:=qv wd g;let x:=h.l;let bn:=x.lt.len;let cd:=ab.1;obtain⟨tab,C⟩:∃tab,(bT wd g)[(bT wd g).length-1]?=some tab:={_,Xh o6};let bo:=tabs_ok h.ok tab<|Xl C;let⟨la,bZ,ch,bp⟩:=x.lt.at_ C;refine{_,G,L.s,_,G,gTb x.s_,_,G,L.tl,_,_,V.ref la,G,G,X0.of x.tl,Gg (by rw[Xj,bn,Xo,bZ];rfl),la,_,G,.inl<|X0.of bp,λm hm=>?_};refine aO [r4 Z.p,r4 L.s,r4 ca,r4 m,Z0,Z0] ?_;dsimp only;let s4:ak H (Z9 H m (.lst (tab.map Z8))):=ak.new hm;let a6:Z9 H m (.lst (tab.map Z8)) m=some (.lst (tab.map Z8)):=af;generalize Z9 H m (.lst (tab.map Z8))=H4 at s4 a6 ⊢;let c7:ca≠m:=aq a3 hm;refine gz (λσ H'=>∃v4 v5:nt V,σ=[r4 Z.p,r4 L.s,r4 ca,r4 m,v4,v5]/\H'=Z9 H4 m (.lst<|(nextT tab A2).map Z8)) (λN2 c8=>?_) ?_
 .refine{_,G,ca,G,{_,X0.of<|s4 _ _ a3},eG (K:=K) (a:=ca) (xs:=CL) (λj σ S=>∃v4 v5:nt V,σ=[r4 Z.p,r4 L.s,r4 ca,r4 m,v4,v5]/\S m=some (.lst<|(nextT tab<|A2.take j).map Z8)/\S=Z9 H4 m (.lst<|(nextT tab<|A2.take j).map Z8)) {Z0,Z0,G,a6,by funext b;by_cases c:b=m;(rw[c,af,a6];rfl);rw[ah c]} (λj σ S _ z0=>by let⟨_,_,_,_,e⟩:=z0;exact by rw[e];exact X0.of (by rw[ah c7];exact s4 _ _ a3)) ?_ ?_}
  .rintro j v σ S hj ⟨v9,ba,rfl,a8,rfl⟩;let⟨t',r,rfl,Y,ac⟩:=U.get j v hj;let c:=ab.2 r<|Xl Y;let bz:t'≠m:=br (s4 _ _ ac) a6 nofun;exists t',_,G,X3.of (by rw[ah bz];exact s4 _ _ ac),G,_,_,G,_,_,G,G;exists _,G,_,G,_,G,m,_,_,r.1.toNat,G,G,af,?_
   .rw[Xj,tW,bo.1];unfold ixN;rw[Xm o6,Xm o6]
   .let e:A2.take (j+1)=A2.take j++[r]:=by rw[XT,Y];rfl
    exists _,_,G,?_
    .rw[af,e,qg,abQ]
    .rw[gp,e,qg,abQ]
  .rintro σ S ⟨v9,ba,rfl,a8,rfl⟩;rw[show A2.take CL.length=A2 by rw[U.len,Yi]];exact c8 _ _ ⟨v9,ba,G,G⟩
 rintro σ S ⟨v4,v5,rfl,rfl⟩;let s6:ak H (Z9 H4 m (.lst ((nextT tab A2).map Z8))):=λb o e=>by rw[ah<|aq e hm];exact s4 b o e
 let a8:Z9 H4 m (.lst ((nextT tab A2).map Z8)) m=some (.lst ((nextT tab A2).map Z8)):=af;generalize Z9 H4 m (.lst ((nextT tab A2).map Z8))=S at s6 a8 ⊢;exists _,G,L.s,_,G,gTb<|s6 _ _ x.s_,.inl {G,_,X0.of<|s6 _ _ x.tl},_,G,L.tl,_,_,G,G,s6 _ _ x.tl,(by rw[Xj];exact aN o6);rw[show L.LT.map V.ref++[V.ref m] =(L.LT++[m]).map V.ref by rw[YX];rfl];let r7:∀b o,S b=some o->b≠L.tl->Z9 S L.tl (.lst ((L.LT++[m]).map V.ref)) b=some o:=λb o e n=>by rw[ah n];exact e
 let h7:Z9 S L.tl (.lst ((L.LT++[m]).map V.ref)) L.tl=some (.lst ((L.LT++[m]).map V.ref)):=af;generalize Z9 S L.tl (.lst ((L.LT++[m]).map V.ref))=H7 at r7 h7 ⊢;let be:∀ b∈L.sm,H b≠Z0:=λb c=>by let⟨o,e⟩:=x.here b<|Xu _ c;rw[e];simp
 let al:ca≠L.tl:=λz=>a7 (by simp[LAd.sm,z])
 let bb:ca≠L.pl:=λz=>a7 (by simp[LAd.sm,z])
 let bj:L.pl≠L.tl:=λz=>gM x.nd 2 (b:=L.tl) (by simp[LAd.sm]) (by simp[LAd.sm,z])
 let c2:L.s≠L.tl:=br x.s_ x.tl nofun;let cf:L.s≠L.pl:=br x.s_ x.pl nofun;let bO:m≠L.tl:=λz=>be L.tl (by simp[LAd.sm]) (by rwa[←z])
 let c0:m≠L.pl:=λz=>be L.pl (by simp[LAd.sm]) (by rwa[←z])
 let bA:=r7 _ _ (s6 _ _ x.s_) c2;let aw:=r7 _ _ (s6 _ _ x.pl) bj;let bi:=r7 _ _ (s6 _ _ a3) al;let bd:iu H7 CL A2:=U.mono λt xs e=>r7 _ _ (s6 _ _ e)<|br e x.tl nofun
 refine{_,G,L.s,_,G,gPl bA,.inl {G,_,X0.of aw},_,G,ca,G,{_,X0.of bi},λD' y=>?_};refine oO D' (K:=K) (a:=ca) (xs:=CL) (λi σ H8 ys=>∃v:nt V,σ=[v]/\ak H7 H8/\H8 D'=some (.lst ys)/\ys =((A2.take i).map Prod.fst).map Z8) {Z0,G,ak.new y,af,G} (λi σ H3 ys _ z0=>by let⟨_,_,s3,_⟩:=z0;exact X0.of<|s3 _ _ bi) ?_ ?_
 .rintro i v σ H8 ys hi ⟨v0,rfl,s8,ae,rfl⟩;let⟨t',r,rfl,Y,ac⟩:=bd.get i v hi;let cg:=(Xg.mp Y).1;exists _,G,t',_,_,V.int r.1,G,G,X3.of<|s8 _ _ ac,G,ae,by simp;exact aN o6,_,G,λb o e=>?_,af
  .rw[ah<|aq e y];exact s8 b o e
  .rw[XT,Y];simp
 .rintro σ H8 ys ⟨v0,rfl,s8,ae,rfl⟩;rw[U.len,Yi] at ae;let c3:=s8 _ _ aw;let cc:=x.lp.len;let ci:=GO g;exists L.pl,_,_,G,G,c3,(by rw[Xj];exact aN o6);rw[show L.LP.map V.ref++[V.ref D'] =(L.LP++[D']).map V.ref by rw[YX];rfl];let r9:∀b o,H8 b=some o->b≠L.pl->Z9 H8 L.pl (.lst ((L.LP++[D']).map V.ref)) b=some o:=λb o e n=>by rw[ah n];exact e
  let h9:Z9 H8 L.pl (.lst ((L.LP++[D']).map V.ref)) L.pl=some (.lst ((L.LP++[D']).map V.ref)):=af;generalize Z9 H8 L.pl (.lst ((L.LP++[D']).map V.ref))=H9 at r9 h9 ⊢;dsimp only;let bW:D'≠L.tl:=λz=>by rw[z,h7] at y;cases y
  let bY:D'≠L.pl:=λz=>by rw[z,aw] at y;cases y
  let nD:H D'=Z0:=by
   cases e:H D' with
   |none=>rfl
   |some o=>rw[r7 _ _ (s6 _ _ e) bW] at y;cases y
  let an:∀b o,S b=some o->b≠L.tl->b≠L.pl->H9 b=some o:=λb o e n1 n2=>r9 _ _ (s8 _ _<|r7 _ _ e n1) n2
  let k9:bg [L.tl,L.pl] H H9:=λb o e c=>by
   let bc:b≠L.tl/\b≠L.pl:=⇑c
   exact an b o (s6 b o e) bc.1 bc.2
  let hF:bE H [L.tl,L.pl]:=bE.ls x.tl<|bE.ls x.pl bE.nil;let ai:∀ b∈[L.tl,L.pl],b∈L.sm:=λb c=>by simp only[LAd.sm,List.mem_cons,List.not_mem_nil,or_false] at c ⊢;grind
  let l9:=x.day k9 (r9 _ _ (s8 _ _ h7) bj.symm) h9 (an _ _ a8 bO c0) (r9 _ _ ae bY) hm nD;let a9:=h.a.c6 k9 hF λb c O=>h.dj b c<|Xu _<|ai b O
  let⟨dx,h1⟩:=id a9.st;let c1:=an _ _ (s6 _ _ a3) al bb;let bl:iu H9 CL A2:=U.mono λt xs e=>k9 _ _ e<|hF.tup e
  refine{_,G,Z.p,dx,_,G,h1,bU o4,_,G,ca,_,G,.inl<|X0.of c1,λa2 bm=>?_};let a4:ak H9 (Z9 H9 a2 (.lst CL)):=ak.new bm;let h10:Z9 H9 a2 (.lst CL) a2=some (.lst CL):=af;generalize Z9 H9 a2 (.lst CL)=H10 at a4 h10 ⊢;let a1:=a9.same a4;let l10:=l9.same a4;refine{Z.p,Z.q,Z.sl,Z.nl,Z.dl,Z.se,Z.ta,Z.sa,a2,Z.TL,Z.SL,wd,_,_,Z.rl,Z.sk,Z.ea,CL,A2,G,a1.st,a1.D,h10,bl.mono λt xs e=>a4 _ _ e,o6,o6,a9.D.fresh bm,Hf ab,λm2 d2 bt c9 ag c4 as ar k11=>?_};rw[C] at ag;cases ag;let a0:∀ cs∈g++[A2],nQ wd cs:=λcs a7=>(Xv.mp a7).elim (h.ok cs) λz=>by rwa[Xx.mp z]
  let eT:bT wd (g++[A2])=bT wd g++[nextT tab A2]:=by rw[FD,DM C]
  let bv:=a1.day c4 k11 as ar o6 (by rw[←sj];exact Dd a1.D.w2 a0) (by rw[←eT];exact tabs_ok a0);let aS:∀ b∈L.sm ++((L.LT++[m]) ++(L.LP++[D'])),b∈L.sm ++(L.LT++L.LP)∨b=m∨b=D':=λb c=>by simp only[List.mem_append,List.mem_singleton] at c ⊢;grind
  let ax:∀ b∈Z.sm++Z.ft,b∉L.sm ++((L.LT++[m]) ++(L.LP++[D'])):=λb c O=>by
   let⟨o,e⟩:=h.a.here b c;rcases aS b O with z|z|z
   .exact h.dj b c z
   .rw[z,hm] at e;cases e
   .rw[z,nD] at e;cases e
  let l11:=l10.c6 k11 (bE.days a1.D) λb c O=>ax b (XD _ O) c
  exists _,G,L.s,_,G,gTb l11.s_,L.tl,_,G,.inl<|X0.of l11.tl,_,_,G,G,G;rw[Xr (by simp only[List.length_map,List.length_append,List.length_singleton];congr 1;omega)];let am:∀ b∈Z.sm++foot Z.q Z.ta Z.sa (Z.TL++[m2]) (Z.SL++[d2]),b∈Z.sm++Z.ft∨b=m2∨b=d2:=λb c=>by simp only[SAd.ft,foot,List.mem_append,List.mem_singleton,List.mem_cons] at c ⊢;grind
  let a5:ak B H10:=λb o e=>a4 _ _ (k9 b o (h.sb b o e) λO=>by rw[h.fb b<|Xu _<|ai b O] at e;cases e)
  refine q {Z with TL:=Z.TL++[m2],SL:=Z.SL++[d2]} {L with LT:=L.LT++[m],LP:=L.LP++[D']} bt G G G {by rwa[eT,sj],by rwa[eT,sj],λb c O=>?_,h.nn,h.dom,λn u e=>(by rw[eT,YI];exact(h.po n u e).more),a0,λb o e=>k11 b o (a5 b o e) (λO=>by rw[h.fa b<|XD _ O] at e;cases e),λb c=>?_,λb c=>?_}
  .let⟨o,e⟩:=l10.here b O;rcases am b c with z|z|z
   .exact ax b z O
   .rw[z,as] at e;cases e
   .rw[z,ar] at e;cases e
  .rcases am b c with z|z|z
   .exact h.fa b z
   .rw[z];exact a5.free as
   .rw[z];exact a5.free ar
  .rcases aS b c with z|z|z
   .exact h.fb b z
   .rw[z];exact h.sb.free hm
   .rw[z];exact h.sb.free nD
include T in
theorem BJ(F:Fun K "_law_work" "_law_work" oY f fd):⋯ 1 f fd ["_law_state","_law_side","_law_deed"] (vt):=by refine F.okY AB ?_;rintro vs H Q E ⟨s1,tl,pl,lg,lsl,ldn,ld,t,n,l1,l2,lkv,m,st,day,rfl,h1,h2,h3,h4,b,q⟩;refine{G,λi A outer s c=>{_,(av<|cj (aQ fC (bh eW (pv 2) aA λ_ _=>rfl) aJ<|aR _) (av<|jF (bG c) (bh bx (bH (bG c) (pv 0) aJ λ_ _=>rfl) (pv 1) λ_ _=>rfl) (bh eW (pv 2) aA λ_ _=>rfl) (dc<|aa (bh eW (pv 2) aA λ_ _=>rfl)<|aa (bh eW (pv 2) aA λ_ _=>rfl)<|aa aA aj) G)<|av<|aY<|vp (bh bx (bH (bG c) (pv 0) aJ λ_ _=>rfl) (pv 1) λ_ _=>rfl) (bh eW (pv 2) aA λ_ _=>rfl) ⟨G,G,G,G⟩),?_}};dsimp only[aW];refine fN (λj g=>{_,G,t,_,_,V.str _,G,G,X3.of b,G,G,_,G,by rwa[Xr rfl]}) ?_;refine{_,G,t,_,_,V.int st,G,G,X3.of b,G,_,G,t,_,_,V.int day,G,G,X3.of b,G,v7,λh a=>?_};let sn:=ak.new a (o:=.tup [.int st,.int day,.int 0]);exact{_,G,s1,_,G,gSh<|sn _ _ h1,_,G,lsl,_,_,.ref ld,G,G,X0.of<|sn _ _ h2,G,_,G,t,_,_,V.int m,G,G,X3.of<|sn _ _ b,G,ld,_,G,mw.k (k:=Sum.inl m) (sn _ _ h3)<|aN o6,q h a}
variable(lC:cE "_law_work" 1 ["_law_state","_law_side","_law_deed"] vt)
include T lC in
theorem wJ(F:Fun K "_law_carried" "_law_carried" ku f fd):⋯ 2 f fd ["_law_state","_law_side","_law_many"] (pL):=by
 refine F.okY jO ?_;rintro vs H Q E ⟨s1,tl,pl,lg,lsl,ldn,ld,t,n,l1,l2,LG,lkv,m,st,day,rfl,h1,h2,h3,h4,x,L,h5,Y,C,h6,n1,n2,q⟩;refine⟨G,λa0 A outer s g=>⟨_,(au (psS 3 jO.nd aA)
   (au (vj XF (PW.pt<|pw_and (aQ jR (pv 3) (pv 2)<|aR _)<|pw_and1<|aQ jR (bh bx (bH (bG g) (pv 0) aJ λ_ _=>rfl) (pv 1) λ_ _=>rfl) (bq bM o9 T.fE Yc<|aa (bH (bG g) (pv 0) aJ λ_ _=>rfl) aj)<|aR _) (au (aY<|pcS lC aG g<|aa (pv 0)<|aa (pv 1)<|aa (bh bx (bH (bG g) (pv 0) aJ λ_ _=>rfl) (bh bx (bH (bG g) (pv 0) aJ λ_ _=>rfl) (pv 1) λ_ _=>rfl) λ_ _=>rfl) aj)
   (au (tH (aV cZ (bh bx (bH (bG g) (pv 0) aJ λ_ _=>rfl) (pv 1) λ_ _=>rfl) aA)<|sW (bH (bG g) (pv 0) aJ λ_ _=>rfl) (pv 1) set_list)
   (av<|psS 3 jO.nd<|aV cZ (pv 3) aA))))
   (av<|aM<|pv 3))),?_⟩⟩
 dsimp only[aW];refine aO [r4 s1,t6 0,t6 1,t6 0] ?_;dsimp only;refine gz (λσ H'=>∃a,σ=[r4 s1,t6 0,t6 1,t6 1]/\H' ld=some (.dK<|putK lkv (.inl m)<|.ref a)/\H' a=some (.tup [.int st,.int day,.int 0])/\H' ldn=some (.lst [.int (n+1:Z4),.int 0,.int 0])/\bg [ldn,ld] H H') (λN S=>?_) ?_
 .exists λk σ H'=>(σ=[r4 s1,t6 0,t6 1,t6 0]/\H'=H/\k=1)∨(∃a,σ=[r4 s1,t6 0,t6 1,t6 1]/\H' ld=some (.dK<|putK lkv (.inl m)<|.ref a)/\H' a=some (.tup [.int st,.int day,.int 0])/\H' ldn=some (.lst [.int (n+1:Z4),.int 0,.int 0])/\bg [ldn,ld] H H'/\k=0),{_,.inl ⟨G,G,G⟩};rintro k σ H1 (⟨rfl,rfl,rfl⟩|⟨a,rfl,l,j,y,v,rfl⟩)
  .refine{_,G,_,G,_,_,G,G,_,G,iC o7 ?_};refine{_,G,s1,_,G,gDn h1,_,G,ldn,_,_,.int ↥n,G,G,X0.of h6,G,_,G,s1,_,G,gLg h1,lg,_,G,.inl<|X0.of h5,_,_,G,G,_,G,iC (by simp;omega) ?_};exists _,λa1 H' h=>h;refine{_,G,_,G,_,G,s1,_,G,gLg h1,_,G,s1,_,G,gDn h1,_,G,ldn,_,_,.int ↥n,G,G,X0.of h6,G,lg,_,_,.ref t,G,G,X0.of h5,dh (by rw[←Y];simp),s1,tl,pl,lg,lsl,ldn,ld,t,n,l1,l2,lkv,m,st,day,G,h1,h2,h3,h4,L,λa i=>?_};let u:∀b o,H1 b=some o->b≠ld->Z9 (Z9 H1 a (.tup [.int st,.int day,.int 0])) ld (.dK (putK lkv (.inl m) (.ref a))) b=some o:=λb o e z=>by rw[ah z];exact ak.new i b o e
   let O:a≠ld:=λz=>by rw[z,h3] at i;cases i
   let l:Z9 (Z9 H1 a (.tup [.int st,.int day,.int 0])) ld (.dK (putK lkv (.inl m) (.ref a))) ld=some (.dK (putK lkv (.inl m) (.ref a))):=af;let j:Z9 (Z9 H1 a (.tup [.int st,.int day,.int 0])) ld (.dK (putK lkv (.inl m) (.ref a))) a=some (.tup [.int st,.int day,.int 0]):=by rw[ah O,af]
   generalize Z9 (Z9 H1 a (.tup [.int st,.int day,.int 0])) ld (.dK (putK lkv (.inl m) (.ref a)))=H2 at u l j ⊢;let B:=br h6 h3 nofun;let p:=u _ _ h1 x;let c:=u _ _ h6 B;exists _,G,s1,_,G,gDn p,_,G,ldn,_,_,.int ↥n,G,G,X0.of c,G,_,_,G,G,_,G,s1,_,G,gDn p,_,G,ldn,_,(0),(0),G,G,c,G;exists _,G,_,_,G,G;refine aO [r4 s1,t6 0,t6 1,t6 1] ?_;refine{(0),o7,.inr {a,G,by rwa[ah B.symm],by rwa[ah<|br j c nofun],af,λb o e U=>?_,G}};let r:b≠ldn/\b≠ld:=⇑U
   rw[ah r.1];exact u b o e r.2
  .refine{_,G,_,G,_,_,G,G,_,G,gg o7 ?_};exact S _ _ ⟨a,G,l,j,y,v⟩
 rintro σ H1 ⟨a,rfl,l,j,y,v⟩;exact{_,G,q a H1 l j y v}
variable(iL:cE "_law_carried" 2 ["_law_state","_law_side","_law_many"] pL)
include T iL in
theorem BQ(F:Fun K "_law_note" "_law_note" pA f fd):⋯ 3 f fd ["_law_state","_law_deed"] (vF):=by
 refine F.okY A7 ?_;rintro vs H Q E ⟨s1,tl,pl,lg,lsl,ldn,ld,t,n,l1,l2,h,lkv,m,st,day,rfl,h1,h2,h3,h4,j,p,h5,v,g,h6,i,x,C,q⟩;refine⟨G,λy A outer s r=>⟨_,(au (aY<|jc XJ XZ Yb dH (bH (bG r) (pv 0) aJ λ_ _=>rfl)<|aa (pv 1) aj)
   (av<|aY<|pcS iL aG r<|aa (pv 0)<|aa aA<|aa aA aj)),?_⟩⟩
 dsimp only[aW];exists _,G,s1,_,G,gLg h1,.inl {G,_,X0.of h5},_,G,lg,_,_,G,G,h5,aN o6;let a:∀b o,H b=some o->b≠lg->Z9 H lg (.lst (h++[.ref t])) b=some o:=λb o e z=>by rw[ah z];exact e
 let l:Z9 H lg (.lst (h++[.ref t])) lg=some (.lst (h++[.ref t])):=af;generalize Z9 H lg (.lst (h++[.ref t]))=H2 at a l ⊢;refine{_,G,s1,tl,pl,lg,lsl,ldn,ld,t,n,l1,l2,h,lkv,m,st,day,G,a _ _ h1<|br h1 h5 nofun,a _ _ h2 C.symm,a _ _ h3<|br h3 h5 nofun,h4,j,a _ _ p<|br p h5 nofun,l,v,g,a _ _ h6 i,i,x,λO H' u L B k=>?_};refine q O H' u L B (k _ _ l (by simp[i.symm,br h5 h3 nofun])) λb o e S=>?_
 let c:b≠lg/\b≠ldn/\b≠ld:=⇑S
 exact k b o (a b o e c.1) (by simp[c.2.1,c.2.2])
variable(kR:cE "_law_note" 3 ["_law_state","_law_deed"] vF)
include T kR in
theorem Ck(F:Fun K "_law_put" "_law_put" qJ f fd):⋯ 4 f fd ["_law_state","_law_start","_law_day_here"] (ye):=by
 refine F.okY Cm ?_;rintro vs H Q E ⟨L,v8,AL,M,u,rfl,h,m,Y,hg,q⟩;refine⟨G,λa0 A outer s j=>⟨_,(au (aY<|pcS kR aG j<|aa (pv 0)<|aa (dc<|aa aJ<|aa (bH (bG j) (pv 0) aJ λ_ _=>rfl)<|aa (pv 1)<|aa (pv 2) aj) aj)
   (av<|jF (bG j) (pv 0) aJ (aV cZ (bH (bG j) (pv 0) aJ λ_ _=>rfl) aA) G)),?_⟩⟩
 refine{_,G,_,G,L.s,_,G,gNx h.s_,_,G,_,G,(by show 4≤Z7;decide),λt r=>?_};let a:=h.same<|ak.new r (o:=.tup [.str "put",.int ↥L.n,.int u.st,.int ↥u.d]);let B:Z9 H t (.tup [.str "put",.int ↥L.n,.int u.st,.int ↥u.d]) t=some (.tup [.str "put",.int ↥L.n,.int u.st,.int ↥u.d]):=af;let sn:ak H (Z9 H t (.tup [.str "put",.int ↥L.n,.int u.st,.int ↥u.d])):=ak.new r;generalize Z9 H t (.tup [.str "put",.int ↥L.n,.int u.st,.int ↥u.d])=H1 at a B sn ⊢;let hk:=a.lk;let x:∀ b∈[L.lsl,L.tl,L.pl],b∉[L.lg,L.ldn,L.s,L.ld]:=λb l=>gM h.nd 3 l
 let g:L.s≠L.ld:=λz=>gM h.nd 6 (b:=L.s) (by simp[LAd.sm]) (by simp[LAd.sm,z])
 let p:L.lg≠L.ldn:=λz=>gM h.nd 4 (b:=L.lg) (by simp[LAd.sm]) (by simp[LAd.sm,z])
 refine{L.s,L.tl,L.pl,L.lg,L.lsl,L.ldn,L.ld,t,L.n,L.l1,L.l2,L.LG,L.lkv,↥L.n,u.st,↥u.d,G,a.s_,a.ls,a.ld,o6,g,B,a.lg,a.ln,o6,a.dn,p.symm,λz=>x L.lsl o8 (by simp[z]),λz=>x L.lsl o8 (by simp[z]),λS H2 U C v y k=>?_};let i:=k _ _ a.s_ (by simp[g,br a.s_ a.lg nofun,br a.s_ a.dn nofun]);let O:bg [L.lg,L.ldn,L.s,L.ld] H (Z9 H2 L.s (.dK (putK (lwK L.tl L.pl L.lg L.lsl L.ldn L.n) (.inr "next") (.int (↥L.n+1))))):=λb o e l=>by
  let c:b≠L.lg/\b≠L.ldn/\b≠L.s/\b≠L.ld:=⇑l
  rw[ah c.2.2.1];exact k b o (sn b o e) (by simp[c.1,c.2.1,c.2.2.2])
 exists _,G,L.s,_,G,gNx i,_,_,G,G,_,G,L.s,_,G,mw.k (k:=Sum.inr "next") i<|aN (by show 6≤1000;decide);refine q t S _ (h.add m Y {S,G,?_} af ?_ ?_ ?_ O) O
 .rw[ah<|br C i nofun,C,show bdI u=0 by unfold bdI;rw[hg];rfl]
 .rw[ah<|br y i nofun];exact y
 .rw[ah<|br v i nofun];exact v
 .rw[ah g.symm];exact U
include T in
theorem zW(F:Fun K "_law_reach" "_law_reach" nj f fd):⋯ 1 f fd ["_law_row","_law_well"] (sR):=by
 refine F.okY di ?_;rintro vs H Q E ⟨ld,lkv,M,rfl,Y,hL,ab,q⟩;refine⟨G,λac A outer s hr=>⟨_,(au (psS 2 di.nd<|Cq (nk (jg gI aA) fL Cr) G G o7 o7)
   (au (psS 3 di.nd fL)
   (au (vj XF (lK<|pv 3) (au (psS 3 di.nd fL)
   (av (yf (eE XF G (yr<|pv 0) (pR G<|cS (pgN 4 di.nd)<|cS (pgN 5 di.nd)<|cS (pgN 6 di.nd) kN)
   (av (cj (PW.pt<|pw_and (w9<|QX (bG hr) (pv 4)<|pv 2)<|pw_and (w9<|sA (bG hr) (pv 5)<|pv 2)<|pw_and1<|sJ<|PW.pt<|pw_and (lK<|pv 1)<|pw_and1<|aQ fC (pv 6) aA<|aR _) (au (jF (bG hr) (pv 2) (pv 5) fL G)
   (av<|psS 3 di.nd fL)) bR)))))))
   (au (aY<|vp (pv 2) (jg gI aA) ⟨G,G,G,G⟩)
   (av<|aM<|pv 2))))),?_⟩⟩
 dsimp only[aW];intro d hd;exists _,G,af,[(Sum.inl (-1),V.bl Z1)],G,o8;rw[show nC [] [((Sum.inl (-1):Key),V.bl Z1)]=[((Sum.inl (-1):Key),V.bl Z1)] from G,gp];let s1:ak H (Z9 H d (.dK [(Sum.inl (-1),V.bl Z1)])):=ak.new hd;let a4:Z9 H d (.dK [(Sum.inl (-1),V.bl Z1)]) d=some (.dK [((Sum.inl (-1):Key),V.bl Z1)]):=af;generalize Z9 H d (.dK [(Sum.inl (-1),V.bl Z1)])=H1 at s1 a4 ⊢;let a2:d≠ld:=(aq Y hd).symm;refine aO [r4 ld,some<|.bl Z1,r4 d,Z0,Z0,Z0,Z0] ?_;dsimp only;refine aO [r4 ld,some<|.bl Z1,r4 d,some<|.bl Z1,Z0,Z0,Z0] ?_;dsimp only;refine gz (λσ H'=>∃(v3 C B L:nt V)(kvs:ee (Key×V)),σ=[r4 ld,some<|.bl Z1,r4 d,v3,C,B,L]/\ak H H'/\H' d=some (.dK kvs)/\cO kvs (Rch (lG M) Z1)) (λN hN=>?_) ?_
 .exists λm σ H'=>∃(C B L:nt V)(kvs:ee (Key×V))(S:Z4->Z3)(bm:Bool),σ=[r4 ld,some<|.bl Z1,r4 d,some<|.bl bm,C,B,L]/\ak H H'/\H' d=some (.dK kvs)/\cO kvs S/\(∀x,S x->Rch (lG M) Z1 x)/\S (-1)/\(bm=Z2->∀n u,M n=some u->u.good=Z1->S u.st->S ↥u.d)/\m=if bm=Z1 then lkv.length+2-kvs.length else 0,{_,Z0,Z0,Z0,_,_,Z1,G,s1,a4,cO.put cO.nil (-1)<|V.bl Z1,λx hx=>hx.elim False.elim λz=>z ▸ {(0),.zero},.inr G,nofun,G};rintro m σ H2 ⟨C,B,L,kvs,S,bm,rfl,s2,g,l,c,p,O,rfl⟩;exists _,G,_,G;cases bm with
  |false=>exact eV<|hN _ _ {_,C,B,L,kvs,G,s2,g,cO.iff l λi=>{c i,λr=>D6 p (O G) r}}
  |true=>
   refine dB {_,λag H' h=>h,?_};refine aO [r4 ld,some<|.bl Z1,r4 d,some<|.bl Z2,C,B,L] ?_;dsimp only;let h0:=oj l hL c;refine{_,G,ld,lkv,G,s2 _ _ Y,λo nf=>Hs (d:=ld) (o:=o) (kvs:=lkv) (λi σ H'=>∃(C B L:nt V)(a:ee (Key×V))(S:Z4->Z3)(bm:Bool),σ=[r4 ld,some<|.bl Z1,r4 d,some<|.bl bm,C,B,L]/\ak (Z9 H ld<|.frz o<|.dK lkv) H'/\H' d=some (.dK a)/\cO a S/\(∀x,S x->Rch (lG M) Z1 x)/\S (-1)/\(bm=Z2->∀(j:Z5)n v u,j<i->lkv[j]?=some ((Sum.inl n:Key),v)->M n=some u->u.good=Z1->S u.st->S ↥u.d)/\kvs.length≤a.length/\(bm=Z1->kvs.length<a.length)) {C,B,L,kvs,S,Z2,G,HK s2,by rwa[ah a2],l,c,p,λ_ j _ _ _ h=>absurd h o6,Xk _,nofun} (λi σ H' _ z0=>by let⟨_,_,_,_,_,_,_,s',_⟩:=z0;exact s' _ _ af) ?_ ?_}
   .clear g l p c O s2 C B L;rintro i k v σ H2 hi ⟨C,B,L,a,S,bm,rfl,s2,g,l,c,p,O,a3,a0⟩;let⟨n,u,rfl,eM,⟨t,rfl,ht⟩,_⟩:=hL.at_ hi;let a6:H2 t=some (.tup [.int u.st,.int ↥u.d,.int (bdI u)]):=s2 _ _ (by rwa[ah<|br ht Y nofun]);exists t,_,G,X3.of a6,G,_,_,G,_,_,G,_,_,G,G;change yE _ _ _ _ [r4 ld,some<|.bl Z1,r4 d,some<|.bl bm,t6 u.st,t6 ↥u.d,t6<|bdI u] _;let a9:=oj l hL c;refine uw (λH'=>H2=H'/\S u.st/\¬S ↥u.d/\u.good=Z1) (λH'=>H2=H'/\(S u.st->u.good=Z1->S ↥u.d)) (λQb z1 z2=>?_) (λH3 h=>?_) (λH3 h=>?_)
    .exists _,G,_,G,d,_,G,cT.k (k:=Sum.inl u.st) g,_,G;by_cases c1:S u.st
     .rw[(l.val _).mpr c1];refine dB {_,G,_,G,d,_,G,cT.k (k:=Sum.inl ↥u.d) g,_,G,?_};by_cases c2:S ↥u.d
      .rw[(l.val _).mpr c2];exact eV<|z2 _ {G,λ_ _=>c2}
      .rw[cO.no l c2];refine dB {_,G,_,G,dB ?_};exists _,G,G,_,G;cases U:u.good with
       |true=>rw[show bdI u=0 by unfold bdI;rw[U];rfl];exact z1 _ ⟨G,c1,c2,U⟩
       |false=>rw[show bdI u=1 by unfold bdI;rw[U];rfl];exact z2 _ {G,λ_ h=>by rw[U] at h;cases h}
     .rw[cO.no l c1];exact eV<|z2 _ {G,λh=>absurd h c1}
    .let⟨rfl,c1,c2,c3⟩:=h;exists _,G,_,G,d,_,G,mw.k (k:=Sum.inl ↥u.d) g<|aN o6;dsimp only;refine aO [r4 ld,some<|.bl Z1,r4 d,some<|.bl Z1,t6 u.st,t6 ↥u.d,t6<|bdI u] ?_;let a7:(putK a (Sum.inl ↥u.d) (V.bl Z1)).length=a.length+1:=by rw[mZ,cO.no l c2];rfl
     refine{_,_,_,_,_,Z1,G,λb o' e=>?_,af,cO.put l ↥u.d<|V.bl Z1,λy hy=>?_,.inl p,nofun,o6,λ_=>by omega}
     .by_cases hb:b=d
      .subst hb;rw[ah a2,hd] at e;cases e
      .rw[ah hb];exact s2 b o' e
     .rcases hy with hy|rfl
      .exact c y hy
      .let⟨k,hk⟩:=c _ c1;exact{k+1,.step (Ds eM) (.inl c3) hk}
    .let⟨rfl,h⟩:=h;refine{_,_,_,a,S,bm,G,s2,g,l,c,p,λhb j n' v' u' hj ej a1 U hy=>?_,a3,a0};by_cases e:j=i
     .subst e;rw[hi] at ej;cases ej;rw[eM] at a1;cases a1;exact h hy U
     .exact O hb j n' v' u' o6 ej a1 U hy
   .rintro σ H3 ⟨C,B,L,a,S,bm,rfl,s3,a5,l,c,p,O,a3,a0⟩;let h1:=oj l hL c;exists ld,o,lkv,s3 _ _ af,nf;refine{if bm=Z1 then lkv.length+2-a.length else 0,?_,C,B,L,a,S,bm,G,tL Y s3,by rwa[ah a2],l,c,p,λhb n u eM U hy=>?_,G}
    .rw[Xm rfl];cases bm with
     |true=>rw[Xm rfl];let:=a0 rfl;omega
     |false=>rw[Xn o7];omega
    .let⟨j,v,hj⟩:=hL.ix eM;exact O hb j n v u (Xg.mp hj).1 hj eM U hy
 rintro σ H2 ⟨v3,C,B,L,kvs,rfl,s2,g,l⟩;let hv:=(l.val (-1)).mpr {(0),.zero};let a8:=oj l hL λ_ h=>h;cases ev:aL kvs (Sum.inl (-1)) with
 |none=>rw[ev] at hv;cases hv
 |some v=>have ae:(c5 kvs (Sum.inl (-1))).length≤kvs.length:=Zl _ _;refine{_,G,d,G,.inl {_,.inl g},_,G,kvs,Sum.inl (-1),v,g,G,ev,_,G,q d _ _ af (cO.drop l (-1)) o6 hd λb o e=>?_};rw[ah<|aq e hd];exact s2 b o e
variable(j5:cE "_law_reach" 1 ["_law_row","_law_well"] sR)
include T j5 in
theorem Be(F:Fun K "_law_base" "_law_base" pN f fd):⋯ 2 f fd ["_law_state","_law_word"] (wu):=by
 refine F.okY kh ?_;rintro vs H Q E ⟨L,v8,AL,M,O,rfl,h,Y,q⟩;refine⟨G,λa9 A outer s hr=>⟨_,(au (psS 2 kh.nd<|bh bx (bH (bG hr) (pv 0) aJ λ_ _=>rfl) aA λ_ _=>rfl)
   (au (cj (aQ fC (pv 1) aJ<|aR _) (av<|yf<|wW (i:=3) kh.nd G (Or.inl G) (N:=["_law_part"]) (k:=1) (cap:=[]) G G (yr<|pv 2) (λ_ _ _ _=>(pgN 0 (show(["_law_part"]:ee Z6).Nodup from by decide +kernel)<|.inr G)) (λ_ _ _ _=>(DI<|PW.pt<|pw_and (aQ fC (bh (ux (K:=K) G) (pv 0) aA λ_ _=>rfl) (jg gI aA)<|aR _)<|pw_and1<|aQ fC (bh (ux (K:=K) G) (pv 0) aA λ_ _=>rfl) aA<|aR _)) λ_ _ _ _=>(bh (ux (K:=K) G) (pv 0) aA λ_ _=>rfl))<|av<|psS 3 kh.nd<|dI (Ez G) o9 T.j6 YA<|aa (pcS j5 aG hr<|aa (pv 2)<|aa fL aj) aj)
   (av<|aM<|yb G G T.wX (aa (pv 3) aj) lF))),?_⟩⟩
 dsimp only[aW];let hk:=h.lk;let a5:=h.n61;exists _,G,L.s,_,G,gSh h.s_,L.lsl,_,_,.ref L.ld,G,G,X0.of h.ls,G;refine aO [r4 L.s,some<|.str O,r4 L.ld,Z0] ?_;dsimp only;refine gz (λσ H'=>∃(l:fy)(ds:ee Z4),σ=[r4 L.s,some<|.str O,r4 L.ld,r4 l]/\H' l=some (.lst<|ds.map Z8)/\(∀x,x∈ds↔gG M O x)/\ak H H') (λN hN=>?_) ?_
 .by_cases w1:O = "since"
  .refine fN (λQb hq=>{_,G,G,_,G,by rw[Xr (by rw[w1])];exact hq}) ?_;refine{_,G,L.ld,L.lkv,G,h.ld,λo nf S g=>?_};let a0:S≠L.ld:=λe=>by rw[e,af] at g;cases g
   refine yM S (d:=L.ld) (o:=o) (kvs:=L.lkv) (λi σ H' ys=>∃(v:nt V)(ds:ee Z4),σ=[v]/\ak (Z9 H L.ld<|.frz o<|.dK L.lkv) H'/\H' S=some (.lst ys)/\ys=ds.map Z8/\ds.length≤i/\∀x,x∈ds↔∃(j:Z5)(n:Z4)(u:PcU)(v:V),j<i/\L.lkv[j]?=some ((Sum.inl n:Key),v)/\M n=some u/\u.wh=Z1/\u.good=Z1/\x =↥u.d) {Z0,[],G,ak.new g,af,G,Xk _,λx=>{nofun,λ⟨j,_,_,_,h,_⟩=>absurd h o6}} (λi σ H' ys _ z0=>by let⟨_,_,_,s',_⟩:=z0;exact s' _ _ af) ?_ ?_
   .rintro i k v σ H1 ys hi ⟨v0,ds,rfl,s1,a,rfl,a4,b⟩;let⟨n,u,rfl,eM,⟨t,rfl,ht⟩,_⟩:=h.lr.at_ hi;let a6:=(Xg.mp hi).1;let C:H1 t=some (.tup [.int u.st,.int ↥u.d,.int (bdI u)]):=s1 _ _ (by rwa[ah<|br ht h.ld nofun]);let step:∀(x:Z4),(∃(j:Z5)(n:Z4)(u:PcU)(v:V),j<i+1/\L.lkv[j]?=some ((Sum.inl n:Key),v)/\M n=some u/\u.wh=Z1/\u.good=Z1/\x =↥u.d)↔(x∈ds∨(u.wh=Z1/\u.good=Z1/\x =↥u.d)):=λx=>by
     rw[b x];constructor
     .rintro⟨j,n',u',v',hj,m,p,Y,hb,hx⟩;by_cases a3:j<i
      .exact .inl ⟨j,n',u',v',a3,m,p,Y,hb,hx⟩
      .let:j=i:=by omega
       subst this;rw[hi] at m;cases m;rw[eM] at p;cases p;exact .inr ⟨Y,hb,hx⟩
     .rintro(⟨j,n',u',v',hj,r⟩|⟨Y,hb,hx⟩)
      .exact⟨j,n',u',v',o6,r⟩
      .exact{i,n,u,_,o6,hi,eM,Y,hb,hx}
    exists _,G,t,_,_,V.int u.st,G,G,X3.of C,G,_,G,G,_,G;cases c:u.wh with
    |false=>
     let B:¬V.int u.st=V.int (-1):=λz=>by let:=V.int.inj z;unfold PcU.st at this;rw[c] at this;unfold stN at this;simp at this
     refine gg B<|eV {_,ds,G,s1,a,G,o6,λx=>(abR (step x) {λh=>h.elim id λh=>absurd h.1 (by rw[c];intro z;cases z),Or.inl}).symm}
    |true=>
     let B:V.int u.st=V.int (-1):=by unfold PcU.st;rw[c];rfl
     refine iC B {_,G,t,_,_,V.int<|bdI u,G,G,X3.of C,G,G,_,G,?_};cases hg:u.good with
     |true=>
      rw[show bdI u=0 by unfold bdI;rw[hg];rfl,Xr rfl];refine dB {_,G,t,_,_,V.int ↥u.d,G,G,X3.of C,G,a,by rw[Xj];exact aN o6,_,ds++[↥u.d],G,λb' o' e=>?_,af,o8,by simp;omega,λx=>?_}
      .rw[ah<|aq e g];exact s1 b' o' e
      .rw[step x,Xv,Xx];exact{λh=>h.imp id λh=>⟨c,hg,h⟩,λh=>h.imp id λh=>h.2.2}
     |false=>rw[show bdI u=1 by unfold bdI;rw[hg];rfl,show decide (V.int 1=V.int 0)=Z2 from rfl];exact eV {_,ds,G,s1,a,G,o6,λx=>(abR (step x) {λh=>h.elim id λh=>absurd h.2.1 (by rw[hg];intro z;cases z),Or.inl}).symm}
   .rintro σ H1 ys ⟨v0,ds,rfl,s1,a,rfl,a4,b⟩;refine aO [r4 L.s,some<|.str O,r4 L.ld,r4 S] ?_;refine{L.ld,o,L.lkv,s1 _ _ af,nf,hN _ _ {S,ds,G,by rwa[ah a0],λx=>?_,tL h.ld s1}};rw[b x];unfold gG;rw[Xm w1];constructor
    .rintro⟨j,n,u,v,_,_,h3,h4,h5,h6⟩;exact⟨n,u,h3,h4,h5,h6⟩
    .rintro⟨n,u,h3,h4,h5,h6⟩;let⟨j,v,hj⟩:=h.lr.ix h3;exact{j,n,u,v,(Xg.mp hj).1,hj,h3,h4,h5,h6}
  .refine iI (λQb hq=>{_,G,G,_,G,by rwa[XH λz=>w1<|V.str.inj z]}) ?_;refine{_,G,L.ld,L.lkv,M,G,h.ld,h.lr,o6,λrd rk H1 a2 hS a8 a7 s1=>?_};let⟨ns,U⟩:=m5 hS.c8;refine{rd,rk,G,a2,λl hl=>?_};let a1:rk.map (λkv=>kV kv.1)=ns.map Z8:=by let:=congrArg (List.map kV) U;rwa[abO,abO] at this
   rw[a1];refine aO [r4 L.s,some<|.str O,r4 L.ld,r4 l]<|hN _ _ {l,ns,G,af,λx=>?_,s1.trans<|ak.new hl};unfold gG;rw[Xn w1,←hS.val x,gD,U,XI];exact{λh=>⟨x,h,G⟩,λ⟨y,h,z⟩=>by cases z;exact h}
 rintro σ H1 ⟨l,ds,rfl,hl,b,s1⟩;exact{_,G,l,ds,G,X0.of hl,q _ H1 ((ym ds).ext b) s1}
variable(jL:bB ao "keep" 10 ["self","word"] (yH ao aB ay aC aD aP aK))
include T jL in
theorem zY(F:Fun K "_law_asked" "_law_asked" nq f fd):⋯ 11 f fd ["_law_store","_law_word"] (oK ao aB ay aC aD):=by
 refine F.okY dW ?_;rintro vs H Q E ⟨Z,wd,v8,AL,M,g,rfl,h,l,B,O,q1,q2⟩;refine⟨G,λa0 A outer s hr=>⟨_,(au (psS 2 dW.nd lF)
   (au (FP (λpn xe E hx=>(av<|psS 2 dW.nd<|dc<|aa aJ<|aa (aU (pv 0) T.aH jL hx (hr.mono o7)<|aa (pv 1) aj) aj)) (Ec (i:=3) G T.yR T.gA dW.nd G G (λ_ _=>(av<|psS 2 dW.nd<|dc<|aa aJ<|aa (uh (pv 3) G)<|aa (uh (pv 3) G)<|aa (bq jY o9 T.gj Yw<|aa (pv 3)<|aa (iQ (v:=.ref bL) G T.tV G) aj)<|aa (bq jY o9 T.gj Yw<|aa (pv 3)<|aa (iQ (v:=.ref aP) G T.zx G) aj) aj))<|Ec (i:=3) G T.zx T.kL dW.nd G G (λ_ _=>(av<|psS 2 dW.nd<|dc<|aa aJ<|aa (uh (pv 3) G)<|aa (bq jY o9 T.gj Yw<|aa (pv 3)<|aa (iQ (v:=.ref bL) G T.tV G) aj)<|aa (bq jY o9 T.gj Yw<|aa (pv 3)<|aa (iQ (v:=.ref aK) G T.yR G) aj) aj)) EO) G G)
   (av<|aM<|pv 2))),?_⟩⟩
 dsimp only[aW];let⟨dx,h1⟩:=id h.st;refine aO [r4 Z.p,some<|.str g,some .non,Z0] ?_;dsimp only;refine gz (λσ H'=>∃(f:fy)(L:nt V),σ=[r4 Z.p,some<|.str g,r4 f,L]/\((∃t a u,Bo v8 AL M g u/\H' f=some (.tup [.str "kept",.int ↥Z.n])/\StC ao aD aB ay aC H' (Z.add t a) wd v8 AL (jQ M ↥Z.n<|some u)/\bg [Z.nl,Z.dl,Z.x,Z.d] H H')∨(∃xs,HZ (↥v8.length-1) M g xs/\H' f=some (.tup xs)/\ak H H'))) (λN m=>?_) ?_
 .intro pn xe;refine{_,G,Z.p,dx,_,G,h1,bU o4,_,G,Z,wd,v8,AL,M,g,G,h,l,B,O,λt a u H1 C z k=>?_,λCE fs e H1 S he s1=>?_}
  .refine{t9,λf c=>?_};exact aO [r4 Z.p,some<|.str g,r4 f,Z0]<|m _ _ {f,Z0,G,.inl {t,a,u,C,af,z.same<|ak.new c,λb o e U=>ak.new c b o<|k b o e U}}
  .rcases S with⟨j,Y,y,rfl⟩|⟨j,y,v,hv,r,rfl⟩
   .rw[j] at he;exists e,aP,by rw[j],G,Z2,T.mwb;rw[Xn o7];exists Z1,T.mww;rw[Xm rfl];intro q;refine{_,G,e,aP,_,_,G,he,T.kL,T.jn,jH,_,G,e,aP,_,_,_,Z1,G,G,he,T.kL,T.kwk,_,G,e,aP,_,_,_,Z2,G,G,he,T.kL,T.kwo,(by show 4≤Z7;decide),λf c=>?_};exact m _ _ {f,_,G,.inr {_,.inl ⟨Y,y,G⟩,af,s1.trans<|ak.new c}}
   .rw[j] at he;exists e,aK,by rw[j],G,Z1,T.mbb;rw[Xm rfl];intro q;refine{_,G,e,aK,_,_,G,he,T.gA,T.jh,jH,_,G,e,aK,_,_,G,he,T.gA,T.jI,(by rw[kC o4,jH]),_,G,e,aK,_,_,_,Z1,G,G,he,T.gA,T.kbk,_,G,e,aK,_,_,_,Z2,G,G,he,T.gA,T.kbo,(by show 5≤Z7;decide),λf c=>?_};exact m _ _ {f,_,G,.inr {_,.inr ⟨y,v,hv,r,G⟩,af,s1.trans<|ak.new c}}
 rintro σ H1 ⟨f,L,rfl,⟨t,a,u,C,c,z,k⟩|⟨xs,hT,c,s1⟩⟩
 .exact{_,G,q1 f t a u H1 C c z k}
 .exact{_,G,q2 f xs H1 hT c s1}
include T in
theorem vB(F:Fun K "_law_due_rows" "_law_due_rows" jW f fd):⋯ 1 f fd ["_law_state","_law_start"] (yw):=by
 refine F.okY eK ?_;rintro vs H Q E ⟨L,wd,v8,AL,M,st,rows,rfl,h,hd,hS,hT,bj,bl,q⟩;refine⟨G,λbm A outer s hr=>⟨_,(au (A4 (i:=2) eK.nd G (Or.inr G)<|bh bx (bH (bG hr) (pv 0) aJ λ_ _=>rfl) (jg gI aA) λ_ _=>rfl)
   (au (cj (aQ fC (pv 1) (jg gI aA)<|aR _) (av<|aM<|pY (N:=["_law_place","_law_table"]) (k:=1) (cap:=[2]) G G (sq G T.m8<|aa (bq bM o9 T.fE Yc<|aa (pv 2) aj) aj) (λ_ _ _ _=>(pgN 0 (show(["_law_place","_law_table"]:ee Z6).Nodup from by decide +kernel)<|.inr G)) (λ_ _ _ _=>pQ) λ_ _ _ _=>(dc<|aa (pv 0)<|aa (bh (Br (K:=K) G) (pv 1) (pv 0) λ_ _=>rfl) aj)) bR)
   (au (psS 3 eK.nd<|bQ aj)
   (au (eE XF G (sq G T.m8<|aa (bq bM o9 T.fE Yc<|aa (pv 2) aj) aj) (pgN 4 eK.nd)
   (av (eE XF G (dP<|BC Dy (bH (bG hr) (pv 0) aJ λ_ _=>rfl) (yx<|aV cZ (pv 1) aA) IS) (pgN 5 eK.nd)
   (av<|cj (PW.pt<|pw_and (aQ EN (pv 4) (pv 5) (by with_unfolding_all rfl))<|pw_and1<|aQ (IJ hr.units) (dc<|aa (pv 4)<|aa (bh bx (pv 2) (pv 4) λ_ _=>rfl) aj) (pv 3) (by with_unfolding_all rfl)) (av<|aY<|jc XJ XZ Yb dH (pv 3)<|aa (dc<|aa (pv 4)<|aa (bh bx (pv 2) (pv 4) λ_ _=>rfl) aj) aj) bR))))
   (av<|aM<|pv 3))))),?_⟩⟩
 dsimp only[aW];let⟨g,a3,a5⟩:=hd;let C:=hT g<|Xl a3;let bi:=hS.most;let a7:=h.lt.len;let⟨O,bd,bn,u⟩:=h.lt.at_ a3;exists _,G,L.s,_,G,gTb h.s_,_,G,L.tl,_,_,V.ref O,G,G,X0.of h.tl,Gg (by rw[Xj,a7,Xo,bd];rfl);refine aO [r4 L.s,t6 st,r4 O,Z0,Z0,Z0] ?_;dsimp only;let ae:∀i:Z5,i<wd->∃z,g[i]?=some z/\atI (g.map Z8) (0 +↥i)=some (V.int z)/\0≤z:=λi hi=>by
  let a0:i<g.length:=by rwa[C.1]
  refine{g[i],Xh a0,?_,C.2 _<|Yh a0};rw[aaU];exact dh (by rw[Xo,Xh a0];rfl)
 let ai:((g.map Z8).length:Z4) =↥wd:=by rw[Xj,C.1]
 rcases a5 with⟨rfl,rfl⟩|⟨b,ns,rfl,hp,hm,rfl⟩
 .refine fN (λQb hq=>{_,G,_,G,G,_,G,by rwa[Xr rfl]}) ?_;refine{_,G,O,_,G,.inl<|X0.of u,↥wd,by rw[ai],o6,o6,λD' ax=>?_};refine El (lo:=0) (n:=(↥wd).toNat) D' (λi σ H2 ys=>∃v:nt V,σ=[v,r4 O]/\ak H H2/\H2 D'=some (.lst ys)/\bP H2 ys ((gW g).take i)) {Z0,G,ak.new ax,af,{G,λi v e=>by simp at e}} ?_ ?_
  .rintro i σ H2 ys hi ⟨v,rfl,s2,U,R⟩;let⟨z,ez,Y,hz⟩:=ae i o6;let a8:=R.len;rw[YC] at a8;refine{_,G,_,G,_,G,O,_,_,V.int z,G,G,X0.of<|s2 _ _ u,Y,t9,λt ht=>?_};let ag:D'≠t:=aq U ht;exists by rwa[ah ag],aN o6,_,G,λb o e=>?_,af
   .rw[ah<|aq e ax];exact ak.new ht b o<|s2 b o e
   .rw[XT,vQ ez];refine(R.mono λb xs e=>?_).snoc ?_
    .rw[ah<|br e U nofun];exact ak.new ht b _ e
    .rw[ah ag.symm,af,aaU,show((z.toNat:Z5):Z4)=z by omega]
  .rintro σ H2 ys ⟨v,rfl,s2,U,R⟩;rw[List.take_of_length_le (by rw[lD,C.1];omega)] at R;exact q D' ys H2 U R s2
 .refine iI (λQb hq=>{_,G,_,G,G,_,G,by rwa[XH λz=>by let:=V.int.inj z;omega]}) ?_;unfold mO;dsimp only;refine{Xw _,λfo as=>?_};refine aO [r4 L.s,t6 ↥b,r4 O,r4 fo,Z0,Z0] ?_;dsimp only;let bo:=h.lp.len;let a1:∀ k∈ns,0≤k/\k <↥wd:=λk l=>uf hS ((hm k).mp l)
  let s1:ak H (Z9 H fo (.lst [])):=ak.new as;let h1:Z9 H fo (.lst []) fo=some (.lst (([]:ee fy).map V.ref)):=af;generalize Z9 H fo (.lst [])=H1 at s1 h1 ⊢;refine gz (λσ H'=>∃(v4 B:nt V)(RL:ee fy),σ=[r4 L.s,t6 ↥b,r4 O,r4 fo,v4,B]/\ak H H'/\H' fo=some (.lst<|RL.map V.ref)/\bP H' (RL.map V.ref) (cW ns g)) (λN hN=>?_) ?_
  .refine{_,G,O,_,G,.inl<|X0.of<|s1 _ _ u,↥wd,by rw[ai],o6,o6,oN (lo:=0) (n:=(↥wd).toNat) (λi σ H'=>∃(v4 B:nt V)(RL:ee fy),σ=[r4 L.s,t6 ↥b,r4 O,r4 fo,v4,B]/\ak H H'/\H' fo=some (.lst<|RL.map V.ref)/\bP H' (RL.map V.ref) (cW (ns.filter λx=>decide (x <↥i)) g)) {Z0,Z0,[],G,s1,h1,?_} ?_ ?_}
   .rw[List.filter_eq_nil_iff.mpr λk l=>by let:=a1 k l;simp;omega];exact{G,λi v e=>by simp at e}
   .rintro i σ H2 hi ⟨v4,B,RL,rfl,s2,y,R2⟩;let⟨z,ez,Y,hz⟩:=ae i o6;let al:g.getD (↥i).toNat 0=z:=by rw[show(↥i).toNat=i by omega,Yy,ez];rfl
    refine aO [r4 L.s,t6 ↥b,r4 O,r4 fo,t6 ↥i,B] ?_ (by rw[aaU];rfl);rw[aaU] at Y;dsimp only;refine{_,G,L.s,_,G,gPl<|s2 _ _ h.s_,_,G,_,_,G,G,_,G,L.pl,_,G,X0.of<|s2 _ _ h.pl,λsl ar=>?_};let ac:sC (L.LP.map V.ref) (some (↥b+1)) Z0 =(L.LP.drop (b+1)).map V.ref:=by unfold sC;rw[show(↥b+1) =((b+1:Z5):Z4) from G,HT.ya,HT.Gn,List.map_drop];apply Zk;intro k;grind
    rw[ac];let s3:ak H2 (Z9 H2 sl (.lst ((L.LP.drop (b+1)).map V.ref))):=ak.new ar;let h3:Z9 H2 sl (.lst ((L.LP.drop (b+1)).map V.ref)) sl=some (.lst ((L.LP.drop (b+1)).map V.ref)):=af;generalize Z9 H2 sl (.lst ((L.LP.drop (b+1)).map V.ref))=H3 at s3 h3 ⊢;let ba:sl≠fo:=(aq y ar).symm;let fi:∀ k∈ns.filter (λx=>decide (x <↥i)),0≤k/\k <↥i:=λk l=>{(a1 k (YB.mp l).1).1,⇑((YB.mp l).2)}
    let ff:=Kn (ns:=ns) (wd:=wd) hp a1 ↥i;refine{sl,G,{_,X0.of h3},eG (K:=K) (a:=sl) (xs:=(L.LP.drop (b+1)).map V.ref) (λj σ H'=>∃(B:nt V)(RL:ee fy)(S:ee Z4),σ=[r4 L.s,t6 ↥b,r4 O,r4 fo,t6 ↥i,B]/\ak H H'/\H' sl=some (.lst<|(L.LP.drop (b+1)).map V.ref)/\H' fo=some (.lst<|RL.map V.ref)/\bP H' (RL.map V.ref) (cW S g)/\((S=ns.filter (λx=>decide (x <↥i))/\∀(k:Z5)xs,k<j->AL[b+1+k]?=some xs->↥i∉xs)∨(S=ns.filter (λx=>decide (x <↥i))++[↥i]/\↥i∈ns))) {B,RL,_,G,s2.trans s3,h3,s3 _ _ y,R2.mono λt xs e=>s3 _ _ e,.inl {G,λk xs h=>absurd h o6}} (λj σ H' _ z0=>by let⟨_,_,_,_,_,h,_⟩:=z0;exact X0.of h) ?_ ?_}
    .clear h3 s3 R2 y s2 B;rintro j v σ H4 hj ⟨B,RL,S,rfl,s4,h4,p,R4,m⟩;rw[Xo,abI] at hj;let⟨pa,am,rfl⟩:=XA.mp hj;let bp:=(Xg.mp am).1;obtain⟨xs,a2⟩:∃xs,AL[b+1+j]?=some xs:={_,Xh o6};let bb:=h.lp.get _ pa xs am a2;let a8:=R4.len;rw[Xj,lP] at a8;let bt:S.length≤100:=by rcases m with⟨e,_⟩|⟨e,_⟩ <;>(rw[e];(try simp only[List.length_append,List.length_singleton]);omega)
     let bc:∀ k∈S,0≤k:=λk l=>by
      rcases m with⟨e,_⟩|⟨e,_⟩
      .rw[e] at l;exact(fi k l).1
      .rw[e] at l;rcases Xv.mp l with l|l
       .exact(fi k l).1
       .rw[Xx.mp l];omega
     let aS:↥i∈xs->↥i∈ns:=λhx=>(hm _).mpr {b+1+j,xs,o6,by let:=(Xg.mp a2).1;omega,a2,hx}
     refine aO [r4 L.s,t6 ↥b,r4 O,r4 fo,t6 ↥i,r4 pa] ?_;dsimp only;refine uw (λH'=>ak H4 H'/\↥i∈xs/\↥i∉S) (λH'=>ak H4 H'/\(↥i∈xs->↥i∈S)) (λQb z1 z2=>?_) (λH5 h5=>?_) λH5 h5=>?_
     .exists _,G,_,G,pa,_,G,.inl<|X0.of<|s4 _ _ bb,G,by simp[gV],_,G;rw[Wj];by_cases c1:↥i∈xs
      .rw[Xr c1];refine dB {_,G,_,G,_,G,O,_,_,V.int z,G,G,X0.of<|s4 _ _ u,Y,t9,λt ht=>?_};let s5:=ak.new ht (o:=.tup [.int ↥i,.int z]);let be:t∉RL:=λhz=>by let⟨k,l⟩:=XM.mp hz;let⟨t',r,e1,_,e3⟩:=R4.get k (.ref t) (by rw[Xo,l];rfl);cases e1;rw[ht] at e3;cases e3
       let⟨bs,aH,aw⟩:=Ut (K:=K) (R4.mono λt xs e=>s5 _ _ e) (t:=t) af be bc o6 hz al;exists _,G,fo,RL,bs,G,X0.of<|s5 _ _ p,aH,_,G;rw[aw];by_cases c2:↥i∈S
       .rw[Xr c2];exact z2 _ {s5,λ_=>c2}
       .rw[XH c2];exact z1 _ ⟨s5,c1,c2⟩
      .rw[XH c1];exact eV<|z2 _ {ak.refl _,λh=>absurd h c1}
     .let⟨s5,c1,c2⟩:=h5;let ab:S=ns.filter (λx=>decide (x <↥i)):=by
       rcases m with⟨e,_⟩|⟨e,_⟩
       .exact e
       .exact absurd (by rw[e];simp) c2
      refine{_,G,.inl {G,_,X0.of<|s5 _ _ p},_,G,_,G,_,G,O,_,_,V.int z,G,G,X0.of<|s5 _ _<|s4 _ _ u,Y,t9,λt ht=>?_};let s6:=s5.trans<|ak.new ht (o:=.tup [.int ↥i,.int z]);let a6:Z9 H5 t (.tup [.int ↥i,.int z]) t=some (.tup [.int ↥i,.int z]):=af;generalize Z9 H5 t (.tup [.int ↥i,.int z])=H6 at s6 a6 ⊢;exists fo,_,_,G,G,s6 _ _ p,(by rw[Xj];exact aN o6);refine{_,RL++[t],S++[↥i],G,λb' o e=>?_,?_,by rw[af];simp,?_,.inr {by rw[ab],aS c1}}
      .rw[ah<|aq e as];exact s6 _ _<|s4 _ _ e
      .rw[ah ba];exact s6 _ _ h4
      .rw[xC,YX];refine(R4.mono λb' xs e=>?_).snoc ?_
       .rw[ah<|br e p nofun];exact s6 _ _ e
       .rw[ah<|br a6 (s6 _ _ p) nofun,a6,al,show(((↥i).toNat:Z5):Z4) =↥i by omega,show((z.toNat:Z5):Z4)=z by omega]
     .let⟨s5,c⟩:=h5;exists _,RL,S,G,s4.trans s5,s5 _ _ h4,s5 _ _ p,R4.mono λt xs e=>s5 _ _ e;rcases m with⟨e,a4⟩|m
      .refine .inl {e,λk ys l a9 hy=>?_};by_cases ek:k=j
       .subst ek;rw[a2] at a9;cases a9;let:=c hy;rw[e] at this;let:=(fi _ this).2;omega
       .exact a4 k ys o6 a9 hy
      .exact .inr m
    .rintro σ H4 ⟨B,RL,S,rfl,s4,h4,p,R4,m⟩;exists _,_,RL,G,s4,p;rw[show(((i+1:Z5)):Z4) =↥i+1 from G,Fq hp ↥i];rcases m with⟨e,a4⟩|⟨e,an⟩
     .rw[Xn λa0=>?_,YM,←e]
      .exact R4
      .let⟨d,ys,h1,h2,h3,h4⟩:=(hm _).mp a0;refine a4 (d -(b+1)) ys ?_ (by rwa[show b+1 +(d -(b+1))=d by omega]) h4;let:=(Xg.mp h3).1;rw[Xj,List.length_drop];omega
     .rw[Xm an,←e];exact R4
   .rintro σ H2 ⟨v4,B,RL,rfl,s2,y,R2⟩;rw[List.filter_eq_self.mpr λk l=>by let:=a1 k l;simp;omega] at R2;exact hN _ _ ⟨v4,B,RL,G,s2,y,R2⟩
  rintro σ H2 ⟨v4,B,RL,rfl,s2,y,R2⟩;exact{_,G,q fo _ H2 y R2 s2}
variable(gU:cE "_law_due_rows" 1 ["_law_state","_law_start"] yw)
include T cC cy eU dU fX eO ck gU in
theorem zL(F:Fun K "_law_piece" "_law_piece" nO f fd):⋯ 5 f fd ["_law_store","_law_state","_law_number","_law_start"] (rO ao aB ay aC aD):=by
 refine F.okY mG ?_;rintro vs H Q E ⟨Z,L,wd,v8,AL,M,M',m,u,rfl,h,h',hM,hd,hg,a0,q⟩;refine⟨G,λa5 A outer s i=>⟨_,(au (psS 4 mG.nd<|aU (pv 0) T.aH ck aZ (i.mono o7)<|aa aA<|aa (pv 2) aj)
   (au (psS 5 mG.nd<|bh bx (bQ<|aa aJ<|aa aJ aj) (dI B8 o9 T.HY abj<|aa (gP fC (pv 3) (jg gI aA)<|aR _) aj) λ_ _=>rfl)
   (au (cj (PW.pt<|pw_or (aQ uz (i6 (bw (pv 4) T.bZ eO aG<|i.mono o7)<|bw (pv 4) T.cu fX aG<|i.mono o7) (pv 5)<|aR _)<|pw_or (aQ uz (i6 (bw (pv 4) T.bZ dU aG<|i.mono o7)<|bw (pv 4) T.cu eU aG<|i.mono o7) (pv 3)<|aR _)<|pw_or1<|aQ uz (aT (pv 4) G) (aV tX (bq bM o9 T.fE Yc<|aa (bH (bG i) (pv 1) aJ λ_ _=>rfl) aj) aA)<|aR _) (av<|aM fL) bR)
   (av<|aM<|sM (i6 (bw (pv 4) T.bZ cy aG<|i.mono o7)<|bw (pv 4) T.cu cC aG<|i.mono o7)<|wM<|gP (jE i.units) (dI gm o9 T.j6 YA<|aa (aT (pv 4) G) aj) (pcS gU aG i<|aa (pv 1)<|aa (pv 3) aj)<|aR _)))),?_⟩⟩
 dsimp only[aW];let⟨dx,h1⟩:=id h.st;let⟨v,hv,a,rfl,hP,B⟩:=h.pr.cN m u hM;let a4:=h.D.ne;exists _,G,Z.p,dx,_,G,h1,bU o4,_,G,Z.p,Z.q,Z.sl,Z.nl,Z.dl,Z.se,Z.rl,Z.sk,Z.ea,_,(0),Z.x,Z.d,_,Z.kvs,m,_,G,⟨dx,h1⟩,h.sl,G,o6,G,h.sh,hv;refine aO [r4 Z.p,r4 L.s,t6 m,t6 u.st,r4 a,Z0] ?_;dsimp only;refine{t9,λY a3=>?_};let s1:ak H (Z9 H Y (.lst [.str "gain",.str "whole"])):=ak.new a3;let a1:Z9 H Y (.lst [.str "gain",.str "whole"]) Y=some (.lst [.str "gain",.str "whole"]):=af;change tCB _ _ _ (Z9 H Y<|.lst [.str "gain",.str "whole"]) _;generalize Z9 H Y (.lst [.str "gain",.str "whole"])=H1 at s1 a1 ⊢;let⟨wh,C,n,rows,c⟩:=u;exists _,G,_,G,G,_,G,Y,_,_,.str<|PcU.kind ⟨wh,C,n,rows,c⟩,G,G,X0.of a1,?_
 .cases wh with
  |true=>rfl
  |false=>rw[XH λz=>by let:=V.int.inj z;simp[PcU.st,stN] at this];rfl
 refine aO [r4 Z.p,r4 L.s,t6 m,t6<|PcU.st ⟨wh,C,n,rows,c⟩,r4 a,some<|.str<|PcU.kind ⟨wh,C,n,rows,c⟩] ?_;dsimp only;let y:=hP.keep s1;let l1:=h'.same s1;let⟨b,r,g,j,g2,g3⟩:=id y;let hd:n=v8.length-1:=hd;let a6:=l1.lt.len;let a2:c =((iz wh C n rows:Z5):Z4):=ZS hg;cases wh with
 |false=>
  refine iI (λQb hq=>?_) ?_
  .refine .inr {_,G,a,b,_,G,j,d7 (wh:=Z2) o4 o4 o4 o4,a,G,_,G,G,_,G,?_};refine eV ?_;refine .inr {_,G,a,b,_,G,j,d7 (wh:=Z2) o4 o4 o4 o4,a,C,n,rows,c,G,y,_,G,G,_,G,?_};rw[Xr (by unfold PcU.st stN;congr 1;simp)];refine eV {_,G,a,aC,b,_,_,G,j,T.cu,T.iJ,lM,_,G,L.s,_,G,gTb l1.s_,L.tl,_,G,.inl<|X0.of l1.tl,_,_,G,G,G,_,G,?_};rw[Xr (by rw[Xj];congr 1;omega)];exact hq
  .unfold mO;dsimp only;refine .inr {_,G,a,b,_,G,j,d7 (wh:=Z2) o4 o4 o4 o4,a,Z2,C,n,rows,c,G,y,B,λH2 s2=>?_};rw[Xr a2];refine{_,G,dB {_,G,a,aC,b,_,_,G,s2 _ _ j,T.cu,T.fR,gO,r,g,G,.inr<|X3.of<|s2 _ _ g2,λl hl=>?_}};let s3:=s2.trans<|ak.new hl (o:=.lst g);let h3:Z9 H2 l (.lst g) l=some (.lst g):=af;generalize Z9 H2 l (.lst g)=H3 at s3 h3 ⊢;refine{_,G,_,G,L,wd,v8,AL,M',_,rows,G,l1.same s3,a0,h.S,h.T,h.D.lens,h.tn,λl2 R2 H4 U O s4=>{(1),Z1,o7,Aq (s4 _ _ h3) U (g3.mono λt xs e=>s4 _ _<|s3 _ _ e) O,q H4<|s1.trans<|s3.trans s4}}
 |true=>
  refine iI (λQb hq=>?_) ?_
  .refine .inl {_,G,a,b,_,G,j,d7 (wh:=Z1) o4 o4 o4 o4,a,G,_,G,G,_,G,?_};refine eV ?_;refine .inl {_,G,a,b,_,G,j,d7 (wh:=Z1) o4 o4 o4 o4,a,G,_,G,G,_,G,?_};rw[Xr (show V.int (-1)=V.int (PcU.st ⟨Z1,C,n,rows,c⟩) from G)];refine eV {_,G,a,ay,b,_,_,G,j,T.bZ,T.fT,lM,_,G,L.s,_,G,gTb l1.s_,L.tl,_,G,.inl<|X0.of l1.tl,_,_,G,G,G,_,G,?_};rw[Xr (by rw[Xj];congr 1;omega)];exact hq
  .unfold mO;dsimp only;refine .inl {_,G,a,b,_,G,j,d7 (wh:=Z1) o4 o4 o4 o4,a,Z1,C,n,rows,c,G,y,B,λH2 s2=>?_};rw[Xr a2];refine{_,G,dB {_,G,a,ay,b,_,_,G,s2 _ _ j,T.bZ,T.eY,gO,r,g,G,.inr<|X3.of<|s2 _ _ g2,λl hl=>?_}};let s3:=s2.trans<|ak.new hl (o:=.lst g);let h3:Z9 H2 l (.lst g) l=some (.lst g):=af;generalize Z9 H2 l (.lst g)=H3 at s3 h3 ⊢;refine{_,G,_,G,L,wd,v8,AL,M',_,rows,G,l1.same s3,a0,h.S,h.T,h.D.lens,h.tn,λl2 R2 H4 U O s4=>{(1),Z1,o7,Aq (s4 _ _ h3) U (g3.mono λt xs e=>s4 _ _<|s3 _ _ e) O,q H4<|s1.trans<|s3.trans s4}}
variable(gv:cE "_law_asked" 11 ["_law_store","_law_word"] (oK ao aB ay aC aD))
variable(lq:cE "_law_base" 2 ["_law_state","_law_word"] wu)
variable(mR:cE "_law_put" 4 ["_law_state","_law_start","_law_day_here"] ye)
variable(j4:cE "_law_piece" 5 ["_law_store","_law_state","_law_number","_law_start"] (rO ao aB ay aC aD))
variable(j7:cE "_law_whole" 1 ["_law_found"] vf)
include T gv lq mR j4 j7 in
theorem Bq(F:Fun K "_law_kept" "_law_kept" oV f fd):⋯ 12 f fd ["_law_store","_law_state","_law_word"] (vC ao aD aB ay aC):=by
 refine F.okY gq ?_;rintro vs H Q E ⟨B,Z,L,wd,c,M,wo,rfl,h,a4,ai,q⟩;refine⟨G,λas A outer s r=>⟨_,(au (psS 3 gq.nd<|aV tX (bq bM o9 T.fE Yc<|aa (bH (bG r) (pv 1) aJ λ_ _=>rfl) aj) aA)
   (au (cj (aQ BO (pv 2) (dc<|aa aJ<|aa aJ<|aa aJ aj) (by with_unfolding_all rfl)) (av<|aM<|gP (jE r.units) (pcS gv aG r<|aa (pv 0)<|aa (pv 2) aj) (dc<|aa aJ<|aa (pv 2)<|aa fL<|aa fL aj)<|aR _) bR)
   (au (psS 4 gq.nd<|jg gI aA)
   (au (cj (aQ uz (pv 2) aJ<|aR _) (au (psS 4 gq.nd<|pcS lq aG r<|aa (pv 1)<|aa (pv 2) aj)
   (av<|cj (PW.pt<|pw_or (aQ Bl (pv 4) lF<|aR _)<|pw_or1<|aQ fC (pv 4) (pv 3)<|aR _) (av<|aM<|gP (jE r.units) (pcS gv aG r<|aa (pv 0)<|aa (pv 2) aj) (dc<|aa aJ<|aa (pv 4)<|aa (pv 3)<|aa fL<|aa fL aj)<|aR _) bR)) bR)
   (au (psS 5 gq.nd<|pcS gv aG r<|aa (pv 0)<|aa (pv 2) aj)
   (au (psS 6 gq.nd<|bH (bG r) (pv 1) aJ λ_ _=>rfl)
   (au (aY<|pcS mR aG r<|aa (pv 1)<|aa (pv 4)<|aa (pv 3) aj)
   (av<|aM<|sM (gP (jE r.units) (pv 5) (dc<|aa aJ<|aa (pv 6) aj)<|aR _)<|sM (pcS j7 aG r<|aa (bh eW (pv 5) aA λ_ _=>rfl) aj)<|wM<|pcS j4 aG r<|aa (pv 0)<|aa (pv 1)<|aa (pv 6)<|aa (pv 4) aj)))))))),?_⟩⟩
 dsimp only[aW];let hT:=qv wd c;let an:=h.l.lt.len;let U:∀m u,M m=some u->u.d <(bT wd c).length:=λm u e=>(h.po m u e).lt
 let y:M ↥Z.n=Z0:=by
  cases e:M ↥Z.n with
  |none=>rfl
  |some u=>have:=((h.dom ↥Z.n).mp (by rw[e];rfl)).2;omega
 let S:∀H',ak H H'->Q (.bl Z1) H':=λH' s=>q Z L M H' G o6 G<|h.same s
 exists _,G,L.s,_,G,gTb h.l.s_,L.tl,_,G,.inl<|X0.of h.l.tl,_,_,G,G;refine aO [r4 Z.p,r4 L.s,some<|.str wo,some<|.int<|((bT wd c).length:Z4)-1,Z0,Z0,Z0] ?_ (by rw[Xj,an];rfl);dsimp only;by_cases wk:wo = "whole"∨gb wo
 case neg=>
  let j:wo≠"whole":=λz=>wk<|.inl z
  let i:¬gb wo:=λz=>wk<|.inr z
  refine uw (λH'=>ak H H') (λH'=>False) (λQb z1 z2=>{_,G,v7,λt C=>{t,_,G,.inr<|X3.of af,G,G,_,G,?_}}) (λH1 s1=>?_) λH1 h=>h.elim
  .rw[UP j i];exact z1 _<|ak.new C
  refine{_,G,_,G,Z,wd,_,_,M,wo,G,h.a.same s1,U,a4,y,λf t a u H2 hU _ _ _=>?_,λf xs H2 hB hf s2=>?_}
  .rcases hU with⟨z,_⟩|⟨z,_⟩
   .exact absurd z j
   .exact absurd z i
  .rcases hB with⟨_,_,rfl⟩|⟨z,_⟩
   .refine{_,G,(by show 4≤Z7;decide),λt C=>{(0),Z1,o7,ug (ak.new C _ _ hf) af G,S _<|s1.trans<|s2.trans<|ak.new C}}
   .exact absurd z i
 refine uw (λH'=>False) (λH'=>ak H H') (λQb z1 z2=>{_,G,v7,λt C=>{t,_,G,.inr<|X3.of af,G,G,_,G,?_}}) (λH1 h=>h.elim) λH1 s1=>?_
 .rw[TY wk];exact z2 _<|ak.new C
 unfold mO;dsimp only;exists _,G;refine aO [r4 Z.p,r4 L.s,some<|.str wo,some<|.int<|((bT wd c).length:Z4)-1,t6 (-1),Z0,Z0] ?_;dsimp only;refine gz (λσ H'=>∃st:Z4,σ=[r4 Z.p,r4 L.s,some<|.str wo,some<|.int<|((bT wd c).length:Z4)-1,t6 st,Z0,Z0]/\((wo = "whole"/\st = -1)∨(gb wo/\gB (gG M wo) (.int st)/\st≠((bT wd c).length:Z4)-1))/\ak H H') (λN hN=>?_) ?_
 .by_cases j:wo = "whole"
  .refine iI (λQb O=>{_,G,G,_,G,by rw[Xr (by rw[j])];exact O}) ?_;exact hN _ _ {-1,G,.inl ⟨j,G⟩,s1}
  let i:gb wo:=wk.elim (λz=>absurd z j) id;refine fN (λQb O=>{_,G,G,_,G,by rwa[XH λz=>j<|V.str.inj z]}) ?_;refine{_,G,_,G,L,_,_,M,wo,G,h.l.same s1,i,λv H2 hv s2=>?_};refine aO [r4 Z.p,r4 L.s,some<|.str wo,some<|.int<|((bT wd c).length:Z4)-1,some v,Z0,Z0] ?_;dsimp only;let ret:(v=.non∨v=.int (((bT wd c).length:Z4)-1))->KQ (tOp (HL K) (wU (oK ao aB ay aC aD) (λx=>E0) (oq (vv 0) (oq (vv 2) By))) (KZ (oq (tC (V.str "none")) (oq (vv 4) (oq (vv 3) (oq (tC (V.bl Z1)) (oq (tC (V.bl Z2)) By))))))) {nx:=N,rt:=Q} [r4 Z.p,r4 L.s,some (.str wo),some (.int (((bT wd c).length:Z4)-1)),some v,Z0,Z0] H2:=λa5=>by
   refine{_,G,_,G,Z,wd,_,_,M,wo,G,h.a.same<|s1.trans s2,U,a4,y,λf t a u H3 hU _ _ _=>?_,λf xs H3 hB hf s3=>?_}
   .rcases hU with⟨z,_⟩|⟨_,b,a8,ns,g,ar,_⟩
    .exact absurd z j
    .let:=hv.one g;rcases a5 with z|z
     .rw[z] at this;cases this
     .rw[z] at this;let:=V.int.inj this;omega
   .rcases hB with⟨_,z,_⟩|⟨_,v',aw,a0,rfl⟩
    .exact absurd i z
    .let:=hv.one a0;subst this;refine{_,G,_,G,(by show 5≤Z7;decide),λt C=>{(0),Z1,o7,ug (ak.new C _ _ hf) af (by rcases a5 with rfl|rfl <;> rfl),S _<|s1.trans<|s2.trans<|s3.trans<|ak.new C}}
  rcases id hv with⟨rfl,_⟩|⟨b,rfl,_⟩
  .refine fN (λQb O=>{_,G,G,_,G,dB O}) ?_;exact ret<|.inl G
  .by_cases g:b =((bT wd c).length:Z4)-1
   .refine fN (λQb O=>{_,G,G,_,G,eV {_,G,_,G,G,_,G,by rw[Xr (by rw[g])];exact O}}) ?_;exact ret<|.inr (by rw[g])
   .refine iI (λQb O=>{_,G,G,_,G,eV {_,G,_,G,G,_,G,by rwa[XH λz=>g<|V.int.inj z]}}) ?_;exact hN _ _ {b,G,.inr ⟨i,hv,g⟩,s1.trans s2}
 clear s1 H1;rintro σ H1 ⟨st,rfl,a7,s1⟩;let h1:=h.same s1;refine{_,G,_,G,Z,wd,_,_,M,wo,G,h1.a,U,a4,y,λf t a u H2 hU hf a2 k2=>?_,λf xs H2 hB _ _=>?_}
 rotate_left
 .rcases hB with⟨z1,z2,_⟩|⟨i,v,hv,a0,_⟩
  .exact(wk.elim z1 z2).elim
  .rcases a7 with⟨j,_⟩|⟨_,hm,ag⟩
   .rw[j] at i;rcases i with z|z <;> exact absurd z o4
   .let:=hm.one a0;rcases hv with rfl|rfl
    .cases this
    .exact absurd (V.int.inj this) ag
 let⟨am,hg,al,ac⟩:=Ig hU h.ok h.a.D.w2 ai;let ae:st=u.st:=by
  rcases a7 with⟨j,rfl⟩|⟨i,hm,_⟩
  .rcases hU with⟨_,a8,_,rfl⟩|⟨i,_⟩
   .rfl
   .rw[j] at i;rcases i with z|z <;> exact absurd z o4
  .rcases hU with⟨j,_⟩|⟨_,b,a8,ns,g,_,_,_,_,rfl⟩
   .rw[j] at i;rcases i with z|z <;> exact absurd z o4
   .let:=V.int.inj<|hm.one g;rw[this];show↥b =((b+1:Z5):Z4)-1;omega
 subst ae;refine aO [r4 Z.p,r4 L.s,some<|.str wo,some<|.int<|((bT wd c).length:Z4)-1,t6 u.st,r4 f,Z0] ?_;dsimp only;let nF:bE H1 [Z.nl,Z.dl,Z.x,Z.d]:=bE.ls h1.a.nl<|bE.ls h1.a.dl<|bE.sh h1.a.sh;let sF:∀ b∈[Z.nl,Z.dl,Z.x,Z.d],b∈Z.sm:=λb g=>by simp only[SAd.sm,List.mem_cons,List.not_mem_nil,or_false] at g ⊢;grind
 let l2:=h1.l.c6 k2 nF λb g Y=>h.dj b (Xu _<|sF b Y) g
 exists _,G,L.s,_,G,gNx l2.s_;refine aO [r4 Z.p,r4 L.s,some<|.str wo,some<|.int<|((bT wd c).length:Z4)-1,t6 u.st,r4 f,t6 ↥Z.n] ?_ (by rw[h.nn];rfl);dsimp only;let ab:=h.nn;refine{_,G,_,G,_,G,L,_,_,M,u,by rw[show((bT wd c).length:Z4)-1 =↥u.d by omega],l2,o6,by rwa[ab],hg,λt1 t2 H3 l3 k3=>?_};rw[ab] at l3;let gF:=l2.noF;let sG:∀ b∈[L.lg,L.ldn,L.s,L.ld],b∈L.sm:=λb g=>by simp only[LAd.sm,List.mem_cons,List.not_mem_nil,or_false] at g ⊢;grind
 let a3:=a2.c6 k3 gF λb g Y=>h.dj b g<|Xu _<|sG b Y
 let a6:=k3 _ _ hf<|gF.tup hf;refine{_,G,_,G,t9,λt3 a9=>{(0),Z1,o7,ug (ak.new a9 _ _ a6) af G,?_}};let s4:=ak.new a9 (o:=.tup [.str "kept",.int ↥Z.n]);generalize Z9 H3 t3 (.tup [.str "kept",.int ↥Z.n])=H4 at s4 ⊢;refine{_,G,dB {_,G,f,_,_,.int ↥Z.n,G,G,X3.of<|s4 _ _ a6,G,_,G,_,G,dB {_,G,_,G,_,G,_,G,Z.add t a,L.add t1 t2,wd,_,_,_,_,↥Z.n,u,G,a3.same s4,l3.same s4,m7,al,hg,ac,λH5 s5=>?_}}};let a1:=s4.trans s5;refine q (Z.add t a) (L.add t1 t2) _ H5 G (Xk _) G {a3.same a1,l3.same a1,h.dj,by show L.n+1=Z.n+1;omega,λm=>?_,λm u' e=>?_,h.ok,λb o e=>a1 _ _ (k3 b o (k2 b o (h1.sb b o e) λY=>?_) λY=>?_),h.fa,h.fb}
 .show _↔0≤m/\m <((Z.n+1:Z5):Z4);by_cases em:m =↥Z.n
  .rw[em,m7];simp;omega
  .rw[m6 em,h.dom m];omega
 .by_cases em:m =↥Z.n
  .rw[em,m7] at e;cases e;exact am
  .rw[m6 em] at e;exact h.po m u' e
 .rw[h.fa b<|Xu _<|sF b Y] at e;cases e
 .rw[h.fb b<|Xu _<|sG b Y] at e;cases e
variable(lB:bB aC "size" 1 ["self"] (uu ay aC))
variable(jX:bB ay "size" 1 ["self"] (uu ay aC))
variable(jV:bB ao "harm" 8 ["self","shelf","number","at","bits"] (vU ao aB ay aC))
include T ck lB jX jV in
theorem xS(F:Fun K "_law_harmed" "_law_harmed" lY f fd):⋯ 9 f fd ["_law_store","_law_state","_law_m"] (qi ao aD aB ay aC):=by
 refine F.okY iO ?_;rintro vs H Q E ⟨B,Z,L,wd,ae,M,m,rfl,h,bm,be,q⟩;refine⟨G,λbj A outer s g=>⟨_,(au (psS 3 iO.nd<|bh bx (bH (bG g) (pv 1) aJ λ_ _=>rfl) aA λ_ _=>rfl)
   (au (cj (aQ (RA g.units) (pv 3) ic<|aR _) (av Iw) bR)
   (au (psS 4 iO.nd<|bh bx (bq (nW G) o9 T.qA ZM<|aa (pv 3) aj) (aV dM (pv 2)<|bq Fz o9 T.fE Yc<|aa (pv 3) aj) λ_ _=>rfl)
   (au (psS 5 iO.nd<|i6 (bw (aU (pv 0) T.aH ck aZ (g.mono o7)<|aa aA<|aa (pv 4) aj) T.bZ jX aG<|g.mono o7)<|bw (aU (pv 0) T.aH ck aZ (g.mono o7)<|aa aA<|aa (pv 4) aj) T.cu lB aG<|g.mono o7)
   (av (cj (PW.pt<|pw_and (aQ fC (bh eW (bH (bG g) (pv 3) (pv 4) λ_ _=>rfl) aA λ_ _=>rfl) aA<|aR _)<|pw_and1<|aQ xg (pv 5) aA<|aR _) (au (aY<|aU (pv 0) T.aH jV aZ (g.mono o7)<|aa aA<|aa (pv 4)<|aa (aV dM (aV fj (pv 2) aA)<|pv 5)<|aa (aV cZ aA<|aV dM (aV fj (pv 2) aA)<|yJ (n:=18446744073709551616)) aj)
   (av<|jF (bG g) (pv 3) (pv 4) (dc<|aa (bh eW (bH (bG g) (pv 3) (pv 4) λ_ _=>rfl) aA λ_ _=>rfl)<|aa (bh eW (bH (bG g) (pv 3) (pv 4) λ_ _=>rfl) aA λ_ _=>rfl)<|aa aA aj) G)) bR)))))),?_⟩⟩
 dsimp only[aW];let hk:=h.l.lk;let ba:=h.l.n61;let a1:∀H',ak H H'->Q .non H':=λH' s=>q Z L M H' G G G<|h.same s
 exists _,G,L.s,_,G,gSh h.l.s_,L.lsl,_,_,.ref L.ld,G,G,X0.of h.l.ls,G;refine aO [r4 Z.p,r4 L.s,t6 m,r4 L.ld,Z0,Z0] ?_;dsimp only;refine uw (λH'=>ak H H') (λH'=>ak H H'/\L.lkv≠[]) (λQb z1 z2=>{_,G,λe he=>?_}) (λH1 s1=>a1 _ s1) λH1 h1=>?_
 .let U:=ak.new he (o:=.dK []) _ _ h.l.ld;cases a7:L.lkv with
  |nil=>rw[a7] at U;exact{_,{(0),L.ld,e,[],[],Z1,o7,G,G,U,af,λ_=>.nil,G},_,G,z1 _<|ak.new he}
  |cons kv r=>rw[a7] at U;exact{_,{(0),L.ld,e,kv::r,[],Z1,o7,G,G,U,af,nofun,G},_,G,z2 _ {ak.new he,by rw[a7];simp}}
 let⟨s1,aw⟩:=h1;unfold mO;dsimp only;let h1:=h.same s1;let⟨ns,a4⟩:=m5 h1.l.lr.c8;let bo:L.lkv.length=ns.length:=by let:=congrArg List.length a4;simpa using this
 let bc:0<L.lkv.length:=aak.mpr aw;refine{_,G,L.ld,L.lkv,ns,G,h1.l.ld,a4,o6,λsl S ar hp hs=>?_};let s2:=s1.trans<|ak.new ar (o:=.lst<|S.map Z8);let a0:Z9 H1 sl (.lst (S.map Z8)) sl=some (.lst (S.map Z8)):=af;generalize Z9 H1 sl (.lst (S.map Z8))=H2 at s2 a0 ⊢;let h2:=h.same s2;let bp:=hp.length_eq;let d0:=ZG m (show↥L.lkv.length≠0 by omega);let d1:=Zh m (show↥0 <↥L.lkv.length by omega);let⟨k,ek,ax⟩:=xP (ds:=S) d0 o6;exists _,G,_,G,L.ld,L.lkv,G,h2.l.ld,_,_,G,G,(by show↥0 <↥L.lkv.length;omega),sl,_,_,V.int k,G,G,X0.of a0,ek;refine aO [r4 Z.p,r4 L.s,t6 m,r4 L.ld,t6 k,Z0] ?_;dsimp only;let al:=(h1.l.lr.keys a4 k).mp<|hp.mem_iff.mp ax;let⟨ab,am⟩:=(h.dom k).mp al;let⟨u,eM⟩:=ZI.mp al;let⟨v,hv,a,rfl,hP,bd⟩:=h2.a.pr.cN k u eM;let⟨w',a9,t,rfl,ht⟩:=h2.l.lr.cN k u eM;let⟨dx,g1⟩:=id h2.a.st;refine gz (λσ H'=>σ=[r4 Z.p,r4 L.s,t6 m,r4 L.ld,t6 k,t6 ↥u.rows.length]/\H'=H2) (λN hN=>?_) ?_
 .let⟨wh,bb,dn,rows,c⟩:=u;let⟨ac,r,Rr,g3,g4,g5⟩:=id hP;cases wh with
  |false=>exact .inr {_,G,Z.p,dx,_,G,g1,bU o4,_,G,Z.p,Z.q,Z.sl,Z.nl,Z.dl,Z.se,Z.rl,Z.sk,Z.ea,_,(0),Z.x,Z.d,_,Z.kvs,k,_,G,⟨dx,g1⟩,h2.a.sl,G,o6,G,h2.a.sh,hv,a,ac,_,G,g3,d7 (wh:=Z2) o4 o4 o4 o4,a,Z2,bb,dn,rows,c,G,hP,aO [r4 Z.p,r4 L.s,t6 m,r4 L.ld,t6 k,t6 ↥rows.length]<|hN _ _ ⟨G,G⟩}
  |true=>exact .inl {_,G,Z.p,dx,_,G,g1,bU o4,_,G,Z.p,Z.q,Z.sl,Z.nl,Z.dl,Z.se,Z.rl,Z.sk,Z.ea,_,(0),Z.x,Z.d,_,Z.kvs,k,_,G,⟨dx,g1⟩,h2.a.sl,G,o6,G,h2.a.sh,hv,a,ac,_,G,g3,d7 (wh:=Z1) o4 o4 o4 o4,a,Z1,bb,dn,rows,c,G,hP,aO [r4 Z.p,r4 L.s,t6 m,r4 L.ld,t6 k,t6 ↥rows.length]<|hN _ _ ⟨G,G⟩}
 rintro σ H2 ⟨rfl,rfl⟩;let ai:cT H2 L.ld (.int k) (some (.ref t)):=a9 ▸ cT.k (k:=Sum.inl k) h2.l.ld;refine uw (λH'=>H2=H'/\u.good=Z1/\0<u.rows.length) (λH'=>H2=H') (λQb z1 z2=>{_,G,_,G,L.ld,_,G,ai,t,_,_,.int<|bdI u,G,G,X3.of ht,G,G,_,G,?_}) (λH3 h3=>?_) (λH3 h3=>by subst h3;exact a1 _ s2)
 .cases hg:u.good with
  |false=>rw[show bdI u=1 by unfold bdI;rw[hg];rfl];exact eV<|z2 _ G
  |true=>
   rw[show bdI u=0 by unfold bdI;rw[hg];rfl];refine dB {_,G,_,_,G,G,_,G,?_};by_cases g:0<u.rows.length
   .rw[Xr o6];exact z1 _ ⟨G,hg,g⟩
   .rw[XH o6];exact z2 _ G
 let⟨rfl,hg,g⟩:=h3;obtain⟨i,hi,a6⟩:∃i:Z5,m / 60 % ↥u.rows.length =↥i/\i<u.rows.length:=by let e0:=ZG (m / 60) (show↥u.rows.length≠0 by omega);let e1:=Zh (m / 60) (show↥0 <↥u.rows.length by omega);exact{(m / 60 % ↥u.rows.length).toNat,o6,o6}
 obtain⟨C,aS,bl,an⟩:∃C:Z5,1+m / 400 % 18446744073709551616 =↥C/\1≤C/\C<2 ^ 64:={(1+m / 400 % 18446744073709551616).toNat,o6,o6,o6};let j:=h.po k u eM;let hT:=qv wd ae;let bi:=h.a.tn;let Y:PcU.good {u with rows:=fu u.rows i C}=Z2:=by
  let er:u.rows[i]?=some (u.rows[i].1,u.rows[i].2):=Xh a6;let a8:=j.fl hg;let hx:u.rows[i].2<2 ^ 64:=a8 _<|List.mem_flatMap.mpr {u.rows[i],Yh a6,o8};let hc:u.c =((iz u.wh u.b u.d u.rows:Z5):Z4):=ZS hg;let bn:=j.lt;let:=GI (wh:=u.wh) (b:=u.b) (d:=u.d) (y:=u.rows[i].2 ^^^ C) er j.st o6 a8 (abH hx an) (λz=>by
   let h2:u.rows[i].2 ^^^ u.rows[i].2=u.rows[i].2 ^^^ (u.rows[i].2 ^^^ C):=by rw[←z]
   rw[←abr,Nat.xor_self,Nat.zero_xor] at h2;omega)
  refine XH λz=>this ?_
  rw[←tE er];let z:u.c =((iz u.wh u.b u.d (fu u.rows i C):Z5):Z4):=z;omega
 refine{_,G,Z.p,dx,_,G,g1,bU o4,_,G,_,G,_,_,G,G,⟨o5,o5⟩,_,G,_,_,G,G,(by show↥0 <↥u.rows.length;omega),_,G,_,_,G,G,⟨o5,o5⟩,_,_,G,G,o5,_,_,G,G,aD,Z,wd,_,_,M,k,i,C,u,by rw[hi,aS],h2.a,eM,ab,am,a6,λa2 H3 a3 k3=>?_};let nF:bE H2 [Z.x,Z.d]:=bE.sh h2.a.sh;let sF:∀ b∈[Z.x,Z.d],b∈Z.sm:=λb hb=>by simp only[SAd.sm,List.mem_cons,List.not_mem_nil,or_false] at hb ⊢;grind
 let l3:=h2.l.c6 k3 nF λb hb hz=>h.dj b (Xu _<|sF b hz) hb
 let ag:=k3 _ _ ht<|nF.tup ht;let O:cT H3 L.ld (.int k) (some (.ref t)):=a9 ▸ cT.k (k:=Sum.inl k) l3.ld;refine{_,G,_,G,L.ld,_,G,O,t,_,_,.int u.st,G,G,X3.of ag,G,_,G,_,G,L.ld,_,G,O,t,_,_,.int ↥u.d,G,G,X3.of ag,G,v7,λt2 as=>?_};let s4:=ak.new as (o:=.tup [.int u.st,.int ↥u.d,.int 1]);let g4:Z9 H3 t2 (.tup [.int u.st,.int ↥u.d,.int 1]) t2=some (.tup [.int u.st,.int ↥u.d,.int 1]):=af;generalize Z9 H3 t2 (.tup [.int u.st,.int ↥u.d,.int 1])=H4 at s4 g4 ⊢;let l4:=l3.same s4;exists _,G,_,G,L.ld,_,G,mw.k (k:=Sum.inl k) l4.ld<|aN o6;let k5:bg [L.ld] H4 (Z9 H4 L.ld (.dK (putK L.lkv (Sum.inl k) (.ref t2)))):=fY bg.refl<|.inl o8;let nG:bE H4 [L.ld]:=bE.dk l4.ld bE.nil;let sG:∀ b∈[L.ld],b∈L.sm:=λb hb=>by rw[Xx.mp hb];simp[LAd.sm]
 let a5:=(a3.same s4).c6 k5 nG λb hb hz=>h.dj b hb<|Xu _<|sG b hz
 let l5:=l4.set eM (u':={u with rows:=fu u.rows i C}) {t2,G,by rw[ah<|br g4 l4.ld nofun,g4,show bdI {u with rows:=fu u.rows i C}=1 by unfold bdI;rw[Y];rfl];rfl} af k5;refine q {Z with kvs:=putK Z.kvs (.inl k) (.ref a2)} {L with lkv:=putK L.lkv (Sum.inl k) (.ref t2)} _ _ G G G {a5,l5,h.dj,h.nn,λm'=>?_,λm' u' e=>?_,h.ok,λb o e=>k5 b o (s4 _ _ (k3 b o (h2.sb b o e) λhz=>?_)) λhz=>?_,h.fa,h.fb}
 .by_cases em:m'=k
  .rw[em,m7];exact{λ_=>⟨ab,am⟩,λ_=>rfl}
  .rw[m6 em];exact h.dom m'
 .by_cases em:m'=k
  .rw[em,m7] at e;cases e;exact{j.lt,j.st,λz=>by rw[Y] at z;cases z}
  .rw[m6 em] at e;exact h.po m' u' e
 .rw[h.fa b<|Xu _<|sF b hz] at e;cases e
 .rw[h.fb b<|Xu _<|sG b hz] at e;cases e
variable(kP:lI "Store" ao 6 ["self","wide","rule","seek","each"] (tQ ao aD aB aX))
variable(kH:lI "AnyOf" cK 1 ["self","rules"] (vE cK))
include T kP kH in
theorem wA(F:Fun K "_law_no_table" "_law_no_table" j9 f fd):⋯ 8 f fd ["_law_wide"] (oU):=by
 refine F.okY gC ?_;rintro vs H Q E ⟨wd,rfl,y,q⟩;refine⟨G,λL A outer s j=>⟨_,(au (psS 1 gC.nd lF)
   (au (FP (λpn xe E C=>(av<|aY<|jB kP C (j.mono o7) G<|aa (pv 0)<|aa (jB kH aG (j.mono o7) G<|aa (bQ aj) aj)<|aa aA<|aa aA aj)) (Ec (i:=2) G T.DP T.lN gC.nd G G (λ_ _=>(av<|psS 1 gC.nd<|uh (pv 2) G)) EO) G G)
   (av<|aM<|gP fC (pv 1) (pv 0)<|aR _))),?_⟩⟩
 dsimp only[aW];refine aO [t6 wd,some .non,Z0] ?_;dsimp only;refine gz (λσ H'=>∃(m:nt V),σ=[t6 wd,t6 wd,m]/\ak H H') (λN n=>?_) ?_
 .intro pn xe;refine{_,G,Xw _,λl r p B h hdp np=>?_};let s1:ak H (Z9 H l (.lst [])):=ak.new r;let a:Z9 H l (.lst []) l=some (.lst []):=af;generalize Z9 H l (.lst [])=H1 at s1 a h hdp ⊢;refine{p,B,l,G,af,by rwa[ah<|aq a h,ah<|aq a hdp],λt H2 u k2=>{G,?_}};let s2:ak H1 H2:=dw h hdp k2;refine λv c g b x=>{v,c,wd,_,_,_,G,af,λz=>absurd z y,λ_ e H3 he k3=>?_}
  let s3:ak H2 H3:=dw g b k3;exists e,aX,G,G,Z1,T.mtt;rw[Xm rfl];intro o;exists _,G,e,aX,_,_,G,he,T.lN,T.iK,jH;exact n _ _ {_,G,s1.trans<|s2.trans s3}
 rintro σ H1 ⟨m,rfl,s1⟩;exact{_,G,_,G,G,by rw[Xr rfl];exact q H1 s1}
variable(gn:cE "_law_cell_at" 1 ["_law_script","_law_k"] (yp K))
variable(gS:cE "_law_no_table" 8 ["_law_wide"] oU)
variable(jP:cE "_law_begin" 1 ["_law_wide"] sE)
variable(mX:cE "_law_day" 6 ["_law_store","_law_state","_law_changes_here"] (yh ao aD aB ay aC))
variable(iF:cE "_law_changes" 2 ["_law_cell","_law_wide"] nH)
variable(lA:cE "_law_kept" 12 ["_law_store","_law_state","_law_word"] (vC ao aD aB ay aC))
variable(jd:cE "_law_harmed" 9 ["_law_store","_law_state","_law_m"] (qi ao aD aB ay aC))
variable(jf:bB ao "marks" 1 ["self"] (vH ao))
variable(je:bB ao "deeds" 1 ["self"] (vn ao))
variable(dQ:bB ao "numbers" 4 ["self","shelf"] (pI ao aB))
include T cB gE kP kH gn gS jP mX iF lA jd jf je dQ in
theorem Pb(F:Fun K "law" "law" kY f fd):⋯ 13 f fd ["_law_script"] (pO K):=by
 refine F.okY oh ?_;rintro vs H Q E ⟨a,ns,rfl,hS,bW,q⟩;refine⟨G,λbZ A outer s C=>⟨_,(au (psS 1 oh.nd<|aV cZ aA<|aV dM (pcS gn aG C<|aa (pv 0)<|aa aA aj) aA)
   (au (cj (sJ<|lK<|pcS gS aG C<|aa (bh bx (bQ<|aa aA<|aa aA<|aa (aV tX (jg gI aA)<|pv 1)<|aa (aV cZ aA<|pv 1) aj) (aV dM (aV fj (pcS gn aG C<|aa (pv 0)<|aa aA aj) aA) aA) λ_ _=>rfl) aj) (av<|aM fL) bR)
   (au (psS 2 oh.nd<|jB kP aZ (C.mono o7) G<|aa (pv 1)<|aa (jB kH aG (C.mono o7) G<|aa (bQ aj) aj)<|aa aA<|aa aA aj)
   (au (psS 3 oh.nd<|pcS jP aG C<|aa (pv 1) aj)
   (au (eE XF G (zw G T.m8<|aa aA<|aa (bq (zv G) o9 T.HW abi<|aa (bq bM o9 T.fE Yc<|aa (pv 0) aj)<|aa aA aj) aj) (pgN 4 oh.nd)
   (au (psS 5 oh.nd<|pcS gE aG C<|aa (bh bx (pv 0) (pv 4) λ_ _=>rfl)<|aa (pv 4) aj)
   (au (cj (aQ jR (aV dM (pv 5) aA) aA<|aR _) (av<|cj (sJ<|lK<|pcS mX aG C<|aa (pv 2)<|aa (pv 3)<|aa (pcS iF aG C<|aa (aV fj (pv 5) aA)<|aa (pv 1) aj) aj) (av<|aM fL) bR) (av (cj (aQ jR (aV dM (pv 5) aA) aA<|aR _) (au (psS 6 oh.nd<|bh bx (bQ<|aa aJ<|aa aJ<|aa aJ<|aa aJ<|aa aJ<|aa (bh bx (bQ<|aa aJ<|aa aJ<|aa aJ<|aa aJ aj) (aV dM (aV fj (pv 5) aA) aA) λ_ _=>rfl) aj) (aV dM (aV fj (pv 5) aA) aA) λ_ _=>rfl)
   (av<|cj (sJ<|lK<|pcS lA aG C<|aa (pv 2)<|aa (pv 3)<|aa (pv 6) aj) (av<|aM fL) bR))<|av<|aY<|pcS jd aG C<|aa (pv 2)<|aa (pv 3)<|aa (aV fj (pv 5) aA) aj)))
   (au (cj (PW.pt<|pw_or (aQ uz (bw (pv 2) T.aH je aG<|C.mono o7) (bH (bG C) (pv 3) aJ λ_ _=>rfl)<|aR _)<|pw_or1<|aQ (zy C.units) (bw (pv 2) T.aH jf aG<|C.mono o7) (dc<|aa (bH (bG C) (pv 3) aJ λ_ _=>rfl)<|aa aA<|aa aA aj)<|aR _) (av<|aM fL) bR)
   (av<|cj (PW.pt<|pw_or (aQ (zy C.units) (aU (pv 2) T.aH dQ aZ (C.mono o7)<|aa aA aj) (Eo G G T.j6 G T.m8<|bH (bG C) (pv 3) aJ λ_ _=>rfl)<|aR _)<|pw_or1<|aQ uz (bw (pv 2) T.aH cB aG<|C.mono o7) (aV tX (bq bM o9 T.fE Yc<|aa (bH (bG C) (pv 3) aJ λ_ _=>rfl) aj) aA)<|aR _) (av<|aM fL) bR)))))
   (av<|aM<|sM (gP (jE C.units) (aU (pv 2) T.aH dQ aZ (C.mono o7)<|aa aA aj) (bQ aj)<|aR _)<|wM<|gP (jE C.units) (aU (pv 2) T.aH dQ aZ (C.mono o7)<|aa aA aj) (bQ aj)<|aR _)))))),?_⟩⟩
 dsimp only[aW];exists _,G,a,ns,(0),G,hS,_,_,G,G,o5,_,_,G,G;generalize hc0:uy ns ((0:Z5):Z4)=c0;obtain⟨wd,aS,bY,cc⟩:∃wd:Z5,1+c0 % 5 =↥wd/\1≤wd/\wd≤5:={(1+c0 % 5).toNat,o6,o6,o6};refine aO [r4 a,t6 ↥wd,Z0,Z0,Z0,Z0,Z0] ?_ (by rw[←aS];rfl);dsimp only;refine gz (λσ H'=>σ=[r4 a,t6 ↥wd,Z0,Z0,Z0,Z0,Z0]/\ak H H') (λN hN=>?_) ?_
 .refine yt Z2 (λH'=>ak H H') (λQb U=>?_) nofun (λ_ H' s=>hN _ _ ⟨G,s⟩);refine{_,G,_,G,_,_,G,G,_,G,_,_,G,G,(by show 4≤Z7;decide),λl hl=>?_};let s1:=ak.new hl (o:=.lst<|([0,41,-1 -↥wd,41 +↥wd]:ee Z4).map Z8);let h1:Z9 H l (.lst (([0,41,-1 -↥wd,41 +↥wd]:ee Z4).map Z8)) l=some (.lst (([0,41,-1 -↥wd,41 +↥wd]:ee Z4).map Z8)):=af;let⟨y,ey,hy⟩:=xP (ds:=[0,41,-1 -↥wd,41 +↥wd]) (k:=c0 / 5 % 4) o6 (by show _ <↥4;omega);refine{_,G,a,ns,(0),G,s1.seq hS,_,_,G,G,⟨o5,o5⟩,_,_,G,G,o5,l,_,_,V.int y,G,G,X0.of h1,by rwa[hc0],y,G,?_,λH' s=>{_,G,U _<|s1.trans s}};simp only[List.mem_cons,List.not_mem_nil,or_false] at hy;omega
 rintro σ H1 ⟨rfl,s1⟩;refine{_,G,Xw _,λl hl p dp hp hdp np=>?_};let s2:ak H1 (Z9 H1 l (.lst [])):=ak.new hl;let a0:Z9 H1 l (.lst []) l=some (.lst []):=af;generalize Z9 H1 l (.lst [])=H2 at s2 a0 hp hdp ⊢;refine{p,dp,l,G,af,by rwa[ah<|aq a0 hp,ah<|aq a0 hdp],λt H3 a7 k3=>{G,?_}};let s3:ak H2 H3:=dw hp hdp k3;refine λp3 ax a7 an c7=>{p3,ax,↥wd,_,_,_,G,af,λ_ Z H4 eZ eN ac a1 k4=>{G,?_},λz=>absurd ⟨o6,o6⟩ z}
 let s4:ak H3 H4:=dw a7 an k4;let hZ:=ac ay aC;subst eZ;rw[show(↥wd).toNat=wd by omega] at hZ;refine aO [r4 a,t6 ↥wd,r4 Z.p,Z0,Z0,Z0,Z0] ?_;dsimp only;refine{_,G,wd,G,o6,λL H5 eL hL a3 s5=>?_};refine aO [r4 a,t6 ↥wd,r4 Z.p,r4 L.s,Z0,Z0,Z0] ?_;dsimp only;let a4:=s1.trans<|s2.trans<|s3.trans<|s4.trans s5;let v:gX ao aD aB ay aC H H5 Z L wd [] (λ_=>Z0):=by
  refine{hZ.same s5,hL,λb hb hz=>?_,o6,λm=>{nofun,λz=>by omega},λm u e=>(by cases e),λcs h=>(by cases h),a4,λb hb=>?_,λb hb=>?_}
  .let⟨o,e⟩:=hZ.here b hb;rw[a3 b hz] at e;cases e
  .rcases a1 b hb with z|z
   .rw[z];exact(s1.trans<|s2.trans s3).free a7
   .exact(s1.trans<|s2.trans s3).free (bf (bf z).1).1
  .exact(s1.trans<|s2.trans<|s3.trans s4).free (a3 b hb)
 refine gz (λσ H'=>∃(v4 v5 v6:nt V)(j:SAd)(O:LAd)(c:ee (ee (Z4×Z4)))(M:bD),σ=[r4 a,t6 ↥wd,r4 Z.p,r4 L.s,v4,v5,v6]/\j.p=Z.p/\O.s=L.s/\gX ao aD aB ay aC H H' j O wd c M) (λN hN=>?_) ?_
 .let ai:=a4.seq hS;obtain⟨tp,ag,bv,bt⟩:∃tp:Z4,(if ↥60 <((ns.map Z8).length:Z4) then↥60 else((ns.map Z8).length:Z4))=tp/\tp≤60/\tp≤↥ns.length:=by
   rw[Xj];by_cases h:↥60 <↥ns.length
   .exact{(60),Xm h,o6,o6}
   .exact{_,Xn h,o6,o6}
  let bO:0≤tp:=by rw[←ag];split <;> omega
  refine{_,G,a,_,G,.inl ai,_,_,G,(1),tp,by rw[←ag],⟨o6,o6,o6,o6⟩,oN (lo:=1) (n:=(tp-1).toNat) (λi σ H'=>∃(v4 v5 v6:nt V)(j:SAd)(O:LAd)(c:ee (ee (Z4×Z4)))(M:bD),σ=[r4 a,t6 ↥wd,r4 Z.p,r4 L.s,v4,v5,v6]/\j.p=Z.p/\O.s=L.s/\gX ao aD aB ay aC H H' j O wd c M/\j.n≤i/\c.length≤i) {Z0,Z0,Z0,Z,L,[],_,G,G,G,v,o6,o8} ?_ ?_}
  .clear v hL a3 s5 a4 hZ ac a1 k4 s4 ai;rintro i σ H6 hi ⟨v4,v5,v6,j,O,c,M,rfl,eA,a2,v,hn,a8⟩;rw[←eA,←a2];refine aO [r4 a,t6 ↥wd,r4 j.p,r4 O.s,t6<|1 +↥i,v5,v6] ?_;dsimp only;let⟨z,ez,_⟩:=xP (ds:=ns) (k:=1 +↥i) o6 o6;exists _,G,_,G,a,_,_,V.int z,G,G,v.sb.seq hS,ez,_,G,_,_,G;let bj:=HQ z<|1 +↥i;generalize yF z (1 +↥i)=m at bj ⊢;refine aO [r4 a,t6 ↥wd,r4 j.p,r4 O.s,t6<|1 +↥i,t6 m,v6] ?_;dsimp only;refine gz (λσ H'=>∃(v6:nt V)(g:SAd)(B:LAd)(c:ee (ee (Z4×Z4)))(M:bD),σ=[r4 a,t6 ↥wd,r4 j.p,r4 O.s,t6<|1 +↥i,t6 m,v6]/\g.p=j.p/\B.s=O.s/\gX ao aD aB ay aC H H' g B wd c M/\g.n≤i+1/\c.length≤i+1) (λN2 ae=>?_) ?_
   .by_cases c1:m % 8<3
    .refine fN (λQb U=>{_,G,_,_,G,G,o5,_,_,G,G,_,G,by rwa[Xr c1]}) ?_;refine yt Z2 (λH'=>∃(g:SAd)(B:LAd)(c:ee (ee (Z4×Z4)))(M:bD),g.p=j.p/\B.s=O.s/\gX ao aD aB ay aC H H' g B wd c M/\g.n≤i+1/\c.length≤i+1) (λQb U=>?_) nofun λ _ H' ⟨g,B,c,M,Y,e2,h2,e3,e4⟩=>ae _ _ {_,g,B,c,M,G,Y,e2,h2,e3,e4};refine{_,G,_,G,_,G,_,_,G,G,⟨o5,o5⟩,_,G,_,wd,G,o6,o6,λca CL bl H7 bd bo ar bb s7=>?_};refine{H,j,O,wd,c,M,ca,CL,bl,G,v.same s7,bd,ar,bb,λhz=>?_,o6,λg B H8 Y e2 e3 h8=>{_,G,U _ {g,B,_,_,Y,e3,h8,o6,by simp;omega}}};let⟨o,e⟩:=v.l.here ca<|Xu _ hz;rw[bo] at e;cases e
    .refine iI (λQb U=>{_,G,_,_,G,G,o5,_,_,G,G,_,G,by rwa[XH c1]}) ?_;by_cases c2:m % 8<7
     .refine fN (λQb U=>{_,G,_,_,G,G,o5,_,_,G,G,_,G,by rwa[Xr c2]}) ?_;let⟨w1,bc⟩:=CU (ds:=["","Whole","last ","all"]) (k:=m / 56 % 4) o6 (by show _ <↥4;omega);let⟨w2,bi⟩:=CU (ds:=["whole","since","last","last","since",w1]) (k:=m / 8 % 6) o6 (by show _ <↥6;omega);refine{(by show 4≤Z7;decide),λl1 a9=>{_,G,_,_,G,G,⟨o5,o5⟩,_,_,G,G,o5,l1,_,_,V.str w1,G,G,X0.of af,bc,(by show 6≤Z7;decide),λl2 a0=>{_,G,_,_,G,G,⟨o5,o5⟩,_,_,G,G,o5,l2,_,_,V.str w2,G,G,X0.of af,bi,?_}}};let s7:=(ak.new a9 (o:=.lst<|(["","Whole","last ","all"]:ee Z6).map V.str)).trans<|ak.new a0 (o:=.lst<|(["whole","since","last","last","since",w1]:ee Z6).map V.str);let bn:=v.same s7;refine aO [r4 a,t6 ↥wd,r4 j.p,r4 O.s,t6<|1 +↥i,t6 m,some<|.str w2] ?_;dsimp only;refine yt Z2 (λH'=>∃(g:SAd)(B:LAd)(c:ee (ee (Z4×Z4)))(M:bD),g.p=j.p/\B.s=O.s/\gX ao aD aB ay aC H H' g B wd c M/\g.n≤i+1/\c.length≤i+1) (λQb U=>?_) nofun λ _ H' ⟨g,B,c,M,Y,e2,h2,e3,e4⟩=>ae _ _ {_,g,B,c,M,G,Y,e2,h2,e3,e4};exact{_,G,_,G,_,G,H,j,O,wd,c,M,w2,G,bn,o6,o6,λg B M2 H8 Y e2 e3 h8=>{_,G,U _ ⟨g,B,c,M2,Y,e3,h8,o6,o6⟩}}
     .refine iI (λQb U=>{_,G,_,_,G,G,o5,_,_,G,G,_,G,by rwa[XH c2]}) ?_;refine{_,G,_,G,_,G,_,_,G,G,⟨o5,o5⟩,H,j,O,wd,c,M,_,G,v,o6,o6,λg B M2 H8 Y e2 e3 h8=>?_};exact ae _ _ {_,g,B,c,M2,G,Y,e3,h8,o6,o6}
   clear hn a8 v;rintro σ H7 ⟨v6,g,B,c,M,rfl,Y,e2,v,hn,a8⟩;rw[←Y,←e2];let⟨dx,g1⟩:=id v.a.st;let a6:=v.nn;let as:=v.a.nn;refine gz (λσ H'=>σ=[r4 a,t6 ↥wd,r4 g.p,r4 B.s,t6<|1 +↥i,t6 m,v6]/\ak H7 H') (λN3 ba=>?_) ?_
   .refine yt Z2 (λH'=>ak H7 H') (λQb U=>?_) nofun (λ_ H' s=>ba _ _ ⟨G,s⟩);exists _,G,g.p,dx,_,G,g1,bU o4,g.p,g.q,g.sl,g.nl,g.dl,g.se,g.rl,g.sk,g.ea,g.NL,G,⟨dx,g1⟩,v.a.nl,o6,_,G,B.s,_,G,gNx v.l.s_,G,_,G;rw[Xr (by rw[as,a6])];refine eV {_,G,g.p,dx,_,G,g1,bU o4,g.p,g.q,g.sl,g.nl,g.dl,g.se,g.rl,g.sk,g.ea,_,G,⟨dx,g1⟩,v.a.dl,by show 3≤1000;decide,λt ht=>?_};refine{_,G,B.s,_,G,gNx<|ak.new ht _ _ v.l.s_,v7,λt2 al=>{(0),Z1,o7,ug (xs:=[.int ↥g.n,.int 0,.int 0]) (ak.new al _ _ af) (by rw[af,a6]) G,_,G,U _<|(ak.new ht).trans<|ak.new al}}
   rintro σ H8 ⟨rfl,s8⟩;let S:=v.same s8;let⟨nx,ab⟩:=m5 v.a.pr.c8;let bA:g.kvs.length=nx.length:=by let:=congrArg List.length ab;simpa using this
   let cd:=v.a.kn;let bz:=v.a.n61;let be:=v.l.lt.len;refine yt Z2 (λH'=>ak H8 H') (λQb U=>?_) nofun λ_ H' s=>{_,_,_,g,B,c,M,G,by rw[Y],by rw[e2],S.same s,hn,a8};refine{_,G,g.p,dx,_,G,s8 _ _ g1,bU o4,g.p,g.q,g.sl,g.nl,g.dl,g.se,g.rl,g.sk,g.ea,_,(0),g.x,g.d,_,g.kvs,nx,G,{dx,s8 _ _ g1},S.a.sl,G,o6,G,S.a.sh,ab,o6,λl c4 hl hp hs=>?_};rw[v.nums ab hp hs];refine{_,G,B.s,_,G,gNx<|ak.new hl _ _ S.l.s_,B.n,G,o6,λr C=>{(0),Z1,o7,?_,_,G,?_}}
   .rw[a6];exact cR.Eb (X0.of<|ak.new C _ _ af) (X0.of af) λx hx=>eqZ _ hx
   let s9:=(ak.new hl (o:=.lst<|((List.range g.n).map λk:Nat=>↥k).map Z8)).trans<|ak.new C (o:=.lst<|((List.range B.n).map λk:Nat=>↥k).map Z8);let a5:=S.same s9;refine eV {_,G,g.p,dx,_,G,s9 _ _<|s8 _ _ g1,bU o4,g.p,g.q,g.sl,g.nl,g.dl,g.se,g.ta,g.sa,g.TL,g.SL,wd,_,_,g.rl,g.sk,g.ea,G,{dx,s9 _ _<|s8 _ _ g1},a5.a.D,_,G,B.s,_,G,gTb a5.l.s_,B.tl,_,G,.inl<|X0.of a5.l.tl,_,_,G,G,G,_,G,?_};rw[Xr (by rw[Xj,be])];exact U _ s9
  .rintro σ H6 ⟨v4,v5,v6,j,O,c,M,rfl,eA,a2,v,_,_⟩;exact hN _ _ ⟨v4,v5,v6,j,O,c,M,G,eA,a2,v⟩
 .clear v hL a3 s5 a4 hZ ac a1 k4 s4;rintro σ H6 ⟨v4,v5,v6,j,O,c,M,rfl,eA,a2,v⟩;let⟨dx,g1⟩:=id v.a.st;rw[←eA];refine{_,G,j.p,dx,_,G,g1,bU o4,j.p,j.q,j.sl,j.nl,j.dl,j.se,j.rl,j.sk,j.ea,_,(1),j.y,j.dy,(0),[],[],G,⟨dx,g1⟩,v.a.sl,G,o6,G,v.a.sy,G,o7,λl1 c9 a9 aw _=>?_};rw[aw.eq_nil];let s7:=ak.new a9 (o:=.lst<|([]:ee Z4).map Z8);let h7:Z9 H6 l1 (.lst (([]:ee Z4).map Z8)) l1=some (.lst []):=af;generalize Z9 H6 l1 (.lst (([]:ee Z4).map Z8))=H7 at s7 h7 ⊢;refine{Xw _,λY am=>{(0),Z1,o7,cR.Eb (xs:=[]) (X0.of<|ak.new am _ _ h7) (X0.of af) (λx hx=>by cases hx),?_}};let s8:=s7.trans<|ak.new am (o:=.lst []);change xQ _ _ _ _ (Z9 H7 Y<|.lst []);generalize Z9 H7 Y (.lst [])=H8 at s8 ⊢;let S:=v.same s8;refine{_,G,dB {_,G,j.p,dx,_,G,s8 _ _ g1,bU o4,j.p,j.q,j.sl,j.nl,j.dl,j.se,j.rl,j.sk,j.ea,_,(2),j.z,j.dz,(0),[],[],G,{dx,s8 _ _ g1},S.a.sl,G,o6,G,S.a.sz,G,o7,λl2 c3 a0 bm _=>?_}};rw[bm.eq_nil];refine{Xw _,λe2 bp=>{(0),Z1,o7,cR.Eb (xs:=[]) (X0.of<|ak.new bp _ _ af) (X0.of af) (λx hx=>by cases hx),q _}}
end
def Iv:Go g0:=by
 rintro⟨X,b4,aH,zX,B6,Bh,zC,yT,zb,Cs,BH,zq,zj,Fy,Cv,Dg,yG,BL,MA,DF,CH,AG,yY,jn,xw,iK,xH,kq,wF,jJ,Ay,oW,zh,jh,jI,wD,jA,xj,jN,DN,kT,dG,fB,dZ,BR,cL,c9,l,fT,eY,jj,kj,s,iJ,fR,jT,kX,ja,Bf,mH,AN,eX,n9,ng,nP,bY,fz,gk,mh,l0,l1,l2,l3,l4,l5,l6,l7,l8,l9,l10,l11,l12,l13,l14,l15,l16,l17,l18,l19,l20,ch,a9,o,v,bl,k23,i,bZ,as,an,ag,cq,y,cn,n,co,q,cp,u,j,h,am,C,k32,p,ce,ax,cf,t,m,a4,bc,bz,r,cd,ci,cl,a3,cm,S,ae,bn,ba,c1,H,bd,ac,z,c3,c0,ab,c8,A,aw,bp,cg,be,B,bm,al,ca,bj,a8,aS,L,c4,O,a5,a2,bo,bb,U,c2,x,wV,x8,AO,B7,yC,zV,GX,Gq,uT,Ui,AK,Uq,NK,Sd,IK,IM,T6,TF,Gj,T9,BV,Bx,a6,ai,cc,ar,bi,bO,bv,a0⟩ f fd F;let T:Txt:={XO X b4 aH,XO X b4 zX,XO X b4 B6,AG.1,XO X b4 Bh,yY.1,jn,XO X b4 zC,xw.1,iK,XO X b4 yT,xH.1,kq,XO X b4 zb,wF.1,jJ,XO X b4 Cs,Ay.1,oW,XO X b4 BH,zh.1,jh,jI,XO X b4 zq,wD.1,jA,XO X b4 zj,xj.1,jN,XO X b4 Fy,DN.1,kT,dG,fB,dZ,XO X b4 Cv,BR.1,cL,c9,XO X b4 Dg,XO X b4 yG,l.1,fT,eY,jj,kj,XO X b4 BL,s.1,iJ,fR,jT,kX,ja,XO X b4 MA,XO X b4 DF,Bf.1,mH,XO X b4 CH,AN.1,eX,n9,ng,nP,bY,fz,gk,mh,Yd X b4 Ui,Yd X b4 AK,Yd X b4 Uq,Yd X b4 NK,Yd X b4 Sd,Yd X b4 IK,Yd X b4 IM,Yd X b4 T6,Yd X b4 TF,Yd X b4 Gj,Yd X b4 T9,Yd X b4 BV,Yd X b4 Bx,a6,ai,cc,ar,bi,bO,bv,a0};let g:=yv (st:=jD) v bl k23;let a1:=g.binds (ps:=["shelf","good"]) (ds:=[]) i G λ_ _ _ _ _ _ us a=>ln2 us a λ_ _=>{_,G,G}
 let BE:=g.binds (ps:=["shelf","good"]) (ds:=[Value.bool Z2]) i G λ_ _ _ _ _ _ us a=>ln1 us (⇑a) λ_=>{_,G,G}
 let b:=yv (st:=dF) am C k32;let bt:=b.binds (ps:=["self","day","rows","check"]) (ds:=[]) p G λ_ _ _ _ _ _ us a=>ln4 us a λ_ _ _ _=>{_,G,G}
 let rq:=b.binds (ps:=["self","day","rows","check"]) (ds:=[Value.none]) p G λ_ _ _ _ _ _ us a=>ln3 us (⇑a) λ_ _ _=>{_,G,G}
 let c:=yv (st:=dO) a4 bc bz;let a7:=c.binds (ps:=["self","base","day","rows","check"]) (ds:=[]) r G λ_ _ _ _ _ _ us a=>ln5 us a λ_ _ _ _ _=>{_,G,G}
 let sP:=c.binds (ps:=["self","base","day","rows","check"]) (ds:=[Value.none]) r G λ_ _ _ _ _ _ us a=>ln4 us (⇑a) λ_ _ _ _=>{_,G,G}
 let Y:Bs P w K mg base:={_,X,b4};let qy:=l0.e Bh yY Y λF=>sN T F
 let oM:=l1.e zC xw Y λF=>qX T F
 let gw:=l2.e yT xH Y λF=>qY T F
 let oQ:=l3.e zb wF Y λF=>qW T F
 let ud:=l4.e Cs Ay Y λF=>uM T F
 let jy:=l5.e BH zh Y λF=>rN T F
 let oG:=l6.e zq wD Y λF=>rE T F
 let ow:=l7.e zj xj Y λF=>rC T F
 let mW:=l14.d Y λF=>Cd T oM F
 let xh:=l8.mk1 Fy DN Y λF=>wz T mW F
 let f9:=l12.d Y λF=>tw T gw oQ F
 let ji:=l9.d Y λF=>x6 T f9 F
 let cX:=l13.d Y λF=>w6 T ud F
 let e8:=l10.d Y λF=>Ac T cX F
 let iG:=l11.d Y λF=>wZ T cX F
 let m9:=l15.mk1 Cv BR Y λF=>uI T F
 let fU:=l17.d Y λF=>BN T F
 let kZ:=l16.d Y λF=>Aj T fU F
 let bW:=l18.d Y λF=>yK T oG F
 let kg:=l19.d Y λF=>zE T bW F
 let c7:=l20.d Y λF=>vh T F
 let gc:=ch.d Y λF=>rL T F
 let cy:=q.d wV Y λF=>nI T F
 let cC:=q.d x8 Y λF=>nI T F
 let fX:=ci.d Y λF=>Au T F
 let eO:=ax.d Y λF=>zQ T F
 let fG:=a9.d Y λF=>rG T cC cy fX eO F
 let eU:=cd.d Y λF=>zP T F
 let dU:=ce.d Y λF=>yg T F
 let fF:=as.d Y λF=>rD T bW c7 cC cy eU dU F
 let gJ:=bZ.d Y λF=>yk T bW fF F
 let oR:cE "reached" 6 ["shelf","good"] (jU aB ay aC):={_,_,Y.at_ o,wI T gJ g,k23,a1};let PR:UN P w K mg base "reached" 6 ["shelf","good"] [Value.bool Z2] (jU aB ay aC):={_,_,Y.at_ o,wI T gJ g,k23,BE};let qj:=an.d Y λF=>Gf T F
 let mS:=ag.d Y λF=>BX T qj F
 let cz:HU "Piece" cD "__init__" 3 ["self","start","day","rows","check"] (qI K):=by let⟨_,_,F⟩:=y;exact{_,_,Y.at_ Dg,⟨GX,Gq,uT,F.kp⟩,uR T mS F,F.binds λ_ _ _ _ _ _ us a=>ln5 us a λ_ _ _ _ _=>rfl}
 let jX:=n.d AO Y λF=>qU T F
 let lB:=n.d B7 Y λF=>qU T F
 let w5:lI "Gain" aC 4 ["self","base","day","rows","check"] (kK ay aC):={_,_,Y.at_ BL,⟨s.2.1,t,m,s.2.2⟩,ny T cz c,a7};let oz:ua "Gain" aC 4 ["self","base","day","rows","check"] [Value.none] (kK ay aC):={_,_,Y.at_ BL,⟨s.2.1,t,m,s.2.2⟩,ny T cz c,sP};let fh:=cl.d Y λF=>uQ T w5 F
 let uC:lI "Whole" ay 4 ["self","day","rows","check"] (kB ay aC):={_,_,Y.at_ yG,⟨l.2.1,j,h,l.2.2⟩,mL T cz b,bt};let mT:ua "Whole" ay 4 ["self","day","rows","check"] [Value.none] (kB ay aC):={_,_,Y.at_ yG,⟨l.2.1,j,h,l.2.2⟩,mL T cz b,rq};let dY:=cf.d Y λF=>tF T uC F
 let iN:=u.d yC Y λF=>oi T gw fh dY F
 let jm:=u.d zV Y λF=>oi T gw fh dY F
 let mU:=a3.d Y λF=>Cn T mT e8 F
 let om:=cm.d Y λF=>DS T e8 iG jy oz F
 let kH:=S.mk1 DF Bf Y λF=>uJ T F
 let kP:=ae.mk1 CH AN Y λF=>uP T xh m9 F
 let iR:=bn.d Y λF=>xD T ji F
 let cB:=ba.d Y λF=>x9 T F
 let bA:=c8.d Y λF=>rT T ow F
 let jo:=ab.d Y λF=>xM T bA oR F
 let gx:=aw.d Y λF=>uL T jy fG jo qy cB F
 let gf:=A.d Y λF=>tY T cB mU om gx F
 let oS:=cg.d Y λF=>D0 T kZ kg F
 let jb:=H.d Y λF=>yD T bA oS F
 let kc:=bp.d Y λF=>zZ T jb F
 let jL:=c1.d Y λF=>zH T gf gc kc F
 let je:=bd.d Y λF=>xK T F
 let jf:=ac.d Y λF=>yL T F
 let dQ:=z.d Y λF=>vK T c7 bA F
 let ck:=c3.d Y λF=>xO T bW bA F
 let jV:=c0.d Y λF=>Ab T fU jm ck iN F
 let gn:=be.d Y λF=>w4 T F
 let j7:=B.d Y λF=>zT T F
 let gE:=bm.d Y λF=>Cf T F
 let iF:=al.d Y λF=>wK T gE F
 let jP:=ca.d Y λF=>zK T F
 let mX:=bj.d Y λF=>Cc T iR F
 let lC:=a8.d Y λF=>BJ T F
 let iL:=aS.d Y λF=>wJ T lC F
 let kR:=L.d Y λF=>BQ T iL F
 let mR:=c4.d Y λF=>Ck T kR F
 let j5:=O.d Y λF=>zW T F
 let lq:=a5.d Y λF=>Be T j5 F
 let gv:=a2.d Y λF=>zY T jL F
 let gU:=bo.d Y λF=>vB T F
 let j4:=bb.d Y λF=>zL T cC cy eU dU fX eO ck gU F
 let lA:=U.d Y λF=>Bq T gv lq mR j4 j7 F
 let jd:=c2.d Y λF=>xS T ck lB jX jV F
 let gS:=x.d Y λF=>wA T kP kH F
 exact Pb T cB gE kP kH gn gS jP mX iF lA jd jf je dQ F
def all(c:Gc):Go c:=Classical.byContradiction λn=>Classical.epsilon_spec (p:=λc=>¬Go c) ⟨c,n⟩ Iv
def all_mk{l:OpenLaw}{w:q9}{K:Frag}{h:Heap}{mg:Z6->nt mu}{y:fy}(X:K.In h)(b4:h.Ns mainGlobals mg)(p:mg "law" = some (.ref y)){t_W:Tok}{cG:Tok}{bL:fy}{aP:fy}{aX:fy}{bu:fy}{bJ:fy}{bK:fy}{aK:fy}{bI:fy}{bX:fy}{aD:fy}{aB:fy}{cD:fy}{ay:fy}{aC:fy}{i7:fy}{cK:fy}{ao:fy}{j:fy}{o f:nt fy}{m:qq (nt mu)}{n g b i a c:mu}(u:GA K "law" j)(q:K.lookup j=some {n,o,.func (fnOf "law" "law" (dR kY) (cV kY) (az kY) .none g b i f a c),m})(r:codeIn K a "law" = Z1)(x:keepIn K (.ref j)=Z1)(z:Hy K mg t_W cG bL aP aX bu bJ bK aK bI bX aD aB cD ay aC i7 cK ao)
  :∃fd:pW,(∀(s:nA)(v:mu),BindsTo s fd {[v],[]} [("_law_script",v)])/\∀base:Heap,K.In base->base.Ns mainGlobals mg->aI l.prog w K mg base (CXx l.prog w) 13 y fd ["_law_script"] (pO K):=by
 let e:=p.symm.trans<|XO X b4 u;cases e;let t:=Px (st:=kY) q r x;refine{fnOf "law" "law" (dR kY) (cV kY) (az kY) .none g b i f a c,λs v=>.of_eq G,λbase _ _=>all ⟨l.prog,w,K,mg,base,t_W,cG,bL,aP,aX,bu,bJ,bK,aK,bI,bX,aD,aB,cD,ay,aC,i7,cK,ao⟩ z t}
def walk{l:OpenLaw}{q:q8}{b:ee Z6}{r:(Z6->nt mu)->Heap->Z3}{g:q9->Heap->Z3}{d:DefRec}{K:Params->Frag}(j:l.most=some 63)(c:d.params.defaults=[])(o:∀(w:q9)(h:Heap),g w h->(K w.params).In h)(F:∀(w:q9)(mg:Z6->nt mu)(i:fy)(h:Heap),(K w.params).In h->h.Ns mainGlobals mg->mg d.name=some (.ref i) →
   ∃fd:pW,(∀(s:nA)(u:mu),BindsTo s fd {[u],[]} [("_law_script",u)])/\∀base:Heap,(K w.params).In base->base.Ns mainGlobals mg->aI l.prog w (K w.params) mg base (CXx l.prog w) 13 i fd ["_law_script"] (pO (K w.params))) :
  WalkO q b r g l.row.toRowW d [] (λf vs=>PySem.call f vs):=
 L2.IU (n:=63) (k:=13) (x:="_law_script") (CX:=λw=>CXx l.prog w) (sp:=λw=>pO<|K w.params) j o7 c ⟨G,o7,o7⟩ o F (λ_ _ a ns m _ p=>{a,ns,G,p,m,λ_=>rfl}) λ_ _ _ _ _ z=>L2.RQ z
end Mine
open PySem PySem.W PyProof.Rows
noncomputable def PySem.W.Fast.tw14997437551587410454:PySem.Program:=PySem.Challenge.pw_keepsakes_k81_kept_by_a_word
def PySem.W.Fast.te14997437551587410454:PySem.Challenge.pw_keepsakes_k81_kept_by_a_word=PySem.W.Fast.tw14997437551587410454:=rfl
namespace Hd
noncomputable section
open PySem
structure Sc where
 (a b c d e f g h i j k l m n o p q r s t u v w x y:Str)
abbrev h0:Sc:=Sc.mk "<module>" "/claim/cut.py" "__main__" "__name__" "keepsakes.errors" "__doc__" "__package__" "__loader__" "__spec__" "__annotations__" "__builtins__" "__file__" "__cached__" "_wall" "W" "MOST_BLOCKS" "KeepError" "k" "__module__" "__qualname__" "__firstlineno__" "__static_attributes__" "__weakref__" "NoWord" "__init__"
abbrev h1:Sc:=Sc.mk "self" "word" "NoWord.__init__" "NoTable" "wide" "NoTable.__init__" "NoPlace" "place" "NoPlace.__init__" "NoBlock" "block" "NoBlock.__init__" "NoDay" "day" "NoDay.__init__" "NoBase" "base" "NoBase.__init__" "NoPiece" "number" "NoPiece.__init__" "keepsakes.days" "NoShelf" "shelf" "NoShelf.__init__"
abbrev h2:Sc:=Sc.mk "Days" "passes" "table" "written" "ask_change" "ask_day" "Days.__init__" "Days.passes" "Days.table" "one" "other" "places" "Days.written" "Days.ask_change" "Days.ask_day" "last" "set_places" "tables" "__dict__" "keepsakes.shelves" "ask_wide" "Shelf" "put" "lay" "piece"
abbrev h3:Sc:=Sc.mk "drop" "numbers" "following" "copied" "last_whole" "Shelf.__init__" "Shelf.put" "Shelf.lay" "Shelf.piece" "Shelf.drop" "Shelf.numbers" "Shelf.following" "Shelf.copied" "Shelf.last_whole" "follows" "pieces" "keepsakes.pieces" "reached" "last_pieces" "numbers_by_start" "turned" "check_of" "good" "keepsakes.ways" "starting"
abbrev h4:Sc:=Sc.mk "met" "further" "start" "keepsakes.checks" "rows" "check" "Piece" "size" "is_good" "harmed" "Piece.__init__" "Piece.size" "Piece.is_good" "at" "bits" "row" "Piece.harmed" "fits" "Whole" "kind" "laid" "with_rows" "Whole.__init__" "Whole.start" "Whole.kind"
abbrev h5:Sc:=Sc.mk "Whole.laid" "Whole.with_rows" "Gain" "Gain.__init__" "Gain.start" "Gain.kind" "Gain.laid" "Gain.with_rows" "keepsakes.rules" "whole_of" "gain_of" "Rule" "days" "picks" "Rule.picks" "keepsakes.stores" "AnyOf" "rules" "AnyOf.__init__" "AnyOf.picks" "Store" "today" "keep" "seal" "tidy"
abbrev h6:Sc:=Sc.mk "carry" "deeds" "marks" "harm" "heal" "reach" "legs" "fetch" "ask_shelf" "cost_of_pieces" "new_piece" "base_for" "note" "fold" "together" "rule" "seek" "each" "Store.__init__" "changes" "Store.passes" "Store.today" "Store.keep" "Store.seal" "Store.tidy"
abbrev h7:Sc:=Sc.mk "many" "mark" "next_ones" "deed" "Store.carry" "Store.deeds" "Store.marks" "Store.numbers" "Store.piece" "harmed_piece" "Store.harm" "Store.heal" "Store.reach" "some" "Store.legs" "Store.fetch" "Store.ask_shelf" "Store.cost_of_pieces" "Store.new_piece" "Store.base_for" "Store.note" "Store.fold" "Store.together" "done" "noted"
abbrev h8:Sc:=Sc.mk "seals" "shelves" "law_keepsakes_k81_kept_by_a_word" "do_deed" "_law_cell_at" "_law_whole" "_law_mix" "_law_changes" "_law_begin" "_law_day" "_law_work" "_law_carried" "_law_note" "_law_put" "_law_reach" "_law_script" "_law_k" "_law_found" "_law_cell" "_law_m" "_law_wide" "_law_changes_here" "_law_state" "_law_side" "_law_deed"
abbrev h9:Sc:=Sc.mk "_law_many" "_law_count" "_law_start" "_law_day_here" "_law_row" "_law_well" "_law_there" "_law_more" "_law_bad" "_law_base" "_law_asked" "_law_due_rows" "_law_piece" "_law_kept" "_law_harmed" "_law_no_table" "law" "_law_store" "_law_word" "e" "_law_number" "_law_piece_here" "_law_kind" "_law_today" "_law_size"
abbrev h10:Sc:=Sc.mk "_law_told" "" "" "" "" "" "" "" "" "" "" "" "" "" "" "" "" "" "" "" "" "" "" "" ""
abbrev h11:=((((("tuple","code"),"frame"),(("dict","__main__.__loader__#opaque"),"function")),((("ValueError","builtin_function_or_method"),"type.__prepare__"),("type","Exception"))),(((("BaseException","object"),"ValueError.__new__"),("getset_descriptor","ExceptionGroup.__weakref__")),((("super","object.__init_subclass__"),"object.__new__"),("function.__dict__","function.__dict__#set"))))
abbrev X:Type:=((((Sc×Sc)×(Sc×Sc))×((Sc×Sc)×Sc))×(((Sc×Sc)×Sc)×((Sc×(((((String×String)×String)×((String×String)×String))×(((String×String)×String)×(String×String)))×((((String×String)×String)×(String×String))×(((String×String)×String)×(String×String)))))×Program)))×Params
noncomputable abbrev hs:=((((h0,h1),(h2,h3)),((h4,h5),h6)),(((h7,h8),h9),((h10,h11),PySem.Challenge.pw_keepsakes_k81_kept_by_a_word)))
lay_quick h0 h1 h2 h3 h4 h5 h6 h7 h8 h9 h10 h11 PySem.Challenge.pw_keepsakes_k81_kept_by_a_word
lay_quick hs
abbrev X.l0(x:X):=x.1.2.2.1.2.1.1.1.1.1
abbrev X.l1(x:X):=x.1.2.2.1.2.1.1.1.1.2
abbrev X.l2(x:X):=x.1.2.2.1.2.1.1.1.2
abbrev X.l3(x:X):=x.1.2.2.1.2.1.1.2.1.1
abbrev X.l4(x:X):=x.1.2.2.1.2.1.1.2.1.2
abbrev X.l5(x:X):=x.1.2.2.1.2.1.1.2.2
abbrev X.l6(x:X):=x.1.2.2.1.2.1.2.1.1.1
abbrev X.l7(x:X):=x.1.2.2.1.2.1.2.1.1.2
abbrev X.l8(x:X):=x.1.2.2.1.2.1.2.1.2
abbrev X.l9(x:X):=x.1.2.2.1.2.1.2.2.1
abbrev X.l10(x:X):=x.1.2.2.1.2.1.2.2.2
abbrev X.l11(x:X):=x.1.2.2.1.2.2.1.1.1.1
abbrev X.l12(x:X):=x.1.2.2.1.2.2.1.1.1.2
abbrev X.l13(x:X):=x.1.2.2.1.2.2.1.1.2
abbrev X.l14(x:X):=x.1.2.2.1.2.2.1.2.1
abbrev X.l15(x:X):=x.1.2.2.1.2.2.1.2.2
abbrev X.l16(x:X):=x.1.2.2.1.2.2.2.1.1.1
abbrev X.l17(x:X):=x.1.2.2.1.2.2.2.1.1.2
abbrev X.l18(x:X):=x.1.2.2.1.2.2.2.1.2
abbrev X.l19(x:X):=x.1.2.2.1.2.2.2.2.1
abbrev X.l20(x:X):=x.1.2.2.1.2.2.2.2.2
abbrev X.a(x:X):=x.1.1.1.1.1
abbrev X.b(x:X):=x.1.1.1.1.2
abbrev X.c(x:X):=x.1.1.1.2.1
abbrev X.d(x:X):=x.1.1.1.2.2
abbrev X.e(x:X):=x.1.1.2.1.1
abbrev X.f(x:X):=x.1.1.2.1.2
abbrev X.g(x:X):=x.1.1.2.2
abbrev X.h(x:X):=x.1.2.1.1.1
abbrev X.i(x:X):=x.1.2.1.1.2
abbrev X.j(x:X):=x.1.2.1.2
abbrev X.k(x:X):=x.1.2.2.1.1
abbrev b0(x:X):=PySem.W.boot_o_0 x.2
abbrev b1(x:X):=PySem.W.boot_o_1 x.2
abbrev b2(x:X):=PySem.W.boot_o_2 x.2
abbrev b3(x:X):=PySem.W.boot_o_3 x.2
abbrev b4(x:X):=PySem.W.boot_o_4 x.2
abbrev b5(x:X):=PySem.W.boot_o_5 x.2
abbrev b6(x:X):=PySem.W.boot_o_6 x.2
abbrev b7(x:X):=PySem.W.boot_o_7 x.2
abbrev b8(x:X):=PySem.W.boot_o_8 x.2
abbrev b9(x:X):=PySem.W.boot_o_9 x.2
abbrev b10(x:X):=PySem.W.boot_o_10 x.2
abbrev pg(x:X):Program:=x.1.2.2.2
def nth:List Stmt->Nat->Stmt:=λl=>@List.rec Stmt (λ_=>Nat->Stmt) (λ_=>.Pass ⟨0,0,0,0⟩) (λa _ ih n=>@Nat.rec (λ_=>Stmt) a (λm _=>ih m) n) l
abbrev st(x:X)(k:Nat):Stmt:=nth (pg x).main.body k
def cb:Stmt->List Stmt|.ClassDef _ _ _ y _ _ _ _ _ _ _=>y|_=>[]
abbrev sm(x:X)(k m:Nat):Stmt:=nth (cb (st x k)) m
def f0:Stmt->Str|.FunctionDef y _ _ _ _ _ _ _ _ _=>y|_=>default
def f1:Stmt->Arguments|.FunctionDef _ y _ _ _ _ _ _ _ _=>y|_=>default
def f2:Stmt->List Stmt|.FunctionDef _ _ y _ _ _ _ _ _ _=>y|_=>[]
def f6:Stmt->Scope|.FunctionDef _ _ _ _ _ _ y _ _ _=>y|_=>default
noncomputable abbrev u0:=@Obj.mk
abbrev u1:=@Value.type
abbrev u2:=@Option.none.{0} (@Nat)
abbrev u3:=@Data.seq
abbrev u4:=@List.toArray.{0} Value
abbrev u5:=@List.nil.{0} Value
abbrev u6:=@List.toArray.{0} (Option Value)
abbrev u7:=@List.nil.{0} (Option Value)
abbrev u8:=@Value.none
abbrev u9:=@Data.fields
abbrev u10:=@List.cons.{0} Value
noncomputable abbrev u11:=@Value.str
noncomputable abbrev u12:=@Value.int
noncomputable abbrev u13:=@Value.ref
abbrev u14:=@Value.bool
abbrev u15:=@Bool.false
abbrev u16:=@Data.plain
abbrev u17:=@List.cons.{0} (Option Value)
noncomputable abbrev u18:=@Option.some.{0} Value
abbrev u19:=@Option.none.{0} Value
abbrev u20:=@Data.dict
abbrev u21:=@List.toArray.{0} DictEntry
abbrev u22:=@List.cons.{0} DictEntry
abbrev u23:=@DictEntry.mk
abbrev u24:=@PyData.keyHash
abbrev u25:=@Value.builtin
abbrev u26:=@List.nil.{0} DictEntry
abbrev u27:=@Data.func
abbrev u28:=@FuncData.mk
abbrev u29:=@FuncBody.stmts
abbrev u30:=@List.nil.{0} (@Prod.{0,0} (@Str) (@Nat))
abbrev u31:=@Bool.true
abbrev u32:=@Data.cls
abbrev u33:=@ClassData.mk
abbrev u34:=@List.nil.{0} (@Str)
abbrev u35:=@Option.none.{0} (@Bool)
abbrev u36:=@List.cons.{0} (@Prod.{0,0} (@Nat) (@Obj))
abbrev u37:=@Prod.mk.{0,0} (@Nat) (@Obj)
abbrev u38:=@List.nil.{0} (@Prod.{0,0} (@Nat) (@Obj))
abbrev u39:=@Heap.mk
abbrev u40:=@Array.mk.{0} (@Obj)
abbrev u41:=@List.cons.{0} (@Obj)
abbrev u42:=@List.nil.{0} (@Obj)
abbrev u43:=@Life.mk
abbrev u44:=@List.nil.{0} (@Nat)
abbrev u45:=@List.nil.{0} (@Prod.{0,0} (@Nat) (@Nat))
abbrev u46:=@List.toArray.{0} (@Nat)
abbrev u47:=@List.cons.{0} (@Int)
abbrev u48:=@List.nil.{0} (@Int)
abbrev u49:=@PySem.W.BT.node
abbrev u50:=@PySem.W.BT.nil
noncomputable abbrev M(c:Value)(d:Data):Obj:=Obj.mk c none d #[]
noncomputable abbrev E(x:X)(s:Str)(n:Nat)(v:Value):DictEntry:=⟨PyData.keyHash x.2 s,.str s n,v⟩
abbrev N(o:X->Obj)(l r:X->PySem.W.BT):X->PySem.W.BT:=λx=>.node (o x) (l x) (r x)
abbrev Z:X->PySem.W.BT:=λ_=>.nil
abbrev Q(o:X->Obj)(l:X->List Obj):X->List Obj:=λx=>o x::l x
abbrev R:X->List Obj:=λ_=>[]
abbrev J(k:Nat)(o:X->Obj)(l:X->List (Nat×Obj)):X->List (Nat×Obj):=λx=>(k,o x)::l x
abbrev I:X->List (Nat×Obj):=λ_=>[]
def inz:PySem.W.BT->Nat->Obj->PySem.W.BT
 |.nil,_,o=>.node o .nil .nil
 |.node v l r,i,o=>if i=0 then .node o l r else if i % 2=1 then .node v (inz l (i / 2) o) r else .node v l (inz r (i / 2-1) o)
def gi:List (X->Obj)->Nat->X->PySem.W.BT->PySem.W.BT
 |[],_,_,t=>t
 |o::l,k,x,t=>gi l (k+1) x (inz t k (o x))
def G(t:X->PySem.W.BT)(k:Nat)(l:List (X->Obj)):X->PySem.W.BT:=λx=>gi l k x (t x)
def ap{α:Type}:List α->List α->List α
 |[],l=>l
 |a::k,l=>a::ap k l
def sz{α:Type}:List α->Nat->α->List α
 |[],_,_=>[]
 |_::l,0,b=>b::l
 |a::l,i+1,b=>a::sz l i b
def mp(x:X):List (X->Obj)->List Obj
 |[]=>[]
 |o::l=>o x::mp x l
def il{α:Type}:List α->List α->List α
 |[],l=>l
 |a::k,[]=>a::k
 |a::k,b::m=>a::b::il k m
def fl:PySem.W.BT->List Obj
 |.nil=>[]
 |.node o l r=>o::il (fl l) (fl r)
def pj:List Obj->Nat->List Nat->List (Nat×Obj)
 |o::l,k,a::m=>if k=a then(a,o)::pj l (k+1) m else pj l (k+1) (a::m)
 |_,_,_=>[]
structure Nf{α:Type}(e:α) where
 v:α
 h:v=e
noncomputable abbrev nf{α:Type}(e:α)(t:Nf e:=by refine' ⟨_,?_⟩;rotate_left;dsimp[G,gi,inz,ap,sz,mp,il,fl,pj];rfl):α:=t.v
def k0(x:X):Obj:=M (u1 x.l0) (u3 (u4 u5) 0)
def k1(x:X)(a0:Str)(a1 a2 a3:Nat)(a4:Int)(a5 a6:Nat)(a7:Int)(a8:Nat):Obj:=M (u1 x.l1) (u9 (u4 [u11 a0 a1,u11 a0 a2,u11 x.a.b a3,u12 a4 0,u12 0 0,u12 0 0,u12 0 0,u12 0 0,u13 a5,u14 u15,u12 181 0,u13 a6,u8,u8,u8,u8,u12 a7 0,u12 a4 0,u11 x.a.b a8]))
def k2(x:X)(a0 a1:Nat)(a2:Str)(a3:Nat):Obj:=u0 (u1 x.l2) u2 u16 (u6 [u18 (u13 a0),u18 (u13 3),u18 (u13 a1),u19,u18 (u11 a2 a3),u19,u18 (u13 0)])
def k3(x:X)(a0:Str)(a1:Nat):Obj:=M (u1 x.l0) (u3 (u4 [u11 a0 a1]) 0)
def k4(x:X)(a0:Str)(a1:Stmt):Obj:=M u8 (u27 (u28 a0 a0 (f1 a1) (u29 (f2 a1)) (f6 a1) 0 u30 u8 u8 u8 u8 u2 u8 u8 0))
def k5(x:X)(a0:Str)(a1:Nat)(a2:Str)(a3 a4:Nat)(a5 a6:Int)(a7 a8 a9 a10 a11:Nat)(a12:Int)(a13:Nat):Obj:=M (u1 x.l1) (u9 (u4 [u11 a0 a1,u11 a2 a3,u11 x.a.b a4,u12 a5 0,u12 a6 0,u12 0 0,u12 0 0,u12 3 0,u13 a7,u14 u31,u12 181 0,u13 a8,u8,u13 a9,u13 a10,u13 a11,u12 a12 0,u12 a5 0,u11 x.a.b a13]))
def k6(x:X)(a0:Str)(a1:Stmt)(a2:Str)(a3 a4:Nat):Obj:=M (u1 x.l5) (u27 (u28 a0 a0 (f1 a1) (u29 (f2 a1)) (f6 a1) 3 u30 u8 u8 u8 (u11 a2 a3) u2 (u13 a4) u8 0))
def k7(x:X):Obj:=M (u1 x.l7) (u9 (u4 [u25 x.l8,u1 x.l9]))
def k8(x:X)(a0 a1:Nat)(a2:Int)(a3:Nat)(a4:Str)(a5 a6:Nat)(a7:Str)(a8 a9 a10 a11:Nat):Obj:=M (u1 x.l3) (u20 (u21 [E x x.a.s a0 (u11 x.a.e 198),E x x.a.u a1 (u12 a2 a3),E x a4 a5 (u13 a6),E x a7 a8 (u13 a9),E x x.a.f a10 u8]) a11)
def k9(x:X)(a0 a1:Nat):Obj:=M (u1 x.l14) (u9 (u4 [u11 x.a.w a0,u13 a1,u25 x.l15,u8]))
def k10(x:X)(a0:Nat):Obj:=M (u1 x.l16) (u9 (u4 [u13 a0,u13 a0,u13 a0]))
def k11(x:X)(a0:Nat):Obj:=M (u1 x.l7) (u9 (u4 [u25 x.l17,u13 a0]))
def k12(x:X)(a0:Nat):Obj:=M (u1 x.l0) (u3 (u4 [u13 a0]) 0)
def k13(x:X)(a0:Nat)(a1:Str)(a2 a3:Nat)(a4:Str)(a5 a6:Nat)(a7:Int)(a8:Nat)(a9:Str)(a10 a11 a12 a13:Nat):Obj:=M (u1 x.l3) (u20 (u21 [E x x.a.s a0 (u11 a1 a2),E x x.a.t a3 (u11 a4 a5),E x x.a.u a6 (u12 a7 a8),E x a9 a10 (u13 a11),E x x.a.v a12 (u13 a13)]) 5)
def k14(x:X)(a0:Int)(a1:Nat):Obj:=M u8 (u9 (u4 [u12 a0 0,u12 4 0,u13 a1]))
def k15(x:X)(a0:Str)(a1:Nat)(a2:Str)(a3:Nat):Obj:=M (u1 x.l0) (u3 (u4 [u11 a0 a1,u11 a2 a3]) 0)
def k16(x:X)(a0 a1:Str)(a2 a3:Stmt):Obj:=M u8 (u27 (u28 a0 a1 (f1 a2) (u29 (f2 a2)) (f6 a3) 0 u30 u8 u8 u8 u8 u2 u8 u8 0))
def k17(x:X)(a0 a1:Str)(a2 a3:Stmt)(a4:Str)(a5 a6:Nat):Obj:=M (u1 x.l5) (u27 (u28 a0 a1 (f1 a2) (u29 (f2 a2)) (f6 a3) 3 u30 u8 u8 u8 (u11 a4 a5) u2 (u13 a6) u8 0))
def k18(x:X)(a0:Str)(a1 a2 a3 a4 a5:Nat):Obj:=u0 (u1 x.l9) u2 (u32 (u33 a0 [u13 31] [u13 a1,u13 31,u1 x.l6,u1 x.l10,u1 x.l11,u1 x.l12] a2 a0 u31 u34 u5 u15 u35 u15)) (u6 [u18 (u13 a3),u19,u18 (u11 a0 a4),u18 (u11 a0 a5),u18 (u25 x.l13),u18 (u14 u31)])
def k19(x:X)(a0 a1:Int)(a2:Nat)(a3:Int)(a4:Nat)(a5:Int)(a6:Nat)(a7:Int)(a8:Nat)(a9:Int)(a10:Nat):Obj:=M u8 (u9 (u4 [u12 a0 0,u12 a1 0,u13 a2,u12 a3 0,u12 a1 0,u13 a4,u12 a5 0,u12 a1 0,u13 a6,u12 a7 0,u12 a1 0,u13 a8,u12 a9 0,u12 a1 0,u13 a10]))
def k20(x:X)(a0:Str)(a1:Nat)(a2:Str)(a3:Nat)(a4:Str)(a5:Nat):Obj:=M (u1 x.l0) (u3 (u4 [u11 a0 a1,u11 a2 a3,u11 a4 a5]) 0)
def k21(x:X)(a0:Str)(a1:Nat)(a2:Str)(a3 a4:Nat)(a5 a6:Int)(a7 a8 a9:Nat)(a10:Int)(a11:Nat):Obj:=M (u1 x.l1) (u9 (u4 [u11 a0 a1,u11 a2 a3,u11 x.a.b a4,u12 a5 0,u12 a6 0,u12 0 0,u12 0 0,u12 3 0,u13 a7,u14 u31,u12 181 0,u13 a8,u8,u8,u8,u13 a9,u12 a10 0,u12 a5 0,u11 x.a.b a11]))
def k22(x:X)(a0:Str)(a1:Nat)(a2:Str)(a3:Nat)(a4:Str)(a5:Nat)(a6:Str)(a7:Nat)(a8:Str)(a9:Nat):Obj:=M (u1 x.l0) (u3 (u4 [u11 a0 a1,u11 a2 a3,u11 a4 a5,u11 a6 a7,u11 a8 a9]) 0)
def k23(x:X)(a0:Str)(a1:Nat)(a2:Str)(a3:Nat)(a4:Str)(a5:Nat)(a6:Str)(a7:Nat):Obj:=M (u1 x.l0) (u3 (u4 [u11 a0 a1,u11 a2 a3,u11 a4 a5,u11 a6 a7]) 0)
def k24(x:X)(a0:Str)(a1 a2 a3 a4:Nat):Obj:=u0 (u1 x.l9) u2 (u32 (u33 a0 [u1 x.l12] [u13 a1,u1 x.l12] a2 a0 u31 u34 u5 u15 u35 u15)) (u6 [u19,u19,u18 (u11 a0 a3),u18 (u11 a0 a4),u18 (u25 x.l18),u18 (u14 u31)])
def k25(x:X)(a0 a1:Nat):Obj:=M (u1 x.l14) (u9 (u4 [u11 x.c.s a0,u13 a1,u25 x.l19,u25 x.l20]))
def k26(x:X)(a0:Stmt):Obj:=M u8 (u27 (u28 (f0 a0) (f0 a0) (f1 a0) (u29 (f2 a0)) (f6 a0) 0 u30 u8 u8 u8 u8 u2 u8 u8 0))
def k27(x:X)(a0:Stmt)(a1:Str)(a2 a3:Nat):Obj:=M (u1 x.l5) (u27 (u28 (f0 a0) (f0 a0) (f1 a0) (u29 (f2 a0)) (f6 a0) 3 u30 u8 u8 u8 (u11 a1 a2) u2 (u13 a3) u8 0))
def k28(x:X):Obj:=M (u1 x.l0) (u3 (u4 [u8]) 0)
def k29(x:X)(a0 a1:Str)(a2:Stmt)(a3:Nat)(a4:Str)(a5 a6:Nat):Obj:=M (u1 x.l5) (u27 (u28 a0 a1 (f1 a2) (u29 (f2 a2)) (f6 a2) 3 u30 (u13 a3) u8 u8 (u11 a4 a5) u2 (u13 a6) u8 0))
def k30(x:X)(a0:Str)(a1 a2 a3 a4 a5 a6:Nat):Obj:=u0 (u1 x.l9) u2 (u32 (u33 a0 [u13 a1] [u13 a2,u13 a1,u1 x.l12] a3 a0 u31 u34 u5 u15 u35 u15)) (u6 [u18 (u13 a4),u19,u18 (u11 a0 a5),u18 (u11 a0 a6),u18 (u25 x.l18),u18 (u14 u31)])
def k31(x:X)(a0:Str)(a1:Nat)(a2:Str)(a3:Nat)(a4:Str)(a5:Nat)(a6:Str)(a7:Nat)(a8:Str)(a9:Nat)(a10:Str)(a11:Nat):Obj:=M (u1 x.l0) (u3 (u4 [u11 a0 a1,u11 a2 a3,u11 a4 a5,u11 a6 a7,u11 a8 a9,u11 a10 a11]) 0)
def k32(x:X)(a0:Str)(a1:Nat)(a2:Str)(a3:Nat)(a4:Str)(a5:Nat)(a6:Str)(a7:Nat)(a8:Str)(a9:Nat)(a10:Str)(a11:Nat)(a12:Str)(a13:Nat):Obj:=M (u1 x.l0) (u3 (u4 [u11 a0 a1,u11 a2 a3,u11 a4 a5,u11 a6 a7,u11 a8 a9,u11 a10 a11,u11 a12 a13]) 0)
variable(x:X)
def o43:=k0 x
def o44(x:X):Obj:=M u8 (u9 (u4 u5))
def o45:=k1 x x.a.a 182 183 184 1 11 12 185 186
def o46:=k2 x 13 3 x.a.c 164
abbrev d0:List DictEntry:=[E x x.a.d 165 (u11 x.a.e 198),E x x.a.f 166 u8,E x x.a.g 167 u8,E x x.a.h 168 (u25 x.l4),E x x.a.i 169 u8,E x x.a.j 170 (u13 6),E x x.a.k 171 (u13 4),E x x.a.l 173 (u11 x.a.b 172),E x x.a.m 174 u8,E x x.a.n 193 (u13 21),E x x.a.o 195 (u12 18446744073709551615 194),E x x.a.p 197 (u12 40 196),E x x.a.q 217 (u13 31)]
def o49:=M (u1 x.l3) (u20 (u21 (d0 x)) 13)
abbrev d1(x:X):List Value:=[u12 1 0,u12 0 0,u13 20,u12 7 0,u12 0 0,u13 27]
def o50:=M u8 (u9 (u4 (d1 x)))
def o53:=k3 x x.a.r 190
def o55:=k4 x x.a.n (st x 0)
def o56:=k5 x x.a.n 187 x.a.n 188 189 1 1 15 16 17 18 19 191 192
def o57:=k6 x x.a.n (st x 0) x.a.c 164 20
def o58:=M (u1 x.l0) (u3 (u4 [u1 x.l6]) 0)
def o59:=k7 x
def o60:=M (u1 x.l3) (u20 (u21 [E x x.a.s 207 (u11 x.a.e 198),E x x.a.t 209 (u11 x.a.q 208),E x x.a.u 211 (u12 7 210),E x x.a.v 212 (u13 29)]) 4)
def o63:=k1 x x.a.q 202 203 204 7 25 26 205 206
def o64:=k2 x 27 24 x.a.e 198
def o66:=k8 x 207 211 7 210 x.a.v 212 29 x.a.w 214 32 215 3
abbrev d3:List Value:=[u13 31,u1 x.l6,u1 x.l10,u1 x.l11,u1 x.l12]
abbrev d4:List (Option Value):=[u18 (u13 22),u19,u18 (u11 x.a.q 200),u18 (u11 x.a.q 208),u18 (u25 x.l13),u18 (u14 u31)]
def o67:=u0 (u1 x.l9) u2 (u32 (u33 x.a.q [u1 x.l6] (d3 x) 30 x.a.q u31 u34 u5 u15 u35 u15)) (u6 (d4 x))
def o68:=k9 x 213 31
def o69:=k10 x 31
def o70:=k11 x 31
abbrev d5:List DictEntry:=nf (ap (d0 x) [E x x.a.x 242 (u13 51)])
def o71:=M (u1 x.l3) (u20 (u21 (d5 x)) 14)
abbrev d6:List Value:=nf (ap (d1 x) [u12 9 0,u12 0 0,u13 40])
def o72:=M u8 (u9 (u4 (d6 x)))
def o73:=u0 (u1 x.l9) u2 (u32 (u33 x.a.q [u1 x.l6] (d3 x) 30 x.a.q u31 u34 [u13 51] u15 u35 u15)) (u6 (d4 x))
def o74:=k12 x 31
def o76:=k13 x 225 x.a.e 198 227 x.a.x 226 229 9 228 x.a.y 237 48 239 49
def o78:=k14 x 11 47
def o79:=k1 x x.a.x 220 221 222 9 38 39 223 224
def o80:=k2 x 40 37 x.a.e 198
def o83:=k15 x x.b.a 233 x.b.b 234
def o85:=k16 x x.a.y x.b.c (sm x 5 0) (sm x 5 0)
def o86:=k5 x x.a.y 230 x.b.c 231 232 11 2 42 43 44 45 46 235 236
def o87:=k17 x x.a.y x.b.c (sm x 5 0) (sm x 5 0) x.a.e 198 47
def o88:=k3 x x.b.b 238
def o89:=k8 x 225 229 9 228 x.a.y 237 48 x.a.v 239 49 240 2
def o90:=k18 x x.a.x 51 50 35 218 226
def o91:=k10 x 51
def o92:=k11 x 51
abbrev d9:List DictEntry:=nf (ap (d5 x) [E x x.b.d 267 (u13 70)])
def o93:=M (u1 x.l3) (u20 (u21 (d9 x)) 15)
abbrev d10:List Value:=nf (ap (d6 x) [u12 13 0,u12 0 0,u13 59])
def o94:=M u8 (u9 (u4 (d10 x)))
def o95:=u0 (u1 x.l9) u2 (u32 (u33 x.a.q [u1 x.l6] (d3 x) 30 x.a.q u31 u34 [u13 51,u13 70] u15 u35 u15)) (u6 (d4 x))
def o98:=k13 x 250 x.a.e 198 252 x.b.d 251 254 13 253 x.a.y 262 67 264 68
def RY:=k14 x 15 66
def Nc:=k1 x x.b.d 245 246 247 13 57 58 248 249
def Ra:=k2 x 59 56 x.a.e 198
def NH:=k15 x x.b.a 258 x.b.e 259
def Ku:=k16 x x.a.y x.b.f (sm x 6 0) (sm x 6 0)
def Qn:=k5 x x.a.y 255 x.b.f 256 257 15 2 61 62 63 64 65 260 261
def KS:=k17 x x.a.y x.b.f (sm x 6 0) (sm x 6 0) x.a.e 198 66
def JW:=k3 x x.b.e 263
def Tn:=k8 x 250 254 13 253 x.a.y 262 67 x.a.v 264 68 265 2
def JV:=k18 x x.b.d 70 69 54 243 251
def MR:=k10 x 70
def Oi:=k11 x 70
abbrev d13:List DictEntry:=nf (ap (d9 x) [E x x.b.g 292 (u13 89)])
def VN:=M (u1 x.l3) (u20 (u21 (d13 x)) 16)
def Vx:=k19 x 1 0 20 7 27 9 40 13 59 17 78
def Wx:=u0 (u1 x.l9) u2 (u32 (u33 x.a.q [u1 x.l6] (d3 x) 30 x.a.q u31 u34 [u13 51,u13 70,u13 89] u15 u35 u15)) (u6 (d4 x))
def RH:=k13 x 275 x.a.e 198 277 x.b.g 276 279 17 278 x.a.y 287 86 289 87
def MJ:=k14 x 19 85
def Jf:=k1 x x.b.g 270 271 272 17 76 77 273 274
def MG:=k2 x 78 75 x.a.e 198
def KU:=k15 x x.b.a 283 x.b.h 284
def SY:=k16 x x.a.y x.b.i (sm x 7 0) (sm x 7 0)
def MK:=k5 x x.a.y 280 x.b.i 281 282 19 2 80 81 82 83 84 285 286
def Ng:=k17 x x.a.y x.b.i (sm x 7 0) (sm x 7 0) x.a.e 198 85
def Na:=k3 x x.b.h 288
def SV:=k8 x 275 279 17 278 x.a.y 287 86 x.a.v 289 87 290 2
def Nj:=k18 x x.b.g 89 88 73 268 276
def Pj:=k10 x 89
def KR:=k11 x 89
abbrev d16:List DictEntry:=nf (ap (d13 x) [E x x.b.j 317 (u13 108)])
def Vl:=M (u1 x.l3) (u20 (u21 (d16 x)) 17)
abbrev d17:List Value:=nf (ap (d10 x) [u12 17 0,u12 0 0,u13 78,u12 21 0,u12 0 0,u13 97])
def VM:=M u8 (u9 (u4 (d17 x)))
abbrev d19(x:X):List Value:=[u13 51,u13 70,u13 89,u13 108]
def VC:=u0 (u1 x.l9) u2 (u32 (u33 x.a.q [u1 x.l6] (d3 x) 30 x.a.q u31 u34 (d19 x) u15 u35 u15)) (u6 (d4 x))
def Kl:=k13 x 300 x.a.e 198 302 x.b.j 301 304 21 303 x.a.y 312 105 314 106
def JY:=k14 x 23 104
def Ox:=k1 x x.b.j 295 296 297 21 95 96 298 299
def P9:=k2 x 97 94 x.a.e 198
def Qm:=k15 x x.b.a 308 x.b.k 309
def Oh:=k16 x x.a.y x.b.l (sm x 8 0) (sm x 8 0)
def O1:=k5 x x.a.y 305 x.b.l 306 307 23 2 99 100 101 102 103 310 311
def NP:=k17 x x.a.y x.b.l (sm x 8 0) (sm x 8 0) x.a.e 198 104
def Qu:=k3 x x.b.k 313
def JZ:=k8 x 300 304 21 303 x.a.y 312 105 x.a.v 314 106 315 2
def Pe:=k18 x x.b.j 108 107 92 293 301
def Ti:=k10 x 108
def QD:=k11 x 108
abbrev d21:List DictEntry:=nf (ap (d16 x) [E x x.b.m 342 (u13 127)])
def VL:=M (u1 x.l3) (u20 (u21 (d21 x)) 18)
abbrev d22:List Value:=nf (ap (d17 x) [u12 25 0,u12 0 0,u13 116])
def Wd:=M u8 (u9 (u4 (d22 x)))
abbrev d24:List Value:=nf (ap (d19 x) [u13 127])
def W2:=u0 (u1 x.l9) u2 (u32 (u33 x.a.q [u1 x.l6] (d3 x) 30 x.a.q u31 u34 (d24 x) u15 u35 u15)) (u6 (d4 x))
def RT:=k13 x 325 x.a.e 198 327 x.b.m 326 329 25 328 x.a.y 337 124 339 125
def NV:=k14 x 27 123
def Oz:=k1 x x.b.m 320 321 322 25 114 115 323 324
def Lp:=k2 x 116 113 x.a.e 198
def Mx:=k15 x x.b.a 333 x.b.n 334
def Ju:=k16 x x.a.y x.b.o (sm x 9 0) (sm x 9 0)
def Js:=k5 x x.a.y 330 x.b.o 331 332 27 2 118 119 120 121 122 335 336
def Lq:=k17 x x.a.y x.b.o (sm x 9 0) (sm x 9 0) x.a.e 198 123
def Oc:=k3 x x.b.n 338
def Mc:=k8 x 325 329 25 328 x.a.y 337 124 x.a.v 339 125 340 2
def Ry:=k18 x x.b.m 127 126 111 318 326
def Lo:=k10 x 127
def KL:=k11 x 127
abbrev d26:List DictEntry:=nf (ap (d21 x) [E x x.b.p 369 (u13 146)])
def Vv:=M (u1 x.l3) (u20 (u21 (d26 x)) 19)
abbrev d27:List Value:=nf (ap (d22 x) [u12 29 0,u12 0 0,u13 135])
def V0:=M u8 (u9 (u4 (d27 x)))
abbrev d29:List Value:=nf (ap (d24 x) [u13 146])
def WK:=u0 (u1 x.l9) u2 (u32 (u33 x.a.q [u1 x.l6] (d3 x) 30 x.a.q u31 u34 (d29 x) u15 u35 u15)) (u6 (d4 x))
def Qx:=k13 x 350 x.a.e 198 352 x.b.p 351 354 29 353 x.a.y 363 143 366 144
def K9:=k14 x 31 142
def JL:=k1 x x.b.p 345 346 347 29 133 134 348 349
def Ln:=k2 x 135 132 x.a.e 198
def Lj:=k20 x x.b.a 358 x.b.q 359 x.b.n 360
def Jy:=k16 x x.a.y x.b.r (sm x 10 0) (sm x 10 0)
def OT:=k5 x x.a.y 355 x.b.r 356 357 31 3 137 138 139 140 141 361 362
def Py:=k17 x x.a.y x.b.r (sm x 10 0) (sm x 10 0) x.a.e 198 142
def Nq:=k15 x x.b.q 364 x.b.n 365
def Lg:=k8 x 350 354 29 353 x.a.y 363 143 x.a.v 366 144 367 2
def LR:=k18 x x.b.p 146 145 130 343 351
def NC:=k10 x 146
def Np:=k11 x 146
abbrev d31:List DictEntry:=nf (ap (d26 x) [E x x.b.s 394 (u13 165)])
def VT:=M (u1 x.l3) (u20 (u21 (d31 x)) 20)
abbrev d32:List Value:=nf (ap (d27 x) [u12 34 0,u12 0 0,u13 154])
def Ws:=M u8 (u9 (u4 (d32 x)))
abbrev d34:List Value:=nf (ap (d29 x) [u13 165])
def VE:=u0 (u1 x.l9) u2 (u32 (u33 x.a.q [u1 x.l6] (d3 x) 30 x.a.q u31 u34 (d34 x) u15 u35 u15)) (u6 (d4 x))
def Kv:=k13 x 377 x.a.e 198 379 x.b.s 378 381 34 380 x.a.y 389 162 391 163
def OC:=k14 x 36 161
def Rp:=k1 x x.b.s 372 373 374 34 152 153 375 376
def Jq:=k2 x 154 151 x.a.e 198
def Rf:=k15 x x.b.a 385 x.b.t 386
def NW:=k16 x x.a.y x.b.u (sm x 11 0) (sm x 11 0)
def Oj:=k5 x x.a.y 382 x.b.u 383 384 36 2 156 157 158 159 160 387 388
def O5:=k17 x x.a.y x.b.u (sm x 11 0) (sm x 11 0) x.a.e 198 161
def R0:=k3 x x.b.t 390
def Qv:=k8 x 377 381 34 380 x.a.y 389 162 x.a.v 391 163 392 2
def Kr:=k18 x x.b.s 165 164 149 370 378
def JP:=k10 x 165
def PY:=k11 x 165
abbrev d36:List DictEntry:=nf (ap (sz (d31 x) 0 (E x x.a.d 165 (u11 x.b.v 420))) [E x x.b.w 419 (u13 184)])
def WA:=M (u1 x.l3) (u20 (u21 (d36 x)) 21)
abbrev d37:List Value:=nf (ap (d32 x) [u12 38 0,u12 0 0,u13 173])
def Wn:=M u8 (u9 (u4 (d37 x)))
def Mt:=u0 (u1 x.l9) u2 (u32 (u33 x.a.q [u1 x.l6] (d3 x) 30 x.a.q u31 u34 ((nf (ap (d34 x) [u13 184]))) u15 u35 u15)) (u6 (d4 x))
def SN:=k13 x 402 x.a.e 198 404 x.b.w 403 406 38 405 x.a.y 414 181 416 182
def QF:=k14 x 40 180
def Sq:=k1 x x.b.w 397 398 399 38 171 172 400 401
def OY:=k2 x 173 170 x.a.e 198
def SW:=k15 x x.b.a 410 x.b.x 411
def O6:=k16 x x.a.y x.b.y (sm x 12 0) (sm x 12 0)
def S9:=k5 x x.a.y 407 x.b.y 408 409 40 2 175 176 177 178 179 412 413
def MN:=k17 x x.a.y x.b.y (sm x 12 0) (sm x 12 0) x.a.e 198 180
def Sh:=k3 x x.b.x 415
def NG:=k8 x 402 406 38 405 x.a.y 414 181 x.a.v 416 182 417 2
def To:=k18 x x.b.w 184 183 168 395 403
def KA:=k10 x 184
def Ow:=k11 x 184
abbrev d41:List DictEntry:=nf (ap (d36 x) [E x x.c.a 495 (u13 236)])
def UW:=M (u1 x.l3) (u20 (u21 (d41 x)) 22)
abbrev d42:List Value:=nf (ap (d37 x) [u12 43 0,u12 0 0,u13 192])
def WV:=M u8 (u9 (u4 (d42 x)))
def RX:=M (u1 x.l3) (u20 (u21 [E x x.a.s 429 (u11 x.b.v 420),E x x.a.t 431 (u11 x.c.a 430),E x x.a.u 433 (u12 43 432),E x x.a.y 441 (u13 200),E x x.c.b 447 (u13 205),E x x.c.c 455 (u13 212),E x x.c.d 466 (u13 219),E x x.c.e 475 (u13 226),E x x.c.f 483 (u13 233),E x x.a.v 488 (u13 234)]) 10)
def Qt(x:X):Obj:=M u8 (u9 (u4 [u12 45 0,u12 4 0,u13 199,u12 52 0,u12 4 0,u13 204,u12 63 0,u12 4 0,u13 211,u12 67 0,u12 4 0,u13 218,u12 75 0,u12 4 0,u13 225,u12 81 0,u12 4 0,u13 232]))
def SR:=k1 x x.c.a 424 425 426 43 190 191 427 428
def Ss:=k2 x 192 189 x.b.v 420
def KH:=k15 x x.b.a 437 x.b.e 438
def RZ:=k16 x x.a.y x.c.g (sm x 14 0) (sm x 14 0)
def Nb:=k5 x x.a.y 434 x.c.g 435 436 45 2 194 195 196 197 198 439 440
def OJ:=k17 x x.a.y x.c.g (sm x 14 0) (sm x 14 0) x.b.v 420 199
def P8:=k16 x x.c.b x.c.h (sm x 14 1) (sm x 14 1)
def NJ:=k21 x x.c.b 442 x.c.h 443 444 52 2 201 202 203 445 446
def JD:=k17 x x.c.b x.c.h (sm x 14 1) (sm x 14 1) x.b.v 420 204
def OI:=k15 x x.b.a 451 x.b.n 452
def Kc:=k16 x x.c.c x.c.i (sm x 14 2) (sm x 14 2)
def MT:=k5 x x.c.c 448 x.c.i 449 450 63 2 206 207 208 209 210 453 454
def Lc:=k17 x x.c.c x.c.i (sm x 14 2) (sm x 14 2) x.b.v 420 211
def Mg:=k22 x x.b.a 459 x.c.j 460 x.c.k 461 x.c.l 462 x.b.n 463
def Mw:=k16 x x.c.d x.c.m (sm x 14 3) (sm x 14 3)
def Ob:=k5 x x.c.d 456 x.c.m 457 458 67 3 213 214 215 216 217 464 465
def Qi:=k17 x x.c.d x.c.m (sm x 14 3) (sm x 14 3) x.b.v 420 218
def R8:=k20 x x.b.a 470 x.b.h 471 x.b.k 472
def Tp:=k16 x x.c.e x.c.n (sm x 14 4) (sm x 14 4)
def Me:=k5 x x.c.e 467 x.c.n 468 469 75 3 220 221 222 223 224 473 474
def L8:=k17 x x.c.e x.c.n (sm x 14 4) (sm x 14 4) x.b.v 420 225
def Jk:=k15 x x.b.a 479 x.b.n 480
def LI:=k16 x x.c.f x.c.o (sm x 14 5) (sm x 14 5)
def Rg:=k5 x x.c.f 476 x.c.o 477 478 81 2 227 228 229 230 231 481 482
def Rw:=k17 x x.c.f x.c.o (sm x 14 5) (sm x 14 5) x.b.v 420 232
def SI:=k23 x x.c.p 484 x.c.q 485 x.c.r 486 x.b.e 487
def L7:=M (u1 x.l3) (u20 (u21 [E x x.a.s 429 (u11 x.b.v 420),E x x.a.u 433 (u12 43 432),E x x.a.y 441 (u13 200),E x x.c.b 447 (u13 205),E x x.c.c 455 (u13 212),E x x.c.d 466 (u13 219),E x x.c.e 475 (u13 226),E x x.c.f 483 (u13 233),E x x.a.v 488 (u13 234),E x x.c.s 490 (u13 237),E x x.a.w 492 (u13 238),E x x.a.f 493 u8]) 4)
def Mm:=k24 x x.c.a 236 235 422 430
def IY:=k25 x 489 236
def QW:=k9 x 491 236
def Ri:=k10 x 236
def Ro:=k11 x 236
abbrev d46:List DictEntry:=nf (ap (sz (d41 x) 0 (E x x.a.d 165 (u11 x.c.t 503))) [E x x.c.u 502 (u13 247)])
def VQ:=M (u1 x.l3) (u20 (u21 (d46 x)) 23)
abbrev d47:List Value:=nf (ap (d42 x) [u12 84 0,u12 0 0,u13 246])
def Vn:=M u8 (u9 (u4 (d47 x)))
def RB:=k3 x x.b.e 499
def Sk:=k4 x x.c.u (st x 15)
def MB:=k5 x x.c.u 496 x.c.u 497 498 84 1 241 242 243 244 245 500 501
def OO:=k6 x x.c.u (st x 15) x.b.v 420 246
abbrev d48:List DictEntry:=nf (ap (d46 x) [E x x.c.v 595 (u13 318)])
def Vz:=M (u1 x.l3) (u20 (u21 (d48 x)) 24)
abbrev d49:List Value:=nf (ap (d47 x) [u12 88 0,u12 0 0,u13 253])
def WZ:=M u8 (u9 (u4 (d49 x)))
def Mh:=M (u1 x.l3) (u20 (u21 [E x x.a.s 512 (u11 x.c.t 503),E x x.a.t 514 (u11 x.c.v 513),E x x.a.u 516 (u12 88 515),E x x.a.y 523 (u13 261),E x x.c.w 532 (u13 268),E x x.c.x 541 (u13 275),E x x.c.y 549 (u13 282),E x x.d.a 558 (u13 289),E x x.d.b 565 (u13 296),E x x.d.c 572 (u13 303),E x x.d.d 579 (u13 310),E x x.d.e 585 (u13 315),E x x.a.v 588 (u13 316)]) 13)
def So(x:X):Obj:=M u8 (u9 (u4 [u12 90 0,u12 4 0,u13 260,u12 94 0,u12 4 0,u13 267,u12 99 0,u12 4 0,u13 274,u12 103 0,u12 4 0,u13 281,u12 108 0,u12 4 0,u13 288,u12 113 0,u12 4 0,u13 295,u12 116 0,u12 4 0,u13 302,u12 119 0,u12 4 0,u13 309,u12 122 0,u12 4 0,u13 314]))
def MS:=k1 x x.c.v 507 508 509 88 251 252 510 511
def JT:=k2 x 253 250 x.c.t 503
def S2:=k3 x x.b.a 520
def Qo:=k16 x x.a.y x.d.f (sm x 17 0) (sm x 17 0)
def Ma:=k5 x x.a.y 517 x.d.f 518 519 90 1 255 256 257 258 259 521 522
def NO:=k17 x x.a.y x.d.f (sm x 17 0) (sm x 17 0) x.c.t 503 260
def O2:=k20 x x.b.a 527 x.c.y 528 x.b.t 529
def Pw:=k16 x x.c.w x.d.g (sm x 17 1) (sm x 17 1)
def OB:=k5 x x.c.w 524 x.d.g 525 526 94 2 262 263 264 265 266 530 531
def QZ:=k17 x x.c.w x.d.g (sm x 17 1) (sm x 17 1) x.c.t 503 267
def Nt:=k20 x x.b.a 536 x.b.t 537 x.c.y 538
def Rl:=k16 x x.c.x x.d.h (sm x 17 2) (sm x 17 2)
def LF:=k5 x x.c.x 533 x.d.h 534 535 99 3 269 270 271 272 273 539 540
def O3:=k17 x x.c.x x.d.h (sm x 17 2) (sm x 17 2) x.c.t 503 274
def Pp:=k15 x x.b.a 545 x.b.t 546
def OU:=k16 x x.c.y x.d.i (sm x 17 3) (sm x 17 3)
def Qj:=k5 x x.c.y 542 x.d.i 543 544 103 2 276 277 278 279 280 547 548
def Qg:=k17 x x.c.y x.d.i (sm x 17 3) (sm x 17 3) x.c.t 503 281
def KD:=k20 x x.b.a 553 x.b.t 554 x.c.y 555
def QH:=k16 x x.d.a x.d.j (sm x 17 4) (sm x 17 4)
def Si:=k5 x x.d.a 550 x.d.j 551 552 108 2 283 284 285 286 287 556 557
def JX:=k17 x x.d.a x.d.j (sm x 17 4) (sm x 17 4) x.c.t 503 288
def Qd:=k3 x x.b.a 562
def R7:=k16 x x.d.b x.d.k (sm x 17 5) (sm x 17 5)
def Ko:=k5 x x.d.b 559 x.d.k 560 561 113 1 290 291 292 293 294 563 564
def NX:=k17 x x.d.b x.d.k (sm x 17 5) (sm x 17 5) x.c.t 503 295
def Td:=k3 x x.b.a 569
def Oq:=k16 x x.d.c x.d.l (sm x 17 6) (sm x 17 0)
def PU:=k5 x x.d.c 566 x.d.l 567 568 116 1 297 298 299 300 301 570 571
def Lu:=k17 x x.d.c x.d.l (sm x 17 6) (sm x 17 0) x.c.t 503 302
def PB:=k3 x x.b.a 576
def Mz:=k16 x x.d.d x.d.m (sm x 17 7) (sm x 17 7)
def Po:=k5 x x.d.d 573 x.d.m 574 575 119 1 304 305 306 307 308 577 578
def QE:=k17 x x.d.d x.d.m (sm x 17 7) (sm x 17 7) x.c.t 503 309
def LS:=k16 x x.d.e x.d.n (sm x 17 8) (sm x 17 8)
def S6:=k21 x x.d.e 580 x.d.n 581 582 122 1 311 312 313 583 584
def SM:=k17 x x.d.e x.d.n (sm x 17 8) (sm x 17 8) x.c.t 503 314
def Qe:=k15 x x.d.o 586 x.d.p 587
def Ls:=M (u1 x.l3) (u20 (u21 [E x x.a.s 512 (u11 x.c.t 503),E x x.a.u 516 (u12 88 515),E x x.a.y 523 (u13 261),E x x.c.w 532 (u13 268),E x x.c.x 541 (u13 275),E x x.c.y 549 (u13 282),E x x.d.a 558 (u13 289),E x x.d.b 565 (u13 296),E x x.d.c 572 (u13 303),E x x.d.d 579 (u13 310),E x x.d.e 585 (u13 315),E x x.a.v 588 (u13 316),E x x.c.s 590 (u13 319),E x x.a.w 592 (u13 320),E x x.a.f 593 u8]) 4)
def Ks:=k24 x x.c.v 318 317 505 513
def Nk:=k25 x 589 318
def ML:=k9 x 591 318
def Mn:=k10 x 318
def P7:=k11 x 318
abbrev d53:List DictEntry:=nf (ap (sz (d48 x) 0 (E x x.a.d 165 (u11 x.d.q 655))) [E x x.d.r 605 (u13 330),E x x.d.s 620 (u13 337),E x x.d.t 631 (u13 344),E x x.d.u 640 (u13 351),E x x.d.v 654 (u13 358)])
def Vw:=M (u1 x.l3) (u20 (u21 (d53 x)) 29)
abbrev d54:List Value:=nf (ap (d49 x) [u12 126 0,u12 0 0,u13 329,u12 128 0,u12 0 0,u13 336,u12 142 0,u12 0 0,u13 343,u12 150 0,u12 0 0,u13 350,u12 152 0,u12 0 0,u13 357])
def Vu:=M u8 (u9 (u4 (d54 x)))
def Mf:=M (u1 x.l0) (u3 (u4 [u14 u15]) 0)
def Jc:=k15 x x.b.x 601 x.d.w 602
def Oe:=k4 x x.d.r (st x 19)
def Rh:=k5 x x.d.r 598 x.d.r 599 600 126 2 324 325 326 327 328 603 604
def Ou:=M (u1 x.l5) (u27 (u28 x.d.r x.d.r (f1 (st x 19)) (u29 (f2 (st x 19))) (f6 (st x 19)) 3 u30 (u13 323) u8 u8 (u11 x.d.x 596) u2 (u13 329) u8 0))
def RW:=M (u1 x.l0) (u3 (u4 [u11 x.b.x 609,u11 x.d.w 610,u11 x.d.y 611,u11 x.c.p 612,u11 x.e.a 613,u11 x.e.b 614,u11 x.e.c 615,u11 x.b.t 616,u11 x.b.n 617]) 0)
def QJ:=k26 x (st x 20)
def Tc:=k5 x x.d.s 606 x.d.s 607 608 128 2 331 332 333 334 335 618 619
def Rz:=k27 x (st x 20) x.d.x 596 336
def Nl:=k22 x x.b.x 624 x.d.w 625 x.d.y 626 x.b.t 627 x.c.y 628
def Nu:=k26 x (st x 21)
def Kh:=k5 x x.d.t 621 x.d.t 622 623 142 2 338 339 340 341 342 629 630
def Jd:=k27 x (st x 21) x.d.x 596 343
def QY:=k3 x x.b.t 637
def Mb:=k4 x x.d.u (st x 23)
def NB:=k5 x x.d.u 634 x.d.u 635 636 150 1 345 346 347 348 349 638 639
def KI:=k6 x x.d.u (st x 23) x.e.d 632 350
def Og:=M (u1 x.l0) (u3 (u4 [u11 x.e.c 644,u11 x.b.n 645,u11 x.e.e 646,u11 x.d.b 647,u11 x.b.h 648,u11 x.b.k 649,u11 x.e.f 650,u11 x.b.t 651]) 0)
def Qh:=k4 x x.d.v (st x 24)
def RK:=k5 x x.d.v 641 x.d.v 642 643 152 3 352 353 354 355 356 652 653
def Rt:=k6 x x.d.v (st x 24) x.e.d 632 357
abbrev d57:List DictEntry:=nf (ap (d53 x) [E x x.e.g 711 (u13 394)])
def Wa:=M (u1 x.l3) (u20 (u21 (d57 x)) 30)
abbrev d58:List Value:=nf (ap (d54 x) [u12 161 0,u12 0 0,u13 364])
def Vg:=M u8 (u9 (u4 (d58 x)))
def Li:=M (u1 x.l3) (u20 (u21 [E x x.a.s 664 (u11 x.d.q 655),E x x.a.t 666 (u11 x.e.g 665),E x x.a.u 668 (u12 161 667),E x x.a.y 674 (u13 370),E x x.e.h 681 (u13 377),E x x.e.i 688 (u13 384),E x x.e.j 699 (u13 391),E x x.a.v 704 (u13 392)]) 8)
def OZ(x:X):Obj:=M u8 (u9 (u4 [u12 163 0,u12 4 0,u13 369,u12 170 0,u12 4 0,u13 376,u12 173 0,u12 4 0,u13 383,u12 176 0,u12 4 0,u13 390]))
def Rb:=k1 x x.e.g 659 660 661 161 362 363 662 663
def ON:=k2 x 364 361 x.d.q 655
def SH:=k16 x x.a.y x.e.k (sm x 26 0) (sm x 26 0)
def Jp:=k21 x x.a.y 669 x.e.k 670 671 163 5 366 367 368 672 673
def Ll:=k17 x x.a.y x.e.k (sm x 26 0) (sm x 26 0) x.d.q 655 369
def KJ:=k3 x x.b.a 678
def Ka:=k16 x x.e.h x.e.l (sm x 26 1) (sm x 26 1)
def JE:=k5 x x.e.h 675 x.e.l 676 677 170 1 371 372 373 374 375 679 680
def QM:=k17 x x.e.h x.e.l (sm x 26 1) (sm x 26 1) x.d.q 655 376
def OG:=k3 x x.b.a 685
def Qf:=k16 x x.e.i x.e.m (sm x 26 2) (sm x 17 0)
def OA:=k5 x x.e.i 682 x.e.m 683 684 173 1 378 379 380 381 382 686 687
def L6:=k17 x x.e.i x.e.m (sm x 26 2) (sm x 17 0) x.d.q 655 383
def K6:=k22 x x.b.a 692 x.e.n 693 x.e.o 694 x.e.e 695 x.e.p 696
def LD:=k16 x x.e.j x.e.q (sm x 26 3) (sm x 26 3)
def Lk:=k5 x x.e.j 689 x.e.q 690 691 176 3 385 386 387 388 389 697 698
def Pg:=k17 x x.e.j x.e.q (sm x 26 3) (sm x 26 3) x.d.q 655 390
def O0:=k23 x x.e.f 700 x.b.n 701 x.e.r 702 x.e.e 703
def Jr:=M (u1 x.l3) (u20 (u21 [E x x.a.s 664 (u11 x.d.q 655),E x x.a.u 668 (u12 161 667),E x x.a.y 674 (u13 370),E x x.e.h 681 (u13 377),E x x.e.i 688 (u13 384),E x x.e.j 699 (u13 391),E x x.a.v 704 (u13 392),E x x.c.s 706 (u13 395),E x x.a.w 708 (u13 396),E x x.a.f 709 u8]) 4)
def Vi:=k24 x x.e.g 394 393 657 665
def OQ:=k25 x 705 394
def QT:=k9 x 707 394
def Ql:=k10 x 394
def RG:=k11 x 394
abbrev d62:List DictEntry:=nf (ap (d57 x) [E x x.e.s 767 (u13 444)])
def VH:=M (u1 x.l3) (u20 (u21 (d62 x)) 31)
abbrev d63:List Value:=nf (ap (d58 x) [u12 183 0,u12 0 0,u13 404])
def V2:=M u8 (u9 (u4 (d63 x)))
abbrev d64:List (Option Value):=[u19,u19,u18 (u11 x.e.g 657),u18 (u11 x.e.g 665),u18 (u25 x.l18),u18 (u14 u31)]
def WN:=u0 (u1 x.l9) u2 (u32 (u33 x.e.g [u1 x.l12] [u13 394,u1 x.l12] 393 x.e.g u31 u34 [u13 444] u15 u35 u15)) (u6 (d64 x))
def DV:=k12 x 394
def IZ:=M (u1 x.l3) (u20 (u21 [E x x.a.s 719 (u11 x.d.q 655),E x x.a.t 721 (u11 x.e.s 720),E x x.a.u 723 (u12 183 722),E x x.a.y 733 (u13 413),E x x.e.c 740 (u13 420),E x x.e.t 747 (u13 427),E x x.e.u 755 (u13 434),E x x.e.v 763 (u13 441),E x x.a.v 764 (u13 442)]) 9)
def OW:=k19 x 185 4 412 188 419 191 426 194 433 197 440
def Jm:=k1 x x.e.s 714 715 716 183 402 403 717 718
def Of:=k2 x 404 401 x.d.q 655
def sZ:=k28 x
def SO:=k23 x x.b.a 727 x.b.n 728 x.e.e 729 x.e.f 730
def Nh:=k16 x x.a.y x.e.w (sm x 27 0) (sm x 27 0)
def Sw:=k5 x x.a.y 724 x.e.w 725 726 185 4 407 408 409 410 411 731 732
def Ld:=k29 x x.a.y x.e.w (sm x 27 0) 406 x.d.q 655 412
def Nv:=k3 x x.b.a 737
def Ov:=k16 x x.e.c x.e.x (sm x 27 1) (sm x 17 0)
def JF:=k5 x x.e.c 734 x.e.x 735 736 188 1 414 415 416 417 418 738 739
def Om:=k17 x x.e.c x.e.x (sm x 27 1) (sm x 17 0) x.d.q 655 419
def Sn:=k3 x x.b.a 744
def Je:=k16 x x.e.t x.e.y (sm x 27 2) (sm x 17 0)
def PL:=k5 x x.e.t 741 x.e.y 742 743 191 1 421 422 423 424 425 745 746
def LJ:=k17 x x.e.t x.e.y (sm x 27 2) (sm x 17 0) x.d.q 655 426
def OP:=k15 x x.b.a 751 x.c.c 752
def Ru:=k16 x x.e.u x.f.a (sm x 27 3) (sm x 27 3)
def Rq:=k5 x x.e.u 748 x.f.a 749 750 194 2 428 429 430 431 432 753 754
def Ml:=k17 x x.e.u x.f.a (sm x 27 3) (sm x 27 3) x.d.q 655 433
def Ny:=k15 x x.b.a 759 x.e.e 760
def LK:=k16 x x.e.v x.f.b (sm x 27 4) (sm x 27 4)
def RO:=k5 x x.e.v 756 x.f.b 757 758 197 2 435 436 437 438 439 761 762
def OF:=k17 x x.e.v x.f.b (sm x 27 4) (sm x 27 4) x.d.q 655 440
def Jv:=M (u1 x.l3) (u20 (u21 [E x x.a.s 719 (u11 x.d.q 655),E x x.a.u 723 (u12 183 722),E x x.a.y 733 (u13 413),E x x.e.c 740 (u13 420),E x x.e.t 747 (u13 427),E x x.e.u 755 (u13 434),E x x.e.v 763 (u13 441),E x x.a.v 764 (u13 442),E x x.a.f 765 u8]) 2)
def Qz:=k30 x x.e.s 394 444 443 399 712 720
def RN:=k10 x 444
def Kg:=k11 x 444
abbrev d67:List DictEntry:=nf (ap (d62 x) [E x x.f.c 825 (u13 492)])
def UU:=M (u1 x.l3) (u20 (u21 (d67 x)) 32)
abbrev d68:List Value:=nf (ap (d63 x) [u12 199 0,u12 0 0,u13 452])
def WL:=M u8 (u9 (u4 (d68 x)))
def LL:=u0 (u1 x.l9) u2 (u32 (u33 x.e.g [u1 x.l12] [u13 394,u1 x.l12] 393 x.e.g u31 u34 [u13 444,u13 492] u15 u35 u15)) (u6 (d64 x))
def Kq:=M (u1 x.l3) (u20 (u21 [E x x.a.s 775 (u11 x.d.q 655),E x x.a.t 777 (u11 x.f.c 776),E x x.a.u 779 (u12 199 778),E x x.a.y 790 (u13 461),E x x.e.c 797 (u13 468),E x x.e.t 804 (u13 475),E x x.e.u 812 (u13 482),E x x.e.v 820 (u13 489),E x x.a.v 822 (u13 490)]) 9)
def JA:=k19 x 201 4 460 205 467 208 474 211 481 214 488
def P0:=k1 x x.f.c 770 771 772 199 450 451 773 774
def OV:=k2 x 452 449 x.d.q 655
def JK:=k22 x x.b.a 783 x.b.q 784 x.b.n 785 x.e.e 786 x.e.f 787
def OM:=k16 x x.a.y x.f.d (sm x 28 0) (sm x 28 0)
def OE:=k5 x x.a.y 780 x.f.d 781 782 201 5 455 456 457 458 459 788 789
def Nn:=k29 x x.a.y x.f.d (sm x 28 0) 454 x.d.q 655 460
def SK:=k3 x x.b.a 794
def MY:=k16 x x.e.c x.f.e (sm x 28 1) (sm x 17 0)
def Nr:=k5 x x.e.c 791 x.f.e 792 793 205 1 462 463 464 465 466 795 796
def Th:=k17 x x.e.c x.f.e (sm x 28 1) (sm x 17 0) x.d.q 655 467
def JG:=k3 x x.b.a 801
def Ol:=k16 x x.e.t x.f.f (sm x 28 2) (sm x 17 0)
def L5:=k5 x x.e.t 798 x.f.f 799 800 208 1 469 470 471 472 473 802 803
def QG:=k17 x x.e.t x.f.f (sm x 28 2) (sm x 17 0) x.d.q 655 474
def SD:=k15 x x.b.a 808 x.c.c 809
def R9:=k16 x x.e.u x.f.g (sm x 28 3) (sm x 27 3)
def Sx:=k5 x x.e.u 805 x.f.g 806 807 211 2 476 477 478 479 480 810 811
def Ky:=k17 x x.e.u x.f.g (sm x 28 3) (sm x 27 3) x.d.q 655 481
def Jo:=k15 x x.b.a 816 x.e.e 817
def QB:=k16 x x.e.v x.f.h (sm x 28 4) (sm x 28 4)
def QK:=k5 x x.e.v 813 x.f.h 814 815 214 2 483 484 485 486 487 818 819
def Kz:=k17 x x.e.v x.f.h (sm x 28 4) (sm x 28 4) x.d.q 655 488
def Rv:=k3 x x.b.q 821
def JU:=M (u1 x.l3) (u20 (u21 [E x x.a.s 775 (u11 x.d.q 655),E x x.a.u 779 (u12 199 778),E x x.a.y 790 (u13 461),E x x.e.c 797 (u13 468),E x x.e.t 804 (u13 475),E x x.e.u 812 (u13 482),E x x.e.v 820 (u13 489),E x x.a.v 822 (u13 490),E x x.a.f 823 u8]) 2)
def Rn:=k30 x x.f.c 394 492 491 447 768 776
def MM:=k10 x 492
def QO:=k11 x 492
abbrev d72:List DictEntry:=nf (ap (sz (d67 x) 0 (E x x.a.d 165 (u11 x.f.i 840))) [E x x.f.j 833 (u13 501),E x x.f.k 839 (u13 506),E x x.f.l 869 (u13 523)])
def Vf:=M (u1 x.l3) (u20 (u21 (d72 x)) 35)
abbrev d73:List Value:=nf (ap (d68 x) [u12 216 0,u12 0 0,u13 500,u12 218 0,u12 0 0,u13 505,u12 225 0,u12 0 0,u13 512])
def WR:=M u8 (u9 (u4 (d73 x)))
def Lm:=k15 x x.f.m 829 x.b.n 830
def QL:=k4 x x.f.j (st x 29)
def QV:=k5 x x.f.j 826 x.f.j 827 828 216 2 495 496 497 498 499 831 832
def KG:=k6 x x.f.j (st x 29) x.d.q 655 500
def Kd:=k4 x x.f.k (st x 30)
def OX:=k21 x x.f.k 834 x.f.k 835 836 218 3 502 503 504 837 838
def Nz:=k6 x x.f.k (st x 30) x.d.q 655 505
def MC:=k13 x 849 x.f.i 840 851 x.f.l 850 853 225 852 x.f.n 861 520 862 521
def Jl:=k14 x 227 519
def QU:=k1 x x.f.l 844 845 846 225 510 511 847 848
def Rx:=k2 x 512 509 x.f.i 840
def SQ:=k15 x x.b.a 857 x.f.m 858
def QI:=k16 x x.f.n x.f.o (sm x 32 0) (sm x 32 0)
def PJ:=k5 x x.f.n 854 x.f.o 855 856 227 2 514 515 516 517 518 859 860
def Pq:=k17 x x.f.n x.f.o (sm x 32 0) (sm x 32 0) x.f.i 840 519
def SG:=M (u1 x.l3) (u20 (u21 [E x x.a.s 849 (u11 x.f.i 840),E x x.a.u 853 (u12 225 852),E x x.f.n 861 (u13 520),E x x.a.v 862 (u13 521),E x x.c.s 864 (u13 524),E x x.a.w 866 (u13 525),E x x.a.f 867 u8]) 4)
def WX:=k24 x x.f.l 523 522 842 850
def MZ:=k25 x 863 523
def S7:=k9 x 865 523
def Ms:=k10 x 523
def PV:=k11 x 523
abbrev d75:List DictEntry:=nf (ap (sz (d72 x) 0 (E x x.a.d 165 (u11 x.f.p 903))) [E x x.f.q 902 (u13 551)])
def LY:=M (u1 x.l3) (u20 (u21 (d75 x)) 36)
abbrev d76:List Value:=nf (ap (d73 x) [u12 229 0,u12 0 0,u13 533])
def W6:=M u8 (u9 (u4 (d76 x)))
def Jb:=u0 (u1 x.l9) u2 (u32 (u33 x.f.l [u1 x.l12] [u13 523,u1 x.l12] 522 x.f.l u31 u34 [u13 551] u15 u35 u15)) (u6 ((nf (sz (sz (d64 x) 2 (u18 (u11 x.f.l 842))) 3 (u18 (u11 x.f.l 850))))))
def MH:=k12 x 523
def S3:=M (u1 x.l3) (u20 (u21 [E x x.a.s 877 (u11 x.f.i 840),E x x.a.t 879 (u11 x.f.q 878),E x x.a.u 881 (u12 229 880),E x x.a.y 889 (u13 541),E x x.f.n 897 (u13 548),E x x.a.v 899 (u13 549)]) 6)
def RS(x:X):Obj:=M u8 (u9 (u4 [u12 231 0,u12 4 0,u13 540,u12 234 0,u12 4 0,u13 547]))
def QC:=k1 x x.f.q 872 873 874 229 531 532 875 876
def ME:=k2 x 533 530 x.f.i 840
def NY:=k15 x x.b.a 885 x.f.r 886
def Sg:=k16 x x.a.y x.f.s (sm x 33 0) (sm x 33 0)
def KO:=k5 x x.a.y 882 x.f.s 883 884 231 2 535 536 537 538 539 887 888
def S4:=k17 x x.a.y x.f.s (sm x 33 0) (sm x 33 0) x.f.i 840 540
def O4:=k15 x x.b.a 893 x.f.m 894
def Sf:=k16 x x.f.n x.f.t (sm x 33 1) (sm x 32 0)
def JI:=k5 x x.f.n 890 x.f.t 891 892 234 2 542 543 544 545 546 895 896
def Mr:=k17 x x.f.n x.f.t (sm x 33 1) (sm x 32 0) x.f.i 840 547
def Rj:=k3 x x.f.r 898
def Qc:=M (u1 x.l3) (u20 (u21 [E x x.a.s 877 (u11 x.f.i 840),E x x.a.u 881 (u12 229 880),E x x.a.y 889 (u13 541),E x x.f.n 897 (u13 548),E x x.a.v 899 (u13 549),E x x.a.f 900 u8]) 2)
def Jw:=k30 x x.f.q 523 551 550 528 870 878
def Le:=k10 x 551
def RV:=k11 x 551
abbrev d81:List DictEntry:=nf (ap (d75 x) [E x x.f.u 1129 (u13 726)])
def Wt:=M (u1 x.l3) (u20 (u21 (d81 x)) 37)
abbrev d82:List Value:=nf (ap (d76 x) [u12 237 0,u12 0 0,u13 559])
def V6:=M u8 (u9 (u4 (d82 x)))
def RI:=M (u1 x.l3) (u20 (u21 [E x x.a.s 912 (u11 x.f.p 903),E x x.a.t 914 (u11 x.f.u 913),E x x.a.u 916 (u12 237 915),E x x.a.y 927 (u13 567),E x x.c.b 935 (u13 574),E x x.f.v 942 (u13 581),E x x.f.w 952 (u13 588),E x x.f.x 960 (u13 595),E x x.f.y 967 (u13 602),E x x.g.a 979 (u13 609),E x x.g.b 986 (u13 616),E x x.g.c 993 (u13 623),E x x.d.b 1001 (u13 630),E x x.c.y 1010 (u13 637),E x x.g.d 1022 (u13 644),E x x.g.e 1031 (u13 651),E x x.g.f 1039 (u13 658),E x x.g.g 1047 (u13 666),E x x.g.h 1056 (u13 674),E x x.g.i 1064 (u13 681),E x x.g.j 1071 (u13 688),E x x.g.k 1079 (u13 695),E x x.g.l 1088 (u13 702),E x x.g.m 1096 (u13 709),E x x.g.n 1105 (u13 716),E x x.g.o 1113 (u13 723),E x x.a.v 1122 (u13 724)]) 27)
def KY(x:X):Obj:=M u8 (u9 (u4 [u12 239 0,u12 4 0,u13 566,u12 249 0,u12 4 0,u13 573,u12 252 0,u12 4 0,u13 580,u12 255 0,u12 4 0,u13 587,u12 261 0,u12 4 0,u13 594,u12 264 0,u12 4 0,u13 601,u12 267 0,u12 4 0,u13 608,u12 276 0,u12 4 0,u13 615,u12 279 0,u12 4 0,u13 622,u12 282 0,u12 4 0,u13 629,u12 286 0,u12 4 0,u13 636,u12 290 0,u12 4 0,u13 643,u12 294 0,u12 4 0,u13 650,u12 297 0,u12 4 0,u13 657,u12 301 0,u12 4 0,u13 665,u12 304 0,u12 4 0,u13 673,u12 307 0,u12 4 0,u13 680,u12 311 0,u12 4 0,u13 687,u12 314 0,u12 4 0,u13 694,u12 319 0,u12 4 0,u13 701,u12 330 0,u12 4 0,u13 708,u12 334 0,u12 4 0,u13 715,u12 337 0,u12 4 0,u13 722]))
def Sz:=k1 x x.f.u 907 908 909 237 557 558 910 911
def JB:=k2 x 559 556 x.f.p 903
def Kp:=k22 x x.b.a 920 x.b.e 921 x.g.p 922 x.g.q 923 x.g.r 924
def Rc:=k16 x x.a.y x.g.s (sm x 35 0) (sm x 35 0)
def Kw:=k5 x x.a.y 917 x.g.s 918 919 239 5 561 562 563 564 565 925 926
def JH:=k17 x x.a.y x.g.s (sm x 35 0) (sm x 35 0) x.f.p 903 566
def Sm:=k15 x x.b.a 931 x.g.t 932
def Pu:=k16 x x.c.b x.g.u (sm x 35 1) (sm x 35 1)
def Jh:=k5 x x.c.b 928 x.g.u 929 930 249 2 568 569 570 571 572 933 934
def NZ:=k17 x x.c.b x.g.u (sm x 35 1) (sm x 35 1) x.f.p 903 573
def Jz:=k3 x x.b.a 939
def Lh:=k16 x x.f.v x.g.v (sm x 35 2) (sm x 17 0)
def QA:=k5 x x.f.v 936 x.g.v 937 938 252 1 575 576 577 578 579 940 941
def Tg:=k17 x x.f.v x.g.v (sm x 35 2) (sm x 17 0) x.f.p 903 580
def Jt:=k23 x x.b.a 946 x.b.b 947 x.c.y 948 x.b.t 949
def MU:=k16 x x.f.w x.g.w (sm x 35 3) (sm x 35 3)
def MX:=k5 x x.f.w 943 x.g.w 944 945 255 2 582 583 584 585 586 950 951
def Kf:=k17 x x.f.w x.g.w (sm x 35 3) (sm x 35 3) x.f.p 903 587
def JN:=k15 x x.b.a 956 x.b.n 957
def LX:=k16 x x.f.x x.g.x (sm x 35 4) (sm x 35 4)
def Sj:=k5 x x.f.x 953 x.g.x 954 955 261 2 589 590 591 592 593 958 959
def Lb:=k17 x x.f.x x.g.x (sm x 35 4) (sm x 35 4) x.f.p 903 594
def OR:=k3 x x.b.a 964
def Pc:=k16 x x.f.y x.g.y (sm x 35 5) (sm x 17 7)
def MP:=k5 x x.f.y 961 x.g.y 962 963 264 1 596 597 598 599 600 965 966
def Lx:=k17 x x.f.y x.g.y (sm x 35 5) (sm x 17 7) x.f.p 903 601
def LZ:=k31 x x.b.a 971 x.b.x 972 x.h.a 973 x.h.b 974 x.h.c 975 x.h.d 976
def SJ:=k16 x x.g.a x.h.e (sm x 35 6) (sm x 35 6)
def Qa:=k5 x x.g.a 968 x.h.e 969 970 267 3 603 604 605 606 607 977 978
def Ni:=k17 x x.g.a x.h.e (sm x 35 6) (sm x 35 6) x.f.p 903 608
def P4:=k3 x x.b.a 983
def JR:=k16 x x.g.b x.h.f (sm x 35 7) (sm x 26 1)
def Lr:=k5 x x.g.b 980 x.h.f 981 982 276 1 610 611 612 613 614 984 985
def PM:=k17 x x.g.b x.h.f (sm x 35 7) (sm x 26 1) x.f.p 903 615
def Sy:=k3 x x.b.a 990
def Qw:=k16 x x.g.c x.h.g (sm x 35 8) (sm x 35 8)
def L4:=k5 x x.g.c 987 x.h.g 988 989 279 1 617 618 619 620 621 991 992
def NU:=k17 x x.g.c x.h.g (sm x 35 8) (sm x 35 8) x.f.p 903 622
def K8:=k15 x x.b.a 997 x.b.x 998
def Ke:=k16 x x.d.b x.h.h (sm x 35 9) (sm x 12 0)
def NR:=k5 x x.d.b 994 x.h.h 995 996 282 2 624 625 626 627 628 999 1000
def JM:=k17 x x.d.b x.h.h (sm x 35 9) (sm x 12 0) x.f.p 903 629
def S5:=k20 x x.b.a 1005 x.b.x 1006 x.b.t 1007
def JS:=k16 x x.c.y x.h.i (sm x 35 10) (sm x 35 10)
def My:=k5 x x.c.y 1002 x.h.i 1003 1004 286 3 631 632 633 634 635 1008 1009
def MD:=k17 x x.c.y x.h.i (sm x 35 10) (sm x 35 10) x.f.p 903 636
def SA:=k31 x x.b.a 1014 x.b.x 1015 x.b.t 1016 x.e.n 1017 x.e.o 1018 x.h.j 1019
def OH:=k16 x x.g.d x.h.k (sm x 35 11) (sm x 35 11)
def S8:=k5 x x.g.d 1011 x.h.k 1012 1013 290 5 638 639 640 641 642 1020 1021
def Ji:=k17 x x.g.d x.h.k (sm x 35 11) (sm x 35 11) x.f.p 903 643
def Lz:=k20 x x.b.a 1026 x.b.x 1027 x.c.k 1028
def Mu:=k16 x x.g.e x.h.l (sm x 35 12) (sm x 35 12)
def MO:=k5 x x.g.e 1023 x.h.l 1024 1025 294 3 645 646 647 648 649 1029 1030
def QS:=k17 x x.g.e x.h.l (sm x 35 12) (sm x 35 12) x.f.p 903 650
def ND:=k15 x x.b.a 1035 x.b.x 1036
def Te:=k16 x x.g.f x.h.m (sm x 35 13) (sm x 35 13)
def LO:=k5 x x.g.f 1032 x.h.m 1033 1034 297 2 652 653 654 655 656 1037 1038
def Sb:=k17 x x.g.f x.h.m (sm x 35 13) (sm x 35 13) x.f.p 903 657
def RJ:=k15 x x.b.a 1043 x.h.n 1044
def PN:=k16 x x.g.g x.h.o (sm x 35 14) (sm x 35 14)
def P5:=k5 x x.g.g 1040 x.h.o 1041 1042 301 2 660 661 662 663 664 1045 1046
def KW:=k29 x x.g.g x.h.o (sm x 35 14) 659 x.f.p 903 665
def NQ:=k20 x x.b.a 1051 x.b.n 1052 x.h.n 1053
def Sv:=k16 x x.g.h x.h.p (sm x 35 15) (sm x 35 15)
def Ph:=k5 x x.g.h 1048 x.h.p 1049 1050 304 3 668 669 670 671 672 1054 1055
def Tf:=k29 x x.g.h x.h.p (sm x 35 15) 667 x.f.p 903 673
def Rm:=k15 x x.b.a 1060 x.b.x 1061
def Sl:=k16 x x.g.i x.h.q (sm x 35 16) (sm x 35 16)
def NS:=k5 x x.g.i 1057 x.h.q 1058 1059 307 2 675 676 677 678 679 1062 1063
def JO:=k17 x x.g.i x.h.q (sm x 35 16) (sm x 35 16) x.f.p 903 680
def Km:=k3 x x.b.a 1068
def Se:=M u8 (u27 (u28 (f0 (sm x 35 17)) x.h.r (f1 (sm x 35 17)) (u29 (f2 (sm x 35 17))) (f6 (sm x 17 7)) 0 u30 u8 u8 u8 u8 u2 u8 u8 0))
def La:=k5 x x.g.j 1065 x.h.r 1066 1067 311 1 682 683 684 685 686 1069 1070
def Qq:=M (u1 x.l5) (u27 (u28 (f0 (sm x 35 17)) x.h.r (f1 (sm x 35 17)) (u29 (f2 (sm x 35 17))) (f6 (sm x 17 7)) 3 u30 u8 u8 u8 (u11 x.f.p 903) u2 (u13 687) u8 0))
def LQ:=k15 x x.b.a 1075 x.b.b 1076
def PK:=k16 x x.g.k x.h.s (sm x 35 18) (sm x 35 18)
def Mp:=k5 x x.g.k 1072 x.h.s 1073 1074 314 2 689 690 691 692 693 1077 1078
def O7:=k17 x x.g.k x.h.s (sm x 35 18) (sm x 35 18) x.f.p 903 694
def KC:=k20 x x.b.a 1083 x.b.b 1084 x.b.q 1085
def Mv:=k16 x x.g.l x.h.t (sm x 35 19) (sm x 35 19)
def RU:=k5 x x.g.l 1080 x.h.t 1081 1082 319 2 696 697 698 699 700 1086 1087
def Mq:=k17 x x.g.l x.h.t (sm x 35 19) (sm x 35 19) x.f.p 903 701
def Lf:=k15 x x.b.a 1092 x.h.d 1093
def P6:=k16 x x.g.m x.h.u (sm x 35 20) (sm x 35 20)
def Ja:=k5 x x.g.m 1089 x.h.u 1090 1091 330 2 703 704 705 706 707 1094 1095
def PZ:=k17 x x.g.m x.h.u (sm x 35 20) (sm x 35 20) x.f.p 903 708
def QN:=k20 x x.b.a 1100 x.c.j 1101 x.c.k 1102
def Qk:=k16 x x.g.n x.h.v (sm x 35 21) (sm x 35 21)
def RD:=k5 x x.g.n 1097 x.h.v 1098 1099 334 3 710 711 712 713 714 1103 1104
def Ot:=k17 x x.g.n x.h.v (sm x 35 21) (sm x 35 21) x.f.p 903 715
def Pd:=k15 x x.b.a 1109 x.h.n 1110
def PD:=k16 x x.g.o x.h.w (sm x 35 22) (sm x 35 14)
def K0:=k5 x x.g.o 1106 x.h.w 1107 1108 337 2 717 718 719 720 721 1111 1112
def S0:=k17 x x.g.o x.h.w (sm x 35 22) (sm x 35 14) x.f.p 903 722
def RE:=M (u1 x.l0) (u3 (u4 [u11 x.f.m 1114,u11 x.h.x 1115,u11 x.g.r 1116,u11 x.h.y 1117,u11 x.g.p 1118,u11 x.i.a 1119,u11 x.g.q 1120,u11 x.i.b 1121]) 0)
def Jg:=M (u1 x.l3) (u20 (u21 [E x x.a.s 912 (u11 x.f.p 903),E x x.a.u 916 (u12 237 915),E x x.a.y 927 (u13 567),E x x.c.b 935 (u13 574),E x x.f.v 942 (u13 581),E x x.f.w 952 (u13 588),E x x.f.x 960 (u13 595),E x x.f.y 967 (u13 602),E x x.g.a 979 (u13 609),E x x.g.b 986 (u13 616),E x x.g.c 993 (u13 623),E x x.d.b 1001 (u13 630),E x x.c.y 1010 (u13 637),E x x.g.d 1022 (u13 644),E x x.g.e 1031 (u13 651),E x x.g.f 1039 (u13 658),E x x.g.g 1047 (u13 666),E x x.g.h 1056 (u13 674),E x x.g.i 1064 (u13 681),E x x.g.j 1071 (u13 688),E x x.g.k 1079 (u13 695),E x x.g.l 1088 (u13 702),E x x.g.m 1096 (u13 709),E x x.g.n 1105 (u13 716),E x x.g.o 1113 (u13 723),E x x.a.v 1122 (u13 724),E x x.c.s 1124 (u13 727),E x x.a.w 1126 (u13 728),E x x.a.f 1127 u8]) 4)
def O9:=k24 x x.f.u 726 725 905 913
def Qy:=k25 x 1123 726
def KP:=k9 x 1125 726
def KN:=k10 x 726
def Sa:=k11 x 726
def W3:=M u8 (u9 (u4 (d82 x)))
def Wf:=M (u1 x.l3) (u20 (u21 [E x x.a.s 912 (u11 x.f.p 903),E x x.a.t 914 (u11 x.f.u 913),E x x.a.u 916 (u12 237 915),E x x.a.y 927 (u13 567),E x x.c.b 935 (u13 574),E x x.f.v 942 (u13 581),E x x.f.w 952 (u13 588),E x x.f.x 960 (u13 595),E x x.f.y 967 (u13 602),E x x.g.a 979 (u13 609),E x x.g.b 986 (u13 616),E x x.g.c 993 (u13 623),E x x.d.b 1001 (u13 630)]) 13)
def VZ(x:X):Obj:=M u8 (u9 (u4 [u12 239 0,u12 4 0,u13 566,u12 249 0,u12 4 0,u13 573,u12 252 0,u12 4 0,u13 580,u12 255 0,u12 4 0,u13 587,u12 261 0,u12 4 0,u13 594,u12 264 0,u12 4 0,u13 601,u12 267 0,u12 4 0,u13 608,u12 276 0,u12 4 0,u13 615,u12 279 0,u12 4 0,u13 622,u12 282 0,u12 4 0,u13 629,u12 286 0,u12 4 0,u13 636]))
abbrev d90:List DictEntry:=nf (ap (sz (d81 x) 0 (E x x.a.d 165 (u11 x.i.c 1138))) [E x x.i.d 1137 (u13 737),E x x.i.e 1147 (u13 744),E x x.i.f 1154 (u13 751),E x x.i.g 1163 (u13 758),E x x.i.h 1174 (u13 765),E x x.i.i 1182 (u13 772),E x x.i.j 1188 (u13 777),E x x.i.k 1197 (u13 784),E x x.i.l 1207 (u13 791),E x x.i.m 1215 (u13 798),E x x.i.n 1224 (u13 805),E x x.i.o 1237 (u13 812)])
def Vk:=M (u1 x.l3) (u20 (u21 (d90 x)) 49)
abbrev d91:List Value:=nf (ap (d82 x) [u12 339 0,u12 0 0,u13 736,u12 345 0,u12 0 0,u13 743,u12 349 0,u12 0 0,u13 750,u12 351 0,u12 0 0,u13 757,u12 354 0,u12 0 0,u13 764,u12 360 0,u12 0 0,u13 771,u12 365 0,u12 0 0,u13 776,u12 372 0,u12 0 0,u13 783,u12 377 0,u12 0 0,u13 790,u12 384 0,u12 0 0,u13 797,u12 387 0,u12 0 0,u13 804,u12 390 0,u12 0 0,u13 811])
def Vt:=M u8 (u9 (u4 (d91 x)))
def U6:=k15 x x.b.x 1133 x.h.d 1134
def V7:=k4 x x.i.d (st x 36)
def Wl:=k5 x x.i.d 1130 x.i.d 1131 1132 339 2 731 732 733 734 735 1135 1136
def VI:=k6 x x.i.d (st x 36) x.f.p 903 736
def Wz:=k15 x x.i.p 1143 x.i.q 1144
def V5:=k26 x (st x 38)
def Wi:=k5 x x.i.e 1140 x.i.e 1141 1142 345 2 738 739 740 741 742 1145 1146
def VF:=k27 x (st x 38) x.i.c 1138 743
def W7:=k3 x x.i.r 1151
def Vd:=k4 x x.i.f (st x 39)
def WS:=k5 x x.i.f 1148 x.i.f 1149 1150 349 1 745 746 747 748 749 1152 1153
def Vm:=k6 x x.i.f (st x 39) x.i.c 1138 750
def V9:=k20 x x.i.s 1158 x.i.q 1159 x.i.t 1160
def U9:=k4 x x.i.g (st x 40)
def Va:=k5 x x.i.g 1155 x.i.g 1156 1157 351 2 752 753 754 755 756 1161 1162
def U3:=k6 x x.i.g (st x 40) x.i.c 1138 757
def Wb:=k22 x x.i.s 1167 x.i.u 1168 x.i.v 1169 x.i.q 1170 x.i.t 1171
def W5:=k26 x (st x 41)
def UX:=k5 x x.i.h 1164 x.i.h 1165 1166 354 2 759 760 761 762 763 1172 1173
def WE:=k27 x (st x 41) x.i.c 1138 764
def WC:=k15 x x.i.u 1178 x.i.w 1179
def We:=k4 x x.i.i (st x 42)
def WO:=k5 x x.i.i 1175 x.i.i 1176 1177 360 1 766 767 768 769 770 1180 1181
def WY:=k6 x x.i.i (st x 42) x.i.c 1138 771
def VD:=k4 x x.i.j (st x 43)
def Vo:=k21 x x.i.j 1183 x.i.j 1184 1185 365 3 773 774 775 1186 1187
def UZ:=k6 x x.i.j (st x 43) x.i.c 1138 776
def VU:=k20 x x.i.w 1192 x.i.x 1193 x.i.y 1194
def Ve:=k4 x x.i.k (st x 44)
def Wq:=k5 x x.i.k 1189 x.i.k 1190 1191 372 3 778 779 780 781 782 1195 1196
def Wh:=k6 x x.i.k (st x 44) x.i.c 1138 783
def Vr:=k23 x x.i.w 1201 x.i.x 1202 x.j.a 1203 x.j.b 1204
def WB:=k26 x (st x 45)
def Wu:=k5 x x.i.l 1198 x.i.l 1199 1200 377 3 785 786 787 788 789 1205 1206
def Vh:=k27 x (st x 45) x.i.c 1138 790
def VJ:=k15 x x.i.w 1211 x.i.y 1212
def Vp:=k4 x x.i.m (st x 46)
def Vs:=k5 x x.i.m 1208 x.i.m 1209 1210 384 2 792 793 794 795 796 1213 1214
def Wr:=k6 x x.i.m (st x 46) x.i.c 1138 797
def Ww:=k20 x x.i.w 1219 x.j.c 1220 x.j.d 1221
def Wc:=k4 x x.i.n (st x 47)
def VA:=k5 x x.i.n 1216 x.i.n 1217 1218 387 3 799 800 801 802 803 1222 1223
def U8:=k6 x x.i.n (st x 47) x.i.c 1138 804
def WT:=k32 x x.j.e 1228 x.j.f 1229 x.j.g 1230 x.j.h 1231 x.j.c 1232 x.j.d 1233 x.j.i 1234
def W4:=k4 x x.i.o (st x 48)
def VR:=k5 x x.i.o 1225 x.i.o 1226 1227 390 2 806 807 808 809 810 1235 1236
def V8:=k6 x x.i.o (st x 48) x.i.c 1138 811
def V4:=M (u1 x.l3) (u20 (u21 ((nf (ap (d90 x) [E x x.j.j 1243 (u13 817),E x x.j.k 1253 (u13 824),E x x.j.l 1259 (u13 829),E x x.j.m 1271 (u13 836),E x x.j.n 1284 (u13 843),E x x.j.o 1296 (u13 850),E x x.j.p 1305 (u13 857),E x x.j.q 1318 (u13 864)])))) 57)
def Wo:=M u8 (u9 (u4 ((nf (ap (d91 x) [u12 401 0,u12 0 0,u13 816,u12 408 0,u12 0 0,u13 823,u12 417 0,u12 0 0,u13 828,u12 427 0,u12 0 0,u13 835,u12 433 0,u12 0 0,u13 842,u12 446 0,u12 0 0,u13 849,u12 455 0,u12 0 0,u13 856,u12 462 0,u12 0 0,u13 863])))))
def VP:=k4 x x.j.j (st x 49)
def VG:=k21 x x.j.j 1238 x.j.j 1239 1240 401 2 813 814 815 1241 1242
def WJ:=k6 x x.j.j (st x 49) x.i.c 1138 816
def WQ:=k23 x x.j.r 1247 x.j.s 1248 x.i.r 1249 x.j.t 1250
def UY:=k4 x x.j.k (st x 50)
def U0:=k5 x x.j.k 1244 x.j.k 1245 1246 408 2 818 819 820 821 822 1251 1252
def VS:=k6 x x.j.k (st x 50) x.i.c 1138 823
def Tv:=k26 x (st x 51)
def Uw:=k21 x x.j.l 1254 x.j.l 1255 1256 417 2 825 826 827 1257 1258
def Tu:=k27 x (st x 51) x.i.c 1138 828
def Ub:=k31 x x.j.r 1263 x.i.w 1264 x.j.u 1265 x.j.c 1266 x.j.v 1267 x.j.w 1268
def Uy:=k4 x x.j.m (st x 52)
def UJ:=k5 x x.j.m 1260 x.j.m 1261 1262 427 4 830 831 832 833 834 1269 1270
def TJ:=k6 x x.j.m (st x 52) x.i.c 1138 835
def Uv:=k32 x x.j.r 1275 x.i.w 1276 x.j.s 1277 x.j.x 1278 x.j.c 1279 x.i.r 1280 x.j.u 1281
def Us:=k4 x x.j.n (st x 53)
def T4:=k5 x x.j.n 1272 x.j.n 1273 1274 433 3 837 838 839 840 841 1282 1283
def UE:=k6 x x.j.n (st x 53) x.i.c 1138 842
def TZ:=k31 x x.j.r 1288 x.i.w 1289 x.i.t 1290 x.j.e 1291 x.j.u 1292 x.j.y 1293
def Ud:=k26 x (st x 54)
def Um:=k5 x x.j.o 1285 x.j.o 1286 1287 446 3 844 845 846 847 848 1294 1295
def Ux:=k27 x (st x 54) x.i.c 1138 849
def Uz:=k20 x x.i.u 1300 x.k.a 1301 x.j.t 1302
def UR:=k26 x (st x 55)
def TX:=k5 x x.j.p 1297 x.j.p 1298 1299 455 1 851 852 853 854 855 1303 1304
def UG:=k27 x (st x 55) x.i.c 1138 856
def US:=k32 x x.i.p 1309 x.i.u 1310 x.j.r 1311 x.i.w 1312 x.i.q 1313 x.i.t 1314 x.j.s 1315
def UB:=k4 x x.j.q (st x 56)
def UQ:=k5 x x.j.q 1306 x.j.q 1307 1308 462 1 858 859 860 861 862 1316 1317
def Uk:=k6 x x.j.q (st x 56) x.i.c 1138 863
def q1(x:X):Obj:=M u8 (u20 (u21 u26) 0)
abbrev tree47:X->PySem.W.BT:=λx=>nf (G Z 0 [b0,b1,b2,b3,b4,b5,b6,b7,b8,b9,b10,o43,o44,o45,o46] x)
abbrev tree70:X->PySem.W.BT:=λx=>nf (G (G (G tree47 3 [o49]) 12 [o50]) 15 [o43,o44,o53,o43,o55,o56,o57,o58,o59,o60,o43,o44,o63,o64,o43,o66,o67,o68,o69,o70] x)
abbrev tree92:X->PySem.W.BT:=λx=>nf (G (G (G (G tree70 3 [o71]) 12 [o72]) 31 [o73]) 35 [o74,o59,o76,o43,o78,o79,o80,o43,o44,o83,o43,o85,o86,o87,o88,o89,o90,o91,o92] x)
abbrev tree114:X->PySem.W.BT:=λx=>nf (G (G (G (G tree92 3 [o93]) 12 [o94]) 31 [o95]) 54 [o74,o59,o98,o43,RY,Nc,Ra,o43,o44,NH,o43,Ku,Qn,KS,JW,Tn,JV,MR,Oi] x)
abbrev tree136:X->PySem.W.BT:=λx=>nf (G (G (G (G tree114 3 [VN]) 12 [Vx]) 31 [Wx]) 73 [o74,o59,RH,o43,MJ,Jf,MG,o43,o44,KU,o43,SY,MK,Ng,Na,SV,Nj,Pj,KR] x)
abbrev tree158:X->PySem.W.BT:=λx=>nf (G (G (G (G tree136 3 [Vl]) 12 [VM]) 31 [VC]) 92 [o74,o59,Kl,o43,JY,Ox,P9,o43,o44,Qm,o43,Oh,O1,NP,Qu,JZ,Pe,Ti,QD] x)
abbrev tree180:X->PySem.W.BT:=λx=>nf (G (G (G (G tree158 3 [VL]) 12 [Wd]) 31 [W2]) 111 [o74,o59,RT,o43,NV,Oz,Lp,o43,o44,Mx,o43,Ju,Js,Lq,Oc,Mc,Ry,Lo,KL] x)
abbrev tree202:X->PySem.W.BT:=λx=>nf (G (G (G (G tree180 3 [Vv]) 12 [V0]) 31 [WK]) 130 [o74,o59,Qx,o43,K9,JL,Ln,o43,o44,Lj,o43,Jy,OT,Py,Nq,Lg,LR,NC,Np] x)
abbrev tree224:X->PySem.W.BT:=λx=>nf (G (G (G (G tree202 3 [VT]) 12 [Ws]) 31 [VE]) 149 [o74,o59,Kv,o43,OC,Rp,Jq,o43,o44,Rf,o43,NW,Oj,O5,R0,Qv,Kr,JP,PY] x)
abbrev tree246:X->PySem.W.BT:=λx=>nf (G (G (G (G tree224 3 [WA]) 12 [Wn]) 31 [Mt]) 168 [o74,o59,SN,o43,QF,Sq,OY,o43,o44,SW,o43,O6,S9,MN,Sh,NG,To,KA,Ow] x)
abbrev tree302:X->PySem.W.BT:=λx=>nf (G (G (G tree246 3 [UW]) 12 [WV]) 187 [o43,o59,RX,o43,Qt,SR,Ss,o43,o44,KH,o43,RZ,Nb,OJ,o43,o44,P8,NJ,JD,o43,o44,OI,o43,Kc,MT,Lc,o43,o44,Mg,o43,Mw,Ob,Qi,o43,o44,R8,o43,Tp,Me,L8,o43,o44,Jk,o43,LI,Rg,Rw,SI,L7,Mm,IY,QW,Ri,Ro] x)
abbrev tree311:X->PySem.W.BT:=λx=>nf (G (G (G tree302 3 [VQ]) 12 [Vn]) 241 [o43,o44,RB,o43,Sk,MB,OO] x)
abbrev tree388:X->PySem.W.BT:=λx=>nf (G (G (G tree311 3 [Vz]) 12 [WZ]) 248 [o43,o59,Mh,o43,So,MS,JT,o43,o44,S2,o43,Qo,Ma,NO,o43,o44,O2,o43,Pw,OB,QZ,o43,o44,Nt,o43,Rl,LF,O3,o43,o44,Pp,o43,OU,Qj,Qg,o43,o44,KD,o43,QH,Si,JX,o43,o44,Qd,o43,R7,Ko,NX,o43,o44,Td,o43,Oq,PU,Lu,o43,o44,PB,o43,Mz,Po,QE,o43,o44,LS,S6,SM,Qe,Ls,Ks,Nk,ML,Mn,P7] x)
abbrev tree426:X->PySem.W.BT:=λx=>nf (G (G (G tree388 3 [Vw]) 12 [Vu]) 323 [Mf,o43,o44,Jc,o43,Oe,Rh,Ou,o43,o44,RW,o43,QJ,Tc,Rz,o43,o44,Nl,o43,Nu,Kh,Jd,o43,o44,QY,o43,Mb,NB,KI,o43,o44,Og,o43,Qh,RK,Rt] x)
abbrev tree468:X->PySem.W.BT:=λx=>nf (G (G (G tree426 3 [Wa]) 12 [Vg]) 359 [o43,o59,Li,o43,OZ,Rb,ON,o43,o44,SH,Jp,Ll,o43,o44,KJ,o43,Ka,JE,QM,o43,o44,OG,o43,Qf,OA,L6,o43,o44,K6,o43,LD,Lk,Pg,O0,Jr,Vi,OQ,QT,Ql,RG] x)
abbrev tree519:X->PySem.W.BT:=λx=>nf (G (G (G (G tree468 3 [VH]) 12 [V2]) 394 [WN]) 399 [DV,o59,IZ,o43,OW,Jm,Of,sZ,o43,o44,SO,o43,Nh,Sw,Ld,o43,o44,Nv,o43,Ov,JF,Om,o43,o44,Sn,o43,Je,PL,LJ,o43,o44,OP,o43,Ru,Rq,Ml,o43,o44,Ny,o43,LK,RO,OF,o43,Jv,Qz,RN,Kg] x)
abbrev tree570:X->PySem.W.BT:=λx=>nf (G (G (G (G tree519 3 [UU]) 12 [WL]) 394 [LL]) 447 [DV,o59,Kq,o43,JA,P0,OV,sZ,o43,o44,JK,o43,OM,OE,Nn,o43,o44,SK,o43,MY,Nr,Th,o43,o44,JG,o43,Ol,L5,QG,o43,o44,SD,o43,R9,Sx,Ky,o43,o44,Jo,o43,QB,QK,Kz,Rv,JU,Rn,MM,QO] x)
abbrev tree605:X->PySem.W.BT:=λx=>nf (G (G (G tree570 3 [Vf]) 12 [WR]) 495 [o43,o44,Lm,o43,QL,QV,KG,o43,o44,Kd,OX,Nz,o43,o59,MC,o43,Jl,QU,Rx,o43,o44,SQ,o43,QI,PJ,Pq,o43,SG,WX,MZ,S7,Ms,PV] x)
abbrev tree634:X->PySem.W.BT:=λx=>nf (G (G (G (G tree605 3 [LY]) 12 [W6]) 523 [Jb]) 528 [MH,o59,S3,o43,RS,QC,ME,o43,o44,NY,o43,Sg,KO,S4,o43,o44,O4,o43,Sf,JI,Mr,Rj,Qc,Jw,Le,RV] x)
abbrev tree813:X->PySem.W.BT:=λx=>nf (G (G (G tree634 3 [Wt]) 12 [V6]) 554 [o43,o59,RI,o43,KY,Sz,JB,o43,o44,Kp,o43,Rc,Kw,JH,o43,o44,Sm,o43,Pu,Jh,NZ,o43,o44,Jz,o43,Lh,QA,Tg,o43,o44,Jt,o43,MU,MX,Kf,o43,o44,JN,o43,LX,Sj,Lb,o43,o44,OR,o43,Pc,MP,Lx,o43,o44,LZ,o43,SJ,Qa,Ni,o43,o44,P4,o43,JR,Lr,PM,o43,o44,Sy,o43,Qw,L4,NU,o43,o44,K8,o43,Ke,NR,JM,o43,o44,S5,o43,JS,My,MD,o43,o44,SA,o43,OH,S8,Ji,o43,o44,Lz,o43,Mu,MO,QS,o43,o44,ND,o43,Te,LO,Sb,sZ,o43,o44,RJ,o43,PN,P5,KW,sZ,o43,o44,NQ,o43,Sv,Ph,Tf,o43,o44,Rm,o43,Sl,NS,JO,o43,o44,Km,o43,Se,La,Qq,o43,o44,LQ,o43,PK,Mp,O7,o43,o44,KC,o43,Mv,RU,Mq,o43,o44,Lf,o43,P6,Ja,PZ,o43,o44,QN,o43,Qk,RD,Ot,o43,o44,Pd,o43,PD,K0,S0,RE,Jg,O9,Qy,KP,KN,Sa] x)
abbrev tree898:X->PySem.W.BT:=λx=>nf (G Z 0 [b0,b1,b2,LY,b4,b5,b6,b7,b8,b9,b10,o43,W3,o45,o46,o43,o44,o53,o43,o55,o56,o57,o58,o59,o60,o43,o44,o63,o64,o43,o66,Mt,o68,o69,o70,o74,o59,o76,o43,o78,o79,o80,o43,o44,o83,o43,o85,o86,o87,o88,o89,o90,o91,o92,o74,o59,o98,o43,RY,Nc,Ra,o43,o44,NH,o43,Ku,Qn,KS,JW,Tn,JV,MR,Oi,o74,o59,RH,o43,MJ,Jf,MG,o43,o44,KU,o43,SY,MK,Ng,Na,SV,Nj,Pj,KR,o74,o59,Kl,o43,JY,Ox,P9,o43,o44,Qm,o43,Oh,O1,NP,Qu,JZ,Pe,Ti,QD,o74,o59,RT,o43,NV,Oz,Lp,o43,o44,Mx,o43,Ju,Js,Lq,Oc,Mc,Ry,Lo,KL,o74,o59,Qx,o43,K9,JL,Ln,o43,o44,Lj,o43,Jy,OT,Py,Nq,Lg,LR,NC,Np,o74,o59,Kv,o43,OC,Rp,Jq,o43,o44,Rf,o43,NW,Oj,O5,R0,Qv,Kr,JP,PY,o74,o59,SN,o43,QF,Sq,OY,o43,o44,SW,o43,O6,S9,MN,Sh,NG,To,KA,Ow,o43,o59,RX,o43,Qt,SR,Ss,o43,o44,KH,o43,RZ,Nb,OJ,o43,o44,P8,NJ,JD,o43,o44,OI,o43,Kc,MT,Lc,o43,o44,Mg,o43,Mw,Ob,Qi,o43,o44,R8,o43,Tp,Me,L8,o43,o44,Jk,o43,LI,Rg,Rw,SI,L7,Mm,IY,QW,Ri,Ro,o43,o44,RB,o43,Sk,MB,OO,o43,o59,Mh,o43,So,MS,JT,o43,o44,S2,o43,Qo,Ma,NO,o43,o44,O2,o43,Pw,OB,QZ,o43,o44,Nt,o43,Rl,LF,O3,o43,o44,Pp,o43,OU,Qj,Qg,o43,o44,KD,o43,QH,Si,JX,o43,o44,Qd,o43,R7,Ko,NX,o43,o44,Td,o43,Oq,PU,Lu,o43,o44,PB,o43,Mz,Po,QE,o43,o44,LS,S6,SM,Qe,Ls,Ks,Nk,ML,Mn,P7,Mf,o43,o44,Jc,o43,Oe,Rh,Ou,o43,o44,RW,o43,QJ,Tc,Rz,o43,o44,Nl,o43,Nu,Kh,Jd,o43,o44,QY,o43,Mb,NB,KI,o43,o44,Og,o43,Qh,RK,Rt,o43,o59,Li,o43,OZ,Rb,ON,o43,o44,SH,Jp,Ll,o43,o44,KJ,o43,Ka,JE,QM,o43,o44,OG,o43,Qf,OA,L6,o43,o44,K6,o43,LD,Lk,Pg,O0,Jr,LL,OQ,QT,Ql,RG,DV,o59,IZ,o43,OW,Jm,Of,sZ,o43,o44,SO,o43,Nh,Sw,Ld,o43,o44,Nv,o43,Ov,JF,Om,o43,o44,Sn,o43,Je,PL,LJ,o43,o44,OP,o43,Ru,Rq,Ml,o43,o44,Ny,o43,LK,RO,OF,o43,Jv,Qz,RN,Kg,DV,o59,Kq,o43,JA,P0,OV,sZ,o43,o44,JK,o43,OM,OE,Nn,o43,o44,SK,o43,MY,Nr,Th,o43,o44,JG,o43,Ol,L5,QG,o43,o44,SD,o43,R9,Sx,Ky,o43,o44,Jo,o43,QB,QK,Kz,Rv,JU,Rn,MM,QO,o43,o44,Lm,o43,QL,QV,KG,o43,o44,Kd,OX,Nz,o43,o59,MC,o43,Jl,QU,Rx,o43,o44,SQ,o43,QI,PJ,Pq,o43,SG,Jb,MZ,S7,Ms,PV,MH,o59,S3,o43,RS,QC,ME,o43,o44,NY,o43,Sg,KO,S4,o43,o44,O4,o43,Sf,JI,Mr,Rj,Qc,Jw,Le,RV,o43,o59,Wf,o43,VZ,Sz,JB,o43,o44,Kp,o43,Rc,Kw,JH,o43,o44,Sm,o43,Pu,Jh,NZ,o43,o44,Jz,o43,Lh,QA,Tg,o43,o44,Jt,o43,MU,MX,Kf,o43,o44,JN,o43,LX,Sj,Lb,o43,o44,OR,o43,Pc,MP,Lx,o43,o44,LZ,o43,SJ,Qa,Ni,o43,o44,P4,o43,JR,Lr,PM,o43,o44,Sy,o43,Qw,L4,NU,o43,o44,K8,o43,Ke,NR,JM,o43,o44,S5,o43,JS,My,MD] x)
abbrev tree985:X->PySem.W.BT:=λx=>nf (G (G (G (G (G tree898 3 [Vk]) 12 [Vt]) 556 [RI]) 558 [KY]) 638 [o43,o44,SA,o43,OH,S8,Ji,o43,o44,Lz,o43,Mu,MO,QS,o43,o44,ND,o43,Te,LO,Sb,sZ,o43,o44,RJ,o43,PN,P5,KW,sZ,o43,o44,NQ,o43,Sv,Ph,Tf,o43,o44,Rm,o43,Sl,NS,JO,o43,o44,Km,o43,Se,La,Qq,o43,o44,LQ,o43,PK,Mp,O7,o43,o44,KC,o43,Mv,RU,Mq,o43,o44,Lf,o43,P6,Ja,PZ,o43,o44,QN,o43,Qk,RD,Ot,o43,o44,Pd,o43,PD,K0,S0,RE,Jg,O9,Qy,KP,KN,Sa,o43,o44,U6,o43,V7,Wl,VI,o43,o44,Wz,o43,V5,Wi,VF,o43,o44,W7,o43,Vd,WS,Vm,o43,o44,V9,o43,U9,Va,U3,o43,o44,Wb,o43,W5,UX,WE,o43,o44,WC,o43,We,WO,WY,o43,o44,VD,Vo,UZ,o43,o44,VU,o43,Ve,Wq,Wh,o43,o44,Vr,o43,WB,Wu,Vh,o43,o44,VJ,o43,Vp,Vs,Wr,o43,o44,Ww,o43,Wc,VA,U8,o43,o44,WT,o43,W4,VR,V8] x)
abbrev tree1039:X->PySem.W.BT:=λx=>nf (G (G (G tree985 3 [V4]) 12 [Wo]) 813 [o43,o44,VP,VG,WJ,o43,o44,WQ,o43,UY,U0,VS,o43,o44,Tv,Uw,Tu,o43,o44,Ub,o43,Uy,UJ,TJ,o43,o44,Uv,o43,Us,T4,UE,o43,o44,TZ,o43,Ud,Um,Ux,o43,o44,Uz,o43,UR,TX,UG,o43,o44,US,o43,UB,UQ,Uk] x)
def heap39:X->PySem.W.Frag:=λx=>nf (pj (fl ((G tree1039 2 [q1]) x)) 0 [2,3,15,17,18,20,21,22,29,30,31,32,35,42,44,45,47,48,49,50,51,54,61,63,64,66,67,68,69,70,73,80,82,83,85,86,87,88,89,92,99,101,102,104,105,106,107,108,111,118,120,121,123,124,125,126,127,130,137,139,140,142,143,144,145,146,149,156,158,159,161,162,163,164,165,168,175,177,178,180,181,182,183,184,194,196,197,199,200,201,204,205,206,208,209,211,212,213,215,216,218,219,220,222,223,225,226,227,229,230,232,233,234,235,236,237,238,241,243,244,246,247,255,257,258,260,261,262,264,265,267,268,269,271,272,274,275,276,278,279,281,282,283,285,286,288,289,290,292,293,295,296,297,299,300,302,303,304,306,307,309,310,311,314,315,316,317,318,319,320,323,324,326,327,329,330,331,333,334,336,337,338,340,341,343,344,345,347,348,350,351,352,354,355,357,358,366,369,370,371,373,374,376,377,378,380,381,383,384,385,387,388,390,391,392,393,394,395,396,399,406,407,409,410,412,413,414,416,417,419,420,421,423,424,426,427,428,430,431,433,434,435,437,438,440,441,442,443,444,447,454,455,457,458,460,461,462,464,465,467,468,469,471,472,474,475,476,478,479,481,482,483,485,486,488,489,490,491,492,495,497,498,500,501,502,505,506,514,516,517,519,520,521,522,523,524,525,528,535,537,538,540,541,542,544,545,547,548,549,550,551,561,563,564,566,567,568,570,571,573,574,575,577,578,580,581,582,584,585,587,588,589,591,592,594,595,596,598,599,601,602,603,605,606,608,609,610,612,613,615,616,617,619,620,622,623,624,626,627,629,630,631,633,634,636,637,638,640,641,643,644,645,647,648,650,651,652,654,655,657,658,659,660,662,663,665,666,667,668,670,671,673,674,675,677,678,680,681,682,684,685,687,688,689,691,692,694,695,696,698,699,701,702,703,705,706,708,709,710,712,713,715,716,717,719,720,722,723,724,725,726,727,728,731,733,734,736,737,738,740,741,743,744,745,747,748,750,751,752,754,755,757,758,759,761,762,764,765,766,768,769,771,772,773,776,777,778,780,781,783,784,785,787,788,790,791,792,794,795,797,798,799,801,802,804,805,806,808,809,811,812,813,816,817,818,820,821,823,824,825,828,829,830,832,833,835,836,837,839,840,842,843,844,846,847,849,850,851,853,854,856,857,858,860,861,863,864])
def heap46:X->Heap:=λx=>u39 (u40 (nf (fl (tree47 x)))) (u43 u44 u44 u44 0 u45 u44 u15 (u46 u44) u44 0 u15 u15 u15 0 [2000,10,10] u15 0 u31 u44 u44 0 u15)
def heap1040:X->Heap:=λx=>u39 (u40 (nf (fl (tree1039 x)))) (u43 u44 u44 u44 0 u45 u44 u15 (u46 u44) u44 0 u15 u15 u15 0 [2000,10,10] u15 0 u31 u44 u44 0 u15)
end
end Hd
namespace PySem.W.Fast
noncomputable section
noncomputable abbrev hdq{α:Type}(f:Hd.X->α):PySem.Params->α:=λP=>f (PySem.W.Fast.tw13745409909519247493,P)
theorem hdp{α:Type}(f:Hd.X->α):(λP=>f (Hd.hs,P))=hdq f:=congrArg (λσ P=>f (σ,P)) PySem.W.Fast.te13745409909519247493
def tw9237726916597230170:=hdq Hd.heap39
def te9237726916597230170:=hdp Hd.heap39
def tw321673254358094450:=hdq Hd.heap46
def te321673254358094450:=hdp Hd.heap46
def tw16138822760439604688:=hdq Hd.tree47
def te16138822760439604688:=hdp Hd.tree47
def tw17804197669130438414:=hdq Hd.tree70
def te17804197669130438414:=hdp Hd.tree70
def tw8522739332868091640:=hdq Hd.tree92
def te8522739332868091640:=hdp Hd.tree92
def tw3300128571793944963:=hdq Hd.tree114
def te3300128571793944963:=hdp Hd.tree114
def tw9272619617073625611:=hdq Hd.tree136
def te9272619617073625611:=hdp Hd.tree136
def tw16812558180138575734:=hdq Hd.tree158
def te16812558180138575734:=hdp Hd.tree158
def tw15640406576377833452:=hdq Hd.tree180
def te15640406576377833452:=hdp Hd.tree180
def tw13508704633351040572:=hdq Hd.tree202
def te13508704633351040572:=hdp Hd.tree202
def tw3448336918956615601:=hdq Hd.tree224
def te3448336918956615601:=hdp Hd.tree224
def tw2978390917379685498:=hdq Hd.tree246
def te2978390917379685498:=hdp Hd.tree246
def tw8593639715830109675:=hdq Hd.tree302
def te8593639715830109675:=hdp Hd.tree302
def tw10141572709540805153:=hdq Hd.tree311
def te10141572709540805153:=hdp Hd.tree311
def tw12390732733104889889:=hdq Hd.tree388
def te12390732733104889889:=hdp Hd.tree388
def tw3923872742558245509:=hdq Hd.tree426
def te3923872742558245509:=hdp Hd.tree426
def tw7624685535988007753:=hdq Hd.tree468
def te7624685535988007753:=hdp Hd.tree468
def tw5758767826730618718:=hdq Hd.tree519
def te5758767826730618718:=hdp Hd.tree519
def tw2269802250272584190:=hdq Hd.tree570
def te2269802250272584190:=hdp Hd.tree570
def tw1457223212542426237:=hdq Hd.tree605
def te1457223212542426237:=hdp Hd.tree605
def tw3112367917395032779:=hdq Hd.tree634
def te3112367917395032779:=hdp Hd.tree634
def tw9942167926190510914:=hdq Hd.tree813
def te9942167926190510914:=hdp Hd.tree813
def tw12096544917846916503:=hdq Hd.tree898
def te12096544917846916503:=hdp Hd.tree898
def tw12645563737203830964:=hdq Hd.tree985
def te12645563737203830964:=hdp Hd.tree985
def tw11495672648247844559:=hdq Hd.tree1039
def te11495672648247844559:=hdp Hd.tree1039
def tw16554391727684177753:=hdq Hd.heap1040
def te16554391727684177753:=hdp Hd.heap1040
end
end PySem.W.Fast
namespace Hd
noncomputable section
abbrev pw:=PySem.Challenge.pw_keepsakes_k81_kept_by_a_word
def pick(p:PySem.Program)(l:List Nat):List PySem.Stmt:=l.map λi=>p.main.body.getD i (.Pass ⟨0,0,0,0⟩)
def vw(p:PySem.Program)(l:List Nat):PySem.Program:={ p with main:={ p.main with body:=pick p l } }
end
end Hd
namespace PySem.W.Fast
open PySem Hd
noncomputable section
def tw17766345041092105077:=pick pw [27]
def te17766345041092105077:=@rfl _ tw17766345041092105077
def tw12425255948060265664:=pick pw [28]
def te12425255948060265664:=@rfl _ tw12425255948060265664
def tw8364063815485146610:=pick pw [15,16]
def te8364063815485146610:=@rfl _ tw8364063815485146610
def tw4974356525359510671:=pick pw [49,50,51,52,53,54,55,56]
def te4974356525359510671:=@rfl _ tw4974356525359510671
def tw8888201395414111383:=pick pw [26]
def te8888201395414111383:=@rfl _ tw8888201395414111383
def tw8474084975411727088:=pick pw [14]
def te8474084975411727088:=@rfl _ tw8474084975411727088
def tw12257537673362372870:=pick pw [35]
def te12257537673362372870:=@rfl _ tw12257537673362372870
def tw15254187636936581885:=pick pw [29,30,31,32]
def te15254187636936581885:=@rfl _ tw15254187636936581885
def tw13011494401047527167:=vw pw [0,1,2,4,5,6,7,8,9,10,11,12,14,15,17,20,21,23,24,26,27,28,29,30,32,33,35,36,38,39,40,41,42,43,44,45,46,47,48,49,50,51,52,53,54,55,56]
def te13011494401047527167:=@rfl _ tw13011494401047527167
def tw11293658359738782440:=pick pw [6]
def te11293658359738782440:=@rfl _ tw11293658359738782440
def tw15796799548739238698:=pick pw [10]
def te15796799548739238698:=@rfl _ tw15796799548739238698
def tw8392633324201226725:=pick pw [17]
def te8392633324201226725:=@rfl _ tw8392633324201226725
def tw2089261045466144751:=pick pw [9]
def te2089261045466144751:=@rfl _ tw2089261045466144751
def tw201098327127667011:=pick pw [7]
def te201098327127667011:=@rfl _ tw201098327127667011
def tw6044613192963565597:=pick pw [36,37,38,39,40,41,42,43,44,45,46,47,48]
def te6044613192963565597:=@rfl _ tw6044613192963565597
def tw318416102083139497:=pick pw [8]
def te318416102083139497:=@rfl _ tw318416102083139497
def tw16642565400531768131:=pick pw [0,1,2,3,4]
def te16642565400531768131:=@rfl _ tw16642565400531768131
def tw16736567714257284507:=pick pw [5]
def te16736567714257284507:=@rfl _ tw16736567714257284507
def tw7852150178569500439:=pick pw [12,13]
def te7852150178569500439:=@rfl _ tw7852150178569500439
def tw9204916020440313793:=pick pw [33,34]
def te9204916020440313793:=@rfl _ tw9204916020440313793
def tw12324845184874931790:=pick pw [11]
def te12324845184874931790:=@rfl _ tw12324845184874931790
def tw6758835787069966782:=pick pw [18,19,20,21,22,23,24,25]
def te6758835787069966782:=@rfl _ tw6758835787069966782
end
end PySem.W.Fast
local macro_rules|`(tactic|ac_rfl)=>`(tactic|first|k_is|kit_is|kernel_rfl|decide)
set_option maxRecDepth 100000 in
set_option maxHeartbeats 0 in
theorem PySem.Challenge.cw_keepsakes_k81_kept_by_a_word_holds : PySem.Challenge.rw_keepsakes_k81_kept_by_a_word.Holds := by
 w_on;o_law;k_head;(case hw=>w_witness2)
 k_fill
 refine Mine.walk (l:=PySem.Challenge.rw_keepsakes_k81_kept_by_a_word) rfl rfl (λ w h Y=>PySem.W.kIn_of Y) ?F
 case F =>
  intro w mg fa h KX G hmg
  refine' Mine.all_mk KX G hmg _ _ _ _ ⟨KX,G,_,_,_,_,_,_,_,_,_,_,_,_,_,_,_,_,_,_,_,_,_,_,_,_,_,_,_,_,_,_,_,_,_,_,_,_,_,_,_,_,_,_,_,_,_,_,_,_,_,_,_,_,_,_,_,_,_,_,_,_,_,_,_,_,_,_,_,_,_,_,_,_,_,_,_,_,_,_,_,_,_,_,_,_,_,_,_,_,_,_,_,_,_,_,_,_,_,_,_,_,_,_,_,_,_,_,_,_,_,_,_,_,_,_,_,_,_,_,_,_,_,_,_,_,_,_,_,_,_,_,_,_,_,_,_,_,_,_,_,_,_,_,_,_,_,_,_,_,_,_,_,_,_,_,_,_,_,_,_,_,_,_,_,_,_,_,_,_,_,_,_,_,_,_,_,_,_,_,_,_,_,_,_,_,_,_,_,_,_,_,_,_⟩
  all_goals first|(show L2.GF _ _ _;exact⟨_,_,by unfold L2.GA;ac_rfl,⟨⟨_,_,_,_,_,_,_,_,_,rfl,by ac_rfl,by ac_rfl⟩,by ac_rfl⟩⟩)|(show L2.MF _ _ _ _ _;exact⟨_,by unfold L2.FA;ac_rfl,by ac_rfl,_,⟨⟨_,_,_,_,_,_,_,_,_,rfl,by ac_rfl,by ac_rfl⟩,by ac_rfl⟩⟩)|(show L2.MV _ _ _ _ _;exact⟨by ac_rfl,_,⟨⟨_,_,_,_,_,_,_,_,_,rfl,by ac_rfl,by ac_rfl⟩,by ac_rfl⟩⟩)|(show L2.EC _ _;exact⟨⟨by ac_rfl,by ac_rfl,by ac_rfl,by ac_rfl,by ac_rfl,by ac_rfl,by ac_rfl⟩,by ac_rfl⟩)|(show L2.PX _ _;exact⟨⟨by ac_rfl,by ac_rfl,by ac_rfl,by ac_rfl⟩,by ac_rfl,by ac_rfl⟩)|((first|unfold L2.GA|unfold L2.GN|unfold L2.FA|unfold L2.aF|skip);ac_rfl)|skip
